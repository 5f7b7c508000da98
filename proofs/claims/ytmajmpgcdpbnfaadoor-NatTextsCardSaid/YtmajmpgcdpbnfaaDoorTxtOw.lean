/- Rows of the call's own: stored into, cut; rows of letters. -/
import Derived.Test.YtmajmpgcdpbnfaaDoorTxtOut
import Derived.Test.YtmajmpgcdpbnfaaDoorDig32
import Derived.Test.YtmajmpgcdpbnfaaDoorRefLim
import Derived.Laws.OwnMore
namespace Go.Proofs.YtmajmpgcdpbnfaaDoor
open Go.RowKit

theorem Ow.cellD {w : World} {B g n c : Nat} {xs : List Nat} (h : Ow w B (.slice (some ⟨g, 0, none⟩) n c) xs) (hn : n = xs.length) (k : Nat) (hk : k < xs.length) : w.cell? ⟨g, k, none⟩ = some (u64v (xs.getD k 0)) := by
  subst hn
  rw [h.1.cellAt k (by omega), List.getElem?_map, List.getElem?_eq_getElem hk, List.getD_eq_getElem?_getD, List.getElem?_eq_getElem hk]
  rfl
theorem Ow.frozenAt {w : World} {B g n c : Nat} {xs : List Nat} (h : Ow w B (.slice (some ⟨g, 0, none⟩) n c) xs) (hn : n = xs.length) (k : Nat) : w.frozen? ⟨g, k, none⟩ = false := by
  subst hn
  exact h.1.frozenAt k
theorem Ow.stored {w : World} {B g n c : Nat} {xs : List Nat} (h : Ow w B (.slice (some ⟨g, 0, none⟩) n c) xs) (hn : n = xs.length) (k u : Nat) (hu : u < 18446744073709551616) : Ow (w.setCell ⟨g, k, none⟩ (u64v u)) B (.slice (some ⟨g, 0, none⟩) n c) (xs.set k u) := by
  subst hn
  have h1 := (h.1.stored k (u64v u)).1
  refine ⟨?_, ?_⟩
  · rw [List.map_set, List.length_set]
    exact h1
  · intro x hx
    rcases List.mem_or_eq_of_mem_set hx with hx | rfl
    · exact h.2 x hx
    · exact hu
theorem Ow.cutTo {w : World} {B g n c : Nat} {xs : List Nat} (h : Ow w B (.slice (some ⟨g, 0, none⟩) n c) xs) (hn : n = xs.length) (k : Nat) (hk : k ≤ n) : Ow w B (.slice (some ⟨g, 0, none⟩) k c) (xs.take k) := by
  subst hn
  obtain ⟨⟨hl, h2⟩, hf⟩ := h
  have hlen : (xs.take k).length = k := by rw [List.length_take]; omega
  refine ⟨⟨by rw [List.length_map]; omega, .inr ?_⟩, fit_take hf k⟩
  rcases h2 with ⟨e, h0⟩ | ⟨g', cap, cur, e, hb, hh, hn, hc, hs, ht⟩
  · cases e
  · simp only [Value.slice.injEq, Option.some.injEq, Addr.mk.injEq, and_true, true_and] at e
    obtain ⟨rfl, rfl⟩ := e
    refine ⟨g, c, cur, by rw [hlen], hb, hh, by omega, hc, hs, ?_⟩
    rw [hlen, List.map_take, ← ht, List.take_take, Nat.mul_one, Nat.mul_one, Nat.min_eq_left hk]
theorem Ow.posAddr {w : World} {B : Nat} {v : Value} {xs : List Nat} (h : Ow w B v xs) (h0 : 0 < xs.length) : ∃ g c, v = .slice (some ⟨g, 0, none⟩) xs.length c ∧ B ≤ g ∧ g < w.heap.size ∧ xs.length ≤ c ∧ c ≤ 9223372036854775807 := by
  obtain ⟨⟨hl, h2⟩, hf⟩ := h
  rcases h2 with ⟨rfl, e⟩ | ⟨g, cap, cur, rfl, hb, hh, hn, hc, hs, ht⟩
  · omega
  · exact ⟨g, cap, rfl, hb, (Array.getElem?_eq_some_iff.1 hh).1, hn, by unfold maxLen at hc; omega⟩

/-- The slice value v owns the letters L, in blocks from B on. -/
def OwB (w : World) (B : Nat) (v : Value) (L : List UInt8) : Prop := w.ownsRow B 5 1 v L.length (L.map u8v)
theorem OwB.nil (w : World) (B : Nat) : OwB w B (.slice none 0 0) [] := World.ownsRow_nil _ _ _ _
theorem OwB.lit (w : World) (B : Nat) (L : List UInt8) (hB : B ≤ w.heap.size) (hL : L.length ≤ 4096) : OwB (w.alloc (.cells (L.map u8v).toArray 5)) B (.slice (some ⟨w.heap.size, 0, none⟩) L.length L.length) L := by
  have h := World.ownsRow_lit (base := B) (e := 5) (size := 1) w (L.map u8v).toArray L.length hB (by unfold maxLen; omega) (by simp)
  simpa [OwB] using h
theorem OwB.str {w : World} {B g n c : Nat} {L : List UInt8} (h : OwB w B (.slice (some ⟨g, 0, none⟩) n c) L) (hn : n = L.length) : (convert 35 9 (.slice (some ⟨g, 0, none⟩) n c)).run Tryd.prog w = .ok (.string ⟨L.toArray⟩) w := by
  subst hn
  have key := run_convert_bytes_arg (P := Tryd.prog) w 35 5 Tryd.underlying35 Tryd.underlying5 g 0 L.length c (L.map fun b => (b.toNat : Int)) (by simp) (fun i hi => by
    rw [Nat.zero_add, h.cellAt i (by omega)]
    simp [List.getD_eq_getElem?_getD, hi]) 9 Tryd.underlying9
  rw [key]
  congr 2
  unfold strOfNums
  have e : ((fun n : Int => UInt8.ofNat n.toNat) ∘ fun b : UInt8 => (b.toNat : Int)) = id := by funext b; simp
  rw [List.map_map, e, List.map_id]
end Go.Proofs.YtmajmpgcdpbnfaaDoor

/- Letters made, turned into a string; the blocks of a number. -/
import Derived.Test.YtmajmpgcdpbnfaaDoorTxtParse
import Derived.Test.YtmajmpgcdpbnfaaDoorRefOw
import Derived.Laws.BytesArg
namespace Go.Proofs.YtmajmpgcdpbnfaaDoor
open Go.RowKit

theorem Ow.grown {w w' : World} {B : Nat} {v : Value} {xs : List Nat} {g' : Nat} (h : Ow w B v xs) (hg : w.grownBy w' (some g')) (hne : g' < B) : Ow w' B v xs := by
  obtain ⟨⟨hl, h2⟩, hf⟩ := h
  refine ⟨⟨hl, ?_⟩, hf⟩
  rcases h2 with ⟨e, h0⟩ | ⟨g, cap, cur, e, hb, hh, r⟩
  · exact .inl ⟨e, h0⟩
  · exact .inr ⟨g, cap, cur, e, hb, (hg.block g (Array.getElem?_eq_some_iff.1 hh).1 (fun e => by injection e; omega)).trans hh, r⟩

theorem infoB : (Tryd.prog.info? 5).map (fun i => (i.zero, i.size, i.bytes)) = some (some (.int .u8 0), 1, 1) := by kernel_rfl

theorem wpList_make_bytes {ops : Array Oper} {rest : List Oper} {o : Oper} {a : Act} {Q : Exit → Act → World → Prop} (w : World)
    (hg : o.guard = none) (l c : Operand) (hop : o.op = Op.makeSlice 35 l c) (kl kc : IntKind) (L C : Int) (n : Nat) (hl : a.eval l = .int kl L) (hc : a.eval c = .int kc C) (hL : L = (n : Int)) (hC : C = (n : Int)) (hn : n ≤ 35184372088832)
    (hK : ∀ w', BBlk w' w.heap.size (List.replicate n 0) → Below w.heap.size w w' → wpList Tryd.prog ops Q rest (a.put o.dst (.slice (some ⟨w.heap.size, 0, none⟩) n n)) w') :
    wpList Tryd.prog ops Q (o :: rest) a w := by
  obtain ⟨i0, hi, hz0, hz1, hz2⟩ := info_parts infoB
  refine wpList_make_full w hg l c 35 hop w.heap.size 5 i0 _ 1 Tryd.underlying35 hi hz0 hz1 kl kc L C n hl hc hL hC (by rw [hz2]; omega) (by unfold maxLen; omega) (Nat.le_refl _) ?_
  intro w' ho hgr
  have hbel : Below w.heap.size w w' := (Below.refl _ _).grown hgr (Nat.le_refl _) (fun k e => by cases e)
  refine hK w' ?_ hbel
  obtain ⟨h1, ⟨h2, _⟩ | ⟨g, cap, cur, hv, hb, hh, hn1, hn2, hs, ht⟩⟩ := ho
  · cases h2
  · simp only [Value.slice.injEq, Option.some.injEq, Addr.mk.injEq, and_true, true_and] at hv
    obtain ⟨rfl, rfl⟩ := hv
    have e1 : cur.toList = (List.replicate n (0 : UInt8)).map u8v := by
      rw [List.take_of_length_le (by simp [hs])] at ht
      rw [ht, show (Value.int IntKind.u8 0).cells = #[Value.int IntKind.u8 0] from rfl, toList_madeCells_one]
      simp
    unfold BBlk
    rw [hh]
    congr 2
    rw [← e1]

theorem BBlk.str {w : World} {g : Nat} {L : List UInt8} (h : BBlk w g L) (c : Nat) : (convert 35 9 (.slice (some ⟨g, 0, none⟩) L.length c)).run Tryd.prog w = .ok (.string ⟨L.toArray⟩) w := by
  have key := run_convert_bytes_arg (P := Tryd.prog) w 35 5 Tryd.underlying35 Tryd.underlying5 g 0 L.length c (L.map fun b => (b.toNat : Int)) (by simp) (fun i hi => by
    rw [Nat.zero_add, h.cell i hi]
    simp [List.getD_eq_getElem?_getD, hi]) 9 Tryd.underlying9
  rw [key]
  congr 2
  unfold strOfNums
  have e : ((fun n : Int => UInt8.ofNat n.toNat) ∘ fun b : UInt8 => (b.toNat : Int)) = id := by funext b; simp
  rw [List.map_map, e, List.map_id]

/-- The blocks of nineteen decimal digits of a number, the lowest first. -/
def uL (V j : Nat) : List Nat := (List.range j).map fun i => V / 10000000000000000000 ^ i % 10000000000000000000
theorem uL_length (V j : Nat) : (uL V j).length = j := by simp [uL]
theorem uL_succ (V j : Nat) : uL V (j + 1) = uL V j ++ [V / 10000000000000000000 ^ j % 10000000000000000000] := by simp [uL, List.range_succ]
theorem uL_get (V j i : Nat) (hi : i < j) : (uL V j).getD i 0 = V / 10000000000000000000 ^ i % 10000000000000000000 := by
  rw [List.getD_eq_getElem?_getD, List.getElem?_eq_getElem (by rw [uL_length]; exact hi)]
  simp [uL]
theorem unit_pow (i : Nat) : 10000000000000000000 ^ i = 10 ^ (19 * i) := by rw [Nat.pow_mul]
theorem ten19 : (10 : Nat) ^ 19 = 10000000000000000000 := by decide
theorem decN_mod' (k U X : Nat) (h : 10 ^ k = U) : decN k (X % U) = decN k X := by rw [← h]; exact decN_mod k X
theorem block_split (k i V U : Nat) (h : 10 ^ k = U) : decN k (V / 10 ^ (k * i) % U) ++ decN (k * i) V = decN (k * (i + 1)) V := by
  rw [decN_mod' k U _ h, show k * (i + 1) = k + k * i by rw [Nat.mul_succ, Nat.add_comm], decN_add]
theorem block_digits (V i : Nat) : decN 19 (V / 10000000000000000000 ^ i % 10000000000000000000) ++ decN (19 * i) V = decN (19 * (i + 1)) V := by
  rw [unit_pow]
  exact block_split 19 i V _ ten19
theorem blocks_le (V j p : Nat) (hV : V < 18446744073709551616 ^ p) (hj : j = 0 ∨ 10000000000000000000 ^ (j - 1) ≤ V) : j ≤ 2 * p := by
  rcases Nat.lt_or_ge (2 * p) j with h | h
  · rcases hj with rfl | hj
    · omega
    · exfalso
      have h1 : 18446744073709551616 ^ p ≤ 10000000000000000000 ^ (2 * p) := by
        rw [Nat.pow_mul]
        exact Nat.pow_le_pow_left (by decide) p
      have h2 : 10000000000000000000 ^ (2 * p) ≤ 10000000000000000000 ^ (j - 1) := Nat.pow_le_pow_right (by decide) (by omega)
      omega
  · exact h
end Go.Proofs.YtmajmpgcdpbnfaaDoor

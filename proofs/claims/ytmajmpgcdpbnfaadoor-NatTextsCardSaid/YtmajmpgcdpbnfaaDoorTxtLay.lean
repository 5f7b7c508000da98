/- Blocks of letters; nat.layBlock, by its contract. -/
import Derived.Test.YtmajmpgcdpbnfaaDoorTxtIs
import Derived.Deep.RegionHeld3
namespace Go.Proofs.YtmajmpgcdpbnfaaDoor
open Go.RowKit

abbrev u8v (b : UInt8) : Value := .int .u8 (b.toNat : Int)
/-- Block g holds just the letters L. -/
def BBlk (w : World) (g : Nat) (L : List UInt8) : Prop := w.heap[g]? = some (.cells (L.map u8v).toArray 5 (0, 0))
theorem BBlk.lt {w : World} {g : Nat} {L : List UInt8} (h : BBlk w g L) : g < w.heap.size := by
  rcases Nat.lt_or_ge g w.heap.size with hlt | hge
  · exact hlt
  · rw [BBlk, Array.getElem?_eq_none hge] at h; cases h
theorem BBlk.cell {w : World} {g : Nat} {L : List UInt8} (h : BBlk w g L) (i : Nat) (hi : i < L.length) : w.cell? ⟨g, i, none⟩ = some (u8v L[i]) := by
  rw [cell_of_row w g i _ _ (0, 0) h]
  simp [hi]
theorem BBlk.frozen {w : World} {g : Nat} {L : List UInt8} (h : BBlk w g L) (i : Nat) : w.frozen? ⟨g, i, none⟩ = false := by
  unfold BBlk at h
  simp [World.frozen?, h]
theorem BBlk.below {w w' : World} {g : Nat} {L : List UInt8} (h : BBlk w g L) (hb : Below w.heap.size w w') : BBlk w' g L := (hb.block g h.lt).trans h
theorem BBlk.grown {w w' : World} {g g' : Nat} {L : List UInt8} (h : BBlk w g L) (hb : w.grownBy w' (some g')) (hne : g ≠ g') : BBlk w' g L := (hb.block g h.lt (fun e => hne (by injection e))).trans h
theorem BBlk.set_ {w : World} {g : Nat} {L : List UInt8} (h : BBlk w g L) (i : Nat) (b : UInt8) : BBlk (w.setCell ⟨g, i, none⟩ (u8v b)) g (L.set i b) := by
  unfold BBlk at h ⊢
  simp [World.setCell, Array.getElem?_modify, h]

/-- The letters when those from j on of n have been laid. -/
def layL (L : List UInt8) (o n v j : Nat) : List UInt8 := L.take (o + j) ++ decN (n - j) v ++ L.drop (o + n)
theorem layL_length (L : List UInt8) (o n v j : Nat) (h : o + n ≤ L.length) (hj : j ≤ n) : (layL L o n v j).length = L.length := by
  simp [layL, decN_length]; omega
theorem layL_start (L : List UInt8) (o n v : Nat) : layL L o n v n = L := by
  unfold layL
  rw [Nat.sub_self, decN, List.append_nil, List.take_append_drop]
theorem layL_step (L : List UInt8) (o n v j : Nat) (h : o + n ≤ L.length) (hj : j < n) : (layL L o n v (j + 1)).set (o + j) (UInt8.ofNat (48 + v / 10 ^ (n - (j + 1)) % 10)) = layL L o n v j := by
  unfold layL
  have e : n - j = 1 + (n - (j + 1)) := by omega
  rw [e, decN_add]
  have e1 : decN 1 (v / 10 ^ (n - (j + 1))) = [UInt8.ofNat (48 + v / 10 ^ (n - (j + 1)) % 10)] := by simp [decN]
  rw [e1, List.set_append_left _ _ (by simp [decN_length]; omega), List.set_append_left _ _ (by simp; omega)]
  have e2 : L.take (o + (j + 1)) = L.take (o + j) ++ [L[o + j]'(by omega)] := by rw [← Nat.add_assoc, List.take_succ_eq_append_getElem]
  rw [e2, List.set_append_right _ _ (by simp; omega)]
  have e3 : o + j - (L.take (o + j)).length = 0 := by simp; omega
  rw [e3]
  simp

set_option maxHeartbeats 1000000 in
theorem layBlock_any (g o n c : Nat) (L : List UInt8) (v : Nat) (w : World) (hB : BBlk w g L) (hn : o + n ≤ L.length) (hmax : n ≤ 9223372036854775807) (hv : v < 18446744073709551616) :
    Calls Tryd.prog 17 #[.slice (some ⟨g, o, none⟩) n c, .int .u64 (v : Int)] w fun e w' => e = .returned (.tuple #[]) ∧ BBlk w' g (layL L o n v 0) ∧ w.grownBy w' (some g) := by
  have hgl := hB.lt
  have hB0 := hB
  rw [← layL_start L o n v] at hB0
  have HB := Lib.hid hB0
  clear hB hB0
  go_enter Tryd.func17, Tryd.ntmps17
  go_wp2_with fail
  go_loopw [4, 1] (fun i bl wr => ∃ j B : Nat, j ≤ n ∧ i = .int .i64 ((j : Int) - 1) ∧ bl = .int .u64 (B : Int) ∧ B = v / 10 ^ (n - j) ∧ BBlk wr g (layL L o n v j) ∧ w.grownBy wr (some g)) (fun i _ _ => (intOf i + 1).toNat)
  case atStart => exact ⟨n, v, Nat.le_refl _, rfl, rfl, by rw [Nat.sub_self, Nat.pow_zero, Nat.div_one], HB.out, World.grownBy.refl w _⟩
  case round =>
    obtain ⟨j, B, hj, rfl, rfl, hBv, hb, hg⟩ := hrel
    clear HB
    by_cases hj0 : 0 < j
    · obtain ⟨i, rfl⟩ : ∃ i, j = i + 1 := ⟨j - 1, by omega⟩
      have hii : (((i + 1 : Nat) : Int) - 1) = (i : Int) := by omega
      rw [hii]
      have hlen := layL_length L o n v (i + 1) hn hj
      have hc := hb.cell (o + i) (by rw [hlen]; omega)
      have hf := hb.frozen (o + i)
      have hset := hb.set_ (o + i) (UInt8.ofNat (48 + v / 10 ^ (n - (i + 1)) % 10))
      rw [layL_step L o n v i hn (by omega), ← hBv] at hset
      obtain ⟨d, hd⟩ : ∃ d, d = B % 10 := ⟨_, rfl⟩
      have hd10 : d < 10 := by rw [hd]; exact Nat.mod_lt _ (by decide)
      rw [← hd] at hset
      unfold u8v at hset
      rw [dig_toNat d hd10] at hset
      have hBb : B < 18446744073709551616 := by rw [hBv]; exact Nat.lt_of_le_of_lt (Nat.div_le_self _ _) hv
      have e1 : (B : Int) % 10 = (d : Int) := by omega
      have e2 : IntKind.u64.wrap (48 + (d : Int)) = ((48 + d : Nat) : Int) := by rw [IntKind.wrap_u64]; omega
      have e3 : IntKind.u8.wrap ((48 + d : Nat) : Int) = ((48 + d : Nat) : Int) := by rw [IntKind.wrap_u8]; omega
      have hB2 : B / 10 = v / 10 ^ (n - i) := by rw [hBv, Nat.div_div_eq_div_mul, ← Nat.pow_succ]; congr 2; omega
      obtain ⟨B2, hB2'⟩ : ∃ B2, B2 = B / 10 := ⟨_, rfl⟩
      have e4 : (B : Int) / 10 = (B2 : Int) := by omega
      rw [← hB2'] at hB2
      have i1 : (0 : Int) ≤ (i : Int) := by omega
      have i2 : (i : Int) < (n : Int) := by omega
      have HSET := Lib.hid hset
      have HB2 := Lib.hid hB2
      have HG := Lib.hid hg
      generalize (layL L o n v (i + 1))[o + i]'_ = old at hc
      clear hset hB2 hB2' hd hBv hb hg hlen hii hj0
      go_wp2_with fail
      go_roundw
      case rel => exact ⟨i, B2, by omega, rfl, rfl, HB2.out, HSET.out, grown_setCell HG.out (.inl rfl) _⟩
      case measure => simp [intOf]
    · obtain rfl : j = 0 := by omega
      go_wp2_with fail
      exact bodyPost_end (results_none rfl _ _ _) rfl ⟨rfl, hb, hg⟩
end Go.Proofs.YtmajmpgcdpbnfaaDoor

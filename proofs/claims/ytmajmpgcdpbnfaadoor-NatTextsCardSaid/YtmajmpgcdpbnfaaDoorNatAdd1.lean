/- nat.addTimes, by its contract: what stands in z's limbs afterwards, and what passes over the end. Conditions: z is memory of the call's own, apart from y, and as long as y or longer. -/
import Derived.Test.YtmajmpgcdpbnfaaDoorNatBits
namespace Go.Proofs.YtmajmpgcdpbnfaaDoor
open Go.RowKit

/-- What stands at z[0..k] after k limbs. -/
def addT (zs ys : List Nat) (m k : Nat) : Nat := val (zs.take k) + m * val (ys.take k)

theorem addT_zero (zs ys : List Nat) (m : Nat) : addT zs ys m 0 = 0 := by simp [addT, val]
theorem val_take_getD (xs : List Nat) (k : Nat) : val (xs.take (k + 1)) = val (xs.take k) + 18446744073709551616 ^ k * xs.getD k 0 := by
  rw [List.getD_eq_getElem?_getD]
  by_cases h : k < xs.length
  · rw [val_take_succ xs k h, List.getElem?_eq_getElem h]; rfl
  · rw [List.take_of_length_le (by omega), List.take_of_length_le (by omega), List.getElem?_eq_none (by omega)]; simp
theorem addT_succ (zs ys : List Nat) (m k : Nat) : addT zs ys m (k + 1) = addT zs ys m k + 18446744073709551616 ^ k * (zs.getD k 0 + ys.getD k 0 * m) := by
  unfold addT
  rw [val_take_getD, val_take_getD]
  grind
theorem addT_carry (zs ys : List Nat) (m k : Nat) : addT zs ys m (k + 1) / 18446744073709551616 ^ k = zs.getD k 0 + ys.getD k 0 * m + addT zs ys m k / 18446744073709551616 ^ k := by
  rw [addT_succ, Nat.add_mul_div_left _ _ (Nat.pow_pos (by decide))]
  omega
theorem addT_limb (zs ys : List Nat) (m k : Nat) : dig (k + 1) (addT zs ys m (k + 1)) = dig k (addT zs ys m k) ++ [(zs.getD k 0 + ys.getD k 0 * m + addT zs ys m k / 18446744073709551616 ^ k) % 18446744073709551616] := by
  rw [dig_snoc, addT_carry, addT_succ, dig_add_mul]
theorem addT_next (zs ys : List Nat) (m k : Nat) : addT zs ys m (k + 1) / 18446744073709551616 ^ (k + 1) = (zs.getD k 0 + ys.getD k 0 * m + addT zs ys m k / 18446744073709551616 ^ k) / 18446744073709551616 := by
  rw [Nat.pow_succ, ← Nat.div_div_eq_div_mul, addT_carry]
theorem addT_carry_lt (zs ys : List Nat) (m k : Nat) (hz : Fit zs) (hy : Fit ys) (hm : m < 18446744073709551616) : addT zs ys m k / 18446744073709551616 ^ k < 18446744073709551616 := by
  induction k with
  | zero => simp [addT_zero]
  | succ k ih => rw [addT_next]; exact add_step_lt _ _ _ _ (fit_getD hy k) hm ih (fit_getD hz k)

/-- The limbs of the block when k of z's have been turned. -/
def mid (L : List Nat) (o k : Nat) (new : List Nat) : List Nat := L.take o ++ new ++ L.drop (o + k)
theorem mid_zero (L : List Nat) (o : Nat) : mid L o 0 [] = L := by simp [mid]
theorem mid_length (L : List Nat) (o k : Nat) (new : List Nat) (h : o + k ≤ L.length) (hn : new.length = k) : (mid L o k new).length = L.length := by simp [mid, hn]; omega
theorem mid_get? (L : List Nat) (o k : Nat) (new : List Nat) (h : o + k < L.length) (hn : new.length = k) : (mid L o k new)[o + k]? = L[o + k]? := by
  unfold mid
  rw [List.getElem?_append_right (by simp [hn]; omega), List.getElem?_drop]
  congr 1
  simp [hn]; omega
theorem mid_set (L : List Nat) (o k : Nat) (new : List Nat) (u : Nat) (h : o + k < L.length) (hn : new.length = k) : (mid L o k new).set (o + k) u = mid L o (k + 1) (new ++ [u]) := by
  unfold mid
  rw [List.set_append_right _ _ (by simp [hn]; omega)]
  have e1 : o + k - (L.take o ++ new).length = 0 := by simp [hn]; omega
  rw [e1, List.drop_eq_getElem_cons h]
  simp [List.append_assoc, Nat.add_assoc]

/-- The relation of addTimes' loops. -/
def AddInv (w : World) (g o : Nat) (L ys : List Nat) (m bm bc k : Nat) (wr : World) : Prop :=
  Blk wr g (mid L o k (dig k (addT (L.drop o) ys m k))) ∧ Blk wr bm [m] ∧ Blk wr bc [addT (L.drop o) ys m k / 18446744073709551616 ^ k] ∧ w.grownBy wr (some g)

theorem blk_one (w : World) (x : Nat) (hx : x < 18446744073709551616) : Blk (w.alloc (.cells #[u64v x] 32)) w.heap.size [x] := ⟨heap_alloc_new w _, fit_cons hx fit_nil⟩

theorem addInv_start (w : World) (g o : Nat) (L ys : List Nat) (m : Nat) (hm : m < 18446744073709551616) (hB : Blk w g L) :
    AddInv w g o L ys m w.heap.size (w.heap.size + 1) 0 ((w.alloc (.cells #[u64v m] 32)).alloc (.cells #[u64v 0] 32)) := by
  refine ⟨?_, ?_, ?_, ?_⟩
  · rw [addT_zero, show dig 0 0 = [] from rfl, mid_zero]
    exact (hB.alloc _).alloc _
  · exact (blk_one w m hm).alloc _
  · rw [addT_zero]
    have := blk_one (w.alloc (.cells #[u64v m] 32)) 0 (by decide)
    simpa using this
  · exact (grown_alloc (grown_alloc (World.grownBy.refl w _) _) _)

theorem addInv_step {w : World} {g o : Nat} {L ys : List Nat} {m bm bc k : Nat} {wr : World} (h : AddInv w g o L ys m bm bc k wr) (hk : o + k < L.length) (hL : Fit L) (hy : Fit ys) (hm : m < 18446744073709551616)
    (hgm : g ≠ bm) (hgc : g ≠ bc) (hmc : bm ≠ bc) (hbc : w.heap.size ≤ bc) :
    AddInv w g o L ys m bm bc (k + 1)
      ((wr.setCell ⟨bc, 0, none⟩ (u64v ((L.getD (o + k) 0 + ys.getD k 0 * m + addT (L.drop o) ys m k / 18446744073709551616 ^ k) / 18446744073709551616))).setCell ⟨g, o + k, none⟩
        (u64v ((L.getD (o + k) 0 + ys.getD k 0 * m + addT (L.drop o) ys m k / 18446744073709551616 ^ k) % 18446744073709551616))) := by
  obtain ⟨h1, h2, h3, h4⟩ := h
  have ed : (L.drop o).getD k 0 = L.getD (o + k) 0 := by simp [List.getD_eq_getElem?_getD]
  have hcl : addT (L.drop o) ys m (k + 1) / 18446744073709551616 ^ (k + 1) < 18446744073709551616 := addT_carry_lt _ _ _ _ (fit_drop hL o) hy hm
  refine ⟨?_, ?_, ?_, ?_⟩
  · have := (h1.far (p := ⟨bc, 0, none⟩) hgc (u64v ((L.getD (o + k) 0 + ys.getD k 0 * m + addT (L.drop o) ys m k / 18446744073709551616 ^ k) / 18446744073709551616))).set_ (o + k) ((L.getD (o + k) 0 + ys.getD k 0 * m + addT (L.drop o) ys m k / 18446744073709551616 ^ k) % 18446744073709551616) (Nat.mod_lt _ (by decide))
    rw [mid_set _ _ _ _ _ hk (dig_length _ _)] at this
    rw [addT_limb, ed]
    exact this
  · exact (h2.far (p := ⟨bc, 0, none⟩) hmc _).far (p := ⟨g, o + k, none⟩) (Ne.symm hgm) _
  · rw [addT_next, ed] at hcl ⊢
    exact (h3.set_ 0 _ hcl).far (p := ⟨g, o + k, none⟩) (Ne.symm hgc) _
  · exact grown_setCell (grown_setCell h4 (.inr hbc) _) (.inl rfl) _

end Go.Proofs.YtmajmpgcdpbnfaaDoor

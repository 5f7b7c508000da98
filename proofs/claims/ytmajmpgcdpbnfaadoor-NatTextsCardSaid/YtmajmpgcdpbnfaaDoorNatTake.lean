/- nat.takeTimes, by its contract: what is left in z's limbs, and what z's end is short of. Conditions: z is memory of the call's own, apart from y, and as long as y or longer. -/
import Derived.Test.YtmajmpgcdpbnfaaDoorNatAdd2
namespace Go.Proofs.YtmajmpgcdpbnfaaDoor
open Go.RowKit

/-- What must still be taken after k limbs. -/
def tkC (zs ys : List Nat) (m : Nat) : Nat → Nat
  | 0 => 0
  | k + 1 => tkCarry (ys.getD k 0) m (tkC zs ys m k) (zs.getD k 0)
/-- The limbs that are left. -/
def tkL (zs ys : List Nat) (m : Nat) : Nat → List Nat
  | 0 => []
  | k + 1 => tkL zs ys m k ++ [tkLimb (ys.getD k 0) m (tkC zs ys m k) (zs.getD k 0)]
theorem tkL_length (zs ys : List Nat) (m k : Nat) : (tkL zs ys m k).length = k := by
  induction k with
  | zero => rfl
  | succ k ih => simp [tkL, ih]
theorem fit_tkL (zs ys : List Nat) (m k : Nat) : Fit (tkL zs ys m k) := by
  induction k with
  | zero => exact fit_nil
  | succ k ih => exact fit_append ih (fit_cons (tk_limb_lt _ _ _ _) fit_nil)
theorem tkC_lt (zs ys : List Nat) (m k : Nat) (hy : Fit ys) (hm : m < 18446744073709551616) : tkC zs ys m k < 18446744073709551616 := by
  induction k with
  | zero => show (0 : Nat) < _; decide
  | succ k ih => exact tk_carry_lt _ _ _ _ (fit_getD hy k) hm ih
theorem tk_all (zs ys : List Nat) (m k : Nat) (hz : Fit zs) : val (zs.take k) + 18446744073709551616 ^ k * tkC zs ys m k = val (tkL zs ys m k) + m * val (ys.take k) := by
  induction k with
  | zero => simp [tkC, tkL, val]
  | succ k ih =>
    have hs := tk_spec (ys.getD k 0) m (tkC zs ys m k) (zs.getD k 0) (fit_getD hz k)
    rw [val_take_getD, val_take_getD, tkL, val_append, tkL_length, val_cons, val_nil, tkC]
    generalize zs.getD k 0 = h at *
    generalize ys.getD k 0 = l at *
    generalize tkCarry l m (tkC zs ys m k) h = c' at *
    generalize tkLimb l m (tkC zs ys m k) h = d at *
    generalize tkC zs ys m k = c at *
    generalize val (tkL zs ys m k) = V at *
    generalize val (zs.take k) = Z at *
    generalize val (ys.take k) = Y at *
    rw [Nat.pow_succ]
    generalize 18446744073709551616 ^ k = p at *
    have e1 : p * (h + 18446744073709551616 * c') = p * (d + (l * m + c)) := by rw [hs]
    grind

/-- The relation of takeTimes' loops. -/
def TakeInv (w : World) (g o : Nat) (L ys : List Nat) (m bm bc k : Nat) (wr : World) : Prop :=
  Blk wr g (mid L o k (tkL (L.drop o) ys m k)) ∧ Blk wr bm [m] ∧ Blk wr bc [tkC (L.drop o) ys m k] ∧ w.grownBy wr (some g)

theorem takeInv_start (w : World) (g o : Nat) (L ys : List Nat) (m : Nat) (hm : m < 18446744073709551616) (hB : Blk w g L) :
    TakeInv w g o L ys m w.heap.size (w.heap.size + 1) 0 ((w.alloc (.cells #[u64v m] 32)).alloc (.cells #[u64v 0] 32)) := by
  refine ⟨?_, ?_, ?_, ?_⟩
  · rw [show tkL (L.drop o) ys m 0 = [] from rfl, mid_zero]
    exact (hB.alloc _).alloc _
  · exact (blk_one w m hm).alloc _
  · rw [show tkC (L.drop o) ys m 0 = 0 from rfl]
    have := blk_one (w.alloc (.cells #[u64v m] 32)) 0 (by decide)
    simpa using this
  · exact (grown_alloc (grown_alloc (World.grownBy.refl w _) _) _)

theorem takeInv_step {w : World} {g o : Nat} {L ys : List Nat} {m bm bc k : Nat} {wr : World} (h : TakeInv w g o L ys m bm bc k wr) (hk : o + k < L.length) (hy : Fit ys) (hm : m < 18446744073709551616)
    (hgm : g ≠ bm) (hgc : g ≠ bc) (hmc : bm ≠ bc) (hbc : w.heap.size ≤ bc) :
    TakeInv w g o L ys m bm bc (k + 1)
      ((wr.setCell ⟨bc, 0, none⟩ (u64v (tkCarry (ys.getD k 0) m (tkC (L.drop o) ys m k) (L.getD (o + k) 0)))).setCell ⟨g, o + k, none⟩
        (u64v (tkLimb (ys.getD k 0) m (tkC (L.drop o) ys m k) (L.getD (o + k) 0)))) := by
  obtain ⟨h1, h2, h3, h4⟩ := h
  have ed : (L.drop o).getD k 0 = L.getD (o + k) 0 := by simp [List.getD_eq_getElem?_getD]
  have hcl : tkC (L.drop o) ys m (k + 1) < 18446744073709551616 := tkC_lt _ _ _ _ hy hm
  refine ⟨?_, ?_, ?_, ?_⟩
  · have := (h1.far (p := ⟨bc, 0, none⟩) hgc (u64v (tkCarry (ys.getD k 0) m (tkC (L.drop o) ys m k) (L.getD (o + k) 0)))).set_ (o + k) (tkLimb (ys.getD k 0) m (tkC (L.drop o) ys m k) (L.getD (o + k) 0)) (tk_limb_lt _ _ _ _)
    rw [mid_set _ _ _ _ _ hk (tkL_length _ _ _ _)] at this
    rw [tkL, ed]
    exact this
  · exact (h2.far (p := ⟨bc, 0, none⟩) hmc _).far (p := ⟨g, o + k, none⟩) (Ne.symm hgm) _
  · rw [tkC, ed] at hcl ⊢
    exact (h3.set_ 0 _ hcl).far (p := ⟨g, o + k, none⟩) (Ne.symm hgc) _
  · exact grown_setCell (grown_setCell h4 (.inr hbc) _) (.inl rfl) _

/-- What the walk wants of a round: the limb that stands in z, and where the closure's two variables lie. -/
theorem takeInv_cells {w : World} {g o : Nat} {L ys : List Nat} {m bm bc k : Nat} {wr : World} (h : TakeInv w g o L ys m bm bc k wr) (hk : o + k < L.length) (hgc : bc ≠ g) :
    wr.cell? ⟨g, o + k, none⟩ = some (u64v (L.getD (o + k) 0)) ∧ wr.cell? ⟨bm, 0, none⟩ = some (u64v m) ∧ wr.cell? ⟨bc, 0, none⟩ = some (u64v (tkC (L.drop o) ys m k)) ∧ wr.frozen? ⟨bc, 0, none⟩ = false ∧
      (∀ u, (wr.setCell ⟨bc, 0, none⟩ u).cell? ⟨g, o + k, none⟩ = some (u64v (L.getD (o + k) 0))) ∧ (∀ u, (wr.setCell ⟨bc, 0, none⟩ u).frozen? ⟨g, o + k, none⟩ = false) := by
  obtain ⟨h1, h2, h3, h4⟩ := h
  have hl := mid_length L o k (tkL (L.drop o) ys m k) (by omega) (tkL_length _ _ _ _)
  have e : (mid L o k (tkL (L.drop o) ys m k))[o + k]'(by omega) = L.getD (o + k) 0 := by
    have := mid_get? L o k (tkL (L.drop o) ys m k) hk (tkL_length _ _ _ _)
    rw [List.getElem?_eq_getElem (by omega), List.getElem?_eq_getElem hk] at this
    rw [List.getD_eq_getElem?_getD, List.getElem?_eq_getElem hk]
    injection this
  have hc : wr.cell? ⟨g, o + k, none⟩ = some (u64v (L.getD (o + k) 0)) := by rw [← e]; exact h1.cell _ _
  refine ⟨hc, h2.cell 0 (by simp), h3.cell 0 (by simp), h3.frozen 0, fun u => ?_, fun u => ?_⟩
  · rw [World.cell?_setCell_other _ _ _ _ (by intro e; injection e with e; first | exact hgc e | exact hgc e.symm)]
    exact hc
  · exact (h1.far (p := ⟨bc, 0, none⟩) (Ne.symm hgc) u).frozen _

end Go.Proofs.YtmajmpgcdpbnfaaDoor

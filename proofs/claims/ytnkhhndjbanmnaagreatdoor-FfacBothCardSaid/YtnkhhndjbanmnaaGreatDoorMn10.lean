/- Texts joined, in their order: NatAdd1, NatAdd2, NatTake, NatMem, NatVal, NatSum, NatCmp, NatSub. -/
import Derived.WalkLawsBesides
import Derived.Laws.CopyOwn
import Derived.OwnWalk
import Derived.Deep.QuietTactic
import Derived.BigQuiet
import Derived.Laws.MathBits
import Derived.Lib.BitFns
import Derived.Shelf.Spec.BitsCarry
import Derived.Test.YtnkhhndjbanmnaaGreatDoorMn9

/- nat.addTimes, by its contract: what stands in z's limbs afterwards, and what passes over the end. Conditions: z is memory of the call's own, apart from y, and as long as y or longer. -/
namespace Go.Proofs.YtnkhhndjbanmnaaGreatDoor
open Go.RowKit

/-- What stands at z[0..k] after k limbs. -/
def addT (zs ys : List Nat) (m k : Nat) : Nat := val (zs.take k) + m * val (ys.take k)

theorem addT_zero (zs ys : List Nat) (m : Nat) : addT zs ys m 0 = 0 := by simp [addT, val]
theorem val_take_getD (xs : List Nat) (k : Nat) : val (xs.take (k + 1)) = val (xs.take k) + 18446744073709551616 ^ k * xs.getD k 0 := by
  rw [List.getD_eq_getElem?_getD]
  by_cases h : k < xs.length
  · rw [val_take_succ xs k h, List.getElem?_eq_getElem h]; rfl
  · rw [List.take_of_length_le (by omega), List.take_of_length_le (by omega), List.getElem?_eq_none (by omega)]; simp
theorem addT_succ (zs ys : List Nat) (m k : Nat) : addT zs ys m (k + 1) = addT zs ys m k + 18446744073709551616 ^ k * (zs.getD k 0 + ys.getD k 0 * m) := by
  unfold addT
  rw [val_take_getD, val_take_getD]
  grind
theorem addT_carry (zs ys : List Nat) (m k : Nat) : addT zs ys m (k + 1) / 18446744073709551616 ^ k = zs.getD k 0 + ys.getD k 0 * m + addT zs ys m k / 18446744073709551616 ^ k := by
  rw [addT_succ, Nat.add_mul_div_left _ _ (Nat.pow_pos (by decide))]
  omega
theorem addT_limb (zs ys : List Nat) (m k : Nat) : dig (k + 1) (addT zs ys m (k + 1)) = dig k (addT zs ys m k) ++ [(zs.getD k 0 + ys.getD k 0 * m + addT zs ys m k / 18446744073709551616 ^ k) % 18446744073709551616] := by
  rw [dig_snoc, addT_carry, addT_succ, dig_add_mul]
theorem addT_next (zs ys : List Nat) (m k : Nat) : addT zs ys m (k + 1) / 18446744073709551616 ^ (k + 1) = (zs.getD k 0 + ys.getD k 0 * m + addT zs ys m k / 18446744073709551616 ^ k) / 18446744073709551616 := by
  rw [Nat.pow_succ, ← Nat.div_div_eq_div_mul, addT_carry]
theorem addT_carry_lt (zs ys : List Nat) (m k : Nat) (hz : Fit zs) (hy : Fit ys) (hm : m < 18446744073709551616) : addT zs ys m k / 18446744073709551616 ^ k < 18446744073709551616 := by
  induction k with
  | zero => simp [addT_zero]
  | succ k ih => rw [addT_next]; exact add_step_lt _ _ _ _ (fit_getD hy k) hm ih (fit_getD hz k)

/-- The limbs of the block when k of z's have been turned. -/
def mid (L : List Nat) (o k : Nat) (new : List Nat) : List Nat := L.take o ++ new ++ L.drop (o + k)
theorem mid_zero (L : List Nat) (o : Nat) : mid L o 0 [] = L := by simp [mid]
theorem mid_length (L : List Nat) (o k : Nat) (new : List Nat) (h : o + k ≤ L.length) (hn : new.length = k) : (mid L o k new).length = L.length := by simp [mid, hn]; omega
theorem mid_get? (L : List Nat) (o k : Nat) (new : List Nat) (h : o + k < L.length) (hn : new.length = k) : (mid L o k new)[o + k]? = L[o + k]? := by
  unfold mid
  rw [List.getElem?_append_right (by simp [hn]; omega), List.getElem?_drop]
  congr 1
  simp [hn]; omega
theorem mid_set (L : List Nat) (o k : Nat) (new : List Nat) (u : Nat) (h : o + k < L.length) (hn : new.length = k) : (mid L o k new).set (o + k) u = mid L o (k + 1) (new ++ [u]) := by
  unfold mid
  rw [List.set_append_right _ _ (by simp [hn]; omega)]
  have e1 : o + k - (L.take o ++ new).length = 0 := by simp [hn]; omega
  rw [e1, List.drop_eq_getElem_cons h]
  simp [List.append_assoc, Nat.add_assoc]

/-- The relation of addTimes' loops. -/
def AddInv (w : World) (g o : Nat) (L ys : List Nat) (m bm bc k : Nat) (wr : World) : Prop :=
  Blk wr g (mid L o k (dig k (addT (L.drop o) ys m k))) ∧ Blk wr bm [m] ∧ Blk wr bc [addT (L.drop o) ys m k / 18446744073709551616 ^ k] ∧ w.grownBy wr (some g)

theorem blk_one (w : World) (x : Nat) (hx : x < 18446744073709551616) : Blk (w.alloc (.cells #[u64v x] 102)) w.heap.size [x] := ⟨heap_alloc_new w _, fit_cons hx fit_nil⟩

theorem addInv_start (w : World) (g o : Nat) (L ys : List Nat) (m : Nat) (hm : m < 18446744073709551616) (hB : Blk w g L) :
    AddInv w g o L ys m w.heap.size (w.heap.size + 1) 0 ((w.alloc (.cells #[u64v m] 102)).alloc (.cells #[u64v 0] 102)) := by
  refine ⟨?_, ?_, ?_, ?_⟩
  · rw [addT_zero, show dig 0 0 = [] from rfl, mid_zero]
    exact (hB.alloc _).alloc _
  · exact (blk_one w m hm).alloc _
  · rw [addT_zero]
    have := blk_one (w.alloc (.cells #[u64v m] 102)) 0 (by decide)
    simpa using this
  · exact (grown_alloc (grown_alloc (World.grownBy.refl w _) _) _)

theorem addInv_step {w : World} {g o : Nat} {L ys : List Nat} {m bm bc k : Nat} {wr : World} (h : AddInv w g o L ys m bm bc k wr) (hk : o + k < L.length) (hL : Fit L) (hy : Fit ys) (hm : m < 18446744073709551616)
    (hgm : g ≠ bm) (hgc : g ≠ bc) (hmc : bm ≠ bc) (hbc : w.heap.size ≤ bc) :
    AddInv w g o L ys m bm bc (k + 1)
      ((wr.setCell ⟨bc, 0, none⟩ (u64v ((L.getD (o + k) 0 + ys.getD k 0 * m + addT (L.drop o) ys m k / 18446744073709551616 ^ k) / 18446744073709551616))).setCell ⟨g, o + k, none⟩
        (u64v ((L.getD (o + k) 0 + ys.getD k 0 * m + addT (L.drop o) ys m k / 18446744073709551616 ^ k) % 18446744073709551616))) := by
  obtain ⟨h1, h2, h3, h4⟩ := h
  have ed : (L.drop o).getD k 0 = L.getD (o + k) 0 := by simp [List.getD_eq_getElem?_getD]
  have hcl : addT (L.drop o) ys m (k + 1) / 18446744073709551616 ^ (k + 1) < 18446744073709551616 := addT_carry_lt _ _ _ _ (fit_drop hL o) hy hm
  refine ⟨?_, ?_, ?_, ?_⟩
  · have := (h1.far (p := ⟨bc, 0, none⟩) hgc (u64v ((L.getD (o + k) 0 + ys.getD k 0 * m + addT (L.drop o) ys m k / 18446744073709551616 ^ k) / 18446744073709551616))).set_ (o + k) ((L.getD (o + k) 0 + ys.getD k 0 * m + addT (L.drop o) ys m k / 18446744073709551616 ^ k) % 18446744073709551616) (Nat.mod_lt _ (by decide))
    rw [mid_set _ _ _ _ _ hk (dig_length _ _)] at this
    rw [addT_limb, ed]
    exact this
  · exact (h2.far (p := ⟨bc, 0, none⟩) hmc _).far (p := ⟨g, o + k, none⟩) (Ne.symm hgm) _
  · rw [addT_next, ed] at hcl ⊢
    exact (h3.set_ 0 _ hcl).far (p := ⟨g, o + k, none⟩) (Ne.symm hgc) _
  · exact grown_setCell (grown_setCell h4 (.inr hbc) _) (.inl rfl) _

end Go.Proofs.YtnkhhndjbanmnaaGreatDoor

/- nat.addTimes, walked. Conditions: as in its contract below. -/
namespace Go.Proofs.YtnkhhndjbanmnaaGreatDoor
open Go.RowKit

/-- What the walk wants of a round: the limb that stands in z, and where the closure's two variables lie. -/
theorem addInv_cells {w : World} {g o : Nat} {L ys : List Nat} {m bm bc k : Nat} {wr : World} (h : AddInv w g o L ys m bm bc k wr) (hk : o + k < L.length) (hgc : bc ≠ g) :
    wr.cell? ⟨g, o + k, none⟩ = some (u64v (L.getD (o + k) 0)) ∧ wr.cell? ⟨bm, 0, none⟩ = some (u64v m) ∧ wr.cell? ⟨bc, 0, none⟩ = some (u64v (addT (L.drop o) ys m k / 18446744073709551616 ^ k)) ∧ wr.frozen? ⟨bc, 0, none⟩ = false ∧
      (∀ u, (wr.setCell ⟨bc, 0, none⟩ u).cell? ⟨g, o + k, none⟩ = some (u64v (L.getD (o + k) 0))) ∧ (∀ u, (wr.setCell ⟨bc, 0, none⟩ u).frozen? ⟨g, o + k, none⟩ = false) := by
  obtain ⟨h1, h2, h3, h4⟩ := h
  have hl := mid_length L o k (dig k (addT (L.drop o) ys m k)) (by omega) (dig_length _ _)
  have e : (mid L o k (dig k (addT (L.drop o) ys m k)))[o + k]'(by omega) = L.getD (o + k) 0 := by
    have := mid_get? L o k (dig k (addT (L.drop o) ys m k)) hk (dig_length _ _)
    rw [List.getElem?_eq_getElem (by omega), List.getElem?_eq_getElem hk] at this
    rw [List.getD_eq_getElem?_getD, List.getElem?_eq_getElem hk]
    injection this
  have hc : wr.cell? ⟨g, o + k, none⟩ = some (u64v (L.getD (o + k) 0)) := by rw [← e]; exact h1.cell _ _
  refine ⟨hc, h2.cell 0 (by simp), h3.cell 0 (by simp), h3.frozen 0, fun u => ?_, fun u => ?_⟩
  · rw [World.cell?_setCell_other _ _ _ _ (by intro e; injection e with e; first | exact hgc e | exact hgc e.symm)]
    exact hc
  · exact (h1.far (p := ⟨bc, 0, none⟩) (Ne.symm hgc) u).frozen _

theorem u64v_mod (a b : Nat) : u64v ((a + b) % 18446744073709551616) = .int .u64 (((a : Int) + (b : Int)) % 18446744073709551616) := by
  show Value.int .u64 (((a + b) % 18446744073709551616 : Nat) : Int) = _
  rw [show (((a + b) % 18446744073709551616 : Nat) : Int) = ((a : Int) + (b : Int)) % 18446744073709551616 by omega]

end Go.Proofs.YtnkhhndjbanmnaaGreatDoor

/- nat.takeTimes, by its contract: what is left in z's limbs, and what z's end is short of. Conditions: z is memory of the call's own, apart from y, and as long as y or longer. -/
namespace Go.Proofs.YtnkhhndjbanmnaaGreatDoor
open Go.RowKit

/-- What must still be taken after k limbs. -/
def tkC (zs ys : List Nat) (m : Nat) : Nat → Nat
  | 0 => 0
  | k + 1 => tkCarry (ys.getD k 0) m (tkC zs ys m k) (zs.getD k 0)
/-- The limbs that are left. -/
def tkL (zs ys : List Nat) (m : Nat) : Nat → List Nat
  | 0 => []
  | k + 1 => tkL zs ys m k ++ [tkLimb (ys.getD k 0) m (tkC zs ys m k) (zs.getD k 0)]
theorem tkL_length (zs ys : List Nat) (m k : Nat) : (tkL zs ys m k).length = k := by
  induction k with
  | zero => rfl
  | succ k ih => simp [tkL, ih]
theorem fit_tkL (zs ys : List Nat) (m k : Nat) : Fit (tkL zs ys m k) := by
  induction k with
  | zero => exact fit_nil
  | succ k ih => exact fit_append ih (fit_cons (tk_limb_lt _ _ _ _) fit_nil)
theorem tkC_lt (zs ys : List Nat) (m k : Nat) (hy : Fit ys) (hm : m < 18446744073709551616) : tkC zs ys m k < 18446744073709551616 := by
  induction k with
  | zero => show (0 : Nat) < _; decide
  | succ k ih => exact tk_carry_lt _ _ _ _ (fit_getD hy k) hm ih
theorem tk_all (zs ys : List Nat) (m k : Nat) (hz : Fit zs) : val (zs.take k) + 18446744073709551616 ^ k * tkC zs ys m k = val (tkL zs ys m k) + m * val (ys.take k) := by
  induction k with
  | zero => simp [tkC, tkL, val]
  | succ k ih =>
    have hs := tk_spec (ys.getD k 0) m (tkC zs ys m k) (zs.getD k 0) (fit_getD hz k)
    rw [val_take_getD, val_take_getD, tkL, val_append, tkL_length, val_cons, val_nil, tkC]
    generalize zs.getD k 0 = h at *
    generalize ys.getD k 0 = l at *
    generalize tkCarry l m (tkC zs ys m k) h = c' at *
    generalize tkLimb l m (tkC zs ys m k) h = d at *
    generalize tkC zs ys m k = c at *
    generalize val (tkL zs ys m k) = V at *
    generalize val (zs.take k) = Z at *
    generalize val (ys.take k) = Y at *
    rw [Nat.pow_succ]
    generalize 18446744073709551616 ^ k = p at *
    have e1 : p * (h + 18446744073709551616 * c') = p * (d + (l * m + c)) := by rw [hs]
    grind

/-- The relation of takeTimes' loops. -/
def TakeInv (w : World) (g o : Nat) (L ys : List Nat) (m bm bc k : Nat) (wr : World) : Prop :=
  Blk wr g (mid L o k (tkL (L.drop o) ys m k)) ∧ Blk wr bm [m] ∧ Blk wr bc [tkC (L.drop o) ys m k] ∧ w.grownBy wr (some g)

theorem takeInv_start (w : World) (g o : Nat) (L ys : List Nat) (m : Nat) (hm : m < 18446744073709551616) (hB : Blk w g L) :
    TakeInv w g o L ys m w.heap.size (w.heap.size + 1) 0 ((w.alloc (.cells #[u64v m] 102)).alloc (.cells #[u64v 0] 102)) := by
  refine ⟨?_, ?_, ?_, ?_⟩
  · rw [show tkL (L.drop o) ys m 0 = [] from rfl, mid_zero]
    exact (hB.alloc _).alloc _
  · exact (blk_one w m hm).alloc _
  · rw [show tkC (L.drop o) ys m 0 = 0 from rfl]
    have := blk_one (w.alloc (.cells #[u64v m] 102)) 0 (by decide)
    simpa using this
  · exact (grown_alloc (grown_alloc (World.grownBy.refl w _) _) _)

theorem takeInv_step {w : World} {g o : Nat} {L ys : List Nat} {m bm bc k : Nat} {wr : World} (h : TakeInv w g o L ys m bm bc k wr) (hk : o + k < L.length) (hy : Fit ys) (hm : m < 18446744073709551616)
    (hgm : g ≠ bm) (hgc : g ≠ bc) (hmc : bm ≠ bc) (hbc : w.heap.size ≤ bc) :
    TakeInv w g o L ys m bm bc (k + 1)
      ((wr.setCell ⟨bc, 0, none⟩ (u64v (tkCarry (ys.getD k 0) m (tkC (L.drop o) ys m k) (L.getD (o + k) 0)))).setCell ⟨g, o + k, none⟩
        (u64v (tkLimb (ys.getD k 0) m (tkC (L.drop o) ys m k) (L.getD (o + k) 0)))) := by
  obtain ⟨h1, h2, h3, h4⟩ := h
  have ed : (L.drop o).getD k 0 = L.getD (o + k) 0 := by simp [List.getD_eq_getElem?_getD]
  have hcl : tkC (L.drop o) ys m (k + 1) < 18446744073709551616 := tkC_lt _ _ _ _ hy hm
  refine ⟨?_, ?_, ?_, ?_⟩
  · have := (h1.far (p := ⟨bc, 0, none⟩) hgc (u64v (tkCarry (ys.getD k 0) m (tkC (L.drop o) ys m k) (L.getD (o + k) 0)))).set_ (o + k) (tkLimb (ys.getD k 0) m (tkC (L.drop o) ys m k) (L.getD (o + k) 0)) (tk_limb_lt _ _ _ _)
    rw [mid_set _ _ _ _ _ hk (tkL_length _ _ _ _)] at this
    rw [tkL, ed]
    exact this
  · exact (h2.far (p := ⟨bc, 0, none⟩) hmc _).far (p := ⟨g, o + k, none⟩) (Ne.symm hgm) _
  · rw [tkC, ed] at hcl ⊢
    exact (h3.set_ 0 _ hcl).far (p := ⟨g, o + k, none⟩) (Ne.symm hgc) _
  · exact grown_setCell (grown_setCell h4 (.inr hbc) _) (.inl rfl) _

/-- What the walk wants of a round: the limb that stands in z, and where the closure's two variables lie. -/
theorem takeInv_cells {w : World} {g o : Nat} {L ys : List Nat} {m bm bc k : Nat} {wr : World} (h : TakeInv w g o L ys m bm bc k wr) (hk : o + k < L.length) (hgc : bc ≠ g) :
    wr.cell? ⟨g, o + k, none⟩ = some (u64v (L.getD (o + k) 0)) ∧ wr.cell? ⟨bm, 0, none⟩ = some (u64v m) ∧ wr.cell? ⟨bc, 0, none⟩ = some (u64v (tkC (L.drop o) ys m k)) ∧ wr.frozen? ⟨bc, 0, none⟩ = false ∧
      (∀ u, (wr.setCell ⟨bc, 0, none⟩ u).cell? ⟨g, o + k, none⟩ = some (u64v (L.getD (o + k) 0))) ∧ (∀ u, (wr.setCell ⟨bc, 0, none⟩ u).frozen? ⟨g, o + k, none⟩ = false) := by
  obtain ⟨h1, h2, h3, h4⟩ := h
  have hl := mid_length L o k (tkL (L.drop o) ys m k) (by omega) (tkL_length _ _ _ _)
  have e : (mid L o k (tkL (L.drop o) ys m k))[o + k]'(by omega) = L.getD (o + k) 0 := by
    have := mid_get? L o k (tkL (L.drop o) ys m k) hk (tkL_length _ _ _ _)
    rw [List.getElem?_eq_getElem (by omega), List.getElem?_eq_getElem hk] at this
    rw [List.getD_eq_getElem?_getD, List.getElem?_eq_getElem hk]
    injection this
  have hc : wr.cell? ⟨g, o + k, none⟩ = some (u64v (L.getD (o + k) 0)) := by rw [← e]; exact h1.cell _ _
  refine ⟨hc, h2.cell 0 (by simp), h3.cell 0 (by simp), h3.frozen 0, fun u => ?_, fun u => ?_⟩
  · rw [World.cell?_setCell_other _ _ _ _ (by intro e; injection e with e; first | exact hgc e | exact hgc e.symm)]
    exact hc
  · exact (h1.far (p := ⟨bc, 0, none⟩) (Ne.symm hgc) u).frozen _

end Go.Proofs.YtnkhhndjbanmnaaGreatDoor

/- make and copy of limbs, as laws of the walk. -/
namespace Go.Proofs.YtnkhhndjbanmnaaGreatDoor
open Go.RowKit

set_option maxRecDepth 100000 in
theorem infoU : (Tryz.prog.info? 102).map (fun i => (i.zero, i.size, i.bytes)) = some (some (.int .u64 0), 1, 8) := by kernel_rfl
set_option maxRecDepth 100000 in
theorem infoUs : (Tryz.prog.info? 102).map (·.size) = some 1 := by kernel_rfl

set_option maxRecDepth 100000 in
theorem wpList_make_limbs {ops : Array Oper} {rest : List Oper} {o : Oper} {a : Act} {Q : Exit → Act → World → Prop} (w : World)
    (hg : o.guard = none) (l c : Operand) (hop : o.op = Op.makeSlice 123 l c) (kl kc : IntKind) (L C : Int) (n : Nat) (hl : a.eval l = .int kl L) (hc : a.eval c = .int kc C) (hL : L = (n : Int)) (hC : C = (n : Int)) (hn : n ≤ 35184372088832)
    (hK : ∀ w', Blk w' w.heap.size (List.replicate n 0) → Below w.heap.size w w' → wpList Tryz.prog ops Q rest (a.put o.dst (.slice (some ⟨w.heap.size, 0, none⟩) n n)) w') :
    wpList Tryz.prog ops Q (o :: rest) a w := by
  obtain ⟨i0, hi, hz0, hz1, hz2⟩ := info_parts infoU
  refine wpList_make_full w hg l c 123 hop w.heap.size 102 i0 _ 1 Tryz.underlying123 hi hz0 hz1 kl kc L C n hl hc hL hC (by rw [hz2]; omega) (by unfold maxLen; omega) (Nat.le_refl _) ?_
  intro w' ho hgr
  have hbel : Below w.heap.size w w' := (Below.refl _ _).grown hgr (Nat.le_refl _) (fun k e => by cases e)
  refine hK w' ⟨?_, ?_⟩ hbel
  · obtain ⟨h1, ⟨h2, _⟩ | ⟨g, cap, cur, hv, hb, hh, hn1, hn2, hs, ht⟩⟩ := ho
    · cases h2
    · simp only [Value.slice.injEq, Option.some.injEq, Addr.mk.injEq, and_true, true_and] at hv
      obtain ⟨rfl, rfl⟩ := hv
      have e1 : cur.toList = (List.replicate n 0).map u64v := by
        rw [List.take_of_length_le (by simp [hs])] at ht
        rw [ht, show (Value.int IntKind.u64 0).cells = #[Value.int IntKind.u64 0] from rfl, toList_madeCells_one]
        simp
      rw [hh]
      congr 2
      rw [← e1]
  · intro x hx
    rw [List.eq_of_mem_replicate hx]
    decide

set_option maxRecDepth 100000 in
theorem wpList_copy_limbs {ops : Array Oper} {rest : List Oper} {o : Oper} {a : Act} {Q : Exit → Act → World → Prop} (w : World) (hgd : o.guard = none) (d s : Operand)
    (ho : o.op = .call { callee := .builtin .copy, args := #[d, s], argTypes := #[123, 123] }) (g off dLen dCap : Nat) (A : Option Addr) (n c : Nat)
    (hd : a.eval d = .slice (some ⟨g, off, none⟩) dLen dCap) (hs : a.eval s = .slice A n c) (L xs : List Nat) (hB : Blk w g L) (hR : Rd w A xs) (hn : n = xs.length) (hfit : n ≤ dLen) (hL : off + n ≤ L.length)
    (h : ∀ w', Blk w' g (mid L off n xs) → w.grownBy w' (some g) → wpList Tryz.prog ops Q rest (a.put o.dst (goInt n)) w') : wpList Tryz.prog ops Q (o :: rest) a w := by
  subst hn
  by_cases h0 : xs.length = 0
  · obtain rfl : xs = [] := List.eq_nil_of_length_eq_zero h0
    refine wpList_copy_nothing hgd d s _ _ ho 102 Tryz.underlying123 infoUs _ _ _ _ _ _ hd hs (by simp) ?_
    refine h w ?_ (World.grownBy.refl w _)
    simpa [mid] using hB
  · obtain ⟨hf, h1 | ⟨b, oo, rfl, hlt, hc⟩⟩ := hR
    · exact absurd (by rw [h1]; rfl) h0
    · have hmin : xs.length = Nat.min xs.length dLen := (Nat.min_eq_left hfit).symm
      have hlen : (xs.map u64v).length = xs.length := List.length_map ..
      refine wpList_copy_own hgd d s _ _ ho 102 Tryz.underlying123 infoUs g off dLen dCap ⟨b, oo, none⟩ _ _ hd hs _ 102 hB.1 (xs.map u64v) (by rw [hlen]; exact hmin) ?_ (by simpa using hL) (by intro v hv; obtain ⟨x, _, rfl⟩ := List.mem_map.1 hv; rfl) ?_
      · intro j v hj
        rw [List.getElem?_map] at hj
        obtain ⟨x, hx, rfl⟩ := Option.map_eq_some_iff.1 hj
        obtain ⟨hj', rfl⟩ := List.getElem?_eq_some_iff.1 hx
        have ha : (⟨b, oo, none⟩ : Addr).add j = ⟨b, oo + j, none⟩ := by
          unfold Addr.add
          by_cases hj0 : j = 0 <;> simp [hj0]
        rw [ha]
        exact hc j hj'
      · rw [hlen]
        refine h _ ⟨?_, ?_⟩ ?_
        · rw [setRow_heap w g _ _ _ _ hB.1]
          congr 2
          simp [mid, List.map_take, List.map_drop]
        · unfold mid
          exact fit_append (fit_append (fit_take hB.2 _) hf) (fit_drop hB.2 _)
        · exact ⟨rfl, rfl, rfl, by simp, fun k _ hne => setRow_other w g k _ (fun e => hne (by rw [e]))⟩

set_option maxRecDepth 100000 in
set_option maxHeartbeats 400000 in
/-- nat.Norm: a new slice of the plain limbs. -/
theorem norm_any (A : Option Addr) (n c : Nat) (xs : List Nat) (w : World) (h : Sl w A n c xs) (hn : n ≤ 17592186044416) :
    Calls Tryz.prog 174 #[.slice A n c] w fun e w' =>
      e = .returned (.slice (some ⟨w.heap.size, 0, none⟩) (nrm (val xs)).length (nrm (val xs)).length) ∧ Blk w' w.heap.size (nrm (val xs)) ∧ Below w.heap.size w w' := by
  have HT := Lib.hid (trim_any A n c xs w h)
  have hpl := h.plain
  have hle := nrm_length_le h.fit
  rw [← h.len] at hle
  obtain ⟨m, hm⟩ : ∃ m, m = (nrm (val xs)).length := ⟨_, rfl⟩
  obtain ⟨ys, hys⟩ : ∃ ys, ys = nrm (val xs) := ⟨_, rfl⟩
  rw [← hm] at hle HT
  rw [← hm, ← hys] at hpl
  rw [← hm, ← hys]
  have hR := hpl.2.2.2.2
  have hmy := hpl.1
  have HP := Lib.hid hR
  have HM := Lib.hid hmy
  clear h hpl hys hm hR hmy
  go_enter Tryz.func174, Tryz.ntmps174
  go_wp2_with (first
    | (go_at_call 196; refine HT.out.mono ?_; rintro e w' ⟨rfl, rfl⟩)
    | (at_make; refine wpList_make_limbs _ rfl _ _ rfl _ _ _ _ m rfl rfl rfl rfl (by omega) ?_; intro w1 hb1 hbel1)
    | (with_reducible refine wpList_copy_limbs _ rfl (.tmp 9) (.tmp 10) rfl _ 0 m m A m c rfl rfl (List.replicate m 0) ys hb1 (HP.out.below hbel1) HM.out (Nat.le_refl _) (by simp) ?_; intro w2 hb2 hg2))
  go_ret
  refine ⟨rfl, ?_, hbel1.trans (below_of_grown hg2 hbel1.size (Nat.le_refl _))⟩
  have e : mid (List.replicate m 0) 0 m ys = ys := by simp [mid]
  rwa [e] at hb2

/-- A new slice, in memory of the call's own (block B or later), that reads as xs. -/
def New (w : World) (B : Nat) (v : Value) (xs : List Nat) : Prop := ∃ g c, v = .slice (some ⟨g, 0, none⟩) xs.length c ∧ B ≤ g ∧ g < w.heap.size ∧ Sl w (some ⟨g, 0, none⟩) xs.length c xs

set_option maxRecDepth 100000 in
theorem Blk.sl {w : World} {g : Nat} {L : List Nat} (h : Blk w g L) (hm : L.length ≤ 9223372036854775807) : Sl w (some ⟨g, 0, none⟩) L.length L.length L :=
  ⟨rfl, Nat.le_refl _, hm, (fun e => by cases e), h.rd0⟩
set_option maxRecDepth 100000 in
theorem New.below {w w' : World} {B : Nat} {v : Value} {xs : List Nat} (h : New w B v xs) (hb : Below w.heap.size w w') : New w' B v xs := by
  obtain ⟨g, c, h1, h2, h3, h4⟩ := h
  exact ⟨g, c, h1, h2, Nat.lt_of_lt_of_le h3 hb.size, h4.below hb⟩

set_option maxRecDepth 100000 in
theorem mid_new (k p : Nat) (ps : List Nat) : val (mid (List.replicate k 0) 0 p ps) = val ps := by
  have hz : ∀ n, val (List.replicate n 0) = 0 := by
    intro n
    induction n with
    | zero => rfl
    | succ n ih => rw [List.replicate_succ, val_cons, ih]
  unfold mid
  simp only [List.take_zero, List.nil_append, Nat.zero_add, List.drop_replicate]
  rw [val_append, hz]
  omega

set_option maxRecDepth 100000 in
/-- What addTimes leaves of a block that it fills whole, nothing passing over the end. -/
theorem addT_whole (L ys : List Nat) (m k : Nat) (hL : L.length = k) (hy : ys.length ≤ k) : addT (L.drop 0) ys m k = val L + m * val ys := by
  unfold addT
  rw [List.drop_zero, List.take_of_length_le (by omega), List.take_of_length_le (by omega)]
set_option maxRecDepth 100000 in
theorem mid_whole (L new : List Nat) (k : Nat) (hL : L.length = k) : mid L 0 k new = new := by
  unfold mid
  simp [List.drop_of_length_le (Nat.le_of_eq hL)]
set_option maxRecDepth 100000 in
theorem sum_lt (xs ys : List Nat) (hx : Fit xs) (hy : Fit ys) (k : Nat) (h1 : xs.length < k) (h2 : ys.length < k) : val xs + val ys < 18446744073709551616 ^ k := by
  have a1 := val_lt hx
  have a2 := val_lt hy
  have b1 : 18446744073709551616 ^ xs.length ≤ 18446744073709551616 ^ (k - 1) := Nat.pow_le_pow_right (by decide) (by omega)
  have b2 : 18446744073709551616 ^ ys.length ≤ 18446744073709551616 ^ (k - 1) := Nat.pow_le_pow_right (by decide) (by omega)
  have e : 18446744073709551616 ^ k = 18446744073709551616 ^ (k - 1) * 18446744073709551616 := by rw [← Nat.pow_succ]; congr 1; omega
  rw [e]
  omega
end Go.Proofs.YtnkhhndjbanmnaaGreatDoor

/- What a block holds, said by its value alone: so many limbs of a number. -/
namespace Go.Proofs.YtnkhhndjbanmnaaGreatDoor
open Go.RowKit

theorem val_mid (L new : List Nat) (o n : Nat) (h : o + n ≤ L.length) (hn : new.length = n) : val (mid L o n new) + 18446744073709551616 ^ o * val ((L.drop o).take n) = val L + 18446744073709551616 ^ o * val new := by
  have e : L = L.take o ++ ((L.drop o).take n ++ L.drop (o + n)) := by
    rw [← List.drop_drop, List.take_append_drop, List.take_append_drop]
  have h2 : val L = val (L.take o) + 18446744073709551616 ^ o * (val ((L.drop o).take n) + 18446744073709551616 ^ n * val (L.drop (o + n))) := by
    conv => lhs; rw [e]
    rw [val_append, val_append, List.length_take, List.length_take, List.length_drop, Nat.min_eq_left (by omega), Nat.min_eq_left (by omega)]
  have h1 : val (mid L o n new) = val (L.take o) + 18446744073709551616 ^ o * (val new + 18446744073709551616 ^ n * val (L.drop (o + n))) := by
    unfold mid
    rw [List.append_assoc, val_append, val_append, List.length_take, Nat.min_eq_left (by omega), hn]
  rw [h1, h2]
  grind
theorem fit_mid {L new : List Nat} (hL : Fit L) (hn : Fit new) (o n : Nat) : Fit (mid L o n new) := fit_append (fit_append (fit_take hL _) hn) (fit_drop hL _)
theorem dig_of {xs : List Nat} (h : Fit xs) (n v : Nat) (hn : xs.length = n) (hv : val xs = v) : xs = dig n v := by rw [← hn, ← hv, dig_val h]
theorem mid_dig (L new : List Nat) (o n v : Nat) (hL : Fit L) (hn' : Fit new) (h : o + n ≤ L.length) (hn : new.length = n) (hv : v + 18446744073709551616 ^ o * val ((L.drop o).take n) = val L + 18446744073709551616 ^ o * val new) : mid L o n new = dig L.length v := by
  refine dig_of (fit_mid hL hn' o n) _ _ (mid_length L o n new h hn) ?_
  have := val_mid L new o n h hn
  omega
theorem dig_zero (n : Nat) : dig n 0 = List.replicate n 0 := by
  induction n with
  | zero => rfl
  | succ n ih => rw [dig, List.replicate_succ, ← ih]

/-- Front and rear parts of a number's limbs. -/
theorem dig_take (n k v : Nat) (h : k ≤ n) : (dig n v).take k = dig k v := by
  induction n generalizing k v with
  | zero =>
    have : k = 0 := by omega
    subst this; rfl
  | succ n ih =>
    cases k with
    | zero => rfl
    | succ k => rw [dig, List.take_succ_cons, ih k _ (by omega), dig]
theorem dig_drop (n k v : Nat) : (dig n v).drop k = dig (n - k) (v / 18446744073709551616 ^ k) := by
  induction n generalizing k v with
  | zero => simp [dig]
  | succ n ih =>
    cases k with
    | zero => simp
    | succ k => rw [dig, List.drop_succ_cons, ih, Nat.div_div_eq_div_mul, Nat.pow_succ, Nat.mul_comm 18446744073709551616]; congr 1; omega
theorem dig_part (n o k v : Nat) (h : o + k ≤ n) : ((dig n v).drop o).take k = dig k (v / 18446744073709551616 ^ o) := by rw [dig_drop, dig_take _ _ _ (by omega)]

theorem Blk.sl' {w : World} {g K V : Nat} (h : Blk w g (dig K V)) (hm : K ≤ 9223372036854775807) : Sl w (some ⟨g, 0, none⟩) K K (dig K V) := by
  have := h.sl (by rw [dig_length]; exact hm)
  rwa [dig_length] at this

theorem wpList_make_val {ops : Array Oper} {rest : List Oper} {o : Oper} {a : Act} {Q : Exit → Act → World → Prop} (w : World)
    (hg : o.guard = none) (l c : Operand) (hop : o.op = Op.makeSlice 123 l c) (kl kc : IntKind) (L C : Int) (n : Nat) (hl : a.eval l = .int kl L) (hc : a.eval c = .int kc C) (hL : L = (n : Int)) (hC : C = (n : Int)) (hn : n ≤ 35184372088832)
    (hK : ∀ w', Blk w' w.heap.size (dig n 0) → Below w.heap.size w w' → wpList Tryz.prog ops Q rest (a.put o.dst (.slice (some ⟨w.heap.size, 0, none⟩) n n)) w') :
    wpList Tryz.prog ops Q (o :: rest) a w :=
  wpList_make_limbs w hg l c hop kl kc L C n hl hc hL hC hn fun w' hb hbel => hK w' (by rw [dig_zero]; exact hb) hbel

theorem wpList_copy_val {ops : Array Oper} {rest : List Oper} {o : Oper} {a : Act} {Q : Exit → Act → World → Prop} (w : World) (hgd : o.guard = none) (d s : Operand)
    (ho : o.op = .call { callee := .builtin .copy, args := #[d, s], argTypes := #[123, 123] }) (g off dLen dCap : Nat) (A : Option Addr) (n c : Nat)
    (hd : a.eval d = .slice (some ⟨g, off, none⟩) dLen dCap) (hs : a.eval s = .slice A n c) (K V : Nat) (xs : List Nat) (hB : Blk w g (dig K V)) (hR : Sl w A n c xs) (hfit : n ≤ dLen) (hL : off + n ≤ K)
    (hV : V < 18446744073709551616 ^ off)
    (h : ∀ w', Blk w' g (dig K (V + 18446744073709551616 ^ off * val xs)) → w.grownBy w' (some g) → wpList Tryz.prog ops Q rest (a.put o.dst (goInt n)) w') : wpList Tryz.prog ops Q (o :: rest) a w := by
  refine wpList_copy_limbs w hgd d s ho g off dLen dCap A n c hd hs (dig K V) xs hB hR.rd hR.len hfit (by rw [dig_length]; exact hL) fun w' hb hg => h w' ?_ hg
  have hVK : V < 18446744073709551616 ^ K := Nat.lt_of_lt_of_le hV (Nat.pow_le_pow_right (by decide) (by omega))
  have e := mid_dig (dig K V) xs off n (V + 18446744073709551616 ^ off * val xs) (fit_dig _ _) hR.fit (by rw [dig_length]; exact hL) hR.len.symm (by
    rw [dig_part K off n V hL, val_dig_of_lt hVK, Nat.div_eq_of_lt hV, val_dig]
    simp)
  rw [dig_length] at e
  rwa [e] at hb
/-- A block of so many limbs, cut to the plain ones, is a new slice of its value. -/
theorem new_of_blk {w : World} {g K V B : Nat} (h : Blk w g (dig K V)) (hm : K ≤ 9223372036854775807) (hV : V < 18446744073709551616 ^ K) (hB : B ≤ g) :
    New w B (.slice (some ⟨g, 0, none⟩) (nrm (val (dig K V))).length K) (nrm V) := by
  have hs := (h.sl' hm).plain
  rw [val_dig_of_lt hV] at hs ⊢
  exact ⟨g, K, rfl, hB, h.lt, hs⟩
end Go.Proofs.YtnkhhndjbanmnaaGreatDoor

/- nat.Add, by its contract: a new slice of the sum's plain limbs. Conditions: the lengths are at most 2^43. -/
namespace Go.Proofs.YtnkhhndjbanmnaaGreatDoor
open Go.RowKit

/-- cmp.Compare at uint64, -1, 0, 1. -/
def cmpN (x y : Nat) : Int := if x < y then -1 else if y < x then 1 else 0
theorem cmpInt_any (x y : Nat) (w : World) : Calls Tryz.prog 63 #[.int .i64 (x : Int), .int .i64 (y : Int)] w fun e w' => e = .returned (.int .i64 (cmpN x y)) ∧ w = w' := by
  rcases Nat.lt_trichotomy x y with h | h | h
  · have e : cmpN x y = -1 := by unfold cmpN; rw [if_pos h]
    rw [e]; clear e
    go_enter Tryz.func63, Tryz.ntmps63
    go_wp2
    go_ret
    exact ⟨rfl, rfl⟩
  · have e : cmpN x y = 0 := by unfold cmpN; rw [if_neg (by omega), if_neg (by omega)]
    rw [e]; clear e
    subst h
    go_enter Tryz.func63, Tryz.ntmps63
    go_wp2
    go_ret
    exact ⟨rfl, rfl⟩
  · have e : cmpN x y = 1 := by unfold cmpN; rw [if_neg (by omega), if_pos h]
    rw [e]; clear e
    go_enter Tryz.func63, Tryz.ntmps63
    go_wp2
    go_ret
    exact ⟨rfl, rfl⟩
end Go.Proofs.YtnkhhndjbanmnaaGreatDoor

/- nat.Cmp, nat.Sub, nat.Bits, by their contracts. -/
namespace Go.Proofs.YtnkhhndjbanmnaaGreatDoor
open Go.RowKit

theorem nrm_ge (v : Nat) (h : v ≠ 0) : 18446744073709551616 ^ ((nrm v).length - 1) ≤ v := by
  induction v using Nat.strongRecOn with
  | ind v ih =>
    rw [nrm_pos v h, List.length_cons, Nat.add_sub_cancel]
    by_cases h0 : v / 18446744073709551616 = 0
    · rw [h0, nrm_zero]; simp; omega
    · have h1 := ih (v / 18446744073709551616) (by omega) h0
      have hp : 0 < (nrm (v / 18446744073709551616)).length := by rw [nrm_pos _ h0]; simp
      have e : 18446744073709551616 ^ (nrm (v / 18446744073709551616)).length = 18446744073709551616 ^ ((nrm (v / 18446744073709551616)).length - 1) * 18446744073709551616 := by rw [← Nat.pow_succ]; congr 1; omega
      rw [e]
      have := Nat.mul_le_mul_right 18446744073709551616 h1
      omega
theorem nrm_lt (v : Nat) : v < 18446744073709551616 ^ (nrm v).length := by
  have := val_lt (fit_nrm v)
  rwa [val_nrm] at this
theorem lt_of_len {u v : Nat} (h : (nrm u).length < (nrm v).length) : u < v := by
  have hv : v ≠ 0 := by intro e; rw [e, nrm_zero] at h; simp at h
  have h1 := nrm_lt u
  have h2 := nrm_ge v hv
  have h3 : 18446744073709551616 ^ (nrm u).length ≤ 18446744073709551616 ^ ((nrm v).length - 1) := Nat.pow_le_pow_right (by decide) (by omega)
  omega
theorem cmp_len {u v : Nat} (h : (nrm u).length ≠ (nrm v).length) : cmpN (nrm u).length (nrm v).length = cmpN u v := by
  unfold cmpN
  rcases Nat.lt_or_gt_of_ne h with h1 | h1
  · have := lt_of_len h1
    rw [if_pos h1, if_pos this]
  · have := lt_of_len h1
    rw [if_neg (by omega), if_pos h1, if_neg (by omega), if_pos this]
theorem val_split (xs : List Nat) (k : Nat) (hk : k < xs.length) : val xs = val (xs.take k) + 18446744073709551616 ^ k * (xs[k] + 18446744073709551616 * val (xs.drop (k + 1))) := by
  conv => lhs; rw [← List.take_append_drop k xs]
  rw [val_append, List.drop_eq_getElem_cons hk, val_cons, List.length_take, Nat.min_eq_left (by omega)]
theorem lt_at {ps qs : List Nat} (hp : Fit ps) (k : Nat) (h1 : k < ps.length) (h2 : k < qs.length) (hd : ps.drop (k + 1) = qs.drop (k + 1)) (h : ps[k] < qs[k]) : val ps < val qs := by
  rw [val_split ps k h1, val_split qs k h2, hd]
  have a := val_lt (fit_take hp k)
  rw [List.length_take, Nat.min_eq_left (by omega)] at a
  have b : 18446744073709551616 ^ k * (ps[k] + 18446744073709551616 * val (qs.drop (k + 1)) + 1) ≤ 18446744073709551616 ^ k * (qs[k] + 18446744073709551616 * val (qs.drop (k + 1))) := Nat.mul_le_mul_left _ (by omega)
  rw [Nat.mul_add, Nat.mul_one] at b
  omega
theorem cmp_at {ps qs : List Nat} (hp : Fit ps) (hq : Fit qs) (k : Nat) (h1 : k < ps.length) (h2 : k < qs.length) (hd : ps.drop (k + 1) = qs.drop (k + 1)) (h : ps[k] ≠ qs[k]) : cmpN ps[k] qs[k] = cmpN (val ps) (val qs) := by
  unfold cmpN
  rcases Nat.lt_or_gt_of_ne h with h3 | h3
  · rw [if_pos h3, if_pos (lt_at hp k h1 h2 hd h3)]
  · have := lt_at hq k h2 h1 hd.symm h3
    rw [if_neg (by omega), if_pos h3, if_neg (by omega), if_pos this]
theorem drop_step {ps qs : List Nat} (k : Nat) (h1 : k < ps.length) (h2 : k < qs.length) (hd : ps.drop (k + 1) = qs.drop (k + 1)) (h : ps[k] = qs[k]) : ps.drop k = qs.drop k := by
  rw [List.drop_eq_getElem_cons h1, List.drop_eq_getElem_cons h2, hd, h]

/-- The cells of a slice that isn't empty. -/
theorem Sl.at_ {w : World} {A : Option Addr} {n c : Nat} {xs : List Nat} (h : Sl w A n c xs) (hn : 0 < n) : ∃ b o, A = some ⟨b, o, none⟩ ∧ b < w.heap.size ∧ ∀ j, j < n → w.cell? ⟨b, o + j, none⟩ = some (u64v (xs.getD j 0)) := by
  rcases h.rd.2 with e | ⟨b, o, rfl, hlt, hc⟩
  · rw [h.len, e] at hn; exact absurd hn (by simp)
  · refine ⟨b, o, rfl, hlt, fun j hj => ?_⟩
    have hj' : j < xs.length := by rw [← h.len]; exact hj
    rw [hc j hj', List.getD_eq_getElem?_getD, List.getElem?_eq_getElem hj']
    rfl

theorem quiet_add_same' {P : Program} {f : FuncId} {args : Array Value} {w : World} {a n : Nat} {v : Value}
    (h : Calls P f args (w.drewN (a + n)) fun e w' => e = .returned v ∧ w.drewN (a + n) = w') :
    Calls P f args (w.drewN (a + n)) fun e w'' => e = .returned v ∧ ∃ m, w'' = w.drewN (a + m) :=
  h.mono fun _ _ ⟨he, hm⟩ => ⟨he, n, hm.symm⟩

/-- nat.Bits: how many bits a number has. -/
theorem bitLen_split (x v : Nat) (k : Nat) (hx : x ≠ 0) (hv : v < 18446744073709551616 ^ k) : bitLen (v + 18446744073709551616 ^ k * x) = 64 * k + bitLen x := by
  have e : 18446744073709551616 ^ k = 2 ^ (64 * k) := by rw [Nat.pow_mul]
  rw [e] at hv ⊢
  have hd : (v + 2 ^ (64 * k) * x) / 2 ^ (64 * k) = x := by rw [Nat.add_mul_div_left _ _ (Nat.pow_pos (by decide)), Nat.div_eq_of_lt hv, Nat.zero_add]
  have := bitLen_shift (v + 2 ^ (64 * k) * x) (64 * k) (by rw [hd]; exact hx)
  rw [this, hd]
end Go.Proofs.YtnkhhndjbanmnaaGreatDoor

/- nat.Sub and nat.Bits, by their contracts. -/
namespace Go.Proofs.YtnkhhndjbanmnaaGreatDoor
open Go.RowKit

theorem nrm_dig (v : Nat) : nrm v = dig (nrm v).length v := dig_of (fit_nrm v) _ _ rfl (val_nrm v)
theorem len_le_of_le {u v : Nat} (h : u ≤ v) : (nrm u).length ≤ (nrm v).length := by
  rcases Nat.lt_or_ge (nrm v).length (nrm u).length with h1 | h1
  · have := lt_of_len h1; omega
  · exact h1

theorem ret_int {k : IntKind} {a b : Int} (h : a = b) : Ending.returned (.int k a) = .returned (.int k b) := by rw [h]

theorem lbl_eq (x : Nat) (h : x < 18446744073709551616) : Lib.bitLen x = bitLen x := by
  induction x using Nat.strongRecOn with
  | _ x ih =>
    by_cases h0 : x = 0
    · subst h0; rfl
    · rw [Lib.bitLen_half x h0 (by simpa using h), ih (x / 2) (by omega) (by omega)]
      unfold bitLen
      rw [if_neg h0, Nat.log2_def x]
      by_cases h2 : 2 ≤ x
      · rw [if_pos h2, if_neg (by omega)]; omega
      · obtain rfl : x = 1 := by omega
        simp

set_option maxRecDepth 100000 in
set_option maxHeartbeats 1000000 in
theorem bits_any (A : Option Addr) (n c : Nat) (xs : List Nat) (w : World) (h : Sl w A n c xs) (hn : n ≤ 70368744177664) :
    Calls Tryz.prog 194 #[.slice A n c] w fun e w' => e = .returned (.int .i64 (bitLen (val xs) : Int)) ∧ w = w' := by
  have HT := Lib.hid (trim_any A n c xs w h)
  have hpl := h.plain
  have hpn : (nrm (val xs)).length ≤ n := by rw [h.len]; exact nrm_length_le h.fit
  have hv := val_nrm (val xs)
  have hfit := fit_nrm (val xs)
  have hlast : ∀ k, k + 1 = (nrm (val xs)).length → (nrm (val xs)).getD k 0 ≠ 0 ∧ bitLen (val xs) = 64 * k + bitLen ((nrm (val xs)).getD k 0) := by
    intro k hk
    have hk' : k < (nrm (val xs)).length := by omega
    have e : (nrm (val xs)).getD k 0 = (nrm (val xs))[k] := by rw [List.getD_eq_getElem?_getD, List.getElem?_eq_getElem hk']; rfl
    have hs := val_split (nrm (val xs)) k hk'
    rw [List.drop_of_length_le (by omega), val_nil, Nat.mul_zero, Nat.add_zero] at hs
    have hl := val_lt (fit_take hfit k)
    rw [List.length_take, Nat.min_eq_left (by omega)] at hl
    have hx0 : (nrm (val xs))[k] ≠ 0 := by
      intro h0
      rw [h0, Nat.mul_zero, Nat.add_zero, hv] at hs
      have hge := nrm_ge (val xs) (by intro e0; rw [e0, nrm_zero] at hk; simp at hk)
      rw [← hk, Nat.add_sub_cancel] at hge
      omega
    rw [e]
    refine ⟨hx0, ?_⟩
    rw [hv] at hs
    have hb := bitLen_split _ _ _ hx0 hl
    rw [← hs] at hb
    exact hb
  have hz : (nrm (val xs)).length = 0 → bitLen (val xs) = 0 := by
    intro e
    rw [(nrm_nil_iff (val xs)).1 (List.eq_nil_of_length_eq_zero e)]
    rfl
  generalize nrm (val xs) = ps at *
  generalize bitLen (val xs) = r at *
  obtain ⟨p, hp⟩ : ∃ p, p = ps.length := ⟨_, rfl⟩
  rw [← hp] at HT hpl hpn hlast hz
  have H := Lib.hid h
  have H3 := Lib.hid hpl
  have HZ := Lib.hid hz
  have HL := Lib.hid hlast
  clear h hpl hlast hz hv
  by_cases h0 : p = 0
  · subst h0
    have hr := HZ.out rfl
    subst hr
    clear HZ HL
    go_enter Tryz.func194, Tryz.ntmps194
    go_wp2_with (go_at_call 196; refine HT.out.mono ?_; rintro e w' ⟨rfl, rfl⟩)
    go_ret
    exact ⟨rfl, rfl⟩
  · obtain ⟨b, o, rfl, _, hc⟩ := H3.out.at_ (by omega)
    have hx := hc (p - 1) (by omega)
    have hl := HL.out (p - 1) (by omega)
    have hlt := fit_getD hfit (p - 1)
    generalize ps.getD (p - 1) 0 = x at *
    have hb := Tryz.bits_Len64 x
    have e0 : Lib.bitLen x = bitLen x := lbl_eq x hlt
    have h64 : bitLen x ≤ 64 := by
      have := bitLen_spec x
      rw [← e0]
      exact Lib.bitLen_le x 64 (by omega) (by omega)
    rw [Int.toNat_natCast, e0] at hb
    have hr := hl.2
    generalize bitLen x = y at *
    subst hr
    have hne : ((p : Int) == 0) = false := by simp; omega
    have HB := Lib.hid hb
    clear hl hc hb HZ HL hp
    go_enter Tryz.func194, Tryz.ntmps194
    go_wp2_with (first
      | (go_at_call 196; refine HT.out.mono ?_; rintro e w' ⟨rfl, rfl⟩)
      | (go_at_call 100; refine (HB.out w (by omega) (by omega)).mono ?_; rintro e w' ⟨rfl, hw⟩; subst hw))
    go_ret
    exact ⟨ret_int (by omega), rfl⟩
end Go.Proofs.YtnkhhndjbanmnaaGreatDoor

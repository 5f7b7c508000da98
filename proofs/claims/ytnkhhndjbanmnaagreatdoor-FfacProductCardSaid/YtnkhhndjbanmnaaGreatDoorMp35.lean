/- Texts joined, in their order: FacW, FacR, FacO. -/
import Derived.Test.YtnkhhndjbanmnaaGreatDoorMp28
import Derived.Test.YtnkhhndjbanmnaaGreatDoorMp34

/- A matrix that is made row by row and written to, as it lies in memory; rests by a polynomial that are the same. -/
namespace Go.Proofs.YtnkhhndjbanmnaaGreatDoor
open Go.RowKit Go.Shelf

theorem wpList_make_rows {ops : Array Oper} {rest : List Oper} {o : Oper} {a : Act} {Q : Exit → Act → World → Prop} (w : World)
    (hg : o.guard = none) (l c : Operand) (hop : o.op = Op.makeSlice 31 l c) (kl kc : IntKind) (L C : Int) (n : Nat) (hl : a.eval l = .int kl L) (hc : a.eval c = .int kc C) (hL : L = (n : Int)) (hC : C = (n : Int)) (hn : n ≤ 1000000)
    (hK : ∀ w', VBlk w' w.heap.size (List.replicate n nilv) → Below w.heap.size w w' → wpList Tryz.prog ops Q rest (a.put o.dst (.slice (some ⟨w.heap.size, 0, none⟩) n n)) w') :
    wpList Tryz.prog ops Q (o :: rest) a w := by
  obtain ⟨i0, hi, hz0, hz1, hz2⟩ := info_parts infoV
  refine wpList_make_full w hg l c 31 hop w.heap.size 22 i0 _ 1 Tryz.underlying31 hi hz0 hz1 kl kc L C n hl hc hL hC (by rw [hz2]; omega) (by unfold maxLen; omega) (Nat.le_refl _) ?_
  intro w' ho hgr
  have hbel : Below w.heap.size w w' := (Below.refl _ _).grown hgr (Nat.le_refl _) (fun k e => by cases e)
  refine hK w' ⟨?_, fun v hv => ?_⟩ hbel
  · obtain ⟨h1, ⟨h2, _⟩ | ⟨g, cap, cur, hv, hb, hh, hn1, hn2, hs, ht⟩⟩ := ho
    · cases h2
    · simp only [Value.slice.injEq, Option.some.injEq, Addr.mk.injEq, and_true, true_and] at hv
      obtain ⟨rfl, rfl⟩ := hv
      have e1 : cur.toList = List.replicate n nilv := by
        rw [List.take_of_length_le (by simp [hs])] at ht
        rw [ht, show (Value.slice none 0 0).cells = #[Value.slice none 0 0] from rfl, toList_madeCells_one, Nat.mul_one]
        rfl
      rw [hh, show (List.replicate n nilv).toArray = cur from by rw [← e1]]
  · rw [List.eq_of_mem_replicate hv]
    exact ⟨none, 0, 0, rfl⟩

def rowV (d b : Nat) : Value := .slice (some ⟨b, 0, none⟩) d d
structure RBk (w : World) (B gm d r : Nat) (bs : Nat → Nat) (F : Nat → Nat → Int) : Prop where
  top : VBlk w gm ((List.range d).map fun i => if i < r then rowV d (bs i) else nilv)
  ge : B ≤ gm
  gt : ∀ i, i < r → gm < bs i
  inj : ∀ i j, i < r → j < r → bs i = bs j → i = j
  row : ∀ i, i < r → IBlk w (bs i) ((List.range d).map (F i))
theorem RBk.below {w w' : World} {B gm d r : Nat} {bs : Nat → Nat} {F : Nat → Nat → Int} (h : RBk w B gm d r bs F) (hb : Below w.heap.size w w') : RBk w' B gm d r bs F :=
  ⟨h.top.below hb, h.ge, h.gt, h.inj, fun i hi => (h.row i hi).below hb⟩
theorem RBk.congr {w : World} {B gm d r : Nat} {bs : Nat → Nat} {F G : Nat → Nat → Int} (h : RBk w B gm d r bs F) (e : ∀ i j, i < r → j < d → F i j = G i j) : RBk w B gm d r bs G :=
  ⟨h.top, h.ge, h.gt, h.inj, fun i hi => by
    rw [← List.map_congr_left fun j hj => e i j hi (List.mem_range.1 hj)]
    exact h.row i hi⟩
theorem rangeMap_set {α : Type} (g : Nat → α) (d j : Nat) (u : α) : ((List.range d).map g).set j u = (List.range d).map fun k => if k = j then u else g k := by
  apply List.ext_getElem (by simp)
  intro i h1 h2
  rw [List.getElem_set]
  simp only [List.getElem_map, List.getElem_range]
  by_cases e : i = j
  · rw [if_pos e.symm, if_pos e]
  · rw [if_neg fun k => e k.symm, if_neg e]
theorem RBk.start {w : World} {gm d : Nat} {B : Nat} (h : VBlk w gm (List.replicate d nilv)) (hB : B ≤ gm) (bs : Nat → Nat) (F : Nat → Nat → Int) : RBk w B gm d 0 bs F := by
  refine ⟨?_, hB, fun i hi => by omega, fun i j hi => by omega, fun i hi => by omega⟩
  have e : (List.range d).map (fun i => if i < 0 then rowV d (bs i) else nilv) = List.replicate d nilv := by
    apply List.ext_getElem (by simp)
    intro i h1 h2
    simp
  rw [e]; exact h
theorem isSl_row (d b : Nat) : IsSl (rowV d b) := ⟨_, _, _, rfl⟩
theorem RBk.new {w w5 : World} {B gm d r : Nat} {bs : Nat → Nat} {F : Nat → Nat → Int} (h : RBk w B gm d r bs F) (g : Nat) (hg : g = w.heap.size) (hz : ∀ j, j < d → F r j = 0) (hk : IBlk w5 g (List.replicate d 0)) (hb : Below w.heap.size w w5) : RBk (w5.setCell ⟨gm, r, none⟩ (rowV d g)) B gm d (r + 1) (fun k => if k = r then g else bs k) F := by
  have h5 := h.below hb
  have hgm := h.top.lt
  have hlt : ∀ i, i < r → bs i < w.heap.size := fun i hi => (h.row i hi).lt
  subst hg
  refine ⟨?_, h.ge, fun i hi => ?_, fun i j hi hj e => ?_, fun i hi => ?_⟩
  · have := h5.top.set_ r (rowV d w.heap.size) (isSl_row _ _)
    rw [rangeMap_set] at this
    have e : (List.range d).map (fun k => if k = r then rowV d w.heap.size else if k < r then rowV d (bs k) else nilv) = (List.range d).map fun i => if i < r + 1 then rowV d (if i = r then w.heap.size else bs i) else nilv := by
      refine List.map_congr_left fun k _ => ?_
      by_cases e : k = r
      · rw [if_pos e, if_pos (by omega), if_pos e]
      · rw [if_neg e, if_neg e]
        by_cases e2 : k < r
        · rw [if_pos e2, if_pos (by omega)]
        · rw [if_neg e2, if_neg (by omega)]
    rw [← e]; exact this
  · by_cases e : i = r
    · rw [if_pos e]; exact hgm
    · rw [if_neg e]; exact h.gt i (by omega)
  · by_cases e1 : i = r
    · by_cases e2 : j = r
      · omega
      · rw [if_pos e1, if_neg e2] at e
        have := hlt j (by omega)
        omega
    · by_cases e2 : j = r
      · rw [if_neg e1, if_pos e2] at e
        have := hlt i (by omega)
        omega
      · rw [if_neg e1, if_neg e2] at e
        exact h.inj i j (by omega) (by omega) e
  · by_cases e : i = r
    · rw [if_pos e]
      have e2 : (List.range d).map (F i) = List.replicate d 0 := by
        apply List.ext_getElem (by simp)
        intro j h1 h2
        simp only [List.getElem_map, List.getElem_range, List.getElem_replicate]
        rw [e]; exact hz j (by simpa using h1)
      rw [e2]
      exact hk.far (by show w.heap.size ≠ gm; omega) _
    · rw [if_neg e]
      have := h.gt i (by omega)
      exact (h5.row i (by omega)).far (by show bs i ≠ gm; omega) _
theorem RBk.set_ {w : World} {B gm d r : Nat} {bs : Nat → Nat} {F : Nat → Nat → Int} (h : RBk w B gm d r bs F) {i j : Nat} (hi : i < r) (u : Int) (hu : In64 u) : RBk (w.setCell ⟨bs i, j, none⟩ (iv u)) B gm d r bs (fun i' j' => if i' = i ∧ j' = j then u else F i' j') := by
  refine ⟨h.top.far (by show gm ≠ bs i; have := h.gt i hi; omega) _, h.ge, h.gt, h.inj, fun k hk => ?_⟩
  by_cases e : k = i
  · subst e
    have := (h.row k hk).set_ j u hu
    rw [rangeMap_set] at this
    have e2 : (List.range d).map (fun j' => if k = k ∧ j' = j then u else F k j') = (List.range d).map fun j' => if j' = j then u else F k j' := List.map_congr_left fun j' _ => by
      by_cases e3 : j' = j
      · rw [if_pos ⟨rfl, e3⟩, if_pos e3]
      · rw [if_neg fun h => e3 h.2, if_neg e3]
    rw [e2]; exact this
  · have e2 : (List.range d).map (fun j' => if k = i ∧ j' = j then u else F k j') = (List.range d).map (F k) := List.map_congr_left fun j' _ => by rw [if_neg fun h => e h.1]
    rw [e2]
    exact (h.row k hk).far (fun e3 => e (h.inj k i hk hi e3)) _
theorem RBk.topcell {w : World} {B gm d : Nat} {bs : Nat → Nat} {F : Nat → Nat → Int} (h : RBk w B gm d d bs F) {i : Nat} (hi : i < d) : w.cell? ⟨gm, i, none⟩ = some (.slice (some ⟨bs i, 0, none⟩) d d) := by
  rw [h.top.cell i (by simpa using hi)]
  simp only [List.getElem_map, List.getElem_range]
  rw [if_pos hi]; rfl
theorem RBk.rowcell {w : World} {B gm d r : Nat} {bs : Nat → Nat} {F : Nat → Nat → Int} (h : RBk w B gm d r bs F) {i j : Nat} (hi : i < r) (hj : j < d) : w.cell? ⟨bs i, j, none⟩ = some (iv (F i j)) := by
  rw [(h.row i hi).cell j (by simpa using hj)]
  simp only [List.getElem_map, List.getElem_range]
theorem RBk.mat {w : World} {B gm d : Nat} {bs : Nat → Nat} {F : Nat → Nat → Int} (h : RBk w B gm d d bs F) (hd : d ≤ 1000000) : MatAt w (some ⟨gm, 0, none⟩) d d ((List.range d).map fun i => (List.range d).map (F i)) := by
  have hs := h.top.sl (by simp; omega)
  simp only [List.length_map, List.length_range] at hs
  refine ⟨_, hs, by simp, fun i hi => ⟨some ⟨bs i, 0, none⟩, d, d, ?_, ?_⟩⟩
  · rw [List.getD_eq_getElem?_getD, List.getElem?_eq_getElem (by simpa using hi)]
    simp only [List.getElem_map, List.getElem_range, Option.getD_some]
    rw [if_pos hi]; rfl
  · have h2 := (h.row i hi).sl (by simp; omega)
    simp only [List.length_map, List.length_range] at h2
    rw [List.getD_eq_getElem?_getD, List.getElem?_eq_getElem (by simpa using hi)]
    simp only [List.getElem_map, List.getElem_range, Option.getD_some]
    exact h2
theorem RBk.gmlt {w : World} {B gm d r : Nat} {bs : Nat → Nat} {F : Nat → Nat → Int} (h : RBk w B gm d r bs F) : gm < w.heap.size := h.top.lt
theorem RBk.rlt {w : World} {B gm d r : Nat} {bs : Nat → Nat} {F : Nat → Nat → Int} (h : RBk w B gm d r bs F) {i : Nat} (hi : i < r) : bs i < w.heap.size := (h.row i hi).lt

theorem IBlk.cellO {w : World} {g : Nat} {L : List Int} (h : IBlk w g L) (i : Nat) : w.cell? ⟨g, i, none⟩ = (L.map iv)[i]? := by
  rw [cell_of_row w g i _ _ (0, 0) h.1]
  simp
theorem ISl.apart0 {p : Int} {w : World} {C : Option Addr} {m d g : Nat} {L Z : List Int} (h : ISl w C m d L) (hL : Pln p L) (hZ : IBlk w g Z) (h0 : ∀ z ∈ Z, z = 0) : ApO C L (some g) := by
  rcases hL.2 with e | hne
  · exact .inl e
  · refine .inr fun b o s e e2 => ?_
    simp only [Option.some.injEq] at e2
    have hm := h.len
    have hpos : 0 < L.length := by
      rcases Nat.eq_zero_or_pos L.length with k | k
      · exact absurd (cf_over (xs := L) (i := L.length - 1) (by omega)) hne
      · exact k
    obtain ⟨b', o', e3, _, hc⟩ := h.at_ (by omega)
    rw [e3] at e
    simp only [Option.some.injEq, Addr.mk.injEq] at e
    obtain ⟨rfl, rfl, _⟩ := e
    have h1 := hc (L.length - 1) (by omega)
    rw [e2, hZ.cellO, List.getElem?_map] at h1
    cases hz : Z[o' + (L.length - 1)]? with
    | none => rw [hz] at h1; cases h1
    | some z =>
      rw [hz] at h1
      have hz0 := h0 z (List.mem_of_getElem? hz)
      simp only [Option.map_some, Option.some.injEq, iv, Value.int.injEq, true_and] at h1
      exact hne (h1.symm.trans hz0)
theorem ISl.set_far {w : World} {C : Option Addr} {m d b o : Nat} {L : List Int} (h : ISl w C m d L) (ha : ApO C L (some b)) (u : Value) : ISl (w.setCell ⟨b, o, none⟩ u) C m d L := h.grownO (grown_set w b o u) ha

/-! Rests by a polynomial. -/
theorem rem_pol {p : Int} {a b : Ser} {m : Nat} (hp : Pr p) (hl : Last p b m) (ha : Fini p a) : Pln p (remL p a b) ∧ (remL p a b).length ≤ m := by
  obtain ⟨q, r, hq, hd, _, h2⟩ := quo_rem hp hl ha
  exact ⟨h2.1, h2.1.len_le (by have := hp.1; omega) (hd.2.eq h2.2.symm)⟩
theorem rem_one {p : Int} {a b : Ser} {m : Nat} (hp : Pr p) (hl : Last p b m) (ha : Fini p a) {ys : List Int} (hy : Pln p ys) (hlen : ys.length ≤ m) (h : Mult p b (Ser.add a (Ser.sc (-1) (cf ys)))) : remL p a b = ys := by
  have h1 := rm_mult hp hl ha
  obtain ⟨k1, k2⟩ := rem_pol hp hl ha
  refine k1.uniq hy (by have := hp.1; omega) (eq_of_sub (mult_small hp hl ?_ ?_))
  · refine (h.add (h1.1.sc (c := -1))).eqR (Ser.Eq.of (funext fun i => ?_))
    show a i + -1 * cf ys i + -1 * (a i + -1 * cf (remL p a b) i) = cf (remL p a b) i - cf ys i
    omega
  · exact h1.2.sub fun i hi => by rw [cf_over (by omega)]; simp
theorem rem_same {p : Int} {a a' b : Ser} {m : Nat} (hp : Pr p) (hl : Last p b m) (ha : Fini p a) (ha' : Fini p a') (h : Mult p b (Ser.add a (Ser.sc (-1) a'))) : remL p a b = remL p a' b := by
  obtain ⟨k1, k2⟩ := rem_pol hp hl ha'
  refine rem_one hp hl ha k1 k2 ((h.add (rm_mult hp hl ha').1).eqR (Ser.Eq.of (funext fun i => ?_)))
  show a i + -1 * a' i + (a' i + -1 * cf (remL p a' b) i) = a i + -1 * cf (remL p a' b) i
  omega
theorem cf_x : cf [0, 1] = Ser.mono 1 1 := by
  funext i
  match i with
  | 0 => rfl
  | 1 => rfl
  | i + 2 => rw [cf_over (by simp)]; show (0 : Int) = if i + 2 = 1 then 1 else 0; rw [if_neg (by omega)]
theorem colL_zero {p : Int} {w : List Int} {n : Nat} (hp : Pr p) (hl : Last p (cf w) n) (hn : 1 ≤ n) : colL p w 0 = [1] := by
  refine rem_one hp hl (mono_fini p _) (pol_one hp).1 hn (Mult.nought fun i _ => ?_)
  rw [Nat.mul_zero, cf_oneL]
  show ((if i = 0 then (1 : Int) else 0) + -1 * (if i = 0 then 1 else 0)) % p = 0
  by_cases hi : i = 0
  · rw [if_pos hi]; rfl
  · rw [if_neg hi]; rfl
theorem colL_next {p : Int} {w : List Int} {n : Nat} (hp : Pr p) (hl : Last p (cf w) n) (j : Nat) : remL p (cf (polL p (Ser.mul (cf (colL p w j)) (cf (powL p 1 p.toNat (cf [0, 1]) (cf w)))))) (cf w) = colL p w (j + 1) := by
  have f1 := fini_cf p (colL p w j)
  have f2 := fini_cf p (powL p 1 p.toNat (cf [0, 1]) (cf w))
  have hs : Mult p (cf w) (Ser.add (Ser.mono 1 p.toNat) (Ser.sc (-1) (cf (powL p 1 p.toNat (cf [0, 1]) (cf w))))) := by
    obtain ⟨u, hu, hd⟩ := pow_rest hp hl (fini_cf p [0, 1]) p.toNat
    refine (Mult.byL (Mult.refl p (cf w)) hu).eqR fun i => ?_
    have e := hd.1 i
    rw [cf_x, pw_mono] at e
    have e2 : Ser.mono 1 p.toNat i % p = (Ser.mul u (cf w) i + cf (powL p 1 p.toNat (cf [0, 1]) (cf w)) i) % p := by rw [e, cf_x]; rfl
    have e3 := Int.emod_eq_emod_iff_emod_sub_eq_zero.1 e2.symm
    refine Int.emod_eq_emod_iff_emod_sub_eq_zero.2 (Eq.trans (congrArg (· % p) ?_) e3)
    show _ - (_ + -1 * cf (powL p 1 p.toNat (cf [0, 1]) (cf w)) i) = _
    omega
  have hc : Mult p (cf w) (Ser.add (Ser.mono 1 (p.toNat * j)) (Ser.sc (-1) (cf (colL p w j)))) := (rm_mult hp hl (mono_fini p (p.toNat * j))).1
  refine rem_same hp hl (fini_cf p _) (mono_fini p _) ?_
  have e := cf_polL hp (f1.mul f2)
  have h1 : Mult p (cf w) (Ser.add (Ser.mono 1 (p.toNat * (j + 1))) (Ser.sc (-1) (Ser.mul (cf (colL p w j)) (cf (powL p 1 p.toNat (cf [0, 1]) (cf w)))))) := by
    have k1 := hc.byR (mono_fini p p.toNat)
    have k2 := hs.byL f1
    refine (k1.add k2).eqR (Ser.Eq.of ?_)
    clear k1 k2 e hc hs f1 f2
    generalize cf (colL p w j) = C
    generalize cf (powL p 1 p.toNat (cf [0, 1]) (cf w)) = D
    rw [Ser.add_mul, Ser.mul_add, ← pw_mono (p.toNat * j), ← pw_mono p.toNat, ← Ser.pw_add, ← pw_mono (p.toNat * (j + 1)), Nat.mul_succ, Ser.sc_mul, Ser.mul_comm C (Ser.sc _ _), Ser.sc_mul, Ser.mul_comm D C, Ser.pw_add]
    funext i
    show Ser.mul _ _ i + -1 * Ser.mul C (Ser.pw (Ser.mono 1 1) p.toNat) i + (Ser.mul C (Ser.pw (Ser.mono 1 1) p.toNat) i + -1 * Ser.mul C D i) = Ser.mul _ _ i + -1 * Ser.mul C D i
    omega
  refine (h1.sc (c := -1)).eqR fun i => ?_
  have e1 := e i
  show -1 * (Ser.mono 1 (p.toNat * (j + 1)) i + -1 * Ser.mul (cf (colL p w j)) _ i) % p = (cf (polL p _) i + -1 * Ser.mono 1 (p.toNat * (j + 1)) i) % p
  rw [show -1 * (Ser.mono 1 (p.toNat * (j + 1)) i + -1 * Ser.mul (cf (colL p w j)) (cf (powL p 1 p.toNat (cf [0, 1]) (cf w))) i) = Ser.mul (cf (colL p w j)) (cf (powL p 1 p.toNat (cf [0, 1]) (cf w))) i + -1 * Ser.mono 1 (p.toNat * (j + 1)) i from by omega, Int.add_emod, ← e1, ← Int.add_emod]
end Go.Proofs.YtnkhhndjbanmnaaGreatDoor

/- ffac.raising by contract: the matrix of the p-th powers by a polynomial. -/
namespace Go.Proofs.YtnkhhndjbanmnaaGreatDoor
open Go.RowKit Go.Shelf

theorem powL_pln {p : Int} {f b : Ser} {m : Nat} (hp : Pr p) (hl : Last p b m) (hf : Fini p f) (V : Nat) : Pln p (powL p 1 V f b) ∧ (powL p 1 V f b).length ≤ m := by
  have h := pow_rest hp hl hf V
  have e := pow_is hp hl h
  have hP := polL_pol hp (fini_cf p (powL p 1 V f b))
  rw [← e] at hP
  obtain ⟨q, _, hd⟩ := h
  exact ⟨hP.1, hP.1.len_le (by have := hp.1; omega) hd.2⟩
noncomputable def Fm2 (p : Int) (xs : List Int) (at_ row : Nat) (i j : Nat) : Int := if j < at_ ∨ (j = at_ ∧ i < row) then cf (colL p xs j) i else 0
theorem fm2_zero (p : Int) (xs : List Int) (i j : Nat) : (0 : Int) = Fm2 p xs 0 0 i j := by unfold Fm2; rw [if_neg (by omega)]
theorem fm2_set (p : Int) (xs : List Int) (at_ row i j : Nat) : (if i = row ∧ j = at_ then cf (colL p xs at_) row else Fm2 p xs at_ row i j) = Fm2 p xs at_ (row + 1) i j := by
  unfold Fm2
  by_cases h : i = row ∧ j = at_
  · obtain ⟨rfl, rfl⟩ := h
    rw [if_pos ⟨rfl, rfl⟩, if_pos (by omega)]
  · rw [if_neg h]
    by_cases h2 : j < at_ ∨ (j = at_ ∧ i < row)
    · rw [if_pos h2, if_pos (by omega)]
    · rw [if_neg h2, if_neg (by omega)]
theorem fm2_next (p : Int) (xs : List Int) {at_ m : Nat} (hm : (colL p xs at_).length ≤ m) (i j : Nat) : Fm2 p xs at_ m i j = Fm2 p xs (at_ + 1) 0 i j := by
  unfold Fm2
  by_cases h : j < at_ + 1 ∨ (j = at_ + 1 ∧ i < 0)
  · rw [if_pos h]
    by_cases h2 : j < at_ ∨ (j = at_ ∧ i < m)
    · rw [if_pos h2]
    · rw [if_neg h2]
      obtain rfl : j = at_ := by omega
      rw [cf_over (by omega)]
  · rw [if_neg h, if_neg (by omega)]
theorem fm2_all (p : Int) (xs : List Int) {d i j : Nat} (hj : j < d) : Fm2 p xs d 0 i j = cf (colL p xs j) i := if_pos (.inl hj)
structure RCol (p : Int) (xs : List Int) (w wr : World) (gm d : Nat) (bs : Nat → Nat) (Cs : Option Addr) (ms ds : Nat) (SL : List Int) (at_ : Nat) (C : Option Addr) (m d' : Nat) (L : List Int) : Prop where
  il : ISl wr C m d' L
  ap : ∀ i, i < d → ApO C L (some (bs i))
  is_ : at_ < d → L = colL p xs at_
  le : L.length ≤ 64
  rb : RBk wr gm gm d d bs (Fm2 p xs at_ 0)
  st : ISl wr Cs ms ds SL
  be : Below w.heap.size w wr
structure RIn (p : Int) (xs : List Int) (w wr : World) (gm d : Nat) (bs : Nat → Nat) (Cs : Option Addr) (ms ds : Nat) (SL : List Int) (at_ : Nat) (C : Option Addr) (m d' : Nat) (L : List Int) (t : Nat) : Prop where
  il : ISl wr C m d' L
  rb : RBk wr gm gm d d bs (Fm2 p xs at_ t)
  st : ISl wr Cs ms ds SL
  be : Below w.heap.size w wr

set_option maxRecDepth 100000 in
set_option maxHeartbeats 4000000 in
theorem gRaising (A : Option Addr) (c d : Nat) (xs : List Int) (p : Int) (w : World) (hT : TabAt w) (h : ISl w A (d + 1) c xs) (hp : Pr p) (hx : Mn p xs) (hd : d ≤ 64) :
    Calls Tryz.prog 66 #[.slice A (d + 1) c, .int .i64 p] w fun e w' => ∃ gm bs, e = .returned (.slice (some ⟨gm, 0, none⟩) d d) ∧ RBk w' w.heap.size gm d d bs (fun i j => cf (colL p xs j) i) ∧ Below w.heap.size w w' := by
  have hcl := h.le
  have hcm := h.max
  have hl : Last p (cf xs) d := by have := hx.last; rwa [← h.len, Nat.add_sub_cancel] at this
  have H := Lib.hid h
  have HT := Lib.hid hT
  have PR := Lib.hid hp
  have HL := Lib.hid hl
  clear h hT hp hx hl
  go_enter Tryz.func66, Tryz.ntmps66
  go_wp2_with (at_make; refine wpList_make_rows _ rfl _ _ rfl _ _ _ _ d rfl rfl rfl rfl (by omega) ?_; intro w3 hk3 hb3; have HK3 := Lib.hid hk3; have HB3 := Lib.hid hb3; clear hk3 hb3)
  obtain ⟨gm, hgm⟩ : ∃ g, w.heap.size = g := ⟨_, rfl⟩
  have HGM := Lib.hid hgm
  rw [hgm] at HK3 ⊢
  clear hgm
  go_loopw [20] (fun i wr => ∃ r : Nat, r ≤ d ∧ i = .int .i64 (r : Int) ∧ ∃ bs, Hid (RBk wr gm gm d r bs fun _ _ => 0) ∧ Hid (Below w.heap.size w wr)) (fun i _ => d - (intOf i).toNat)
  case atStart => exact ⟨0, Nat.zero_le _, rfl, fun _ => 0, Lib.hid (RBk.start HK3.out (Nat.le_refl _) _ _), HB3⟩
  case round =>
    clear HK3 HB3
    obtain ⟨r, hr, rfl, bs, hR, hbel⟩ := hrel
    by_cases hlt : r < d
    · have i1 : (0 : Int) ≤ (r : Int) := by omega
      have i2 : (r : Int) < (d : Int) := by omega
      have hgl := hR.out.gmlt
      have hff := hR.out.top.frozen r
      have hgc := hR.out.top.cell r (by simpa using hlt)
      obtain ⟨wo, rfl⟩ : ∃ wo, wo = wr := ⟨wr, rfl⟩
      go_wp2_with (at_make; refine wpList_make_ints _ rfl _ _ rfl _ _ _ _ d rfl rfl rfl rfl (by omega) ?_; intro w5 hk5 hb5; have h5 := (hR.out.below hb5).top; have hc5 := h5.cell r (by simpa using hlt); have hf5 := h5.frozen r; have HK5 := Lib.hid hk5; have HB5 := Lib.hid hb5; clear hk5 hb5 h5 hff hgc)
      go_roundw
      case rel => exact ⟨r + 1, by omega, by go_num, _, Lib.hid (hR.out.new _ rfl (fun _ _ => rfl) HK5.out HB5.out), Lib.hid ((below_to hbel.out HB5.out).setCell (p := ⟨gm, r, none⟩) (by rw [← HGM.out]; exact Nat.le_refl _) _)⟩
      case measure => simp [intOf]; omega
    · obtain rfl : d = r := by omega
      have e9 : ((p.toNat : Nat) : Int) = p := Int.toNat_of_nonneg (by have := PR.out.1; omega)
      have hP9 : p.toNat ≤ 1000000 := by have := PR.out.2.1; omega
      obtain ⟨o1, ho1⟩ : ∃ o, Obj.cells #[Value.int .i64 1] 3 = o := ⟨_, rfl⟩
      obtain ⟨o2, ho2⟩ : ∃ o, Obj.cells #[Value.int .i64 0, Value.int .i64 1] 3 = o := ⟨_, rfl⟩
      have b1 : Below wr.heap.size wr (wr.alloc o1) := below_al _ _
      have b2 : Below wr.heap.size wr ((wr.alloc o1).alloc o2) := b1.alloc b1.size _
      have k1 : IBlk ((wr.alloc o1).alloc o2) wr.heap.size [1] := by
        rw [← ho1]
        exact (iblk_list wr [1] (fi_one (by unfold In64; omega))).alloc _
      have k2 : IBlk ((wr.alloc o1).alloc o2) (wr.alloc o1).heap.size [0, 1] := by
        rw [← ho2]
        exact iblk_list (wr.alloc o1) [0, 1] (fi_append (xs := [0]) (fi_one (by unfold In64; omega)) (fi_one (by unfold In64; omega)))
      have s1 : (wr.alloc o1).heap.size = wr.heap.size + 1 := by simp
      rw [s1] at k2
      have PW := gPower (some ⟨wr.heap.size + 1, 0, none⟩) A 2 2 (d + 1) c p.toNat [0, 1] xs p ((wr.alloc o1).alloc o2) (HT.out.below (below_to hbel.out b2)) (k2.sl (by decide)) (H.out.below (below_to hbel.out b2)) PR.out.md.in64 (by omega) (by omega) hP9
      rw [e9] at PW
      have PWR := Lib.hid PW
      have K1 := Lib.hid k1
      have B2 := Lib.hid b2
      have R2 := Lib.hid (hR.out.below b2)
      rw [← ho1, ← ho2] at PWR K1 B2 R2
      clear PW k1 k2 b1 b2 s1 ho1 ho2 o1 o2 e9 hP9
      go_wp2_with (go_at_call 88; (with_reducible refine PWR.out.mono ?_); rintro e w4 ⟨Cs, ms, ds, rfl, hg⟩; have HG := Lib.hid hg; clear hg)
      have hl := HL.out
      have f9 := powL_pln PR.out hl (fini_cf p [0, 1]) p.toNat
      have NX := Lib.hid (fun j => colL_next PR.out hl j)
      have hg := HG.out
      have b4 := below_to B2.out hg.2.2
      have R4 := R2.out.below hg.2.2
      obtain ⟨SL, hSL⟩ : ∃ L, powL p 1 p.toNat (cf [0, 1]) (cf xs) = L := ⟨_, rfl⟩
      rw [hSL] at f9 NX hg
      have AS := Lib.hid (fun i (hi : i < d) => hg.1.apart0 f9.1 (R4.row i hi) (fun z hz => by
        obtain ⟨_, _, e⟩ := List.mem_map.1 hz
        exact e.symm))
      have ST := Lib.hid hg.1
      have I4 := K1.out.below hg.2.2
      have RC : RCol p xs w w4 gm d bs Cs ms ds SL 0 (some ⟨wr.heap.size, 0, none⟩) 1 1 [1] :=
        ⟨I4.sl (by decide), fun i hi => .inr fun b o s e e2 => by
          have := hR.out.rlt hi
          simp only [Option.some.injEq, Addr.mk.injEq] at e e2
          omega, fun h0 => (colL_zero PR.out hl (by omega)).symm, by decide, R4.congr fun i j _ _ => fm2_zero p xs i j, hg.1, below_to hbel.out b4⟩
      have HRC := Lib.hid RC
      have HMS := Lib.hid (show ms ≤ 65 by have := hg.2.1; omega)
      clear RC I4 ST hg b4 R4 f9 hSL HG PWR K1 B2 R2 hl
      generalize wr.heap.size = g1 at *
      clear hR hbel hr hlt
      go_loopw [36, 8] (fun i v wr => ∃ t : Nat, t ≤ d ∧ i = .int .i64 (t : Int) ∧ ∃ C m d' L, v = .slice C m d' ∧ Hid (RCol p xs w wr gm d bs Cs ms ds SL t C m d' L)) (fun i _ _ => d - (intOf i).toNat)
      case atStart => exact ⟨0, Nat.zero_le _, rfl, _, _, _, _, rfl, HRC⟩
      case round =>
        clear HRC
        obtain ⟨a, ha, rfl, C, m, d', L, rfl, HC⟩ := hrel
        by_cases hlt : a < d
        · have i1 : (0 : Int) ≤ (a : Int) := by omega
          have i2 : (a : Int) < (d : Int) := by omega
          have hc := HC.out
          have hle := hc.le
          have hml := hc.il.len
          have hm64 : m ≤ 64 := by omega
          have HEQ := Lib.hid (hc.is_ hlt)
          have HML := Lib.hid hml
          have HAP := Lib.hid hc.ap
          have HIN : Hid (RIn p xs w wr gm d bs Cs ms ds SL a C m d' L 0) := Lib.hid ⟨hc.il, hc.rb, hc.st, hc.be⟩
          have hLd : Hid (m ≤ d) := Lib.hid (by
            have := rem_pol PR.out HL.out (mono_fini p (p.toNat * a))
            rw [hml, HEQ.out]
            exact this.2)
          clear hc HC hle hml
          obtain ⟨wo, rfl⟩ : ∃ wo, wo = wr := ⟨wr, rfl⟩
          go_wp2_with fail
          go_loopw [41] (fun i wr => ∃ t : Nat, t ≤ m ∧ i = .int .i64 (t : Int) ∧ Hid (RIn p xs w wr gm d bs Cs ms ds SL a C m d' L t)) (fun i _ => m - (intOf i).toNat)
          case atStart => exact ⟨0, Nat.zero_le _, rfl, HIN⟩
          case round =>
            clear HIN
            obtain ⟨t, ht, rfl, HI⟩ := hrel
            by_cases htm : t < m
            · have htd : t < d := by have := hLd.out; omega
              have hi := HI.out
              obtain ⟨bc, oc, rfl, hbc, hcc⟩ := hi.il.at_ (by omega)
              have c1 := hcc t htm
              have c2 := hi.rb.topcell htd
              have c3 := hi.rb.rowcell htd hlt
              have c4 := (hi.rb.row t htd).frozen a
              have hgl := hi.rb.gmlt
              have hrl := hi.rb.rlt htd
              have hcf : L.getD t 0 = cf (colL p xs a) t := by rw [← HEQ.out]; rfl
              have hfi : In64 (L.getD t 0) := fi_getD hi.il.fit t
              obtain ⟨x, hx⟩ : ∃ x, L.getD t 0 = x := ⟨_, rfl⟩
              rw [hx] at c1 hcf hfi
              have HX := Lib.hid hcf
              have HF := Lib.hid hfi
              have j1 : (0 : Int) ≤ (t : Int) := by omega
              have j2 : (t : Int) < (m : Int) := by omega
              have j3 : (t : Int) < (d : Int) := by omega
              obtain ⟨y, hy⟩ : ∃ y, Fm2 p xs a t t a = y := ⟨_, rfl⟩
              rw [hy] at c3
              obtain ⟨bt, hbt⟩ : ∃ b, bs t = b := ⟨_, rfl⟩
              have HBT := Lib.hid hbt
              rw [hbt] at c2 c3 c4 hrl
              clear hi hcc hcf hfi hx hy hbt
              go_wp2_with fail
              go_roundw
              case rel =>
                refine ⟨t + 1, by omega, by go_num, Lib.hid ?_⟩
                have hi := HI.out
                rw [← HBT.out]
                have hap := HAP.out t htd
                refine ⟨hi.il.set_far hap _, (hi.rb.set_ htd x HF.out).congr fun i j _ _ => ?_, hi.st.set_far (AS.out t htd) _, hi.be.setCell (p := ⟨bs t, a, none⟩) (Nat.le_trans (by rw [HGM.out]; exact Nat.le_refl _) (Nat.le_of_lt (hi.rb.gt t htd))) _⟩
                rw [HX.out]
                exact fm2_set p xs a t i j
              case measure => simp [intOf]; omega
            · obtain rfl : m = t := by omega
              have hi := HI.out
              have bel := hi.be
              have T1 := Lib.hid (gTimes C Cs m d' ms ds L SL p wr (HT.out.below bel) hi.il hi.st PR.out.md.in64 (by omega) (by have := HMS.out; omega))
              have T2 := Lib.hid (fun (C2 : Option Addr) (m2 d2 : Nat) (L2 : List Int) (W : World) (hb : Below wr.heap.size wr W) (h2 : ISl W C2 m2 d2 L2) (hm : m2 ≤ 1000) => gRest C2 A m2 d2 (d + 1) c L2 xs p W (HT.out.below (below_to bel hb)) h2 (H.out.below (below_to bel hb)) PR.out.md.in64 hm (by omega))
              have HI2 := Lib.hid hi
              clear hi bel HI
              go_wp2_with (first
                | (go_at_call 105; (with_reducible refine T1.out.mono ?_); rintro e w5 ⟨C5, m5, d5, rfl, hg⟩; have HG5 := Lib.hid hg.bel; have T3 := Lib.hid (T2.out C5 m5 d5 _ w5 hg.bel hg.isl (Nat.le_trans hg.2.1 (by have := HMS.out; omega))); clear hg)
                | (go_at_call 57; (with_reducible refine T3.out.mono ?_); rintro e w6 ⟨C6, m6, d6, rfl, hg, hf⟩; have HG6 := Lib.hid hg; have HF6 := Lib.hid hf; clear hg hf))
              refine ⟨⟨a + 1, by omega, by go_num, C6, m6, d6, colL p xs (a + 1), rfl, Lib.hid ?_⟩, by simp [intOf]; omega⟩
              have hi := HI2.out
              have hg := HG6.out
              have b6 := below_to HG5.out hg.2.2
              have hnx := NX.out a
              rw [← HEQ.out] at hnx
              rw [hnx] at hg
              exact ⟨hg.1, fun i hi' => .inr fun b o s e e2 => by
                have h1 := hi.rb.rlt hi'
                have h2 := HF6.out b o s e
                have h3 := HG5.out.size
                simp only [Option.some.injEq] at e2
                omega, fun _ => rfl, Nat.le_trans (rem_pol PR.out HL.out (mono_fini p _)).2 hd, (hi.rb.below b6).congr fun i j _ _ => fm2_next p xs (by rw [← HEQ.out, ← HML.out]; exact Nat.le_refl _) i j, hi.st.below b6, below_to hi.be b6⟩
        · obtain rfl : d = a := by omega
          go_wp2_with fail
          go_ret
          have hc := HC.out
          rw [HGM.out]
          exact ⟨_, _, rfl, hc.rb.congr fun i j _ hj => fm2_all p xs hj, by have := hc.be; rwa [HGM.out] at this⟩
end Go.Proofs.YtnkhhndjbanmnaaGreatDoor

/- ffac.ownPowers by contract: a basis of what is its own p-th power. -/
namespace Go.Proofs.YtnkhhndjbanmnaaGreatDoor
open Go.RowKit Go.Shelf

theorem ech_there {A : Option Addr} {n c nc : Nat} {M : List (List Int)} {p : Int} {w : World} (hT : TabAt w) (h : MatAt w A n c M) (hr : Right p M) (hnc : ∀ i, i < M.length → (M.getD i []).length = nc) (hc64 : nc ≤ 64) : EchOf p nc M (echP p nc M) := by
  have hn64 : n ≤ 64 := by rw [h.len]; exact hr.2.1
  obtain ⟨e, w', fr, ⟨v, _, P, A1, m1, c1, _, _, h1, h2, h3, _⟩, _⟩ := fEch_any A n c nc M p w hT h hr.1 hn64 hnc hc64 []
  have e := echP_eq hr.1.1 (⟨h1, h2, h3⟩ : EchOf p nc M P)
  rw [e]
  exact ⟨h1, h2, h3⟩
noncomputable def ownP (p : Int) (xs : List Int) (d : Nat) : List (Nat × List Int) := echP p d (ownM p xs d)
noncomputable def ownL (p : Int) (xs : List Int) (d : Nat) : List (List Int) := nulL p d (ownP p xs d) d
theorem ownM_len (p : Int) (xs : List Int) (d : Nat) : (ownM p xs d).length = d := by simp [ownM]
theorem ownM_row (p : Int) (xs : List Int) (d : Nat) {i : Nat} (hi : i < d) : ((ownM p xs d).getD i []).length = d := by
  unfold ownM
  rw [List.getD_eq_getElem?_getD, List.getElem?_eq_getElem (by simpa using hi)]
  simp
theorem ownM_right {p : Int} (hp : Pr p) (xs : List Int) {d : Nat} (hd : d ≤ 64) : Right p (ownM p xs d) := by
  refine ⟨hp, by rw [ownM_len]; exact hd, fun i hi => ?_⟩
  rw [ownM_len] at hi
  rw [ownM_row p xs d hi, ownM_row p xs d (by omega)]
  exact ⟨hd, rfl⟩
theorem ownM_ok {p : Int} (hp : Pr p) (xs : List Int) {d : Nat} (hd : d ≤ 64) : NulOk p (ownM p xs d) (d : Int) := by
  refine ⟨ownM_right hp xs hd, by omega, by omega, fun h => ?_⟩
  rw [ownM_len] at h
  unfold cols
  rw [ownM_row p xs d h]
noncomputable def Fo (p : Int) (xs : List Int) (t i j : Nat) : Int := cf (colL p xs j) i - (if j = i ∧ i < t then 1 else 0)
theorem fo_zero (p : Int) (xs : List Int) (i j : Nat) : cf (colL p xs j) i = Fo p xs 0 i j := by unfold Fo; rw [if_neg (by omega)]; omega
theorem fo_set (p : Int) (xs : List Int) (t i j : Nat) : (if i = t ∧ j = t then cf (colL p xs t) t - 1 else Fo p xs t i j) = Fo p xs (t + 1) i j := by
  unfold Fo
  by_cases h : i = t ∧ j = t
  · obtain ⟨rfl, rfl⟩ := h
    rw [if_pos ⟨rfl, rfl⟩, if_pos ⟨rfl, by omega⟩]
  · rw [if_neg h]
    by_cases h2 : j = i ∧ i < t
    · rw [if_pos h2, if_pos (by omega)]
    · rw [if_neg h2, if_neg (by omega)]
theorem fo_all (p : Int) (xs : List Int) (d : Nat) : ((List.range d).map fun i => (List.range d).map (Fo p xs d i)) = ownM p xs d := by
  unfold ownM
  refine List.map_congr_left fun i hi => List.map_congr_left fun j hj => ?_
  have hi := List.mem_range.1 hi
  unfold Fo
  by_cases h : j = i
  · rw [if_pos ⟨h, hi⟩, if_pos h]
  · rw [if_neg fun k => h k.1, if_neg h]
theorem fo_at (p : Int) (xs : List Int) (t : Nat) : Fo p xs t t t = cf (colL p xs t) t := by unfold Fo; rw [if_neg (by omega)]; omega

set_option maxRecDepth 100000 in
set_option maxHeartbeats 2000000 in
theorem gOwn (A : Option Addr) (c d : Nat) (xs : List Int) (p : Int) (w : World) (hT : TabAt w) (h : ISl w A (d + 1) c xs) (hp : Pr p) (hx : Mn p xs) (hd : d ≤ 64) :
    Calls Tryz.prog 38 #[.slice A (d + 1) c, .int .i64 p] w fun e w' => ∃ A k c, e = .returned (.slice A k c) ∧ MatAt w' A k c (ownL p xs d) ∧ EchOf p d (ownM p xs d) (ownP p xs d) ∧ Below w.heap.size w w' := by
  have hcl := h.le
  have hcm := h.max
  have hl : Last p (cf xs) d := by have := hx.last; rwa [← h.len, Nat.add_sub_cancel] at this
  have RA := Lib.hid (gRaising A c d xs p w hT h hp hx hd)
  have HT := Lib.hid hT
  have PR := Lib.hid hp
  have HL := Lib.hid hl
  clear h hT hp hx hl
  go_enter Tryz.func38, Tryz.ntmps38
  go_wp2_with (go_at_call 66; (with_reducible refine RA.out.mono ?_); rintro e w1 ⟨gm, bs, rfl, hr, hb⟩; have HR := Lib.hid (hr.congr fun i j _ _ => fo_zero p xs i j); have HB := Lib.hid hb; clear hr hb)
  go_loopw [14] (fun i wr => ∃ t : Nat, t ≤ d ∧ i = .int .i64 (t : Int) ∧ Hid (RBk wr w.heap.size gm d d bs (Fo p xs t)) ∧ Hid (Below w.heap.size w wr)) (fun i _ => d - (intOf i).toNat)
  case atStart => exact ⟨0, Nat.zero_le _, rfl, HR, HB⟩
  case round =>
    clear HR HB RA
    obtain ⟨t, ht, rfl, hR, hB⟩ := hrel
    by_cases htd : t < d
    · have hi := hR.out
      have c2 := hi.topcell htd
      have c3 := hi.rowcell htd htd
      have c4 := (hi.row t htd).frozen t
      have hgl := hi.gmlt
      have hrl := hi.rlt htd
      have j1 : (0 : Int) ≤ (t : Int) := by omega
      have j3 : (t : Int) < (d : Int) := by omega
      have hpl := (rem_pol PR.out HL.out (mono_fini p (p.toNat * t))).1.1.at (by have := PR.out.1; omega) t
      have hp9 := PR.out.2.1
      rw [fo_at] at c3
      obtain ⟨x, hx⟩ : ∃ x, cf (colL p xs t) t = x := ⟨_, rfl⟩
      have hxb : 0 ≤ x ∧ x < p := by rw [← hx]; exact hpl
      have HX := Lib.hid hx
      rw [hx] at c3
      obtain ⟨bt, hbt⟩ : ∃ b, bs t = b := ⟨_, rfl⟩
      have HBT := Lib.hid hbt
      rw [hbt] at c2 c3 c4 hrl
      have hw : IntKind.i64.wrap (x - 1) = x - 1 := by rw [IntKind.wrap_i64]; omega
      have HI6 := Lib.hid (show In64 (x - 1) by unfold In64; omega)
      clear hi hpl hx hbt hp9 hxb
      go_wp2_with fail
      go_roundw
      case rel =>
        refine ⟨t + 1, by omega, by go_num, Lib.hid ?_, Lib.hid ?_⟩
        · have hi := hR.out
          rw [← HBT.out]
          refine (hi.set_ htd (x - 1) HI6.out).congr fun i j _ _ => ?_
          rw [← HX.out]
          exact fo_set p xs t i j
        · have hi := hR.out
          rw [← HBT.out]
          exact hB.out.setCell (p := ⟨bs t, t, none⟩) (Nat.le_trans hi.ge (Nat.le_of_lt (hi.gt t htd))) _
      case measure => simp [intOf]; omega
    · obtain rfl : d = t := by omega
      have hm := hR.out.mat (by omega)
      rw [fo_all] at hm
      have hok := ownM_ok PR.out xs hd
      have NU := fNull_any (some ⟨gm, 0, none⟩) d d (ownM p xs d) (d : Int) p wr (HT.out.below hB.out) hm PR.out.md.in64
      rw [codeP_yes hok, show nulV' p (ownM p xs d) (d : Int) = ownL p xs d from by unfold nulV'; rw [ansB_yes hok, Int.toNat_natCast]; rfl] at NU
      have EC := Lib.hid (ech_there (HT.out.below hB.out) hm (ownM_right PR.out xs hd) (nc := d) (fun i hi => ownM_row p xs d (by rwa [ownM_len] at hi)) hd)
      have NN := Lib.hid NU
      clear NU hm hok hR
      go_wp2_with (go_at_call 67; (with_reducible refine NN.out.mono ?_); rintro e w2 ⟨A2, k2, c2, rfl, hm, hb⟩; have HM := Lib.hid hm; have HB2 := Lib.hid hb; clear hm hb)
      go_ret
      exact ⟨A2, k2, c2, rfl, HM.out, EC.out, below_to hB.out HB2.out⟩
end Go.Proofs.YtnkhhndjbanmnaaGreatDoor

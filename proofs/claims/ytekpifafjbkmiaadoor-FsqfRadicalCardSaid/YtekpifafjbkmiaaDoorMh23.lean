/- Texts joined, in their order: FsqTop. -/
import Derived.Test.YtekpifafjbkmiaaDoorMh22

/- fsqf's three calls by contract, their answers named by what they are given. -/
namespace Go.Proofs.YtekpifafjbkmiaaDoor
open Go.RowKit

/-! The answers' names. -/
noncomputable def theP (P : PL → Prop) : PL := @dite _ (∃ L, P L) (Classical.propDecidable _) (fun h => Classical.choose h) (fun _ => [])
theorem theP_is {P : PL → Prop} {L : PL} (h : P L) (hu : ∀ K, P K → K = L) : theP P = L := by
  unfold theP
  rw [dif_pos ⟨L, h⟩]
  exact hu _ (Classical.choose_spec ⟨L, h⟩)
theorem theP_none {P : PL → Prop} (h : ∀ L, ¬ P L) : theP P = [] := by
  unfold theP
  rw [dif_neg (fun ⟨L, hL⟩ => h L hL)]
noncomputable def partsL (p : Int) (f : Ser) : PL := theP fun L => Pr p ∧ ¬ Ser.Bd p f 0 ∧ IsParts p (monL p f) L
theorem partsL_is {p : Int} {f : Ser} {L : PL} (hp : Pr p) (hb : ¬ Ser.Bd p f 0) (h : IsParts p (monL p f) L) : partsL p f = L :=
  theP_is ⟨hp, hb, h⟩ fun _ k => k.2.2.uniq hp h
theorem partsL_no {p : Int} {f : Ser} (h : esq p f ≠ 0) : partsL p f = [] := theP_none fun _ ⟨h1, h2, _⟩ => h (esq_yes h1 h2)
noncomputable def radL (p : Int) (f : Ser) : List Int := the fun r => Pr p ∧ ¬ Ser.Bd p f 0 ∧ IsRad p (monL p f) r
theorem radL_is {p : Int} {f : Ser} {r : List Int} (hp : Pr p) (hb : ¬ Ser.Bd p f 0) (h : IsRad p (monL p f) r) : radL p f = r :=
  the_is ⟨hp, hb, h⟩ fun _ k => k.2.2.uniq hp h fun _ _ => rfl
theorem radL_no {p : Int} {f : Ser} (h : esq p f ≠ 0) : radL p f = [] := the_none fun _ ⟨h1, h2, _⟩ => h (esq_yes h1 h2)
noncomputable def sqB (p : Int) (f : Ser) : Bool := @decide (esq p f = 0 ∧ Sqf p (monL p f)) (Classical.propDecidable _)
theorem sqB_no {p : Int} {f : Ser} (h : esq p f ≠ 0) : sqB p f = false := @decide_eq_false _ (Classical.propDecidable _) fun k => h k.1
theorem sqB_is {p : Int} {f : Ser} (h : esq p f = 0) {b : Bool} (hb : b = true ↔ Sqf p (monL p f)) : sqB p f = b := by
  cases b with
  | true => exact @decide_eq_true _ (Classical.propDecidable _) ⟨h, hb.1 rfl⟩
  | false => exact @decide_eq_false _ (Classical.propDecidable _) fun k => absurd (hb.2 k.2) (by decide)
theorem esq_cases (p : Int) (f : Ser) : (Pr p ∧ ¬ Ser.Bd p f 0 ∧ esq p f = 0) ∨ esq p f = 1 ∨ esq p f = 8 := by
  rcases Classical.em (Pr p) with hp | hp
  · rcases Classical.em (Ser.Bd p f 0) with hb | hb
    · exact .inr (.inr (esq_zero hp hb))
    · exact .inl ⟨hp, hb, esq_yes hp hb⟩
  · exact .inr (.inl (esq_no hp))

/-! How many of the parts have a factor's number. -/
def cntN (v : Nat) : PL → Nat
  | [] => 0
  | x :: L => (if v = x.2 then 1 else 0) + cntN v L
theorem cntN_append (v : Nat) : ∀ L K : PL, cntN v (L ++ K) = cntN v L + cntN v K
  | [], K => by rw [List.nil_append, cntN, Nat.zero_add]
  | x :: L, K => by rw [List.cons_append, cntN, cntN, cntN_append v L K]; omega
theorem cntN_none (v : Nat) : ∀ L : PL, (∀ x ∈ L, x.2 ≠ v) → cntN v L = 0
  | [], _ => rfl
  | x :: L, h => by
    rw [cntN, if_neg (fun e => h x (List.mem_cons_self ..) e.symm), cntN_none v L fun y hy => h y (List.mem_cons_of_mem _ hy)]
theorem cntN_one (v : Nat) : ∀ L : PL, (L.map (·.2)).Pairwise (· < ·) → (∃ x ∈ L, x.2 = v) → cntN v L = 1
  | [], _, ⟨_, h, _⟩ => (List.not_mem_nil h).elim
  | x :: L, hp, ⟨y, hy, e⟩ => by
    rw [List.map_cons, List.pairwise_cons] at hp
    have lx : ∀ z ∈ L, x.2 < z.2 := fun z hz => hp.1 _ (List.mem_map.2 ⟨z, hz, rfl⟩)
    rw [cntN]
    by_cases h : v = x.2
    · rw [if_pos h, cntN_none v L fun z hz => by have := lx z hz; omega]
    · rw [if_neg h]
      have hy2 : y ∈ L := (List.mem_cons.1 hy).elim (fun e2 => absurd (e2 ▸ e.symm) h) id
      have := cntN_one v L hp.2 ⟨y, hy2, e⟩
      omega
theorem cntN_parts {p : Int} {m : List Int} {L : PL} (h : IsParts p m L) {q : Ser} (hq : Irr p q) : cntN (V p (cf m) q) L = min 1 (V p (cf m) q) := by
  rcases Nat.eq_zero_or_pos (V p (cf m) q) with e | e
  · rw [e, cntN_none 0 L fun x hx => by have := (h.own x hx).1; omega]; rfl
  · rw [cntN_one _ L h.up (h.all q hq e)]; omega
theorem cntN_take (v : Nat) (L : PL) (j : Nat) : cntN v (L.take j) ≤ cntN v L := by
  conv => rhs; rw [← List.take_append_drop j L]
  rw [cntN_append]; omega
/-- The product of the first j parts. -/
structure RP (p : Int) (m : List Int) (L : PL) (j : Nat) (r : List Int) : Prop where
  mn : Mn p r
  v : ∀ q, Irr p q → V p (cf r) q = cntN (V p (cf m) q) (L.take j)
theorem rp_start {p : Int} (hp : Pr p) (m : List Int) (L : PL) : RP p m L 0 [1] := ⟨mn_one hp, fun _ hq => V_one hp hq⟩
theorem RP.len {p : Int} {m : List Int} {L : PL} {j : Nat} {r : List Int} (hp : Pr p) (hm : Mn p m) (hL : IsParts p m L) (h : RP p m L j r) : r.length ≤ m.length :=
  h.mn.len_le hp hm fun q hq => by
    rw [h.v q hq]
    have := cntN_take (V p (cf m) q) L j
    rw [cntN_parts hL hq] at this
    omega
theorem RP.next {p : Int} {m : List Int} {L : PL} {j : Nat} {r : List Int} (hp : Pr p) (hL : IsParts p m L) (h : RP p m L j r) (hj : j < L.length) : RP p m L (j + 1) (polL p (Ser.mul (cf r) (cf (L[j]).1))) := by
  obtain ⟨_, ho, _⟩ := hL.own L[j] (List.getElem_mem hj)
  obtain ⟨m1, _, m3⟩ := mn_mul hp h.mn ho.1
  refine ⟨m1, fun q hq => ?_⟩
  rw [m3 q hq, h.v q hq, ho.2 q hq, List.take_succ_eq_append_getElem hj, cntN_append, cntN, cntN, Nat.add_zero]
theorem RP.done {p : Int} {m : List Int} {L : PL} {j : Nat} {r : List Int} (hL : IsParts p m L) (h : RP p m L j r) (hj : L.length ≤ j) : IsRad p m r :=
  ⟨h.mn, fun q hq => by rw [h.v q hq, List.take_of_length_le hj, cntN_parts hL hq]⟩

/-! The calls. -/
set_option maxRecDepth 100000 in
set_option maxHeartbeats 1000000 in
theorem fPartsOk (A : Option Addr) (n c : Nat) (xs : List Int) (p : Int) (w : World) (hT : TabAt w) (h : ISl w A n c xs) (ip : In64 p) (hn : n ≤ 800) (hp : Pr p) (hb : ¬ Ser.Bd p (cf xs) 0) :
    Calls Tryd.prog 9 #[.slice A n c, .int .i64 p] w fun e w' => ∃ A' k c' Z, e = .returned (.tuple #[.slice A' k c', .int .i64 0]) ∧ PRd w' A' k c' Z ∧ IsParts p (monL p (cf xs)) (pls Z) ∧ Below w.heap.size w w' := by
  have CM := fMon A n c xs p w hT h ip (by omega)
  have CC := Lib.hid CM
  obtain ⟨m1, m2, _⟩ := mn_monL hp hb
  have HM := Lib.hid m1
  have LM := Lib.hid m2
  have HT := Lib.hid hT
  have IP := Lib.hid ip
  have PR := Lib.hid hp
  have XL := Lib.hid h.len
  rw [esq_yes hp hb] at CC
  clear CM h ip hT hp hb m1 m2
  generalize monL p (cf xs) = mo at *
  go_enter Tryd.func9, Tryd.ntmps9
  go_wp2_with (first
    | (go_at_call 23; (with_reducible refine CC.out.mono ?_); rintro e w1 ⟨C, m, d, rfl, hg⟩; have HB := Lib.hid hg.bel; have C2 := Lib.hid (fParts C m d _ p w1 (HT.out.below HB.out) hg.isl IP.out PR.out HM.out (by have := hg.isl.len; have := LM.out; have := XL.out; omega)); clear hg)
    | (go_at_call 24; (with_reducible refine C2.out.mono ?_); rintro e w2 ⟨A', k, c', Z, rfl, hrd, hpt, hb⟩; have RD := Lib.hid hrd; have PT := Lib.hid hpt; have BB := Lib.hid (below_to HB.out hb); clear hrd hpt hb))
  go_ret2
  exact ⟨A', k, c', Z, rfl, RD.out, PT.out, BB.out⟩

set_option maxRecDepth 100000 in
set_option maxHeartbeats 1000000 in
theorem fPartsTop (A : Option Addr) (n c : Nat) (xs : List Int) (p : Int) (w : World) (hT : TabAt w) (h : ISl w A n c xs) (ip : In64 p) (hn : n ≤ 800) :
    Calls Tryd.prog 9 #[.slice A n c, .int .i64 p] w fun e w' => ∃ A' k c' Z, e = .returned (.tuple #[.slice A' k c', .int .i64 (esq p (cf xs))]) ∧ PRd w' A' k c' Z ∧ pls Z = partsL p (cf xs) ∧ Below w.heap.size w w' := by
  have CM := fMon A n c xs p w hT h ip (by omega)
  rcases esq_cases p (cf xs) with ⟨hp, hb, he⟩ | he | he
  · rw [he]
    refine (fPartsOk A n c xs p w hT h ip hn hp hb).mono ?_
    rintro e w' ⟨A', k, c', Z, rfl, h1, h2, h3⟩
    exact ⟨A', k, c', Z, rfl, h1, (partsL_is hp hb h2).symm, h3⟩
  · have CC := Lib.hid CM
    have E := Lib.hid (partsL_no (f := cf xs) (p := p) (by rw [he]; decide))
    rw [he] at CC ⊢
    clear CM h ip hT he
    go_enter Tryd.func9, Tryd.ntmps9
    go_wp2_with (go_at_call 23; (with_reducible refine CC.out.mono ?_); rintro e w1 ⟨C, m, d, rfl, hg⟩; have HB := Lib.hid hg.bel; clear hg)
    go_ret2
    exact ⟨none, 0, 0, [], rfl, PRd.nil _, E.out.symm, HB.out⟩
  · have CC := Lib.hid CM
    have E := Lib.hid (partsL_no (f := cf xs) (p := p) (by rw [he]; decide))
    rw [he] at CC ⊢
    clear CM h ip hT he
    go_enter Tryd.func9, Tryd.ntmps9
    go_wp2_with (go_at_call 23; (with_reducible refine CC.out.mono ?_); rintro e w1 ⟨C, m, d, rfl, hg⟩; have HB := Lib.hid hg.bel; clear hg)
    go_ret2
    exact ⟨none, 0, 0, [], rfl, PRd.nil _, E.out.symm, HB.out⟩

set_option maxRecDepth 100000 in
set_option maxHeartbeats 1000000 in
theorem fIsTop (A : Option Addr) (n c : Nat) (xs : List Int) (p : Int) (w : World) (hT : TabAt w) (h : ISl w A n c xs) (ip : In64 p) (hn : n ≤ 800) :
    Calls Tryd.prog 13 #[.slice A n c, .int .i64 p] w fun e w' => e = .returned (.tuple #[.bool (sqB p (cf xs)), .int .i64 (esq p (cf xs))]) ∧ Below w.heap.size w w' := by
  have CM := fMon A n c xs p w hT h ip (by omega)
  rcases esq_cases p (cf xs) with ⟨hp, hb, he⟩ | he | he
  · have CC := Lib.hid CM
    obtain ⟨m1, m2, _⟩ := mn_monL hp hb
    have LM := Lib.hid m2
    have LG := Lib.hid (mn_gcdD hp m1).2.1
    have SQ := Lib.hid (sqB_is (b := oneB (bezG p (cf (monL p (cf xs))) (cf (polL p (Ser.der (cf (monL p (cf xs))))))).length) he (by
      rw [← sqf_gcd hp m1]
      unfold oneB
      simp
      omega))
    have HT := Lib.hid hT
    have IP := Lib.hid ip
    have XL := Lib.hid h.len
    rw [he] at CC ⊢
    clear CM h ip hT hp hb m1 m2 he
    go_enter Tryd.func13, Tryd.ntmps13
    go_wp2_with (first
      | (go_at_call 23; (with_reducible refine CC.out.mono ?_); rintro e w1 ⟨C, m, d, rfl, hg⟩; have HB := Lib.hid hg.bel; have G1 := Lib.hid hg.isl; have m9 : m ≤ 800 := (by have := hg.isl.len; have := LM.out; have := XL.out; omega); have C2 := Lib.hid (fDer C m d _ p w1 (HT.out.below HB.out) G1.out IP.out (by omega)); clear hg)
      | (go_at_call 32; (with_reducible refine C2.out.mono ?_); rintro e w2 ⟨C', m', d', rfl, hg⟩; have HB2 := Lib.hid (below_to HB.out hg.bel); have G2 := Lib.hid hg.isl; have C3 := Lib.hid (fGcd C C' m d m' d' _ _ p w2 (HT.out.below HB2.out) (G1.out.below hg.bel) G2.out IP.out (by omega) (by have := hg.2.1; omega)); clear hg)
      | (go_at_call 31; (with_reducible refine C3.out.mono ?_); rintro e w3 ⟨C4, m4, d4, rfl, hg, -⟩; have HB3 := Lib.hid (below_to HB2.out hg.bel); have L4 := Lib.hid hg.isl.len; have C4_ := Lib.hid (fConst C4 m4 d4 w3); clear hg)
      | (go_at_call 30; (with_reducible refine C4_.out.mono ?_); rintro e w4 ⟨rfl, rfl⟩))
    go_ret2
    exact ⟨by rw [SQ.out, ← L4.out]; rfl, HB3.out⟩
  · have CC := Lib.hid CM
    have E := Lib.hid (sqB_no (f := cf xs) (p := p) (by rw [he]; decide))
    rw [he] at CC ⊢
    rw [E.out]
    clear CM h ip hT he
    go_enter Tryd.func13, Tryd.ntmps13
    go_wp2_with (go_at_call 23; (with_reducible refine CC.out.mono ?_); rintro e w1 ⟨C, m, d, rfl, hg⟩; have HB := Lib.hid hg.bel; clear hg)
    go_ret2
    exact ⟨rfl, HB.out⟩
  · have CC := Lib.hid CM
    have E := Lib.hid (sqB_no (f := cf xs) (p := p) (by rw [he]; decide))
    rw [he] at CC ⊢
    rw [E.out]
    clear CM h ip hT he
    go_enter Tryd.func13, Tryd.ntmps13
    go_wp2_with (go_at_call 23; (with_reducible refine CC.out.mono ?_); rintro e w1 ⟨C, m, d, rfl, hg⟩; have HB := Lib.hid hg.bel; clear hg)
    go_ret2
    exact ⟨rfl, HB.out⟩

/-- A radical, where it lies. -/
structure RadIn (p : Int) (m : List Int) (C : Option Addr) (k d : Nat) (w : World) : Prop where
  r : ∃ r, IsRad p m r ∧ ISl w C k d r
set_option maxRecDepth 100000 in
set_option maxHeartbeats 2000000 in
theorem fRadOk (A : Option Addr) (n c : Nat) (xs : List Int) (p : Int) (w : World) (hT : TabAt w) (h : ISl w A n c xs) (ip : In64 p) (hn : n ≤ 800) (hp : Pr p) (hb : ¬ Ser.Bd p (cf xs) 0) :
    Calls Tryd.prog 11 #[.slice A n c, .int .i64 p] w fun e w' => ∃ C m d, e = .returned (.tuple #[.slice C m d, .int .i64 0]) ∧ RadIn p (monL p (cf xs)) C m d w' ∧ Below w.heap.size w w' := by
  have CM := fMon A n c xs p w hT h ip (by omega)
  have CC := Lib.hid CM
  obtain ⟨m1, m2, _⟩ := mn_monL hp hb
  have HM := Lib.hid m1
  have LM := Lib.hid m2
  have HT := Lib.hid hT
  have IP := Lib.hid ip
  have PR := Lib.hid hp
  have XL := Lib.hid h.len
  rw [esq_yes hp hb] at CC
  clear CM h ip hT hp hb m1 m2
  generalize monL p (cf xs) = mo at *
  go_enter Tryd.func11, Tryd.ntmps11
  go_wp2_with (first
    | (go_at_call 23; (with_reducible refine CC.out.mono ?_); rintro e w1 ⟨C, m, d, rfl, hg⟩; have HB := Lib.hid (hg.bel.alloc hg.bel.size (.cells #[.int .i64 1] 3)); have I1 := Lib.hid ((iblk_list w1 [1] (fi_one (by unfold In64; decide))).sl (by simp)); have C2 := Lib.hid (fParts C m d _ p (w1.alloc (.cells #[.int .i64 1] 3)) (HT.out.below HB.out) (isl_alloc hg.isl _) IP.out PR.out HM.out (by have := hg.isl.len; have := LM.out; have := XL.out; omega)); clear hg)
    | (go_at_call 24; (with_reducible refine C2.out.mono ?_); rintro e w2 ⟨A', k, c', Z, rfl, hrd, hpt, hb⟩; have RD := Lib.hid hrd; have PT := Lib.hid hpt; have kle := hrd.le; have kmx := hrd.max; have BB := Lib.hid (below_to HB.out hb); have I2 := Lib.hid (I1.out.below hb); clear hrd hpt hb))
  go_loopw [8, 25] (fun v i wr => ∃ (j : Nat) (C : Option Addr) (m d : Nat) (r : List Int), j ≤ k ∧ i = .int .i64 (j : Int) ∧ v = .slice C m d ∧ Hid (RP p mo (pls Z) j r) ∧ Hid (ISl wr C m d r) ∧ Hid (Below w2.heap.size w2 wr)) (fun _ i _ => k - (intOf i).toNat)
  case atStart => exact ⟨0, _, _, _, [1], Nat.zero_le _, rfl, rfl, Lib.hid (rp_start PR.out _ _), I2, Lib.hid (Below.refl _ _)⟩
  case round =>
    obtain ⟨j, Cr, mr, dr, r, hj, rfl, rfl, RR, IR, BR⟩ := hrel
    have RD2 := Lib.hid (RD.out.below BR.out)
    by_cases hlt : j < k
    · have hlz : j < Z.length := by rw [← RD.out.len]; exact hlt
      obtain ⟨b, o, rfl, hbl, hc⟩ := RD2.out.open_ (by omega)
      obtain ⟨c0, c1⟩ := hc j hlz
      have zin := RD2.out.in_ _ (List.getElem_mem hlz)
      have nx := RR.out.next PR.out PT.out (by rw [pls_length]; exact hlz)
      have epl : (pls Z)[j]'(by rw [pls_length]; exact hlz) = Z[j].pl := by unfold pls; rw [List.getElem_map]
      rw [epl] at nx
      have o9 := (PT.out.own (Z[j].pl) (by rw [← epl]; exact List.getElem_mem _)).2.1
      obtain ⟨z, hz⟩ : ∃ z, Z[j] = z := ⟨_, rfl⟩
      rw [hz] at c0 c1 zin nx o9
      obtain ⟨zA, zn, zc, zx, zN⟩ := z
      simp only [Pt.sl, Pt.nv] at c0 c1
      have NX := Lib.hid (show RP p mo (pls Z) (j + 1) (polL p (Ser.mul (cf r) (cf zx))) from nx)
      have r9 : mr ≤ 800 := by have := RR.out.len PR.out HM.out PT.out; have := IR.out.len; have := LM.out; have := XL.out; omega
      have z9 : zn ≤ 800 := by
        have h1 : zx.length ≤ mo.length := Mn.len_le PR.out o9.1 HM.out fun q hq => by
          have h2 := o9.2 q hq
          have h3 := (PT.out.own (Z[j].pl) (by rw [← epl]; exact List.getElem_mem _)).1
          rw [hz] at h3
          have h4 : 1 ≤ zN := h3
          rw [show V p (cf zx) q = if V p (cf mo) q = zN then 1 else 0 from h2]
          split <;> omega
        have h5 : zn = zx.length := zin.len
        have := LM.out
        have := XL.out
        omega
      have MU := Lib.hid (fun (W : World) (hW : Below wr.heap.size wr W) => fMul Cr zA mr dr zn zc r zx p W (((HT.out.below BB.out).below BR.out).below hW) (IR.out.below hW) (ISl.below (show ISl wr zA zn zc zx from zin) hW) IP.out (by omega) (by omega))
      have i1 : (0 : Int) ≤ (j : Int) := by omega
      have i2 : (j : Int) < (k : Int) := by omega
      have HBX := Lib.hid (bel_al wr (.cells #[.slice zA zn zc, .int .i64 (zN : Int)] 40))
      clear hc hlz zin nx epl o9 hz
      go_wp2_with (go_at_call 29; (refine Calls.mono (MU.out _ HBX.out) ?_); rintro e w5 ⟨C5, m5, d5, rfl, hg⟩; have G5 := Lib.hid hg.isl; have B5 := Lib.hid (below_to BR.out (below_to HBX.out hg.bel)); clear hg)
      go_roundw
      case rel => exact ⟨j + 1, C5, m5, d5, _, by omega, by go_num, rfl, NX, G5, B5⟩
      case measure => simp [intOf]; omega
    · have DN := Lib.hid (RR.out.done PT.out (by rw [pls_length, ← RD.out.len]; omega))
      go_wp2_with fail
      go_ret2
      exact ⟨Cr, mr, dr, rfl, ⟨⟨r, DN.out, IR.out⟩⟩, below_to BB.out BR.out⟩
set_option maxRecDepth 100000 in
set_option maxHeartbeats 2000000 in
theorem fRadTop (A : Option Addr) (n c : Nat) (xs : List Int) (p : Int) (w : World) (hT : TabAt w) (h : ISl w A n c xs) (ip : In64 p) (hn : n ≤ 800) :
    Calls Tryd.prog 11 #[.slice A n c, .int .i64 p] w fun e w' => ∃ C m d, e = .returned (.tuple #[.slice C m d, .int .i64 (esq p (cf xs))]) ∧ ISl w' C m d (radL p (cf xs)) ∧ Below w.heap.size w w' := by
  have CM := fMon A n c xs p w hT h ip (by omega)
  rcases esq_cases p (cf xs) with ⟨hp, hb, he⟩ | he | he
  · rw [he]
    refine (fRadOk A n c xs p w hT h ip hn hp hb).mono ?_
    rintro e w' ⟨C, m, d, rfl, ⟨⟨r, h1, h2⟩⟩, h3⟩
    exact ⟨C, m, d, rfl, by rw [radL_is hp hb h1]; exact h2, h3⟩
  · have CC := Lib.hid CM
    have E := Lib.hid (radL_no (f := cf xs) (p := p) (by rw [he]; decide))
    rw [he] at CC ⊢
    rw [E.out]
    clear CM h ip hT he
    go_enter Tryd.func11, Tryd.ntmps11
    go_wp2_with (go_at_call 23; (with_reducible refine CC.out.mono ?_); rintro e w1 ⟨C, m, d, rfl, hg⟩; have HB := Lib.hid hg.bel; clear hg)
    go_ret2
    exact ⟨none, 0, 0, rfl, isl_nil _, HB.out⟩
  · have CC := Lib.hid CM
    have E := Lib.hid (radL_no (f := cf xs) (p := p) (by rw [he]; decide))
    rw [he] at CC ⊢
    rw [E.out]
    clear CM h ip hT he
    go_enter Tryd.func11, Tryd.ntmps11
    go_wp2_with (go_at_call 23; (with_reducible refine CC.out.mono ?_); rintro e w1 ⟨C, m, d, rfl, hg⟩; have HB := Lib.hid hg.bel; clear hg)
    go_ret2
    exact ⟨none, 0, 0, rfl, isl_nil _, HB.out⟩
end Go.Proofs.YtekpifafjbkmiaaDoor

/- Texts joined, in their order: FsqTop, PolEu, PolDocE. -/
import Derived.Test.YtnkhhndjbanmnaaGreatDoorMp12
import Derived.Test.YtnkhhndjbanmnaaGreatDoorMp13
import Derived.Test.YtnkhhndjbanmnaaGreatDoorMp38

/- fsqf's three calls by contract, their answers named by what they are given. -/
namespace Go.Proofs.YtnkhhndjbanmnaaGreatDoor
open Go.RowKit

/-! The answers' names. -/
noncomputable def theP (P : PL → Prop) : PL := @dite _ (∃ L, P L) (Classical.propDecidable _) (fun h => Classical.choose h) (fun _ => [])
theorem theP_is {P : PL → Prop} {L : PL} (h : P L) (hu : ∀ K, P K → K = L) : theP P = L := by
  unfold theP
  rw [dif_pos ⟨L, h⟩]
  exact hu _ (Classical.choose_spec ⟨L, h⟩)
theorem theP_none {P : PL → Prop} (h : ∀ L, ¬ P L) : theP P = [] := by
  unfold theP
  rw [dif_neg (fun ⟨L, hL⟩ => h L hL)]
noncomputable def partsL (p : Int) (f : Ser) : PL := theP fun L => Pr p ∧ ¬ Ser.Bd p f 0 ∧ IsParts p (monL p f) L
noncomputable def radL (p : Int) (f : Ser) : List Int := the fun r => Pr p ∧ ¬ Ser.Bd p f 0 ∧ IsRad p (monL p f) r
noncomputable def sqB (p : Int) (f : Ser) : Bool := @decide (esq p f = 0 ∧ Sqf p (monL p f)) (Classical.propDecidable _)
theorem sqB_no {p : Int} {f : Ser} (h : esq p f ≠ 0) : sqB p f = false := @decide_eq_false _ (Classical.propDecidable _) fun k => h k.1
theorem sqB_is {p : Int} {f : Ser} (h : esq p f = 0) {b : Bool} (hb : b = true ↔ Sqf p (monL p f)) : sqB p f = b := by
  cases b with
  | true => exact @decide_eq_true _ (Classical.propDecidable _) ⟨h, hb.1 rfl⟩
  | false => exact @decide_eq_false _ (Classical.propDecidable _) fun k => absurd (hb.2 k.2) (by decide)
theorem esq_cases (p : Int) (f : Ser) : (Pr p ∧ ¬ Ser.Bd p f 0 ∧ esq p f = 0) ∨ esq p f = 1 ∨ esq p f = 8 := by
  rcases Classical.em (Pr p) with hp | hp
  · rcases Classical.em (Ser.Bd p f 0) with hb | hb
    · exact .inr (.inr (esq_zero hp hb))
    · exact .inl ⟨hp, hb, esq_yes hp hb⟩
  · exact .inr (.inl (esq_no hp))

/-! How many of the parts have a factor's number. -/
def cntN (v : Nat) : PL → Nat
  | [] => 0
  | x :: L => (if v = x.2 then 1 else 0) + cntN v L
theorem cntN_append (v : Nat) : ∀ L K : PL, cntN v (L ++ K) = cntN v L + cntN v K
  | [], K => by rw [List.nil_append, cntN, Nat.zero_add]
  | x :: L, K => by rw [List.cons_append, cntN, cntN, cntN_append v L K]; omega
theorem cntN_none (v : Nat) : ∀ L : PL, (∀ x ∈ L, x.2 ≠ v) → cntN v L = 0
  | [], _ => rfl
  | x :: L, h => by
    rw [cntN, if_neg (fun e => h x (List.mem_cons_self ..) e.symm), cntN_none v L fun y hy => h y (List.mem_cons_of_mem _ hy)]
theorem cntN_one (v : Nat) : ∀ L : PL, (L.map (·.2)).Pairwise (· < ·) → (∃ x ∈ L, x.2 = v) → cntN v L = 1
  | [], _, ⟨_, h, _⟩ => (List.not_mem_nil h).elim
  | x :: L, hp, ⟨y, hy, e⟩ => by
    rw [List.map_cons, List.pairwise_cons] at hp
    have lx : ∀ z ∈ L, x.2 < z.2 := fun z hz => hp.1 _ (List.mem_map.2 ⟨z, hz, rfl⟩)
    rw [cntN]
    by_cases h : v = x.2
    · rw [if_pos h, cntN_none v L fun z hz => by have := lx z hz; omega]
    · rw [if_neg h]
      have hy2 : y ∈ L := (List.mem_cons.1 hy).elim (fun e2 => absurd (e2 ▸ e.symm) h) id
      have := cntN_one v L hp.2 ⟨y, hy2, e⟩
      omega
theorem cntN_parts {p : Int} {m : List Int} {L : PL} (h : IsParts p m L) {q : Ser} (hq : Irr p q) : cntN (V p (cf m) q) L = min 1 (V p (cf m) q) := by
  rcases Nat.eq_zero_or_pos (V p (cf m) q) with e | e
  · rw [e, cntN_none 0 L fun x hx => by have := (h.own x hx).1; omega]; rfl
  · rw [cntN_one _ L h.up (h.all q hq e)]; omega
theorem cntN_take (v : Nat) (L : PL) (j : Nat) : cntN v (L.take j) ≤ cntN v L := by
  conv => rhs; rw [← List.take_append_drop j L]
  rw [cntN_append]; omega
structure RP (p : Int) (m : List Int) (L : PL) (j : Nat) (r : List Int) : Prop where
  mn : Mn p r
  v : ∀ q, Irr p q → V p (cf r) q = cntN (V p (cf m) q) (L.take j)
theorem RP.len {p : Int} {m : List Int} {L : PL} {j : Nat} {r : List Int} (hp : Pr p) (hm : Mn p m) (hL : IsParts p m L) (h : RP p m L j r) : r.length ≤ m.length :=
  h.mn.len_le hp hm fun q hq => by
    rw [h.v q hq]
    have := cntN_take (V p (cf m) q) L j
    rw [cntN_parts hL hq] at this
    omega
theorem RP.next {p : Int} {m : List Int} {L : PL} {j : Nat} {r : List Int} (hp : Pr p) (hL : IsParts p m L) (h : RP p m L j r) (hj : j < L.length) : RP p m L (j + 1) (polL p (Ser.mul (cf r) (cf (L[j]).1))) := by
  obtain ⟨_, ho, _⟩ := hL.own L[j] (List.getElem_mem hj)
  obtain ⟨m1, _, m3⟩ := mn_mul hp h.mn ho.1
  refine ⟨m1, fun q hq => ?_⟩
  rw [m3 q hq, h.v q hq, ho.2 q hq, List.take_succ_eq_append_getElem hj, cntN_append, cntN, cntN, Nat.add_zero]
theorem RP.done {p : Int} {m : List Int} {L : PL} {j : Nat} {r : List Int} (hL : IsParts p m L) (h : RP p m L j r) (hj : L.length ≤ j) : IsRad p m r :=
  ⟨h.mn, fun q hq => by rw [h.v q hq, List.take_of_length_le hj, cntN_parts hL hq]⟩

/-! The calls. -/
set_option maxRecDepth 100000 in
set_option maxRecDepth 100000 in
set_option maxHeartbeats 1000000 in
theorem fPartsOk (A : Option Addr) (n c : Nat) (xs : List Int) (p : Int) (w : World) (hT : TabAt w) (h : ISl w A n c xs) (ip : In64 p) (hn : n ≤ 800) (hp : Pr p) (hb : ¬ Ser.Bd p (cf xs) 0) :
    Calls Tryz.prog 32 #[.slice A n c, .int .i64 p] w fun e w' => ∃ A' k c' Z, e = .returned (.tuple #[.slice A' k c', .int .i64 0]) ∧ PRd w' A' k c' Z ∧ IsParts p (monL p (cf xs)) (pls Z) ∧ Below w.heap.size w w' := by
  have CM := fMon A n c xs p w hT h ip (by omega)
  have CC := Lib.hid CM
  obtain ⟨m1, m2, _⟩ := mn_monL hp hb
  have HM := Lib.hid m1
  have LM := Lib.hid m2
  have HT := Lib.hid hT
  have IP := Lib.hid ip
  have PR := Lib.hid hp
  have XL := Lib.hid h.len
  rw [esq_yes hp hb] at CC
  clear CM h ip hT hp hb m1 m2
  generalize monL p (cf xs) = mo at *
  go_enter Tryz.func32, Tryz.ntmps32
  go_wp2_with (first
    | (go_at_call 53; (with_reducible refine CC.out.mono ?_); rintro e w1 ⟨C, m, d, rfl, hg⟩; have HB := Lib.hid hg.bel; have C2 := Lib.hid (fParts C m d _ p w1 (HT.out.below HB.out) hg.isl IP.out PR.out HM.out (by have := hg.isl.len; have := LM.out; have := XL.out; omega)); clear hg)
    | (go_at_call 54; (with_reducible refine C2.out.mono ?_); rintro e w2 ⟨A', k, c', Z, rfl, hrd, hpt, hb⟩; have RD := Lib.hid hrd; have PT := Lib.hid hpt; have BB := Lib.hid (below_to HB.out hb); clear hrd hpt hb))
  go_ret2
  exact ⟨A', k, c', Z, rfl, RD.out, PT.out, BB.out⟩

set_option maxRecDepth 100000 in
set_option maxRecDepth 100000 in
set_option maxHeartbeats 1000000 in
theorem fIsTop (A : Option Addr) (n c : Nat) (xs : List Int) (p : Int) (w : World) (hT : TabAt w) (h : ISl w A n c xs) (ip : In64 p) (hn : n ≤ 800) :
    Calls Tryz.prog 65 #[.slice A n c, .int .i64 p] w fun e w' => e = .returned (.tuple #[.bool (sqB p (cf xs)), .int .i64 (esq p (cf xs))]) ∧ Below w.heap.size w w' := by
  have CM := fMon A n c xs p w hT h ip (by omega)
  rcases esq_cases p (cf xs) with ⟨hp, hb, he⟩ | he | he
  · have CC := Lib.hid CM
    obtain ⟨m1, m2, _⟩ := mn_monL hp hb
    have LM := Lib.hid m2
    have LG := Lib.hid (mn_gcdD hp m1).2.1
    have SQ := Lib.hid (sqB_is (b := oneB (bezG p (cf (monL p (cf xs))) (cf (polL p (Ser.der (cf (monL p (cf xs))))))).length) he (by
      rw [← sqf_gcd hp m1]
      unfold oneB
      simp
      omega))
    have HT := Lib.hid hT
    have IP := Lib.hid ip
    have XL := Lib.hid h.len
    rw [he] at CC ⊢
    clear CM h ip hT hp hb m1 m2 he
    go_enter Tryz.func65, Tryz.ntmps65
    go_wp2_with (first
      | (go_at_call 53; (with_reducible refine CC.out.mono ?_); rintro e w1 ⟨C, m, d, rfl, hg⟩; have HB := Lib.hid hg.bel; have G1 := Lib.hid hg.isl; have m9 : m ≤ 800 := (by have := hg.isl.len; have := LM.out; have := XL.out; omega); have C2 := Lib.hid (fDer C m d _ p w1 (HT.out.below HB.out) G1.out IP.out (by omega)); clear hg)
      | (go_at_call 104; (with_reducible refine C2.out.mono ?_); rintro e w2 ⟨C', m', d', rfl, hg⟩; have HB2 := Lib.hid (below_to HB.out hg.bel); have G2 := Lib.hid hg.isl; have C3 := Lib.hid (fGcd C C' m d m' d' _ _ p w2 (HT.out.below HB2.out) (G1.out.below hg.bel) G2.out IP.out (by omega) (by have := hg.2.1; omega)); clear hg)
      | (go_at_call 103; (with_reducible refine C3.out.mono ?_); rintro e w3 ⟨C4, m4, d4, rfl, hg, -⟩; have HB3 := Lib.hid (below_to HB2.out hg.bel); have L4 := Lib.hid hg.isl.len; have C4_ := Lib.hid (fConst C4 m4 d4 w3); clear hg)
      | (go_at_call 83; (with_reducible refine C4_.out.mono ?_); rintro e w4 ⟨rfl, rfl⟩))
    go_ret2
    exact ⟨by rw [SQ.out, ← L4.out]; rfl, HB3.out⟩
  · have CC := Lib.hid CM
    have E := Lib.hid (sqB_no (f := cf xs) (p := p) (by rw [he]; decide))
    rw [he] at CC ⊢
    rw [E.out]
    clear CM h ip hT he
    go_enter Tryz.func65, Tryz.ntmps65
    go_wp2_with (go_at_call 53; (with_reducible refine CC.out.mono ?_); rintro e w1 ⟨C, m, d, rfl, hg⟩; have HB := Lib.hid hg.bel; clear hg)
    go_ret2
    exact ⟨rfl, HB.out⟩
  · have CC := Lib.hid CM
    have E := Lib.hid (sqB_no (f := cf xs) (p := p) (by rw [he]; decide))
    rw [he] at CC ⊢
    rw [E.out]
    clear CM h ip hT he
    go_enter Tryz.func65, Tryz.ntmps65
    go_wp2_with (go_at_call 53; (with_reducible refine CC.out.mono ?_); rintro e w1 ⟨C, m, d, rfl, hg⟩; have HB := Lib.hid hg.bel; clear hg)
    go_ret2
    exact ⟨rfl, HB.out⟩

structure RadIn (p : Int) (m : List Int) (C : Option Addr) (k d : Nat) (w : World) : Prop where
  r : ∃ r, IsRad p m r ∧ ISl w C k d r
end Go.Proofs.YtnkhhndjbanmnaaGreatDoor

/- cleaverref06.Bezout, by its contract. -/
namespace Go.Proofs.YtnkhhndjbanmnaaGreatDoor
open Go.RowKit

def GcdOut (p : Int) (a b : Ser) (N : Nat) (w : World) (v : Value) (w' : World) : Prop := ∃ g s t, IsBez p a b g s t ∧ PolIn p g N w' v ∧ Below w.heap.size w w'
end Go.Proofs.YtnkhhndjbanmnaaGreatDoor

/- The document's Bezout and Gcd in one form. -/
namespace Go.Proofs.YtnkhhndjbanmnaaGreatDoor
open Go.RowKit

end Go.Proofs.YtnkhhndjbanmnaaGreatDoor

/- Texts joined, in their order: FaRef, FaGr, BerI. -/
import Derived.StillTailTactics
import Derived.Test.YtnkhhndjbanmnaaGreatDoorMn41

/- The document's small functions of layer 9 by contract: Less, Wrong. -/
namespace Go.Proofs.YtnkhhndjbanmnaaGreatDoor
open Go.RowKit Go.Shelf Go.Lib

def ltB (xs ys : List Int) : Bool := decide (ordI xs ys < 0)
theorem ltB_iff {xs ys : List Int} : ltB xs ys = true ↔ Ahd xs ys := by
  unfold ltB
  rw [decide_eq_true_iff]
  exact ahd_lt.symm
theorem ltB_len {xs ys : List Int} (h : xs.length ≠ ys.length) : ltB xs ys = decide (xs.length < ys.length) := by
  unfold ltB ordI
  rw [if_neg h]
  have := cmpZ_cases (xs.length : Int) (ys.length : Int)
  by_cases e : xs.length < ys.length
  · rw [decide_eq_true e, decide_eq_true (by omega)]
  · rw [decide_eq_false e, decide_eq_false (by omega)]
theorem ltB_at {xs ys : List Int} (h : xs.length = ys.length) {i : Nat} (hi : i < xs.length) (he : ∀ j, i < j → j < xs.length → cf xs j = cf ys j) (hne : cf xs i ≠ cf ys i) : ltB xs ys = decide (cf xs i < cf ys i) := by
  unfold ltB ordI
  rw [if_pos h, ordN_at xs.length hi he hne]
  have := cmpZ_cases (cf xs i) (cf ys i)
  by_cases e : cf xs i < cf ys i
  · rw [decide_eq_true e, decide_eq_true (by omega)]
  · rw [decide_eq_false e, decide_eq_false (by omega)]
theorem ltB_same {xs ys : List Int} (h : xs.length = ys.length) (he : ∀ j, j < xs.length → cf xs j = cf ys j) : ltB xs ys = false := by
  unfold ltB ordI
  rw [if_pos h, ordN_all he]
  decide
set_option maxRecDepth 100000 in
set_option maxHeartbeats 1000000 in
theorem rLess9 (A B : Option Addr) (n c n' c' : Nat) (xs ys : List Int) (w : World) (h : ISl w A n c xs) (h' : ISl w B n' c' ys) (hn : n ≤ 17592186044416) :
    Calls Tryz.prog 21 #[.slice A n c, .slice B n' c'] w fun e w' => e = .returned (.bool (ltB xs ys)) ∧ Below w.heap.size w w' := by
  have hle := h.le
  have hmx := h.max
  have hle' := h'.le
  have hmx' := h'.max
  have H := Lib.hid h
  have H' := Lib.hid h'
  have LX := Lib.hid h.len
  have LY := Lib.hid h'.len
  clear h h'
  by_cases hnm : n = n'
  · subst hnm
    have hne : ((n : Int) != (n : Int)) = false := by simp
    go_enter Tryz.func21, Tryz.ntmps21
    go_wp2
    go_loopw [5] (fun i wr => ∃ k q : Nat, k ≤ n ∧ i = .int .i64 ((k : Int) - 1) ∧ wr = w.drewN q ∧ Hid (∀ j, k ≤ j → j < n → cf xs j = cf ys j)) (fun i _ => (intOf i + 1).toNat)
    case atStart => exact ⟨n, 0, Nat.le_refl _, rfl, rfl, Lib.hid fun j h1 h2 => by omega⟩
    case round =>
      obtain ⟨k, q, hk, rfl, rfl, HE⟩ := hrel
      rcases Nat.eq_zero_or_pos k with rfl | hk0
      · have E0 := Lib.hid (ltB_same (xs := xs) (ys := ys) (by rw [← LX.out, ← LY.out]) fun j hj => HE.out j (Nat.zero_le _) (by rw [LX.out]; exact hj))
        rw [show ((0 : Nat) : Int) - 1 = -1 by decide]
        go_wp2
        go_ret
        exact ⟨by rw [E0.out]; rfl, ibelow_drewN (Below.refl _ _) q⟩
      · obtain ⟨t, rfl⟩ : ∃ t, k = t + 1 := ⟨k - 1, by omega⟩
        obtain ⟨b, o, rfl, hl1, hca⟩ := H.out.cf_ (by omega)
        obtain ⟨b', o', rfl, hl2, hcb⟩ := H'.out.cf_ (by omega)
        have h1 := hca t (by omega)
        have h2 := hcb t (by omega)
        rw [show ((t + 1 : Nat) : Int) - 1 = (t : Int) by omega]
        have i1 : (0 : Int) ≤ (t : Int) := by omega
        have i2 : (t : Int) < (n : Int) := by omega
        have AT := Lib.hid (fun hne => ltB_at (xs := xs) (ys := ys) (i := t) (by rw [← LX.out, ← LY.out]) (by rw [← LX.out]; omega) (fun j h3 h4 => HE.out j (by omega) (by rw [LX.out]; exact h4)) hne)
        have HJ := Lib.hid (fun e j (e2 : j = t) => (show cf xs j = cf ys j by rw [e2]; exact e))
        by_cases hxy : cf xs t = cf ys t
        · have HJ2 := Lib.hid (HJ.out hxy)
          have hne2 : (cf xs t != cf ys t) = false := by simp [hxy]
          clear AT HJ hxy hca hcb
          generalize cf xs t = x at *
          generalize cf ys t = y at *
          go_wp2
          go_quiet (fail)
          go_wp2
          go_roundw
          case rel => exact ⟨t, _, by omega, by go_num, rfl, Lib.hid fun j h3 h4 => by
            by_cases e : j = t
            · exact HJ2.out j e
            · exact HE.out j (by omega) h4⟩
          case measure => simp [intOf]
        · have E1 := Lib.hid (AT.out hxy)
          have hne2 : (cf xs t != cf ys t) = true := by simp [hxy]
          clear AT HJ hxy hca hcb
          generalize cf xs t = x at *
          generalize cf ys t = y at *
          go_wp2
          go_quiet (fail)
          go_wp2
          go_quiet (fail)
          go_wp2
          go_ret
          exact ⟨by rw [E1.out]; rfl, ibelow_drewN (ibelow_drewN (ibelow_drewN (Below.refl _ _) _) _) _⟩
  · have hne : ((n : Int) != (n' : Int)) = true := by simp; omega
    have E := Lib.hid (ltB_len (xs := xs) (ys := ys) (by rw [← LX.out, ← LY.out]; exact hnm))
    rw [E.out, ← LX.out, ← LY.out]
    clear E LX LY
    go_enter Tryz.func21, Tryz.ntmps21
    go_wp2
    go_ret
    exact ⟨rfl, Below.refl _ _⟩

theorem pol_mon_len {p : Int} {xs ys : List Int} (hp : Pr p) (hb : ¬ Ser.Bd p (cf xs) 0) (h : Pol p ys (cf xs)) : ys.length = (monL p (cf xs)).length ∧ 1 ≤ ys.length := by
  obtain ⟨m, hm⟩ := last_of hb (fini_cf p xs)
  have h1 := (mn_mon hp hm).2.1
  have h2 := pol_len (by have := hp.1; omega) h hm.1 hm.2
  omega
set_option maxRecDepth 100000 in
set_option maxHeartbeats 1000000 in
theorem rWrong9 (A : Option Addr) (n c : Nat) (xs : List Int) (p : Int) (w : World) (h : ISl w A n c xs) (ip : In64 p) (hn : n ≤ 17592186044416) :
    Calls Tryz.prog 11 #[.slice A n c, .int .i64 p] w fun e w' => e = .returned (.int .i64 (eff p (cf xs))) ∧ Below w.heap.size w w' := by
  have C := refCheck_any p w ip.1 ip.2
  rcases eff_cases p (cf xs) with ⟨hp, hb, hl, he⟩ | ⟨he, hp⟩ | ⟨he, hp, hb⟩ | ⟨he, hp, hb, hl⟩
  · rw [chk_yes (primB_yes hp)] at C
    have CC := Lib.hid C
    have PL := Lib.hid (plain_big A n c xs p w h hp.md (by omega))
    have NZ := Lib.hid (fun ys (k : Pol p ys (cf xs)) => (show ys.length ≠ 0 ∧ ys.length ≤ 65 by have := pol_mon_len hp hb k; omega))
    rw [he]
    clear C h ip hp hb hl he
    go_enter Tryz.func11, Tryz.ntmps11
    go_wp2_with (first
      | (go_at_call 30; (with_reducible refine CC.out.mono ?_); rintro e w1 ⟨rfl, rfl⟩)
      | (go_at_call 23; (with_reducible refine PL.out.mono ?_); rintro e w2 ⟨v, rfl, C2, m2, d2, ys, rfl, hi, hpl, -, -, hb2⟩; have hm : ((m2 : Int) == 0) = false := (by { have h1 := hi.len; have h2 := (NZ.out ys hpl).1; simp; omega }); have hm2 : ¬ (65 : Int) < (m2 : Int) := (by { have h1 := hi.len; have h2 := (NZ.out ys hpl).2; omega }); have HB := Lib.hid hb2; clear hi hpl hb2))
    go_ret
    exact ⟨rfl, HB.out⟩
  · rw [chk_no (primB_no hp)] at C
    have CC := Lib.hid C
    rw [he]
    clear C h ip hp he
    go_enter Tryz.func11, Tryz.ntmps11
    go_wp2_with (go_at_call 30; (with_reducible refine CC.out.mono ?_); rintro e w1 ⟨rfl, rfl⟩)
    go_ret
    exact ⟨rfl, Below.refl _ _⟩
  · rw [chk_yes (primB_yes hp)] at C
    have CC := Lib.hid C
    have PL := Lib.hid (plain_big A n c xs p w h hp.md (by omega))
    have NZ := Lib.hid (fun ys (k : Pol p ys (cf xs)) => (k.nought (by have := hp.1; omega)).2 hb)
    rw [he]
    clear C h ip hp hb he
    go_enter Tryz.func11, Tryz.ntmps11
    go_wp2_with (first
      | (go_at_call 30; (with_reducible refine CC.out.mono ?_); rintro e w1 ⟨rfl, rfl⟩)
      | (go_at_call 23; (with_reducible refine PL.out.mono ?_); rintro e w2 ⟨v, rfl, C2, m2, d2, ys, rfl, hi, hpl, -, -, hb2⟩; obtain rfl : m2 = 0 := by { have := hi.len; rw [NZ.out ys hpl] at this; exact this }; have HB := Lib.hid hb2; clear hi hpl hb2))
    go_ret
    exact ⟨rfl, HB.out⟩
  · rw [chk_yes (primB_yes hp)] at C
    have CC := Lib.hid C
    have PL := Lib.hid (plain_big A n c xs p w h hp.md (by omega))
    have NZ := Lib.hid (fun ys (k : Pol p ys (cf xs)) => (show ¬ ys.length ≤ 65 by have := pol_mon_len hp hb k; omega))
    rw [he]
    clear C h ip hp hb hl he
    go_enter Tryz.func11, Tryz.ntmps11
    go_wp2_with (first
      | (go_at_call 30; (with_reducible refine CC.out.mono ?_); rintro e w1 ⟨rfl, rfl⟩)
      | (go_at_call 23; (with_reducible refine PL.out.mono ?_); rintro e w2 ⟨v, rfl, C2, m2, d2, ys, rfl, hi, hpl, -, -, hb2⟩; have hm : ((m2 : Int) == 0) = false := (by { have h1 := hi.len; have h2 := NZ.out ys hpl; simp; omega }); have hm2 : (65 : Int) < (m2 : Int) := (by { have h1 := hi.len; have h2 := NZ.out ys hpl; omega }); have HB := Lib.hid hb2; clear hi hpl hb2))
    go_ret
    exact ⟨rfl, HB.out⟩
end Go.Proofs.YtnkhhndjbanmnaaGreatDoor

/- The law's own great of layer 9 by contract. -/
namespace Go.Proofs.YtnkhhndjbanmnaaGreatDoor
open Go.RowKit Go.Shelf Go.Lib

theorem hstep9 {w w1 w2 : World} (h : Hid (Below w.heap.size w w1)) (k : Below w1.heap.size w1 w2) : Hid (Below w.heap.size w w2) := Lib.hid (h.out.trans (k.mono h.out.size))
def grB (n : Nat) (e : Int) : Bool := decide (17 < n) || e != 0
theorem grB_no {n : Nat} {e : Int} (h : grB n e = false) : n ≤ 17 ∧ e = 0 := by
  unfold grB at h
  rw [Bool.or_eq_false_iff] at h
  refine ⟨by have := of_decide_eq_false h.1; omega, ?_⟩
  have := h.2
  simpa using this
set_option maxRecDepth 100000 in
set_option maxHeartbeats 1000000 in
theorem lGreat (A : Option Addr) (n c : Nat) (xs : List Int) (p : Int) (w : World) (h : ISl w A n c xs) (ip : In64 p) :
    Calls Tryz.prog 26 #[.slice A n c, .int .i64 p] w fun e w' => e = .returned (.bool (grB n (eff p (cf xs)))) ∧ Below w.heap.size w w' := by
  have hle := h.le
  have hmx := h.max
  by_cases hn : n ≤ 17
  · have CC := Lib.hid (rWrong9 A n c xs p w h ip (by omega))
    have e0 : grB n (eff p (cf xs)) = (eff p (cf xs) != 0) := by
      unfold grB
      rw [decide_eq_false (by omega)]; rfl
    rw [e0]
    have hn2 : ¬ (17 : Int) < (n : Int) := by omega
    generalize eff p (cf xs) = u at *
    clear h ip e0
    go_enter Tryz.func26, Tryz.ntmps26
    go_wp2_with (go_at_call 11; (with_reducible refine CC.out.mono ?_); rintro e w' ⟨rfl, hb⟩; have HB := Lib.hid hb; clear hb)
    go_ret
    exact ⟨rfl, HB.out⟩
  · have e0 : grB n (eff p (cf xs)) = true := by
      unfold grB
      rw [decide_eq_true (by omega)]; rfl
    rw [e0]
    have hn2 : (17 : Int) < (n : Int) := by omega
    clear h ip e0
    go_enter Tryz.func26, Tryz.ntmps26
    go_wp2_with fail
    go_ret
    exact ⟨rfl, Below.refl _ _⟩
end Go.Proofs.YtnkhhndjbanmnaaGreatDoor

/- A product as it grows: a coefficient times monic ones. Mathematics alone. -/
namespace Go.Proofs.YtnkhhndjbanmnaaGreatDoor
open Ser (Bd)

/-- The row is c times a monic one that is divided as v says. -/
def Grw (p c : Int) (v : Ser → Nat) (out : List Int) : Prop := ∃ g, Mn p g ∧ Pol p out (Ser.sc c (cf g)) ∧ ∀ q, Irr p q → V p (cf g) q = v q
theorem grw_start {p c : Int} (hp : Pr p) (h1 : 1 ≤ c) (h2 : c < p) : Grw p c (fun _ => 0) [c] := by
  refine ⟨[1], mn_one hp, ⟨⟨fun x hx => ?_, .inr ?_⟩, fun i => ?_⟩, fun q hq => V_one hp hq⟩
  · simp at hx; omega
  · show c ≠ 0; omega
  · show cf [c] i % p = (c * cf [1] i) % p
    match i with
    | 0 => show c % p = c * 1 % p; rw [Int.mul_one]
    | i + 1 => rw [cf_over (by simp), cf_over (by simp)]; simp
theorem Grw.next {p c : Int} {v : Ser → Nat} {out q : List Int} (hp : Pr p) (h : Grw p c v out) (hq : Mn p q) : Grw p c (fun r => v r + V p (cf q) r) (polL p (Ser.mul (cf out) (cf q))) := by
  obtain ⟨g, g1, g2, g3⟩ := h
  obtain ⟨m1, _, m3⟩ := mn_mul hp g1 hq
  refine ⟨_, m1, ?_, fun r hr => by rw [m3 r hr, g3 r hr]⟩
  have hf : Fini p (Ser.mul (cf out) (cf q)) := (fini_cf p out).mul (fini_cf p q)
  refine (polL_pol hp hf).eq ?_
  refine (g2.2.mul (Ser.Eq.refl _ _)).trans ?_
  rw [Ser.sc_mul]
  exact Ser.Eq.sc rfl (polL_pol hp ((fini_cf p g).mul (fini_cf p q))).2.symm
theorem Grw.congr {p c : Int} {v v' : Ser → Nat} {out : List Int} (h : Grw p c v out) (e : ∀ q, Irr p q → v q = v' q) : Grw p c v' out := by
  obtain ⟨g, g1, g2, g3⟩ := h
  exact ⟨g, g1, g2, fun q hq => (g3 q hq).trans (e q hq)⟩
theorem last_sc {p c : Int} {f : Ser} {m : Nat} (hp : Pr p) (hc : c % p ≠ 0) (h : Last p f m) : Last p (Ser.sc c f) m :=
  ⟨fun i hi => by show c * f i % p = 0; rw [Int.mul_emod, h.1 i hi]; simp, mul_nz hp hc h.2⟩
theorem Grw.len {p c : Int} {v : Ser → Nat} {out m : List Int} (hp : Pr p) (hc : c % p ≠ 0) (hm : Mn p m) (h : Grw p c v out) (e : ∀ q, Irr p q → v q ≤ V p (cf m) q) : out.length ≤ m.length := by
  obtain ⟨g, g1, g2, g3⟩ := h
  have h1 := g1.len_le hp hm fun q hq => by rw [g3 q hq]; exact e q hq
  have hl := last_sc hp hc g1.last
  have := pol_len (by have := hp.1; omega) g2 hl.1 hl.2
  have := g1.pos
  omega
theorem cf_mem {L : List Int} {m : Nat} (h : m < L.length) : cf L m ∈ L := by
  unfold cf
  rw [List.getD_eq_getElem?_getD, List.getElem?_eq_getElem h]
  exact List.getElem_mem _
/-- The last coefficient of what is asked about. -/
theorem last_cf9 {p : Int} {xs : List Int} (hp : Pr p) (hb : ¬ Bd p (cf xs) 0) : ∃ m, Last p (cf xs) m ∧ (polL p (cf xs)).length = m + 1 ∧ cf (polL p (cf xs)) m % p = cf xs m % p ∧ 1 ≤ cf (polL p (cf xs)) m ∧ cf (polL p (cf xs)) m < p := by
  obtain ⟨m, hm⟩ := last_of hb (fini_cf p xs)
  have hP := polL_pol hp (fini_cf p xs)
  have hl := pol_len (by have := hp.1; omega) hP hm.1 hm.2
  have e := hP.2 m
  have hr := hP.1.1 (cf (polL p (cf xs)) m) (cf_mem (by omega))
  refine ⟨m, hm, hl, e, ?_, hr.2⟩
  have : cf (polL p (cf xs)) m ≠ 0 := fun k => hm.2 (by rw [← e, k]; simp)
  have := hr.1
  omega
theorem Grw.done {p : Int} {v : Ser → Nat} {out xs : List Int} (hp : Pr p) {m : Nat} (hm : Last p (cf xs) m) {c : Int} (hc : c % p = cf xs m % p) (h : Grw p c v out) (e : ∀ q, Irr p q → v q = V p (cf (monL p (cf xs))) q) : out = polL p (cf xs) := by
  obtain ⟨g, g1, g2, g3⟩ := h
  obtain ⟨m1, m2, m3, m4⟩ := mn_mon hp hm
  have hg : g = monL p (cf xs) := g1.ext hp m1 fun q hq => (g3 q hq).trans (e q hq)
  subst hg
  refine (polL_is hp (g2.eq ?_)).symm
  refine (Ser.Eq.sc hc m3).trans fun i => ?_
  show cf xs m * (finv (cf xs m) p * cf xs i) % p = cf xs i % p
  rw [← Int.mul_assoc, Int.mul_emod, (finv_spec hp hm.2).2.2, Int.one_mul, Int.emod_emod_of_dvd _ (Int.dvd_refl p)]
/-- The first j of them. -/
theorem vn_take {p : Int} {q : Ser} {L : PL} {j : Nat} (hj : j < L.length) : vn p q (L.take (j + 1)) = vn p q (L.take j) + L[j].2 * V p (cf L[j].1) q := by
  rw [List.take_succ_eq_append_getElem hj, vn_append, vn, vn, Nat.add_zero]
theorem vn_take_le {p : Int} {q : Ser} (L : PL) (j : Nat) : vn p q (L.take j) ≤ vn p q L := by
  conv => rhs; rw [← List.take_append_drop j L]
  rw [vn_append]; omega
end Go.Proofs.YtnkhhndjbanmnaaGreatDoor

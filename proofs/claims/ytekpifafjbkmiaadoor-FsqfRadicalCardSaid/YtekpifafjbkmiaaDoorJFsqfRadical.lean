/- The law FsqfRadical: its walk and its card. -/
import Derived.Test.YtekpifafjbkmiaaDoorMh27
import Derived.Test.YtekpifafjbkmiaaDoorTie
import Derived.Test.YtekpifafjbkmiaaDoorCards
import Derived.ChangeOld
import Derived.ChangeMaps5
import Derived.Lay
import Derived.LaidMore
import Derived.SevenTiedAt
import Derived.Stop.Joined
import Derived.Below

/- The radical's mathematics: it divides, a power of it is divided, a product's is made of both. -/
namespace Go.Proofs.YtekpifafjbkmiaaDoor
open Ser (Bd)

theorem mnr_gcd {p : Int} {xs : List Int} (hp : Pr p) (h : Mn p xs) (hs : Sqf p xs) : esq p (cf xs) = 0 ∧ sqB p (cf xs) = true :=
  ⟨esq_yes hp h.last.some, sqB_is (esq_yes hp h.last.some) (by rw [mon_self hp h]; exact ⟨fun _ => hs, fun _ => rfl⟩)⟩
/-- What a radical is to its polynomial. -/
structure RdF (p : Int) (xs r : List Int) : Prop where
  m : Mn p r
  v : ∀ q, Irr p q → V p (cf r) q = min 1 (V p (cf xs) q)
  len : r.length ≤ xs.length
  rem : remL p (cf xs) (cf r) = []
  e : ediv p (cf r) = 0
  b : sqB p (cf r) = true
  s : esq p (cf r) = 0
theorem rdf_of {p : Int} {xs r : List Int} (hp : Pr p) (hb : ¬ Bd p (cf xs) 0) (h : IsRad p (monL p (cf xs)) r) : RdF p xs r := by
  obtain ⟨m, hm, hl⟩ := last_cf hb
  obtain ⟨m1, m2, m3⟩ := mn_monL hp hb
  have hv : ∀ q, Irr p q → V p (cf r) q = min 1 (V p (cf xs) q) := fun q hq => by rw [h.2 q hq, m3 q hq]
  have hs : Sqf p r := fun q hq => by rw [hv q hq]; omega
  obtain ⟨s1, s2⟩ := mnr_gcd hp h.1 hs
  refine ⟨h.1, hv, ?_, ?_, ediv_yes hp h.1.last.some, s2, s1⟩
  · have := Mn.len_le hp h.1 m1 fun q hq => by rw [h.2 q hq]; omega
    omega
  · exact rem_mult hp h.1.last (mult_of_V hp _ _ _ _ h.1.last hm fun q hq => by rw [hv q hq]; omega)
/-- The product of two. -/
theorem mul_some {p : Int} {xs ys : List Int} (hp : Pr p) (ha : ¬ Bd p (cf xs) 0) (hb : ¬ Bd p (cf ys) 0) :
    ¬ Bd p (cf (polL p (Ser.mul (cf xs) (cf ys)))) 0 ∧ ∀ q, Irr p q → V p (cf (polL p (Ser.mul (cf xs) (cf ys)))) q = V p (cf xs) q + V p (cf ys) q := by
  obtain ⟨m, hm, _⟩ := last_cf ha
  obtain ⟨m', hm', _⟩ := last_cf hb
  have hP := polL_pol (f := Ser.mul (cf xs) (cf ys)) hp ((fini_cf p xs).mul (fini_cf p ys))
  exact ⟨((hm.mul hp hm').eq hP.2.symm).some, fun q hq => by rw [V_congr hP.2, V_mul hp hq hm hm']⟩
theorem mul_none {p : Int} {xs ys : List Int} (hp : Pr p) (h : Bd p (cf xs) 0 ∨ Bd p (cf ys) 0) : Bd p (cf (polL p (Ser.mul (cf xs) (cf ys)))) 0 := by
  have hP := polL_pol (f := Ser.mul (cf xs) (cf ys)) hp ((fini_cf p xs).mul (fini_cf p ys))
  refine Bd.eq ?_ hP.2.symm
  rcases h with h | h
  · obtain ⟨k, hk⟩ := fini_cf p ys
    have e : Ser.Eq p (Ser.mul (cf xs) (cf ys)) (Ser.mul Ser.zer (cf ys)) := Ser.Eq.mul (fun i => by rw [h i (Nat.zero_le _)]; simp [Ser.zer]) (Ser.Eq.refl _ _)
    refine Bd.eq (fun i _ => ?_) e.symm
    rw [Ser.zer_mul]; simp [Ser.zer]
  · have e : Ser.Eq p (Ser.mul (cf xs) (cf ys)) (Ser.mul (cf xs) Ser.zer) := Ser.Eq.mul (Ser.Eq.refl _ _) (fun i => by rw [h i (Nat.zero_le _)]; simp [Ser.zer])
    refine Bd.eq (fun i _ => ?_) e.symm
    rw [Ser.mul_comm, Ser.zer_mul]; simp [Ser.zer]
/-- A product's radical: both, but what is common once. -/
structure RdP (p : Int) (r s t : List Int) : Prop where
  q : quoL p (cf (polL p (Ser.mul (cf r) (cf s)))) (cf (bezG p (cf r) (cf s))) = t
  e : ediv p (cf (bezG p (cf r) (cf s))) = 0
  l : (bezG p (cf r) (cf s)).length ≤ r.length
theorem rdp_of {p : Int} {xs ys r s t : List Int} (hp : Pr p) (ha : ¬ Bd p (cf xs) 0) (hb : ¬ Bd p (cf ys) 0) (hr : RdF p xs r) (hs : RdF p ys s) (ht : RdF p (polL p (Ser.mul (cf xs) (cf ys))) t) : RdP p r s t := by
  obtain ⟨_, v⟩ := mul_some hp ha hb
  obtain ⟨u1, _, u3⟩ := mn_mul hp hr.m hs.m
  obtain ⟨g1, g2, g3⟩ := mn_gcd hp hr.m hs.m
  obtain ⟨q1, _, q3⟩ := mn_quo hp u1 g1 fun q hq => by rw [g3 q hq, u3 q hq]; omega
  refine ⟨q1.ext hp ht.m fun q hq => ?_, ediv_yes hp g1.last.some, g2⟩
  rw [q3 q hq, u3 q hq, g3 q hq, ht.v q hq, v q hq, hr.v q hq, hs.v q hq]
  omega
/-- Powers of it. -/
structure PwR (p : Int) (r : List Int) (k : Nat) (w : List Int) : Prop where
  m : Mn p w
  len : w.length ≤ k * 13 + 1
  v : ∀ q, Irr p q → V p (cf w) q = k * V p (cf r) q
theorem pwr_start {p : Int} (hp : Pr p) (r : List Int) : PwR p r 0 [1] := ⟨mn_one hp, by decide, fun q hq => by rw [V_one hp hq, Nat.zero_mul]⟩
theorem PwR.next {p : Int} {r w : List Int} {k : Nat} (hp : Pr p) (hr : Mn p r) (hl : r.length ≤ 14) (h : PwR p r k w) : PwR p r (k + 1) (polL p (Ser.mul (cf w) (cf r))) := by
  obtain ⟨u1, u2, u3⟩ := mn_mul hp h.m hr
  have := h.len
  exact ⟨u1, by omega, fun q hq => by rw [u3 q hq, h.v q hq, Nat.succ_mul]⟩
theorem PwR.done {p : Int} {xs r w : List Int} (hp : Pr p) (hb : ¬ Bd p (cf xs) 0) (hl : xs.length ≤ 14) (hr : RdF p xs r) (h : PwR p r 14 w) : remL p (cf w) (cf xs) = [] ∧ ediv p (cf xs) = 0 := by
  obtain ⟨m, hm, hml⟩ := last_cf hb
  refine ⟨rem_mult hp hm (mult_of_V hp _ _ _ _ hm h.m.last fun q hq => ?_), ediv_yes hp hb⟩
  have := V_le_deg hp hq hm
  rw [h.v q hq, hr.v q hq]
  omega
theorem rad_bad {p : Int} {xs ys : List Int} (h : ¬ (Pr p ∧ ¬ Bd p (cf xs) 0 ∧ ¬ Bd p (cf ys) 0)) :
    (esq p (cf xs) = 1 ∧ esq p (cf ys) = 1 ∧ esq p (cf (polL p (Ser.mul (cf xs) (cf ys)))) = 1) ∨ (esq p (cf xs) = 8 ∧ esq p (cf ys) = 8 ∧ esq p (cf (polL p (Ser.mul (cf xs) (cf ys)))) = 8) ∨
    (esq p (cf xs) = 8 ∧ esq p (cf ys) = 0 ∧ esq p (cf (polL p (Ser.mul (cf xs) (cf ys)))) = 8) ∨ (esq p (cf xs) = 0 ∧ esq p (cf ys) = 8 ∧ esq p (cf (polL p (Ser.mul (cf xs) (cf ys)))) = 8) := by
  rcases Classical.em (Pr p) with hp | hp
  · rcases Classical.em (Bd p (cf xs) 0) with ha | ha <;> rcases Classical.em (Bd p (cf ys) 0) with hb | hb
    · exact .inr (.inl ⟨esq_zero hp ha, esq_zero hp hb, esq_zero hp (mul_none hp (.inl ha))⟩)
    · exact .inr (.inr (.inl ⟨esq_zero hp ha, esq_yes hp hb, esq_zero hp (mul_none hp (.inl ha))⟩))
    · exact .inr (.inr (.inr ⟨esq_yes hp ha, esq_zero hp hb, esq_zero hp (mul_none hp (.inr hb))⟩))
    · exact absurd ⟨hp, ha, hb⟩ h
  · exact .inl ⟨esq_no hp, esq_no hp, esq_no hp⟩
end Go.Proofs.YtekpifafjbkmiaaDoor

/- The law FsqfRadical, walked. -/
namespace Go.Proofs.YtekpifafjbkmiaaDoor
open Go.RowKit

theorem rstep8 {w w1 w2 : World} (h : Hid (Below w.heap.size w w1)) (k : Below w1.heap.size w1 w2) : Hid (Below w.heap.size w w2) := Lib.hid (h.out.trans (k.mono h.out.size))

set_option maxRecDepth 100000 in
set_option maxHeartbeats 8000000 in
theorem walkFsqfRadical (A : Option Addr) (n c : Nat) (xs : List Int) (B : Option Addr) (n' c' : Nat) (ys : List Int) (p : Int) (w : World) (hT : TabAt w) (sm : ISl w A n c xs) (_ : n ≤ 17592186044416) (sm' : ISl w B n' c' ys) (_ : n' ≤ 17592186044416) (wp : (Lit.int .i64 p).wf = true) :
    Calls Tryd.prog 7 #[.slice A n c, .slice B n' c', .int .i64 p] w fun e w' => e = .returned (.bool true) ∧ Below w.heap.size w w' := by
  have ip : In64 p := int_wf wp
  have AW := Lib.hid (awake08 w hT)
  by_cases hn : n ≤ 14
  · by_cases hn' : n' ≤ 14
    · have hn2 : ¬ (14 : Int) < (n : Int) := by omega
      have hn2' : ¬ (14 : Int) < (n' : Int) := by omega
      have T3 := Lib.hid (fun W (hb : Below w.heap.size w W) => lTimes8 A B n c n' c' xs ys p W (hT.below hb) (sm.below hb) (sm'.below hb) ip (by omega) (by omega))
      have HT := Lib.hid hT
      have IP := Lib.hid ip
      rcases Classical.em (Pr p ∧ ¬ Ser.Bd p (cf xs) 0 ∧ ¬ Ser.Bd p (cf ys) 0) with ⟨hp, ha, hb⟩ | hbad
      · have PR := Lib.hid hp
        have NA := Lib.hid ha
        have NB := Lib.hid hb
        have NP := Lib.hid (mul_some hp ha hb).1
        have E1 := Lib.hid (fun W (hW : Below w.heap.size w W) => fRadOk A n c xs p W (hT.below hW) (sm.below hW) ip (by omega) hp ha)
        have E2 := Lib.hid (fun W (hW : Below w.heap.size w W) => fRadOk B n' c' ys p W (hT.below hW) (sm'.below hW) ip (by omega) hp hb)
        have D1 := Lib.hid (fun W (hW : Below w.heap.size w W) C m d (r : List Int) (h : ISl W C m d r) (hm : m ≤ 14) => cDiv A C n c m d xs r p W (hT.below hW) (sm.below hW) h ip (by omega) (by omega))
        have D2 := Lib.hid (fun W (hW : Below w.heap.size w W) C m d (r : List Int) (h : ISl W C m d r) (hm : m ≤ 1000) => cDiv C A m d n c r xs p W (hT.below hW) h (sm.below hW) ip (by omega) (by omega))
        have LX := Lib.hid (show xs.length ≤ 14 by have := sm.len; omega)
        have LY := Lib.hid (show ys.length ≤ 14 by have := sm'.len; omega)
        clear hT sm sm' hp ha hb wp
        go_enter Tryd.func7, Tryd.ntmps7
        go_wp2_with (first
          | (go_at_call 8; (with_reducible refine AW.out.mono ?_); rintro e w0 ⟨rfl, hb0⟩; have HB0 := Lib.hid hb0; clear hb0)
          | (go_at_call 11; (with_reducible refine (E1.out _ HB0.out).mono ?_); clear E1; rintro e w1 ⟨C1, m1, d1, rfl, ⟨r, hr, hi⟩, hb1⟩; have HB1 := rstep8 HB0 hb1; have FR := Lib.hid (rdf_of PR.out NA.out hr); have I1 := Lib.hid hi; have m19 : m1 ≤ 14 := (by have h1 := FR.out.len; have h2 := hi.len; have h3 := LX.out; omega); clear hr hi hb1)
          | (go_at_call 11; (with_reducible refine (E2.out _ HB1.out).mono ?_); clear E2; rintro e w2 ⟨C2, m2, d2, rfl, ⟨s, hs, hi⟩, hb2⟩; have HB2 := rstep8 HB1 hb2; have FSh := Lib.hid (rdf_of PR.out NB.out hs); have I2 := Lib.hid hi; have J1 := Lib.hid (I1.out.below hb2); have m29 : m2 ≤ 14 := (by have h1 := FSh.out.len; have h2 := hi.len; have h3 := LY.out; omega); clear hs hi hb2)
          | (go_at_call 19; (with_reducible refine (T3.out _ HB2.out).mono ?_); clear T3; rintro e w3 ⟨C3, m3, d3, rfl, hg⟩; have HB3 := rstep8 HB2 hg.bel; have E3 := Lib.hid (fRadOk C3 m3 d3 _ p w3 (HT.out.below HB3.out) hg.isl IP.out (by have := hg.2.1; omega) PR.out NP.out); have B3 := Lib.hid hg.bel; clear hg)
          | (go_at_call 11; (with_reducible refine E3.out.mono ?_); clear E3; rintro e w4 ⟨C4, m4, d4, rfl, ⟨t, ht, hi⟩, hb4⟩; have HB4 := rstep8 HB3 hb4; have FT := Lib.hid (rdf_of PR.out NP.out ht); have I4 := Lib.hid hi; have B4 := Lib.hid (below_to B3.out hb4); have S5 := Lib.hid (fIsTop C1 m1 d1 r p w4 (HT.out.below HB4.out) (J1.out.below B4.out) IP.out (by omega)); rw [FR.out.b, FR.out.s] at S5; clear ht hi hb4)
          | (go_at_call 13; (with_reducible refine S5.out.mono ?_); clear S5; rintro e w5 ⟨rfl, hb5⟩; have HB5 := rstep8 HB4 hb5; have K4 := Lib.hid hb5; have B5 := Lib.hid (below_to B4.out hb5); have S6 := Lib.hid (D1.out w5 HB5.out C1 m1 d1 r (J1.out.below B5.out) m19); rw [FR.out.rem, FR.out.e] at S6; clear hb5)
          | (go_at_call 22; (with_reducible refine S6.out.mono ?_); clear S6; rintro e w6 ⟨C6, m6, d6, C6', m6', d6', rfl, hg, hg'⟩; obtain rfl : m6' = 0 := (by have := hg'.isl.len; exact this); have HB6 := rstep8 HB5 hg.bel; have K6 := Lib.hid (below_to K4.out hg.bel); have B6 := Lib.hid (below_to B5.out hg.bel); clear hg hg'))
        have HBa := Lib.hid (bel_al w6 (.cells #[.int .i64 1] 3))
        have IZo := Lib.hid ((iblk_list w6 [1] (fi_one (by unfold In64; omega))).sl (by simp))
        go_loopw [19, 20] (fun vo vk wr => ∃ (k : Nat) (Co : Option Addr) (mv dv : Nat) (pw : List Int), vk = .int .i64 (k : Int) ∧ k ≤ 14 ∧ vo = .slice Co mv dv ∧ Hid (PwR p r k pw) ∧ Hid (ISl wr Co mv dv pw) ∧ Hid (Below w6.heap.size w6 wr)) (fun _ vk _ => 14 - (intOf vk).toNat)
        case atStart => exact ⟨0, _, _, _, [1], rfl, Nat.zero_le _, rfl, Lib.hid (pwr_start PR.out r), IZo, HBa⟩
        case round =>
          obtain ⟨k, Co, mv, dv, pw, rfl, hk, rfl, PW, IW, BB⟩ := hrel
          clear HBa IZo
          have BX := Lib.hid (show Below w.heap.size w wr from below_to HB6.out BB.out)
          have mv9 : mv ≤ 200 := by have := PW.out.len; have := IW.out.len; omega
          by_cases hkl : k < 14
          · have j1 : (k : Int) < 14 := by omega
            have MU := Lib.hid (lTimes8 Co C1 mv dv m1 d1 pw r p wr (HT.out.below BX.out) IW.out (J1.out.below (below_to B6.out BB.out)) IP.out (by omega) (by omega))
            have PN := Lib.hid (PW.out.next PR.out FR.out.m (Nat.le_trans FR.out.len LX.out))
            go_wp2_with (go_at_call 19; (with_reducible refine MU.out.mono ?_); rintro e w7 ⟨C7, m7, d7, rfl, hg⟩; have G7 := Lib.hid hg.isl; have B7 := Lib.hid (below_to BB.out hg.bel); clear hg)
            go_roundw
            case rel => exact ⟨k + 1, C7, m7, d7, _, by go_num, by omega, rfl, PN, G7, B7⟩
            case measure => simp [intOf]; omega
          · have j1 : ¬ (k : Int) < 14 := by omega
            have PW2 : Hid (PwR p r 14 pw) := Lib.hid (by have := PW.out; rwa [show k = 14 by omega] at this)
            have PD := PW2.out.done PR.out NA.out LX.out FR.out
            have S7 := Lib.hid (D2.out wr BX.out Co mv dv pw IW.out (by omega))
            rw [PD.1, PD.2] at S7
            have RP := Lib.hid (rdp_of PR.out NA.out NB.out FR.out FSh.out FT.out)
            clear PD D1 D2 PW PW2
            go_wp2_with (first
              | (go_at_call 22; (with_reducible refine S7.out.mono ?_); clear S7; rintro e w8 ⟨C8, m8, d8, C8', m8', d8', rfl, hg, hg'⟩; obtain rfl : m8' = 0 := (by have := hg'.isl.len; exact this); have B8 := Lib.hid (below_to BB.out hg.bel); have S9 := Lib.hid (cGcd C1 C2 m1 d1 m2 d2 r s p w8 (HT.out.below (below_to HB6.out B8.out)) (J1.out.below (below_to B6.out B8.out)) (I2.out.below (below_to B6.out B8.out)) IP.out (by omega) (by omega)); clear hg hg')
              | (go_at_call 21; (with_reducible refine S9.out.mono ?_); clear S9; rintro e w9 ⟨C9, m9, d9, rfl, hg⟩; have B9 := Lib.hid (below_to B8.out hg.bel); have G9 := Lib.hid hg.isl; have m99 : m9 ≤ 14 := (by have h1 := RP.out.l; have h2 := hg.isl.len; have h3 := FR.out.len; have h4 := LX.out; omega); have S10 := Lib.hid (lTimes8 C1 C2 m1 d1 m2 d2 r s p w9 (HT.out.below (below_to HB6.out B9.out)) (J1.out.below (below_to B6.out B9.out)) (I2.out.below (below_to B6.out B9.out)) IP.out (by omega) (by omega)); clear hg)
              | (go_at_call 19; (with_reducible refine S10.out.mono ?_); clear S10; rintro e w10 ⟨C10, m10, d10, rfl, hg⟩; have B10 := Lib.hid (below_to B9.out hg.bel); have S11 := Lib.hid (cDiv C10 C9 m10 d10 m9 d9 _ _ p w10 (HT.out.below (below_to HB6.out B10.out)) hg.isl (G9.out.below hg.bel) IP.out (by have := hg.2.1; omega) (by omega)); rw [RP.out.q, RP.out.e] at S11; clear hg)
              | (go_at_call 22; (with_reducible refine S11.out.mono ?_); clear S11; rintro e w11 ⟨C11, m11, d11, C11', m11', d11', rfl, hg, hg'⟩; have B11 := Lib.hid (below_to B10.out hg.bel); have SM := Lib.hid (polSame C11 C4 m11 d11 m4 d4 t t w11 hg.isl (I4.out.below (below_to K6.out B11.out)) rfl); clear hg hg')
              | (go_at_call 17; (with_reducible refine SM.out.mono ?_); rintro e w12 ⟨rfl, hb12⟩; have HB12 := Lib.hid (show Below w.heap.size w w12 from below_to HB6.out (below_to B11.out hb12)); clear hb12))
            go_ret
            exact ⟨rfl, HB12.out⟩
      · have E1 := Lib.hid (fun W (hW : Below w.heap.size w W) => fRadTop A n c xs p W (hT.below hW) (sm.below hW) ip (by omega))
        have E2 := Lib.hid (fun W (hW : Below w.heap.size w W) => fRadTop B n' c' ys p W (hT.below hW) (sm'.below hW) ip (by omega))
        obtain ⟨h1, h2, h3⟩ | ⟨h1, h2, h3⟩ | ⟨h1, h2, h3⟩ | ⟨h1, h2, h3⟩ := rad_bad hbad <;> (
          rw [h1] at E1
          rw [h2] at E2
          have EG := Lib.hid h3
          clear hT sm sm' h1 h2 h3 hbad
          go_enter Tryd.func7, Tryd.ntmps7
          go_wp2_with (first
            | (go_at_call 8; (with_reducible refine AW.out.mono ?_); rintro e w0 ⟨rfl, hb0⟩; have HB0 := Lib.hid hb0; clear hb0)
            | (go_at_call 11; (with_reducible refine (E1.out _ HB0.out).mono ?_); clear E1; rintro e w1 ⟨C1, m1, d1, rfl, -, hb1⟩; have HB1 := rstep8 HB0 hb1; clear hb1)
            | (go_at_call 11; (with_reducible refine (E2.out _ HB1.out).mono ?_); clear E2; rintro e w2 ⟨C2, m2, d2, rfl, -, hb2⟩; have HB2 := rstep8 HB1 hb2; clear hb2)
            | (go_at_call 19; (with_reducible refine (T3.out _ HB2.out).mono ?_); clear T3; rintro e w3 ⟨C3, m3, d3, rfl, hg⟩; have HB3 := rstep8 HB2 hg.bel; have E3 := Lib.hid (fRadTop C3 m3 d3 _ p w3 (HT.out.below HB3.out) hg.isl IP.out (by have := hg.2.1; omega)); rw [EG.out] at E3; clear hg)
            | (go_at_call 11; (with_reducible refine E3.out.mono ?_); clear E3; rintro e w4 ⟨C4, m4, d4, rfl, -, hb4⟩; have HB4 := rstep8 HB3 hb4; clear hb4))
          go_ret
          exact ⟨rfl, HB4.out⟩)
    · have hn2 : ¬ (14 : Int) < (n : Int) := by omega
      have hn2' : (14 : Int) < (n' : Int) := by omega
      clear hT sm sm'
      go_enter Tryd.func7, Tryd.ntmps7
      go_wp2_with (go_at_call 8; (with_reducible refine AW.out.mono ?_); rintro e w0 ⟨rfl, hb0⟩; have HB0 := Lib.hid hb0; clear hb0)
      go_ret
      exact ⟨rfl, HB0.out⟩
  · have hn2 : (14 : Int) < (n : Int) := by omega
    clear hT sm sm'
    go_enter Tryd.func7, Tryd.ntmps7
    go_wp2_with (go_at_call 8; (with_reducible refine AW.out.mono ?_); rintro e w0 ⟨rfl, hb0⟩; have HB0 := Lib.hid hb0; clear hb0)
    go_ret
    exact ⟨rfl, HB0.out⟩
end Go.Proofs.YtekpifafjbkmiaaDoor

/- The statement 'FsqfRadical', a tied card: for every input the law's function returns true and leaves its arguments as they were; the package-level tables that the row lists are laid as the program's text lays them. No conditions but the form's own. -/
namespace Go.Proofs.YtekpifafjbkmiaaDoor.lawFsqfRadicalCard
open Go.ChangeShapes Go.WideShapes Go.ChangeAt Go.RowKit Go.ChangeMaps
set_option maxRecDepth 100000 in
theorem lifted (os : Os) (started : os.Started) (H : Type) (enc : TypeId × Value → H) :
    ReturnsInHanded {} Tryd.checked os 7 .any (fun w args => (Rows.fsqfRadicalSpec.pre enc Tryd.prog Tryd.f7 Rows.fsqfRadicalRow.domain false w args ∧ laidMetH Tryd.prog Rows.fsqfRadicalRow.laid w) ∧ sizedMet enc Tryd.prog Tryd.f7 (OpenSpec.ofChange Rows.fsqfRadicalSpec) false w args)
      (Rows.fsqfRadicalSpec.post enc Tryd.prog Tryd.f7 false true false false) := by
  refine returnsInHanded_of_change_and (C := Tryd.checked) (X := fun w _ => laidMetH Tryd.prog Rows.fsqfRadicalRow.laid w) (fun _ _ _ hh h => h.of_heap hh) own0 started (by kernel_rfl) Tryd.func7
    (ChangeSpec.witness_shaped (enc := enc) (C := Tryd.checked) (os := os) (X := fun w _ => laidMetH Tryd.prog Rows.fsqfRadicalRow.laid w) false (World.laidAll Tryd.prog os Rows.fsqfRadicalRow.laid) #[.slice none 0 0, .slice none 0 0, .int .i64 0] 8 (World.laidAll_os _ _ _)
      (World.shaped_of_ZipB (by kernel_rfl) (by kernel_rfl)) (by kernel_rfl) (by kernel_rfl) (by kernel_rfl)
      (by rw [MakeChecks.laidMetH_plain _ _ _ (by kernel_rfl)]; exact laidMet_laidAll _ (by kernel_rfl) (by kernel_rfl))) ?_
  intro W base args ds gs before hval0 hW hcnd hsz0 hL hholds
  have hval : ∀ (j : Nat) t v, Tryd.f7.params[j]? = some t → args[j]? = some v → Value.okWide Tryd.prog W .any base t v := hval0
  have hW' := hW
  obtain ⟨p, q, hA0, hV, rfl, hfz, hnd⟩ := hW
  have hA : DataW.TrodAll enc Tryd.prog W 0 (fun _ => true) true Tryd.f7.params.toList args.toList ds p := hA0
  have hsz : (DataW.weightsEach Tryd.prog (Tryd.f7.params.toList ++ Rows.fsqfRadicalSpec.plain.varTypes Tryd.prog) (ds ++ gs)).all (· ≤ reachBytes) = true := hsz0
  rw [Tryd.params7] at hA hval hsz
  obtain ⟨v0, vs0, d0, ds0, p0, q0, hargs, rfl, rfl, h0, r0⟩ := trodAll_cons hA
  obtain ⟨v1, vs1, d1, ds1, p1, q1, rfl, rfl, rfl, h1, r1⟩ := trodAll_cons r0
  obtain ⟨v2, vs2, d2, ds2, p2, q2, rfl, rfl, rfl, h2, r2⟩ := trodAll_cons r1
  obtain ⟨rfl, rfl, rfl⟩ := trodAll_nil r2
  obtain rfl : args = #[v0, v1, v2] := by cases args; simp_all
  obtain ⟨rfl, rfl⟩ := trodVars_none hV
  obtain ⟨a0, len0, cap0, rfl⟩ := okWide_slice Tryd.underlying22 (hval 0 22 v0 rfl rfl)
  have k0 := h0
  have lt0 : ∀ x ∈ p0, x.block < W.heap.size := by obtain ⟨m, hm⟩ := k0; exact DataW.trod_lt m _ _ _ hm
  obtain ⟨x0, s0, b0⟩ := isl_open h0 hsz 0 rfl rfl
  obtain ⟨a1, len1, cap1, rfl⟩ := okWide_slice Tryd.underlying22 (hval 1 22 v1 rfl rfl)
  have k1 := h1
  have lt1 : ∀ x ∈ p1, x.block < W.heap.size := by obtain ⟨m, hm⟩ := k1; exact DataW.trod_lt m _ _ _ hm
  obtain ⟨x1, s1, b1⟩ := isl_open h1 hsz 1 rfl rfl
  obtain ⟨a2, rfl, rfl, rfl, w2⟩ := open_int Tryd.underlying3 (hval 2 3 v2 rfl rfl) h2
  clear hA0 hval0 hsz0 hsz
  refine (walkFsqfRadical a0 len0 cap0 x0 a1 len1 cap1 x1 a2 W (tab_of_laid hL) s0 b0 s1 b1 w2).mono fun e W' ⟨he, bel⟩ => ?_
  subst he
  exact ⟨_, rfl, _, _, _, [], _, [], hW', trodAll_mk1 (shut_bool Tryd.underlying4 _), (trodAll_cons_mk (Below.trod laidOut0 (by kernel_rfl) (of_decide_eq_true (by kernel_rfl)) k0 bel lt0) (trodAll_cons_mk (Below.trod laidOut0 (by kernel_rfl) (of_decide_eq_true (by kernel_rfl)) k1 bel lt1) (trodAll_cons_mk (shut_int Tryd.underlying3 w2) trodAll_mk0))), rfl, bel.frame _, fun h => by cases h⟩
theorem over : Rows.fsqfRadicalRow.holds Tryd.pinned (OpenSpec.ofChange Rows.fsqfRadicalSpec) :=
  OpenClaim.holds_of_wide 7 Tryd.f7 rfl rfl rfl rfl rfl rfl rfl ⟨rfl, rfl, rfl, rfl, rfl⟩ rfl rfl rfl rfl rfl (by kernel_rfl) Tryd.func7 (by kernel_rfl)
    (of_decide_eq_true (by kernel_rfl)) (by unfold Func.isWrapper; first | (rw [if_pos (by decide +kernel)]; kernel_rfl) | (rw [if_neg (by decide +kernel)]; exact ⟨rfl, rfl⟩))
    (fun os started H enc _ => lifted os started H enc)
/-- The statement: the tied card. -/
theorem proved : Rows.FsqfRadicalCardSaid :=
  Claim7.holds_tied_plain_at .later [] [.data] true Rows.fsqfRadicalCard.stood.harness false over (fun _ h => by cases h) (by kernel_rfl) (fun _ h => by cases h) fsqfRadical_row_tie rfl ⟨rfl, rfl⟩ (by kernel_rfl) rfl
    (fun f fn hf hfn => by
      obtain rfl : f = 7 := Option.some.inj ((show Tryd.prog.funcNamed "cleaver/cleaverlaw08.FsqfRadical" = some 7 by kernel_rfl).symm.trans hf) |>.symm
      obtain rfl : fn = Tryd.f7 := (Option.some.inj (Tryd.func7.symm.trans hfn)).symm
      exact ⟨by kernel_rfl, fun j t ht => by
        rw [Tryd.params7] at ht
        have hm : t ∈ [22, 22, 3] := by simpa using Array.mem_of_getElem? ht
        have hall : ([22, 22, 3].all fun u => !Tryd.prog.wantsStandIn u) = true := by kernel_rfl
        exact (show Tryd.prog.wantsStandIn t = false by simpa using List.all_eq_true.1 hall t hm)⟩)
    (by kernel_rfl)
end Go.Proofs.YtekpifafjbkmiaaDoor.lawFsqfRadicalCard

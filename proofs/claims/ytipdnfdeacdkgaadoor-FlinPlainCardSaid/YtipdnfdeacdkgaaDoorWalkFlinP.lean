/- The law FlinPlain, walked. -/
import Derived.Test.YtipdnfdeacdkgaaDoorWalkFlinL
namespace Go.Proofs.YtipdnfdeacdkgaaDoor
open Go.RowKit Go.Shelf

theorem ech_right {p : Int} {nc : Nat} {M : List (List Int)} {R : List (Nat × List Int)} (hp : Pr p) (h : EchOf p nc M R) (hn : nc ≤ 64) : Right p (rowsOf R) := by
  have hlen : ∀ i, i < R.length → ((rowsOf R).getD i []).length = nc := fun i hi => by rw [rowsOf_getD, prow_at hi]; exact h.1.len _ (List.getElem_mem hi)
  have hl : (rowsOf R).length = R.length := by simp [rowsOf]
  refine ⟨hp, by rw [hl]; exact Nat.le_trans h.len hn, fun i hi => ?_⟩
  rw [hl] at hi
  rw [hlen i hi, hlen 0 (by omega)]
  exact ⟨hn, rfl⟩
theorem ech_self {p : Int} {nc : Nat} {M : List (List Int)} {R : List (Nat × List Int)} (hp : Pr p) (h : EchOf p nc M R) (hn : nc ≤ 64) : echV p (rowsOf R) = rowsOf R := by
  unfold echV
  rw [ansB_yes (ech_right hp h hn)]
  by_cases hR : 0 < R.length
  · have hc : cols (rowsOf R) = nc := by unfold cols; rw [rowsOf_getD, prow_at hR]; exact h.1.len _ (List.getElem_mem hR)
    rw [hc, echP_eq hp.1 (⟨h.1, fun r hr => .row hr, fun r hr => .row hr⟩ : EchOf p nc (rowsOf R) R)]
  · have : R = [] := List.eq_nil_of_length_eq_zero (by omega)
    subst this
    rw [show rowsOf ([] : List (Nat × List Int)) = [] from rfl, ech_none p hp.1]; rfl
/-- The places of the first residues. -/
def leadL (R : List (Nat × List Int)) : List Int := R.map fun a => (a.1 : Int)
theorem leadL_len (R : List (Nat × List Int)) : (leadL R).length = R.length := by simp [leadL]
theorem cf_leadL {R : List (Nat × List Int)} {k : Nat} (h : k < R.length) : cf (leadL R) k = (plc R k : Int) := by
  rw [cf_at (by rw [leadL_len]; exact h), plc_at h]
  simp [leadL]
def lastP (R : List (Nat × List Int)) (t : Nat) : Int := if t = 0 then -1 else (plc R (t - 1) : Int)
theorem lastP_succ (R : List (Nat × List Int)) (t : Nat) : lastP R (t + 1) = (plc R t : Int) := by simp [lastP]
theorem lastP_lt {R : List (Nat × List Int)} (h : R.Pairwise fun a b => a.1 < b.1) {t : Nat} (ht : t < R.length) : -1 ≤ lastP R t ∧ lastP R t < (plc R t : Int) := by
  unfold lastP
  by_cases e : t = 0
  · rw [if_pos e]; omega
  · rw [if_neg e, plc_at ht, plc_at (by omega)]
    have := List.pairwise_iff_getElem.1 h (t - 1) t (by omega) ht (by omega)
    omega
theorem step_mod {p s t x a : Int} (h : s % p = t % p) : (s + x.tmod p * a).tmod p % p = (t + x * a) % p := by
  rw [tmod_mod, Int.add_emod, h, Int.mul_emod, tmod_mod, ← Int.mul_emod, ← Int.add_emod]

set_option maxRecDepth 100000 in
set_option maxHeartbeats 8000000 in
theorem plainMain (A : Option Addr) (n c : Nat) (M : List (List Int)) (p : Int) (w : World) (hT : TabAt w) (sm : MatAt w A n c M) (ip : In64 p) (hr : Right p M) :
    Calls Tryd.prog 6 #[.slice A n c, .int .i64 p] w fun e w' => e = .returned (.bool true) ∧ Below w.heap.size w w' := by
  have hp1 := hr.1.md.1
  have hp2 := hr.1.md.2
  have hp0 : p ≠ 0 := by omega
  have hE : EchOf p (cols M) M (echP p (cols M) M) := ech_ex hT sm hr (fun i hi => hr.len hi) hr.cols
  have hc64 := hr.cols
  have AW := Lib.hid (awake07 w hT)
  have E1 := Lib.hid (fun W (hb : Below w.heap.size w W) => fEchelon_any A n c M p W (hT.below hb) (sm.below hb) ip)
  rw [codeP_yes hr, show echV p M = rowsOf (echP p (cols M) M) from by unfold echV; rw [ansB_yes hr]] at E1
  have hlen : Hid (∀ i, i < M.length → (M.getD i []).length = cols M) := Lib.hid (fun i hi => hr.len hi)
  generalize echP p (cols M) M = R at *
  generalize cols M = nc at *
  have E2 := Lib.hid (fun W (hb : Below w.heap.size w W) (A1 : Option Addr) (m1 c1 : Nat) (h : MatAt W A1 m1 c1 (rowsOf R)) => (by
    have := fEchelon_any A1 m1 c1 (rowsOf R) p W (hT.below hb) h ip
    rw [codeP_yes (ech_right hr.1 hE hc64), ech_self hr.1 hE hc64] at this
    exact this :
      Calls Tryd.prog 10 #[.slice A1 m1 c1, .int .i64 p] W fun e w' => RowsOut W (rowsOf R) 0 e w'))
  have EE := Lib.hid hE
  have HRL := Lib.hid hE.len
  have HNL := Lib.hid sm.len
  have SM := Lib.hid (fun W (hb : Below w.heap.size w W) => sm.below hb)
  have q5 := sm.le
  have q6 := sm.max
  have hn64 : n ≤ 64 := by rw [sm.len]; exact hr.2.1
  clear hT sm ip hr hE
  go_enter Tryd.func6, Tryd.ntmps6
  go_wp2_with (first
    | (go_at_call 9; (with_reducible refine AW.out.mono ?_); rintro e w0 ⟨rfl, hb0⟩; have HB0 := Lib.hid hb0; clear hb0)
    | (go_at_call 10; (with_reducible refine (E1.out _ HB0.out).mono ?_); rintro e w1 ⟨A1, m1, c1, rfl, hM1, hb1⟩; have hm1 : m1 = R.length := (by rw [hM1.len]; simp [rowsOf]); have HL1 := Lib.hid hm1; have g1 := hM1.le; have g2 := hM1.max; have HM1 := Lib.hid hM1; have HB1 := hstepL HB0 hb1; clear hM1 hb1 E1 hm1)
    | (go_at_call 10; (with_reducible refine (E2.out _ HB1.out _ _ _ HM1.out).mono ?_); rintro e w2 ⟨A2, m2, c2, rfl, hM2, hb2⟩; have HM2 := Lib.hid hM2; have HM3 := Lib.hid (HM1.out.below hb2); have HB2 := hstepL HB1 hb2; clear hM2 hb2)
    | (go_at_call 12; (with_reducible refine (msame_any _ _ _ _ _ _ _ _ _ HM3.out HM2.out).mono ?_); rintro e w3 ⟨rfl, hb3⟩; have HB3 := hstepL HB2 hb3; have HM4 := Lib.hid (HM3.out.below hb3); have hs := meqB_self (rowsOf R); clear hb3))
  have HMM := Lib.hid (SM.out _ HB3.out)
  have hm164 : m1 ≤ 64 := by have := HRL.out; have := HL1.out; omega
  clear HM1 HM2 HM3 HB0 HB1 HB2 E2 AW SM
  go_loopw [12, 10, 11] (fun i la ld wr => ∃ t : Nat, t ≤ m1 ∧ i = .int .i64 (t : Int) ∧ la = .int .i64 (lastP R t) ∧ Hid (IOw wr w3.heap.size ld ((leadL R).take t)) ∧ Hid (Below w3.heap.size w3 wr)) (fun i _ _ _ => m1 - (intOf i).toNat)
  case atStart => exact ⟨0, Nat.zero_le _, rfl, rfl, Lib.hid (IOw.nil _ _), Lib.hid (Below.refl _ _)⟩
  case round =>
    obtain ⟨t, ht, rfl, rfl, hO, hbel⟩ := hrel
    by_cases hlt : t < m1
    · have htR : t < R.length := by rw [← HL1.out]; exact hlt
      obtain ⟨b, o, rfl, hbl, hc⟩ := HM4.out.open_ (by omega)
      obtain ⟨C, kk, dd, hc1, hs1⟩ := hc t hlt
      rw [rowsOf_getD] at hs1
      have hmR := List.getElem_mem htR
      have hkk : kk = nc := by rw [hs1.len, prow_at htR]; exact EE.out.1.len _ hmR
      subst hkk
      have hpl : plc R t < kk := by rw [plc_at htR]; exact EE.out.1.lt _ hmR
      have hone : cf (prow R t) (plc R t) = 1 := by rw [prow_at htR, plc_at htR]; exact EE.out.1.one _ hmR
      have hlow : ∀ j, j < plc R t → cf (prow R t) j = 0 := fun j hj => by rw [prow_at htR]; exact EE.out.1.low _ hmR j (by rw [← plc_at htR]; exact hj)
      have hoth : ∀ q, q < R.length → q ≠ t → cf (prow R q) (plc R t) = 0 := fun q hq hne => by
        rw [prow_at hq, plc_at htR]
        refine EE.out.1.other _ hmR _ (List.getElem_mem hq) fun e => hne ?_
        have hpw := List.pairwise_iff_getElem.1 EE.out.1.inc
        rcases Nat.lt_trichotomy q t with h | h | h
        · have := hpw q t hq htR h; omega
        · exact h
        · have := hpw t q htR hq h; omega
      have hla := lastP_lt EE.out.1.inc htR
      have hls := lastP_succ R t
      have htk := take_cf (leadL R) t (by rw [leadL_len]; exact htR)
      rw [cf_leadL htR] at htk
      have HLS := Lib.hid hls
      clear hls
      generalize lastP R t = lst at *
      generalize plc R t = a at *
      have HONE := Lib.hid hone
      have HLOW := Lib.hid hlow
      have HOTH := Lib.hid hoth
      have HTK := Lib.hid htk
      have hla1 := hla.1
      have hla2 := hla.2
      have hd1 := hs1.le
      have hd2 := hs1.max
      have hs2 := hs1.below hbel.out
      obtain ⟨bC, oC, rfl, hbC, hcC⟩ := hs2.cfs (by omega)
      have HCC := Lib.hid hcC
      have hc1r := (hbel.out.cell (p := ⟨b, o + t, none⟩) hbl).trans hc1
      have HC := Lib.hid hc
      have gb := Nat.lt_of_lt_of_le hbl hbel.out.size
      have i1 : (0 : Int) ≤ (t : Int) := by omega
      have i2 : (t : Int) < (m1 : Int) := by omega
      obtain ⟨wo, rfl⟩ : ∃ wo, wo = wr := ⟨wr, rfl⟩
      clear hc hc1 hs1 hs2 hcC hone hlow hoth htk hla hmR
      go_wp2_with fail
      go_loop [13] (fun i => ∃ j : Nat, j ≤ a ∧ i = .int .i64 (j : Int)) (fun i => a - (intOf i).toNat)
      case atStart => exact ⟨0, Nat.zero_le _, rfl⟩
      case round =>
        obtain ⟨j, hj, rfl⟩ := hrel
        have hz := HCC.out j (by omega)
        have i3 : (0 : Int) ≤ (j : Int) := by omega
        have i4 : (j : Int) < (kk : Int) := by omega
        by_cases hja : j < a
        · rw [HLOW.out j hja] at hz
          go_wp2_with fail
          go_round
          case rel => exact ⟨j + 1, by omega, by go_num⟩
          case measure => simp [intOf]; omega
        · obtain rfl : j = a := by omega
          rw [HONE.out] at hz
          have i5 : ((j : Int) == (kk : Int)) = false := by simp; omega
          have i6 : ¬ ((j : Int) ≤ lst) := by omega
          go_wp2_with fail
          go_loopw [14] (fun i wr => ∃ q : Nat, q ≤ m1 ∧ i = .int .i64 (q : Int) ∧ Hid (Below wo.heap.size wo wr)) (fun i _ => m1 - (intOf i).toNat)
          case atStart => exact ⟨0, Nat.zero_le _, rfl, Lib.hid (Below.refl _ _)⟩
          case round =>
            obtain ⟨q, hq, rfl, hbq⟩ := hrel
            by_cases hql : q < m1
            · have hqR : q < R.length := by rw [← HL1.out]; exact hql
              have i7 : (0 : Int) ≤ (q : Int) := by omega
              have i8 : (q : Int) < (m1 : Int) := by omega
              by_cases hqt : q = t
              · subst hqt
                go_wp2_with fail
                go_quiet (fail)
                go_wp2_with fail
                exact ⟨⟨q + 1, by omega, by go_num, Lib.hid (ibelow_drewN hbq.out _)⟩, by simp [intOf]; omega⟩
              · obtain ⟨C2, k2, d2, hc2, hs2⟩ := HC.out q hql
                rw [rowsOf_getD] at hs2
                have hkk2 : k2 = kk := by rw [hs2.len, prow_at hqR]; exact EE.out.1.len _ (List.getElem_mem hqR)
                subst hkk2
                have hbw := hbel.out.trans (hbq.out.mono hbel.out.size)
                have hs3 := hs2.below hbw
                obtain ⟨b2, o2, rfl, hb2, hc3⟩ := hs3.cfs (by omega)
                have hz2 := hc3 j (by omega)
                rw [HOTH.out q hqR hqt] at hz2
                have hc2r := (hbw.cell (p := ⟨b, o + q, none⟩) hbl).trans hc2
                have hc1q := (hbq.out.cell (p := ⟨b, o + t, none⟩) gb).trans hc1r
                have hne : ((q : Int) != (t : Int)) = true := by simp; omega
                have hd3 := hs2.le
                have hd4 := hs2.max
                clear hs2 hs3 hc3 hc2 hbw
                go_wp2_with fail
                go_quiet (fail)
                go_wp2_with fail
                exact ⟨⟨q + 1, by omega, by go_num, Lib.hid (ibelow_drewN hbq.out _)⟩, by simp [intOf]; omega⟩
            · obtain rfl : q = m1 := by omega
              have hj64 : In64 (j : Int) := by unfold In64; omega
              have hN := (iblk_list wr [(j : Int)] (fi_one hj64)).sl (by simp)
              have HN := Lib.hid hN
              have HO2 := Lib.hid ((hO.out.belowE hbq.out).alloc (.cells #[.int .i64 (j : Int)] 3))
              have HB2' := Lib.hid ((hbel.out.trans (hbq.out.mono hbel.out.size)).alloc (Nat.le_trans hbel.out.size hbq.out.size) (.cells #[.int .i64 (j : Int)] 3))
              have hlen2 : ((leadL R).take t).length + 1 ≤ 17592186044416 := by rw [List.length_take]; omega
              clear hN
              go_wp2_with (at_builtin; refine iwpList_app _ rfl (.tmp 127) (.tmp 129) rfl w3.heap.size _ _ rfl HO2.out (some ⟨wr.heap.size, 0, none⟩) 1 1 rfl [(j : Int)] HN.out hlen2 HB2'.out.size ?_; intro v9 w9 ho9 hb9)
              have hb10 := HB2'.out.trans hb9
              rw [← HTK.out] at ho9
              have HO9 := Lib.hid ho9
              have HB9 := Lib.hid hb10
              clear ho9 hb9 hb10
              go_wp2_with fail
              exact ⟨⟨t + 1, by omega, by go_num, by rw [HLS.out], HO9, HB9⟩, by simp [intOf]; omega⟩
    · obtain rfl : t = m1 := by omega
      have hO2 := hO.out
      rw [List.take_of_length_le (by rw [leadL_len, HL1.out]; exact Nat.le_refl _)] at hO2
      obtain ⟨CL, dl, rfl, hs, _⟩ := hO2.sl
      rw [leadL_len, ← HL1.out] at hs ⊢
      have HLD := Lib.hid hs
      have hdl1 := hs.le
      have hdl2 := hs.max
      obtain ⟨wL, rfl⟩ : ∃ wL, wL = wr := ⟨wr, rfl⟩
      have HBL := Lib.hid (HB3.out.trans (hbel.out.mono HB3.out.size))
      have HEL := Lib.hid (HM4.out.below hbel.out)
      have HML := Lib.hid (HMM.out.below hbel.out)
      clear hO2 hs hO
      go_wp2_with fail
      go_loopw [15] (fun i wr => ∃ s : Nat, s ≤ n ∧ i = .int .i64 (s : Int) ∧ Hid (Below wL.heap.size wL wr)) (fun i _ => n - (intOf i).toNat)
      case atStart => exact ⟨0, Nat.zero_le _, rfl, Lib.hid (Below.refl _ _)⟩
      case round =>
        obtain ⟨s, hs, rfl, hb4⟩ := hrel
        by_cases hsn : s < n
        · obtain ⟨bM, oM, rfl, hbM, hcs⟩ := HML.out.open_ (by omega)
          obtain ⟨Cm, km, dm, hcM, hsM⟩ := hcs s hsn
          have hsM2 : s < M.length := by rw [← HNL.out]; exact hsn
          have hkm : km = nc := by rw [hsM.len]; exact hlen.out s hsM2
          subst hkm
          have hmem : M.getD s [] ∈ M := getD_mem hsM2
          have hrec := EE.out.1.recon (EE.out.2.2 _ hmem)
          generalize M.getD s [] = f at *
          have HREC := Lib.hid hrec
          have HSM := Lib.hid hsM
          have HCM := Lib.hid hcM
          have hm1 := hsM.le
          have hm2 := hsM.max
          have hc4 := (hb4.out.cell (p := ⟨bM, oM + s, none⟩) hbM).trans hcM
          have i1 : (0 : Int) ≤ (s : Int) := by omega
          have i2 : (s : Int) < (n : Int) := by omega
          have gbM := Nat.lt_of_lt_of_le hbM hb4.out.size
          clear hcs hcM hsM hmem hrec
          go_wp2_with fail
          clear hc4
          go_loopw [16] (fun i wr => ∃ e : Nat, e ≤ km ∧ i = .int .i64 (e : Int) ∧ Hid (Below wL.heap.size wL wr)) (fun i _ => km - (intOf i).toNat)
          case atStart => exact ⟨0, Nat.zero_le _, rfl, hb4⟩
          case round =>
            obtain ⟨e, he, rfl, hb5⟩ := hrel
            have hc5 := (hb5.out.cell (p := ⟨bM, oM + s, none⟩) hbM).trans HCM.out
            by_cases hen : e < km
            · have i3 : (0 : Int) ≤ (e : Int) := by omega
              have i4 : (e : Int) < (km : Int) := by omega
              obtain ⟨bf, of, rfl, hbf, hcf⟩ := HSM.out.cfs (by omega)
              have HCF := Lib.hid hcf
              clear hcf
              go_wp2_with fail
              clear hc5
              go_loopw [18, 17] (fun i s' wr => ∃ q : Nat, q ≤ t ∧ i = .int .i64 (q : Int) ∧ ∃ sv : Int, s' = .int .i64 sv ∧ Hid (sv % p = rcS (cf f) (R.take q) e % p ∧ -p < sv ∧ sv < p) ∧ Hid (Below wL.heap.size wL wr)) (fun i _ _ => t - (intOf i).toNat)
              case atStart => exact ⟨0, Nat.zero_le _, rfl, 0, rfl, Lib.hid ⟨by rw [List.take_zero]; rfl, by omega, by omega⟩, hb5⟩
              case round =>
                obtain ⟨q, hq, rfl, sv, rfl, hsv, hb6⟩ := hrel
                have hc6 := (hb6.out.cell (p := ⟨bM, oM + s, none⟩) hbM).trans HCM.out
                by_cases hql : q < t
                · have hqR : q < R.length := by rw [← HL1.out]; exact hql
                  obtain ⟨bL, oL, rfl, hbL, hcL⟩ := HLD.out.cfs (by omega)
                  have hl := hcL q hql
                  rw [cf_leadL hqR] at hl
                  obtain ⟨bE, oE, rfl, hbE, hcE⟩ := HEL.out.open_ (by omega)
                  obtain ⟨C2, k2, d2, hc2, hs2⟩ := hcE q hql
                  rw [rowsOf_getD] at hs2
                  have hmR := List.getElem_mem hqR
                  have hkk2 : k2 = km := by rw [hs2.len, prow_at hqR]; exact EE.out.1.len _ hmR
                  have hrs : Rs p (prow R q) := by rw [prow_at hqR]; exact EE.out.1.rs _ hmR
                  have hpl : plc R q < km := by rw [plc_at hqR]; exact EE.out.1.lt _ hmR
                  have hsn' := rcS_snoc (f := cf f) hqR e
                  rw [← plc_at hqR, ← prow_at hqR] at hsn'
                  have hle2 := hs2.le
                  have hmx2 := hs2.max
                  obtain ⟨b2, o2, rfl, hb2, hc3⟩ := hs2.cfs (by omega)
                  have hy := hc3 e (by omega)
                  have hx := HCF.out (plc R q) hpl
                  have by' := hrs.at hp1 e
                  generalize plc R q = a at *
                  generalize cf (prow R q) e = y at *
                  generalize cf f a = x at *
                  have hl' := (hb6.out.cell (p := ⟨bL, oL + q, none⟩) hbL).trans hl
                  have hc2' := (hb6.out.cell (p := ⟨bE, oE + q, none⟩) hbE).trans hc2
                  have hy' := (hb6.out.cell (p := ⟨b2, o2 + e, none⟩) hb2).trans hy
                  have hx' := (hb6.out.cell (p := ⟨bf, of + a, none⟩) hbf).trans hx
                  have hstep := step_mod (x := x) (a := y) hsv.out.1
                  rw [← hsn'] at hstep
                  have btx := tmod_bd x (show 0 < p by omega)
                  obtain ⟨tx, htx⟩ : ∃ tx, x.tmod p = tx := ⟨_, rfl⟩
                  rw [htx] at btx hstep
                  have bm := mul_abs btx ⟨by omega, by'.2⟩ hp2
                  obtain ⟨G, hG⟩ : ∃ G, tx * y = G := ⟨_, rfl⟩
                  rw [hG] at bm hstep
                  have bs := hsv.out.2
                  have bs1 := bs.1
                  have bs2 := bs.2
                  have bz := tmod_bd (sv + G) (show 0 < p by omega)
                  obtain ⟨z, hz⟩ : ∃ z, (sv + G).tmod p = z := ⟨_, rfl⟩
                  rw [hz] at hstep bz
                  have HST := Lib.hid hstep
                  have m1' : IntKind.i64.wrap (tx * y) = G := by rw [hG, IntKind.wrap_i64]; omega
                  have m2' : IntKind.i64.wrap (sv + G) = sv + G := by rw [IntKind.wrap_i64]; omega
                  have i5 : (0 : Int) ≤ (q : Int) := by omega
                  have i6 : (q : Int) < (t : Int) := by omega
                  have i7 : (0 : Int) ≤ (a : Int) := by omega
                  have i8 : (a : Int) < (km : Int) := by omega
                  have i9 : (e : Int) < (k2 : Int) := by omega
                  have HBZ := Lib.hid bz
                  have bm1 := bm.1
                  have bm2 := bm.2
                  clear hcL hl hcE hc2 hs2 hmR hrs hsn' hc3 hy hx by' hstep btx bm bs bz hG hkk2 hsv
                  go_wp2_with fail
                  go_quiet (fail)
                  go_wp2_with fail
                  exact ⟨⟨q + 1, by omega, by go_num, z, rfl, Lib.hid ⟨HST.out, HBZ.out.1, HBZ.out.2⟩, Lib.hid (ibelow_drewN hb6.out _)⟩, by simp [intOf]; omega⟩
                · obtain rfl : q = t := by omega
                  have hv := hsv.out.1
                  rw [List.take_of_length_le (by rw [HL1.out]; exact Nat.le_refl _), HREC.out e] at hv
                  have hx := HCF.out e hen
                  have hx' := (hb6.out.cell (p := ⟨bf, of + e, none⟩) hbf).trans hx
                  generalize cf f e = x at *
                  have btx := tmod_bd x (show 0 < p by omega)
                  have htm := tmod_mod x p
                  obtain ⟨tx, htx⟩ : ∃ tx, x.tmod p = tx := ⟨_, rfl⟩
                  rw [htx] at btx htm
                  have hz : (sv - tx).tmod p = 0 := tmod_zero (by rw [Int.sub_emod, hv, htm, Int.sub_self]; simp)
                  have bs := hsv.out.2
                  have bs1 := bs.1
                  have bs2 := bs.2
                  have bt1 := btx.1
                  have bt2 := btx.2
                  have m2' : IntKind.i64.wrap (sv - tx) = sv - tx := by rw [IntKind.wrap_i64]; omega
                  clear hx hv htm bs btx hsv
                  go_wp2_with fail
                  exact ⟨⟨e + 1, by omega, by go_num, hb6⟩, by simp [intOf]; omega⟩
            · obtain rfl : e = km := by omega
              go_wp2_with fail
              exact ⟨⟨s + 1, by omega, by go_num, hb5⟩, by simp [intOf]; omega⟩
        · obtain rfl : s = n := by omega
          go_wp2_with fail
          go_ret
          exact ⟨rfl, HBL.out.trans (hb4.out.mono HBL.out.size)⟩

set_option maxRecDepth 100000 in
set_option maxHeartbeats 2000000 in
theorem walkFlinPlain (A : Option Addr) (n c : Nat) (M : List (List Int)) (p : Int) (w : World) (hT : TabAt w) (sm : MatAt w A n c M) (wp : (Lit.int .i64 p).wf = true) :
    Calls Tryd.prog 6 #[.slice A n c, .int .i64 p] w fun e w' => e = .returned (.bool true) ∧ Below w.heap.size w w' := by
  rcases Classical.em (Right p M) with hr | hr
  · exact plainMain A n c M p w hT sm (int_wf wp) hr
  · have AW := Lib.hid (awake07 w hT)
    have E1 := Lib.hid (fun W (hb : Below w.heap.size w W) => fEchelon_any A n c M p W (hT.below hb) (sm.below hb) (int_wf wp))
    rw [codeP_no hr] at E1
    clear hT sm hr
    go_enter Tryd.func6, Tryd.ntmps6
    go_wp2_with (first
      | (go_at_call 9; (with_reducible refine AW.out.mono ?_); rintro e w0 ⟨rfl, hb0⟩; have HB0 := Lib.hid hb0; clear hb0)
      | (go_at_call 10; (with_reducible refine (E1.out _ HB0.out).mono ?_); rintro e w1 ⟨A1, m1, c1, rfl, hM1, hb1⟩; have HB1 := hstepL HB0 hb1; clear hM1 hb1))
    go_ret
    exact ⟨rfl, HB1.out⟩
end Go.Proofs.YtipdnfdeacdkgaaDoor

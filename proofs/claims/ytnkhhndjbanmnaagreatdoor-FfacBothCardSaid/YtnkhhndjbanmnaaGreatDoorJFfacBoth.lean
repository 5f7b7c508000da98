/- The law FfacBoth: its walk and its card. -/
import Derived.Test.YtnkhhndjbanmnaaGreatDoorMp42
import Derived.Test.YtnkhhndjbanmnaaGreatDoorMp44
import Derived.Test.YtnkhhndjbanmnaaGreatDoorMp46
import Derived.Test.YtnkhhndjbanmnaaGreatDoorTie
import Derived.Test.YtnkhhndjbanmnaaGreatDoorCards
import Derived.ChangeOld
import Derived.ChangeMaps5
import Derived.Lay
import Derived.LaidMore
import Derived.SevenTiedAt
import Derived.Stop.Joined
import Derived.Below

/- The law FfacBoth, walked. -/
namespace Go.Proofs.YtnkhhndjbanmnaaGreatDoor
open Go.RowKit

/-- Factors of the first one and of the first j of the second one's, and t times one more. -/
structure Bth (p : Int) (fm : List Int) (L2 : PL) (w : World) (A : Option Addr) (n c : Nat) (Z : List Pt) (j t : Nat) (zx : List Int) : Prop where
  rd : PRd w A n c Z
  sh : A = none ∧ c = 0 ∨ ∃ b, A = some ⟨b, 0, none⟩
  fct : Fct p (pls Z)
  v : ∀ q, Irr p q → vn p q (pls Z) = V p (cf fm) q + vn p q (L2.take j) + t * V p (cf zx) q
theorem Bth.swap {p : Int} {fm : List Int} {L2 : PL} {w : World} {A : Option Addr} {n c : Nat} {Z : List Pt} {j : Nat} {xs : List Int} (h : Bth p fm L2 w A n c Z j 0 xs) (zx : List Int) : Bth p fm L2 w A n c Z j 0 zx :=
  ⟨h.rd, h.sh, h.fct, fun q hq => by rw [h.v q hq]; simp⟩
set_option maxRecDepth 100000 in
set_option maxHeartbeats 4000000 in
theorem walkFfacBoth (A : Option Addr) (n c : Nat) (xs : List Int) (B : Option Addr) (n' c' : Nat) (ys : List Int) (p : Int) (w : World) (hT : TabAt w) (sm : ISl w A n c xs) (hn : n ≤ 17592186044416) (sm' : ISl w B n' c' ys) (hn' : n' ≤ 17592186044416) (wp : (Lit.int .i64 p).wf = true) :
    Calls Tryz.prog 8 #[.slice A n c, .slice B n' c', .int .i64 p] w fun e w' => e = .returned (.bool true) ∧ Below w.heap.size w w' := by
  have ip : In64 p := int_wf wp
  have AW := Lib.hid (awake09 w hT)
  have hle := sm.le
  have hmx := sm.max
  have hle1 := sm'.le
  have hmx1 := sm'.max
  have WA := Lib.hid (fun W (hb : Below w.heap.size w W) => rWrong9 A n c xs p W (sm.below hb) ip hn)
  have WB := Lib.hid (fun W (hb : Below w.heap.size w W) => rWrong9 B n' c' ys p W (sm'.below hb) ip hn')
  by_cases h1 : (10 : Int) < (n : Int)
  · clear sm sm' hT wp ip hn hn'
    go_enter Tryz.func8, Tryz.ntmps8
    go_wp2_with (first
      | (go_at_call 10; (with_reducible refine AW.out.mono ?_); rintro e w0 ⟨rfl, hb0⟩; have HB := Lib.hid hb0; clear hb0)
      | (go_at_call 11; (first | (with_reducible refine (WA.out _ HB.out).mono ?_) | (with_reducible refine (WB.out _ HB.out).mono ?_)); rintro e w1 ⟨rfl, hb1⟩; have HB := hstep9 HB hb1; clear hb1)
      | fail)
    go_ret
    exact ⟨rfl, HB.out⟩
  by_cases h2 : (10 : Int) < (n' : Int)
  · clear sm sm' hT wp ip hn hn'
    go_enter Tryz.func8, Tryz.ntmps8
    go_wp2_with (first
      | (go_at_call 10; (with_reducible refine AW.out.mono ?_); rintro e w0 ⟨rfl, hb0⟩; have HB := Lib.hid hb0; clear hb0)
      | (go_at_call 11; (first | (with_reducible refine (WA.out _ HB.out).mono ?_) | (with_reducible refine (WB.out _ HB.out).mono ?_)); rintro e w1 ⟨rfl, hb1⟩; have HB := hstep9 HB hb1; clear hb1)
      | fail)
    go_ret
    exact ⟨rfl, HB.out⟩
  by_cases g1 : eff p (cf xs) = 0
  case neg =>
    have e1 : (eff p (cf xs) != 0) = true := by simpa using g1
    generalize eff p (cf xs) = u1 at *
    generalize eff p (cf ys) = u2 at *
    clear sm sm' hT wp ip hn hn'
    go_enter Tryz.func8, Tryz.ntmps8
    go_wp2_with (first
      | (go_at_call 10; (with_reducible refine AW.out.mono ?_); rintro e w0 ⟨rfl, hb0⟩; have HB := Lib.hid hb0; clear hb0)
      | (go_at_call 11; (first | (with_reducible refine (WA.out _ HB.out).mono ?_) | (with_reducible refine (WB.out _ HB.out).mono ?_)); rintro e w1 ⟨rfl, hb1⟩; have HB := hstep9 HB hb1; clear hb1)
      | fail)
    go_ret
    exact ⟨rfl, HB.out⟩
  rw [g1] at WA
  by_cases g2 : eff p (cf ys) = 0
  case neg =>
    have e1 : (eff p (cf ys) != 0) = true := by simpa using g2
    generalize eff p (cf ys) = u2 at *
    clear sm sm' hT wp ip hn hn' g1
    go_enter Tryz.func8, Tryz.ntmps8
    go_wp2_with (first
      | (go_at_call 10; (with_reducible refine AW.out.mono ?_); rintro e w0 ⟨rfl, hb0⟩; have HB := Lib.hid hb0; clear hb0)
      | (go_at_call 11; (first | (with_reducible refine (WA.out _ HB.out).mono ?_) | (with_reducible refine (WB.out _ HB.out).mono ?_)); rintro e w1 ⟨rfl, hb1⟩; have HB := hstep9 HB hb1; clear hb1)
      | fail)
    go_ret
    exact ⟨rfl, HB.out⟩
  rw [g2] at WB
  have F1 := Lib.hid (fun W (hb : Below w.heap.size w W) => gFacs A none n c 0 0 xs [] p W (hT.below hb) (sm.below hb) (isl_nil _) ip hn)
  have F2 := Lib.hid (fun W (hb : Below w.heap.size w W) => gFacs B none n' c' 0 0 ys [] p W (hT.below hb) (sm'.below hb) (isl_nil _) ip hn')
  have T1 := Lib.hid (fun W (hb : Below w.heap.size w W) => lTimes9 A B n c n' c' xs ys p W (hT.below hb) (sm.below hb) (sm'.below hb) ip (by omega) (by omega))
  obtain ⟨hp, hb, hmf, _⟩ := eff_mn g1
  obtain ⟨_, hb', hmg, _⟩ := eff_mn g2
  have lf : (monL p (cf xs)).length ≤ 10 := by have := (mn_monL hp hb).2.1; have := sm.len; omega
  have lg : (monL p (cf ys)).length ≤ 10 := by have := (mn_monL hp hb').2.1; have := sm'.len; omega
  obtain ⟨e3, v3⟩ := both_eff hp hb hb' (by have := sm.len; omega) (by have := sm'.len; omega)
  rw [g1] at F1
  rw [g2] at F2
  have HT := Lib.hid hT
  have PR := Lib.hid hp
  have HF := Lib.hid hmf
  have HG := Lib.hid hmg
  have LF := Lib.hid lf
  have LG := Lib.hid lg
  have E3 := Lib.hid e3
  have V3 := Lib.hid v3
  clear sm sm' hT wp ip hn hn' g1 g2 hp hb hb' hmf hmg lf lg e3 v3
  generalize polL p (Ser.mul (cf xs) (cf ys)) = X at *
  generalize monL p (cf xs) = fm at *
  generalize monL p (cf ys) = gm at *
  generalize facL p (cf xs) = L1 at *
  generalize facL p (cf ys) = L2 at *
  go_enter Tryz.func8, Tryz.ntmps8
  go_wp2_with (first
      | (go_at_call 10; (with_reducible refine AW.out.mono ?_); rintro e w0 ⟨rfl, hb0⟩; have HB := Lib.hid hb0; clear hb0)
      | (go_at_call 11; (first | (with_reducible refine (WA.out _ HB.out).mono ?_) | (with_reducible refine (WB.out _ HB.out).mono ?_)); rintro e w1 ⟨rfl, hb1⟩; have HB := hstep9 HB hb1; clear hb1)
      | (go_at_call 12; (with_reducible refine (F1.out _ HB.out).mono ?_); rintro e w2 ⟨A1, k1, d1, Z1, rfl, hr1, hp1, hf1, hk1, hb2⟩; have RD1 := Lib.hid hr1; have PL1 := Lib.hid hp1; have FN1 := Lib.hid (hf1 (by trivial)); have K1 : k1 ≤ 9 := (by have h9 := FN1.out.few PR.out HF.out; rw [← PL1.out, pls_length, ← RD1.out.len] at h9; have := LF.out; omega); have HB := hstep9 HB hb2; clear hr1 hp1 hb2 F1 hf1)
      | (go_at_call 12; (with_reducible refine (F2.out _ HB.out).mono ?_); rintro e w3 ⟨A2, k2, d2, Z2, rfl, hr2, hp2, hf2, hk2, hb3⟩; have RD2 := Lib.hid hr2; have PL2 := Lib.hid hp2; have FN2 := Lib.hid (hf2 (by trivial)); have K2 : k2 ≤ 9 := (by have h9 := FN2.out.few PR.out HG.out; rw [← PL2.out, pls_length, ← RD2.out.len] at h9; have := LG.out; omega); have RD12 := Lib.hid (RD1.out.below hb3); have HB := hstep9 HB hb3; have hdl2 := hr2.le; have hdm2 := hr2.max; clear hr2 hp2 hb3 F2 hf2)
      | (go_at_call 28; (with_reducible refine (T1.out _ HB.out).mono ?_); rintro e w4 ⟨C4, m4, d4, rfl, hg4⟩; have F3 := Lib.hid (gFacs C4 none m4 d4 0 0 X [] p w4 (HT.out.below (hstep9 HB hg4.bel).out) hg4.isl (isl_nil _) PR.out.md.in64 (by have hm4 : m4 ≤ n + n' := And.left (And.right hg4); omega)); rw [E3.out] at F3; have RD13 := Lib.hid (RD12.out.below hg4.bel); have RD23 := Lib.hid (RD2.out.below hg4.bel); have HB := hstep9 HB hg4.bel; clear hg4 T1)
      | (go_at_call 12; (with_reducible refine F3.out.mono ?_); rintro e w5 ⟨A5, k5, d5, Z5, rfl, hr5, hp5, -, hk5, hb5⟩; have RD5 := Lib.hid hr5; have PL5 := Lib.hid hp5; have RD14 := Lib.hid (RD13.out.below hb5); have RD24 := Lib.hid (RD23.out.below hb5); have HB := hstep9 HB hb5; have TH := Lib.hid (lTheirsS9 A1 k1 d1 Z1 w5 RD14.out (by omega)); have h40 : ¬ (40 : Int) < (k1 : Int) + (k2 : Int) := (by omega); clear hr5 hp5 hb5 F3)
      | (go_at_call 19; (with_reducible refine TH.out.mono ?_); rintro e w6 ⟨A6, d6, rfl, hr6, hb6, hsh6⟩; have RD6 := Lib.hid hr6; have SH6 := Lib.hid hsh6; have RD25 := Lib.hid (RD24.out.below hb6); have RD55 := Lib.hid (RD5.out.below hb6); have HB := hstep9 HB hb6; clear hr6 hb6 hsh6 TH)
      | fail)
  have HZ2 := Lib.hid RD25.out.len
  have S0 : Hid (Bth p fm L2 w6 A6 k1 d6 Z1 0 0 []) := Lib.hid ⟨RD6.out, SH6.out, by rw [PL1.out]; exact FN1.out.fct, fun q hq => by rw [PL1.out, FN1.out.vn PR.out HF.out q hq]; simp [vn]⟩
  go_loopw [14, 15] (fun v i wr => ∃ (j : Nat) (A' : Option Addr) (n9 c9 : Nat) (Z' : List Pt), j ≤ k2 ∧ i = .int .i64 (j : Int) ∧ v = .slice A' n9 c9 ∧ Hid (Bth p fm L2 wr A' n9 c9 Z' j 0 []) ∧ Hid (Below w6.heap.size w6 wr)) (fun _ i _ => k2 - (intOf i).toNat)
  case atStart => exact ⟨0, A6, k1, d6, Z1, Nat.zero_le _, rfl, rfl, S0, Lib.hid (Below.refl _ _)⟩
  case round =>
    obtain ⟨j, A', n9, c9, Z', hj, rfl, rfl, BT, BO⟩ := hrel
    obtain ⟨wo, rfl⟩ : ∃ wo, wo = wr := ⟨wr, rfl⟩
    by_cases hlt : j < k2
    · have hlz : j < Z2.length := by rw [← HZ2.out]; exact hlt
      obtain ⟨b, o, rfl, hbl, hc⟩ := (RD25.out.below BO.out).open_ (by omega)
      obtain ⟨c0, c1⟩ := hc j hlz
      have zin := (RD25.out.in_ _ (List.getElem_mem hlz)).below BO.out
      have hlL : j < L2.length := by rw [← PL2.out, pls_length]; exact hlz
      have epl : L2[j] = Z2[j].pl := by
        have e1 : (pls Z2)[j]? = L2[j]? := by rw [PL2.out]
        unfold pls at e1
        rw [List.getElem?_map, List.getElem?_eq_getElem hlz, List.getElem?_eq_getElem hlL] at e1
        simpa using e1.symm
      obtain ⟨a1, a2, a3, a4, a5⟩ := FN2.out.own L2[j] (List.getElem_mem hlL)
      have hnum := FN2.out.num PR.out HG.out (List.getElem_mem hlL)
      have hvt := fun r => vn_take (p := p) (q := r) hlL
      have hvle := fun r => vn_take_le (p := p) (q := r) L2 (j + 1)
      rw [epl] at a1 a2 a3 a4 a5 hnum hvt
      obtain ⟨z, hz⟩ : ∃ z, Z2[j] = z := ⟨_, rfl⟩
      rw [hz] at c0 c1 zin a1 a2 a3 a4 a5 hnum hvt
      obtain ⟨zA, zn, zc, zx, zN⟩ := z
      simp only [Pt.sl, Pt.nv] at c0 c1
      have zin : ISl wo zA zn zc zx := zin
      have a1 : Mn p zx := a1
      have a2 : 2 ≤ zx.length := a2
      have a3 : Irr p (cf zx) := a3
      have a4 : 1 ≤ zN := a4
      have hvt : ∀ r, vn p r (L2.take (j + 1)) = vn p r (L2.take j) + zN * V p (cf zx) r := hvt
      have hnum : zN + 1 ≤ gm.length := hnum
      have hN2 : zN ≤ 16 := by have := LG.out; omega
      have ZI := Lib.hid zin
      have HVT := Lib.hid hvt
      have HVE := Lib.hid (fun r (hr : Irr p r) => (show vn p r (L2.take (j + 1)) ≤ V p (cf gm) r by rw [← FN2.out.vn PR.out HG.out r hr]; exact hvle r))
      have HA1 := Lib.hid a1
      have HA2 := Lib.hid a2
      have HA3 := Lib.hid a3
      have zcl : zn ≤ zc := zin.le
      have zcm := zin.max
      have i1 : (0 : Int) ≤ (j : Int) := by omega
      have i2 : (j : Int) < (k2 : Int) := by omega
      have hnn1 : ¬ (zN : Int) < 1 := by omega
      have hnn2 : ¬ (20 : Int) < (zN : Int) := by omega
      clear hc zin a1 a2 a3 a5 hvt hvle hnum hz
      go_wp2_with fail
      have S1 : Hid (Bth p fm L2 wo A' n9 c9 Z' j 0 zx) := Lib.hid (BT.out.swap zx)
      go_loopw [14, 16] (fun v i wr => ∃ (t : Nat) (A' : Option Addr) (n9 c9 : Nat) (Z' : List Pt), t ≤ zN ∧ i = .int .i64 (t : Int) ∧ v = .slice A' n9 c9 ∧ Hid (Bth p fm L2 wr A' n9 c9 Z' j t zx) ∧ Hid (Below wo.heap.size wo wr)) (fun _ i _ => zN - (intOf i).toNat)
      case atStart => exact ⟨0, A', n9, c9, Z', Nat.zero_le _, rfl, rfl, S1, Lib.hid (Below.refl _ _)⟩
      case round =>
        obtain ⟨t, A', n9, c9, Z', ht, rfl, rfl, B2, BI⟩ := hrel
        have c0t := (BI.out.cell (p := ⟨b, o + j * 2, none⟩) hbl).trans c0
        have c1t := (BI.out.cell (p := ⟨b, o + j * 2 + 1, none⟩) hbl).trans c1
        have hblt := Nat.lt_of_lt_of_le hbl BI.out.size
        by_cases hlt2 : t < zN
        · have hsm := both_small PR.out HF.out HG.out LF.out LG.out B2.out.fct fun q hq => by
            rw [B2.out.v q hq]
            have h1 := HVE.out q hq
            rw [HVT.out q] at h1
            have h2 : t * V p (cf zx) q ≤ zN * V p (cf zx) q := Nat.mul_le_mul_right _ ht
            exact Nat.le_trans (by rw [Nat.add_assoc]; exact Nat.add_le_add_left (Nat.add_le_add_left h2 _) _) (Nat.add_le_add_left h1 _)
          obtain ⟨bS, hS⟩ : ∃ bS, A' = none ∧ c9 = 0 ∨ A' = some ⟨bS, 0, none⟩ := by
            rcases B2.out.sh with h | ⟨bS, h⟩
            · exact ⟨0, .inl h⟩
            · exact ⟨bS, .inr h⟩
          have PT := Lib.hid (rPut bS 0 A' zA n9 c9 zn zc Z' zx wr hS B2.out.rd (ZI.out.below BI.out) (by have := B2.out.rd.len; have := hsm.1; rw [pls_length] at this; omega) (fun z hz => by
            have h1 := hsm.2 z.pl (List.mem_map.2 ⟨z, hz, rfl⟩)
            have h2 : z.n = z.xs.length := (B2.out.rd.in_ z hz).len
            have h3 : z.xs.length ≤ 19 := h1.1
            have h4 : z.N ≤ 19 := h1.2
            omega))
          have PF := Lib.hid (fun (P : PL) (k : Nat) (hP : PutOut Z' zx k P) => put_fct B2.out.fct HA1.out HA2.out HA3.out hP)
          have hk2 : (t : Int) < (zN : Int) := by omega
          have h9l := B2.out.rd.le
          have h9m := B2.out.rd.max
          clear hsm hS
          go_wp2_with (first
            | (go_at_call 29; (with_reducible refine PT.out.mono ?_); rintro e w7 ⟨b7, n7, c7, Z7, k7, rfl, hr7, ho7, hb7⟩; have B7 := Lib.hid (below_to BI.out hb7); obtain ⟨f7, v7⟩ := PF.out _ _ ho7; have T7 : Hid (Bth p fm L2 w7 (some ⟨b7, 0, none⟩) n7 c7 Z7 j (t + 1) zx) := Lib.hid ⟨hr7, .inr ⟨b7, rfl⟩, f7, fun q hq => (by rw [v7 q, B2.out.v q hq, Nat.succ_mul]; omega)⟩; clear hr7 ho7 hb7 f7 v7)
            | fail)
          go_roundw
          case rel => exact ⟨t + 1, _, n7, c7, Z7, by omega, by go_num, rfl, T7, B7⟩
          case measure => simp [intOf]; omega
        · obtain rfl : t = zN := by omega
          have T8 : Hid (Bth p fm L2 wr A' n9 c9 Z' (j + 1) 0 []) := Lib.hid ⟨B2.out.rd, B2.out.sh, B2.out.fct, fun q hq => by rw [B2.out.v q hq, HVT.out q]; omega⟩
          go_wp2_with fail
          go_roundw
          case rel => exact ⟨j + 1, A', n9, c9, Z', by omega, by go_num, rfl, T8, Lib.hid (below_to BO.out BI.out)⟩
          case measure => simp [intOf]; omega
    · obtain rfl : k2 = j := by omega
      have FE := Lib.hid (facL_is E3.out (BT.out.fct.facN PR.out fun q hq => by
        rw [BT.out.v q hq, V3.out q hq, List.take_of_length_le (by rw [← PL2.out, pls_length, ← HZ2.out]; exact Nat.le_refl _), FN2.out.vn PR.out HG.out q hq]; omega))
      have TH := Lib.hid (lTheirs9 A5 k5 d5 Z5 wo (RD55.out.below BO.out) (by omega))
      go_wp2_with (first
        | (go_at_call 19; (with_reducible refine TH.out.mono ?_); rintro e w7 ⟨A7, d7, rfl, hr7, hb7⟩; have B7 := Lib.hid (below_to BO.out hb7); have SM := Lib.hid (rSame9 A7 A' k5 d7 n9 c9 Z5 Z' w7 hr7 (BT.out.rd.below hb7) (by rw [PL5.out, FE.out])); clear hr7 hb7 TH)
        | (go_at_call 18; (with_reducible refine SM.out.mono ?_); rintro e w8 ⟨rfl, hb8⟩; have B8 := Lib.hid (below_to B7.out hb8); clear hb8)
        | fail)
      go_ret
      exact ⟨rfl, (hstep9 HB B8.out).out⟩
end Go.Proofs.YtnkhhndjbanmnaaGreatDoor

/- The statement 'FfacBoth', a tied card: for every input the law's function returns true and leaves its arguments as they were; the package-level tables that the row lists are laid as the program's text lays them. No conditions but the form's own. -/
namespace Go.Proofs.YtnkhhndjbanmnaaGreatDoor.lawFfacBothCard
open Go.ChangeShapes Go.WideShapes Go.ChangeAt Go.RowKit Go.ChangeMaps
set_option maxRecDepth 100000 in
theorem lifted (os : Os) (started : os.Started) (H : Type) (enc : TypeId × Value → H) :
    ReturnsInHanded {} Tryz.checked os 8 .any (fun w args => (Rows.ffacBothSpec.pre enc Tryz.prog Tryz.f8 Rows.ffacBothRow.domain false w args ∧ laidMetH Tryz.prog Rows.ffacBothRow.laid w) ∧ sizedMet enc Tryz.prog Tryz.f8 (OpenSpec.ofChange Rows.ffacBothSpec) false w args)
      (Rows.ffacBothSpec.post enc Tryz.prog Tryz.f8 false true false false) := by
  refine returnsInHanded_of_change_and (C := Tryz.checked) (X := fun w _ => laidMetH Tryz.prog Rows.ffacBothRow.laid w) (fun _ _ _ hh h => h.of_heap hh) own0 started (by kernel_rfl) Tryz.func8
    (ChangeSpec.witness_shaped (enc := enc) (C := Tryz.checked) (os := os) (X := fun w _ => laidMetH Tryz.prog Rows.ffacBothRow.laid w) false (World.laidAll Tryz.prog os Rows.ffacBothRow.laid) #[.slice none 0 0, .slice none 0 0, .int .i64 0] 8 (World.laidAll_os _ _ _)
      (World.shaped_of_ZipB (by kernel_rfl) (by kernel_rfl)) (by kernel_rfl) (by kernel_rfl) (by kernel_rfl)
      (by rw [MakeChecks.laidMetH_plain _ _ _ (by kernel_rfl)]; exact laidMet_laidAll _ (by kernel_rfl) (by kernel_rfl))) ?_
  intro W base args ds gs before hval0 hW hcnd hsz0 hL hholds
  have hval : ∀ (j : Nat) t v, Tryz.f8.params[j]? = some t → args[j]? = some v → Value.okWide Tryz.prog W .any base t v := hval0
  have hW' := hW
  obtain ⟨p, q, hA0, hV, rfl, hfz, hnd⟩ := hW
  have hA : DataW.TrodAll enc Tryz.prog W 0 (fun _ => true) true Tryz.f8.params.toList args.toList ds p := hA0
  have hsz : (DataW.weightsEach Tryz.prog (Tryz.f8.params.toList ++ Rows.ffacBothSpec.plain.varTypes Tryz.prog) (ds ++ gs)).all (· ≤ reachBytes) = true := hsz0
  rw [Tryz.params8] at hA hval hsz
  obtain ⟨v0, vs0, d0, ds0, p0, q0, hargs, rfl, rfl, h0, r0⟩ := trodAll_cons hA
  obtain ⟨v1, vs1, d1, ds1, p1, q1, rfl, rfl, rfl, h1, r1⟩ := trodAll_cons r0
  obtain ⟨v2, vs2, d2, ds2, p2, q2, rfl, rfl, rfl, h2, r2⟩ := trodAll_cons r1
  obtain ⟨rfl, rfl, rfl⟩ := trodAll_nil r2
  obtain rfl : args = #[v0, v1, v2] := by cases args; simp_all
  obtain ⟨rfl, rfl⟩ := trodVars_none hV
  obtain ⟨a0, len0, cap0, rfl⟩ := okWide_slice Tryz.underlying22 (hval 0 22 v0 rfl rfl)
  have k0 := h0
  have lt0 : ∀ x ∈ p0, x.block < W.heap.size := by obtain ⟨m, hm⟩ := k0; exact DataW.trod_lt m _ _ _ hm
  obtain ⟨x0, s0, b0⟩ := isl_open h0 hsz 0 rfl rfl
  obtain ⟨a1, len1, cap1, rfl⟩ := okWide_slice Tryz.underlying22 (hval 1 22 v1 rfl rfl)
  have k1 := h1
  have lt1 : ∀ x ∈ p1, x.block < W.heap.size := by obtain ⟨m, hm⟩ := k1; exact DataW.trod_lt m _ _ _ hm
  obtain ⟨x1, s1, b1⟩ := isl_open h1 hsz 1 rfl rfl
  obtain ⟨a2, rfl, rfl, rfl, w2⟩ := open_int Tryz.underlying3 (hval 2 3 v2 rfl rfl) h2
  clear hA0 hval0 hsz0 hsz
  refine (walkFfacBoth a0 len0 cap0 x0 a1 len1 cap1 x1 a2 W (tab_of_laid hL) s0 b0 s1 b1 w2).mono fun e W' ⟨he, bel⟩ => ?_
  subst he
  exact ⟨_, rfl, _, _, _, [], _, [], hW', trodAll_mk1 (shut_bool Tryz.underlying4 _), (trodAll_cons_mk (Below.trod laidOut0 (by kernel_rfl) (of_decide_eq_true (by kernel_rfl)) k0 bel lt0) (trodAll_cons_mk (Below.trod laidOut0 (by kernel_rfl) (of_decide_eq_true (by kernel_rfl)) k1 bel lt1) (trodAll_cons_mk (shut_int Tryz.underlying3 w2) trodAll_mk0))), rfl, bel.frame _, fun h => by cases h⟩
theorem over : Rows.ffacBothRow.holds Tryz.pinned (OpenSpec.ofChange Rows.ffacBothSpec) :=
  OpenClaim.holds_of_wide 8 Tryz.f8 rfl rfl rfl rfl rfl rfl rfl ⟨rfl, rfl, rfl, rfl, rfl⟩ rfl rfl rfl rfl rfl (by kernel_rfl) Tryz.func8 (by kernel_rfl)
    (of_decide_eq_true (by kernel_rfl)) (by unfold Func.isWrapper; first | (rw [if_pos (by decide +kernel)]; kernel_rfl) | (rw [if_neg (by decide +kernel)]; exact ⟨rfl, rfl⟩))
    (fun os started H enc _ => lifted os started H enc)
/-- The statement: the tied card. -/
theorem proved : Rows.FfacBothCardSaid :=
  Claim7.holds_tied_plain_at .later [] [.data] true Rows.ffacBothCard.stood.harness false over (fun _ h => by cases h) (by kernel_rfl) (fun _ h => by cases h) ffacBoth_row_tie rfl ⟨rfl, rfl⟩ (by kernel_rfl) rfl
    (fun f fn hf hfn => by
      obtain rfl : f = 8 := Option.some.inj ((show Tryz.prog.funcNamed "cleaver/cleaverlaw09.FfacBoth" = some 8 by kernel_rfl).symm.trans hf) |>.symm
      obtain rfl : fn = Tryz.f8 := (Option.some.inj (Tryz.func8.symm.trans hfn)).symm
      exact ⟨by kernel_rfl, fun j t ht => by
        rw [Tryz.params8] at ht
        have hm : t ∈ [22, 22, 3] := by simpa using Array.mem_of_getElem? ht
        have hall : ([22, 22, 3].all fun u => !Tryz.prog.wantsStandIn u) = true := by kernel_rfl
        exact (show Tryz.prog.wantsStandIn t = false by simpa using List.all_eq_true.1 hall t hm)⟩)
    (by kernel_rfl)
end Go.Proofs.YtnkhhndjbanmnaaGreatDoor.lawFfacBothCard

/- The law FsqfProduct: its walk and its card. -/
import Derived.Test.YtekpifafjbkmiaaDoorMh27
import Derived.Test.YtekpifafjbkmiaaDoorTie
import Derived.Test.YtekpifafjbkmiaaDoorCards
import Derived.ChangeOld
import Derived.ChangeMaps5
import Derived.Lay
import Derived.LaidMore
import Derived.SevenTiedAt
import Derived.Stop.Joined
import Derived.Below

/- The law FsqfProduct, walked. -/
namespace Go.Proofs.YtekpifafjbkmiaaDoor
open Go.RowKit

theorem pstep8 {w w1 w2 : World} (h : Hid (Below w.heap.size w w1)) (k : Below w1.heap.size w1 w2) : Hid (Below w.heap.size w w2) := Lib.hid (h.out.trans (k.mono h.out.size))
theorem parts_lt {p : Int} {m : List Int} {L : PL} (hp : Pr p) (hm : Mn p m) (h : IsParts p m L) {x : List Int × Nat} (hx : x ∈ L) : 1 ≤ x.2 ∧ x.2 < m.length ∧ x.1.length ≤ m.length := by
  obtain ⟨h1, ho, hne⟩ := h.own x hx
  obtain ⟨q, hq, hv⟩ := own_some hp ho hne
  have := hm.V_lt hp hq
  refine ⟨h1, by omega, Mn.len_le hp ho.1 hm fun q hq => ?_⟩
  rw [ho.2 q hq]
  split <;> omega
theorem parts_up {p : Int} {m : List Int} {L : PL} (h : IsParts p m L) {i : Nat} (hi : i + 1 < L.length) : (L[i]'(by omega)).2 < L[i + 1].2 := by
  have := List.pairwise_iff_getElem.1 h.up i (i + 1) (by simp; omega) (by simp; omega) (by omega)
  simpa using this

set_option maxRecDepth 100000 in
set_option maxHeartbeats 8000000 in
theorem walkFsqfProduct (A : Option Addr) (n c : Nat) (xs : List Int) (p : Int) (w : World) (hT : TabAt w) (sm : ISl w A n c xs) (_ : n ≤ 17592186044416) (wp : (Lit.int .i64 p).wf = true) :
    Calls Tryd.prog 4 #[.slice A n c, .int .i64 p] w fun e w' => e = .returned (.bool true) ∧ Below w.heap.size w w' := by
  have ip : In64 p := int_wf wp
  have AW := Lib.hid (awake08 w hT)
  by_cases hn : n ≤ 60
  · have hn2 : ¬ (60 : Int) < (n : Int) := by omega
    have E2 := Lib.hid (fun W (hb : Below w.heap.size w W) => cNorm A n c xs p W (hT.below hb) (sm.below hb) ip (by omega))
    rcases Classical.em (Pr p) with hp | hp
    · rw [chk_yes (primB_yes hp)] at E2
      rcases Classical.em (Ser.Bd p (cf xs) 0) with hb | hb
      · have E1 := Lib.hid (fun W (hb : Below w.heap.size w W) => fPartsTop A n c xs p W (hT.below hb) (sm.below hb) ip (by omega))
        rw [esq_zero hp hb] at E1
        have NL := Lib.hid (polL_nil hb)
        clear hT sm
        go_enter Tryd.func4, Tryd.ntmps4
        go_wp2_with (first
          | (go_at_call 8; (with_reducible refine AW.out.mono ?_); rintro e w0 ⟨rfl, hb0⟩; have HB0 := Lib.hid hb0; clear hb0)
          | (go_at_call 9; (with_reducible refine (E1.out _ HB0.out).mono ?_); rintro e w1 ⟨A1, k1, c1, Z1, rfl, hR1, -, hb1⟩; have HB1 := pstep8 HB0 hb1; clear hR1 hb1)
          | (go_at_call 18; (with_reducible refine (E2.out _ HB1.out).mono ?_); rintro e w2 ⟨C2, m2, d2, rfl, hg⟩; obtain rfl : m2 = 0 := (by have := hg.isl.len; rw [NL.out] at this; exact this); have HB2 := pstep8 HB1 hg.bel; clear hg))
        go_ret
        exact ⟨rfl, HB2.out⟩
      · have E1 := Lib.hid (fun W (hW : Below w.heap.size w W) => fPartsOk A n c xs p W (hT.below hW) (sm.below hW) ip (by omega) hp hb)
        obtain ⟨m1, m2, _⟩ := mn_monL hp hb
        have HM := Lib.hid m1
        have M9 := Lib.hid (show (monL p (cf xs)).length ≤ 60 by have := sm.len; omega)
        obtain ⟨kx, l1, l2, l3, l4⟩ := lead_back hp hb
        have PR := Lib.hid hp
        have IP := Lib.hid ip
        have HT := Lib.hid hT
        generalize monL p (cf xs) = mo at *
        generalize polL p (cf xs) = X at *
        have LX := Lib.hid l1
        have LB := Lib.hid l4
        clear hT sm hb m1 m2 l1 l4
        obtain ⟨lc, hlc⟩ : ∃ lc, cf X kx = lc := ⟨_, rfl⟩
        have HLC := Lib.hid hlc
        rw [hlc] at l2 l3
        have LC := Lib.hid (show 0 < lc ∧ lc < p from ⟨l2, l3⟩)
        have hp2 := hp.2.1
        have flc := Lib.hid (show In64 lc by unfold In64; omega)
        go_enter Tryd.func4, Tryd.ntmps4
        go_wp2_with (first
          | (go_at_call 8; (with_reducible refine AW.out.mono ?_); rintro e w0 ⟨rfl, hb0⟩; have HB0 := Lib.hid hb0; clear hb0)
          | (go_at_call 9; (with_reducible refine (E1.out _ HB0.out).mono ?_); rintro e w1 ⟨A1, k1, c1, Z1, rfl, hR1, hP1, hb1⟩; have R1 := Lib.hid hR1; have P1 := Lib.hid hP1; have HB1 := pstep8 HB0 hb1; clear hR1 hP1 hb1)
          | (go_at_call 18; (with_reducible refine (E2.out _ HB1.out).mono ?_); rintro e w2 ⟨C2, m2, d2, rfl, hg⟩; obtain rfl : m2 = kx + 1 := (by have := hg.isl.len; rw [LX.out] at this; exact this); obtain ⟨bx, ox, rfl, hbx, hcx⟩ := hg.isl.cf_ (by omega); have cx := hcx kx (by omega); rw [HLC.out] at cx; have IX := Lib.hid hg.isl; have R2 := Lib.hid (R1.out.below hg.bel); have HB2 := pstep8 HB1 hg.bel; have kx9 : kx ≤ 60 := (by have := hg.2.1; omega); clear hg hcx))
        have kle := R2.out.le
        have kmx := R2.out.max
        have K9 := Lib.hid R2.out.len
        have HBa := Lib.hid (bel_al w2 (.cells #[.int .i64 lc] 3))
        have IZo := Lib.hid ((iblk_list w2 [lc] (fi_one flc.out)).sl (by simp))
        clear cx hbx
        go_loopw [10, 11] (fun vo vi wr => ∃ (i : Nat) (Co : Option Addr) (mv dv : Nat) (out : List Int), vi = .int .i64 (i : Int) ∧ i ≤ k1 ∧ vo = .slice Co mv dv ∧ Hid (WP p mo (pls Z1) lc i 0 0 out) ∧ Hid (ISl wr Co mv dv out) ∧ Hid (Below w2.heap.size w2 wr)) (fun _ vi _ => k1 - (intOf vi).toNat)
        case atStart => exact ⟨0, _, _, _, [lc], rfl, Nat.zero_le _, rfl, Lib.hid (wp_start PR.out mo _ 0 LC.out.1 LC.out.2), IZo, HBa⟩
        case round =>
          obtain ⟨i, Co, mv, dv, out, rfl, hi, rfl, WW, IA, BB⟩ := hrel
          clear HBa IZo
          by_cases hlt : i < k1
          · have R3 := Lib.hid (R2.out.below BB.out)
            have hiz : i < Z1.length := by rw [← K9.out]; exact hlt
            obtain ⟨b, o, rfl, hbl, hc⟩ := R3.out.open_ (by omega)
            obtain ⟨c0, c1'⟩ := hc i hiz
            have zin := R3.out.in_ _ (List.getElem_mem hiz)
            have epl : (pls Z1)[i]'(by rw [pls_length]; exact hiz) = Z1[i].pl := by unfold pls; rw [List.getElem_map]
            have lt3 := parts_lt PR.out HM.out P1.out (x := Z1[i].pl) (by rw [← epl]; exact List.getElem_mem _)
            have WZ := Lib.hid (show WP p mo (pls Z1) lc i 0 ((pls Z1)[i]'(by rw [pls_length]; exact hiz)).2 out from WW.out.zero)
            have WM := Lib.hid (fun t out => @WP.mul p mo (pls Z1) lc i t out PR.out P1.out (by rw [pls_length]; exact hiz) LC.out)
            have WL := Lib.hid (fun t out => @WP.le p mo (pls Z1) lc i t out PR.out HM.out P1.out (by rw [pls_length]; exact hiz))
            have WN := Lib.hid (fun t out ht => @WP.next p mo (pls Z1) lc i t 0 out (by rw [pls_length]; exact hiz) ht)
            have PREV : Hid (∀ i', i = i' + 1 → ∃ y : Nat, w2.heap.size ≤ wr.heap.size ∧ wr.cell? ⟨b, o + i' * 2 + 1, none⟩ = some (.int .i64 (y : Int)) ∧ y < Z1[i].N) := Lib.hid (fun i' e => by
              subst e
              have h1 := hc i' (by omega)
              refine ⟨Z1[i'].N, BB.out.size, h1.2, ?_⟩
              have h2 := parts_up P1.out (i := i') (by rw [pls_length]; exact hiz)
              unfold pls at h2
              rw [List.getElem_map, List.getElem_map] at h2
              exact h2)
            rw [epl] at WZ WM WL WN
            obtain ⟨z, hz⟩ : ∃ z, Z1[i] = z := ⟨_, rfl⟩
            rw [hz] at c0 c1' zin lt3 WZ WM WL WN PREV
            obtain ⟨zA, zn, zc, zx, zN⟩ := z
            simp only [Pt.sl, Pt.nv] at c0 c1'
            have lt4 : 1 ≤ zN ∧ zN < mo.length ∧ zx.length ≤ mo.length := lt3
            have ZIN := Lib.hid (show ISl wr zA zn zc zx from zin)
            have WZ2 := Lib.hid (show WP p mo (pls Z1) lc i 0 zN out from WZ.out)
            have WM2 := Lib.hid (show ∀ t out, WP p mo (pls Z1) lc i t zN out → WP p mo (pls Z1) lc i (t + 1) zN (polL p (Ser.mul (cf out) (cf zx))) from WM.out)
            have WL2 := Lib.hid (show ∀ t out, t ≤ zN → WP p mo (pls Z1) lc i t zN out → out.length ≤ mo.length from WL.out)
            have WN2 := Lib.hid (show ∀ t out, t = zN → WP p mo (pls Z1) lc i t zN out → WP p mo (pls Z1) lc (i + 1) 0 0 out from WN.out)
            have m9 := M9.out
            have zn9 : zn ≤ 60 := by have := ZIN.out.len; omega
            have g1 : ¬ (zN : Int) < 1 := by omega
            have g2 : ¬ (60 : Int) < (zN : Int) := by omega
            have zN9 : zN ≤ 60 := by omega
            have i1 : (0 : Int) ≤ (i : Int) := by omega
            have i2 : (i : Int) < (k1 : Int) := by omega
            have HBL := Lib.hid hbl
            have C0 := Lib.hid c0
            have C1 := Lib.hid c1'
            clear hc zin epl lt3 lt4 WZ WM WL WN hz hiz m9
            have hd1 : decide ((zN : Int) < 1) = false := decide_eq_false g1
            have hd2 : decide ((60 : Int) < (zN : Int)) = false := decide_eq_false g2
            by_cases h0 : i = 0
            · have hd3 : decide ((0 : Int) < (i : Int)) = false := decide_eq_false (by omega)
              have hd4 : decide (0 < i) = false := decide_eq_false (by omega)
              clear h0 g1 g2
              go_wp2_with fail
              go_quiet (fail)
              go_wp2_with fail
              have QB := (Below.refl wr.heap.size wr)
              have QB : Below wr.heap.size wr (wr.drewN nq) := ibelow_drewN QB nq
              go_loopw [10, 12] (fun vo vt wq => ∃ (t : Nat) (Ct : Option Addr) (mt dt : Nat) (ot : List Int), vt = .int .i64 (t : Int) ∧ t ≤ zN ∧ vo = .slice Ct mt dt ∧ Hid (WP p mo (pls Z1) lc i t zN ot) ∧ Hid (ISl wq Ct mt dt ot) ∧ Hid (Below wr.heap.size wr wq)) (fun _ vt _ => zN - (intOf vt).toNat)
              case atStart => exact ⟨0, Co, mv, dv, out, rfl, Nat.zero_le _, rfl, WZ2, Lib.hid (IA.out.below QB), Lib.hid QB⟩
              case round =>
                obtain ⟨t, Ct, mt, dt, ot, rfl, ht, rfl, WT, IT, BT⟩ := hrel
                have d0 : wr.cell? ⟨b, o + i * 2, none⟩ = some (.slice zA zn zc) := (BT.out.cell (p := ⟨b, o + i * 2, none⟩) HBL.out).trans C0.out
                have d1 : wr.cell? ⟨b, o + i * 2 + 1, none⟩ = some (.int .i64 (zN : Int)) := (BT.out.cell (p := ⟨b, o + i * 2 + 1, none⟩) HBL.out).trans C1.out
                have mt9 : mt ≤ 60 := by have := WL2.out t ot ht WT.out; have := IT.out.len; have := M9.out; omega
                by_cases htl : t < zN
                · have hd5 : (t : Int) < (zN : Int) := by omega
                  have MU := Lib.hid (lTimes8 Ct zA mt dt zn zc ot zx p wr ((HT.out.below HB2.out).below (below_to BB.out BT.out)) IT.out (ZIN.out.below BT.out) IP.out (by omega) (by omega))
                  go_wp2_with (go_at_call 19; (with_reducible refine MU.out.mono ?_); rintro e w5 ⟨C5, m5, d5, rfl, hg⟩; have G5 := Lib.hid hg.isl; have B5 := Lib.hid (below_to BT.out hg.bel); clear hg)
                  go_roundw
                  case rel => exact ⟨t + 1, C5, m5, d5, _, by go_num, by omega, rfl, Lib.hid (WM2.out t ot WT.out), G5, B5⟩
                  case measure => simp [intOf]; omega
                · have hd5 : ¬ (t : Int) < (zN : Int) := by omega
                  have TE := Lib.hid (show t = zN by omega)
                  go_wp2_with fail
                  go_roundw
                  case rel => exact ⟨_, .slice Ct mt dt, .int .i64 ((i : Int) + 1), ⟨i + 1, by go_num, by omega, Ct, mt, dt, rfl, ot, Lib.hid (WN2.out t ot TE.out WT.out), IT, Lib.hid (below_to BB.out BT.out)⟩, rfl, rfl, rfl⟩
                  case measure => simp [intOf]; omega
            · obtain ⟨i', hi'⟩ : ∃ i', i = i' + 1 := ⟨i - 1, by omega⟩
              obtain ⟨y, _, yc, yl'⟩ := PREV.out i' hi'
              have yl : y < zN := yl'
              have hd3 : decide ((0 : Int) < (i : Int)) = true := decide_eq_true (by omega)
              have hd4 : decide (0 < i) = true := decide_eq_true (by omega)
              have hw : IntKind.i64.wrap ((i : Int) - 1) = (i' : Int) := by rw [IntKind.wrap_i64]; omega
              have i3 : (0 : Int) ≤ (i' : Int) := by omega
              have i4 : (i' : Int) < (k1 : Int) := by omega
              have hd6 : decide ((zN : Int) ≤ (y : Int)) = false := decide_eq_false (by omega)
              have hd7 : decide (zN ≤ y) = false := decide_eq_false (by omega)
              clear h0 g1 g2 hi' yl yl'
              go_wp2_with fail
              go_quiet (fail)
              go_wp2_with fail
              have QB := (Below.refl wr.heap.size wr)
              have QB : Below wr.heap.size wr (wr.drewN nq) := ibelow_drewN QB nq
              go_loopw [10, 12] (fun vo vt wq => ∃ (t : Nat) (Ct : Option Addr) (mt dt : Nat) (ot : List Int), vt = .int .i64 (t : Int) ∧ t ≤ zN ∧ vo = .slice Ct mt dt ∧ Hid (WP p mo (pls Z1) lc i t zN ot) ∧ Hid (ISl wq Ct mt dt ot) ∧ Hid (Below wr.heap.size wr wq)) (fun _ vt _ => zN - (intOf vt).toNat)
              case atStart => exact ⟨0, Co, mv, dv, out, rfl, Nat.zero_le _, rfl, WZ2, Lib.hid (IA.out.below QB), Lib.hid QB⟩
              case round =>
                obtain ⟨t, Ct, mt, dt, ot, rfl, ht, rfl, WT, IT, BT⟩ := hrel
                have d0 : wr.cell? ⟨b, o + i * 2, none⟩ = some (.slice zA zn zc) := (BT.out.cell (p := ⟨b, o + i * 2, none⟩) HBL.out).trans C0.out
                have d1 : wr.cell? ⟨b, o + i * 2 + 1, none⟩ = some (.int .i64 (zN : Int)) := (BT.out.cell (p := ⟨b, o + i * 2 + 1, none⟩) HBL.out).trans C1.out
                have mt9 : mt ≤ 60 := by have := WL2.out t ot ht WT.out; have := IT.out.len; have := M9.out; omega
                by_cases htl : t < zN
                · have hd5 : (t : Int) < (zN : Int) := by omega
                  have MU := Lib.hid (lTimes8 Ct zA mt dt zn zc ot zx p wr ((HT.out.below HB2.out).below (below_to BB.out BT.out)) IT.out (ZIN.out.below BT.out) IP.out (by omega) (by omega))
                  go_wp2_with (go_at_call 19; (with_reducible refine MU.out.mono ?_); rintro e w5 ⟨C5, m5, d5, rfl, hg⟩; have G5 := Lib.hid hg.isl; have B5 := Lib.hid (below_to BT.out hg.bel); clear hg)
                  go_roundw
                  case rel => exact ⟨t + 1, C5, m5, d5, _, by go_num, by omega, rfl, Lib.hid (WM2.out t ot WT.out), G5, B5⟩
                  case measure => simp [intOf]; omega
                · have hd5 : ¬ (t : Int) < (zN : Int) := by omega
                  have TE := Lib.hid (show t = zN by omega)
                  go_wp2_with fail
                  go_roundw
                  case rel => exact ⟨_, .slice Ct mt dt, .int .i64 ((i : Int) + 1), ⟨i + 1, by go_num, by omega, Ct, mt, dt, rfl, ot, Lib.hid (WN2.out t ot TE.out WT.out), IT, Lib.hid (below_to BB.out BT.out)⟩, rfl, rfl, rfl⟩
                  case measure => simp [intOf]; omega
          · have WE := Lib.hid (show i = k1 by omega)
            have EX := Lib.hid (LB.out out (by rw [HLC.out]; exact WP.done PR.out HM.out P1.out (by rw [pls_length, ← K9.out]; omega) WW.out))
            have i2 : ¬ (i : Int) < (k1 : Int) := by omega
            have HBR := Lib.hid (show Below w.heap.size w wr from below_to HB2.out BB.out)
            have SM := Lib.hid (polSame Co (some ⟨bx, ox, none⟩) mv dv (kx + 1) d2 out X wr IA.out (IX.out.below BB.out) EX.out)
            go_wp2_with (go_at_call 17; (with_reducible refine SM.out.mono ?_); rintro e w9 ⟨rfl, hb9⟩; have HB9 := pstep8 HBR hb9; clear hb9)
            go_ret
            exact ⟨rfl, HB9.out⟩
    · rw [chk_no (primB_no hp)] at E2
      have E1 := Lib.hid (fun W (hb : Below w.heap.size w W) => fPartsTop A n c xs p W (hT.below hb) (sm.below hb) ip (by omega))
      rw [esq_no hp] at E1
      clear hT sm
      go_enter Tryd.func4, Tryd.ntmps4
      go_wp2_with (first
        | (go_at_call 8; (with_reducible refine AW.out.mono ?_); rintro e w0 ⟨rfl, hb0⟩; have HB0 := Lib.hid hb0; clear hb0)
        | (go_at_call 9; (with_reducible refine (E1.out _ HB0.out).mono ?_); rintro e w1 ⟨A1, k1, c1, Z1, rfl, hR1, -, hb1⟩; have HB1 := pstep8 HB0 hb1; clear hR1 hb1)
        | (go_at_call 18; (with_reducible refine (E2.out _ HB1.out).mono ?_); rintro e w2 ⟨C2, m2, d2, rfl, hg⟩; have HB2 := pstep8 HB1 hg.bel; clear hg))
      go_ret
      exact ⟨rfl, HB2.out⟩
  · have hn2 : (60 : Int) < (n : Int) := by omega
    clear hT sm
    go_enter Tryd.func4, Tryd.ntmps4
    go_wp2_with (go_at_call 8; (with_reducible refine AW.out.mono ?_); rintro e w0 ⟨rfl, hb0⟩; have HB0 := Lib.hid hb0; clear hb0)
    go_ret
    exact ⟨rfl, HB0.out⟩
end Go.Proofs.YtekpifafjbkmiaaDoor

/- The statement 'FsqfProduct', a tied card: for every input the law's function returns true and leaves its arguments as they were; the package-level tables that the row lists are laid as the program's text lays them. No conditions but the form's own. -/
namespace Go.Proofs.YtekpifafjbkmiaaDoor.lawFsqfProductCard
open Go.ChangeShapes Go.WideShapes Go.ChangeAt Go.RowKit Go.ChangeMaps
set_option maxRecDepth 100000 in
theorem lifted (os : Os) (started : os.Started) (H : Type) (enc : TypeId × Value → H) :
    ReturnsInHanded {} Tryd.checked os 4 .any (fun w args => (Rows.fsqfProductSpec.pre enc Tryd.prog Tryd.f4 Rows.fsqfProductRow.domain false w args ∧ laidMetH Tryd.prog Rows.fsqfProductRow.laid w) ∧ sizedMet enc Tryd.prog Tryd.f4 (OpenSpec.ofChange Rows.fsqfProductSpec) false w args)
      (Rows.fsqfProductSpec.post enc Tryd.prog Tryd.f4 false true false false) := by
  refine returnsInHanded_of_change_and (C := Tryd.checked) (X := fun w _ => laidMetH Tryd.prog Rows.fsqfProductRow.laid w) (fun _ _ _ hh h => h.of_heap hh) own0 started (by kernel_rfl) Tryd.func4
    (ChangeSpec.witness_shaped (enc := enc) (C := Tryd.checked) (os := os) (X := fun w _ => laidMetH Tryd.prog Rows.fsqfProductRow.laid w) false (World.laidAll Tryd.prog os Rows.fsqfProductRow.laid) #[.slice none 0 0, .int .i64 0] 8 (World.laidAll_os _ _ _)
      (World.shaped_of_ZipB (by kernel_rfl) (by kernel_rfl)) (by kernel_rfl) (by kernel_rfl) (by kernel_rfl)
      (by rw [MakeChecks.laidMetH_plain _ _ _ (by kernel_rfl)]; exact laidMet_laidAll _ (by kernel_rfl) (by kernel_rfl))) ?_
  intro W base args ds gs before hval0 hW hcnd hsz0 hL hholds
  have hval : ∀ (j : Nat) t v, Tryd.f4.params[j]? = some t → args[j]? = some v → Value.okWide Tryd.prog W .any base t v := hval0
  have hW' := hW
  obtain ⟨p, q, hA0, hV, rfl, hfz, hnd⟩ := hW
  have hA : DataW.TrodAll enc Tryd.prog W 0 (fun _ => true) true Tryd.f4.params.toList args.toList ds p := hA0
  have hsz : (DataW.weightsEach Tryd.prog (Tryd.f4.params.toList ++ Rows.fsqfProductSpec.plain.varTypes Tryd.prog) (ds ++ gs)).all (· ≤ reachBytes) = true := hsz0
  rw [Tryd.params4] at hA hval hsz
  obtain ⟨v0, vs0, d0, ds0, p0, q0, hargs, rfl, rfl, h0, r0⟩ := trodAll_cons hA
  obtain ⟨v1, vs1, d1, ds1, p1, q1, rfl, rfl, rfl, h1, r1⟩ := trodAll_cons r0
  obtain ⟨rfl, rfl, rfl⟩ := trodAll_nil r1
  obtain rfl : args = #[v0, v1] := by cases args; simp_all
  obtain ⟨rfl, rfl⟩ := trodVars_none hV
  obtain ⟨a0, len0, cap0, rfl⟩ := okWide_slice Tryd.underlying22 (hval 0 22 v0 rfl rfl)
  have k0 := h0
  have lt0 : ∀ x ∈ p0, x.block < W.heap.size := by obtain ⟨m, hm⟩ := k0; exact DataW.trod_lt m _ _ _ hm
  obtain ⟨x0, s0, b0⟩ := isl_open h0 hsz 0 rfl rfl
  obtain ⟨a1, rfl, rfl, rfl, w1⟩ := open_int Tryd.underlying3 (hval 1 3 v1 rfl rfl) h1
  clear hA0 hval0 hsz0 hsz
  refine (walkFsqfProduct a0 len0 cap0 x0 a1 W (tab_of_laid hL) s0 b0 w1).mono fun e W' ⟨he, bel⟩ => ?_
  subst he
  exact ⟨_, rfl, _, _, _, [], _, [], hW', trodAll_mk1 (shut_bool Tryd.underlying4 _), (trodAll_cons_mk (Below.trod laidOut0 (by kernel_rfl) (of_decide_eq_true (by kernel_rfl)) k0 bel lt0) (trodAll_cons_mk (shut_int Tryd.underlying3 w1) trodAll_mk0)), rfl, bel.frame _, fun h => by cases h⟩
theorem over : Rows.fsqfProductRow.holds Tryd.pinned (OpenSpec.ofChange Rows.fsqfProductSpec) :=
  OpenClaim.holds_of_wide 4 Tryd.f4 rfl rfl rfl rfl rfl rfl rfl ⟨rfl, rfl, rfl, rfl, rfl⟩ rfl rfl rfl rfl rfl (by kernel_rfl) Tryd.func4 (by kernel_rfl)
    (of_decide_eq_true (by kernel_rfl)) (by unfold Func.isWrapper; first | (rw [if_pos (by decide +kernel)]; kernel_rfl) | (rw [if_neg (by decide +kernel)]; exact ⟨rfl, rfl⟩))
    (fun os started H enc _ => lifted os started H enc)
/-- The statement: the tied card. -/
theorem proved : Rows.FsqfProductCardSaid :=
  Claim7.holds_tied_plain_at .later [] [.data] true Rows.fsqfProductCard.stood.harness false over (fun _ h => by cases h) (by kernel_rfl) (fun _ h => by cases h) fsqfProduct_row_tie rfl ⟨rfl, rfl⟩ (by kernel_rfl) rfl
    (fun f fn hf hfn => by
      obtain rfl : f = 4 := Option.some.inj ((show Tryd.prog.funcNamed "cleaver/cleaverlaw08.FsqfProduct" = some 4 by kernel_rfl).symm.trans hf) |>.symm
      obtain rfl : fn = Tryd.f4 := (Option.some.inj (Tryd.func4.symm.trans hfn)).symm
      exact ⟨by kernel_rfl, fun j t ht => by
        rw [Tryd.params4] at ht
        have hm : t ∈ [22, 3] := by simpa using Array.mem_of_getElem? ht
        have hall : ([22, 3].all fun u => !Tryd.prog.wantsStandIn u) = true := by kernel_rfl
        exact (show Tryd.prog.wantsStandIn t = false by simpa using List.all_eq_true.1 hall t hm)⟩)
    (by kernel_rfl)
end Go.Proofs.YtekpifafjbkmiaaDoor.lawFsqfProductCard

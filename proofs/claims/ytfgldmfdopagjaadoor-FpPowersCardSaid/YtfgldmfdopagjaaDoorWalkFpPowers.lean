/- The law FpPowers, walked. -/
import Derived.Test.YtfgldmfdopagjaaDoorFpCalls
import Derived.Test.YtfgldmfdopagjaaDoorAndOnes
namespace Go.Proofs.YtfgldmfdopagjaaDoor
open Go.RowKit

theorem fpw1 {a p : Int} (i j : Nat) (h : primB p = true) : fmul (fpow a i p) (fpow a j p) p = fpow a ((i : Int) + (j : Int)) p := by
  rw [show (i : Int) + (j : Int) = ((i + j : Nat) : Int) from by omega, fpow_yes _ h, fpow_yes _ h, fpow_yes _ h, fmul_yes h, ← Int.mul_emod, Int.pow_add]
theorem fpw2 {a p : Int} (h : Pr p) : fpow a p p = red a p := by
  have h2 := h.1
  have e := fpow_yes (a := a) p.toNat (primB_yes h)
  rw [Int.toNat_of_nonneg (by omega), fermatZ h] at e
  rw [e, (red_pr h).1]

set_option maxRecDepth 100000 in
set_option maxHeartbeats 4000000 in
theorem walkFpPowers (a n m p : Int) (w : World) (hT : TabAt w) (_ : (Lit.int .i64 a).wf = true) (_ : (Lit.int .i64 n).wf = true) (_ : (Lit.int .i64 m).wf = true) (hp : (Lit.int .i64 p).wf = true) :
    Calls Tryd.prog 6 #[.int .i64 a, .int .i64 n, .int .i64 m, .int .i64 p] w fun e w' => e = .returned (.bool true) ∧ Below w.heap.size w w' := by
  have ip : In64 p := int_wf hp
  have A0 := Lib.hid awake05
  have HT := Lib.hid hT
  clear hT
  have HB := Lib.hid (Below.refl w.heap.size w)
  have hn := and_1048575 n
  have hm := and_1048575 m
  obtain ⟨i, hi⟩ : ∃ i : Nat, n % 1048576 = (i : Int) := ⟨(n % 1048576).toNat, by omega⟩
  obtain ⟨j, hj⟩ : ∃ j : Nat, m % 1048576 = (j : Int) := ⟨(m % 1048576).toNat, by omega⟩
  have hi9 : i < 1048576 := by omega
  have hj9 : j < 1048576 := by omega
  rw [hi] at hn
  rw [hj] at hm
  have ck := cCheck p ip
  have cx := cPow a i p ip (by unfold In64; omega)
  have cy := cPow a j p ip (by unfold In64; omega)
  have cz := cPow a ((i : Int) + (j : Int)) p ip (by unfold In64; omega)
  have cm := cMul (fpow a i p) (fpow a j p) p ip
  have cs := cPow a p p ip ip
  have cr := cRed a p ip
  clear hi hj
  rcases primB_or p with ⟨hb, hpr⟩ | ⟨hb, -⟩
  · have hp2 := hpr.1
    rw [chk_yes hb] at ck cm
    rw [epow_yes hb (by omega)] at cx cy cz cs
    rw [fpw1 i j hb] at cm
    rw [fpw2 hpr] at cs
    clear hpr hb
    generalize fpow a ((i : Int) + (j : Int)) p = vz at *
    generalize fpow a i p = vx at *
    generalize fpow a j p = vy at *
    generalize red a p = vr at *
    have CK := Lib.hid ck
    have CX := Lib.hid cx
    have CY := Lib.hid cy
    have CZ := Lib.hid cz
    have CM := Lib.hid cm
    have CS := Lib.hid cs
    have CR := Lib.hid cr
    clear ck cx cy cz cm cs cr
    go_enter Tryd.func6, Tryd.ntmps6
    go_wp2_with (first
      | (go_at_call 8; with_reducible refine (A0.out _ (HT.out.below HB.out)).mono ?_; rintro e w1 ⟨rfl, hb⟩; replace HB := Lib.hid (HB.out.trans (hb.mono HB.out.size)); clear hb)
      | (go_at_call 17; with_reducible refine (CK.out _ (HT.out.below HB.out)).mono ?_; rintro e w1 ⟨rfl, hb⟩; replace HB := Lib.hid (HB.out.trans (hb.mono HB.out.size)); clear hb)
      | (go_at_call 23; with_reducible refine (CX.out _ (HT.out.below HB.out)).mono ?_; rintro e w1 ⟨rfl, hb⟩; replace HB := Lib.hid (HB.out.trans (hb.mono HB.out.size)); clear hb)
      | (go_at_call 23; with_reducible refine (CY.out _ (HT.out.below HB.out)).mono ?_; rintro e w1 ⟨rfl, hb⟩; replace HB := Lib.hid (HB.out.trans (hb.mono HB.out.size)); clear hb)
      | (go_at_call 23; with_reducible refine (CZ.out _ (HT.out.below HB.out)).mono ?_; rintro e w1 ⟨rfl, hb⟩; replace HB := Lib.hid (HB.out.trans (hb.mono HB.out.size)); clear hb)
      | (go_at_call 23; with_reducible refine (CS.out _ (HT.out.below HB.out)).mono ?_; rintro e w1 ⟨rfl, hb⟩; replace HB := Lib.hid (HB.out.trans (hb.mono HB.out.size)); clear hb)
      | (go_at_call 13; with_reducible refine (CM.out _ (HT.out.below HB.out)).mono ?_; rintro e w1 ⟨rfl, hb⟩; replace HB := Lib.hid (HB.out.trans (hb.mono HB.out.size)); clear hb)
      | (go_at_call 15; with_reducible refine (CR.out _ (HT.out.below HB.out)).mono ?_; rintro e w1 ⟨rfl, hb⟩; replace HB := Lib.hid (HB.out.trans (hb.mono HB.out.size)); clear hb))
    go_ret
    exact ⟨rfl, HB.out⟩
  · rw [chk_no hb] at ck cm
    rw [epow_no hb] at cx cy cz cs
    clear hb
    generalize fmul (fpow a i p) (fpow a j p) p = vm at *
    generalize fpow a ((i : Int) + (j : Int)) p = vz at *
    generalize fpow a i p = vx at *
    generalize fpow a j p = vy at *
    generalize fpow a p p = vs at *
    generalize red a p = vr at *
    have CK := Lib.hid ck
    have CX := Lib.hid cx
    have CY := Lib.hid cy
    have CZ := Lib.hid cz
    have CM := Lib.hid cm
    have CS := Lib.hid cs
    have CR := Lib.hid cr
    clear ck cx cy cz cm cs cr
    go_enter Tryd.func6, Tryd.ntmps6
    go_wp2_with (first
      | (go_at_call 8; with_reducible refine (A0.out _ (HT.out.below HB.out)).mono ?_; rintro e w1 ⟨rfl, hb⟩; replace HB := Lib.hid (HB.out.trans (hb.mono HB.out.size)); clear hb)
      | (go_at_call 17; with_reducible refine (CK.out _ (HT.out.below HB.out)).mono ?_; rintro e w1 ⟨rfl, hb⟩; replace HB := Lib.hid (HB.out.trans (hb.mono HB.out.size)); clear hb)
      | (go_at_call 23; with_reducible refine (CX.out _ (HT.out.below HB.out)).mono ?_; rintro e w1 ⟨rfl, hb⟩; replace HB := Lib.hid (HB.out.trans (hb.mono HB.out.size)); clear hb)
      | (go_at_call 23; with_reducible refine (CY.out _ (HT.out.below HB.out)).mono ?_; rintro e w1 ⟨rfl, hb⟩; replace HB := Lib.hid (HB.out.trans (hb.mono HB.out.size)); clear hb)
      | (go_at_call 23; with_reducible refine (CZ.out _ (HT.out.below HB.out)).mono ?_; rintro e w1 ⟨rfl, hb⟩; replace HB := Lib.hid (HB.out.trans (hb.mono HB.out.size)); clear hb)
      | (go_at_call 23; with_reducible refine (CS.out _ (HT.out.below HB.out)).mono ?_; rintro e w1 ⟨rfl, hb⟩; replace HB := Lib.hid (HB.out.trans (hb.mono HB.out.size)); clear hb)
      | (go_at_call 13; with_reducible refine (CM.out _ (HT.out.below HB.out)).mono ?_; rintro e w1 ⟨rfl, hb⟩; replace HB := Lib.hid (HB.out.trans (hb.mono HB.out.size)); clear hb)
      | (go_at_call 15; with_reducible refine (CR.out _ (HT.out.below HB.out)).mono ?_; rintro e w1 ⟨rfl, hb⟩; replace HB := Lib.hid (HB.out.trans (hb.mono HB.out.size)); clear hb))
    go_ret
    exact ⟨rfl, HB.out⟩
end Go.Proofs.YtfgldmfdopagjaaDoor

/- The law FpField, walked. -/
import Derived.Test.YtfgldmfdopagjaaDoorFpCalls
import Derived.Test.YtfgldmfdopagjaaDoorAndOnes
namespace Go.Proofs.YtfgldmfdopagjaaDoor
open Go.RowKit

theorem fld1 {a b p : Int} (h : primB p = true) : fadd b a p = fadd a b p := by rw [fadd_yes h, fadd_yes h, Int.add_comm]
theorem fld2 {a b c p : Int} (h : primB p = true) : fadd a (fadd b c p) p = fadd (fadd a b p) c p := by
  simp only [fadd_yes h]
  rw [Int.add_emod_emod, Int.emod_add_emod, Int.add_assoc]
theorem fld3 {a b c p : Int} (h : primB p = true) : fadd (fmul a b p) (fmul a c p) p = fmul a (fadd b c p) p := by
  simp only [fadd_yes h, fmul_yes h]
  rw [← Int.add_emod, Int.mul_emod a ((b + c) % p), Int.emod_emod_of_dvd _ (Int.dvd_refl p), ← Int.mul_emod, Int.mul_add]
theorem fld4 {a b c p : Int} (h : primB p = true) : fmul a (fmul b c p) p = fmul (fmul a b p) c p := by
  simp only [fmul_yes h]
  rw [Int.mul_emod a (b * c % p), Int.emod_emod_of_dvd _ (Int.dvd_refl p), ← Int.mul_emod, Int.mul_emod (a * b % p), Int.emod_emod_of_dvd _ (Int.dvd_refl p), ← Int.mul_emod, Int.mul_assoc]
theorem fld5 {a b p : Int} (h : Pr p) : fsub (fadd a b p) b p = red a p := by
  rw [fsub_yes (primB_yes h), fadd_yes (primB_yes h), (red_pr h).1, Int.emod_sub_emod, Int.add_sub_cancel]

set_option maxRecDepth 100000 in
set_option maxHeartbeats 4000000 in
theorem walkFpField (a b c p : Int) (w : World) (hT : TabAt w) (_ : (Lit.int .i64 a).wf = true) (_ : (Lit.int .i64 b).wf = true) (_ : (Lit.int .i64 c).wf = true) (hp : (Lit.int .i64 p).wf = true) :
    Calls Tryd.prog 5 #[.int .i64 a, .int .i64 b, .int .i64 c, .int .i64 p] w fun e w' => e = .returned (.bool true) ∧ Below w.heap.size w w' := by
  have ip : In64 p := int_wf hp
  have A0 := Lib.hid awake05
  have HT := Lib.hid hT
  clear hT
  have HB := Lib.hid (Below.refl w.heap.size w)
  have ck := cCheck p ip
  have cab := cAdd a b p ip
  have cba := cAdd b a p ip
  have cbc := cAdd b c p ip
  have cl := cAdd (fadd a b p) c p ip
  have cr := cAdd a (fadd b c p) p ip
  have cm := cMul a (fadd b c p) p ip
  have cx := cMul a b p ip
  have cy := cMul a c p ip
  have cxy := cAdd (fmul a b p) (fmul a c p) p ip
  have cxc := cMul (fmul a b p) c p ip
  have cz := cMul b c p ip
  have caz := cMul a (fmul b c p) p ip
  have cd := cSub (fadd a b p) b p ip
  have ci := cInv a p ip
  have cone := cMul a (finv a p) p ip
  have crd := cRed a p ip
  rcases primB_or p with ⟨hb, hpr⟩ | ⟨hb, -⟩
  · rw [chk_yes hb] at ck cab cba cbc cl cr cm cx cy cxy cxc cz caz cd cone
    rw [fld1 hb] at cba
    rw [fld2 hb] at cr
    rw [fld3 hb] at cxy
    rw [fld4 hb] at caz
    rw [fld5 hpr] at cd
    have hrd := (red_pr (a := a) hpr).1
    have hz : a % p ≠ 0 → fmul a (finv a p) p = 1 := fun h => by rw [fmul_yes hb]; exact (finv_spec hpr h).2.2
    have ez : a % p = 0 → einv a p = 3 := einv_zero hb
    have ey : a % p ≠ 0 → einv a p = 0 := einv_yes hb
    rw [← hrd] at hz ez ey
    clear hrd
    generalize fmul a (finv a p) p = vone at *
    generalize fadd (fadd a b p) c p = vl at *
    generalize fmul (fmul a b p) c p = vxc at *
    generalize fmul a (fadd b c p) p = vm at *
    generalize fadd a b p = vab at *
    generalize fadd b c p = vbc at *
    generalize fmul a b p = vx at *
    generalize fmul a c p = vy at *
    generalize fmul b c p = vz at *
    generalize finv a p = vi at *
    generalize red a p = vr at *
    generalize einv a p = ve at *
    by_cases h0 : vr = 0
    · obtain rfl := ez h0
      subst h0
      clear ez ey hz
      have CK := Lib.hid ck
      have CAB := Lib.hid cab
      have CBA := Lib.hid cba
      have CBC := Lib.hid cbc
      have CL := Lib.hid cl
      have CR := Lib.hid cr
      have CM := Lib.hid cm
      have CX := Lib.hid cx
      have CY := Lib.hid cy
      have CXY := Lib.hid cxy
      have CXC := Lib.hid cxc
      have CZ := Lib.hid cz
      have CAZ := Lib.hid caz
      have CD := Lib.hid cd
      have CI := Lib.hid ci
      have CONE := Lib.hid cone
      have CRD := Lib.hid crd
      clear ck cab cba cbc cl cr cm cx cy cxy cxc cz caz cd ci cone crd
      go_enter Tryd.func5, Tryd.ntmps5
      go_wp2_with (first
        | (go_at_call 8; with_reducible refine (A0.out _ (HT.out.below HB.out)).mono ?_; rintro e w1 ⟨rfl, hb⟩; replace HB := Lib.hid (HB.out.trans (hb.mono HB.out.size)); clear hb)
        | (go_at_call 17; with_reducible refine (CK.out _ (HT.out.below HB.out)).mono ?_; rintro e w1 ⟨rfl, hb⟩; replace HB := Lib.hid (HB.out.trans (hb.mono HB.out.size)); clear hb)
        | (go_at_call 9; with_reducible refine (CAB.out _ (HT.out.below HB.out)).mono ?_; rintro e w1 ⟨rfl, hb⟩; replace HB := Lib.hid (HB.out.trans (hb.mono HB.out.size)); clear hb)
        | (go_at_call 9; with_reducible refine (CBA.out _ (HT.out.below HB.out)).mono ?_; rintro e w1 ⟨rfl, hb⟩; replace HB := Lib.hid (HB.out.trans (hb.mono HB.out.size)); clear hb)
        | (go_at_call 9; with_reducible refine (CBC.out _ (HT.out.below HB.out)).mono ?_; rintro e w1 ⟨rfl, hb⟩; replace HB := Lib.hid (HB.out.trans (hb.mono HB.out.size)); clear hb)
        | (go_at_call 9; with_reducible refine (CL.out _ (HT.out.below HB.out)).mono ?_; rintro e w1 ⟨rfl, hb⟩; replace HB := Lib.hid (HB.out.trans (hb.mono HB.out.size)); clear hb)
        | (go_at_call 9; with_reducible refine (CR.out _ (HT.out.below HB.out)).mono ?_; rintro e w1 ⟨rfl, hb⟩; replace HB := Lib.hid (HB.out.trans (hb.mono HB.out.size)); clear hb)
        | (go_at_call 13; with_reducible refine (CM.out _ (HT.out.below HB.out)).mono ?_; rintro e w1 ⟨rfl, hb⟩; replace HB := Lib.hid (HB.out.trans (hb.mono HB.out.size)); clear hb)
        | (go_at_call 13; with_reducible refine (CX.out _ (HT.out.below HB.out)).mono ?_; rintro e w1 ⟨rfl, hb⟩; replace HB := Lib.hid (HB.out.trans (hb.mono HB.out.size)); clear hb)
        | (go_at_call 13; with_reducible refine (CY.out _ (HT.out.below HB.out)).mono ?_; rintro e w1 ⟨rfl, hb⟩; replace HB := Lib.hid (HB.out.trans (hb.mono HB.out.size)); clear hb)
        | (go_at_call 9; with_reducible refine (CXY.out _ (HT.out.below HB.out)).mono ?_; rintro e w1 ⟨rfl, hb⟩; replace HB := Lib.hid (HB.out.trans (hb.mono HB.out.size)); clear hb)
        | (go_at_call 13; with_reducible refine (CXC.out _ (HT.out.below HB.out)).mono ?_; rintro e w1 ⟨rfl, hb⟩; replace HB := Lib.hid (HB.out.trans (hb.mono HB.out.size)); clear hb)
        | (go_at_call 13; with_reducible refine (CZ.out _ (HT.out.below HB.out)).mono ?_; rintro e w1 ⟨rfl, hb⟩; replace HB := Lib.hid (HB.out.trans (hb.mono HB.out.size)); clear hb)
        | (go_at_call 13; with_reducible refine (CAZ.out _ (HT.out.below HB.out)).mono ?_; rintro e w1 ⟨rfl, hb⟩; replace HB := Lib.hid (HB.out.trans (hb.mono HB.out.size)); clear hb)
        | (go_at_call 11; with_reducible refine (CD.out _ (HT.out.below HB.out)).mono ?_; rintro e w1 ⟨rfl, hb⟩; replace HB := Lib.hid (HB.out.trans (hb.mono HB.out.size)); clear hb)
        | (go_at_call 19; with_reducible refine (CI.out _ (HT.out.below HB.out)).mono ?_; rintro e w1 ⟨rfl, hb⟩; replace HB := Lib.hid (HB.out.trans (hb.mono HB.out.size)); clear hb)
        | (go_at_call 13; with_reducible refine (CONE.out _ (HT.out.below HB.out)).mono ?_; rintro e w1 ⟨rfl, hb⟩; replace HB := Lib.hid (HB.out.trans (hb.mono HB.out.size)); clear hb)
        | (go_at_call 15; with_reducible refine (CRD.out _ (HT.out.below HB.out)).mono ?_; rintro e w1 ⟨rfl, hb⟩; replace HB := Lib.hid (HB.out.trans (hb.mono HB.out.size)); clear hb))
      go_ret
      exact ⟨rfl, HB.out⟩
    · obtain rfl := ey h0
      have h1 := hz h0
      subst h1
      have h00 : (vr == 0) = false := by simpa using h0
      clear ez ey hz h0
      have CK := Lib.hid ck
      have CAB := Lib.hid cab
      have CBA := Lib.hid cba
      have CBC := Lib.hid cbc
      have CL := Lib.hid cl
      have CR := Lib.hid cr
      have CM := Lib.hid cm
      have CX := Lib.hid cx
      have CY := Lib.hid cy
      have CXY := Lib.hid cxy
      have CXC := Lib.hid cxc
      have CZ := Lib.hid cz
      have CAZ := Lib.hid caz
      have CD := Lib.hid cd
      have CI := Lib.hid ci
      have CONE := Lib.hid cone
      have CRD := Lib.hid crd
      clear ck cab cba cbc cl cr cm cx cy cxy cxc cz caz cd ci cone crd
      go_enter Tryd.func5, Tryd.ntmps5
      go_wp2_with (first
        | (go_at_call 8; with_reducible refine (A0.out _ (HT.out.below HB.out)).mono ?_; rintro e w1 ⟨rfl, hb⟩; replace HB := Lib.hid (HB.out.trans (hb.mono HB.out.size)); clear hb)
        | (go_at_call 17; with_reducible refine (CK.out _ (HT.out.below HB.out)).mono ?_; rintro e w1 ⟨rfl, hb⟩; replace HB := Lib.hid (HB.out.trans (hb.mono HB.out.size)); clear hb)
        | (go_at_call 9; with_reducible refine (CAB.out _ (HT.out.below HB.out)).mono ?_; rintro e w1 ⟨rfl, hb⟩; replace HB := Lib.hid (HB.out.trans (hb.mono HB.out.size)); clear hb)
        | (go_at_call 9; with_reducible refine (CBA.out _ (HT.out.below HB.out)).mono ?_; rintro e w1 ⟨rfl, hb⟩; replace HB := Lib.hid (HB.out.trans (hb.mono HB.out.size)); clear hb)
        | (go_at_call 9; with_reducible refine (CBC.out _ (HT.out.below HB.out)).mono ?_; rintro e w1 ⟨rfl, hb⟩; replace HB := Lib.hid (HB.out.trans (hb.mono HB.out.size)); clear hb)
        | (go_at_call 9; with_reducible refine (CL.out _ (HT.out.below HB.out)).mono ?_; rintro e w1 ⟨rfl, hb⟩; replace HB := Lib.hid (HB.out.trans (hb.mono HB.out.size)); clear hb)
        | (go_at_call 9; with_reducible refine (CR.out _ (HT.out.below HB.out)).mono ?_; rintro e w1 ⟨rfl, hb⟩; replace HB := Lib.hid (HB.out.trans (hb.mono HB.out.size)); clear hb)
        | (go_at_call 13; with_reducible refine (CM.out _ (HT.out.below HB.out)).mono ?_; rintro e w1 ⟨rfl, hb⟩; replace HB := Lib.hid (HB.out.trans (hb.mono HB.out.size)); clear hb)
        | (go_at_call 13; with_reducible refine (CX.out _ (HT.out.below HB.out)).mono ?_; rintro e w1 ⟨rfl, hb⟩; replace HB := Lib.hid (HB.out.trans (hb.mono HB.out.size)); clear hb)
        | (go_at_call 13; with_reducible refine (CY.out _ (HT.out.below HB.out)).mono ?_; rintro e w1 ⟨rfl, hb⟩; replace HB := Lib.hid (HB.out.trans (hb.mono HB.out.size)); clear hb)
        | (go_at_call 9; with_reducible refine (CXY.out _ (HT.out.below HB.out)).mono ?_; rintro e w1 ⟨rfl, hb⟩; replace HB := Lib.hid (HB.out.trans (hb.mono HB.out.size)); clear hb)
        | (go_at_call 13; with_reducible refine (CXC.out _ (HT.out.below HB.out)).mono ?_; rintro e w1 ⟨rfl, hb⟩; replace HB := Lib.hid (HB.out.trans (hb.mono HB.out.size)); clear hb)
        | (go_at_call 13; with_reducible refine (CZ.out _ (HT.out.below HB.out)).mono ?_; rintro e w1 ⟨rfl, hb⟩; replace HB := Lib.hid (HB.out.trans (hb.mono HB.out.size)); clear hb)
        | (go_at_call 13; with_reducible refine (CAZ.out _ (HT.out.below HB.out)).mono ?_; rintro e w1 ⟨rfl, hb⟩; replace HB := Lib.hid (HB.out.trans (hb.mono HB.out.size)); clear hb)
        | (go_at_call 11; with_reducible refine (CD.out _ (HT.out.below HB.out)).mono ?_; rintro e w1 ⟨rfl, hb⟩; replace HB := Lib.hid (HB.out.trans (hb.mono HB.out.size)); clear hb)
        | (go_at_call 19; with_reducible refine (CI.out _ (HT.out.below HB.out)).mono ?_; rintro e w1 ⟨rfl, hb⟩; replace HB := Lib.hid (HB.out.trans (hb.mono HB.out.size)); clear hb)
        | (go_at_call 13; with_reducible refine (CONE.out _ (HT.out.below HB.out)).mono ?_; rintro e w1 ⟨rfl, hb⟩; replace HB := Lib.hid (HB.out.trans (hb.mono HB.out.size)); clear hb)
        | (go_at_call 15; with_reducible refine (CRD.out _ (HT.out.below HB.out)).mono ?_; rintro e w1 ⟨rfl, hb⟩; replace HB := Lib.hid (HB.out.trans (hb.mono HB.out.size)); clear hb))
      go_ret
      exact ⟨rfl, HB.out⟩
  · rw [chk_no hb] at ck cab
    rw [fadd_no hb] at cab
    have CK := Lib.hid ck
    have CAB := Lib.hid cab
    clear ck cab
    go_enter Tryd.func5, Tryd.ntmps5
    go_wp2_with (first
      | (go_at_call 8; with_reducible refine (A0.out _ (HT.out.below HB.out)).mono ?_; rintro e w1 ⟨rfl, hb⟩; replace HB := Lib.hid (HB.out.trans (hb.mono HB.out.size)); clear hb)
      | (go_at_call 17; with_reducible refine (CK.out _ (HT.out.below HB.out)).mono ?_; rintro e w1 ⟨rfl, hb⟩; replace HB := Lib.hid (HB.out.trans (hb.mono HB.out.size)); clear hb)
      | (go_at_call 9; with_reducible refine (CAB.out _ (HT.out.below HB.out)).mono ?_; rintro e w1 ⟨rfl, hb⟩; replace HB := Lib.hid (HB.out.trans (hb.mono HB.out.size)); clear hb))
    go_ret
    exact ⟨rfl, HB.out⟩
end Go.Proofs.YtfgldmfdopagjaaDoor

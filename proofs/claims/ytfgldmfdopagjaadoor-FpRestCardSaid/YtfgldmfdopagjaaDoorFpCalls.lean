/- fp's and the document's own calls, in the one form that the laws' walks take: at every world; what was there is as it was. -/
import Derived.Test.YtfgldmfdopagjaaDoorPrgInv
import Derived.Test.YtfgldmfdopagjaaDoorRefFp
import Derived.Test.YtfgldmfdopagjaaDoorIntOpen
import Derived.Below
namespace Go.Proofs.YtfgldmfdopagjaaDoor
open Go.RowKit

theorem still {P : Program} {f : FuncId} {args : Array Value} {w : World} {v : Ending} (h : Calls P f args w fun e w' => e = v ∧ w = w') : Calls P f args w fun e w' => e = v ∧ Below w.heap.size w w' :=
  h.mono fun _ _ ⟨he, hw⟩ => ⟨he, hw ▸ Below.refl _ _⟩

theorem cCheck (p : Int) (h : In64 p) (w : World) (hT : TabAt w) : Calls Tryd.prog 17 #[.int .i64 p] w fun e w' => e = .returned (.int .i64 (chk p)) ∧ Below w.heap.size w w' := still (pCheck_any p w h.1 h.2 hT)
theorem cRed (a p : Int) (h : In64 p) (w : World) (_ : TabAt w) : Calls Tryd.prog 15 #[.int .i64 a, .int .i64 p] w fun e w' => e = .returned (.int .i64 (red a p)) ∧ Below w.heap.size w w' := still (pRed_any a p w h.1 h.2)
theorem cAdd (a b p : Int) (h : In64 p) (w : World) (hT : TabAt w) : Calls Tryd.prog 9 #[.int .i64 a, .int .i64 b, .int .i64 p] w fun e w' => e = .returned (.tuple #[.int .i64 (fadd a b p), .int .i64 (chk p)]) ∧ Below w.heap.size w w' := still (pAdd_any a b p w h.1 h.2 hT)
theorem cSub (a b p : Int) (h : In64 p) (w : World) (hT : TabAt w) : Calls Tryd.prog 11 #[.int .i64 a, .int .i64 b, .int .i64 p] w fun e w' => e = .returned (.tuple #[.int .i64 (fsub a b p), .int .i64 (chk p)]) ∧ Below w.heap.size w w' := still (pSub_any a b p w h.1 h.2 hT)
theorem cMul (a b p : Int) (h : In64 p) (w : World) (hT : TabAt w) : Calls Tryd.prog 13 #[.int .i64 a, .int .i64 b, .int .i64 p] w fun e w' => e = .returned (.tuple #[.int .i64 (fmul a b p), .int .i64 (chk p)]) ∧ Below w.heap.size w w' := still (pMul_any a b p w h.1 h.2 hT)
theorem cInv (a p : Int) (h : In64 p) (w : World) (hT : TabAt w) : Calls Tryd.prog 19 #[.int .i64 a, .int .i64 p] w fun e w' => e = .returned (.tuple #[.int .i64 (finv a p), .int .i64 (einv a p)]) ∧ Below w.heap.size w w' := pInv_any a p w h.1 h.2 hT
theorem cDiv (a b p : Int) (h : In64 p) (w : World) (hT : TabAt w) : Calls Tryd.prog 21 #[.int .i64 a, .int .i64 b, .int .i64 p] w fun e w' => e = .returned (.tuple #[.int .i64 (fdiv a b p), .int .i64 (einv b p)]) ∧ Below w.heap.size w w' := pDiv_any a b p w h.1 h.2 hT
theorem cPow (a n p : Int) (h : In64 p) (hn : In64 n) (w : World) (hT : TabAt w) : Calls Tryd.prog 23 #[.int .i64 a, .int .i64 n, .int .i64 p] w fun e w' => e = .returned (.tuple #[.int .i64 (fpow a n p), .int .i64 (epow n p)]) ∧ Below w.heap.size w w' := still (pPow_any a n p w h.1 h.2 hn.2 hT)

theorem rCheck (p : Int) (h : In64 p) (w : World) (_ : TabAt w) : Calls Tryd.prog 18 #[.int .i64 p] w fun e w' => e = .returned (.int .i64 (chk p)) ∧ Below w.heap.size w w' := still (refCheck_any p w h.1 h.2)
theorem rRed (a p : Int) (h : In64 p) (w : World) (_ : TabAt w) : Calls Tryd.prog 16 #[.int .i64 a, .int .i64 p] w fun e w' => e = .returned (.int .i64 (red a p)) ∧ Below w.heap.size w w' := still (refRed_any a p w h.1 h.2)
theorem rAdd (a b p : Int) (h : In64 p) (w : World) (_ : TabAt w) : Calls Tryd.prog 10 #[.int .i64 a, .int .i64 b, .int .i64 p] w fun e w' => e = .returned (.tuple #[.int .i64 (fadd a b p), .int .i64 (chk p)]) ∧ Below w.heap.size w w' := still (refAdd_any a b p w h.1 h.2)
theorem rSub (a b p : Int) (h : In64 p) (w : World) (_ : TabAt w) : Calls Tryd.prog 12 #[.int .i64 a, .int .i64 b, .int .i64 p] w fun e w' => e = .returned (.tuple #[.int .i64 (fsub a b p), .int .i64 (chk p)]) ∧ Below w.heap.size w w' := still (refSub_anyF a b p w h.1 h.2)
theorem rMul (a b p : Int) (h : In64 p) (w : World) (_ : TabAt w) : Calls Tryd.prog 14 #[.int .i64 a, .int .i64 b, .int .i64 p] w fun e w' => e = .returned (.tuple #[.int .i64 (fmul a b p), .int .i64 (chk p)]) ∧ Below w.heap.size w w' := still (refMul_anyF a b p w h.1 h.2)
theorem rInv (a p : Int) (h : In64 p) (w : World) (_ : TabAt w) : Calls Tryd.prog 20 #[.int .i64 a, .int .i64 p] w fun e w' => e = .returned (.tuple #[.int .i64 (finv a p), .int .i64 (einv a p)]) ∧ Below w.heap.size w w' := still (refInv_any a p w h.1 h.2)
theorem rDiv (a b p : Int) (h : In64 p) (w : World) (_ : TabAt w) : Calls Tryd.prog 22 #[.int .i64 a, .int .i64 b, .int .i64 p] w fun e w' => e = .returned (.tuple #[.int .i64 (fdiv a b p), .int .i64 (einv b p)]) ∧ Below w.heap.size w w' := still (refDiv_anyF a b p w h.1 h.2)
theorem rPow (a n p : Int) (h : In64 p) (hn : In64 n) (w : World) (_ : TabAt w) : Calls Tryd.prog 24 #[.int .i64 a, .int .i64 n, .int .i64 p] w fun e w' => e = .returned (.tuple #[.int .i64 (fpow a n p), .int .i64 (epow n p)]) ∧ Below w.heap.size w w' := still (refPow_any a n p w h.1 h.2 hn.2)

theorem pr7 : Pr 7 := pr_trial (n := 7) (by decide) (by decide) 3 (by decide) (fun e h2 h3 => by
  obtain rfl : e = 2 := by omega
  decide)
theorem pr11 : Pr 11 := pr_trial (n := 11) (by decide) (by decide) 4 (by decide) (fun e h2 h3 => by
  have : e = 2 ∨ e = 3 := by omega
  rcases this with rfl | rfl <;> decide)
theorem pr9 : ¬ Pr 9 := pr_not (n := 9) (d := 3) (by decide) (by decide) (by decide)

set_option maxHeartbeats 1000000 in
theorem awake05 (w : World) (hT : TabAt w) : Calls Tryd.prog 8 #[] w fun e w' => e = .returned (.bool true) ∧ Below w.heap.size w w' := by
  have I := cInv 3 7 (by unfold In64; decide)
  have P := cPow 2 10 11 (by unfold In64; decide) (by unfold In64; decide)
  have C := cCheck 9 (by unfold In64; decide)
  have R := cRed (-1) 5 (by unfold In64; decide)
  rw [finv_eq (x := 5) pr7 (by decide), einv_yes (primB_yes pr7) (by decide)] at I
  rw [show (10 : Int) = ((10 : Nat) : Int) from rfl, fpow_yes 10 (primB_yes pr11), epow_yes (primB_yes pr11) (by decide)] at P
  rw [chk_no (primB_no pr9)] at C
  rw [red_pos (by decide)] at R
  have II : Hid (∀ w, TabAt w → Calls Tryd.prog 19 #[.int .i64 3, .int .i64 7] w fun e w' => e = .returned (.tuple #[.int .i64 5, .int .i64 0]) ∧ Below w.heap.size w w') := Lib.hid I
  have PP : Hid (∀ w, TabAt w → Calls Tryd.prog 23 #[.int .i64 2, .int .i64 10, .int .i64 11] w fun e w' => e = .returned (.tuple #[.int .i64 1, .int .i64 0]) ∧ Below w.heap.size w w') := Lib.hid P
  have CC : Hid (∀ w, TabAt w → Calls Tryd.prog 17 #[.int .i64 9] w fun e w' => e = .returned (.int .i64 1) ∧ Below w.heap.size w w') := Lib.hid C
  have RR : Hid (∀ w, TabAt w → Calls Tryd.prog 15 #[.int .i64 (-1), .int .i64 5] w fun e w' => e = .returned (.int .i64 4) ∧ Below w.heap.size w w') := Lib.hid R
  have HT := Lib.hid hT
  have HB := Lib.hid (Below.refl w.heap.size w)
  clear I P C R hT
  go_enter Tryd.func8, Tryd.ntmps8
  go_wp2_with (first
    | (go_at_call 19; with_reducible refine (II.out _ (HT.out.below HB.out)).mono ?_; rintro e w1 ⟨rfl, hb⟩; replace HB := Lib.hid (HB.out.trans (hb.mono HB.out.size)); clear hb)
    | (go_at_call 23; with_reducible refine (PP.out _ (HT.out.below HB.out)).mono ?_; rintro e w1 ⟨rfl, hb⟩; replace HB := Lib.hid (HB.out.trans (hb.mono HB.out.size)); clear hb)
    | (go_at_call 17; with_reducible refine (CC.out _ (HT.out.below HB.out)).mono ?_; rintro e w1 ⟨rfl, hb⟩; replace HB := Lib.hid (HB.out.trans (hb.mono HB.out.size)); clear hb)
    | (go_at_call 15; with_reducible refine (RR.out _ (HT.out.below HB.out)).mono ?_; rintro e w1 ⟨rfl, hb⟩; replace HB := Lib.hid (HB.out.trans (hb.mono HB.out.size)); clear hb))
  go_ret
  exact ⟨rfl, HB.out⟩
end Go.Proofs.YtfgldmfdopagjaaDoor

/- The laws FlinRows, FlinNulls and FlinApplies, walked. -/
import Derived.Test.YtipdnfdeacdkgaaDoorLinAw
import Derived.Test.YtipdnfdeacdkgaaDoorIntOpen
namespace Go.Proofs.YtipdnfdeacdkgaaDoor
open Go.RowKit Go.Shelf

theorem hstep7 {w w1 w2 : World} (h : Hid (Below w.heap.size w w1)) (k : Below w1.heap.size w1 w2) : Hid (Below w.heap.size w w2) := Lib.hid (h.out.trans (k.mono h.out.size))

set_option maxHeartbeats 2000000 in
theorem walkFlinRows (A : Option Addr) (n c : Nat) (M : List (List Int)) (p : Int) (w : World) (hT : TabAt w) (sm : MatAt w A n c M) (wp : (Lit.int .i64 p).wf = true) :
    Calls Tryd.prog 3 #[.slice A n c, .int .i64 p] w fun e w' => e = .returned (.bool true) ∧ Below w.heap.size w w' := by
  have ip : In64 p := int_wf wp
  have AW := Lib.hid (awake07 w hT)
  have E1 := Lib.hid (fun W (hb : Below w.heap.size w W) => fEchelon_any A n c M p W (hT.below hb) (sm.below hb) ip)
  have E2 := Lib.hid (fun W (hb : Below w.heap.size w W) => rEchelon_any A n c M p W (sm.below hb) ip)
  generalize codeP (Right p M) = cd at *
  generalize echV p M = V at *
  clear hT sm
  go_enter Tryd.func3, Tryd.ntmps3
  go_wp2_with (first
    | (go_at_call 9; (with_reducible refine AW.out.mono ?_); rintro e w0 ⟨rfl, hb0⟩; have HB0 := Lib.hid hb0; clear hb0)
    | (go_at_call 10; (with_reducible refine (E1.out _ HB0.out).mono ?_); rintro e w1 ⟨A1, m1, c1, rfl, hM1, hb1⟩; have HM1 := Lib.hid hM1; have HB1 := hstep7 HB0 hb1; clear hM1 hb1)
    | (go_at_call 11; (with_reducible refine (E2.out _ HB1.out).mono ?_); rintro e w2 ⟨A2, m2, c2, rfl, hM2, hb2⟩; have HM2 := Lib.hid hM2; have HM3 := Lib.hid (HM1.out.below hb2); have HB2 := hstep7 HB1 hb2; clear hM2 hb2)
    | (go_at_call 12; (with_reducible refine (msame_any _ _ _ _ _ _ _ _ _ HM3.out HM2.out).mono ?_); rintro e w3 ⟨rfl, hb3⟩; have HB3 := hstep7 HB2 hb3; have hs := meqB_self V; clear hb3))
  go_ret
  exact ⟨rfl, HB3.out⟩

set_option maxHeartbeats 2000000 in
theorem walkFlinNulls (A : Option Addr) (m c : Nat) (M : List (List Int)) (n p : Int) (w : World) (hT : TabAt w) (sm : MatAt w A m c M) (_ : (Lit.int .i64 n).wf = true) (wp : (Lit.int .i64 p).wf = true) :
    Calls Tryd.prog 4 #[.slice A m c, .int .i64 n, .int .i64 p] w fun e w' => e = .returned (.bool true) ∧ Below w.heap.size w w' := by
  have ip : In64 p := int_wf wp
  have AW := Lib.hid (awake07 w hT)
  have E1 := Lib.hid (fun W (hb : Below w.heap.size w W) => fNull_any A m c M n p W (hT.below hb) (sm.below hb) ip)
  have E2 := Lib.hid (fun W (hb : Below w.heap.size w W) => rNull_any A m c M n p W (sm.below hb) ip)
  generalize codeP (NulOk p M n) = cd at *
  generalize nulV' p M n = V at *
  clear hT sm
  go_enter Tryd.func4, Tryd.ntmps4
  go_wp2_with (first
    | (go_at_call 9; (with_reducible refine AW.out.mono ?_); rintro e w0 ⟨rfl, hb0⟩; have HB0 := Lib.hid hb0; clear hb0)
    | (go_at_call 13; (with_reducible refine (E1.out _ HB0.out).mono ?_); rintro e w1 ⟨A1, m1, c1, rfl, hM1, hb1⟩; have HM1 := Lib.hid hM1; have HB1 := hstep7 HB0 hb1; clear hM1 hb1)
    | (go_at_call 14; (with_reducible refine (E2.out _ HB1.out).mono ?_); rintro e w2 ⟨A2, m2, c2, rfl, hM2, hb2⟩; have HM2 := Lib.hid hM2; have HM3 := Lib.hid (HM1.out.below hb2); have HB2 := hstep7 HB1 hb2; clear hM2 hb2)
    | (go_at_call 12; (with_reducible refine (msame_any _ _ _ _ _ _ _ _ _ HM3.out HM2.out).mono ?_); rintro e w3 ⟨rfl, hb3⟩; have HB3 := hstep7 HB2 hb3; have hs := meqB_self V; clear hb3))
  go_ret
  exact ⟨rfl, HB3.out⟩

set_option maxHeartbeats 2000000 in
theorem walkFlinApplies (A : Option Addr) (n c : Nat) (M : List (List Int)) (B : Option Addr) (m d : Nat) (v : List Int) (p : Int) (w : World) (hT : TabAt w) (sm : MatAt w A n c M) (sv : ISl w B m d v) (_ : m ≤ 17592186044416) (wp : (Lit.int .i64 p).wf = true) :
    Calls Tryd.prog 5 #[.slice A n c, .slice B m d, .int .i64 p] w fun e w' => e = .returned (.bool true) ∧ Below w.heap.size w w' := by
  have ip : In64 p := int_wf wp
  have AW := Lib.hid (awake07 w hT)
  have E1 := Lib.hid (fun W (hb : Below w.heap.size w W) => fApply_any A n c M B m d v p W (hT.below hb) (sm.below hb) (sv.below hb) ip)
  have E2 := Lib.hid (fun W (hb : Below w.heap.size w W) => rApply_any A n c M B m d v p W (sm.below hb) (sv.below hb) ip)
  generalize codeP (AppOk p M v) = cd at *
  generalize appV p M v = V at *
  clear hT sm sv
  go_enter Tryd.func5, Tryd.ntmps5
  go_wp2_with (first
    | (go_at_call 9; (with_reducible refine AW.out.mono ?_); rintro e w0 ⟨rfl, hb0⟩; have HB0 := Lib.hid hb0; clear hb0)
    | (go_at_call 15; (with_reducible refine (E1.out _ HB0.out).mono ?_); rintro e w1 ⟨A1, m1, c1, rfl, hM1, hb1⟩; have HM1 := Lib.hid hM1; have HB1 := hstep7 HB0 hb1; clear hM1 hb1)
    | (go_at_call 16; (with_reducible refine (E2.out _ HB1.out).mono ?_); rintro e w2 ⟨A2, m2, c2, rfl, hM2, hb2⟩; have HM2 := Lib.hid hM2; have HM3 := Lib.hid (HM1.out.below hb2); have HB2 := hstep7 HB1 hb2; clear hM2 hb2)
    | (go_at_call 17; (with_reducible refine (polSame _ _ _ _ _ _ _ _ _ HM3.out HM2.out rfl).mono ?_); rintro e w3 ⟨rfl, hb3⟩; have HB3 := hstep7 HB2 hb3; clear hb3))
  go_ret
  exact ⟨rfl, HB3.out⟩
end Go.Proofs.YtipdnfdeacdkgaaDoor

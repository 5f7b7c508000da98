/- The law FpDivides, walked. -/
import Derived.Test.YtfgldmfdopagjaaDoorFpCalls
namespace Go.Proofs.YtfgldmfdopagjaaDoor
open Go.RowKit

set_option maxHeartbeats 2000000 in
theorem walkFpDivides (a b n p : Int) (w : World) (hT : TabAt w) (_ : (Lit.int .i64 a).wf = true) (_ : (Lit.int .i64 b).wf = true) (hn : (Lit.int .i64 n).wf = true) (hp : (Lit.int .i64 p).wf = true) :
    Calls Tryd.prog 4 #[.int .i64 a, .int .i64 b, .int .i64 n, .int .i64 p] w fun e w' => e = .returned (.bool true) ∧ Below w.heap.size w w' := by
  have inn : In64 n := int_wf hn
  have ip : In64 p := int_wf hp
  have A0 := Lib.hid awake05
  have HT := Lib.hid hT
  clear hT
  have HB := Lib.hid (Below.refl w.heap.size w)
  have c1 := cInv a p ip
  have c2 := rInv a p ip
  have c3 := cDiv a b p ip
  have c4 := rDiv a b p ip
  have c5 := cPow a n p ip inn
  have c6 := rPow a n p ip inn
  generalize finv a p = g0 at *
  generalize einv a p = g1 at *
  generalize fdiv a b p = g2 at *
  generalize einv b p = g3 at *
  generalize fpow a n p = g4 at *
  generalize epow n p = g5 at *
  have C1 := Lib.hid c1
  have C2 := Lib.hid c2
  have C3 := Lib.hid c3
  have C4 := Lib.hid c4
  have C5 := Lib.hid c5
  have C6 := Lib.hid c6
  clear c1 c2 c3 c4 c5 c6
  go_enter Tryd.func4, Tryd.ntmps4
  go_wp2_with (first
    | (go_at_call 8; with_reducible refine (A0.out _ (HT.out.below HB.out)).mono ?_; rintro e w1 ⟨rfl, hb⟩; replace HB := Lib.hid (HB.out.trans (hb.mono HB.out.size)); clear hb)
    | (go_at_call 19; with_reducible refine (C1.out _ (HT.out.below HB.out)).mono ?_; rintro e w1 ⟨rfl, hb⟩; replace HB := Lib.hid (HB.out.trans (hb.mono HB.out.size)); clear hb)
    | (go_at_call 20; with_reducible refine (C2.out _ (HT.out.below HB.out)).mono ?_; rintro e w1 ⟨rfl, hb⟩; replace HB := Lib.hid (HB.out.trans (hb.mono HB.out.size)); clear hb)
    | (go_at_call 21; with_reducible refine (C3.out _ (HT.out.below HB.out)).mono ?_; rintro e w1 ⟨rfl, hb⟩; replace HB := Lib.hid (HB.out.trans (hb.mono HB.out.size)); clear hb)
    | (go_at_call 22; with_reducible refine (C4.out _ (HT.out.below HB.out)).mono ?_; rintro e w1 ⟨rfl, hb⟩; replace HB := Lib.hid (HB.out.trans (hb.mono HB.out.size)); clear hb)
    | (go_at_call 23; with_reducible refine (C5.out _ (HT.out.below HB.out)).mono ?_; rintro e w1 ⟨rfl, hb⟩; replace HB := Lib.hid (HB.out.trans (hb.mono HB.out.size)); clear hb)
    | (go_at_call 24; with_reducible refine (C6.out _ (HT.out.below HB.out)).mono ?_; rintro e w1 ⟨rfl, hb⟩; replace HB := Lib.hid (HB.out.trans (hb.mono HB.out.size)); clear hb))
  go_ret
  exact ⟨rfl, HB.out⟩
end Go.Proofs.YtfgldmfdopagjaaDoor

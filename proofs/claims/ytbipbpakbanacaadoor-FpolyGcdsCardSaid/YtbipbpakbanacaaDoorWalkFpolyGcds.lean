/- The law FpolyGcds, walked. -/
import Derived.Test.YtbipbpakbanacaaDoorMg8
import Derived.Test.YtbipbpakbanacaaDoorPolLawE
namespace Go.Proofs.YtbipbpakbanacaaDoor
open Go.RowKit

set_option maxHeartbeats 2000000 in
theorem walkFpolyGcds (Aa : Option Addr) (na ca : Nat) (xa : List Int) (Ab : Option Addr) (nb cb : Nat) (xb : List Int) (p : Int) (w : World) (hT : TabAt w) (sa : ISl w Aa na ca xa) (_ : na ≤ 17592186044416) (sb : ISl w Ab nb cb xb) (_ : nb ≤ 17592186044416) (wp : (Lit.int .i64 p).wf = true) :
    Calls Tryd.prog 5 #[.slice Aa na ca, .slice Ab nb cb, .int .i64 p] w fun e w' => e = .returned (.bool true) ∧ Below w.heap.size w w' := by
  have ip : In64 p := int_wf wp
  have HB := Lib.hid (Below.refl w.heap.size w)
  have HT := Lib.hid hT
  clear hT
  have LV : Hid (Liv w [(Aa, na, ca, xa), (Ab, nb, cb, xb)]) := Lib.hid ⟨sa, sb, trivial⟩
  have Sa := Lib.hid sa
  have Sb := Lib.hid sb
  clear sa sb
  by_cases hs : na ≤ 40 ∧ nb ≤ 40
  · obtain ⟨ha, hb⟩ := hs
    have SH := Lib.hid (fun w => lShort2_yes 40 40 rfl w Aa na ca Ab nb cb (by omega))
    go_enter Tryd.func5, Tryd.ntmps5
    go_wp2_with (first
      | (go_at_call 12; (refine Calls.mono (awake06 _ (HT.out.below HB.out)) ?_); rintro e w1 ⟨rfl, hb⟩; replace LV := Lib.hid (LV.out.below hb); replace HB := hstep HB hb; clear hb)
      | (go_at_call 13; (refine Calls.mono (SH.out _) ?_); rintro e w1 ⟨rfl, hb⟩; replace LV := Lib.hid ((LV.out.below (bel_alloc _ _)).below hb); replace HB := hstep (hstep HB (bel_alloc _ _)) hb; clear hb)
      | (go_at_call 31; (refine Calls.mono (cBezout _ _ _ _ _ _ _ _ p _ (HT.out.below HB.out) (LV.out.get (by repeat (first | exact List.Mem.head _ | apply List.Mem.tail))) (LV.out.get (by repeat (first | exact List.Mem.head _ | apply List.Mem.tail))) ip (by omega) (by omega)) ?_); rintro e w1 ⟨C, m, d, C2, m2, d2, C3, m3, d3, rfl, hg, hg2, hg3⟩; have hm := hg.le; have hm2 := hg2.le; have hm3 := hg3.le; replace HB := hstep HB hg.bel; replace LV := Lib.hid (((LV.out.got hg).more hg2.1).more hg3.1); clear hg hg2 hg3)
      | (go_at_call 32; (refine Calls.mono (rBezout _ _ _ _ _ _ _ _ p _ (LV.out.get (by repeat (first | exact List.Mem.head _ | apply List.Mem.tail))) (LV.out.get (by repeat (first | exact List.Mem.head _ | apply List.Mem.tail))) ip (by omega) (by omega)) ?_); rintro e w1 ⟨C, m, d, C2, m2, d2, C3, m3, d3, rfl, hg, hg2, hg3⟩; have hm := hg.le; have hm2 := hg2.le; have hm3 := hg3.le; replace HB := hstep HB hg.bel; replace LV := Lib.hid (((LV.out.got hg).more hg2.1).more hg3.1); clear hg hg2 hg3)
      | (go_at_call 33; (refine Calls.mono (cGcd _ _ _ _ _ _ _ _ p _ (HT.out.below HB.out) (LV.out.get (by repeat (first | exact List.Mem.head _ | apply List.Mem.tail))) (LV.out.get (by repeat (first | exact List.Mem.head _ | apply List.Mem.tail))) ip (by omega) (by omega)) ?_); rintro e w1 ⟨C, m, d, rfl, hg⟩; have hm := hg.le; replace HB := hstep HB hg.bel; replace LV := Lib.hid (LV.out.got hg); clear hg)
      | (go_at_call 22; (refine Calls.mono (same6_true _ _ _ _ _ _ _ _ _ (LV.out.get (by repeat (first | exact List.Mem.head _ | apply List.Mem.tail))) (LV.out.get (by repeat (first | exact List.Mem.head _ | apply List.Mem.tail))) (by first | rfl)) ?_); rintro e w1 ⟨rfl, hb⟩; replace LV := Lib.hid (LV.out.below hb); replace HB := hstep HB hb; clear hb))
    go_ret
    exact ⟨rfl, HB.out⟩
  · have SH := Lib.hid (fun w => lShort2_no 40 40 rfl w Aa na ca Ab nb cb (by omega))
    go_enter Tryd.func5, Tryd.ntmps5
    go_wp2_with (first
      | (go_at_call 12; (refine Calls.mono (awake06 _ (HT.out.below HB.out)) ?_); rintro e w1 ⟨rfl, hb⟩; replace LV := Lib.hid (LV.out.below hb); replace HB := hstep HB hb; clear hb)
      | (go_at_call 13; (refine Calls.mono (SH.out _) ?_); rintro e w1 ⟨rfl, hb⟩; replace LV := Lib.hid ((LV.out.below (bel_alloc _ _)).below hb); replace HB := hstep (hstep HB (bel_alloc _ _)) hb; clear hb))
    go_ret
    exact ⟨rfl, HB.out⟩
end Go.Proofs.YtbipbpakbanacaaDoor

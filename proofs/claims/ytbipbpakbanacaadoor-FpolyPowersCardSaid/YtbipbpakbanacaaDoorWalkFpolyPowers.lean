/- The law FpolyPowers, walked. -/
import Derived.Test.YtbipbpakbanacaaDoorMg8
namespace Go.Proofs.YtbipbpakbanacaaDoor
open Go.RowKit

set_option maxHeartbeats 2000000 in
theorem walkFpolyPowers (Aa : Option Addr) (na ca : Nat) (xa : List Int) (neg : Bool) (E : Option Addr) (k d : Nat) (es : List Nat) (Am : Option Addr) (nm cm : Nat) (xm : List Int) (p : Int) (w : World) (hT : TabAt w) (sa : ISl w Aa na ca xa) (_ : na ≤ 17592186044416) (sE : Sl w E k d es) (sm : ISl w Am nm cm xm) (_ : nm ≤ 17592186044416) (wp : (Lit.int .i64 p).wf = true) :
    Calls Tryd.prog 6 #[.slice Aa na ca, .agg #[.bool neg, .slice E k d], .slice Am nm cm, .int .i64 p] w fun e w' => e = .returned (.bool true) ∧ Below w.heap.size w w' := by
  have ip : In64 p := int_wf wp
  have HB := Lib.hid (Below.refl (w.alloc (.cells #[.bool neg, .slice E k d] 40)).heap.size (w.alloc (.cells #[.bool neg, .slice E k d] 40)))
  have LV : Hid (Liv (w.alloc (.cells #[.bool neg, .slice E k d] 40)) [(Aa, na, ca, xa), (Am, nm, cm, xm)]) := Lib.hid ⟨sa.below (bel_alloc _ _), sm.below (bel_alloc _ _), trivial⟩
  have HE := Lib.hid (sE.below (bel_alloc w (.cells #[.bool neg, .slice E k d] 40)))
  have HT := Lib.hid (hT.below (bel_alloc w (.cells #[.bool neg, .slice E k d] 40)))
  clear sa sE sm wp hT
  by_cases hs : na ≤ 20 ∧ nm ≤ 20
  · obtain ⟨ha, hm⟩ := hs
    have SH := Lib.hid (fun w => lShort2_yes 20 20 rfl w Aa na ca Am nm cm (by omega))
    by_cases hk : k ≤ 4
    · have hk2 : ¬ (4 : Int) < (k : Int) := by omega
      go_enter Tryd.func6, Tryd.ntmps6
      go_wp2_with (first
        | (go_at_call 12; (refine Calls.mono (awake06 _ (HT.out.below HB.out)) ?_); rintro e w1 ⟨rfl, hb⟩; replace LV := Lib.hid (LV.out.below hb); replace HB := hstep HB hb; clear hb; have hc0 := zcell0 HB.out; have hc1 := zcell1 HB.out)
        | (go_at_call 13; (refine Calls.mono (SH.out _) ?_); rintro e w1 ⟨rfl, hb⟩; replace LV := Lib.hid ((LV.out.below (bel_alloc _ _)).below hb); replace HB := hstep (hstep HB (bel_alloc _ _)) hb; clear hb; have hc0 := zcell0 HB.out; have hc1 := zcell1 HB.out)
        | (go_at_call 34; (refine Calls.mono (cPowMod _ _ _ _ _ _ _ _ _ _ _ _ _ p _ (HT.out.below HB.out) (LV.out.get (by repeat (first | exact List.Mem.head _ | apply List.Mem.tail))) (LV.out.get (by repeat (first | exact List.Mem.head _ | apply List.Mem.tail))) (HE.out.below HB.out) ip (by omega) (by omega) (by omega)) ?_); rintro e w1 ⟨C, m, d, rfl, hg⟩; have hm := hg.le; replace HB := hstep HB hg.bel; replace LV := Lib.hid (LV.out.got hg); clear hg; have hc0 := zcell0 HB.out; have hc1 := zcell1 HB.out)
        | (go_at_call 35; (refine Calls.mono (rPowMod _ _ _ _ _ _ _ _ _ _ _ _ _ p _ (LV.out.get (by repeat (first | exact List.Mem.head _ | apply List.Mem.tail))) (LV.out.get (by repeat (first | exact List.Mem.head _ | apply List.Mem.tail))) (HE.out.below HB.out) ip (by omega) (by omega) (by omega)) ?_); rintro e w1 ⟨C, m, d, rfl, hg⟩; have hm := hg.le; replace HB := hstep HB hg.bel; replace LV := Lib.hid (LV.out.got hg); clear hg; have hc0 := zcell0 HB.out; have hc1 := zcell1 HB.out)
        | (go_at_call 22; (refine Calls.mono (same6_true _ _ _ _ _ _ _ _ _ (LV.out.get (by repeat (first | exact List.Mem.head _ | apply List.Mem.tail))) (LV.out.get (by repeat (first | exact List.Mem.head _ | apply List.Mem.tail))) (by first | rfl)) ?_); rintro e w1 ⟨rfl, hb⟩; replace LV := Lib.hid (LV.out.below hb); replace HB := hstep HB hb; clear hb; have hc0 := zcell0 HB.out; have hc1 := zcell1 HB.out))
      go_ret
      exact ⟨rfl, bel_box HB.out⟩
    · have hk2 : (4 : Int) < (k : Int) := by omega
      go_enter Tryd.func6, Tryd.ntmps6
      go_wp2_with (first
        | (go_at_call 12; (refine Calls.mono (awake06 _ (HT.out.below HB.out)) ?_); rintro e w1 ⟨rfl, hb⟩; replace LV := Lib.hid (LV.out.below hb); replace HB := hstep HB hb; clear hb; have hc0 := zcell0 HB.out; have hc1 := zcell1 HB.out)
        | (go_at_call 13; (refine Calls.mono (SH.out _) ?_); rintro e w1 ⟨rfl, hb⟩; replace LV := Lib.hid ((LV.out.below (bel_alloc _ _)).below hb); replace HB := hstep (hstep HB (bel_alloc _ _)) hb; clear hb; have hc0 := zcell0 HB.out; have hc1 := zcell1 HB.out))
      go_ret
      exact ⟨rfl, bel_box HB.out⟩
  · have SH := Lib.hid (fun w => lShort2_no 20 20 rfl w Aa na ca Am nm cm (by omega))
    go_enter Tryd.func6, Tryd.ntmps6
    go_wp2_with (first
      | (go_at_call 12; (refine Calls.mono (awake06 _ (HT.out.below HB.out)) ?_); rintro e w1 ⟨rfl, hb⟩; replace LV := Lib.hid (LV.out.below hb); replace HB := hstep HB hb; clear hb; have hc0 := zcell0 HB.out; have hc1 := zcell1 HB.out)
      | (go_at_call 13; (refine Calls.mono (SH.out _) ?_); rintro e w1 ⟨rfl, hb⟩; replace LV := Lib.hid ((LV.out.below (bel_alloc _ _)).below hb); replace HB := hstep (hstep HB (bel_alloc _ _)) hb; clear hb; have hc0 := zcell0 HB.out; have hc1 := zcell1 HB.out))
    go_ret
    exact ⟨rfl, bel_box HB.out⟩
end Go.Proofs.YtbipbpakbanacaaDoor

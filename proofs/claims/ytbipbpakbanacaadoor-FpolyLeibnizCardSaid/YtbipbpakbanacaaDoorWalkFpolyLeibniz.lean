/- The law FpolyLeibniz, walked. -/
import Derived.Test.YtbipbpakbanacaaDoorMg8
namespace Go.Proofs.YtbipbpakbanacaaDoor
open Go.RowKit

set_option maxRecDepth 100000 in
set_option maxHeartbeats 4000000 in
theorem walkFpolyLeibniz (Aa : Option Addr) (na ca : Nat) (xa : List Int) (Ab : Option Addr) (nb cb : Nat) (xb : List Int) (x : Int) (p : Int) (w : World) (hT : TabAt w) (sa : ISl w Aa na ca xa) (_ : na ≤ 17592186044416) (sb : ISl w Ab nb cb xb) (_ : nb ≤ 17592186044416) (_ : (Lit.int .i64 x).wf = true) (wp : (Lit.int .i64 p).wf = true) :
    Calls Tryd.prog 10 #[.slice Aa na ca, .slice Ab nb cb, .int .i64 x, .int .i64 p] w fun e w' => e = .returned (.bool true) ∧ Below w.heap.size w w' := by
  have ip : In64 p := int_wf wp
  have HB := Lib.hid (Below.refl w.heap.size w)
  have HT := Lib.hid hT
  clear hT
  have LV : Hid (Liv w [(Aa, na, ca, xa), (Ab, nb, cb, xb)]) := Lib.hid ⟨sa, sb, trivial⟩
  have Sa := Lib.hid sa
  have Sb := Lib.hid sb
  clear sa sb
  by_cases hs : na ≤ 50 ∧ nb ≤ 50
  · obtain ⟨ha, hb⟩ := hs
    have SH := Lib.hid (fun w => lShort2_yes 50 50 rfl w Aa na ca Ab nb cb (by omega))
    rcases Classical.em (Pr p) with hp | hp
    · have PR := Lib.hid hp
      have CK : Hid (∀ W : World, TabAt W → Calls Tryd.prog 36 #[.int .i64 p] W fun e w' => e = .returned (.int .i64 0) ∧ Below W.heap.size W w') := Lib.hid (fun W hT => by
        have := cfCheck p ip W hT
        rwa [chk_yes (primB_yes hp)] at this)
      have E1 := Lib.hid (eq_leibniz hp (fini_cf p xa) (fini_cf p xb))
      have E2 := ev_of_sum hp x xa xb
      have E3 := ev_of_mul hp x xa xb
      have AD := Lib.hid (fun W hT => cfAdd_ok (evP' x p xa) (evP' x p xb) p ip hp W hT)
      have ML := Lib.hid (fun W hT => cfMul_ok (evP' x p xa) (evP' x p xb) p ip hp W hT)
      rw [← E2] at AD
      rw [← E3] at ML
      clear E2 E3 hp
      go_enter Tryd.func10, Tryd.ntmps10
      go_wp2_with (first
        | (go_at_call 12; (refine Calls.mono (awake06 _ (HT.out.below HB.out)) ?_); rintro e w1 ⟨rfl, hb⟩; replace LV := Lib.hid (LV.out.below hb); replace HB := hstep HB hb; clear hb)
        | (go_at_call 13; (refine Calls.mono (SH.out _) ?_); rintro e w1 ⟨rfl, hb⟩; replace LV := Lib.hid ((LV.out.below (bel_alloc _ _)).below hb); replace HB := hstep (hstep HB (bel_alloc _ _)) hb; clear hb)
        | (go_at_call 36; (refine Calls.mono (CK.out _ (HT.out.below HB.out)) ?_); rintro e w1 ⟨rfl, hb⟩; replace LV := Lib.hid (LV.out.below hb); replace HB := hstep HB hb; clear hb)
        | (go_at_call 27; (refine Calls.mono (cDeriv_ok _ _ _ _ p _ (HT.out.below HB.out) (LV.out.get (by repeat (first | exact List.Mem.head _ | apply List.Mem.tail))) ip PR.out (by omega)) ?_); rintro e w1 ⟨C, m, d, rfl, hg⟩; have hm := hg.le; replace HB := hstep HB hg.bel; replace LV := Lib.hid (LV.out.got hg); clear hg)
        | (go_at_call 29; (refine Calls.mono (cEval_ok _ _ _ _ _ p _ (HT.out.below HB.out) (LV.out.get (by repeat (first | exact List.Mem.head _ | apply List.Mem.tail))) ip PR.out (by omega)) ?_); rintro e w1 ⟨rfl, hb⟩; replace LV := Lib.hid (LV.out.below hb); replace HB := hstep HB hb; clear hb)
        | (go_at_call 39; (refine Calls.mono (AD.out _ (HT.out.below HB.out)) ?_); rintro e w1 ⟨rfl, hb⟩; replace LV := Lib.hid (LV.out.below hb); replace HB := hstep HB hb; clear hb)
        | (go_at_call 40; (refine Calls.mono (ML.out _ (HT.out.below HB.out)) ?_); rintro e w1 ⟨rfl, hb⟩; replace LV := Lib.hid (LV.out.below hb); replace HB := hstep HB hb; clear hb)
        | (go_at_call 38; (refine Calls.mono (lSum _ _ _ _ _ _ _ _ p _ (HT.out.below HB.out) (LV.out.get (by repeat (first | exact List.Mem.head _ | apply List.Mem.tail))) (LV.out.get (by repeat (first | exact List.Mem.head _ | apply List.Mem.tail))) ip (by omega) (by omega)) ?_); rintro e w1 ⟨C, m, d, rfl, hg⟩; have hm := hg.le; replace HB := hstep HB hg.bel; replace LV := Lib.hid (LV.out.got hg); clear hg)
        | (go_at_call 37; (refine Calls.mono (lTimes _ _ _ _ _ _ _ _ p _ (HT.out.below HB.out) (LV.out.get (by repeat (first | exact List.Mem.head _ | apply List.Mem.tail))) (LV.out.get (by repeat (first | exact List.Mem.head _ | apply List.Mem.tail))) ip (by omega) (by omega)) ?_); rintro e w1 ⟨C, m, d, rfl, hg⟩; have hm := hg.le; replace HB := hstep HB hg.bel; replace LV := Lib.hid (LV.out.got hg); clear hg)
        | (go_at_call 22; (refine Calls.mono (same6_true _ _ _ _ _ _ _ _ _ (LV.out.get (by repeat (first | exact List.Mem.head _ | apply List.Mem.tail))) (LV.out.get (by repeat (first | exact List.Mem.head _ | apply List.Mem.tail))) (by first | rfl | exact E1.out)) ?_); rintro e w1 ⟨rfl, hb⟩; replace LV := Lib.hid (LV.out.below hb); replace HB := hstep HB hb; clear hb))
      go_ret
      exact ⟨rfl, HB.out⟩
    · have CK : Hid (∀ W : World, TabAt W → Calls Tryd.prog 36 #[.int .i64 p] W fun e w' => e = .returned (.int .i64 1) ∧ Below W.heap.size W w') := Lib.hid (fun W hT => by
        have := cfCheck p ip W hT
        rwa [chk_no (primB_no hp)] at this)
      go_enter Tryd.func10, Tryd.ntmps10
      go_wp2_with (first
        | (go_at_call 12; (refine Calls.mono (awake06 _ (HT.out.below HB.out)) ?_); rintro e w1 ⟨rfl, hb⟩; replace LV := Lib.hid (LV.out.below hb); replace HB := hstep HB hb; clear hb)
        | (go_at_call 13; (refine Calls.mono (SH.out _) ?_); rintro e w1 ⟨rfl, hb⟩; replace LV := Lib.hid ((LV.out.below (bel_alloc _ _)).below hb); replace HB := hstep (hstep HB (bel_alloc _ _)) hb; clear hb)
        | (go_at_call 36; (refine Calls.mono (CK.out _ (HT.out.below HB.out)) ?_); rintro e w1 ⟨rfl, hb⟩; replace LV := Lib.hid (LV.out.below hb); replace HB := hstep HB hb; clear hb))
      go_ret
      exact ⟨rfl, HB.out⟩
  · have SH := Lib.hid (fun w => lShort2_no 50 50 rfl w Aa na ca Ab nb cb (by omega))
    go_enter Tryd.func10, Tryd.ntmps10
    go_wp2_with (first
      | (go_at_call 12; (refine Calls.mono (awake06 _ (HT.out.below HB.out)) ?_); rintro e w1 ⟨rfl, hb⟩; replace LV := Lib.hid (LV.out.below hb); replace HB := hstep HB hb; clear hb)
      | (go_at_call 13; (refine Calls.mono (SH.out _) ?_); rintro e w1 ⟨rfl, hb⟩; replace LV := Lib.hid ((LV.out.below (bel_alloc _ _)).below hb); replace HB := hstep (hstep HB (bel_alloc _ _)) hb; clear hb))
    go_ret
    exact ⟨rfl, HB.out⟩
end Go.Proofs.YtbipbpakbanacaaDoor

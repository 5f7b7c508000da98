/- The law FpolyDivisor, walked. -/
import Derived.Test.YtbipbpakbanacaaDoorMg8
import Derived.Test.YtbipbpakbanacaaDoorPolLawE
namespace Go.Proofs.YtbipbpakbanacaaDoor
open Go.RowKit

set_option maxRecDepth 100000 in
set_option maxHeartbeats 4000000 in
theorem walkFpolyDivisor (Aa : Option Addr) (na ca : Nat) (xa : List Int) (Ab : Option Addr) (nb cb : Nat) (xb : List Int) (Ac : Option Addr) (nc cc : Nat) (xc : List Int) (p : Int) (w : World) (hT : TabAt w) (sa : ISl w Aa na ca xa) (_ : na ≤ 17592186044416) (sb : ISl w Ab nb cb xb) (_ : nb ≤ 17592186044416) (sc : ISl w Ac nc cc xc) (_ : nc ≤ 17592186044416) (wp : (Lit.int .i64 p).wf = true) :
    Calls Tryd.prog 9 #[.slice Aa na ca, .slice Ab nb cb, .slice Ac nc cc, .int .i64 p] w fun e w' => e = .returned (.bool true) ∧ Below w.heap.size w w' := by
  have ip : In64 p := int_wf wp
  have HB := Lib.hid (Below.refl w.heap.size w)
  have HT := Lib.hid hT
  clear hT
  have LV : Hid (Liv w [(Aa, na, ca, xa), (Ab, nb, cb, xb), (Ac, nc, cc, xc)]) := Lib.hid ⟨sa, sb, sc, trivial⟩
  have Sa := Lib.hid sa
  have Sb := Lib.hid sb
  have Sc := Lib.hid sc
  clear sa sb sc
  by_cases hs : na ≤ 20 ∧ nb ≤ 20 ∧ nc ≤ 20
  · obtain ⟨ha, hb, hc⟩ := hs
    have SH := Lib.hid (fun w => lShort3_yes 20 20 rfl w Aa na ca Ab nb cb Ac nc cc (by omega))
    rcases Classical.em (Pr p) with hp | hp
    · have PR := Lib.hid hp
      have CK : Hid (∀ W : World, TabAt W → Calls Tryd.prog 36 #[.int .i64 p] W fun e w' => e = .returned (.int .i64 0) ∧ Below W.heap.size W w') := Lib.hid (fun W hT => by
        have := cfCheck p ip W hT
        rwa [chk_yes (primB_yes hp)] at this)
      have E1 := Lib.hid (bez_made hp (fini_cf p xa) (fini_cf p xb))
      have E2 := Lib.hid (bez_more hp (fini_cf p xa) (fini_cf p xb) (fini_cf p xc))
      obtain ⟨lg, hlg⟩ : ∃ l, (bezG p (cf xa) (cf xb)).length = l := ⟨_, rfl⟩
      have BZ := Lib.hid (fun W (hb : Below w.heap.size w W) => cBezout_fix Aa Ab na ca nb cb xa xb p W (HT.out.below hb) lg (Sa.out.below hb) (Sb.out.below hb) ip PR.out (by omega) (by omega) hlg)
      by_cases hg0 : lg = 0
      · subst hg0
        have hz := bez_zero hp (fini_cf p xa) (fini_cf p xb) (List.eq_nil_of_length_eq_zero hlg)
        have NA := Lib.hid (fun W (hb : Below w.heap.size w W) => cNorm_fix Aa na ca xa p W (HT.out.below hb) 0 (Sa.out.below hb) ip (by omega) (by rw [hz.1]; rfl))
        have NB := Lib.hid (fun W (hb : Below w.heap.size w W) => cNorm_fix Ab nb cb xb p W (HT.out.below hb) 0 (Sb.out.below hb) ip (by omega) (by rw [hz.2]; rfl))
        clear hz hlg hp
        go_enter Tryd.func9, Tryd.ntmps9
        go_wp2_with (first
          | (go_at_call 12; (refine Calls.mono (awake06 _ (HT.out.below HB.out)) ?_); rintro e w1 ⟨rfl, hb⟩; replace LV := Lib.hid (LV.out.below hb); replace HB := hstep HB hb; clear hb)
          | (go_at_call 13; (refine Calls.mono (SH.out _) ?_); rintro e w1 ⟨rfl, hb⟩; replace LV := Lib.hid ((LV.out.below (bel_alloc _ _)).below hb); replace HB := hstep (hstep HB (bel_alloc _ _)) hb; clear hb)
          | (go_at_call 36; (refine Calls.mono (CK.out _ (HT.out.below HB.out)) ?_); rintro e w1 ⟨rfl, hb⟩; replace LV := Lib.hid (LV.out.below hb); replace HB := hstep HB hb; clear hb)
          | (go_at_call 33; (refine Calls.mono (cGcd_ok _ _ _ _ _ _ _ _ p _ (HT.out.below HB.out) (LV.out.get (by repeat (first | exact List.Mem.head _ | apply List.Mem.tail))) (LV.out.get (by repeat (first | exact List.Mem.head _ | apply List.Mem.tail))) ip PR.out (by omega) (by omega)) ?_); rintro e w1 ⟨C, m, d, rfl, hg⟩; have hm := hg.le; replace HB := hstep HB hg.bel; replace LV := Lib.hid (LV.out.got hg); clear hg)
          | (go_at_call 25; (refine Calls.mono (cMonic_ok _ _ _ _ p _ (HT.out.below HB.out) (LV.out.get (by repeat (first | exact List.Mem.head _ | apply List.Mem.tail))) ip PR.out (by omega)) ?_); rintro e w1 ⟨C, m, d, rfl, hg⟩; have hm := hg.le; replace HB := hstep HB hg.bel; replace LV := Lib.hid (LV.out.got hg); clear hg)
          | (go_at_call 38; (refine Calls.mono (lSum _ _ _ _ _ _ _ _ p _ (HT.out.below HB.out) (LV.out.get (by repeat (first | exact List.Mem.head _ | apply List.Mem.tail))) (LV.out.get (by repeat (first | exact List.Mem.head _ | apply List.Mem.tail))) ip (by omega) (by omega)) ?_); rintro e w1 ⟨C, m, d, rfl, hg⟩; have hm := hg.le; replace HB := hstep HB hg.bel; replace LV := Lib.hid (LV.out.got hg); clear hg)
          | (go_at_call 37; (refine Calls.mono (lTimes _ _ _ _ _ _ _ _ p _ (HT.out.below HB.out) (LV.out.get (by repeat (first | exact List.Mem.head _ | apply List.Mem.tail))) (LV.out.get (by repeat (first | exact List.Mem.head _ | apply List.Mem.tail))) ip (by omega) (by omega)) ?_); rintro e w1 ⟨C, m, d, rfl, hg⟩; have hm := hg.le; replace HB := hstep HB hg.bel; replace LV := Lib.hid (LV.out.got hg); clear hg)
          | (go_at_call 31; (with_reducible refine Calls.mono (BZ.out _ HB.out) ?_); rintro e w1 ⟨C, d, C2, m2, d2, C3, m3, d3, rfl, hg, hg2, hg3⟩; have hm := hg.le; have hm2 := hg2.le; have hm3 := hg3.le; replace HB := hstep HB hg.bel; replace LV := Lib.hid (((LV.out.got hg).more hg2.1).more hg3.1); clear hg hg2 hg3)
          | (go_at_call 20; (with_reducible refine Calls.mono (NA.out _ HB.out) ?_); rintro e w1 ⟨C, d, rfl, hg⟩; have hm := hg.le; replace HB := hstep HB hg.bel; replace LV := Lib.hid (LV.out.got hg); clear hg)
          | (go_at_call 20; (with_reducible refine Calls.mono (NB.out _ HB.out) ?_); rintro e w1 ⟨C, d, rfl, hg⟩; have hm := hg.le; replace HB := hstep HB hg.bel; replace LV := Lib.hid (LV.out.got hg); clear hg)
          | (go_at_call 22; (refine Calls.mono (same6_true _ _ _ _ _ _ _ _ _ (LV.out.get (by repeat (first | exact List.Mem.head _ | apply List.Mem.tail))) (LV.out.get (by repeat (first | exact List.Mem.head _ | apply List.Mem.tail))) (by first | rfl | exact E1.out | exact E2.out)) ?_); rintro e w1 ⟨rfl, hb⟩; replace LV := Lib.hid (LV.out.below hb); replace HB := hstep HB hb; clear hb))
        go_ret
        exact ⟨rfl, HB.out⟩
      · have hbs := bez_some hp (fini_cf p xa) (fini_cf p xb) (fun e => hg0 (by rw [← hlg, e]; rfl))
        rw [hlg] at hbs
        have H1 := Lib.hid hbs.1
        have HN0 := Lib.hid hbs.2.1.some
        have EA := Lib.hid hbs.2.2.1
        have EB := Lib.hid hbs.2.2.2
        have hlp : 0 < lg := by omega
        clear hbs hlg hp
        go_enter Tryd.func9, Tryd.ntmps9
        go_wp2_with (first
          | (go_at_call 12; (refine Calls.mono (awake06 _ (HT.out.below HB.out)) ?_); rintro e w1 ⟨rfl, hb⟩; replace LV := Lib.hid (LV.out.below hb); replace HB := hstep HB hb; clear hb)
          | (go_at_call 13; (refine Calls.mono (SH.out _) ?_); rintro e w1 ⟨rfl, hb⟩; replace LV := Lib.hid ((LV.out.below (bel_alloc _ _)).below hb); replace HB := hstep (hstep HB (bel_alloc _ _)) hb; clear hb)
          | (go_at_call 36; (refine Calls.mono (CK.out _ (HT.out.below HB.out)) ?_); rintro e w1 ⟨rfl, hb⟩; replace LV := Lib.hid (LV.out.below hb); replace HB := hstep HB hb; clear hb)
          | (go_at_call 33; (refine Calls.mono (cGcd_ok _ _ _ _ _ _ _ _ p _ (HT.out.below HB.out) (LV.out.get (by repeat (first | exact List.Mem.head _ | apply List.Mem.tail))) (LV.out.get (by repeat (first | exact List.Mem.head _ | apply List.Mem.tail))) ip PR.out (by omega) (by omega)) ?_); rintro e w1 ⟨C, m, d, rfl, hg⟩; have hm := hg.le; replace HB := hstep HB hg.bel; replace LV := Lib.hid (LV.out.got hg); clear hg)
          | (go_at_call 25; (refine Calls.mono (cMonic_ok _ _ _ _ p _ (HT.out.below HB.out) (LV.out.get (by repeat (first | exact List.Mem.head _ | apply List.Mem.tail))) ip PR.out (by omega)) ?_); rintro e w1 ⟨C, m, d, rfl, hg⟩; have hm := hg.le; replace HB := hstep HB hg.bel; replace LV := Lib.hid (LV.out.got hg); clear hg)
          | (go_at_call 38; (refine Calls.mono (lSum _ _ _ _ _ _ _ _ p _ (HT.out.below HB.out) (LV.out.get (by repeat (first | exact List.Mem.head _ | apply List.Mem.tail))) (LV.out.get (by repeat (first | exact List.Mem.head _ | apply List.Mem.tail))) ip (by omega) (by omega)) ?_); rintro e w1 ⟨C, m, d, rfl, hg⟩; have hm := hg.le; replace HB := hstep HB hg.bel; replace LV := Lib.hid (LV.out.got hg); clear hg)
          | (go_at_call 37; (refine Calls.mono (lTimes _ _ _ _ _ _ _ _ p _ (HT.out.below HB.out) (LV.out.get (by repeat (first | exact List.Mem.head _ | apply List.Mem.tail))) (LV.out.get (by repeat (first | exact List.Mem.head _ | apply List.Mem.tail))) ip (by omega) (by omega)) ?_); rintro e w1 ⟨C, m, d, rfl, hg⟩; have hm := hg.le; replace HB := hstep HB hg.bel; replace LV := Lib.hid (LV.out.got hg); clear hg)
          | (go_at_call 31; (with_reducible refine Calls.mono (BZ.out _ HB.out) ?_); rintro e w1 ⟨C1, dg, C2, m2, d2, C3, m3, d3, rfl, hg, hg2, hg3⟩; obtain ⟨bg, og, rfl, hbg, hcg⟩ := hg.1.cf_ (by omega); clear hbg hcg; have hm := hg.le; have hm2 := hg2.le; have hm3 := hg3.le; replace HB := hstep HB hg.bel; replace LV := Lib.hid (((LV.out.got hg).more hg2.1).more hg3.1); clear hg hg2 hg3)
          | (go_at_call 23; (refine Calls.mono (cDiv_ok _ _ _ _ _ _ _ _ p _ (HT.out.below HB.out) (LV.out.get (by repeat (first | exact List.Mem.head _ | apply List.Mem.tail))) (LV.out.get (by repeat (first | exact List.Mem.head _ | apply List.Mem.tail))) ip PR.out HN0.out (by omega) (by omega)) ?_); rintro e w1 ⟨C, m, d, C2, m2, d2, rfl, hg, hg2⟩; obtain rfl : m2 = 0 := (by have := hg2.len; first | (rw [EA.out] at this; exact this) | (rw [EB.out] at this; exact this)); have hm := hg.le; have hm2 := hg2.le; replace HB := hstep HB hg.bel; replace LV := Lib.hid ((LV.out.got hg).more hg2.1); clear hg hg2; have hcell := (LV.out.get (A := some ⟨bg, og, none⟩) (n := lg) (c := dg) (by repeat (first | exact List.Mem.head _ | apply List.Mem.tail))).cell_ (lg - 1) (by omega); rw [H1.out] at hcell)
          | (go_at_call 22; (refine Calls.mono (same6_true _ _ _ _ _ _ _ _ _ (LV.out.get (by repeat (first | exact List.Mem.head _ | apply List.Mem.tail))) (LV.out.get (by repeat (first | exact List.Mem.head _ | apply List.Mem.tail))) (by first | rfl | exact E1.out | exact E2.out)) ?_); rintro e w1 ⟨rfl, hb⟩; replace LV := Lib.hid (LV.out.below hb); replace HB := hstep HB hb; clear hb))
        go_ret
        exact ⟨rfl, HB.out⟩
    · have CK : Hid (∀ W : World, TabAt W → Calls Tryd.prog 36 #[.int .i64 p] W fun e w' => e = .returned (.int .i64 1) ∧ Below W.heap.size W w') := Lib.hid (fun W hT => by
        have := cfCheck p ip W hT
        rwa [chk_no (primB_no hp)] at this)
      go_enter Tryd.func9, Tryd.ntmps9
      go_wp2_with (first
        | (go_at_call 12; (refine Calls.mono (awake06 _ (HT.out.below HB.out)) ?_); rintro e w1 ⟨rfl, hb⟩; replace LV := Lib.hid (LV.out.below hb); replace HB := hstep HB hb; clear hb)
        | (go_at_call 13; (refine Calls.mono (SH.out _) ?_); rintro e w1 ⟨rfl, hb⟩; replace LV := Lib.hid ((LV.out.below (bel_alloc _ _)).below hb); replace HB := hstep (hstep HB (bel_alloc _ _)) hb; clear hb)
        | (go_at_call 36; (refine Calls.mono (CK.out _ (HT.out.below HB.out)) ?_); rintro e w1 ⟨rfl, hb⟩; replace LV := Lib.hid (LV.out.below hb); replace HB := hstep HB hb; clear hb))
      go_ret
      exact ⟨rfl, HB.out⟩
  · have SH := Lib.hid (fun w => lShort3_no 20 20 rfl w Aa na ca Ab nb cb Ac nc cc (by omega))
    go_enter Tryd.func9, Tryd.ntmps9
    go_wp2_with (first
      | (go_at_call 12; (refine Calls.mono (awake06 _ (HT.out.below HB.out)) ?_); rintro e w1 ⟨rfl, hb⟩; replace LV := Lib.hid (LV.out.below hb); replace HB := hstep HB hb; clear hb)
      | (go_at_call 13; (refine Calls.mono (SH.out _) ?_); rintro e w1 ⟨rfl, hb⟩; replace LV := Lib.hid ((LV.out.below (bel_alloc _ _)).below hb); replace HB := hstep (hstep HB (bel_alloc _ _)) hb; clear hb))
    go_ret
    exact ⟨rfl, HB.out⟩
end Go.Proofs.YtbipbpakbanacaaDoor

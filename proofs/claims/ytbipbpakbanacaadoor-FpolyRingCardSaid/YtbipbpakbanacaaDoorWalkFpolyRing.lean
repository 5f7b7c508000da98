/- The law FpolyRing, walked. -/
import Derived.Test.YtbipbpakbanacaaDoorMg8
namespace Go.Proofs.YtbipbpakbanacaaDoor
open Go.RowKit

set_option maxRecDepth 100000 in
set_option maxHeartbeats 4000000 in
theorem walkFpolyRing (Aa : Option Addr) (na ca : Nat) (xa : List Int) (Ab : Option Addr) (nb cb : Nat) (xb : List Int) (Ac : Option Addr) (nc cc : Nat) (xc : List Int) (p : Int) (w : World) (hT : TabAt w) (sa : ISl w Aa na ca xa) (_ : na ≤ 17592186044416) (sb : ISl w Ab nb cb xb) (_ : nb ≤ 17592186044416) (sc : ISl w Ac nc cc xc) (_ : nc ≤ 17592186044416) (wp : (Lit.int .i64 p).wf = true) :
    Calls Tryd.prog 7 #[.slice Aa na ca, .slice Ab nb cb, .slice Ac nc cc, .int .i64 p] w fun e w' => e = .returned (.bool true) ∧ Below w.heap.size w w' := by
  have ip : In64 p := int_wf wp
  have HB := Lib.hid (Below.refl w.heap.size w)
  have HT := Lib.hid hT
  clear hT
  have LV : Hid (Liv w [(Aa, na, ca, xa), (Ab, nb, cb, xb), (Ac, nc, cc, xc)]) := Lib.hid ⟨sa, sb, sc, trivial⟩
  have Sa := Lib.hid sa
  have Sb := Lib.hid sb
  have Sc := Lib.hid sc
  clear sa sb sc
  by_cases hs : na ≤ 40 ∧ nb ≤ 40 ∧ nc ≤ 40
  · obtain ⟨ha, hb, hc⟩ := hs
    have SH := Lib.hid (fun w => lShort3_yes 40 40 rfl w Aa na ca Ab nb cb Ac nc cc (by omega))
    rcases Classical.em (Pr p) with hp | hp
    · have PR := Lib.hid hp
      have CK : Hid (∀ W : World, TabAt W → Calls Tryd.prog 36 #[.int .i64 p] W fun e w' => e = .returned (.int .i64 0) ∧ Below W.heap.size W w') := Lib.hid (fun W hT => by
        have := cfCheck p ip W hT
        rwa [chk_yes (primB_yes hp)] at this)
      have E1 := Lib.hid (eq_swap p (cf xa) (cf xb))
      have E2 := Lib.hid (eq_turn p (cf xa) (cf xb))
      have E3 := Lib.hid (eq_assoc hp (fini_cf p xa) (fini_cf p xb) (fini_cf p xc))
      have E4 := Lib.hid (eq_massoc hp (fini_cf p xa) (fini_cf p xb) (fini_cf p xc))
      have E5 := Lib.hid (eq_distr hp (fini_cf p xa) (fini_cf p xb) (fini_cf p xc))
      have E6 := Lib.hid (eq_back hp (fini_cf p xa) (fini_cf p xb))
      have hlen := len_mul hp (fini_cf p xa) (fini_cf p xb)
      obtain ⟨lx, hlx⟩ : ∃ l, (polL p (cf xa)).length = l := ⟨_, rfl⟩
      obtain ⟨ly, hly⟩ : ∃ l, (polL p (cf xb)).length = l := ⟨_, rfl⟩
      obtain ⟨lz, hlz⟩ : ∃ l, (polL p (Ser.mul (cf xa) (cf xb))).length = l := ⟨_, rfl⟩
      rw [hlx, hly, hlz] at hlen
      have NA := Lib.hid (fun W (hb : Below w.heap.size w W) => cNorm_fix Aa na ca xa p W (HT.out.below hb) lx (Sa.out.below hb) ip (by omega) hlx)
      have NB := Lib.hid (fun W (hb : Below w.heap.size w W) => cNorm_fix Ab nb cb xb p W (HT.out.below hb) ly (Sb.out.below hb) ip (by omega) hly)
      have TT := Lib.hid (fun W (hb : Below w.heap.size w W) => lTimes_fix Aa Ab na ca nb cb xa xb p W (HT.out.below hb) lz (Sa.out.below hb) (Sb.out.below hb) ip (by omega) (by omega) hlz)
      clear hlx hly hlz hp
      rcases hlen with ⟨rfl, rfl⟩ | ⟨h1, rfl, rfl⟩ | ⟨h1, h2, h3⟩
      · skip
        go_enter Tryd.func7, Tryd.ntmps7
        go_wp2_with (first
          | (go_at_call 12; (refine Calls.mono (awake06 _ (HT.out.below HB.out)) ?_); rintro e w1 ⟨rfl, hb⟩; replace LV := Lib.hid (LV.out.below hb); replace HB := hstep HB hb; clear hb)
          | (go_at_call 13; (refine Calls.mono (SH.out _) ?_); rintro e w1 ⟨rfl, hb⟩; replace LV := Lib.hid ((LV.out.below (bel_alloc _ _)).below hb); replace HB := hstep (hstep HB (bel_alloc _ _)) hb; clear hb)
          | (go_at_call 36; (refine Calls.mono (CK.out _ (HT.out.below HB.out)) ?_); rintro e w1 ⟨rfl, hb⟩; replace LV := Lib.hid (LV.out.below hb); replace HB := hstep HB hb; clear hb)
          | (go_at_call 20; (with_reducible refine Calls.mono (NA.out _ HB.out) ?_); rintro e w1 ⟨C, d, rfl, hg⟩; have hm := hg.le; replace HB := hstep HB hg.bel; replace LV := Lib.hid (LV.out.got hg); clear hg)
          | (go_at_call 20; (with_reducible refine Calls.mono (NB.out _ HB.out) ?_); rintro e w1 ⟨C, d, rfl, hg⟩; have hm := hg.le; replace HB := hstep HB hg.bel; replace LV := Lib.hid (LV.out.got hg); clear hg)
          | (go_at_call 37; (with_reducible refine Calls.mono (TT.out _ HB.out) ?_); rintro e w1 ⟨C, d, rfl, hg⟩; have hm := hg.le; replace HB := hstep HB hg.bel; replace LV := Lib.hid (LV.out.got hg); clear hg)
          | (go_at_call 16; (refine Calls.mono (cSub _ _ _ _ _ _ _ _ p _ (HT.out.below HB.out) (LV.out.get (by repeat (first | exact List.Mem.head _ | apply List.Mem.tail))) (LV.out.get (by repeat (first | exact List.Mem.head _ | apply List.Mem.tail))) ip (by omega) (by omega)) ?_); rintro e w1 ⟨C, m, d, rfl, hg⟩; have hm := hg.le; replace HB := hstep HB hg.bel; replace LV := Lib.hid (LV.out.got hg); clear hg)
          | (go_at_call 38; (refine Calls.mono (lSum _ _ _ _ _ _ _ _ p _ (HT.out.below HB.out) (LV.out.get (by repeat (first | exact List.Mem.head _ | apply List.Mem.tail))) (LV.out.get (by repeat (first | exact List.Mem.head _ | apply List.Mem.tail))) ip (by omega) (by omega)) ?_); rintro e w1 ⟨C, m, d, rfl, hg⟩; have hm := hg.le; replace HB := hstep HB hg.bel; replace LV := Lib.hid (LV.out.got hg); clear hg)
          | (go_at_call 37; (refine Calls.mono (lTimes _ _ _ _ _ _ _ _ p _ (HT.out.below HB.out) (LV.out.get (by repeat (first | exact List.Mem.head _ | apply List.Mem.tail))) (LV.out.get (by repeat (first | exact List.Mem.head _ | apply List.Mem.tail))) ip (by omega) (by omega)) ?_); rintro e w1 ⟨C, m, d, rfl, hg⟩; have hm := hg.le; replace HB := hstep HB hg.bel; replace LV := Lib.hid (LV.out.got hg); clear hg)
          | (go_at_call 22; (refine Calls.mono (same6_true _ _ _ _ _ _ _ _ _ (LV.out.get (by repeat (first | exact List.Mem.head _ | apply List.Mem.tail))) (LV.out.get (by repeat (first | exact List.Mem.head _ | apply List.Mem.tail))) (by first | rfl | exact E1.out | exact E2.out | exact E3.out | exact E4.out | exact E5.out | exact E6.out)) ?_); rintro e w1 ⟨rfl, hb⟩; replace LV := Lib.hid (LV.out.below hb); replace HB := hstep HB hb; clear hb))
        go_ret
        exact ⟨rfl, HB.out⟩
      · skip
        go_enter Tryd.func7, Tryd.ntmps7
        go_wp2_with (first
          | (go_at_call 12; (refine Calls.mono (awake06 _ (HT.out.below HB.out)) ?_); rintro e w1 ⟨rfl, hb⟩; replace LV := Lib.hid (LV.out.below hb); replace HB := hstep HB hb; clear hb)
          | (go_at_call 13; (refine Calls.mono (SH.out _) ?_); rintro e w1 ⟨rfl, hb⟩; replace LV := Lib.hid ((LV.out.below (bel_alloc _ _)).below hb); replace HB := hstep (hstep HB (bel_alloc _ _)) hb; clear hb)
          | (go_at_call 36; (refine Calls.mono (CK.out _ (HT.out.below HB.out)) ?_); rintro e w1 ⟨rfl, hb⟩; replace LV := Lib.hid (LV.out.below hb); replace HB := hstep HB hb; clear hb)
          | (go_at_call 20; (with_reducible refine Calls.mono (NA.out _ HB.out) ?_); rintro e w1 ⟨C, d, rfl, hg⟩; have hm := hg.le; replace HB := hstep HB hg.bel; replace LV := Lib.hid (LV.out.got hg); clear hg)
          | (go_at_call 20; (with_reducible refine Calls.mono (NB.out _ HB.out) ?_); rintro e w1 ⟨C, d, rfl, hg⟩; have hm := hg.le; replace HB := hstep HB hg.bel; replace LV := Lib.hid (LV.out.got hg); clear hg)
          | (go_at_call 37; (with_reducible refine Calls.mono (TT.out _ HB.out) ?_); rintro e w1 ⟨C, d, rfl, hg⟩; have hm := hg.le; replace HB := hstep HB hg.bel; replace LV := Lib.hid (LV.out.got hg); clear hg)
          | (go_at_call 16; (refine Calls.mono (cSub _ _ _ _ _ _ _ _ p _ (HT.out.below HB.out) (LV.out.get (by repeat (first | exact List.Mem.head _ | apply List.Mem.tail))) (LV.out.get (by repeat (first | exact List.Mem.head _ | apply List.Mem.tail))) ip (by omega) (by omega)) ?_); rintro e w1 ⟨C, m, d, rfl, hg⟩; have hm := hg.le; replace HB := hstep HB hg.bel; replace LV := Lib.hid (LV.out.got hg); clear hg)
          | (go_at_call 38; (refine Calls.mono (lSum _ _ _ _ _ _ _ _ p _ (HT.out.below HB.out) (LV.out.get (by repeat (first | exact List.Mem.head _ | apply List.Mem.tail))) (LV.out.get (by repeat (first | exact List.Mem.head _ | apply List.Mem.tail))) ip (by omega) (by omega)) ?_); rintro e w1 ⟨C, m, d, rfl, hg⟩; have hm := hg.le; replace HB := hstep HB hg.bel; replace LV := Lib.hid (LV.out.got hg); clear hg)
          | (go_at_call 37; (refine Calls.mono (lTimes _ _ _ _ _ _ _ _ p _ (HT.out.below HB.out) (LV.out.get (by repeat (first | exact List.Mem.head _ | apply List.Mem.tail))) (LV.out.get (by repeat (first | exact List.Mem.head _ | apply List.Mem.tail))) ip (by omega) (by omega)) ?_); rintro e w1 ⟨C, m, d, rfl, hg⟩; have hm := hg.le; replace HB := hstep HB hg.bel; replace LV := Lib.hid (LV.out.got hg); clear hg)
          | (go_at_call 22; (refine Calls.mono (same6_true _ _ _ _ _ _ _ _ _ (LV.out.get (by repeat (first | exact List.Mem.head _ | apply List.Mem.tail))) (LV.out.get (by repeat (first | exact List.Mem.head _ | apply List.Mem.tail))) (by first | rfl | exact E1.out | exact E2.out | exact E3.out | exact E4.out | exact E5.out | exact E6.out)) ?_); rintro e w1 ⟨rfl, hb⟩; replace LV := Lib.hid (LV.out.below hb); replace HB := hstep HB hb; clear hb))
        go_ret
        exact ⟨rfl, HB.out⟩
      · have h4 : lz ≠ 0 := by omega
        have h5 : (lz : Int) = (lx : Int) + (ly : Int) - 1 := by omega
        have H3 := Lib.hid h3
        clear h3
        go_enter Tryd.func7, Tryd.ntmps7
        go_wp2_with (first
          | (go_at_call 12; (refine Calls.mono (awake06 _ (HT.out.below HB.out)) ?_); rintro e w1 ⟨rfl, hb⟩; replace LV := Lib.hid (LV.out.below hb); replace HB := hstep HB hb; clear hb)
          | (go_at_call 13; (refine Calls.mono (SH.out _) ?_); rintro e w1 ⟨rfl, hb⟩; replace LV := Lib.hid ((LV.out.below (bel_alloc _ _)).below hb); replace HB := hstep (hstep HB (bel_alloc _ _)) hb; clear hb)
          | (go_at_call 36; (refine Calls.mono (CK.out _ (HT.out.below HB.out)) ?_); rintro e w1 ⟨rfl, hb⟩; replace LV := Lib.hid (LV.out.below hb); replace HB := hstep HB hb; clear hb)
          | (go_at_call 20; (with_reducible refine Calls.mono (NA.out _ HB.out) ?_); rintro e w1 ⟨C, d, rfl, hg⟩; have hm := hg.le; replace HB := hstep HB hg.bel; replace LV := Lib.hid (LV.out.got hg); clear hg)
          | (go_at_call 20; (with_reducible refine Calls.mono (NB.out _ HB.out) ?_); rintro e w1 ⟨C, d, rfl, hg⟩; have hm := hg.le; replace HB := hstep HB hg.bel; replace LV := Lib.hid (LV.out.got hg); clear hg)
          | (go_at_call 37; (with_reducible refine Calls.mono (TT.out _ HB.out) ?_); rintro e w1 ⟨C, d, rfl, hg⟩; have hm := hg.le; replace HB := hstep HB hg.bel; replace LV := Lib.hid (LV.out.got hg); clear hg)
          | (go_at_call 16; (refine Calls.mono (cSub _ _ _ _ _ _ _ _ p _ (HT.out.below HB.out) (LV.out.get (by repeat (first | exact List.Mem.head _ | apply List.Mem.tail))) (LV.out.get (by repeat (first | exact List.Mem.head _ | apply List.Mem.tail))) ip (by omega) (by omega)) ?_); rintro e w1 ⟨C, m, d, rfl, hg⟩; have hm := hg.le; replace HB := hstep HB hg.bel; replace LV := Lib.hid (LV.out.got hg); clear hg)
          | (go_at_call 38; (refine Calls.mono (lSum _ _ _ _ _ _ _ _ p _ (HT.out.below HB.out) (LV.out.get (by repeat (first | exact List.Mem.head _ | apply List.Mem.tail))) (LV.out.get (by repeat (first | exact List.Mem.head _ | apply List.Mem.tail))) ip (by omega) (by omega)) ?_); rintro e w1 ⟨C, m, d, rfl, hg⟩; have hm := hg.le; replace HB := hstep HB hg.bel; replace LV := Lib.hid (LV.out.got hg); clear hg)
          | (go_at_call 37; (refine Calls.mono (lTimes _ _ _ _ _ _ _ _ p _ (HT.out.below HB.out) (LV.out.get (by repeat (first | exact List.Mem.head _ | apply List.Mem.tail))) (LV.out.get (by repeat (first | exact List.Mem.head _ | apply List.Mem.tail))) ip (by omega) (by omega)) ?_); rintro e w1 ⟨C, m, d, rfl, hg⟩; have hm := hg.le; replace HB := hstep HB hg.bel; replace LV := Lib.hid (LV.out.got hg); clear hg)
          | (go_at_call 22; (refine Calls.mono (same6_true _ _ _ _ _ _ _ _ _ (LV.out.get (by repeat (first | exact List.Mem.head _ | apply List.Mem.tail))) (LV.out.get (by repeat (first | exact List.Mem.head _ | apply List.Mem.tail))) (by first | rfl | exact E1.out | exact E2.out | exact E3.out | exact E4.out | exact E5.out | exact E6.out)) ?_); rintro e w1 ⟨rfl, hb⟩; replace LV := Lib.hid (LV.out.below hb); replace HB := hstep HB hb; clear hb))
        go_ret
        exact ⟨rfl, HB.out⟩
    · have CK : Hid (∀ W : World, TabAt W → Calls Tryd.prog 36 #[.int .i64 p] W fun e w' => e = .returned (.int .i64 1) ∧ Below W.heap.size W w') := Lib.hid (fun W hT => by
        have := cfCheck p ip W hT
        rwa [chk_no (primB_no hp)] at this)
      go_enter Tryd.func7, Tryd.ntmps7
      go_wp2_with (first
        | (go_at_call 12; (refine Calls.mono (awake06 _ (HT.out.below HB.out)) ?_); rintro e w1 ⟨rfl, hb⟩; replace LV := Lib.hid (LV.out.below hb); replace HB := hstep HB hb; clear hb)
        | (go_at_call 13; (refine Calls.mono (SH.out _) ?_); rintro e w1 ⟨rfl, hb⟩; replace LV := Lib.hid ((LV.out.below (bel_alloc _ _)).below hb); replace HB := hstep (hstep HB (bel_alloc _ _)) hb; clear hb)
        | (go_at_call 36; (refine Calls.mono (CK.out _ (HT.out.below HB.out)) ?_); rintro e w1 ⟨rfl, hb⟩; replace LV := Lib.hid (LV.out.below hb); replace HB := hstep HB hb; clear hb))
      go_ret
      exact ⟨rfl, HB.out⟩
  · have SH := Lib.hid (fun w => lShort3_no 40 40 rfl w Aa na ca Ab nb cb Ac nc cc (by omega))
    go_enter Tryd.func7, Tryd.ntmps7
    go_wp2_with (first
      | (go_at_call 12; (refine Calls.mono (awake06 _ (HT.out.below HB.out)) ?_); rintro e w1 ⟨rfl, hb⟩; replace LV := Lib.hid (LV.out.below hb); replace HB := hstep HB hb; clear hb)
      | (go_at_call 13; (refine Calls.mono (SH.out _) ?_); rintro e w1 ⟨rfl, hb⟩; replace LV := Lib.hid ((LV.out.below (bel_alloc _ _)).below hb); replace HB := hstep (hstep HB (bel_alloc _ _)) hb; clear hb))
    go_ret
    exact ⟨rfl, HB.out⟩
end Go.Proofs.YtbipbpakbanacaaDoor

/- The law FpolyRest, walked. -/
import Derived.Test.YtbipbpakbanacaaDoorMg8
namespace Go.Proofs.YtbipbpakbanacaaDoor
open Go.RowKit

set_option maxRecDepth 100000 in
set_option maxHeartbeats 4000000 in
theorem walkFpolyRest (Aa : Option Addr) (na ca : Nat) (xa : List Int) (Ab : Option Addr) (nb cb : Nat) (xb : List Int) (p : Int) (w : World) (hT : TabAt w) (sa : ISl w Aa na ca xa) (_ : na ≤ 17592186044416) (sb : ISl w Ab nb cb xb) (_ : nb ≤ 17592186044416) (wp : (Lit.int .i64 p).wf = true) :
    Calls Tryd.prog 8 #[.slice Aa na ca, .slice Ab nb cb, .int .i64 p] w fun e w' => e = .returned (.bool true) ∧ Below w.heap.size w w' := by
  have ip : In64 p := int_wf wp
  have HB := Lib.hid (Below.refl w.heap.size w)
  have HT := Lib.hid hT
  clear hT
  have LV : Hid (Liv w [(Aa, na, ca, xa), (Ab, nb, cb, xb)]) := Lib.hid ⟨sa, sb, trivial⟩
  have Sa := Lib.hid sa
  have Sb := Lib.hid sb
  clear sa sb
  by_cases hs : na ≤ 60 ∧ nb ≤ 60
  · obtain ⟨ha, hb⟩ := hs
    have SH := Lib.hid (fun w => lShort2_yes 60 60 rfl w Aa na ca Ab nb cb (by omega))
    rcases Classical.em (Pr p) with hp | hp
    · have PR := Lib.hid hp
      have CK : Hid (∀ W : World, TabAt W → Calls Tryd.prog 36 #[.int .i64 p] W fun e w' => e = .returned (.int .i64 0) ∧ Below W.heap.size W w') := Lib.hid (fun W hT => by
        have := cfCheck p ip W hT
        rwa [chk_yes (primB_yes hp)] at this)
      rcases Classical.em (Ser.Bd p (cf xb) 0) with h0 | h0
      · have NB := Lib.hid (fun W (hb : Below w.heap.size w W) => cNorm_fix Ab nb cb xb p W (HT.out.below hb) 0 (Sb.out.below hb) ip (by omega) (by rw [polL_nil h0]; rfl))
        have NA := Lib.hid (fun W (hb : Below w.heap.size w W) => cNorm Aa na ca xa p W (HT.out.below hb) (Sa.out.below hb) ip (by omega))
        have DV := Lib.hid (fun W (hb : Below w.heap.size w W) => cDiv_zero Aa Ab na ca nb cb xa xb p W (HT.out.below hb) (Sa.out.below hb) (Sb.out.below hb) ip PR.out h0 (by omega) (by omega))
        clear h0 hp
        go_enter Tryd.func8, Tryd.ntmps8
        go_wp2_with (first
          | (go_at_call 12; (refine Calls.mono (awake06 _ (HT.out.below HB.out)) ?_); rintro e w1 ⟨rfl, hb⟩; replace LV := Lib.hid (LV.out.below hb); replace HB := hstep HB hb; clear hb)
          | (go_at_call 13; (refine Calls.mono (SH.out _) ?_); rintro e w1 ⟨rfl, hb⟩; replace LV := Lib.hid ((LV.out.below (bel_alloc _ _)).below hb); replace HB := hstep (hstep HB (bel_alloc _ _)) hb; clear hb)
          | (go_at_call 36; (refine Calls.mono (CK.out _ (HT.out.below HB.out)) ?_); rintro e w1 ⟨rfl, hb⟩; replace LV := Lib.hid (LV.out.below hb); replace HB := hstep HB hb; clear hb)
          | (go_at_call 20; (with_reducible refine Calls.mono (NA.out _ HB.out) ?_); rintro e w1 ⟨C, m, d, rfl, hg⟩; have hm := hg.le; replace HB := hstep HB hg.bel; replace LV := Lib.hid (LV.out.got hg); clear hg)
          | (go_at_call 20; (with_reducible refine Calls.mono (NB.out _ HB.out) ?_); rintro e w1 ⟨C, d, rfl, hg⟩; have hm := hg.le; replace HB := hstep HB hg.bel; replace LV := Lib.hid (LV.out.got hg); clear hg)
          | (go_at_call 23; (refine Calls.mono (DV.out _ HB.out) ?_); rintro e w1 ⟨C, m, d, C2, m2, d2, rfl, hg, hg2⟩; have hm := hg.le; have hm2 := hg2.le; replace HB := hstep HB hg.bel; replace LV := Lib.hid ((LV.out.got hg).more hg2.1); clear hg hg2))
        go_ret
        exact ⟨rfl, HB.out⟩
      · obtain ⟨k, hl⟩ := last_of h0 (fini_cf p xb)
        have HN0 := Lib.hid h0
        have E1 := Lib.hid (rest_back hp hl (fini_cf p xa) (fini_cf p xb))
        have E2 := Lib.hid (quo_of_mul hp hl (fini_cf p xa) (fini_cf p xb)).1
        have E3 := Lib.hid (quo_of_mul hp hl (fini_cf p xa) (fini_cf p xb)).2
        have hlr := rest_len hp hl (fini_cf p xa) (fini_cf p xb)
        obtain ⟨ly, hlye⟩ : ∃ l, (polL p (cf xb)).length = l := ⟨_, rfl⟩
        obtain ⟨lr, hlre⟩ : ∃ l, (remL p (cf xa) (cf xb)).length = l := ⟨_, rfl⟩
        rw [hlye, hlre] at hlr
        have NB := Lib.hid (fun W (hb : Below w.heap.size w W) => cNorm_fix Ab nb cb xb p W (HT.out.below hb) ly (Sb.out.below hb) ip (by omega) hlye)
        have NA := Lib.hid (fun W (hb : Below w.heap.size w W) => cNorm Aa na ca xa p W (HT.out.below hb) (Sa.out.below hb) ip (by omega))
        have DV := Lib.hid (fun W (hb : Below w.heap.size w W) => cDiv_fix Aa Ab na ca nb cb xa xb p W (HT.out.below hb) lr (Sa.out.below hb) (Sb.out.below hb) ip PR.out HN0.out (by omega) (by omega) hlre)
        have hly : ly ≠ 0 := by omega
        clear h0 hp hl hlye hlre
        go_enter Tryd.func8, Tryd.ntmps8
        go_wp2_with (first
          | (go_at_call 12; (refine Calls.mono (awake06 _ (HT.out.below HB.out)) ?_); rintro e w1 ⟨rfl, hb⟩; replace LV := Lib.hid (LV.out.below hb); replace HB := hstep HB hb; clear hb)
          | (go_at_call 13; (refine Calls.mono (SH.out _) ?_); rintro e w1 ⟨rfl, hb⟩; replace LV := Lib.hid ((LV.out.below (bel_alloc _ _)).below hb); replace HB := hstep (hstep HB (bel_alloc _ _)) hb; clear hb)
          | (go_at_call 36; (refine Calls.mono (CK.out _ (HT.out.below HB.out)) ?_); rintro e w1 ⟨rfl, hb⟩; replace LV := Lib.hid (LV.out.below hb); replace HB := hstep HB hb; clear hb)
          | (go_at_call 20; (with_reducible refine Calls.mono (NA.out _ HB.out) ?_); rintro e w1 ⟨C, m, d, rfl, hg⟩; have hm := hg.le; replace HB := hstep HB hg.bel; replace LV := Lib.hid (LV.out.got hg); clear hg)
          | (go_at_call 20; (with_reducible refine Calls.mono (NB.out _ HB.out) ?_); rintro e w1 ⟨C, d, rfl, hg⟩; have hm := hg.le; replace HB := hstep HB hg.bel; replace LV := Lib.hid (LV.out.got hg); clear hg)
          | (go_at_call 23; (with_reducible refine Calls.mono (DV.out _ HB.out) ?_); rintro e w1 ⟨C, m, d, C2, d2, rfl, hg, hg2⟩; have hm := hg.le; have hm2 := hg2.le; replace HB := hstep HB hg.bel; replace LV := Lib.hid ((LV.out.got hg).more hg2.1); clear hg hg2)
          | (go_at_call 23; (refine Calls.mono (cDiv_ok _ _ _ _ _ _ _ _ p _ (HT.out.below HB.out) (LV.out.get (by repeat (first | exact List.Mem.head _ | apply List.Mem.tail))) (LV.out.get (by repeat (first | exact List.Mem.head _ | apply List.Mem.tail))) ip PR.out HN0.out (by omega) (by omega)) ?_); rintro e w1 ⟨C, m, d, C2, m2, d2, rfl, hg, hg2⟩; obtain rfl : m2 = 0 := (by have := hg2.len; first | (rw [E3.out] at this; exact this)); have hm := hg.le; have hm2 := hg2.le; replace HB := hstep HB hg.bel; replace LV := Lib.hid ((LV.out.got hg).more hg2.1); clear hg hg2)
          | (go_at_call 38; (refine Calls.mono (lSum _ _ _ _ _ _ _ _ p _ (HT.out.below HB.out) (LV.out.get (by repeat (first | exact List.Mem.head _ | apply List.Mem.tail))) (LV.out.get (by repeat (first | exact List.Mem.head _ | apply List.Mem.tail))) ip (by omega) (by omega)) ?_); rintro e w1 ⟨C, m, d, rfl, hg⟩; have hm := hg.le; replace HB := hstep HB hg.bel; replace LV := Lib.hid (LV.out.got hg); clear hg)
          | (go_at_call 37; (refine Calls.mono (lTimes _ _ _ _ _ _ _ _ p _ (HT.out.below HB.out) (LV.out.get (by repeat (first | exact List.Mem.head _ | apply List.Mem.tail))) (LV.out.get (by repeat (first | exact List.Mem.head _ | apply List.Mem.tail))) ip (by omega) (by omega)) ?_); rintro e w1 ⟨C, m, d, rfl, hg⟩; have hm := hg.le; replace HB := hstep HB hg.bel; replace LV := Lib.hid (LV.out.got hg); clear hg)
          | (go_at_call 22; (refine Calls.mono (same6_true _ _ _ _ _ _ _ _ _ (LV.out.get (by repeat (first | exact List.Mem.head _ | apply List.Mem.tail))) (LV.out.get (by repeat (first | exact List.Mem.head _ | apply List.Mem.tail))) (by first | rfl | exact E1.out | exact E2.out)) ?_); rintro e w1 ⟨rfl, hb⟩; replace LV := Lib.hid (LV.out.below hb); replace HB := hstep HB hb; clear hb))
        go_ret
        exact ⟨rfl, HB.out⟩
    · have CK : Hid (∀ W : World, TabAt W → Calls Tryd.prog 36 #[.int .i64 p] W fun e w' => e = .returned (.int .i64 1) ∧ Below W.heap.size W w') := Lib.hid (fun W hT => by
        have := cfCheck p ip W hT
        rwa [chk_no (primB_no hp)] at this)
      go_enter Tryd.func8, Tryd.ntmps8
      go_wp2_with (first
        | (go_at_call 12; (refine Calls.mono (awake06 _ (HT.out.below HB.out)) ?_); rintro e w1 ⟨rfl, hb⟩; replace LV := Lib.hid (LV.out.below hb); replace HB := hstep HB hb; clear hb)
        | (go_at_call 13; (refine Calls.mono (SH.out _) ?_); rintro e w1 ⟨rfl, hb⟩; replace LV := Lib.hid ((LV.out.below (bel_alloc _ _)).below hb); replace HB := hstep (hstep HB (bel_alloc _ _)) hb; clear hb)
        | (go_at_call 36; (refine Calls.mono (CK.out _ (HT.out.below HB.out)) ?_); rintro e w1 ⟨rfl, hb⟩; replace LV := Lib.hid (LV.out.below hb); replace HB := hstep HB hb; clear hb))
      go_ret
      exact ⟨rfl, HB.out⟩
  · have SH := Lib.hid (fun w => lShort2_no 60 60 rfl w Aa na ca Ab nb cb (by omega))
    go_enter Tryd.func8, Tryd.ntmps8
    go_wp2_with (first
      | (go_at_call 12; (refine Calls.mono (awake06 _ (HT.out.below HB.out)) ?_); rintro e w1 ⟨rfl, hb⟩; replace LV := Lib.hid (LV.out.below hb); replace HB := hstep HB hb; clear hb)
      | (go_at_call 13; (refine Calls.mono (SH.out _) ?_); rintro e w1 ⟨rfl, hb⟩; replace LV := Lib.hid ((LV.out.below (bel_alloc _ _)).below hb); replace HB := hstep (hstep HB (bel_alloc _ _)) hb; clear hb))
    go_ret
    exact ⟨rfl, HB.out⟩
end Go.Proofs.YtbipbpakbanacaaDoor

/- The law FpolyFrobenius, walked. -/
import Derived.Test.YtbipbpakbanacaaDoorMg8
namespace Go.Proofs.YtbipbpakbanacaaDoor
open Go.RowKit

set_option maxRecDepth 100000 in
set_option maxHeartbeats 4000000 in
theorem walkFpolyFrobenius (Aa : Option Addr) (na ca : Nat) (xa : List Int) (Ab : Option Addr) (nb cb : Nat) (xb : List Int) (Am : Option Addr) (nm cm : Nat) (xm : List Int) (n : Int) (k : Int) (p : Int) (w : World) (hT : TabAt w) (sa : ISl w Aa na ca xa) (ba : na ≤ 17592186044416) (sb : ISl w Ab nb cb xb) (bb : nb ≤ 17592186044416) (sm : ISl w Am nm cm xm) (bm : nm ≤ 17592186044416) (_ : (Lit.int .i64 n).wf = true) (_ : (Lit.int .i64 k).wf = true) (wp : (Lit.int .i64 p).wf = true) :
    Calls Tryd.prog 11 #[.slice Aa na ca, .slice Ab nb cb, .slice Am nm cm, .int .i64 n, .int .i64 k, .int .i64 p] w fun e w' => e = .returned (.bool true) ∧ Below w.heap.size w w' := by
  have ip : In64 p := int_wf wp
  have HB := Lib.hid (Below.refl w.heap.size w)
  have HT := Lib.hid hT
  clear hT
  have LV : Hid (Liv w [(Aa, na, ca, xa), (Ab, nb, cb, xb), (Am, nm, cm, xm)]) := Lib.hid ⟨sa, sb, sm, trivial⟩
  have Sa := Lib.hid sa
  have Sb := Lib.hid sb
  have Sm := Lib.hid sm
  clear sa sb sm
  have hn := and_65535 n
  have hk := and_65535 k
  obtain ⟨I, hI⟩ : ∃ i : Nat, n % 65536 = (i : Int) := ⟨(n % 65536).toNat, by omega⟩
  obtain ⟨J, hJ⟩ : ∃ i : Nat, k % 65536 = (i : Int) := ⟨(k % 65536).toNat, by omega⟩
  have bI : I < 65536 := by omega
  have bJ : J < 65536 := by omega
  rw [hI] at hn
  rw [hJ] at hk
  clear hI hJ wp
  obtain ⟨lx, hlx⟩ : ∃ l, (polL p (cf xm)).length = l := ⟨_, rfl⟩
  have NM := Lib.hid (fun W (hb : Below w.heap.size w W) => cNorm_fix Am nm cm xm p W (HT.out.below hb) lx (Sm.out.below hb) ip (by omega) hlx)
  by_cases hs : na ≤ 12 ∧ nb ≤ 12 ∧ nm ≤ 12
  · obtain ⟨ha, hb, hm⟩ := hs
    have SH := Lib.hid (fun w => lShort3_yes 12 12 rfl w Aa na ca Ab nb cb Am nm cm (by omega))
    rcases Classical.em (Pr p) with hp | hp
    · have PR := Lib.hid hp
      have CK : Hid (∀ W : World, TabAt W → Calls Tryd.prog 36 #[.int .i64 p] W fun e w' => e = .returned (.int .i64 0) ∧ Below W.heap.size W w') := Lib.hid (fun W hT => by
        have := cfCheck p ip W hT
        rwa [chk_yes (primB_yes hp)] at this)
      have hpa := hp.1
      have hpb := hp.2.1
      by_cases h0 : lx = 0
      · subst h0
        clear hlx hp
        go_enter Tryd.func11, Tryd.ntmps11
        go_wp2_with (first
          | (go_at_call 12; (refine Calls.mono (awake06 _ (HT.out.below HB.out)) ?_); rintro e w1 ⟨rfl, hb⟩; replace LV := Lib.hid (LV.out.below hb); replace HB := hstep HB hb; clear hb)
          | (go_at_call 20; (with_reducible refine Calls.mono (NM.out _ HB.out) ?_); rintro e w1 ⟨C, d, rfl, hg⟩; have hm := hg.le; replace HB := hstep HB hg.bel; replace LV := Lib.hid (LV.out.got hg); clear hg)
          | (go_at_call 13; (refine Calls.mono (SH.out _) ?_); rintro e w1 ⟨rfl, hb⟩; replace LV := Lib.hid ((LV.out.below (bel_alloc _ _)).below hb); replace HB := hstep (hstep HB (bel_alloc _ _)) hb; clear hb)
          | (go_at_call 36; (refine Calls.mono (CK.out _ (HT.out.below HB.out)) ?_); rintro e w1 ⟨rfl, hb⟩; replace LV := Lib.hid (LV.out.below hb); replace HB := hstep HB hb; clear hb))
        go_ret
        exact ⟨rfl, HB.out⟩
      · have hn0 : ¬ Ser.Bd p (cf xm) 0 := fun hb0 => h0 (by rw [← hlx, polL_nil hb0]; rfl)
        obtain ⟨r, hl⟩ := last_of hn0 (fini_cf p xm)
        have HN0 := Lib.hid hn0
        have E1 : Hid (remL p (cf (polL p (Ser.mul (cf (powL p 1 (I : Int).toNat (cf xa) (cf xm))) (cf (powL p 1 (J : Int).toNat (cf xa) (cf xm)))))) (cf xm) = powL p 1 ((I : Int) + (J : Int)).toNat (cf xa) (cf xm)) := Lib.hid (by
          rw [show ((I : Int) + (J : Int)).toNat = (I : Int).toNat + (J : Int).toNat from by omega]
          exact pow_adds hp hl (fini_cf p xa) _ _)
        have E2 := Lib.hid (pow_frob hp hl (fini_cf p xa) (fini_cf p xb))
        clear hlx hp hl hn0
        go_enter Tryd.func11, Tryd.ntmps11
        go_wp2_with (first
          | (go_at_call 12; (refine Calls.mono (awake06 _ (HT.out.below HB.out)) ?_); rintro e w1 ⟨rfl, hb⟩; replace LV := Lib.hid (LV.out.below hb); replace HB := hstep HB hb; clear hb)
          | (go_at_call 20; (with_reducible refine Calls.mono (NM.out _ HB.out) ?_); rintro e w1 ⟨C, d, rfl, hg⟩; have hm := hg.le; replace HB := hstep HB hg.bel; replace LV := Lib.hid (LV.out.got hg); clear hg)
          | (go_at_call 13; (refine Calls.mono (SH.out _) ?_); rintro e w1 ⟨rfl, hb⟩; replace LV := Lib.hid ((LV.out.below (bel_alloc _ _)).below hb); replace HB := hstep (hstep HB (bel_alloc _ _)) hb; clear hb)
          | (go_at_call 36; (refine Calls.mono (CK.out _ (HT.out.below HB.out)) ?_); rintro e w1 ⟨rfl, hb⟩; replace LV := Lib.hid (LV.out.below hb); replace HB := hstep HB hb; clear hb)
          | (go_at_call 41; (refine Calls.mono (zOfI _ (by omega) (by omega) _) ?_); rintro e w1 ⟨E, me, de, es, rfl, hE, hv, hme, hb⟩; have HE := Lib.hid hE; have HV := Lib.hid hv; clear hE hv; replace LV := Lib.hid (LV.out.below hb); replace HB := hstep HB hb; clear hb)
          | (go_at_call 34; (refine Calls.mono (cPow_ok _ _ _ _ _ _ _ _ _ _ _ _ _ p _ (HT.out.below HB.out) (LV.out.get (by repeat (first | exact List.Mem.head _ | apply List.Mem.tail))) (LV.out.get (by repeat (first | exact List.Mem.head _ | apply List.Mem.tail))) HE.out HV.out ip PR.out HN0.out (by omega) (by omega) (by omega)) ?_); rintro e w1 ⟨C, m, d, rfl, hg⟩; have hm := hg.le; replace HB := hstep HB hg.bel; replace LV := Lib.hid (LV.out.got hg); clear hg)
          | (go_at_call 23; (refine Calls.mono (cDiv_ok _ _ _ _ _ _ _ _ p _ (HT.out.below HB.out) (LV.out.get (by repeat (first | exact List.Mem.head _ | apply List.Mem.tail))) (LV.out.get (by repeat (first | exact List.Mem.head _ | apply List.Mem.tail))) ip PR.out HN0.out (by omega) (by omega)) ?_); rintro e w1 ⟨C, m, d, C2, m2, d2, rfl, hg, hg2⟩; have hm := hg.le; have hm2 := hg2.le; replace HB := hstep HB hg.bel; replace LV := Lib.hid ((LV.out.got hg).more hg2.1); clear hg hg2)
          | (go_at_call 38; (refine Calls.mono (lSum _ _ _ _ _ _ _ _ p _ (HT.out.below HB.out) (LV.out.get (by repeat (first | exact List.Mem.head _ | apply List.Mem.tail))) (LV.out.get (by repeat (first | exact List.Mem.head _ | apply List.Mem.tail))) ip (by omega) (by omega)) ?_); rintro e w1 ⟨C, m, d, rfl, hg⟩; have hm := hg.le; replace HB := hstep HB hg.bel; replace LV := Lib.hid (LV.out.got hg); clear hg)
          | (go_at_call 37; (refine Calls.mono (lTimes _ _ _ _ _ _ _ _ p _ (HT.out.below HB.out) (LV.out.get (by repeat (first | exact List.Mem.head _ | apply List.Mem.tail))) (LV.out.get (by repeat (first | exact List.Mem.head _ | apply List.Mem.tail))) ip (by omega) (by omega)) ?_); rintro e w1 ⟨C, m, d, rfl, hg⟩; have hm := hg.le; replace HB := hstep HB hg.bel; replace LV := Lib.hid (LV.out.got hg); clear hg)
          | (go_at_call 22; (refine Calls.mono (same6_true _ _ _ _ _ _ _ _ _ (LV.out.get (by repeat (first | exact List.Mem.head _ | apply List.Mem.tail))) (LV.out.get (by repeat (first | exact List.Mem.head _ | apply List.Mem.tail))) (by first | rfl | exact E1.out | exact E2.out)) ?_); rintro e w1 ⟨rfl, hb⟩; replace LV := Lib.hid (LV.out.below hb); replace HB := hstep HB hb; clear hb))
        go_ret
        exact ⟨rfl, HB.out⟩
    · have CK : Hid (∀ W : World, TabAt W → Calls Tryd.prog 36 #[.int .i64 p] W fun e w' => e = .returned (.int .i64 1) ∧ Below W.heap.size W w') := Lib.hid (fun W hT => by
        have := cfCheck p ip W hT
        rwa [chk_no (primB_no hp)] at this)
      clear hlx
      go_enter Tryd.func11, Tryd.ntmps11
      go_wp2_with (first
        | (go_at_call 12; (refine Calls.mono (awake06 _ (HT.out.below HB.out)) ?_); rintro e w1 ⟨rfl, hb⟩; replace LV := Lib.hid (LV.out.below hb); replace HB := hstep HB hb; clear hb)
        | (go_at_call 20; (with_reducible refine Calls.mono (NM.out _ HB.out) ?_); rintro e w1 ⟨C, d, rfl, hg⟩; have hm := hg.le; replace HB := hstep HB hg.bel; replace LV := Lib.hid (LV.out.got hg); clear hg)
        | (go_at_call 13; (refine Calls.mono (SH.out _) ?_); rintro e w1 ⟨rfl, hb⟩; replace LV := Lib.hid ((LV.out.below (bel_alloc _ _)).below hb); replace HB := hstep (hstep HB (bel_alloc _ _)) hb; clear hb)
        | (go_at_call 36; (refine Calls.mono (CK.out _ (HT.out.below HB.out)) ?_); rintro e w1 ⟨rfl, hb⟩; replace LV := Lib.hid (LV.out.below hb); replace HB := hstep HB hb; clear hb))
      go_ret
      exact ⟨rfl, HB.out⟩
  · have SH := Lib.hid (fun w => lShort3_no 12 12 rfl w Aa na ca Ab nb cb Am nm cm (by omega))
    clear hlx
    go_enter Tryd.func11, Tryd.ntmps11
    go_wp2_with (first
      | (go_at_call 12; (refine Calls.mono (awake06 _ (HT.out.below HB.out)) ?_); rintro e w1 ⟨rfl, hb⟩; replace LV := Lib.hid (LV.out.below hb); replace HB := hstep HB hb; clear hb)
      | (go_at_call 20; (with_reducible refine Calls.mono (NM.out _ HB.out) ?_); rintro e w1 ⟨C, d, rfl, hg⟩; have hm := hg.le; replace HB := hstep HB hg.bel; replace LV := Lib.hid (LV.out.got hg); clear hg)
      | (go_at_call 13; (refine Calls.mono (SH.out _) ?_); rintro e w1 ⟨rfl, hb⟩; replace LV := Lib.hid ((LV.out.below (bel_alloc _ _)).below hb); replace HB := hstep (hstep HB (bel_alloc _ _)) hb; clear hb))
    go_ret
    exact ⟨rfl, HB.out⟩
end Go.Proofs.YtbipbpakbanacaaDoor

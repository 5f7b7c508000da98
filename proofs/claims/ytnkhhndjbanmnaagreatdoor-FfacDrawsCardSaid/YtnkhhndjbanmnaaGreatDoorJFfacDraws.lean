/- The law FfacDraws: its walk and its card. -/
import Derived.Test.YtnkhhndjbanmnaaGreatDoorMp42
import Derived.Test.YtnkhhndjbanmnaaGreatDoorMp46
import Derived.Test.YtnkhhndjbanmnaaGreatDoorTie
import Derived.Test.YtnkhhndjbanmnaaGreatDoorCards
import Derived.ChangeOld
import Derived.ChangeMaps5
import Derived.Lay
import Derived.LaidMore
import Derived.SevenTiedAt
import Derived.Stop.Joined
import Derived.Below

/- The law FfacDraws, walked. -/
namespace Go.Proofs.YtnkhhndjbanmnaaGreatDoor
open Go.RowKit

set_option maxRecDepth 100000 in
set_option maxHeartbeats 4000000 in
theorem walkFfacDraws (A : Option Addr) (n c : Nat) (xs : List Int) (p : Int) (B : Option Addr) (n1 c1 : Nat) (ds : List Int) (C : Option Addr) (n2 c2 : Nat) (es : List Int) (w : World) (hT : TabAt w) (sm : ISl w A n c xs) (_ : n ≤ 17592186044416) (wp : (Lit.int .i64 p).wf = true) (sm1 : ISl w B n1 c1 ds) (_ : n1 ≤ 17592186044416) (sm2 : ISl w C n2 c2 es) (_ : n2 ≤ 17592186044416) :
    Calls Tryz.prog 7 #[.slice A n c, .int .i64 p, .slice B n1 c1, .slice C n2 c2] w fun e w' => e = .returned (.bool true) ∧ Below w.heap.size w w' := by
  have ip : In64 p := int_wf wp
  have AW := Lib.hid (awake09 w hT)
  have GR := Lib.hid (fun W (hb : Below w.heap.size w W) => lGreat A n c xs p W (sm.below hb) ip)
  have hle := sm.le
  have hmx := sm.max
  have hle1 := sm1.le
  have hmx1 := sm1.max
  have hle2 := sm2.le
  have hmx2 := sm2.max
  cases hg : grB n (eff p (cf xs)) with
  | true =>
    rw [hg] at GR
    clear sm sm1 sm2 hT wp ip hg
    go_enter Tryz.func7, Tryz.ntmps7
    go_wp2_with (first
      | (go_at_call 10; (with_reducible refine AW.out.mono ?_); rintro e w0 ⟨rfl, hb0⟩; have HB := Lib.hid hb0; clear hb0)
      | (go_at_call 26; (with_reducible refine (GR.out _ HB.out).mono ?_); rintro e w1 ⟨rfl, hb1⟩; have HB := hstep9 HB hb1; clear hb1)
      | fail)
    go_ret
    exact ⟨rfl, HB.out⟩
  | false =>
    rw [hg] at GR
    obtain ⟨g1, g2⟩ := grB_no hg
    have F1 := Lib.hid (fun W (hb : Below w.heap.size w W) => gFacs A B n c n1 c1 xs ds p W (hT.below hb) (sm.below hb) (sm1.below hb) ip (by omega))
    have F2 := Lib.hid (fun W (hb : Below w.heap.size w W) => gFacs A C n c n2 c2 xs es p W (hT.below hb) (sm.below hb) (sm2.below hb) ip (by omega))
    rw [g2] at F1 F2
    clear sm sm1 sm2 hT wp ip hg g1 g2
    generalize facL p (cf xs) = L at *
    by_cases h1 : (40 : Int) < (n1 : Int)
    · go_enter Tryz.func7, Tryz.ntmps7
      go_wp2_with (first
      | (go_at_call 10; (with_reducible refine AW.out.mono ?_); rintro e w0 ⟨rfl, hb0⟩; have HB := Lib.hid hb0; clear hb0)
      | (go_at_call 26; (with_reducible refine (GR.out _ HB.out).mono ?_); rintro e w1 ⟨rfl, hb1⟩; have HB := hstep9 HB hb1; clear hb1)
        | fail)
      go_ret
      exact ⟨rfl, HB.out⟩
    by_cases h2 : (40 : Int) < (n2 : Int)
    · go_enter Tryz.func7, Tryz.ntmps7
      go_wp2_with (first
      | (go_at_call 10; (with_reducible refine AW.out.mono ?_); rintro e w0 ⟨rfl, hb0⟩; have HB := Lib.hid hb0; clear hb0)
      | (go_at_call 26; (with_reducible refine (GR.out _ HB.out).mono ?_); rintro e w1 ⟨rfl, hb1⟩; have HB := hstep9 HB hb1; clear hb1)
        | fail)
      go_ret
      exact ⟨rfl, HB.out⟩
    go_enter Tryz.func7, Tryz.ntmps7
    go_wp2_with (first
      | (go_at_call 10; (with_reducible refine AW.out.mono ?_); rintro e w0 ⟨rfl, hb0⟩; have HB := Lib.hid hb0; clear hb0)
      | (go_at_call 26; (with_reducible refine (GR.out _ HB.out).mono ?_); rintro e w1 ⟨rfl, hb1⟩; have HB := hstep9 HB hb1; clear hb1)
      | (go_at_call 12; with_reducible refine (F1.out _ HB.out).mono ?_; rintro e w2 ⟨A1, k1, d1, Z1, rfl, hr1, hp1, -, hk1, hb2⟩; have RD1 := Lib.hid hr1; have PL1 := Lib.hid hp1; have HB := hstep9 HB hb2; clear hr1 hp1 hb2 F1)
      | (go_at_call 12; with_reducible refine (F2.out _ HB.out).mono ?_; rintro e w3 ⟨A2, k2, d2, Z2, rfl, hr2, hp2, -, hk2, hb3⟩; have RD2 := Lib.hid hr2; have PL2 := Lib.hid hp2; have RD12 := Lib.hid (RD1.out.below hb3); have HB := hstep9 HB hb3; have TH := Lib.hid (lTheirs9 A1 k1 d1 Z1 w3 RD12.out (by omega)); clear hr2 hp2 hb3 F2)
      | (go_at_call 19; with_reducible refine TH.out.mono ?_; rintro e w4 ⟨A3, d3, rfl, hr3, hb4⟩; have RD3 := Lib.hid hr3; have RD22 := Lib.hid (RD2.out.below hb4); have HB := hstep9 HB hb4; have TH2 := Lib.hid (lTheirs9 A2 k2 d2 Z2 w4 RD22.out (by omega)); clear hr3 hb4 TH)
      | (go_at_call 19; with_reducible refine TH2.out.mono ?_; rintro e w5 ⟨A4, d4, rfl, hr4, hb5⟩; have HB := hstep9 HB hb5; have SM := Lib.hid (rSame9 A3 A4 k1 d3 k2 d4 Z1 Z2 w5 (RD3.out.below hb5) hr4 (by rw [PL1.out, PL2.out])); clear hr4 hb5 TH2)
      | (go_at_call 18; with_reducible refine SM.out.mono ?_; rintro e w6 ⟨rfl, hb6⟩; have HB := hstep9 HB hb6; clear hb6)
      | fail)
    go_ret
    exact ⟨rfl, HB.out⟩
end Go.Proofs.YtnkhhndjbanmnaaGreatDoor

/- The statement 'FfacDraws', a tied card: for every input the law's function returns true and leaves its arguments as they were; the package-level tables that the row lists are laid as the program's text lays them. No conditions but the form's own. -/
namespace Go.Proofs.YtnkhhndjbanmnaaGreatDoor.lawFfacDrawsCard
open Go.ChangeShapes Go.WideShapes Go.ChangeAt Go.RowKit Go.ChangeMaps
set_option maxRecDepth 100000 in
theorem lifted (os : Os) (started : os.Started) (H : Type) (enc : TypeId × Value → H) :
    ReturnsInHanded {} Tryz.checked os 7 .any (fun w args => (Rows.ffacDrawsSpec.pre enc Tryz.prog Tryz.f7 Rows.ffacDrawsRow.domain false w args ∧ laidMetH Tryz.prog Rows.ffacDrawsRow.laid w) ∧ sizedMet enc Tryz.prog Tryz.f7 (OpenSpec.ofChange Rows.ffacDrawsSpec) false w args)
      (Rows.ffacDrawsSpec.post enc Tryz.prog Tryz.f7 false true false false) := by
  refine returnsInHanded_of_change_and (C := Tryz.checked) (X := fun w _ => laidMetH Tryz.prog Rows.ffacDrawsRow.laid w) (fun _ _ _ hh h => h.of_heap hh) own0 started (by kernel_rfl) Tryz.func7
    (ChangeSpec.witness_shaped (enc := enc) (C := Tryz.checked) (os := os) (X := fun w _ => laidMetH Tryz.prog Rows.ffacDrawsRow.laid w) false (World.laidAll Tryz.prog os Rows.ffacDrawsRow.laid) #[.slice none 0 0, .int .i64 0, .slice none 0 0, .slice none 0 0] 8 (World.laidAll_os _ _ _)
      (World.shaped_of_ZipB (by kernel_rfl) (by kernel_rfl)) (by kernel_rfl) (by kernel_rfl) (by kernel_rfl)
      (by rw [MakeChecks.laidMetH_plain _ _ _ (by kernel_rfl)]; exact laidMet_laidAll _ (by kernel_rfl) (by kernel_rfl))) ?_
  intro W base args ds gs before hval0 hW hcnd hsz0 hL hholds
  have hval : ∀ (j : Nat) t v, Tryz.f7.params[j]? = some t → args[j]? = some v → Value.okWide Tryz.prog W .any base t v := hval0
  have hW' := hW
  obtain ⟨p, q, hA0, hV, rfl, hfz, hnd⟩ := hW
  have hA : DataW.TrodAll enc Tryz.prog W 0 (fun _ => true) true Tryz.f7.params.toList args.toList ds p := hA0
  have hsz : (DataW.weightsEach Tryz.prog (Tryz.f7.params.toList ++ Rows.ffacDrawsSpec.plain.varTypes Tryz.prog) (ds ++ gs)).all (· ≤ reachBytes) = true := hsz0
  rw [Tryz.params7] at hA hval hsz
  obtain ⟨v0, vs0, d0, ds0, p0, q0, hargs, rfl, rfl, h0, r0⟩ := trodAll_cons hA
  obtain ⟨v1, vs1, d1, ds1, p1, q1, rfl, rfl, rfl, h1, r1⟩ := trodAll_cons r0
  obtain ⟨v2, vs2, d2, ds2, p2, q2, rfl, rfl, rfl, h2, r2⟩ := trodAll_cons r1
  obtain ⟨v3, vs3, d3, ds3, p3, q3, rfl, rfl, rfl, h3, r3⟩ := trodAll_cons r2
  obtain ⟨rfl, rfl, rfl⟩ := trodAll_nil r3
  obtain rfl : args = #[v0, v1, v2, v3] := by cases args; simp_all
  obtain ⟨rfl, rfl⟩ := trodVars_none hV
  obtain ⟨a0, len0, cap0, rfl⟩ := okWide_slice Tryz.underlying22 (hval 0 22 v0 rfl rfl)
  have k0 := h0
  have lt0 : ∀ x ∈ p0, x.block < W.heap.size := by obtain ⟨m, hm⟩ := k0; exact DataW.trod_lt m _ _ _ hm
  obtain ⟨x0, s0, b0⟩ := isl_open h0 hsz 0 rfl rfl
  obtain ⟨a1, rfl, rfl, rfl, w1⟩ := open_int Tryz.underlying3 (hval 1 3 v1 rfl rfl) h1
  obtain ⟨a2, len2, cap2, rfl⟩ := okWide_slice Tryz.underlying22 (hval 2 22 v2 rfl rfl)
  have k2 := h2
  have lt2 : ∀ x ∈ p2, x.block < W.heap.size := by obtain ⟨m, hm⟩ := k2; exact DataW.trod_lt m _ _ _ hm
  obtain ⟨x2, s2, b2⟩ := isl_open h2 hsz 2 rfl rfl
  obtain ⟨a3, len3, cap3, rfl⟩ := okWide_slice Tryz.underlying22 (hval 3 22 v3 rfl rfl)
  have k3 := h3
  have lt3 : ∀ x ∈ p3, x.block < W.heap.size := by obtain ⟨m, hm⟩ := k3; exact DataW.trod_lt m _ _ _ hm
  obtain ⟨x3, s3, b3⟩ := isl_open h3 hsz 3 rfl rfl
  clear hA0 hval0 hsz0 hsz
  refine (walkFfacDraws a0 len0 cap0 x0 a1 a2 len2 cap2 x2 a3 len3 cap3 x3 W (tab_of_laid hL) s0 b0 w1 s2 b2 s3 b3).mono fun e W' ⟨he, bel⟩ => ?_
  subst he
  exact ⟨_, rfl, _, _, _, [], _, [], hW', trodAll_mk1 (shut_bool Tryz.underlying4 _), (trodAll_cons_mk (Below.trod laidOut0 (by kernel_rfl) (of_decide_eq_true (by kernel_rfl)) k0 bel lt0) (trodAll_cons_mk (shut_int Tryz.underlying3 w1) (trodAll_cons_mk (Below.trod laidOut0 (by kernel_rfl) (of_decide_eq_true (by kernel_rfl)) k2 bel lt2) (trodAll_cons_mk (Below.trod laidOut0 (by kernel_rfl) (of_decide_eq_true (by kernel_rfl)) k3 bel lt3) trodAll_mk0)))), rfl, bel.frame _, fun h => by cases h⟩
theorem over : Rows.ffacDrawsRow.holds Tryz.pinned (OpenSpec.ofChange Rows.ffacDrawsSpec) :=
  OpenClaim.holds_of_wide 7 Tryz.f7 rfl rfl rfl rfl rfl rfl rfl ⟨rfl, rfl, rfl, rfl, rfl⟩ rfl rfl rfl rfl rfl (by kernel_rfl) Tryz.func7 (by kernel_rfl)
    (of_decide_eq_true (by kernel_rfl)) (by unfold Func.isWrapper; first | (rw [if_pos (by decide +kernel)]; kernel_rfl) | (rw [if_neg (by decide +kernel)]; exact ⟨rfl, rfl⟩))
    (fun os started H enc _ => lifted os started H enc)
/-- The statement: the tied card. -/
theorem proved : Rows.FfacDrawsCardSaid :=
  Claim7.holds_tied_plain_at .later [] [.data] true Rows.ffacDrawsCard.stood.harness false over (fun _ h => by cases h) (by kernel_rfl) (fun _ h => by cases h) ffacDraws_row_tie rfl ⟨rfl, rfl⟩ (by kernel_rfl) rfl
    (fun f fn hf hfn => by
      obtain rfl : f = 7 := Option.some.inj ((show Tryz.prog.funcNamed "cleaver/cleaverlaw09.FfacDraws" = some 7 by kernel_rfl).symm.trans hf) |>.symm
      obtain rfl : fn = Tryz.f7 := (Option.some.inj (Tryz.func7.symm.trans hfn)).symm
      exact ⟨by kernel_rfl, fun j t ht => by
        rw [Tryz.params7] at ht
        have hm : t ∈ [22, 3, 22, 22] := by simpa using Array.mem_of_getElem? ht
        have hall : ([22, 3, 22, 22].all fun u => !Tryz.prog.wantsStandIn u) = true := by kernel_rfl
        exact (show Tryz.prog.wantsStandIn t = false by simpa using List.all_eq_true.1 hall t hm)⟩)
    (by kernel_rfl)
end Go.Proofs.YtnkhhndjbanmnaaGreatDoor.lawFfacDrawsCard

/- The law FsqfParts: its walk and its card. -/
import Derived.Test.YtekpifafjbkmiaaDoorMh27
import Derived.Test.YtekpifafjbkmiaaDoorTie
import Derived.Test.YtekpifafjbkmiaaDoorCards
import Derived.ChangeOld
import Derived.ChangeMaps5
import Derived.Lay
import Derived.LaidMore
import Derived.SevenTiedAt
import Derived.Stop.Joined
import Derived.Below

/- The law FsqfParts, walked. -/
namespace Go.Proofs.YtekpifafjbkmiaaDoor
open Go.RowKit

theorem hstep8 {w w1 w2 : World} (h : Hid (Below w.heap.size w w1)) (k : Below w1.heap.size w1 w2) : Hid (Below w.heap.size w w2) := Lib.hid (h.out.trans (k.mono h.out.size))

set_option maxRecDepth 100000 in
set_option maxHeartbeats 4000000 in
theorem walkFsqfParts (A : Option Addr) (n c : Nat) (xs : List Int) (p : Int) (w : World) (hT : TabAt w) (sm : ISl w A n c xs) (_ : n ≤ 17592186044416) (wp : (Lit.int .i64 p).wf = true) :
    Calls Tryd.prog 3 #[.slice A n c, .int .i64 p] w fun e w' => e = .returned (.bool true) ∧ Below w.heap.size w w' := by
  have ip : In64 p := int_wf wp
  have AW := Lib.hid (awake08 w hT)
  by_cases hn : n ≤ 60
  · have HT := Lib.hid hT
    have E1 := Lib.hid (fun W (hb : Below w.heap.size w W) => fPartsTop A n c xs p W (hT.below hb) (sm.below hb) ip (by omega))
    have E2 := Lib.hid (fun W (hb : Below w.heap.size w W) => rPartsTop A n c xs p W (sm.below hb) ip (by omega))
    have E3 := Lib.hid (fun W (hb : Below w.heap.size w W) => fRadTop A n c xs p W (hT.below hb) (sm.below hb) ip (by omega))
    have E4 := Lib.hid (fun W (hb : Below w.heap.size w W) => rRadTop A n c xs p W (sm.below hb) ip (by omega))
    have E5 := Lib.hid (fun W (hb : Below w.heap.size w W) => fIsTop A n c xs p W (hT.below hb) (sm.below hb) ip (by omega))
    have E6 := Lib.hid (fun W (hb : Below w.heap.size w W) => rIsTop A n c xs p W (sm.below hb) ip (by omega))
    have FEW := Lib.hid (show (partsL p (cf xs)).length ≤ 2000 from by
      rcases esq_cases p (cf xs) with ⟨hp, hb, he⟩ | he | he
      · obtain ⟨m1, m2, _⟩ := mn_monL hp hb
        rcases Classical.em (∃ L, IsParts p (monL p (cf xs)) L) with ⟨L, hL⟩ | hno
        · rw [partsL_is hp hb hL]
          have h1 := nodup_le (monL p (cf xs)).length _ (hL.up.imp fun hij => Nat.ne_of_lt hij) (fun x hx => by
            obtain ⟨y, hy, rfl⟩ := List.mem_map.1 hx
            obtain ⟨_, ho, hne⟩ := hL.own y hy
            obtain ⟨q, hq, hv⟩ := own_some hp ho hne
            have := m1.V_lt hp hq
            omega)
          rw [List.length_map] at h1
          have := sm.len
          omega
        · have : partsL p (cf xs) = [] := theP_none fun L ⟨_, _, hL⟩ => hno ⟨L, hL⟩
          rw [this]; decide
      · rw [partsL_no (by rw [he]; decide)]; decide
      · rw [partsL_no (by rw [he]; decide)]; decide)
    generalize esq p (cf xs) = cd at *
    generalize partsL p (cf xs) = PL at *
    generalize radL p (cf xs) = RL at *
    generalize sqB p (cf xs) = SB at *
    have hn2 : ¬ (60 : Int) < (n : Int) := by omega
    clear hT sm
    go_enter Tryd.func3, Tryd.ntmps3
    go_wp2_with (first
      | (go_at_call 8; (with_reducible refine AW.out.mono ?_); rintro e w0 ⟨rfl, hb0⟩; have HB0 := Lib.hid hb0; clear hb0)
      | (go_at_call 9; (with_reducible refine (E1.out _ HB0.out).mono ?_); rintro e w1 ⟨A1, k1, c1, Z1, rfl, hR1, hP1, hb1⟩; have R1 := Lib.hid hR1; have P1 := Lib.hid hP1; have HB1 := hstep8 HB0 hb1; clear hR1 hP1 hb1)
      | (go_at_call 10; (with_reducible refine (E2.out _ HB1.out).mono ?_); rintro e w2 ⟨A2, k2, c2, Z2, rfl, hR2, hP2, hb2⟩; have R2 := Lib.hid hR2; have P2 := Lib.hid hP2; have R12 := Lib.hid (R1.out.below hb2); have HB2 := hstep8 HB1 hb2; clear hR2 hP2 hb2)
      | (go_at_call 11; (with_reducible refine (E3.out _ HB2.out).mono ?_); rintro e w3 ⟨C3, m3, d3, rfl, hI3, hb3⟩; have I3 := Lib.hid hI3; have R13 := Lib.hid (R12.out.below hb3); have R23 := Lib.hid (R2.out.below hb3); have HB3 := hstep8 HB2 hb3; clear hI3 hb3)
      | (go_at_call 12; (with_reducible refine (E4.out _ HB3.out).mono ?_); rintro e w4 ⟨C4, m4, d4, rfl, hI4, hb4⟩; have I4 := Lib.hid hI4; have I34 := Lib.hid (I3.out.below hb4); have R14 := Lib.hid (R13.out.below hb4); have R24 := Lib.hid (R23.out.below hb4); have HB4 := hstep8 HB3 hb4; clear hI4 hb4)
      | (go_at_call 13; (with_reducible refine (E5.out _ HB4.out).mono ?_); rintro e w5 ⟨rfl, hb5⟩; have BB5 := Lib.hid hb5; have HB5 := hstep8 HB4 hb5; clear hb5)
      | (go_at_call 14; (with_reducible refine (E6.out _ HB5.out).mono ?_); rintro e w6 ⟨rfl, hb6⟩; have BB6 := Lib.hid (below_to BB5.out hb6); have HB6 := hstep8 HB5 hb6; have TH := Lib.hid (lTheirs A1 k1 c1 Z1 w6 (R14.out.below BB6.out) (by have h1 := R14.out.len; have h2 := pls_length Z1; rw [P1.out] at h2; have := FEW.out; omega)); clear hb6)
      | (go_at_call 16; (with_reducible refine TH.out.mono ?_); rintro e w7 ⟨A7, c7, rfl, hR7, hb7⟩; have BB7 := Lib.hid (below_to BB6.out hb7); have HB7 := hstep8 HB6 hb7; have SM := Lib.hid (rSamePts A7 A2 k1 c7 k2 c2 Z1 Z2 w7 hR7 (R24.out.below BB7.out) (by rw [P1.out, P2.out])); clear hR7 hb7)
      | (go_at_call 15; (with_reducible refine SM.out.mono ?_); rintro e w8 ⟨rfl, hb8⟩; have BB8 := Lib.hid (below_to BB7.out hb8); have HB8 := hstep8 HB7 hb8; clear hb8)
      | (go_at_call 17; (with_reducible refine (polSame C3 C4 m3 d3 m4 d4 _ _ w8 (I34.out.below BB8.out) (I4.out.below BB8.out) rfl).mono ?_); rintro e w9 ⟨rfl, hb9⟩; have HB9 := hstep8 HB8 hb9; clear hb9))
    go_ret
    exact ⟨by simp, HB9.out⟩
  · have hn2 : (60 : Int) < (n : Int) := by omega
    clear hT sm
    go_enter Tryd.func3, Tryd.ntmps3
    go_wp2_with (go_at_call 8; (with_reducible refine AW.out.mono ?_); rintro e w0 ⟨rfl, hb0⟩; have HB0 := Lib.hid hb0; clear hb0)
    go_ret
    exact ⟨rfl, HB0.out⟩
end Go.Proofs.YtekpifafjbkmiaaDoor

/- The statement 'FsqfParts', a tied card: for every input the law's function returns true and leaves its arguments as they were; the package-level tables that the row lists are laid as the program's text lays them. No conditions but the form's own. -/
namespace Go.Proofs.YtekpifafjbkmiaaDoor.lawFsqfPartsCard
open Go.ChangeShapes Go.WideShapes Go.ChangeAt Go.RowKit Go.ChangeMaps
set_option maxRecDepth 100000 in
theorem lifted (os : Os) (started : os.Started) (H : Type) (enc : TypeId × Value → H) :
    ReturnsInHanded {} Tryd.checked os 3 .any (fun w args => (Rows.fsqfPartsSpec.pre enc Tryd.prog Tryd.f3 Rows.fsqfPartsRow.domain false w args ∧ laidMetH Tryd.prog Rows.fsqfPartsRow.laid w) ∧ sizedMet enc Tryd.prog Tryd.f3 (OpenSpec.ofChange Rows.fsqfPartsSpec) false w args)
      (Rows.fsqfPartsSpec.post enc Tryd.prog Tryd.f3 false true false false) := by
  refine returnsInHanded_of_change_and (C := Tryd.checked) (X := fun w _ => laidMetH Tryd.prog Rows.fsqfPartsRow.laid w) (fun _ _ _ hh h => h.of_heap hh) own0 started (by kernel_rfl) Tryd.func3
    (ChangeSpec.witness_shaped (enc := enc) (C := Tryd.checked) (os := os) (X := fun w _ => laidMetH Tryd.prog Rows.fsqfPartsRow.laid w) false (World.laidAll Tryd.prog os Rows.fsqfPartsRow.laid) #[.slice none 0 0, .int .i64 0] 8 (World.laidAll_os _ _ _)
      (World.shaped_of_ZipB (by kernel_rfl) (by kernel_rfl)) (by kernel_rfl) (by kernel_rfl) (by kernel_rfl)
      (by rw [MakeChecks.laidMetH_plain _ _ _ (by kernel_rfl)]; exact laidMet_laidAll _ (by kernel_rfl) (by kernel_rfl))) ?_
  intro W base args ds gs before hval0 hW hcnd hsz0 hL hholds
  have hval : ∀ (j : Nat) t v, Tryd.f3.params[j]? = some t → args[j]? = some v → Value.okWide Tryd.prog W .any base t v := hval0
  have hW' := hW
  obtain ⟨p, q, hA0, hV, rfl, hfz, hnd⟩ := hW
  have hA : DataW.TrodAll enc Tryd.prog W 0 (fun _ => true) true Tryd.f3.params.toList args.toList ds p := hA0
  have hsz : (DataW.weightsEach Tryd.prog (Tryd.f3.params.toList ++ Rows.fsqfPartsSpec.plain.varTypes Tryd.prog) (ds ++ gs)).all (· ≤ reachBytes) = true := hsz0
  rw [Tryd.params3] at hA hval hsz
  obtain ⟨v0, vs0, d0, ds0, p0, q0, hargs, rfl, rfl, h0, r0⟩ := trodAll_cons hA
  obtain ⟨v1, vs1, d1, ds1, p1, q1, rfl, rfl, rfl, h1, r1⟩ := trodAll_cons r0
  obtain ⟨rfl, rfl, rfl⟩ := trodAll_nil r1
  obtain rfl : args = #[v0, v1] := by cases args; simp_all
  obtain ⟨rfl, rfl⟩ := trodVars_none hV
  obtain ⟨a0, len0, cap0, rfl⟩ := okWide_slice Tryd.underlying22 (hval 0 22 v0 rfl rfl)
  have k0 := h0
  have lt0 : ∀ x ∈ p0, x.block < W.heap.size := by obtain ⟨m, hm⟩ := k0; exact DataW.trod_lt m _ _ _ hm
  obtain ⟨x0, s0, b0⟩ := isl_open h0 hsz 0 rfl rfl
  obtain ⟨a1, rfl, rfl, rfl, w1⟩ := open_int Tryd.underlying3 (hval 1 3 v1 rfl rfl) h1
  clear hA0 hval0 hsz0 hsz
  refine (walkFsqfParts a0 len0 cap0 x0 a1 W (tab_of_laid hL) s0 b0 w1).mono fun e W' ⟨he, bel⟩ => ?_
  subst he
  exact ⟨_, rfl, _, _, _, [], _, [], hW', trodAll_mk1 (shut_bool Tryd.underlying4 _), (trodAll_cons_mk (Below.trod laidOut0 (by kernel_rfl) (of_decide_eq_true (by kernel_rfl)) k0 bel lt0) (trodAll_cons_mk (shut_int Tryd.underlying3 w1) trodAll_mk0)), rfl, bel.frame _, fun h => by cases h⟩
theorem over : Rows.fsqfPartsRow.holds Tryd.pinned (OpenSpec.ofChange Rows.fsqfPartsSpec) :=
  OpenClaim.holds_of_wide 3 Tryd.f3 rfl rfl rfl rfl rfl rfl rfl ⟨rfl, rfl, rfl, rfl, rfl⟩ rfl rfl rfl rfl rfl (by kernel_rfl) Tryd.func3 (by kernel_rfl)
    (of_decide_eq_true (by kernel_rfl)) (by unfold Func.isWrapper; first | (rw [if_pos (by decide +kernel)]; kernel_rfl) | (rw [if_neg (by decide +kernel)]; exact ⟨rfl, rfl⟩))
    (fun os started H enc _ => lifted os started H enc)
/-- The statement: the tied card. -/
theorem proved : Rows.FsqfPartsCardSaid :=
  Claim7.holds_tied_plain_at .later [] [.data] true Rows.fsqfPartsCard.stood.harness false over (fun _ h => by cases h) (by kernel_rfl) (fun _ h => by cases h) fsqfParts_row_tie rfl ⟨rfl, rfl⟩ (by kernel_rfl) rfl
    (fun f fn hf hfn => by
      obtain rfl : f = 3 := Option.some.inj ((show Tryd.prog.funcNamed "cleaver/cleaverlaw08.FsqfParts" = some 3 by kernel_rfl).symm.trans hf) |>.symm
      obtain rfl : fn = Tryd.f3 := (Option.some.inj (Tryd.func3.symm.trans hfn)).symm
      exact ⟨by kernel_rfl, fun j t ht => by
        rw [Tryd.params3] at ht
        have hm : t ∈ [22, 3] := by simpa using Array.mem_of_getElem? ht
        have hall : ([22, 3].all fun u => !Tryd.prog.wantsStandIn u) = true := by kernel_rfl
        exact (show Tryd.prog.wantsStandIn t = false by simpa using List.all_eq_true.1 hall t hm)⟩)
    (by kernel_rfl)
end Go.Proofs.YtekpifafjbkmiaaDoor.lawFsqfPartsCard

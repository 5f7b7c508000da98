/- The law FfacAll: its walk and its card. -/
import Derived.Test.YtnkhhndjbanmnaaGreatDoorMp45
import Derived.Test.YtnkhhndjbanmnaaGreatDoorMp46
import Derived.Test.YtnkhhndjbanmnaaGreatDoorTie
import Derived.Test.YtnkhhndjbanmnaaGreatDoorCards
import Derived.ChangeOld
import Derived.ChangeMaps5
import Derived.Lay
import Derived.LaidMore
import Derived.SevenTiedAt
import Derived.Stop.Joined
import Derived.Below

/- The law FfacAll, walked. -/
namespace Go.Proofs.YtnkhhndjbanmnaaGreatDoor
open Go.RowKit

theorem facN_irr {p : Int} {m : List Int} {L : PL} (hp : Pr p) (hm : Mn p m) (h : FacN p m L) : Irr p (cf m) ↔ ∃ f, L = [(f, 1)] := by
  constructor
  · intro hi
    refine ⟨m, h.uniq hp ⟨fun x hx => ?_, fun q hq hv => ?_, List.pairwise_singleton _ _⟩⟩
    · rw [List.mem_singleton.1 hx]
      exact ⟨hm, irr_two hm hi, hi, Nat.le_refl _, V_self hp hi⟩
    · refine ⟨(m, 1), List.mem_singleton.2 rfl, Classical.byContradiction fun k => ?_⟩
      have := V_other hp hq hi fun e => k e.symm
      omega
  · rintro ⟨f, rfl⟩
    obtain ⟨f1, _, f3, _, _⟩ := h.own (f, 1) (List.mem_singleton.2 rfl)
    have e : m = f := hm.ext hp f1 fun q hq => by
      rw [← h.vn hp hm q hq]
      show 1 * V p (cf f) q + 0 = V p (cf f) q
      omega
    rw [e]; exact f3
/-- How the document asks it. -/
theorem irrB_facs {p : Int} {xs : List Int} {L : PL} (h0 : eff p (cf xs) = 0) (h : FacN p (monL p (cf xs)) L) :
    (irrB p (cf xs) = true ∧ ∃ f, L = [(f, 1)]) ∨ (irrB p (cf xs) = false ∧ L.length ≠ 1) ∨ (irrB p (cf xs) = false ∧ ∃ f N, N ≠ 1 ∧ L = [(f, N)]) := by
  obtain ⟨hp, _, hm, _⟩ := eff_mn h0
  have hI := facN_irr hp hm h
  by_cases hi : Irr p (cf (monL p (cf xs)))
  · exact .inl ⟨(irrB_iff h0).2 hi, hI.1 hi⟩
  · have hb : irrB p (cf xs) = false := by
      cases hb : irrB p (cf xs) with
      | false => rfl
      | true => exact absurd ((irrB_iff h0).1 hb) hi
    by_cases hl : L.length = 1
    · obtain ⟨⟨f, N⟩, rfl⟩ := List.length_eq_one_iff.1 hl
      exact .inr (.inr ⟨hb, f, N, fun e => hi (hI.2 ⟨f, by rw [e]⟩), rfl⟩)
    · exact .inr (.inl ⟨hb, hl⟩)
set_option maxRecDepth 100000 in
set_option maxHeartbeats 8000000 in
theorem walkFfacAll (A : Option Addr) (n c : Nat) (xs : List Int) (p : Int) (B : Option Addr) (n1 c1 : Nat) (ds : List Int) (w : World) (hT : TabAt w) (sm : ISl w A n c xs) (_ : n ≤ 17592186044416) (wp : (Lit.int .i64 p).wf = true) (sm1 : ISl w B n1 c1 ds) (_ : n1 ≤ 17592186044416) :
    Calls Tryz.prog 3 #[.slice A n c, .int .i64 p, .slice B n1 c1] w fun e w' => e = .returned (.bool true) ∧ Below w.heap.size w w' := by
  have ip : In64 p := int_wf wp
  have hle := sm.le
  have hmx := sm.max
  have hle1 := sm1.le
  have hmx1 := sm1.max
  have AW := Lib.hid (awake09 w hT)
  have WR := Lib.hid (fun W (hb : Below w.heap.size w W) => rWrong9 A n c xs p W (sm.below hb) ip (by omega))
  have FC := Lib.hid (fun W (hb : Below w.heap.size w W) => gFacs A B n c n1 c1 xs ds p W (hT.below hb) (sm.below hb) (sm1.below hb) ip (by omega))
  have IR := Lib.hid (fun W (hb : Below w.heap.size w W) => gIrr A n c xs p W (hT.below hb) (sm.below hb) ip (by omega))
  by_cases h0 : eff p (cf xs) = 0
  · have hp2 := (eff_mn h0).1.1
    have hp3 := (eff_mn h0).1.2.1
    have CH := Lib.hid (fun W => lCheap A n c p W hp2 hp3)
    rw [h0] at WR FC IR
    by_cases hn : n ≤ 30
    · have RF := Lib.hid (fun W (hb : Below w.heap.size w W) => rFacs A n c xs p W (sm.below hb) ip (by omega) h0)
      have hL : FacN p (monL p (cf xs)) (facL p (cf xs)) := by
        obtain ⟨e, w', fr, ⟨A', k, c', Z, _, _, _, h4, _, _⟩, _⟩ := gFacs A B n c n1 c1 xs ds p w hT sm sm1 ip (by omega) []
        exact h4 h0
      generalize facL p (cf xs) = L at *
      have UQ := Lib.hid (fun K (hK : FacN p (monL p (cf xs)) K) => hK.uniq (eff_mn h0).1 hL)
      have ID := irrB_facs h0 hL
      clear sm sm1 hT wp ip hp2 hp3 h0 hL
      rcases ID with ⟨hi, f, rfl⟩ | ⟨hi, hl⟩ | ⟨hi, f, N, hN, rfl⟩
      · rw [hi] at IR
        go_enter Tryz.func3, Tryz.ntmps3
        go_wp2_with (first
          | (go_at_call 10; (with_reducible refine AW.out.mono ?_); rintro e w0 ⟨rfl, hb0⟩; have HB := Lib.hid hb0; clear hb0)
          | (go_at_call 11; (with_reducible refine (WR.out _ HB.out).mono ?_); rintro e w1 ⟨rfl, hb1⟩; have HB := hstep9 HB hb1; clear hb1)
          | (go_at_call 16; (with_reducible refine (CH.out _).mono ?_); rintro e w11 ⟨⟨b11, rfl, -⟩, hb11⟩; have HB := hstep9 HB hb11; clear hb11)
          | (go_at_call 12; (with_reducible refine (FC.out _ HB.out).mono ?_); rintro e w2 ⟨A1, k1, d1, Z1, rfl, hr1, hp1, -, hk1, hb2⟩; have RD1 := Lib.hid hr1; have PL1 := Lib.hid hp1; have HB := hstep9 HB hb2; clear hr1 hp1 hb2 FC)
          | (go_at_call 17; (with_reducible refine (RF.out _ HB.out).mono ?_); rintro e w3 ⟨A9, k9, c9, Z9, rfl, hr9, hf9, hb3⟩; have UQ9 := Lib.hid (UQ.out _ hf9); have RD13 := Lib.hid (RD1.out.below hb3); have RD9 := Lib.hid hr9; have hk9 := hr9.le; have hm9 := hr9.max; obtain ⟨z9, rfl⟩ : ∃ z, Z9 = [z] := List.length_eq_one_iff.1 (by have h7 := congrArg List.length UQ9.out; rw [pls_length] at h7; exact h7); obtain rfl : k9 = 1 := hr9.len; have h8 := (List.cons.inj (show [z9.pl] = _ from UQ9.out)).1; have hZN : z9.N = 1 := congrArg Prod.snd h8; obtain ⟨b9, o9, rfl, hl9, hc9⟩ := hr9.open_ (by omega); have h10 := (hc9 0 (by simp)).2; have cz : w3.cell? ⟨b9, o9 + 1, none⟩ = some (.int .i64 (1)) := (by rw [Nat.zero_mul, Nat.add_zero] at h10; rw [h10]; show some (Value.int .i64 (z9.N : Int)) = _; rw [hZN]; rfl); have HB := hstep9 HB hb3; clear hr9 hf9 hb3 RF)
          | (go_at_call 13; (with_reducible refine (IR.out _ HB.out).mono ?_); rintro e w4 ⟨rfl, hb4⟩; have RD14 := Lib.hid (RD13.out.below hb4); have RD94 := Lib.hid (RD9.out.below hb4); have cz4 : w4.cell? ⟨b9, o9 + 1, none⟩ = _ := (hb4.cell (p := ⟨b9, o9 + 1, none⟩) hl9).trans cz; have hl4 := Nat.lt_of_lt_of_le hl9 hb4.size; have TH := Lib.hid (lTheirs9 A1 k1 d1 Z1 w4 RD14.out (by omega)); have HB := hstep9 HB hb4; clear hb4)
          | (go_at_call 19; (with_reducible refine TH.out.mono ?_); rintro e w5 ⟨A3, d3, rfl, hr3, hb5⟩; have RD95 := Lib.hid (RD94.out.below hb5); have cz5 : w5.cell? ⟨b9, o9 + 1, none⟩ = _ := (hb5.cell (p := ⟨b9, o9 + 1, none⟩) hl4).trans cz4; have hl5 := Nat.lt_of_lt_of_le hl4 hb5.size; have SM := Lib.hid (rSame9 A3 _ k1 d3 _ c9 Z1 _ w5 hr3 RD95.out (by rw [PL1.out, UQ9.out])); have HB := hstep9 HB hb5; clear hr3 hb5 TH)
          | (go_at_call 18; (with_reducible refine SM.out.mono ?_); rintro e w6 ⟨rfl, hb6⟩; have cz6 : w6.cell? ⟨b9, o9 + 1, none⟩ = _ := (hb6.cell (p := ⟨b9, o9 + 1, none⟩) hl5).trans cz5; have hl6 := Nat.lt_of_lt_of_le hl5 hb6.size; have HB := hstep9 HB hb6; clear hb6)
          | fail)
        all_goals
          go_ret
          exact ⟨rfl, HB.out⟩
      · rw [hi] at IR
        have HL := Lib.hid hl
        go_enter Tryz.func3, Tryz.ntmps3
        go_wp2_with (first
          | (go_at_call 10; (with_reducible refine AW.out.mono ?_); rintro e w0 ⟨rfl, hb0⟩; have HB := Lib.hid hb0; clear hb0)
          | (go_at_call 11; (with_reducible refine (WR.out _ HB.out).mono ?_); rintro e w1 ⟨rfl, hb1⟩; have HB := hstep9 HB hb1; clear hb1)
          | (go_at_call 16; (with_reducible refine (CH.out _).mono ?_); rintro e w11 ⟨⟨b11, rfl, -⟩, hb11⟩; have HB := hstep9 HB hb11; clear hb11)
          | (go_at_call 12; (with_reducible refine (FC.out _ HB.out).mono ?_); rintro e w2 ⟨A1, k1, d1, Z1, rfl, hr1, hp1, -, hk1, hb2⟩; have RD1 := Lib.hid hr1; have PL1 := Lib.hid hp1; have HB := hstep9 HB hb2; clear hr1 hp1 hb2 FC)
          | (go_at_call 17; (with_reducible refine (RF.out _ HB.out).mono ?_); rintro e w3 ⟨A9, k9, c9, Z9, rfl, hr9, hf9, hb3⟩; have UQ9 := Lib.hid (UQ.out _ hf9); have RD13 := Lib.hid (RD1.out.below hb3); have RD9 := Lib.hid hr9; have hk9 := hr9.le; have hm9 := hr9.max; have kk : ((k9 : Int) == 1) = false := (by have h7 := congrArg List.length UQ9.out; rw [pls_length, ← hr9.len] at h7; have := HL.out; simp; omega); have HB := hstep9 HB hb3; clear hr9 hf9 hb3 RF)
          | (go_at_call 13; (with_reducible refine (IR.out _ HB.out).mono ?_); rintro e w4 ⟨rfl, hb4⟩; have RD14 := Lib.hid (RD13.out.below hb4); have RD94 := Lib.hid (RD9.out.below hb4); have TH := Lib.hid (lTheirs9 A1 k1 d1 Z1 w4 RD14.out (by omega)); have HB := hstep9 HB hb4; clear hb4)
          | (go_at_call 19; (with_reducible refine TH.out.mono ?_); rintro e w5 ⟨A3, d3, rfl, hr3, hb5⟩; have RD95 := Lib.hid (RD94.out.below hb5); have SM := Lib.hid (rSame9 A3 _ k1 d3 _ c9 Z1 _ w5 hr3 RD95.out (by rw [PL1.out, UQ9.out])); have HB := hstep9 HB hb5; clear hr3 hb5 TH)
          | (go_at_call 18; (with_reducible refine SM.out.mono ?_); rintro e w6 ⟨rfl, hb6⟩; have HB := hstep9 HB hb6; clear hb6)
          | fail)
        all_goals
          go_ret
          exact ⟨rfl, HB.out⟩
      · rw [hi] at IR
        have HN := Lib.hid hN
        go_enter Tryz.func3, Tryz.ntmps3
        go_wp2_with (first
          | (go_at_call 10; (with_reducible refine AW.out.mono ?_); rintro e w0 ⟨rfl, hb0⟩; have HB := Lib.hid hb0; clear hb0)
          | (go_at_call 11; (with_reducible refine (WR.out _ HB.out).mono ?_); rintro e w1 ⟨rfl, hb1⟩; have HB := hstep9 HB hb1; clear hb1)
          | (go_at_call 16; (with_reducible refine (CH.out _).mono ?_); rintro e w11 ⟨⟨b11, rfl, -⟩, hb11⟩; have HB := hstep9 HB hb11; clear hb11)
          | (go_at_call 12; (with_reducible refine (FC.out _ HB.out).mono ?_); rintro e w2 ⟨A1, k1, d1, Z1, rfl, hr1, hp1, -, hk1, hb2⟩; have RD1 := Lib.hid hr1; have PL1 := Lib.hid hp1; have HB := hstep9 HB hb2; clear hr1 hp1 hb2 FC)
          | (go_at_call 17; (with_reducible refine (RF.out _ HB.out).mono ?_); rintro e w3 ⟨A9, k9, c9, Z9, rfl, hr9, hf9, hb3⟩; have UQ9 := Lib.hid (UQ.out _ hf9); have RD13 := Lib.hid (RD1.out.below hb3); have RD9 := Lib.hid hr9; have hk9 := hr9.le; have hm9 := hr9.max; obtain ⟨z9, rfl⟩ : ∃ z, Z9 = [z] := List.length_eq_one_iff.1 (by have h7 := congrArg List.length UQ9.out; rw [pls_length] at h7; exact h7); obtain rfl : k9 = 1 := hr9.len; have h8 := (List.cons.inj (show [z9.pl] = _ from UQ9.out)).1; have hZN : z9.N = N := congrArg Prod.snd h8; obtain ⟨b9, o9, rfl, hl9, hc9⟩ := hr9.open_ (by omega); have h10 := (hc9 0 (by simp)).2; have cz : w3.cell? ⟨b9, o9 + 1, none⟩ = some (.int .i64 ((N : Int))) := (by rw [Nat.zero_mul, Nat.add_zero] at h10; rw [h10]; show some (Value.int .i64 (z9.N : Int)) = _; rw [hZN]); have nz : ((N : Int) == 1) = false := (by have := HN.out; simp; omega); have HB := hstep9 HB hb3; clear hr9 hf9 hb3 RF)
          | (go_at_call 13; (with_reducible refine (IR.out _ HB.out).mono ?_); rintro e w4 ⟨rfl, hb4⟩; have RD14 := Lib.hid (RD13.out.below hb4); have RD94 := Lib.hid (RD9.out.below hb4); have cz4 : w4.cell? ⟨b9, o9 + 1, none⟩ = _ := (hb4.cell (p := ⟨b9, o9 + 1, none⟩) hl9).trans cz; have hl4 := Nat.lt_of_lt_of_le hl9 hb4.size; have TH := Lib.hid (lTheirs9 A1 k1 d1 Z1 w4 RD14.out (by omega)); have HB := hstep9 HB hb4; clear hb4)
          | (go_at_call 19; (with_reducible refine TH.out.mono ?_); rintro e w5 ⟨A3, d3, rfl, hr3, hb5⟩; have RD95 := Lib.hid (RD94.out.below hb5); have cz5 : w5.cell? ⟨b9, o9 + 1, none⟩ = _ := (hb5.cell (p := ⟨b9, o9 + 1, none⟩) hl4).trans cz4; have hl5 := Nat.lt_of_lt_of_le hl4 hb5.size; have SM := Lib.hid (rSame9 A3 _ k1 d3 _ c9 Z1 _ w5 hr3 RD95.out (by rw [PL1.out, UQ9.out])); have HB := hstep9 HB hb5; clear hr3 hb5 TH)
          | (go_at_call 18; (with_reducible refine SM.out.mono ?_); rintro e w6 ⟨rfl, hb6⟩; have cz6 : w6.cell? ⟨b9, o9 + 1, none⟩ = _ := (hb6.cell (p := ⟨b9, o9 + 1, none⟩) hl5).trans cz5; have hl6 := Nat.lt_of_lt_of_le hl5 hb6.size; have HB := hstep9 HB hb6; clear hb6)
          | fail)
        all_goals
          go_ret
          exact ⟨rfl, HB.out⟩
    · have CH2 : Hid (∀ W, Calls Tryz.prog 16 #[.slice A n c, .int .i64 p] W fun e w' => e = .returned (.bool false) ∧ Below W.heap.size W w') := Lib.hid fun W => (CH.out W).mono fun e w' ⟨⟨b, h1, h2⟩, h3⟩ => ⟨by
        cases b with
        | false => exact h1
        | true => exact absurd (h2 rfl) hn, h3⟩
      clear sm sm1 hT wp ip h0 CH
      go_enter Tryz.func3, Tryz.ntmps3
      go_wp2_with (first
        | (go_at_call 10; (with_reducible refine AW.out.mono ?_); rintro e w0 ⟨rfl, hb0⟩; have HB := Lib.hid hb0; clear hb0)
        | (go_at_call 11; (with_reducible refine (WR.out _ HB.out).mono ?_); rintro e w1 ⟨rfl, hb1⟩; have HB := hstep9 HB hb1; clear hb1)
        | (go_at_call 16; (with_reducible refine (CH2.out _).mono ?_); rintro e w11 ⟨rfl, hb11⟩; have HB := hstep9 HB hb11; clear hb11)
        | fail)
      go_ret
      exact ⟨rfl, HB.out⟩
  · have e1 := esf_no h0
    have SN := Lib.hid (fun W (hb : Below w.heap.size w W) => gSplitNo A B n c n1 c1 xs p W (hT.below hb) (sm.below hb) ip (by omega) (esf_ne h0))
    have DN := Lib.hid (fun W (hb : Below w.heap.size w W) => gDegNo A n c xs p W (hT.below hb) (sm.below hb) ip (by omega) (esf_ne h0))
    rw [e1] at SN DN
    have hu : ((eff p (cf xs)) != 0) = true := by simpa using h0
    generalize eff p (cf xs) = u at *
    generalize irrB p (cf xs) = bi at *
    clear sm sm1 hT wp ip e1
    go_enter Tryz.func3, Tryz.ntmps3
    go_wp2_with (first
      | (go_at_call 10; (with_reducible refine AW.out.mono ?_); rintro e w0 ⟨rfl, hb0⟩; have HB := Lib.hid hb0; clear hb0)
      | (go_at_call 11; (with_reducible refine (WR.out _ HB.out).mono ?_); rintro e w1 ⟨rfl, hb1⟩; have HB := hstep9 HB hb1; clear hb1)
      | (go_at_call 12; (with_reducible refine (FC.out _ HB.out).mono ?_); rintro e w2 ⟨A1, k1, d1, Z1, rfl, -, -, -, -, hb2⟩; have HB := hstep9 HB hb2; clear hb2)
      | (go_at_call 13; (with_reducible refine (IR.out _ HB.out).mono ?_); rintro e w4 ⟨rfl, hb4⟩; have HB := hstep9 HB hb4; clear hb4)
      | (go_at_call 14; (with_reducible refine (SN.out _ HB.out).mono ?_); rintro e w4 ⟨rfl, hb4⟩; have HB := hstep9 HB hb4; clear hb4)
      | (go_at_call 15; (with_reducible refine (DN.out _ HB.out).mono ?_); rintro e w4 ⟨rfl, hb4⟩; have HB := hstep9 HB hb4; clear hb4)
      | fail)
    go_ret
    exact ⟨by simp, HB.out⟩
end Go.Proofs.YtnkhhndjbanmnaaGreatDoor

/- The statement 'FfacAll', a tied card: for every input the law's function returns true and leaves its arguments as they were; the package-level tables that the row lists are laid as the program's text lays them. No conditions but the form's own. -/
namespace Go.Proofs.YtnkhhndjbanmnaaGreatDoor.lawFfacAllCard
open Go.ChangeShapes Go.WideShapes Go.ChangeAt Go.RowKit Go.ChangeMaps
set_option maxRecDepth 100000 in
theorem lifted (os : Os) (started : os.Started) (H : Type) (enc : TypeId × Value → H) :
    ReturnsInHanded {} Tryz.checked os 3 .any (fun w args => (Rows.ffacAllSpec.pre enc Tryz.prog Tryz.f3 Rows.ffacAllRow.domain false w args ∧ laidMetH Tryz.prog Rows.ffacAllRow.laid w) ∧ sizedMet enc Tryz.prog Tryz.f3 (OpenSpec.ofChange Rows.ffacAllSpec) false w args)
      (Rows.ffacAllSpec.post enc Tryz.prog Tryz.f3 false true false false) := by
  refine returnsInHanded_of_change_and (C := Tryz.checked) (X := fun w _ => laidMetH Tryz.prog Rows.ffacAllRow.laid w) (fun _ _ _ hh h => h.of_heap hh) own0 started (by kernel_rfl) Tryz.func3
    (ChangeSpec.witness_shaped (enc := enc) (C := Tryz.checked) (os := os) (X := fun w _ => laidMetH Tryz.prog Rows.ffacAllRow.laid w) false (World.laidAll Tryz.prog os Rows.ffacAllRow.laid) #[.slice none 0 0, .int .i64 0, .slice none 0 0] 8 (World.laidAll_os _ _ _)
      (World.shaped_of_ZipB (by kernel_rfl) (by kernel_rfl)) (by kernel_rfl) (by kernel_rfl) (by kernel_rfl)
      (by rw [MakeChecks.laidMetH_plain _ _ _ (by kernel_rfl)]; exact laidMet_laidAll _ (by kernel_rfl) (by kernel_rfl))) ?_
  intro W base args ds gs before hval0 hW hcnd hsz0 hL hholds
  have hval : ∀ (j : Nat) t v, Tryz.f3.params[j]? = some t → args[j]? = some v → Value.okWide Tryz.prog W .any base t v := hval0
  have hW' := hW
  obtain ⟨p, q, hA0, hV, rfl, hfz, hnd⟩ := hW
  have hA : DataW.TrodAll enc Tryz.prog W 0 (fun _ => true) true Tryz.f3.params.toList args.toList ds p := hA0
  have hsz : (DataW.weightsEach Tryz.prog (Tryz.f3.params.toList ++ Rows.ffacAllSpec.plain.varTypes Tryz.prog) (ds ++ gs)).all (· ≤ reachBytes) = true := hsz0
  rw [Tryz.params3] at hA hval hsz
  obtain ⟨v0, vs0, d0, ds0, p0, q0, hargs, rfl, rfl, h0, r0⟩ := trodAll_cons hA
  obtain ⟨v1, vs1, d1, ds1, p1, q1, rfl, rfl, rfl, h1, r1⟩ := trodAll_cons r0
  obtain ⟨v2, vs2, d2, ds2, p2, q2, rfl, rfl, rfl, h2, r2⟩ := trodAll_cons r1
  obtain ⟨rfl, rfl, rfl⟩ := trodAll_nil r2
  obtain rfl : args = #[v0, v1, v2] := by cases args; simp_all
  obtain ⟨rfl, rfl⟩ := trodVars_none hV
  obtain ⟨a0, len0, cap0, rfl⟩ := okWide_slice Tryz.underlying22 (hval 0 22 v0 rfl rfl)
  have k0 := h0
  have lt0 : ∀ x ∈ p0, x.block < W.heap.size := by obtain ⟨m, hm⟩ := k0; exact DataW.trod_lt m _ _ _ hm
  obtain ⟨x0, s0, b0⟩ := isl_open h0 hsz 0 rfl rfl
  obtain ⟨a1, rfl, rfl, rfl, w1⟩ := open_int Tryz.underlying3 (hval 1 3 v1 rfl rfl) h1
  obtain ⟨a2, len2, cap2, rfl⟩ := okWide_slice Tryz.underlying22 (hval 2 22 v2 rfl rfl)
  have k2 := h2
  have lt2 : ∀ x ∈ p2, x.block < W.heap.size := by obtain ⟨m, hm⟩ := k2; exact DataW.trod_lt m _ _ _ hm
  obtain ⟨x2, s2, b2⟩ := isl_open h2 hsz 2 rfl rfl
  clear hA0 hval0 hsz0 hsz
  refine (walkFfacAll a0 len0 cap0 x0 a1 a2 len2 cap2 x2 W (tab_of_laid hL) s0 b0 w1 s2 b2).mono fun e W' ⟨he, bel⟩ => ?_
  subst he
  exact ⟨_, rfl, _, _, _, [], _, [], hW', trodAll_mk1 (shut_bool Tryz.underlying4 _), (trodAll_cons_mk (Below.trod laidOut0 (by kernel_rfl) (of_decide_eq_true (by kernel_rfl)) k0 bel lt0) (trodAll_cons_mk (shut_int Tryz.underlying3 w1) (trodAll_cons_mk (Below.trod laidOut0 (by kernel_rfl) (of_decide_eq_true (by kernel_rfl)) k2 bel lt2) trodAll_mk0))), rfl, bel.frame _, fun h => by cases h⟩
theorem over : Rows.ffacAllRow.holds Tryz.pinned (OpenSpec.ofChange Rows.ffacAllSpec) :=
  OpenClaim.holds_of_wide 3 Tryz.f3 rfl rfl rfl rfl rfl rfl rfl ⟨rfl, rfl, rfl, rfl, rfl⟩ rfl rfl rfl rfl rfl (by kernel_rfl) Tryz.func3 (by kernel_rfl)
    (of_decide_eq_true (by kernel_rfl)) (by unfold Func.isWrapper; first | (rw [if_pos (by decide +kernel)]; kernel_rfl) | (rw [if_neg (by decide +kernel)]; exact ⟨rfl, rfl⟩))
    (fun os started H enc _ => lifted os started H enc)
/-- The statement: the tied card. -/
theorem proved : Rows.FfacAllCardSaid :=
  Claim7.holds_tied_plain_at .later [] [.data] true Rows.ffacAllCard.stood.harness false over (fun _ h => by cases h) (by kernel_rfl) (fun _ h => by cases h) ffacAll_row_tie rfl ⟨rfl, rfl⟩ (by kernel_rfl) rfl
    (fun f fn hf hfn => by
      obtain rfl : f = 3 := Option.some.inj ((show Tryz.prog.funcNamed "cleaver/cleaverlaw09.FfacAll" = some 3 by kernel_rfl).symm.trans hf) |>.symm
      obtain rfl : fn = Tryz.f3 := (Option.some.inj (Tryz.func3.symm.trans hfn)).symm
      exact ⟨by kernel_rfl, fun j t ht => by
        rw [Tryz.params3] at ht
        have hm : t ∈ [22, 3, 22] := by simpa using Array.mem_of_getElem? ht
        have hall : ([22, 3, 22].all fun u => !Tryz.prog.wantsStandIn u) = true := by kernel_rfl
        exact (show Tryz.prog.wantsStandIn t = false by simpa using List.all_eq_true.1 hall t hm)⟩)
    (by kernel_rfl)
end Go.Proofs.YtnkhhndjbanmnaaGreatDoor.lawFfacAllCard

/- The law FfacField: its walk and its card. -/
import Derived.Test.YtnkhhndjbanmnaaGreatDoorMp42
import Derived.Test.YtnkhhndjbanmnaaGreatDoorMp45
import Derived.Test.YtnkhhndjbanmnaaGreatDoorMp46
import Derived.Test.YtnkhhndjbanmnaaGreatDoorTie
import Derived.Test.YtnkhhndjbanmnaaGreatDoorCards
import Derived.ChangeOld
import Derived.ChangeMaps5
import Derived.Lay
import Derived.LaidMore
import Derived.SevenTiedAt
import Derived.Stop.Joined
import Derived.Below

/- The law FfacField, walked. -/
namespace Go.Proofs.YtnkhhndjbanmnaaGreatDoor
open Go.RowKit

theorem fld_eff {P : Nat} (hp : Pr (P : Int)) (h61 : P ≤ 61) : eff P (cf (fldL P)) = 0 := by
  have h2 : 2 ≤ P := by have := hp.1; omega
  have hl := fld_last hp h2
  exact eff_yes hp hl.some (by rw [(mn_mon hp hl).2.1]; omega)
theorem fld_call {P : Nat} (hm : P ∈ [2, 3, 5, 7, 11, 13, 31, 61]) (A D : Option Addr) (c nd cd : Nat) (ds : List Int) (w : World) (hT : TabAt w) (h : ISl w A (P + 1) c (fldL P)) (hD : ISl w D nd cd ds) :
    Calls Tryz.prog 12 #[.slice A (P + 1) c, .int .i64 (P : Int), .slice D nd cd] w fun e w' => ∃ A' c' Z, e = .returned (.tuple #[.slice A' P c', .int .i64 0]) ∧ PRd w' A' P c' Z ∧ pls Z = linsL P ∧ Below w.heap.size w w' := by
  have hp := prs hm
  have h61 : P ≤ 61 := by
    simp only [List.mem_cons, List.not_mem_nil, or_false] at hm
    omega
  have e0 := fld_eff hp h61
  refine (gFacs A D (P + 1) c nd cd _ ds P w hT h hD hp.md.in64 (by omega)).mono ?_
  rintro e w' ⟨A', k, c', Z, rfl, h1, h2, _, _, h3⟩
  rw [facL_is e0 (fld_facs hp)] at h2
  obtain rfl : k = P := by rw [h1.len, ← pls_length, h2, linsL_len]
  exact ⟨A', c', Z, by rw [e0], h1, h2, h3⟩
theorem lins_at {P : Nat} {Z : List Pt} (h : pls Z = linsL P) {i : Nat} (hi : i < Z.length) : Z[i].xs = [(i : Int), 1] ∧ Z[i].N = 1 := by
  have e1 : (pls Z)[i]? = (linsL P)[i]? := by rw [h]
  have hl : i < (linsL P).length := by rw [← h, pls_length]; exact hi
  rw [List.getElem?_eq_getElem hl, linsL_at hl] at e1
  unfold pls at e1
  rw [List.getElem?_map, List.getElem?_eq_getElem hi] at e1
  simp only [Option.map_some, Option.some.injEq, Pt.pl, Prod.mk.injEq] at e1
  exact e1
theorem fi_two {x y : Int} (h : -100 ≤ x ∧ x ≤ 100) (k : -100 ≤ y ∧ y ≤ 100) : Fi [x, y] := fun z hz => by
  simp only [List.mem_cons, List.not_mem_nil, or_false] at hz
  rcases hz with rfl | rfl
  · exact in64_s h
  · exact in64_s k
set_option maxRecDepth 100000 in
set_option maxHeartbeats 40000000 in
theorem walkFfacField (n : Int) (B : Option Addr) (n1 c1 : Nat) (ds : List Int) (w : World) (hT : TabAt w) (_ : (Lit.int .i64 n).wf = true) (sm1 : ISl w B n1 c1 ds) (_ : n1 ≤ 17592186044416) :
    Calls Tryz.prog 9 #[.int .i64 n, .slice B n1 c1] w fun e w' => e = .returned (.bool true) ∧ Below w.heap.size w w' := by
  have AW := Lib.hid (awake09 w hT)
  have HT := Lib.hid hT
  have HD := Lib.hid sm1
  have hle1 := sm1.le
  have hmx1 := sm1.max
  clear hT sm1
  by_cases hbig : (1000 : Int) < (n1 : Int)
  · go_enter Tryz.func9, Tryz.ntmps9
    go_wp2_with (first
      | (go_at_call 10; (with_reducible refine AW.out.mono ?_); rintro e w0 ⟨rfl, hb0⟩; have HB := Lib.hid hb0; clear hb0)
      | (go_at_call 12; refine Calls.mono C5.out ?_; rintro e w5 ⟨A5, d5, Z, rfl, hrd, hpl, hb5⟩; have RD := Lib.hid hrd; have PL := Lib.hid hpl; have HB5 := hstep9 HB4 hb5; have hdl := hrd.le; have hdm := hrd.max; clear hrd hpl hb5)
      | (at_make; first
        | (refine wpList_make_ints _ rfl _ _ rfl _ _ _ _ 4 rfl rfl rfl rfl (by omega) ?_; intro w3 hk3 hb3; have hc3 := hk3.cellD 1 (by simp); have hf3 := hk3.frozen 1; have k4 := hk3.set_ 1 (-1) (in64_s (by decide)); have hc4 := k4.cellD 3 (by simp); have hf4 := k4.frozen 3; have K5 := Lib.hid (k4.set_ 3 1 (in64_s (by decide))); have hb4 := (hb3.setCell (p := ⟨w0.heap.size, 1, none⟩) (Nat.le_refl _) (iv (-1))).setCell (p := ⟨w0.heap.size, 3, none⟩) (Nat.le_refl _) (iv 1); have HB4 := hstep9 HB hb4; have C5 := Lib.hid (fld_call (P := 3) (by decide) _ B _ n1 c1 ds _ (HT.out.below HB4.out) (K5.out.sl (by simp)) (HD.out.below HB4.out)); clear hk3 hb3 k4 hb4)
        | (refine wpList_make_ints _ rfl _ _ rfl _ _ _ _ 6 rfl rfl rfl rfl (by omega) ?_; intro w3 hk3 hb3; have hc3 := hk3.cellD 1 (by simp); have hf3 := hk3.frozen 1; have k4 := hk3.set_ 1 (-1) (in64_s (by decide)); have hc4 := k4.cellD 5 (by simp); have hf4 := k4.frozen 5; have K5 := Lib.hid (k4.set_ 5 1 (in64_s (by decide))); have hb4 := (hb3.setCell (p := ⟨w0.heap.size, 1, none⟩) (Nat.le_refl _) (iv (-1))).setCell (p := ⟨w0.heap.size, 5, none⟩) (Nat.le_refl _) (iv 1); have HB4 := hstep9 HB hb4; have C5 := Lib.hid (fld_call (P := 5) (by decide) _ B _ n1 c1 ds _ (HT.out.below HB4.out) (K5.out.sl (by simp)) (HD.out.below HB4.out)); clear hk3 hb3 k4 hb4)
        | (refine wpList_make_ints _ rfl _ _ rfl _ _ _ _ 8 rfl rfl rfl rfl (by omega) ?_; intro w3 hk3 hb3; have hc3 := hk3.cellD 1 (by simp); have hf3 := hk3.frozen 1; have k4 := hk3.set_ 1 (-1) (in64_s (by decide)); have hc4 := k4.cellD 7 (by simp); have hf4 := k4.frozen 7; have K5 := Lib.hid (k4.set_ 7 1 (in64_s (by decide))); have hb4 := (hb3.setCell (p := ⟨w0.heap.size, 1, none⟩) (Nat.le_refl _) (iv (-1))).setCell (p := ⟨w0.heap.size, 7, none⟩) (Nat.le_refl _) (iv 1); have HB4 := hstep9 HB hb4; have C5 := Lib.hid (fld_call (P := 7) (by decide) _ B _ n1 c1 ds _ (HT.out.below HB4.out) (K5.out.sl (by simp)) (HD.out.below HB4.out)); clear hk3 hb3 k4 hb4)
        | (refine wpList_make_ints _ rfl _ _ rfl _ _ _ _ 12 rfl rfl rfl rfl (by omega) ?_; intro w3 hk3 hb3; have hc3 := hk3.cellD 1 (by simp); have hf3 := hk3.frozen 1; have k4 := hk3.set_ 1 (-1) (in64_s (by decide)); have hc4 := k4.cellD 11 (by simp); have hf4 := k4.frozen 11; have K5 := Lib.hid (k4.set_ 11 1 (in64_s (by decide))); have hb4 := (hb3.setCell (p := ⟨w0.heap.size, 1, none⟩) (Nat.le_refl _) (iv (-1))).setCell (p := ⟨w0.heap.size, 11, none⟩) (Nat.le_refl _) (iv 1); have HB4 := hstep9 HB hb4; have C5 := Lib.hid (fld_call (P := 11) (by decide) _ B _ n1 c1 ds _ (HT.out.below HB4.out) (K5.out.sl (by simp)) (HD.out.below HB4.out)); clear hk3 hb3 k4 hb4)
        | (refine wpList_make_ints _ rfl _ _ rfl _ _ _ _ 14 rfl rfl rfl rfl (by omega) ?_; intro w3 hk3 hb3; have hc3 := hk3.cellD 1 (by simp); have hf3 := hk3.frozen 1; have k4 := hk3.set_ 1 (-1) (in64_s (by decide)); have hc4 := k4.cellD 13 (by simp); have hf4 := k4.frozen 13; have K5 := Lib.hid (k4.set_ 13 1 (in64_s (by decide))); have hb4 := (hb3.setCell (p := ⟨w0.heap.size, 1, none⟩) (Nat.le_refl _) (iv (-1))).setCell (p := ⟨w0.heap.size, 13, none⟩) (Nat.le_refl _) (iv 1); have HB4 := hstep9 HB hb4; have C5 := Lib.hid (fld_call (P := 13) (by decide) _ B _ n1 c1 ds _ (HT.out.below HB4.out) (K5.out.sl (by simp)) (HD.out.below HB4.out)); clear hk3 hb3 k4 hb4)
        | (refine wpList_make_ints _ rfl _ _ rfl _ _ _ _ 32 rfl rfl rfl rfl (by omega) ?_; intro w3 hk3 hb3; have hc3 := hk3.cellD 1 (by simp); have hf3 := hk3.frozen 1; have k4 := hk3.set_ 1 (-1) (in64_s (by decide)); have hc4 := k4.cellD 31 (by simp); have hf4 := k4.frozen 31; have K5 := Lib.hid (k4.set_ 31 1 (in64_s (by decide))); have hb4 := (hb3.setCell (p := ⟨w0.heap.size, 1, none⟩) (Nat.le_refl _) (iv (-1))).setCell (p := ⟨w0.heap.size, 31, none⟩) (Nat.le_refl _) (iv 1); have HB4 := hstep9 HB hb4; have C5 := Lib.hid (fld_call (P := 31) (by decide) _ B _ n1 c1 ds _ (HT.out.below HB4.out) (K5.out.sl (by simp)) (HD.out.below HB4.out)); clear hk3 hb3 k4 hb4)
        | (refine wpList_make_ints _ rfl _ _ rfl _ _ _ _ 62 rfl rfl rfl rfl (by omega) ?_; intro w3 hk3 hb3; have hc3 := hk3.cellD 1 (by simp); have hf3 := hk3.frozen 1; have k4 := hk3.set_ 1 (-1) (in64_s (by decide)); have hc4 := k4.cellD 61 (by simp); have hf4 := k4.frozen 61; have K5 := Lib.hid (k4.set_ 61 1 (in64_s (by decide))); have hb4 := (hb3.setCell (p := ⟨w0.heap.size, 1, none⟩) (Nat.le_refl _) (iv (-1))).setCell (p := ⟨w0.heap.size, 61, none⟩) (Nat.le_refl _) (iv 1); have HB4 := hstep9 HB hb4; have C5 := Lib.hid (fld_call (P := 61) (by decide) _ B _ n1 c1 ds _ (HT.out.below HB4.out) (K5.out.sl (by simp)) (HD.out.below HB4.out)); clear hk3 hb3 k4 hb4)
        | (refine wpList_make_ints _ rfl _ _ rfl _ _ _ _ 3 rfl rfl rfl rfl (by omega) ?_; intro w3 hk3 hb3; have hc3 := hk3.cellD 1 (by simp); have hf3 := hk3.frozen 1; have k4 := hk3.set_ 1 (-1) (in64_s (by decide)); have hc4 := k4.cellD 2 (by simp); have hf4 := k4.frozen 2; have K5 := Lib.hid (k4.set_ 2 1 (in64_s (by decide))); have hb4 := (hb3.setCell (p := ⟨w0.heap.size, 1, none⟩) (Nat.le_refl _) (iv (-1))).setCell (p := ⟨w0.heap.size, 2, none⟩) (Nat.le_refl _) (iv 1); have HB4 := hstep9 HB hb4; have C5 := Lib.hid (fld_call (P := 2) (by decide) _ B _ n1 c1 ds _ (HT.out.below HB4.out) (K5.out.sl (by simp)) (HD.out.below HB4.out)); clear hk3 hb3 k4 hb4)
        )
      | fail)
    all_goals
      go_ret
      exact ⟨rfl, HB5.out⟩
  · go_enter Tryz.func9, Tryz.ntmps9
    go_wp2_with (first
      | (go_at_call 10; (with_reducible refine AW.out.mono ?_); rintro e w0 ⟨rfl, hb0⟩; have HB := Lib.hid hb0; clear hb0)
      | (go_at_call 12; refine Calls.mono C5.out ?_; rintro e w5 ⟨A5, d5, Z, rfl, hrd, hpl, hb5⟩; have RD := Lib.hid hrd; have PL := Lib.hid hpl; have HB5 := hstep9 HB4 hb5; have hdl := hrd.le; have hdm := hrd.max; clear hrd hpl hb5)
      | (at_make; first
        | (refine wpList_make_ints _ rfl _ _ rfl _ _ _ _ 4 rfl rfl rfl rfl (by omega) ?_; intro w3 hk3 hb3; have hc3 := hk3.cellD 1 (by simp); have hf3 := hk3.frozen 1; have k4 := hk3.set_ 1 (-1) (in64_s (by decide)); have hc4 := k4.cellD 3 (by simp); have hf4 := k4.frozen 3; have K5 := Lib.hid (k4.set_ 3 1 (in64_s (by decide))); have hb4 := (hb3.setCell (p := ⟨w0.heap.size, 1, none⟩) (Nat.le_refl _) (iv (-1))).setCell (p := ⟨w0.heap.size, 3, none⟩) (Nat.le_refl _) (iv 1); have HB4 := hstep9 HB hb4; have C5 := Lib.hid (fld_call (P := 3) (by decide) _ B _ n1 c1 ds _ (HT.out.below HB4.out) (K5.out.sl (by simp)) (HD.out.below HB4.out)); clear hk3 hb3 k4 hb4)
        | (refine wpList_make_ints _ rfl _ _ rfl _ _ _ _ 6 rfl rfl rfl rfl (by omega) ?_; intro w3 hk3 hb3; have hc3 := hk3.cellD 1 (by simp); have hf3 := hk3.frozen 1; have k4 := hk3.set_ 1 (-1) (in64_s (by decide)); have hc4 := k4.cellD 5 (by simp); have hf4 := k4.frozen 5; have K5 := Lib.hid (k4.set_ 5 1 (in64_s (by decide))); have hb4 := (hb3.setCell (p := ⟨w0.heap.size, 1, none⟩) (Nat.le_refl _) (iv (-1))).setCell (p := ⟨w0.heap.size, 5, none⟩) (Nat.le_refl _) (iv 1); have HB4 := hstep9 HB hb4; have C5 := Lib.hid (fld_call (P := 5) (by decide) _ B _ n1 c1 ds _ (HT.out.below HB4.out) (K5.out.sl (by simp)) (HD.out.below HB4.out)); clear hk3 hb3 k4 hb4)
        | (refine wpList_make_ints _ rfl _ _ rfl _ _ _ _ 8 rfl rfl rfl rfl (by omega) ?_; intro w3 hk3 hb3; have hc3 := hk3.cellD 1 (by simp); have hf3 := hk3.frozen 1; have k4 := hk3.set_ 1 (-1) (in64_s (by decide)); have hc4 := k4.cellD 7 (by simp); have hf4 := k4.frozen 7; have K5 := Lib.hid (k4.set_ 7 1 (in64_s (by decide))); have hb4 := (hb3.setCell (p := ⟨w0.heap.size, 1, none⟩) (Nat.le_refl _) (iv (-1))).setCell (p := ⟨w0.heap.size, 7, none⟩) (Nat.le_refl _) (iv 1); have HB4 := hstep9 HB hb4; have C5 := Lib.hid (fld_call (P := 7) (by decide) _ B _ n1 c1 ds _ (HT.out.below HB4.out) (K5.out.sl (by simp)) (HD.out.below HB4.out)); clear hk3 hb3 k4 hb4)
        | (refine wpList_make_ints _ rfl _ _ rfl _ _ _ _ 12 rfl rfl rfl rfl (by omega) ?_; intro w3 hk3 hb3; have hc3 := hk3.cellD 1 (by simp); have hf3 := hk3.frozen 1; have k4 := hk3.set_ 1 (-1) (in64_s (by decide)); have hc4 := k4.cellD 11 (by simp); have hf4 := k4.frozen 11; have K5 := Lib.hid (k4.set_ 11 1 (in64_s (by decide))); have hb4 := (hb3.setCell (p := ⟨w0.heap.size, 1, none⟩) (Nat.le_refl _) (iv (-1))).setCell (p := ⟨w0.heap.size, 11, none⟩) (Nat.le_refl _) (iv 1); have HB4 := hstep9 HB hb4; have C5 := Lib.hid (fld_call (P := 11) (by decide) _ B _ n1 c1 ds _ (HT.out.below HB4.out) (K5.out.sl (by simp)) (HD.out.below HB4.out)); clear hk3 hb3 k4 hb4)
        | (refine wpList_make_ints _ rfl _ _ rfl _ _ _ _ 14 rfl rfl rfl rfl (by omega) ?_; intro w3 hk3 hb3; have hc3 := hk3.cellD 1 (by simp); have hf3 := hk3.frozen 1; have k4 := hk3.set_ 1 (-1) (in64_s (by decide)); have hc4 := k4.cellD 13 (by simp); have hf4 := k4.frozen 13; have K5 := Lib.hid (k4.set_ 13 1 (in64_s (by decide))); have hb4 := (hb3.setCell (p := ⟨w0.heap.size, 1, none⟩) (Nat.le_refl _) (iv (-1))).setCell (p := ⟨w0.heap.size, 13, none⟩) (Nat.le_refl _) (iv 1); have HB4 := hstep9 HB hb4; have C5 := Lib.hid (fld_call (P := 13) (by decide) _ B _ n1 c1 ds _ (HT.out.below HB4.out) (K5.out.sl (by simp)) (HD.out.below HB4.out)); clear hk3 hb3 k4 hb4)
        | (refine wpList_make_ints _ rfl _ _ rfl _ _ _ _ 32 rfl rfl rfl rfl (by omega) ?_; intro w3 hk3 hb3; have hc3 := hk3.cellD 1 (by simp); have hf3 := hk3.frozen 1; have k4 := hk3.set_ 1 (-1) (in64_s (by decide)); have hc4 := k4.cellD 31 (by simp); have hf4 := k4.frozen 31; have K5 := Lib.hid (k4.set_ 31 1 (in64_s (by decide))); have hb4 := (hb3.setCell (p := ⟨w0.heap.size, 1, none⟩) (Nat.le_refl _) (iv (-1))).setCell (p := ⟨w0.heap.size, 31, none⟩) (Nat.le_refl _) (iv 1); have HB4 := hstep9 HB hb4; have C5 := Lib.hid (fld_call (P := 31) (by decide) _ B _ n1 c1 ds _ (HT.out.below HB4.out) (K5.out.sl (by simp)) (HD.out.below HB4.out)); clear hk3 hb3 k4 hb4)
        | (refine wpList_make_ints _ rfl _ _ rfl _ _ _ _ 62 rfl rfl rfl rfl (by omega) ?_; intro w3 hk3 hb3; have hc3 := hk3.cellD 1 (by simp); have hf3 := hk3.frozen 1; have k4 := hk3.set_ 1 (-1) (in64_s (by decide)); have hc4 := k4.cellD 61 (by simp); have hf4 := k4.frozen 61; have K5 := Lib.hid (k4.set_ 61 1 (in64_s (by decide))); have hb4 := (hb3.setCell (p := ⟨w0.heap.size, 1, none⟩) (Nat.le_refl _) (iv (-1))).setCell (p := ⟨w0.heap.size, 61, none⟩) (Nat.le_refl _) (iv 1); have HB4 := hstep9 HB hb4; have C5 := Lib.hid (fld_call (P := 61) (by decide) _ B _ n1 c1 ds _ (HT.out.below HB4.out) (K5.out.sl (by simp)) (HD.out.below HB4.out)); clear hk3 hb3 k4 hb4)
        | (refine wpList_make_ints _ rfl _ _ rfl _ _ _ _ 3 rfl rfl rfl rfl (by omega) ?_; intro w3 hk3 hb3; have hc3 := hk3.cellD 1 (by simp); have hf3 := hk3.frozen 1; have k4 := hk3.set_ 1 (-1) (in64_s (by decide)); have hc4 := k4.cellD 2 (by simp); have hf4 := k4.frozen 2; have K5 := Lib.hid (k4.set_ 2 1 (in64_s (by decide))); have hb4 := (hb3.setCell (p := ⟨w0.heap.size, 1, none⟩) (Nat.le_refl _) (iv (-1))).setCell (p := ⟨w0.heap.size, 2, none⟩) (Nat.le_refl _) (iv 1); have HB4 := hstep9 HB hb4; have C5 := Lib.hid (fld_call (P := 2) (by decide) _ B _ n1 c1 ds _ (HT.out.below HB4.out) (K5.out.sl (by simp)) (HD.out.below HB4.out)); clear hk3 hb3 k4 hb4)
        )
      | fail)
    · go_loopw [10] (fun i wr => ∃ j : Nat, j ≤ 3 ∧ i = .int .i64 (j : Int) ∧ Hid (Below w5.heap.size w5 wr)) (fun i _ => 3 - (intOf i).toNat)
      case atStart => exact ⟨0, Nat.zero_le _, rfl, Lib.hid (Below.refl _ _)⟩
      case round =>
        obtain ⟨j, hj, rfl, HBR⟩ := hrel
        by_cases hlt : j < 3
        · have hlz : j < Z.length := by rw [← RD.out.len]; exact hlt
          obtain ⟨b, o, rfl, hbl, hc⟩ := (RD.out.below HBR.out).open_ (by omega)
          obtain ⟨c0, c1⟩ := hc j hlz
          have zin := (RD.out.in_ _ (List.getElem_mem hlz)).below HBR.out
          obtain ⟨x1, x2⟩ := lins_at PL.out hlz
          obtain ⟨z, hz⟩ : ∃ z, Z[j] = z := ⟨_, rfl⟩
          rw [hz] at c0 c1 zin x1 x2
          obtain ⟨zA, zn, zc, zx, zN⟩ := z
          have x1 : zx = [(j : Int), 1] := x1
          have x2 : zN = 1 := x2
          subst x1 x2
          simp only [Pt.sl, Pt.nv] at c0 c1
          have i1 : (0 : Int) ≤ (j : Int) := by omega
          have i2 : (j : Int) < 3 := by omega
          have SM := Lib.hid (polSame zA (some ⟨wr.heap.size, 0, none⟩) zn zc 2 2 _ _ (wr.alloc (.cells #[.int .i64 (j : Int), .int .i64 1] 3)) (isl_alloc zin _) (isl_lit wr [(j : Int), 1] wr.heap.size 2 rfl rfl (fi_two (by omega) (by omega)) (by simp)) rfl)
          have HBA := Lib.hid (below_to HBR.out (bel_al wr (.cells #[.int .i64 (j : Int), .int .i64 1] 3)))
          clear hc zin hz hlz
          go_wp2_with (first
            | (go_at_call 24; refine Calls.mono SM.out ?_; rintro e w6 ⟨rfl, hb6⟩; have HB6 := Lib.hid (below_to HBA.out hb6); clear hb6)
            | fail)
          go_roundw
          case rel => exact ⟨j + 1, by omega, by go_num, HB6⟩
          case measure => simp [intOf]; omega
        · obtain rfl : j = 3 := by omega
          go_wp2_with fail
          go_ret
          exact ⟨rfl, (hstep9 HB5 HBR.out).out⟩
    · go_loopw [10] (fun i wr => ∃ j : Nat, j ≤ 5 ∧ i = .int .i64 (j : Int) ∧ Hid (Below w5.heap.size w5 wr)) (fun i _ => 5 - (intOf i).toNat)
      case atStart => exact ⟨0, Nat.zero_le _, rfl, Lib.hid (Below.refl _ _)⟩
      case round =>
        obtain ⟨j, hj, rfl, HBR⟩ := hrel
        by_cases hlt : j < 5
        · have hlz : j < Z.length := by rw [← RD.out.len]; exact hlt
          obtain ⟨b, o, rfl, hbl, hc⟩ := (RD.out.below HBR.out).open_ (by omega)
          obtain ⟨c0, c1⟩ := hc j hlz
          have zin := (RD.out.in_ _ (List.getElem_mem hlz)).below HBR.out
          obtain ⟨x1, x2⟩ := lins_at PL.out hlz
          obtain ⟨z, hz⟩ : ∃ z, Z[j] = z := ⟨_, rfl⟩
          rw [hz] at c0 c1 zin x1 x2
          obtain ⟨zA, zn, zc, zx, zN⟩ := z
          have x1 : zx = [(j : Int), 1] := x1
          have x2 : zN = 1 := x2
          subst x1 x2
          simp only [Pt.sl, Pt.nv] at c0 c1
          have i1 : (0 : Int) ≤ (j : Int) := by omega
          have i2 : (j : Int) < 5 := by omega
          have SM := Lib.hid (polSame zA (some ⟨wr.heap.size, 0, none⟩) zn zc 2 2 _ _ (wr.alloc (.cells #[.int .i64 (j : Int), .int .i64 1] 3)) (isl_alloc zin _) (isl_lit wr [(j : Int), 1] wr.heap.size 2 rfl rfl (fi_two (by omega) (by omega)) (by simp)) rfl)
          have HBA := Lib.hid (below_to HBR.out (bel_al wr (.cells #[.int .i64 (j : Int), .int .i64 1] 3)))
          clear hc zin hz hlz
          go_wp2_with (first
            | (go_at_call 24; refine Calls.mono SM.out ?_; rintro e w6 ⟨rfl, hb6⟩; have HB6 := Lib.hid (below_to HBA.out hb6); clear hb6)
            | fail)
          go_roundw
          case rel => exact ⟨j + 1, by omega, by go_num, HB6⟩
          case measure => simp [intOf]; omega
        · obtain rfl : j = 5 := by omega
          go_wp2_with fail
          go_ret
          exact ⟨rfl, (hstep9 HB5 HBR.out).out⟩
    · go_loopw [10] (fun i wr => ∃ j : Nat, j ≤ 7 ∧ i = .int .i64 (j : Int) ∧ Hid (Below w5.heap.size w5 wr)) (fun i _ => 7 - (intOf i).toNat)
      case atStart => exact ⟨0, Nat.zero_le _, rfl, Lib.hid (Below.refl _ _)⟩
      case round =>
        obtain ⟨j, hj, rfl, HBR⟩ := hrel
        by_cases hlt : j < 7
        · have hlz : j < Z.length := by rw [← RD.out.len]; exact hlt
          obtain ⟨b, o, rfl, hbl, hc⟩ := (RD.out.below HBR.out).open_ (by omega)
          obtain ⟨c0, c1⟩ := hc j hlz
          have zin := (RD.out.in_ _ (List.getElem_mem hlz)).below HBR.out
          obtain ⟨x1, x2⟩ := lins_at PL.out hlz
          obtain ⟨z, hz⟩ : ∃ z, Z[j] = z := ⟨_, rfl⟩
          rw [hz] at c0 c1 zin x1 x2
          obtain ⟨zA, zn, zc, zx, zN⟩ := z
          have x1 : zx = [(j : Int), 1] := x1
          have x2 : zN = 1 := x2
          subst x1 x2
          simp only [Pt.sl, Pt.nv] at c0 c1
          have i1 : (0 : Int) ≤ (j : Int) := by omega
          have i2 : (j : Int) < 7 := by omega
          have SM := Lib.hid (polSame zA (some ⟨wr.heap.size, 0, none⟩) zn zc 2 2 _ _ (wr.alloc (.cells #[.int .i64 (j : Int), .int .i64 1] 3)) (isl_alloc zin _) (isl_lit wr [(j : Int), 1] wr.heap.size 2 rfl rfl (fi_two (by omega) (by omega)) (by simp)) rfl)
          have HBA := Lib.hid (below_to HBR.out (bel_al wr (.cells #[.int .i64 (j : Int), .int .i64 1] 3)))
          clear hc zin hz hlz
          go_wp2_with (first
            | (go_at_call 24; refine Calls.mono SM.out ?_; rintro e w6 ⟨rfl, hb6⟩; have HB6 := Lib.hid (below_to HBA.out hb6); clear hb6)
            | fail)
          go_roundw
          case rel => exact ⟨j + 1, by omega, by go_num, HB6⟩
          case measure => simp [intOf]; omega
        · obtain rfl : j = 7 := by omega
          go_wp2_with fail
          go_ret
          exact ⟨rfl, (hstep9 HB5 HBR.out).out⟩
    · go_loopw [10] (fun i wr => ∃ j : Nat, j ≤ 11 ∧ i = .int .i64 (j : Int) ∧ Hid (Below w5.heap.size w5 wr)) (fun i _ => 11 - (intOf i).toNat)
      case atStart => exact ⟨0, Nat.zero_le _, rfl, Lib.hid (Below.refl _ _)⟩
      case round =>
        obtain ⟨j, hj, rfl, HBR⟩ := hrel
        by_cases hlt : j < 11
        · have hlz : j < Z.length := by rw [← RD.out.len]; exact hlt
          obtain ⟨b, o, rfl, hbl, hc⟩ := (RD.out.below HBR.out).open_ (by omega)
          obtain ⟨c0, c1⟩ := hc j hlz
          have zin := (RD.out.in_ _ (List.getElem_mem hlz)).below HBR.out
          obtain ⟨x1, x2⟩ := lins_at PL.out hlz
          obtain ⟨z, hz⟩ : ∃ z, Z[j] = z := ⟨_, rfl⟩
          rw [hz] at c0 c1 zin x1 x2
          obtain ⟨zA, zn, zc, zx, zN⟩ := z
          have x1 : zx = [(j : Int), 1] := x1
          have x2 : zN = 1 := x2
          subst x1 x2
          simp only [Pt.sl, Pt.nv] at c0 c1
          have i1 : (0 : Int) ≤ (j : Int) := by omega
          have i2 : (j : Int) < 11 := by omega
          have SM := Lib.hid (polSame zA (some ⟨wr.heap.size, 0, none⟩) zn zc 2 2 _ _ (wr.alloc (.cells #[.int .i64 (j : Int), .int .i64 1] 3)) (isl_alloc zin _) (isl_lit wr [(j : Int), 1] wr.heap.size 2 rfl rfl (fi_two (by omega) (by omega)) (by simp)) rfl)
          have HBA := Lib.hid (below_to HBR.out (bel_al wr (.cells #[.int .i64 (j : Int), .int .i64 1] 3)))
          clear hc zin hz hlz
          go_wp2_with (first
            | (go_at_call 24; refine Calls.mono SM.out ?_; rintro e w6 ⟨rfl, hb6⟩; have HB6 := Lib.hid (below_to HBA.out hb6); clear hb6)
            | fail)
          go_roundw
          case rel => exact ⟨j + 1, by omega, by go_num, HB6⟩
          case measure => simp [intOf]; omega
        · obtain rfl : j = 11 := by omega
          go_wp2_with fail
          go_ret
          exact ⟨rfl, (hstep9 HB5 HBR.out).out⟩
    · go_loopw [10] (fun i wr => ∃ j : Nat, j ≤ 13 ∧ i = .int .i64 (j : Int) ∧ Hid (Below w5.heap.size w5 wr)) (fun i _ => 13 - (intOf i).toNat)
      case atStart => exact ⟨0, Nat.zero_le _, rfl, Lib.hid (Below.refl _ _)⟩
      case round =>
        obtain ⟨j, hj, rfl, HBR⟩ := hrel
        by_cases hlt : j < 13
        · have hlz : j < Z.length := by rw [← RD.out.len]; exact hlt
          obtain ⟨b, o, rfl, hbl, hc⟩ := (RD.out.below HBR.out).open_ (by omega)
          obtain ⟨c0, c1⟩ := hc j hlz
          have zin := (RD.out.in_ _ (List.getElem_mem hlz)).below HBR.out
          obtain ⟨x1, x2⟩ := lins_at PL.out hlz
          obtain ⟨z, hz⟩ : ∃ z, Z[j] = z := ⟨_, rfl⟩
          rw [hz] at c0 c1 zin x1 x2
          obtain ⟨zA, zn, zc, zx, zN⟩ := z
          have x1 : zx = [(j : Int), 1] := x1
          have x2 : zN = 1 := x2
          subst x1 x2
          simp only [Pt.sl, Pt.nv] at c0 c1
          have i1 : (0 : Int) ≤ (j : Int) := by omega
          have i2 : (j : Int) < 13 := by omega
          have SM := Lib.hid (polSame zA (some ⟨wr.heap.size, 0, none⟩) zn zc 2 2 _ _ (wr.alloc (.cells #[.int .i64 (j : Int), .int .i64 1] 3)) (isl_alloc zin _) (isl_lit wr [(j : Int), 1] wr.heap.size 2 rfl rfl (fi_two (by omega) (by omega)) (by simp)) rfl)
          have HBA := Lib.hid (below_to HBR.out (bel_al wr (.cells #[.int .i64 (j : Int), .int .i64 1] 3)))
          clear hc zin hz hlz
          go_wp2_with (first
            | (go_at_call 24; refine Calls.mono SM.out ?_; rintro e w6 ⟨rfl, hb6⟩; have HB6 := Lib.hid (below_to HBA.out hb6); clear hb6)
            | fail)
          go_roundw
          case rel => exact ⟨j + 1, by omega, by go_num, HB6⟩
          case measure => simp [intOf]; omega
        · obtain rfl : j = 13 := by omega
          go_wp2_with fail
          go_ret
          exact ⟨rfl, (hstep9 HB5 HBR.out).out⟩
    · go_loopw [10] (fun i wr => ∃ j : Nat, j ≤ 31 ∧ i = .int .i64 (j : Int) ∧ Hid (Below w5.heap.size w5 wr)) (fun i _ => 31 - (intOf i).toNat)
      case atStart => exact ⟨0, Nat.zero_le _, rfl, Lib.hid (Below.refl _ _)⟩
      case round =>
        obtain ⟨j, hj, rfl, HBR⟩ := hrel
        by_cases hlt : j < 31
        · have hlz : j < Z.length := by rw [← RD.out.len]; exact hlt
          obtain ⟨b, o, rfl, hbl, hc⟩ := (RD.out.below HBR.out).open_ (by omega)
          obtain ⟨c0, c1⟩ := hc j hlz
          have zin := (RD.out.in_ _ (List.getElem_mem hlz)).below HBR.out
          obtain ⟨x1, x2⟩ := lins_at PL.out hlz
          obtain ⟨z, hz⟩ : ∃ z, Z[j] = z := ⟨_, rfl⟩
          rw [hz] at c0 c1 zin x1 x2
          obtain ⟨zA, zn, zc, zx, zN⟩ := z
          have x1 : zx = [(j : Int), 1] := x1
          have x2 : zN = 1 := x2
          subst x1 x2
          simp only [Pt.sl, Pt.nv] at c0 c1
          have i1 : (0 : Int) ≤ (j : Int) := by omega
          have i2 : (j : Int) < 31 := by omega
          have SM := Lib.hid (polSame zA (some ⟨wr.heap.size, 0, none⟩) zn zc 2 2 _ _ (wr.alloc (.cells #[.int .i64 (j : Int), .int .i64 1] 3)) (isl_alloc zin _) (isl_lit wr [(j : Int), 1] wr.heap.size 2 rfl rfl (fi_two (by omega) (by omega)) (by simp)) rfl)
          have HBA := Lib.hid (below_to HBR.out (bel_al wr (.cells #[.int .i64 (j : Int), .int .i64 1] 3)))
          clear hc zin hz hlz
          go_wp2_with (first
            | (go_at_call 24; refine Calls.mono SM.out ?_; rintro e w6 ⟨rfl, hb6⟩; have HB6 := Lib.hid (below_to HBA.out hb6); clear hb6)
            | fail)
          go_roundw
          case rel => exact ⟨j + 1, by omega, by go_num, HB6⟩
          case measure => simp [intOf]; omega
        · obtain rfl : j = 31 := by omega
          go_wp2_with fail
          go_ret
          exact ⟨rfl, (hstep9 HB5 HBR.out).out⟩
    · go_loopw [10] (fun i wr => ∃ j : Nat, j ≤ 61 ∧ i = .int .i64 (j : Int) ∧ Hid (Below w5.heap.size w5 wr)) (fun i _ => 61 - (intOf i).toNat)
      case atStart => exact ⟨0, Nat.zero_le _, rfl, Lib.hid (Below.refl _ _)⟩
      case round =>
        obtain ⟨j, hj, rfl, HBR⟩ := hrel
        by_cases hlt : j < 61
        · have hlz : j < Z.length := by rw [← RD.out.len]; exact hlt
          obtain ⟨b, o, rfl, hbl, hc⟩ := (RD.out.below HBR.out).open_ (by omega)
          obtain ⟨c0, c1⟩ := hc j hlz
          have zin := (RD.out.in_ _ (List.getElem_mem hlz)).below HBR.out
          obtain ⟨x1, x2⟩ := lins_at PL.out hlz
          obtain ⟨z, hz⟩ : ∃ z, Z[j] = z := ⟨_, rfl⟩
          rw [hz] at c0 c1 zin x1 x2
          obtain ⟨zA, zn, zc, zx, zN⟩ := z
          have x1 : zx = [(j : Int), 1] := x1
          have x2 : zN = 1 := x2
          subst x1 x2
          simp only [Pt.sl, Pt.nv] at c0 c1
          have i1 : (0 : Int) ≤ (j : Int) := by omega
          have i2 : (j : Int) < 61 := by omega
          have SM := Lib.hid (polSame zA (some ⟨wr.heap.size, 0, none⟩) zn zc 2 2 _ _ (wr.alloc (.cells #[.int .i64 (j : Int), .int .i64 1] 3)) (isl_alloc zin _) (isl_lit wr [(j : Int), 1] wr.heap.size 2 rfl rfl (fi_two (by omega) (by omega)) (by simp)) rfl)
          have HBA := Lib.hid (below_to HBR.out (bel_al wr (.cells #[.int .i64 (j : Int), .int .i64 1] 3)))
          clear hc zin hz hlz
          go_wp2_with (first
            | (go_at_call 24; refine Calls.mono SM.out ?_; rintro e w6 ⟨rfl, hb6⟩; have HB6 := Lib.hid (below_to HBA.out hb6); clear hb6)
            | fail)
          go_roundw
          case rel => exact ⟨j + 1, by omega, by go_num, HB6⟩
          case measure => simp [intOf]; omega
        · obtain rfl : j = 61 := by omega
          go_wp2_with fail
          go_ret
          exact ⟨rfl, (hstep9 HB5 HBR.out).out⟩
    · go_loopw [10] (fun i wr => ∃ j : Nat, j ≤ 2 ∧ i = .int .i64 (j : Int) ∧ Hid (Below w5.heap.size w5 wr)) (fun i _ => 2 - (intOf i).toNat)
      case atStart => exact ⟨0, Nat.zero_le _, rfl, Lib.hid (Below.refl _ _)⟩
      case round =>
        obtain ⟨j, hj, rfl, HBR⟩ := hrel
        by_cases hlt : j < 2
        · have hlz : j < Z.length := by rw [← RD.out.len]; exact hlt
          obtain ⟨b, o, rfl, hbl, hc⟩ := (RD.out.below HBR.out).open_ (by omega)
          obtain ⟨c0, c1⟩ := hc j hlz
          have zin := (RD.out.in_ _ (List.getElem_mem hlz)).below HBR.out
          obtain ⟨x1, x2⟩ := lins_at PL.out hlz
          obtain ⟨z, hz⟩ : ∃ z, Z[j] = z := ⟨_, rfl⟩
          rw [hz] at c0 c1 zin x1 x2
          obtain ⟨zA, zn, zc, zx, zN⟩ := z
          have x1 : zx = [(j : Int), 1] := x1
          have x2 : zN = 1 := x2
          subst x1 x2
          simp only [Pt.sl, Pt.nv] at c0 c1
          have i1 : (0 : Int) ≤ (j : Int) := by omega
          have i2 : (j : Int) < 2 := by omega
          have SM := Lib.hid (polSame zA (some ⟨wr.heap.size, 0, none⟩) zn zc 2 2 _ _ (wr.alloc (.cells #[.int .i64 (j : Int), .int .i64 1] 3)) (isl_alloc zin _) (isl_lit wr [(j : Int), 1] wr.heap.size 2 rfl rfl (fi_two (by omega) (by omega)) (by simp)) rfl)
          have HBA := Lib.hid (below_to HBR.out (bel_al wr (.cells #[.int .i64 (j : Int), .int .i64 1] 3)))
          clear hc zin hz hlz
          go_wp2_with (first
            | (go_at_call 24; refine Calls.mono SM.out ?_; rintro e w6 ⟨rfl, hb6⟩; have HB6 := Lib.hid (below_to HBA.out hb6); clear hb6)
            | fail)
          go_roundw
          case rel => exact ⟨j + 1, by omega, by go_num, HB6⟩
          case measure => simp [intOf]; omega
        · obtain rfl : j = 2 := by omega
          go_wp2_with fail
          go_ret
          exact ⟨rfl, (hstep9 HB5 HBR.out).out⟩
end Go.Proofs.YtnkhhndjbanmnaaGreatDoor

/- The statement 'FfacField', a tied card: for every input the law's function returns true and leaves its arguments as they were; the package-level tables that the row lists are laid as the program's text lays them. No conditions but the form's own. -/
namespace Go.Proofs.YtnkhhndjbanmnaaGreatDoor.lawFfacFieldCard
open Go.ChangeShapes Go.WideShapes Go.ChangeAt Go.RowKit Go.ChangeMaps
set_option maxRecDepth 100000 in
theorem lifted (os : Os) (started : os.Started) (H : Type) (enc : TypeId × Value → H) :
    ReturnsInHanded {} Tryz.checked os 9 .any (fun w args => (Rows.ffacFieldSpec.pre enc Tryz.prog Tryz.f9 Rows.ffacFieldRow.domain false w args ∧ laidMetH Tryz.prog Rows.ffacFieldRow.laid w) ∧ sizedMet enc Tryz.prog Tryz.f9 (OpenSpec.ofChange Rows.ffacFieldSpec) false w args)
      (Rows.ffacFieldSpec.post enc Tryz.prog Tryz.f9 false true false false) := by
  refine returnsInHanded_of_change_and (C := Tryz.checked) (X := fun w _ => laidMetH Tryz.prog Rows.ffacFieldRow.laid w) (fun _ _ _ hh h => h.of_heap hh) own0 started (by kernel_rfl) Tryz.func9
    (ChangeSpec.witness_shaped (enc := enc) (C := Tryz.checked) (os := os) (X := fun w _ => laidMetH Tryz.prog Rows.ffacFieldRow.laid w) false (World.laidAll Tryz.prog os Rows.ffacFieldRow.laid) #[.int .i64 0, .slice none 0 0] 8 (World.laidAll_os _ _ _)
      (World.shaped_of_ZipB (by kernel_rfl) (by kernel_rfl)) (by kernel_rfl) (by kernel_rfl) (by kernel_rfl)
      (by rw [MakeChecks.laidMetH_plain _ _ _ (by kernel_rfl)]; exact laidMet_laidAll _ (by kernel_rfl) (by kernel_rfl))) ?_
  intro W base args ds gs before hval0 hW hcnd hsz0 hL hholds
  have hval : ∀ (j : Nat) t v, Tryz.f9.params[j]? = some t → args[j]? = some v → Value.okWide Tryz.prog W .any base t v := hval0
  have hW' := hW
  obtain ⟨p, q, hA0, hV, rfl, hfz, hnd⟩ := hW
  have hA : DataW.TrodAll enc Tryz.prog W 0 (fun _ => true) true Tryz.f9.params.toList args.toList ds p := hA0
  have hsz : (DataW.weightsEach Tryz.prog (Tryz.f9.params.toList ++ Rows.ffacFieldSpec.plain.varTypes Tryz.prog) (ds ++ gs)).all (· ≤ reachBytes) = true := hsz0
  rw [Tryz.params9] at hA hval hsz
  obtain ⟨v0, vs0, d0, ds0, p0, q0, hargs, rfl, rfl, h0, r0⟩ := trodAll_cons hA
  obtain ⟨v1, vs1, d1, ds1, p1, q1, rfl, rfl, rfl, h1, r1⟩ := trodAll_cons r0
  obtain ⟨rfl, rfl, rfl⟩ := trodAll_nil r1
  obtain rfl : args = #[v0, v1] := by cases args; simp_all
  obtain ⟨rfl, rfl⟩ := trodVars_none hV
  obtain ⟨a0, rfl, rfl, rfl, w0⟩ := open_int Tryz.underlying3 (hval 0 3 v0 rfl rfl) h0
  obtain ⟨a1, len1, cap1, rfl⟩ := okWide_slice Tryz.underlying22 (hval 1 22 v1 rfl rfl)
  have k1 := h1
  have lt1 : ∀ x ∈ p1, x.block < W.heap.size := by obtain ⟨m, hm⟩ := k1; exact DataW.trod_lt m _ _ _ hm
  obtain ⟨x1, s1, b1⟩ := isl_open h1 hsz 1 rfl rfl
  clear hA0 hval0 hsz0 hsz
  refine (walkFfacField a0 a1 len1 cap1 x1 W (tab_of_laid hL) w0 s1 b1).mono fun e W' ⟨he, bel⟩ => ?_
  subst he
  exact ⟨_, rfl, _, _, _, [], _, [], hW', trodAll_mk1 (shut_bool Tryz.underlying4 _), (trodAll_cons_mk (shut_int Tryz.underlying3 w0) (trodAll_cons_mk (Below.trod laidOut0 (by kernel_rfl) (of_decide_eq_true (by kernel_rfl)) k1 bel lt1) trodAll_mk0)), rfl, bel.frame _, fun h => by cases h⟩
theorem over : Rows.ffacFieldRow.holds Tryz.pinned (OpenSpec.ofChange Rows.ffacFieldSpec) :=
  OpenClaim.holds_of_wide 9 Tryz.f9 rfl rfl rfl rfl rfl rfl rfl ⟨rfl, rfl, rfl, rfl, rfl⟩ rfl rfl rfl rfl rfl (by kernel_rfl) Tryz.func9 (by kernel_rfl)
    (of_decide_eq_true (by kernel_rfl)) (by unfold Func.isWrapper; first | (rw [if_pos (by decide +kernel)]; kernel_rfl) | (rw [if_neg (by decide +kernel)]; exact ⟨rfl, rfl⟩))
    (fun os started H enc _ => lifted os started H enc)
/-- The statement: the tied card. -/
theorem proved : Rows.FfacFieldCardSaid :=
  Claim7.holds_tied_plain_at .later [] [.data] true Rows.ffacFieldCard.stood.harness false over (fun _ h => by cases h) (by kernel_rfl) (fun _ h => by cases h) ffacField_row_tie rfl ⟨rfl, rfl⟩ (by kernel_rfl) rfl
    (fun f fn hf hfn => by
      obtain rfl : f = 9 := Option.some.inj ((show Tryz.prog.funcNamed "cleaver/cleaverlaw09.FfacField" = some 9 by kernel_rfl).symm.trans hf) |>.symm
      obtain rfl : fn = Tryz.f9 := (Option.some.inj (Tryz.func9.symm.trans hfn)).symm
      exact ⟨by kernel_rfl, fun j t ht => by
        rw [Tryz.params9] at ht
        have hm : t ∈ [3, 22] := by simpa using Array.mem_of_getElem? ht
        have hall : ([3, 22].all fun u => !Tryz.prog.wantsStandIn u) = true := by kernel_rfl
        exact (show Tryz.prog.wantsStandIn t = false by simpa using List.all_eq_true.1 hall t hm)⟩)
    (by kernel_rfl)
end Go.Proofs.YtnkhhndjbanmnaaGreatDoor.lawFfacFieldCard

/- cleaverref05.Add, Sub, Mul, Inv, Div, Pow, by their contracts. -/
import Derived.Test.YtfgldmfdopagjaaDoorRefIs
import Derived.Test.YtfgldmfdopagjaaDoorRefFPow
namespace Go.Proofs.YtfgldmfdopagjaaDoor
open Go.RowKit

set_option maxHeartbeats 1000000 in
theorem refAdd_any (a b p : Int) (w : World) (h2 : -9223372036854775808 ≤ p) (h3 : p ≤ 9223372036854775807) :
    Calls Tryd.prog 10 #[.int .i64 a, .int .i64 b, .int .i64 p] w fun e w' => e = .returned (.tuple #[.int .i64 (fadd a b p), .int .i64 (chk p)]) ∧ w = w' := by
  have C := refCheck_any p w h2 h3
  have R1 := refRed_any a p w h2 h3
  have R2 := refRed_any b p w h2 h3
  rcases primB_or p with ⟨hb, hpr⟩ | ⟨hb, -⟩
  · rw [chk_yes hb] at C ⊢
    rw [(red_pr hpr).1] at R1 R2
    rw [fadd_yes hb, ← add_rests]
    have hx := (red_pr (a := a) hpr).2
    have hy := (red_pr (a := b) hpr).2
    have hp := hpr.2.1
    generalize a % p = x at *
    generalize b % p = y at *
    have CC := Lib.hid C
    have RR1 := Lib.hid R1
    have RR2 := Lib.hid R2
    clear C R1 R2 hb hpr
    go_enter Tryd.func10, Tryd.ntmps10
    go_wp2_with (first
      | (go_at_call 18; with_reducible refine CC.out.mono ?_; rintro e w' ⟨rfl, rfl⟩)
      | (go_at_call 16; with_reducible refine RR1.out.mono ?_; rintro e w' ⟨rfl, rfl⟩)
      | (go_at_call 16; with_reducible refine RR2.out.mono ?_; rintro e w' ⟨rfl, rfl⟩))
    go_ret2
    exact ⟨rfl, rfl⟩
  · rw [chk_no hb] at C ⊢
    rw [fadd_no hb]
    have CC := Lib.hid C
    clear C R1 R2 hb
    go_enter Tryd.func10, Tryd.ntmps10
    go_wp2_with (go_at_call 18; with_reducible refine CC.out.mono ?_; rintro e w' ⟨rfl, rfl⟩)
    go_ret2
    exact ⟨rfl, rfl⟩

set_option maxHeartbeats 1000000 in
theorem refSub_anyF (a b p : Int) (w : World) (h2 : -9223372036854775808 ≤ p) (h3 : p ≤ 9223372036854775807) :
    Calls Tryd.prog 12 #[.int .i64 a, .int .i64 b, .int .i64 p] w fun e w' => e = .returned (.tuple #[.int .i64 (fsub a b p), .int .i64 (chk p)]) ∧ w = w' := by
  have C := refCheck_any p w h2 h3
  have R1 := refRed_any a p w h2 h3
  have R2 := refRed_any b p w h2 h3
  rcases primB_or p with ⟨hb, hpr⟩ | ⟨hb, -⟩
  · rw [chk_yes hb] at C ⊢
    rw [(red_pr hpr).1] at R1 R2
    rw [fsub_yes hb, ← sub_rests]
    have hx := (red_pr (a := a) hpr).2
    have hy := (red_pr (a := b) hpr).2
    have hp := hpr.2.1
    generalize a % p = x at *
    generalize b % p = y at *
    have R3 := refRed_any (x - y) p w h2 h3
    rw [(red_pr hpr).1] at R3
    generalize (x - y) % p = z at *
    have CC := Lib.hid C
    have RR1 := Lib.hid R1
    have RR2 := Lib.hid R2
    have RR3 := Lib.hid R3
    clear C R1 R2 R3 hb hpr
    go_enter Tryd.func12, Tryd.ntmps12
    go_wp2_with (first
      | (go_at_call 18; with_reducible refine CC.out.mono ?_; rintro e w' ⟨rfl, rfl⟩)
      | (go_at_call 16; with_reducible refine RR1.out.mono ?_; rintro e w' ⟨rfl, rfl⟩)
      | (go_at_call 16; with_reducible refine RR2.out.mono ?_; rintro e w' ⟨rfl, rfl⟩)
      | (go_at_call 16; with_reducible refine RR3.out.mono ?_; rintro e w' ⟨rfl, rfl⟩))
    go_ret2
    exact ⟨rfl, rfl⟩
  · rw [chk_no hb] at C ⊢
    rw [fsub_no hb]
    have CC := Lib.hid C
    clear C R1 R2 hb
    go_enter Tryd.func12, Tryd.ntmps12
    go_wp2_with (go_at_call 18; with_reducible refine CC.out.mono ?_; rintro e w' ⟨rfl, rfl⟩)
    go_ret2
    exact ⟨rfl, rfl⟩

set_option maxHeartbeats 1000000 in
theorem refMul_anyF (a b p : Int) (w : World) (h2 : -9223372036854775808 ≤ p) (h3 : p ≤ 9223372036854775807) :
    Calls Tryd.prog 14 #[.int .i64 a, .int .i64 b, .int .i64 p] w fun e w' => e = .returned (.tuple #[.int .i64 (fmul a b p), .int .i64 (chk p)]) ∧ w = w' := by
  have C := refCheck_any p w h2 h3
  have R1 := refRed_any a p w h2 h3
  have R2 := refRed_any b p w h2 h3
  rcases primB_or p with ⟨hb, hpr⟩ | ⟨hb, -⟩
  · rw [chk_yes hb] at C ⊢
    rw [(red_pr hpr).1] at R1 R2
    rw [fmul_yes hb, ← mul_rests]
    have hx := (red_pr (a := a) hpr).2
    have hy := (red_pr (a := b) hpr).2
    have hp := hpr.2.1
    have hm := mul_bd hx hy hp
    generalize a % p = x at *
    generalize b % p = y at *
    obtain ⟨P, hP⟩ : ∃ P, x * y = P := ⟨_, rfl⟩
    rw [hP] at hm ⊢
    have CC := Lib.hid C
    have RR1 := Lib.hid R1
    have RR2 := Lib.hid R2
    clear C R1 R2 hb hpr
    go_enter Tryd.func14, Tryd.ntmps14
    go_wp2_with (first
      | (go_at_call 18; with_reducible refine CC.out.mono ?_; rintro e w' ⟨rfl, rfl⟩)
      | (go_at_call 16; with_reducible refine RR1.out.mono ?_; rintro e w' ⟨rfl, rfl⟩)
      | (go_at_call 16; with_reducible refine RR2.out.mono ?_; rintro e w' ⟨rfl, rfl⟩))
    go_ret2
    exact ⟨rfl, rfl⟩
  · rw [chk_no hb] at C ⊢
    rw [fmul_no hb]
    have CC := Lib.hid C
    clear C R1 R2 hb
    go_enter Tryd.func14, Tryd.ntmps14
    go_wp2_with (go_at_call 18; with_reducible refine CC.out.mono ?_; rintro e w' ⟨rfl, rfl⟩)
    go_ret2
    exact ⟨rfl, rfl⟩

theorem inv_none {a p r : Int} (h : Pr p) (hr : a % p = r) (hn : ∀ j : Int, 1 ≤ j → j < p → ¬ r * j % p = 1) : a % p = 0 := by
  rcases Classical.em (a % p = 0) with h0 | h0
  · exact h0
  · have hs := finv_spec h h0
    refine absurd ?_ (hn _ hs.1 hs.2.1)
    rw [← hr, Int.mul_emod, Int.emod_emod_of_dvd _ (Int.dvd_refl _), ← Int.mul_emod]
    exact hs.2.2
theorem inv_found {a p r x : Int} (h : Pr p) (hr : a % p = r) (h1 : 1 ≤ x) (h2 : x < p) (h3 : r * x % p = 1) : finv a p = x ∧ a % p ≠ 0 := by
  have e : a * x % p = 1 := by
    rw [← h3, ← hr]
    rw [Int.mul_emod (a % p), Int.emod_emod_of_dvd _ (Int.dvd_refl _), ← Int.mul_emod]
  refine ⟨finv_eq h ⟨by omega, h2, e⟩, fun h0 => ?_⟩
  rw [Int.mul_emod, h0, Int.zero_mul] at e
  simp at e

set_option maxHeartbeats 1000000 in
theorem refInv_any (a p : Int) (w : World) (h2 : -9223372036854775808 ≤ p) (h3 : p ≤ 9223372036854775807) :
    Calls Tryd.prog 20 #[.int .i64 a, .int .i64 p] w fun e w' => e = .returned (.tuple #[.int .i64 (finv a p), .int .i64 (einv a p)]) ∧ w = w' := by
  have C := refCheck_any p w h2 h3
  have R1 := refRed_any a p w h2 h3
  rcases primB_or p with ⟨hb, hpr⟩ | ⟨hb, hpr⟩
  · rw [chk_yes hb] at C
    rw [(red_pr hpr).1] at R1
    have hx := (red_pr (a := a) hpr).2
    have hp := hpr.2.1
    have hp2 := hpr.1
    obtain ⟨r, hr⟩ : ∃ r, a % p = r := ⟨_, rfl⟩
    rw [hr] at R1 hx
    have F := Lib.hid (fun x => @inv_found a p r x hpr hr)
    have N := Lib.hid (inv_none hpr hr)
    have EZ := Lib.hid (fun h => einv_zero (a := a) hb h)
    have EY := Lib.hid (fun h => einv_yes (a := a) hb h)
    have FZ := Lib.hid (@finv_zero a p)
    generalize finv a p = v at *
    generalize einv a p = u at *
    have CC := Lib.hid C
    have RR1 := Lib.hid R1
    clear C R1 hb hpr hr
    go_enter Tryd.func20, Tryd.ntmps20
    go_wp2_with (first
      | (go_at_call 18; with_reducible refine CC.out.mono ?_; rintro e w' ⟨rfl, rfl⟩))
    go_loop [6] (fun i => ∃ x : Int, i = .int .i64 x ∧ 1 ≤ x ∧ x ≤ p ∧ ∀ j : Int, 1 ≤ j → j < x → ¬ r * j % p = 1) (fun i => (p - intOf i).toNat)
    case atStart => exact ⟨1, rfl, by omega, by omega, fun j h2 h3 => absurd h3 (by omega)⟩
    case round =>
      obtain ⟨x, rfl, hx1, hx2, hall⟩ := hrel
      have HALL := Lib.hid hall
      clear hall
      by_cases hlt : x < p
      · have hm := mul_bd hx ⟨by omega, hlt⟩ hp
        obtain ⟨P, hP⟩ : ∃ P, r * x = P := ⟨_, rfl⟩
        rw [hP] at hm
        have HP := Lib.hid hP
        by_cases h1 : P % p = 1
        · obtain ⟨rfl, hne⟩ := F.out x hx1 hlt (by rw [HP.out]; exact h1)
          have hu := EY.out hne
          subst hu
          clear hne
          have h11 : (P % p == 1) = true := by simpa using h1
          clear h1
          go_wp2_with (go_at_call 16; with_reducible refine RR1.out.mono ?_; rintro e w' ⟨rfl, rfl⟩)
          go_ret2
          exact ⟨rfl, rfl⟩
        · have H1 := Lib.hid h1
          have h11 : (P % p == 1) = false := by simpa using h1
          clear h1
          go_wp2_with (go_at_call 16; with_reducible refine RR1.out.mono ?_; rintro e w' ⟨rfl, rfl⟩)
          go_round
          case rel => exact ⟨x + 1, rfl, by omega, by omega, fun j hj1 hj2 => by
            by_cases e : j = x
            · rw [e, HP.out]; exact H1.out
            · exact HALL.out j hj1 (by omega)⟩
          case measure => simp [intOf]; omega
      · obtain rfl : x = p := by omega
        have h0 := N.out HALL.out
        have hv := FZ.out h0
        have hu := EZ.out h0
        subst hv
        subst hu
        clear h0
        go_wp2_with fail
        go_ret2
        exact ⟨rfl, rfl⟩
  · rw [chk_no hb] at C
    rw [einv_no hb, finv_no hpr]
    have CC := Lib.hid C
    clear C R1 hb hpr
    go_enter Tryd.func20, Tryd.ntmps20
    go_wp2_with (go_at_call 18; with_reducible refine CC.out.mono ?_; rintro e w' ⟨rfl, rfl⟩)
    go_ret2
    exact ⟨rfl, rfl⟩

set_option maxHeartbeats 1000000 in
theorem refDiv_anyF (a b p : Int) (w : World) (h2 : -9223372036854775808 ≤ p) (h3 : p ≤ 9223372036854775807) :
    Calls Tryd.prog 22 #[.int .i64 a, .int .i64 b, .int .i64 p] w fun e w' => e = .returned (.tuple #[.int .i64 (fdiv a b p), .int .i64 (einv b p)]) ∧ w = w' := by
  have I := refInv_any b p w h2 h3
  have M := refMul_anyF a (finv b p) p w h2 h3
  rcases primB_or p with ⟨hb, hpr⟩ | ⟨hb, -⟩
  · by_cases hz : b % p = 0
    · rw [einv_zero hb hz] at I ⊢
      rw [fdiv_zero hb hz]
      have II := Lib.hid I
      clear I M hb hpr hz
      go_enter Tryd.func22, Tryd.ntmps22
      go_wp2_with (go_at_call 20; with_reducible refine II.out.mono ?_; rintro e w' ⟨rfl, rfl⟩)
      go_ret2
      exact ⟨rfl, rfl⟩
    · rw [einv_yes hb hz] at I ⊢
      rw [fdiv_yes hb hz]
      rw [fmul_yes hb, chk_yes hb] at M
      generalize a * finv b p % p = r at *
      generalize finv b p = x at *
      have II := Lib.hid I
      have MM := Lib.hid M
      clear I M hb hpr hz
      go_enter Tryd.func22, Tryd.ntmps22
      go_wp2_with (first
        | (go_at_call 20; with_reducible refine II.out.mono ?_; rintro e w' ⟨rfl, rfl⟩)
        | (go_at_call 14; with_reducible refine MM.out.mono ?_; rintro e w' ⟨rfl, rfl⟩))
      go_ret2
      exact ⟨rfl, rfl⟩
  · rw [einv_no hb] at I ⊢
    rw [fdiv_no hb]
    have II := Lib.hid I
    clear I M hb
    go_enter Tryd.func22, Tryd.ntmps22
    go_wp2_with (go_at_call 20; with_reducible refine II.out.mono ?_; rintro e w' ⟨rfl, rfl⟩)
    go_ret2
    exact ⟨rfl, rfl⟩

end Go.Proofs.YtfgldmfdopagjaaDoor

/- cleaverref05.Add, Sub, Mul, Inv, Div, Pow, by their contracts. -/
import Derived.Test.YtipdnfdeacdkgaaDoorRefIs
import Derived.Test.YtipdnfdeacdkgaaDoorRefFPow
namespace Go.Proofs.YtipdnfdeacdkgaaDoor
open Go.RowKit

theorem inv_none {a p r : Int} (h : Pr p) (hr : a % p = r) (hn : ∀ j : Int, 1 ≤ j → j < p → ¬ r * j % p = 1) : a % p = 0 := by
  rcases Classical.em (a % p = 0) with h0 | h0
  · exact h0
  · have hs := finv_spec h h0
    refine absurd ?_ (hn _ hs.1 hs.2.1)
    rw [← hr, Int.mul_emod, Int.emod_emod_of_dvd _ (Int.dvd_refl _), ← Int.mul_emod]
    exact hs.2.2
theorem inv_found {a p r x : Int} (h : Pr p) (hr : a % p = r) (h1 : 1 ≤ x) (h2 : x < p) (h3 : r * x % p = 1) : finv a p = x ∧ a % p ≠ 0 := by
  have e : a * x % p = 1 := by
    rw [← h3, ← hr]
    rw [Int.mul_emod (a % p), Int.emod_emod_of_dvd _ (Int.dvd_refl _), ← Int.mul_emod]
  refine ⟨finv_eq h ⟨by omega, h2, e⟩, fun h0 => ?_⟩
  rw [Int.mul_emod, h0, Int.zero_mul] at e
  simp at e

set_option maxHeartbeats 1000000 in
theorem refInv_any (a p : Int) (w : World) (h2 : -9223372036854775808 ≤ p) (h3 : p ≤ 9223372036854775807) :
    Calls Tryd.prog 24 #[.int .i64 a, .int .i64 p] w fun e w' => e = .returned (.tuple #[.int .i64 (finv a p), .int .i64 (einv a p)]) ∧ w = w' := by
  have C := refCheck_any p w h2 h3
  have R1 := refRed_any a p w h2 h3
  rcases primB_or p with ⟨hb, hpr⟩ | ⟨hb, hpr⟩
  · rw [chk_yes hb] at C
    rw [(red_pr hpr).1] at R1
    have hx := (red_pr (a := a) hpr).2
    have hp := hpr.2.1
    have hp2 := hpr.1
    obtain ⟨r, hr⟩ : ∃ r, a % p = r := ⟨_, rfl⟩
    rw [hr] at R1 hx
    have F := Lib.hid (fun x => @inv_found a p r x hpr hr)
    have N := Lib.hid (inv_none hpr hr)
    have EZ := Lib.hid (fun h => einv_zero (a := a) hb h)
    have EY := Lib.hid (fun h => einv_yes (a := a) hb h)
    have FZ := Lib.hid (@finv_zero a p)
    generalize finv a p = v at *
    generalize einv a p = u at *
    have CC := Lib.hid C
    have RR1 := Lib.hid R1
    clear C R1 hb hpr hr
    go_enter Tryd.func24, Tryd.ntmps24
    go_wp2_with (first
      | (go_at_call 36; with_reducible refine CC.out.mono ?_; rintro e w' ⟨rfl, rfl⟩))
    go_loop [6] (fun i => ∃ x : Int, i = .int .i64 x ∧ 1 ≤ x ∧ x ≤ p ∧ ∀ j : Int, 1 ≤ j → j < x → ¬ r * j % p = 1) (fun i => (p - intOf i).toNat)
    case atStart => exact ⟨1, rfl, by omega, by omega, fun j h2 h3 => absurd h3 (by omega)⟩
    case round =>
      obtain ⟨x, rfl, hx1, hx2, hall⟩ := hrel
      have HALL := Lib.hid hall
      clear hall
      by_cases hlt : x < p
      · have hm := mul_bd hx ⟨by omega, hlt⟩ hp
        obtain ⟨P, hP⟩ : ∃ P, r * x = P := ⟨_, rfl⟩
        rw [hP] at hm
        have HP := Lib.hid hP
        by_cases h1 : P % p = 1
        · obtain ⟨rfl, hne⟩ := F.out x hx1 hlt (by rw [HP.out]; exact h1)
          have hu := EY.out hne
          subst hu
          clear hne
          have h11 : (P % p == 1) = true := by simpa using h1
          clear h1
          go_wp2_with (go_at_call 21; with_reducible refine RR1.out.mono ?_; rintro e w' ⟨rfl, rfl⟩)
          go_ret2
          exact ⟨rfl, rfl⟩
        · have H1 := Lib.hid h1
          have h11 : (P % p == 1) = false := by simpa using h1
          clear h1
          go_wp2_with (go_at_call 21; with_reducible refine RR1.out.mono ?_; rintro e w' ⟨rfl, rfl⟩)
          go_round
          case rel => exact ⟨x + 1, rfl, by omega, by omega, fun j hj1 hj2 => by
            by_cases e : j = x
            · rw [e, HP.out]; exact H1.out
            · exact HALL.out j hj1 (by omega)⟩
          case measure => simp [intOf]; omega
      · obtain rfl : x = p := by omega
        have h0 := N.out HALL.out
        have hv := FZ.out h0
        have hu := EZ.out h0
        subst hv
        subst hu
        clear h0
        go_wp2_with fail
        go_ret2
        exact ⟨rfl, rfl⟩
  · rw [chk_no hb] at C
    rw [einv_no hb, finv_no hpr]
    have CC := Lib.hid C
    clear C R1 hb hpr
    go_enter Tryd.func24, Tryd.ntmps24
    go_wp2_with (go_at_call 36; with_reducible refine CC.out.mono ?_; rintro e w' ⟨rfl, rfl⟩)
    go_ret2
    exact ⟨rfl, rfl⟩

end Go.Proofs.YtipdnfdeacdkgaaDoor

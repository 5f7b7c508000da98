/- cleaverref04.Is, cleaverref05.Check and Red, by their contracts. -/
import Derived.Test.YtipdnfdeacdkgaaDoorFpMath
import Derived.Test.YtipdnfdeacdkgaaDoorProg
import Derived.WalkKit
import Derived.WalkSpells
import Derived.Lib.Hide
namespace Go.Proofs.YtipdnfdeacdkgaaDoor
open Go.RowKit

theorem sq_le {a b : Nat} (h : a ≤ b) : a * a ≤ b * b := Nat.mul_le_mul h h

set_option maxHeartbeats 1000000 in
theorem refIs_any (n : Int) (w : World) (h0 : -9223372036854775808 ≤ n) (h1 : n ≤ 9223372036854775807) :
    Calls Tryd.prog 48 #[.int .i64 n] w fun e w' => e = .returned (.bool (primB n)) ∧ w = w' := by
  by_cases hlo : n < 2
  · have hp := primB_no (p := n) (fun h => by have := h.1; omega)
    have HP := Lib.hid hp
    clear hp
    go_enter Tryd.func48, Tryd.ntmps48
    go_wp2_with fail
    go_ret
    exact ⟨by rw [HP.out]; rfl, rfl⟩
  by_cases hhi : 65521 < n
  · have hp := primB_no (p := n) (fun h => by have := h.2.1; omega)
    have HP := Lib.hid hp
    clear hp
    go_enter Tryd.func48, Tryd.ntmps48
    go_wp2_with fail
    go_ret
    exact ⟨by rw [HP.out]; rfl, rfl⟩
  obtain ⟨m, rfl⟩ : ∃ m : Nat, n = (m : Int) := ⟨n.toNat, by omega⟩
  have hm2 : 2 ≤ m := by omega
  have hm9 : m ≤ 65521 := by omega
  have hyes := fun d => pr_trial hm2 hm9 d
  have hno := fun d => @pr_not m d
  have pyes : Pr (m : Int) → primB (m : Int) = true := primB_yes
  have pno : ¬ Pr (m : Int) → primB (m : Int) = false := primB_no
  generalize primB (m : Int) = r at *
  have HYES := Lib.hid hyes
  have HNO := Lib.hid hno
  have PYES := Lib.hid pyes
  have PNO := Lib.hid pno
  clear hyes hno pyes pno h0 h1
  go_enter Tryd.func48, Tryd.ntmps48
  go_wp2_with fail
  go_loop [3] (fun i => ∃ d : Nat, i = .int .i64 (d : Int) ∧ 2 ≤ d ∧ d ≤ 256 ∧ ∀ e, 2 ≤ e → e < d → ¬ e ∣ m) (fun i => (300 - intOf i).toNat)
  case atStart => exact ⟨2, rfl, by omega, by omega, fun e h2 h3 => absurd h3 (by omega)⟩
  case round =>
    obtain ⟨d, rfl, hd2, hd9, hall⟩ := hrel
    have HALL := Lib.hid hall
    obtain ⟨D, hD⟩ : ∃ D, D = d * d := ⟨_, rfl⟩
    have hDi : (d : Int) * (d : Int) = (D : Int) := by rw [hD]; exact (Int.natCast_mul d d).symm
    have hDD := sq_le hd9
    have hD9 : D ≤ 65536 := by omega
    have HD := Lib.hid hD
    clear hall hD hDD
    by_cases hle : D ≤ m
    · have hne : d ≠ 256 := by
        intro e
        have := HD.out
        subst e
        omega
      by_cases hz : m % d = 0
      · have hb := PNO.out (HNO.out d hd2 (by rw [← HD.out]; exact hle) hz)
        have HB := Lib.hid hb
        have hzz : (((m : Int) % (d : Int)) == 0) = true := by simp; omega
        clear hb
        go_wp2_with fail
        go_ret
        exact ⟨by rw [HB.out]; rfl, rfl⟩
      · have hzz : (((m : Int) % (d : Int)) == 0) = false := by simp; omega
        have hnd : ¬ d ∣ m := fun h => hz (Nat.mod_eq_zero_of_dvd h)
        have HND := Lib.hid hnd
        have hd8 : d ≤ 255 := by omega
        clear hnd hz hne
        go_wp2_with fail
        go_round
        case rel => exact ⟨d + 1, by go_num, by omega, by omega, fun e h2 h3 => by
          rcases Nat.lt_or_ge e d with h | h
          · exact HALL.out e h2 h
          · obtain rfl : e = d := by omega
            exact HND.out⟩
        case measure => simp [intOf]; omega
    · have hb := PYES.out (HYES.out d (by rw [← HD.out]; omega) HALL.out)
      have HB := Lib.hid hb
      clear hb
      go_wp2_with fail
      go_ret
      exact ⟨by rw [HB.out]; rfl, rfl⟩

theorem refCheck_any (p : Int) (w : World) (h0 : -9223372036854775808 ≤ p) (h1 : p ≤ 9223372036854775807) :
    Calls Tryd.prog 36 #[.int .i64 p] w fun e w' => e = .returned (.int .i64 (chk p)) ∧ w = w' := by
  have T := refIs_any p w h0 h1
  have hy : primB p = true → chk p = 0 := chk_yes
  have hn : primB p = false → chk p = 1 := chk_no
  generalize primB p = b at *
  generalize chk p = c at *
  have TT := Lib.hid T
  clear T
  rcases b with _ | _
  · have hc := hn rfl
    clear hy hn
    subst hc
    go_enter Tryd.func36, Tryd.ntmps36
    go_wp2_with (go_at_call 48; refine TT.out.mono ?_; rintro e w' ⟨rfl, rfl⟩)
    go_ret
    exact ⟨rfl, rfl⟩
  · have hc := hy rfl
    clear hy hn
    subst hc
    go_enter Tryd.func36, Tryd.ntmps36
    go_wp2_with (go_at_call 48; refine TT.out.mono ?_; rintro e w' ⟨rfl, rfl⟩)
    go_ret
    exact ⟨rfl, rfl⟩

theorem refRed_any (a p : Int) (w : World) (h2 : -9223372036854775808 ≤ p) (h3 : p ≤ 9223372036854775807) :
    Calls Tryd.prog 21 #[.int .i64 a, .int .i64 p] w fun e w' => e = .returned (.int .i64 (red a p)) ∧ w = w' := by
  by_cases hp : p < 1
  · have e := red_low (a := a) hp
    generalize red a p = r at *
    subst e
    go_enter Tryd.func21, Tryd.ntmps21
    go_wp2_with fail
    go_ret
    exact ⟨rfl, rfl⟩
  · have e := red_pos (a := a) (show 1 ≤ p by omega)
    have hc := tmod_cases a p (by omega)
    rw [e]
    obtain ⟨t, ht⟩ : ∃ t, a.tmod p = t := ⟨_, rfl⟩
    obtain ⟨r, hr⟩ : ∃ r, a % p = r := ⟨_, rfl⟩
    rw [ht, hr] at hc
    rw [hr]
    clear e hr
    rcases hc with ⟨c1, rfl, c3⟩ | ⟨c1, rfl, c3⟩
    · go_enter Tryd.func21, Tryd.ntmps21
      go_wp2_with fail
      go_ret
      exact ⟨rfl, rfl⟩
    · go_enter Tryd.func21, Tryd.ntmps21
      go_wp2_with fail
      go_ret
      exact ⟨rfl, rfl⟩
end Go.Proofs.YtipdnfdeacdkgaaDoor

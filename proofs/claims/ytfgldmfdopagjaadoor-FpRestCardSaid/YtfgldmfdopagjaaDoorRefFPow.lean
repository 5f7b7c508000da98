/- cleaverref05.Pow, by its contract. -/
import Derived.Test.YtfgldmfdopagjaaDoorRefIs
namespace Go.Proofs.YtfgldmfdopagjaaDoor
open Go.RowKit

/-- Squaring's row: the power that is left. -/
def PowIn (a : Int) (n k : Nat) (out base p : Int) : Prop := (out * base ^ k) % p = a ^ n % p
theorem powIn_start (a : Int) (n : Nat) (p : Int) : PowIn a n n 1 (a % p) p := by
  unfold PowIn
  rw [Int.one_mul]
  induction n with
  | zero => rw [Int.pow_zero, Int.pow_zero]
  | succ n ih => rw [Int.pow_succ, Int.pow_succ, Int.mul_emod, ih, ← Int.mul_emod, Int.mul_emod, Int.emod_emod_of_dvd a (Int.dvd_refl _), ← Int.mul_emod]
theorem pow_mod_base (x p : Int) (k : Nat) : (x % p) ^ k % p = x ^ k % p := by
  induction k with
  | zero => rw [Int.pow_zero, Int.pow_zero]
  | succ k ih => rw [Int.pow_succ, Int.pow_succ, Int.mul_emod, ih, ← Int.mul_emod, Int.mul_emod, Int.emod_emod_of_dvd x (Int.dvd_refl _), ← Int.mul_emod]
theorem powIn_sq {a : Int} {n k : Nat} {out base p : Int} (h : PowIn a n k out base p) (he : k % 2 = 0) : PowIn a n (k / 2) out (base * base % p) p := by
  unfold PowIn at *
  rw [← h, Int.mul_emod, pow_mod_base, ← Int.mul_emod]
  have : k = 2 * (k / 2) := by omega
  conv => rhs; rw [this, Int.pow_mul]
  rw [show base ^ 2 = base * base from by rw [Int.pow_succ, Int.pow_succ, Int.pow_zero, Int.one_mul]]
theorem powIn_odd {a : Int} {n k : Nat} {out base p : Int} (h : PowIn a n k out base p) (he : k % 2 = 1) : PowIn a n (k / 2) (out * base % p) (base * base % p) p := by
  unfold PowIn at *
  rw [← h, Int.mul_emod, pow_mod_base, Int.emod_emod_of_dvd _ (Int.dvd_refl _), ← Int.mul_emod]
  have : k = 2 * (k / 2) + 1 := by omega
  conv => rhs; rw [this, Int.pow_succ, Int.pow_mul]
  rw [show base ^ 2 = base * base from by rw [Int.pow_succ, Int.pow_succ, Int.pow_zero, Int.one_mul]]
  generalize (base * base) ^ (k / 2) = u
  congr 1
  grind
theorem powIn_end {a : Int} {n : Nat} {out base p : Int} (h : PowIn a n 0 out base p) (h0 : 0 ≤ out) (h1 : out < p) : out = a ^ n % p := by
  unfold PowIn at h
  rw [Int.pow_zero, Int.mul_one] at h
  rw [← h]
  exact (Int.emod_eq_of_lt h0 h1).symm

set_option maxHeartbeats 1000000 in
theorem refPow_any (a n p : Int) (w : World) (h2 : -9223372036854775808 ≤ p) (h3 : p ≤ 9223372036854775807) (h5 : n ≤ 9223372036854775807) :
    Calls Tryd.prog 24 #[.int .i64 a, .int .i64 n, .int .i64 p] w fun e w' => e = .returned (.tuple #[.int .i64 (fpow a n p), .int .i64 (epow n p)]) ∧ w = w' := by
  have C := refCheck_any p w h2 h3
  have R1 := refRed_any a p w h2 h3
  rcases primB_or p with ⟨hb, hpr⟩ | ⟨hb, -⟩
  · rw [chk_yes hb] at C
    by_cases hn : n < 0
    · rw [fpow_low hb hn, epow_low hb hn]
      have CC := Lib.hid C
      clear C R1 hb hpr
      go_enter Tryd.func24, Tryd.ntmps24
      go_wp2_with (go_at_call 18; with_reducible refine CC.out.mono ?_; rintro e w' ⟨rfl, rfl⟩)
      go_ret2
      exact ⟨rfl, rfl⟩
    · obtain ⟨m, rfl⟩ : ∃ m : Nat, n = (m : Int) := ⟨n.toNat, by omega⟩
      rw [fpow_yes m hb, epow_yes hb (by omega)]
      rw [(red_pr hpr).1] at R1
      have hx := (red_pr (a := a) hpr).2
      have hp := hpr.2.1
      have hp2 := hpr.1
      have ST := Lib.hid (powIn_start a m p)
      generalize a % p = r at *
      have END := Lib.hid (fun out base => @powIn_end a m out base p)
      have SQ := Lib.hid (fun k out base => @powIn_sq a m k out base p)
      have OD := Lib.hid (fun k out base => @powIn_odd a m k out base p)
      generalize PowIn a m = PI at *
      have CC := Lib.hid C
      have RR1 := Lib.hid R1
      generalize a ^ m % p = res at *
      have h1p : (1 : Int) % p = 1 := Int.emod_eq_of_lt (by omega) (by omega)
      clear C R1 hb hpr hn
      go_enter Tryd.func24, Tryd.ntmps24
      go_wp2_with (first
        | (go_at_call 18; with_reducible refine CC.out.mono ?_; rintro e w' ⟨rfl, rfl⟩)
        | (go_at_call 16; with_reducible refine RR1.out.mono ?_; rintro e w' ⟨rfl, rfl⟩))
      go_loop [8, 9, 10] (fun o b k => ∃ (out base : Int) (j : Nat), o = .int .i64 out ∧ b = .int .i64 base ∧ k = .int .i64 (j : Int) ∧ 0 ≤ out ∧ out < p ∧ 0 ≤ base ∧ base < p ∧ j ≤ m ∧ Hid (PI j out base p)) (fun _ _ k => (intOf k).toNat)
      case atStart => exact ⟨1, r, m, rfl, rfl, rfl, by omega, by omega, hx.1, hx.2, Nat.le_refl _, ST⟩
      case round =>
        obtain ⟨out, base, j, rfl, rfl, rfl, ho1, ho2, hb1, hb2, hj, hI⟩ := hrel
        by_cases h0 : j = 0
        · subst h0
          obtain rfl := END.out out base hI.out ho1 ho2
          go_wp2_with fail
          go_ret2
          exact ⟨rfl, rfl⟩
        · have hm1 := mul_bd ⟨ho1, ho2⟩ ⟨hb1, hb2⟩ hp
          have hm2 := mul_bd ⟨hb1, hb2⟩ ⟨hb1, hb2⟩ hp
          obtain ⟨P, hP⟩ : ∃ P, out * base = P := ⟨_, rfl⟩
          obtain ⟨S, hS⟩ : ∃ S, base * base = S := ⟨_, rfl⟩
          rw [hP] at hm1
          rw [hS] at hm2
          have HP := Lib.hid hP
          have HS := Lib.hid hS
          have q1 := Int.emod_nonneg P (b := p) (by omega)
          have q2 := Int.emod_lt_of_pos P (b := p) (by omega)
          have q3 := Int.emod_nonneg S (b := p) (by omega)
          have q4 := Int.emod_lt_of_pos S (b := p) (by omega)
          have hpos : (0 : Int) < (j : Int) := by omega
          by_cases hodd : j % 2 = 1
          · have hoo : (((j : Int) % 2) == 1) = true := by simp; omega
            have HO := Lib.hid hodd
            clear hodd
            go_wp2_with fail
            go_round
            case rel => exact ⟨P % p, S % p, j / 2, rfl, rfl, by go_num, q1, q2, q3, q4, by omega, Lib.hid (by rw [← HP.out, ← HS.out]; exact OD.out j out base hI.out HO.out)⟩
            case measure => simp [intOf]; omega
          · have hoo : (((j : Int) % 2) == 1) = false := by simp; omega
            have HO := Lib.hid hodd
            clear hodd
            go_wp2_with fail
            go_round
            case rel => exact ⟨out, S % p, j / 2, rfl, rfl, by go_num, ho1, ho2, q3, q4, by omega, Lib.hid (by rw [← HS.out]; exact SQ.out j out base hI.out (by have := HO.out; omega))⟩
            case measure => simp [intOf]; omega
  · rw [chk_no hb] at C
    rw [epow_no hb, fpow_no hb]
    have CC := Lib.hid C
    clear C R1 hb
    go_enter Tryd.func24, Tryd.ntmps24
    go_wp2_with (go_at_call 18; with_reducible refine CC.out.mono ?_; rintro e w' ⟨rfl, rfl⟩)
    go_ret2
    exact ⟨rfl, rfl⟩
end Go.Proofs.YtfgldmfdopagjaaDoor

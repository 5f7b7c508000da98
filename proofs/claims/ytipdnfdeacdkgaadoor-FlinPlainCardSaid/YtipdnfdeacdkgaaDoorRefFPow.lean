/- cleaverref05.Pow, by its contract. -/
import Derived.Test.YtipdnfdeacdkgaaDoorRefIs
namespace Go.Proofs.YtipdnfdeacdkgaaDoor
open Go.RowKit

/-- Squaring's row: the power that is left. -/
def PowIn (a : Int) (n k : Nat) (out base p : Int) : Prop := (out * base ^ k) % p = a ^ n % p
theorem powIn_start (a : Int) (n : Nat) (p : Int) : PowIn a n n 1 (a % p) p := by
  unfold PowIn
  rw [Int.one_mul]
  induction n with
  | zero => rw [Int.pow_zero, Int.pow_zero]
  | succ n ih => rw [Int.pow_succ, Int.pow_succ, Int.mul_emod, ih, ← Int.mul_emod, Int.mul_emod, Int.emod_emod_of_dvd a (Int.dvd_refl _), ← Int.mul_emod]
theorem pow_mod_base (x p : Int) (k : Nat) : (x % p) ^ k % p = x ^ k % p := by
  induction k with
  | zero => rw [Int.pow_zero, Int.pow_zero]
  | succ k ih => rw [Int.pow_succ, Int.pow_succ, Int.mul_emod, ih, ← Int.mul_emod, Int.mul_emod, Int.emod_emod_of_dvd x (Int.dvd_refl _), ← Int.mul_emod]
theorem powIn_sq {a : Int} {n k : Nat} {out base p : Int} (h : PowIn a n k out base p) (he : k % 2 = 0) : PowIn a n (k / 2) out (base * base % p) p := by
  unfold PowIn at *
  rw [← h, Int.mul_emod, pow_mod_base, ← Int.mul_emod]
  have : k = 2 * (k / 2) := by omega
  conv => rhs; rw [this, Int.pow_mul]
  rw [show base ^ 2 = base * base from by rw [Int.pow_succ, Int.pow_succ, Int.pow_zero, Int.one_mul]]
theorem powIn_odd {a : Int} {n k : Nat} {out base p : Int} (h : PowIn a n k out base p) (he : k % 2 = 1) : PowIn a n (k / 2) (out * base % p) (base * base % p) p := by
  unfold PowIn at *
  rw [← h, Int.mul_emod, pow_mod_base, Int.emod_emod_of_dvd _ (Int.dvd_refl _), ← Int.mul_emod]
  have : k = 2 * (k / 2) + 1 := by omega
  conv => rhs; rw [this, Int.pow_succ, Int.pow_mul]
  rw [show base ^ 2 = base * base from by rw [Int.pow_succ, Int.pow_succ, Int.pow_zero, Int.one_mul]]
  generalize (base * base) ^ (k / 2) = u
  congr 1
  grind
theorem powIn_end {a : Int} {n : Nat} {out base p : Int} (h : PowIn a n 0 out base p) (h0 : 0 ≤ out) (h1 : out < p) : out = a ^ n % p := by
  unfold PowIn at h
  rw [Int.pow_zero, Int.mul_one] at h
  rw [← h]
  exact (Int.emod_eq_of_lt h0 h1).symm

end Go.Proofs.YtipdnfdeacdkgaaDoor

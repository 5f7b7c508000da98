/- nat.rowProduct, by its contract: as many limbs as both factors have, of the product. -/
import Derived.Test.YtmajmpgcdpbnfaaDoorNatSub
namespace Go.Proofs.YtmajmpgcdpbnfaaDoor
open Go.RowKit

theorem row_bound (xs ys : List Nat) (n k : Nat) (hx : Fit xs) (hy : Fit ys) (hn : xs.length = n) : val xs * val (ys.take k) / 18446744073709551616 ^ k < 18446744073709551616 ^ n := by
  have h1 := val_lt hx
  rw [hn] at h1
  have h2 := val_lt (fit_take hy k)
  have h3 : 18446744073709551616 ^ (ys.take k).length ≤ 18446744073709551616 ^ k := Nat.pow_le_pow_right (by decide) (by rw [List.length_take]; omega)
  apply Nat.div_lt_of_lt_mul
  rw [Nat.mul_comm (18446744073709551616 ^ k)]
  rcases Nat.eq_zero_or_pos (val xs) with h0 | h0
  · rw [h0, Nat.zero_mul]; exact Nat.mul_pos (Nat.pow_pos (by decide)) (Nat.pow_pos (by decide))
  · exact Nat.lt_of_lt_of_le (Nat.mul_lt_mul_of_pos_left (Nat.lt_of_lt_of_le h2 h3) h0) (Nat.mul_le_mul_right _ (Nat.le_of_lt h1))
theorem row_all (xs ys : List Nat) (n k K : Nat) (hx : Fit xs) (hy : Fit ys) (hn : xs.length = n) (hK : n + k ≤ K) : val xs * val (ys.take k) < 18446744073709551616 ^ K := by
  have h := row_bound xs ys n k hx hy hn
  rw [Nat.div_lt_iff_lt_mul (Nat.pow_pos (by decide)), ← Nat.pow_add] at h
  exact Nat.lt_of_lt_of_le h (Nat.pow_le_pow_right (by decide) hK)
theorem row_limb (xs : List Nat) (n m Q : Nat) (hx : Fit xs) (hn : xs.length = n) (hQ : Q < 18446744073709551616 ^ n) (hm : m < 18446744073709551616) : val (dig (n + 1) Q) + m * val xs < 18446744073709551616 ^ (n + 1) := by
  have h1 := val_lt hx
  rw [hn] at h1
  have e : 18446744073709551616 ^ (n + 1) = 18446744073709551616 ^ n * 18446744073709551616 := Nat.pow_succ ..
  rw [val_dig_of_lt (by omega), e]
  have h2 : m * val xs ≤ 18446744073709551615 * (18446744073709551616 ^ n - 1) := Nat.mul_le_mul (by omega) (by omega)
  omega

end Go.Proofs.YtmajmpgcdpbnfaaDoor

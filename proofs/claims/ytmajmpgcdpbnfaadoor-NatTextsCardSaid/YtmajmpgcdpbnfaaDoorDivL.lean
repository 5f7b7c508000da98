/- Division by one limb: mathematics. -/
import Derived.Test.YtmajmpgcdpbnfaaDoorDivK
import Derived.Test.YtmajmpgcdpbnfaaDoorNatVal
namespace Go.Proofs.YtmajmpgcdpbnfaaDoor
open Go.RowKit

theorem dig_set (K V V' i : Nat) (hi : i < K) (hlow : V' % 18446744073709551616 ^ i = V % 18446744073709551616 ^ i) (hhigh : V' / 18446744073709551616 ^ (i + 1) = V / 18446744073709551616 ^ (i + 1)) :
    (dig K V).set i (V' / 18446744073709551616 ^ i % 18446744073709551616) = dig K V' := by
  induction i generalizing K V V' with
  | zero =>
    obtain ⟨k, rfl⟩ : ∃ k, K = k + 1 := ⟨K - 1, by omega⟩
    simp only [dig, List.set_cons_zero, Nat.pow_zero, Nat.div_one]
    rw [Nat.zero_add, Nat.pow_one] at hhigh
    rw [hhigh]
  | succ i ih =>
    obtain ⟨k, rfl⟩ : ∃ k, K = k + 1 := ⟨K - 1, by omega⟩
    have h1 : V' % 18446744073709551616 = V % 18446744073709551616 := by
      have : V' % 18446744073709551616 ^ (i + 1) % 18446744073709551616 = V % 18446744073709551616 ^ (i + 1) % 18446744073709551616 := by rw [hlow]
      have hd : 18446744073709551616 ∣ 18446744073709551616 ^ (i + 1) := by rw [Nat.pow_succ]; exact Nat.dvd_mul_left _ _
      rwa [Nat.mod_mod_of_dvd _ hd, Nat.mod_mod_of_dvd _ hd] at this
    have e : 18446744073709551616 ^ (i + 1) = 18446744073709551616 * 18446744073709551616 ^ i := by rw [Nat.pow_succ, Nat.mul_comm]
    have e2 : 18446744073709551616 ^ (i + 1 + 1) = 18446744073709551616 * 18446744073709551616 ^ (i + 1) := by rw [Nat.pow_succ, Nat.mul_comm]
    simp only [dig, List.set_cons_succ]
    rw [h1, e, ← Nat.div_div_eq_div_mul, ih k (V / 18446744073709551616) (V' / 18446744073709551616) (by omega) ?_ ?_]
    · rw [← Nat.mod_mul_right_div_self, ← Nat.mod_mul_right_div_self, ← e, hlow]
    · rw [Nat.div_div_eq_div_mul, Nat.div_div_eq_div_mul, ← e2, hhigh]

theorem dig_getD (K V i : Nat) (hi : i < K) : (dig K V).getD i 0 = V / 18446744073709551616 ^ i % 18446744073709551616 := by
  induction i generalizing K V with
  | zero =>
    obtain ⟨k, rfl⟩ : ∃ k, K = k + 1 := ⟨K - 1, by omega⟩
    simp [dig]
  | succ i ih =>
    obtain ⟨k, rfl⟩ : ∃ k, K = k + 1 := ⟨K - 1, by omega⟩
    have e : 18446744073709551616 ^ (i + 1) = 18446744073709551616 * 18446744073709551616 ^ i := by rw [Nat.pow_succ, Nat.mul_comm]
    rw [e, ← Nat.div_div_eq_div_mul, ← ih k _ (by omega)]
    simp [dig]

/-- The number whose upper limbs are divided and whose lower j ones are not. -/
def dlV (V d j : Nat) : Nat := V / 18446744073709551616 ^ j / d * 18446744073709551616 ^ j + V % 18446744073709551616 ^ j

theorem dlV_mod (V d j i : Nat) (h : i ≤ j) : dlV V d j % 18446744073709551616 ^ i = V % 18446744073709551616 ^ i := by
  have hd : 18446744073709551616 ^ i ∣ 18446744073709551616 ^ j := Nat.pow_dvd_pow _ h
  unfold dlV
  rw [Nat.add_mod, Nat.mod_mod_of_dvd _ hd, Nat.mod_eq_zero_of_dvd (Nat.dvd_trans hd (Nat.dvd_mul_left _ _)), Nat.zero_add, Nat.mod_mod]

theorem dlV_div (V d j : Nat) : dlV V d j / 18446744073709551616 ^ j = V / 18446744073709551616 ^ j / d := by
  have hp : 0 < 18446744073709551616 ^ j := Nat.pow_pos (by decide)
  unfold dlV
  rw [Nat.mul_comm, Nat.mul_add_div hp, Nat.div_eq_of_lt (Nat.mod_lt _ hp), Nat.add_zero]

theorem dlV_step (V d i x N r : Nat) (hd : 0 < d) (hx : x = V / 18446744073709551616 ^ i % 18446744073709551616) (hN : N = V / 18446744073709551616 ^ (i + 1)) (hr : r = N % d) :
    dlV V d i / 18446744073709551616 ^ i % 18446744073709551616 = (r * 18446744073709551616 + x) / d ∧ V / 18446744073709551616 ^ i % d = (r * 18446744073709551616 + x) % d ∧ dlV V d i / 18446744073709551616 ^ (i + 1) = dlV V d (i + 1) / 18446744073709551616 ^ (i + 1) := by
  have e1 : V / 18446744073709551616 ^ i = N * 18446744073709551616 + x := by
    rw [hN, hx, Nat.pow_succ, ← Nat.div_div_eq_div_mul, Nat.mul_comm]
    exact (Nat.div_add_mod _ _).symm
  have hxb : x < 18446744073709551616 := by rw [hx]; exact Nat.mod_lt _ (by decide)
  have hrd : r < d := by rw [hr]; exact Nat.mod_lt _ hd
  have e2 : N * 18446744073709551616 + x = (r * 18446744073709551616 + x) + d * (N / d * 18446744073709551616) := by
    have h := Nat.div_add_mod N d
    rw [← hr] at h
    conv => lhs; rw [← h, Nat.add_mul, Nat.mul_assoc]
    rw [Nat.add_assoc, Nat.add_comm]
  have hq : (r * 18446744073709551616 + x) / d < 18446744073709551616 := by
    apply Nat.div_lt_of_lt_mul
    have := Nat.mul_le_mul_right 18446744073709551616 hrd
    rw [Nat.succ_mul] at this
    exact Nat.lt_of_lt_of_le (Nat.add_lt_add_left hxb _) this
  refine ⟨?_, ?_, ?_⟩
  · rw [dlV_div, e1, e2, Nat.add_mul_div_left _ _ hd, Nat.add_mul_mod_self_right, Nat.mod_eq_of_lt hq]
  · rw [e1, e2, Nat.add_mul_mod_self_left]
  · have a : dlV V d i / 18446744073709551616 ^ (i + 1) = V / 18446744073709551616 ^ i / d / 18446744073709551616 := by
      rw [Nat.pow_succ, ← Nat.div_div_eq_div_mul, dlV_div]
    have b : dlV V d (i + 1) / 18446744073709551616 ^ (i + 1) = V / 18446744073709551616 ^ i / 18446744073709551616 / d := by
      rw [dlV_div, Nat.pow_succ, ← Nat.div_div_eq_div_mul]
    rw [a, b]
    generalize V / 18446744073709551616 ^ i = M
    rw [Nat.div_div_eq_div_mul, Nat.div_div_eq_div_mul, Nat.mul_comm]
end Go.Proofs.YtmajmpgcdpbnfaaDoor

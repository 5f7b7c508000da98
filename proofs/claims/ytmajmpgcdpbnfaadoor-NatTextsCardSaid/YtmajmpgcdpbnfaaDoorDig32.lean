/- Digits in base 2^32: so many of a number; division by a small number from the top. Mathematics. -/
import Derived.Test.YtmajmpgcdpbnfaaDoorRefMath
namespace Go.Proofs.YtmajmpgcdpbnfaaDoor
open Go.RowKit

/-- n limbs of a number, the lowest first. -/
def dig32 : Nat → Nat → List Nat
  | 0, _ => []
  | n + 1, v => v % 4294967296 :: dig32 n (v / 4294967296)
theorem dig32_length (n v : Nat) : (dig32 n v).length = n := by
  induction n generalizing v with
  | zero => rfl
  | succ n ih => simp [dig32, ih]
theorem fit32_dig32 (n v : Nat) : Fit32 (dig32 n v) := by
  induction n generalizing v with
  | zero => exact fit32_nil
  | succ n ih => exact fit32_cons (by omega) (ih _)
theorem dig32_val {xs : List Nat} (h : Fit32 xs) : dig32 xs.length (val32 xs) = xs := by
  induction xs with
  | nil => rfl
  | cons x xs ih =>
    have hx := fit32_head h
    simp only [List.length_cons, dig32, val32_cons]
    have e1 : (x + 4294967296 * val32 xs) % 4294967296 = x := by omega
    have e2 : (x + 4294967296 * val32 xs) / 4294967296 = val32 xs := by omega
    rw [e1, e2, ih (fit32_tail h)]
theorem val32_dig32 (n v : Nat) : val32 (dig32 n v) = v % 4294967296 ^ n := by
  induction n generalizing v with
  | zero => simp [dig32, val32, Nat.mod_one]
  | succ n ih =>
    rw [dig32, val32_cons, ih, Nat.pow_succ, Nat.mul_comm (4294967296 ^ n), Nat.mod_mul]
theorem dig32_snoc (n v : Nat) : dig32 (n + 1) v = dig32 n v ++ [v / 4294967296 ^ n % 4294967296] := by
  induction n generalizing v with
  | zero => simp [dig32]
  | succ n ih =>
    rw [dig32, ih (v / 4294967296)]
    rw [show dig32 (n + 1) v = v % 4294967296 :: dig32 n (v / 4294967296) from rfl]
    rw [Nat.div_div_eq_div_mul, Nat.pow_succ, Nat.mul_comm 4294967296]
    rfl
theorem dig32_mod (n v : Nat) : dig32 n (v % 4294967296 ^ n) = dig32 n v := by
  have := dig32_val (fit32_dig32 n v)
  rw [dig32_length, val32_dig32] at this
  exact this
theorem dig32_add_mul (n v u : Nat) : dig32 n (v + 4294967296 ^ n * u) = dig32 n v := by
  rw [← dig32_mod n (v + 4294967296 ^ n * u), Nat.add_mul_mod_self_left, dig32_mod]
theorem val32_dig32_of_lt {n v : Nat} (h : v < 4294967296 ^ n) : val32 (dig32 n v) = v := by rw [val32_dig32, Nat.mod_eq_of_lt h]
/-- Front and rear parts of a number's limbs. -/
theorem dig32_take (n k v : Nat) (h : k ≤ n) : (dig32 n v).take k = dig32 k v := by
  induction n generalizing k v with
  | zero =>
    have : k = 0 := by omega
    subst this; rfl
  | succ n ih =>
    cases k with
    | zero => rfl
    | succ k => rw [dig32, List.take_succ_cons, ih k _ (by omega), dig32]
theorem dig32_drop (n k v : Nat) : (dig32 n v).drop k = dig32 (n - k) (v / 4294967296 ^ k) := by
  induction n generalizing k v with
  | zero => simp [dig32]
  | succ n ih =>
    cases k with
    | zero => simp
    | succ k => rw [dig32, List.drop_succ_cons, ih, Nat.div_div_eq_div_mul, Nat.pow_succ, Nat.mul_comm 4294967296]; congr 1; omega
theorem dig32_set (K V V' i : Nat) (hi : i < K) (hlow : V' % 4294967296 ^ i = V % 4294967296 ^ i) (hhigh : V' / 4294967296 ^ (i + 1) = V / 4294967296 ^ (i + 1)) :
    (dig32 K V).set i (V' / 4294967296 ^ i % 4294967296) = dig32 K V' := by
  induction i generalizing K V V' with
  | zero =>
    obtain ⟨k, rfl⟩ : ∃ k, K = k + 1 := ⟨K - 1, by omega⟩
    simp only [dig32, List.set_cons_zero, Nat.pow_zero, Nat.div_one]
    rw [Nat.zero_add, Nat.pow_one] at hhigh
    rw [hhigh]
  | succ i ih =>
    obtain ⟨k, rfl⟩ : ∃ k, K = k + 1 := ⟨K - 1, by omega⟩
    have h1 : V' % 4294967296 = V % 4294967296 := by
      have : V' % 4294967296 ^ (i + 1) % 4294967296 = V % 4294967296 ^ (i + 1) % 4294967296 := by rw [hlow]
      have hd : 4294967296 ∣ 4294967296 ^ (i + 1) := by rw [Nat.pow_succ]; exact Nat.dvd_mul_left _ _
      rwa [Nat.mod_mod_of_dvd _ hd, Nat.mod_mod_of_dvd _ hd] at this
    have e : 4294967296 ^ (i + 1) = 4294967296 * 4294967296 ^ i := by rw [Nat.pow_succ, Nat.mul_comm]
    have e2 : 4294967296 ^ (i + 1 + 1) = 4294967296 * 4294967296 ^ (i + 1) := by rw [Nat.pow_succ, Nat.mul_comm]
    simp only [dig32, List.set_cons_succ]
    rw [h1, e, ← Nat.div_div_eq_div_mul, ih k (V / 4294967296) (V' / 4294967296) (by omega) ?_ ?_]
    · rw [← Nat.mod_mul_right_div_self, ← Nat.mod_mul_right_div_self, ← e, hlow]
    · rw [Nat.div_div_eq_div_mul, Nat.div_div_eq_div_mul, ← e2, hhigh]

theorem dig32_getD (K V i : Nat) (hi : i < K) : (dig32 K V).getD i 0 = V / 4294967296 ^ i % 4294967296 := by
  induction i generalizing K V with
  | zero =>
    obtain ⟨k, rfl⟩ : ∃ k, K = k + 1 := ⟨K - 1, by omega⟩
    simp [dig32]
  | succ i ih =>
    obtain ⟨k, rfl⟩ : ∃ k, K = k + 1 := ⟨K - 1, by omega⟩
    have e : 4294967296 ^ (i + 1) = 4294967296 * 4294967296 ^ i := by rw [Nat.pow_succ, Nat.mul_comm]
    rw [e, ← Nat.div_div_eq_div_mul, ← ih k _ (by omega)]
    simp [dig32]

/-- The number whose upper limbs are divided and whose lower j ones are not. -/
def dlW (V d j : Nat) : Nat := V / 4294967296 ^ j / d * 4294967296 ^ j + V % 4294967296 ^ j

theorem dlW_mod (V d j i : Nat) (h : i ≤ j) : dlW V d j % 4294967296 ^ i = V % 4294967296 ^ i := by
  have hd : 4294967296 ^ i ∣ 4294967296 ^ j := Nat.pow_dvd_pow _ h
  unfold dlW
  rw [Nat.add_mod, Nat.mod_mod_of_dvd _ hd, Nat.mod_eq_zero_of_dvd (Nat.dvd_trans hd (Nat.dvd_mul_left _ _)), Nat.zero_add, Nat.mod_mod]

theorem dlW_div (V d j : Nat) : dlW V d j / 4294967296 ^ j = V / 4294967296 ^ j / d := by
  have hp : 0 < 4294967296 ^ j := Nat.pow_pos (by decide)
  unfold dlW
  rw [Nat.mul_comm, Nat.mul_add_div hp, Nat.div_eq_of_lt (Nat.mod_lt _ hp), Nat.add_zero]

theorem dlW_step (V d i x N r : Nat) (hd : 0 < d) (hx : x = V / 4294967296 ^ i % 4294967296) (hN : N = V / 4294967296 ^ (i + 1)) (hr : r = N % d) :
    dlW V d i / 4294967296 ^ i % 4294967296 = (r * 4294967296 + x) / d ∧ V / 4294967296 ^ i % d = (r * 4294967296 + x) % d ∧ dlW V d i / 4294967296 ^ (i + 1) = dlW V d (i + 1) / 4294967296 ^ (i + 1) := by
  have e1 : V / 4294967296 ^ i = N * 4294967296 + x := by
    rw [hN, hx, Nat.pow_succ, ← Nat.div_div_eq_div_mul, Nat.mul_comm]
    exact (Nat.div_add_mod _ _).symm
  have hxb : x < 4294967296 := by rw [hx]; exact Nat.mod_lt _ (by decide)
  have hrd : r < d := by rw [hr]; exact Nat.mod_lt _ hd
  have e2 : N * 4294967296 + x = (r * 4294967296 + x) + d * (N / d * 4294967296) := by
    have h := Nat.div_add_mod N d
    rw [← hr] at h
    conv => lhs; rw [← h, Nat.add_mul, Nat.mul_assoc]
    rw [Nat.add_assoc, Nat.add_comm]
  have hq : (r * 4294967296 + x) / d < 4294967296 := by
    apply Nat.div_lt_of_lt_mul
    have := Nat.mul_le_mul_right 4294967296 hrd
    rw [Nat.succ_mul] at this
    exact Nat.lt_of_lt_of_le (Nat.add_lt_add_left hxb _) this
  refine ⟨?_, ?_, ?_⟩
  · rw [dlW_div, e1, e2, Nat.add_mul_div_left _ _ hd, Nat.add_mul_mod_self_right, Nat.mod_eq_of_lt hq]
  · rw [e1, e2, Nat.add_mul_mod_self_left]
  · have a : dlW V d i / 4294967296 ^ (i + 1) = V / 4294967296 ^ i / d / 4294967296 := by
      rw [Nat.pow_succ, ← Nat.div_div_eq_div_mul, dlW_div]
    have b : dlW V d (i + 1) / 4294967296 ^ (i + 1) = V / 4294967296 ^ i / 4294967296 / d := by
      rw [dlW_div, Nat.pow_succ, ← Nat.div_div_eq_div_mul]
    rw [a, b]
    generalize V / 4294967296 ^ i = M
    rw [Nat.div_div_eq_div_mul, Nat.div_div_eq_div_mul, Nat.mul_comm]

theorem dlW_limb (V d i : Nat) : dlW V d (i + 1) / 4294967296 ^ i % 4294967296 = V / 4294967296 ^ i % 4294967296 := by
  rw [← Nat.mod_mul_right_div_self, ← Nat.mod_mul_right_div_self, ← Nat.pow_succ, dlW_mod V d (i + 1) (i + 1) (Nat.le_refl _)]
end Go.Proofs.YtmajmpgcdpbnfaaDoor

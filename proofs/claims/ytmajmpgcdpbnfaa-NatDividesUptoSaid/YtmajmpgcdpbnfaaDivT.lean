/- Long division limb by limb: mathematics of one step at its place. -/
import Derived.Test.YtmajmpgcdpbnfaaNatDStep
namespace Go.Proofs.Ytmajmpgcdpbnfaa
open Go.RowKit

/-- What is left when the quotient's limbs from j on are found. -/
def dtR (V Y j : Nat) : Nat := V % (Y * 18446744073709551616 ^ j)
/-- The quotient's limbs from j on. -/
def dtQ (V Y j : Nat) : Nat := V / (Y * 18446744073709551616 ^ j) * 18446744073709551616 ^ j

theorem dtR_succ (V Y i : Nat) : dtR V Y (i + 1) = V % (Y * 18446744073709551616 ^ i * 18446744073709551616) := by
  unfold dtR; rw [Nat.pow_succ, Nat.mul_assoc]
theorem dtR_le (V Y j : Nat) : dtR V Y j ≤ V := Nat.mod_le _ _
theorem dt_limb (V Y i : Nat) : dtR V Y (i + 1) / 18446744073709551616 ^ i / Y = V / (Y * 18446744073709551616 ^ i) % 18446744073709551616 := by
  rw [dtR_succ, Nat.div_div_eq_div_mul, Nat.mul_comm (18446744073709551616 ^ i) Y, Nat.mod_mul_right_div_self]
theorem dt_rest (V Y i : Nat) : dtR V Y i = dtR V Y (i + 1) % 18446744073709551616 ^ i + 18446744073709551616 ^ i * (dtR V Y (i + 1) / 18446744073709551616 ^ i % Y) := by
  rw [← Nat.mod_mul, Nat.mul_comm (18446744073709551616 ^ i) Y, dtR_succ, Nat.mod_mul_right_mod]
  rfl
theorem dt_part_lt (V Y i : Nat) (hY : 0 < Y) : dtR V Y (i + 1) / 18446744073709551616 ^ i < Y * 18446744073709551616 := by
  have hp : 0 < 18446744073709551616 ^ i := Nat.pow_pos (by decide)
  apply Nat.div_lt_of_lt_mul
  rw [dtR_succ, Nat.mul_left_comm, ← Nat.mul_assoc]
  exact Nat.mod_lt _ (Nat.mul_pos (Nat.mul_pos hY hp) (by decide))

theorem dt_mid (V Y K i n : Nat) (hV : V < 18446744073709551616 ^ K) (hY0 : 0 < Y) (hY : Y ≤ 18446744073709551616 ^ n) (hi : i + (n + 1) ≤ K) :
    val (((dig K (dtR V Y (i + 1))).drop i).take (n + 1)) = dtR V Y (i + 1) / 18446744073709551616 ^ i ∧
    mid (dig K (dtR V Y (i + 1))) i (n + 1) (dig (n + 1) (dtR V Y (i + 1) / 18446744073709551616 ^ i % Y)) = dig K (dtR V Y i) := by
  have hR : dtR V Y (i + 1) < 18446744073709551616 ^ K := Nat.lt_of_le_of_lt (dtR_le _ _ _) hV
  have hP := dt_part_lt V Y i hY0
  have hr := dt_rest V Y i
  have hm := Nat.mod_lt (dtR V Y (i + 1) / 18446744073709551616 ^ i) hY0
  have hdm := Nat.mod_add_div (dtR V Y (i + 1)) (18446744073709551616 ^ i)
  generalize dtR V Y (i + 1) = R at *
  have hpow : Y * 18446744073709551616 ≤ 18446744073709551616 ^ (n + 1) := by
    rw [Nat.pow_succ]; exact Nat.mul_le_mul_right _ hY
  have hP2 : R / 18446744073709551616 ^ i < 18446744073709551616 ^ (n + 1) := Nat.lt_of_lt_of_le hP hpow
  have e1 : val (((dig K R).drop i).take (n + 1)) = R / 18446744073709551616 ^ i := by
    rw [dig_part K i (n + 1) R hi, val_dig_of_lt hP2]
  refine ⟨e1, ?_⟩
  have hm2 : R / 18446744073709551616 ^ i % Y < 18446744073709551616 ^ (n + 1) := Nat.lt_of_le_of_lt (Nat.mod_le _ _) hP2
  have e := mid_dig (dig K R) (dig (n + 1) (R / 18446744073709551616 ^ i % Y)) i (n + 1) (dtR V Y i) (fit_dig _ _) (fit_dig _ _) (by rw [dig_length]; exact hi) (dig_length _ _) (by
    rw [e1, val_dig_of_lt hR, val_dig_of_lt hm2, hr]
    omega)
  rw [dig_length] at e
  exact e

theorem dt_quo (V Y m i : Nat) (hi : i < m) : (dig m (dtQ V Y (i + 1))).set i (V / (Y * 18446744073709551616 ^ i) % 18446744073709551616) = dig m (dtQ V Y i) := by
  have hp : 0 < 18446744073709551616 ^ i := Nat.pow_pos (by decide)
  have h1 : dtQ V Y i / 18446744073709551616 ^ i = V / (Y * 18446744073709551616 ^ i) := by
    unfold dtQ; exact Nat.mul_div_cancel _ hp
  have h := dig_set m (dtQ V Y (i + 1)) (dtQ V Y i) i hi (by
      unfold dtQ
      rw [Nat.mul_mod_left, Nat.pow_succ, Nat.mul_comm (18446744073709551616 ^ i) 18446744073709551616, ← Nat.mul_assoc, Nat.mul_mod_left]) (by
      have h2 : dtQ V Y (i + 1) / 18446744073709551616 ^ (i + 1) = V / (Y * 18446744073709551616 ^ (i + 1)) := by
        unfold dtQ; exact Nat.mul_div_cancel _ (Nat.pow_pos (by decide))
      rw [h2, Nat.pow_succ, ← Nat.div_div_eq_div_mul (dtQ V Y i), h1, Nat.div_div_eq_div_mul, Nat.mul_assoc])
  rw [h1] at h
  exact h

theorem dt_start (V Y m : Nat) (h : V < Y * 18446744073709551616 ^ m) : dtR V Y m = V ∧ dtQ V Y m = 0 := by
  unfold dtR dtQ
  rw [Nat.mod_eq_of_lt h, Nat.div_eq_of_lt h, Nat.zero_mul]
  exact ⟨rfl, rfl⟩
theorem dt_end (V Y : Nat) : dtR V Y 0 = V % Y ∧ dtQ V Y 0 = V / Y := by
  unfold dtR dtQ
  rw [Nat.pow_zero, Nat.mul_one, Nat.mul_one]
  exact ⟨rfl, rfl⟩

/-- Raised till the divisor's last bit is set: the bounds of all that follows. -/
theorem dt_raise (xs ys : List Nat) (s k : Nat) (hx : Fit xs) (hy : Fit ys) (hyl : ys.length = k + 1) (hlen : k + 1 ≤ xs.length) (hs : s < 64)
    (h1 : 9223372036854775808 ≤ ys.getD k 0 * 2 ^ s) (h2 : ys.getD k 0 * 2 ^ s < 18446744073709551616) :
    val ys * 2 ^ s < 18446744073709551616 ^ (k + 1) ∧ val xs * 2 ^ s < 18446744073709551616 ^ (xs.length + 1) ∧ val xs * 2 ^ s < val ys * 2 ^ s * 18446744073709551616 ^ (xs.length - (k + 1) + 1) ∧ 9223372036854775808 * 18446744073709551616 ^ k ≤ val ys * 2 ^ s := by
  have hv := val_take_succ ys k (by omega)
  rw [List.take_of_length_le (by omega)] at hv
  have hl := val_lt (fit_take hy k)
  rw [List.length_take, Nat.min_eq_left (by omega)] at hl
  have eg : ys.getD k 0 = ys[k]'(by omega) := by rw [List.getD_eq_getElem?_getD, List.getElem?_eq_getElem (by omega)]; rfl
  rw [← eg] at hv
  have hxl := val_lt hx
  have hp2 : 2 ^ s ≤ 9223372036854775808 := by
    have : (2 : Nat) ^ s ≤ 2 ^ 63 := Nat.pow_le_pow_right (by decide) (by omega)
    exact this
  have hps : 0 < 2 ^ s := Nat.pow_pos (by decide)
  generalize ys.getD k 0 = y at *
  generalize val (ys.take k) = lo at *
  generalize val ys = Y at *
  generalize val xs = X at *
  obtain ⟨M, hM⟩ : ∃ M, M = 18446744073709551616 ^ k := ⟨_, rfl⟩
  obtain ⟨D, hD⟩ : ∃ D, D = 2 ^ s := ⟨_, rfl⟩
  have hlow : 9223372036854775808 * 18446744073709551616 ^ k ≤ Y * 2 ^ s := by
    rw [hv, Nat.add_mul, Nat.mul_assoc, Nat.mul_comm (18446744073709551616 ^ k) (y * 2 ^ s)]
    exact Nat.le_trans (Nat.mul_le_mul_right _ h1) (Nat.le_add_left _ _)
  refine ⟨?_, ?_, ?_, hlow⟩
  · rw [Nat.pow_succ, hv, ← hM, ← hD]
    rw [← hD] at h2
    rw [← hM] at hl
    have a1 : (lo + M * y) * D ≤ M * D + M * (y * D) - D := by
      rw [Nat.add_mul, Nat.mul_assoc]
      have : lo * D + D ≤ M * D := by rw [← Nat.succ_mul]; exact Nat.mul_le_mul_right _ hl
      omega
    have h3 : y * D + D ≤ 18446744073709551616 := by
      have hy1 : (y + 1) * D ≤ 18446744073709551616 := by
        have e : 18446744073709551616 = 2 ^ (64 - s) * D := by rw [hD, ← Nat.pow_add, show 64 - s + s = 64 by omega]
        rw [e] at h2 ⊢
        exact Nat.mul_le_mul_right _ (Nat.lt_of_mul_lt_mul_right h2)
      rw [Nat.add_mul, Nat.one_mul] at hy1
      exact hy1
    have h4 := Nat.mul_le_mul_left M h3
    rw [Nat.mul_add] at h4
    rw [← hD] at hps
    have h5 : 0 < M * 18446744073709551616 := Nat.mul_pos (by rw [hM]; exact Nat.pow_pos (by decide)) (by decide)
    generalize M * 18446744073709551616 = Z at *
    generalize M * (y * D) = Z1 at *
    generalize M * D = Z2 at *
    omega
  · rw [Nat.pow_succ]
    exact Nat.mul_lt_mul'' hxl (by omega)
  · have e : 18446744073709551616 ^ (xs.length - (k + 1) + 1) = 18446744073709551616 ^ (xs.length - k) := by congr 1; omega
    rw [e]
    have h6 := Nat.mul_le_mul_right (18446744073709551616 ^ (xs.length - k)) hlow
    rw [Nat.mul_assoc, ← Nat.pow_add, show k + (xs.length - k) = xs.length by omega] at h6
    refine Nat.lt_of_lt_of_le ?_ h6
    rw [Nat.mul_comm]
    exact Nat.lt_of_le_of_lt (Nat.mul_le_mul_right _ hp2) (Nat.mul_lt_mul_of_pos_left hxl (by decide))
end Go.Proofs.Ytmajmpgcdpbnfaa

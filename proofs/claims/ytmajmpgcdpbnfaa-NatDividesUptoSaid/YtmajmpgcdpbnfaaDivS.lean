/- One step of long division: mathematics. -/
import Derived.Test.YtmajmpgcdpbnfaaDivL
namespace Go.Proofs.Ytmajmpgcdpbnfaa
open Go.RowKit

theorem step_exact {P T C Y q M : Nat} (hT : T < M) (hall : P + M * C = T + q * Y) (hq : q = P / Y) : C = 0 ∧ T = P % Y := by
  have h := Nat.div_add_mod P Y
  rw [← hq, Nat.mul_comm] at h
  rcases Nat.eq_zero_or_pos C with h0 | h0
  · subst h0
    refine ⟨rfl, ?_⟩
    rw [Nat.mul_zero, Nat.add_zero] at hall
    obtain ⟨S, hS⟩ : ∃ S, S = q * Y := ⟨_, rfl⟩
    obtain ⟨R, hR⟩ : ∃ R, R = P % Y := ⟨_, rfl⟩
    rw [← hS] at h hall
    rw [← hR] at h ⊢
    omega
  · have h1 := Nat.mul_le_mul_left M h0
    obtain ⟨S, hS⟩ : ∃ S, S = q * Y := ⟨_, rfl⟩
    obtain ⟨R, hR⟩ : ∃ R, R = P % Y := ⟨_, rfl⟩
    obtain ⟨X, hX⟩ : ∃ X, X = M * C := ⟨_, rfl⟩
    rw [← hS] at h hall
    rw [← hR] at h
    rw [← hX] at h1 hall
    omega

theorem step_over {P T C Y q M : Nat} (hT : T < M) (hY : Y ≤ M) (hY0 : 0 < Y) (hall : P + M * C = T + (q + 1) * Y) (hq : q = P / Y) : C = 1 ∧ T + Y = P % Y + M := by
  have h := Nat.div_add_mod P Y
  have hr := Nat.mod_lt P hY0
  rw [← hq, Nat.mul_comm] at h
  rw [Nat.add_mul, Nat.one_mul] at hall
  obtain ⟨S, hS⟩ : ∃ S, S = q * Y := ⟨_, rfl⟩
  obtain ⟨R, hR⟩ : ∃ R, R = P % Y := ⟨_, rfl⟩
  rw [← hS] at h hall
  rw [← hR] at h hr ⊢
  clear hS hR hq
  match C, hall with
  | 0, hall => rw [Nat.mul_zero] at hall; omega
  | 1, hall => rw [Nat.mul_one] at hall; omega
  | C + 2, hall =>
    have e : M * (C + 2) = M * C + 2 * M := by rw [Nat.mul_add, Nat.mul_comm M 2]
    rw [e] at hall
    have := Nat.zero_le (M * C)
    omega

theorem mid_part (L new : List Nat) (o n : Nat) (h : o + n ≤ L.length) (hn : new.length = n) : ((mid L o n new).drop o).take n = new := by
  unfold mid
  rw [List.append_assoc, List.drop_append_of_le_length (by rw [List.length_take]; omega), List.drop_of_length_le (by rw [List.length_take]; omega), List.nil_append, List.take_append_of_le_length (by omega), List.take_of_length_le (by omega)]

theorem mid_mid (L a b : List Nat) (o n : Nat) (h : o + n ≤ L.length) (ha : a.length = n) : mid (mid L o n a) o n b = mid L o n b := by
  unfold mid
  have h1 : (L.take o).length = o := by rw [List.length_take]; omega
  congr 1
  · congr 1
    rw [List.append_assoc, List.take_append_of_le_length (by omega), List.take_of_length_le (by omega)]
  · rw [List.append_assoc, List.drop_append, List.drop_append, List.drop_of_length_le (by omega), List.drop_of_length_le (by omega), h1, ha]
    simp
end Go.Proofs.Ytmajmpgcdpbnfaa

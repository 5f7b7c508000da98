/- Plain mathematics of the slow division, bit by bit. -/
import Derived.Test.YtmajmpgcdpbnfaaRefLess
namespace Go.Proofs.Ytmajmpgcdpbnfaa
open Go.RowKit

theorem Ow.sl_n {w : World} {B : Nat} {v : Value} {xs : List Nat} (h : Ow w B v xs) : ∃ A n c, v = .slice A n c ∧ Sl w A n c xs ∧ (∀ b o s, A = some ⟨b, o, s⟩ → B ≤ b) := by
  obtain ⟨A, c, h1, h2, h3⟩ := h.sl
  exact ⟨A, _, c, h1, h2, h3⟩

/-- The relation of the loop that doubles the rest. -/
def TwIn (rs L : List Nat) (b k c : Nat) : Prop := L.length = k ∧ Fit32 L ∧ c ≤ 1 ∧ val32 L + 4294967296 ^ k * c = 2 * val32 (rs.take k) + b
theorem twIn_step {rs L : List Nat} {b k c : Nat} (h : TwIn rs L b k c) (hr : Fit32 rs) :
    TwIn rs (L ++ [(rs.getD k 0 * 2 + c) % 4294967296]) b (k + 1) (rs.getD k 0 / 2147483648) := by
  obtain ⟨h1, h2, h3, h4⟩ := h
  have f1 := fit32_getD hr k
  refine ⟨by simp [h1], fit32_snoc h2 (Nat.mod_lt _ (by decide)), by omega, ?_⟩
  rw [val32_snoc, h1, val32_take_getD, Nat.pow_succ]
  generalize rs.getD k 0 = x at *
  have hd : (x * 2 + c) % 4294967296 + 4294967296 * (x / 2147483648) = x * 2 + c := by omega
  generalize (x * 2 + c) % 4294967296 = r at *
  generalize x / 2147483648 = q at *
  generalize 4294967296 ^ k = p at *
  have e : p * (r + 4294967296 * q) = p * (x * 2 + c) := by rw [hd]
  grind
theorem twIn_end {rs L : List Nat} {b c : Nat} (h : TwIn rs L b rs.length c) : Fit32 (L ++ [c]) ∧ val32 (L ++ [c]) = 2 * val32 rs + b := by
  obtain ⟨h1, h2, h3, h4⟩ := h
  rw [List.take_length] at h4
  refine ⟨fit32_snoc h2 (by omega), ?_⟩
  rw [val32_snoc, h1]
  exact h4

theorem two_split32 (k : Nat) : 4294967296 ^ (k / 32) * 2 ^ (k % 32) = 2 ^ k := by
  rw [show (4294967296 : Nat) = 2 ^ 32 by decide, ← Nat.pow_mul, ← Nat.pow_add, Nat.div_add_mod]
/-- A bit of a number, told by its digit. -/
theorem bit_of (xs : List Nat) (i : Nat) (hx : Fit32 xs) : xs.getD (i / 32) 0 / 2 ^ (i % 32) % 2 = val32 xs / 2 ^ i % 2 := by
  have hlt := val32_take_lt hx (i / 32)
  rw [val32_split xs (i / 32), val32_drop_getD, ← two_split32 i, ← Nat.div_div_eq_div_mul, Nat.add_mul_div_left _ _ (Nat.pow_pos (by decide)), Nat.div_eq_of_lt hlt, Nat.zero_add]
  have e : 4294967296 = 2 ^ (i % 32) * (2 * 2 ^ (31 - i % 32)) := by
    rw [← Nat.mul_assoc, ← Nat.pow_succ, ← Nat.pow_add, show i % 32 + 1 + (31 - i % 32) = 32 by omega]
  generalize xs.getD (i / 32) 0 = x
  generalize val32 (xs.drop (i / 32 + 1)) = T
  rw [e, Nat.mul_assoc, Nat.add_mul_div_left _ _ (Nat.pow_pos (by decide)), Nat.mul_assoc, Nat.add_mul_mod_self_left]

/-- One step of the division. -/
theorem div_bit (X Y k : Nat) (hY : 0 < Y) :
    let R := X / 2 ^ (k + 1) % Y
    let b := X / 2 ^ k % 2
    (2 * R + b < Y → X / 2 ^ k % Y = 2 * R + b ∧ X / 2 ^ k / Y * 2 ^ k = X / 2 ^ (k + 1) / Y * 2 ^ (k + 1)) ∧
    (Y ≤ 2 * R + b → X / 2 ^ k % Y = 2 * R + b - Y ∧ X / 2 ^ k / Y * 2 ^ k = X / 2 ^ (k + 1) / Y * 2 ^ (k + 1) + 2 ^ k) := by
  intro R b
  have h1 : X / 2 ^ k = 2 * (X / 2 ^ (k + 1)) + b := by
    show X / 2 ^ k = 2 * (X / 2 ^ (k + 1)) + X / 2 ^ k % 2
    rw [Nat.pow_succ, ← Nat.div_div_eq_div_mul]
    omega
  have h2 : X / 2 ^ (k + 1) = Y * (X / 2 ^ (k + 1) / Y) + R := (Nat.div_add_mod _ _).symm
  have hR : R < Y := Nat.mod_lt _ hY
  have hb : b < 2 := Nat.mod_lt _ (by decide)
  generalize X / 2 ^ (k + 1) / Y = Q at *
  have h3 : X / 2 ^ k = Y * (2 * Q) + (2 * R + b) := by rw [h1, h2]; grind
  constructor
  · intro hlt
    rw [h3]
    refine ⟨by rw [Nat.mul_add_mod, Nat.mod_eq_of_lt hlt], ?_⟩
    rw [Nat.mul_add_div hY, Nat.div_eq_of_lt hlt, Nat.pow_succ]
    grind
  · intro hge
    have h4 : X / 2 ^ k = Y * (2 * Q + 1) + (2 * R + b - Y) := by
      rw [h3, Nat.mul_add Y (2 * Q) 1]
      omega
    rw [h4]
    have hlt : 2 * R + b - Y < Y := by omega
    refine ⟨by rw [Nat.mul_add_mod, Nat.mod_eq_of_lt hlt], ?_⟩
    rw [Nat.mul_add_div hY, Nat.div_eq_of_lt hlt, Nat.pow_succ]
    grind

/-- Setting a bit that is nought. -/
theorem set_bit (L : List Nat) (i V : Nat) (hL : Fit32 L) (hi : i / 32 < L.length) (hv : val32 L = V * 2 ^ (i + 1)) :
    (L.getD (i / 32) 0 ||| 2 ^ (i % 32)) < 4294967296 ∧ val32 (L.set (i / 32) (L.getD (i / 32) 0 ||| 2 ^ (i % 32))) = val32 L + 2 ^ i := by
  have hb := bit_of L i hL
  rw [hv, Nat.pow_succ, Nat.mul_comm (2 ^ i) 2, ← Nat.mul_assoc, Nat.mul_div_cancel _ (Nat.pow_pos (by decide)), Nat.mul_mod_left] at hb
  have hf := fit32_getD hL (i / 32)
  have hs := val32_set L (i / 32) (L.getD (i / 32) 0 ||| 2 ^ (i % 32)) hi
  have hr : i % 32 < 32 := Nat.mod_lt _ (by decide)
  generalize L.getD (i / 32) 0 = x at *
  have hor : x ||| 2 ^ (i % 32) = x + 2 ^ (i % 32) := by
    have h1 : x = 2 ^ (i % 32) * (x / 2 ^ (i % 32)) + x % 2 ^ (i % 32) := (Nat.div_add_mod _ _).symm
    have h2 : x / 2 ^ (i % 32) = 2 * (x / 2 ^ (i % 32) / 2) := by omega
    have h3 : x % 2 ^ (i % 32) < 2 ^ (i % 32) := Nat.mod_lt _ (Nat.pow_pos (by decide))
    generalize x / 2 ^ (i % 32) / 2 = q at *
    generalize x % 2 ^ (i % 32) = m at *
    generalize i % 32 = r at *
    rw [h2] at h1
    have e1 : x = 2 ^ (r + 1) * q + m := by rw [h1, Nat.pow_succ]; grind
    have hm2 : m + 2 ^ r < 2 ^ (r + 1) := by rw [Nat.pow_succ]; omega
    have hm3 : m < 2 ^ (r + 1) := by omega
    have e2 : m ||| 2 ^ r = m + 2 ^ r := by
      have := Nat.two_pow_add_eq_or_of_lt h3 1
      rw [Nat.mul_one] at this
      rw [Nat.or_comm, ← this, Nat.add_comm]
    have e3 := Nat.two_pow_add_eq_or_of_lt hm3 q
    have e4 := Nat.two_pow_add_eq_or_of_lt hm2 q
    rw [e1, e3, Nat.or_assoc, e2, ← e4, ← e3]
    omega
  rw [hor] at hs ⊢
  constructor
  · have h31 : (2 : Nat) ^ (i % 32) * 2 ≤ 4294967296 := by
      rw [← Nat.pow_succ, show (4294967296 : Nat) = 2 ^ 32 by decide]
      exact Nat.pow_le_pow_right (by decide) (by omega)
    have h2 : x / 2 ^ (i % 32) % 2 = 0 := hb
    have e : 4294967296 = 2 ^ (i % 32) * (2 * 2 ^ (31 - i % 32)) := by
      rw [← Nat.mul_assoc, ← Nat.pow_succ, ← Nat.pow_add, show i % 32 + 1 + (31 - i % 32) = 32 by omega]
    have h5 : x / 2 ^ (i % 32) < 2 * 2 ^ (31 - i % 32) := by
      apply Nat.div_lt_of_lt_mul
      rw [← e]; exact hf
    have h6 : x / 2 ^ (i % 32) + 2 ≤ 2 * 2 ^ (31 - i % 32) := by omega
    have h7 := Nat.mul_le_mul_left (2 ^ (i % 32)) h6
    rw [← e] at h7
    have h8 := Nat.mod_lt x (Nat.pow_pos (n := i % 32) (by decide : 0 < 2))
    have h9 := Nat.div_add_mod x (2 ^ (i % 32))
    rw [Nat.mul_add] at h7
    omega
  · rw [← two_split32 i]
    rw [Nat.mul_add] at hs
    omega
end Go.Proofs.Ytmajmpgcdpbnfaa

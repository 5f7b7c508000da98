/- Division limb by limb: mathematics of a guessed limb. -/
import Derived.Test.YtmajmpgcdpbnfaaDoorDivM
namespace Go.Proofs.YtmajmpgcdpbnfaaDoor
open Go.RowKit

/-- A limb whose product with the ends does not pass over the ends is the quotient or one more. -/
theorem guess_near {P D v N r q R V : Nat} (hV : V = D * P + v) (hv : v < P) (hR : R = N * P + r) (hq : q * D ≤ N) (hqD : q ≤ D + 1) (hV0 : 0 < V) : q ≤ R / V + 1 := by
  rcases Nat.eq_zero_or_pos q with h0 | h0
  · subst h0; exact Nat.zero_le _
  · obtain ⟨t, rfl⟩ : ∃ t, q = t + 1 := ⟨q - 1, by omega⟩
    refine Nat.add_le_add_right ?_ 1
    rw [Nat.le_div_iff_mul_le hV0]
    have h1 : t * v ≤ t * P := Nat.mul_le_mul_left _ (by omega)
    have h2 : t * P ≤ D * P := Nat.mul_le_mul_right _ (by omega)
    have h3 : (t + 1) * D * P ≤ N * P := Nat.mul_le_mul_right _ hq
    have e1 : t * V = t * D * P + t * v := by rw [hV, Nat.mul_add, Nat.mul_assoc]
    have e2 : (t + 1) * D * P = t * D * P + D * P := by rw [Nat.add_mul, Nat.one_mul, Nat.add_mul]
    rw [e1, hR]
    omega

/-- The ends' quotient is not below the whole one. -/
theorem ends_ge {P D v N r R V q : Nat} (hV : V = D * P + v) (hR : R = N * P + r) (hr : r < P) (hD : 0 < D) (hq : N < q * D) : R / V < q := by
  have hP : 0 < P := by omega
  have hDP : 0 < D * P := Nat.mul_pos hD hP
  have hV0 : 0 < V := by omega
  rw [Nat.div_lt_iff_lt_mul hV0]
  have h1 : (N + 1) * P ≤ q * D * P := Nat.mul_le_mul_right _ hq
  have e : q * V = q * D * P + q * v := by rw [hV, Nat.mul_add, Nat.mul_assoc]
  rw [e]
  rw [Nat.add_mul, Nat.one_mul] at h1
  omega

/-- What holds as the guess comes down: N = l*D's way, by the last limb alone, with what is left beside it. -/
def GIn (r2 r1 last q0 l left over : Nat) : Prop := r2 * 18446744073709551616 + r1 = l * last + left + over * 18446744073709551616 ∧ q0 ≤ l ∧ l < 18446744073709551616 ∧ left < 18446744073709551616 ∧ over ≤ 1

theorem lt_help (A C N r0 left : Nat) (hN : N = A + left) (hc : left * 18446744073709551616 + r0 < C) : N * 18446744073709551616 + r0 < A * 18446744073709551616 + C := by
  rw [hN, Nat.add_mul, Nat.add_assoc]
  exact Nat.add_lt_add_left hc _

theorem gIn_down {r2 r1 r0 last second q0 l left : Nat} (h : GIn r2 r1 last q0 l left 0) (hl : last < 18446744073709551616)
    (hq : ∀ q, (r2 * 18446744073709551616 + r1) * 18446744073709551616 + r0 < q * (last * 18446744073709551616 + second) → q0 < q)
    (hc : left * 18446744073709551616 + r0 < l * second) :
    0 < l ∧ GIn r2 r1 last q0 (l - 1) ((left + last) % 18446744073709551616) ((left + last) / 18446744073709551616) := by
  obtain ⟨hN, hge, hlb, hleft, -⟩ := h
  rw [Nat.zero_mul, Nat.add_zero] at hN
  have e : l * (last * 18446744073709551616 + second) = l * last * 18446744073709551616 + l * second := by rw [Nat.mul_add, Nat.mul_assoc]
  have h1 := hq l (by
    rw [e]
    exact lt_help (l * last) (l * second) (r2 * 18446744073709551616 + r1) r0 left hN hc)
  have h0 : 0 < l := Nat.lt_of_le_of_lt (Nat.zero_le _) h1
  have e2 : l * last = (l - 1) * last + last := by
    conv => lhs; rw [show l = l - 1 + 1 by omega, Nat.add_mul, Nat.one_mul]
  refine ⟨h0, ?_, by omega, by omega, Nat.mod_lt _ (by decide), by omega⟩
  rw [hN, e2]
  obtain ⟨A, hA⟩ : ∃ A, A = (l - 1) * last := ⟨_, rfl⟩
  rw [← hA]
  omega

/-- Once it is done, the guess times the ends does not pass over the ends. -/
theorem gIn_done {r2 r1 r0 last second q0 l left over : Nat} (h : GIn r2 r1 last q0 l left over) (hs : second < 18446744073709551616)
    (hc : over = 1 ∨ l * second ≤ left * 18446744073709551616 + r0) :
    l * (last * 18446744073709551616 + second) ≤ (r2 * 18446744073709551616 + r1) * 18446744073709551616 + r0 := by
  obtain ⟨hN, -, hlb, hleft, ho⟩ := h
  have e : l * (last * 18446744073709551616 + second) = l * last * 18446744073709551616 + l * second := by rw [Nat.mul_add, Nat.mul_assoc]
  have h2 : l * second ≤ 18446744073709551615 * 18446744073709551615 := Nat.mul_le_mul (by omega) (by omega)
  rw [e, hN]
  obtain ⟨A, hA⟩ : ∃ A, A = l * last := ⟨_, rfl⟩
  obtain ⟨C, hC⟩ : ∃ C, C = l * second := ⟨_, rfl⟩
  rw [← hA]
  rw [← hC] at hc h2 ⊢
  clear hA hC e hN
  rcases hc with h | h <;> omega
end Go.Proofs.YtmajmpgcdpbnfaaDoor

/- One limb of the quotient: what its ends tell. -/
import Derived.Test.YtmajmpgcdpbnfaaNatGuess
import Derived.Test.YtmajmpgcdpbnfaaDivS
import Derived.Test.YtmajmpgcdpbnfaaNatTake
import Derived.Test.YtmajmpgcdpbnfaaNatAdd2
namespace Go.Proofs.Ytmajmpgcdpbnfaa
open Go.RowKit

theorem val_top2 (xs : List Nat) (k : Nat) (h : xs.length = k + 2) : val xs = (xs.getD (k + 1) 0 * 18446744073709551616 + xs.getD k 0) * 18446744073709551616 ^ k + val (xs.take k) := by
  have h1 := val_take_getD xs (k + 1)
  have h2 := val_take_getD xs k
  rw [List.take_of_length_le (by omega), h2, Nat.pow_succ] at h1
  rw [h1]
  grind

theorem val_top3 (xs : List Nat) (k : Nat) (h : xs.length = k + 3) : val xs = ((xs.getD (k + 2) 0 * 18446744073709551616 + xs.getD (k + 1) 0) * 18446744073709551616 + xs.getD k 0) * 18446744073709551616 ^ k + val (xs.take k) := by
  have h1 := val_take_getD xs (k + 2)
  have h2 := val_take_getD xs (k + 1)
  have h3 := val_take_getD xs k
  rw [List.take_of_length_le (by omega), h2, h3, Nat.pow_succ, Nat.pow_succ] at h1
  rw [h1]
  grind

theorem lim_le (a b B : Nat) (h : b < B) : a * B + b + 1 ≤ (a + 1) * B := by
  rw [Nat.add_mul, Nat.one_mul]; omega

theorem top_lt (r2 last B Pw VR VY : Nat) (h5 : r2 * B * B * Pw ≤ VR) (hlt : VR < VY * B) (h3 : VY < (last + 1) * B * Pw) : r2 < last + 1 := by
  have hB : 0 < B := by
    rcases Nat.eq_zero_or_pos B with h | h
    · subst h; rw [Nat.mul_zero] at hlt; exact absurd hlt (Nat.not_lt_zero _)
    · exact h
  have h4 := Nat.lt_trans (Nat.lt_of_le_of_lt h5 hlt) (Nat.mul_lt_mul_of_pos_right h3 hB)
  have e1 : r2 * B * B * Pw = r2 * (B * B * Pw) := by grind
  have e2 : (last + 1) * B * Pw * B = (last + 1) * (B * B * Pw) := by grind
  rw [e1, e2] at h4
  exact Nat.lt_of_mul_lt_mul_right h4

/-- What a guess wants to know of the ends, and what it tells of the whole. -/
theorem ends_all (rs ys : List Nat) (k : Nat) (hr : Fit rs) (hy : Fit ys) (hrl : rs.length = k + 3) (hyl : ys.length = k + 2) (hlast : 0 < ys.getD (k + 1) 0) (hlt : val rs < val ys * 18446744073709551616) :
    rs.getD (k + 2) 0 ≤ ys.getD (k + 1) 0 ∧
    (∀ q, (rs.getD (k + 2) 0 * 18446744073709551616 + rs.getD (k + 1) 0) * 18446744073709551616 + rs.getD k 0 < q * (ys.getD (k + 1) 0 * 18446744073709551616 + ys.getD k 0) → val rs / val ys < q) ∧
    (∀ l, Guessed ((rs.getD (k + 2) 0 * 18446744073709551616 + rs.getD (k + 1) 0) * 18446744073709551616 + rs.getD k 0) (ys.getD (k + 1) 0 * 18446744073709551616 + ys.getD k 0) (val rs / val ys) l → l = val rs / val ys ∨ l = val rs / val ys + 1) := by
  have hV := val_top2 ys k hyl
  have hR := val_top3 rs k hrl
  have fy := val_lt (fit_take hy k)
  have fr := val_lt (fit_take hr k)
  rw [List.length_take, Nat.min_eq_left (by omega)] at fy fr
  have f1 := fit_getD hr (k + 1)
  have f0 := fit_getD hr k
  have g0 := fit_getD hy k
  have hP : 0 < 18446744073709551616 ^ k := Nat.pow_pos (by decide)
  have hV0 : 0 < val ys := by
    rw [hV]
    exact Nat.lt_of_lt_of_le (Nat.mul_pos (by omega) hP) (Nat.le_add_right _ _)
  refine ⟨?_, fun q hq => ends_ge hV hR fr (by omega) hq, fun l hl => ?_⟩
  · refine Nat.le_of_lt_succ ?_
    have h1 : val ys < (ys.getD (k + 1) 0 * 18446744073709551616 + ys.getD k 0 + 1) * 18446744073709551616 ^ k := by
      rw [hV, Nat.add_mul _ 1, Nat.one_mul]
      exact Nat.add_lt_add_left fy _
    have h3 := Nat.lt_of_lt_of_le h1 (Nat.mul_le_mul_right (18446744073709551616 ^ k) (lim_le _ _ _ g0))
    have h5 : rs.getD (k + 2) 0 * 18446744073709551616 * 18446744073709551616 * 18446744073709551616 ^ k ≤ val rs := by
      rw [hR]
      refine Nat.le_trans (Nat.mul_le_mul_right _ ?_) (Nat.le_add_right _ _)
      refine Nat.le_trans (Nat.mul_le_mul_right _ ?_) (Nat.le_add_right _ _)
      exact Nat.le_add_right _ _
    exact top_lt _ _ _ _ _ _ h5 hlt h3
  · obtain ⟨h1, h2, h3⟩ := hl
    have h4 := guess_near hV fy hR h3 (by omega) hV0
    omega
end Go.Proofs.Ytmajmpgcdpbnfaa

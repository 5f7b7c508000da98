/- nat.Sub and nat.Bits, by their contracts. -/
import Derived.Test.YtmajmpgcdpbnfaaDoorNatCmp
namespace Go.Proofs.YtmajmpgcdpbnfaaDoor
open Go.RowKit

theorem nrm_dig (v : Nat) : nrm v = dig (nrm v).length v := dig_of (fit_nrm v) _ _ rfl (val_nrm v)
theorem len_le_of_le {u v : Nat} (h : u ≤ v) : (nrm u).length ≤ (nrm v).length := by
  rcases Nat.lt_or_ge (nrm v).length (nrm u).length with h1 | h1
  · have := lt_of_len h1; omega
  · exact h1

theorem ret_int {k : IntKind} {a b : Int} (h : a = b) : Ending.returned (.int k a) = .returned (.int k b) := by rw [h]

theorem lbl_eq (x : Nat) (h : x < 18446744073709551616) : Lib.bitLen x = bitLen x := by
  induction x using Nat.strongRecOn with
  | _ x ih =>
    by_cases h0 : x = 0
    · subst h0; rfl
    · rw [Lib.bitLen_half x h0 (by simpa using h), ih (x / 2) (by omega) (by omega)]
      unfold bitLen
      rw [if_neg h0, Nat.log2_def x]
      by_cases h2 : 2 ≤ x
      · rw [if_pos h2, if_neg (by omega)]; omega
      · obtain rfl : x = 1 := by omega
        simp

end Go.Proofs.YtmajmpgcdpbnfaaDoor

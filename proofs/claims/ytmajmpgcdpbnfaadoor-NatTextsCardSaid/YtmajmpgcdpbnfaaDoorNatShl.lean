/- nat.Shl, by its contract. Conditions: fewer than 2^42 limbs. -/
import Derived.Test.YtmajmpgcdpbnfaaDoorNatMul
import Derived.Laws.ShiftsVarLaws
namespace Go.Proofs.YtmajmpgcdpbnfaaDoor
open Go.RowKit

theorem pow64 (l : Nat) : 18446744073709551616 ^ l = 2 ^ (64 * l) := by rw [Nat.pow_mul]
theorem two_split (k : Nat) : 18446744073709551616 ^ (k / 64) * 2 ^ (k % 64) = 2 ^ k := by
  rw [pow64, ← Nat.pow_add, Nat.div_add_mod]

theorem shl_one (r : Nat) (hr : r < 64) : IntKind.u64.wrap ((2 : Int) ^ r) = ((2 ^ r : Nat) : Int) := by
  rw [IntKind.wrap_u64]
  have h : (2 : Nat) ^ r ≤ 2 ^ 63 := Nat.pow_le_pow_right (by decide) (by omega)
  have e : ((2 : Int) ^ r) = ((2 ^ r : Nat) : Int) := by simp
  rw [e]
  clear e
  generalize (2 : Nat) ^ r = t at *
  omega
theorem pow_lt64 (r : Nat) (hr : r < 64) : 2 ^ r < 18446744073709551616 := by
  have h : (2 : Nat) ^ r ≤ 2 ^ 63 := Nat.pow_le_pow_right (by decide) (by omega)
  omega

end Go.Proofs.YtmajmpgcdpbnfaaDoor

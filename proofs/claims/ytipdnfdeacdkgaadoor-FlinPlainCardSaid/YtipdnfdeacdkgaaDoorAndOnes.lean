/- An int and a row of ones, also below 0: the rest by a power of two. Mathematics alone. -/
import Derived.WalkKit
import Derived.Laws.Bits64b
namespace Go.Proofs.YtipdnfdeacdkgaaDoor

theorem and_ones (n : Int) (k : Nat) (hk : k ≤ 62) : bits .and .i64 n ((2 ^ k - 1 : Nat) : Int) = n % ((2 ^ k : Nat) : Int) := by
  have hpk : 2 ^ k ≤ 2 ^ 62 := Nat.pow_le_pow_right (by decide) hk
  have hpos : 0 < 2 ^ k := Nat.pow_pos (by decide)
  have h1 : (BitVec.ofInt 64 n).toNat = (n % 18446744073709551616).toNat := by
    rw [BitVec.toNat_ofInt]; rfl
  have h2 : (BitVec.ofInt 64 ((2 ^ k - 1 : Nat) : Int)).toNat = 2 ^ k - 1 := by
    rw [BitVec.ofInt_natCast, BitVec.toNat_ofNat]
    exact Nat.mod_eq_of_lt (by omega)
  show IntKind.i64.wrap ((BitVec.ofInt 64 n &&& BitVec.ofInt 64 ((2 ^ k - 1 : Nat) : Int)).toNat : Int) = _
  rw [BitVec.toNat_and, h1, h2, Nat.and_two_pow_sub_one_eq_mod]
  have hlt := Nat.mod_lt (n % 18446744073709551616).toNat hpos
  have e1 : (((n % 18446744073709551616).toNat % 2 ^ k : Nat) : Int) = n % ((2 ^ k : Nat) : Int) := by
    rw [Int.natCast_emod, Int.toNat_of_nonneg (Int.emod_nonneg _ (by decide))]
    refine Int.emod_emod_of_dvd n ?_
    have : (18446744073709551616 : Int) = ((2 ^ k * 2 ^ (64 - k) : Nat) : Int) := by
      rw [← Nat.pow_add, show k + (64 - k) = 64 from by omega]; rfl
    rw [this, Int.natCast_mul]
    exact Int.dvd_mul_right _ _
  rw [e1]
  have h3 : 0 ≤ n % ((2 ^ k : Nat) : Int) := Int.emod_nonneg _ (by omega)
  have h4 : n % ((2 ^ k : Nat) : Int) < ((2 ^ k : Nat) : Int) := Int.emod_lt_of_pos _ (by omega)
  rw [IntKind.wrap_i64]
  omega
theorem and_1 (n : Int) : bits .and .i64 n 1 = n % 2 := and_ones n 1 (by decide)
theorem and_255 (n : Int) : bits .and .i64 n 255 = n % 256 := and_ones n 8 (by decide)
theorem and_65535 (n : Int) : bits .and .i64 n 65535 = n % 65536 := and_ones n 16 (by decide)
theorem and_1048575 (n : Int) : bits .and .i64 n 1048575 = n % 1048576 := and_ones n 20 (by decide)
end Go.Proofs.YtipdnfdeacdkgaaDoor

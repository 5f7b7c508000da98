/- nat.Shr, by its contract. Conditions: fewer than 2^43 limbs. -/
import Derived.Test.YtmajmpgcdpbnfaaDoorNatShl
import Derived.Laws.BitsAllLaws
namespace Go.Proofs.YtmajmpgcdpbnfaaDoor
open Go.RowKit

/-- The limb that is laid at one place. -/
def srLimb (x y d : Nat) : Nat := x / 2 ^ d + y % 2 ^ d * 2 ^ (64 - d)
/-- The limbs when those from j on have been turned. -/
def srL (L : List Nat) (d j : Nat) : List Nat := L.take j ++ dig (L.length - j) (val (L.drop j) / 2 ^ d)

theorem sr_split (x R y d : Nat) (hd : d < 64) (hx : x < 18446744073709551616) (hy : R % 2 ^ d = y % 2 ^ d) :
    (x + 18446744073709551616 * R) / 2 ^ d % 18446744073709551616 = srLimb x y d ∧ (x + 18446744073709551616 * R) / 2 ^ d / 18446744073709551616 = R / 2 ^ d := by
  have hp : 0 < 2 ^ d := Nat.pow_pos (by decide)
  have e : 18446744073709551616 = 2 ^ d * 2 ^ (64 - d) := by rw [← Nat.pow_add, show d + (64 - d) = 64 by omega]
  constructor
  · unfold srLimb
    have h1 : (x + 18446744073709551616 * R) / 2 ^ d = x / 2 ^ d + 2 ^ (64 - d) * R := by
      rw [e, Nat.mul_assoc, Nat.add_mul_div_left _ _ hp]
    rw [h1, ← hy]
    have h2 : R = R % 2 ^ d + 2 ^ d * (R / 2 ^ d) := (Nat.mod_add_div R (2 ^ d)).symm
    have h3 : x / 2 ^ d + 2 ^ (64 - d) * R = x / 2 ^ d + R % 2 ^ d * 2 ^ (64 - d) + 18446744073709551616 * (R / 2 ^ d) := by
      conv => lhs; rw [h2]
      rw [e]
      grind
    rw [h3, Nat.add_mul_mod_self_left, Nat.mod_eq_of_lt]
    have h4 : x / 2 ^ d < 2 ^ (64 - d) := by
      apply Nat.div_lt_of_lt_mul
      rw [← e]; exact hx
    have h5 : R % 2 ^ d + 1 ≤ 2 ^ d := Nat.mod_lt _ hp
    have h6 := Nat.mul_le_mul_right (2 ^ (64 - d)) h5
    rw [← e, Nat.add_mul, Nat.one_mul] at h6
    omega
  · rw [Nat.div_div_eq_div_mul, Nat.mul_comm (2 ^ d), ← Nat.div_div_eq_div_mul]
    congr 1
    omega

theorem srL_start (L : List Nat) (d : Nat) : srL L d L.length = L := by simp [srL, dig]
theorem srL_end (L : List Nat) (d : Nat) : srL L d 0 = dig L.length (val L / 2 ^ d) := by simp [srL]
theorem srL_length (L : List Nat) (d j : Nat) (hj : j ≤ L.length) : (srL L d j).length = L.length := by simp [srL, dig_length]; omega
theorem srL_get (L : List Nat) (d j : Nat) (hj : j < L.length) : (srL L d (j + 1))[j]? = L[j]? := by
  unfold srL
  rw [List.getElem?_append_left (by simp; omega), List.getElem?_take_of_lt (by omega)]
theorem srL_step (L : List Nat) (d j : Nat) (hj : j < L.length) (hL : Fit L) (hd : d < 64) : (srL L d (j + 1)).set j (srLimb (L.getD j 0) (L.getD (j + 1) 0) d) = srL L d j := by
  have hx : L.getD j 0 = L[j] := by rw [List.getD_eq_getElem?_getD, List.getElem?_eq_getElem hj]; rfl
  have hm : val (L.drop (j + 1)) % 2 ^ d = L.getD (j + 1) 0 % 2 ^ d := by
    by_cases h : j + 1 < L.length
    · rw [List.drop_eq_getElem_cons h, val_cons, List.getD_eq_getElem?_getD, List.getElem?_eq_getElem h]
      have e : 18446744073709551616 = 2 ^ d * 2 ^ (64 - d) := by rw [← Nat.pow_add, show d + (64 - d) = 64 by omega]
      rw [e, Nat.mul_assoc, Nat.add_mul_mod_self_left]
      rfl
    · rw [List.drop_of_length_le (by omega), List.getD_eq_getElem?_getD, List.getElem?_eq_none (by omega)]
      rfl
  obtain ⟨s1, s2⟩ := sr_split L[j] (val (L.drop (j + 1))) (L.getD (j + 1) 0) d hd (fit_get hL j hj) hm
  unfold srL
  rw [show L.length - j = (L.length - (j + 1)) + 1 by omega, dig, List.drop_eq_getElem_cons hj, val_cons, s1, s2, hx]
  rw [List.take_succ_eq_append_getElem hj, List.append_assoc, List.set_append_right _ _ (by simp; omega)]
  simp [Nat.min_eq_left (Nat.le_of_lt hj)]

theorem srLimb_lt (x y d : Nat) (hd : d < 64) (hx : x < 18446744073709551616) : srLimb x y d < 18446744073709551616 := by
  have hp : 0 < 2 ^ d := Nat.pow_pos (by decide)
  have e : 18446744073709551616 = 2 ^ d * 2 ^ (64 - d) := by rw [← Nat.pow_add, show d + (64 - d) = 64 by omega]
  have h4 : x / 2 ^ d < 2 ^ (64 - d) := by
    apply Nat.div_lt_of_lt_mul
    rw [← e]; exact hx
  have h5 : y % 2 ^ d + 1 ≤ 2 ^ d := Nat.mod_lt _ hp
  have h6 := Nat.mul_le_mul_right (2 ^ (64 - d)) h5
  rw [← e, Nat.add_mul, Nat.one_mul] at h6
  unfold srLimb
  omega

theorem sr_bits (x y d s : Nat) (hs : s = 64 - d) (hd : d < 64) (hx : x < 18446744073709551616) :
    bits .or .u64 ((x : Int) / 2 ^ d) (IntKind.u64.wrap ((y : Int) * 2 ^ min s 64)) = ((srLimb x y d : Nat) : Int) := by
  have e : 18446744073709551616 = 2 ^ d * 2 ^ s := by rw [← Nat.pow_add, hs, show d + (64 - d) = 64 by omega]
  have h1 : ((x : Int) / 2 ^ d) = ((x / 2 ^ d : Nat) : Int) := by simp
  have h2 : IntKind.u64.wrap ((y : Int) * 2 ^ min s 64) = (((y % 2 ^ d) * 2 ^ s : Nat) : Int) := by
    rw [show min s 64 = s by omega, IntKind.wrap_u64]
    have e3 : ((y : Int) * 2 ^ s) = ((y * 2 ^ s : Nat) : Int) := by simp
    have e4 : (y % 2 ^ d) * 2 ^ s = (y * 2 ^ s) % 18446744073709551616 := by rw [e, Nat.mul_mod_mul_right]
    rw [e3, e4]
    generalize y * 2 ^ s = t
    omega
  have h4 : x / 2 ^ d < 2 ^ s := by
    apply Nat.div_lt_of_lt_mul
    rw [← e]; exact hx
  have hlt := srLimb_lt x y d hd hx
  unfold srLimb at hlt ⊢
  rw [← hs] at hlt ⊢
  rw [h1, h2, u64_or_nat _ _ (Nat.lt_of_le_of_lt (Nat.le_add_right _ _) hlt) (Nat.lt_of_le_of_lt (Nat.le_add_left _ _) hlt)]
  have h5 := Nat.two_pow_add_eq_or_of_lt h4 (y % 2 ^ d)
  rw [Nat.or_comm, Nat.mul_comm, ← h5, Nat.add_comm, Nat.mul_comm]

end Go.Proofs.YtmajmpgcdpbnfaaDoor

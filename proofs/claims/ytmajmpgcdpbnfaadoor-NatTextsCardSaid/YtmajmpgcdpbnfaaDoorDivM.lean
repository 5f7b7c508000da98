/- Division of two limbs by one, in halves: mathematics. -/
import Derived.Test.YtmajmpgcdpbnfaaDoorNatShr
namespace Go.Proofs.YtmajmpgcdpbnfaaDoor
open Go.RowKit

theorem half_dec {y y1 y0 u d q r : Nat} (hy : y = y1 * 4294967296 + y0) (hu : u = q * y1 + r) (hlt : u < y) (hd : d < 4294967296)
    (h : 4294967296 ≤ q ∨ 4294967296 * r + d < q * y0) : (u * 4294967296 + d) / y < q := by
  have hy0 : 0 < y := by omega
  rw [Nat.div_lt_iff_lt_mul hy0]
  rcases h with h | h
  · have h2 : 4294967296 * y ≤ q * y := Nat.mul_le_mul_right _ h
    omega
  · have e : q * y = q * y1 * 4294967296 + q * y0 := by rw [hy, Nat.mul_add, Nat.mul_assoc]
    rw [e]
    generalize q * y1 = P at *
    generalize q * y0 = S at *
    omega

theorem half_done {y y1 y0 u d q r : Nat} (hy : y = y1 * 4294967296 + y0) (hu : u = q * y1 + r) (hlt : u < y)
    (hq : (u * 4294967296 + d) / y ≤ q) (h : q * y0 ≤ 4294967296 * r + d) : q = (u * 4294967296 + d) / y := by
  have hy0 : 0 < y := by omega
  refine Nat.le_antisymm ?_ hq
  rw [Nat.le_div_iff_mul_le hy0]
  have e : q * y = q * y1 * 4294967296 + q * y0 := by rw [hy, Nat.mul_add, Nat.mul_assoc]
  rw [e]
  generalize q * y1 = P at *
  generalize q * y0 = S at *
  omega

theorem half_over {y y1 y0 u d q r : Nat} (hy : y = y1 * 4294967296 + y0) (hy0 : y0 < 4294967296) (hu : u = q * y1 + r) (hlt : u < y)
    (h : 4294967296 ≤ r) : q < 4294967296 ∧ q * y0 ≤ 4294967296 * r + d := by
  have h1 : q * y1 < 4294967296 * y1 := by
    generalize q * y1 = P at *
    omega
  have h2 : q < 4294967296 := Nat.lt_of_mul_lt_mul_right h1
  have h3 : q * y0 ≤ 4294967296 * 4294967296 := Nat.mul_le_mul (by omega) (by omega)
  refine ⟨h2, ?_⟩
  generalize q * y0 = S at *
  omega

theorem two_halves {V Y U u1 u0 q1 r1 q0 r0 : Nat} (hV : V = U * 18446744073709551616 + (u1 * 4294967296 + u0)) (h1 : U * 4294967296 + u1 = q1 * Y + r1)
    (h0 : r1 * 4294967296 + u0 = q0 * Y + r0) (hr0 : r0 < Y) : V / Y = q1 * 4294967296 + q0 ∧ V % Y = r0 := by
  have e : V = r0 + Y * (q1 * 4294967296 + q0) := by
    have e2 : Y * (q1 * 4294967296 + q0) = q1 * Y * 4294967296 + q0 * Y := by
      rw [Nat.mul_add, Nat.mul_comm Y q0, Nat.mul_comm q1 Y, Nat.mul_assoc]
    rw [e2]
    generalize q1 * Y = P at *
    generalize q0 * Y = S at *
    omega
  rw [e]
  exact ⟨by rw [Nat.add_mul_div_left _ _ (by omega), Nat.div_eq_of_lt hr0, Nat.zero_add], by rw [Nat.add_mul_mod_self_left, Nat.mod_eq_of_lt hr0]⟩

theorem raised (N y p : Nat) (hp : 0 < p) : N * p / (y * p) = N / y ∧ N * p % (y * p) / p = N % y := by
  refine ⟨Nat.mul_div_mul_right _ _ hp, ?_⟩
  rw [Nat.mul_mod_mul_right, Nat.mul_div_cancel _ hp]

/-- Raised by its free bits a limb has its last bit set. -/
theorem raise_top (y : Nat) (h0 : 0 < y) (h : y < 18446744073709551616) : ∃ s, s + bitLen y = 64 ∧ s < 64 ∧ 9223372036854775808 ≤ y * 2 ^ s ∧ y * 2 ^ s < 18446744073709551616 := by
  have hb : bitLen y = Nat.log2 y + 1 := by unfold bitLen; rw [if_neg (by omega)]
  have h1 : 2 ^ Nat.log2 y ≤ y := Nat.log2_self_le (by omega)
  have h2 : y < 2 ^ (Nat.log2 y + 1) := Nat.lt_log2_self
  have h3 : Nat.log2 y < 64 := (Nat.log2_lt (by omega)).2 (by omega)
  refine ⟨63 - Nat.log2 y, by omega, by omega, ?_, ?_⟩
  · have := Nat.mul_le_mul_right (2 ^ (63 - Nat.log2 y)) h1
    rw [← Nat.pow_add, show Nat.log2 y + (63 - Nat.log2 y) = 63 by omega] at this
    exact this
  · have := Nat.mul_lt_mul_of_pos_right h2 (Nat.pow_pos (by decide : 0 < 2) : 0 < 2 ^ (63 - Nat.log2 y))
    rw [← Nat.pow_add, show Nat.log2 y + 1 + (63 - Nat.log2 y) = 64 by omega] at this
    exact this

/-- What holds as the guess of a half comes down: not below what it is to be, and what is left beside it. -/
def HIn (U Y y1 d q r : Nat) : Prop := U = q * y1 + r ∧ (U * 4294967296 + d) / Y ≤ q ∧ r < 4294967296 ∧ q < 18446744073709551616

theorem hIn_start {U Y y1 y0 d : Nat} (hY : Y = y1 * 4294967296 + y0) (h1 : 0 < y1) (h1b : y1 < 4294967296) (hd : d < 4294967296) (hU : U < 18446744073709551616) :
    HIn U Y y1 d (U / y1) (U % y1) := by
  refine ⟨by rw [Nat.mul_comm]; exact (Nat.div_add_mod _ _).symm, ?_, Nat.lt_trans (Nat.mod_lt _ h1) h1b, Nat.lt_of_le_of_lt (Nat.div_le_self _ _) hU⟩
  have h2 : (U * 4294967296 + d) / Y ≤ (U * 4294967296 + d) / (4294967296 * y1) := Nat.div_le_div_left (by omega) (by omega)
  rw [← Nat.div_div_eq_div_mul, show (U * 4294967296 + d) / 4294967296 = U by omega] at h2
  exact h2

theorem hIn_down {U Y y1 y0 d q r : Nat} (hY : Y = y1 * 4294967296 + y0) (h : HIn U Y y1 d q r) (hlt : U < Y) (hd : d < 4294967296) (hy0 : y0 < 4294967296)
    (hc : 4294967296 ≤ q ∨ 4294967296 * r + d < q * y0) : 0 < q ∧ (r + y1 < 4294967296 → HIn U Y y1 d (q - 1) (r + y1)) ∧ (4294967296 ≤ r + y1 → q - 1 = (U * 4294967296 + d) / Y) := by
  have hdec := half_dec hY h.1 hlt hd hc
  obtain ⟨hu, hq, hr, hb⟩ := h
  have hq0 : 0 < q := Nat.lt_of_le_of_lt (Nat.zero_le _) hdec
  have hq1 : (U * 4294967296 + d) / Y ≤ q - 1 := Nat.le_sub_one_of_lt hdec
  have e : U = (q - 1) * y1 + (r + y1) := by
    have : q * y1 = (q - 1) * y1 + y1 := by
      conv => lhs; rw [show q = q - 1 + 1 by omega, Nat.add_mul, Nat.one_mul]
    omega
  refine ⟨hq0, fun hl => ⟨e, hq1, hl, by omega⟩, fun hg => ?_⟩
  exact half_done hY e hlt hq1 (half_over hY hy0 e hlt hg).2

theorem hIn_done {U Y y1 y0 d q r : Nat} (hY : Y = y1 * 4294967296 + y0) (h : HIn U Y y1 d q r) (hlt : U < Y)
    (hc : q * y0 ≤ 4294967296 * r + d) : q = (U * 4294967296 + d) / Y := half_done hY h.1 hlt h.2.1 hc

theorem wrap_mul (a b : Nat) : IntKind.u64.wrap ((a : Int) * (b : Int)) = ((a * b % 18446744073709551616 : Nat) : Int) := by
  rw [IntKind.wrap_u64, ← Int.natCast_mul]; omega

/-- What is left of a half, as the program reckons it: past a limb's end and back. -/
theorem rem_wraps (U t q Y : Nat) (hq : q = (U * 4294967296 + t) / Y) (hY0 : 0 < Y) (hY : Y < 18446744073709551616) :
    ∃ M1 M3 R : Nat, R = (U * 4294967296 + t) % Y ∧ U * 4294967296 + t = q * Y + R ∧ R < Y ∧ M1 ≤ 18446744069414584320 ∧ M3 < 18446744073709551616 ∧ IntKind.u64.wrap ((U : Int) * 4294967296) = (M1 : Int) ∧ IntKind.u64.wrap ((q : Int) * (Y : Int)) = (M3 : Int) ∧ IntKind.u64.wrap ((M1 : Int) + (t : Int) - (M3 : Int)) = (R : Int) := by
  have h1 : U * 4294967296 + t = q * Y + (U * 4294967296 + t) % Y := by
    have h := Nat.div_add_mod (U * 4294967296 + t) Y
    rw [← hq, Nat.mul_comm Y q] at h
    exact h.symm
  have h2 := Nat.mod_lt (U * 4294967296 + t) hY0
  refine ⟨U * 4294967296 % 18446744073709551616, q * Y % 18446744073709551616, _, rfl, h1, h2, by omega, Nat.mod_lt _ (by decide), ?_, wrap_mul q Y, ?_⟩
  · rw [IntKind.wrap_u64]; omega
  · obtain ⟨R, hR⟩ : ∃ R, R = (U * 4294967296 + t) % Y := ⟨_, rfl⟩
    obtain ⟨P, hP⟩ : ∃ P, P = q * Y := ⟨_, rfl⟩
    rw [← hR] at h1 h2 ⊢
    rw [← hP] at h1 ⊢
    clear hR hP hq
    rw [IntKind.wrap_u64]; omega

theorem quo_wraps (U y1 : Nat) (h1 : 0 < y1) (hU : U < 18446744073709551616) :
    ∃ q r QY : Nat, q = U / y1 ∧ r = U % y1 ∧ q < 18446744073709551616 ∧ r < y1 ∧ QY < 18446744073709551616 ∧ (U : Int) / (y1 : Int) = (q : Int) ∧ IntKind.u64.wrap ((q : Int) * (y1 : Int)) = (QY : Int) ∧ IntKind.u64.wrap ((U : Int) - (QY : Int)) = (r : Int) := by
  have hqr : U = U / y1 * y1 + U % y1 := by rw [Nat.mul_comm]; exact (Nat.div_add_mod _ _).symm
  have hr := Nat.mod_lt U h1
  refine ⟨U / y1, U % y1, U / y1 * y1, rfl, rfl, Nat.lt_of_le_of_lt (Nat.div_le_self _ _) hU, hr, by omega, by simp, ?_, ?_⟩
  · rw [wrap_mul, Nat.mod_eq_of_lt (by omega)]
  · generalize U / y1 * y1 = P at *
    generalize U % y1 = r at *
    rw [IntKind.wrap_u64]; omega
end Go.Proofs.YtmajmpgcdpbnfaaDoor

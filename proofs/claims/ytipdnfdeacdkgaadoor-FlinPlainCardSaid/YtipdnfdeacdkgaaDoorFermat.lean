/- Small primes: Euclid's lemma, inverses, the p-th power of a sum, Fermat's little theorem. Mathematics alone. -/
import Derived.WalkKit
namespace Go.Proofs.YtipdnfdeacdkgaaDoor

/-- A prime: above 1, and with no divisor between. -/
def IsP (p : Nat) : Prop := 2 ≤ p ∧ ∀ d, 2 ≤ d → d < p → ¬ d ∣ p

theorem isP_small {n : Nat} : IsP n ↔ 2 ≤ n ∧ ∀ d, 2 ≤ d → d * d ≤ n → ¬ d ∣ n := by
  constructor
  · rintro ⟨h2, h⟩
    refine ⟨h2, fun d hd hdd => h d hd ?_⟩
    have := Nat.mul_le_mul_left d hd
    omega
  · rintro ⟨h2, h⟩
    refine ⟨h2, fun d hd hdn hdv => ?_⟩
    obtain ⟨e, he⟩ := hdv
    have he2 : 2 ≤ e := by
      rcases Nat.lt_or_ge e 2 with h1 | h1
      · exfalso
        have : e = 0 ∨ e = 1 := by omega
        rcases this with rfl | rfl
        · simp at he; omega
        · simp at he; omega
      · exact h1
    rcases Nat.le_total d e with hle | hle
    · exact h d hd (by rw [he]; exact Nat.mul_le_mul_left d hle) ⟨e, he⟩
    · exact h e he2 (by rw [he]; exact Nat.mul_le_mul_right e hle) ⟨d, by rw [he, Nat.mul_comm]⟩

theorem isP_gcd {p a : Nat} (hp : IsP p) (ha : ¬ p ∣ a) : Nat.gcd p a = 1 := by
  have h1 : Nat.gcd p a ∣ p := Nat.gcd_dvd_left p a
  have h2 : Nat.gcd p a ∣ a := Nat.gcd_dvd_right p a
  have h3 : Nat.gcd p a ≤ p := Nat.le_of_dvd (by have := hp.1; omega) h1
  have h0 : 0 < Nat.gcd p a := Nat.gcd_pos_of_pos_left a (by have := hp.1; omega)
  rcases Nat.lt_or_ge (Nat.gcd p a) 2 with h | h
  · omega
  · rcases Nat.lt_or_ge (Nat.gcd p a) p with h4 | h4
    · exact absurd h1 (hp.2 _ h h4)
    · have e : Nat.gcd p a = p := by omega
      rw [e] at h2
      exact absurd h2 ha

/-- Bezout's row, over the integers. -/
theorem bez (a b : Nat) : ∃ x y : Int, x * a + y * b = (Nat.gcd a b : Int) := by
  induction a, b using Nat.gcd.induction with
  | H0 b => exact ⟨0, 1, by simp⟩
  | H1 a b ha ih =>
    obtain ⟨x, y, h⟩ := ih
    refine ⟨y - x * (b / a : Nat), x, ?_⟩
    have e : (b : Int) = ((b % a : Nat) : Int) + (a : Int) * ((b / a : Nat) : Int) := by
      have := Nat.mod_add_div b a
      exact_mod_cast this.symm
    rw [Nat.gcd_rec a b, ← h]
    rw [Int.sub_mul]
    have e2 : x * (b : Int) = x * ((b % a : Nat) : Int) + x * ((b / a : Nat) : Int) * a := by
      conv => lhs; rw [e]
      rw [Int.mul_add, Int.mul_comm (a : Int), ← Int.mul_assoc]
    omega

theorem euclid {p a b : Nat} (hp : IsP p) (h : p ∣ a * b) : p ∣ a ∨ p ∣ b := by
  by_cases ha : p ∣ a
  · exact .inl ha
  · right
    have hg := isP_gcd hp ha
    exact Nat.Coprime.dvd_of_dvd_mul_left hg h

/-- The inverse of what isn't a multiple. -/
theorem inv_ex {p a : Nat} (hp : IsP p) (ha : ¬ p ∣ a) : ∃ x, 1 ≤ x ∧ x < p ∧ a * x % p = 1 := by
  obtain ⟨u, v, h⟩ := bez p a
  rw [isP_gcd hp ha] at h
  have hp2 := hp.1
  have hpi : (0 : Int) < (p : Int) := by omega
  have hx0 : 0 ≤ v % (p : Int) := Int.emod_nonneg _ (by omega)
  have hx1 : v % (p : Int) < p := Int.emod_lt_of_pos _ hpi
  have key : ((a : Int) * (v % (p : Int))) % p = 1 := by
    have e : (a : Int) * (v % (p : Int)) = 1 + p * (-(u + a * (v / p))) := by
      have hv := Int.emod_add_mul_ediv v p
      have e1 : v % (p : Int) = v - p * (v / p) := by omega
      rw [e1, Int.mul_sub]
      have e2 : (p : Int) * (-(u + a * (v / p))) = -(p * u) - p * (a * (v / p)) := by
        rw [Int.mul_neg, Int.mul_add]; omega
      have e3 : (a : Int) * (p * (v / p)) = p * (a * (v / p)) := by
        rw [← Int.mul_assoc, Int.mul_comm (a : Int), Int.mul_assoc]
      have e4 : u * (p : Int) = p * u := Int.mul_comm _ _
      have e5 : v * (a : Int) = a * v := Int.mul_comm _ _
      rw [e2, e3]
      omega
    rw [e, Int.add_mul_emod_self_left]
    exact Int.emod_eq_of_lt (by decide) (by omega)
  refine ⟨(v % (p : Int)).toNat, ?_, by omega, ?_⟩
  · rcases Nat.eq_zero_or_pos (v % (p : Int)).toNat with e | e
    · have : v % (p : Int) = 0 := by omega
      rw [this, Int.mul_zero] at key
      simp at key
    · exact e
  · have : (((a * (v % (p : Int)).toNat : Nat) : Int)) % p = 1 := by
      rw [Int.natCast_mul, Int.toNat_of_nonneg hx0]; exact key
    exact_mod_cast this

/-- Pascal's numbers. -/
def chs : Nat → Nat → Nat
  | _, 0 => 1
  | 0, _ + 1 => 0
  | n + 1, k + 1 => chs n k + chs n (k + 1)
theorem chs_zero (n : Nat) : chs n 0 = 1 := by cases n <;> rfl
theorem chs_over (n k : Nat) (h : n < k) : chs n k = 0 := by
  induction n generalizing k with
  | zero =>
    obtain ⟨j, rfl⟩ : ∃ j, k = j + 1 := ⟨k - 1, by omega⟩
    rfl
  | succ n ih =>
    obtain ⟨j, rfl⟩ : ∃ j, k = j + 1 := ⟨k - 1, by omega⟩
    rw [chs, ih j (by omega), ih (j + 1) (by omega)]
theorem chs_self (n : Nat) : chs n n = 1 := by
  induction n with
  | zero => rfl
  | succ n ih => rw [chs, ih, chs_over n (n + 1) (by omega)]
theorem chs_down (n k : Nat) : (k + 1) * chs (n + 1) (k + 1) = (n + 1) * chs n k := by
  induction n generalizing k with
  | zero =>
    cases k with
    | zero => rfl
    | succ k => simp [chs]
  | succ n ih =>
    cases k with
    | zero =>
      have := ih 0
      simp only [chs, chs_zero] at this ⊢
      omega
    | succ k =>
      have h1 := ih k
      have h2 := ih (k + 1)
      rw [chs, Nat.mul_add, h2]
      have e : (k + 1 + 1) * chs (n + 1) (k + 1) = (n + 1) * chs n k + chs (n + 1) (k + 1) := by rw [Nat.add_mul, h1, Nat.one_mul]
      have e2 : chs (n + 1) (k + 1) = chs n k + chs n (k + 1) := rfl
      rw [e, e2]
      generalize chs n k = u
      generalize chs n (k + 1) = t
      grind

/-- The sum of the first so many terms. -/
def sumN (f : Nat → Nat) : Nat → Nat
  | 0 => 0
  | n + 1 => sumN f n + f n
theorem sumN_add (f g : Nat → Nat) (n : Nat) : sumN (fun k => f k + g k) n = sumN f n + sumN g n := by
  induction n with
  | zero => rfl
  | succ n ih => simp only [sumN, ih]; omega
theorem sumN_mul (f : Nat → Nat) (c n : Nat) : sumN (fun k => c * f k) n = c * sumN f n := by
  induction n with
  | zero => rfl
  | succ n ih => simp only [sumN, ih, Nat.mul_add]
theorem sumN_shift (f : Nat → Nat) (n : Nat) : sumN f (n + 1) = f 0 + sumN (fun k => f (k + 1)) n := by
  induction n with
  | zero => simp [sumN]
  | succ n ih => rw [sumN, ih, sumN]; omega
theorem sumN_congr (f g : Nat → Nat) (n : Nat) (h : ∀ k, k < n → f k = g k) : sumN f n = sumN g n := by
  induction n with
  | zero => rfl
  | succ n ih => rw [sumN, sumN, ih (fun k hk => h k (by omega)), h n (by omega)]
theorem binomial (a n : Nat) : (a + 1) ^ n = sumN (fun k => chs n k * a ^ k) (n + 1) := by
  induction n with
  | zero => simp [sumN, chs]
  | succ n ih =>
    have e : sumN (fun k => chs (n + 1) k * a ^ k) (n + 1 + 1) = 1 + sumN (fun k => (a * (chs n k * a ^ k)) + chs n (k + 1) * a ^ (k + 1)) (n + 1) := by
      rw [sumN_shift, chs_zero, Nat.pow_zero, Nat.mul_one]
      congr 1
      apply sumN_congr
      intro k _
      rw [chs, Nat.add_mul, Nat.pow_succ]
      congr 1
      rw [Nat.mul_comm (a ^ k) a, ← Nat.mul_assoc, ← Nat.mul_assoc, Nat.mul_comm (chs n k) a]
    have e2 : sumN (fun k => chs n k * a ^ k) (n + 1 + 1) = 1 + sumN (fun k => chs n (k + 1) * a ^ (k + 1)) (n + 1) := by
      rw [sumN_shift, chs_zero, Nat.pow_zero, Nat.mul_one]
    have e3 : sumN (fun k => chs n k * a ^ k) (n + 1 + 1) = sumN (fun k => chs n k * a ^ k) (n + 1) := by
      rw [sumN, chs_over n (n + 1) (by omega), Nat.zero_mul, Nat.add_zero]
    rw [e, sumN_add, sumN_mul, ← ih, Nat.pow_succ, Nat.mul_add, Nat.mul_one, Nat.mul_comm _ a]
    rw [e3, ← ih] at e2
    omega

theorem chs_div {p k : Nat} (hp : IsP p) (h0 : 0 < k) (hk : k < p) : p ∣ chs p k := by
  obtain ⟨j, rfl⟩ : ∃ j, k = j + 1 := ⟨k - 1, by omega⟩
  obtain ⟨q, rfl⟩ : ∃ q, p = q + 1 := ⟨p - 1, by omega⟩
  have h := chs_down q j
  have hd : (q + 1) ∣ (j + 1) * chs (q + 1) (j + 1) := by rw [h]; exact Nat.dvd_mul_right _ _
  rcases euclid hp hd with h1 | h1
  · have := Nat.le_of_dvd (by omega) h1
    omega
  · exact h1
theorem sumN_div (f : Nat → Nat) (p n : Nat) (h : ∀ k, k < n → p ∣ f k) : p ∣ sumN f n := by
  induction n with
  | zero => exact Nat.dvd_zero p
  | succ n ih => exact (Nat.dvd_add (ih fun k hk => h k (by omega)) (h n (by omega)))
theorem freshman {p : Nat} (hp : IsP p) (a : Nat) : ∃ m, (a + 1) ^ p = a ^ p + 1 + p * m := by
  obtain ⟨q, rfl⟩ : ∃ q, p = q + 1 := ⟨p - 1, by have := hp.1; omega⟩
  have hb := binomial a (q + 1)
  rw [sumN, chs_self, Nat.one_mul, sumN_shift, chs_zero, Nat.pow_zero, Nat.mul_one] at hb
  obtain ⟨m, hm⟩ := sumN_div (fun k => chs (q + 1) (k + 1) * a ^ (k + 1)) (q + 1) q (fun k hk => Nat.dvd_trans (chs_div hp (by omega) (by omega)) (Nat.dvd_mul_right _ _))
  exact ⟨m, by rw [hb, hm]; omega⟩
/-- The p-th power of each number has its rest. -/
theorem fermat {p : Nat} (hp : IsP p) (a : Nat) : a ^ p % p = a % p := by
  induction a with
  | zero => rw [Nat.zero_pow (by have := hp.1; omega)]
  | succ a ih =>
    obtain ⟨m, hm⟩ := freshman hp a
    rw [hm, Nat.add_mul_mod_self_left, Nat.add_mod, ih, ← Nat.add_mod]
end Go.Proofs.YtipdnfdeacdkgaaDoor

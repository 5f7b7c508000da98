/- Texts joined, in their order: Fermat, FpMath, IntWords, Ser, Pol, Rst, MadeM, RefIs, PolPlain, PolSum, RefFPow, PolDiv, PrimeTab, PrgIs, RefFp, AndOnes, PrgFp, PrgMade, PolRing, PolSame. -/
import Derived.WalkKit
import Derived.Test.YtbipbpakbanacaaDoorChecked
import Derived.WalkSpells
import Derived.Laws.OwnMore
import Derived.Deep.Draws
import Derived.Laws.Rows
import Derived.Lib.Hide
import Derived.Laws.AppendOwnNone
import Derived.Deep.RegionHeld3
import Derived.Deep.RegionLaw
import Derived.Below
import Derived.OwnWalk
import Derived.Laws.CopyOwn
import Derived.Test.YtbipbpakbanacaaDoorProg
import Derived.Deep.QuietTactic
import Derived.BigQuiet
import Derived.StillTailTactics
import Derived.WalkMore
import Derived.Laws.Bits64b
import Derived.Shelf.Abstract

/- Small primes: Euclid's lemma, inverses, the p-th power of a sum, Fermat's little theorem. Mathematics alone. -/
namespace Go.Proofs.YtbipbpakbanacaaDoor

/-- A prime: above 1, and with no divisor between. -/
def IsP (p : Nat) : Prop := 2 ≤ p ∧ ∀ d, 2 ≤ d → d < p → ¬ d ∣ p

theorem isP_small {n : Nat} : IsP n ↔ 2 ≤ n ∧ ∀ d, 2 ≤ d → d * d ≤ n → ¬ d ∣ n := by
  constructor
  · rintro ⟨h2, h⟩
    refine ⟨h2, fun d hd hdd => h d hd ?_⟩
    have := Nat.mul_le_mul_left d hd
    omega
  · rintro ⟨h2, h⟩
    refine ⟨h2, fun d hd hdn hdv => ?_⟩
    obtain ⟨e, he⟩ := hdv
    have he2 : 2 ≤ e := by
      rcases Nat.lt_or_ge e 2 with h1 | h1
      · exfalso
        have : e = 0 ∨ e = 1 := by omega
        rcases this with rfl | rfl
        · simp at he; omega
        · simp at he; omega
      · exact h1
    rcases Nat.le_total d e with hle | hle
    · exact h d hd (by rw [he]; exact Nat.mul_le_mul_left d hle) ⟨e, he⟩
    · exact h e he2 (by rw [he]; exact Nat.mul_le_mul_right e hle) ⟨d, by rw [he, Nat.mul_comm]⟩

theorem isP_gcd {p a : Nat} (hp : IsP p) (ha : ¬ p ∣ a) : Nat.gcd p a = 1 := by
  have h1 : Nat.gcd p a ∣ p := Nat.gcd_dvd_left p a
  have h2 : Nat.gcd p a ∣ a := Nat.gcd_dvd_right p a
  have h3 : Nat.gcd p a ≤ p := Nat.le_of_dvd (by have := hp.1; omega) h1
  have h0 : 0 < Nat.gcd p a := Nat.gcd_pos_of_pos_left a (by have := hp.1; omega)
  rcases Nat.lt_or_ge (Nat.gcd p a) 2 with h | h
  · omega
  · rcases Nat.lt_or_ge (Nat.gcd p a) p with h4 | h4
    · exact absurd h1 (hp.2 _ h h4)
    · have e : Nat.gcd p a = p := by omega
      rw [e] at h2
      exact absurd h2 ha

/-- Bezout's row, over the integers. -/
theorem bez (a b : Nat) : ∃ x y : Int, x * a + y * b = (Nat.gcd a b : Int) := by
  induction a, b using Nat.gcd.induction with
  | H0 b => exact ⟨0, 1, by simp⟩
  | H1 a b ha ih =>
    obtain ⟨x, y, h⟩ := ih
    refine ⟨y - x * (b / a : Nat), x, ?_⟩
    have e : (b : Int) = ((b % a : Nat) : Int) + (a : Int) * ((b / a : Nat) : Int) := by
      have := Nat.mod_add_div b a
      exact_mod_cast this.symm
    rw [Nat.gcd_rec a b, ← h]
    rw [Int.sub_mul]
    have e2 : x * (b : Int) = x * ((b % a : Nat) : Int) + x * ((b / a : Nat) : Int) * a := by
      conv => lhs; rw [e]
      rw [Int.mul_add, Int.mul_comm (a : Int), ← Int.mul_assoc]
    omega

theorem euclid {p a b : Nat} (hp : IsP p) (h : p ∣ a * b) : p ∣ a ∨ p ∣ b := by
  by_cases ha : p ∣ a
  · exact .inl ha
  · right
    have hg := isP_gcd hp ha
    exact Nat.Coprime.dvd_of_dvd_mul_left hg h

/-- The inverse of what isn't a multiple. -/
theorem inv_ex {p a : Nat} (hp : IsP p) (ha : ¬ p ∣ a) : ∃ x, 1 ≤ x ∧ x < p ∧ a * x % p = 1 := by
  obtain ⟨u, v, h⟩ := bez p a
  rw [isP_gcd hp ha] at h
  have hp2 := hp.1
  have hpi : (0 : Int) < (p : Int) := by omega
  have hx0 : 0 ≤ v % (p : Int) := Int.emod_nonneg _ (by omega)
  have hx1 : v % (p : Int) < p := Int.emod_lt_of_pos _ hpi
  have key : ((a : Int) * (v % (p : Int))) % p = 1 := by
    have e : (a : Int) * (v % (p : Int)) = 1 + p * (-(u + a * (v / p))) := by
      have hv := Int.emod_add_mul_ediv v p
      have e1 : v % (p : Int) = v - p * (v / p) := by omega
      rw [e1, Int.mul_sub]
      have e2 : (p : Int) * (-(u + a * (v / p))) = -(p * u) - p * (a * (v / p)) := by
        rw [Int.mul_neg, Int.mul_add]; omega
      have e3 : (a : Int) * (p * (v / p)) = p * (a * (v / p)) := by
        rw [← Int.mul_assoc, Int.mul_comm (a : Int), Int.mul_assoc]
      have e4 : u * (p : Int) = p * u := Int.mul_comm _ _
      have e5 : v * (a : Int) = a * v := Int.mul_comm _ _
      rw [e2, e3]
      omega
    rw [e, Int.add_mul_emod_self_left]
    exact Int.emod_eq_of_lt (by decide) (by omega)
  refine ⟨(v % (p : Int)).toNat, ?_, by omega, ?_⟩
  · rcases Nat.eq_zero_or_pos (v % (p : Int)).toNat with e | e
    · have : v % (p : Int) = 0 := by omega
      rw [this, Int.mul_zero] at key
      simp at key
    · exact e
  · have : (((a * (v % (p : Int)).toNat : Nat) : Int)) % p = 1 := by
      rw [Int.natCast_mul, Int.toNat_of_nonneg hx0]; exact key
    exact_mod_cast this

/-- Pascal's numbers. -/
def chs : Nat → Nat → Nat
  | _, 0 => 1
  | 0, _ + 1 => 0
  | n + 1, k + 1 => chs n k + chs n (k + 1)
theorem chs_zero (n : Nat) : chs n 0 = 1 := by cases n <;> rfl
theorem chs_over (n k : Nat) (h : n < k) : chs n k = 0 := by
  induction n generalizing k with
  | zero =>
    obtain ⟨j, rfl⟩ : ∃ j, k = j + 1 := ⟨k - 1, by omega⟩
    rfl
  | succ n ih =>
    obtain ⟨j, rfl⟩ : ∃ j, k = j + 1 := ⟨k - 1, by omega⟩
    rw [chs, ih j (by omega), ih (j + 1) (by omega)]
theorem chs_self (n : Nat) : chs n n = 1 := by
  induction n with
  | zero => rfl
  | succ n ih => rw [chs, ih, chs_over n (n + 1) (by omega)]
theorem chs_down (n k : Nat) : (k + 1) * chs (n + 1) (k + 1) = (n + 1) * chs n k := by
  induction n generalizing k with
  | zero =>
    cases k with
    | zero => rfl
    | succ k => simp [chs]
  | succ n ih =>
    cases k with
    | zero =>
      have := ih 0
      simp only [chs, chs_zero] at this ⊢
      omega
    | succ k =>
      have h1 := ih k
      have h2 := ih (k + 1)
      rw [chs, Nat.mul_add, h2]
      have e : (k + 1 + 1) * chs (n + 1) (k + 1) = (n + 1) * chs n k + chs (n + 1) (k + 1) := by rw [Nat.add_mul, h1, Nat.one_mul]
      have e2 : chs (n + 1) (k + 1) = chs n k + chs n (k + 1) := rfl
      rw [e, e2]
      generalize chs n k = u
      generalize chs n (k + 1) = t
      grind

/-- The sum of the first so many terms. -/
def sumN (f : Nat → Nat) : Nat → Nat
  | 0 => 0
  | n + 1 => sumN f n + f n
theorem sumN_add (f g : Nat → Nat) (n : Nat) : sumN (fun k => f k + g k) n = sumN f n + sumN g n := by
  induction n with
  | zero => rfl
  | succ n ih => simp only [sumN, ih]; omega
theorem sumN_mul (f : Nat → Nat) (c n : Nat) : sumN (fun k => c * f k) n = c * sumN f n := by
  induction n with
  | zero => rfl
  | succ n ih => simp only [sumN, ih, Nat.mul_add]
theorem sumN_shift (f : Nat → Nat) (n : Nat) : sumN f (n + 1) = f 0 + sumN (fun k => f (k + 1)) n := by
  induction n with
  | zero => simp [sumN]
  | succ n ih => rw [sumN, ih, sumN]; omega
theorem sumN_congr (f g : Nat → Nat) (n : Nat) (h : ∀ k, k < n → f k = g k) : sumN f n = sumN g n := by
  induction n with
  | zero => rfl
  | succ n ih => rw [sumN, sumN, ih (fun k hk => h k (by omega)), h n (by omega)]
theorem binomial (a n : Nat) : (a + 1) ^ n = sumN (fun k => chs n k * a ^ k) (n + 1) := by
  induction n with
  | zero => simp [sumN, chs]
  | succ n ih =>
    have e : sumN (fun k => chs (n + 1) k * a ^ k) (n + 1 + 1) = 1 + sumN (fun k => (a * (chs n k * a ^ k)) + chs n (k + 1) * a ^ (k + 1)) (n + 1) := by
      rw [sumN_shift, chs_zero, Nat.pow_zero, Nat.mul_one]
      congr 1
      apply sumN_congr
      intro k _
      rw [chs, Nat.add_mul, Nat.pow_succ]
      congr 1
      rw [Nat.mul_comm (a ^ k) a, ← Nat.mul_assoc, ← Nat.mul_assoc, Nat.mul_comm (chs n k) a]
    have e2 : sumN (fun k => chs n k * a ^ k) (n + 1 + 1) = 1 + sumN (fun k => chs n (k + 1) * a ^ (k + 1)) (n + 1) := by
      rw [sumN_shift, chs_zero, Nat.pow_zero, Nat.mul_one]
    have e3 : sumN (fun k => chs n k * a ^ k) (n + 1 + 1) = sumN (fun k => chs n k * a ^ k) (n + 1) := by
      rw [sumN, chs_over n (n + 1) (by omega), Nat.zero_mul, Nat.add_zero]
    rw [e, sumN_add, sumN_mul, ← ih, Nat.pow_succ, Nat.mul_add, Nat.mul_one, Nat.mul_comm _ a]
    rw [e3, ← ih] at e2
    omega

theorem chs_div {p k : Nat} (hp : IsP p) (h0 : 0 < k) (hk : k < p) : p ∣ chs p k := by
  obtain ⟨j, rfl⟩ : ∃ j, k = j + 1 := ⟨k - 1, by omega⟩
  obtain ⟨q, rfl⟩ : ∃ q, p = q + 1 := ⟨p - 1, by omega⟩
  have h := chs_down q j
  have hd : (q + 1) ∣ (j + 1) * chs (q + 1) (j + 1) := by rw [h]; exact Nat.dvd_mul_right _ _
  rcases euclid hp hd with h1 | h1
  · have := Nat.le_of_dvd (by omega) h1
    omega
  · exact h1
theorem sumN_div (f : Nat → Nat) (p n : Nat) (h : ∀ k, k < n → p ∣ f k) : p ∣ sumN f n := by
  induction n with
  | zero => exact Nat.dvd_zero p
  | succ n ih => exact (Nat.dvd_add (ih fun k hk => h k (by omega)) (h n (by omega)))
theorem freshman {p : Nat} (hp : IsP p) (a : Nat) : ∃ m, (a + 1) ^ p = a ^ p + 1 + p * m := by
  obtain ⟨q, rfl⟩ : ∃ q, p = q + 1 := ⟨p - 1, by have := hp.1; omega⟩
  have hb := binomial a (q + 1)
  rw [sumN, chs_self, Nat.one_mul, sumN_shift, chs_zero, Nat.pow_zero, Nat.mul_one] at hb
  obtain ⟨m, hm⟩ := sumN_div (fun k => chs (q + 1) (k + 1) * a ^ (k + 1)) (q + 1) q (fun k hk => Nat.dvd_trans (chs_div hp (by omega) (by omega)) (Nat.dvd_mul_right _ _))
  exact ⟨m, by rw [hb, hm]; omega⟩
/-- The p-th power of each number has its rest. -/
theorem fermat {p : Nat} (hp : IsP p) (a : Nat) : a ^ p % p = a % p := by
  induction a with
  | zero => rw [Nat.zero_pow (by have := hp.1; omega)]
  | succ a ih =>
    obtain ⟨m, hm⟩ := freshman hp a
    rw [hm, Nat.add_mul_mod_self_left, Nat.add_mod, ih, ← Nat.add_mod]
end Go.Proofs.YtbipbpakbanacaaDoor

/- The residues by a small prime, as plain functions: what layer 5 answers. Mathematics alone. -/
namespace Go.Proofs.YtbipbpakbanacaaDoor

/-- An int's bounds. -/
def In64 (n : Int) : Prop := -9223372036854775808 ≤ n ∧ n ≤ 9223372036854775807

/-- A prime that is small. -/
def Pr (p : Int) : Prop := 2 ≤ p ∧ p ≤ 65521 ∧ IsP p.toNat
noncomputable def primB (p : Int) : Bool := @decide (Pr p) (Classical.propDecidable _)
theorem primB_yes {p : Int} (h : Pr p) : primB p = true := @decide_eq_true _ (Classical.propDecidable _) h
theorem primB_no {p : Int} (h : ¬ Pr p) : primB p = false := @decide_eq_false _ (Classical.propDecidable _) h
theorem primB_iff {p : Int} : primB p = true ↔ Pr p := ⟨fun h => @of_decide_eq_true _ (Classical.propDecidable _) h, primB_yes⟩
theorem primB_or (p : Int) : (primB p = true ∧ Pr p) ∨ (primB p = false ∧ ¬ Pr p) := by
  by_cases h : Pr p
  · exact .inl ⟨primB_yes h, h⟩
  · exact .inr ⟨primB_no h, h⟩
/-- A prime by trial. -/
theorem pr_trial {n : Nat} (h2 : 2 ≤ n) (h3 : n ≤ 65521) (d : Nat) (hd : n < d * d) (h : ∀ e, 2 ≤ e → e < d → ¬ e ∣ n) : Pr (n : Int) := by
  refine ⟨by omega, by omega, ?_⟩
  rw [Int.toNat_natCast, isP_small]
  refine ⟨h2, fun e he hee => h e he ?_⟩
  rcases Nat.lt_or_ge e d with h1 | h1
  · exact h1
  · have := Nat.mul_le_mul h1 h1
    omega
theorem pr_not {n d : Nat} (hd : 2 ≤ d) (hdd : d * d ≤ n) (h : n % d = 0) : ¬ Pr (n : Int) := by
  rintro ⟨_, _, h2⟩
  rw [Int.toNat_natCast, isP_small] at h2
  exact h2.2 d hd hdd (Nat.dvd_of_mod_eq_zero h)

/-- The errors. -/
noncomputable def chk (p : Int) : Int := if primB p = true then 0 else 1
theorem chk_yes {p : Int} (h : primB p = true) : chk p = 0 := if_pos h
theorem chk_no {p : Int} (h : primB p = false) : chk p = 1 := if_neg (by rw [h]; decide)

/-- The rest, from 0 on. -/
def red (a p : Int) : Int := if p < 1 then 0 else a % p
theorem red_low {a p : Int} (h : p < 1) : red a p = 0 := if_pos h
theorem red_pos {a p : Int} (h : 1 ≤ p) : red a p = a % p := if_neg (by omega)
theorem red_bd {a p : Int} (h : 1 ≤ p) : 0 ≤ red a p ∧ red a p < p := by
  rw [red_pos h]
  exact ⟨Int.emod_nonneg _ (by omega), Int.emod_lt_of_pos _ (by omega)⟩
theorem tmod_cases (a p : Int) (h : 1 ≤ p) : (0 ≤ a.tmod p ∧ a % p = a.tmod p ∧ a.tmod p < p) ∨ (a.tmod p < 0 ∧ a % p = a.tmod p + p ∧ -p < a.tmod p) := by
  rcases Int.lt_or_le a 0 with h0 | h0
  · have e1 : a.tmod p = -((-a) % p) := by
      have := Int.neg_tmod (-a) p
      rw [Int.neg_neg] at this
      rw [this, Int.tmod_eq_emod_of_nonneg (by omega)]
    have b0 := Int.emod_nonneg (-a) (b := p) (by omega)
    have b1 := Int.emod_lt_of_pos (-a) (b := p) (by omega)
    have c0 := Int.emod_nonneg a (b := p) (by omega)
    have c1 := Int.emod_lt_of_pos a (b := p) (by omega)
    have d1 := Int.emod_add_mul_ediv (-a) p
    have d2 := Int.emod_add_mul_ediv a p
    have key : (a % p + (-a) % p) % p = 0 := by
      rw [← Int.add_emod]
      simp [Int.add_right_neg]
    rcases Int.lt_or_le 0 ((-a) % p) with hp | hp
    · right
      have hs : a % p + (-a) % p = p := by
        have hlt : a % p + (-a) % p < 2 * p := by omega
        have hdv : p ∣ a % p + (-a) % p := Int.dvd_of_emod_eq_zero key
        obtain ⟨k, hk⟩ := hdv
        have hk1 : k = 1 := by
          have h1 : 0 < p * k := by omega
          have h2 : p * k < p * 2 := by omega
          have := Int.lt_of_mul_lt_mul_left h2 (by omega)
          have : 0 < k := by
            rcases Int.lt_or_le 0 k with h | h
            · exact h
            · have := Int.mul_le_mul_of_nonneg_left h (show 0 ≤ p by omega)
              omega
          omega
        rw [hk, hk1, Int.mul_one]
      omega
    · left
      have hz : (-a) % p = 0 := by omega
      rw [hz, Int.add_zero] at key
      have : a % p = 0 := by
        rw [Int.emod_emod_of_dvd a (Int.dvd_refl p)] at key
        exact key
      omega
  · left
    rw [Int.tmod_eq_emod_of_nonneg h0]
    exact ⟨Int.emod_nonneg _ (by omega), rfl, Int.emod_lt_of_pos _ (by omega)⟩

noncomputable def fadd (a b p : Int) : Int := if primB p = true then (a + b) % p else 0
noncomputable def fsub (a b p : Int) : Int := if primB p = true then (a - b) % p else 0
noncomputable def fmul (a b p : Int) : Int := if primB p = true then a * b % p else 0
theorem fadd_yes {a b p : Int} (h : primB p = true) : fadd a b p = (a + b) % p := if_pos h
theorem fadd_no {a b p : Int} (h : primB p = false) : fadd a b p = 0 := if_neg (by rw [h]; decide)
theorem fsub_yes {a b p : Int} (h : primB p = true) : fsub a b p = (a - b) % p := if_pos h
theorem fsub_no {a b p : Int} (h : primB p = false) : fsub a b p = 0 := if_neg (by rw [h]; decide)
theorem fmul_yes {a b p : Int} (h : primB p = true) : fmul a b p = a * b % p := if_pos h
theorem fmul_no {a b p : Int} (h : primB p = false) : fmul a b p = 0 := if_neg (by rw [h]; decide)

/-- The inverse of what isn't 0: there is one, and no other. -/
theorem inv_exZ {a p : Int} (h : Pr p) (ha : a % p ≠ 0) : ∃ x, 1 ≤ x ∧ x < p ∧ a * x % p = 1 := by
  obtain ⟨h2, _, hp⟩ := h
  have b0 := Int.emod_nonneg a (b := p) (by omega)
  obtain ⟨n, hn⟩ : ∃ n : Nat, a % p = (n : Int) := ⟨(a % p).toNat, by omega⟩
  obtain ⟨q, hq⟩ : ∃ q : Nat, p = (q : Int) := ⟨p.toNat, by omega⟩
  subst hq
  have hnd : ¬ q ∣ n := by
    intro hd
    have hlt := Int.emod_lt_of_pos a (b := (q : Int)) (by omega)
    have := Nat.eq_zero_of_dvd_of_lt hd (by omega)
    omega
  rw [Int.toNat_natCast] at hp
  obtain ⟨x, h3, h4, h5⟩ := inv_ex hp hnd
  refine ⟨x, by omega, by omega, ?_⟩
  have : ((n * x % q : Nat) : Int) = 1 := by rw [h5]; rfl
  rw [Int.natCast_emod, Int.natCast_mul, ← hn] at this
  rw [Int.mul_emod, Int.emod_emod_of_dvd _ (Int.dvd_refl _), ← Int.mul_emod] at this
  exact this
theorem inv_uniq {a p x y : Int} (hx : 0 ≤ x ∧ x < p ∧ a * x % p = 1) (hy : 0 ≤ y ∧ y < p ∧ a * y % p = 1) : x = y := by
  have e1 : x * (a * y) % p = x := by
    rw [Int.mul_emod, hy.2.2, Int.mul_one, Int.emod_emod_of_dvd _ (Int.dvd_refl p)]
    exact Int.emod_eq_of_lt hx.1 hx.2.1
  have e2 : y * (a * x) % p = y := by
    rw [Int.mul_emod, hx.2.2, Int.mul_one, Int.emod_emod_of_dvd _ (Int.dvd_refl p)]
    exact Int.emod_eq_of_lt hy.1 hy.2.1
  have e3 : x * (a * y) = y * (a * x) := by grind
  rw [← e1, e3, e2]
open Classical in
noncomputable def finv (a p : Int) : Int := if h : Pr p ∧ a % p ≠ 0 then Classical.choose (inv_exZ h.1 h.2) else 0
theorem finv_spec {a p : Int} (h : Pr p) (ha : a % p ≠ 0) : 1 ≤ finv a p ∧ finv a p < p ∧ a * finv a p % p = 1 := by
  unfold finv
  rw [dif_pos ⟨h, ha⟩]
  exact Classical.choose_spec (inv_exZ h ha)
theorem finv_eq {a p x : Int} (h : Pr p) (hx : 0 ≤ x ∧ x < p ∧ a * x % p = 1) : finv a p = x := by
  have ha : a % p ≠ 0 := by
    intro e
    have := hx.2.2
    rw [Int.mul_emod, e, Int.zero_mul] at this
    simp at this
  have hs := finv_spec h ha
  exact inv_uniq ⟨by omega, hs.2⟩ hx
theorem finv_zero {a p : Int} (ha : a % p = 0) : finv a p = 0 := by
  unfold finv
  rw [dif_neg (fun h => h.2 ha)]
theorem finv_no {a p : Int} (h : ¬ Pr p) : finv a p = 0 := by
  unfold finv
  rw [dif_neg (fun g => h g.1)]
noncomputable def einv (a p : Int) : Int := if primB p = true then (if a % p = 0 then 3 else 0) else 1
theorem einv_no {a p : Int} (h : primB p = false) : einv a p = 1 := if_neg (by rw [h]; decide)
theorem einv_zero {a p : Int} (h : primB p = true) (ha : a % p = 0) : einv a p = 3 := by unfold einv; rw [if_pos h, if_pos ha]
theorem einv_yes {a p : Int} (h : primB p = true) (ha : a % p ≠ 0) : einv a p = 0 := by unfold einv; rw [if_pos h, if_neg ha]
noncomputable def fdiv (a b p : Int) : Int := if primB p = true then (if b % p = 0 then 0 else a * finv b p % p) else 0
theorem fdiv_no {a b p : Int} (h : primB p = false) : fdiv a b p = 0 := if_neg (by rw [h]; decide)
theorem fdiv_zero {a b p : Int} (h : primB p = true) (hb : b % p = 0) : fdiv a b p = 0 := by unfold fdiv; rw [if_pos h, if_pos hb]
theorem fdiv_yes {a b p : Int} (h : primB p = true) (hb : b % p ≠ 0) : fdiv a b p = a * finv b p % p := by unfold fdiv; rw [if_pos h, if_neg hb]

/-- Powers. -/
noncomputable def fpow (a n p : Int) : Int := if primB p = true then (if n < 0 then 0 else a ^ n.toNat % p) else 0
noncomputable def epow (n p : Int) : Int := if primB p = true then (if n < 0 then 1 else 0) else 1
theorem fpow_no {a n p : Int} (h : primB p = false) : fpow a n p = 0 := if_neg (by rw [h]; decide)
theorem fpow_low {a n p : Int} (h : primB p = true) (hn : n < 0) : fpow a n p = 0 := by unfold fpow; rw [if_pos h, if_pos hn]
theorem fpow_yes {a p : Int} (n : Nat) (h : primB p = true) : fpow a (n : Int) p = a ^ n % p := by unfold fpow; rw [if_pos h, if_neg (by omega), Int.toNat_natCast]
theorem epow_no {n p : Int} (h : primB p = false) : epow n p = 1 := if_neg (by rw [h]; decide)
theorem epow_low {n p : Int} (h : primB p = true) (hn : n < 0) : epow n p = 1 := by unfold epow; rw [if_pos h, if_pos hn]
theorem epow_yes {n p : Int} (h : primB p = true) (hn : 0 ≤ n) : epow n p = 0 := by unfold epow; rw [if_pos h, if_neg (by omega)]
theorem fermatZ {p : Int} (h : Pr p) (a : Int) : a ^ p.toNat % p = a % p := by
  obtain ⟨h2, _, hp⟩ := h
  have b0 := Int.emod_nonneg a (b := p) (by omega)
  obtain ⟨n, hn⟩ : ∃ n : Nat, a % p = (n : Int) := ⟨(a % p).toNat, by omega⟩
  obtain ⟨q, hq⟩ : ∃ q : Nat, p = (q : Int) := ⟨p.toNat, by omega⟩
  subst hq
  rw [Int.toNat_natCast] at hp ⊢
  have hf := fermat hp n
  have e : ∀ k : Nat, a ^ k % (q : Int) = ((n ^ k % q : Nat) : Int) := by
    intro k
    rw [Int.natCast_emod, Int.natCast_pow, ← hn]
    induction k with
    | zero => simp
    | succ k ih => rw [Int.pow_succ, Int.pow_succ, Int.mul_emod, ih, ← Int.mul_emod, Int.mul_emod _ (a % (q : Int)), Int.emod_emod_of_dvd a (Int.dvd_refl _), ← Int.mul_emod]
  rw [e q, hf, Int.natCast_emod, ← hn, Int.emod_emod_of_dvd _ (Int.dvd_refl _)]
theorem red_pr {a p : Int} (h : Pr p) : red a p = a % p ∧ 0 ≤ a % p ∧ a % p < p := by
  have h2 := h.1
  exact ⟨red_pos (by omega), Int.emod_nonneg _ (by omega), Int.emod_lt_of_pos _ (by omega)⟩
theorem add_rests (a b p : Int) : (a % p + b % p) % p = (a + b) % p := (Int.add_emod a b p).symm
theorem mul_rests (a b p : Int) : a % p * (b % p) % p = a * b % p := (Int.mul_emod a b p).symm
theorem sub_rests (a b p : Int) : (a % p - b % p) % p = (a - b) % p := (Int.sub_emod a b p).symm
theorem mul_bd {x y p : Int} (h0 : 0 ≤ x ∧ x < p) (h1 : 0 ≤ y ∧ y < p) (hp : p ≤ 65521) : 0 ≤ x * y ∧ x * y ≤ 4292870400 := by
  refine ⟨Int.mul_nonneg h0.1 h1.1, ?_⟩
  have h2 : x * y ≤ 65520 * y := Int.mul_le_mul_of_nonneg_right (by omega) h1.1
  omega

end Go.Proofs.YtbipbpakbanacaaDoor

/- Words for memory, of ints: a slice that is only read; a block of the call's own that is known whole; a row that grows by append. -/
namespace Go.Proofs.YtbipbpakbanacaaDoor
open Go.RowKit

/-- An int as a value. -/
abbrev iv (x : Int) : Value := .int .i64 x
/-- All are ints. -/
def Fi (xs : List Int) : Prop := ∀ x ∈ xs, In64 x
theorem fi_nil : Fi [] := fun _ h => by cases h
theorem fi_take {xs : List Int} (h : Fi xs) (k : Nat) : Fi (xs.take k) := fun y hy => h y (List.mem_of_mem_take hy)
theorem fi_drop {xs : List Int} (h : Fi xs) (k : Nat) : Fi (xs.drop k) := fun y hy => h y (List.mem_of_mem_drop hy)
theorem fi_append {xs ys : List Int} (h : Fi xs) (k : Fi ys) : Fi (xs ++ ys) := fun y hy => by
  rcases List.mem_append.1 hy with hy | hy
  · exact h _ hy
  · exact k _ hy
theorem fi_one {x : Int} (h : In64 x) : Fi [x] := fun y hy => by simp at hy; subst hy; exact h
theorem fi_getD {xs : List Int} (h : Fi xs) (j : Nat) : In64 (xs.getD j 0) := by
  rw [List.getD_eq_getElem?_getD]
  by_cases hj : j < xs.length
  · rw [List.getElem?_eq_getElem hj]; exact h _ (List.getElem_mem hj)
  · rw [List.getElem?_eq_none (by omega)]; unfold In64; decide

/-- The slice address A leads to the limbs xs. -/
def IRd (w : World) (A : Option Addr) (xs : List Int) : Prop :=
  Fi xs ∧ (xs = [] ∨ ∃ b o, A = some ⟨b, o, none⟩ ∧ b < w.heap.size ∧ ∀ j (h : j < xs.length), w.cell? ⟨b, o + j, none⟩ = some (iv xs[j]))

theorem IRd.fit {w : World} {A : Option Addr} {xs : List Int} (h : IRd w A xs) : Fi xs := h.1
theorem IRd.nil (w : World) (A : Option Addr) : IRd w A [] := ⟨fi_nil, .inl rfl⟩
theorem IRd.below {w w' : World} {A : Option Addr} {xs : List Int} (h : IRd w A xs) (hb : Below w.heap.size w w') : IRd w' A xs := by
  refine ⟨h.1, h.2.imp id ?_⟩
  rintro ⟨b, o, rfl, hlt, hc⟩
  exact ⟨b, o, rfl, Nat.lt_of_lt_of_le hlt hb.size, fun j hj => (hb.cell (p := ⟨b, o + j, none⟩) hlt).trans (hc j hj)⟩
theorem IRd.take {w : World} {A : Option Addr} {xs : List Int} (h : IRd w A xs) (k : Nat) : IRd w A (xs.take k) := by
  refine ⟨fi_take h.1 k, ?_⟩
  rcases h.2 with rfl | ⟨b, o, rfl, hlt, hc⟩
  · left; simp
  · right
    refine ⟨b, o, rfl, hlt, fun j hj => ?_⟩
    have hj' : j < xs.length := by rw [List.length_take] at hj; omega
    rw [List.getElem_take]
    exact hc j hj'
/-- Memory below block B alone is asked for. -/
theorem IRd.grown {w w' : World} {g : Nat} {A : Option Addr} {xs : List Int} (h : IRd w A xs) (hg : w.grownBy w' (some g)) (hne : ∀ b o s, A = some ⟨b, o, s⟩ → b ≠ g) : IRd w' A xs := by
  refine ⟨h.1, h.2.imp id ?_⟩
  rintro ⟨b, o, rfl, hlt, hc⟩
  refine ⟨b, o, rfl, Nat.lt_of_lt_of_le hlt hg.size, fun j hj => ?_⟩
  exact (World.cell?_of_block (w := w) (hg.block b hlt (fun e => hne b o none rfl (by injection e)))).trans (hc j hj)

/-- Block g holds just the limbs L. -/
def IBlk (w : World) (g : Nat) (L : List Int) : Prop := w.heap[g]? = some (.cells (L.map iv).toArray 3 (0, 0)) ∧ Fi L

theorem IBlk.lt {w : World} {g : Nat} {L : List Int} (h : IBlk w g L) : g < w.heap.size := by
  rcases Nat.lt_or_ge g w.heap.size with hlt | hge
  · exact hlt
  · have := h.1; rw [Array.getElem?_eq_none hge] at this; cases this
theorem IBlk.fit {w : World} {g : Nat} {L : List Int} (h : IBlk w g L) : Fi L := h.2
theorem IBlk.cell {w : World} {g : Nat} {L : List Int} (h : IBlk w g L) (i : Nat) (hi : i < L.length) : w.cell? ⟨g, i, none⟩ = some (iv L[i]) := by
  rw [cell_of_row w g i _ _ (0, 0) h.1]
  simp [hi]
theorem IBlk.frozen {w : World} {g : Nat} {L : List Int} (h : IBlk w g L) (i : Nat) : w.frozen? ⟨g, i, none⟩ = false := by
  have := h.1
  simp [World.frozen?, this]
theorem IBlk.below {w w' : World} {g : Nat} {L : List Int} (h : IBlk w g L) (hb : Below w.heap.size w w') : IBlk w' g L := ⟨(hb.block g h.lt).trans h.1, h.2⟩
theorem IBlk.grown {w w' : World} {g g' : Nat} {L : List Int} (h : IBlk w g L) (hb : w.grownBy w' (some g')) (hne : g ≠ g') : IBlk w' g L :=
  ⟨(hb.block g h.lt (fun e => hne (by injection e))).trans h.1, h.2⟩
theorem IBlk.set_ {w : World} {g : Nat} {L : List Int} (h : IBlk w g L) (i : Nat) (u : Int) (hu : In64 u) : IBlk (w.setCell ⟨g, i, none⟩ (iv u)) g (L.set i u) := by
  refine ⟨?_, ?_⟩
  · have := h.1
    simp [World.setCell, Array.getElem?_modify, this]
  · intro x hx
    rcases List.mem_or_eq_of_mem_set hx with hx | rfl
    · exact h.2 x hx
    · exact hu
theorem IBlk.far {w : World} {g : Nat} {L : List Int} (h : IBlk w g L) {p : Addr} (hp : g ≠ p.block) (u : Value) : IBlk (w.setCell p u) g L :=
  ⟨(Below.heap_setCell w p u g hp).trans h.1, h.2⟩
theorem IBlk.alloc {w : World} {g : Nat} {L : List Int} (h : IBlk w g L) (o : Obj) : IBlk (w.alloc o) g L := ⟨(Below.heap_alloc w o g h.lt).trans h.1, h.2⟩
theorem IBlk.drew {w : World} {g : Nat} {L : List Int} (h : IBlk w g L) : IBlk w.drew g L := h
theorem IBlk.drewN {w : World} {g : Nat} {L : List Int} (h : IBlk w g L) (n : Nat) : IBlk (w.drewN n) g L := h
/-- A block read through a slice that begins at o. -/
theorem IBlk.rd {w : World} {g : Nat} {L : List Int} (h : IBlk w g L) (o n : Nat) : IRd w (some ⟨g, o, none⟩) ((L.drop o).take n) := by
  refine ⟨fi_take (fi_drop h.2 o) n, .inr ⟨g, o, rfl, h.lt, fun j hj => ?_⟩⟩
  have hj' : o + j < L.length := by simp only [List.length_take, List.length_drop] at hj; omega
  rw [h.cell (o + j) hj']
  simp
theorem IBlk.rd0 {w : World} {g : Nat} {L : List Int} (h : IBlk w g L) : IRd w (some ⟨g, 0, none⟩) L := by
  have := h.rd 0 L.length
  simpa using this

theorem ibelow_drewN {B : Nat} {a w : World} (h : Below B a w) (n : Nat) : Below B a (w.drewN n) := ⟨h.os, h.tape, h.output, h.size, h.block⟩

/-- What is asked of a slice of limbs. -/
def ISl (w : World) (A : Option Addr) (n c : Nat) (xs : List Int) : Prop := n = xs.length ∧ n ≤ c ∧ c ≤ 9223372036854775807 ∧ (A = none → c = 0) ∧ IRd w A xs

theorem ISl.len {w : World} {A : Option Addr} {n c : Nat} {xs : List Int} (h : ISl w A n c xs) : n = xs.length := h.1
theorem ISl.le {w : World} {A : Option Addr} {n c : Nat} {xs : List Int} (h : ISl w A n c xs) : n ≤ c := h.2.1
theorem ISl.max {w : World} {A : Option Addr} {n c : Nat} {xs : List Int} (h : ISl w A n c xs) : c ≤ 9223372036854775807 := h.2.2.1
theorem ISl.rd {w : World} {A : Option Addr} {n c : Nat} {xs : List Int} (h : ISl w A n c xs) : IRd w A xs := h.2.2.2.2
theorem ISl.fit {w : World} {A : Option Addr} {n c : Nat} {xs : List Int} (h : ISl w A n c xs) : Fi xs := h.2.2.2.2.1

theorem ISl.below {w w' : World} {A : Option Addr} {n c : Nat} {xs : List Int} (h : ISl w A n c xs) (hb : Below w.heap.size w w') : ISl w' A n c xs := ⟨h.1, h.2.1, h.2.2.1, h.2.2.2.1, h.2.2.2.2.below hb⟩
theorem ISl.at_ {w : World} {A : Option Addr} {n c : Nat} {xs : List Int} (h : ISl w A n c xs) (hn : 0 < n) : ∃ b o, A = some ⟨b, o, none⟩ ∧ b < w.heap.size ∧ ∀ j, j < n → w.cell? ⟨b, o + j, none⟩ = some (iv (xs.getD j 0)) := by
  rcases h.rd.2 with e | ⟨b, o, rfl, hlt, hc⟩
  · rw [h.len, e] at hn; exact absurd hn (by simp)
  · refine ⟨b, o, rfl, hlt, fun j hj => ?_⟩
    have hj' : j < xs.length := by rw [← h.len]; exact hj
    rw [hc j hj', List.getD_eq_getElem?_getD, List.getElem?_eq_getElem hj']
    rfl

theorem IBlk.sl {w : World} {g : Nat} {L : List Int} (h : IBlk w g L) (hm : L.length ≤ 9223372036854775807) : ISl w (some ⟨g, 0, none⟩) L.length L.length L :=
  ⟨rfl, Nat.le_refl _, hm, (fun e => by cases e), h.rd0⟩
theorem IBlk.cellD {w : World} {g : Nat} {L : List Int} (h : IBlk w g L) (i : Nat) (hi : i < L.length) : w.cell? ⟨g, i, none⟩ = some (iv (L.getD i 0)) := by
  rw [h.cell i hi, List.getD_eq_getElem?_getD, List.getElem?_eq_getElem hi]
  rfl
theorem infoI : (Tryd.prog.info? 3).map (fun i => (i.zero, i.size, i.bytes)) = some (some (.int .i64 0), 1, 8) := by kernel_rfl

theorem wpList_make_ints {ops : Array Oper} {rest : List Oper} {o : Oper} {a : Act} {Q : Exit → Act → World → Prop} (w : World)
    (hg : o.guard = none) (l c : Operand) (hop : o.op = Op.makeSlice 22 l c) (kl kc : IntKind) (L C : Int) (n : Nat) (hl : a.eval l = .int kl L) (hc : a.eval c = .int kc C) (hL : L = (n : Int)) (hC : C = (n : Int)) (hn : n ≤ 35184372088832)
    (hK : ∀ w', IBlk w' w.heap.size (List.replicate n 0) → Below w.heap.size w w' → wpList Tryd.prog ops Q rest (a.put o.dst (.slice (some ⟨w.heap.size, 0, none⟩) n n)) w') :
    wpList Tryd.prog ops Q (o :: rest) a w := by
  obtain ⟨i0, hi, hz0, hz1, hz2⟩ := info_parts infoI
  refine wpList_make_full w hg l c 22 hop w.heap.size 3 i0 _ 1 Tryd.underlying22 hi hz0 hz1 kl kc L C n hl hc hL hC (by rw [hz2]; omega) (by unfold maxLen; omega) (Nat.le_refl _) ?_
  intro w' ho hgr
  have hbel : Below w.heap.size w w' := (Below.refl _ _).grown hgr (Nat.le_refl _) (fun k e => by cases e)
  refine hK w' ⟨?_, ?_⟩ hbel
  · obtain ⟨h1, ⟨h2, _⟩ | ⟨g, cap, cur, hv, hb, hh, hn1, hn2, hs, ht⟩⟩ := ho
    · cases h2
    · simp only [Value.slice.injEq, Option.some.injEq, Addr.mk.injEq, and_true, true_and] at hv
      obtain ⟨rfl, rfl⟩ := hv
      have e1 : cur.toList = (List.replicate n 0).map iv := by
        rw [List.take_of_length_le (by simp [hs])] at ht
        rw [ht, show (Value.int IntKind.i64 0).cells = #[Value.int IntKind.i64 0] from rfl, toList_madeCells_one]
        simp
      rw [hh]
      congr 2
      rw [← e1]
  · intro x hx
    rw [List.eq_of_mem_replicate hx]
    unfold In64; decide

/-- The slice value v owns the limbs xs, in blocks from B on. -/
def IOw (w : World) (B : Nat) (v : Value) (xs : List Int) : Prop := w.ownsRow B 3 1 v xs.length (xs.map iv) ∧ Fi xs

theorem IOw.nil (w : World) (B : Nat) : IOw w B (.slice none 0 0) [] := ⟨World.ownsRow_nil _ _ _ _, fi_nil⟩
theorem IOw.fit {w : World} {B : Nat} {v : Value} {xs : List Int} (h : IOw w B v xs) : Fi xs := h.2
theorem IOw.alloc {w : World} {B : Nat} {v : Value} {xs : List Int} (h : IOw w B v xs) (o : Obj) : IOw (w.alloc o) B v xs := ⟨h.1.alloc o, h.2⟩
theorem IOw.drew {w : World} {B : Nat} {v : Value} {xs : List Int} (h : IOw w B v xs) : IOw w.drew B v xs := h
theorem IOw.sl {w : World} {B : Nat} {v : Value} {xs : List Int} (h : IOw w B v xs) : ∃ A c, v = .slice A xs.length c ∧ ISl w A xs.length c xs ∧ (∀ b o s, A = some ⟨b, o, s⟩ → B ≤ b) := by
  obtain ⟨⟨hl, h2⟩, hf⟩ := h
  rcases h2 with ⟨rfl, h0⟩ | ⟨g, cap, cur, rfl, hb, hh, hn, hc, hs, ht⟩
  · refine ⟨none, 0, by rw [h0], ⟨rfl, by omega, by decide, fun _ => rfl, hf, .inl (List.eq_nil_of_length_eq_zero h0)⟩, fun b o s e => by cases e⟩
  · refine ⟨some ⟨g, 0, none⟩, cap, rfl, ⟨rfl, hn, by unfold maxLen at hc; omega, (fun e => by cases e), hf, .inr ⟨g, 0, rfl, (Array.getElem?_eq_some_iff.1 hh).1, fun j hj => ?_⟩⟩, fun b o s e => ?_⟩
    · rw [cell_of_row w g (0 + j) cur _ (0, 0) hh, Nat.zero_add]
      have h1 : (cur.toList.take (xs.length * 1))[j]? = (xs.map iv)[j]? := by rw [ht]
      rw [List.getElem?_take_of_lt (by omega), List.getElem?_map, List.getElem?_eq_getElem hj] at h1
      simpa using h1
    · simp only [Option.some.injEq, Addr.mk.injEq] at e
      omega
theorem IOw.lt {w : World} {B : Nat} {v : Value} {xs : List Int} (h : IOw w B v xs) : ∀ k, v.ownBlock = some k → B ≤ k := fun k hk => (h.1.lt k hk).1

theorem iadd_add (a : Addr) (k : Nat) (b o : Nat) (h : a = ⟨b, o, none⟩) : a.add k = ⟨b, o + k, none⟩ := by
  subst h
  unfold Addr.add
  by_cases hk : k = 0 <;> simp [hk]

theorem irun_app (w : World) (ty : TypeId) (B : Nat) (v : Value) (xs : List Int) (hown : IOw w B v xs) (A : Option Addr) (m c : Nat) (news : List Int) (hR : ISl w A m c news) (hmax : xs.length + m ≤ 17592186044416) (hB : B ≤ w.heap.size) :
    ∃ v' w', (Builtin.append_ #[22, 22] ty #[v, .slice A m c]).run Tryd.prog w = .ok v' w' ∧ IOw w' B v' (xs ++ news) ∧ Below B w w' := by
  obtain ⟨i0, hi, hz0, hz1, hz2⟩ := info_parts infoI
  have hl : (xs ++ news).length = xs.length + m := by rw [List.length_append, hR.len]
  have hfit : Fi (xs ++ news) := fi_append hown.2 hR.fit
  rcases A with _ | ad
  · have h0 : c = 0 := hR.2.2.2.1 rfl
    have hm : m = 0 := by have := hR.le; omega
    subst h0; subst hm
    have hn : news = [] := List.eq_nil_of_length_eq_zero hR.len.symm
    subst hn
    refine ⟨v, w, run_append_owned_none (P := Tryd.prog) (w := w) B 22 ty 3 i0 1 Tryd.underlying22 hi v xs.length (xs.map iv) hown.1, ?_, Below.refl _ _⟩
    simpa using hown
  · have hcells : ∀ j u, (news.map iv)[j]? = some u → w.cell? (ad.add j) = some u := by
      intro j u hj
      rw [List.getElem?_map] at hj
      obtain ⟨x, hx, rfl⟩ := Option.map_eq_some_iff.1 hj
      obtain ⟨hj', rfl⟩ := List.getElem?_eq_some_iff.1 hx
      rcases hR.rd.2 with e | ⟨b, o, e, hlt, hc⟩
      · rw [e] at hj'; exact absurd hj' (by simp)
      · simp only [Option.some.injEq] at e
        rw [iadd_add ad j b o e]
        exact hc j hj'
    obtain ⟨v', w', hrun, h2, h3, _⟩ := run_append_own (P := Tryd.prog) w B 22 ty 3 i0 _ 1 8 Tryd.underlying22 hi hz0 hz1 hz2 rfl (by decide) v xs.length (xs.map iv) hown.1 ad m c (news.map iv)
      (by rw [List.length_map, hR.len]; omega) hcells (by intro u hu; obtain ⟨x, _, rfl⟩ := List.mem_map.1 hu; rfl) (by unfold maxLen; omega) (by omega) hB
    refine ⟨v', w', hrun, ⟨?_, hfit⟩, (Below.refl B w).grown h3 hB (hown.lt)⟩
    rw [hl, List.map_append]
    exact h2

theorem iwp_app {o : Oper} {a : Act} {K : Act → World → Prop} {Q : Exit → Act → World → Prop} (w : World) (s x : Operand) (ho : o.op = .call { callee := .builtin .append, args := #[s, x], argTypes := #[22, 22] })
    (B : Nat) (v : Value) (xs : List Int) (hs : a.eval s = v) (hown : IOw w B v xs) (A : Option Addr) (m c : Nat) (hx : a.eval x = .slice A m c) (news : List Int) (hR : ISl w A m c news) (hmax : xs.length + m ≤ 17592186044416) (hB : B ≤ w.heap.size)
    (h : ∀ v' w', IOw w' B v' (xs ++ news) → Below B w w' → K (a.put o.dst v') w') : o.wp Tryd.prog a w K Q := by
  obtain ⟨v', w', hrun, h2, h3⟩ := irun_app w o.type B v xs hown A m c news hR hmax hB
  unfold Oper.wp execOp
  simp only [ho, resolve, invoke, builtin, Sem.run_bind, Sem.run_pure, Result.andThen_ok, List.map_toArray, List.map_cons, List.map_nil, hs, hx, hrun]
  exact h v' w' h2 h3

theorem iwpList_app {ops : Array Oper} {rest : List Oper} {o : Oper} {a : Act} {Q : Exit → Act → World → Prop} (w : World) (hgd : o.guard = none) (s x : Operand) (ho : o.op = .call { callee := .builtin .append, args := #[s, x], argTypes := #[22, 22] })
    (B : Nat) (v : Value) (xs : List Int) (hs : a.eval s = v) (hown : IOw w B v xs) (A : Option Addr) (m c : Nat) (hx : a.eval x = .slice A m c) (news : List Int) (hR : ISl w A m c news) (hmax : xs.length + m ≤ 17592186044416) (hB : B ≤ w.heap.size)
    (h : ∀ v' w', IOw w' B v' (xs ++ news) → Below B w w' → wpList Tryd.prog ops Q rest (a.put o.dst v') w') : wpList Tryd.prog ops Q (o :: rest) a w :=
  wpList_plain hgd fun _ hK => iwp_app w s x ho B v xs hs hown A m c hx news hR hmax hB fun v' w' h2 h3 => hK _ _ (h v' w' h2 h3)

theorem istep_app {ops : Array Oper} {o : Oper} {a : Act} {K : Act → World → Prop} {Q : Exit → Act → World → Prop} {E : Prop} (w : World) (hgd : o.guard = none) (s x : Operand) (ho : o.op = .call { callee := .builtin .append, args := #[s, x], argTypes := #[22, 22] })
    (B : Nat) (v : Value) (xs : List Int) (hs : a.eval s = v) (hown : IOw w B v xs) (A : Option Addr) (m c : Nat) (hx : a.eval x = .slice A m c) (news : List Int) (hR : ISl w A m c news) (hmax : xs.length + m ≤ 17592186044416) (hB : B ≤ w.heap.size)
    (h : ∀ v' w', IOw w' B v' (xs ++ news) → Below B w w' → K (a.put o.dst v') w') : if Region.wanted o (yielded ops a.tmps) = true then Oper.wp Tryd.prog o a w K Q else E := by
  have hw : Region.wanted o (yielded ops a.tmps) = true := by simp [Region.wanted, hgd]
  rw [if_pos hw]
  exact iwp_app w s x ho B v xs hs hown A m c hx news hR hmax hB h

theorem iblk_list (w : World) (xs : List Int) (hf : Fi xs) : IBlk (w.alloc (.cells (xs.map iv).toArray 3)) w.heap.size xs := ⟨heap_alloc_new w _, hf⟩
end Go.Proofs.YtbipbpakbanacaaDoor

/- Power series over the integers: a commutative ring; what holds of them by a prime. Mathematics alone. -/
namespace Go.Proofs.YtbipbpakbanacaaDoor

/-- A row of coefficients without an end. -/
def Ser : Type := Nat → Int
namespace Ser
def tl (f : Ser) : Ser := fun i => f (i + 1)
def zer : Ser := fun _ => 0
def con (c : Int) : Ser := fun i => if i = 0 then c else 0
def add (f g : Ser) : Ser := fun i => f i + g i
def neg (f : Ser) : Ser := fun i => - f i
def sub (f g : Ser) : Ser := fun i => f i - g i
def sc (c : Int) (f : Ser) : Ser := fun i => c * f i
/-- X to the power k, times c. -/
def mono (c : Int) (k : Nat) : Ser := fun i => if i = k then c else 0
def mul (f g : Ser) : Ser
  | 0 => f 0 * g 0
  | n + 1 => f 0 * g (n + 1) + mul (tl f) g n

theorem mul_zero_at (f g : Ser) : mul f g 0 = f 0 * g 0 := by unfold mul; rfl
theorem mul_succ (f g : Ser) (n : Nat) : mul f g (n + 1) = f 0 * g (n + 1) + mul (tl f) g n := by conv => lhs; unfold mul
theorem mul_succ' (f g : Ser) (n : Nat) : mul f g (n + 1) = f (n + 1) * g 0 + mul f (tl g) n := by
  induction n generalizing f with
  | zero =>
    rw [mul_succ, mul_zero_at, mul_zero_at]
    show f 0 * g 1 + f 1 * g 0 = f 1 * g 0 + f 0 * g 1
    omega
  | succ n ih =>
    rw [mul_succ, ih (tl f), mul_succ f (tl g) n]
    show f 0 * g (n + 1 + 1) + (f (n + 1 + 1) * g 0 + mul (tl f) (tl g) n) = f (n + 1 + 1) * g 0 + (f 0 * g (n + 1 + 1) + mul (tl f) (tl g) n)
    omega
theorem mul_comm_at (f g : Ser) (n : Nat) : mul f g n = mul g f n := by
  induction n generalizing f g with
  | zero => rw [mul_zero_at, mul_zero_at, Int.mul_comm]
  | succ n ih =>
    rw [mul_succ, mul_succ' g f, ih (tl f) g, Int.mul_comm]
theorem add_mul_at (f g h : Ser) (n : Nat) : mul (add f g) h n = mul f h n + mul g h n := by
  induction n generalizing f g with
  | zero => simp only [mul_zero_at]; exact Int.add_mul _ _ _
  | succ n ih =>
    simp only [mul_succ]
    have e : tl (add f g) = add (tl f) (tl g) := rfl
    rw [e, ih]
    show (f 0 + g 0) * h (n + 1) + _ = _
    rw [Int.add_mul]
    omega
theorem sc_mul_at (c : Int) (f h : Ser) (n : Nat) : mul (sc c f) h n = c * mul f h n := by
  induction n generalizing f with
  | zero => simp only [mul_zero_at]; exact Int.mul_assoc _ _ _
  | succ n ih =>
    simp only [mul_succ]
    have e : tl (sc c f) = sc c (tl f) := rfl
    rw [e, ih, Int.mul_add]
    show c * f 0 * h (n + 1) + _ = _
    rw [Int.mul_assoc]
theorem mul_assoc_at (f g h : Ser) (n : Nat) : mul (mul f g) h n = mul f (mul g h) n := by
  induction n generalizing f with
  | zero => simp only [mul_zero_at]; exact Int.mul_assoc _ _ _
  | succ n ih =>
    have e : tl (mul f g) = add (sc (f 0) (tl g)) (mul (tl f) g) := by
      funext i
      show mul f g (i + 1) = _
      rw [mul_succ]; rfl
    rw [mul_succ, e, add_mul_at, sc_mul_at, ih, mul_succ f, mul_zero_at, mul_succ g h, Int.mul_add, Int.mul_assoc]
    omega
theorem con_mul_at (c : Int) (f : Ser) (n : Nat) : mul (con c) f n = c * f n := by
  cases n with
  | zero => rw [mul_zero_at]; rfl
  | succ n =>
    rw [mul_succ]
    have e : tl (con c) = zer := by funext i; rfl
    have ez : ∀ n, mul zer f n = 0 := by
      intro n
      induction n with
      | zero => rw [mul_zero_at]; exact Int.zero_mul _
      | succ n ih =>
        rw [mul_succ]
        have e : tl zer = zer := rfl
        rw [e, ih]
        show 0 * _ + 0 = (0 : Int)
        simp
    rw [e, ez]
    show c * f (n + 1) + 0 = _
    omega
theorem mono_mul_at (c : Int) (k : Nat) (f : Ser) (n : Nat) : mul (mono c k) f n = if k ≤ n then c * f (n - k) else 0 := by
  induction k generalizing n with
  | zero =>
    have e : mono c 0 = con c := rfl
    rw [e, con_mul_at, if_pos (Nat.zero_le _), Nat.sub_zero]
  | succ k ih =>
    cases n with
    | zero =>
      rw [mul_zero_at, if_neg (by omega)]
      show (if 0 = k + 1 then c else 0) * _ = 0
      rw [if_neg (by omega), Int.zero_mul]
    | succ n =>
      rw [mul_succ]
      have e : tl (mono c (k + 1)) = mono c k := by
        funext i
        show (if i + 1 = k + 1 then c else 0) = if i = k then c else 0
        simp
      rw [e, ih]
      show (if 0 = k + 1 then c else 0) * _ + _ = _
      rw [if_neg (by omega), Int.zero_mul, Int.zero_add]
      by_cases h : k ≤ n
      · rw [if_pos h, if_pos (by omega)]
        congr 2
        omega
      · rw [if_neg h, if_neg (by omega)]

theorem mul_comm (f g : Ser) : mul f g = mul g f := funext (mul_comm_at f g)
theorem mul_assoc (f g h : Ser) : mul (mul f g) h = mul f (mul g h) := funext (mul_assoc_at f g h)
theorem add_mul (f g h : Ser) : mul (add f g) h = add (mul f h) (mul g h) := funext (add_mul_at f g h)
theorem mul_add (f g h : Ser) : mul f (add g h) = add (mul f g) (mul f h) := by rw [mul_comm, add_mul, mul_comm g, mul_comm h]
theorem sc_mul (c : Int) (f h : Ser) : mul (sc c f) h = sc c (mul f h) := funext (sc_mul_at c f h)
theorem con_mul (c : Int) (f : Ser) : mul (con c) f = sc c f := funext (con_mul_at c f)
theorem one_mul (f : Ser) : mul (con 1) f = f := by rw [con_mul]; funext i; exact Int.one_mul _
theorem zer_mul (f : Ser) : mul zer f = zer := by
  have e : zer = con 0 := by funext i; show (0 : Int) = if i = 0 then 0 else 0; simp
  rw [e, con_mul]
  funext i
  show 0 * f i = if i = 0 then 0 else 0
  simp
theorem add_comm (f g : Ser) : add f g = add g f := funext fun _ => Int.add_comm _ _
theorem add_assoc (f g h : Ser) : add (add f g) h = add f (add g h) := funext fun _ => Int.add_assoc _ _ _

/-- The same by p. -/
def Eq (p : Int) (f g : Ser) : Prop := ∀ i, f i % p = g i % p
theorem Eq.refl (p : Int) (f : Ser) : Eq p f f := fun _ => rfl
theorem Eq.symm {p : Int} {f g : Ser} (h : Eq p f g) : Eq p g f := fun i => (h i).symm
theorem Eq.trans {p : Int} {f g h : Ser} (a : Eq p f g) (b : Eq p g h) : Eq p f h := fun i => (a i).trans (b i)
theorem Eq.of {p : Int} {f g : Ser} (h : f = g) : Eq p f g := h ▸ Eq.refl p f
theorem Eq.add {p : Int} {f g f' g' : Ser} (a : Eq p f f') (b : Eq p g g') : Eq p (Ser.add f g) (Ser.add f' g') := fun i => by
  show (f i + g i) % p = (f' i + g' i) % p
  rw [Int.add_emod, a i, b i, ← Int.add_emod]
theorem Eq.sub {p : Int} {f g f' g' : Ser} (a : Eq p f f') (b : Eq p g g') : Eq p (Ser.sub f g) (Ser.sub f' g') := fun i => by
  show (f i - g i) % p = (f' i - g' i) % p
  rw [Int.sub_emod, a i, b i, ← Int.sub_emod]
theorem Eq.sc {p c d : Int} {f f' : Ser} (h : c % p = d % p) (a : Eq p f f') : Eq p (Ser.sc c f) (Ser.sc d f') := fun i => by
  show c * f i % p = d * f' i % p
  rw [Int.mul_emod, h, a i, ← Int.mul_emod]
theorem Eq.tl {p : Int} {f f' : Ser} (a : Eq p f f') : Eq p (Ser.tl f) (Ser.tl f') := fun i => a (i + 1)
theorem Eq.mulL {p : Int} {f f' : Ser} (g : Ser) (a : Eq p f f') : Eq p (mul f g) (mul f' g) := by
  intro n
  induction n generalizing f f' with
  | zero => rw [mul_zero_at, mul_zero_at, Int.mul_emod, a 0, ← Int.mul_emod]
  | succ n ih =>
    rw [mul_succ, mul_succ, Int.add_emod, ih a.tl, Int.mul_emod, a 0, ← Int.mul_emod, ← Int.add_emod]
theorem Eq.mul {p : Int} {f g f' g' : Ser} (a : Eq p f f') (b : Eq p g g') : Eq p (Ser.mul f g) (Ser.mul f' g') := by
  refine (a.mulL g).trans ?_
  rw [mul_comm f' g, mul_comm f' g']
  exact b.mulL f'

/-- From N on nothing but noughts, by p. -/
def Bd (p : Int) (f : Ser) (N : Nat) : Prop := ∀ i, N ≤ i → f i % p = 0
theorem Bd.eq {p : Int} {f g : Ser} {N : Nat} (h : Bd p f N) (e : Eq p f g) : Bd p g N := fun i hi => (e i).symm.trans (h i hi)
theorem Bd.mono {p : Int} {f : Ser} {N M : Nat} (h : Bd p f N) (hm : N ≤ M) : Bd p f M := fun i hi => h i (Nat.le_trans hm hi)
theorem Bd.add {p : Int} {f g : Ser} {N : Nat} (a : Bd p f N) (b : Bd p g N) : Bd p (Ser.add f g) N := fun i hi => by
  show (f i + g i) % p = 0
  rw [Int.add_emod, a i hi, b i hi]; simp
theorem Bd.sub {p : Int} {f g : Ser} {N : Nat} (a : Bd p f N) (b : Bd p g N) : Bd p (Ser.sub f g) N := fun i hi => by
  show (f i - g i) % p = 0
  rw [Int.sub_emod, a i hi, b i hi]; simp
theorem mul_nought {p : Int} {f : Ser} (g : Ser) (a : Bd p f 0) (n : Nat) : mul f g n % p = 0 := by
  have e : Eq p f zer := fun i => by rw [a i (Nat.zero_le _)]; simp [zer]
  rw [(e.mulL g) n, zer_mul]
  simp [zer]
/-- A product's end. -/
theorem mul_top {p : Int} {f g : Ser} {m n : Nat} (a : Bd p f (m + 1)) (b : Bd p g (n + 1)) :
    mul f g (m + n) % p = f m * g n % p ∧ Bd p (mul f g) (m + n + 1) := by
  induction m generalizing f with
  | zero =>
    have ht : Bd p (tl f) 0 := fun i _ => a (i + 1) (by omega)
    have key : ∀ k, mul f g k % p = f 0 * g k % p := by
      intro k
      cases k with
      | zero => rw [mul_zero_at]
      | succ k => rw [mul_succ, Int.add_emod, mul_nought g ht k]; simp
    refine ⟨by rw [key, Nat.zero_add], fun i hi => ?_⟩
    rw [key, Int.mul_emod, b i (by omega)]; simp
  | succ m ih =>
    have ht : Bd p (tl f) (m + 1) := fun i hi => a (i + 1) (by omega)
    obtain ⟨h1, h2⟩ := ih ht
    refine ⟨?_, fun i hi => ?_⟩
    · rw [show m + 1 + n = (m + n) + 1 from by omega, mul_succ, Int.add_emod, h1, Int.mul_emod (f 0), b (m + n + 1) (by omega)]
      simp [tl]
    · obtain ⟨j, rfl⟩ : ∃ j, i = j + 1 := ⟨i - 1, by omega⟩
      rw [mul_succ, Int.add_emod, h2 j (by omega), Int.mul_emod (f 0), b (j + 1) (by omega)]
      simp

/-- Powers. -/
def pw (f : Ser) : Nat → Ser
  | 0 => con 1
  | n + 1 => mul (pw f n) f
theorem pw_zero (f : Ser) : pw f 0 = con 1 := rfl
theorem pw_succ (f : Ser) (n : Nat) : pw f (n + 1) = mul (pw f n) f := rfl
theorem pw_add (f : Ser) (m n : Nat) : pw f (m + n) = mul (pw f m) (pw f n) := by
  induction n with
  | zero => rw [Nat.add_zero, pw_zero, mul_comm, one_mul]
  | succ n ih => rw [← Nat.add_assoc, pw_succ, ih, pw_succ, mul_assoc]
theorem pw_mul (f : Ser) (m n : Nat) : pw f (m * n) = pw (pw f m) n := by
  induction n with
  | zero => rfl
  | succ n ih => rw [Nat.mul_succ, pw_add, ih, pw_succ]
theorem Eq.pw {p : Int} {f g : Ser} (h : Eq p f g) (n : Nat) : Eq p (Ser.pw f n) (Ser.pw g n) := by
  induction n with
  | zero => exact Eq.refl _ _
  | succ n ih => exact ih.mul h

/-- Sums of rows. -/
def sumS (F : Nat → Ser) : Nat → Ser
  | 0 => zer
  | n + 1 => add (sumS F n) (F n)
theorem add_zer (f : Ser) : add f zer = f := funext fun _ => Int.add_zero _
theorem zer_add (f : Ser) : add zer f = f := funext fun _ => Int.zero_add _
theorem sumS_add (F G : Nat → Ser) (n : Nat) : sumS (fun k => add (F k) (G k)) n = add (sumS F n) (sumS G n) := by
  induction n with
  | zero => rw [sumS, sumS, sumS, add_zer]
  | succ n ih =>
    rw [sumS, ih, sumS, sumS]
    funext i
    show sumS F n i + sumS G n i + (F n i + G n i) = sumS F n i + F n i + (sumS G n i + G n i)
    omega
theorem mul_sumS (F : Nat → Ser) (f : Ser) (n : Nat) : mul (sumS F n) f = sumS (fun k => mul (F k) f) n := by
  induction n with
  | zero => exact zer_mul f
  | succ n ih => rw [sumS, add_mul, ih, sumS]
theorem sumS_shift (F : Nat → Ser) (n : Nat) : sumS F (n + 1) = add (F 0) (sumS (fun k => F (k + 1)) n) := by
  induction n with
  | zero => rw [sumS, sumS, sumS, zer_add, add_zer]
  | succ n ih => rw [sumS, ih, sumS, add_assoc]
theorem sumS_congr (F G : Nat → Ser) (n : Nat) (h : ∀ k, k < n → F k = G k) : sumS F n = sumS G n := by
  induction n with
  | zero => rfl
  | succ n ih => rw [sumS, sumS, ih (fun k hk => h k (by omega)), h n (by omega)]
theorem sumS_nought {p : Int} (F : Nat → Ser) (n : Nat) (h : ∀ k, k < n → Bd p (F k) 0) : Bd p (sumS F n) 0 := by
  induction n with
  | zero => intro i _; simp [sumS, zer]
  | succ n ih => exact (ih fun k hk => h k (by omega)).add (h n (by omega))
/-- The binomial theorem. -/
theorem binomS (f g : Ser) (n : Nat) : pw (add f g) n = sumS (fun k => sc (chs n k : Int) (mul (pw f k) (pw g (n - k)))) (n + 1) := by
  induction n with
  | zero =>
    rw [sumS, sumS, zer_add, pw_zero, pw_zero, pw_zero, one_mul]
    funext i
    show con 1 i = ((chs 0 0 : Nat) : Int) * con 1 i
    rw [chs_self]; simp
  | succ n ih =>
    rw [pw_succ, ih, mul_add, mul_sumS, mul_sumS]
    -- the right side, by Pascal's rule
    have eR : sumS (fun k => sc (chs (n + 1) k : Int) (mul (pw f k) (pw g (n + 1 - k)))) (n + 1 + 1)
        = add (mul (con 1) (pw g (n + 1))) (sumS (fun k => add (sc (chs n k : Int) (mul (pw f (k + 1)) (pw g (n - k)))) (sc (chs n (k + 1) : Int) (mul (pw f (k + 1)) (pw g (n - k))))) (n + 1)) := by
      rw [sumS_shift]
      congr 1
      · funext i
        show ((chs (n + 1) 0 : Nat) : Int) * mul (pw f 0) (pw g (n + 1 - 0)) i = _
        rw [chs_zero, pw_zero, Nat.sub_zero]; simp
      · apply sumS_congr
        intro k _
        funext i
        show ((chs (n + 1) (k + 1) : Nat) : Int) * mul (pw f (k + 1)) (pw g (n + 1 - (k + 1))) i = ((chs n k : Nat) : Int) * _ + ((chs n (k + 1) : Nat) : Int) * _
        rw [chs, show n + 1 - (k + 1) = n - k from by omega, ← Int.add_mul]
        congr 1
    rw [eR, sumS_add]
    have e1 : sumS (fun k => mul (sc (chs n k : Int) (mul (pw f k) (pw g (n - k)))) f) (n + 1) = sumS (fun k => sc (chs n k : Int) (mul (pw f (k + 1)) (pw g (n - k)))) (n + 1) := by
      apply sumS_congr
      intro k _
      rw [sc_mul, mul_assoc, mul_comm (pw g (n - k)) f, ← mul_assoc, ← pw_succ]
    have e2 : sumS (fun k => mul (sc (chs n k : Int) (mul (pw f k) (pw g (n - k)))) g) (n + 1) = sumS (fun k => sc (chs n k : Int) (mul (pw f k) (pw g (n + 1 - k)))) (n + 1) := by
      apply sumS_congr
      intro k hk
      rw [sc_mul, mul_assoc, ← pw_succ, show n - k + 1 = n + 1 - k from by omega]
    have e3 : add (mul (con 1) (pw g (n + 1))) (sumS (fun k => sc (chs n (k + 1) : Int) (mul (pw f (k + 1)) (pw g (n - k)))) (n + 1)) = sumS (fun k => sc (chs n k : Int) (mul (pw f k) (pw g (n + 1 - k)))) (n + 1) := by
      have h1 := sumS_shift (fun k => sc (chs n k : Int) (mul (pw f k) (pw g (n + 1 - k)))) (n + 1)
      have h2 : sumS (fun k => sc (chs n k : Int) (mul (pw f k) (pw g (n + 1 - k)))) (n + 1 + 1) = sumS (fun k => sc (chs n k : Int) (mul (pw f k) (pw g (n + 1 - k)))) (n + 1) := by
        rw [sumS, chs_over n (n + 1) (by omega)]
        funext i
        show _ + ((0 : Nat) : Int) * _ = _
        simp
      rw [← h2, h1]
      congr 1
      · funext i
        show mul (con 1) _ i = ((chs n 0 : Nat) : Int) * mul (pw f 0) (pw g (n + 1 - 0)) i
        rw [chs_zero, pw_zero, Nat.sub_zero]; simp
      · apply sumS_congr
        intro k _
        rw [show n + 1 - (k + 1) = n - k from by omega]
    rw [e1, e2, ← e3, ← add_assoc, add_comm _ (mul (con 1) (pw g (n + 1))), add_assoc]
/-- The p-th power of a sum. -/
theorem frob {p : Int} (h : Pr p) (f g : Ser) : Eq p (pw (add f g) p.toNat) (add (pw f p.toNat) (pw g p.toNat)) := by
  obtain ⟨h2, _, hp⟩ := h
  obtain ⟨q, hq⟩ : ∃ q, p.toNat = q + 1 := ⟨p.toNat - 1, by omega⟩
  rw [hq] at hp ⊢
  rw [binomS, sumS, sumS_shift, chs_zero, chs_self, pw_zero, one_mul, Nat.sub_zero, Nat.sub_self, pw_zero, mul_comm (pw f (q + 1)), one_mul]
  have hm := sumS_nought (p := p) (fun k => sc (chs (q + 1) (k + 1) : Int) (mul (pw f (k + 1)) (pw g (q + 1 - (k + 1))))) q (fun k hk i _ => by
    show ((chs (q + 1) (k + 1) : Nat) : Int) * _ % p = 0
    have hd := chs_div hp (show 0 < k + 1 by omega) (show k + 1 < q + 1 by omega)
    have hd2 : p ∣ ((chs (q + 1) (k + 1) : Nat) : Int) := by
      rw [show p = ((q + 1 : Nat) : Int) from by omega]
      exact Int.natCast_dvd_natCast.2 hd
    exact Int.emod_eq_zero_of_dvd (Int.dvd_trans hd2 (Int.dvd_mul_right _ _)))
  intro i
  show (((1 : Nat) : Int) * pw g (q + 1) i + sumS _ q i + ((1 : Nat) : Int) * pw f (q + 1) i) % p = (pw f (q + 1) i + pw g (q + 1) i) % p
  have := hm i (Nat.zero_le _)
  rw [Int.natCast_one, Int.one_mul, Int.one_mul]
  rw [show pw g (q + 1) i + sumS (fun k => sc (chs (q + 1) (k + 1) : Int) (mul (pw f (k + 1)) (pw g (q + 1 - (k + 1))))) q i + pw f (q + 1) i = (pw f (q + 1) i + pw g (q + 1) i) + sumS (fun k => sc (chs (q + 1) (k + 1) : Int) (mul (pw f (k + 1)) (pw g (q + 1 - (k + 1))))) q i from by omega]
  rw [Int.add_emod, this]
  simp
end Ser
end Go.Proofs.YtbipbpakbanacaaDoor

/- Polynomials by a small prime, as rows of residues: plain ones, the quotient and the rest, common divisors. Mathematics alone. -/
namespace Go.Proofs.YtbipbpakbanacaaDoor
open Ser (Eq Bd)

/-- The coefficients of a row. -/
def cf (xs : List Int) : Ser := fun i => xs.getD i 0
theorem cf_nil (i : Nat) : cf [] i = 0 := by simp [cf]
theorem cf_cons_zero (x : Int) (xs : List Int) : cf (x :: xs) 0 = x := by simp [cf]
theorem cf_cons_succ (x : Int) (xs : List Int) (i : Nat) : cf (x :: xs) (i + 1) = cf xs i := by simp [cf]
theorem cf_over {xs : List Int} {i : Nat} (h : xs.length ≤ i) : cf xs i = 0 := by
  show xs.getD i 0 = 0
  rw [List.getD_eq_getElem?_getD, List.getElem?_eq_none h]; rfl
theorem cf_at {xs : List Int} {i : Nat} (h : i < xs.length) : cf xs i = xs[i] := by
  show xs.getD i 0 = _
  rw [List.getD_eq_getElem?_getD, List.getElem?_eq_getElem h]; rfl
theorem cf_ext {xs ys : List Int} (hl : xs.length = ys.length) (h : ∀ i, cf xs i = cf ys i) : xs = ys := by
  apply List.ext_getElem hl
  intro i h1 h2
  rw [← cf_at h1, ← cf_at h2, h i]
theorem cf_take {xs : List Int} (k i : Nat) : cf (xs.take k) i = if i < k then cf xs i else 0 := by
  show (xs.take k).getD i 0 = _
  rw [List.getD_eq_getElem?_getD]
  by_cases h : i < k
  · rw [if_pos h, List.getElem?_take_of_lt h]; rfl
  · rw [if_neg h, List.getElem?_eq_none (by rw [List.length_take]; omega)]; rfl
theorem cf_append (xs ys : List Int) (i : Nat) : cf (xs ++ ys) i = if i < xs.length then cf xs i else cf ys (i - xs.length) := by
  show (xs ++ ys).getD i 0 = _
  rw [List.getD_eq_getElem?_getD]
  by_cases h : i < xs.length
  · rw [if_pos h, List.getElem?_append_left h]; rfl
  · rw [if_neg h, List.getElem?_append_right (by omega)]; rfl
theorem cf_set {xs : List Int} (k : Nat) (u : Int) (hk : k < xs.length) (i : Nat) : cf (xs.set k u) i = if i = k then u else cf xs i := by
  show (xs.set k u).getD i 0 = _
  rw [List.getD_eq_getElem?_getD, List.getElem?_set]
  by_cases h : i = k
  · subst h; rw [if_pos rfl, if_pos hk, if_pos rfl]; rfl
  · rw [if_neg (fun e => h e.symm), if_neg h]; rfl
theorem cf_map (f : Int → Int) (h0 : f 0 = 0) (xs : List Int) (i : Nat) : cf (xs.map f) i = f (cf xs i) := by
  show (xs.map f).getD i 0 = f (xs.getD i 0)
  rw [List.getD_eq_getElem?_getD, List.getD_eq_getElem?_getD, List.getElem?_map]
  cases xs[i]? with
  | none => simp [h0]
  | some x => rfl
theorem cf_replicate (n i : Nat) : cf (List.replicate n 0) i = 0 := by
  show (List.replicate n (0 : Int)).getD i 0 = 0
  rw [List.getD_eq_getElem?_getD]
  by_cases h : i < n <;> simp [h]

/-- Residues. -/
def Rs (p : Int) (xs : List Int) : Prop := ∀ x ∈ xs, 0 ≤ x ∧ x < p
theorem Rs.nil (p : Int) : Rs p [] := fun _ h => by cases h
theorem Rs.at {p : Int} {xs : List Int} (h : Rs p xs) (hp : 1 ≤ p) (i : Nat) : 0 ≤ cf xs i ∧ cf xs i < p := by
  by_cases hi : i < xs.length
  · rw [cf_at hi]; exact h _ (List.getElem_mem hi)
  · rw [cf_over (by omega)]; omega
theorem Rs.of_at {p : Int} {xs : List Int} (h : ∀ i, i < xs.length → 0 ≤ cf xs i ∧ cf xs i < p) : Rs p xs := by
  intro x hx
  obtain ⟨i, hi, rfl⟩ := List.getElem_of_mem hx
  rw [← cf_at hi]; exact h i hi
theorem Rs.snoc {p : Int} {xs : List Int} (h : Rs p xs) {x : Int} (hx : 0 ≤ x ∧ x < p) : Rs p (xs ++ [x]) := by
  intro y hy
  rcases List.mem_append.1 hy with hy | hy
  · exact h y hy
  · simp at hy; subst hy; exact hx
theorem Rs.take {p : Int} {xs : List Int} (h : Rs p xs) (k : Nat) : Rs p (xs.take k) := fun y hy => h y (List.mem_of_mem_take hy)
theorem Rs.set {p : Int} {xs : List Int} (h : Rs p xs) (k : Nat) {u : Int} (hu : 0 ≤ u ∧ u < p) : Rs p (xs.set k u) := by
  intro y hy
  rcases List.mem_or_eq_of_mem_set hy with hy | rfl
  · exact h y hy
  · exact hu
theorem Rs.append {p : Int} {xs ys : List Int} (h : Rs p xs) (k : Rs p ys) : Rs p (xs ++ ys) := fun y hy => by
  rcases List.mem_append.1 hy with hy | hy
  · exact h y hy
  · exact k y hy
theorem Rs.zeros {p : Int} (n : Nat) (hp : 1 ≤ p) : Rs p (List.replicate n 0) := fun y hy => by rw [List.eq_of_mem_replicate hy]; omega
theorem Rs.emod {p : Int} {xs : List Int} (h : Rs p xs) (hp : 1 ≤ p) (i : Nat) : cf xs i % p = cf xs i := Int.emod_eq_of_lt (h.at hp i).1 (h.at hp i).2

/-- Plain: residues, the last one not 0. -/
def Pln (p : Int) (xs : List Int) : Prop := Rs p xs ∧ (xs = [] ∨ cf xs (xs.length - 1) ≠ 0)
theorem Pln.nil (p : Int) : Pln p [] := ⟨Rs.nil p, .inl rfl⟩
theorem Pln.top {p : Int} {xs : List Int} (h : Pln p xs) (hn : xs ≠ []) (hp : 1 ≤ p) : cf xs (xs.length - 1) % p ≠ 0 := by
  rw [h.1.emod hp]
  exact h.2.resolve_left hn
theorem bd_len (p : Int) (xs : List Int) : Bd p (cf xs) xs.length := fun i hi => by rw [cf_over hi]; simp
/-- A plain row is told by its coefficients. -/
theorem Pln.len_le {p : Int} {xs : List Int} (h : Pln p xs) (hp : 1 ≤ p) {N : Nat} (hb : Bd p (cf xs) N) : xs.length ≤ N := by
  rcases Nat.lt_or_ge N xs.length with hlt | hge
  · have hne : xs ≠ [] := by intro e; subst e; simp at hlt
    exact absurd (hb (xs.length - 1) (by omega)) (h.top hne hp)
  · exact hge
theorem Pln.uniq {p : Int} {xs ys : List Int} (h : Pln p xs) (k : Pln p ys) (hp : 1 ≤ p) (e : Eq p (cf xs) (cf ys)) : xs = ys := by
  have h1 := h.len_le hp ((bd_len p ys).eq e.symm)
  have h2 := k.len_le hp ((bd_len p xs).eq e)
  refine cf_ext (by omega) fun i => ?_
  rw [← h.1.emod hp i, ← k.1.emod hp i]
  exact e i

/-- A row is the plain one of a series. -/
def Pol (p : Int) (xs : List Int) (f : Ser) : Prop := Pln p xs ∧ Eq p (cf xs) f
theorem Pol.uniq {p : Int} {xs ys : List Int} {f g : Ser} (h : Pol p xs f) (k : Pol p ys g) (hp : 1 ≤ p) (e : Eq p f g) : xs = ys :=
  h.1.uniq k.1 hp (h.2.trans (e.trans k.2.symm))
theorem Pol.eq {p : Int} {xs : List Int} {f g : Ser} (h : Pol p xs f) (e : Eq p f g) : Pol p xs g := ⟨h.1, h.2.trans e⟩
theorem Pol.self {p : Int} {xs : List Int} (h : Pln p xs) : Pol p xs (cf xs) := ⟨h, Ser.Eq.refl p _⟩
theorem Pol.nought {p : Int} {xs : List Int} {f : Ser} (h : Pol p xs f) (hp : 1 ≤ p) : xs = [] ↔ Bd p f 0 := by
  constructor
  · rintro rfl
    exact (bd_len p []).eq h.2
  · intro hb
    have := h.1.len_le hp (hb.eq h.2.symm)
    exact List.eq_nil_of_length_eq_zero (by omega)

/-- Cutting noughts off the end: at the first place from behind that isn't 0. -/
theorem pln_cut {p : Int} {xs : List Int} (h : Rs p xs) (k : Nat) (hk : k ≤ xs.length) (hz : ∀ i, k ≤ i → cf xs i = 0) (hl : k = 0 ∨ cf xs (k - 1) ≠ 0) :
    Pln p (xs.take k) ∧ ∀ i, cf (xs.take k) i = cf xs i := by
  have e : ∀ i, cf (xs.take k) i = cf xs i := by
    intro i
    rw [cf_take]
    by_cases hi : i < k
    · rw [if_pos hi]
    · rw [if_neg hi, hz i (by omega)]
  refine ⟨⟨h.take k, ?_⟩, e⟩
  rcases hl with rfl | hl
  · left; simp
  · right
    rw [List.length_take, Nat.min_eq_left hk, e]
    exact hl

/-- No divisors of nought. -/
theorem mul_nz {p a b : Int} (h : Pr p) (ha : a % p ≠ 0) (hb : b % p ≠ 0) : a * b % p ≠ 0 := by
  intro e
  have h1 := finv_spec h ha
  have h2 : finv a p * (a * b) % p = b % p := by
    rw [← Int.mul_assoc, Int.mul_comm (finv a p) a, Int.mul_emod, h1.2.2, Int.one_mul, Int.emod_emod_of_dvd _ (Int.dvd_refl p)]
  rw [Int.mul_emod, e, Int.mul_zero] at h2
  simp at h2
  exact hb h2.symm
/-- A series that ends, and isn't nought, has a last place. -/
theorem bd_down {p : Int} {f : Ser} (h : ∀ k, Bd p f (k + 1) → f k % p = 0) : ∀ N, Bd p f N → Bd p f 0 := by
  intro N
  induction N with
  | zero => exact id
  | succ N ih =>
    intro hb
    refine ih fun i hi => ?_
    rcases Nat.lt_or_ge N i with h1 | h1
    · exact hb i h1
    · obtain rfl : i = N := by omega
      exact h i hb
/-- What is a multiple of a row, and shorter than it, is nought, and so is the other factor. -/
theorem mul_short {p : Int} {f g : Ser} {N m : Nat} (h : Pr p) (hf : Bd p f N) (hg : Bd p g (m + 1)) (ht : g m % p ≠ 0) (hs : Bd p (Ser.mul f g) m) : Bd p f 0 := by
  refine bd_down (fun k hk => ?_) N hf
  rcases Classical.em (f k % p = 0) with h0 | h0
  · exact h0
  · have := (Ser.mul_top hk hg).1
    rw [hs (k + m) (by omega)] at this
    exact absurd this.symm (mul_nz h h0 ht)
theorem eq_of_sub {p : Int} {f g : Ser} (h : Bd p (Ser.sub f g) 0) : Eq p f g := fun i => by
  have := h i (Nat.zero_le _)
  exact Int.emod_eq_emod_iff_emod_sub_eq_zero.2 this
theorem sub_of_eq {p : Int} {f g : Ser} (h : Eq p f g) : Bd p (Ser.sub f g) 0 := fun i _ => Int.emod_eq_emod_iff_emod_sub_eq_zero.1 (h i)

/-- a is q times b, and r; r is shorter than b, whose last place is m. -/
def IsDiv (p : Int) (m : Nat) (a b q r : Ser) : Prop := Eq p a (Ser.add (Ser.mul q b) r) ∧ Bd p r m
theorem IsDiv.uniq {p : Int} {m N : Nat} {a b q r q' r' : Ser} (h : Pr p) (hb : Bd p b (m + 1)) (ht : b m % p ≠ 0) (hq : Bd p q N) (hq' : Bd p q' N)
    (d : IsDiv p m a b q r) (d' : IsDiv p m a b q' r') : Eq p q q' ∧ Eq p r r' := by
  have e : Eq p (Ser.add (Ser.mul q b) r) (Ser.add (Ser.mul q' b) r') := d.1.symm.trans d'.1
  have hm : Ser.mul (Ser.sub q q') b = Ser.sub (Ser.mul q b) (Ser.mul q' b) := by
    have e1 : Ser.sub q q' = Ser.add q (Ser.sc (-1) q') := by funext i; show q i - q' i = q i + -1 * q' i; omega
    rw [e1, Ser.add_mul, Ser.sc_mul]
    funext i
    show Ser.mul q b i + -1 * Ser.mul q' b i = Ser.mul q b i - Ser.mul q' b i
    omega
  have hs : Bd p (Ser.mul (Ser.sub q q') b) m := by
    rw [hm]
    intro i hi
    have h1 := e i
    have h2 := d.2 i hi
    have h3 := d'.2 i hi
    show (Ser.mul q b i - Ser.mul q' b i) % p = 0
    have h4 : (Ser.mul q b i + r i) % p = (Ser.mul q' b i + r' i) % p := h1
    rw [Int.add_emod, h2, Int.add_emod (Ser.mul q' b i), h3] at h4
    simp at h4
    exact Int.emod_eq_emod_iff_emod_sub_eq_zero.1 h4
  have hz := mul_short h (hq.sub hq') hb ht hs
  have hqq := eq_of_sub hz
  refine ⟨hqq, ?_⟩
  intro i
  have h1 := e i
  have h2 := (hqq.mulL b) i
  have h4 : (Ser.mul q b i + r i) % p = (Ser.mul q' b i + r' i) % p := h1
  have h5 := Int.emod_eq_emod_iff_emod_sub_eq_zero.1 h4
  have h6 := Int.emod_eq_emod_iff_emod_sub_eq_zero.1 h2
  refine Int.emod_eq_emod_iff_emod_sub_eq_zero.2 ?_
  have : r i - r' i = (Ser.mul q b i + r i - (Ser.mul q' b i + r' i)) - (Ser.mul q b i - Ser.mul q' b i) := by omega
  rw [this, Int.sub_emod, h5, h6]
  simp
end Go.Proofs.YtbipbpakbanacaaDoor

/- A small modulus; a row's rests. Mathematics, and the words for memory. -/
namespace Go.Proofs.YtbipbpakbanacaaDoor

/-- A small modulus. -/
def Md (p : Int) : Prop := 1 ≤ p ∧ p ≤ 65521
theorem Pr.md {p : Int} (h : Pr p) : Md p := ⟨by have := h.1; omega, h.2.1⟩
theorem Md.in64 {p : Int} (h : Md p) : In64 p := by obtain ⟨h1, h2⟩ := h; unfold In64; omega
theorem Rs.fi {p : Int} {xs : List Int} (h : Rs p xs) (hp : Md p) : Fi xs := fun x hx => by
  have := h x hx
  obtain ⟨h1, h2⟩ := hp
  unfold In64; omega
theorem Pol.rs {p : Int} {xs : List Int} {f : Ser} (h : Pol p xs f) : Rs p xs := h.1.1

/-- All by their rests. -/
def rst (p : Int) (xs : List Int) : List Int := xs.map (· % p)
theorem rst_length (p : Int) (xs : List Int) : (rst p xs).length = xs.length := List.length_map ..
theorem rst_rs (p : Int) (hp : Md p) (xs : List Int) : Rs p (rst p xs) := fun y hy => by
  obtain ⟨x, _, rfl⟩ := List.mem_map.1 hy
  have := hp.1
  exact ⟨Int.emod_nonneg _ (by omega), Int.emod_lt_of_pos _ (by omega)⟩
theorem cf_rst (p : Int) (xs : List Int) (i : Nat) : cf (rst p xs) i = cf xs i % p := cf_map (· % p) (by simp) xs i
theorem rst_snoc (p : Int) (xs : List Int) (k : Nat) (hk : k < xs.length) : rst p (xs.take (k + 1)) = rst p (xs.take k) ++ [cf xs k % p] := by
  rw [List.take_succ_eq_append_getElem hk, cf_at hk]
  simp only [rst, List.map_append, List.map_cons, List.map_nil]
end Go.Proofs.YtbipbpakbanacaaDoor

/- A product's coefficient told by partial sums; a row cut at its last place that isn't nought. Mathematics alone. -/
namespace Go.Proofs.YtbipbpakbanacaaDoor

def psum (f g : Ser) (k : Nat) : Nat → Int
  | 0 => 0
  | i + 1 => psum f g k i + f i * g (k - i)
theorem psum_shift (f g : Ser) (k i : Nat) : psum f g (k + 1) (i + 1) = f 0 * g (k + 1) + psum (Ser.tl f) g k i := by
  induction i with
  | zero => show (0 : Int) + f 0 * g (k + 1 - 0) = _; show _ = f 0 * g (k + 1) + 0; simp
  | succ i ih =>
    show psum f g (k + 1) (i + 1) + f (i + 1) * g (k + 1 - (i + 1)) = _
    rw [ih, Nat.add_sub_add_right]
    show _ = f 0 * g (k + 1) + (psum (Ser.tl f) g k i + f (i + 1) * g (k - i))
    omega
theorem psum_all (f g : Ser) (k : Nat) : psum f g k (k + 1) = Ser.mul f g k := by
  induction k generalizing f with
  | zero => rw [Ser.mul_zero_at]; show (0 : Int) + f 0 * g (0 - 0) = _; simp
  | succ k ih => rw [psum_shift, ih, Ser.mul_succ]
theorem psum_low {f g : Ser} {k i : Nat} (h : ∀ j, j < i → g (k - j) = 0) : psum f g k i = 0 := by
  induction i with
  | zero => rfl
  | succ i ih =>
    show psum f g k i + f i * g (k - i) = 0
    rw [ih (fun j hj => h j (by omega)), h i (by omega), Int.mul_zero]; rfl
theorem psum_high {f g : Ser} {k i : Nat} (h : ∀ j, i ≤ j → f j = 0) (d : Nat) : psum f g k (i + d) = psum f g k i := by
  induction d with
  | zero => rfl
  | succ d ih =>
    show psum f g k (i + d) + f (i + d) * g (k - (i + d)) = _
    rw [ih, h (i + d) (by omega), Int.zero_mul, Int.add_zero]
theorem psum_end {f g : Ser} {k i : Nat} (h : ∀ j, i ≤ j → f j = 0) (hi : i ≤ k + 1) : psum f g k i = Ser.mul f g k := by
  rw [← psum_all, show k + 1 = i + (k + 1 - i) from by omega, psum_high h]
theorem mul_bdM {p x y : Int} (hx : 0 ≤ x ∧ x < p) (hy : 0 ≤ y ∧ y < p) (hp : p ≤ 65521) : 0 ≤ x * y ∧ x * y ≤ 4292870400 := by
  refine ⟨Int.mul_nonneg hx.1 hy.1, ?_⟩
  have h1 : x * y ≤ 65520 * y := Int.mul_le_mul_of_nonneg_right (by omega) hy.1
  omega
theorem psum_bd {p : Int} {f g : Ser} (hp : p ≤ 65521) (hf : ∀ i, 0 ≤ f i ∧ f i < p) (hg : ∀ i, 0 ≤ g i ∧ g i < p) (k i : Nat) : 0 ≤ psum f g k i ∧ psum f g k i ≤ 4292870400 * (i : Int) := by
  induction i with
  | zero => exact ⟨Int.le_refl _, by show (0 : Int) ≤ _; omega⟩
  | succ i ih =>
    have := mul_bdM (hf i) (hg (k - i)) hp
    show 0 ≤ psum f g k i + f i * g (k - i) ∧ psum f g k i + f i * g (k - i) ≤ _
    generalize f i * g (k - i) = P at *
    omega
theorem mul_bdS {p : Int} {f g : Ser} {n : Nat} (hp : p ≤ 65521) (hf : ∀ i, 0 ≤ f i ∧ f i < p) (hg : ∀ i, 0 ≤ g i ∧ g i < p) (hn : ∀ j, n ≤ j → f j = 0) (k : Nat) : 0 ≤ Ser.mul f g k ∧ Ser.mul f g k ≤ 4292870400 * (n : Int) := by
  rcases Nat.lt_or_ge (k + 1) n with h | h
  · rw [← psum_all]
    have := psum_bd hp hf hg k (k + 1)
    omega
  · rw [← psum_end hn h]
    exact psum_bd hp hf hg k n

/-- The place at which noughts at the end are cut off. -/
def CutAt (xs : List Int) (t : Nat) : Prop := t ≤ xs.length ∧ (∀ i, t ≤ i → cf xs i = 0) ∧ (t = 0 ∨ cf xs (t - 1) ≠ 0)
theorem CutAt.pol {p : Int} {xs : List Int} {t : Nat} (h : CutAt xs t) (hr : Rs p xs) {f : Ser} (e : Ser.Eq p (cf xs) f) : Pol p (xs.take t) f := by
  obtain ⟨h1, h2⟩ := pln_cut hr t h.1 h.2.1 h.2.2
  refine ⟨h1, fun i => ?_⟩
  rw [h2]
  exact e i
/-- So many places are told. -/
def MdIn (p : Int) (f : Ser) (n t : Nat) (L : List Int) : Prop := L.length = n ∧ Rs p L ∧ ∀ i, cf L i = if i < t then f i % p else 0
theorem mdIn_start {p : Int} (hp : 1 ≤ p) (f : Ser) (n : Nat) : MdIn p f n 0 (List.replicate n 0) := ⟨by simp, Rs.zeros n hp, fun i => by rw [cf_replicate, if_neg (by omega)]⟩
theorem MdIn.step {p : Int} (hp : 1 ≤ p) {f : Ser} {n t : Nat} {L : List Int} (h : MdIn p f n t L) (ht : t < n) : MdIn p f n (t + 1) (L.set t (f t % p)) := by
  obtain ⟨h1, h2, h3⟩ := h
  refine ⟨by rw [List.length_set, h1], h2.set _ ⟨Int.emod_nonneg _ (by omega), Int.emod_lt_of_pos _ (by omega)⟩, fun i => ?_⟩
  rw [cf_set _ _ (by omega), h3]
  by_cases e : i = t
  · rw [if_pos e, if_pos (by omega), e]
  · rw [if_neg e]
    by_cases hi : i < t
    · rw [if_pos hi, if_pos (by omega)]
    · rw [if_neg hi, if_neg (by omega)]
/-- The first n places of a series. -/
def fst (n : Nat) (f : Ser) : Ser := fun i => if i < n then f i else 0
theorem MdIn.eq {p : Int} {f : Ser} {n : Nat} {L : List Int} (h : MdIn p f n n L) : Ser.Eq p (cf L) (fst n f) := fun i => by
  rw [h.2.2]
  show _ = (if i < n then f i else 0) % p
  by_cases e : i < n
  · rw [if_pos e, if_pos e, Int.emod_emod_of_dvd _ (Int.dvd_refl p)]
  · rw [if_neg e, if_neg e]
theorem fst_bd {p : Int} {f : Ser} {n : Nat} (h : Ser.Bd p f n) : Ser.Eq p (fst n f) f := fun i => by
  show (if i < n then f i else 0) % p = f i % p
  by_cases e : i < n
  · rw [if_pos e]
  · rw [if_neg e, h i (by omega)]; rfl
theorem fst_eq {p : Int} {f g : Ser} {n : Nat} (h : Ser.Eq p f g) : Ser.Eq p (fst n f) (fst n g) := fun i => by
  show (if i < n then f i else 0) % p = (if i < n then g i else 0) % p
  by_cases e : i < n
  · rw [if_pos e, if_pos e]; exact h i
  · rw [if_neg e, if_neg e]
end Go.Proofs.YtbipbpakbanacaaDoor

/- cleaverref04.Is, cleaverref05.Check and Red, by their contracts. -/
namespace Go.Proofs.YtbipbpakbanacaaDoor
open Go.RowKit

theorem sq_le {a b : Nat} (h : a ≤ b) : a * a ≤ b * b := Nat.mul_le_mul h h

set_option maxHeartbeats 1000000 in
theorem refIs_any (n : Int) (w : World) (h0 : -9223372036854775808 ≤ n) (h1 : n ≤ 9223372036854775807) :
    Calls Tryd.prog 72 #[.int .i64 n] w fun e w' => e = .returned (.bool (primB n)) ∧ w = w' := by
  by_cases hlo : n < 2
  · have hp := primB_no (p := n) (fun h => by have := h.1; omega)
    have HP := Lib.hid hp
    clear hp
    go_enter Tryd.func72, Tryd.ntmps72
    go_wp2_with fail
    go_ret
    exact ⟨by rw [HP.out]; rfl, rfl⟩
  by_cases hhi : 65521 < n
  · have hp := primB_no (p := n) (fun h => by have := h.2.1; omega)
    have HP := Lib.hid hp
    clear hp
    go_enter Tryd.func72, Tryd.ntmps72
    go_wp2_with fail
    go_ret
    exact ⟨by rw [HP.out]; rfl, rfl⟩
  obtain ⟨m, rfl⟩ : ∃ m : Nat, n = (m : Int) := ⟨n.toNat, by omega⟩
  have hm2 : 2 ≤ m := by omega
  have hm9 : m ≤ 65521 := by omega
  have hyes := fun d => pr_trial hm2 hm9 d
  have hno := fun d => @pr_not m d
  have pyes : Pr (m : Int) → primB (m : Int) = true := primB_yes
  have pno : ¬ Pr (m : Int) → primB (m : Int) = false := primB_no
  generalize primB (m : Int) = r at *
  have HYES := Lib.hid hyes
  have HNO := Lib.hid hno
  have PYES := Lib.hid pyes
  have PNO := Lib.hid pno
  clear hyes hno pyes pno h0 h1
  go_enter Tryd.func72, Tryd.ntmps72
  go_wp2_with fail
  go_loop [3] (fun i => ∃ d : Nat, i = .int .i64 (d : Int) ∧ 2 ≤ d ∧ d ≤ 256 ∧ ∀ e, 2 ≤ e → e < d → ¬ e ∣ m) (fun i => (300 - intOf i).toNat)
  case atStart => exact ⟨2, rfl, by omega, by omega, fun e h2 h3 => absurd h3 (by omega)⟩
  case round =>
    obtain ⟨d, rfl, hd2, hd9, hall⟩ := hrel
    have HALL := Lib.hid hall
    obtain ⟨D, hD⟩ : ∃ D, D = d * d := ⟨_, rfl⟩
    have hDi : (d : Int) * (d : Int) = (D : Int) := by rw [hD]; exact (Int.natCast_mul d d).symm
    have hDD := sq_le hd9
    have hD9 : D ≤ 65536 := by omega
    have HD := Lib.hid hD
    clear hall hD hDD
    by_cases hle : D ≤ m
    · have hne : d ≠ 256 := by
        intro e
        have := HD.out
        subst e
        omega
      by_cases hz : m % d = 0
      · have hb := PNO.out (HNO.out d hd2 (by rw [← HD.out]; exact hle) hz)
        have HB := Lib.hid hb
        have hzz : (((m : Int) % (d : Int)) == 0) = true := by simp; omega
        clear hb
        go_wp2_with fail
        go_ret
        exact ⟨by rw [HB.out]; rfl, rfl⟩
      · have hzz : (((m : Int) % (d : Int)) == 0) = false := by simp; omega
        have hnd : ¬ d ∣ m := fun h => hz (Nat.mod_eq_zero_of_dvd h)
        have HND := Lib.hid hnd
        have hd8 : d ≤ 255 := by omega
        clear hnd hz hne
        go_wp2_with fail
        go_round
        case rel => exact ⟨d + 1, by go_num, by omega, by omega, fun e h2 h3 => by
          rcases Nat.lt_or_ge e d with h | h
          · exact HALL.out e h2 h
          · obtain rfl : e = d := by omega
            exact HND.out⟩
        case measure => simp [intOf]; omega
    · have hb := PYES.out (HYES.out d (by rw [← HD.out]; omega) HALL.out)
      have HB := Lib.hid hb
      clear hb
      go_wp2_with fail
      go_ret
      exact ⟨by rw [HB.out]; rfl, rfl⟩

theorem refCheck_any (p : Int) (w : World) (h0 : -9223372036854775808 ≤ p) (h1 : p ≤ 9223372036854775807) :
    Calls Tryd.prog 43 #[.int .i64 p] w fun e w' => e = .returned (.int .i64 (chk p)) ∧ w = w' := by
  have T := refIs_any p w h0 h1
  have hy : primB p = true → chk p = 0 := chk_yes
  have hn : primB p = false → chk p = 1 := chk_no
  generalize primB p = b at *
  generalize chk p = c at *
  have TT := Lib.hid T
  clear T
  rcases b with _ | _
  · have hc := hn rfl
    clear hy hn
    subst hc
    go_enter Tryd.func43, Tryd.ntmps43
    go_wp2_with (go_at_call 72; refine TT.out.mono ?_; rintro e w' ⟨rfl, rfl⟩)
    go_ret
    exact ⟨rfl, rfl⟩
  · have hc := hy rfl
    clear hy hn
    subst hc
    go_enter Tryd.func43, Tryd.ntmps43
    go_wp2_with (go_at_call 72; refine TT.out.mono ?_; rintro e w' ⟨rfl, rfl⟩)
    go_ret
    exact ⟨rfl, rfl⟩

theorem refRed_any (a p : Int) (w : World) (h2 : -9223372036854775808 ≤ p) (h3 : p ≤ 9223372036854775807) :
    Calls Tryd.prog 58 #[.int .i64 a, .int .i64 p] w fun e w' => e = .returned (.int .i64 (red a p)) ∧ w = w' := by
  by_cases hp : p < 1
  · have e := red_low (a := a) hp
    generalize red a p = r at *
    subst e
    go_enter Tryd.func58, Tryd.ntmps58
    go_wp2_with fail
    go_ret
    exact ⟨rfl, rfl⟩
  · have e := red_pos (a := a) (show 1 ≤ p by omega)
    have hc := tmod_cases a p (by omega)
    rw [e]
    obtain ⟨t, ht⟩ : ∃ t, a.tmod p = t := ⟨_, rfl⟩
    obtain ⟨r, hr⟩ : ∃ r, a % p = r := ⟨_, rfl⟩
    rw [ht, hr] at hc
    rw [hr]
    clear e hr
    rcases hc with ⟨c1, rfl, c3⟩ | ⟨c1, rfl, c3⟩
    · go_enter Tryd.func58, Tryd.ntmps58
      go_wp2_with fail
      go_ret
      exact ⟨rfl, rfl⟩
    · go_enter Tryd.func58, Tryd.ntmps58
      go_wp2_with fail
      go_ret
      exact ⟨rfl, rfl⟩
end Go.Proofs.YtbipbpakbanacaaDoor

/- cleaverref06.Plain and at, by their contracts. -/
namespace Go.Proofs.YtbipbpakbanacaaDoor
open Go.RowKit

theorem rst_cut {p : Int} (hp : Md p) (xs : List Int) (t : Nat) (ht : t ≤ xs.length) (hz : ∀ i, t ≤ i → cf (rst p xs) i = 0) (hl : t = 0 ∨ cf (rst p xs) (t - 1) ≠ 0) :
    Pol p ((rst p xs).take t) (cf xs) := by
  obtain ⟨h1, h2⟩ := pln_cut (rst_rs p hp xs) t (by rw [rst_length]; exact ht) hz hl
  refine ⟨h1, fun i => ?_⟩
  rw [h2, cf_rst, Int.emod_emod_of_dvd _ (Int.dvd_refl p)]

theorem ISl.take {w : World} {A : Option Addr} {n c : Nat} {xs : List Int} (h : ISl w A n c xs) (t : Nat) (ht : t ≤ n) : ISl w A t c (xs.take t) :=
  ⟨by rw [List.length_take, ← h.len]; omega, Nat.le_trans ht h.le, h.max, h.2.2.2.1, h.rd.take t⟩
theorem ISl.cf_ {w : World} {A : Option Addr} {n c : Nat} {xs : List Int} (h : ISl w A n c xs) (hn : 0 < n) : ∃ b o, A = some ⟨b, o, none⟩ ∧ b < w.heap.size ∧ ∀ j, j < n → w.cell? ⟨b, o + j, none⟩ = some (iv (cf xs j)) := h.at_ hn

/-- What comes back is a slice of the plain row of a series, no longer than n; what was there is as it was. -/
def PolOut (p : Int) (f : Ser) (n : Nat) (w : World) (v : Value) (w' : World) : Prop :=
  ∃ C m d ys, v = .slice C m d ∧ ISl w' C m d ys ∧ Pol p ys f ∧ m ≤ n ∧ (∀ b o s, C = some ⟨b, o, s⟩ → w.heap.size ≤ b) ∧ Below w.heap.size w w'

set_option maxHeartbeats 1000000 in
theorem plain_any (A : Option Addr) (n c : Nat) (xs : List Int) (p : Int) (w : World) (h : ISl w A n c xs) (hp : Md p) (hn : n ≤ 1099511627776) :
    Calls Tryd.prog 48 #[.slice A n c, .int .i64 p] w fun e w' => ∃ v, e = .returned v ∧ PolOut p (cf xs) n w v w' := by
  have H := Lib.hid h
  have hcl := h.le
  have hcm := h.max
  obtain ⟨hp1, hp2⟩ := hp
  have MD := Lib.hid (show Md p from ⟨hp1, hp2⟩)
  have RED := Lib.hid (fun (a : Int) (w : World) => refRed_any a p w (by omega) (by omega))
  clear h
  go_enter Tryd.func48, Tryd.ntmps48
  go_wp2_with fail
  go_loopw [6, 5] (fun i v wr => ∃ k : Nat, k ≤ n ∧ i = .int .i64 k ∧ IOw wr w.heap.size v (rst p (xs.take k)) ∧ Below w.heap.size w wr) (fun i _ _ => n - (intOf i).toNat)
  case atStart => exact ⟨0, Nat.zero_le _, rfl, IOw.nil _ _, Below.refl _ _⟩
  case round =>
    obtain ⟨k, hk, rfl, hown, hbel⟩ := hrel
    by_cases hlt : k < n
    · obtain ⟨b, o, rfl, hbl, hc⟩ := H.out.cf_ (by omega)
      have hx := hc k hlt
      rw [← hbel.cell (p := ⟨b, o + k, none⟩) hbl] at hx
      have hsn := rst_snoc p xs k (by rw [← H.out.len]; exact hlt)
      have hR := RED.out (cf xs k) wr
      rw [red_pos hp1] at hR
      have hy0 := Int.emod_nonneg (cf xs k) (b := p) (by omega)
      have hy1 := Int.emod_lt_of_pos (cf xs k) (b := p) (by omega)
      generalize cf xs k % p = y at *
      generalize cf xs k = x at *
      have hl : (rst p (xs.take k)).length = k := by rw [rst_length, List.length_take, ← H.out.len]; omega
      have hN := (iblk_list wr [y] (fi_one (by unfold In64; omega))).sl (by simp)
      have HN := Lib.hid hN
      have HO := Lib.hid hown
      have HB := Lib.hid hbel
      have HR := Lib.hid hR
      have HS := Lib.hid hsn
      have HL := Lib.hid hl
      have hsz := hbel.size
      clear hc hN hown hbel hR hsn hl
      go_wp2_with (first
        | (go_at_call 58; (with_reducible refine HR.out.mono ?_); rintro e w' ⟨rfl, rfl⟩)
        | (at_builtin; refine iwpList_app _ rfl (.tmp 14) (.tmp 21) rfl w.heap.size _ _ rfl (HO.out.alloc _) (some ⟨wr.heap.size, 0, none⟩) 1 1 rfl [y] HN.out (by rw [HL.out]; omega) (by simp; omega) ?_; intro v1 w3 ho1 hb3))
      have hb4 : Below w.heap.size w w3 := (HB.out.alloc hsz _).trans hb3
      clear hb3
      rw [← HS.out] at ho1
      go_roundw
      case rel => exact ⟨k + 1, by omega, by go_num, ho1, hb4⟩
      case measure => simp [intOf]; omega
    · obtain rfl : k = n := by omega
      have hk2 : xs.take k = xs := List.take_of_length_le (by rw [← H.out.len]; exact Nat.le_refl _)
      rw [hk2] at hown
      obtain ⟨A', d, rfl, hs, hnew⟩ := hown.sl
      have NEW := Lib.hid hnew
      have hl : (rst p xs).length = k := by rw [rst_length, ← H.out.len]
      rw [hl] at hs ⊢
      have CUT := Lib.hid (fun t => @rst_cut p MD.out xs t)
      have hxl : k ≤ xs.length := by rw [← H.out.len]; exact Nat.le_refl _
      have HXL := Lib.hid hxl
      have RS := Lib.hid (rst_rs p MD.out xs)
      have HSS := Lib.hid hs
      have HB := Lib.hid hbel
      have hsle := hs.le
      have hsm := hs.max
      have OV := Lib.hid (fun i (hi : k ≤ i) => cf_over (xs := rst p xs) (i := i) (by rw [hl]; exact hi))
      clear hown hk2 hl hs hbel hxl hnew
      generalize rst p xs = zs at *
      go_wp2_with fail
      by_cases hn0 : k = 0
      · subst hn0
        go_loop [7] (fun t => t = .int .i64 0) (fun _ => 0)
        case atStart => rfl
        case round =>
          subst hrel
          have hAd := HSS.out.2.2.2.1
          rcases A' with _ | a
          · obtain rfl := hAd rfl
            go_wp2_with fail
            go_ret
            exact ⟨_, rfl, none, 0, 0, _, rfl, HSS.out.take 0 (Nat.le_refl _), CUT.out 0 (Nat.zero_le _) OV.out (.inl rfl), Nat.le_refl _, NEW.out, HB.out⟩
          · clear hAd
            go_wp2_with fail
            go_ret
            exact ⟨_, rfl, some a, 0, d, _, rfl, HSS.out.take 0 (Nat.le_refl _), CUT.out 0 (Nat.zero_le _) OV.out (.inl rfl), Nat.le_refl _, NEW.out, HB.out⟩
      · obtain ⟨b, o, rfl, _, hc⟩ := HSS.out.cf_ (by omega)
        have HC := Lib.hid hc
        clear hc
        go_loop [7] (fun t => ∃ j : Nat, j ≤ k ∧ t = .int .i64 (j : Int) ∧ Hid (∀ i, j ≤ i → cf zs i = 0)) (fun t => (intOf t).toNat)
        case atStart => exact ⟨k, Nat.le_refl _, rfl, OV⟩
        case round =>
          obtain ⟨j, hj, rfl, hz⟩ := hrel
          by_cases hj0 : j = 0
          · subst hj0
            go_wp2_with fail
            go_ret
            exact ⟨_, rfl, _, 0, d, _, rfl, HSS.out.take 0 (Nat.zero_le _), CUT.out 0 (Nat.zero_le _) hz.out (.inl rfl), Nat.zero_le _, NEW.out, HB.out⟩
          · have hcell := HC.out (j - 1) (by omega)
            have hpos : 0 < j := by omega
            by_cases hy : cf zs (j - 1) = 0
            · have HY := Lib.hid hy
              rw [hy] at hcell
              clear hy
              go_wp2_with fail
              go_round
              case rel => exact ⟨j - 1, by omega, by go_num, fun i hi => by
                by_cases e : i = j - 1
                · rw [e]; exact HY.out
                · exact hz.out i (by omega)⟩
              case measure => simp [intOf]; omega
            · have HY := Lib.hid hy
              obtain ⟨y, hyy⟩ : ∃ y, cf zs (j - 1) = y := ⟨_, rfl⟩
              rw [hyy] at hcell hy
              have hyb : (y == 0) = false := by simpa using hy
              clear hy hyy
              go_wp2_with fail
              go_ret
              exact ⟨_, rfl, _, j, d, _, rfl, HSS.out.take j hj, CUT.out j (Nat.le_trans hj HXL.out) hz.out (.inr HY.out), hj, NEW.out, HB.out⟩
end Go.Proofs.YtbipbpakbanacaaDoor

/- cleaverref06.at, Sum, Times, by their contracts. -/
namespace Go.Proofs.YtbipbpakbanacaaDoor
open Go.RowKit

set_option maxHeartbeats 1000000 in
theorem atc_any (A : Option Addr) (n c : Nat) (xs : List Int) (k : Nat) (w : World) (h : ISl w A n c xs) (hk : k ≤ 9223372036854775807) :
    Calls Tryd.prog 73 #[.slice A n c, .int .i64 (k : Int)] w fun e w' => e = .returned (.int .i64 (cf xs k)) ∧ w = w' := by
  have hcl := h.le
  have hcm := h.max
  by_cases hlt : k < n
  · obtain ⟨b, o, rfl, _, hc⟩ := h.cf_ (by omega)
    have hx := hc k hlt
    generalize cf xs k = x at *
    clear hc h
    go_enter Tryd.func73, Tryd.ntmps73
    go_wp2_with fail
    go_ret
    exact ⟨rfl, rfl⟩
  · have hz := cf_over (xs := xs) (i := k) (by rw [← h.len]; omega)
    generalize cf xs k = x at *
    subst hz
    clear h
    go_enter Tryd.func73, Tryd.ntmps73
    go_wp2_with fail
    go_ret
    exact ⟨rfl, rfl⟩

/-- The sum of a and k times b, place by place. -/
def smL (X Y : List Int) (k : Int) (t : Nat) : List Int := (List.range t).map fun i => cf X i + k * cf Y i
theorem smL_length (X Y : List Int) (k : Int) (t : Nat) : (smL X Y k t).length = t := by simp [smL]
theorem smL_snoc (X Y : List Int) (k : Int) (t : Nat) : smL X Y k (t + 1) = smL X Y k t ++ [cf X t + k * cf Y t] := by simp [smL, List.range_succ]
theorem cf_smL (X Y : List Int) (k : Int) (N : Nat) (h1 : X.length ≤ N) (h2 : Y.length ≤ N) : cf (smL X Y k N) = Ser.add (cf X) (Ser.sc k (cf Y)) := by
  funext i
  show cf (smL X Y k N) i = cf X i + k * cf Y i
  by_cases h : i < N
  · rw [cf_at (by rw [smL_length]; exact h)]
    simp [smL]
  · rw [cf_over (by rw [smL_length]; omega), cf_over (by omega), cf_over (by omega)]
    simp

theorem PolOut.eq {p : Int} {f g : Ser} {n : Nat} {w w' : World} {v : Value} (h : PolOut p f n w v w') (e : Ser.Eq p f g) : PolOut p g n w v w' := by
  obtain ⟨C, m, d, ys, h1, h2, h3, h4, h5, h6⟩ := h
  exact ⟨C, m, d, ys, h1, h2, h3.eq e, h4, h5, h6⟩
theorem PolOut.after {p : Int} {f : Ser} {n n' : Nat} {w w1 w' : World} {v : Value} (h : PolOut p f n w1 v w') (hb : Below w.heap.size w w1) (hn : n ≤ n') : PolOut p f n' w v w' := by
  obtain ⟨C, m, d, ys, h1, h2, h3, h4, h5, h6⟩ := h
  exact ⟨C, m, d, ys, h1, h2, h3, Nat.le_trans h4 hn, fun b o s e => Nat.le_trans hb.size (h5 b o s e), hb.trans (h6.mono hb.size)⟩

set_option maxHeartbeats 2000000 in
theorem sum_any (A B : Option Addr) (n c n' c' : Nat) (xs ys : List Int) (k p : Int) (w : World) (h : ISl w A n c xs) (h' : ISl w B n' c' ys) (hp : Md p) (hk : -65521 ≤ k ∧ k ≤ 65521) (hn : n ≤ 1099511627776) (hn' : n' ≤ 1099511627776) :
    Calls Tryd.prog 44 #[.slice A n c, .slice B n' c', .int .i64 k, .int .i64 p] w fun e w' => ∃ v, e = .returned v ∧ PolOut p (Ser.add (cf xs) (Ser.sc k (cf ys))) (max n n') w v w' := by
  have H := Lib.hid h
  have H' := Lib.hid h'
  have MD := Lib.hid hp
  obtain ⟨hp1, hp2⟩ := hp
  clear h h'
  go_enter Tryd.func44, Tryd.ntmps44
  go_wp2_with fail
  refine (plain_any A n c xs p w H.out MD.out hn).mono ?_
  rintro e w1 ⟨v1, rfl, X, m, d, fx, rfl, hX, px, hmn, -, hb1⟩
  go_wp2_with fail
  refine (plain_any B n' c' ys p w1 (H'.out.below hb1) MD.out hn').mono ?_
  rintro e w2 ⟨v2, rfl, Y, m', d', fy, rfl, hY, py, hmn', -, hb2⟩
  have hX2 := hX.below hb2
  have hb12 : Below w.heap.size w w2 := hb1.trans (hb2.mono hb1.size)
  obtain ⟨N, hN⟩ : ∃ N, N = max m m' := ⟨_, rfl⟩
  have hNi : max (m : Int) (m' : Int) = (N : Int) := by omega
  have hN9 : N ≤ 1099511627776 := by omega
  have EX := Lib.hid (cf_smL fx fy k N (by rw [← hX.len]; omega) (by rw [← hY.len]; omega))
  have ES : Hid (Ser.Eq p (Ser.add (cf fx) (Ser.sc k (cf fy))) (Ser.add (cf xs) (Ser.sc k (cf ys)))) := Lib.hid (px.2.add (Ser.Eq.sc rfl py.2))
  have RX := Lib.hid px.rs
  have RY := Lib.hid py.rs
  have HX := Lib.hid hX2
  have HY := Lib.hid hY
  have HB := Lib.hid hb12
  have HNN := Lib.hid hN
  have HMN := Lib.hid (And.intro hmn hmn')
  have hszw := hb12.size
  clear hX hX2 hY px py hb1 hb2 hb12 hN hmn hmn'
  go_wp2_with fail
  go_loopw [12, 11] (fun i v wr => ∃ t : Nat, t ≤ N ∧ i = .int .i64 (t : Int) ∧ IOw wr w2.heap.size v (smL fx fy k t) ∧ Below w2.heap.size w2 wr) (fun i _ _ => N - (intOf i).toNat)
  case atStart => exact ⟨0, Nat.zero_le _, rfl, IOw.nil _ _, Below.refl _ _⟩
  case round =>
    obtain ⟨t, ht, rfl, hown, hbel⟩ := hrel
    by_cases hlt : t < N
    · have hor : (t : Int) < (m : Int) ∨ (t : Int) < (m' : Int) := by omega
      have c1 := atc_any X m d fx t wr (HX.out.below hbel) (by omega)
      have c2 := atc_any Y m' d' fy t wr (HY.out.below hbel) (by omega)
      have hsn := smL_snoc fx fy k t
      have bx := RX.out.at hp1 t
      have bY := RY.out.at hp1 t
      have hl := smL_length fx fy k t
      generalize cf fx t = x at *
      generalize cf fy t = y at *
      have hky : -4293000000 ≤ k * y ∧ k * y ≤ 4293000000 := by
        have h1 : k * y ≤ 65521 * y := Int.mul_le_mul_of_nonneg_right hk.2 bY.1
        have h2 : -65521 * y ≤ k * y := Int.mul_le_mul_of_nonneg_right hk.1 bY.1
        omega
      obtain ⟨P, hP⟩ : ∃ P, k * y = P := ⟨_, rfl⟩
      rw [hP] at hsn hky
      have hNn := (iblk_list wr [x + P] (fi_one (by unfold In64; omega))).sl (by simp)
      have HN := Lib.hid hNn
      have HO := Lib.hid hown
      have HBB := Lib.hid hbel
      have C1 := Lib.hid c1
      have C2 := Lib.hid c2
      have HS := Lib.hid hsn
      have HL := Lib.hid hl
      have hsz := hbel.size
      clear hNn hown hbel c1 c2 hsn hl
      go_wp2_with (first
        | (go_at_call 73; (with_reducible refine C1.out.mono ?_); rintro e w' ⟨rfl, rfl⟩)
        | (go_at_call 73; (with_reducible refine C2.out.mono ?_); rintro e w' ⟨rfl, rfl⟩)
        | (at_builtin; refine iwpList_app _ rfl (.tmp 28) (.tmp 38) rfl w2.heap.size _ _ rfl (HO.out.alloc _) (some ⟨wr.heap.size, 0, none⟩) 1 1 rfl [x + P] HN.out (by rw [HL.out]; omega) (by simp; omega) ?_; intro v1 w3 ho1 hb3))
      have hb4 : Below w2.heap.size w2 w3 := (HBB.out.alloc hsz _).trans hb3
      clear hb3
      rw [← HS.out] at ho1
      go_roundw
      case rel => exact ⟨t + 1, by omega, by go_num, ho1, hb4⟩
      case measure => simp [intOf]; omega
    · obtain rfl : t = N := by omega
      have hm1 : (m : Int) ≤ (t : Int) := by omega
      have hm2 : (m' : Int) ≤ (t : Int) := by omega
      obtain ⟨A', d2, rfl, hs, _⟩ := hown.sl
      have hl := smL_length fx fy k t
      have T := plain_any A' _ d2 _ p wr hs MD.out (by rw [hl]; omega)
      rw [hl, EX.out] at T
      rw [hl]
      have TT := Lib.hid T
      have HBB := Lib.hid hbel
      clear T hs hown hl hbel
      go_wp2_with (go_at_call 48; refine TT.out.mono ?_; rintro e w5 ⟨v5, rfl, hout⟩)
      all_goals
        go_ret
        exact ⟨_, rfl, (hout.eq ES.out).after (HB.out.trans (HBB.out.mono hszw)) (by have := HNN.out; have := HMN.out; omega)⟩

/-- The inner loop of a product: so many places of row i are in. -/
def TmIn (p : Int) (N i k : Nat) (X Y M : List Int) : Prop :=
  M.length = N ∧ Rs p M ∧ Ser.Eq p (cf M) (Ser.add (Ser.mul (cf (X.take i)) (cf Y)) (Ser.mul (Ser.mono (cf X i) i) (cf (Y.take k))))
theorem tm_start {p : Int} {N i : Nat} {X Y M : List Int} (h1 : M.length = N) (h2 : Rs p M) (h3 : Ser.Eq p (cf M) (Ser.mul (cf (X.take i)) (cf Y))) : TmIn p N i 0 X Y M := by
  refine ⟨h1, h2, h3.trans (Ser.Eq.of ?_)⟩
  funext n
  show _ = _ + Ser.mul (Ser.mono (cf X i) i) (cf (Y.take 0)) n
  rw [Ser.mono_mul_at, List.take_zero, cf_nil]
  simp
theorem tm_step {p : Int} {N i k : Nat} {X Y M : List Int} (hp : Md p) (h : TmIn p N i k X Y M) (hN : i + k < N) :
    TmIn p N i (k + 1) X Y (M.set (i + k) ((cf M (i + k) + cf X i * cf Y k) % p)) := by
  obtain ⟨h1, h2, h3⟩ := h
  have hp1 := hp.1
  refine ⟨by rw [List.length_set, h1], h2.set _ ⟨Int.emod_nonneg _ (by omega), Int.emod_lt_of_pos _ (by omega)⟩, fun n => ?_⟩
  rw [cf_set _ _ (by omega)]
  have h4 := h3 n
  have e1 : ∀ k, Ser.add (Ser.mul (cf (X.take i)) (cf Y)) (Ser.mul (Ser.mono (cf X i) i) (cf (Y.take k))) n = Ser.mul (cf (X.take i)) (cf Y) n + Ser.mul (Ser.mono (cf X i) i) (cf (Y.take k)) n := fun _ => rfl
  rw [e1] at h4 ⊢
  rw [Ser.mono_mul_at] at h4 ⊢
  by_cases hn : n = i + k
  · subst hn
    rw [if_pos rfl]
    rw [if_pos (by omega), show i + k - i = k from by omega, cf_take] at h4 ⊢
    rw [if_neg (by omega), Int.mul_zero, Int.add_zero] at h4
    rw [if_pos (by omega), Int.emod_emod_of_dvd _ (Int.dvd_refl p), Int.add_emod, h4, ← Int.add_emod]
  · rw [if_neg hn, h4]
    by_cases hi : i ≤ n
    · rw [if_pos hi, if_pos hi, cf_take, cf_take]
      by_cases hk : n - i < k
      · rw [if_pos hk, if_pos (by omega)]
      · rw [if_neg hk, if_neg (by omega)]
    · rw [if_neg hi, if_neg hi]
theorem tm_end {p : Int} {N i k : Nat} {X Y M : List Int} (h : TmIn p N i k X Y M) (hk : Y.length ≤ k) (hi : i < X.length) :
    M.length = N ∧ Rs p M ∧ Ser.Eq p (cf M) (Ser.mul (cf (X.take (i + 1))) (cf Y)) := by
  obtain ⟨h1, h2, h3⟩ := h
  refine ⟨h1, h2, h3.trans (Ser.Eq.of ?_)⟩
  rw [List.take_of_length_le hk, ← Ser.add_mul]
  congr 1
  funext n
  show cf (X.take i) n + (if n = i then cf X i else 0) = cf (X.take (i + 1)) n
  rw [cf_take, cf_take]
  by_cases hn : n = i
  · subst hn; rw [if_neg (by omega), if_pos rfl, if_pos (by omega), Int.zero_add]
  · rw [if_neg hn, Int.add_zero]
    by_cases hlt : n < i
    · rw [if_pos hlt, if_pos (by omega)]
    · rw [if_neg hlt, if_neg (by omega)]

set_option maxHeartbeats 4000000 in
theorem times_any (A B : Option Addr) (n c n' c' : Nat) (xs ys : List Int) (p : Int) (w : World) (h : ISl w A n c xs) (h' : ISl w B n' c' ys) (hp : Md p) (hn : n ≤ 500000000000) (hn' : n' ≤ 500000000000) :
    Calls Tryd.prog 47 #[.slice A n c, .slice B n' c', .int .i64 p] w fun e w' => ∃ v, e = .returned v ∧ PolOut p (Ser.mul (cf xs) (cf ys)) (n + n') w v w' := by
  have H := Lib.hid h
  have H' := Lib.hid h'
  have MD := Lib.hid hp
  obtain ⟨hp1, hp2⟩ := hp
  clear h h'
  go_enter Tryd.func47, Tryd.ntmps47
  go_wp2_with fail
  refine (plain_any A n c xs p w H.out MD.out (by omega)).mono ?_
  rintro e w1 ⟨v1, rfl, X, m, d, fx, rfl, hX, px, hmn, -, hb1⟩
  go_wp2_with fail
  refine (plain_any B n' c' ys p w1 (H'.out.below hb1) MD.out (by omega)).mono ?_
  rintro e w2 ⟨v2, rfl, Y, m', d', fy, rfl, hY, py, hmn', -, hb2⟩
  have hX2 := hX.below hb2
  have hb12 : Below w.heap.size w w2 := hb1.trans (hb2.mono hb1.size)
  have ES : Hid (Ser.Eq p (Ser.mul (cf fx) (cf fy)) (Ser.mul (cf xs) (cf ys))) := Lib.hid (px.2.mul py.2)
  have RX := Lib.hid px.rs
  have RY := Lib.hid py.rs
  have HX := Lib.hid hX2
  have HY := Lib.hid hY
  have HB := Lib.hid hb12
  have hszw := hb12.size
  have hx9 := hX.le
  have hx8 := hX.max
  have hy9 := hY.le
  have hy8 := hY.max
  obtain ⟨N, hNe⟩ : ∃ N, N = m + m' := ⟨_, rfl⟩
  have hN1 : m + m' ≤ N := by omega
  have hN2 : N ≤ m + m' := by omega
  have HNE := Lib.hid hNe
  clear hX hX2 hY px py hb1 hb2 hb12 hNe
  go_wp2_with (at_make; refine wpList_make_ints _ rfl _ _ rfl _ _ _ _ N rfl rfl (by rw [HNE.out]; omega) (by rw [HNE.out]; omega) (by omega) ?_; intro w3 hk3 hb3)
  have HK3 := Lib.hid hk3
  clear hk3
  go_loopw [10] (fun i wr => ∃ t : Nat, t ≤ m ∧ i = .int .i64 (t : Int) ∧ ∃ L, IBlk wr w2.heap.size L ∧ (L.length = N ∧ Rs p L ∧ Ser.Eq p (cf L) (Ser.mul (cf (fx.take t)) (cf fy))) ∧ Below w2.heap.size w2 wr) (fun i _ => m - (intOf i).toNat)
  case atStart => exact ⟨0, Nat.zero_le _, rfl, _, HK3.out, ⟨by simp, Rs.zeros N hp1, fun i => by
    rw [cf_replicate, List.take_zero]
    have e : cf [] = Ser.zer := by funext j; exact cf_nil j
    rw [e, Ser.zer_mul]; rfl⟩, hb3⟩
  case round =>
    obtain ⟨t, ht, rfl, L, hL, hLp, hbel⟩ := hrel
    clear HK3 hb3
    by_cases hlt : t < m
    · have HL := Lib.hid hL
      have HLP := Lib.hid hLp
      have HBB := Lib.hid hbel
      clear hL hLp hbel
      go_wp2_with fail
      go_loopw [11] (fun k wq => ∃ u : Nat, u ≤ m' ∧ k = .int .i64 (u : Int) ∧ ∃ M, IBlk wq w2.heap.size M ∧ TmIn p N t u fx fy M ∧ Below w2.heap.size w2 wq) (fun k _ => m' - (intOf k).toNat)
      case atStart => exact ⟨0, Nat.zero_le _, rfl, L, HL.out, tm_start HLP.out.1 HLP.out.2.1 HLP.out.2.2, HBB.out⟩
      case round =>
        obtain ⟨u, hu, rfl, M, hM, hIn, hbel⟩ := hrel
        by_cases hlt2 : u < m'
        · obtain ⟨b, o, rfl, hbl, hcx⟩ := HX.out.cf_ (by omega)
          obtain ⟨b', o', rfl, hbl', hcy⟩ := HY.out.cf_ (by omega)
          have h1 := hcx t hlt
          have h2 := hcy u hlt2
          rw [← hbel.cell (p := ⟨b, o + t, none⟩) hbl] at h1
          rw [← hbel.cell (p := ⟨b', o' + u, none⟩) hbl'] at h2
          have h3 : _ = some (iv (cf M (t + u))) := hM.cellD (t + u) (by rw [hIn.1]; omega)
          have h3f := hM.frozen (t + u)
          have hstep := tm_step MD.out hIn (by omega)
          have hq0 := Int.emod_nonneg (cf M (t + u) + cf fx t * cf fy u) (b := p) (by omega)
          have hq1 := Int.emod_lt_of_pos (cf M (t + u) + cf fx t * cf fy u) (b := p) (by omega)
          have hset := hM.set_ (t + u) ((cf M (t + u) + cf fx t * cf fy u) % p) (by unfold In64; omega)
          have b1 := RX.out.at hp1 t
          have b2 := RY.out.at hp1 u
          have b3 := hIn.2.1.at hp1 (t + u)
          have bm := mul_bd b1 b2 hp2
          generalize cf fx t = x at *
          generalize cf fy u = y at *
          generalize cf M (t + u) = z at *
          obtain ⟨P, hP⟩ : ∃ P, x * y = P := ⟨_, rfl⟩
          rw [hP] at hstep hset bm hq0 hq1
          have hmul : IntKind.i64.wrap (x * y) = P := by rw [hP, IntKind.wrap_i64]; omega
          have hadd : IntKind.i64.wrap (z + P) = z + P := by rw [IntKind.wrap_i64]; omega
          have hsum : IntKind.i64.wrap ((t : Int) + (u : Int)) = (t : Int) + (u : Int) := by rw [IntKind.wrap_i64]; omega
          have htm : (z + P).tmod p = (z + P) % p := Int.tmod_eq_emod_of_nonneg (by omega)
          have hp0 : (p == 0) = false := by simp; omega
          have hp00 : ¬ p = 0 := by omega
          have i1 : (0 : Int) ≤ (t : Int) := by omega
          have i2 : (t : Int) < (m : Int) := by omega
          have i3 : (0 : Int) ≤ (u : Int) := by omega
          have i4 : (u : Int) < (m' : Int) := by omega
          have i5 : (0 : Int) ≤ (t : Int) + (u : Int) := by omega
          have i6 : (t : Int) + (u : Int) < (N : Int) := by omega
          have i7 : ((t : Int) + (u : Int)).toNat = t + u := by omega
          have HST := Lib.hid hstep
          have HSE := Lib.hid hset
          have HB2 := Lib.hid hbel
          clear hcx hcy hstep hset hbel hP hM hIn bm b1 b2 b3
          go_wp2_with fail
          go_still_tail 23, (by kernel_rfl)
          change wpList _ _ _ _ _ (World.drew wr)
          have k3 : (World.drew wr).cell? ⟨w2.heap.size, t + u, none⟩ = some (iv z) := h3
          have k3f : (World.drew wr).frozen? ⟨w2.heap.size, t + u, none⟩ = false := h3f
          have KSE : Hid (IBlk ((World.drew wr).setCell ⟨w2.heap.size, t + u, none⟩ (iv ((z + P) % p))) w2.heap.size (M.set (t + u) ((z + P) % p))) := Lib.hid HSE.out
          have KB : Hid (Below w2.heap.size w2 (World.drew wr)) := Lib.hid HB2.out.drew
          clear h1 h2 h3 h3f HSE HB2
          generalize World.drew wr = w7 at *
          go_wp2_with fail
          go_roundw
          case rel => exact ⟨u + 1, by omega, by go_num, _, KSE.out, HST.out, KB.out.setCell (p := ⟨w2.heap.size, t + u, none⟩) (Nat.le_refl _) _⟩
          case measure => simp [intOf]; omega
        · obtain rfl : u = m' := by omega
          have hend := tm_end hIn (by rw [← HY.out.len]; exact Nat.le_refl _) (by rw [← HX.out.len]; exact hlt)
          have HEN := Lib.hid hend
          have HB2 := Lib.hid hbel
          have HM := Lib.hid hM
          clear hend hbel hM hIn
          go_wp2_with fail
          go_roundw
          case rel => exact ⟨t + 1, by omega, by go_num, _, HM.out, HEN.out, HB2.out⟩
          case measure => simp [intOf]; omega
    · obtain rfl : t = m := by omega
      have hv := hLp.2.2
      rw [List.take_of_length_le (by rw [← HX.out.len]; exact Nat.le_refl _)] at hv
      have hs := hL.sl (by rw [hLp.1]; omega)
      have T := plain_any _ _ _ _ p wr hs MD.out (by rw [hLp.1]; omega)
      rw [hLp.1] at T
      have TT := Lib.hid T
      have HV := Lib.hid hv
      have HBB := Lib.hid hbel
      clear T hs hv hL hLp hbel
      go_wp2_with (go_at_call 48; refine TT.out.mono ?_; rintro e w5 ⟨v5, rfl, hout⟩)
      go_ret
      exact ⟨_, rfl, (hout.eq (HV.out.trans ES.out)).after (HB.out.trans (HBB.out.mono hszw)) (by omega)⟩
end Go.Proofs.YtbipbpakbanacaaDoor

/- cleaverref05.Pow, by its contract. -/
namespace Go.Proofs.YtbipbpakbanacaaDoor
open Go.RowKit

/-- Squaring's row: the power that is left. -/
def PowIn (a : Int) (n k : Nat) (out base p : Int) : Prop := (out * base ^ k) % p = a ^ n % p
theorem powIn_start (a : Int) (n : Nat) (p : Int) : PowIn a n n 1 (a % p) p := by
  unfold PowIn
  rw [Int.one_mul]
  induction n with
  | zero => rw [Int.pow_zero, Int.pow_zero]
  | succ n ih => rw [Int.pow_succ, Int.pow_succ, Int.mul_emod, ih, ← Int.mul_emod, Int.mul_emod, Int.emod_emod_of_dvd a (Int.dvd_refl _), ← Int.mul_emod]
theorem pow_mod_base (x p : Int) (k : Nat) : (x % p) ^ k % p = x ^ k % p := by
  induction k with
  | zero => rw [Int.pow_zero, Int.pow_zero]
  | succ k ih => rw [Int.pow_succ, Int.pow_succ, Int.mul_emod, ih, ← Int.mul_emod, Int.mul_emod, Int.emod_emod_of_dvd x (Int.dvd_refl _), ← Int.mul_emod]
theorem powIn_sq {a : Int} {n k : Nat} {out base p : Int} (h : PowIn a n k out base p) (he : k % 2 = 0) : PowIn a n (k / 2) out (base * base % p) p := by
  unfold PowIn at *
  rw [← h, Int.mul_emod, pow_mod_base, ← Int.mul_emod]
  have : k = 2 * (k / 2) := by omega
  conv => rhs; rw [this, Int.pow_mul]
  rw [show base ^ 2 = base * base from by rw [Int.pow_succ, Int.pow_succ, Int.pow_zero, Int.one_mul]]
theorem powIn_odd {a : Int} {n k : Nat} {out base p : Int} (h : PowIn a n k out base p) (he : k % 2 = 1) : PowIn a n (k / 2) (out * base % p) (base * base % p) p := by
  unfold PowIn at *
  rw [← h, Int.mul_emod, pow_mod_base, Int.emod_emod_of_dvd _ (Int.dvd_refl _), ← Int.mul_emod]
  have : k = 2 * (k / 2) + 1 := by omega
  conv => rhs; rw [this, Int.pow_succ, Int.pow_mul]
  rw [show base ^ 2 = base * base from by rw [Int.pow_succ, Int.pow_succ, Int.pow_zero, Int.one_mul]]
  generalize (base * base) ^ (k / 2) = u
  congr 1
  grind
theorem powIn_end {a : Int} {n : Nat} {out base p : Int} (h : PowIn a n 0 out base p) (h0 : 0 ≤ out) (h1 : out < p) : out = a ^ n % p := by
  unfold PowIn at h
  rw [Int.pow_zero, Int.mul_one] at h
  rw [← h]
  exact (Int.emod_eq_of_lt h0 h1).symm

set_option maxHeartbeats 1000000 in
theorem refPow_any (a n p : Int) (w : World) (h2 : -9223372036854775808 ≤ p) (h3 : p ≤ 9223372036854775807) (h5 : n ≤ 9223372036854775807) :
    Calls Tryd.prog 78 #[.int .i64 a, .int .i64 n, .int .i64 p] w fun e w' => e = .returned (.tuple #[.int .i64 (fpow a n p), .int .i64 (epow n p)]) ∧ w = w' := by
  have C := refCheck_any p w h2 h3
  have R1 := refRed_any a p w h2 h3
  rcases primB_or p with ⟨hb, hpr⟩ | ⟨hb, -⟩
  · rw [chk_yes hb] at C
    by_cases hn : n < 0
    · rw [fpow_low hb hn, epow_low hb hn]
      have CC := Lib.hid C
      clear C R1 hb hpr
      go_enter Tryd.func78, Tryd.ntmps78
      go_wp2_with (go_at_call 43; with_reducible refine CC.out.mono ?_; rintro e w' ⟨rfl, rfl⟩)
      go_ret2
      exact ⟨rfl, rfl⟩
    · obtain ⟨m, rfl⟩ : ∃ m : Nat, n = (m : Int) := ⟨n.toNat, by omega⟩
      rw [fpow_yes m hb, epow_yes hb (by omega)]
      rw [(red_pr hpr).1] at R1
      have hx := (red_pr (a := a) hpr).2
      have hp := hpr.2.1
      have hp2 := hpr.1
      have ST := Lib.hid (powIn_start a m p)
      generalize a % p = r at *
      have END := Lib.hid (fun out base => @powIn_end a m out base p)
      have SQ := Lib.hid (fun k out base => @powIn_sq a m k out base p)
      have OD := Lib.hid (fun k out base => @powIn_odd a m k out base p)
      generalize PowIn a m = PI at *
      have CC := Lib.hid C
      have RR1 := Lib.hid R1
      generalize a ^ m % p = res at *
      have h1p : (1 : Int) % p = 1 := Int.emod_eq_of_lt (by omega) (by omega)
      clear C R1 hb hpr hn
      go_enter Tryd.func78, Tryd.ntmps78
      go_wp2_with (first
        | (go_at_call 43; with_reducible refine CC.out.mono ?_; rintro e w' ⟨rfl, rfl⟩)
        | (go_at_call 58; with_reducible refine RR1.out.mono ?_; rintro e w' ⟨rfl, rfl⟩))
      go_loop [8, 9, 10] (fun o b k => ∃ (out base : Int) (j : Nat), o = .int .i64 out ∧ b = .int .i64 base ∧ k = .int .i64 (j : Int) ∧ 0 ≤ out ∧ out < p ∧ 0 ≤ base ∧ base < p ∧ j ≤ m ∧ Hid (PI j out base p)) (fun _ _ k => (intOf k).toNat)
      case atStart => exact ⟨1, r, m, rfl, rfl, rfl, by omega, by omega, hx.1, hx.2, Nat.le_refl _, ST⟩
      case round =>
        obtain ⟨out, base, j, rfl, rfl, rfl, ho1, ho2, hb1, hb2, hj, hI⟩ := hrel
        by_cases h0 : j = 0
        · subst h0
          obtain rfl := END.out out base hI.out ho1 ho2
          go_wp2_with fail
          go_ret2
          exact ⟨rfl, rfl⟩
        · have hm1 := mul_bd ⟨ho1, ho2⟩ ⟨hb1, hb2⟩ hp
          have hm2 := mul_bd ⟨hb1, hb2⟩ ⟨hb1, hb2⟩ hp
          obtain ⟨P, hP⟩ : ∃ P, out * base = P := ⟨_, rfl⟩
          obtain ⟨S, hS⟩ : ∃ S, base * base = S := ⟨_, rfl⟩
          rw [hP] at hm1
          rw [hS] at hm2
          have HP := Lib.hid hP
          have HS := Lib.hid hS
          have q1 := Int.emod_nonneg P (b := p) (by omega)
          have q2 := Int.emod_lt_of_pos P (b := p) (by omega)
          have q3 := Int.emod_nonneg S (b := p) (by omega)
          have q4 := Int.emod_lt_of_pos S (b := p) (by omega)
          have hpos : (0 : Int) < (j : Int) := by omega
          by_cases hodd : j % 2 = 1
          · have hoo : (((j : Int) % 2) == 1) = true := by simp; omega
            have HO := Lib.hid hodd
            clear hodd
            go_wp2_with fail
            go_round
            case rel => exact ⟨P % p, S % p, j / 2, rfl, rfl, by go_num, q1, q2, q3, q4, by omega, Lib.hid (by rw [← HP.out, ← HS.out]; exact OD.out j out base hI.out HO.out)⟩
            case measure => simp [intOf]; omega
          · have hoo : (((j : Int) % 2) == 1) = false := by simp; omega
            have HO := Lib.hid hodd
            clear hodd
            go_wp2_with fail
            go_round
            case rel => exact ⟨out, S % p, j / 2, rfl, rfl, by go_num, ho1, ho2, q3, q4, by omega, Lib.hid (by rw [← HS.out]; exact SQ.out j out base hI.out (by have := HO.out; omega))⟩
            case measure => simp [intOf]; omega
  · rw [chk_no hb] at C
    rw [epow_no hb, fpow_no hb]
    have CC := Lib.hid C
    clear C R1 hb
    go_enter Tryd.func78, Tryd.ntmps78
    go_wp2_with (go_at_call 43; with_reducible refine CC.out.mono ?_; rintro e w' ⟨rfl, rfl⟩)
    go_ret2
    exact ⟨rfl, rfl⟩
end Go.Proofs.YtbipbpakbanacaaDoor

/- cleaverref06.inverse and Div, by their contracts. -/
namespace Go.Proofs.YtbipbpakbanacaaDoor
open Go.RowKit

theorem fermat1 {a p : Int} (h : Pr p) (ha : a % p ≠ 0) : a ^ (p.toNat - 1) % p = 1 := by
  have h2 := h.1
  have e : a ^ p.toNat = a ^ (p.toNat - 1) * a := by rw [← Int.pow_succ]; congr 1; omega
  have hf := fermatZ h a
  rw [e] at hf
  have hz : (a ^ (p.toNat - 1) - 1) * a % p = 0 := by
    rw [Int.sub_mul, Int.one_mul]
    exact Int.emod_eq_emod_iff_emod_sub_eq_zero.1 hf
  rcases Classical.em ((a ^ (p.toNat - 1) - 1) % p = 0) with h0 | h0
  · have := Int.emod_eq_emod_iff_emod_sub_eq_zero.2 h0
    rw [this]
    exact Int.emod_eq_of_lt (by omega) (by omega)
  · exact absurd hz (mul_nz h h0 ha)
theorem finv_pow {a p : Int} (h : Pr p) (ha : a % p ≠ 0) : finv a p = fpow a (p - 2) p := by
  have h2 := h.1
  have e := fpow_yes (a := a) (p - 2).toNat (primB_yes h)
  rw [Int.toNat_of_nonneg (by omega)] at e
  rw [e]
  have b0 := Int.emod_nonneg (a ^ (p - 2).toNat) (b := p) (by omega)
  have b1 := Int.emod_lt_of_pos (a ^ (p - 2).toNat) (b := p) (by omega)
  refine finv_eq h ⟨b0, b1, ?_⟩
  have h1 := fermat1 h ha
  rw [Int.mul_emod, Int.emod_emod_of_dvd _ (Int.dvd_refl p), ← Int.mul_emod, Int.mul_comm, ← Int.pow_succ, show (p - 2).toNat.succ = p.toNat - 1 from by omega]
  exact h1

set_option maxHeartbeats 1000000 in
theorem inverse_any (a p : Int) (w : World) (h : Pr p) (ha : a % p ≠ 0) :
    Calls Tryd.prog 51 #[.int .i64 a, .int .i64 p] w fun e w' => e = .returned (.int .i64 (finv a p)) ∧ w = w' := by
  have h2 := h.1
  have h3 := h.2.1
  have T := refPow_any a (p - 2) p w (by omega) (by omega) (by omega)
  rw [← finv_pow h ha, epow_yes (primB_yes h) (by omega)] at T
  have hf : p = 2 → finv a p = 1 := by
    intro e
    subst e
    have := finv_spec h ha
    omega
  by_cases e2 : p = 2
  · subst e2
    have h1 := hf rfl
    have T0 := refPow_any a 0 2 w (by omega) (by omega) (by omega)
    have e0 := fpow_yes (a := a) 0 (primB_yes h)
    rw [show ((0 : Nat) : Int) = 0 from rfl] at e0
    rw [e0, Int.pow_zero, epow_yes (primB_yes h) (by omega)] at T0
    have T1 : Calls Tryd.prog 78 #[.int .i64 a, .int .i64 0, .int .i64 2] w fun e w' => e = .returned (.tuple #[.int .i64 1, .int .i64 0]) ∧ w = w' := T0
    rw [h1]
    have TT := Lib.hid T1
    clear T T0 T1 e0 h1 hf h ha
    go_enter Tryd.func51, Tryd.ntmps51
    go_wp2_with (go_at_call 78; (with_reducible refine TT.out.mono ?_); rintro e w' ⟨rfl, rfl⟩)
    go_ret
    exact ⟨rfl, rfl⟩
  · have e3 : (p == 2) = false := by simpa using e2
    generalize finv a p = v at *
    have TT := Lib.hid T
    clear hf e2 T h ha
    go_enter Tryd.func51, Tryd.ntmps51
    go_wp2_with (go_at_call 78; (with_reducible refine TT.out.mono ?_); rintro e w' ⟨rfl, rfl⟩)
    go_ret
    exact ⟨rfl, rfl⟩

/-- A block far below is as it was. -/
theorem IBlk.belowB {w w' : World} {g B : Nat} {L : List Int} (h : IBlk w g L) (hb : Below B w w') (hg : g < B) : IBlk w' g L := ⟨(hb.block g hg).trans h.1, h.2⟩
/-- What is read lies in another block than g. -/
def IApart (A : Option Addr) (ys : List Int) (g : Nat) : Prop := ys = [] ∨ ∀ b o s, A = some ⟨b, o, s⟩ → b ≠ g
theorem ISl.apart {w : World} {A : Option Addr} {n c : Nat} {xs : List Int} (h : ISl w A n c xs) {g : Nat} (hg : w.heap.size ≤ g) : IApart A xs g := by
  rcases h.rd.2 with h | ⟨b, o, rfl, hlt, _⟩
  · exact .inl h
  · refine .inr fun b' o' s' e => ?_
    simp only [Option.some.injEq, Addr.mk.injEq] at e
    omega
theorem ISl.far {w : World} {A : Option Addr} {n c : Nat} {xs : List Int} (h : ISl w A n c xs) {g : Nat} (ha : IApart A xs g) (i : Nat) (u : Value) : ISl (w.setCell ⟨g, i, none⟩ u) A n c xs := by
  refine ⟨h.1, h.2.1, h.2.2.1, h.2.2.2.1, h.rd.1, ?_⟩
  rcases h.rd.2 with h0 | ⟨b, o, rfl, hlt, hc⟩
  · exact .inl h0
  · rcases ha with h0 | hne
    · exact .inl h0
    · refine .inr ⟨b, o, rfl, by simpa [World.setCell] using hlt, fun j hj => ?_⟩
      have hb : b ≠ g := hne b o none rfl
      exact (World.cell?_of_block (w := w) (Below.heap_setCell w ⟨g, i, none⟩ u b hb)).trans (hc j hj)

/-- One step of long division. -/
structure DvIn (p : Int) (K : Nat) (a b : Ser) (m : Nat) (Q r : List Int) : Prop where
  len : Q.length = K
  rs : Rs p Q
  plain : Pln p r
  eq : Ser.Eq p a (Ser.add (Ser.mul (cf Q) b) (cf r))
  free : ∀ i, i + (m + 1) ≤ r.length → cf Q i = 0
  fits : r.length < K

def partL (n : Nat) (c p : Int) (Y : List Int) (u : Nat) : List Int := List.replicate n 0 ++ (Y.take u).map fun y => y * c % p
theorem partL_length (n : Nat) (c p : Int) (Y : List Int) (u : Nat) (hu : u ≤ Y.length) : (partL n c p Y u).length = n + u := by
  simp only [partL, List.length_append, List.length_replicate, List.length_map, List.length_take]; omega
theorem partL_zero (n : Nat) (c p : Int) (Y : List Int) : partL n c p Y 0 = List.replicate n 0 := by simp [partL]
theorem partL_snoc (n : Nat) (c p : Int) (Y : List Int) (u : Nat) (hu : u < Y.length) : partL n c p Y (u + 1) = partL n c p Y u ++ [cf Y u * c % p] := by
  unfold partL
  rw [List.take_succ_eq_append_getElem hu, List.map_append, ← List.append_assoc, cf_at hu]
  rfl
theorem cf_partL (n : Nat) (c p : Int) (Y : List Int) : Ser.Eq p (cf (partL n c p Y Y.length)) (Ser.mul (Ser.mono c n) (cf Y)) := by
  intro i
  rw [Ser.mono_mul_at, partL, cf_append, List.length_replicate, List.take_length]
  by_cases h : i < n
  · rw [if_pos h, if_neg (by omega), cf_replicate]
  · rw [if_neg h, if_pos (by omega), cf_map (fun y => y * c % p) (by simp), Int.emod_emod_of_dvd _ (Int.dvd_refl p), Int.mul_comm]

theorem dv_step {p : Int} {K m : Nat} {a : Ser} {Q r r' Y : List Int} (hp : Pr p) (hY : Pln p Y) (hYl : Y.length = m + 1) (h : DvIn p K a (cf Y) m Q r) (hr : m + 1 ≤ r.length)
    (c : Int) (hc : c = cf r (r.length - 1) * finv (cf Y m) p % p)
    (h' : Pol p r' (Ser.add (cf r) (Ser.sc (-1) (Ser.mul (Ser.mono c (r.length - (m + 1))) (cf Y))))) :
    DvIn p K a (cf Y) m (Q.set (r.length - (m + 1)) c) r' ∧ r'.length < r.length := by
  have h2 := hp.1
  have hYt : cf Y m % p ≠ 0 := by
    have := hY.top (by intro e; rw [e] at hYl; simp at hYl) (by omega)
    rwa [hYl, Nat.add_sub_cancel] at this
  have hc0 : 0 ≤ c ∧ c < p := by rw [hc]; exact ⟨Int.emod_nonneg _ (by omega), Int.emod_lt_of_pos _ (by omega)⟩
  have hfr : cf Q (r.length - (m + 1)) = 0 := h.free _ (by omega)
  have hlt : r'.length < r.length := by
    have : r'.length ≤ r.length - 1 := by
      refine h'.1.len_le (by omega) ((Ser.Bd.eq (f := Ser.add (cf r) (Ser.sc (-1) (Ser.mul (Ser.mono c (r.length - (m + 1))) (cf Y)))) ?_ h'.2.symm))
      intro i hi
      show (cf r i + -1 * Ser.mul (Ser.mono c (r.length - (m + 1))) (cf Y) i) % p = 0
      rw [Ser.mono_mul_at, if_pos (by omega)]
      by_cases e : i = r.length - 1
      · rw [e, show r.length - 1 - (r.length - (m + 1)) = m from by omega, hc]
        have hs := (finv_spec hp hYt).2.2
        generalize cf r (r.length - 1) = R at *
        generalize cf Y m = T at *
        have e1 : R * finv T p % p * T % p = R % p := by
          rw [Int.mul_emod, Int.emod_emod_of_dvd _ (Int.dvd_refl p), ← Int.mul_emod, Int.mul_assoc, Int.mul_comm (finv T p) T, Int.mul_emod, hs, Int.mul_one, Int.emod_emod_of_dvd _ (Int.dvd_refl p)]
        have e2 := Int.emod_eq_emod_iff_emod_sub_eq_zero.1 e1.symm
        rw [show R + -1 * (R * finv T p % p * T) = R - R * finv T p % p * T from by omega]
        exact e2
      · rw [cf_over (by omega), cf_over (xs := Y) (by omega)]
        simp
    omega
  refine ⟨⟨by rw [List.length_set, h.len], h.rs.set _ hc0, h'.1, ?_, fun i hi => ?_, by have := h.fits; omega⟩, hlt⟩
  · refine h.eq.trans ?_
    have e1 : cf (Q.set (r.length - (m + 1)) c) = Ser.add (cf Q) (Ser.mono c (r.length - (m + 1))) := by
      funext i
      rw [cf_set _ _ (by rw [h.len]; have := h.fits; omega)]
      show _ = cf Q i + if i = r.length - (m + 1) then c else 0
      by_cases e : i = r.length - (m + 1)
      · rw [if_pos e, if_pos e, e, hfr, Int.zero_add]
      · rw [if_neg e, if_neg e, Int.add_zero]
    rw [e1, Ser.add_mul]
    intro i
    have h4 := h'.2 i
    show (Ser.mul (cf Q) (cf Y) i + cf r i) % p = (Ser.mul (cf Q) (cf Y) i + Ser.mul (Ser.mono c (r.length - (m + 1))) (cf Y) i + cf r' i) % p
    rw [Int.add_emod _ (cf r' i), h4, ← Int.add_emod]
    show _ = (_ + (cf r i + -1 * Ser.mul (Ser.mono c (r.length - (m + 1))) (cf Y) i)) % p
    congr 1
    omega
  · rw [cf_set _ _ (by rw [h.len]; have := h.fits; omega), if_neg (by omega)]
    exact h.free i (by omega)

/-- A slice of the plain row of a series, no longer than n. -/
def PolIn (p : Int) (f : Ser) (n : Nat) (w : World) (v : Value) : Prop := ∃ C m d ys, v = .slice C m d ∧ ISl w C m d ys ∧ Pol p ys f ∧ m ≤ n

set_option maxHeartbeats 400000 in
theorem refPDiv_not (A B : Option Addr) (n c n' c' : Nat) (p : Int) (w : World) (h0 : In64 p) (hp : ¬ Pr p) :
    Calls Tryd.prog 24 #[.slice A n c, .slice B n' c', .int .i64 p] w fun e w' => e = .returned (.tuple #[.slice none 0 0, .slice none 0 0, .int .i64 1]) ∧ w = w' := by
  have C := refCheck_any p w h0.1 h0.2
  rw [chk_no (primB_no hp)] at C
  have CC := Lib.hid C
  clear C hp h0
  go_enter Tryd.func24, Tryd.ntmps24
  go_wp2_with (go_at_call 43; (with_reducible refine CC.out.mono ?_); rintro e w' ⟨rfl, rfl⟩)
  go_ret3
  exact ⟨rfl, rfl⟩

/-- How long a slice is. -/
def slLen : Value → Nat
  | .slice _ n _ => n
  | _ => 0

/-- What a quotient and a rest are to be. -/
def DivOut (p : Int) (m : Nat) (a b : Ser) (n : Nat) (w : World) (v1 v2 : Value) (w' : World) : Prop :=
  ∃ q r, PolIn p q (n + 1) w' v1 ∧ PolIn p r n w' v2 ∧ IsDiv p m a b q r ∧ Ser.Bd p q (n + 1) ∧ Below w.heap.size w w'

set_option maxHeartbeats 4000000 in
theorem refPDiv_any (A B : Option Addr) (n c n' c' : Nat) (xs ys : List Int) (p : Int) (w : World) (h : ISl w A n c xs) (h' : ISl w B n' c' ys) (hp : Pr p) (hn : n ≤ 1000000000) (hn' : n' ≤ 1000000000) :
    Calls Tryd.prog 24 #[.slice A n c, .slice B n' c', .int .i64 p] w fun e w' =>
      ∃ v1 v2 er, e = .returned (.tuple #[v1, v2, .int .i64 er]) ∧
        ((Ser.Bd p (cf ys) 0 ∧ er = 3 ∧ v1 = .slice none 0 0 ∧ v2 = .slice none 0 0 ∧ Below w.heap.size w w') ∨
         (¬ Ser.Bd p (cf ys) 0 ∧ er = 0 ∧ ∃ m, Ser.Bd p (cf ys) (m + 1) ∧ cf ys m % p ≠ 0 ∧ DivOut p m (cf xs) (cf ys) n w v1 v2 w')) := by
  have H := Lib.hid h
  have H' := Lib.hid h'
  have PR := Lib.hid hp
  have MD := Lib.hid hp.md
  have hp1 := hp.1
  have hp2 := hp.2.1
  have C := refCheck_any p w (by omega) (by omega)
  rw [chk_yes (primB_yes hp)] at C
  have CC := Lib.hid C
  clear h h' C hp
  go_enter Tryd.func24, Tryd.ntmps24
  go_wp2_with (go_at_call 43; (with_reducible refine CC.out.mono ?_); rintro e w' ⟨rfl, rfl⟩)
  refine (plain_any B n' c' ys p w H'.out MD.out (by omega)).mono ?_
  rintro e w1 ⟨v1, rfl, Y, m', d', fy, rfl, hY, py, hmn', -, hb1⟩
  have hpos : 1 ≤ p := by omega
  have PYN := Lib.hid (py.nought hpos)
  by_cases hm0 : m' = 0
  · subst hm0
    have hnil : fy = [] := List.eq_nil_of_length_eq_zero hY.len.symm
    have hb0 := PYN.out.1 hnil
    have HB := Lib.hid hb1
    have HB0 := Lib.hid hb0
    clear hY py hnil hb0 hb1
    go_wp2_with fail
    go_ret3
    exact ⟨_, _, 3, rfl, .inl ⟨HB0.out, rfl, rfl, rfl, HB.out⟩⟩
  · obtain ⟨m, rfl⟩ : ∃ m, m' = m + 1 := ⟨m' - 1, by omega⟩
    have HT : Hid (cf fy m % p ≠ 0) := Lib.hid (by
      have := py.1.top (by intro e; have := hY.len; rw [e] at this; simp at this) hpos
      rwa [← hY.len, Nat.add_sub_cancel] at this)
    have HNB : Hid (¬ Ser.Bd p (cf ys) 0) := Lib.hid (by
      intro hb
      have e := PYN.out.2 hb
      have := hY.len
      rw [e] at this; simp at this)
    have PY := Lib.hid py
    have RY := Lib.hid py.rs
    have HYL := Lib.hid hY.len
    go_wp2_with fail
    refine (plain_any A n c xs p w1 (H.out.below hb1) MD.out (by omega)).mono ?_
    rintro e w2 ⟨v2, rfl, R0, mr0, dr0, fr0, rfl, hR, pr0, hmr0, -, hb2⟩
    have hY2 := hY.below hb2
    have hb12 : Below w.heap.size w w2 := hb1.trans (hb2.mono hb1.size)
    have HB := Lib.hid hb12
    have hszw := hb12.size
    have HY2 := Lib.hid hY2
    have HR2 := Lib.hid hR
    have PR0 := Lib.hid pr0
    have hRle := hR.le
    have hRmx := hR.max
    have hYle := hY.le
    have hYmx := hY.max
    obtain ⟨N, hNe⟩ : ∃ N, N = mr0 + 1 := ⟨_, rfl⟩
    have hN1 : mr0 + 1 ≤ N := by omega
    have hN2 : N ≤ mr0 + 1 := by omega
    have HNE := Lib.hid hNe
    have INV := Lib.hid (fun (w : World) => inverse_any (cf fy m) p w PR.out HT.out)
    have hfi := finv_spec PR.out HT.out
    have HFI := Lib.hid (show finv (cf fy m) p = finv (cf fy m) p from rfl)
    have STEP := Lib.hid (fun Q r r' => @dv_step p N m (cf xs) Q r r' fy PR.out PY.out.1 HYL.out.symm)
    obtain ⟨ti, hti⟩ : ∃ ti, finv (cf fy m) p = ti := ⟨_, rfl⟩
    rw [hti] at hfi
    have HTI := Lib.hid hti
    have INV : Hid (∀ w : World, Calls Tryd.prog 51 #[.int .i64 (cf fy m), .int .i64 p] w fun e w' => e = .returned (.int .i64 ti) ∧ w = w') := Lib.hid (by
      intro w
      have := INV.out w
      rwa [HTI.out] at this)
    have hti1 := hfi.1
    have hti2 := hfi.2.1
    clear hY hY2 hR pr0 py hb1 hb2 hb12 hNe hfi hti
    go_wp2_with (first
      | (at_make; refine wpList_make_ints _ rfl _ _ rfl _ _ _ _ N rfl rfl (by rw [HNE.out]; omega) (by rw [HNE.out]; omega) (by omega) ?_; intro w3 hk3 hb3; obtain ⟨b, o, rfl, hbl, hcy⟩ := HY2.out.cf_ (by omega); have hx := hcy m (by omega); rw [← hb3.cell (p := ⟨b, o + m, none⟩) hbl] at hx; have HK3 := Lib.hid hk3; have HB3 := Lib.hid hb3; clear hcy hk3 hb3)
      | (go_at_call 51; (with_reducible refine (INV.out _).mono ?_); rintro e w' ⟨rfl, rfl⟩))
    go_loopw [10] (fun v wr => ∃ C mr dr fr Q, v = .slice C mr dr ∧ ISl wr C mr dr fr ∧ IBlk wr w2.heap.size Q ∧ DvIn p N (cf xs) (cf fy) m Q fr ∧ IApart C fr w2.heap.size ∧ mr ≤ mr0 ∧ Below w2.heap.size w2 wr) (fun v _ => slLen v)
    case atStart => exact ⟨R0, mr0, dr0, fr0, _, rfl, HR2.out.below HB3.out, HK3.out, ⟨by simp, Rs.zeros _ hpos, PR0.out.1, (PR0.out.2.symm.trans (Ser.Eq.of (by
      have e : cf (List.replicate N 0) = Ser.zer := by funext i; exact cf_replicate N i
      rw [e, Ser.zer_mul, Ser.zer_add]))), fun i _ => cf_replicate N i, by rw [← HR2.out.len]; omega⟩, HR2.out.apart (Nat.le_refl _), Nat.le_refl _, HB3.out⟩
    case round =>
      obtain ⟨C, mr, dr, fr, Q, rfl, hR, hQ, hD, hA, hmle, hbel⟩ := hrel
      clear HK3 HB3 hx
      by_cases hge : m + 1 ≤ mr
      · obtain ⟨nn, rfl⟩ : ∃ nn, mr = nn + (m + 1) := ⟨mr - (m + 1), by omega⟩
        obtain ⟨b1, o1, rfl, hbl1, hcr⟩ := hR.cf_ (by omega)
        have hx := hcr (nn + m) (by omega)
        have hxb := hD.plain.1.at hpos (nn + m)
        have hnK : nn < Q.length := by rw [hD.len]; omega
        have hq1 := hQ.cellD nn hnK
        have hq2 := hQ.frozen nn
        have hxx : cf fr (fr.length - 1) = cf fr (nn + m) := by rw [← hR.len]; congr 1
        obtain ⟨x, hx0⟩ : ∃ x, cf fr (nn + m) = x := ⟨_, rfl⟩
        rw [hx0] at hx hxb hxx
        have bm := mul_bd hxb ⟨by omega, hti2⟩ hp2
        obtain ⟨P, hP⟩ : ∃ P, x * ti = P := ⟨_, rfl⟩
        rw [hP] at bm
        obtain ⟨cc, hcc⟩ : ∃ cc, P % p = cc := ⟨_, rfl⟩
        have hcb : 0 ≤ cc ∧ cc < p := by rw [← hcc]; exact ⟨Int.emod_nonneg _ (by omega), Int.emod_lt_of_pos _ (by omega)⟩
        have hset := hQ.set_ nn cc (by unfold In64; omega)
        have HCC : Hid (cc = cf fr (fr.length - 1) * finv (cf fy m) p % p) := Lib.hid (by rw [hxx, HTI.out, hP, hcc])
        have HFL := Lib.hid hR.len
        have HSE := Lib.hid hset
        have HYS := Lib.hid (((HY2.out.below hbel).far ((HY2.out).apart (Nat.le_refl _)) nn (iv cc)))
        have HRS := Lib.hid (hR.far hA nn (iv cc))
        have HBS := Lib.hid (hbel.setCell (p := ⟨w2.heap.size, nn, none⟩) (Nat.le_refl _) (iv cc))
        have HD := Lib.hid hD
        have hszg : w2.heap.size < wr.heap.size := hQ.lt
        clear hcr hset hxx hx0 hR hQ hD hA hbel hnK hxb
        go_wp2_with fail
        rw [hcc, show decide ((m : Int) + 1 ≤ (nn : Int) + ((m : Int) + 1)) = true from decide_eq_true (by omega), show o1 + (nn + (m + 1) - 1) = o1 + (nn + m) from by omega]
        clear hcc
        have hszg2 : w2.heap.size < (wr.setCell ⟨w2.heap.size, nn, none⟩ (iv cc)).heap.size := by simpa [World.setCell] using hszg
        clear hx hq1 hq2 hszg
        generalize wr.setCell ⟨w2.heap.size, nn, none⟩ (iv cc) = wS at *
        go_loopw [16, 15] (fun i v wq => ∃ t : Nat, t ≤ nn ∧ i = .int .i64 (t : Int) ∧ IOw wq wS.heap.size v (List.replicate t 0) ∧ Below wS.heap.size wS wq) (fun i _ _ => nn - (intOf i).toNat)
        case atStart => exact ⟨0, Nat.zero_le _, rfl, IOw.nil _ _, Below.refl _ _⟩
        case round =>
          obtain ⟨t, ht, rfl, hown, hbel⟩ := hrel
          by_cases hlt : t < nn
          · have hsn : List.replicate (t + 1) (0 : Int) = List.replicate t 0 ++ [0] := by rw [List.replicate_succ']
            have hN := (iblk_list wr [0] (fi_one (by unfold In64; decide))).sl (by simp)
            have HN := Lib.hid hN
            have HO := Lib.hid hown
            have HBB := Lib.hid hbel
            have HS := Lib.hid hsn
            have HL : Hid ((List.replicate t (0 : Int)).length = t) := Lib.hid (by simp)
            have hsz := hbel.size
            clear hN hown hbel hsn
            go_wp2_with (at_builtin; refine iwpList_app _ rfl (.tmp 71) (.tmp 72) rfl wS.heap.size _ _ rfl (HO.out.alloc _) (some ⟨wr.heap.size, 0, none⟩) 1 1 rfl [0] HN.out (by rw [HL.out]; omega) (by simp; omega) ?_; intro v1 w7 ho1 hb3)
            have hb4 : Below wS.heap.size wS w7 := (HBB.out.alloc hsz _).trans hb3
            clear hb3
            rw [← HS.out] at ho1
            go_roundw
            case rel => exact ⟨t + 1, by omega, by go_num, ho1, hb4⟩
            case measure => simp [intOf]; omega
          · obtain rfl : t = nn := by omega
            have HO := Lib.hid hown
            have HBB := Lib.hid hbel
            clear hown hbel
            go_wp2_with fail
            go_loopw [17, 15] (fun i v wq => ∃ u : Nat, u ≤ m + 1 ∧ i = .int .i64 (u : Int) ∧ IOw wq wS.heap.size v (partL t cc p fy u) ∧ Below wS.heap.size wS wq) (fun i _ _ => (m + 1) - (intOf i).toNat)
            case atStart => exact ⟨0, Nat.zero_le _, rfl, by rw [partL_zero]; exact HO.out, HBB.out⟩
            case round =>
              obtain ⟨u, hu, rfl, hown, hbel⟩ := hrel
              clear HO HBB
              by_cases hlt2 : u < m + 1
              · obtain ⟨b3, o3, e3, hbl3, hcy⟩ := HYS.out.cf_ (by omega)
                obtain ⟨rfl, rfl⟩ : b3 = b ∧ o3 = o := by
                  simp only [Option.some.injEq, Addr.mk.injEq, and_true] at e3
                  exact ⟨e3.1.symm, e3.2.symm⟩
                have hy := hcy u hlt2
                rw [← hbel.cell (p := ⟨b3, o3 + u, none⟩) hbl3] at hy
                have hsn := partL_snoc t cc p fy u (by rw [← HYL.out]; exact hlt2)
                have hl := partL_length t cc p fy u (by rw [← HYL.out]; exact hu)
                have yb := RY.out.at hpos u
                obtain ⟨y, hy0⟩ : ∃ y, cf fy u = y := ⟨_, rfl⟩
                rw [hy0] at hy hsn yb
                have bm2 := mul_bd yb hcb hp2
                obtain ⟨P2, hP2⟩ : ∃ P2, y * cc = P2 := ⟨_, rfl⟩
                rw [hP2] at bm2 hsn
                obtain ⟨z, hz⟩ : ∃ z, P2 % p = z := ⟨_, rfl⟩
                have hzb : 0 ≤ z ∧ z < p := by rw [← hz]; exact ⟨Int.emod_nonneg _ (by omega), Int.emod_lt_of_pos _ (by omega)⟩
                rw [hz] at hsn
                have hN := (iblk_list wr [z] (fi_one (by unfold In64; omega))).sl (by simp)
                have HN := Lib.hid hN
                have HO := Lib.hid hown
                have HBB := Lib.hid hbel
                have HS := Lib.hid hsn
                have HL := Lib.hid hl
                have hsz := hbel.size
                clear hN hown hbel hsn hl hcy hy0 e3
                go_wp2_with (at_builtin; refine iwpList_app _ rfl (.tmp 80) (.tmp 89) rfl wS.heap.size _ _ rfl (HO.out.alloc _) (some ⟨wr.heap.size, 0, none⟩) 1 1 rfl [z] HN.out (by rw [HL.out]; omega) (by simp; omega) ?_; intro v1 w7 ho1 hb3)
                have hb4 : Below wS.heap.size wS w7 := (HBB.out.alloc hsz _).trans hb3
                clear hb3
                rw [← HS.out] at ho1
                go_roundw
                case rel => exact ⟨u + 1, by omega, by go_num, ho1, hb4⟩
                case measure => simp [intOf]; omega
              · obtain rfl : u = m + 1 := by omega
                obtain ⟨A', d2, rfl, hs, _⟩ := hown.sl
                have hl := partL_length t cc p fy (m + 1) (by rw [← HYL.out]; exact Nat.le_refl _)
                have hcfp := cf_partL t cc p fy
                rw [← HYL.out] at hcfp
                have T := sum_any (some ⟨b1, o1, none⟩) A' (t + (m + 1)) dr _ d2 fr _ (-1) p wr (HRS.out.below hbel) hs MD.out (by omega) (by omega) (by rw [hl]; omega)
                rw [hl] at T
                rw [hl]
                have TT := Lib.hid T
                have HBB := Lib.hid hbel
                have HCF := Lib.hid hcfp
                have hsz := hbel.size
                clear T hs hown hl hbel hcfp
                go_wp2_with (go_at_call 44; refine TT.out.mono ?_; rintro e w8 ⟨v8, rfl, C8, m8, d8, f8, rfl, hs8, hp8, hm8, hf8, hb8⟩)
                have hst := STEP.out Q fr f8 HD.out (by rw [← HFL.out]; omega) cc HCC.out (by
                  rw [← HFL.out, show t + (m + 1) - (m + 1) = t from by omega]
                  exact hp8.eq ((Ser.Eq.refl p _).add (Ser.Eq.sc rfl HCF.out)))
                rw [← HFL.out, show t + (m + 1) - (m + 1) = t from by omega, ← hs8.len] at hst
                have HST := Lib.hid hst
                clear hst
                go_roundw
                case rel => exact ⟨C8, m8, d8, f8, Q.set t cc, rfl, hs8, (HSE.out.below HBB.out).below hb8, HST.out.1, .inr fun b o s e => by have := hf8 b o s e; omega, by omega, (HBS.out.trans (HBB.out.mono (by omega))).trans (hb8.mono (by omega))⟩
                case measure => simp [slLen]; exact HST.out.2
      · have hQs := hQ.sl (by rw [hD.len]; omega)
        have T := plain_any _ _ _ _ p wr hQs MD.out (by rw [hD.len]; omega)
        rw [hD.len] at T
        have TT := Lib.hid T
        have HD := Lib.hid hD
        have HRS := Lib.hid hR
        have HBB := Lib.hid hbel
        clear T hQs hR hQ hD hA hbel
        go_wp2_with (go_at_call 48; refine TT.out.mono ?_; rintro e w8 ⟨v8, rfl, C8, m8, d8, f8, rfl, hs8, hp8, hm8, -, hb8⟩)
        go_ret3
        have hmul := PY.out.2.mulL (cf Q)
        rw [Ser.mul_comm, Ser.mul_comm (cf ys)] at hmul
        refine ⟨_, _, 0, rfl, .inr ⟨HNB.out, rfl, m, ?_, ?_, cf Q, cf fr, ⟨C8, m8, d8, f8, rfl, hs8, hp8, by omega⟩, ⟨C, mr, dr, fr, rfl, HRS.out.below hb8, Pol.self HD.out.plain, by omega⟩, ⟨HD.out.eq.trans (hmul.add (Ser.Eq.refl p _)), ?_⟩, ?_, ?_⟩⟩
        · exact (Ser.Bd.eq (by rw [HYL.out]; exact bd_len p fy) PY.out.2)
        · rw [← PY.out.2 m]; exact HT.out
        · intro i hi
          rw [cf_over (by rw [← HRS.out.len]; omega)]; simp
        · exact (bd_len p Q).mono (by rw [HD.out.len]; omega)
        · exact (HB.out.trans (HBB.out.mono hszw)).trans (hb8.mono (Nat.le_trans hszw HBB.out.size))
end Go.Proofs.YtbipbpakbanacaaDoor

/- The table of small primes that prime.Is goes through: what it holds, and what a number is that none of them divides. -/
namespace Go.Proofs.YtbipbpakbanacaaDoor
open Go.RowKit

def tblL : List Nat := [2, 3, 5, 7, 11, 13, 17, 19, 23, 29, 31, 37, 41, 43, 47, 53, 59, 61, 67, 71, 73, 79, 83, 89, 97, 101, 103, 107, 109, 113, 127, 131, 137, 139, 149, 151, 157, 163, 167, 173, 179, 181, 191, 193, 197, 199, 211, 223, 227, 229, 233, 239, 241, 251]
def tbl (i : Nat) : Nat := tblL.getD i 0
theorem tbl_cover : (List.range 256).all (fun e => decide (e < 2) || (List.range 54).any (fun j => e % tbl j == 0 && decide (tbl j ≤ e))) = true := by decide +kernel
theorem tbl_sort : (List.range 54).all (fun i => decide (2 ≤ tbl i) && decide (tbl i ≤ 251) && (List.range i).all (fun j => decide (tbl j < tbl i))) = true := by decide +kernel
theorem tbl_bd {i : Nat} (h : i < 54) : 2 ≤ tbl i ∧ tbl i ≤ 251 := by
  have := List.all_eq_true.1 tbl_sort i (List.mem_range.2 h)
  simp only [Bool.and_eq_true, decide_eq_true_eq] at this
  exact this.1
theorem tbl_lt {i j : Nat} (h : i < 54) (hj : j < i) : tbl j < tbl i := by
  have := List.all_eq_true.1 tbl_sort i (List.mem_range.2 h)
  simp only [Bool.and_eq_true, decide_eq_true_eq] at this
  have := List.all_eq_true.1 this.2 j (List.mem_range.2 hj)
  simpa using this
theorem tbl_div {e : Nat} (h2 : 2 ≤ e) (h9 : e < 256) : ∃ j, j < 54 ∧ tbl j ∣ e ∧ tbl j ≤ e := by
  have := List.all_eq_true.1 tbl_cover e (List.mem_range.2 h9)
  simp only [Bool.or_eq_true, decide_eq_true_eq, List.any_eq_true, List.mem_range, Bool.and_eq_true, beq_iff_eq] at this
  rcases this with h | ⟨j, hj, hd, hle⟩
  · omega
  · exact ⟨j, hj, Nat.dvd_of_mod_eq_zero hd, hle⟩
/-- None of the first i divides m, and the square of the next one is above m: so m is a prime. -/
theorem tbl_yes {m i : Nat} (hm2 : 2 ≤ m) (hm9 : m ≤ 65521) (hi : i ≤ 54) (hsq : i < 54 → m < tbl i * tbl i) (hall : ∀ j, j < i → ¬ tbl j ∣ m) : Pr (m : Int) := by
  obtain ⟨d, hd, hd9, hdd⟩ : ∃ d, m < d * d ∧ d ≤ 256 ∧ ∀ j, j < 54 → tbl j < d → j < i := by
    rcases Nat.lt_or_ge i 54 with h | h
    · refine ⟨tbl i, hsq h, by have := tbl_bd h; omega, fun j hj hlt => ?_⟩
      rcases Nat.lt_or_ge j i with k | k
      · exact k
      · rcases Nat.lt_or_ge i j with k2 | k2
        · have := tbl_lt hj k2; omega
        · have : i = j := by omega
          rw [this] at hlt; omega
    · exact ⟨256, by omega, Nat.le_refl _, fun j hj _ => by omega⟩
  refine pr_trial hm2 hm9 d hd (fun e h2 h3 h4 => ?_)
  obtain ⟨j, hj, k1, k2⟩ := tbl_div h2 (by omega)
  exact hall j (hdd j hj (by omega)) (Nat.dvd_trans k1 h4)
theorem tbl_no {m i : Nat} (hi : i < 54) (hle : tbl i * tbl i ≤ m) (hd : m % tbl i = 0) : ¬ Pr (m : Int) := pr_not (tbl_bd hi).1 hle hd

/-- The program's table, as it lies. -/
def TabAt (w : World) : Prop := 0 < w.heap.size ∧ ∀ i, i < 54 → w.cell? ⟨0, i, none⟩ = some (.int .u8 (tbl i : Int))
theorem TabAt.below {w w' : World} (h : TabAt w) (hb : Below w.heap.size w w') : TabAt w' :=
  ⟨Nat.lt_of_lt_of_le h.1 hb.size, fun i hi => (hb.cell (p := ⟨0, i, none⟩) h.1).trans (h.2 i hi)⟩
end Go.Proofs.YtbipbpakbanacaaDoor

/- prime.Is and fp.Check, by their contracts. -/
namespace Go.Proofs.YtbipbpakbanacaaDoor
open Go.RowKit

set_option maxHeartbeats 4000000 in
/-- prime.least, asked for one number alone. -/
theorem pLeast_any (m : Nat) (w : World) (hm2 : 2 ≤ m) (hm9 : m ≤ 65521) (hT : TabAt w) :
    Calls Tryd.prog 89 #[.int .i64 (m : Int), .int .i64 (m : Int)] w fun e w' => e = .returned (.int .i64 (if primB (m : Int) = true then (m : Int) else 0)) ∧ w = w' := by
  have PYES := Lib.hid (fun h : Pr (m : Int) => show (if primB (m : Int) = true then (m : Int) else 0) = (m : Int) by rw [if_pos (primB_yes h)])
  have PNO := Lib.hid (fun h : ¬ Pr (m : Int) => show (if primB (m : Int) = true then (m : Int) else 0) = 0 by rw [primB_no h]; rfl)
  generalize (if primB (m : Int) = true then (m : Int) else 0) = r at *
  have HT := Lib.hid hT
  clear hT
  go_enter Tryd.func89, Tryd.ntmps89
  go_wp2_with fail
  go_step3
  go_wp2_with fail
  go_step3
  go_wp2_with fail
  go_loop [5] (fun n => ∃ k : Nat, n = .int .i64 (k : Int) ∧ (k = m ∨ (k = m + 1 ∧ r = 0))) (fun n => (m + 1 - intOf n).toNat)
  case atStart => exact ⟨m, rfl, .inl rfl⟩
  case round =>
    obtain ⟨k, rfl, hk⟩ := hrel
    rcases hk with rfl | ⟨rfl, rfl⟩
    · go_wp2_with fail
      go_loop [14] (fun i => ∃ j : Nat, i = .int .i64 (j : Int) ∧ j ≤ 54 ∧ Hid (∀ t, t < j → ¬ tbl t ∣ k)) (fun i => (54 - intOf i).toNat)
      case atStart => exact ⟨0, rfl, by omega, Lib.hid fun t ht => absurd ht (Nat.not_lt_zero _)⟩
      case round =>
        obtain ⟨j, rfl, hj, hall⟩ := hrel
        by_cases hlt : j < 54
        · have hc := HT.out.2 j hlt
          have hb := tbl_bd hlt
          have YES := Lib.hid (fun h : k < tbl j * tbl j => tbl_yes hm2 hm9 hj (fun _ => h) hall.out)
          have NO := Lib.hid (fun (h : tbl j * tbl j ≤ k) (h2 : k % tbl j = 0) => tbl_no hlt h h2)
          have ND := Lib.hid (fun (h : ¬ tbl j ∣ k) => (show ∀ t, t < j + 1 → ¬ tbl t ∣ k from fun t ht => by
            rcases Nat.lt_or_ge t j with h1 | h1
            · exact hall.out t h1
            · obtain rfl : t = j := by omega
              exact h))
          obtain ⟨d, hd⟩ : ∃ d, tbl j = d := ⟨_, rfl⟩
          rw [hd] at hc hb YES NO ND
          obtain ⟨D, hD⟩ : ∃ D, D = d * d := ⟨_, rfl⟩
          rw [← hD] at YES NO
          have hDi : (d : Int) * (d : Int) = (D : Int) := by rw [hD]; exact (Int.natCast_mul d d).symm
          have hD9 : D ≤ 63001 := by rw [hD]; exact Nat.mul_le_mul hb.2 hb.2
          have i1 : (0 : Int) ≤ (j : Int) := by omega
          have i2 : (j : Int) < 54 := by omega
          clear hd hD
          by_cases hgt : k < D
          · have e := PYES.out (YES.out hgt)
            subst e
            go_wp2_with fail
            go_ret
            exact ⟨rfl, rfl⟩
          · by_cases hz : k % d = 0
            · have e := PNO.out (NO.out (by omega) hz)
              have hzz : (((k : Int) % (d : Int)) == 0) = true := by simp; omega
              subst e
              clear hz
              go_wp2_with fail
              go_round
              case rel => exact ⟨k + 1, by go_num, .inr ⟨rfl, by trivial⟩⟩
              case measure => simp [intOf]
            · have hzz : (((k : Int) % (d : Int)) == 0) = false := by simp; omega
              have HN := Lib.hid (ND.out fun h => hz (Nat.mod_eq_zero_of_dvd h))
              clear hz
              go_wp2_with fail
              go_round
              case rel => exact ⟨j + 1, by go_num, by omega, HN⟩
              case measure => simp [intOf]; omega
        · obtain rfl : j = 54 := by omega
          have e := PYES.out (tbl_yes hm2 hm9 (Nat.le_refl _) (fun h => absurd h (by decide)) hall.out)
          subst e
          go_wp2_with fail
          go_ret
          exact ⟨rfl, rfl⟩
    · go_wp2_with fail
      go_ret
      exact ⟨rfl, rfl⟩

set_option maxHeartbeats 1000000 in
theorem pIs_any (n : Int) (w : World) (h0 : -9223372036854775808 ≤ n) (h1 : n ≤ 9223372036854775807) (hT : TabAt w) :
    Calls Tryd.prog 67 #[.int .i64 n] w fun e w' => e = .returned (.bool (primB n)) ∧ w = w' := by
  by_cases hlo : n < 2
  · have hp := primB_no (p := n) (fun h => by have := h.1; omega)
    have HP := Lib.hid hp
    clear hp hT
    go_enter Tryd.func67, Tryd.ntmps67
    go_wp2_with fail
    go_ret
    exact ⟨by rw [HP.out]; rfl, rfl⟩
  by_cases hhi : 65521 < n
  · have hp := primB_no (p := n) (fun h => by have := h.2.1; omega)
    have HP := Lib.hid hp
    clear hp hT
    go_enter Tryd.func67, Tryd.ntmps67
    go_wp2_with fail
    go_ret
    exact ⟨by rw [HP.out]; rfl, rfl⟩
  obtain ⟨m, rfl⟩ : ∃ m : Nat, n = (m : Int) := ⟨n.toNat, by omega⟩
  have L := pLeast_any m w (by omega) (by omega) hT
  clear hT
  rcases primB_or (m : Int) with ⟨hb, -⟩ | ⟨hb, -⟩
  · rw [if_pos hb] at L
    have HB := Lib.hid hb
    have LL := Lib.hid L
    clear L hb
    go_enter Tryd.func67, Tryd.ntmps67
    go_wp2_with (go_at_call 89; refine LL.out.mono ?_; rintro e w' ⟨rfl, rfl⟩)
    go_ret
    exact ⟨by rw [HB.out]; rfl, rfl⟩
  · rw [hb, if_neg (by decide)] at L
    have HB := Lib.hid hb
    have LL := Lib.hid L
    have hm0 : (0 == (m : Int)) = false := by simp; omega
    clear L hb
    go_enter Tryd.func67, Tryd.ntmps67
    go_wp2_with (go_at_call 89; refine LL.out.mono ?_; rintro e w' ⟨rfl, rfl⟩)
    go_ret
    exact ⟨by rw [HB.out]; rfl, rfl⟩

theorem pCheck_any (p : Int) (w : World) (h0 : -9223372036854775808 ≤ p) (h1 : p ≤ 9223372036854775807) (hT : TabAt w) :
    Calls Tryd.prog 36 #[.int .i64 p] w fun e w' => e = .returned (.int .i64 (chk p)) ∧ w = w' := by
  have T := pIs_any p w h0 h1 hT
  clear hT
  have hy : primB p = true → chk p = 0 := chk_yes
  have hn : primB p = false → chk p = 1 := chk_no
  generalize primB p = b at *
  generalize chk p = c at *
  have TT := Lib.hid T
  clear T
  rcases b with _ | _
  · have hc := hn rfl
    clear hy hn
    subst hc
    go_enter Tryd.func36, Tryd.ntmps36
    go_wp2_with (go_at_call 67; refine TT.out.mono ?_; rintro e w' ⟨rfl, rfl⟩)
    go_ret
    exact ⟨rfl, rfl⟩
  · have hc := hy rfl
    clear hy hn
    subst hc
    go_enter Tryd.func36, Tryd.ntmps36
    go_wp2_with (go_at_call 67; refine TT.out.mono ?_; rintro e w' ⟨rfl, rfl⟩)
    go_ret
    exact ⟨rfl, rfl⟩
end Go.Proofs.YtbipbpakbanacaaDoor

/- cleaverref05.Add, Sub, Mul, Inv, Div, Pow, by their contracts. -/
namespace Go.Proofs.YtbipbpakbanacaaDoor
open Go.RowKit

theorem inv_none {a p r : Int} (h : Pr p) (hr : a % p = r) (hn : ∀ j : Int, 1 ≤ j → j < p → ¬ r * j % p = 1) : a % p = 0 := by
  rcases Classical.em (a % p = 0) with h0 | h0
  · exact h0
  · have hs := finv_spec h h0
    refine absurd ?_ (hn _ hs.1 hs.2.1)
    rw [← hr, Int.mul_emod, Int.emod_emod_of_dvd _ (Int.dvd_refl _), ← Int.mul_emod]
    exact hs.2.2
theorem inv_found {a p r x : Int} (h : Pr p) (hr : a % p = r) (h1 : 1 ≤ x) (h2 : x < p) (h3 : r * x % p = 1) : finv a p = x ∧ a % p ≠ 0 := by
  have e : a * x % p = 1 := by
    rw [← h3, ← hr]
    rw [Int.mul_emod (a % p), Int.emod_emod_of_dvd _ (Int.dvd_refl _), ← Int.mul_emod]
  refine ⟨finv_eq h ⟨by omega, h2, e⟩, fun h0 => ?_⟩
  rw [Int.mul_emod, h0, Int.zero_mul] at e
  simp at e

end Go.Proofs.YtbipbpakbanacaaDoor

/- An int and a row of ones, also below 0: the rest by a power of two. Mathematics alone. -/
namespace Go.Proofs.YtbipbpakbanacaaDoor

theorem and_ones (n : Int) (k : Nat) (hk : k ≤ 62) : bits .and .i64 n ((2 ^ k - 1 : Nat) : Int) = n % ((2 ^ k : Nat) : Int) := by
  have hpk : 2 ^ k ≤ 2 ^ 62 := Nat.pow_le_pow_right (by decide) hk
  have hpos : 0 < 2 ^ k := Nat.pow_pos (by decide)
  have h1 : (BitVec.ofInt 64 n).toNat = (n % 18446744073709551616).toNat := by
    rw [BitVec.toNat_ofInt]; rfl
  have h2 : (BitVec.ofInt 64 ((2 ^ k - 1 : Nat) : Int)).toNat = 2 ^ k - 1 := by
    rw [BitVec.ofInt_natCast, BitVec.toNat_ofNat]
    exact Nat.mod_eq_of_lt (by omega)
  show IntKind.i64.wrap ((BitVec.ofInt 64 n &&& BitVec.ofInt 64 ((2 ^ k - 1 : Nat) : Int)).toNat : Int) = _
  rw [BitVec.toNat_and, h1, h2, Nat.and_two_pow_sub_one_eq_mod]
  have hlt := Nat.mod_lt (n % 18446744073709551616).toNat hpos
  have e1 : (((n % 18446744073709551616).toNat % 2 ^ k : Nat) : Int) = n % ((2 ^ k : Nat) : Int) := by
    rw [Int.natCast_emod, Int.toNat_of_nonneg (Int.emod_nonneg _ (by decide))]
    refine Int.emod_emod_of_dvd n ?_
    have : (18446744073709551616 : Int) = ((2 ^ k * 2 ^ (64 - k) : Nat) : Int) := by
      rw [← Nat.pow_add, show k + (64 - k) = 64 from by omega]; rfl
    rw [this, Int.natCast_mul]
    exact Int.dvd_mul_right _ _
  rw [e1]
  have h3 : 0 ≤ n % ((2 ^ k : Nat) : Int) := Int.emod_nonneg _ (by omega)
  have h4 : n % ((2 ^ k : Nat) : Int) < ((2 ^ k : Nat) : Int) := Int.emod_lt_of_pos _ (by omega)
  rw [IntKind.wrap_i64]
  omega
theorem and_1 (n : Int) : bits .and .i64 n 1 = n % 2 := and_ones n 1 (by decide)
theorem and_255 (n : Int) : bits .and .i64 n 255 = n % 256 := and_ones n 8 (by decide)
theorem and_65535 (n : Int) : bits .and .i64 n 65535 = n % 65536 := and_ones n 16 (by decide)
theorem and_1048575 (n : Int) : bits .and .i64 n 1048575 = n % 1048576 := and_ones n 20 (by decide)
end Go.Proofs.YtbipbpakbanacaaDoor

/- fp's calls but Inv and Div, by their contracts. -/
namespace Go.Proofs.YtbipbpakbanacaaDoor
open Go.RowKit

theorem pbelow_drewN (w : World) (n : Nat) : Below w.heap.size w (w.drewN n) :=
  have h := Below.refl w.heap.size w
  ⟨h.os, h.tape, h.output, h.size, h.block⟩
theorem quiet_left {P : Program} {f : FuncId} {args : Array Value} {w : World} {n : Nat} {v : Value}
    (h : Calls P f args (w.drewN n) fun e w' => e = .returned v ∧ w.drewN n = w') : Calls P f args (w.drewN n) fun e w'' => e = .returned v ∧ ∃ m, w'' = w.drewN m :=
  h.mono fun _ _ ⟨he, hm⟩ => ⟨he, n, hm.symm⟩

/-- What lies above -p and below p, plain. -/
def lft (a p : Int) : Int := if a < 0 then a + p else a
theorem lft_low {a p : Int} (h : a < 0) : lft a p = a + p := if_pos h
theorem lft_pos {a p : Int} (h : 0 ≤ a) : lft a p = a := if_neg (by omega)
theorem lft_emod {a p : Int} (h : -p < a) (h' : a < p) : lft a p = a % p := by
  rcases Int.lt_or_le a 0 with h0 | h0
  · rw [lft_low h0, ← Int.add_emod_right, Int.emod_eq_of_lt (by omega) (by omega)]
  · rw [lft_pos h0, Int.emod_eq_of_lt h0 h']

theorem pLifted_any (a p : Int) (w : World) (h0 : 0 ≤ p) (h1 : -p ≤ a) (h3 : p ≤ 9223372036854775807) :
    Calls Tryd.prog 80 #[.int .i64 a, .int .i64 p] w fun e w' => e = .returned (.int .i64 (lft a p)) ∧ w = w' := by
  rcases Int.lt_or_le a 0 with h | h
  · rw [lft_low h]
    go_enter Tryd.func80, Tryd.ntmps80
    go_wp2_with fail
    go_ret
    exact ⟨rfl, rfl⟩
  · rw [lft_pos h]
    go_enter Tryd.func80, Tryd.ntmps80
    go_wp2_with fail
    go_ret
    exact ⟨rfl, rfl⟩

theorem pRed_any (a p : Int) (w : World) (h2 : -9223372036854775808 ≤ p) (h3 : p ≤ 9223372036854775807) :
    Calls Tryd.prog 56 #[.int .i64 a, .int .i64 p] w fun e w' => e = .returned (.int .i64 (red a p)) ∧ w = w' := by
  by_cases hp : p < 1
  · have e := red_low (a := a) hp
    generalize red a p = r at *
    subst e
    go_enter Tryd.func56, Tryd.ntmps56
    go_wp2_with fail
    go_ret
    exact ⟨rfl, rfl⟩
  · have e := red_pos (a := a) (show 1 ≤ p by omega)
    have hc := tmod_cases a p (by omega)
    have hl : lft (a.tmod p) p = a % p := by
      rcases hc with ⟨c1, c2, c3⟩ | ⟨c1, c2, c3⟩
      · rw [lft_pos c1, c2]
      · rw [lft_low c1, c2]
    have L := pLifted_any (a.tmod p) p w (by omega) (by omega) h3
    rw [e]
    rw [hl] at L
    obtain ⟨t, ht⟩ : ∃ t, a.tmod p = t := ⟨_, rfl⟩
    obtain ⟨r, hr⟩ : ∃ r, a % p = r := ⟨_, rfl⟩
    rw [ht, hr] at hc
    rw [ht, hr] at L
    rw [hr]
    have LL := Lib.hid L
    clear e hr hl L
    have hc2 : -p < t ∧ t < p := by omega
    clear hc
    go_enter Tryd.func56, Tryd.ntmps56
    go_wp2_with (go_at_call 80; with_reducible refine LL.out.mono ?_; rintro e w' ⟨rfl, rfl⟩)
    go_ret
    exact ⟨rfl, rfl⟩

set_option maxHeartbeats 1000000 in
theorem pAdd_any (a b p : Int) (w : World) (h2 : -9223372036854775808 ≤ p) (h3 : p ≤ 9223372036854775807) (hT : TabAt w) :
    Calls Tryd.prog 39 #[.int .i64 a, .int .i64 b, .int .i64 p] w fun e w' => e = .returned (.tuple #[.int .i64 (fadd a b p), .int .i64 (chk p)]) ∧ w = w' := by
  have C := pCheck_any p w h2 h3 hT
  clear hT
  have R1 := pRed_any a p w h2 h3
  have R2 := pRed_any b p w h2 h3
  rcases primB_or p with ⟨hb, hpr⟩ | ⟨hb, -⟩
  · rw [chk_yes hb] at C ⊢
    rw [(red_pr hpr).1] at R1 R2
    rw [fadd_yes hb, ← add_rests]
    have hx := (red_pr (a := a) hpr).2
    have hy := (red_pr (a := b) hpr).2
    have hp := hpr.2.1
    generalize a % p = x at *
    generalize b % p = y at *
    have R3 := pRed_any (x + y) p w h2 h3
    rw [(red_pr hpr).1] at R3
    generalize (x + y) % p = z at *
    have CC := Lib.hid C
    have RR1 := Lib.hid R1
    have RR2 := Lib.hid R2
    have RR3 := Lib.hid R3
    clear C R1 R2 R3 hb hpr
    go_enter Tryd.func39, Tryd.ntmps39
    go_wp2_with (first
      | (go_at_call 36; with_reducible refine CC.out.mono ?_; rintro e w' ⟨rfl, rfl⟩)
      | (go_at_call 56; with_reducible refine RR1.out.mono ?_; rintro e w' ⟨rfl, rfl⟩)
      | (go_at_call 56; with_reducible refine RR2.out.mono ?_; rintro e w' ⟨rfl, rfl⟩)
      | (go_at_call 56; with_reducible refine RR3.out.mono ?_; rintro e w' ⟨rfl, rfl⟩))
    go_ret2
    exact ⟨rfl, rfl⟩
  · rw [chk_no hb] at C ⊢
    rw [fadd_no hb]
    have CC := Lib.hid C
    clear C R1 R2 hb
    go_enter Tryd.func39, Tryd.ntmps39
    go_wp2_with (go_at_call 36; with_reducible refine CC.out.mono ?_; rintro e w' ⟨rfl, rfl⟩)
    go_ret2
    exact ⟨rfl, rfl⟩

set_option maxHeartbeats 1000000 in
theorem pProduct_any (x y p : Int) (w : World) (hx : 0 ≤ x ∧ x < p) (hy : 0 ≤ y ∧ y < p) (hp : p ≤ 65521) :
    Calls Tryd.prog 68 #[.int .i64 x, .int .i64 y, .int .i64 p] w fun e w' => e = .returned (.int .i64 (x * y % p)) ∧ w = w' := by
  have hm := mul_bd hx hy hp
  obtain ⟨P, hP⟩ : ∃ P, x * y = P := ⟨_, rfl⟩
  rw [hP] at hm ⊢
  have q1 := Int.emod_nonneg P (b := p) (by omega)
  have q2 := Int.emod_lt_of_pos P (b := p) (by omega)
  have hp1 : 1 ≤ p := by omega
  go_enter Tryd.func68, Tryd.ntmps68
  go_wp2_with fail
  go_ret
  exact ⟨rfl, rfl⟩

set_option maxHeartbeats 1000000 in
theorem pMul_any (a b p : Int) (w : World) (h2 : -9223372036854775808 ≤ p) (h3 : p ≤ 9223372036854775807) (hT : TabAt w) :
    Calls Tryd.prog 40 #[.int .i64 a, .int .i64 b, .int .i64 p] w fun e w' => e = .returned (.tuple #[.int .i64 (fmul a b p), .int .i64 (chk p)]) ∧ w = w' := by
  have C := pCheck_any p w h2 h3 hT
  clear hT
  have R1 := pRed_any a p w h2 h3
  have R2 := pRed_any b p w h2 h3
  rcases primB_or p with ⟨hb, hpr⟩ | ⟨hb, -⟩
  · rw [chk_yes hb] at C ⊢
    rw [(red_pr hpr).1] at R1 R2
    rw [fmul_yes hb, ← mul_rests]
    have hx := (red_pr (a := a) hpr).2
    have hy := (red_pr (a := b) hpr).2
    have hp := hpr.2.1
    generalize a % p = x at *
    generalize b % p = y at *
    have R3 := pProduct_any x y p w hx hy hp
    generalize x * y % p = z at *
    have RR3 := Lib.hid R3
    have CC := Lib.hid C
    have RR1 := Lib.hid R1
    have RR2 := Lib.hid R2
    clear C R1 R2 R3 hb hpr
    go_enter Tryd.func40, Tryd.ntmps40
    go_wp2_with (first
      | (go_at_call 36; with_reducible refine CC.out.mono ?_; rintro e w' ⟨rfl, rfl⟩)
      | (go_at_call 56; with_reducible refine RR1.out.mono ?_; rintro e w' ⟨rfl, rfl⟩)
      | (go_at_call 56; with_reducible refine RR2.out.mono ?_; rintro e w' ⟨rfl, rfl⟩)
      | (go_at_call 68; with_reducible refine RR3.out.mono ?_; rintro e w' ⟨rfl, rfl⟩))
    go_ret2
    exact ⟨rfl, rfl⟩
  · rw [chk_no hb] at C ⊢
    rw [fmul_no hb]
    have CC := Lib.hid C
    clear C R1 R2 hb
    go_enter Tryd.func40, Tryd.ntmps40
    go_wp2_with (go_at_call 36; with_reducible refine CC.out.mono ?_; rintro e w' ⟨rfl, rfl⟩)
    go_ret2
    exact ⟨rfl, rfl⟩

theorem and_lowest (j : Nat) : bits .and .i64 (j : Int) 1 = ((j % 2 : Nat) : Int) := by
  rw [and_1, Int.natCast_emod]; rfl

end Go.Proofs.YtbipbpakbanacaaDoor

/- fpoly's coefficient, sumAt, trim, made, by their contracts. -/
namespace Go.Proofs.YtbipbpakbanacaaDoor
open Go.RowKit Go.Shelf

set_option maxHeartbeats 1000000 in
theorem pCoef_any (A : Option Addr) (n c : Nat) (xs : List Int) (k : Nat) (w : World) (h : ISl w A n c xs) (hk : k ≤ 9223372036854775807) :
    Calls Tryd.prog 55 #[.slice A n c, .int .i64 (k : Int)] w fun e w' => e = .returned (.int .i64 (cf xs k)) ∧ w = w' := by
  have hcl := h.le
  have hcm := h.max
  by_cases hlt : k < n
  · obtain ⟨b, o, rfl, _, hc⟩ := h.cf_ (by omega)
    have hx := hc k hlt
    generalize cf xs k = x at *
    clear hc h
    go_enter Tryd.func55, Tryd.ntmps55
    go_wp2_with fail
    go_ret
    exact ⟨rfl, rfl⟩
  · have hz := cf_over (xs := xs) (i := k) (by rw [← h.len]; omega)
    generalize cf xs k = x at *
    subst hz
    clear h
    go_enter Tryd.func55, Tryd.ntmps55
    go_wp2_with fail
    go_ret
    exact ⟨rfl, rfl⟩

def vlen : Value → Nat
  | .slice _ n _ => n
  | _ => 0

set_option maxHeartbeats 2000000 in
theorem pTrim_any (A : Option Addr) (n c : Nat) (xs : List Int) (w : World) (h : ISl w A n c xs) :
    Calls Tryd.prog 79 #[.slice A n c] w fun e w' => ∃ t, e = .returned (.slice A t c) ∧ CutAt xs t ∧ w = w' := by
  have hcl := h.le
  have hcm := h.max
  have OV := Lib.hid (fun i (hi : n ≤ i) => cf_over (xs := xs) (i := i) (by rw [← h.len]; exact hi))
  have HL := Lib.hid h.len
  by_cases hn0 : n = 0
  · subst hn0
    have CUT := Lib.hid (show CutAt xs 0 from ⟨Nat.zero_le _, OV.out, .inl rfl⟩)
    clear OV HL h
    go_enter Tryd.func79, Tryd.ntmps79
    go_wp2_with fail
    go_loop [0] (fun v => v = .slice A 0 c) (fun _ => 0)
    case atStart => rfl
    case round =>
      subst hrel
      go_wp2_with fail
      go_ret
      exact ⟨0, rfl, CUT.out, rfl⟩
  · obtain ⟨b, o, rfl, _, hc⟩ := h.cf_ (by omega)
    have HC := Lib.hid hc
    have hpos : 0 < n := by omega
    clear hc h hn0
    go_enter Tryd.func79, Tryd.ntmps79
    go_wp2_with fail
    go_loop [0] (fun v => ∃ j : Nat, j ≤ n ∧ v = .slice (some ⟨b, o, none⟩) j c ∧ Hid (∀ i, j ≤ i → cf xs i = 0)) (fun v => vlen v)
    case atStart => exact ⟨n, Nat.le_refl _, rfl, OV⟩
    case round =>
      obtain ⟨j, hj, rfl, hz⟩ := hrel
      by_cases hj0 : j = 0
      · subst hj0
        go_wp2_with fail
        go_ret
        exact ⟨0, rfl, ⟨Nat.zero_le _, hz.out, .inl rfl⟩, rfl⟩
      · have hcell := HC.out (j - 1) (by omega)
        have hjpos : 0 < j := by omega
        by_cases hy : cf xs (j - 1) = 0
        · have HY := Lib.hid hy
          rw [hy] at hcell
          clear hy
          go_wp2_with fail
          go_round
          case rel => exact ⟨j - 1, by omega, by go_num, fun i hi => by
            by_cases e : i = j - 1
            · rw [e]; exact HY.out
            · exact hz.out i (by omega)⟩
          case measure => simp [vlen]; omega
        · have HY := Lib.hid hy
          obtain ⟨y, hyy⟩ : ∃ y, cf xs (j - 1) = y := ⟨_, rfl⟩
          rw [hyy] at hcell hy
          have hyb : (y == 0) = false := by simpa using hy
          clear hy hyy
          go_wp2_with fail
          go_ret
          exact ⟨j, rfl, ⟨by rw [← HL.out]; exact hj, hz.out, .inr HY.out⟩, rfl⟩

set_option maxHeartbeats 4000000 in
theorem pSumAt_any (A B : Option Addr) (n c n' c' : Nat) (xs ys : List Int) (k : Nat) (p : Int) (w : World) (h : ISl w A n c xs) (h' : ISl w B n' c' ys) (hp : Md p) (hx : Rs p xs) (hy : Rs p ys) (hk : k ≤ 1000000000000) (hn : n ≤ 1000000000) (hn' : n' ≤ 1000000000000) :
    Calls Tryd.prog 75 #[.slice A n c, .slice B n' c', .int .i64 (k : Int)] w fun e w' => e = .returned (.int .i64 (Ser.mul (cf xs) (cf ys) k)) ∧ ∃ q, w' = w.drewN q := by
  obtain ⟨hp1, hp2⟩ := hp
  have bx := hx.at hp1
  have bY := hy.at hp1
  have hX := h.le
  have hXm := h.max
  have hY := h'.le
  have hYm := h'.max
  have H := Lib.hid h
  have H' := Lib.hid h'
  have BD := Lib.hid (fun i => psum_bd hp2 bx bY k i)
  have LOW := Lib.hid (fun i (hi : i + n' ≤ k + 1) => psum_low (f := cf xs) (g := cf ys) (k := k) (i := i) (fun j hj => cf_over (by rw [← h'.len]; omega)))
  have Z0 := Lib.hid (show psum (cf xs) (cf ys) k 0 = 0 from rfl)
  have END := Lib.hid (fun i (hi : i ≤ k + 1) (hi2 : k + 1 ≤ i ∨ n ≤ i) => show psum (cf xs) (cf ys) k i = Ser.mul (cf xs) (cf ys) k from by
    rcases hi2 with h2 | h2
    · rw [← psum_all]; congr 1; omega
    · exact psum_end (fun j hj => cf_over (by rw [← h.len]; omega)) hi)
  have STEP := Lib.hid (fun i => show psum (cf xs) (cf ys) k (i + 1) = psum (cf xs) (cf ys) k i + cf xs i * cf ys (k - i) from rfl)
  have MB := Lib.hid (fun i j => mul_bdM (bx i) (bY j) hp2)
  generalize Ser.mul (cf xs) (cf ys) k = R at *
  generalize psum (cf xs) (cf ys) k = S at *
  clear bx bY h h' hx hy
  by_cases hkn : k + 1 < n'
  · have hki : (k : Int) - (n' : Int) + 1 ≤ 0 := by omega
    go_enter Tryd.func75, Tryd.ntmps75
    go_wp2_with fail
    go_loopw [7, 8] (fun s i wr => ∃ t : Nat, t ≤ k + 1 ∧ (k + 1 : Int) ≤ (t : Int) + (n' : Int) ∧ i = .int .i64 (t : Int) ∧ s = .int .i64 (S t) ∧ ∃ q, wr = w.drewN q) (fun _ i _ => k + 1 - (intOf i).toNat)
    case atStart => exact ⟨0, by omega, by omega, rfl, by rw [Z0.out], 0, rfl⟩
    case round => 
      obtain ⟨t, ht, htn, rfl, rfl, q, rfl⟩ := hrel
      by_cases hlt : t ≤ k
      · have c1 : (t : Int) ≤ (k : Int) := by omega
        by_cases hln : t < n
        · have c2 : (t : Int) < (n : Int) := by omega
          obtain ⟨b, o, rfl, hbl, hcx⟩ := H.out.cf_ (by omega)
          obtain ⟨b', o', rfl, hbl', hcy⟩ := H'.out.cf_ (by omega)
          have x1 := hcx t hln
          have x2 := hcy (k - t) (by omega)
          have s1 := STEP.out t
          have b1 := MB.out t (k - t)
          have b2 := BD.out t
          generalize cf xs t = x at *
          generalize cf ys (k - t) = y at *
          obtain ⟨P, hP⟩ : ∃ P, x * y = P := ⟨_, rfl⟩
          rw [hP] at s1 b1
          have HS1 := Lib.hid s1
          generalize S t = s at *
          have m1 : IntKind.i64.wrap (x * y) = P := by rw [hP, IntKind.wrap_i64]; omega
          have m2 : IntKind.i64.wrap (s + P) = s + P := by rw [IntKind.wrap_i64]; omega
          have m3 : IntKind.i64.wrap ((k : Int) - (t : Int)) = (k : Int) - (t : Int) := by rw [IntKind.wrap_i64]; omega
          have i1 : (0 : Int) ≤ (t : Int) := by omega
          have i3 : (0 : Int) ≤ (k : Int) - (t : Int) := by omega
          have i4 : (k : Int) - (t : Int) < (n' : Int) := by omega
          have i5 : ((k : Int) - (t : Int)).toNat = k - t := by omega
          have bb1 := b1.1
          have bb2 := b1.2
          have bb3 := b2.1
          have bb4 := b2.2
          clear hcx hcy hP s1 b1 b2
          go_wp2_with fail
          go_quiet (fail)
          go_wp2_with fail
          go_roundw
          case rel => exact ⟨t + 1, by omega, by omega, by go_num, by rw [HS1.out], _, rfl⟩
          case measure => simp [intOf]; omega
        · have c2 : ¬ (t : Int) < (n : Int) := by omega
          have c3 : decide ((t : Int) < (n : Int)) = false := by simp; omega
          have e := END.out t ht (.inr (by omega))
          go_wp2_with fail
          go_ret
          exact ⟨rfl, _, rfl⟩
      · have c1 : ¬ (t : Int) ≤ (k : Int) := by omega
        have c3 : decide ((t : Int) ≤ (k : Int)) = false := by simp; omega
        have e := END.out t ht (.inl (by omega))
        go_wp2_with fail
        go_ret
        exact ⟨rfl, _, rfl⟩
  · have hki : ¬ ((k : Int) - (n' : Int) + 1 < 0) := by omega
    have kn : (k : Int) - (n' : Int) + 1 = ((k + 1 - n' : Nat) : Int) := by omega
    have KN := Lib.hid kn
    clear kn
    go_enter Tryd.func75, Tryd.ntmps75
    go_wp2_with fail
    go_loopw [7, 8] (fun s i wr => ∃ t : Nat, t ≤ k + 1 ∧ (k + 1 : Int) ≤ (t : Int) + (n' : Int) ∧ i = .int .i64 (t : Int) ∧ s = .int .i64 (S t) ∧ ∃ q, wr = w.drewN q) (fun _ i _ => k + 1 - (intOf i).toNat)
    case atStart => exact ⟨k + 1 - n', by omega, by omega, by rw [KN.out], by rw [LOW.out (k + 1 - n') (by omega)], 0, rfl⟩
    case round => 
      obtain ⟨t, ht, htn, rfl, rfl, q, rfl⟩ := hrel
      by_cases hlt : t ≤ k
      · have c1 : (t : Int) ≤ (k : Int) := by omega
        by_cases hln : t < n
        · have c2 : (t : Int) < (n : Int) := by omega
          obtain ⟨b, o, rfl, hbl, hcx⟩ := H.out.cf_ (by omega)
          obtain ⟨b', o', rfl, hbl', hcy⟩ := H'.out.cf_ (by omega)
          have x1 := hcx t hln
          have x2 := hcy (k - t) (by omega)
          have s1 := STEP.out t
          have b1 := MB.out t (k - t)
          have b2 := BD.out t
          generalize cf xs t = x at *
          generalize cf ys (k - t) = y at *
          obtain ⟨P, hP⟩ : ∃ P, x * y = P := ⟨_, rfl⟩
          rw [hP] at s1 b1
          have HS1 := Lib.hid s1
          generalize S t = s at *
          have m1 : IntKind.i64.wrap (x * y) = P := by rw [hP, IntKind.wrap_i64]; omega
          have m2 : IntKind.i64.wrap (s + P) = s + P := by rw [IntKind.wrap_i64]; omega
          have m3 : IntKind.i64.wrap ((k : Int) - (t : Int)) = (k : Int) - (t : Int) := by rw [IntKind.wrap_i64]; omega
          have i1 : (0 : Int) ≤ (t : Int) := by omega
          have i3 : (0 : Int) ≤ (k : Int) - (t : Int) := by omega
          have i4 : (k : Int) - (t : Int) < (n' : Int) := by omega
          have i5 : ((k : Int) - (t : Int)).toNat = k - t := by omega
          have bb1 := b1.1
          have bb2 := b1.2
          have bb3 := b2.1
          have bb4 := b2.2
          clear hcx hcy hP s1 b1 b2
          go_wp2_with fail
          go_quiet (fail)
          go_wp2_with fail
          go_roundw
          case rel => exact ⟨t + 1, by omega, by omega, by go_num, by rw [HS1.out], _, rfl⟩
          case measure => simp [intOf]; omega
        · have c2 : ¬ (t : Int) < (n : Int) := by omega
          have c3 : decide ((t : Int) < (n : Int)) = false := by simp; omega
          have e := END.out t ht (.inr (by omega))
          go_wp2_with fail
          go_ret
          exact ⟨rfl, _, rfl⟩
      · have c1 : ¬ (t : Int) ≤ (k : Int) := by omega
        have c3 : decide ((t : Int) ≤ (k : Int)) = false := by simp; omega
        have e := END.out t ht (.inl (by omega))
        go_wp2_with fail
        go_ret
        exact ⟨rfl, _, rfl⟩

/-- A function value tells each of the first n places. -/
def Tells (g : Nat) (lb : Array Value) (f : Ser) (n : Nat) (w : World) : Prop :=
  ∀ (W : World) (t : Nat), t < n → Below w.heap.size w W → Calls Tryd.prog g (#[.int .i64 (t : Int)] ++ lb) W fun e w' => e = .returned (.int .i64 (f t)) ∧ Below W.heap.size W w'

set_option maxHeartbeats 4000000 in
theorem pMade_any (g : Nat) (lb : Array Value) (eg : ∀ args w, (callFunc g args).run Tryd.prog w = .ok (.enter g args) w) (f : Ser) (n : Nat) (p : Int) (w : World) (hp : Md p) (hT : Tells g lb f n w) (hn : n ≤ 35184372088832) :
    Calls Tryd.prog 53 #[.int .i64 (n : Int), .int .i64 p, .func (.func g) #[] lb] w fun e w' => ∃ v, e = .returned v ∧ PolOut p (fst n f) n w v w' := by
  have MD := Lib.hid hp
  obtain ⟨hp1, hp2⟩ := hp
  have HT := Lib.hid hT
  have RED := Lib.hid (fun (a : Int) (w : World) => show Calls Tryd.prog 56 #[.int .i64 a, .int .i64 p] w fun e w' => e = .returned (.int .i64 (a % p)) ∧ w = w' from by
    have := pRed_any a p w (by omega) (by omega)
    rwa [red_pos hp1] at this)
  clear hT
  go_enter Tryd.func53, Tryd.ntmps53
  go_wp2_with (at_make; refine wpList_make_ints _ rfl _ _ rfl _ _ _ _ n rfl rfl rfl rfl (by omega) ?_; intro w3 hk3 hb3; have HK3 := Lib.hid hk3; clear hk3)
  go_loopw [13] (fun i wr => ∃ t : Nat, t ≤ n ∧ i = .int .i64 (t : Int) ∧ ∃ L, IBlk wr w.heap.size L ∧ MdIn p f n t L ∧ Below w.heap.size w wr) (fun i _ => n - (intOf i).toNat)
  case atStart => exact ⟨0, Nat.zero_le _, rfl, _, HK3.out, mdIn_start hp1 f n, hb3⟩
  case round =>
    obtain ⟨t, ht, rfl, L, hL, hIn, hbel⟩ := hrel
    clear HK3 hb3
    by_cases hlt : t < n
    · have c1 := HT.out wr t hlt hbel
      have hst := hIn.step hp1 hlt
      obtain ⟨u, hu⟩ : ∃ u, f t = u := ⟨_, rfl⟩
      rw [hu] at c1 hst
      have r1 := RED.out u
      have hq0 := Int.emod_nonneg u (b := p) (by omega)
      have hq1 := Int.emod_lt_of_pos u (b := p) (by omega)
      obtain ⟨z, hz⟩ : ∃ z, u % p = z := ⟨_, rfl⟩
      rw [hz] at r1 hst hq0 hq1
      have hf1 := hL.frozen t
      have hll := hIn.1
      have HLL := Lib.hid hll
      have HST := Lib.hid hst
      have C1 := Lib.hid c1
      have R1 := Lib.hid r1
      have HL := Lib.hid hL
      have HBB := Lib.hid hbel
      have i2 : (t : Int) < (n : Int) := by omega
      clear c1 hst r1 hu hz hf1 hll hL hIn hbel
      go_wp2_with (first
        | (go_at_fn g; (with_reducible refine C1.out.mono ?_); rintro e w5 ⟨rfl, hb5⟩; have hL5 := HL.out.below hb5; have HL5 := Lib.hid hL5; have hc5 := hL5.cellD t (by rw [HLL.out]; exact hlt); have hf5 := hL5.frozen t; have HB5 := Lib.hid (HBB.out.trans (hb5.mono HBB.out.size)); clear hb5 hL5)
        | (go_at_call 56; (with_reducible refine (R1.out _).mono ?_); rintro e w6 ⟨rfl, rfl⟩))
      go_roundw
      case rel => exact ⟨t + 1, by omega, by go_num, _, HL5.out.set_ t z (by unfold In64; omega), HST.out, HB5.out.setCell (p := ⟨w.heap.size, t, none⟩) (Nat.le_refl _) _⟩
      case measure => simp [intOf]; omega
    · obtain rfl : t = n := by omega
      have hs := hL.sl (by rw [hIn.1]; omega)
      rw [hIn.1] at hs
      have T := pTrim_any _ _ _ _ wr hs
      have EQ := Lib.hid hIn.eq
      have RS := Lib.hid hIn.2.1
      have TT := Lib.hid T
      have HS := Lib.hid hs
      have HBB := Lib.hid hbel
      have HLL := Lib.hid hIn.1
      clear T hs hIn hL hbel
      go_wp2_with (go_at_call 79; refine TT.out.mono ?_; rintro e w5 ⟨j, rfl, hcut, rfl⟩; have HC := Lib.hid hcut; clear hcut)
      go_ret
      have hj : j ≤ t := by have := HC.out.1; rw [HLL.out] at this; exact this
      exact ⟨_, rfl, _, _, _, _, rfl, HS.out.take j hj, HC.out.pol RS.out EQ.out, hj, fun b o s e => by simp only [Option.some.injEq, Addr.mk.injEq] at e; omega, HBB.out⟩
end Go.Proofs.YtbipbpakbanacaaDoor

/- cleaverref06.Norm, Add, Sub, Mul, by their contracts. -/
namespace Go.Proofs.YtbipbpakbanacaaDoor
open Go.RowKit

set_option maxHeartbeats 400000 in
theorem refNorm_not (A : Option Addr) (n c : Nat) (p : Int) (w : World) (h0 : In64 p) (hp : ¬ Pr p) :
    Calls Tryd.prog 21 #[.slice A n c, .int .i64 p] w fun e w' => e = .returned (.tuple #[.slice none 0 0, .int .i64 1]) ∧ w = w' := by
  have C := refCheck_any p w h0.1 h0.2
  rw [chk_no (primB_no hp)] at C
  have CC := Lib.hid C
  clear C hp h0
  go_enter Tryd.func21, Tryd.ntmps21
  go_wp2_with (go_at_call 43; (with_reducible refine CC.out.mono ?_); rintro e w' ⟨rfl, rfl⟩)
  go_ret2
  exact ⟨rfl, rfl⟩

set_option maxHeartbeats 400000 in
theorem refNorm_any' (A : Option Addr) (n c : Nat) (xs : List Int) (p : Int) (w : World) (h : ISl w A n c xs) (hp : Pr p) (hn : n ≤ 400000000000) :
    Calls Tryd.prog 21 #[.slice A n c, .int .i64 p] w fun e w' => ∃ v, e = .returned (.tuple #[v, .int .i64 0]) ∧ PolOut p (cf xs) n w v w' := by
  have hp1 := hp.1
  have hp2 := hp.2.1
  have C := refCheck_any p w (by omega) (by omega)
  rw [chk_yes (primB_yes hp)] at C
  have T := plain_any A n c xs p w h hp.md (by omega)
  have CC := Lib.hid C
  have TT := Lib.hid T
  clear C T hp h 
  go_enter Tryd.func21, Tryd.ntmps21
  go_wp2_with (first
    | (go_at_call 43; (with_reducible refine CC.out.mono ?_); rintro e w' ⟨rfl, rfl⟩)
    | (go_at_call 48; (with_reducible refine TT.out.mono ?_); rintro e w1 ⟨v1, rfl, hout⟩))
  go_ret2
  exact ⟨v1, rfl, hout⟩

set_option maxHeartbeats 400000 in
theorem refAdd_not (A B : Option Addr) (n c n' c' : Nat) (p : Int) (w : World) (h0 : In64 p) (hp : ¬ Pr p) :
    Calls Tryd.prog 15 #[.slice A n c, .slice B n' c', .int .i64 p] w fun e w' => e = .returned (.tuple #[.slice none 0 0, .int .i64 1]) ∧ w = w' := by
  have C := refCheck_any p w h0.1 h0.2
  rw [chk_no (primB_no hp)] at C
  have CC := Lib.hid C
  clear C hp h0
  go_enter Tryd.func15, Tryd.ntmps15
  go_wp2_with (go_at_call 43; (with_reducible refine CC.out.mono ?_); rintro e w' ⟨rfl, rfl⟩)
  go_ret2
  exact ⟨rfl, rfl⟩

set_option maxHeartbeats 400000 in
theorem refAdd_any' (A B : Option Addr) (n c n' c' : Nat) (xs ys : List Int) (p : Int) (w : World) (h : ISl w A n c xs) (h' : ISl w B n' c' ys) (hp : Pr p) (hn : n ≤ 400000000000) (hn' : n' ≤ 400000000000) :
    Calls Tryd.prog 15 #[.slice A n c, .slice B n' c', .int .i64 p] w fun e w' => ∃ v, e = .returned (.tuple #[v, .int .i64 0]) ∧ PolOut p (Ser.add (cf xs) (Ser.sc 1 (cf ys))) (max n n') w v w' := by
  have hp1 := hp.1
  have hp2 := hp.2.1
  have C := refCheck_any p w (by omega) (by omega)
  rw [chk_yes (primB_yes hp)] at C
  have T := sum_any A B n c n' c' xs ys 1 p w h h' hp.md (by omega) (by omega) (by omega)
  have CC := Lib.hid C
  have TT := Lib.hid T
  clear C T hp h h'
  go_enter Tryd.func15, Tryd.ntmps15
  go_wp2_with (first
    | (go_at_call 43; (with_reducible refine CC.out.mono ?_); rintro e w' ⟨rfl, rfl⟩)
    | (go_at_call 44; (with_reducible refine TT.out.mono ?_); rintro e w1 ⟨v1, rfl, hout⟩))
  go_ret2
  exact ⟨v1, rfl, hout⟩

set_option maxHeartbeats 400000 in
theorem refSub_not (A B : Option Addr) (n c n' c' : Nat) (p : Int) (w : World) (h0 : In64 p) (hp : ¬ Pr p) :
    Calls Tryd.prog 17 #[.slice A n c, .slice B n' c', .int .i64 p] w fun e w' => e = .returned (.tuple #[.slice none 0 0, .int .i64 1]) ∧ w = w' := by
  have C := refCheck_any p w h0.1 h0.2
  rw [chk_no (primB_no hp)] at C
  have CC := Lib.hid C
  clear C hp h0
  go_enter Tryd.func17, Tryd.ntmps17
  go_wp2_with (go_at_call 43; (with_reducible refine CC.out.mono ?_); rintro e w' ⟨rfl, rfl⟩)
  go_ret2
  exact ⟨rfl, rfl⟩

set_option maxHeartbeats 400000 in
theorem refSub_any' (A B : Option Addr) (n c n' c' : Nat) (xs ys : List Int) (p : Int) (w : World) (h : ISl w A n c xs) (h' : ISl w B n' c' ys) (hp : Pr p) (hn : n ≤ 400000000000) (hn' : n' ≤ 400000000000) :
    Calls Tryd.prog 17 #[.slice A n c, .slice B n' c', .int .i64 p] w fun e w' => ∃ v, e = .returned (.tuple #[v, .int .i64 0]) ∧ PolOut p (Ser.add (cf xs) (Ser.sc (-1) (cf ys))) (max n n') w v w' := by
  have hp1 := hp.1
  have hp2 := hp.2.1
  have C := refCheck_any p w (by omega) (by omega)
  rw [chk_yes (primB_yes hp)] at C
  have T := sum_any A B n c n' c' xs ys (-1) p w h h' hp.md (by omega) (by omega) (by omega)
  have CC := Lib.hid C
  have TT := Lib.hid T
  clear C T hp h h'
  go_enter Tryd.func17, Tryd.ntmps17
  go_wp2_with (first
    | (go_at_call 43; (with_reducible refine CC.out.mono ?_); rintro e w' ⟨rfl, rfl⟩)
    | (go_at_call 44; (with_reducible refine TT.out.mono ?_); rintro e w1 ⟨v1, rfl, hout⟩))
  go_ret2
  exact ⟨v1, rfl, hout⟩

set_option maxHeartbeats 400000 in
theorem refMul_not (A B : Option Addr) (n c n' c' : Nat) (p : Int) (w : World) (h0 : In64 p) (hp : ¬ Pr p) :
    Calls Tryd.prog 19 #[.slice A n c, .slice B n' c', .int .i64 p] w fun e w' => e = .returned (.tuple #[.slice none 0 0, .int .i64 1]) ∧ w = w' := by
  have C := refCheck_any p w h0.1 h0.2
  rw [chk_no (primB_no hp)] at C
  have CC := Lib.hid C
  clear C hp h0
  go_enter Tryd.func19, Tryd.ntmps19
  go_wp2_with (go_at_call 43; (with_reducible refine CC.out.mono ?_); rintro e w' ⟨rfl, rfl⟩)
  go_ret2
  exact ⟨rfl, rfl⟩

set_option maxHeartbeats 400000 in
theorem refMul_any' (A B : Option Addr) (n c n' c' : Nat) (xs ys : List Int) (p : Int) (w : World) (h : ISl w A n c xs) (h' : ISl w B n' c' ys) (hp : Pr p) (hn : n ≤ 400000000000) (hn' : n' ≤ 400000000000) :
    Calls Tryd.prog 19 #[.slice A n c, .slice B n' c', .int .i64 p] w fun e w' => ∃ v, e = .returned (.tuple #[v, .int .i64 0]) ∧ PolOut p (Ser.mul (cf xs) (cf ys)) (n + n') w v w' := by
  have hp1 := hp.1
  have hp2 := hp.2.1
  have C := refCheck_any p w (by omega) (by omega)
  rw [chk_yes (primB_yes hp)] at C
  have T := times_any A B n c n' c' xs ys p w h h' hp.md (by omega) (by omega)
  have CC := Lib.hid C
  have TT := Lib.hid T
  clear C T hp h h'
  go_enter Tryd.func19, Tryd.ntmps19
  go_wp2_with (first
    | (go_at_call 43; (with_reducible refine CC.out.mono ?_); rintro e w' ⟨rfl, rfl⟩)
    | (go_at_call 47; (with_reducible refine TT.out.mono ?_); rintro e w1 ⟨v1, rfl, hout⟩))
  go_ret2
  exact ⟨v1, rfl, hout⟩

end Go.Proofs.YtbipbpakbanacaaDoor

/- cleaverref06.Same where both are the same; Monic, Deriv, Eval, by their contracts. -/
namespace Go.Proofs.YtbipbpakbanacaaDoor
open Go.RowKit

set_option maxHeartbeats 1000000 in
theorem polSame (A B : Option Addr) (n c n' c' : Nat) (xs ys : List Int) (w : World) (h : ISl w A n c xs) (h' : ISl w B n' c' ys) (e : xs = ys) :
    Calls Tryd.prog 49 #[.slice A n c, .slice B n' c'] w fun e w' => e = .returned (.bool true) ∧ Below w.heap.size w w' := by
  subst e
  have hnn : n' = n := by rw [h.len, h'.len]
  subst hnn
  have hle := h.le
  have hmx := h.max
  have H := Lib.hid h
  have H' := Lib.hid h'
  clear h h'
  go_enter Tryd.func49, Tryd.ntmps49
  go_wp2
  go_loopw [5] (fun i wr => ∃ k : Nat, k ≤ n' ∧ i = .int .i64 k ∧ Below w.heap.size w wr) (fun i _ => n' - (intOf i).toNat)
  case atStart => exact ⟨0, Nat.zero_le _, rfl, Below.refl _ _⟩
  case round =>
    obtain ⟨k, hk, rfl, hb⟩ := hrel
    by_cases hlt : k < n'
    · obtain ⟨b, o, rfl, hl1, hca⟩ := H.out.cf_ (by omega)
      obtain ⟨b', o', rfl, hl2, hcb⟩ := H'.out.cf_ (by omega)
      have h1 := hca k hlt
      have h2 := hcb k hlt
      rw [← hb.cell (p := ⟨b, o + k, none⟩) hl1] at h1
      rw [← hb.cell (p := ⟨b', o' + k, none⟩) hl2] at h2
      generalize cf xs k = x at *
      have i1 : (0 : Int) ≤ (k : Int) := by omega
      have i2 : (k : Int) < (n' : Int) := by omega
      have HB := Lib.hid hb
      clear hca hcb hb
      go_wp2
      go_quiet (fail)
      go_wp2
      go_roundw
      case rel => exact ⟨k + 1, by omega, by go_num, ibelow_drewN HB.out _⟩
      case measure => simp [intOf]; omega
    · obtain rfl : k = n' := by omega
      go_wp2
      go_ret
      exact ⟨rfl, hb⟩

/-- What Monic makes of a series. -/
def IsMon (p : Int) (f g : Ser) : Prop := (Ser.Bd p f 0 ∧ Ser.Bd p g 0) ∨ ∃ m, Ser.Bd p f (m + 1) ∧ f m % p ≠ 0 ∧ Ser.Eq p g (Ser.sc (finv (f m) p) f)
theorem finv_congr {a b p : Int} (h : Pr p) (e : a % p = b % p) : finv a p = finv b p := by
  rcases Classical.em (a % p = 0) with h0 | h0
  · rw [finv_zero h0, finv_zero (by rw [← e]; exact h0)]
  · have hs := finv_spec h h0
    refine (finv_eq h ⟨by omega, hs.2.1, ?_⟩).symm
    rw [Int.mul_emod, ← e, ← Int.mul_emod]
    exact hs.2.2
theorem top_uniq {p : Int} {f f' : Ser} {m m' : Nat} (e : Ser.Eq p f f') (h : Ser.Bd p f (m + 1)) (h2 : f m % p ≠ 0) (k : Ser.Bd p f' (m' + 1)) (k2 : f' m' % p ≠ 0) : m = m' := by
  rcases Nat.lt_trichotomy m m' with hl | hl | hl
  · exact absurd ((e m').symm.trans (h m' (by omega))) k2
  · exact hl
  · exact absurd ((e m).trans (k m (by omega))) h2
theorem IsMon.uniq {p : Int} {f f' g g' : Ser} (hp : Pr p) (e : Ser.Eq p f f') (h : IsMon p f g) (k : IsMon p f' g') : Ser.Eq p g g' := by
  rcases h with ⟨h1, h2⟩ | ⟨m, h1, h2, h3⟩
  · rcases k with ⟨k1, k2⟩ | ⟨m', k1, k2, k3⟩
    · exact fun i => by rw [h2 i (Nat.zero_le _), k2 i (Nat.zero_le _)]
    · exact absurd ((e m').symm.trans (h1 m' (Nat.zero_le _))) k2
  · rcases k with ⟨k1, k2⟩ | ⟨m', k1, k2, k3⟩
    · exact absurd ((e m).trans (k1 m (Nat.zero_le _))) h2
    · obtain rfl := top_uniq e h1 h2 k1 k2
      refine h3.trans (Ser.Eq.trans (Ser.Eq.sc ?_ e) k3.symm)
      rw [finv_congr hp (e m)]

set_option maxHeartbeats 400000 in
theorem refMonic_not (A : Option Addr) (n c : Nat) (p : Int) (w : World) (h0 : In64 p) (hp : ¬ Pr p) :
    Calls Tryd.prog 26 #[.slice A n c, .int .i64 p] w fun e w' => e = .returned (.tuple #[.slice none 0 0, .int .i64 1]) ∧ w = w' := by
  have C := refCheck_any p w h0.1 h0.2
  rw [chk_no (primB_no hp)] at C
  have CC := Lib.hid C
  clear C hp h0
  go_enter Tryd.func26, Tryd.ntmps26
  go_wp2_with (go_at_call 43; (with_reducible refine CC.out.mono ?_); rintro e w' ⟨rfl, rfl⟩)
  go_ret2
  exact ⟨rfl, rfl⟩

/-- Monic's answer. -/
def MonOut (p : Int) (f : Ser) (n : Nat) (w : World) (v : Value) (w' : World) : Prop := ∃ g, IsMon p f g ∧ PolOut p g n w v w'

theorem cf_one (t : Int) : cf [t] = Ser.con t := by
  funext i
  cases i with
  | zero => rw [cf_cons_zero]; rfl
  | succ i => rw [cf_cons_succ, cf_nil]; rfl

set_option maxHeartbeats 1000000 in
theorem refMonic_any (A : Option Addr) (n c : Nat) (xs : List Int) (p : Int) (w : World) (h : ISl w A n c xs) (hp : Pr p) (hn : n ≤ 400000000000) :
    Calls Tryd.prog 26 #[.slice A n c, .int .i64 p] w fun e w' => ∃ v, e = .returned (.tuple #[v, .int .i64 0]) ∧ MonOut p (cf xs) (n + 1) w v w' := by
  have H := Lib.hid h
  have PR := Lib.hid hp
  have MD := Lib.hid hp.md
  have hp1 := hp.1
  have hp2 := hp.2.1
  have hpos : 1 ≤ p := by omega
  have C := refCheck_any p w (by omega) (by omega)
  rw [chk_yes (primB_yes hp)] at C
  have CC := Lib.hid C
  clear h C hp
  go_enter Tryd.func26, Tryd.ntmps26
  go_wp2_with (go_at_call 43; (with_reducible refine CC.out.mono ?_); rintro e w' ⟨rfl, rfl⟩)
  refine (plain_any A n c xs p w H.out MD.out (by omega)).mono ?_
  rintro e w1 ⟨v1, rfl, X, m', d', fx, rfl, hX, px, hmn', hf1, hb1⟩
  by_cases hm0 : m' = 0
  · subst hm0
    have hnil : fx = [] := List.eq_nil_of_length_eq_zero hX.len.symm
    have hb0 := (px.nought hpos).1 hnil
    have HB := Lib.hid hb1
    have HB0 := Lib.hid hb0
    clear hX px hnil hb0 hb1
    go_wp2_with fail
    go_ret2
    refine ⟨_, rfl, Ser.zer, .inl ⟨HB0.out, fun i _ => by simp [Ser.zer]⟩, none, 0, 0, [], rfl, ⟨rfl, Nat.le_refl _, by decide, fun _ => rfl, IRd.nil _ _⟩, ⟨Pln.nil p, fun i => by rw [cf_nil]; rfl⟩, Nat.zero_le _, (fun b o s e => by cases e), HB.out⟩
  · obtain ⟨m, rfl⟩ : ∃ m, m' = m + 1 := ⟨m' - 1, by omega⟩
    have hT : cf fx m % p ≠ 0 := by
      have := px.1.top (by intro e; have := hX.len; rw [e] at this; simp at this) hpos
      rwa [← hX.len, Nat.add_sub_cancel] at this
    have HT := Lib.hid hT
    have PX := Lib.hid px
    have HXL := Lib.hid hX.len
    have HB := Lib.hid hb1
    have hXle := hX.le
    have hXmx := hX.max
    obtain ⟨b, o, e, hbl, hc⟩ := hX.cf_ (by omega)
    subst e
    have hx := hc m (by omega)
    have INV := Lib.hid (fun w => inverse_any (cf fx m) p w PR.out HT.out)
    have hs := finv_spec PR.out HT.out
    obtain ⟨t, ht⟩ : ∃ t, finv (cf fx m) p = t := ⟨_, rfl⟩
    rw [ht] at hs
    have HTI := Lib.hid ht
    have INV : Hid (∀ w : World, Calls Tryd.prog 51 #[.int .i64 (cf fx m), .int .i64 p] w fun e w' => e = .returned (.int .i64 t) ∧ w = w') := Lib.hid (by
      intro w
      have := INV.out w
      rwa [HTI.out] at this)
    have ht1 := hs.1
    have ht2 := hs.2.1
    have hN := (iblk_list w1 [t] (fi_one (by unfold In64; omega))).sl (by simp)
    have TM := times_any (some ⟨b, o, none⟩) (some ⟨w1.heap.size, 0, none⟩) (m + 1) d' 1 1 fx [t] p (w1.alloc (.cells #[iv t] 3)) (hX.below ((Below.refl _ _).alloc (Nat.le_refl _) _)) hN MD.out (by omega) (by omega)
    have TT := Lib.hid TM
    have hsz := hb1.size
    have HSZ := Lib.hid hsz
    clear hX px hc hs ht hT hN TM hf1 hb1
    go_wp2_with (first
      | (go_at_call 51; (with_reducible refine (INV.out _).mono ?_); rintro e w' ⟨rfl, rfl⟩)
      | (go_at_call 47; (with_reducible refine TT.out.mono ?_); rintro e w5 ⟨v5, rfl, hout⟩))
    go_ret2
    have hbd : Ser.Bd p (cf xs) (m + 1) := Ser.Bd.eq (by rw [HXL.out]; exact bd_len p fx) PX.out.2
    have htop : cf xs m % p ≠ 0 := by rw [← PX.out.2 m]; exact HT.out
    refine ⟨_, rfl, Ser.sc t (cf xs), .inr ⟨m, hbd, htop, ?_⟩, (hout.eq ?_).after (HB.out.trans (((Below.refl _ _).alloc (Nat.le_refl _) _).mono HSZ.out)) (by omega)⟩
    · rw [← finv_congr PR.out (PX.out.2 m), HTI.out]
      exact Ser.Eq.refl p _
    · rw [cf_one, Ser.mul_comm, Ser.con_mul]
      exact Ser.Eq.sc rfl PX.out.2
end Go.Proofs.YtbipbpakbanacaaDoor

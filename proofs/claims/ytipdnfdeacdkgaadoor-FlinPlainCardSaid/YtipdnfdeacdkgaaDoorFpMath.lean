/- The residues by a small prime, as plain functions: what layer 5 answers. Mathematics alone. -/
import Derived.Test.YtipdnfdeacdkgaaDoorFermat
namespace Go.Proofs.YtipdnfdeacdkgaaDoor

/-- An int's bounds. -/
def In64 (n : Int) : Prop := -9223372036854775808 ≤ n ∧ n ≤ 9223372036854775807

/-- A prime that is small. -/
def Pr (p : Int) : Prop := 2 ≤ p ∧ p ≤ 65521 ∧ IsP p.toNat
noncomputable def primB (p : Int) : Bool := @decide (Pr p) (Classical.propDecidable _)
theorem primB_yes {p : Int} (h : Pr p) : primB p = true := @decide_eq_true _ (Classical.propDecidable _) h
theorem primB_no {p : Int} (h : ¬ Pr p) : primB p = false := @decide_eq_false _ (Classical.propDecidable _) h
theorem primB_iff {p : Int} : primB p = true ↔ Pr p := ⟨fun h => @of_decide_eq_true _ (Classical.propDecidable _) h, primB_yes⟩
theorem primB_or (p : Int) : (primB p = true ∧ Pr p) ∨ (primB p = false ∧ ¬ Pr p) := by
  by_cases h : Pr p
  · exact .inl ⟨primB_yes h, h⟩
  · exact .inr ⟨primB_no h, h⟩
/-- A prime by trial. -/
theorem pr_trial {n : Nat} (h2 : 2 ≤ n) (h3 : n ≤ 65521) (d : Nat) (hd : n < d * d) (h : ∀ e, 2 ≤ e → e < d → ¬ e ∣ n) : Pr (n : Int) := by
  refine ⟨by omega, by omega, ?_⟩
  rw [Int.toNat_natCast, isP_small]
  refine ⟨h2, fun e he hee => h e he ?_⟩
  rcases Nat.lt_or_ge e d with h1 | h1
  · exact h1
  · have := Nat.mul_le_mul h1 h1
    omega
theorem pr_not {n d : Nat} (hd : 2 ≤ d) (hdd : d * d ≤ n) (h : n % d = 0) : ¬ Pr (n : Int) := by
  rintro ⟨_, _, h2⟩
  rw [Int.toNat_natCast, isP_small] at h2
  exact h2.2 d hd hdd (Nat.dvd_of_mod_eq_zero h)

/-- The errors. -/
noncomputable def chk (p : Int) : Int := if primB p = true then 0 else 1
theorem chk_yes {p : Int} (h : primB p = true) : chk p = 0 := if_pos h
theorem chk_no {p : Int} (h : primB p = false) : chk p = 1 := if_neg (by rw [h]; decide)

/-- The rest, from 0 on. -/
def red (a p : Int) : Int := if p < 1 then 0 else a % p
theorem red_low {a p : Int} (h : p < 1) : red a p = 0 := if_pos h
theorem red_pos {a p : Int} (h : 1 ≤ p) : red a p = a % p := if_neg (by omega)
theorem red_bd {a p : Int} (h : 1 ≤ p) : 0 ≤ red a p ∧ red a p < p := by
  rw [red_pos h]
  exact ⟨Int.emod_nonneg _ (by omega), Int.emod_lt_of_pos _ (by omega)⟩
theorem tmod_cases (a p : Int) (h : 1 ≤ p) : (0 ≤ a.tmod p ∧ a % p = a.tmod p ∧ a.tmod p < p) ∨ (a.tmod p < 0 ∧ a % p = a.tmod p + p ∧ -p < a.tmod p) := by
  rcases Int.lt_or_le a 0 with h0 | h0
  · have e1 : a.tmod p = -((-a) % p) := by
      have := Int.neg_tmod (-a) p
      rw [Int.neg_neg] at this
      rw [this, Int.tmod_eq_emod_of_nonneg (by omega)]
    have b0 := Int.emod_nonneg (-a) (b := p) (by omega)
    have b1 := Int.emod_lt_of_pos (-a) (b := p) (by omega)
    have c0 := Int.emod_nonneg a (b := p) (by omega)
    have c1 := Int.emod_lt_of_pos a (b := p) (by omega)
    have d1 := Int.emod_add_mul_ediv (-a) p
    have d2 := Int.emod_add_mul_ediv a p
    have key : (a % p + (-a) % p) % p = 0 := by
      rw [← Int.add_emod]
      simp [Int.add_right_neg]
    rcases Int.lt_or_le 0 ((-a) % p) with hp | hp
    · right
      have hs : a % p + (-a) % p = p := by
        have hlt : a % p + (-a) % p < 2 * p := by omega
        have hdv : p ∣ a % p + (-a) % p := Int.dvd_of_emod_eq_zero key
        obtain ⟨k, hk⟩ := hdv
        have hk1 : k = 1 := by
          have h1 : 0 < p * k := by omega
          have h2 : p * k < p * 2 := by omega
          have := Int.lt_of_mul_lt_mul_left h2 (by omega)
          have : 0 < k := by
            rcases Int.lt_or_le 0 k with h | h
            · exact h
            · have := Int.mul_le_mul_of_nonneg_left h (show 0 ≤ p by omega)
              omega
          omega
        rw [hk, hk1, Int.mul_one]
      omega
    · left
      have hz : (-a) % p = 0 := by omega
      rw [hz, Int.add_zero] at key
      have : a % p = 0 := by
        rw [Int.emod_emod_of_dvd a (Int.dvd_refl p)] at key
        exact key
      omega
  · left
    rw [Int.tmod_eq_emod_of_nonneg h0]
    exact ⟨Int.emod_nonneg _ (by omega), rfl, Int.emod_lt_of_pos _ (by omega)⟩

noncomputable def fadd (a b p : Int) : Int := if primB p = true then (a + b) % p else 0
noncomputable def fsub (a b p : Int) : Int := if primB p = true then (a - b) % p else 0
noncomputable def fmul (a b p : Int) : Int := if primB p = true then a * b % p else 0
theorem fadd_yes {a b p : Int} (h : primB p = true) : fadd a b p = (a + b) % p := if_pos h
theorem fadd_no {a b p : Int} (h : primB p = false) : fadd a b p = 0 := if_neg (by rw [h]; decide)
theorem fsub_yes {a b p : Int} (h : primB p = true) : fsub a b p = (a - b) % p := if_pos h
theorem fsub_no {a b p : Int} (h : primB p = false) : fsub a b p = 0 := if_neg (by rw [h]; decide)
theorem fmul_yes {a b p : Int} (h : primB p = true) : fmul a b p = a * b % p := if_pos h
theorem fmul_no {a b p : Int} (h : primB p = false) : fmul a b p = 0 := if_neg (by rw [h]; decide)

/-- The inverse of what isn't 0: there is one, and no other. -/
theorem inv_exZ {a p : Int} (h : Pr p) (ha : a % p ≠ 0) : ∃ x, 1 ≤ x ∧ x < p ∧ a * x % p = 1 := by
  obtain ⟨h2, _, hp⟩ := h
  have b0 := Int.emod_nonneg a (b := p) (by omega)
  obtain ⟨n, hn⟩ : ∃ n : Nat, a % p = (n : Int) := ⟨(a % p).toNat, by omega⟩
  obtain ⟨q, hq⟩ : ∃ q : Nat, p = (q : Int) := ⟨p.toNat, by omega⟩
  subst hq
  have hnd : ¬ q ∣ n := by
    intro hd
    have hlt := Int.emod_lt_of_pos a (b := (q : Int)) (by omega)
    have := Nat.eq_zero_of_dvd_of_lt hd (by omega)
    omega
  rw [Int.toNat_natCast] at hp
  obtain ⟨x, h3, h4, h5⟩ := inv_ex hp hnd
  refine ⟨x, by omega, by omega, ?_⟩
  have : ((n * x % q : Nat) : Int) = 1 := by rw [h5]; rfl
  rw [Int.natCast_emod, Int.natCast_mul, ← hn] at this
  rw [Int.mul_emod, Int.emod_emod_of_dvd _ (Int.dvd_refl _), ← Int.mul_emod] at this
  exact this
theorem inv_uniq {a p x y : Int} (hx : 0 ≤ x ∧ x < p ∧ a * x % p = 1) (hy : 0 ≤ y ∧ y < p ∧ a * y % p = 1) : x = y := by
  have e1 : x * (a * y) % p = x := by
    rw [Int.mul_emod, hy.2.2, Int.mul_one, Int.emod_emod_of_dvd _ (Int.dvd_refl p)]
    exact Int.emod_eq_of_lt hx.1 hx.2.1
  have e2 : y * (a * x) % p = y := by
    rw [Int.mul_emod, hx.2.2, Int.mul_one, Int.emod_emod_of_dvd _ (Int.dvd_refl p)]
    exact Int.emod_eq_of_lt hy.1 hy.2.1
  have e3 : x * (a * y) = y * (a * x) := by grind
  rw [← e1, e3, e2]
open Classical in
noncomputable def finv (a p : Int) : Int := if h : Pr p ∧ a % p ≠ 0 then Classical.choose (inv_exZ h.1 h.2) else 0
theorem finv_spec {a p : Int} (h : Pr p) (ha : a % p ≠ 0) : 1 ≤ finv a p ∧ finv a p < p ∧ a * finv a p % p = 1 := by
  unfold finv
  rw [dif_pos ⟨h, ha⟩]
  exact Classical.choose_spec (inv_exZ h ha)
theorem finv_eq {a p x : Int} (h : Pr p) (hx : 0 ≤ x ∧ x < p ∧ a * x % p = 1) : finv a p = x := by
  have ha : a % p ≠ 0 := by
    intro e
    have := hx.2.2
    rw [Int.mul_emod, e, Int.zero_mul] at this
    simp at this
  have hs := finv_spec h ha
  exact inv_uniq ⟨by omega, hs.2⟩ hx
theorem finv_zero {a p : Int} (ha : a % p = 0) : finv a p = 0 := by
  unfold finv
  rw [dif_neg (fun h => h.2 ha)]
theorem finv_no {a p : Int} (h : ¬ Pr p) : finv a p = 0 := by
  unfold finv
  rw [dif_neg (fun g => h g.1)]
noncomputable def einv (a p : Int) : Int := if primB p = true then (if a % p = 0 then 3 else 0) else 1
theorem einv_no {a p : Int} (h : primB p = false) : einv a p = 1 := if_neg (by rw [h]; decide)
theorem einv_zero {a p : Int} (h : primB p = true) (ha : a % p = 0) : einv a p = 3 := by unfold einv; rw [if_pos h, if_pos ha]
theorem einv_yes {a p : Int} (h : primB p = true) (ha : a % p ≠ 0) : einv a p = 0 := by unfold einv; rw [if_pos h, if_neg ha]
noncomputable def fdiv (a b p : Int) : Int := if primB p = true then (if b % p = 0 then 0 else a * finv b p % p) else 0
theorem fdiv_no {a b p : Int} (h : primB p = false) : fdiv a b p = 0 := if_neg (by rw [h]; decide)
theorem fdiv_zero {a b p : Int} (h : primB p = true) (hb : b % p = 0) : fdiv a b p = 0 := by unfold fdiv; rw [if_pos h, if_pos hb]
theorem fdiv_yes {a b p : Int} (h : primB p = true) (hb : b % p ≠ 0) : fdiv a b p = a * finv b p % p := by unfold fdiv; rw [if_pos h, if_neg hb]

/-- Powers. -/
noncomputable def fpow (a n p : Int) : Int := if primB p = true then (if n < 0 then 0 else a ^ n.toNat % p) else 0
noncomputable def epow (n p : Int) : Int := if primB p = true then (if n < 0 then 1 else 0) else 1
theorem fpow_no {a n p : Int} (h : primB p = false) : fpow a n p = 0 := if_neg (by rw [h]; decide)
theorem fpow_low {a n p : Int} (h : primB p = true) (hn : n < 0) : fpow a n p = 0 := by unfold fpow; rw [if_pos h, if_pos hn]
theorem fpow_yes {a p : Int} (n : Nat) (h : primB p = true) : fpow a (n : Int) p = a ^ n % p := by unfold fpow; rw [if_pos h, if_neg (by omega), Int.toNat_natCast]
theorem epow_no {n p : Int} (h : primB p = false) : epow n p = 1 := if_neg (by rw [h]; decide)
theorem epow_low {n p : Int} (h : primB p = true) (hn : n < 0) : epow n p = 1 := by unfold epow; rw [if_pos h, if_pos hn]
theorem epow_yes {n p : Int} (h : primB p = true) (hn : 0 ≤ n) : epow n p = 0 := by unfold epow; rw [if_pos h, if_neg (by omega)]
theorem fermatZ {p : Int} (h : Pr p) (a : Int) : a ^ p.toNat % p = a % p := by
  obtain ⟨h2, _, hp⟩ := h
  have b0 := Int.emod_nonneg a (b := p) (by omega)
  obtain ⟨n, hn⟩ : ∃ n : Nat, a % p = (n : Int) := ⟨(a % p).toNat, by omega⟩
  obtain ⟨q, hq⟩ : ∃ q : Nat, p = (q : Int) := ⟨p.toNat, by omega⟩
  subst hq
  rw [Int.toNat_natCast] at hp ⊢
  have hf := fermat hp n
  have e : ∀ k : Nat, a ^ k % (q : Int) = ((n ^ k % q : Nat) : Int) := by
    intro k
    rw [Int.natCast_emod, Int.natCast_pow, ← hn]
    induction k with
    | zero => simp
    | succ k ih => rw [Int.pow_succ, Int.pow_succ, Int.mul_emod, ih, ← Int.mul_emod, Int.mul_emod _ (a % (q : Int)), Int.emod_emod_of_dvd a (Int.dvd_refl _), ← Int.mul_emod]
  rw [e q, hf, Int.natCast_emod, ← hn, Int.emod_emod_of_dvd _ (Int.dvd_refl _)]
theorem red_pr {a p : Int} (h : Pr p) : red a p = a % p ∧ 0 ≤ a % p ∧ a % p < p := by
  have h2 := h.1
  exact ⟨red_pos (by omega), Int.emod_nonneg _ (by omega), Int.emod_lt_of_pos _ (by omega)⟩
theorem add_rests (a b p : Int) : (a % p + b % p) % p = (a + b) % p := (Int.add_emod a b p).symm
theorem mul_rests (a b p : Int) : a % p * (b % p) % p = a * b % p := (Int.mul_emod a b p).symm
theorem sub_rests (a b p : Int) : (a % p - b % p) % p = (a - b) % p := (Int.sub_emod a b p).symm
theorem mul_bd {x y p : Int} (h0 : 0 ≤ x ∧ x < p) (h1 : 0 ≤ y ∧ y < p) (hp : p ≤ 65521) : 0 ≤ x * y ∧ x * y ≤ 4292870400 := by
  refine ⟨Int.mul_nonneg h0.1 h1.1, ?_⟩
  have h2 : x * y ≤ 65520 * y := Int.mul_le_mul_of_nonneg_right (by omega) h1.1
  omega

end Go.Proofs.YtipdnfdeacdkgaaDoor

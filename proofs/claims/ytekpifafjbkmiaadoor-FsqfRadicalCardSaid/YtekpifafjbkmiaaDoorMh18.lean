/- Texts joined, in their order: FacD, FacL. -/
import Derived.Test.YtekpifafjbkmiaaDoorMh11
import Derived.Test.YtekpifafjbkmiaaDoorMh17

/- Derivatives and p-th powers: how often what can't be parted divides the greatest common divisor of a polynomial and its derivative; roots. Mathematics alone. -/
namespace Go.Proofs.YtekpifafjbkmiaaDoor
open Ser (Bd)

theorem pw_mulS (f g : Ser) (n : Nat) : Ser.pw (Ser.mul f g) n = Ser.mul (Ser.pw f n) (Ser.pw g n) := by
  induction n with
  | zero => rw [Ser.pw_zero, Ser.pw_zero, Ser.pw_zero, Ser.one_mul]
  | succ n ih =>
    rw [Ser.pw_succ, Ser.pw_succ, Ser.pw_succ, ih, Ser.mul_assoc, Ser.mul_assoc]
    congr 1
    rw [← Ser.mul_assoc, Ser.mul_comm (Ser.pw g n) f, Ser.mul_assoc]
theorem pw_con (c : Int) (n : Nat) : Ser.pw (Ser.con c) n = Ser.con (c ^ n) := by
  induction n with
  | zero => rw [Ser.pw_zero, Int.pow_zero]
  | succ n ih =>
    rw [Ser.pw_succ, ih, Ser.con_mul]
    funext i
    show c ^ n * (if i = 0 then c else 0) = if i = 0 then c ^ (n + 1) else 0
    by_cases h : i = 0
    · rw [if_pos h, if_pos h, Int.pow_succ]
    · rw [if_neg h, if_neg h, Int.mul_zero]
theorem pw_mono (n : Nat) : Ser.pw (Ser.mono 1 1) n = Ser.mono 1 n := by
  induction n with
  | zero => rw [Ser.pw_zero]; funext i; rfl
  | succ n ih =>
    rw [Ser.pw_succ, ih]
    funext i
    rw [Ser.mono_mul_at]
    show (if n ≤ i then 1 * (if i - n = 1 then (1 : Int) else 0) else 0) = if i = n + 1 then 1 else 0
    by_cases h : n ≤ i
    · rw [if_pos h]
      by_cases h2 : i - n = 1
      · rw [if_pos h2, if_pos (by omega)]; rfl
      · rw [if_neg h2, if_neg (by omega)]; rfl
    · rw [if_neg h, if_neg (by omega)]
theorem pw_zer {n : Nat} (h : 1 ≤ n) : Ser.pw Ser.zer n = Ser.zer := by
  obtain ⟨k, rfl⟩ : ∃ k, n = k + 1 := ⟨n - 1, by omega⟩
  rw [Ser.pw_succ, Ser.mul_comm, Ser.zer_mul]
/-- The same coefficients, P times as far apart. -/
def sprd (P : Nat) (f : Ser) : Ser := fun i => if i % P = 0 then f (i / P) else 0
theorem sprd_at (P : Nat) (f : Ser) (i : Nat) : sprd P f i = if i % P = 0 then f (i / P) else 0 := rfl
/-- A p-th power is so. -/
theorem pow_spread {p : Int} (hp : Pr p) (xs : List Int) : Ser.Eq p (Ser.pw (cf xs) p.toNat) (sprd p.toNat (cf xs)) := by
  have h2 := hp.1
  obtain ⟨P, hP⟩ : ∃ P, p.toNat = P := ⟨_, rfl⟩
  have hP2 : 2 ≤ P := by omega
  induction xs with
  | nil =>
    rw [show cf [] = Ser.zer from funext fun i => cf_nil i, pw_zer (by omega)]
    intro i
    rw [sprd_at]
    show (0 : Int) % p = (if i % p.toNat = 0 then (0 : Int) else 0) % p
    split <;> rfl
  | cons x xs ih =>
    have e : cf (x :: xs) = Ser.add (Ser.con x) (Ser.mul (Ser.mono 1 1) (cf xs)) := by
      funext i
      show _ = (if i = 0 then x else 0) + Ser.mul (Ser.mono 1 1) (cf xs) i
      rw [Ser.mono_mul_at]
      cases i with
      | zero => rw [cf_cons_zero]; simp
      | succ i => rw [cf_cons_succ]; simp
    have e1 : Ser.Eq p (Ser.pw (cf (x :: xs)) p.toNat) (Ser.add (Ser.con x) (Ser.mul (Ser.mono 1 p.toNat) (sprd p.toNat (cf xs)))) := by
      rw [e]
      refine (Ser.frob hp _ _).trans (Ser.Eq.add ?_ ?_)
      · rw [pw_con]
        intro i
        show (if i = 0 then x ^ p.toNat else 0) % p = (if i = 0 then x else 0) % p
        split
        · exact fermatZ hp x
        · rfl
      · rw [pw_mulS, pw_mono]
        exact (Ser.Eq.refl p _).mul ih
    refine e1.trans (Ser.Eq.of ?_)
    funext i
    show (if i = 0 then x else 0) + Ser.mul (Ser.mono 1 p.toNat) (sprd p.toNat (cf xs)) i = _
    rw [Ser.mono_mul_at, hP, sprd_at, sprd_at]
    rcases Nat.lt_or_ge i P with hi | hi
    · rw [if_neg (show ¬ P ≤ i by omega), Nat.mod_eq_of_lt hi, Nat.div_eq_of_lt hi, cf_cons_zero, Int.add_zero]
    · obtain ⟨j, rfl⟩ : ∃ j, i = j + P := ⟨i - P, by omega⟩
      rw [if_neg (show ¬ j + P = 0 by omega), if_pos (show P ≤ j + P by omega), Nat.add_sub_cancel, Nat.add_mod_right, Nat.add_div_right _ (by omega)]
      by_cases hj : j % P = 0
      · rw [if_pos hj, if_pos hj, cf_cons_succ]; omega
      · rw [if_neg hj, if_neg hj]; simp

/-- Each P-th coefficient. -/
def rootL (P : Nat) (xs : List Int) : List Int := (List.range ((xs.length + P - 1) / P)).map fun j => cf xs (j * P)
theorem rootL_length (P : Nat) (xs : List Int) : (rootL P xs).length = (xs.length + P - 1) / P := by simp [rootL]
theorem cf_rootL {P : Nat} (hP : 1 ≤ P) (xs : List Int) (j : Nat) : cf (rootL P xs) j = cf xs (j * P) := by
  by_cases h : j < (xs.length + P - 1) / P
  · rw [cf_at (by rw [rootL_length]; exact h)]
    simp [rootL]
  · rw [cf_over (by rw [rootL_length]; omega), cf_over]
    have h1 := Nat.lt_mul_div_succ (xs.length + P - 1) (show 0 < P by omega)
    have h2 : P * ((xs.length + P - 1) / P + 1) ≤ j * P + P := by
      rw [Nat.mul_comm j P, ← Nat.mul_succ]
      exact Nat.mul_le_mul_left P (by omega)
    omega
/-- Where the derivative is nought, it is a p-th power: its root's. -/
theorem root_pow {p : Int} (hp : Pr p) {xs : List Int} (h : Bd p (Ser.der (cf xs)) 0) : Ser.Eq p (cf xs) (Ser.pw (cf (rootL p.toNat xs)) p.toNat) := by
  have h2 := hp.1
  refine Ser.Eq.symm ((pow_spread hp _).trans fun i => ?_)
  rw [sprd_at]
  by_cases hi : i % p.toNat = 0
  · rw [if_pos hi, cf_rootL (by omega), Nat.div_mul_cancel (Nat.dvd_of_mod_eq_zero hi)]
  · rw [if_neg hi]
    obtain ⟨j, rfl⟩ : ∃ j, i = j + 1 := ⟨i - 1, by
      have : i ≠ 0 := fun e => hi (by rw [e]; exact Nat.zero_mod _)
      omega⟩
    have hd : ((j : Int) + 1) * cf xs (j + 1) % p = 0 := h j (Nat.zero_le _)
    have hj : ((j : Int) + 1) % p ≠ 0 := by
      intro e
      refine hi ?_
      have e1 : (((j + 1 : Nat) : Int)) % ((p.toNat : Nat) : Int) = 0 := by rw [Int.toNat_of_nonneg (by omega)]; exact e
      rw [← Int.natCast_emod] at e1
      omega
    rcases Classical.em (cf xs (j + 1) % p = 0) with h0 | h0
    · rw [h0]; rfl
    · exact absurd hd (mul_nz hp hj h0)
theorem bd_der {p : Int} {f : Ser} {m : Nat} (h : Bd p f (m + 1)) : Bd p (Ser.der f) m := fun i hi => by
  show ((i : Int) + 1) * f (i + 1) % p = 0
  rw [Int.mul_emod, h (i + 1) (by omega)]; simp
theorem der_sc (c : Int) (f : Ser) : Ser.der (Ser.sc c f) = Ser.sc c (Ser.der f) := funext fun i => by
  show ((i : Int) + 1) * (c * f (i + 1)) = c * (((i : Int) + 1) * f (i + 1))
  rw [← Int.mul_assoc, ← Int.mul_assoc, Int.mul_comm _ c]
theorem der_pw (f : Ser) (n : Nat) : Ser.der (Ser.pw f (n + 1)) = Ser.sc ((n : Int) + 1) (Ser.mul (Ser.pw f n) (Ser.der f)) := by
  induction n with
  | zero =>
    rw [Ser.pw_succ, Ser.pw_zero, Ser.one_mul, Ser.one_mul]
    funext i
    show _ = (((0 : Nat) : Int) + 1) * _
    simp
  | succ n ih =>
    rw [Ser.pw_succ, der_mul, ih, Ser.sc_mul, Ser.mul_assoc, Ser.mul_comm (Ser.der f) f, ← Ser.mul_assoc, ← Ser.pw_succ]
    funext i
    show ((n : Int) + 1) * Ser.mul (Ser.pw f (n + 1)) (Ser.der f) i + Ser.mul (Ser.pw f (n + 1)) (Ser.der f) i = (((n + 1 : Nat) : Int) + 1) * Ser.mul (Ser.pw f (n + 1)) (Ser.der f) i
    rw [Int.natCast_add, show ((n : Int) + ((1 : Nat) : Int) + 1) = ((n : Int) + 1) + 1 by omega, Int.add_mul ((n : Int) + 1) 1, Int.one_mul]
/-- What can't be parted does not divide its derivative. -/
theorem irr_der {p : Int} {q : Ser} (hp : Pr p) (hq : Irr p q) : ¬ Mult p q (Ser.der q) := by
  intro hd
  have h2 := hp.1
  obtain ⟨m, m1, m2, m3⟩ := hq
  have hf : Fini p (Ser.der q) := fini_der ⟨_, m2.1⟩
  have hz : Bd p (Ser.der q) 0 := Classical.byContradiction fun hn => by
    obtain ⟨j, hj⟩ := last_of hn hf
    have := mult_le hp hj m2.last hd
    exact hj.2 (bd_der m2.1 j this)
  -- q as a row
  obtain ⟨xs, hx⟩ := pol_ex (by omega) q _ m2.1
  have hz2 : Bd p (Ser.der (cf xs)) 0 := hz.eq hx.2.symm.der
  have he := hx.2.symm.trans (root_pow hp hz2)
  have hq0 : Last p q m := m2.last
  have hr : Fini p (cf (rootL p.toNat xs)) := fini_cf p _
  obtain ⟨P, hP⟩ : ∃ P, p.toNat = P + 1 := ⟨p.toNat - 1, by omega⟩
  rw [hP, Ser.pw_succ] at he
  have hn0 : ¬ Bd p (cf (rootL (P + 1) xs)) 0 := fun k => hq0.2 ((he m).trans (by rw [Ser.mul_comm]; exact Ser.mul_nought _ k m))
  rw [hP] at hr
  obtain ⟨j, hj⟩ := last_of hn0 hr
  have hdeg := (hq0.eq he).uniq ((last_pw hp hj P).mul hp hj)
  have hmul : Mult p (cf (rootL (P + 1) xs)) q := ((Mult.refl p _).byL (fini_pw hr P)).eqR he.symm
  rcases m3 _ j hj hmul with rfl | rfl
  · simp at hdeg; omega
  · have : 1 ≤ P := by omega
    have := Nat.mul_le_mul_right j this
    omega
/-- What a polynomial has in common with its derivative: each factor once less, or, if p divides its number, as often. -/
theorem V_der {p : Int} {a g s t : Ser} {m : Nat} (hp : Pr p) (ha : Last p a m) (h : IsBez p a (Ser.der a) g s t) {q : Ser} (hq : Irr p q) :
    V p g q = if p.toNat ∣ V p a q then V p a q else V p a q - 1 := by
  have h2 := hp.1
  obtain ⟨k, hk, _, hv⟩ := V_bez hp ha (fini_der ha.fini) h
  have hv := hv q hq
  obtain ⟨a0, a1, a2, a3⟩ := V_spec hp hq ha
  obtain ⟨mq, _, hmq⟩ := hq.last
  have hda : Ser.Eq p (Ser.der a) (Ser.add (Ser.mul (Ser.der (Ser.pw q (V p a q))) a0) (Ser.mul (Ser.pw q (V p a q)) (Ser.der a0))) :=
    a2.der.trans (Ser.Eq.of (der_mul _ _))
  have hlow : V p g q ≤ V p a q := ((hv _).1 (Nat.le_refl _)).1
  generalize V p a q = n at *
  have hR : Mult p (Ser.pw q n) (Ser.mul (Ser.pw q n) (Ser.der a0)) := (Mult.refl p _).byR (fini_der a1)
  by_cases hd : p.toNat ∣ n
  · rw [if_pos hd]
    refine Nat.le_antisymm hlow ((hv n).2 ⟨Nat.le_refl _, Mult.eqR (Mult.add ?_ hR) hda.symm⟩)
    refine Mult.nought fun i _ => Ser.mul_nought a0 (fun i _ => ?_) i
    rcases Nat.eq_zero_or_pos n with h0 | h0
    · subst h0
      rw [Ser.pw_zero]
      show ((i : Int) + 1) * (if i + 1 = 0 then (1 : Int) else 0) % p = 0
      rw [if_neg (by omega)]; simp
    · obtain ⟨n', rfl⟩ : ∃ n', n = n' + 1 := ⟨n - 1, by omega⟩
      rw [der_pw]
      show ((n' : Int) + 1) * Ser.mul (Ser.pw q n') (Ser.der q) i % p = 0
      have : ((n' : Int) + 1) % p = 0 := by
        have e : ((n' + 1 : Nat) : Int) % ((p.toNat : Nat) : Int) = 0 := by
          rw [← Int.natCast_emod, Nat.mod_eq_zero_of_dvd hd]; rfl
        rw [Int.toNat_of_nonneg (by omega)] at e
        exact e
      rw [Int.mul_emod, this]; simp
  · rw [if_neg hd]
    obtain ⟨n', rfl⟩ : ∃ n', n = n' + 1 := ⟨n - 1, by
      have : n ≠ 0 := fun e => hd (by rw [e]; exact Nat.dvd_zero _)
      omega⟩
    rw [Nat.add_sub_cancel]
    rw [der_pw] at hda
    have hnz : ((n' : Int) + 1) % p ≠ 0 := by
      intro e
      refine hd (Nat.dvd_of_mod_eq_zero ?_)
      have e1 : (((n' + 1 : Nat) : Int)) % ((p.toNat : Nat) : Int) = 0 := by rw [Int.toNat_of_nonneg (by omega)]; exact e
      rw [← Int.natCast_emod] at e1
      omega
    have hup : n' ≤ V p g q := by
      refine (hv n').2 ⟨by omega, Mult.eqR (Mult.add ?_ ?_) hda.symm⟩
      · exact (((Mult.refl p (Ser.pw q n')).byR (fini_der hq.fini)).sc).byR a1
      · rw [Ser.pw_succ]
        exact ((Mult.refl p (Ser.pw q n')).byR hq.fini).byR (fini_der a1)
    refine Nat.le_antisymm (Nat.le_of_lt_succ (Nat.lt_of_not_le fun hc => ?_)) hup
    have hm := ((hv (n' + 1)).1 hc).2
    obtain ⟨u, fu, hu⟩ := hm
    -- what is left over of the sum
    have e1 : Ser.Eq p (Ser.mul (Ser.add u (Ser.sc (-1) (Ser.der a0))) (Ser.pw q (n' + 1))) (Ser.mul (Ser.sc ((n' : Int) + 1) (Ser.mul (Ser.pw q n') (Ser.der q))) a0) := by
      have e2 := hda.symm.trans hu
      rw [Ser.add_mul, Ser.sc_mul]
      intro i
      have e3 : (Ser.mul (Ser.sc ((n' : Int) + 1) (Ser.mul (Ser.pw q n') (Ser.der q))) a0 i + Ser.mul (Ser.pw q (n' + 1)) (Ser.der a0) i) % p = Ser.mul u (Ser.pw q (n' + 1)) i % p := e2 i
      show (Ser.mul u (Ser.pw q (n' + 1)) i + -1 * Ser.mul (Ser.der a0) (Ser.pw q (n' + 1)) i) % p = _
      rw [Int.add_emod, ← e3, ← Int.add_emod, Ser.mul_comm (Ser.der a0)]
      congr 1; omega
    have e4 : Ser.Eq p (Ser.mul (Ser.mul (Ser.add u (Ser.sc (-1) (Ser.der a0))) q) (Ser.pw q n')) (Ser.mul (Ser.sc ((n' : Int) + 1) (Ser.mul (Ser.der q) a0)) (Ser.pw q n')) := by
      refine Ser.Eq.trans (Ser.Eq.of ?_) (e1.trans (Ser.Eq.of ?_))
      · rw [Ser.pw_succ, Ser.mul_assoc, Ser.mul_comm q]
      · rw [Ser.sc_mul, Ser.sc_mul, Ser.mul_assoc, Ser.mul_comm (Ser.pw q n')]
    have fd := fini_der hq.fini
    have e5 := mul_cancel hp ((fu.add (fini_der a1).sc).mul hq.fini) ((fd.mul a1).sc) (last_pw hp hmq n') e4
    have hm1 : Mult p q (Ser.sc ((n' : Int) + 1) (Ser.mul (Ser.der q) a0)) := ((Mult.refl p q).byL (fu.add (fini_der a1).sc)).eqR e5
    have hm2 : Mult p q (Ser.mul (Ser.der q) a0) := (hm1.sc (c := finv ((n' : Int) + 1) p)).eqR (inv_sc hp hnz _)
    rcases irr_mul hp hq fd a1 hm2 with hc | hc
    · exact irr_der hp hq hc
    · exact a3 hc
/-- Each factor's number is a multiple of p just where the derivative is nought. -/
theorem der_nought {p : Int} {a : Ser} {m : Nat} (hp : Pr p) (ha : Last p a m) (h : ∀ q, Irr p q → p.toNat ∣ V p a q) : Bd p (Ser.der a) 0 := by
  obtain ⟨g, s, t, hb, _⟩ := bez_ex hp ha.fini (fini_der ha.fini)
  obtain ⟨k, hk, _, _⟩ := V_bez hp ha (fini_der ha.fini) hb
  have hm := mult_of_V hp m a g k ha hk.last (fun q hq => by rw [V_der hp ha hb hq, if_pos (h q hq)]; exact Nat.le_refl _)
  have hd := hm.trans (hb.divides hp).2
  refine Classical.byContradiction fun hn => ?_
  obtain ⟨j, hj⟩ := last_of hn (fini_der ha.fini)
  have := mult_le hp hj ha hd
  exact hj.2 (bd_der ha.1 j this)
end Go.Proofs.YtekpifafjbkmiaaDoor

/- Monic plain rows: products, quotients, common divisors, roots, and how often what can't be parted divides each. Mathematics alone. -/
namespace Go.Proofs.YtekpifafjbkmiaaDoor
open Ser (Bd)

/-- A monic plain row. -/
def Mn (p : Int) (xs : List Int) : Prop := Pln p xs ∧ xs ≠ [] ∧ Mo p (cf xs) (xs.length - 1)
theorem Mn.last {p : Int} {xs : List Int} (h : Mn p xs) : Last p (cf xs) (xs.length - 1) := h.2.2.last
theorem Mn.pos {p : Int} {xs : List Int} (h : Mn p xs) : 1 ≤ xs.length := by
  have := h.2.1
  cases xs with
  | nil => exact absurd rfl this
  | cons => simp
theorem mn_of {p : Int} {ys : List Int} {g : Ser} {k : Nat} (hp : Pr p) (h : Pol p ys g) (hm : Mo p g k) : Mn p ys ∧ ys.length = k + 1 := by
  have hl := pol_len (by have := hp.1; omega) h hm.last.1 hm.last.2
  refine ⟨⟨h.1, fun e => by rw [e] at hl; simp at hl, ?_⟩, hl⟩
  rw [hl, Nat.add_sub_cancel]
  exact hm.eq h.2.symm
theorem Mn.ext {p : Int} {xs ys : List Int} (hp : Pr p) (h : Mn p xs) (k : Mn p ys) (e : ∀ q, Irr p q → V p (cf xs) q = V p (cf ys) q) : xs = ys :=
  h.1.uniq k.1 (by have := hp.1; omega) (mo_ext hp h.2.2 k.2.2 e)
theorem mn_one {p : Int} (hp : Pr p) : Mn p [1] := (mn_of hp (pol_one hp) (mo_one hp)).1
theorem V_one {p : Int} {q : Ser} (hp : Pr p) (hq : Irr p q) : V p (cf [1]) q = 0 := V_unit hp hq (mn_one hp).last
theorem Mn.len_one {p : Int} {xs : List Int} (hp : Pr p) (h : Mn p xs) : xs.length = 1 ↔ ∀ q, Irr p q → V p (cf xs) q = 0 := by
  constructor
  · intro e q hq
    have := h.last
    rw [e] at this
    exact V_unit hp hq this
  · intro e
    have := unit_of_V hp h.last e
    have := h.pos
    omega
theorem Mn.one_of {p : Int} {xs : List Int} (hp : Pr p) (h : Mn p xs) (e : ∀ q, Irr p q → V p (cf xs) q = 0) : xs = [1] :=
  h.ext hp (mn_one hp) fun q hq => by rw [e q hq, V_one hp hq]
theorem Mn.one_iff {p : Int} {xs : List Int} (hp : Pr p) (h : Mn p xs) : xs.length = 1 ↔ xs = [1] :=
  ⟨fun e => h.one_of hp ((h.len_one hp).1 e), fun e => by rw [e]; rfl⟩
theorem Mn.some_V {p : Int} {xs : List Int} (hp : Pr p) (h : Mn p xs) (e : xs.length ≠ 1) : ∃ q, Irr p q ∧ 1 ≤ V p (cf xs) q := by
  refine Classical.byContradiction fun hn => e ((h.len_one hp).2 fun q hq => ?_)
  refine Nat.eq_zero_of_not_pos fun k => hn ⟨q, hq, k⟩
theorem Mn.len_le {p : Int} {xs ys : List Int} (hp : Pr p) (h : Mn p xs) (k : Mn p ys) (e : ∀ q, Irr p q → V p (cf xs) q ≤ V p (cf ys) q) : xs.length ≤ ys.length := by
  have := mult_le hp k.last h.last (mult_of_V hp _ _ _ _ h.last k.last e)
  have := h.pos
  have := k.pos
  omega
theorem Mn.len_eq {p : Int} {xs ys : List Int} (hp : Pr p) (h : Mn p xs) (k : Mn p ys) (e : ∀ q, Irr p q → V p (cf xs) q ≤ V p (cf ys) q) (hl : ys.length ≤ xs.length) : xs = ys := by
  have h1 := h.len_le hp k e
  have hl2 : ys.length = xs.length := by omega
  have hm := mult_of_V hp _ _ _ _ h.last k.last e
  have hy := k.last
  rw [hl2] at hy
  have hm2 := mult_swap hp h.last hy hm
  exact h.ext hp k fun q hq => Nat.le_antisymm (e q hq) (V_le hp hq k.last h.last hm2)
theorem V_le_deg {p : Int} {f q : Ser} {m : Nat} (hp : Pr p) (hq : Irr p q) (hf : Last p f m) : V p f q ≤ m := by
  obtain ⟨k, k1, k2⟩ := hq.last
  have := mult_le hp hf (last_pw hp k2 _) ((V_mult hp hq hf _).2 (Nat.le_refl _))
  exact Nat.le_trans (Nat.le_mul_of_pos_right _ k1) this
theorem Mn.V_lt {p : Int} {xs : List Int} {q : Ser} (hp : Pr p) (h : Mn p xs) (hq : Irr p q) : V p (cf xs) q < xs.length := by
  have := V_le_deg hp hq h.last
  have := h.pos
  omega

theorem mn_mul {p : Int} {xs ys : List Int} (hp : Pr p) (h : Mn p xs) (k : Mn p ys) :
    Mn p (polL p (Ser.mul (cf xs) (cf ys))) ∧ (polL p (Ser.mul (cf xs) (cf ys))).length + 1 = xs.length + ys.length ∧ ∀ q, Irr p q → V p (cf (polL p (Ser.mul (cf xs) (cf ys)))) q = V p (cf xs) q + V p (cf ys) q := by
  have hP := polL_pol (f := Ser.mul (cf xs) (cf ys)) hp ((fini_cf p xs).mul (fini_cf p ys))
  obtain ⟨h1, h2⟩ := mn_of hp hP (h.2.2.mul hp k.2.2)
  have := h.pos
  have := k.pos
  exact ⟨h1, by omega, fun q hq => by rw [V_congr hP.2, V_mul hp hq h.last k.last]⟩
theorem mn_quo {p : Int} {xs ys : List Int} (hp : Pr p) (h : Mn p xs) (k : Mn p ys) (e : ∀ q, Irr p q → V p (cf ys) q ≤ V p (cf xs) q) :
    Mn p (quoL p (cf xs) (cf ys)) ∧ (quoL p (cf xs) (cf ys)).length + ys.length = xs.length + 1 ∧ ∀ q, Irr p q → V p (cf (quoL p (cf xs) (cf ys))) q = V p (cf xs) q - V p (cf ys) q := by
  obtain ⟨u, fu, hu⟩ := mult_of_V hp _ _ _ _ k.last h.last e
  obtain ⟨j, hj, hjd⟩ := last_quo hp h.last k.last fu hu
  have hP := polL_pol hp fu
  have hq : quoL p (cf xs) (cf ys) = polL p u := quoL_is (r := Ser.zer) hp k.last fu ⟨by rw [Ser.add_zer]; exact hu, fun i _ => by simp [Ser.zer]⟩ hP
  have hm : Mo p u j := by
    refine ⟨hj.1, ?_⟩
    have e1 := hu (xs.length - 1)
    rw [h.2.2.2, hjd, (Ser.mul_top hj.1 k.last.1).1, Int.mul_emod, k.2.2.2, Int.mul_one, Int.emod_emod_of_dvd _ (Int.dvd_refl p)] at e1
    exact e1.symm
  obtain ⟨h1, h2⟩ := mn_of hp hP hm
  rw [hq]
  have := h.pos
  have := k.pos
  refine ⟨h1, by omega, fun q hq => ?_⟩
  have e2 : V p (cf xs) q = V p u q + V p (cf ys) q := by rw [V_congr hu, V_mul hp hq hj k.last]
  rw [V_congr hP.2]
  omega
theorem mn_bez {p : Int} {xs : List Int} {b : Ser} (hp : Pr p) (h : Mn p xs) (hb : Fini p b) :
    ∃ g s t, IsBez p (cf xs) b g s t ∧ Pol p (bezG p (cf xs) b) g ∧ Mn p (bezG p (cf xs) b) ∧ (bezG p (cf xs) b).length ≤ xs.length := by
  obtain ⟨g, s, t, hg, h1, _⟩ := bez_ex hp (fini_cf p xs) hb
  obtain ⟨k, hk, hkl, _⟩ := V_bez hp h.last hb hg
  obtain ⟨a1, a2⟩ := mn_of hp h1 hk
  have := h.pos
  exact ⟨g, s, t, hg, h1, a1, by omega⟩
theorem mn_gcd {p : Int} {xs ys : List Int} (hp : Pr p) (h : Mn p xs) (k : Mn p ys) :
    Mn p (bezG p (cf xs) (cf ys)) ∧ (bezG p (cf xs) (cf ys)).length ≤ xs.length ∧ ∀ q, Irr p q → V p (cf (bezG p (cf xs) (cf ys))) q = min (V p (cf xs) q) (V p (cf ys) q) := by
  obtain ⟨g, s, t, hg, h1, a1, a2⟩ := mn_bez hp h (fini_cf p ys)
  exact ⟨a1, a2, fun q hq => by rw [V_congr h1.2]; exact V_gcd hp h.last k.last hg hq⟩
/-- With the derivative. -/
theorem mn_gcdD {p : Int} {xs : List Int} (hp : Pr p) (h : Mn p xs) :
    Mn p (bezG p (cf xs) (cf (polL p (Ser.der (cf xs))))) ∧ (bezG p (cf xs) (cf (polL p (Ser.der (cf xs))))).length ≤ xs.length ∧
      ∀ q, Irr p q → V p (cf (bezG p (cf xs) (cf (polL p (Ser.der (cf xs)))))) q = if p.toNat ∣ V p (cf xs) q then V p (cf xs) q else V p (cf xs) q - 1 := by
  have hd := cf_polL hp (fini_der (fini_cf p xs))
  obtain ⟨g, s, t, hg, h1, a1, a2⟩ := mn_bez hp h (fini_cf p (polL p (Ser.der (cf xs))))
  obtain ⟨g', s', t', hg', _⟩ := bez_ex hp (fini_cf p xs) (fini_der (fini_cf p xs))
  have hu := (hg.uniq hp hg' (Ser.Eq.refl _ _) hd).1
  exact ⟨a1, a2, fun q hq => by rw [V_congr (h1.2.trans hu)]; exact V_der hp h.last hg' hq⟩
theorem V_sc {p c : Int} {f q : Ser} {m : Nat} (hp : Pr p) (hq : Irr p q) (hc : c % p ≠ 0) (hf : Last p f m) : V p (Ser.sc c f) q = V p f q := by
  rw [← Ser.con_mul, V_mul hp hq (last_con hc) hf, V_unit hp hq (last_con hc), Nat.zero_add]
theorem mn_mon {p : Int} {f : Ser} {m : Nat} (hp : Pr p) (hf : Last p f m) : Mn p (monL p f) ∧ (monL p f).length = m + 1 ∧ Ser.Eq p (cf (monL p f)) (Ser.sc (finv (f m) p) f) ∧ ∀ q, Irr p q → V p (cf (monL p f)) q = V p f q := by
  have hs := finv_spec hp hf.2
  have hP := polL_pol (f := Ser.sc (finv (f m) p) f) hp hf.fini.sc
  have e : monL p f = polL p (Ser.sc (finv (f m) p) f) := monL_is hp (.inr ⟨m, hf.1, hf.2, Ser.Eq.refl _ _⟩) hP
  have hmo : Mo p (Ser.sc (finv (f m) p) f) m := by
    refine ⟨fun i hi => ?_, ?_⟩
    · show finv (f m) p * f i % p = 0
      rw [Int.mul_emod, hf.1 i hi]; simp
    · show finv (f m) p * f m % p = 1
      rw [Int.mul_comm]; exact hs.2.2
  obtain ⟨a1, a2⟩ := mn_of hp hP hmo
  rw [e]
  refine ⟨a1, a2, hP.2, fun q hq => ?_⟩
  rw [V_congr hP.2]
  exact V_sc hp hq (by rw [Int.emod_eq_of_lt (by omega) (by omega)]; omega) hf
theorem der_nil {p : Int} {xs : List Int} (hp : Pr p) (h : Mn p xs) : polL p (Ser.der (cf xs)) = [] ↔ ∀ q, Irr p q → p.toNat ∣ V p (cf xs) q := by
  rw [polL_zero hp (fini_der (fini_cf p xs))]
  refine ⟨fun hd q hq => ?_, fun hd => der_nought hp h.last hd⟩
  have e := root_pow hp hd
  have h2 := hp.1
  have hn : ¬ Bd p (cf (rootL p.toNat xs)) 0 := fun k => by
    refine h.last.2 ((e (xs.length - 1)).trans ?_)
    obtain ⟨P, hP⟩ : ∃ P, p.toNat = P + 1 := ⟨p.toNat - 1, by omega⟩
    rw [hP, Ser.pw_succ, Ser.mul_comm]
    rw [hP] at k
    exact Ser.mul_nought _ k _
  obtain ⟨j, hj⟩ := last_of hn (fini_cf p _)
  rw [V_congr e, V_pw hp hq hj]
  exact Nat.dvd_mul_right _ _
theorem mn_root {p : Int} {xs : List Int} (hp : Pr p) (h : Mn p xs) (hd : ∀ q, Irr p q → p.toNat ∣ V p (cf xs) q) :
    Mn p (rootL p.toNat xs) ∧ xs.length - 1 = p.toNat * ((rootL p.toNat xs).length - 1) ∧ ∀ q, Irr p q → V p (cf xs) q = p.toNat * V p (cf (rootL p.toNat xs)) q := by
  have h2 := hp.1
  have e := root_pow hp (der_nought hp h.last hd)
  have hn : ¬ Bd p (cf (rootL p.toNat xs)) 0 := fun k => by
    refine h.last.2 ((e (xs.length - 1)).trans ?_)
    obtain ⟨P, hP⟩ : ∃ P, p.toNat = P + 1 := ⟨p.toNat - 1, by omega⟩
    rw [hP, Ser.pw_succ, Ser.mul_comm]
    rw [hP] at k
    exact Ser.mul_nought _ k _
  obtain ⟨j, hj⟩ := last_of hn (fini_cf p _)
  have hdeg := (h.last.eq e).uniq (last_pw hp hj _)
  have hP1 : 1 ≤ p.toNat := by omega
  have hlen : (rootL p.toNat xs).length = j + 1 := by
    have := h.pos
    rw [rootL_length, show xs.length + p.toNat - 1 = p.toNat * (j + 1) by rw [Nat.mul_succ]; omega, Nat.mul_div_cancel_left _ (by omega)]
  have htop : cf (rootL p.toNat xs) j = cf xs (xs.length - 1) := by rw [cf_rootL hP1, hdeg, Nat.mul_comm]
  have hr : Rs p (rootL p.toNat xs) := Rs.of_at fun i hi => by
    rw [cf_rootL hP1]
    exact h.1.1.at (by omega) _
  have h1 : cf xs (xs.length - 1) % p = 1 := h.2.2.2
  refine ⟨⟨⟨hr, .inr ?_⟩, fun k => by rw [k] at hlen; simp at hlen, ?_⟩, ?_, fun q hq => ?_⟩
  · rw [hlen, Nat.add_sub_cancel, htop]
    intro k
    rw [k] at h1
    simp at h1
  · rw [hlen, Nat.add_sub_cancel]
    exact ⟨hj.1, by rw [htop]; exact h1⟩
  · rw [hlen, Nat.add_sub_cancel, hdeg, Nat.mul_comm]
  · rw [V_congr e, V_pw hp hq hj]
end Go.Proofs.YtekpifafjbkmiaaDoor

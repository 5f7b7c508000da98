/- Texts joined, in their order: FacL. -/
import Derived.Test.YtnkhhndjbanmnaaGreatDoorMp12
import Derived.Test.YtnkhhndjbanmnaaGreatDoorMp18

/- Monic plain rows: products, quotients, common divisors, roots, and how often what can't be parted divides each. Mathematics alone. -/
namespace Go.Proofs.YtnkhhndjbanmnaaGreatDoor
open Ser (Bd)

def Mn (p : Int) (xs : List Int) : Prop := Pln p xs ∧ xs ≠ [] ∧ Mo p (cf xs) (xs.length - 1)
theorem Mn.last {p : Int} {xs : List Int} (h : Mn p xs) : Last p (cf xs) (xs.length - 1) := h.2.2.last
theorem Mn.pos {p : Int} {xs : List Int} (h : Mn p xs) : 1 ≤ xs.length := by
  have := h.2.1
  cases xs with
  | nil => exact absurd rfl this
  | cons => simp
theorem mn_of {p : Int} {ys : List Int} {g : Ser} {k : Nat} (hp : Pr p) (h : Pol p ys g) (hm : Mo p g k) : Mn p ys ∧ ys.length = k + 1 := by
  have hl := pol_len (by have := hp.1; omega) h hm.last.1 hm.last.2
  refine ⟨⟨h.1, fun e => by rw [e] at hl; simp at hl, ?_⟩, hl⟩
  rw [hl, Nat.add_sub_cancel]
  exact hm.eq h.2.symm
theorem Mn.ext {p : Int} {xs ys : List Int} (hp : Pr p) (h : Mn p xs) (k : Mn p ys) (e : ∀ q, Irr p q → V p (cf xs) q = V p (cf ys) q) : xs = ys :=
  h.1.uniq k.1 (by have := hp.1; omega) (mo_ext hp h.2.2 k.2.2 e)
theorem mn_one {p : Int} (hp : Pr p) : Mn p [1] := (mn_of hp (pol_one hp) (mo_one hp)).1
theorem V_one {p : Int} {q : Ser} (hp : Pr p) (hq : Irr p q) : V p (cf [1]) q = 0 := V_unit hp hq (mn_one hp).last
theorem Mn.len_one {p : Int} {xs : List Int} (hp : Pr p) (h : Mn p xs) : xs.length = 1 ↔ ∀ q, Irr p q → V p (cf xs) q = 0 := by
  constructor
  · intro e q hq
    have := h.last
    rw [e] at this
    exact V_unit hp hq this
  · intro e
    have := unit_of_V hp h.last e
    have := h.pos
    omega
theorem Mn.one_of {p : Int} {xs : List Int} (hp : Pr p) (h : Mn p xs) (e : ∀ q, Irr p q → V p (cf xs) q = 0) : xs = [1] :=
  h.ext hp (mn_one hp) fun q hq => by rw [e q hq, V_one hp hq]
theorem Mn.one_iff {p : Int} {xs : List Int} (hp : Pr p) (h : Mn p xs) : xs.length = 1 ↔ xs = [1] :=
  ⟨fun e => h.one_of hp ((h.len_one hp).1 e), fun e => by rw [e]; rfl⟩
theorem Mn.some_V {p : Int} {xs : List Int} (hp : Pr p) (h : Mn p xs) (e : xs.length ≠ 1) : ∃ q, Irr p q ∧ 1 ≤ V p (cf xs) q := by
  refine Classical.byContradiction fun hn => e ((h.len_one hp).2 fun q hq => ?_)
  refine Nat.eq_zero_of_not_pos fun k => hn ⟨q, hq, k⟩
theorem Mn.len_le {p : Int} {xs ys : List Int} (hp : Pr p) (h : Mn p xs) (k : Mn p ys) (e : ∀ q, Irr p q → V p (cf xs) q ≤ V p (cf ys) q) : xs.length ≤ ys.length := by
  have := mult_le hp k.last h.last (mult_of_V hp _ _ _ _ h.last k.last e)
  have := h.pos
  have := k.pos
  omega
theorem Mn.len_eq {p : Int} {xs ys : List Int} (hp : Pr p) (h : Mn p xs) (k : Mn p ys) (e : ∀ q, Irr p q → V p (cf xs) q ≤ V p (cf ys) q) (hl : ys.length ≤ xs.length) : xs = ys := by
  have h1 := h.len_le hp k e
  have hl2 : ys.length = xs.length := by omega
  have hm := mult_of_V hp _ _ _ _ h.last k.last e
  have hy := k.last
  rw [hl2] at hy
  have hm2 := mult_swap hp h.last hy hm
  exact h.ext hp k fun q hq => Nat.le_antisymm (e q hq) (V_le hp hq k.last h.last hm2)
theorem V_le_deg {p : Int} {f q : Ser} {m : Nat} (hp : Pr p) (hq : Irr p q) (hf : Last p f m) : V p f q ≤ m := by
  obtain ⟨k, k1, k2⟩ := hq.last
  have := mult_le hp hf (last_pw hp k2 _) ((V_mult hp hq hf _).2 (Nat.le_refl _))
  exact Nat.le_trans (Nat.le_mul_of_pos_right _ k1) this
theorem Mn.V_lt {p : Int} {xs : List Int} {q : Ser} (hp : Pr p) (h : Mn p xs) (hq : Irr p q) : V p (cf xs) q < xs.length := by
  have := V_le_deg hp hq h.last
  have := h.pos
  omega

theorem mn_mul {p : Int} {xs ys : List Int} (hp : Pr p) (h : Mn p xs) (k : Mn p ys) :
    Mn p (polL p (Ser.mul (cf xs) (cf ys))) ∧ (polL p (Ser.mul (cf xs) (cf ys))).length + 1 = xs.length + ys.length ∧ ∀ q, Irr p q → V p (cf (polL p (Ser.mul (cf xs) (cf ys)))) q = V p (cf xs) q + V p (cf ys) q := by
  have hP := polL_pol (f := Ser.mul (cf xs) (cf ys)) hp ((fini_cf p xs).mul (fini_cf p ys))
  obtain ⟨h1, h2⟩ := mn_of hp hP (h.2.2.mul hp k.2.2)
  have := h.pos
  have := k.pos
  exact ⟨h1, by omega, fun q hq => by rw [V_congr hP.2, V_mul hp hq h.last k.last]⟩
theorem mn_quo {p : Int} {xs ys : List Int} (hp : Pr p) (h : Mn p xs) (k : Mn p ys) (e : ∀ q, Irr p q → V p (cf ys) q ≤ V p (cf xs) q) :
    Mn p (quoL p (cf xs) (cf ys)) ∧ (quoL p (cf xs) (cf ys)).length + ys.length = xs.length + 1 ∧ ∀ q, Irr p q → V p (cf (quoL p (cf xs) (cf ys))) q = V p (cf xs) q - V p (cf ys) q := by
  obtain ⟨u, fu, hu⟩ := mult_of_V hp _ _ _ _ k.last h.last e
  obtain ⟨j, hj, hjd⟩ := last_quo hp h.last k.last fu hu
  have hP := polL_pol hp fu
  have hq : quoL p (cf xs) (cf ys) = polL p u := quoL_is (r := Ser.zer) hp k.last fu ⟨by rw [Ser.add_zer]; exact hu, fun i _ => by simp [Ser.zer]⟩ hP
  have hm : Mo p u j := by
    refine ⟨hj.1, ?_⟩
    have e1 := hu (xs.length - 1)
    rw [h.2.2.2, hjd, (Ser.mul_top hj.1 k.last.1).1, Int.mul_emod, k.2.2.2, Int.mul_one, Int.emod_emod_of_dvd _ (Int.dvd_refl p)] at e1
    exact e1.symm
  obtain ⟨h1, h2⟩ := mn_of hp hP hm
  rw [hq]
  have := h.pos
  have := k.pos
  refine ⟨h1, by omega, fun q hq => ?_⟩
  have e2 : V p (cf xs) q = V p u q + V p (cf ys) q := by rw [V_congr hu, V_mul hp hq hj k.last]
  rw [V_congr hP.2]
  omega
theorem mn_bez {p : Int} {xs : List Int} {b : Ser} (hp : Pr p) (h : Mn p xs) (hb : Fini p b) :
    ∃ g s t, IsBez p (cf xs) b g s t ∧ Pol p (bezG p (cf xs) b) g ∧ Mn p (bezG p (cf xs) b) ∧ (bezG p (cf xs) b).length ≤ xs.length := by
  obtain ⟨g, s, t, hg, h1, _⟩ := bez_ex hp (fini_cf p xs) hb
  obtain ⟨k, hk, hkl, _⟩ := V_bez hp h.last hb hg
  obtain ⟨a1, a2⟩ := mn_of hp h1 hk
  have := h.pos
  exact ⟨g, s, t, hg, h1, a1, by omega⟩
theorem mn_gcd {p : Int} {xs ys : List Int} (hp : Pr p) (h : Mn p xs) (k : Mn p ys) :
    Mn p (bezG p (cf xs) (cf ys)) ∧ (bezG p (cf xs) (cf ys)).length ≤ xs.length ∧ ∀ q, Irr p q → V p (cf (bezG p (cf xs) (cf ys))) q = min (V p (cf xs) q) (V p (cf ys) q) := by
  obtain ⟨g, s, t, hg, h1, a1, a2⟩ := mn_bez hp h (fini_cf p ys)
  exact ⟨a1, a2, fun q hq => by rw [V_congr h1.2]; exact V_gcd hp h.last k.last hg hq⟩
theorem mn_gcdD {p : Int} {xs : List Int} (hp : Pr p) (h : Mn p xs) :
    Mn p (bezG p (cf xs) (cf (polL p (Ser.der (cf xs))))) ∧ (bezG p (cf xs) (cf (polL p (Ser.der (cf xs))))).length ≤ xs.length ∧
      ∀ q, Irr p q → V p (cf (bezG p (cf xs) (cf (polL p (Ser.der (cf xs)))))) q = if p.toNat ∣ V p (cf xs) q then V p (cf xs) q else V p (cf xs) q - 1 := by
  have hd := cf_polL hp (fini_der (fini_cf p xs))
  obtain ⟨g, s, t, hg, h1, a1, a2⟩ := mn_bez hp h (fini_cf p (polL p (Ser.der (cf xs))))
  obtain ⟨g', s', t', hg', _⟩ := bez_ex hp (fini_cf p xs) (fini_der (fini_cf p xs))
  have hu := (hg.uniq hp hg' (Ser.Eq.refl _ _) hd).1
  exact ⟨a1, a2, fun q hq => by rw [V_congr (h1.2.trans hu)]; exact V_der hp h.last hg' hq⟩
theorem V_sc {p c : Int} {f q : Ser} {m : Nat} (hp : Pr p) (hq : Irr p q) (hc : c % p ≠ 0) (hf : Last p f m) : V p (Ser.sc c f) q = V p f q := by
  rw [← Ser.con_mul, V_mul hp hq (last_con hc) hf, V_unit hp hq (last_con hc), Nat.zero_add]
theorem mn_mon {p : Int} {f : Ser} {m : Nat} (hp : Pr p) (hf : Last p f m) : Mn p (monL p f) ∧ (monL p f).length = m + 1 ∧ Ser.Eq p (cf (monL p f)) (Ser.sc (finv (f m) p) f) ∧ ∀ q, Irr p q → V p (cf (monL p f)) q = V p f q := by
  have hs := finv_spec hp hf.2
  have hP := polL_pol (f := Ser.sc (finv (f m) p) f) hp hf.fini.sc
  have e : monL p f = polL p (Ser.sc (finv (f m) p) f) := monL_is hp (.inr ⟨m, hf.1, hf.2, Ser.Eq.refl _ _⟩) hP
  have hmo : Mo p (Ser.sc (finv (f m) p) f) m := by
    refine ⟨fun i hi => ?_, ?_⟩
    · show finv (f m) p * f i % p = 0
      rw [Int.mul_emod, hf.1 i hi]; simp
    · show finv (f m) p * f m % p = 1
      rw [Int.mul_comm]; exact hs.2.2
  obtain ⟨a1, a2⟩ := mn_of hp hP hmo
  rw [e]
  refine ⟨a1, a2, hP.2, fun q hq => ?_⟩
  rw [V_congr hP.2]
  exact V_sc hp hq (by rw [Int.emod_eq_of_lt (by omega) (by omega)]; omega) hf
theorem mn_root {p : Int} {xs : List Int} (hp : Pr p) (h : Mn p xs) (hd : ∀ q, Irr p q → p.toNat ∣ V p (cf xs) q) :
    Mn p (rootL p.toNat xs) ∧ xs.length - 1 = p.toNat * ((rootL p.toNat xs).length - 1) ∧ ∀ q, Irr p q → V p (cf xs) q = p.toNat * V p (cf (rootL p.toNat xs)) q := by
  have h2 := hp.1
  have e := root_pow hp (der_nought hp h.last hd)
  have hn : ¬ Bd p (cf (rootL p.toNat xs)) 0 := fun k => by
    refine h.last.2 ((e (xs.length - 1)).trans ?_)
    obtain ⟨P, hP⟩ : ∃ P, p.toNat = P + 1 := ⟨p.toNat - 1, by omega⟩
    rw [hP, Ser.pw_succ, Ser.mul_comm]
    rw [hP] at k
    exact Ser.mul_nought _ k _
  obtain ⟨j, hj⟩ := last_of hn (fini_cf p _)
  have hdeg := (h.last.eq e).uniq (last_pw hp hj _)
  have hP1 : 1 ≤ p.toNat := by omega
  have hlen : (rootL p.toNat xs).length = j + 1 := by
    have := h.pos
    rw [rootL_length, show xs.length + p.toNat - 1 = p.toNat * (j + 1) by rw [Nat.mul_succ]; omega, Nat.mul_div_cancel_left _ (by omega)]
  have htop : cf (rootL p.toNat xs) j = cf xs (xs.length - 1) := by rw [cf_rootL hP1, hdeg, Nat.mul_comm]
  have hr : Rs p (rootL p.toNat xs) := Rs.of_at fun i hi => by
    rw [cf_rootL hP1]
    exact h.1.1.at (by omega) _
  have h1 : cf xs (xs.length - 1) % p = 1 := h.2.2.2
  refine ⟨⟨⟨hr, .inr ?_⟩, fun k => by rw [k] at hlen; simp at hlen, ?_⟩, ?_, fun q hq => ?_⟩
  · rw [hlen, Nat.add_sub_cancel, htop]
    intro k
    rw [k] at h1
    simp at h1
  · rw [hlen, Nat.add_sub_cancel]
    exact ⟨hj.1, by rw [htop]; exact h1⟩
  · rw [hlen, Nat.add_sub_cancel, hdeg, Nat.mul_comm]
  · rw [V_congr e, V_pw hp hq hj]
end Go.Proofs.YtnkhhndjbanmnaaGreatDoor

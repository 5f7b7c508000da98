/- Texts joined, in their order: FacM, FacD. -/
import Derived.Test.YtnkhhndjbanmnaaGreatDoorMp17

/- Factors of polynomials by a prime: multiples, what can't be parted, how often it divides; a polynomial is known by how often each divides it. Mathematics alone. -/
namespace Go.Proofs.YtnkhhndjbanmnaaGreatDoor
open Ser (Bd)

theorem Mult.refl (p : Int) (f : Ser) : Mult p f f := ⟨Ser.con 1, fini_con p 1, Ser.Eq.of (Ser.one_mul f).symm⟩
theorem Mult.eqR {p : Int} {d f f' : Ser} (h : Mult p d f) (e : Ser.Eq p f f') : Mult p d f' := by
  obtain ⟨u, fu, hu⟩ := h
  exact ⟨u, fu, e.symm.trans hu⟩
theorem Mult.eqL {p : Int} {d d' f : Ser} (h : Mult p d f) (e : Ser.Eq p d d') : Mult p d' f := by
  obtain ⟨u, fu, hu⟩ := h
  exact ⟨u, fu, hu.trans ((Ser.Eq.refl p u).mul e)⟩
theorem Mult.trans {p : Int} {f g h : Ser} (a : Mult p f g) (b : Mult p g h) : Mult p f h := by
  obtain ⟨u, fu, hu⟩ := a
  obtain ⟨v, fv, hv⟩ := b
  refine ⟨Ser.mul v u, fv.mul fu, hv.trans ?_⟩
  rw [Ser.mul_assoc]
  exact (Ser.Eq.refl p v).mul hu
theorem Mult.add {p : Int} {d f g : Ser} (a : Mult p d f) (b : Mult p d g) : Mult p d (Ser.add f g) := by
  obtain ⟨u, fu, hu⟩ := a
  obtain ⟨v, fv, hv⟩ := b
  refine ⟨Ser.add u v, fu.add fv, ?_⟩
  rw [Ser.add_mul]
  exact hu.add hv
theorem Mult.byL {p : Int} {d f g : Ser} (a : Mult p d f) (hg : Fini p g) : Mult p d (Ser.mul g f) := by
  obtain ⟨u, fu, hu⟩ := a
  refine ⟨Ser.mul g u, hg.mul fu, ?_⟩
  rw [Ser.mul_assoc]
  exact (Ser.Eq.refl p g).mul hu
theorem Mult.byR {p : Int} {d f g : Ser} (a : Mult p d f) (hg : Fini p g) : Mult p d (Ser.mul f g) := by
  rw [Ser.mul_comm]; exact a.byL hg
theorem Mult.sc {p c : Int} {d f : Ser} (a : Mult p d f) : Mult p d (Ser.sc c f) := by
  rw [← Ser.con_mul]; exact a.byL (fini_con p c)
theorem Mult.mul {p : Int} {d e f g : Ser} (a : Mult p d f) (b : Mult p e g) : Mult p (Ser.mul d e) (Ser.mul f g) := by
  obtain ⟨u, fu, hu⟩ := a
  obtain ⟨v, fv, hv⟩ := b
  refine ⟨Ser.mul u v, fu.mul fv, (hu.mul hv).trans (Ser.Eq.of ?_)⟩
  rw [Ser.mul_assoc, ← Ser.mul_assoc d v e, Ser.mul_comm d v, Ser.mul_assoc v d e, ← Ser.mul_assoc]
theorem Mult.nought {p : Int} {d f : Ser} (h : Bd p f 0) : Mult p d f := by
  refine ⟨Ser.zer, fini_zer p, ?_⟩
  rw [Ser.zer_mul]
  exact fun i => by rw [h i (Nat.zero_le _)]; simp [Ser.zer]
theorem Mult.fini {p : Int} {d f : Ser} (h : Mult p d f) (hd : Fini p d) : Fini p f := by
  obtain ⟨u, fu, hu⟩ := h
  exact (fu.mul hd).eq hu.symm

theorem Last.fini {p : Int} {b : Ser} {m : Nat} (h : Last p b m) : Fini p b := ⟨_, h.1⟩
theorem Last.eq {p : Int} {b b' : Ser} {m : Nat} (h : Last p b m) (e : Ser.Eq p b b') : Last p b' m := ⟨h.1.eq e, by rw [← e m]; exact h.2⟩
theorem Last.mul {p : Int} {f g : Ser} {m n : Nat} (hp : Pr p) (h : Last p f m) (k : Last p g n) : Last p (Ser.mul f g) (m + n) :=
  ⟨(Ser.mul_top h.1 k.1).2, by rw [(Ser.mul_top h.1 k.1).1]; exact mul_nz hp h.2 k.2⟩
theorem last_con {p c : Int} (h : c % p ≠ 0) : Last p (Ser.con c) 0 :=
  ⟨fun i hi => by show (if i = 0 then c else 0) % p = 0; rw [if_neg (by omega)]; simp, h⟩
theorem pr_one {p : Int} (hp : Pr p) : (1 : Int) % p = 1 := Int.emod_eq_of_lt (by decide) (by have := hp.1; omega)
theorem last_one {p : Int} (hp : Pr p) : Last p (Ser.con 1) 0 := last_con (by rw [pr_one hp]; decide)
theorem last_pw {p : Int} {f : Ser} {m : Nat} (hp : Pr p) (h : Last p f m) (n : Nat) : Last p (Ser.pw f n) (n * m) := by
  induction n with
  | zero => rw [Nat.zero_mul]; exact last_one hp
  | succ n ih => rw [Nat.succ_mul]; exact ih.mul hp h
theorem last_quo {p : Int} {f u d : Ser} {m k : Nat} (hp : Pr p) (hf : Last p f m) (hd : Last p d k) (hu : Fini p u) (e : Ser.Eq p f (Ser.mul u d)) : ∃ j, Last p u j ∧ m = j + k := by
  rcases Classical.em (Bd p u 0) with h0 | h0
  · exact absurd ((e m).trans (Ser.mul_nought d h0 m)) hf.2
  · obtain ⟨j, hj⟩ := last_of h0 hu
    exact ⟨j, hj, (hf.eq e).uniq (hj.mul hp hd)⟩
theorem mult_le {p : Int} {f d : Ser} {m k : Nat} (hp : Pr p) (hf : Last p f m) (hd : Last p d k) (h : Mult p d f) : k ≤ m := by
  obtain ⟨u, fu, hu⟩ := h
  obtain ⟨j, _, e⟩ := last_quo hp hf hd fu hu
  omega
theorem mul_cancel {p : Int} {f g d : Ser} {m : Nat} (hp : Pr p) (hf : Fini p f) (hg : Fini p g) (hd : Last p d m) (e : Ser.Eq p (Ser.mul f d) (Ser.mul g d)) : Ser.Eq p f g := by
  obtain ⟨N, hN⟩ := hf
  obtain ⟨M, hM⟩ := hg
  have hz : Bd p Ser.zer m := fun i _ => by simp [Ser.zer]
  refine (IsDiv.uniq (N := max N M) (m := m) (a := Ser.mul g d) (r := Ser.zer) (r' := Ser.zer) hp hd.1 hd.2 (hN.mono (by omega)) (hM.mono (by omega)) ⟨?_, hz⟩ ⟨?_, hz⟩).1
  · rw [Ser.add_zer]; exact e.symm
  · rw [Ser.add_zer]; exact Ser.Eq.refl _ _
theorem eq_con {p : Int} {u : Ser} (h : Bd p u 1) : Ser.Eq p u (Ser.con (u 0)) := fun i => by
  show u i % p = (if i = 0 then u 0 else 0) % p
  by_cases hi : i = 0
  · subst hi; rfl
  · rw [if_neg hi, h i (by omega)]; simp
theorem inv_sc {p c : Int} (hp : Pr p) (hc : c % p ≠ 0) (f : Ser) : Ser.Eq p (Ser.sc (finv c p) (Ser.sc c f)) f := fun i => by
  show finv c p * (c * f i) % p = f i % p
  rw [← Int.mul_assoc, Int.mul_comm (finv c p), Int.mul_emod, (finv_spec hp hc).2.2, Int.one_mul, Int.emod_emod_of_dvd _ (Int.dvd_refl p)]
theorem Mult.unit {p : Int} {u f : Ser} (hp : Pr p) (hu : Last p u 0) (hf : Fini p f) : Mult p u f := by
  refine ⟨Ser.sc (finv (u 0) p) f, hf.sc, ?_⟩
  refine Ser.Eq.trans ?_ ((Ser.Eq.refl p _).mul (eq_con hu.1).symm)
  rw [Ser.sc_mul, Ser.mul_comm, Ser.con_mul]
  exact (inv_sc hp hu.2 f).symm
theorem mult_swap {p : Int} {d f : Ser} {m : Nat} (hp : Pr p) (hd : Last p d m) (hf : Last p f m) (h : Mult p d f) : Mult p f d := by
  obtain ⟨u, fu, hu⟩ := h
  obtain ⟨j, hj, e⟩ := last_quo hp hf hd fu hu
  obtain rfl : j = 0 := by omega
  refine ⟨Ser.con (finv (u 0) p), fini_con p _, ?_⟩
  rw [Ser.con_mul]
  refine Ser.Eq.trans (inv_sc hp hj.2 d).symm (Ser.Eq.sc rfl ?_)
  rw [← Ser.con_mul]
  exact ((eq_con hj.1).symm.mulL d).trans hu.symm

def Mo (p : Int) (f : Ser) (m : Nat) : Prop := Bd p f (m + 1) ∧ f m % p = 1
theorem Mo.last {p : Int} {f : Ser} {m : Nat} (h : Mo p f m) : Last p f m := ⟨h.1, by rw [h.2]; decide⟩
theorem Mo.eq {p : Int} {f g : Ser} {m : Nat} (h : Mo p f m) (e : Ser.Eq p f g) : Mo p g m := ⟨h.1.eq e, by rw [← e m]; exact h.2⟩
theorem Mo.mul {p : Int} {f g : Ser} {m n : Nat} (hp : Pr p) (h : Mo p f m) (k : Mo p g n) : Mo p (Ser.mul f g) (m + n) :=
  ⟨(Ser.mul_top h.1 k.1).2, by rw [(Ser.mul_top h.1 k.1).1, Int.mul_emod, h.2, k.2]; exact pr_one hp⟩
theorem mo_one {p : Int} (hp : Pr p) : Mo p (Ser.con 1) 0 := ⟨(last_one hp).1, pr_one hp⟩
theorem mo_eq {p : Int} {f g : Ser} {m n : Nat} (hp : Pr p) (hf : Mo p f m) (hg : Mo p g n) (h : Mult p f g) (k : Mult p g f) : Ser.Eq p f g := by
  have h1 := mult_le hp hg.last hf.last h
  have h2 := mult_le hp hf.last hg.last k
  obtain rfl : m = n := by omega
  obtain ⟨u, fu, hu⟩ := h
  obtain ⟨j, hj, e⟩ := last_quo hp hg.last hf.last fu hu
  obtain rfl : j = 0 := by omega
  have e2 : Ser.Eq p g (Ser.sc (u 0) f) := by rw [← Ser.con_mul]; exact hu.trans ((eq_con hj.1).mulL f)
  have e3 : u 0 % p = 1 % p := by
    have := e2 m
    have h3 : g m % p = u 0 * f m % p := this
    rw [hg.2, Int.mul_emod, hf.2, Int.mul_one, Int.emod_emod_of_dvd _ (Int.dvd_refl p)] at h3
    rw [pr_one hp]; exact h3.symm
  refine (Ser.Eq.trans (Ser.Eq.trans e2 (Ser.Eq.sc e3 (Ser.Eq.refl p f))) (Ser.Eq.of ?_)).symm
  exact funext fun _ => Int.one_mul _

def Irr (p : Int) (q : Ser) : Prop := ∃ m, 1 ≤ m ∧ Mo p q m ∧ ∀ d k, Last p d k → Mult p d q → k = 0 ∨ k = m
theorem Irr.last {p : Int} {q : Ser} (h : Irr p q) : ∃ m, 1 ≤ m ∧ Last p q m := by
  obtain ⟨m, h1, h2, _⟩ := h
  exact ⟨m, h1, h2.last⟩
theorem Irr.fini {p : Int} {q : Ser} (h : Irr p q) : Fini p q := by
  obtain ⟨m, _, h2⟩ := h.last
  exact h2.fini
theorem Irr.not_unit {p : Int} {q u : Ser} (hp : Pr p) (h : Irr p q) (hu : Last p u 0) : ¬ Mult p q u := fun k => by
  obtain ⟨m, h1, h2⟩ := h.last
  have := mult_le hp hu h2 k
  omega
theorem irr_bez {p : Int} {q f : Ser} (hp : Pr p) (hq : Irr p q) (hf : Fini p f) (hn : ¬ Mult p q f) :
    ∃ s t, Fini p s ∧ Fini p t ∧ Ser.Eq p (Ser.add (Ser.mul s q) (Ser.mul t f)) (Ser.con 1) := by
  obtain ⟨g, s, t, h, _, h2, h3, _⟩ := bez_ex hp hq.fini hf
  obtain ⟨m, hm1, hm, hd⟩ := hq
  have hg0 : ¬ Bd p g 0 := fun k => hm.last.some ((h.nought hp).1 k).1
  obtain ⟨j, hj, ht⟩ := h.monic hp hg0
  have hgl : Last p g j := ⟨hj, by rw [ht]; decide⟩
  have hdiv := h.divides hp
  rcases hd g j hgl hdiv.1 with rfl | rfl
  · refine ⟨s, t, (fini_cf p _).eq h2.2, (fini_cf p _).eq h3.2, h.made.trans ((eq_con hj).trans fun i => ?_)⟩
    show (if i = 0 then g 0 else 0) % p = (if i = 0 then 1 else 0) % p
    by_cases hi : i = 0
    · rw [if_pos hi, if_pos hi, ht, pr_one hp]
    · rw [if_neg hi, if_neg hi]
  · exact absurd ((mult_swap hp hgl hm.last hdiv.1).trans hdiv.2) hn
theorem irr_mul {p : Int} {q f g : Ser} (hp : Pr p) (hq : Irr p q) (hf : Fini p f) (hg : Fini p g) (h : Mult p q (Ser.mul f g)) : Mult p q f ∨ Mult p q g := by
  rcases Classical.em (Mult p q f) with h0 | h0
  · exact .inl h0
  · right
    obtain ⟨s, t, fs, ft, e⟩ := irr_bez hp hq hf h0
    refine Mult.eqR (f := Ser.mul (Ser.add (Ser.mul s q) (Ser.mul t f)) g) ?_ ((e.mulL g).trans (Ser.Eq.of (Ser.one_mul g)))
    rw [Ser.add_mul]
    refine Mult.add ?_ ?_
    · rw [Ser.mul_assoc]
      exact Mult.byL ((Mult.refl p q).byR hg) fs
    · rw [Ser.mul_assoc]
      exact h.byL ft

def IsV (p : Int) (q f : Ser) (n : Nat) : Prop := ∃ f0, Fini p f0 ∧ Ser.Eq p f (Ser.mul (Ser.pw q n) f0) ∧ ¬ Mult p q f0
theorem isV_ex {p : Int} {q : Ser} (hp : Pr p) (hq : Irr p q) : ∀ (m : Nat) (f : Ser), Last p f m → ∃ n, IsV p q f n := by
  intro m
  induction m using Nat.strongRecOn with
  | ind m ih =>
    intro f hf
    rcases Classical.em (Mult p q f) with h | h
    · obtain ⟨u, fu, hu⟩ := h
      obtain ⟨k, k1, k2⟩ := hq.last
      obtain ⟨j, hj, e⟩ := last_quo hp hf k2 fu hu
      obtain ⟨n, f0, h1, h2, h3⟩ := ih j (by omega) u hj
      refine ⟨n + 1, f0, h1, (hu.trans (h2.mulL q)).trans (Ser.Eq.of ?_), h3⟩
      rw [Ser.pw_succ, Ser.mul_assoc, Ser.mul_comm f0 q, Ser.mul_assoc]
    · exact ⟨0, f, hf.fini, by rw [Ser.pw_zero, Ser.one_mul]; exact Ser.Eq.refl _ _, h⟩
theorem isV_le {p : Int} {q f : Ser} (hp : Pr p) (hq : Irr p q) {n n' : Nat} (h : IsV p q f n) (k : IsV p q f n') : n' ≤ n := by
  obtain ⟨f0, h1, h2, h3⟩ := h
  obtain ⟨f1, k1, k2, k3⟩ := k
  rcases Nat.lt_or_ge n n' with hl | hl
  · exfalso
    obtain ⟨d, rfl⟩ : ∃ d, n' = n + (d + 1) := ⟨n' - n - 1, by omega⟩
    obtain ⟨m, _, hm⟩ := hq.last
    have e : Ser.Eq p (Ser.mul f0 (Ser.pw q n)) (Ser.mul (Ser.mul (Ser.pw q (d + 1)) f1) (Ser.pw q n)) := by
      rw [Ser.mul_comm f0, Ser.mul_comm _ (Ser.pw q n), ← Ser.mul_assoc, ← Ser.pw_add]
      exact h2.symm.trans k2
    have e2 := mul_cancel hp h1 ((fini_pw hq.fini _).mul k1) (last_pw hp hm n) e
    refine h3 (Mult.eqR ?_ e2.symm)
    rw [Ser.pw_succ]
    exact ((Mult.refl p q).byL (fini_pw hq.fini d)).byR k1
  · exact hl
noncomputable def V (p : Int) (f q : Ser) : Nat := @dite _ (∃ n, IsV p q f n) (Classical.propDecidable _) (fun h => Classical.choose h) (fun _ => 0)
theorem V_is {p : Int} {q f : Ser} {n : Nat} (hp : Pr p) (hq : Irr p q) (h : IsV p q f n) : V p f q = n := by
  unfold V
  rw [dif_pos ⟨n, h⟩]
  have k := Classical.choose_spec (⟨n, h⟩ : ∃ n, IsV p q f n)
  exact Nat.le_antisymm (isV_le hp hq h k) (isV_le hp hq k h)
theorem V_spec {p : Int} {q f : Ser} {m : Nat} (hp : Pr p) (hq : Irr p q) (hf : Last p f m) : IsV p q f (V p f q) := by
  obtain ⟨n, h⟩ := isV_ex hp hq m f hf
  rw [V_is hp hq h]; exact h
theorem V_congr {p : Int} {q f g : Ser} (e : Ser.Eq p f g) : V p f q = V p g q := by
  have : IsV p q f = IsV p q g := funext fun n => propext ⟨fun ⟨f0, h1, h2, h3⟩ => ⟨f0, h1, e.symm.trans h2, h3⟩, fun ⟨f0, h1, h2, h3⟩ => ⟨f0, h1, e.trans h2, h3⟩⟩
  unfold V
  rw [this]
theorem V_mul {p : Int} {q f g : Ser} {m n : Nat} (hp : Pr p) (hq : Irr p q) (hf : Last p f m) (hg : Last p g n) : V p (Ser.mul f g) q = V p f q + V p g q := by
  obtain ⟨f0, a1, a2, a3⟩ := V_spec hp hq hf
  obtain ⟨g0, b1, b2, b3⟩ := V_spec hp hq hg
  refine V_is hp hq ⟨Ser.mul f0 g0, a1.mul b1, (a2.mul b2).trans (Ser.Eq.of ?_), fun k => ?_⟩
  · rw [Ser.pw_add, Ser.mul_assoc, ← Ser.mul_assoc f0, Ser.mul_comm f0, Ser.mul_assoc _ f0, ← Ser.mul_assoc]
  · exact (irr_mul hp hq a1 b1 k).elim a3 b3
theorem V_unit {p : Int} {q u : Ser} (hp : Pr p) (hq : Irr p q) (hu : Last p u 0) : V p u q = 0 :=
  V_is hp hq ⟨u, hu.fini, by rw [Ser.pw_zero, Ser.one_mul]; exact Ser.Eq.refl _ _, hq.not_unit hp hu⟩
theorem V_pwq {p : Int} {q : Ser} (hp : Pr p) (hq : Irr p q) (n : Nat) : V p (Ser.pw q n) q = n :=
  V_is hp hq ⟨Ser.con 1, fini_con p 1, by rw [Ser.mul_comm, Ser.one_mul]; exact Ser.Eq.refl _ _, hq.not_unit hp (last_one hp)⟩
theorem V_pw {p : Int} {q f : Ser} {m : Nat} (hp : Pr p) (hq : Irr p q) (hf : Last p f m) (n : Nat) : V p (Ser.pw f n) q = n * V p f q := by
  induction n with
  | zero => rw [Nat.zero_mul]; exact V_unit hp hq (last_one hp)
  | succ n ih => rw [Ser.pw_succ, V_mul hp hq (last_pw hp hf n) hf, ih, Nat.succ_mul]
theorem V_mult {p : Int} {q f : Ser} {m : Nat} (hp : Pr p) (hq : Irr p q) (hf : Last p f m) (k : Nat) : Mult p (Ser.pw q k) f ↔ k ≤ V p f q := by
  obtain ⟨j, _, hj⟩ := hq.last
  constructor
  · rintro ⟨u, fu, hu⟩
    obtain ⟨i, hi, _⟩ := last_quo hp hf (last_pw hp hj k) fu hu
    rw [V_congr hu, V_mul hp hq hi (last_pw hp hj k), V_pwq hp hq]
    omega
  · intro hk
    obtain ⟨f0, a1, a2, _⟩ := V_spec hp hq hf
    refine Mult.eqR ?_ a2.symm
    rw [show V p f q = k + (V p f q - k) by omega, Ser.pw_add, Ser.mul_assoc]
    exact (Mult.refl p _).byR ((fini_pw hq.fini _).mul a1)
theorem V_le {p : Int} {q f g : Ser} {m n : Nat} (hp : Pr p) (hq : Irr p q) (hf : Last p f m) (hg : Last p g n) (h : Mult p f g) : V p f q ≤ V p g q :=
  (V_mult hp hq hg _).1 (((V_mult hp hq hf _).2 (Nat.le_refl _)).trans h)
theorem pw_one (f : Ser) : Ser.pw f 1 = f := by rw [Ser.pw_succ, Ser.pw_zero, Ser.one_mul]
theorem V_pos {p : Int} {q f : Ser} {m : Nat} (hp : Pr p) (hq : Irr p q) (hf : Last p f m) : Mult p q f ↔ 1 ≤ V p f q := by
  rw [← V_mult hp hq hf, pw_one]
theorem V_self {p : Int} {q : Ser} (hp : Pr p) (hq : Irr p q) : V p q q = 1 := by
  have := V_pwq hp hq 1
  rw [pw_one] at this
  exact this
theorem V_other {p : Int} {q r : Ser} (hp : Pr p) (hq : Irr p q) (hr : Irr p r) (hn : ¬ Ser.Eq p r q) : V p r q = 0 := by
  obtain ⟨m, m1, m2, m3⟩ := hr
  refine Nat.eq_zero_of_not_pos fun k => ?_
  have hd := (V_pos hp hq m2.last).2 k
  obtain ⟨n, n1, n2, n3⟩ := hq
  rcases m3 q n n2.last hd with h | h
  · omega
  · subst h
    exact hn (mo_eq hp m2 n2 (mult_swap hp n2.last m2.last hd) hd)
theorem irr_ex {p : Int} (hp : Pr p) : ∀ (m : Nat) (f : Ser), Last p f m → 1 ≤ m → ∃ q, Irr p q ∧ Mult p q f := by
  intro m
  induction m using Nat.strongRecOn with
  | ind m ih =>
    intro f hf h1
    rcases Classical.em (∃ d k, Last p d k ∧ Mult p d f ∧ k ≠ 0 ∧ k ≠ m) with ⟨d, k, hd, hm, k0, km⟩ | hn
    · have := mult_le hp hf hd hm
      obtain ⟨q, hq, hqd⟩ := ih k (by omega) d hd (by omega)
      exact ⟨q, hq, hqd.trans hm⟩
    · have hs := finv_spec hp hf.2
      have hmf : Mult p f (Ser.sc (finv (f m) p) f) := (Mult.refl p f).sc
      have hmo : Mo p (Ser.sc (finv (f m) p) f) m := by
        refine ⟨fun i hi => ?_, ?_⟩
        · show finv (f m) p * f i % p = 0
          rw [Int.mul_emod, hf.1 i hi]; simp
        · show finv (f m) p * f m % p = 1
          rw [Int.mul_comm]; exact hs.2.2
      refine ⟨_, ⟨m, h1, hmo, fun d k hd hk => ?_⟩, mult_swap hp hf hmo.last hmf⟩
      refine Classical.byContradiction fun hc => hn ⟨d, k, hd, hk.trans (mult_swap hp hf hmo.last hmf), ?_, ?_⟩
      · exact fun e => hc (.inl e)
      · exact fun e => hc (.inr e)
theorem mult_of_V {p : Int} (hp : Pr p) : ∀ (m : Nat) (f g : Ser) (n : Nat), Last p f m → Last p g n → (∀ q, Irr p q → V p f q ≤ V p g q) → Mult p f g := by
  intro m
  induction m using Nat.strongRecOn with
  | ind m ih =>
    intro f g n hf hg h
    rcases Nat.eq_zero_or_pos m with rfl | h1
    · exact Mult.unit hp hf hg.fini
    · obtain ⟨q, hq, hqf⟩ := irr_ex hp m f hf h1
      have hv := (V_pos hp hq hf).1 hqf
      have hqg := (V_pos hp hq hg).2 (Nat.le_trans hv (h q hq))
      obtain ⟨u, fu, hu⟩ := hqf
      obtain ⟨v, fv, hv⟩ := hqg
      obtain ⟨k, k1, k2⟩ := hq.last
      obtain ⟨i, hi, e1⟩ := last_quo hp hf k2 fu hu
      obtain ⟨j, hj, e2⟩ := last_quo hp hg k2 fv hv
      have hm := ih i (by omega) u v j hi hj (fun r hr => by
        have := h r hr
        rw [V_congr hu, V_congr hv, V_mul hp hr hi k2, V_mul hp hr hj k2] at this
        omega)
      exact ((hm.mul (Mult.refl p q)).eqL hu.symm).eqR hv.symm
theorem mo_ext {p : Int} {f g : Ser} {m n : Nat} (hp : Pr p) (hf : Mo p f m) (hg : Mo p g n) (h : ∀ q, Irr p q → V p f q = V p g q) : Ser.Eq p f g :=
  mo_eq hp hf hg (mult_of_V hp m f g n hf.last hg.last fun q hq => Nat.le_of_eq (h q hq)) (mult_of_V hp n g f m hg.last hf.last fun q hq => Nat.le_of_eq (h q hq).symm)
theorem unit_of_V {p : Int} {f : Ser} {m : Nat} (hp : Pr p) (hf : Last p f m) (h : ∀ q, Irr p q → V p f q = 0) : m = 0 := by
  rcases Nat.eq_zero_or_pos m with h0 | h1
  · exact h0
  · obtain ⟨q, hq, hqf⟩ := irr_ex hp m f hf h1
    have := (V_pos hp hq hf).1 hqf
    have := h q hq
    omega
theorem V_bez {p : Int} {a b g s t : Ser} {m : Nat} (hp : Pr p) (ha : Last p a m) (hb : Fini p b) (h : IsBez p a b g s t) :
    ∃ k, Mo p g k ∧ k ≤ m ∧ ∀ q, Irr p q → ∀ j, j ≤ V p g q ↔ j ≤ V p a q ∧ Mult p (Ser.pw q j) b := by
  have hg0 : ¬ Bd p g 0 := fun k => ha.some ((h.nought hp).1 k).1
  obtain ⟨k, hk⟩ := h.monic hp hg0
  have hmo : Mo p g k := hk
  have hd := h.divides hp
  refine ⟨k, hmo, mult_le hp ha hmo.last hd.1, fun q hq j => ?_⟩
  rw [← V_mult hp hq hmo.last, ← V_mult hp hq ha]
  refine ⟨fun e => ⟨e.trans hd.1, e.trans hd.2⟩, fun ⟨e1, e2⟩ => ?_⟩
  obtain ⟨g', s', t', h', _, h2, h3, _⟩ := bez_ex hp ha.fini hb
  have hu := h.uniq hp h' (Ser.Eq.refl _ _) (Ser.Eq.refl _ _)
  exact (((e1.byL ((fini_cf p _).eq (h2.2.trans hu.2.1.symm))).add (e2.byL ((fini_cf p _).eq (h3.2.trans hu.2.2.symm)))).eqR h.made)
theorem V_gcd {p : Int} {a b g s t : Ser} {m n : Nat} (hp : Pr p) (ha : Last p a m) (hb : Last p b n) (h : IsBez p a b g s t) {q : Ser} (hq : Irr p q) : V p g q = min (V p a q) (V p b q) := by
  obtain ⟨k, _, _, h3⟩ := V_bez hp ha hb.fini h
  have h4 := fun j => h3 q hq j
  simp only [V_mult hp hq hb] at h4
  have h5 := (h4 (V p g q)).1 (Nat.le_refl _)
  have h6 := (h4 (min (V p a q) (V p b q))).2 ⟨by omega, by omega⟩
  omega
end Go.Proofs.YtnkhhndjbanmnaaGreatDoor

/- Derivatives and p-th powers: how often what can't be parted divides the greatest common divisor of a polynomial and its derivative; roots. Mathematics alone. -/
namespace Go.Proofs.YtnkhhndjbanmnaaGreatDoor
open Ser (Bd)

theorem pw_mulS (f g : Ser) (n : Nat) : Ser.pw (Ser.mul f g) n = Ser.mul (Ser.pw f n) (Ser.pw g n) := by
  induction n with
  | zero => rw [Ser.pw_zero, Ser.pw_zero, Ser.pw_zero, Ser.one_mul]
  | succ n ih =>
    rw [Ser.pw_succ, Ser.pw_succ, Ser.pw_succ, ih, Ser.mul_assoc, Ser.mul_assoc]
    congr 1
    rw [← Ser.mul_assoc, Ser.mul_comm (Ser.pw g n) f, Ser.mul_assoc]
theorem pw_con (c : Int) (n : Nat) : Ser.pw (Ser.con c) n = Ser.con (c ^ n) := by
  induction n with
  | zero => rw [Ser.pw_zero, Int.pow_zero]
  | succ n ih =>
    rw [Ser.pw_succ, ih, Ser.con_mul]
    funext i
    show c ^ n * (if i = 0 then c else 0) = if i = 0 then c ^ (n + 1) else 0
    by_cases h : i = 0
    · rw [if_pos h, if_pos h, Int.pow_succ]
    · rw [if_neg h, if_neg h, Int.mul_zero]
theorem pw_mono (n : Nat) : Ser.pw (Ser.mono 1 1) n = Ser.mono 1 n := by
  induction n with
  | zero => rw [Ser.pw_zero]; funext i; rfl
  | succ n ih =>
    rw [Ser.pw_succ, ih]
    funext i
    rw [Ser.mono_mul_at]
    show (if n ≤ i then 1 * (if i - n = 1 then (1 : Int) else 0) else 0) = if i = n + 1 then 1 else 0
    by_cases h : n ≤ i
    · rw [if_pos h]
      by_cases h2 : i - n = 1
      · rw [if_pos h2, if_pos (by omega)]; rfl
      · rw [if_neg h2, if_neg (by omega)]; rfl
    · rw [if_neg h, if_neg (by omega)]
theorem pw_zer {n : Nat} (h : 1 ≤ n) : Ser.pw Ser.zer n = Ser.zer := by
  obtain ⟨k, rfl⟩ : ∃ k, n = k + 1 := ⟨n - 1, by omega⟩
  rw [Ser.pw_succ, Ser.mul_comm, Ser.zer_mul]
def sprd (P : Nat) (f : Ser) : Ser := fun i => if i % P = 0 then f (i / P) else 0
theorem sprd_at (P : Nat) (f : Ser) (i : Nat) : sprd P f i = if i % P = 0 then f (i / P) else 0 := rfl
theorem pow_spread {p : Int} (hp : Pr p) (xs : List Int) : Ser.Eq p (Ser.pw (cf xs) p.toNat) (sprd p.toNat (cf xs)) := by
  have h2 := hp.1
  obtain ⟨P, hP⟩ : ∃ P, p.toNat = P := ⟨_, rfl⟩
  have hP2 : 2 ≤ P := by omega
  induction xs with
  | nil =>
    rw [show cf [] = Ser.zer from funext fun i => cf_nil i, pw_zer (by omega)]
    intro i
    rw [sprd_at]
    show (0 : Int) % p = (if i % p.toNat = 0 then (0 : Int) else 0) % p
    split <;> rfl
  | cons x xs ih =>
    have e : cf (x :: xs) = Ser.add (Ser.con x) (Ser.mul (Ser.mono 1 1) (cf xs)) := by
      funext i
      show _ = (if i = 0 then x else 0) + Ser.mul (Ser.mono 1 1) (cf xs) i
      rw [Ser.mono_mul_at]
      cases i with
      | zero => rw [cf_cons_zero]; simp
      | succ i => rw [cf_cons_succ]; simp
    have e1 : Ser.Eq p (Ser.pw (cf (x :: xs)) p.toNat) (Ser.add (Ser.con x) (Ser.mul (Ser.mono 1 p.toNat) (sprd p.toNat (cf xs)))) := by
      rw [e]
      refine (Ser.frob hp _ _).trans (Ser.Eq.add ?_ ?_)
      · rw [pw_con]
        intro i
        show (if i = 0 then x ^ p.toNat else 0) % p = (if i = 0 then x else 0) % p
        split
        · exact fermatZ hp x
        · rfl
      · rw [pw_mulS, pw_mono]
        exact (Ser.Eq.refl p _).mul ih
    refine e1.trans (Ser.Eq.of ?_)
    funext i
    show (if i = 0 then x else 0) + Ser.mul (Ser.mono 1 p.toNat) (sprd p.toNat (cf xs)) i = _
    rw [Ser.mono_mul_at, hP, sprd_at, sprd_at]
    rcases Nat.lt_or_ge i P with hi | hi
    · rw [if_neg (show ¬ P ≤ i by omega), Nat.mod_eq_of_lt hi, Nat.div_eq_of_lt hi, cf_cons_zero, Int.add_zero]
    · obtain ⟨j, rfl⟩ : ∃ j, i = j + P := ⟨i - P, by omega⟩
      rw [if_neg (show ¬ j + P = 0 by omega), if_pos (show P ≤ j + P by omega), Nat.add_sub_cancel, Nat.add_mod_right, Nat.add_div_right _ (by omega)]
      by_cases hj : j % P = 0
      · rw [if_pos hj, if_pos hj, cf_cons_succ]; omega
      · rw [if_neg hj, if_neg hj]; simp

def rootL (P : Nat) (xs : List Int) : List Int := (List.range ((xs.length + P - 1) / P)).map fun j => cf xs (j * P)
theorem rootL_length (P : Nat) (xs : List Int) : (rootL P xs).length = (xs.length + P - 1) / P := by simp [rootL]
theorem cf_rootL {P : Nat} (hP : 1 ≤ P) (xs : List Int) (j : Nat) : cf (rootL P xs) j = cf xs (j * P) := by
  by_cases h : j < (xs.length + P - 1) / P
  · rw [cf_at (by rw [rootL_length]; exact h)]
    simp [rootL]
  · rw [cf_over (by rw [rootL_length]; omega), cf_over]
    have h1 := Nat.lt_mul_div_succ (xs.length + P - 1) (show 0 < P by omega)
    have h2 : P * ((xs.length + P - 1) / P + 1) ≤ j * P + P := by
      rw [Nat.mul_comm j P, ← Nat.mul_succ]
      exact Nat.mul_le_mul_left P (by omega)
    omega
theorem root_pow {p : Int} (hp : Pr p) {xs : List Int} (h : Bd p (Ser.der (cf xs)) 0) : Ser.Eq p (cf xs) (Ser.pw (cf (rootL p.toNat xs)) p.toNat) := by
  have h2 := hp.1
  refine Ser.Eq.symm ((pow_spread hp _).trans fun i => ?_)
  rw [sprd_at]
  by_cases hi : i % p.toNat = 0
  · rw [if_pos hi, cf_rootL (by omega), Nat.div_mul_cancel (Nat.dvd_of_mod_eq_zero hi)]
  · rw [if_neg hi]
    obtain ⟨j, rfl⟩ : ∃ j, i = j + 1 := ⟨i - 1, by
      have : i ≠ 0 := fun e => hi (by rw [e]; exact Nat.zero_mod _)
      omega⟩
    have hd : ((j : Int) + 1) * cf xs (j + 1) % p = 0 := h j (Nat.zero_le _)
    have hj : ((j : Int) + 1) % p ≠ 0 := by
      intro e
      refine hi ?_
      have e1 : (((j + 1 : Nat) : Int)) % ((p.toNat : Nat) : Int) = 0 := by rw [Int.toNat_of_nonneg (by omega)]; exact e
      rw [← Int.natCast_emod] at e1
      omega
    rcases Classical.em (cf xs (j + 1) % p = 0) with h0 | h0
    · rw [h0]; rfl
    · exact absurd hd (mul_nz hp hj h0)
theorem bd_der {p : Int} {f : Ser} {m : Nat} (h : Bd p f (m + 1)) : Bd p (Ser.der f) m := fun i hi => by
  show ((i : Int) + 1) * f (i + 1) % p = 0
  rw [Int.mul_emod, h (i + 1) (by omega)]; simp
theorem der_pw (f : Ser) (n : Nat) : Ser.der (Ser.pw f (n + 1)) = Ser.sc ((n : Int) + 1) (Ser.mul (Ser.pw f n) (Ser.der f)) := by
  induction n with
  | zero =>
    rw [Ser.pw_succ, Ser.pw_zero, Ser.one_mul, Ser.one_mul]
    funext i
    show _ = (((0 : Nat) : Int) + 1) * _
    simp
  | succ n ih =>
    rw [Ser.pw_succ, der_mul, ih, Ser.sc_mul, Ser.mul_assoc, Ser.mul_comm (Ser.der f) f, ← Ser.mul_assoc, ← Ser.pw_succ]
    funext i
    show ((n : Int) + 1) * Ser.mul (Ser.pw f (n + 1)) (Ser.der f) i + Ser.mul (Ser.pw f (n + 1)) (Ser.der f) i = (((n + 1 : Nat) : Int) + 1) * Ser.mul (Ser.pw f (n + 1)) (Ser.der f) i
    rw [Int.natCast_add, show ((n : Int) + ((1 : Nat) : Int) + 1) = ((n : Int) + 1) + 1 by omega, Int.add_mul ((n : Int) + 1) 1, Int.one_mul]
theorem irr_der {p : Int} {q : Ser} (hp : Pr p) (hq : Irr p q) : ¬ Mult p q (Ser.der q) := by
  intro hd
  have h2 := hp.1
  obtain ⟨m, m1, m2, m3⟩ := hq
  have hf : Fini p (Ser.der q) := fini_der ⟨_, m2.1⟩
  have hz : Bd p (Ser.der q) 0 := Classical.byContradiction fun hn => by
    obtain ⟨j, hj⟩ := last_of hn hf
    have := mult_le hp hj m2.last hd
    exact hj.2 (bd_der m2.1 j this)
  -- q as a row
  obtain ⟨xs, hx⟩ := pol_ex (by omega) q _ m2.1
  have hz2 : Bd p (Ser.der (cf xs)) 0 := hz.eq hx.2.symm.der
  have he := hx.2.symm.trans (root_pow hp hz2)
  have hq0 : Last p q m := m2.last
  have hr : Fini p (cf (rootL p.toNat xs)) := fini_cf p _
  obtain ⟨P, hP⟩ : ∃ P, p.toNat = P + 1 := ⟨p.toNat - 1, by omega⟩
  rw [hP, Ser.pw_succ] at he
  have hn0 : ¬ Bd p (cf (rootL (P + 1) xs)) 0 := fun k => hq0.2 ((he m).trans (by rw [Ser.mul_comm]; exact Ser.mul_nought _ k m))
  rw [hP] at hr
  obtain ⟨j, hj⟩ := last_of hn0 hr
  have hdeg := (hq0.eq he).uniq ((last_pw hp hj P).mul hp hj)
  have hmul : Mult p (cf (rootL (P + 1) xs)) q := ((Mult.refl p _).byL (fini_pw hr P)).eqR he.symm
  rcases m3 _ j hj hmul with rfl | rfl
  · simp at hdeg; omega
  · have : 1 ≤ P := by omega
    have := Nat.mul_le_mul_right j this
    omega
theorem V_der {p : Int} {a g s t : Ser} {m : Nat} (hp : Pr p) (ha : Last p a m) (h : IsBez p a (Ser.der a) g s t) {q : Ser} (hq : Irr p q) :
    V p g q = if p.toNat ∣ V p a q then V p a q else V p a q - 1 := by
  have h2 := hp.1
  obtain ⟨k, hk, _, hv⟩ := V_bez hp ha (fini_der ha.fini) h
  have hv := hv q hq
  obtain ⟨a0, a1, a2, a3⟩ := V_spec hp hq ha
  obtain ⟨mq, _, hmq⟩ := hq.last
  have hda : Ser.Eq p (Ser.der a) (Ser.add (Ser.mul (Ser.der (Ser.pw q (V p a q))) a0) (Ser.mul (Ser.pw q (V p a q)) (Ser.der a0))) :=
    a2.der.trans (Ser.Eq.of (der_mul _ _))
  have hlow : V p g q ≤ V p a q := ((hv _).1 (Nat.le_refl _)).1
  generalize V p a q = n at *
  have hR : Mult p (Ser.pw q n) (Ser.mul (Ser.pw q n) (Ser.der a0)) := (Mult.refl p _).byR (fini_der a1)
  by_cases hd : p.toNat ∣ n
  · rw [if_pos hd]
    refine Nat.le_antisymm hlow ((hv n).2 ⟨Nat.le_refl _, Mult.eqR (Mult.add ?_ hR) hda.symm⟩)
    refine Mult.nought fun i _ => Ser.mul_nought a0 (fun i _ => ?_) i
    rcases Nat.eq_zero_or_pos n with h0 | h0
    · subst h0
      rw [Ser.pw_zero]
      show ((i : Int) + 1) * (if i + 1 = 0 then (1 : Int) else 0) % p = 0
      rw [if_neg (by omega)]; simp
    · obtain ⟨n', rfl⟩ : ∃ n', n = n' + 1 := ⟨n - 1, by omega⟩
      rw [der_pw]
      show ((n' : Int) + 1) * Ser.mul (Ser.pw q n') (Ser.der q) i % p = 0
      have : ((n' : Int) + 1) % p = 0 := by
        have e : ((n' + 1 : Nat) : Int) % ((p.toNat : Nat) : Int) = 0 := by
          rw [← Int.natCast_emod, Nat.mod_eq_zero_of_dvd hd]; rfl
        rw [Int.toNat_of_nonneg (by omega)] at e
        exact e
      rw [Int.mul_emod, this]; simp
  · rw [if_neg hd]
    obtain ⟨n', rfl⟩ : ∃ n', n = n' + 1 := ⟨n - 1, by
      have : n ≠ 0 := fun e => hd (by rw [e]; exact Nat.dvd_zero _)
      omega⟩
    rw [Nat.add_sub_cancel]
    rw [der_pw] at hda
    have hnz : ((n' : Int) + 1) % p ≠ 0 := by
      intro e
      refine hd (Nat.dvd_of_mod_eq_zero ?_)
      have e1 : (((n' + 1 : Nat) : Int)) % ((p.toNat : Nat) : Int) = 0 := by rw [Int.toNat_of_nonneg (by omega)]; exact e
      rw [← Int.natCast_emod] at e1
      omega
    have hup : n' ≤ V p g q := by
      refine (hv n').2 ⟨by omega, Mult.eqR (Mult.add ?_ ?_) hda.symm⟩
      · exact (((Mult.refl p (Ser.pw q n')).byR (fini_der hq.fini)).sc).byR a1
      · rw [Ser.pw_succ]
        exact ((Mult.refl p (Ser.pw q n')).byR hq.fini).byR (fini_der a1)
    refine Nat.le_antisymm (Nat.le_of_lt_succ (Nat.lt_of_not_le fun hc => ?_)) hup
    have hm := ((hv (n' + 1)).1 hc).2
    obtain ⟨u, fu, hu⟩ := hm
    -- what is left over of the sum
    have e1 : Ser.Eq p (Ser.mul (Ser.add u (Ser.sc (-1) (Ser.der a0))) (Ser.pw q (n' + 1))) (Ser.mul (Ser.sc ((n' : Int) + 1) (Ser.mul (Ser.pw q n') (Ser.der q))) a0) := by
      have e2 := hda.symm.trans hu
      rw [Ser.add_mul, Ser.sc_mul]
      intro i
      have e3 : (Ser.mul (Ser.sc ((n' : Int) + 1) (Ser.mul (Ser.pw q n') (Ser.der q))) a0 i + Ser.mul (Ser.pw q (n' + 1)) (Ser.der a0) i) % p = Ser.mul u (Ser.pw q (n' + 1)) i % p := e2 i
      show (Ser.mul u (Ser.pw q (n' + 1)) i + -1 * Ser.mul (Ser.der a0) (Ser.pw q (n' + 1)) i) % p = _
      rw [Int.add_emod, ← e3, ← Int.add_emod, Ser.mul_comm (Ser.der a0)]
      congr 1; omega
    have e4 : Ser.Eq p (Ser.mul (Ser.mul (Ser.add u (Ser.sc (-1) (Ser.der a0))) q) (Ser.pw q n')) (Ser.mul (Ser.sc ((n' : Int) + 1) (Ser.mul (Ser.der q) a0)) (Ser.pw q n')) := by
      refine Ser.Eq.trans (Ser.Eq.of ?_) (e1.trans (Ser.Eq.of ?_))
      · rw [Ser.pw_succ, Ser.mul_assoc, Ser.mul_comm q]
      · rw [Ser.sc_mul, Ser.sc_mul, Ser.mul_assoc, Ser.mul_comm (Ser.pw q n')]
    have fd := fini_der hq.fini
    have e5 := mul_cancel hp ((fu.add (fini_der a1).sc).mul hq.fini) ((fd.mul a1).sc) (last_pw hp hmq n') e4
    have hm1 : Mult p q (Ser.sc ((n' : Int) + 1) (Ser.mul (Ser.der q) a0)) := ((Mult.refl p q).byL (fu.add (fini_der a1).sc)).eqR e5
    have hm2 : Mult p q (Ser.mul (Ser.der q) a0) := (hm1.sc (c := finv ((n' : Int) + 1) p)).eqR (inv_sc hp hnz _)
    rcases irr_mul hp hq fd a1 hm2 with hc | hc
    · exact irr_der hp hq hc
    · exact a3 hc
theorem der_nought {p : Int} {a : Ser} {m : Nat} (hp : Pr p) (ha : Last p a m) (h : ∀ q, Irr p q → p.toNat ∣ V p a q) : Bd p (Ser.der a) 0 := by
  obtain ⟨g, s, t, hb, _⟩ := bez_ex hp ha.fini (fini_der ha.fini)
  obtain ⟨k, hk, _, _⟩ := V_bez hp ha (fini_der ha.fini) hb
  have hm := mult_of_V hp m a g k ha hk.last (fun q hq => by rw [V_der hp ha hb hq, if_pos (h q hq)]; exact Nat.le_refl _)
  have hd := hm.trans (hb.divides hp).2
  refine Classical.byContradiction fun hn => ?_
  obtain ⟨j, hj⟩ := last_of hn (fini_der ha.fini)
  have := mult_le hp hj ha hd
  exact hj.2 (bd_der ha.1 j this)
end Go.Proofs.YtnkhhndjbanmnaaGreatDoor

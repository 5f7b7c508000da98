/- Texts joined, in their order: PolEqs, PolEx, PolVal. -/
import Derived.Test.YtnkhhndjbanmnaaGreatDoorMn13

/- The equalities and lengths that layer 6's laws without the document's answers want. Mathematics alone. -/
namespace Go.Proofs.YtnkhhndjbanmnaaGreatDoor

theorem pol_len {p : Int} {ys : List Int} {f : Ser} {k : Nat} (hp : 1 ≤ p) (h : Pol p ys f) (hb : Ser.Bd p f (k + 1)) (ht : f k % p ≠ 0) : ys.length = k + 1 := by
  have h1 := h.1.len_le hp (hb.eq h.2.symm)
  rcases Nat.lt_or_ge k ys.length with h2 | h2
  · omega
  · exact absurd (by rw [← h.2 k, cf_over h2]; simp) ht
theorem pol_last {p : Int} {ys : List Int} {f : Ser} (hp : 1 ≤ p) (h : Pol p ys f) (hn : ys ≠ []) : Last p f (ys.length - 1) := by
  have hl : 0 < ys.length := List.length_pos_iff.2 hn
  refine ⟨Ser.Bd.eq ?_ h.2, ?_⟩
  · rw [Nat.sub_add_cancel hl]
    exact bd_len p ys
  · rw [← h.2]
    exact h.1.top hn hp
theorem polL_nil {p : Int} {f : Ser} (h : Ser.Bd p f 0) : polL p f = [] := by
  rcases Classical.em (Pr p) with hp | hp
  · exact polL_is hp ⟨Pln.nil p, fun i => by rw [cf_nil, h i (Nat.zero_le _)]; simp⟩
  · exact polL_no hp
theorem polL_zero {p : Int} {f : Ser} (hp : Pr p) (hf : Fini p f) : polL p f = [] ↔ Ser.Bd p f 0 := (polL_pol hp hf).nought (by have := hp.1; omega)
theorem len_mul {p : Int} (hp : Pr p) {f g : Ser} (hf : Fini p f) (hg : Fini p g) :
    ((polL p f).length = 0 ∧ (polL p (Ser.mul f g)).length = 0) ∨ ((polL p f).length ≠ 0 ∧ (polL p g).length = 0 ∧ (polL p (Ser.mul f g)).length = 0) ∨
      ((polL p f).length ≠ 0 ∧ (polL p g).length ≠ 0 ∧ (polL p (Ser.mul f g)).length + 1 = (polL p f).length + (polL p g).length) := by
  have h1 : 1 ≤ p := by have := hp.1; omega
  by_cases hx : polL p f = []
  · refine .inl ⟨by rw [hx]; rfl, ?_⟩
    rw [polL_nil (fun i _ => Ser.mul_nought g ((polL_zero hp hf).1 hx) i)]; rfl
  · by_cases hy : polL p g = []
    · refine .inr (.inl ⟨fun e => hx (List.eq_nil_of_length_eq_zero e), by rw [hy]; rfl, ?_⟩)
      rw [polL_nil (fun i _ => by rw [Ser.mul_comm]; exact Ser.mul_nought f ((polL_zero hp hg).1 hy) i)]; rfl
    · have l1 := pol_last h1 (polL_pol hp hf) hx
      have l2 := pol_last h1 (polL_pol hp hg) hy
      have ht := Ser.mul_top l1.1 l2.1
      have hl := pol_len h1 (polL_pol hp (hf.mul hg)) ht.2 (by rw [ht.1]; exact mul_nz hp l1.2 l2.2)
      have p1 : 0 < (polL p f).length := List.length_pos_iff.2 hx
      have p2 : 0 < (polL p g).length := List.length_pos_iff.2 hy
      exact .inr (.inr ⟨by omega, by omega, by omega⟩)

theorem sc_one (f : Ser) : Ser.sc 1 f = f := funext fun _ => Int.one_mul _
theorem eq_swap (p : Int) (f g : Ser) : polL p (Ser.add f (Ser.sc 1 g)) = polL p (Ser.add g (Ser.sc 1 f)) := by rw [sc_one, sc_one, Ser.add_comm]
theorem eq_turn (p : Int) (f g : Ser) : polL p (Ser.mul f g) = polL p (Ser.mul g f) := by rw [Ser.mul_comm]
theorem fini_add1 {p : Int} {f g : Ser} (hf : Fini p f) (hg : Fini p g) : Fini p (Ser.add f (Ser.sc 1 g)) := hf.add hg.sc
theorem eq_assoc {p : Int} (hp : Pr p) {f g h : Ser} (hf : Fini p f) (hg : Fini p g) (hh : Fini p h) :
    polL p (Ser.add (cf (polL p (Ser.add f (Ser.sc 1 g)))) (Ser.sc 1 h)) = polL p (Ser.add f (Ser.sc 1 (cf (polL p (Ser.add g (Ser.sc 1 h)))))) := by
  have e1 := cf_polL hp (fini_add1 hf hg)
  have e2 := cf_polL hp (fini_add1 hg hh)
  simp only [sc_one] at e1 e2 ⊢
  exact polL_congr ((e1.add (Ser.Eq.refl _ _)).trans ((Ser.Eq.of (Ser.add_assoc f g h)).trans ((Ser.Eq.refl _ _).add e2.symm)))
theorem eq_massoc {p : Int} (hp : Pr p) {f g h : Ser} (hf : Fini p f) (hg : Fini p g) (hh : Fini p h) :
    polL p (Ser.mul (cf (polL p (Ser.mul f g))) h) = polL p (Ser.mul f (cf (polL p (Ser.mul g h)))) := by
  have e1 := cf_polL hp (hf.mul hg)
  have e2 := cf_polL hp (hg.mul hh)
  exact polL_congr ((e1.mulL h).trans ((Ser.Eq.of (Ser.mul_assoc f g h)).trans ((Ser.Eq.refl _ _).mul e2.symm)))
theorem eq_distr {p : Int} (hp : Pr p) {f g h : Ser} (hf : Fini p f) (hg : Fini p g) (hh : Fini p h) :
    polL p (Ser.mul f (cf (polL p (Ser.add g (Ser.sc 1 h))))) = polL p (Ser.add (cf (polL p (Ser.mul f g))) (Ser.sc 1 (cf (polL p (Ser.mul f h))))) := by
  have e1 := cf_polL hp (fini_add1 hg hh)
  have e2 := cf_polL hp (hf.mul hg)
  have e3 := cf_polL hp (hf.mul hh)
  simp only [sc_one] at e1 ⊢
  exact polL_congr (((Ser.Eq.refl _ _).mul e1).trans ((Ser.Eq.of (Ser.mul_add f g h)).trans (e2.symm.add e3.symm)))
theorem eq_back {p : Int} (hp : Pr p) {f g : Ser} (hf : Fini p f) (hg : Fini p g) : polL p (Ser.add (cf (polL p (Ser.add f (Ser.sc 1 g)))) (Ser.sc (-1) g)) = polL p f := by
  refine polL_congr (((cf_polL hp (fini_add1 hf hg)).add (Ser.Eq.refl _ _)).trans (Ser.Eq.of ?_))
  funext i
  show f i + 1 * g i + -1 * g i = f i
  omega
end Go.Proofs.YtnkhhndjbanmnaaGreatDoor

/- Quotients, rests, common divisors, powers' rests of polynomials by a prime: that there are such, so that the names stand for them; what layer 6's laws say of them. Mathematics alone. -/
namespace Go.Proofs.YtnkhhndjbanmnaaGreatDoor

theorem div_ex {p : Int} {b : Ser} {m : Nat} (hp : Pr p) (hl : Last p b m) : ∀ (N : Nat) (a : Ser), Ser.Bd p a N → ∃ q r, Fini p q ∧ IsDiv p m a b q r := by
  intro N
  induction N with
  | zero =>
    intro a ha
    refine ⟨Ser.zer, a, ⟨0, fun i _ => by simp [Ser.zer]⟩, ?_, ha.mono (Nat.zero_le _)⟩
    rw [Ser.zer_mul, Ser.zer_add]
    exact Ser.Eq.refl _ _
  | succ N ih =>
    intro a ha
    by_cases hN : N + 1 ≤ m
    · refine ⟨Ser.zer, a, ⟨0, fun i _ => by simp [Ser.zer]⟩, ?_, ha.mono hN⟩
      rw [Ser.zer_mul, Ser.zer_add]
      exact Ser.Eq.refl _ _
    · have hs := finv_spec hp hl.2
      obtain ⟨q, r, ⟨M, hq⟩, h1, h2⟩ := ih (less a (Ser.mono (a N * finv (b m) p) (N - m)) b) (by
        intro i hi
        show (a i + -1 * Ser.mul (Ser.mono (a N * finv (b m) p) (N - m)) b i) % p = 0
        rw [Ser.mono_mul_at, if_pos (by omega)]
        by_cases e : i = N
        · subst e
          rw [show i - (i - m) = m from by omega]
          generalize a i = A at *
          generalize b m = B at *
          generalize finv B p = B' at *
          have e1 : A * B' * B % p = A % p := by
            rw [Int.mul_assoc, Int.mul_comm B' B, Int.mul_emod, hs.2.2, Int.mul_one, Int.emod_emod_of_dvd _ (Int.dvd_refl p)]
          have e2 := Int.emod_eq_emod_iff_emod_sub_eq_zero.1 e1.symm
          rw [show A + -1 * (A * B' * B) = A - A * B' * B from by omega]
          exact e2
        · rw [Int.add_emod, ha i (by omega), Int.mul_emod (-1), Int.mul_emod (a N * finv (b m) p), hl.1 (i - (N - m)) (by omega)]
          simp)
      refine ⟨Ser.add (Ser.mono (a N * finv (b m) p) (N - m)) q, r, ⟨max (N + 1) M, ?_⟩, ?_, h2⟩
      · refine Ser.Bd.add (fun i hi => ?_) (hq.mono (by omega))
        show (if i = N - m then _ else (0 : Int)) % p = 0
        rw [if_neg (by omega)]; simp
      · rw [Ser.add_mul, Ser.add_assoc]
        refine (Ser.Eq.of (less_back a (Ser.mono (a N * finv (b m) p) (N - m)) b)).trans ?_
        exact (Ser.Eq.refl _ _).add h1
/-- What the names of quotient and rest stand for. -/
theorem quo_rem {p : Int} {a b : Ser} {m : Nat} (hp : Pr p) (hl : Last p b m) (ha : Fini p a) : ∃ q r, Fini p q ∧ IsDiv p m a b q r ∧ Pol p (quoL p a b) q ∧ Pol p (remL p a b) r := by
  obtain ⟨N, hN⟩ := ha
  obtain ⟨q, r, hq, hd⟩ := div_ex hp hl N a hN
  have h1 := polL_pol hp hq
  have h2 := polL_pol (f := r) hp ⟨m, hd.2⟩
  refine ⟨q, r, hq, hd, ?_, ?_⟩
  · rw [quoL_is hp hl hq hd h1]; exact h1
  · rw [remL_is hp hl ⟨q, hq, hd⟩ h2]; exact h2
theorem rest_back {p : Int} {a b : Ser} {m : Nat} (hp : Pr p) (hl : Last p b m) (ha : Fini p a) (hb : Fini p b) :
    polL p (Ser.add (cf (polL p (Ser.mul (cf (quoL p a b)) b))) (Ser.sc 1 (cf (remL p a b)))) = polL p a := by
  obtain ⟨q, r, hq, hd, h1, h2⟩ := quo_rem hp hl ha
  have e1 := cf_polL (f := Ser.mul (cf (quoL p a b)) b) hp ((fini_cf p _).mul hb)
  rw [sc_one]
  exact polL_congr ((e1.add (Ser.Eq.refl _ _)).trans (((h1.2.mulL b).add h2.2).trans hd.1.symm))
theorem rest_len {p : Int} {a b : Ser} {m : Nat} (hp : Pr p) (hl : Last p b m) (ha : Fini p a) (hb : Fini p b) : (remL p a b).length < (polL p b).length := by
  have h1 : 1 ≤ p := by have := hp.1; omega
  obtain ⟨q, r, hq, hd, _, h2⟩ := quo_rem hp hl ha
  have := h2.1.len_le h1 (hd.2.eq h2.2.symm)
  rw [pol_len h1 (polL_pol hp hb) hl.1 hl.2]
  omega
theorem quo_of_mul {p : Int} {a b : Ser} {m : Nat} (hp : Pr p) (hl : Last p b m) (ha : Fini p a) (hb : Fini p b) :
    quoL p (cf (polL p (Ser.mul a b))) b = polL p a ∧ remL p (cf (polL p (Ser.mul a b))) b = [] := by
  have e := cf_polL (f := Ser.mul a b) hp (ha.mul hb)
  have hd : IsDiv p m (cf (polL p (Ser.mul a b))) b a Ser.zer := ⟨by rw [Ser.add_zer]; exact e, fun i _ => by simp [Ser.zer]⟩
  exact ⟨quoL_is hp hl ha hd (polL_pol hp ha), remL_is hp hl ⟨a, ha, hd⟩ ⟨Pln.nil p, fun i => by rw [cf_nil]; rfl⟩⟩
/-- What is a multiple leaves no rest. -/
theorem rem_mult {p : Int} {a b : Ser} {m : Nat} (hp : Pr p) (hl : Last p b m) (h : Mult p b a) : remL p a b = [] := by
  obtain ⟨u, hu, he⟩ := h
  have hd : IsDiv p m a b u Ser.zer := ⟨by rw [Ser.add_zer]; exact he, fun i _ => by simp [Ser.zer]⟩
  exact remL_is hp hl ⟨u, hu, hd⟩ ⟨Pln.nil p, fun i => by rw [cf_nil]; rfl⟩

def ERow.Fin (p : Int) (x : ERow) : Prop := Fini p x.g ∧ Fini p x.s ∧ Fini p x.t
theorem fini_less {p : Int} {f q g : Ser} (hf : Fini p f) (hq : Fini p q) (hg : Fini p g) : Fini p (less f q g) := hf.add (hq.mul hg).sc
theorem eu_ex {p : Int} (hp : Pr p) : ∀ (N : Nat) (x y : ERow), x.Fin p → y.Fin p → Ser.Bd p y.g N → ∃ o, EuRun p x y o ∧ o.Fin p := by
  intro N
  induction N using Nat.strongRecOn with
  | ind N ih =>
    intro x y hx hy hb
    rcases Classical.em (Ser.Bd p y.g 0) with h0 | h0
    · exact ⟨x, .stop h0, hx⟩
    · obtain ⟨m, hl⟩ := last_of h0 hy.1
      have hm : m < N := by
        rcases Nat.lt_or_ge m N with h | h
        · exact h
        · exact absurd (hb m h) hl.2
      obtain ⟨K, hK⟩ := hx.1
      obtain ⟨q, r, hq, hd⟩ := div_ex hp hl K x.g hK
      have hz : Ser.Bd p (x.less q y).g m := hd.2.eq (less_of hd.1)
      obtain ⟨o, ho, hf⟩ := ih m hm y (x.less q y) hy ⟨fini_less hx.1 hq hy.1, fini_less hx.2.1 hq hy.2.1, fini_less hx.2.2 hq hy.2.2⟩ hz
      exact ⟨o, .step m q hl.1 hl.2 hq hz (ERow.Same.refl _ _) ho, hf⟩
theorem fini_con (p c : Int) : Fini p (Ser.con c) := ⟨1, fun i hi => by show (if i = 0 then c else 0) % p = 0; rw [if_neg (by omega)]; simp⟩
theorem fini_zer (p : Int) : Fini p Ser.zer := ⟨0, fun i _ => by simp [Ser.zer]⟩
theorem bez_ex {p : Int} (hp : Pr p) {a b : Ser} (ha : Fini p a) (hb : Fini p b) : ∃ g s t, IsBez p a b g s t ∧ Pol p (bezG p a b) g ∧ Pol p (bezS p a b) s ∧ Pol p (bezT p a b) t ∧ Fini p g := by
  obtain ⟨N, hN⟩ := hb
  obtain ⟨o, ho, hf⟩ := eu_ex hp N ⟨a, Ser.con 1, Ser.zer⟩ ⟨b, Ser.zer, Ser.con 1⟩ ⟨ha, fini_con p 1, fini_zer p⟩ ⟨⟨N, hN⟩, fini_zer p, fini_con p 1⟩ hN
  have key : ∀ g s t, IsBez p a b g s t → Fini p g → Fini p s → Fini p t → ∃ g s t, IsBez p a b g s t ∧ Pol p (bezG p a b) g ∧ Pol p (bezS p a b) s ∧ Pol p (bezT p a b) t ∧ Fini p g := by
    intro g s t h fg fs ft
    have h1 := polL_pol hp fg
    have h2 := polL_pol hp fs
    have h3 := polL_pol hp ft
    exact ⟨g, s, t, h, by rw [bezG_is hp h h1]; exact h1, by rw [bezS_is hp h h2]; exact h2, by rw [bezT_is hp h h3]; exact h3, fg⟩
  rcases Classical.em (Ser.Bd p o.g 0) with h0 | h0
  · exact key Ser.zer (Ser.con 1) Ser.zer ⟨o, ho, .inl ⟨h0, fun i _ => by simp [Ser.zer], Ser.Eq.refl _ _, fun i _ => by simp [Ser.zer]⟩⟩ (fini_zer p) (fini_con p 1) (fini_zer p)
  · obtain ⟨m, hl⟩ := last_of h0 hf.1
    exact key _ _ _ ⟨o, ho, .inr ⟨m, hl.1, hl.2, Ser.Eq.refl _ _, Ser.Eq.refl _ _, Ser.Eq.refl _ _⟩⟩ hf.1.sc hf.2.1.sc hf.2.2.sc
/-- Bezout's row is made of both. -/
theorem bez_made {p : Int} (hp : Pr p) {a b : Ser} (ha : Fini p a) (hb : Fini p b) :
    polL p (Ser.add (cf (polL p (Ser.mul (cf (bezS p a b)) a))) (Ser.sc 1 (cf (polL p (Ser.mul (cf (bezT p a b)) b))))) = bezG p a b := by
  obtain ⟨g, s, t, h, h1, h2, h3, hf⟩ := bez_ex hp ha hb
  have e1 := cf_polL (f := Ser.mul (cf (bezS p a b)) a) hp ((fini_cf p _).mul ha)
  have e2 := cf_polL (f := Ser.mul (cf (bezT p a b)) b) hp ((fini_cf p _).mul hb)
  rw [sc_one]
  refine polL_is hp (h1.eq ?_)
  exact (((e1.trans (h2.2.mulL a)).add (e2.trans (h3.2.mulL b))).trans h.made).symm
theorem bez_zero {p : Int} (hp : Pr p) {a b : Ser} (ha : Fini p a) (hb : Fini p b) (h0 : bezG p a b = []) : polL p a = [] ∧ polL p b = [] := by
  obtain ⟨g, s, t, h, h1, _⟩ := bez_ex hp ha hb
  have := (h1.nought (by have := hp.1; omega)).1 h0
  have := (h.nought hp).1 this
  exact ⟨polL_nil this.1, polL_nil this.2⟩
theorem bez_some {p : Int} (hp : Pr p) {a b : Ser} (ha : Fini p a) (hb : Fini p b) (h0 : bezG p a b ≠ []) :
    cf (bezG p a b) ((bezG p a b).length - 1) = 1 ∧ Last p (cf (bezG p a b)) ((bezG p a b).length - 1) ∧ remL p a (cf (bezG p a b)) = [] ∧ remL p b (cf (bezG p a b)) = [] := by
  have hp1 : 1 ≤ p := by have := hp.1; omega
  obtain ⟨g, s, t, h, h1, _⟩ := bez_ex hp ha hb
  have hn : ¬ Ser.Bd p g 0 := fun k => h0 ((h1.nought hp1).2 k)
  obtain ⟨m, hm, ht⟩ := h.monic hp hn
  have hlen := pol_len hp1 h1 hm (by rw [ht]; decide)
  have hl : Last p (cf (bezG p a b)) ((bezG p a b).length - 1) := pol_last hp1 (Pol.self h1.1) h0
  have hd := h.divides hp
  have hm' : ∀ f, Mult p g f → Mult p (cf (bezG p a b)) f := by
    rintro f ⟨u, fu, hu⟩
    exact ⟨u, fu, hu.trans ((Ser.Eq.refl _ _).mul h1.2.symm)⟩
  refine ⟨?_, hl, rem_mult hp hl (hm' _ hd.1), rem_mult hp hl (hm' _ hd.2)⟩
  have e := h1.2 m
  rw [ht, h1.1.1.emod hp1] at e
  rw [hlen, Nat.add_sub_cancel]
  exact e
theorem bez_more {p : Int} (hp : Pr p) {a b c : Ser} (ha : Fini p a) (hb : Fini p b) (hc : Fini p c) :
    bezG p (cf (polL p (Ser.mul a c))) (cf (polL p (Ser.mul b c))) = monL p (cf (polL p (Ser.mul (cf (bezG p a b)) c))) := by
  have hp1 : 1 ≤ p := by have := hp.1; omega
  obtain ⟨g, s, t, h, h1, _⟩ := bez_ex hp ha hb
  obtain ⟨g', s', t', h', h1', _⟩ := bez_ex (a := cf (polL p (Ser.mul a c))) (b := cf (polL p (Ser.mul b c))) hp (fini_cf p _) (fini_cf p _)
  obtain ⟨g2, s2, t2, k, k1, k2, k3, _⟩ := bez_ex (a := Ser.mul a c) (b := Ser.mul b c) hp (ha.mul hc) (hb.mul hc)
  have e := h'.uniq hp k (cf_polL hp (ha.mul hc)) (cf_polL hp (hb.mul hc))
  have hm : IsMon p (Ser.mul g c) g' := h.more hp hc (s' := s2) (t' := t2) (by
    obtain ⟨o, r, w⟩ := k
    refine ⟨o, r, ?_⟩
    rcases w with ⟨w1, w2, w3, w4⟩ | ⟨m, w1, w2, w3, w4, w5⟩
    · exact .inl ⟨w1, w2.eq e.1.symm, w3, w4⟩
    · exact .inr ⟨m, w1, w2, e.1.trans w3, w4, w5⟩)
  have e2 : Ser.Eq p (cf (polL p (Ser.mul (cf (bezG p a b)) c))) (Ser.mul g c) := (cf_polL hp ((fini_cf p _).mul hc)).trans (h1.2.mulL c)
  have hm2 : ∃ g3, IsMon p (cf (polL p (Ser.mul (cf (bezG p a b)) c))) g3 ∧ Ser.Eq p g3 g' := by
    rcases hm with ⟨m1, m2⟩ | ⟨m, m1, m2, m3⟩
    · exact ⟨g', .inl ⟨m1.eq e2.symm, m2⟩, Ser.Eq.refl _ _⟩
    · exact ⟨g', .inr ⟨m, m1.eq e2.symm, by rw [e2 m]; exact m2, by rw [finv_congr hp (e2 m)]; exact m3.trans (Ser.Eq.sc rfl e2.symm)⟩, Ser.Eq.refl _ _⟩
  obtain ⟨g3, m3, e3⟩ := hm2
  exact (monL_is hp m3 (h1'.eq e3.symm)).symm
end Go.Proofs.YtnkhhndjbanmnaaGreatDoor

/- Derivatives of products, values of sums and products, powers' rests: what layer 6's laws say of them. Mathematics alone. -/
namespace Go.Proofs.YtnkhhndjbanmnaaGreatDoor

theorem der_mul_at (g : Ser) (n : Nat) : ∀ f : Ser, ((n : Int) + 1) * Ser.mul f g (n + 1) = Ser.mul (Ser.der f) g n + Ser.mul f (Ser.der g) n := by
  induction n with
  | zero =>
    intro f
    rw [Ser.mul_succ, Ser.mul_zero_at, Ser.mul_zero_at, Ser.mul_zero_at]
    show ((0 : Nat) + 1 : Int) * (f 0 * g 1 + f 1 * g 0) = ((0 : Nat) + 1 : Int) * f 1 * g 0 + f 0 * (((0 : Nat) + 1 : Int) * g 1)
    simp only [Int.ofNat_zero, Int.zero_add, Int.one_mul]
    omega
  | succ n ih =>
    intro f
    have e : Ser.tl (Ser.der f) = Ser.add (Ser.der (Ser.tl f)) (Ser.tl (Ser.tl f)) := by
      funext i
      show ((i + 1 : Nat) + 1 : Int) * f (i + 1 + 1) = ((i : Int) + 1) * f (i + 1 + 1) + f (i + 1 + 1)
      generalize f (i + 1 + 1) = z
      rw [show ((i + 1 : Nat) + 1 : Int) = ((i : Int) + 1) + 1 from by omega, Int.add_mul, Int.one_mul]
    have h := ih (Ser.tl f)
    rw [Ser.mul_succ f g (n + 1), Ser.mul_succ (Ser.der f) g n, Ser.mul_succ f (Ser.der g) n, e, Ser.add_mul_at]
    have h2 := Ser.mul_succ (Ser.tl f) g n
    have hd : Ser.der f 0 = Ser.tl f 0 := by show ((0 : Nat) + 1 : Int) * f 1 = f 1; simp
    have hg : Ser.der g (n + 1) = ((n + 1 : Nat) + 1 : Int) * g (n + 1 + 1) := rfl
    rw [hd, hg, Int.mul_add, show ((n + 1 : Nat) + 1 : Int) = ((n : Int) + 1) + 1 from by omega, Int.add_mul ((n : Int) + 1) 1 (Ser.mul (Ser.tl f) g (n + 1)), h, Int.one_mul]
    rw [show f 0 * (((n : Int) + 1 + 1) * g (n + 1 + 1)) = ((n : Int) + 1 + 1) * (f 0 * g (n + 1 + 1)) from by rw [Int.mul_left_comm]]
    omega
theorem der_mul (f g : Ser) : Ser.der (Ser.mul f g) = Ser.add (Ser.mul (Ser.der f) g) (Ser.mul f (Ser.der g)) := funext fun n => der_mul_at g n f
theorem fini_der {p : Int} {f : Ser} (h : Fini p f) : Fini p (Ser.der f) := by
  obtain ⟨N, hN⟩ := h
  exact ⟨N, fun i hi => by show ((i : Int) + 1) * f (i + 1) % p = 0; rw [Int.mul_emod, hN (i + 1) (by omega)]; simp⟩
theorem eq_leibniz {p : Int} (hp : Pr p) {f g : Ser} (hf : Fini p f) (hg : Fini p g) :
    polL p (Ser.der (cf (polL p (Ser.mul f g)))) = polL p (Ser.add (cf (polL p (Ser.mul (cf (polL p (Ser.der f))) g))) (Ser.sc 1 (cf (polL p (Ser.mul f (cf (polL p (Ser.der g)))))))) := by
  have e1 := (cf_polL hp (hf.mul hg)).der
  have e2 := cf_polL hp (fini_der hf)
  have e3 := cf_polL hp (fini_der hg)
  have e4 := cf_polL (f := Ser.mul (cf (polL p (Ser.der f))) g) hp ((fini_cf p _).mul hg)
  have e5 := cf_polL (f := Ser.mul f (cf (polL p (Ser.der g)))) hp (hf.mul (fini_cf p _))
  rw [sc_one]
  refine polL_congr (e1.trans ?_)
  rw [der_mul]
  exact ((e4.trans (e2.mulL g)).add (e5.trans ((Ser.Eq.refl _ _).mul e3))).symm

/-- Values. -/
theorem evL_zero (x p : Int) : ∀ xs : List Int, Ser.Bd p (cf xs) 0 → evL x xs % p = 0 := by
  intro xs
  induction xs with
  | nil => intro _; simp [evL]
  | cons a l ih =>
    intro h
    have h0 : a % p = 0 := by have := h 0 (Nat.le_refl _); rwa [cf_cons_zero] at this
    have h1 : Ser.Bd p (cf l) 0 := fun i _ => by have := h (i + 1) (Nat.zero_le _); rwa [cf_cons_succ] at this
    show (a + x * evL x l) % p = 0
    rw [Int.add_emod, h0, Int.mul_emod, ih h1]
    simp
theorem evL_congr (x p : Int) : ∀ xs ys : List Int, Ser.Eq p (cf xs) (cf ys) → evL x xs % p = evL x ys % p := by
  intro xs
  induction xs with
  | nil =>
    intro ys h
    rw [evL_zero x p ys (fun i _ => by rw [← h i, cf_nil]; simp)]
    simp [evL]
  | cons a l ih =>
    intro ys h
    cases ys with
    | nil =>
      rw [evL_zero x p (a :: l) (fun i _ => by rw [h i, cf_nil]; simp)]
      simp [evL]
    | cons b k =>
      have h0 : a % p = b % p := by have := h 0; rwa [cf_cons_zero, cf_cons_zero] at this
      have h1 : Ser.Eq p (cf l) (cf k) := fun i => by have := h (i + 1); rwa [cf_cons_succ, cf_cons_succ] at this
      show (a + x * evL x l) % p = (b + x * evL x k) % p
      rw [Int.add_emod, h0, Int.mul_emod, ih k h1, ← Int.mul_emod, ← Int.add_emod]
theorem ev_sum (x : Int) : ∀ xs ys : List Int, ∃ zs, cf zs = Ser.add (cf xs) (cf ys) ∧ evL x zs = evL x xs + evL x ys := by
  intro xs
  induction xs with
  | nil => exact fun ys => ⟨ys, by funext i; show cf ys i = cf [] i + cf ys i; rw [cf_nil, Int.zero_add], by simp [evL]⟩
  | cons a l ih =>
    intro ys
    cases ys with
    | nil => exact ⟨a :: l, by funext i; show cf (a :: l) i = cf (a :: l) i + cf [] i; rw [cf_nil, Int.add_zero], by simp [evL]⟩
    | cons b k =>
      obtain ⟨zs, h1, h2⟩ := ih k
      refine ⟨(a + b) :: zs, ?_, ?_⟩
      · funext i
        cases i with
        | zero => show cf ((a + b) :: zs) 0 = cf (a :: l) 0 + cf (b :: k) 0; rw [cf_cons_zero, cf_cons_zero, cf_cons_zero]
        | succ i => show cf ((a + b) :: zs) (i + 1) = cf (a :: l) (i + 1) + cf (b :: k) (i + 1); rw [cf_cons_succ, cf_cons_succ, cf_cons_succ, h1]; rfl
      · show a + b + x * evL x zs = a + x * evL x l + (b + x * evL x k)
        rw [h2, Int.mul_add]
        omega
theorem ev_sc (x c : Int) (ys : List Int) : cf (ys.map (c * ·)) = Ser.sc c (cf ys) ∧ evL x (ys.map (c * ·)) = c * evL x ys := by
  refine ⟨funext fun i => cf_map (c * ·) (by simp) ys i, ?_⟩
  induction ys with
  | nil => simp [evL]
  | cons b k ih =>
    show c * b + x * evL x (k.map (c * ·)) = c * (b + x * evL x k)
    rw [ih, Int.mul_add, Int.mul_left_comm]
theorem ev_mul (x : Int) : ∀ xs ys : List Int, ∃ zs, cf zs = Ser.mul (cf xs) (cf ys) ∧ evL x zs = evL x xs * evL x ys := by
  intro xs
  induction xs with
  | nil =>
    intro ys
    refine ⟨[], ?_, by simp [evL]⟩
    have : cf [] = Ser.zer := funext fun i => cf_nil i
    rw [this, Ser.zer_mul]
  | cons a l ih =>
    intro ys
    obtain ⟨zs, h1, h2⟩ := ih ys
    obtain ⟨ws, k1, k2⟩ := ev_sum x (ys.map (a * ·)) (0 :: zs)
    refine ⟨ws, ?_, ?_⟩
    · rw [k1, (ev_sc x a ys).1]
      have ht : Ser.tl (cf (a :: l)) = cf l := funext fun i => cf_cons_succ a l i
      funext i
      show a * cf ys i + cf (0 :: zs) i = _
      cases i with
      | zero => rw [Ser.mul_zero_at, cf_cons_zero, cf_cons_zero, Int.add_zero]
      | succ i => rw [Ser.mul_succ, ht, cf_cons_succ, cf_cons_zero, h1]
    · rw [k2, (ev_sc x a ys).2]
      show a * evL x ys + (0 + x * evL x zs) = (a + x * evL x l) * evL x ys
      rw [h2, Int.add_mul, Int.zero_add, Int.mul_assoc]
theorem ev_of_sum {p : Int} (hp : Pr p) (x : Int) (xs ys : List Int) : evP' x p (polL p (Ser.add (cf xs) (Ser.sc 1 (cf ys)))) = fadd (evP' x p xs) (evP' x p ys) p := by
  have hb := primB_yes hp
  obtain ⟨zs, h1, h2⟩ := ev_sum x xs ys
  rw [sc_one, fadd_yes hb]
  unfold evP'
  rw [if_pos hb, if_pos hb, if_pos hb, evL_congr x p _ zs ((cf_polL hp ((fini_cf p _).add (fini_cf p _))).trans (Ser.Eq.of h1.symm)), h2, ← Int.add_emod]
theorem ev_of_mul {p : Int} (hp : Pr p) (x : Int) (xs ys : List Int) : evP' x p (polL p (Ser.mul (cf xs) (cf ys))) = fmul (evP' x p xs) (evP' x p ys) p := by
  have hb := primB_yes hp
  obtain ⟨zs, h1, h2⟩ := ev_mul x xs ys
  rw [fmul_yes hb]
  unfold evP'
  rw [if_pos hb, if_pos hb, if_pos hb, evL_congr x p _ zs ((cf_polL hp ((fini_cf p _).mul (fini_cf p _))).trans (Ser.Eq.of h1.symm)), h2, ← Int.mul_emod]

/-- Powers' rests. -/
theorem pow_rest {p : Int} {f b : Ser} {m : Nat} (hp : Pr p) (hl : Last p b m) (hf : Fini p f) (V : Nat) : RestOf p m (Ser.pw f V) b (cf (powL p 1 V f b)) := by
  obtain ⟨N, hN⟩ := fini_pw hf V
  obtain ⟨q, r, hq, hd⟩ := div_ex hp hl N _ hN
  have h := polL_pol (f := r) hp ⟨m, hd.2⟩
  rw [powL_is hp (by decide) hl ⟨q, hq, hd⟩ h]
  exact RestOf.eqR ⟨q, hq, hd⟩ h.2.symm
theorem pow_is {p : Int} {f b r : Ser} {m V : Nat} (hp : Pr p) (hl : Last p b m) (h : RestOf p m (Ser.pw f V) b r) : powL p 1 V f b = polL p r := by
  exact powL_is hp (by decide) hl h (polL_pol hp h.fini)
theorem pow_adds {p : Int} {f b : Ser} {m : Nat} (hp : Pr p) (hl : Last p b m) (hf : Fini p f) (i j : Nat) :
    remL p (cf (polL p (Ser.mul (cf (powL p 1 i f b)) (cf (powL p 1 j f b))))) b = powL p 1 (i + j) f b := by
  have hi := pow_rest hp hl hf i
  have hj := pow_rest hp hl hf j
  have hm := cf_polL (f := Ser.mul (cf (powL p 1 i f b)) (cf (powL p 1 j f b))) hp ((fini_cf p _).mul (fini_cf p _))
  obtain ⟨q, r, hq, hd, _, h2⟩ := quo_rem (a := cf (polL p (Ser.mul (cf (powL p 1 i f b)) (cf (powL p 1 j f b))))) hp hl (fini_cf p _)
  have h1 : RestOf p m (Ser.mul (cf (powL p 1 i f b)) (cf (powL p 1 j f b))) b r := RestOf.eq ⟨q, hq, hd⟩ hm
  have h3 : RestOf p m (Ser.mul (Ser.pw f i) (cf (powL p 1 j f b))) b r := hi.mulR (fini_cf p _) h1
  have h4 : RestOf p m (Ser.mul (Ser.pw f j) (Ser.pw f i)) b r := hj.mulR (fini_pw hf i) (by rw [Ser.mul_comm]; exact h3)
  have h5 : RestOf p m (Ser.pw f (i + j)) b r := by rw [Ser.pw_add, Ser.mul_comm]; exact h4
  rw [pow_is hp hl h5]
  exact (polL_is hp h2).symm
theorem pow_frob {p : Int} {f g b : Ser} {m : Nat} (hp : Pr p) (hl : Last p b m) (hf : Fini p f) (hg : Fini p g) :
    powL p 1 p.toNat (cf (polL p (Ser.add f (Ser.sc 1 g)))) b = polL p (Ser.add (cf (powL p 1 p.toNat f b)) (Ser.sc 1 (cf (powL p 1 p.toNat g b)))) := by
  have e := (cf_polL hp (fini_add1 hf hg)).pw p.toNat
  rw [sc_one] at e ⊢
  rw [sc_one]
  obtain ⟨q1, n1, d1⟩ := pow_rest hp hl hf p.toNat
  obtain ⟨q2, n2, d2⟩ := pow_rest hp hl hg p.toNat
  refine pow_is hp hl ⟨Ser.add q1 q2, n1.add n2, ?_, d1.2.add d2.2⟩
  refine e.trans ((Ser.frob hp f g).trans ((d1.1.add d2.1).trans (Ser.Eq.of ?_)))
  rw [Ser.add_mul]
  funext i
  show Ser.mul q1 b i + _ + (Ser.mul q2 b i + _) = Ser.mul q1 b i + Ser.mul q2 b i + (_ + _)
  omega
end Go.Proofs.YtnkhhndjbanmnaaGreatDoor

/- Texts joined, in their order: PolEqs, PolEx, PolVal. -/
import Derived.Test.YtnkhhndjbanmnaaGreatDoorMp13

/- The equalities and lengths that layer 6's laws without the document's answers want. Mathematics alone. -/
namespace Go.Proofs.YtnkhhndjbanmnaaGreatDoor

theorem pol_len {p : Int} {ys : List Int} {f : Ser} {k : Nat} (hp : 1 ≤ p) (h : Pol p ys f) (hb : Ser.Bd p f (k + 1)) (ht : f k % p ≠ 0) : ys.length = k + 1 := by
  have h1 := h.1.len_le hp (hb.eq h.2.symm)
  rcases Nat.lt_or_ge k ys.length with h2 | h2
  · omega
  · exact absurd (by rw [← h.2 k, cf_over h2]; simp) ht
theorem sc_one (f : Ser) : Ser.sc 1 f = f := funext fun _ => Int.one_mul _
end Go.Proofs.YtnkhhndjbanmnaaGreatDoor

/- Quotients, rests, common divisors, powers' rests of polynomials by a prime: that there are such, so that the names stand for them; what layer 6's laws say of them. Mathematics alone. -/
namespace Go.Proofs.YtnkhhndjbanmnaaGreatDoor

theorem div_ex {p : Int} {b : Ser} {m : Nat} (hp : Pr p) (hl : Last p b m) : ∀ (N : Nat) (a : Ser), Ser.Bd p a N → ∃ q r, Fini p q ∧ IsDiv p m a b q r := by
  intro N
  induction N with
  | zero =>
    intro a ha
    refine ⟨Ser.zer, a, ⟨0, fun i _ => by simp [Ser.zer]⟩, ?_, ha.mono (Nat.zero_le _)⟩
    rw [Ser.zer_mul, Ser.zer_add]
    exact Ser.Eq.refl _ _
  | succ N ih =>
    intro a ha
    by_cases hN : N + 1 ≤ m
    · refine ⟨Ser.zer, a, ⟨0, fun i _ => by simp [Ser.zer]⟩, ?_, ha.mono hN⟩
      rw [Ser.zer_mul, Ser.zer_add]
      exact Ser.Eq.refl _ _
    · have hs := finv_spec hp hl.2
      obtain ⟨q, r, ⟨M, hq⟩, h1, h2⟩ := ih (less a (Ser.mono (a N * finv (b m) p) (N - m)) b) (by
        intro i hi
        show (a i + -1 * Ser.mul (Ser.mono (a N * finv (b m) p) (N - m)) b i) % p = 0
        rw [Ser.mono_mul_at, if_pos (by omega)]
        by_cases e : i = N
        · subst e
          rw [show i - (i - m) = m from by omega]
          generalize a i = A at *
          generalize b m = B at *
          generalize finv B p = B' at *
          have e1 : A * B' * B % p = A % p := by
            rw [Int.mul_assoc, Int.mul_comm B' B, Int.mul_emod, hs.2.2, Int.mul_one, Int.emod_emod_of_dvd _ (Int.dvd_refl p)]
          have e2 := Int.emod_eq_emod_iff_emod_sub_eq_zero.1 e1.symm
          rw [show A + -1 * (A * B' * B) = A - A * B' * B from by omega]
          exact e2
        · rw [Int.add_emod, ha i (by omega), Int.mul_emod (-1), Int.mul_emod (a N * finv (b m) p), hl.1 (i - (N - m)) (by omega)]
          simp)
      refine ⟨Ser.add (Ser.mono (a N * finv (b m) p) (N - m)) q, r, ⟨max (N + 1) M, ?_⟩, ?_, h2⟩
      · refine Ser.Bd.add (fun i hi => ?_) (hq.mono (by omega))
        show (if i = N - m then _ else (0 : Int)) % p = 0
        rw [if_neg (by omega)]; simp
      · rw [Ser.add_mul, Ser.add_assoc]
        refine (Ser.Eq.of (less_back a (Ser.mono (a N * finv (b m) p) (N - m)) b)).trans ?_
        exact (Ser.Eq.refl _ _).add h1
theorem quo_rem {p : Int} {a b : Ser} {m : Nat} (hp : Pr p) (hl : Last p b m) (ha : Fini p a) : ∃ q r, Fini p q ∧ IsDiv p m a b q r ∧ Pol p (quoL p a b) q ∧ Pol p (remL p a b) r := by
  obtain ⟨N, hN⟩ := ha
  obtain ⟨q, r, hq, hd⟩ := div_ex hp hl N a hN
  have h1 := polL_pol hp hq
  have h2 := polL_pol (f := r) hp ⟨m, hd.2⟩
  refine ⟨q, r, hq, hd, ?_, ?_⟩
  · rw [quoL_is hp hl hq hd h1]; exact h1
  · rw [remL_is hp hl ⟨q, hq, hd⟩ h2]; exact h2
theorem rem_mult {p : Int} {a b : Ser} {m : Nat} (hp : Pr p) (hl : Last p b m) (h : Mult p b a) : remL p a b = [] := by
  obtain ⟨u, hu, he⟩ := h
  have hd : IsDiv p m a b u Ser.zer := ⟨by rw [Ser.add_zer]; exact he, fun i _ => by simp [Ser.zer]⟩
  exact remL_is hp hl ⟨u, hu, hd⟩ ⟨Pln.nil p, fun i => by rw [cf_nil]; rfl⟩

def ERow.Fin (p : Int) (x : ERow) : Prop := Fini p x.g ∧ Fini p x.s ∧ Fini p x.t
theorem fini_less {p : Int} {f q g : Ser} (hf : Fini p f) (hq : Fini p q) (hg : Fini p g) : Fini p (less f q g) := hf.add (hq.mul hg).sc
theorem eu_ex {p : Int} (hp : Pr p) : ∀ (N : Nat) (x y : ERow), x.Fin p → y.Fin p → Ser.Bd p y.g N → ∃ o, EuRun p x y o ∧ o.Fin p := by
  intro N
  induction N using Nat.strongRecOn with
  | ind N ih =>
    intro x y hx hy hb
    rcases Classical.em (Ser.Bd p y.g 0) with h0 | h0
    · exact ⟨x, .stop h0, hx⟩
    · obtain ⟨m, hl⟩ := last_of h0 hy.1
      have hm : m < N := by
        rcases Nat.lt_or_ge m N with h | h
        · exact h
        · exact absurd (hb m h) hl.2
      obtain ⟨K, hK⟩ := hx.1
      obtain ⟨q, r, hq, hd⟩ := div_ex hp hl K x.g hK
      have hz : Ser.Bd p (x.less q y).g m := hd.2.eq (less_of hd.1)
      obtain ⟨o, ho, hf⟩ := ih m hm y (x.less q y) hy ⟨fini_less hx.1 hq hy.1, fini_less hx.2.1 hq hy.2.1, fini_less hx.2.2 hq hy.2.2⟩ hz
      exact ⟨o, .step m q hl.1 hl.2 hq hz (ERow.Same.refl _ _) ho, hf⟩
theorem fini_con (p c : Int) : Fini p (Ser.con c) := ⟨1, fun i hi => by show (if i = 0 then c else 0) % p = 0; rw [if_neg (by omega)]; simp⟩
theorem fini_zer (p : Int) : Fini p Ser.zer := ⟨0, fun i _ => by simp [Ser.zer]⟩
theorem bez_ex {p : Int} (hp : Pr p) {a b : Ser} (ha : Fini p a) (hb : Fini p b) : ∃ g s t, IsBez p a b g s t ∧ Pol p (bezG p a b) g ∧ Pol p (bezS p a b) s ∧ Pol p (bezT p a b) t ∧ Fini p g := by
  obtain ⟨N, hN⟩ := hb
  obtain ⟨o, ho, hf⟩ := eu_ex hp N ⟨a, Ser.con 1, Ser.zer⟩ ⟨b, Ser.zer, Ser.con 1⟩ ⟨ha, fini_con p 1, fini_zer p⟩ ⟨⟨N, hN⟩, fini_zer p, fini_con p 1⟩ hN
  have key : ∀ g s t, IsBez p a b g s t → Fini p g → Fini p s → Fini p t → ∃ g s t, IsBez p a b g s t ∧ Pol p (bezG p a b) g ∧ Pol p (bezS p a b) s ∧ Pol p (bezT p a b) t ∧ Fini p g := by
    intro g s t h fg fs ft
    have h1 := polL_pol hp fg
    have h2 := polL_pol hp fs
    have h3 := polL_pol hp ft
    exact ⟨g, s, t, h, by rw [bezG_is hp h h1]; exact h1, by rw [bezS_is hp h h2]; exact h2, by rw [bezT_is hp h h3]; exact h3, fg⟩
  rcases Classical.em (Ser.Bd p o.g 0) with h0 | h0
  · exact key Ser.zer (Ser.con 1) Ser.zer ⟨o, ho, .inl ⟨h0, fun i _ => by simp [Ser.zer], Ser.Eq.refl _ _, fun i _ => by simp [Ser.zer]⟩⟩ (fini_zer p) (fini_con p 1) (fini_zer p)
  · obtain ⟨m, hl⟩ := last_of h0 hf.1
    exact key _ _ _ ⟨o, ho, .inr ⟨m, hl.1, hl.2, Ser.Eq.refl _ _, Ser.Eq.refl _ _, Ser.Eq.refl _ _⟩⟩ hf.1.sc hf.2.1.sc hf.2.2.sc
end Go.Proofs.YtnkhhndjbanmnaaGreatDoor

/- Derivatives of products, values of sums and products, powers' rests: what layer 6's laws say of them. Mathematics alone. -/
namespace Go.Proofs.YtnkhhndjbanmnaaGreatDoor

theorem der_mul_at (g : Ser) (n : Nat) : ∀ f : Ser, ((n : Int) + 1) * Ser.mul f g (n + 1) = Ser.mul (Ser.der f) g n + Ser.mul f (Ser.der g) n := by
  induction n with
  | zero =>
    intro f
    rw [Ser.mul_succ, Ser.mul_zero_at, Ser.mul_zero_at, Ser.mul_zero_at]
    show ((0 : Nat) + 1 : Int) * (f 0 * g 1 + f 1 * g 0) = ((0 : Nat) + 1 : Int) * f 1 * g 0 + f 0 * (((0 : Nat) + 1 : Int) * g 1)
    simp only [Int.ofNat_zero, Int.zero_add, Int.one_mul]
    omega
  | succ n ih =>
    intro f
    have e : Ser.tl (Ser.der f) = Ser.add (Ser.der (Ser.tl f)) (Ser.tl (Ser.tl f)) := by
      funext i
      show ((i + 1 : Nat) + 1 : Int) * f (i + 1 + 1) = ((i : Int) + 1) * f (i + 1 + 1) + f (i + 1 + 1)
      generalize f (i + 1 + 1) = z
      rw [show ((i + 1 : Nat) + 1 : Int) = ((i : Int) + 1) + 1 from by omega, Int.add_mul, Int.one_mul]
    have h := ih (Ser.tl f)
    rw [Ser.mul_succ f g (n + 1), Ser.mul_succ (Ser.der f) g n, Ser.mul_succ f (Ser.der g) n, e, Ser.add_mul_at]
    have h2 := Ser.mul_succ (Ser.tl f) g n
    have hd : Ser.der f 0 = Ser.tl f 0 := by show ((0 : Nat) + 1 : Int) * f 1 = f 1; simp
    have hg : Ser.der g (n + 1) = ((n + 1 : Nat) + 1 : Int) * g (n + 1 + 1) := rfl
    rw [hd, hg, Int.mul_add, show ((n + 1 : Nat) + 1 : Int) = ((n : Int) + 1) + 1 from by omega, Int.add_mul ((n : Int) + 1) 1 (Ser.mul (Ser.tl f) g (n + 1)), h, Int.one_mul]
    rw [show f 0 * (((n : Int) + 1 + 1) * g (n + 1 + 1)) = ((n : Int) + 1 + 1) * (f 0 * g (n + 1 + 1)) from by rw [Int.mul_left_comm]]
    omega
theorem der_mul (f g : Ser) : Ser.der (Ser.mul f g) = Ser.add (Ser.mul (Ser.der f) g) (Ser.mul f (Ser.der g)) := funext fun n => der_mul_at g n f
theorem fini_der {p : Int} {f : Ser} (h : Fini p f) : Fini p (Ser.der f) := by
  obtain ⟨N, hN⟩ := h
  exact ⟨N, fun i hi => by show ((i : Int) + 1) * f (i + 1) % p = 0; rw [Int.mul_emod, hN (i + 1) (by omega)]; simp⟩
theorem pow_rest {p : Int} {f b : Ser} {m : Nat} (hp : Pr p) (hl : Last p b m) (hf : Fini p f) (V : Nat) : RestOf p m (Ser.pw f V) b (cf (powL p 1 V f b)) := by
  obtain ⟨N, hN⟩ := fini_pw hf V
  obtain ⟨q, r, hq, hd⟩ := div_ex hp hl N _ hN
  have h := polL_pol (f := r) hp ⟨m, hd.2⟩
  rw [powL_is hp (by decide) hl ⟨q, hq, hd⟩ h]
  exact RestOf.eqR ⟨q, hq, hd⟩ h.2.symm
theorem pow_is {p : Int} {f b r : Ser} {m V : Nat} (hp : Pr p) (hl : Last p b m) (h : RestOf p m (Ser.pw f V) b r) : powL p 1 V f b = polL p r := by
  exact powL_is hp (by decide) hl h (polL_pol hp h.fini)
end Go.Proofs.YtnkhhndjbanmnaaGreatDoor

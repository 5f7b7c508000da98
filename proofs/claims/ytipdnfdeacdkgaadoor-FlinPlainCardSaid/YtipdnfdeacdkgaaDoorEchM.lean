/- Plain rows of a matrix by a small prime: what rows span; the plain rows of what is spanned, told but once; a row put among them. Mathematics alone. -/
import Derived.Test.YtipdnfdeacdkgaaDoorPol
namespace Go.Proofs.YtipdnfdeacdkgaaDoor

/-- What rows span. -/
inductive Sp (p : Int) (E : List (List Int)) : Ser → Prop
  | row {r : List Int} : r ∈ E → Sp p E (cf r)
  | zer : Sp p E Ser.zer
  | add {f g : Ser} : Sp p E f → Sp p E g → Sp p E (Ser.add f g)
  | sc {f : Ser} (c : Int) : Sp p E f → Sp p E (Ser.sc c f)
  | eq {f g : Ser} : Sp p E f → Ser.Eq p f g → Sp p E g
theorem Sp.sub {p : Int} {E E' : List (List Int)} (h : ∀ r ∈ E, Sp p E' (cf r)) {f : Ser} (k : Sp p E f) : Sp p E' f := by
  induction k with
  | row hr => exact h _ hr
  | zer => exact .zer
  | add _ _ a b => exact .add a b
  | sc c _ a => exact .sc c a
  | eq _ e a => exact .eq a e
theorem Sp.more {p : Int} {E E' : List (List Int)} (h : ∀ r ∈ E, r ∈ E') {f : Ser} (k : Sp p E f) : Sp p E' f := k.sub fun r hr => .row (h r hr)

/-- Rows with the places of their first residues, plain: residues; the first one 1; the others' 0 there; by the places. -/
structure EchP (p : Int) (n : Nat) (P : List (Nat × List Int)) : Prop where
  inc : P.Pairwise fun a b => a.1 < b.1
  lt : ∀ a ∈ P, a.1 < n
  len : ∀ a ∈ P, a.2.length = n
  rs : ∀ a ∈ P, Rs p a.2
  one : ∀ a ∈ P, cf a.2 a.1 = 1
  low : ∀ a ∈ P, ∀ j, j < a.1 → cf a.2 j = 0
  other : ∀ a ∈ P, ∀ b ∈ P, b.1 ≠ a.1 → cf b.2 a.1 = 0
def rowsOf (P : List (Nat × List Int)) : List (List Int) := P.map (·.2)
theorem rowsOf_mem {P : List (Nat × List Int)} {r : List Int} : r ∈ rowsOf P ↔ ∃ a ∈ P, a.2 = r := by simp [rowsOf]

theorem inc_same {P : List (Nat × List Int)} (h : P.Pairwise fun a b => a.1 < b.1) : ∀ a ∈ P, ∀ b ∈ P, a.1 = b.1 → a = b := by
  induction P with
  | nil => intro a ha; cases ha
  | cons c P ih =>
    obtain ⟨h1, h2⟩ := List.pairwise_cons.1 h
    intro a ha b hb e
    rcases List.mem_cons.1 ha with e1 | ha'
    · rcases List.mem_cons.1 hb with e2 | hb'
      · rw [e1, e2]
      · have := h1 b hb'
        rw [← e1] at this; omega
    · rcases List.mem_cons.1 hb with e2 | hb'
      · have := h1 a ha'
        rw [← e2] at this; omega
      · exact ih h2 a ha' b hb' e

/-- What a row's entries at the places tell of it. -/
def rcS (f : Ser) : List (Nat × List Int) → Ser
  | [] => Ser.zer
  | a :: P => Ser.add (Ser.sc (f a.1) (cf a.2)) (rcS f P)
theorem rcS_none {f : Ser} {p : Int} {P : List (Nat × List Int)} (h : ∀ a ∈ P, f a.1 % p = 0) : Ser.Eq p (rcS f P) Ser.zer := by
  induction P with
  | nil => exact Ser.Eq.refl _ _
  | cons a P ih =>
    intro i
    have h1 := ih (fun b hb => h b (List.mem_cons_of_mem _ hb)) i
    show (f a.1 * cf a.2 i + rcS f P i) % p = Ser.zer i % p
    rw [Int.add_emod, Int.mul_emod, h a List.mem_cons_self, h1]
    simp [Ser.zer]
theorem rcS_congr {f g : Ser} {p : Int} (e : Ser.Eq p f g) (P : List (Nat × List Int)) : Ser.Eq p (rcS f P) (rcS g P) := by
  induction P with
  | nil => exact Ser.Eq.refl _ _
  | cons a P ih => exact (Ser.Eq.sc (e a.1) (Ser.Eq.refl _ _)).add ih
theorem rcS_add (f g : Ser) (P : List (Nat × List Int)) : rcS (Ser.add f g) P = Ser.add (rcS f P) (rcS g P) := by
  induction P with
  | nil => funext i; rfl
  | cons a P ih =>
    funext i
    show (f a.1 + g a.1) * cf a.2 i + rcS (Ser.add f g) P i = f a.1 * cf a.2 i + rcS f P i + (g a.1 * cf a.2 i + rcS g P i)
    rw [ih, Int.add_mul]
    show _ + (rcS f P i + rcS g P i) = _
    omega
theorem rcS_sc (c : Int) (f : Ser) (P : List (Nat × List Int)) : rcS (Ser.sc c f) P = Ser.sc c (rcS f P) := by
  induction P with
  | nil => funext i; exact (Int.mul_zero c).symm
  | cons a P ih =>
    funext i
    show c * f a.1 * cf a.2 i + rcS (Ser.sc c f) P i = c * (f a.1 * cf a.2 i + rcS f P i)
    rw [ih, Int.mul_add, Int.mul_assoc]
    rfl
theorem rcS_row {p : Int} {f : Ser} {x : Nat} (hx : f x = 1) : ∀ P : List (Nat × List Int), P.Pairwise (fun a b => a.1 < b.1) → (∀ b ∈ P, b.1 ≠ x → f b.1 = 0) → (∃ a ∈ P, a.1 = x) → (∀ a ∈ P, a.1 = x → cf a.2 = f) → Ser.Eq p (rcS f P) f := by
  intro P
  induction P with
  | nil => rintro _ _ ⟨a, ha, _⟩; cases ha
  | cons b P ih =>
    intro hi h0 hex hr
    obtain ⟨h1, h2⟩ := List.pairwise_cons.1 hi
    by_cases e : b.1 = x
    · have hz := rcS_none (p := p) (f := f) (P := P) (fun a ha => by
        rw [h0 a (List.mem_cons_of_mem _ ha) (by have := h1 a ha; omega)]; simp)
      intro i
      show (f b.1 * cf b.2 i + rcS f P i) % p = f i % p
      rw [e, hx, hr b List.mem_cons_self e, Int.one_mul, Int.add_emod, hz i]
      simp [Ser.zer]
    · have hex' : ∃ a ∈ P, a.1 = x := by
        obtain ⟨a, ha, hax⟩ := hex
        rcases List.mem_cons.1 ha with rfl | ha
        · exact absurd hax e
        · exact ⟨a, ha, hax⟩
      have hh := ih h2 (fun a ha => h0 a (List.mem_cons_of_mem _ ha)) hex' (fun a ha => hr a (List.mem_cons_of_mem _ ha))
      intro i
      show (f b.1 * cf b.2 i + rcS f P i) % p = f i % p
      rw [h0 b List.mem_cons_self e, Int.zero_mul, Int.zero_add]
      exact hh i
theorem EchP.recon {p : Int} {n : Nat} {P : List (Nat × List Int)} (h : EchP p n P) {f : Ser} (k : Sp p (rowsOf P) f) : Ser.Eq p (rcS f P) f := by
  induction k with
  | @row r hr =>
    obtain ⟨a, ha, rfl⟩ := rowsOf_mem.1 hr
    exact rcS_row (h.one a ha) P h.inc (fun b hb hne => h.other b hb a ha (fun e => hne e.symm)) ⟨a, ha, rfl⟩ (fun b hb e => by rw [inc_same h.inc b hb a ha e])
  | zer => exact rcS_none (fun _ _ => by simp [Ser.zer])
  | add _ _ a b =>
    rw [rcS_add]
    exact a.add b
  | sc c _ a =>
    rw [rcS_sc]
    exact Ser.Eq.sc rfl a
  | eq _ e a => exact (rcS_congr e P).symm.trans (a.trans e)
/-- Nought at all the places: nought. -/
theorem EchP.nought {p : Int} {n : Nat} {P : List (Nat × List Int)} (h : EchP p n P) {f : Ser} (k : Sp p (rowsOf P) f) (hz : ∀ a ∈ P, f a.1 % p = 0) : Ser.Eq p f Ser.zer := (h.recon k).symm.trans (rcS_none hz)
/-- The first place of what is spanned is one of the places. -/
theorem rcS_low {p : Int} {f : Ser} {x : Nat} {P : List (Nat × List Int)} (h : ∀ a ∈ P, a.1 ≤ x → f a.1 % p = 0) (hl : ∀ a ∈ P, ∀ j, j < a.1 → cf a.2 j = 0) : rcS f P x % p = 0 := by
  induction P with
  | nil => simp [rcS, Ser.zer]
  | cons a P ih =>
    have h1 := ih (fun b hb => h b (List.mem_cons_of_mem _ hb)) (fun b hb => hl b (List.mem_cons_of_mem _ hb))
    show (f a.1 * cf a.2 x + rcS f P x) % p = 0
    rw [Int.add_emod, h1]
    by_cases e : a.1 ≤ x
    · rw [Int.mul_emod, h a List.mem_cons_self e]; simp
    · rw [hl a List.mem_cons_self x (by omega)]; simp
theorem EchP.lead {p : Int} {n : Nat} {P : List (Nat × List Int)} (h : EchP p n P) {f : Ser} (k : Sp p (rowsOf P) f) {x : Nat} (hx : f x % p ≠ 0) (hb : ∀ j, j < x → f j % p = 0) : ∃ a ∈ P, a.1 = x := by
  refine Classical.byContradiction fun hn => hx ?_
  rw [← h.recon k x]
  refine rcS_low (fun a ha hle => ?_) h.low
  rcases Nat.lt_or_ge a.1 x with hlt | hge
  · exact hb a.1 hlt
  · exact absurd ⟨a, ha, by omega⟩ hn

theorem inc_mem_eq {α : Type} : ∀ (P Q : List (Nat × α)), P.Pairwise (fun a b => a.1 < b.1) → Q.Pairwise (fun a b => a.1 < b.1) → (∀ a, a ∈ P ↔ a ∈ Q) → P = Q := by
  intro P
  induction P with
  | nil =>
    intro Q _ _ h
    cases Q with
    | nil => rfl
    | cons b Q => exact absurd ((h b).2 List.mem_cons_self) (by simp)
  | cons a P ih =>
    intro Q hP hQ h
    cases Q with
    | nil => exact absurd ((h a).1 List.mem_cons_self) (by simp)
    | cons b Q =>
      obtain ⟨p1, p2⟩ := List.pairwise_cons.1 hP
      obtain ⟨q1, q2⟩ := List.pairwise_cons.1 hQ
      have hab : a = b := by
        rcases List.mem_cons.1 ((h a).1 List.mem_cons_self) with e | e
        · exact e
        · rcases List.mem_cons.1 ((h b).2 List.mem_cons_self) with e2 | e2
          · exact e2.symm
          · have := q1 a e
            have := p1 b e2
            omega
      subst hab
      rw [ih Q p2 q2 fun c => ?_]
      constructor
      · intro hc
        rcases List.mem_cons.1 ((h c).1 (List.mem_cons_of_mem _ hc)) with e | e
        · subst e; have := p1 c hc; omega
        · exact e
      · intro hc
        rcases List.mem_cons.1 ((h c).2 (List.mem_cons_of_mem _ hc)) with e | e
        · subst e; have := q1 c hc; omega
        · exact e
/-- The plain rows are told by what they span. -/
theorem EchP.uniq {p : Int} {n : Nat} (hp : 2 ≤ p) {P Q : List (Nat × List Int)} (h : EchP p n P) (k : EchP p n Q) (hPQ : ∀ r ∈ rowsOf P, Sp p (rowsOf Q) (cf r)) (hQP : ∀ r ∈ rowsOf Q, Sp p (rowsOf P) (cf r)) : P = Q := by
  have lead1 : ∀ {P Q : List (Nat × List Int)}, EchP p n P → EchP p n Q → (∀ r ∈ rowsOf P, Sp p (rowsOf Q) (cf r)) → ∀ a ∈ P, ∃ b ∈ Q, b.1 = a.1 := by
    intro P Q h k hs a ha
    refine k.lead (hs a.2 (rowsOf_mem.2 ⟨a, ha, rfl⟩)) ?_ (fun j hj => by rw [h.low a ha j hj]; simp)
    rw [h.one a ha, Int.emod_eq_of_lt (by decide) (by omega)]
    decide
  have rows : ∀ {P Q : List (Nat × List Int)}, EchP p n P → EchP p n Q → (∀ r ∈ rowsOf P, Sp p (rowsOf Q) (cf r)) → (∀ r ∈ rowsOf Q, Sp p (rowsOf P) (cf r)) → ∀ a ∈ P, a ∈ Q := by
    intro P Q h k hs hs' a ha
    obtain ⟨b, hb, hba⟩ := lead1 h k hs a ha
    have hd : Sp p (rowsOf Q) (Ser.add (cf a.2) (Ser.sc (-1) (cf b.2))) := .add (hs a.2 (rowsOf_mem.2 ⟨a, ha, rfl⟩)) (.sc _ (.row (rowsOf_mem.2 ⟨b, hb, rfl⟩)))
    have hz := k.nought hd (fun c hc => by
      show (cf a.2 c.1 + -1 * cf b.2 c.1) % p = 0
      by_cases e : c.1 = a.1
      · rw [e, h.one a ha, ← hba, k.one b hb]; simp
      · obtain ⟨d, hd, hdc⟩ := lead1 k h hs' c hc
        have h1 : cf a.2 c.1 = 0 := by
          rw [← hdc]
          exact h.other d hd a ha (by omega)
        rw [h1, k.other c hc b hb (by omega)]; simp)
    have e : a.2 = b.2 := by
      refine cf_ext (by rw [h.len a ha, k.len b hb]) fun i => ?_
      have h1 := (h.rs a ha).at (by omega) i
      have h2 := (k.rs b hb).at (by omega) i
      have h3 := hz i
      have h4 : (cf a.2 i + -1 * cf b.2 i) % p = 0 := by
        have : Ser.zer i % p = 0 := by simp [Ser.zer]
        rw [this] at h3
        exact h3
      have h5 := Int.emod_eq_emod_iff_emod_sub_eq_zero.2 (show (cf a.2 i - cf b.2 i) % p = 0 by rw [show cf a.2 i - cf b.2 i = cf a.2 i + -1 * cf b.2 i from by omega]; exact h4)
      rwa [Int.emod_eq_of_lt h1.1 h1.2, Int.emod_eq_of_lt h2.1 h2.2] at h5
    have : a = b := Prod.ext hba.symm e
    rw [this]; exact hb
  exact inc_mem_eq P Q h.inc k.inc fun a => ⟨rows h k hPQ hQP a, rows k h hQP hPQ a⟩
end Go.Proofs.YtipdnfdeacdkgaaDoor

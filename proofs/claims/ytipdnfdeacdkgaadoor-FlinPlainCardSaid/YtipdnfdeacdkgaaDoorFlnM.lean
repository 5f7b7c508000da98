/- A row less so many times each plain row, all in one sum; rows told place by place. Mathematics alone. -/
import Derived.Test.YtipdnfdeacdkgaaDoorEchS
import Derived.Test.YtipdnfdeacdkgaaDoorMadeM
namespace Go.Proofs.YtipdnfdeacdkgaaDoor

/-- Rests told place by place. -/
def tld (p : Int) (n : Nat) (f : Ser) : List Int := (List.range n).map fun i => f i % p
theorem tld_len (p : Int) (n : Nat) (f : Ser) : (tld p n f).length = n := by simp [tld]
theorem cf_tld {p : Int} {n : Nat} {f : Ser} {i : Nat} (h : i < n) : cf (tld p n f) i = f i % p := by
  rw [cf_at (by rw [tld_len]; exact h)]
  simp [tld]
theorem tld_rs {p : Int} (hp : 1 ≤ p) (n : Nat) (f : Ser) : Rs p (tld p n f) := fun x hx => by
  simp only [tld, List.mem_map] at hx
  obtain ⟨i, _, rfl⟩ := hx
  exact ⟨Int.emod_nonneg _ (by omega), Int.emod_lt_of_pos _ (by omega)⟩
theorem tld_ext {p : Int} {n : Nat} {f g : Ser} (h : ∀ i, i < n → f i % p = g i % p) : tld p n f = tld p n g := by
  unfold tld
  exact List.map_congr_left fun i hi => h i (List.mem_range.1 hi)
theorem MdIn.tld {p : Int} {f : Ser} {n : Nat} {L : List Int} (h : MdIn p f n n L) : L = tld p n f := by
  refine cf_ext (by rw [tld_len, h.1]) fun i => ?_
  rw [h.2.2 i]
  by_cases e : i < n
  · rw [if_pos e, cf_tld e]
  · rw [if_neg e, cf_over (by rw [tld_len]; omega)]
theorem tld_rst {p : Int} {n : Nat} {xs : List Int} (h : n = xs.length) : tld p n (cf xs) = rst p xs := by
  subst h
  refine cf_ext (by rw [tld_len, rst_length]) fun i => ?_
  rw [cf_rst]
  by_cases e : i < xs.length
  · rw [cf_tld e]
  · rw [cf_over (by rw [tld_len]; omega), cf_over (by omega)]; simp

theorem rcS_append (f : Ser) (P Q : List (Nat × List Int)) : rcS f (P ++ Q) = Ser.add (rcS f P) (rcS f Q) := by
  induction P with
  | nil => funext i; exact (Int.zero_add _).symm
  | cons a P ih =>
    funext i
    show f a.1 * cf a.2 i + rcS f (P ++ Q) i = f a.1 * cf a.2 i + rcS f P i + rcS f Q i
    rw [ih, Int.add_assoc]; rfl
theorem rcS_snoc {f : Ser} {P : List (Nat × List Int)} {q : Nat} (hq : q < P.length) (i : Nat) : rcS f (P.take (q + 1)) i = rcS f (P.take q) i + f (P[q]).1 * cf (P[q]).2 i := by
  rw [List.take_succ_eq_append_getElem hq, rcS_append]
  show rcS f (P.take q) i + (f (P[q]).1 * cf (P[q]).2 i + 0) = _
  rw [Int.add_zero]
theorem rcS_off {f : Ser} {x : Nat} {P : List (Nat × List Int)} (h : ∀ b ∈ P, cf b.2 x = 0) : rcS f P x = 0 := by
  induction P with
  | nil => rfl
  | cons a P ih =>
    show f a.1 * cf a.2 x + rcS f P x = 0
    rw [h a List.mem_cons_self, ih fun b hb => h b (List.mem_cons_of_mem _ hb), Int.mul_zero]; rfl
theorem rcS_pick {f : Ser} {x : Nat} : ∀ P : List (Nat × List Int), P.Pairwise (fun a b => a.1 < b.1) → (∀ b ∈ P, b.1 = x → cf b.2 x = 1) → (∀ b ∈ P, b.1 ≠ x → cf b.2 x = 0) → (∃ a ∈ P, a.1 = x) → rcS f P x = f x := by
  intro P
  induction P with
  | nil => rintro _ _ _ ⟨a, ha, _⟩; cases ha
  | cons b P ih =>
    intro hi h1 h0 hex
    obtain ⟨i1, i2⟩ := List.pairwise_cons.1 hi
    show f b.1 * cf b.2 x + rcS f P x = f x
    by_cases e : b.1 = x
    · rw [h1 b List.mem_cons_self e, e, rcS_off fun c hc => h0 c (List.mem_cons_of_mem _ hc) (by have := i1 c hc; omega)]; omega
    · have hex' : ∃ a ∈ P, a.1 = x := by
        obtain ⟨a, ha, hax⟩ := hex
        rcases List.mem_cons.1 ha with rfl | ha
        · exact absurd hax e
        · exact ⟨a, ha, hax⟩
      rw [h0 b List.mem_cons_self e, ih i2 (fun c hc => h1 c (List.mem_cons_of_mem _ hc)) (fun c hc => h0 c (List.mem_cons_of_mem _ hc)) hex', Int.mul_zero, Int.zero_add]
theorem EchP.rcS_at {p : Int} {n : Nat} {P : List (Nat × List Int)} (h : EchP p n P) {a : Nat × List Int} (ha : a ∈ P) (f : Ser) : rcS f P a.1 = f a.1 :=
  rcS_pick P h.inc (fun b hb e => by rw [inc_same h.inc b hb a ha e]; exact h.one a ha) (fun b hb e => h.other a ha b hb e) ⟨a, ha, rfl⟩
theorem rcS_sp {p : Int} (f : Ser) (P : List (Nat × List Int)) : Sp p (rowsOf P) (rcS f P) := by
  induction P with
  | nil => exact .zer
  | cons a P ih =>
    have h1 : Sp p (rowsOf (a :: P)) (Ser.sc (f a.1) (cf a.2)) := .sc _ (.row (rowsOf_mem.2 ⟨a, List.mem_cons_self, rfl⟩))
    have h2 : Sp p (rowsOf (a :: P)) (rcS f P) := ih.more fun r hr => by
      obtain ⟨b, hb, rfl⟩ := rowsOf_mem.1 hr
      exact rowsOf_mem.2 ⟨b, List.mem_cons_of_mem _ hb, rfl⟩
    exact .add h1 h2
theorem rcS_bd {p : Int} {f : Ser} {P : List (Nat × List Int)} (hp : p ≤ 65521) (hf : ∀ i, 0 ≤ f i ∧ f i < p) (hP : ∀ b ∈ P, ∀ i, 0 ≤ cf b.2 i ∧ cf b.2 i < p) (i : Nat) : 0 ≤ rcS f P i ∧ rcS f P i ≤ 4292870400 * (P.length : Int) := by
  induction P with
  | nil => exact ⟨Int.le_refl _, by show (0 : Int) ≤ _; simp⟩
  | cons a P ih =>
    have h1 := ih fun b hb => hP b (List.mem_cons_of_mem _ hb)
    have h2 := mul_bdM (hf a.1) (hP a List.mem_cons_self i) hp
    show 0 ≤ f a.1 * cf a.2 i + rcS f P i ∧ f a.1 * cf a.2 i + rcS f P i ≤ _
    rw [List.length_cons]
    generalize f a.1 * cf a.2 i = z at *
    omega

def lessA (p : Int) (a : List Int) (P : List (Nat × List Int)) : List Int := tld p a.length fun i => cf a i - rcS (cf a) P i
theorem lessA_len (p : Int) (a : List Int) (P : List (Nat × List Int)) : (lessA p a P).length = a.length := tld_len _ _ _
theorem cf_lessA {p : Int} {a : List Int} {P : List (Nat × List Int)} {i : Nat} (h : i < a.length) : cf (lessA p a P) i = (cf a i - rcS (cf a) P i) % p := cf_tld (f := fun i => cf a i - rcS (cf a) P i) h
theorem lessA_one (p : Int) (a : List Int) (x : Nat) (w : List Int) : lessA p a [(x, w)] = lessL p a w (cf a x) := by
  unfold lessA lessL tld
  refine List.map_congr_left fun i _ => ?_
  show (cf a i - (cf a x * cf w i + 0)) % p = _
  rw [Int.add_zero]
theorem RedIn.all {p : Int} {n : Nat} {P : List (Nat × List Int)} {m : List Int} (hp : 1 ≤ p) (h : EchP p n P) (hl : m.length = n) : RedIn p n P P.length m (lessA p (rst p m) P) := by
  have hrl : (rst p m).length = n := by rw [rst_length, hl]
  refine ⟨by rw [lessA_len, hrl], tld_rs hp _ _, fun a ha => ?_, ?_⟩
  · have haP := List.mem_of_mem_take ha
    rw [cf_lessA (by rw [hrl]; exact h.lt a haP), h.rcS_at haP, Int.sub_self]; simp
  · refine Sp.eq (rcS_sp (cf (rst p m)) P) fun i => ?_
    show _ = (cf m i + -1 * cf (lessA p (rst p m) P) i) % p
    by_cases hi : i < n
    · rw [cf_lessA (by rw [hrl]; exact hi), cf_rst]
      obtain ⟨S, hS⟩ : ∃ S, rcS (cf (rst p m)) P i = S := ⟨_, rfl⟩
      obtain ⟨M, hM⟩ : ∃ M, cf m i = M := ⟨_, rfl⟩
      rw [hS, hM, show M + -1 * ((M % p - S) % p) = M - (M % p - S) % p from by omega, Int.sub_emod, Int.emod_emod_of_dvd _ (Int.dvd_refl p), ← Int.sub_emod]
      have e := Int.emod_add_mul_ediv M p
      rw [show M - (M % p - S) = S + p * (M / p) from by omega, Int.add_mul_emod_self_left]
    · rw [rcS_off fun b hb => cf_over (by rw [h.len b hb]; omega), cf_over (by omega), cf_over (by rw [lessA_len, hrl]; omega)]; simp
theorem tld_scl {p u : Int} {r : List Int} {n : Nat} (h : n = r.length) (f : Ser) (hf : ∀ i, f i = u * cf r i) : tld p n f = r.map fun y => y * u % p := by
  subst h
  refine cf_ext (by simp [tld]) fun i => ?_
  rw [cf_map (fun y => y * u % p) (by simp)]
  by_cases e : i < r.length
  · rw [cf_tld e, hf, Int.mul_comm]
  · rw [cf_over (by rw [tld_len]; omega), cf_over (by omega)]; simp
end Go.Proofs.YtipdnfdeacdkgaaDoor

/- Texts joined, in their order: BerE, BerF. -/
import Derived.Test.YtnkhhndjbanmnaaGreatDoorMp26

/- What one shift makes of the factors so far, named; by p shifts no factor is left to be parted; when all basis elements are residues by all factors, or the factors are as many as the basis, none can be parted. Mathematics alone. -/
namespace Go.Proofs.YtnkhhndjbanmnaaGreatDoor
open Ser (Bd)

noncomputable def onesL (p : Int) (f r : List Int) : List Int := powL p 1 (hexp p) (cf r) (cf f)
noncomputable def lessOne (p : Int) (f r : List Int) : List Int := polL p (Ser.add (cf (onesL p f r)) (Ser.sc (-1) (cf [1])))
noncomputable def sqL (p : Int) (f r : List Int) : List Int := bezG p (cf f) (cf (lessOne p f r))
noncomputable def halvesL (p : Int) (f r : List Int) : List (List Int) :=
  if (sqL p f r).length ≤ 1 ∨ (sqL p f r).length = f.length then [f] else [sqL p f r, quoL p (cf f) (cf (sqL p f r))]
noncomputable def resL (p : Int) (by_ f : List Int) : List Int := remL p (cf by_) (cf f)
noncomputable def shfL (p : Int) (r : List Int) (s : Int) : List Int := polL p (Ser.add (cf r) (Ser.sc 1 (cf [s])))
noncomputable def partF (p : Int) (by_ : List Int) (s : Int) (f : List Int) : List (List Int) :=
  if (resL p by_ f).length ≤ 1 then [f] else halvesL p f (shfL p (resL p by_ f) s)
noncomputable def mixF (p : Int) (by_ f : List Int) : Bool := decide (1 < (resL p by_ f).length)

theorem cf_oneL (c : Int) : cf [c] = Ser.con c := by
  funext i
  cases i with
  | zero => rw [cf_cons_zero]; rfl
  | succ i => rw [cf_cons_succ, cf_nil]; rfl
theorem shf_eq {p : Int} (hp : Pr p) (r : List Int) (s : Int) : Ser.Eq p (cf (shfL p r s)) (lin (cf r) (-s)) := by
  refine (cf_polL hp ((fini_cf p _).add (fini_cf p _).sc)).trans (Ser.Eq.of ?_)
  rw [sc_one, cf_oneL, lin, Int.neg_neg]
theorem pw_lin {p : Int} {q y : Ser} {c : Int} (hy : Fini p y) (h : Mult p q (lin y c)) (n : Nat) : Mult p q (Ser.add (Ser.pw y n) (Ser.con (-(c ^ n)))) := by
  induction n with
  | zero =>
    refine Mult.nought fun i _ => ?_
    rw [Ser.pw_zero, Int.pow_zero]
    show ((if i = 0 then (1 : Int) else 0) + (if i = 0 then -1 else 0)) % p = 0
    by_cases hi : i = 0
    · rw [if_pos hi, if_pos hi]; rfl
    · rw [if_neg hi, if_neg hi]; rfl
  | succ n ih =>
    refine ((ih.byR hy).add (h.byL (fini_con p (c ^ n)))).eqR (Ser.Eq.of ?_)
    rw [Ser.add_mul, ← Ser.pw_succ, lin, Ser.mul_add, Ser.con_mul, Ser.con_mul, Ser.con_mul]
    funext i
    show Ser.pw y (n + 1) i + -(c ^ n) * y i + (c ^ n * y i + c ^ n * (if i = 0 then -c else 0)) = Ser.pw y (n + 1) i + if i = 0 then -(c ^ (n + 1)) else 0
    rw [Int.neg_mul, Int.pow_succ]
    by_cases hi : i = 0
    · rw [if_pos hi, if_pos hi, Int.mul_neg]; omega
    · rw [if_neg hi, if_neg hi, Int.mul_zero]; omega
theorem ones_chi {p : Int} (hp : Pr p) {f r : List Int} (hf : Mn p f) {q : Ser} (hq : Irr p q) (hqf : Mult p q (cf f)) {c : Int} (h : Mult p q (lin (cf r) c)) : Mult p q (cf (lessOne p f r)) ↔ Chi p c := by
  have hr := pow_rest hp hf.last (fini_cf p r) (hexp p)
  obtain ⟨u, hu, hd⟩ := hr
  have h1 : Mult p q (Ser.add (Ser.pw (cf r) (hexp p)) (Ser.sc (-1) (cf (onesL p f r)))) := by
    refine (hqf.byL hu).eqR fun i => ?_
    have e := hd.1 i
    have e2 : Ser.pw (cf r) (hexp p) i % p = (Ser.mul u (cf f) i + cf (onesL p f r) i) % p := e
    have e3 := Int.emod_eq_emod_iff_emod_sub_eq_zero.1 e2.symm
    refine Int.emod_eq_emod_iff_emod_sub_eq_zero.2 ?_
    rw [← e3]
    congr 1
    show _ - (_ + -1 * cf (onesL p f r) i) = _
    omega
  have h2 := pw_lin (fini_cf p r) h (hexp p)
  have h3 : Mult p q (lin (cf (onesL p f r)) (c ^ hexp p)) := (h2.add (h1.sc (c := -1))).eqR (Ser.Eq.of (funext fun i => by
    show Ser.pw (cf r) (hexp p) i + (if i = 0 then -(c ^ hexp p) else 0) + -1 * (Ser.pw (cf r) (hexp p) i + -1 * cf (onesL p f r) i) = cf (onesL p f r) i + (if i = 0 then -(c ^ hexp p) else 0)
    omega))
  have h4 : Ser.Eq p (cf (lessOne p f r)) (lin (cf (onesL p f r)) 1) := by
    refine (cf_polL hp ((fini_cf p _).add (fini_cf p _).sc)).trans (Ser.Eq.of (funext fun i => ?_))
    rw [cf_oneL]
    show cf (onesL p f r) i + -1 * (if i = 0 then 1 else 0) = cf (onesL p f r) i + (if i = 0 then -1 else 0)
    by_cases hi : i = 0
    · rw [if_pos hi, if_pos hi]; rfl
    · rw [if_neg hi, if_neg hi]; rfl
  unfold Chi
  constructor
  · intro h
    rw [lin_uniq hp hq h3 (h.eqR h4), pr_one hp]
  · intro h
    exact (lin_of h3 (by rw [h, pr_one hp])).eqR h4.symm
theorem sq_mn {p : Int} (hp : Pr p) {f : List Int} (hf : Mn p f) (r : List Int) : Mn p (sqL p f r) ∧ (sqL p f r).length ≤ f.length ∧ Mult p (cf (sqL p f r)) (cf f) ∧ Mult p (cf (sqL p f r)) (cf (lessOne p f r)) ∧ ∀ q, Irr p q → Mult p q (cf f) → Mult p q (cf (lessOne p f r)) → Mult p q (cf (sqL p f r)) := by
  obtain ⟨g, s, t, hg, h1, a1, a2⟩ := mn_bez hp hf (fini_cf p (lessOne p f r))
  have hd := hg.divides hp
  refine ⟨a1, a2, hd.1.eqL h1.2.symm, hd.2.eqL h1.2.symm, fun q hq k1 k2 => ?_⟩
  obtain ⟨g', s', t', h', _, h2, h3, _⟩ := bez_ex hp (fini_cf p f) (fini_cf p (lessOne p f r))
  have hu := hg.uniq hp h' (Ser.Eq.refl _ _) (Ser.Eq.refl _ _)
  exact (((k1.byL ((fini_cf p _).eq (h2.2.trans hu.2.1.symm))).add (k2.byL ((fini_cf p _).eq (h3.2.trans hu.2.2.symm)))).eqR hg.made).eqR h1.2.symm
theorem halves_spec {p : Int} (hp : Pr p) {f r : List Int} (hf : Mn p f) (h2 : 2 ≤ f.length) (hs : Sqf p f) :
    (∀ g ∈ halvesL p f r, Mn p g ∧ 2 ≤ g.length ∧ Mult p (cf g) (cf f)) ∧ (∀ q, Irr p q → vs p q (halvesL p f r) = V p (cf f) q) ∧ ∀ g ∈ halvesL p f r, Hom p g (cf r) 0 := by
  obtain ⟨s1, s2, s3, s4, s5⟩ := sq_mn hp hf r
  have hsq : ∀ q c, Irr p q → Mult p q (cf f) → Mult p q (lin (cf r) c) → (Mult p q (cf (sqL p f r)) ↔ Chi p c) := fun q c hq hqf hc => by
    rw [← ones_chi hp hf hq hqf hc]
    exact ⟨fun k => k.trans s4, fun k => s5 q hq hqf k⟩
  unfold halvesL
  by_cases hc : (sqL p f r).length ≤ 1 ∨ (sqL p f r).length = f.length
  · rw [if_pos hc]
    refine ⟨fun g hg => by rw [List.mem_singleton.1 hg]; exact ⟨hf, h2, Mult.refl p _⟩, fun q _ => by rw [vs, vs, Nat.add_zero], fun g hg => ?_⟩
    rw [List.mem_singleton.1 hg]
    intro q t c d hq ht h1 h3 h4 h5
    rw [Int.add_zero, Int.add_zero, ← hsq q c hq h1 h4, ← hsq t d ht h3 h5]
    rcases hc with hc | hc
    · have e : (sqL p f r).length = 1 := by have := s1.pos; omega
      have hn : ∀ z, Irr p z → ¬ Mult p z (cf (sqL p f r)) := fun z hz k => by
        have := (V_pos hp hz s1.last).1 k
        rw [(s1.len_one hp).1 e z hz] at this
        omega
      exact ⟨fun k => absurd k (hn q hq), fun k => absurd k (hn t ht)⟩
    · have e : sqL p f r = f := s1.len_eq hp hf (fun z hz => V_le hp hz s1.last hf.last s3) (by omega)
      rw [e]
      exact ⟨fun _ => h3, fun _ => h1⟩
  · rw [if_neg hc]
    have hc1 : ¬ (sqL p f r).length ≤ 1 := fun k => hc (.inl k)
    have hc2 : ¬ (sqL p f r).length = f.length := fun k => hc (.inr k)
    obtain ⟨q1, q2, q3⟩ := mn_quo hp hf s1 fun q hq => V_le hp hq s1.last hf.last s3
    have hqd : Mult p (cf (quoL p (cf f) (cf (sqL p f r)))) (cf f) := mult_of_V hp _ _ _ _ q1.last hf.last fun q hq => by rw [q3 q hq]; omega
    refine ⟨fun g hg => ?_, fun q hq => ?_, fun g hg => ?_⟩
    · simp only [List.mem_cons, List.not_mem_nil, or_false] at hg
      rcases hg with rfl | rfl
      · exact ⟨s1, by omega, s3⟩
      · exact ⟨q1, by omega, hqd⟩
    · rw [vs, vs, vs, q3 q hq]
      have := V_le hp hq s1.last hf.last s3
      omega
    · simp only [List.mem_cons, List.not_mem_nil, or_false] at hg
      intro q t c d hq ht h1 h3 h4 h5
      rw [Int.add_zero, Int.add_zero]
      rcases hg with rfl | rfl
      · rw [← hsq q c hq (h1.trans s3) h4, ← hsq t d ht (h3.trans s3) h5]
        exact ⟨fun _ => h3, fun _ => h1⟩
      · rw [← hsq q c hq (h1.trans hqd) h4, ← hsq t d ht (h3.trans hqd) h5]
        have hn : ∀ z, Irr p z → Mult p z (cf (quoL p (cf f) (cf (sqL p f r)))) → ¬ Mult p z (cf (sqL p f r)) := fun z hz k1 k2 => by
          have e1 := (V_pos hp hz q1.last).1 k1
          have e2 := (V_pos hp hz s1.last).1 k2
          rw [q3 z hz] at e1
          have := hs z hz
          omega
        exact ⟨fun k => absurd k (hn q hq h1), fun k => absurd k (hn t ht h3)⟩
theorem shf_lin {p : Int} (hp : Pr p) {f y r : List Int} {q : Ser} (hqf : Mult p q (cf f)) (hr : Mult p (cf f) (Ser.add (cf y) (Ser.sc (-1) (cf r)))) (s : Int) {c : Int} : Mult p q (lin (cf (shfL p r s)) (c + s)) ↔ Mult p q (lin (cf y) c) := by
  have h1 := hqf.trans hr
  have e := shf_eq hp r s
  have e2 : Ser.Eq p (lin (cf (shfL p r s)) (c + s)) (lin (cf r) c) := (e.add (Ser.Eq.refl p (Ser.con (-(c + s))))).trans (Ser.Eq.of (funext fun i => by
    show cf r i + (if i = 0 then - -s else 0) + (if i = 0 then -(c + s) else 0) = cf r i + (if i = 0 then -c else 0)
    by_cases hi : i = 0
    · rw [if_pos hi, if_pos hi, if_pos hi]; omega
    · rw [if_neg hi, if_neg hi, if_neg hi]; omega))
  constructor
  · intro k
    refine ((k.eqR e2).add h1).eqR (Ser.Eq.of (funext fun i => ?_))
    show cf r i + (if i = 0 then -c else 0) + (cf y i + -1 * cf r i) = cf y i + (if i = 0 then -c else 0)
    omega
  · intro k
    refine ((k.add (h1.sc (c := -1))).eqR (Ser.Eq.of (funext fun i => ?_))).eqR e2.symm
    show cf y i + (if i = 0 then -c else 0) + -1 * (cf y i + -1 * cf r i) = cf r i + (if i = 0 then -c else 0)
    omega
theorem partF_spec {p : Int} (hp : Pr p) {f y : List Int} (hf : Mn p f) (h2 : 2 ≤ f.length) (hs : Sqf p f) (s : Int) :
    (∀ g ∈ partF p y s f, Mn p g ∧ 2 ≤ g.length ∧ Mult p (cf g) (cf f)) ∧ (∀ q, Irr p q → vs p q (partF p y s f) = V p (cf f) q) ∧ ∀ g ∈ partF p y s f, Hom p g (cf y) s := by
  unfold partF
  by_cases hc : (resL p y f).length ≤ 1
  · rw [if_pos hc]
    refine ⟨fun g hg => by rw [List.mem_singleton.1 hg]; exact ⟨hf, h2, Mult.refl p _⟩, fun q _ => by rw [vs, vs, Nat.add_zero], fun g hg => ?_⟩
    rw [List.mem_singleton.1 hg]
    exact ((con_rem hp hf (cf y) (fini_cf p y) h2).2 hc).hom hp s
  · rw [if_neg hc]
    have hr := (rm_mult hp hf.last (fini_cf p y)).1
    obtain ⟨a1, a2, a3⟩ := halves_spec hp hf h2 hs (r := shfL p (resL p y f) s)
    refine ⟨a1, a2, fun g hg q t c d hq ht h1 h3 h4 h5 => ?_⟩
    have hgf := (a1 g hg).2.2
    have := a3 g hg q t (c + s) (d + s) hq ht h1 h3 ((shf_lin hp (h1.trans hgf) hr s).2 h4) ((shf_lin hp (h3.trans hgf) hr s).2 h5)
    rwa [Int.add_zero, Int.add_zero] at this
theorem partF_con {p : Int} {f y : List Int} (s : Int) (h : mixF p y f = false) : partF p y s f = [f] := by
  unfold partF
  have : ¬ 1 < (resL p y f).length := of_decide_eq_false h
  rw [if_pos (by omega)]

/-! All factors. -/
noncomputable def partAll (p : Int) (y : List Int) (s : Int) (F : List (List Int)) : List (List Int) := F.flatMap (partF p y s)
theorem partAll_snoc (p : Int) (y : List Int) (s : Int) (F : List (List Int)) (f : List Int) : partAll p y s (F ++ [f]) = partAll p y s F ++ partF p y s f := by
  simp [partAll]
theorem partAll_mem {p : Int} {y : List Int} {s : Int} {F : List (List Int)} {g : List Int} : g ∈ partAll p y s F ↔ ∃ f ∈ F, g ∈ partF p y s f := by simp [partAll]
theorem vs_partAll {p : Int} {q : Ser} {y : List Int} {s : Int} : ∀ {F : List (List Int)}, (∀ f ∈ F, vs p q (partF p y s f) = V p (cf f) q) → vs p q (partAll p y s F) = vs p q F
  | [], _ => rfl
  | f :: F, h => by
    show vs p q (partF p y s f ++ partAll p y s F) = _
    rw [vs_append, h f (by simp), vs_partAll fun g hg => h g (by simp [hg]), vs]
theorem Spl.part {p : Int} {w y : List Int} {F : List (List Int)} (hp : Pr p) (hs : Sqf p w) (h : Spl p w F) (s : Int) : Spl p w (partAll p y s F) ∧ (∀ g ∈ partAll p y s F, ∃ f ∈ F, Mult p (cf g) (cf f)) ∧ ∀ g ∈ partAll p y s F, Hom p g (cf y) s := by
  have k := fun f (hf : f ∈ F) => partF_spec (y := y) hp (h.mn f hf).1 (h.mn f hf).2 (h.sqf hs hf) s
  refine ⟨⟨fun g hg => ?_, fun q hq => ?_⟩, fun g hg => ?_, fun g hg => ?_⟩
  · obtain ⟨f, hf, hgf⟩ := partAll_mem.1 hg
    have := (k f hf).1 g hgf
    exact ⟨this.1, this.2.1⟩
  · rw [vs_partAll fun f hf => (k f hf).2.1 q hq]; exact h.v q hq
  · obtain ⟨f, hf, hgf⟩ := partAll_mem.1 hg
    exact ⟨f, hf, ((k f hf).1 g hgf).2.2⟩
  · obtain ⟨f, hf, hgf⟩ := partAll_mem.1 hg
    exact (k f hf).2.2 g hgf
theorem partAll_same {p : Int} {y : List Int} {s : Int} : ∀ {F : List (List Int)}, (∀ f ∈ F, mixF p y f = false) → partAll p y s F = F
  | [], _ => rfl
  | f :: F, h => by
    show partF p y s f ++ partAll p y s F = _
    rw [partF_con s (h f (by simp)), partAll_same fun g hg => h g (by simp [hg])]
    rfl
structure SplAt (p : Int) (w : List Int) (B : List (List Int)) (i : Nat) (s0 : Int) (t : Nat) (F : List (List Int)) : Prop where
  spl : Spl p w F
  con : ∀ j, j < i → ∀ f ∈ F, Con p f (cf (B.getD j []))
  hom : ∀ j : Nat, j < t → ∀ f ∈ F, Hom p f (cf (B.getD i [])) (s0 + j)
theorem splAt_start {p : Int} {w : List Int} {B : List (List Int)} {i : Nat} {F : List (List Int)} (h : Spl p w F) (hc : ∀ j, j < i → ∀ f ∈ F, Con p f (cf (B.getD j []))) (s0 : Int) : SplAt p w B i s0 0 F := ⟨h, hc, fun j hj => by omega⟩
theorem SplAt.next {p : Int} {w : List Int} {B : List (List Int)} {i t : Nat} {s0 : Int} {F : List (List Int)} (hp : Pr p) (hs : Sqf p w) (h : SplAt p w B i s0 t F) : SplAt p w B i s0 (t + 1) (partAll p (B.getD i []) (s0 + t) F) := by
  obtain ⟨a1, a2, a3⟩ := h.spl.part hp hs (s0 + t)
  refine ⟨a1, fun j hj g hg => ?_, fun j hj g hg => ?_⟩
  · obtain ⟨f, hf, hgf⟩ := a2 g hg
    exact (h.con j hj f hf).sub hgf
  · by_cases e : j = t
    · subst e; exact a3 g hg
    · obtain ⟨f, hf, hgf⟩ := a2 g hg
      exact (h.hom j (by omega) f hf).sub hgf
theorem SplAt.lt {p : Int} {w : List Int} {B : List (List Int)} {i t : Nat} {s0 : Int} {F : List (List Int)} (hp : Pr p) (hw : Mn p w) (hs : Sqf p w) (ho : Mult p (cf w) (frobS p (cf (B.getD i [])))) (h : SplAt p w B i s0 t F) (hm : F.any (mixF p (B.getD i [])) = true) : t < p.toNat := by
  refine Classical.byContradiction fun ht => ?_
  obtain ⟨f, hf, hfm⟩ := List.any_eq_true.1 hm
  have hc := hom_con hp (h.spl.mn f hf).1 (h.spl.sqf hs hf) (fini_cf p _) ((h.spl.dvd hp hw hf).trans ho) (s0 := s0) fun j hj => h.hom j (by omega) f hf
  have := (con_rem hp (h.spl.mn f hf).1 _ (fini_cf p _) (h.spl.mn f hf).2).1 hc
  have h3 : 1 < (resL p (B.getD i []) f).length := of_decide_eq_true hfm
  have h4 : (resL p (B.getD i []) f).length ≤ 1 := this
  omega
theorem SplAt.done {p : Int} {w : List Int} {B : List (List Int)} {i t : Nat} {s0 : Int} {F : List (List Int)} (hp : Pr p) (h : SplAt p w B i s0 t F) (hm : F.any (mixF p (B.getD i [])) = false) : (∀ j, j < i + 1 → ∀ f ∈ F, Con p f (cf (B.getD j []))) ∧ ∀ s, partAll p (B.getD i []) s F = F := by
  have hn : ∀ f ∈ F, mixF p (B.getD i []) f = false := fun f hf => by
    have := List.any_eq_false.1 hm f hf
    simpa using this
  refine ⟨fun j hj f hf => ?_, fun s => partAll_same hn⟩
  by_cases e : j = i
  · subst e
    refine (con_rem hp (h.spl.mn f hf).1 _ (fini_cf p _) (h.spl.mn f hf).2).2 ?_
    have h3 : ¬ 1 < (resL p (B.getD j []) f).length := of_decide_eq_false (hn f hf)
    show (resL p (B.getD j []) f).length ≤ 1
    omega
  · exact h.con j (by omega) f hf
structure Facs (p : Int) (w : List Int) (F : List (List Int)) : Prop where
  irr : ∀ f ∈ F, Mn p f ∧ 2 ≤ f.length ∧ Irr p (cf f)
  v : ∀ q, Irr p q → vs p q F = V p (cf w) q
theorem Spl.facs {p : Int} {w : List Int} {n : Nat} {F : List (List Int)} (hp : Pr p) (hw : Mn p w) (hl : Last p (cf w) n) (hs : Sqf p w) {P : List (Nat × List Int)} (hP : EchOf p n (ownM p w n) P) (h : Spl p w F) (hc : ∀ j, j < (nulL p n P n).length → ∀ f ∈ F, Con p f (cf ((nulL p n P n).getD j []))) : Facs p w F := by
  refine ⟨fun f hf => ⟨(h.mn f hf).1, (h.mn f hf).2, own_irr hp hl hs hP (h.mn f hf).1 (h.mn f hf).2 (h.dvd hp hw hf) fun b hb => ?_⟩, h.v⟩
  obtain ⟨j, hj, rfl⟩ := List.getElem_of_mem hb
  have := hc j hj f hf
  rwa [List.getD_eq_getElem?_getD, List.getElem?_eq_getElem hj] at this
theorem Spl.full {p : Int} {w : List Int} {n : Nat} {F : List (List Int)} (hp : Pr p) (hw : Mn p w) (hl : Last p (cf w) n) (hs : Sqf p w) {P : List (Nat × List Int)} (hP : EchOf p n (ownM p w n) P) (h : Spl p w F) (hk : F.length = (nulL p n P n).length) : Facs p w F := by
  refine ⟨fun f hf => ⟨(h.mn f hf).1, (h.mn f hf).2, irr_of_one hp (h.mn f hf).1 (h.mn f hf).2 (h.sqf hs hf) fun q r hq hr hqf hrf => Classical.byContradiction fun hne => ?_⟩, h.v⟩
  obtain ⟨t, ht, rfl⟩ := List.getElem_of_mem hf
  have hex : ∀ i, ∃ z : Ser, (hi : i < F.length) → Irr p z ∧ Mult p z (cf F[i]) ∧ (i = t → z = q) := fun i => by
    by_cases hi : i < F.length
    · by_cases e : i = t
      · subst e; exact ⟨q, fun _ => ⟨hq, hqf, fun _ => rfl⟩⟩
      · obtain ⟨z, z1, z2⟩ := (h.mn F[i] (List.getElem_mem hi)).1.some_V hp (by have := (h.mn F[i] (List.getElem_mem hi)).2; omega)
        exact ⟨z, fun _ => ⟨z1, (V_pos hp z1 (h.mn F[i] (List.getElem_mem hi)).1.last).2 z2, fun k => absurd k e⟩⟩
    · exact ⟨q, fun k => absurd k hi⟩
  obtain ⟨Z, hZ⟩ := Classical.axiomOfChoice hex
  let Q : Nat → Ser := fun i => if i < F.length then Z i else r
  have apart : ∀ i j (hi : i < F.length) (hj : j < F.length) (z : Ser), Irr p z → Mult p z (cf F[i]) → Mult p z (cf F[j]) → i < j → False := fun i j hi hj z hz h1 h2 hij => by
    have e1 := (V_pos hp hz (h.mn F[i] (List.getElem_mem hi)).1.last).1 h1
    have e2 := (V_pos hp hz (h.mn F[j] (List.getElem_mem hj)).1.last).1 h2
    have e3 := vs_two (p := p) (q := z) hi hj hij
    rw [h.v z hz] at e3
    have := hs z hz
    omega
  have apart2 : ∀ i j (hi : i < F.length) (hj : j < F.length) (z : Ser), Irr p z → Mult p z (cf F[i]) → Mult p z (cf F[j]) → i = j := fun i j hi hj z hz h1 h2 => by
    rcases Nat.lt_trichotomy i j with k | k | k
    · exact (apart i j hi hj z hz h1 h2 k).elim
    · exact k
    · exact (apart j i hj hi z hz h2 h1 k).elim
  have hQ : ∀ i, i < F.length + 1 → Irr p (Q i) := fun i _ => by
    show Irr p (if i < F.length then Z i else r)
    by_cases k : i < F.length
    · rw [if_pos k]; exact (hZ i k).1
    · rw [if_neg k]; exact hr
  have hQw : ∀ i, i < F.length + 1 → Mult p (Q i) (cf w) := fun i _ => by
    show Mult p (if i < F.length then Z i else r) (cf w)
    by_cases k : i < F.length
    · rw [if_pos k]; exact (hZ i k).2.1.trans (h.dvd hp hw (List.getElem_mem k))
    · rw [if_neg k]; exact hrf.trans (h.dvd hp hw (List.getElem_mem ht))
  have hlast : ∀ i, i < F.length → ¬ Ser.Eq p (Z i) r := fun i hi e => by
    have hzt := apart2 i t hi ht (Z i) (hZ i hi).1 (hZ i hi).2.1 (hrf.eqL e.symm)
    exact hne ((hZ i hi).2.2 hzt ▸ e)
  have := own_dim (m := F.length + 1) hp hl hs hP Q hQ hQw fun i j hi hj hij e => by
    by_cases ki : i < F.length
    · by_cases kj : j < F.length
      · have e' : Ser.Eq p (Z i) (Z j) := by simpa [Q, ki, kj] using e
        exact hij (apart2 i j ki kj (Z i) (hZ i ki).1 (hZ i ki).2.1 ((hZ j kj).2.1.eqL e'.symm))
      · have e' : Ser.Eq p (Z i) r := by simpa [Q, ki, kj] using e
        exact hlast i ki e'
    · by_cases kj : j < F.length
      · have e' : Ser.Eq p r (Z j) := by simpa [Q, ki, kj] using e
        exact hlast j kj e'.symm
      · omega
  omega
end Go.Proofs.YtnkhhndjbanmnaaGreatDoor

/- The order of polynomials; factors in order, and how often each is one. Mathematics alone. -/
namespace Go.Proofs.YtnkhhndjbanmnaaGreatDoor
open Ser (Bd)

def cmpZ (x y : Int) : Int := if x < y then -1 else if y < x then 1 else 0
theorem cmpZ_cases (x y : Int) : (x < y ∧ cmpZ x y = -1) ∨ (x = y ∧ cmpZ x y = 0) ∨ (y < x ∧ cmpZ x y = 1) := by
  unfold cmpZ
  by_cases h : x < y
  · exact .inl ⟨h, if_pos h⟩
  · by_cases k : y < x
    · exact .inr (.inr ⟨k, by rw [if_neg h, if_pos k]⟩)
    · exact .inr (.inl ⟨by omega, by rw [if_neg h, if_neg k]⟩)
def ordN (a b : List Int) : Nat → Int
  | 0 => 0
  | n + 1 => if cf a n = cf b n then ordN a b n else cmpZ (cf a n) (cf b n)
def ordI (a b : List Int) : Int := if a.length = b.length then ordN a b a.length else cmpZ a.length b.length
theorem ordN_same {a b : List Int} {n : Nat} (h : cf a n = cf b n) : ordN a b (n + 1) = ordN a b n := if_pos h
theorem ordN_diff {a b : List Int} {n : Nat} (h : cf a n ≠ cf b n) : ordN a b (n + 1) = cmpZ (cf a n) (cf b n) := if_neg h
theorem ordN_cases (a b : List Int) : ∀ n, (ordN a b n = 0 ∧ ∀ i, i < n → cf a i = cf b i) ∨ (ordN a b n = -1 ∧ ordN b a n = 1) ∨ (ordN a b n = 1 ∧ ordN b a n = -1) := by
  intro n
  induction n with
  | zero => exact .inl ⟨rfl, fun i hi => by omega⟩
  | succ n ih =>
    by_cases h : cf a n = cf b n
    · rw [ordN_same h, ordN_same h.symm]
      rcases ih with ⟨h1, h2⟩ | ih
      · exact .inl ⟨h1, fun i hi => by
          by_cases e : i = n
          · rw [e]; exact h
          · exact h2 i (by omega)⟩
      · exact .inr ih
    · rw [ordN_diff h, ordN_diff (Ne.symm h)]
      have h1 := cmpZ_cases (cf a n) (cf b n)
      have h2 := cmpZ_cases (cf b n) (cf a n)
      omega
theorem ordN_trans (a b c : List Int) : ∀ n, ordN a b n = -1 → ordN b c n = -1 → ordN a c n = -1 := by
  intro n
  induction n with
  | zero => intro h; simp [ordN] at h
  | succ n ih =>
    intro h k
    have h1 := cmpZ_cases (cf a n) (cf b n)
    have h2 := cmpZ_cases (cf b n) (cf c n)
    have h3 := cmpZ_cases (cf a n) (cf c n)
    by_cases e : cf a n = cf b n
    · rw [ordN_same e] at h
      by_cases e2 : cf b n = cf c n
      · rw [ordN_same e2] at k
        rw [ordN_same (e.trans e2)]
        exact ih h k
      · rw [ordN_diff e2] at k
        rw [ordN_diff (by rw [e]; exact e2)]
        omega
    · rw [ordN_diff e] at h
      by_cases e2 : cf b n = cf c n
      · rw [ordN_diff (by rw [← e2]; exact e)]
        omega
      · rw [ordN_diff e2] at k
        rw [ordN_diff (by omega)]
        omega
theorem ordI_cases (a b : List Int) : (ordI a b = 0 ∧ a = b) ∨ (ordI a b = -1 ∧ ordI b a = 1) ∨ (ordI a b = 1 ∧ ordI b a = -1) := by
  unfold ordI
  by_cases h : a.length = b.length
  · rw [if_pos h, if_pos h.symm, ← h]
    rcases ordN_cases a b a.length with ⟨h1, h2⟩ | h1
    · refine .inl ⟨h1, cf_ext h fun i => ?_⟩
      by_cases hi : i < a.length
      · exact h2 i hi
      · rw [cf_over (by omega), cf_over (by omega)]
    · exact .inr h1
  · rw [if_neg h, if_neg (Ne.symm h)]
    have h1 := cmpZ_cases a.length b.length
    have h2 := cmpZ_cases b.length a.length
    omega
theorem ordI_self (a : List Int) : ordI a a = 0 := by
  have := ordI_cases a a
  omega
theorem ordI_trans {a b c : List Int} (h : ordI a b = -1) (k : ordI b c = -1) : ordI a c = -1 := by
  unfold ordI at *
  have h1 := cmpZ_cases a.length b.length
  have h2 := cmpZ_cases b.length c.length
  have h3 := cmpZ_cases a.length c.length
  by_cases e : a.length = b.length
  · rw [if_pos e] at h
    by_cases e2 : b.length = c.length
    · rw [if_pos e2] at k
      rw [if_pos (e.trans e2)]
      rw [← e] at k
      exact ordN_trans a b c _ h k
    · rw [if_neg e2] at k
      rw [if_neg (by omega)]
      omega
  · rw [if_neg e] at h
    by_cases e2 : b.length = c.length
    · rw [if_neg (by omega)]
      omega
    · rw [if_neg e2] at k
      rw [if_neg (by omega)]
      omega
def Ahd (a b : List Int) : Prop := ordI a b = -1
theorem ahd_irr (a : List Int) : ¬ Ahd a a := by unfold Ahd; rw [ordI_self]; decide
theorem ahd_tri (a b : List Int) : Ahd a b ∨ a = b ∨ Ahd b a := by
  unfold Ahd
  rcases ordI_cases a b with h | h | h
  · exact .inr (.inl h.2)
  · exact .inl h.1
  · exact .inr (.inr h.2)
theorem ahd_lt {a b : List Int} : Ahd a b ↔ ordI a b < 0 := by
  unfold Ahd
  have := ordI_cases a b
  omega
theorem ahd_not {a b : List Int} (h : Ahd a b) (k : Ahd b a) : False := ahd_irr a (ordI_trans h k)
theorem order_uniq {α : Type} {R : α → α → Prop} (hi : ∀ x, ¬ R x x) (ht : ∀ x y z, R x y → R y z → R x z) : ∀ L K : List α, L.Pairwise R → K.Pairwise R → (∀ x, x ∈ L ↔ x ∈ K) → L = K := by
  intro L
  induction L with
  | nil =>
    intro K _ _ h
    cases K with
    | nil => rfl
    | cons x K => exact absurd ((h x).2 (by simp)) (by simp)
  | cons a L ih =>
    intro K hL hK h
    cases K with
    | nil => exact absurd ((h a).1 (by simp)) (by simp)
    | cons b K =>
      rw [List.pairwise_cons] at hL hK
      have e : a = b := by
        have h1 := (h a).1 (by simp)
        have h2 := (h b).2 (by simp)
        rcases List.mem_cons.1 h1 with e | h1
        · exact e
        · rcases List.mem_cons.1 h2 with e | h2
          · exact e.symm
          · exact absurd (ht _ _ _ (hL.1 b h2) (hK.1 a h1)) (hi a)
      subst e
      refine congrArg _ (ih K hL.2 hK.2 fun x => ?_)
      constructor
      · intro hx
        rcases List.mem_cons.1 ((h x).1 (List.mem_cons_of_mem _ hx)) with e | k
        · subst e; exact absurd (hL.1 x hx) (hi x)
        · exact k
      · intro hx
        rcases List.mem_cons.1 ((h x).2 (List.mem_cons_of_mem _ hx)) with e | k
        · subst e; exact absurd (hK.1 x hx) (hi x)
        · exact k
theorem order_strict {α : Type} {k : α → List Int} : ∀ L : List α, L.Pairwise (fun x y => ¬ Ahd (k y) (k x)) → L.Pairwise (fun x y => k x ≠ k y) → L.Pairwise fun x y => Ahd (k x) (k y) := by
  intro L h1 h2
  refine (List.pairwise_and_iff.2 ⟨h1, h2⟩).imp fun ⟨a, b⟩ => ?_
  rcases ahd_tri (k _) (k _) with h | h | h
  · exact h
  · exact absurd h b
  · exact absurd h a

/-! Factors of what is squarefree, in order. -/
theorem facs_dis {p : Int} {w : List Int} {F : List (List Int)} (hp : Pr p) (hs : Sqf p w) (h : Facs p w F) : F.Pairwise (· ≠ ·) := by
  rw [List.pairwise_iff_getElem]
  intro i j hi hj hij e
  obtain ⟨_, _, a3⟩ := h.irr F[i] (List.getElem_mem hi)
  have h1 := vs_two (p := p) (q := cf F[i]) hi hj hij
  rw [h.v _ a3, ← e, V_self hp a3] at h1
  have := hs _ a3
  omega
theorem facs_one {p : Int} {w : List Int} {F : List (List Int)} (hp : Pr p) (hs : Sqf p w) (h : Facs p w F) {f : List Int} (hf : f ∈ F) : V p (cf w) (cf f) = 1 := by
  obtain ⟨_, _, a3⟩ := h.irr f hf
  have h1 := vs_mem (p := p) (q := cf f) hf
  rw [h.v _ a3, V_self hp a3] at h1
  have := hs _ a3
  omega
theorem facs_all {p : Int} {w : List Int} {F : List (List Int)} (hp : Pr p) (h : Facs p w F) {q : Ser} (hq : Irr p q) (hv : 1 ≤ V p (cf w) q) : ∃ f ∈ F, Ser.Eq p q (cf f) := by
  rw [← h.v q hq] at hv
  obtain ⟨f, hf, hfv⟩ := vs_pos hv
  obtain ⟨a1, _, a3⟩ := h.irr f hf
  exact ⟨f, hf, irr_dvd hp hq a3 ((V_pos hp hq a1.last).2 hfv)⟩
def SFac (p : Int) (w : List Int) (F : List (List Int)) : Prop := Facs p w F ∧ F.Pairwise Ahd
theorem mn_eq {p : Int} {f g : List Int} (hp : Pr p) (hf : Mn p f) (hg : Mn p g) (e : Ser.Eq p (cf f) (cf g)) : f = g := hf.1.uniq hg.1 (by have := hp.1; omega) e
theorem SFac.uniq {p : Int} {w : List Int} {F G : List (List Int)} (hp : Pr p) (hs : Sqf p w) (h : SFac p w F) (k : SFac p w G) : F = G := by
  have sub : ∀ F G : List (List Int), Facs p w F → Facs p w G → ∀ x ∈ F, x ∈ G := fun F G h k x hx => by
    obtain ⟨a1, _, a3⟩ := h.irr x hx
    obtain ⟨g, hg, e⟩ := facs_all hp k a3 (by rw [facs_one hp hs h hx]; exact Nat.le_refl _)
    rw [mn_eq hp a1 (k.irr g hg).1 e]; exact hg
  exact order_uniq ahd_irr (fun _ _ _ => ordI_trans) F G h.2 k.2 fun x => ⟨sub F G h.1 k.1 x, sub G F k.1 h.1 x⟩
/-! Factors, and how often each is one. -/
structure FacN (p : Int) (m : List Int) (L : PL) : Prop where
  own : ∀ x ∈ L, Mn p x.1 ∧ 2 ≤ x.1.length ∧ Irr p (cf x.1) ∧ 1 ≤ x.2 ∧ V p (cf m) (cf x.1) = x.2
  all : ∀ q, Irr p q → 1 ≤ V p (cf m) q → ∃ x ∈ L, Ser.Eq p q (cf x.1)
  up : L.Pairwise fun x y => Ahd x.1 y.1
theorem FacN.uniq {p : Int} {m : List Int} {L K : PL} (hp : Pr p) (h : FacN p m L) (k : FacN p m K) : L = K := by
  have sub : ∀ L K : PL, FacN p m L → FacN p m K → ∀ x ∈ L, x ∈ K := fun L K h k x hx => by
    obtain ⟨a1, _, a3, a4, a5⟩ := h.own x hx
    obtain ⟨y, hy, e⟩ := k.all _ a3 (by omega)
    obtain ⟨b1, _, b3, b4, b5⟩ := k.own y hy
    have e1 := mn_eq hp a1 b1 e
    have : x = y := Prod.ext e1 (by rw [← a5, ← b5, e1])
    rw [this]; exact hy
  exact order_uniq (R := fun x y : List Int × Nat => Ahd x.1 y.1) (fun x => ahd_irr x.1) (fun _ _ _ => ordI_trans) L K h.up k.up fun x => ⟨sub L K h k x, sub K L k h x⟩
structure FacT (p : Int) (m : List Int) (L : PL) (j : Nat) (A : PL) : Prop where
  own : ∀ x ∈ A, Mn p x.1 ∧ 2 ≤ x.1.length ∧ Irr p (cf x.1) ∧ 1 ≤ x.2 ∧ V p (cf m) (cf x.1) = x.2 ∧ ∃ y ∈ L.take j, y.2 = x.2
  all : ∀ y ∈ L.take j, ∀ q, Irr p q → V p (cf m) q = y.2 → ∃ x ∈ A, Ser.Eq p q (cf x.1)
  dis : A.Pairwise fun x y => x.1 ≠ y.1
theorem facT_start (p : Int) (m : List Int) (L : PL) : FacT p m L 0 [] := ⟨fun _ hx => (List.not_mem_nil hx).elim, fun _ hy => (List.not_mem_nil hy).elim, List.Pairwise.nil⟩
theorem own_sqf {p : Int} {m P : List Int} {N : Nat} (h : IsOwn p m N P) : Sqf p P := fun q hq => by
  rw [h.2 q hq]; split <;> omega
theorem FacT.next {p : Int} {m : List Int} {L A : PL} {j : Nat} {F : List (List Int)} (hp : Pr p) (hL : IsParts p m L) (h : FacT p m L j A) (hj : j < L.length) (hF : Facs p (L[j]).1 F) : FacT p m L (j + 1) (A ++ F.map fun f => (f, (L[j]).2)) := by
  obtain ⟨o1, o2, _⟩ := hL.own L[j] (List.getElem_mem hj)
  have hs := own_sqf o2
  have hV : ∀ f ∈ F, V p (cf m) (cf f) = (L[j]).2 := fun f hf => by
    have h1 := facs_one hp hs hF hf
    have h2 := o2.2 _ (hF.irr f hf).2.2
    rw [h1] at h2
    by_cases e : V p (cf m) (cf f) = (L[j]).2
    · exact e
    · rw [if_neg e] at h2; omega
  have hmem : L[j] ∈ L.take (j + 1) := by rw [List.take_succ_eq_append_getElem hj]; exact List.mem_append.2 (.inr (List.mem_singleton.2 rfl))
  have hsub : ∀ y ∈ L.take j, y ∈ L.take (j + 1) := fun y hy => by rw [List.take_succ_eq_append_getElem hj]; exact List.mem_append.2 (.inl hy)
  have hup := hL.up
  rw [List.pairwise_map, List.pairwise_iff_getElem] at hup
  refine ⟨fun x hx => ?_, fun y hy q hq hv => ?_, ?_⟩
  · rcases List.mem_append.1 hx with hx | hx
    · obtain ⟨a1, a2, a3, a4, a5, y, hy, e⟩ := h.own x hx
      exact ⟨a1, a2, a3, a4, a5, y, hsub y hy, e⟩
    · obtain ⟨f, hf, rfl⟩ := List.mem_map.1 hx
      obtain ⟨a1, a2, a3⟩ := hF.irr f hf
      exact ⟨a1, a2, a3, o1, hV f hf, L[j], hmem, rfl⟩
  · rw [List.take_succ_eq_append_getElem hj] at hy
    rcases List.mem_append.1 hy with hy | hy
    · obtain ⟨x, hx, e⟩ := h.all y hy q hq hv
      exact ⟨x, List.mem_append.2 (.inl hx), e⟩
    · rw [List.mem_singleton.1 hy] at hv
      have h2 := o2.2 q hq
      rw [if_pos hv] at h2
      obtain ⟨f, hf, e⟩ := facs_all hp hF hq (by omega)
      exact ⟨(f, (L[j]).2), List.mem_append.2 (.inr (List.mem_map.2 ⟨f, hf, rfl⟩)), e⟩
  · rw [List.pairwise_append]
    refine ⟨h.dis, ?_, fun x hx y hy e => ?_⟩
    · rw [List.pairwise_map]
      exact facs_dis hp hs hF
    · obtain ⟨f, hf, rfl⟩ := List.mem_map.1 hy
      obtain ⟨_, _, _, _, a5, z, hz, ez⟩ := h.own x hx
      have e2 := hV f hf
      rw [show x.1 = f from e, e2] at a5
      obtain ⟨i, hi, rfl⟩ := List.getElem_of_mem hz
      rw [List.length_take] at hi
      rw [List.getElem_take] at ez
      have := hup i j (by omega) hj (by omega)
      omega
theorem FacT.done {p : Int} {m : List Int} {L A K : PL} {j : Nat} (hL : IsParts p m L) (h : FacT p m L j A) (hj : L.length ≤ j) (k : K.Perm A) (ho : K.Pairwise fun x y => ¬ Ahd y.1 x.1) : FacN p m K := by
  refine ⟨fun x hx => ?_, fun q hq hv => ?_, order_strict (k := fun x : List Int × Nat => x.1) K ho ?_⟩
  · obtain ⟨a1, a2, a3, a4, a5, _⟩ := h.own x (k.mem_iff.1 hx)
    exact ⟨a1, a2, a3, a4, a5⟩
  · obtain ⟨y, hy, e⟩ := hL.all q hq hv
    obtain ⟨x, hx, e2⟩ := h.all y (by rw [List.take_of_length_le hj]; exact hy) q hq e.symm
    exact ⟨x, k.mem_iff.2 hx, e2⟩
  · exact (k.symm.pairwise_iff (fun {x y} (e : x.1 ≠ y.1) => e.symm)).1 h.dis
end Go.Proofs.YtnkhhndjbanmnaaGreatDoor

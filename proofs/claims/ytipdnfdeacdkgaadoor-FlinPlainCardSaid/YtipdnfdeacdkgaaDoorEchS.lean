/- The plain rows of a matrix: what they are to be; a row put among them, and what all then span. Mathematics alone. -/
import Derived.Test.YtipdnfdeacdkgaaDoorEchM
import Derived.Test.YtipdnfdeacdkgaaDoorFpMath
namespace Go.Proofs.YtipdnfdeacdkgaaDoor

/-- The plain rows of a matrix of n columns. -/
def IsEch (p : Int) (n : Nat) (M E : List (List Int)) : Prop := ∃ P, E = rowsOf P ∧ EchP p n P ∧ (∀ r ∈ E, Sp p M (cf r)) ∧ (∀ r ∈ M, Sp p E (cf r))
theorem IsEch.uniq {p : Int} {n : Nat} (hp : 2 ≤ p) {M E E' : List (List Int)} (h : IsEch p n M E) (k : IsEch p n M E') : E = E' := by
  obtain ⟨P, rfl, h1, h2, h3⟩ := h
  obtain ⟨Q, rfl, k1, k2, k3⟩ := k
  rw [h1.uniq hp k1 (fun r hr => (h2 r hr).sub k3) (fun r hr => (k2 r hr).sub h3)]

/-- A row less k times another one. -/
def lessL (p : Int) (a b : List Int) (k : Int) : List Int := (List.range a.length).map fun i => (cf a i - k * cf b i) % p
theorem lessL_len (p : Int) (a b : List Int) (k : Int) : (lessL p a b k).length = a.length := by simp [lessL]
theorem cf_lessL {p : Int} {a b : List Int} {k : Int} (hl : b.length = a.length) (i : Nat) : cf (lessL p a b k) i = (cf a i - k * cf b i) % p := by
  by_cases h : i < a.length
  · rw [cf_at (by rw [lessL_len]; exact h)]
    simp [lessL]
  · rw [cf_over (by rw [lessL_len]; omega), cf_over (by omega), cf_over (by omega)]
    simp
theorem lessL_rs {p : Int} (hp : 1 ≤ p) (a b : List Int) (k : Int) : Rs p (lessL p a b k) := fun x hx => by
  simp only [lessL, List.mem_map] at hx
  obtain ⟨i, _, rfl⟩ := hx
  exact ⟨Int.emod_nonneg _ (by omega), Int.emod_lt_of_pos _ (by omega)⟩
theorem lessL_eq {p : Int} {a b : List Int} {k : Int} (hl : b.length = a.length) : Ser.Eq p (cf (lessL p a b k)) (Ser.add (cf a) (Ser.sc (-k) (cf b))) := fun i => by
  rw [cf_lessL hl, Int.emod_emod_of_dvd _ (Int.dvd_refl p)]
  show (cf a i - k * cf b i) % p = (cf a i + -k * cf b i) % p
  rw [Int.neg_mul]
  congr 1

/-- One row of the matrix on its way: what is left of it when the first k plain rows have been taken off. -/
structure RedIn (p : Int) (n : Nat) (P : List (Nat × List Int)) (k : Nat) (m row : List Int) : Prop where
  len : row.length = n
  rs : Rs p row
  zero : ∀ a ∈ P.take k, cf row a.1 = 0
  sp : Sp p (rowsOf P) (Ser.add (cf m) (Ser.sc (-1) (cf row)))
theorem RedIn.step {p : Int} {n k : Nat} {P : List (Nat × List Int)} {m row : List Int} (hp : 1 ≤ p) (h : EchP p n P) (hr : RedIn p n P k m row) (hk : k < P.length) :
    RedIn p n P (k + 1) m (lessL p row (P[k]).2 (cf row (P[k]).1)) := by
  have hm : P[k] ∈ P := List.getElem_mem hk
  have hl : (P[k]).2.length = row.length := by rw [h.len _ hm, hr.len]
  refine ⟨by rw [lessL_len, hr.len], lessL_rs hp _ _ _, fun a ha => ?_, ?_⟩
  · rw [List.take_succ_eq_append_getElem hk] at ha
    rw [cf_lessL hl]
    rcases List.mem_append.1 ha with ha | ha
    · have haP := List.mem_of_mem_take ha
      rw [hr.zero a ha]
      by_cases e : a.1 = (P[k]).1
      · have := inc_same h.inc a haP _ hm e
        have hz := hr.zero a ha
        rw [this] at hz
        rw [hz]; simp
      · rw [h.other a haP _ hm (fun e2 => e e2.symm)]; simp
    · simp at ha
      subst ha
      rw [h.one _ hm]; simp
  · refine Sp.eq (.add hr.sp (.sc (cf row (P[k]).1) (.row (rowsOf_mem.2 ⟨_, hm, rfl⟩)))) ?_
    have e := lessL_eq (p := p) (k := cf row (P[k]).1) hl
    intro i
    have h2 := e i
    show (cf m i + -1 * cf row i + cf row (P[k]).1 * cf (P[k]).2 i) % p = (cf m i + -1 * cf (lessL p row (P[k]).2 (cf row (P[k]).1)) i) % p
    rw [Int.add_emod (cf m i), Int.mul_emod (-1), h2, ← Int.mul_emod, ← Int.add_emod]
    show _ = (cf m i + -1 * (cf row i + -(cf row (P[k]).1) * cf (P[k]).2 i)) % p
    rw [Int.neg_mul (cf row (P[k]).1)]
    congr 1
    omega

/-- The old rows, each less so many times the new one; the new one among them. -/
def lessP (p : Int) (x : Nat) (w : List Int) (P : List (Nat × List Int)) : List (Nat × List Int) := P.map fun a => (a.1, lessL p a.2 w (cf a.2 x))
def putP (p : Int) (x : Nat) (w : List Int) (n : Nat) (P : List (Nat × List Int)) : List (Nat × List Int) := (lessP p x w P).take n ++ (x, w) :: (lessP p x w P).drop n
theorem lessP_mem {p : Int} {x : Nat} {w : List Int} {P : List (Nat × List Int)} {b : Nat × List Int} : b ∈ lessP p x w P ↔ ∃ a ∈ P, b = (a.1, lessL p a.2 w (cf a.2 x)) := by
  simp only [lessP, List.mem_map]
  constructor
  · rintro ⟨a, ha, rfl⟩; exact ⟨a, ha, rfl⟩
  · rintro ⟨a, ha, rfl⟩; exact ⟨a, ha, rfl⟩
theorem putP_mem {p : Int} {x : Nat} {w : List Int} {n : Nat} {P : List (Nat × List Int)} {b : Nat × List Int} : b ∈ putP p x w n P ↔ b = (x, w) ∨ ∃ a ∈ P, b = (a.1, lessL p a.2 w (cf a.2 x)) := by
  rw [← lessP_mem]
  unfold putP
  have e : ∀ L : List (Nat × List Int), (b ∈ L.take n ++ (x, w) :: L.drop n) ↔ (b = (x, w) ∨ b ∈ L) := by
    intro L
    have h2 : b ∈ L ↔ b ∈ L.take n ++ L.drop n := by rw [List.take_append_drop]
    rw [h2]
    simp only [List.mem_append, List.mem_cons]
    constructor
    · rintro (h | h | h)
      · exact .inr (.inl h)
      · exact .inl h
      · exact .inr (.inr h)
    · rintro (h | h | h)
      · exact .inr (.inl h)
      · exact .inl h
      · exact .inr (.inr h)
  exact e _
theorem EchP.put {p : Int} {n : Nat} {P : List (Nat × List Int)} (hp : 2 ≤ p) (h : EchP p n P) {w : List Int} {x t : Nat} (hx : x < n) (hl : w.length = n) (hr : Rs p w) (h1 : cf w x = 1) (h0 : ∀ j, j < x → cf w j = 0) (hz : ∀ a ∈ P, cf w a.1 = 0)
    (ht1 : ∀ a ∈ P.take t, a.1 < x) (ht2 : ∀ a ∈ P.drop t, x < a.1) : EchP p n (putP p x w t P) := by
  have hne : ∀ a ∈ P, a.1 ≠ x := fun a ha e => by
    have := hz a ha
    rw [e, h1] at this
    exact absurd this (by decide)
  have hl2 : ∀ a ∈ P, w.length = a.2.length := fun a ha => by rw [hl, h.len a ha]
  have hred : ∀ {z : Int}, 0 ≤ z → z < p → z % p = z := fun a b => Int.emod_eq_of_lt a b
  have old : ∀ a ∈ P, ∀ y, cf w y = 0 → cf (lessL p a.2 w (cf a.2 x)) y = cf a.2 y := by
    intro a ha y hy
    rw [cf_lessL (hl2 a ha), hy, Int.mul_zero, Int.sub_zero]
    have := (h.rs a ha).at (by omega) y
    exact hred this.1 this.2
  refine ⟨?_, ?_, ?_, ?_, ?_, ?_, ?_⟩
  · have hi : (lessP p x w P).Pairwise fun a b => a.1 < b.1 := by
      unfold lessP
      rw [List.pairwise_map]
      exact h.inc
    have e1 : ∀ b ∈ (lessP p x w P).take t, b.1 < x := by
      intro b hb
      unfold lessP at hb
      rw [← List.map_take] at hb
      obtain ⟨a, ha, rfl⟩ := List.mem_map.1 hb
      exact ht1 a ha
    have e2 : ∀ b ∈ (lessP p x w P).drop t, x < b.1 := by
      intro b hb
      unfold lessP at hb
      rw [← List.map_drop] at hb
      obtain ⟨a, ha, rfl⟩ := List.mem_map.1 hb
      exact ht2 a ha
    unfold putP
    rw [List.pairwise_append]
    refine ⟨hi.sublist (List.take_sublist _ _), List.pairwise_cons.2 ⟨e2, hi.sublist (List.drop_sublist _ _)⟩, fun a ha b hb => ?_⟩
    rcases List.mem_cons.1 hb with e | hb
    · rw [e]; exact e1 a ha
    · exact Nat.lt_trans (e1 a ha) (e2 b hb)
  · intro b hb
    rcases putP_mem.1 hb with rfl | ⟨a, ha, rfl⟩
    · exact hx
    · exact h.lt a ha
  · intro b hb
    rcases putP_mem.1 hb with rfl | ⟨a, ha, rfl⟩
    · exact hl
    · show (lessL p a.2 w (cf a.2 x)).length = n
      rw [lessL_len, h.len a ha]
  · intro b hb
    rcases putP_mem.1 hb with rfl | ⟨a, ha, rfl⟩
    · exact hr
    · exact lessL_rs (by omega) _ _ _
  · intro b hb
    rcases putP_mem.1 hb with rfl | ⟨a, ha, rfl⟩
    · exact h1
    · show cf (lessL p a.2 w (cf a.2 x)) a.1 = 1
      rw [old a ha _ (hz a ha), h.one a ha]
  · intro b hb j hj
    rcases putP_mem.1 hb with rfl | ⟨a, ha, rfl⟩
    · exact h0 j hj
    · show cf (lessL p a.2 w (cf a.2 x)) j = 0
      have hj' : j < a.1 := hj
      rw [cf_lessL (hl2 a ha), h.low a ha j hj']
      by_cases e : j < x
      · rw [h0 j e]; simp
      · rw [h.low a ha x (by have := hne a ha; omega)]; simp
  · intro b hb c hc e
    rcases putP_mem.1 hb with rfl | ⟨a, ha, rfl⟩
    · rcases putP_mem.1 hc with rfl | ⟨d, hd, rfl⟩
      · exact absurd rfl e
      · show cf (lessL p d.2 w (cf d.2 x)) x = 0
        rw [cf_lessL (hl2 d hd), h1]
        simp
    · rcases putP_mem.1 hc with rfl | ⟨d, hd, rfl⟩
      · exact hz a ha
      · show cf (lessL p d.2 w (cf d.2 x)) a.1 = 0
        rw [old d hd _ (hz a ha)]
        exact h.other a ha d hd e
/-- What all then span. -/
theorem put_sp {p : Int} {n : Nat} {P : List (Nat × List Int)} (h : EchP p n P) {w : List Int} {x t : Nat} (hl : w.length = n) {M : List (List Int)} {m row : List Int} {u : Int} (hP : ∀ r ∈ rowsOf P, Sp p M (cf r)) (hM : ∀ r ∈ M, Sp p (rowsOf P) (cf r))
    (hs : Sp p (rowsOf P) (Ser.add (cf m) (Ser.sc (-1) (cf row)))) (hw : Ser.Eq p (cf w) (Ser.sc u (cf row))) {v : Int} (hv : Ser.Eq p (cf row) (Ser.sc v (cf w))) :
    (∀ r ∈ rowsOf (putP p x w t P), Sp p (M ++ [m]) (cf r)) ∧ (∀ r ∈ M ++ [m], Sp p (rowsOf (putP p x w t P)) (cf r)) := by
  have hM1 : ∀ {f}, Sp p M f → Sp p (M ++ [m]) f := fun k => k.more fun r hr => List.mem_append_left _ hr
  have hwin : (x, w) ∈ putP p x w t P := putP_mem.2 (.inl rfl)
  have hrow : Sp p (M ++ [m]) (cf row) := by
    have k1 : Sp p (M ++ [m]) (Ser.add (cf m) (Ser.sc (-1) (cf row))) := hs.sub fun r hr => hM1 (hP r hr)
    refine Sp.eq (.add (.row (List.mem_append_right _ List.mem_cons_self)) (.sc (-1) k1)) (fun i => ?_)
    show (cf m i + -1 * (cf m i + -1 * cf row i)) % p = cf row i % p
    congr 1; omega
  have hwM : Sp p (M ++ [m]) (cf w) := .eq (.sc u hrow) hw.symm
  have hold : ∀ a ∈ P, Sp p (rowsOf (putP p x w t P)) (cf a.2) := by
    intro a ha
    have e := lessL_eq (p := p) (k := cf a.2 x) (show w.length = a.2.length by rw [hl, h.len a ha])
    refine Sp.eq (.add (.row (rowsOf_mem.2 ⟨_, putP_mem.2 (.inr ⟨a, ha, rfl⟩), rfl⟩)) (.sc (cf a.2 x) (.row (rowsOf_mem.2 ⟨_, hwin, rfl⟩)))) (fun i => ?_)
    show (cf (lessL p a.2 w (cf a.2 x)) i + cf a.2 x * cf w i) % p = cf a.2 i % p
    rw [Int.add_emod, e i, ← Int.add_emod]
    show (cf a.2 i + -(cf a.2 x) * cf w i + cf a.2 x * cf w i) % p = _
    rw [Int.neg_mul]
    congr 1; omega
  constructor
  · intro r hr
    obtain ⟨b, hb, rfl⟩ := rowsOf_mem.1 hr
    rcases putP_mem.1 hb with rfl | ⟨a, ha, rfl⟩
    · exact hwM
    · have e := lessL_eq (p := p) (k := cf a.2 x) (show w.length = a.2.length by rw [hl, h.len a ha])
      exact .eq (.add (hM1 (hP _ (rowsOf_mem.2 ⟨a, ha, rfl⟩))) (.sc _ hwM)) e.symm
  · intro r hr
    have hsub : ∀ {f}, Sp p (rowsOf P) f → Sp p (rowsOf (putP p x w t P)) f := fun k => k.sub fun r hr => by
      obtain ⟨a, ha, rfl⟩ := rowsOf_mem.1 hr
      exact hold a ha
    rcases List.mem_append.1 hr with hr | hr
    · exact hsub (hM r hr)
    · simp at hr
      subst hr
      have k2 : Sp p (rowsOf (putP p x w t P)) (cf row) := .eq (.sc v (.row (rowsOf_mem.2 ⟨_, hwin, rfl⟩))) hv.symm
      refine Sp.eq (.add (hsub hs) k2) (fun i => ?_)
      show (cf r i + -1 * cf row i + cf row i) % p = cf r i % p
      congr 1; omega
/-- A row of which nothing is left. -/
theorem put_none {p : Int} {P : List (Nat × List Int)} {M : List (List Int)} {m row : List Int} (hP : ∀ r ∈ rowsOf P, Sp p M (cf r)) (hM : ∀ r ∈ M, Sp p (rowsOf P) (cf r))
    (hs : Sp p (rowsOf P) (Ser.add (cf m) (Ser.sc (-1) (cf row)))) (h0 : ∀ i, cf row i = 0) :
    (∀ r ∈ rowsOf P, Sp p (M ++ [m]) (cf r)) ∧ (∀ r ∈ M ++ [m], Sp p (rowsOf P) (cf r)) := by
  refine ⟨fun r hr => (hP r hr).more fun r hr => List.mem_append_left _ hr, fun r hr => ?_⟩
  rcases List.mem_append.1 hr with hr | hr
  · exact hM r hr
  · simp at hr
    subst hr
    refine hs.eq fun i => ?_
    show (cf r i + -1 * cf row i) % p = cf r i % p
    rw [h0]; simp
end Go.Proofs.YtipdnfdeacdkgaaDoor

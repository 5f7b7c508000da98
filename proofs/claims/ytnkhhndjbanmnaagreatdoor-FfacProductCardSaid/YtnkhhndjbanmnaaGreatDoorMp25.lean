/- Texts joined, in their order: EchS, NulM, BerB. -/
import Derived.Test.YtnkhhndjbanmnaaGreatDoorMp1
import Derived.Test.YtnkhhndjbanmnaaGreatDoorMp24

/- The plain rows of a matrix: what they are to be; a row put among them, and what all then span. Mathematics alone. -/
namespace Go.Proofs.YtnkhhndjbanmnaaGreatDoor

def IsEch (p : Int) (n : Nat) (M E : List (List Int)) : Prop := ∃ P, E = rowsOf P ∧ EchP p n P ∧ (∀ r ∈ E, Sp p M (cf r)) ∧ (∀ r ∈ M, Sp p E (cf r))
theorem IsEch.uniq {p : Int} {n : Nat} (hp : 2 ≤ p) {M E E' : List (List Int)} (h : IsEch p n M E) (k : IsEch p n M E') : E = E' := by
  obtain ⟨P, rfl, h1, h2, h3⟩ := h
  obtain ⟨Q, rfl, k1, k2, k3⟩ := k
  rw [h1.uniq hp k1 (fun r hr => (h2 r hr).sub k3) (fun r hr => (k2 r hr).sub h3)]

def lessL (p : Int) (a b : List Int) (k : Int) : List Int := (List.range a.length).map fun i => (cf a i - k * cf b i) % p
theorem lessL_len (p : Int) (a b : List Int) (k : Int) : (lessL p a b k).length = a.length := by simp [lessL]
theorem cf_lessL {p : Int} {a b : List Int} {k : Int} (hl : b.length = a.length) (i : Nat) : cf (lessL p a b k) i = (cf a i - k * cf b i) % p := by
  by_cases h : i < a.length
  · rw [cf_at (by rw [lessL_len]; exact h)]
    simp [lessL]
  · rw [cf_over (by rw [lessL_len]; omega), cf_over (by omega), cf_over (by omega)]
    simp
theorem lessL_rs {p : Int} (hp : 1 ≤ p) (a b : List Int) (k : Int) : Rs p (lessL p a b k) := fun x hx => by
  simp only [lessL, List.mem_map] at hx
  obtain ⟨i, _, rfl⟩ := hx
  exact ⟨Int.emod_nonneg _ (by omega), Int.emod_lt_of_pos _ (by omega)⟩
theorem lessL_eq {p : Int} {a b : List Int} {k : Int} (hl : b.length = a.length) : Ser.Eq p (cf (lessL p a b k)) (Ser.add (cf a) (Ser.sc (-k) (cf b))) := fun i => by
  rw [cf_lessL hl, Int.emod_emod_of_dvd _ (Int.dvd_refl p)]
  show (cf a i - k * cf b i) % p = (cf a i + -k * cf b i) % p
  rw [Int.neg_mul]
  congr 1

structure RedIn (p : Int) (n : Nat) (P : List (Nat × List Int)) (k : Nat) (m row : List Int) : Prop where
  len : row.length = n
  rs : Rs p row
  zero : ∀ a ∈ P.take k, cf row a.1 = 0
  sp : Sp p (rowsOf P) (Ser.add (cf m) (Ser.sc (-1) (cf row)))
theorem RedIn.step {p : Int} {n k : Nat} {P : List (Nat × List Int)} {m row : List Int} (hp : 1 ≤ p) (h : EchP p n P) (hr : RedIn p n P k m row) (hk : k < P.length) :
    RedIn p n P (k + 1) m (lessL p row (P[k]).2 (cf row (P[k]).1)) := by
  have hm : P[k] ∈ P := List.getElem_mem hk
  have hl : (P[k]).2.length = row.length := by rw [h.len _ hm, hr.len]
  refine ⟨by rw [lessL_len, hr.len], lessL_rs hp _ _ _, fun a ha => ?_, ?_⟩
  · rw [List.take_succ_eq_append_getElem hk] at ha
    rw [cf_lessL hl]
    rcases List.mem_append.1 ha with ha | ha
    · have haP := List.mem_of_mem_take ha
      rw [hr.zero a ha]
      by_cases e : a.1 = (P[k]).1
      · have := inc_same h.inc a haP _ hm e
        have hz := hr.zero a ha
        rw [this] at hz
        rw [hz]; simp
      · rw [h.other a haP _ hm (fun e2 => e e2.symm)]; simp
    · simp at ha
      subst ha
      rw [h.one _ hm]; simp
  · refine Sp.eq (.add hr.sp (.sc (cf row (P[k]).1) (.row (rowsOf_mem.2 ⟨_, hm, rfl⟩)))) ?_
    have e := lessL_eq (p := p) (k := cf row (P[k]).1) hl
    intro i
    have h2 := e i
    show (cf m i + -1 * cf row i + cf row (P[k]).1 * cf (P[k]).2 i) % p = (cf m i + -1 * cf (lessL p row (P[k]).2 (cf row (P[k]).1)) i) % p
    rw [Int.add_emod (cf m i), Int.mul_emod (-1), h2, ← Int.mul_emod, ← Int.add_emod]
    show _ = (cf m i + -1 * (cf row i + -(cf row (P[k]).1) * cf (P[k]).2 i)) % p
    rw [Int.neg_mul (cf row (P[k]).1)]
    congr 1
    omega

def lessP (p : Int) (x : Nat) (w : List Int) (P : List (Nat × List Int)) : List (Nat × List Int) := P.map fun a => (a.1, lessL p a.2 w (cf a.2 x))
def putP (p : Int) (x : Nat) (w : List Int) (n : Nat) (P : List (Nat × List Int)) : List (Nat × List Int) := (lessP p x w P).take n ++ (x, w) :: (lessP p x w P).drop n
theorem lessP_mem {p : Int} {x : Nat} {w : List Int} {P : List (Nat × List Int)} {b : Nat × List Int} : b ∈ lessP p x w P ↔ ∃ a ∈ P, b = (a.1, lessL p a.2 w (cf a.2 x)) := by
  simp only [lessP, List.mem_map]
  constructor
  · rintro ⟨a, ha, rfl⟩; exact ⟨a, ha, rfl⟩
  · rintro ⟨a, ha, rfl⟩; exact ⟨a, ha, rfl⟩
theorem putP_mem {p : Int} {x : Nat} {w : List Int} {n : Nat} {P : List (Nat × List Int)} {b : Nat × List Int} : b ∈ putP p x w n P ↔ b = (x, w) ∨ ∃ a ∈ P, b = (a.1, lessL p a.2 w (cf a.2 x)) := by
  rw [← lessP_mem]
  unfold putP
  have e : ∀ L : List (Nat × List Int), (b ∈ L.take n ++ (x, w) :: L.drop n) ↔ (b = (x, w) ∨ b ∈ L) := by
    intro L
    have h2 : b ∈ L ↔ b ∈ L.take n ++ L.drop n := by rw [List.take_append_drop]
    rw [h2]
    simp only [List.mem_append, List.mem_cons]
    constructor
    · rintro (h | h | h)
      · exact .inr (.inl h)
      · exact .inl h
      · exact .inr (.inr h)
    · rintro (h | h | h)
      · exact .inr (.inl h)
      · exact .inl h
      · exact .inr (.inr h)
  exact e _
theorem EchP.put {p : Int} {n : Nat} {P : List (Nat × List Int)} (hp : 2 ≤ p) (h : EchP p n P) {w : List Int} {x t : Nat} (hx : x < n) (hl : w.length = n) (hr : Rs p w) (h1 : cf w x = 1) (h0 : ∀ j, j < x → cf w j = 0) (hz : ∀ a ∈ P, cf w a.1 = 0)
    (ht1 : ∀ a ∈ P.take t, a.1 < x) (ht2 : ∀ a ∈ P.drop t, x < a.1) : EchP p n (putP p x w t P) := by
  have hne : ∀ a ∈ P, a.1 ≠ x := fun a ha e => by
    have := hz a ha
    rw [e, h1] at this
    exact absurd this (by decide)
  have hl2 : ∀ a ∈ P, w.length = a.2.length := fun a ha => by rw [hl, h.len a ha]
  have hred : ∀ {z : Int}, 0 ≤ z → z < p → z % p = z := fun a b => Int.emod_eq_of_lt a b
  have old : ∀ a ∈ P, ∀ y, cf w y = 0 → cf (lessL p a.2 w (cf a.2 x)) y = cf a.2 y := by
    intro a ha y hy
    rw [cf_lessL (hl2 a ha), hy, Int.mul_zero, Int.sub_zero]
    have := (h.rs a ha).at (by omega) y
    exact hred this.1 this.2
  refine ⟨?_, ?_, ?_, ?_, ?_, ?_, ?_⟩
  · have hi : (lessP p x w P).Pairwise fun a b => a.1 < b.1 := by
      unfold lessP
      rw [List.pairwise_map]
      exact h.inc
    have e1 : ∀ b ∈ (lessP p x w P).take t, b.1 < x := by
      intro b hb
      unfold lessP at hb
      rw [← List.map_take] at hb
      obtain ⟨a, ha, rfl⟩ := List.mem_map.1 hb
      exact ht1 a ha
    have e2 : ∀ b ∈ (lessP p x w P).drop t, x < b.1 := by
      intro b hb
      unfold lessP at hb
      rw [← List.map_drop] at hb
      obtain ⟨a, ha, rfl⟩ := List.mem_map.1 hb
      exact ht2 a ha
    unfold putP
    rw [List.pairwise_append]
    refine ⟨hi.sublist (List.take_sublist _ _), List.pairwise_cons.2 ⟨e2, hi.sublist (List.drop_sublist _ _)⟩, fun a ha b hb => ?_⟩
    rcases List.mem_cons.1 hb with e | hb
    · rw [e]; exact e1 a ha
    · exact Nat.lt_trans (e1 a ha) (e2 b hb)
  · intro b hb
    rcases putP_mem.1 hb with rfl | ⟨a, ha, rfl⟩
    · exact hx
    · exact h.lt a ha
  · intro b hb
    rcases putP_mem.1 hb with rfl | ⟨a, ha, rfl⟩
    · exact hl
    · show (lessL p a.2 w (cf a.2 x)).length = n
      rw [lessL_len, h.len a ha]
  · intro b hb
    rcases putP_mem.1 hb with rfl | ⟨a, ha, rfl⟩
    · exact hr
    · exact lessL_rs (by omega) _ _ _
  · intro b hb
    rcases putP_mem.1 hb with rfl | ⟨a, ha, rfl⟩
    · exact h1
    · show cf (lessL p a.2 w (cf a.2 x)) a.1 = 1
      rw [old a ha _ (hz a ha), h.one a ha]
  · intro b hb j hj
    rcases putP_mem.1 hb with rfl | ⟨a, ha, rfl⟩
    · exact h0 j hj
    · show cf (lessL p a.2 w (cf a.2 x)) j = 0
      have hj' : j < a.1 := hj
      rw [cf_lessL (hl2 a ha), h.low a ha j hj']
      by_cases e : j < x
      · rw [h0 j e]; simp
      · rw [h.low a ha x (by have := hne a ha; omega)]; simp
  · intro b hb c hc e
    rcases putP_mem.1 hb with rfl | ⟨a, ha, rfl⟩
    · rcases putP_mem.1 hc with rfl | ⟨d, hd, rfl⟩
      · exact absurd rfl e
      · show cf (lessL p d.2 w (cf d.2 x)) x = 0
        rw [cf_lessL (hl2 d hd), h1]
        simp
    · rcases putP_mem.1 hc with rfl | ⟨d, hd, rfl⟩
      · exact hz a ha
      · show cf (lessL p d.2 w (cf d.2 x)) a.1 = 0
        rw [old d hd _ (hz a ha)]
        exact h.other a ha d hd e
theorem put_sp {p : Int} {n : Nat} {P : List (Nat × List Int)} (h : EchP p n P) {w : List Int} {x t : Nat} (hl : w.length = n) {M : List (List Int)} {m row : List Int} {u : Int} (hP : ∀ r ∈ rowsOf P, Sp p M (cf r)) (hM : ∀ r ∈ M, Sp p (rowsOf P) (cf r))
    (hs : Sp p (rowsOf P) (Ser.add (cf m) (Ser.sc (-1) (cf row)))) (hw : Ser.Eq p (cf w) (Ser.sc u (cf row))) {v : Int} (hv : Ser.Eq p (cf row) (Ser.sc v (cf w))) :
    (∀ r ∈ rowsOf (putP p x w t P), Sp p (M ++ [m]) (cf r)) ∧ (∀ r ∈ M ++ [m], Sp p (rowsOf (putP p x w t P)) (cf r)) := by
  have hM1 : ∀ {f}, Sp p M f → Sp p (M ++ [m]) f := fun k => k.more fun r hr => List.mem_append_left _ hr
  have hwin : (x, w) ∈ putP p x w t P := putP_mem.2 (.inl rfl)
  have hrow : Sp p (M ++ [m]) (cf row) := by
    have k1 : Sp p (M ++ [m]) (Ser.add (cf m) (Ser.sc (-1) (cf row))) := hs.sub fun r hr => hM1 (hP r hr)
    refine Sp.eq (.add (.row (List.mem_append_right _ List.mem_cons_self)) (.sc (-1) k1)) (fun i => ?_)
    show (cf m i + -1 * (cf m i + -1 * cf row i)) % p = cf row i % p
    congr 1; omega
  have hwM : Sp p (M ++ [m]) (cf w) := .eq (.sc u hrow) hw.symm
  have hold : ∀ a ∈ P, Sp p (rowsOf (putP p x w t P)) (cf a.2) := by
    intro a ha
    have e := lessL_eq (p := p) (k := cf a.2 x) (show w.length = a.2.length by rw [hl, h.len a ha])
    refine Sp.eq (.add (.row (rowsOf_mem.2 ⟨_, putP_mem.2 (.inr ⟨a, ha, rfl⟩), rfl⟩)) (.sc (cf a.2 x) (.row (rowsOf_mem.2 ⟨_, hwin, rfl⟩)))) (fun i => ?_)
    show (cf (lessL p a.2 w (cf a.2 x)) i + cf a.2 x * cf w i) % p = cf a.2 i % p
    rw [Int.add_emod, e i, ← Int.add_emod]
    show (cf a.2 i + -(cf a.2 x) * cf w i + cf a.2 x * cf w i) % p = _
    rw [Int.neg_mul]
    congr 1; omega
  constructor
  · intro r hr
    obtain ⟨b, hb, rfl⟩ := rowsOf_mem.1 hr
    rcases putP_mem.1 hb with rfl | ⟨a, ha, rfl⟩
    · exact hwM
    · have e := lessL_eq (p := p) (k := cf a.2 x) (show w.length = a.2.length by rw [hl, h.len a ha])
      exact .eq (.add (hM1 (hP _ (rowsOf_mem.2 ⟨a, ha, rfl⟩))) (.sc _ hwM)) e.symm
  · intro r hr
    have hsub : ∀ {f}, Sp p (rowsOf P) f → Sp p (rowsOf (putP p x w t P)) f := fun k => k.sub fun r hr => by
      obtain ⟨a, ha, rfl⟩ := rowsOf_mem.1 hr
      exact hold a ha
    rcases List.mem_append.1 hr with hr | hr
    · exact hsub (hM r hr)
    · simp at hr
      subst hr
      have k2 : Sp p (rowsOf (putP p x w t P)) (cf row) := .eq (.sc v (.row (rowsOf_mem.2 ⟨_, hwin, rfl⟩))) hv.symm
      refine Sp.eq (.add (hsub hs) k2) (fun i => ?_)
      show (cf r i + -1 * cf row i + cf row i) % p = cf r i % p
      congr 1; omega
theorem put_none {p : Int} {P : List (Nat × List Int)} {M : List (List Int)} {m row : List Int} (hP : ∀ r ∈ rowsOf P, Sp p M (cf r)) (hM : ∀ r ∈ M, Sp p (rowsOf P) (cf r))
    (hs : Sp p (rowsOf P) (Ser.add (cf m) (Ser.sc (-1) (cf row)))) (h0 : ∀ i, cf row i = 0) :
    (∀ r ∈ rowsOf P, Sp p (M ++ [m]) (cf r)) ∧ (∀ r ∈ M ++ [m], Sp p (rowsOf P) (cf r)) := by
  refine ⟨fun r hr => (hP r hr).more fun r hr => List.mem_append_left _ hr, fun r hr => ?_⟩
  rcases List.mem_append.1 hr with hr | hr
  · exact hM r hr
  · simp at hr
    subst hr
    refine hs.eq fun i => ?_
    show (cf r i + -1 * cf row i) % p = cf r i % p
    rw [h0]; simp
end Go.Proofs.YtnkhhndjbanmnaaGreatDoor

/- What plain rows make nought: a vector for each free column, told; how many they are; what a matrix makes of a vector. Mathematics alone. -/
namespace Go.Proofs.YtnkhhndjbanmnaaGreatDoor

def smN (t : Nat → Int) : Nat → Int
  | 0 => 0
  | n + 1 => smN t n + t n
theorem smN_congr {t u : Nat → Int} {n : Nat} (h : ∀ j, j < n → t j = u j) : smN t n = smN u n := by
  induction n with
  | zero => rfl
  | succ n ih => show smN t n + t n = smN u n + u n; rw [ih fun j hj => h j (by omega), h n (by omega)]
theorem smN_add (t u : Nat → Int) (n : Nat) : smN (fun j => t j + u j) n = smN t n + smN u n := by
  induction n with
  | zero => rfl
  | succ n ih => show smN _ n + (t n + u n) = smN t n + t n + (smN u n + u n); rw [ih]; omega
theorem smN_mul (c : Int) (t : Nat → Int) (n : Nat) : smN (fun j => c * t j) n = c * smN t n := by
  induction n with
  | zero => simp [smN]
  | succ n ih => show smN _ n + c * t n = c * (smN t n + t n); rw [ih, Int.mul_add]
theorem smN_zero {t : Nat → Int} {n : Nat} (h : ∀ j, j < n → t j = 0) : smN t n = 0 := by
  induction n with
  | zero => rfl
  | succ n ih => show smN t n + t n = 0; rw [ih fun j hj => h j (by omega), h n (by omega)]; rfl
theorem smN_one {t : Nat → Int} {n x : Nat} (hx : x < n) (h : ∀ j, j < n → j ≠ x → t j = 0) : smN t n = t x := by
  induction n with
  | zero => omega
  | succ n ih =>
    show smN t n + t n = t x
    by_cases e : x = n
    · rw [smN_zero fun j hj => h j (by omega) (by omega), e, Int.zero_add]
    · rw [ih (by omega) fun j hj => h j (by omega), h n (by omega) (fun k => e k.symm), Int.add_zero]
theorem smN_two {t : Nat → Int} {n x y : Nat} (hx : x < n) (hy : y < n) (hxy : x ≠ y) (h : ∀ j, j < n → j ≠ x → j ≠ y → t j = 0) : smN t n = t x + t y := by
  have e : smN t n = smN (fun j => (if j = x then t x else 0) + (if j = x then 0 else t j)) n := smN_congr fun j _ => by
    by_cases k : j = x
    · subst k; simp
    · simp [k]
  rw [e, smN_add, smN_one (x := x) hx (fun j _ k => by simp [k]), smN_one (x := y) hy (fun j hj k => by
    by_cases k2 : j = x
    · simp [k2]
    · simp [k2, h j hj k2 k])]
  simp [Ne.symm hxy]
theorem smN_mod {p : Int} {t u : Nat → Int} {n : Nat} (h : ∀ j, j < n → t j % p = u j % p) : smN t n % p = smN u n % p := by
  induction n with
  | zero => rfl
  | succ n ih => show (smN t n + t n) % p = (smN u n + u n) % p; rw [Int.add_emod, ih fun j hj => h j (by omega), h n (by omega), ← Int.add_emod]

def dot (f g : Ser) (n : Nat) : Int := smN (fun j => f j * g j) n
theorem dot_add (f g h : Ser) (n : Nat) : dot (Ser.add f g) h n = dot f h n + dot g h n := by
  unfold dot
  rw [← smN_add]
  exact smN_congr fun j _ => Int.add_mul _ _ _
theorem dot_sc (c : Int) (f h : Ser) (n : Nat) : dot (Ser.sc c f) h n = c * dot f h n := by
  unfold dot
  rw [← smN_mul]
  exact smN_congr fun j _ => Int.mul_assoc _ _ _
theorem dot_eq {p : Int} {f g : Ser} (e : Ser.Eq p f g) (h : Ser) (n : Nat) : dot f h n % p = dot g h n % p :=
  smN_mod fun j _ => by rw [Int.mul_emod, e j, ← Int.mul_emod]
theorem Sp.dot0 {p : Int} {E : List (List Int)} {v : Ser} {n : Nat} (h : ∀ r ∈ E, dot (cf r) v n % p = 0) {f : Ser} (k : Sp p E f) : dot f v n % p = 0 := by
  induction k with
  | row hr => exact h _ hr
  | zer =>
    have e : dot Ser.zer v n = 0 := smN_zero fun j _ => Int.zero_mul _
    rw [e]; rfl
  | add _ _ a b => rw [dot_add, Int.add_emod, a, b]; rfl
  | sc c _ a => rw [dot_sc, Int.mul_emod, a, Int.mul_zero]; rfl
  | eq _ e a => rw [← dot_eq e]; exact a

def nulV (p : Int) (n c : Nat) (P : List (Nat × List Int)) : List Int := P.foldl (fun v a => if a.1 = c then v else v.set a.1 ((-(cf a.2 c)) % p)) ((List.replicate n 0).set c 1)
def freeB (P : List (Nat × List Int)) (c : Nat) : Bool := P.all fun a => a.1 != c
theorem freeB_iff {P : List (Nat × List Int)} {c : Nat} : freeB P c = true ↔ ∀ a ∈ P, a.1 ≠ c := by simp [freeB]
def nulL (p : Int) (n : Nat) (P : List (Nat × List Int)) (k : Nat) : List (List Int) := ((List.range k).filter (freeB P)).map fun c => nulV p n c P
theorem nulL_yes {p : Int} {n : Nat} {P : List (Nat × List Int)} {k : Nat} (h : freeB P k = true) : nulL p n P (k + 1) = nulL p n P k ++ [nulV p n k P] := by
  unfold nulL
  rw [List.range_succ, List.filter_append, List.map_append, List.filter_cons_of_pos h]
  rfl
theorem nulL_no {p : Int} {n : Nat} {P : List (Nat × List Int)} {k : Nat} (h : freeB P k = false) : nulL p n P (k + 1) = nulL p n P k := by
  unfold nulL
  rw [List.range_succ, List.filter_append, List.filter_cons_of_neg (by rw [h]; decide)]
  simp
theorem nulV_len (p : Int) (n c : Nat) (P : List (Nat × List Int)) : (nulV p n c P).length = n := by
  unfold nulV
  have : ∀ v : List Int, v.length = n → (P.foldl (fun v a => if a.1 = c then v else v.set a.1 ((-(cf a.2 c)) % p)) v).length = n := by
    induction P with
    | nil => exact fun v h => h
    | cons a P ih =>
      intro v h
      rw [List.foldl_cons]
      refine ih _ ?_
      by_cases e : a.1 = c
      · rw [if_pos e]; exact h
      · rw [if_neg e, List.length_set]; exact h
  exact this _ (by simp)
theorem nulV_snoc {p : Int} {n c : Nat} {P : List (Nat × List Int)} {i : Nat} (hi : i < P.length) : nulV p n c (P.take (i + 1)) = if (P[i]).1 = c then nulV p n c (P.take i) else (nulV p n c (P.take i)).set (P[i]).1 ((-(cf (P[i]).2 c)) % p) := by
  unfold nulV
  rw [List.take_succ_eq_append_getElem hi, List.foldl_append]
  rfl
theorem cf_set_ne {v : List Int} {i j : Nat} (u : Int) (h : i ≠ j) : cf (v.set i u) j = cf v j := by
  unfold cf
  rw [List.getD_eq_getElem?_getD, List.getD_eq_getElem?_getD, List.getElem?_set_ne h]
theorem cf_set_same {v : List Int} {i : Nat} (u : Int) (h : i < v.length) : cf (v.set i u) i = u := by
  unfold cf
  rw [List.getD_eq_getElem?_getD, List.getElem?_set_self h]; rfl
theorem nulFold_out {p : Int} {c : Nat} {P : List (Nat × List Int)} {j : Nat} (h : ∀ a ∈ P, a.1 ≠ c → a.1 ≠ j) : ∀ v : List Int, cf (P.foldl (fun v a => if a.1 = c then v else v.set a.1 ((-(cf a.2 c)) % p)) v) j = cf v j := by
  induction P with
  | nil => exact fun v => rfl
  | cons a P ih =>
    intro v
    rw [List.foldl_cons, ih fun b hb => h b (List.mem_cons_of_mem _ hb)]
    by_cases e : a.1 = c
    · rw [if_pos e]
    · rw [if_neg e, cf_set_ne _ (h a List.mem_cons_self e)]
theorem nulFold_in {p : Int} {n c : Nat} {P : List (Nat × List Int)} (hinc : P.Pairwise fun a b => a.1 < b.1) (hlt : ∀ a ∈ P, a.1 < n) {a : Nat × List Int} (ha : a ∈ P) (hac : a.1 ≠ c) :
    ∀ v : List Int, v.length = n → cf (P.foldl (fun v a => if a.1 = c then v else v.set a.1 ((-(cf a.2 c)) % p)) v) a.1 = (-(cf a.2 c)) % p := by
  induction P with
  | nil => exact (List.not_mem_nil ha).elim
  | cons b P ih =>
    intro v hv
    obtain ⟨h1, h2⟩ := List.pairwise_cons.1 hinc
    rw [List.foldl_cons]
    rcases List.mem_cons.1 ha with rfl | ha
    · rw [if_neg hac, nulFold_out (fun d hd _ e => by have := h1 d hd; omega), cf_set_same _ (by rw [hv]; exact hlt _ List.mem_cons_self)]
    · refine ih h2 (fun d hd => hlt d (List.mem_cons_of_mem _ hd)) ha _ ?_
      by_cases e : b.1 = c
      · rw [if_pos e]; exact hv
      · rw [if_neg e, List.length_set]; exact hv
theorem cf_unit {n c : Nat} (hc : c < n) (j : Nat) : cf ((List.replicate n (0 : Int)).set c 1) j = if j = c then 1 else 0 := by
  by_cases e : j = c
  · subst e; rw [if_pos rfl, cf_set_same _ (by simpa using hc)]
  · rw [if_neg e, cf_set_ne _ (fun k => e k.symm)]
    unfold cf
    rw [List.getD_eq_getElem?_getD, List.getElem?_replicate]
    by_cases k : j < n <;> simp [k]
theorem nulV_c {p : Int} {n c : Nat} {P : List (Nat × List Int)} (hc : c < n) (hf : ∀ a ∈ P, a.1 ≠ c) : cf (nulV p n c P) c = 1 := by
  unfold nulV
  rw [nulFold_out fun a ha _ => hf a ha, cf_unit hc, if_pos rfl]
theorem nulV_in {p : Int} {n c : Nat} {P : List (Nat × List Int)} (h : EchP p n P) (hf : ∀ a ∈ P, a.1 ≠ c) {a : Nat × List Int} (ha : a ∈ P) : cf (nulV p n c P) a.1 = (-(cf a.2 c)) % p :=
  nulFold_in h.inc h.lt ha (hf a ha) _ (by simp)
theorem nulV_out {p : Int} {n c : Nat} {P : List (Nat × List Int)} (hc : c < n) {j : Nat} (hj : j ≠ c) (hl : ∀ a ∈ P, a.1 ≠ j) : cf (nulV p n c P) j = 0 := by
  unfold nulV
  rw [nulFold_out fun a ha _ => hl a ha, cf_unit hc, if_neg hj]
theorem nul_row {p : Int} {n c : Nat} {P : List (Nat × List Int)} (h : EchP p n P) (hc : c < n) (hf : ∀ a ∈ P, a.1 ≠ c) : ∀ r ∈ rowsOf P, dot (cf r) (cf (nulV p n c P)) n % p = 0 := by
  intro r hr
  obtain ⟨a, ha, rfl⟩ := rowsOf_mem.1 hr
  unfold dot
  rw [smN_two (x := c) (y := a.1) hc (h.lt a ha) (fun e => hf a ha e.symm)]
  · rw [nulV_c hc hf, nulV_in h hf ha, h.one a ha, Int.mul_one, Int.one_mul, Int.add_emod_emod, Int.add_right_neg]; rfl
  · intro j hj j1 j2
    by_cases k : ∃ b ∈ P, b.1 = j
    · obtain ⟨b, hb, rfl⟩ := k
      rw [h.other b hb a ha (fun e => j2 e.symm), Int.zero_mul]
    · rw [nulV_out hc j1 (fun b hb e => k ⟨b, hb, e⟩), Int.mul_zero]
def appL (p : Int) (M : List (List Int)) (v : List Int) (n : Nat) : List Int := M.map fun r => dot (cf r) (cf v) n % p
end Go.Proofs.YtnkhhndjbanmnaaGreatDoor

/- The matrix whose null vectors are what is its own p-th power by a polynomial; its null vectors, and the factors of the polynomial. Mathematics alone. -/
namespace Go.Proofs.YtnkhhndjbanmnaaGreatDoor
open Ser (Bd)

theorem cf_rangeMap (g : Nat → Int) (n j : Nat) : cf ((List.range n).map g) j = if j < n then g j else 0 := by
  by_cases h : j < n
  · rw [if_pos h, cf_at (by simpa using h)]; simp
  · rw [if_neg h, cf_over (by simp; omega)]

noncomputable def colL (p : Int) (w : List Int) (j : Nat) : List Int := remL p (Ser.mono 1 (p.toNat * j)) (cf w)
noncomputable def rasM (p : Int) (w : List Int) (n : Nat) : List (List Int) := (List.range n).map fun i => (List.range n).map fun j => cf (colL p w j) i
noncomputable def ownM (p : Int) (w : List Int) (n : Nat) : List (List Int) := (List.range n).map fun i => (List.range n).map fun j => cf (colL p w j) i - (if j = i then 1 else 0)
theorem mono_fini (p : Int) (k : Nat) : Fini p (Ser.mono 1 k) := ⟨k + 1, fun i hi => by show (if i = k then (1 : Int) else 0) % p = 0; rw [if_neg (by omega)]; simp⟩
theorem rm_mult {p : Int} {a b : Ser} {m : Nat} (hp : Pr p) (hl : Last p b m) (ha : Fini p a) : Mult p b (Ser.add a (Ser.sc (-1) (cf (remL p a b)))) ∧ Bd p (cf (remL p a b)) m := by
  obtain ⟨q, r, hq, hd, _, h2⟩ := quo_rem hp hl ha
  refine ⟨⟨q, hq, fun i => ?_⟩, hd.2.eq h2.2.symm⟩
  have e1 := hd.1 i
  have e2 := h2.2 i
  show (a i + -1 * cf (remL p a b) i) % p = Ser.mul q b i % p
  have e3 : a i % p = (Ser.mul q b i + r i) % p := e1
  rw [show a i + -1 * cf (remL p a b) i = a i - cf (remL p a b) i from by omega, Int.sub_emod, e3, e2, ← Int.sub_emod]
  congr 1
  omega
theorem mult_small {p : Int} {b f : Ser} {m : Nat} (hp : Pr p) (hl : Last p b m) (h : Mult p b f) (hf : Bd p f m) : Bd p f 0 := by
  refine Classical.byContradiction fun hn => ?_
  obtain ⟨k, hk⟩ := last_of hn ⟨m, hf⟩
  have := mult_le hp hk hl h
  exact hk.2 (hf k this)
noncomputable def trS (p : Int) (w : List Int) (v : Ser) (n : Nat) : Ser := Ser.sumS (fun j => Ser.sc (v j) (cf (colL p w j))) n
theorem trS_at (p : Int) (w : List Int) (v : Ser) (n i : Nat) : trS p w v n i = smN (fun j => v j * cf (colL p w j) i) n := by
  induction n with
  | zero => rfl
  | succ n ih =>
    show trS p w v n i + v n * cf (colL p w n) i = _
    rw [ih]; rfl
theorem trS_bd {p : Int} {w : List Int} {m : Nat} (hp : Pr p) (hl : Last p (cf w) m) (v : Ser) (n : Nat) : Bd p (trS p w v n) m := by
  induction n with
  | zero => exact fun i _ => by show (0 : Int) % p = 0; simp
  | succ n ih =>
    refine ih.add fun i hi => ?_
    show v n * cf (colL p w n) i % p = 0
    have h0 : cf (colL p w n) i % p = 0 := (rm_mult hp hl (mono_fini p _)).2 i hi
    rw [Int.mul_emod, h0]; simp
theorem pw_scS {p : Int} (hp : Pr p) (c : Int) (f : Ser) : Ser.Eq p (Ser.pw (Ser.sc c f) p.toNat) (Ser.sc c (Ser.pw f p.toNat)) := by
  rw [← Ser.con_mul, pw_mulS, pw_con, Ser.con_mul]
  exact Ser.Eq.sc (fermatZ hp c) (Ser.Eq.refl _ _)
theorem frobS_sc {p : Int} (hp : Pr p) (c : Int) (f : Ser) : Ser.Eq p (frobS p (Ser.sc c f)) (Ser.sc c (frobS p f)) := by
  refine ((pw_scS hp c f).add (Ser.Eq.refl _ _)).trans (Ser.Eq.of ?_)
  funext i
  show c * Ser.pw f p.toNat i + -1 * (c * f i) = c * (Ser.pw f p.toNat i + -1 * f i)
  rw [Int.mul_add, Int.mul_left_comm]
theorem tr_mod {p : Int} {w : List Int} {m : Nat} (hp : Pr p) (hl : Last p (cf w) m) (v : Ser) : ∀ k : Nat,
    Mult p (cf w) (Ser.add (Ser.pw (Ser.sumS (fun j => Ser.sc (v j) (Ser.mono 1 j)) k) p.toNat) (Ser.sc (-1) (trS p w v k))) := by
  intro k
  have h2 := pr_nat hp
  induction k with
  | zero =>
    refine Mult.nought fun i _ => ?_
    show (Ser.pw Ser.zer p.toNat i + -1 * 0) % p = 0
    rw [pw_zer (by omega)]
    show ((0 : Int) + -1 * 0) % p = 0
    simp
  | succ k ih =>
    have e1 : Ser.Eq p (Ser.pw (Ser.sumS (fun j => Ser.sc (v j) (Ser.mono 1 j)) (k + 1)) p.toNat) (Ser.add (Ser.pw (Ser.sumS (fun j => Ser.sc (v j) (Ser.mono 1 j)) k) p.toNat) (Ser.sc (v k) (Ser.mono 1 (p.toNat * k)))) := by
      refine (Ser.frob hp _ _).trans ((Ser.Eq.refl _ _).add ((pw_scS hp _ _).trans (Ser.Eq.of ?_)))
      rw [← pw_mono k, ← Ser.pw_mul, pw_mono, Nat.mul_comm]
    have h1 := (rm_mult hp hl (mono_fini p (p.toNat * k))).1.sc (c := v k)
    refine (ih.add h1).eqR (Ser.Eq.trans (Ser.Eq.of ?_) (e1.add (Ser.Eq.refl p (Ser.sc (-1) (trS p w v (k + 1))))).symm)
    funext i
    show _ + -1 * trS p w v k i + v k * (Ser.mono 1 (p.toNat * k) i + -1 * cf (colL p w k) i) = _ + v k * Ser.mono 1 (p.toNat * k) i + -1 * (trS p w v k i + v k * cf (colL p w k) i)
    rw [Int.mul_add, Int.mul_left_comm (v k) (-1)]
    omega
theorem bd_sum {p : Int} {v : Ser} {n : Nat} (h : Bd p v n) : Ser.Eq p (Ser.sumS (fun j => Ser.sc (v j) (Ser.mono 1 j)) n) v := fun i => by
  rw [show Ser.sumS (fun j => Ser.sc (v j) (Ser.mono 1 j)) n i = if i < n then v i else 0 from sumS_mono v n i]
  by_cases hi : i < n
  · rw [if_pos hi]
  · rw [if_neg hi, h i (by omega)]; simp
theorem tr_pow {p : Int} {w : List Int} {n : Nat} (hp : Pr p) (hl : Last p (cf w) n) {v : Ser} (hv : Bd p v n) : Mult p (cf w) (Ser.add (Ser.pw v p.toNat) (Ser.sc (-1) (trS p w v n))) :=
  (tr_mod hp hl v n).eqR (((bd_sum hv).pw _).add (Ser.Eq.refl _ _))
theorem own_dot {p : Int} {w : List Int} {n i : Nat} (v : Ser) (hi : i < n) : dot (cf ((List.range n).map fun j => cf (colL p w j) i - (if j = i then 1 else 0))) v n = trS p w v n i - v i := by
  unfold dot
  rw [trS_at]
  have e : smN (fun j => cf ((List.range n).map fun j => cf (colL p w j) i - (if j = i then 1 else 0)) j * v j) n = smN (fun j => v j * cf (colL p w j) i + -1 * (if j = i then v j else 0)) n := by
    refine smN_congr fun j hj => ?_
    rw [cf_rangeMap, if_pos hj]
    by_cases h : j = i
    · rw [if_pos h, if_pos h, Int.sub_mul, Int.mul_comm]; omega
    · rw [if_neg h, if_neg h, Int.sub_zero, Int.mul_comm]; omega
  rw [e, smN_add, smN_mul, smN_one (t := fun j => if j = i then v j else 0) hi fun j _ hj => if_neg hj]
  rw [if_pos rfl]; omega
theorem own_null {p : Int} {w : List Int} {n : Nat} (hp : Pr p) (hl : Last p (cf w) n) {v : Ser} (hv : Bd p v n) : (∀ r ∈ ownM p w n, dot (cf r) v n % p = 0) ↔ Mult p (cf w) (frobS p v) := by
  have ht := tr_pow hp hl hv
  constructor
  · intro h
    refine ht.eqR ((Ser.Eq.refl _ _).add (Ser.Eq.sc rfl fun i => ?_))
    by_cases hi : i < n
    · have := h _ (List.mem_map.2 ⟨i, List.mem_range.2 hi, rfl⟩)
      rw [own_dot v hi] at this
      exact Int.emod_eq_emod_iff_emod_sub_eq_zero.2 this
    · rw [trS_bd hp hl v n i (by omega), hv i (by omega)]
  · intro h r hr
    obtain ⟨i, hi, rfl⟩ := List.mem_map.1 hr
    have hi := List.mem_range.1 hi
    rw [own_dot v hi]
    have hs : Mult p (cf w) (Ser.add (trS p w v n) (Ser.sc (-1) v)) := (h.add (ht.sc (c := -1))).eqR (Ser.Eq.of (funext fun i => by
      show Ser.pw v p.toNat i + -1 * v i + -1 * (Ser.pw v p.toNat i + -1 * trS p w v n i) = trS p w v n i + -1 * v i
      omega))
    have hb := mult_small hp hl hs ((trS_bd hp hl v n).add fun i hi => by show -1 * v i % p = 0; rw [Int.mul_emod, hv i hi]; simp) i (Nat.zero_le _)
    rwa [show trS p w v n i - v i = trS p w v n i + -1 * v i from by omega]

/-! Null vectors by their free places. -/
theorem null_zero {p : Int} {n : Nat} {P : List (Nat × List Int)} (h : EchP p n P) {v : Ser} (hv : Bd p v n) (hd : ∀ r ∈ rowsOf P, dot (cf r) v n % p = 0) (hf : ∀ c, c < n → freeB P c = true → v c % p = 0) : Bd p v 0 := by
  intro i _
  by_cases hi : i < n
  · by_cases hfr : freeB P i = true
    · exact hf i hi hfr
    · obtain ⟨a, ha, rfl⟩ : ∃ a ∈ P, a.1 = i := Classical.byContradiction fun hn => hfr (freeB_iff.2 fun a ha e => hn ⟨a, ha, e⟩)
      have h1 := hd a.2 (rowsOf_mem.2 ⟨a, ha, rfl⟩)
      have e : dot (cf a.2) v n % p = smN (fun j => if j = a.1 then v j else 0) n % p := by
        refine smN_mod fun j hj => ?_
        by_cases hj1 : j = a.1
        · subst hj1; rw [if_pos rfl, h.one a ha, Int.one_mul]
        · rw [if_neg hj1]
          by_cases hfj : freeB P j = true
          · rw [Int.mul_emod, hf j hj hfj]; simp
          · obtain ⟨b, hb, rfl⟩ : ∃ b ∈ P, b.1 = j := Classical.byContradiction fun hn => hfj (freeB_iff.2 fun b hb e => hn ⟨b, hb, e⟩)
            rw [h.other b hb a ha (fun e => hj1 e.symm), Int.zero_mul]
      rw [e, smN_one (t := fun j => if j = a.1 then v j else 0) hi fun j _ hj => if_neg hj, if_pos rfl] at h1
      exact h1
  · exact hv i (by omega)
def freeL (P : List (Nat × List Int)) (n : Nat) : List Nat := (List.range n).filter (freeB P)
theorem nulL_freeL (p : Int) (n : Nat) (P : List (Nat × List Int)) : nulL p n P n = (freeL P n).map fun c => nulV p n c P := rfl
theorem freeL_mem {P : List (Nat × List Int)} {n c : Nat} : c ∈ freeL P n ↔ c < n ∧ freeB P c = true := by simp [freeL]

theorem smN_last (t : Nat → Int) (n : Nat) : smN t (n + 1) = smN t n + t n := rfl
theorem smN_skip (t : Nat → Int) (k : Nat) : ∀ n, k ≤ n → smN t (n + 1) = smN (fun i => t (if i < k then i else i + 1)) n + t k := by
  intro n
  induction n with
  | zero => intro h; obtain rfl : k = 0 := by omega
            rfl
  | succ n ih =>
    intro h
    by_cases hk : k = n + 1
    · subst hk
      rw [smN_last t (n + 1)]
      congr 1
      exact smN_congr fun j hj => by rw [if_pos hj]
    · rw [smN_last, ih (by omega), smN_last, if_neg (by omega)]
      omega
theorem smN_sub_mul (t u : Nat → Int) (c : Int) (n : Nat) : smN (fun j => t j - u j * c) n = smN t n - smN u n * c := by
  induction n with
  | zero => show (0 : Int) = 0 - 0 * c; omega
  | succ n ih => rw [smN_last, ih, smN_last, smN_last, Int.add_mul]; omega
theorem depend {p : Int} (hp : Pr p) : ∀ (k m : Nat) (x : Nat → Nat → Int), k < m → ∃ a : Nat → Int, (∃ i, i < m ∧ a i % p ≠ 0) ∧ ∀ j, j < k → smN (fun i => a i * x i j) m % p = 0 := by
  intro k
  induction k with
  | zero => exact fun m x h => ⟨fun _ => 1, ⟨0, h, by rw [pr_one hp]; decide⟩, fun j hj => by omega⟩
  | succ k ih =>
    intro m x h
    obtain ⟨m, rfl⟩ : ∃ m', m = m' + 1 := ⟨m - 1, by omega⟩
    by_cases h0 : ∃ t, t < m + 1 ∧ x t k % p ≠ 0
    · obtain ⟨t, ht, hx⟩ := h0
      obtain ⟨y, y1, y2, hy⟩ := inv_exZ hp hx
      let s : Nat → Nat := fun i => if i < t then i else i + 1
      obtain ⟨a, ⟨i, hi, hai⟩, ha⟩ := ih m (fun i j => x (s i) j - x (s i) k * y * x t j) (by omega)
      let L : Int := smN (fun i => a i * x (s i) k) m * y
      let b : Nat → Int := fun i => if i = t then -L else a (if i < t then i else i - 1)
      have hb : ∀ i, b (s i) = a i := fun i => by
        show (if (if i < t then i else i + 1) = t then -L else a (if (if i < t then i else i + 1) < t then (if i < t then i else i + 1) else (if i < t then i else i + 1) - 1)) = a i
        by_cases h1 : i < t
        · rw [if_pos h1, if_neg (by omega), if_pos h1]
        · rw [if_neg h1, if_neg (by omega), if_neg (by omega), Nat.add_sub_cancel]
      have hbt : b t = -L := if_pos rfl
      refine ⟨b, ⟨s i, ?_, by rw [hb]; exact hai⟩, fun j hj => ?_⟩
      · show (if i < t then i else i + 1) < m + 1
        split <;> omega
      · rw [smN_skip _ t m (by omega)]
        have e1 : smN (fun i => b (s i) * x (s i) j) m = smN (fun i => a i * x (s i) j) m := smN_congr fun i _ => by rw [hb]
        show (smN (fun i => b (s i) * x (s i) j) m + b t * x t j) % p = 0
        rw [e1, hbt]
        have e2 : smN (fun i => a i * (x (s i) j - x (s i) k * y * x t j)) m = smN (fun i => a i * x (s i) j) m - L * x t j := by
          rw [show L * x t j = smN (fun i => a i * x (s i) k) m * (y * x t j) from by show smN _ m * y * x t j = _; rw [Int.mul_assoc], ← smN_sub_mul]
          refine smN_congr fun i _ => ?_
          rw [Int.mul_sub, Int.mul_assoc, Int.mul_assoc]
        by_cases hjk : j = k
        · subst hjk
          show (smN (fun i => a i * x (s i) j) m + -(smN (fun i => a i * x (s i) j) m * y) * x t j) % p = 0
          generalize smN (fun i => a i * x (s i) j) m = S
          rw [show S + -(S * y) * x t j = S * (1 - x t j * y) from by grind]
          rw [Int.mul_emod, Int.sub_emod, hy, pr_one hp]; simp
        · have this : smN (fun i => a i * (x (s i) j - x (s i) k * y * x t j)) m % p = 0 := ha j (by omega)
          rw [e2] at this
          rw [show smN (fun i => a i * x (s i) j) m + -L * x t j = smN (fun i => a i * x (s i) j) m - L * x t j from by rw [Int.neg_mul]; omega]
          exact this
    · obtain ⟨a, h1, h2⟩ := ih (m + 1) x (by omega)
      refine ⟨a, h1, fun j hj => ?_⟩
      by_cases hjk : j = k
      · subst hjk
        have e : ∀ i, i < m + 1 → (a i * x i j) % p = (fun _ => (0 : Int)) i % p := fun i hi => by
          have : x i j % p = 0 := Classical.byContradiction fun hn => h0 ⟨i, hi, hn⟩
          rw [Int.mul_emod, this]; simp
        rw [smN_mod (u := fun _ => 0) e, smN_zero fun _ _ => rfl]; simp
      · exact h2 j (by omega)
end Go.Proofs.YtnkhhndjbanmnaaGreatDoor

/- What plain rows make nought: a vector for each free column, told; how many they are; what a matrix makes of a vector. Mathematics alone. -/
import Derived.Test.YtipdnfdeacdkgaaDoorEchS
namespace Go.Proofs.YtipdnfdeacdkgaaDoor

def smN (t : Nat → Int) : Nat → Int
  | 0 => 0
  | n + 1 => smN t n + t n
theorem smN_congr {t u : Nat → Int} {n : Nat} (h : ∀ j, j < n → t j = u j) : smN t n = smN u n := by
  induction n with
  | zero => rfl
  | succ n ih => show smN t n + t n = smN u n + u n; rw [ih fun j hj => h j (by omega), h n (by omega)]
theorem smN_add (t u : Nat → Int) (n : Nat) : smN (fun j => t j + u j) n = smN t n + smN u n := by
  induction n with
  | zero => rfl
  | succ n ih => show smN _ n + (t n + u n) = smN t n + t n + (smN u n + u n); rw [ih]; omega
theorem smN_mul (c : Int) (t : Nat → Int) (n : Nat) : smN (fun j => c * t j) n = c * smN t n := by
  induction n with
  | zero => simp [smN]
  | succ n ih => show smN _ n + c * t n = c * (smN t n + t n); rw [ih, Int.mul_add]
theorem smN_zero {t : Nat → Int} {n : Nat} (h : ∀ j, j < n → t j = 0) : smN t n = 0 := by
  induction n with
  | zero => rfl
  | succ n ih => show smN t n + t n = 0; rw [ih fun j hj => h j (by omega), h n (by omega)]; rfl
theorem smN_one {t : Nat → Int} {n x : Nat} (hx : x < n) (h : ∀ j, j < n → j ≠ x → t j = 0) : smN t n = t x := by
  induction n with
  | zero => omega
  | succ n ih =>
    show smN t n + t n = t x
    by_cases e : x = n
    · rw [smN_zero fun j hj => h j (by omega) (by omega), e, Int.zero_add]
    · rw [ih (by omega) fun j hj => h j (by omega), h n (by omega) (fun k => e k.symm), Int.add_zero]
theorem smN_two {t : Nat → Int} {n x y : Nat} (hx : x < n) (hy : y < n) (hxy : x ≠ y) (h : ∀ j, j < n → j ≠ x → j ≠ y → t j = 0) : smN t n = t x + t y := by
  have e : smN t n = smN (fun j => (if j = x then t x else 0) + (if j = x then 0 else t j)) n := smN_congr fun j _ => by
    by_cases k : j = x
    · subst k; simp
    · simp [k]
  rw [e, smN_add, smN_one (x := x) hx (fun j _ k => by simp [k]), smN_one (x := y) hy (fun j hj k => by
    by_cases k2 : j = x
    · simp [k2]
    · simp [k2, h j hj k2 k])]
  simp [Ne.symm hxy]
theorem smN_mod {p : Int} {t u : Nat → Int} {n : Nat} (h : ∀ j, j < n → t j % p = u j % p) : smN t n % p = smN u n % p := by
  induction n with
  | zero => rfl
  | succ n ih => show (smN t n + t n) % p = (smN u n + u n) % p; rw [Int.add_emod, ih fun j hj => h j (by omega), h n (by omega), ← Int.add_emod]

/-- What a row makes of a vector. -/
def dot (f g : Ser) (n : Nat) : Int := smN (fun j => f j * g j) n
theorem dot_add (f g h : Ser) (n : Nat) : dot (Ser.add f g) h n = dot f h n + dot g h n := by
  unfold dot
  rw [← smN_add]
  exact smN_congr fun j _ => Int.add_mul _ _ _
theorem dot_sc (c : Int) (f h : Ser) (n : Nat) : dot (Ser.sc c f) h n = c * dot f h n := by
  unfold dot
  rw [← smN_mul]
  exact smN_congr fun j _ => Int.mul_assoc _ _ _
theorem dot_eq {p : Int} {f g : Ser} (e : Ser.Eq p f g) (h : Ser) (n : Nat) : dot f h n % p = dot g h n % p :=
  smN_mod fun j _ => by rw [Int.mul_emod, e j, ← Int.mul_emod]
theorem dot_right {p : Int} {f h k : Ser} {n : Nat} (e : ∀ j, j < n → h j % p = k j % p) : dot f h n % p = dot f k n % p :=
  smN_mod fun j hj => by rw [Int.mul_emod, e j hj, ← Int.mul_emod]
theorem Sp.dot0 {p : Int} {E : List (List Int)} {v : Ser} {n : Nat} (h : ∀ r ∈ E, dot (cf r) v n % p = 0) {f : Ser} (k : Sp p E f) : dot f v n % p = 0 := by
  induction k with
  | row hr => exact h _ hr
  | zer =>
    have e : dot Ser.zer v n = 0 := smN_zero fun j _ => Int.zero_mul _
    rw [e]; rfl
  | add _ _ a b => rw [dot_add, Int.add_emod, a, b]; rfl
  | sc c _ a => rw [dot_sc, Int.mul_emod, a, Int.mul_zero]; rfl
  | eq _ e a => rw [← dot_eq e]; exact a

/-- The vector of a free column. -/
def nulV (p : Int) (n c : Nat) (P : List (Nat × List Int)) : List Int := P.foldl (fun v a => if a.1 = c then v else v.set a.1 ((-(cf a.2 c)) % p)) ((List.replicate n 0).set c 1)
/-- Is a column free? -/
def freeB (P : List (Nat × List Int)) (c : Nat) : Bool := P.all fun a => a.1 != c
theorem freeB_iff {P : List (Nat × List Int)} {c : Nat} : freeB P c = true ↔ ∀ a ∈ P, a.1 ≠ c := by simp [freeB]
def nulL (p : Int) (n : Nat) (P : List (Nat × List Int)) (k : Nat) : List (List Int) := ((List.range k).filter (freeB P)).map fun c => nulV p n c P
theorem nulL_zero (p : Int) (n : Nat) (P : List (Nat × List Int)) : nulL p n P 0 = [] := rfl
theorem nulL_yes {p : Int} {n : Nat} {P : List (Nat × List Int)} {k : Nat} (h : freeB P k = true) : nulL p n P (k + 1) = nulL p n P k ++ [nulV p n k P] := by
  unfold nulL
  rw [List.range_succ, List.filter_append, List.map_append, List.filter_cons_of_pos h]
  rfl
theorem nulL_no {p : Int} {n : Nat} {P : List (Nat × List Int)} {k : Nat} (h : freeB P k = false) : nulL p n P (k + 1) = nulL p n P k := by
  unfold nulL
  rw [List.range_succ, List.filter_append, List.filter_cons_of_neg (by rw [h]; decide)]
  simp
theorem nulV_len (p : Int) (n c : Nat) (P : List (Nat × List Int)) : (nulV p n c P).length = n := by
  unfold nulV
  have : ∀ v : List Int, v.length = n → (P.foldl (fun v a => if a.1 = c then v else v.set a.1 ((-(cf a.2 c)) % p)) v).length = n := by
    induction P with
    | nil => exact fun v h => h
    | cons a P ih =>
      intro v h
      rw [List.foldl_cons]
      refine ih _ ?_
      by_cases e : a.1 = c
      · rw [if_pos e]; exact h
      · rw [if_neg e, List.length_set]; exact h
  exact this _ (by simp)
theorem nulV_snoc {p : Int} {n c : Nat} {P : List (Nat × List Int)} {i : Nat} (hi : i < P.length) : nulV p n c (P.take (i + 1)) = if (P[i]).1 = c then nulV p n c (P.take i) else (nulV p n c (P.take i)).set (P[i]).1 ((-(cf (P[i]).2 c)) % p) := by
  unfold nulV
  rw [List.take_succ_eq_append_getElem hi, List.foldl_append]
  rfl
theorem cf_set_ne {v : List Int} {i j : Nat} (u : Int) (h : i ≠ j) : cf (v.set i u) j = cf v j := by
  unfold cf
  rw [List.getD_eq_getElem?_getD, List.getD_eq_getElem?_getD, List.getElem?_set_ne h]
theorem cf_set_same {v : List Int} {i : Nat} (u : Int) (h : i < v.length) : cf (v.set i u) i = u := by
  unfold cf
  rw [List.getD_eq_getElem?_getD, List.getElem?_set_self h]; rfl
theorem nulFold_out {p : Int} {c : Nat} {P : List (Nat × List Int)} {j : Nat} (h : ∀ a ∈ P, a.1 ≠ c → a.1 ≠ j) : ∀ v : List Int, cf (P.foldl (fun v a => if a.1 = c then v else v.set a.1 ((-(cf a.2 c)) % p)) v) j = cf v j := by
  induction P with
  | nil => exact fun v => rfl
  | cons a P ih =>
    intro v
    rw [List.foldl_cons, ih fun b hb => h b (List.mem_cons_of_mem _ hb)]
    by_cases e : a.1 = c
    · rw [if_pos e]
    · rw [if_neg e, cf_set_ne _ (h a List.mem_cons_self e)]
theorem nulFold_in {p : Int} {n c : Nat} {P : List (Nat × List Int)} (hinc : P.Pairwise fun a b => a.1 < b.1) (hlt : ∀ a ∈ P, a.1 < n) {a : Nat × List Int} (ha : a ∈ P) (hac : a.1 ≠ c) :
    ∀ v : List Int, v.length = n → cf (P.foldl (fun v a => if a.1 = c then v else v.set a.1 ((-(cf a.2 c)) % p)) v) a.1 = (-(cf a.2 c)) % p := by
  induction P with
  | nil => exact (List.not_mem_nil ha).elim
  | cons b P ih =>
    intro v hv
    obtain ⟨h1, h2⟩ := List.pairwise_cons.1 hinc
    rw [List.foldl_cons]
    rcases List.mem_cons.1 ha with rfl | ha
    · rw [if_neg hac, nulFold_out (fun d hd _ e => by have := h1 d hd; omega), cf_set_same _ (by rw [hv]; exact hlt _ List.mem_cons_self)]
    · refine ih h2 (fun d hd => hlt d (List.mem_cons_of_mem _ hd)) ha _ ?_
      by_cases e : b.1 = c
      · rw [if_pos e]; exact hv
      · rw [if_neg e, List.length_set]; exact hv
theorem cf_unit {n c : Nat} (hc : c < n) (j : Nat) : cf ((List.replicate n (0 : Int)).set c 1) j = if j = c then 1 else 0 := by
  by_cases e : j = c
  · subst e; rw [if_pos rfl, cf_set_same _ (by simpa using hc)]
  · rw [if_neg e, cf_set_ne _ (fun k => e k.symm)]
    unfold cf
    rw [List.getD_eq_getElem?_getD, List.getElem?_replicate]
    by_cases k : j < n <;> simp [k]
theorem nulV_c {p : Int} {n c : Nat} {P : List (Nat × List Int)} (hc : c < n) (hf : ∀ a ∈ P, a.1 ≠ c) : cf (nulV p n c P) c = 1 := by
  unfold nulV
  rw [nulFold_out fun a ha _ => hf a ha, cf_unit hc, if_pos rfl]
theorem nulV_in {p : Int} {n c : Nat} {P : List (Nat × List Int)} (h : EchP p n P) (hf : ∀ a ∈ P, a.1 ≠ c) {a : Nat × List Int} (ha : a ∈ P) : cf (nulV p n c P) a.1 = (-(cf a.2 c)) % p :=
  nulFold_in h.inc h.lt ha (hf a ha) _ (by simp)
theorem nulV_out {p : Int} {n c : Nat} {P : List (Nat × List Int)} (hc : c < n) {j : Nat} (hj : j ≠ c) (hl : ∀ a ∈ P, a.1 ≠ j) : cf (nulV p n c P) j = 0 := by
  unfold nulV
  rw [nulFold_out fun a ha _ => hl a ha, cf_unit hc, if_neg hj]
/-- Each plain row makes it nought. -/
theorem nul_row {p : Int} {n c : Nat} {P : List (Nat × List Int)} (h : EchP p n P) (hc : c < n) (hf : ∀ a ∈ P, a.1 ≠ c) : ∀ r ∈ rowsOf P, dot (cf r) (cf (nulV p n c P)) n % p = 0 := by
  intro r hr
  obtain ⟨a, ha, rfl⟩ := rowsOf_mem.1 hr
  unfold dot
  rw [smN_two (x := c) (y := a.1) hc (h.lt a ha) (fun e => hf a ha e.symm)]
  · rw [nulV_c hc hf, nulV_in h hf ha, h.one a ha, Int.mul_one, Int.one_mul, Int.add_emod_emod, Int.add_right_neg]; rfl
  · intro j hj j1 j2
    by_cases k : ∃ b ∈ P, b.1 = j
    · obtain ⟨b, hb, rfl⟩ := k
      rw [h.other b hb a ha (fun e => j2 e.symm), Int.zero_mul]
    · rw [nulV_out hc j1 (fun b hb e => k ⟨b, hb, e⟩), Int.mul_zero]
theorem nulV_rs {p : Int} (hp : 2 ≤ p) {n c : Nat} {P : List (Nat × List Int)} : Rs p (nulV p n c P) := by
  unfold nulV
  have : ∀ v : List Int, Rs p v → Rs p (P.foldl (fun v a => if a.1 = c then v else v.set a.1 ((-(cf a.2 c)) % p)) v) := by
    induction P with
    | nil => exact fun v h => h
    | cons a P ih =>
      intro v h
      rw [List.foldl_cons]
      refine ih _ ?_
      by_cases e : a.1 = c
      · rw [if_pos e]; exact h
      · rw [if_neg e]
        intro x hx
        rcases List.mem_or_eq_of_mem_set hx with hx | rfl
        · exact h x hx
        · exact ⟨Int.emod_nonneg _ (by omega), Int.emod_lt_of_pos _ (by omega)⟩
  refine this _ fun x hx => ?_
  rcases List.mem_or_eq_of_mem_set hx with hx | rfl
  · have := List.eq_of_mem_replicate hx; omega
  · omega
/-- They are as many as columns less plain rows. -/
theorem nulL_len {p : Int} {n : Nat} {P : List (Nat × List Int)} (h : EchP p n P) : (nulL p n P n).length + P.length = n := by
  unfold nulL
  rw [List.length_map]
  have e1 := List.length_eq_countP_add_countP (freeB P) (l := List.range n)
  rw [List.length_range, List.countP_eq_length_filter, List.countP_eq_length_filter] at e1
  have e2 : ((List.range n).filter fun c => decide ¬ freeB P c = true).map (fun c => (c, ())) = P.map (fun a => (a.1, ())) := by
    refine inc_mem_eq _ _ ?_ ?_ (fun a => ?_)
    · rw [List.pairwise_map]
      exact (List.pairwise_lt_range (n := n)).sublist List.filter_sublist
    · rw [List.pairwise_map]; exact h.inc
    · simp only [List.mem_map, List.mem_filter, List.mem_range, decide_eq_true_eq]
      constructor
      · rintro ⟨c, ⟨_, hc⟩, rfl⟩
        refine Classical.byContradiction fun hn => hc (freeB_iff.2 fun b hb e => hn ⟨b, hb, by rw [e]⟩)
      · rintro ⟨b, hb, rfl⟩
        exact ⟨b.1, ⟨h.lt b hb, fun e => freeB_iff.1 e b hb rfl⟩, rfl⟩
  have e3 := congrArg List.length e2
  rw [List.length_map, List.length_map] at e3
  omega
/-- What the matrix makes of it. -/
def appL (p : Int) (M : List (List Int)) (v : List Int) (n : Nat) : List Int := M.map fun r => dot (cf r) (cf v) n % p
theorem appL_len (p : Int) (M : List (List Int)) (v : List Int) (n : Nat) : (appL p M v n).length = M.length := by simp [appL]
theorem appL_rs {p : Int} (hp : 2 ≤ p) (M : List (List Int)) (v : List Int) (n : Nat) : Rs p (appL p M v n) := fun x hx => by
  obtain ⟨r, _, rfl⟩ := List.mem_map.1 hx
  exact ⟨Int.emod_nonneg _ (by omega), Int.emod_lt_of_pos _ (by omega)⟩
end Go.Proofs.YtipdnfdeacdkgaaDoor

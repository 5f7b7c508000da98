/- Polynomials by a small prime, as rows of residues: plain ones, the quotient and the rest, common divisors. Mathematics alone. -/
import Derived.Test.YtipdnfdeacdkgaaDoorSer
namespace Go.Proofs.YtipdnfdeacdkgaaDoor
open Ser (Eq Bd)

/-- The coefficients of a row. -/
def cf (xs : List Int) : Ser := fun i => xs.getD i 0
theorem cf_nil (i : Nat) : cf [] i = 0 := by simp [cf]
theorem cf_cons_zero (x : Int) (xs : List Int) : cf (x :: xs) 0 = x := by simp [cf]
theorem cf_cons_succ (x : Int) (xs : List Int) (i : Nat) : cf (x :: xs) (i + 1) = cf xs i := by simp [cf]
theorem cf_over {xs : List Int} {i : Nat} (h : xs.length ≤ i) : cf xs i = 0 := by
  show xs.getD i 0 = 0
  rw [List.getD_eq_getElem?_getD, List.getElem?_eq_none h]; rfl
theorem cf_at {xs : List Int} {i : Nat} (h : i < xs.length) : cf xs i = xs[i] := by
  show xs.getD i 0 = _
  rw [List.getD_eq_getElem?_getD, List.getElem?_eq_getElem h]; rfl
theorem cf_ext {xs ys : List Int} (hl : xs.length = ys.length) (h : ∀ i, cf xs i = cf ys i) : xs = ys := by
  apply List.ext_getElem hl
  intro i h1 h2
  rw [← cf_at h1, ← cf_at h2, h i]
theorem cf_take {xs : List Int} (k i : Nat) : cf (xs.take k) i = if i < k then cf xs i else 0 := by
  show (xs.take k).getD i 0 = _
  rw [List.getD_eq_getElem?_getD]
  by_cases h : i < k
  · rw [if_pos h, List.getElem?_take_of_lt h]; rfl
  · rw [if_neg h, List.getElem?_eq_none (by rw [List.length_take]; omega)]; rfl
theorem cf_append (xs ys : List Int) (i : Nat) : cf (xs ++ ys) i = if i < xs.length then cf xs i else cf ys (i - xs.length) := by
  show (xs ++ ys).getD i 0 = _
  rw [List.getD_eq_getElem?_getD]
  by_cases h : i < xs.length
  · rw [if_pos h, List.getElem?_append_left h]; rfl
  · rw [if_neg h, List.getElem?_append_right (by omega)]; rfl
theorem cf_set {xs : List Int} (k : Nat) (u : Int) (hk : k < xs.length) (i : Nat) : cf (xs.set k u) i = if i = k then u else cf xs i := by
  show (xs.set k u).getD i 0 = _
  rw [List.getD_eq_getElem?_getD, List.getElem?_set]
  by_cases h : i = k
  · subst h; rw [if_pos rfl, if_pos hk, if_pos rfl]; rfl
  · rw [if_neg (fun e => h e.symm), if_neg h]; rfl
theorem cf_map (f : Int → Int) (h0 : f 0 = 0) (xs : List Int) (i : Nat) : cf (xs.map f) i = f (cf xs i) := by
  show (xs.map f).getD i 0 = f (xs.getD i 0)
  rw [List.getD_eq_getElem?_getD, List.getD_eq_getElem?_getD, List.getElem?_map]
  cases xs[i]? with
  | none => simp [h0]
  | some x => rfl
theorem cf_replicate (n i : Nat) : cf (List.replicate n 0) i = 0 := by
  show (List.replicate n (0 : Int)).getD i 0 = 0
  rw [List.getD_eq_getElem?_getD]
  by_cases h : i < n <;> simp [h]

/-- Residues. -/
def Rs (p : Int) (xs : List Int) : Prop := ∀ x ∈ xs, 0 ≤ x ∧ x < p
theorem Rs.nil (p : Int) : Rs p [] := fun _ h => by cases h
theorem Rs.at {p : Int} {xs : List Int} (h : Rs p xs) (hp : 1 ≤ p) (i : Nat) : 0 ≤ cf xs i ∧ cf xs i < p := by
  by_cases hi : i < xs.length
  · rw [cf_at hi]; exact h _ (List.getElem_mem hi)
  · rw [cf_over (by omega)]; omega
theorem Rs.of_at {p : Int} {xs : List Int} (h : ∀ i, i < xs.length → 0 ≤ cf xs i ∧ cf xs i < p) : Rs p xs := by
  intro x hx
  obtain ⟨i, hi, rfl⟩ := List.getElem_of_mem hx
  rw [← cf_at hi]; exact h i hi
theorem Rs.snoc {p : Int} {xs : List Int} (h : Rs p xs) {x : Int} (hx : 0 ≤ x ∧ x < p) : Rs p (xs ++ [x]) := by
  intro y hy
  rcases List.mem_append.1 hy with hy | hy
  · exact h y hy
  · simp at hy; subst hy; exact hx
theorem Rs.take {p : Int} {xs : List Int} (h : Rs p xs) (k : Nat) : Rs p (xs.take k) := fun y hy => h y (List.mem_of_mem_take hy)
theorem Rs.set {p : Int} {xs : List Int} (h : Rs p xs) (k : Nat) {u : Int} (hu : 0 ≤ u ∧ u < p) : Rs p (xs.set k u) := by
  intro y hy
  rcases List.mem_or_eq_of_mem_set hy with hy | rfl
  · exact h y hy
  · exact hu
theorem Rs.append {p : Int} {xs ys : List Int} (h : Rs p xs) (k : Rs p ys) : Rs p (xs ++ ys) := fun y hy => by
  rcases List.mem_append.1 hy with hy | hy
  · exact h y hy
  · exact k y hy
theorem Rs.zeros {p : Int} (n : Nat) (hp : 1 ≤ p) : Rs p (List.replicate n 0) := fun y hy => by rw [List.eq_of_mem_replicate hy]; omega
theorem Rs.emod {p : Int} {xs : List Int} (h : Rs p xs) (hp : 1 ≤ p) (i : Nat) : cf xs i % p = cf xs i := Int.emod_eq_of_lt (h.at hp i).1 (h.at hp i).2

/-- Plain: residues, the last one not 0. -/
def Pln (p : Int) (xs : List Int) : Prop := Rs p xs ∧ (xs = [] ∨ cf xs (xs.length - 1) ≠ 0)
theorem Pln.nil (p : Int) : Pln p [] := ⟨Rs.nil p, .inl rfl⟩
theorem Pln.top {p : Int} {xs : List Int} (h : Pln p xs) (hn : xs ≠ []) (hp : 1 ≤ p) : cf xs (xs.length - 1) % p ≠ 0 := by
  rw [h.1.emod hp]
  exact h.2.resolve_left hn
theorem bd_len (p : Int) (xs : List Int) : Bd p (cf xs) xs.length := fun i hi => by rw [cf_over hi]; simp
/-- A plain row is told by its coefficients. -/
theorem Pln.len_le {p : Int} {xs : List Int} (h : Pln p xs) (hp : 1 ≤ p) {N : Nat} (hb : Bd p (cf xs) N) : xs.length ≤ N := by
  rcases Nat.lt_or_ge N xs.length with hlt | hge
  · have hne : xs ≠ [] := by intro e; subst e; simp at hlt
    exact absurd (hb (xs.length - 1) (by omega)) (h.top hne hp)
  · exact hge
theorem Pln.uniq {p : Int} {xs ys : List Int} (h : Pln p xs) (k : Pln p ys) (hp : 1 ≤ p) (e : Eq p (cf xs) (cf ys)) : xs = ys := by
  have h1 := h.len_le hp ((bd_len p ys).eq e.symm)
  have h2 := k.len_le hp ((bd_len p xs).eq e)
  refine cf_ext (by omega) fun i => ?_
  rw [← h.1.emod hp i, ← k.1.emod hp i]
  exact e i

/-- A row is the plain one of a series. -/
def Pol (p : Int) (xs : List Int) (f : Ser) : Prop := Pln p xs ∧ Eq p (cf xs) f
theorem Pol.uniq {p : Int} {xs ys : List Int} {f g : Ser} (h : Pol p xs f) (k : Pol p ys g) (hp : 1 ≤ p) (e : Eq p f g) : xs = ys :=
  h.1.uniq k.1 hp (h.2.trans (e.trans k.2.symm))
theorem Pol.eq {p : Int} {xs : List Int} {f g : Ser} (h : Pol p xs f) (e : Eq p f g) : Pol p xs g := ⟨h.1, h.2.trans e⟩
theorem Pol.self {p : Int} {xs : List Int} (h : Pln p xs) : Pol p xs (cf xs) := ⟨h, Ser.Eq.refl p _⟩
theorem Pol.nought {p : Int} {xs : List Int} {f : Ser} (h : Pol p xs f) (hp : 1 ≤ p) : xs = [] ↔ Bd p f 0 := by
  constructor
  · rintro rfl
    exact (bd_len p []).eq h.2
  · intro hb
    have := h.1.len_le hp (hb.eq h.2.symm)
    exact List.eq_nil_of_length_eq_zero (by omega)

/-- Cutting noughts off the end: at the first place from behind that isn't 0. -/
theorem pln_cut {p : Int} {xs : List Int} (h : Rs p xs) (k : Nat) (hk : k ≤ xs.length) (hz : ∀ i, k ≤ i → cf xs i = 0) (hl : k = 0 ∨ cf xs (k - 1) ≠ 0) :
    Pln p (xs.take k) ∧ ∀ i, cf (xs.take k) i = cf xs i := by
  have e : ∀ i, cf (xs.take k) i = cf xs i := by
    intro i
    rw [cf_take]
    by_cases hi : i < k
    · rw [if_pos hi]
    · rw [if_neg hi, hz i (by omega)]
  refine ⟨⟨h.take k, ?_⟩, e⟩
  rcases hl with rfl | hl
  · left; simp
  · right
    rw [List.length_take, Nat.min_eq_left hk, e]
    exact hl

/-- No divisors of nought. -/
theorem mul_nz {p a b : Int} (h : Pr p) (ha : a % p ≠ 0) (hb : b % p ≠ 0) : a * b % p ≠ 0 := by
  intro e
  have h1 := finv_spec h ha
  have h2 : finv a p * (a * b) % p = b % p := by
    rw [← Int.mul_assoc, Int.mul_comm (finv a p) a, Int.mul_emod, h1.2.2, Int.one_mul, Int.emod_emod_of_dvd _ (Int.dvd_refl p)]
  rw [Int.mul_emod, e, Int.mul_zero] at h2
  simp at h2
  exact hb h2.symm
/-- A series that ends, and isn't nought, has a last place. -/
theorem bd_down {p : Int} {f : Ser} (h : ∀ k, Bd p f (k + 1) → f k % p = 0) : ∀ N, Bd p f N → Bd p f 0 := by
  intro N
  induction N with
  | zero => exact id
  | succ N ih =>
    intro hb
    refine ih fun i hi => ?_
    rcases Nat.lt_or_ge N i with h1 | h1
    · exact hb i h1
    · obtain rfl : i = N := by omega
      exact h i hb
/-- What is a multiple of a row, and shorter than it, is nought, and so is the other factor. -/
theorem mul_short {p : Int} {f g : Ser} {N m : Nat} (h : Pr p) (hf : Bd p f N) (hg : Bd p g (m + 1)) (ht : g m % p ≠ 0) (hs : Bd p (Ser.mul f g) m) : Bd p f 0 := by
  refine bd_down (fun k hk => ?_) N hf
  rcases Classical.em (f k % p = 0) with h0 | h0
  · exact h0
  · have := (Ser.mul_top hk hg).1
    rw [hs (k + m) (by omega)] at this
    exact absurd this.symm (mul_nz h h0 ht)
theorem eq_of_sub {p : Int} {f g : Ser} (h : Bd p (Ser.sub f g) 0) : Eq p f g := fun i => by
  have := h i (Nat.zero_le _)
  exact Int.emod_eq_emod_iff_emod_sub_eq_zero.2 this
theorem sub_of_eq {p : Int} {f g : Ser} (h : Eq p f g) : Bd p (Ser.sub f g) 0 := fun i _ => Int.emod_eq_emod_iff_emod_sub_eq_zero.1 (h i)

/-- a is q times b, and r; r is shorter than b, whose last place is m. -/
def IsDiv (p : Int) (m : Nat) (a b q r : Ser) : Prop := Eq p a (Ser.add (Ser.mul q b) r) ∧ Bd p r m
theorem IsDiv.uniq {p : Int} {m N : Nat} {a b q r q' r' : Ser} (h : Pr p) (hb : Bd p b (m + 1)) (ht : b m % p ≠ 0) (hq : Bd p q N) (hq' : Bd p q' N)
    (d : IsDiv p m a b q r) (d' : IsDiv p m a b q' r') : Eq p q q' ∧ Eq p r r' := by
  have e : Eq p (Ser.add (Ser.mul q b) r) (Ser.add (Ser.mul q' b) r') := d.1.symm.trans d'.1
  have hm : Ser.mul (Ser.sub q q') b = Ser.sub (Ser.mul q b) (Ser.mul q' b) := by
    have e1 : Ser.sub q q' = Ser.add q (Ser.sc (-1) q') := by funext i; show q i - q' i = q i + -1 * q' i; omega
    rw [e1, Ser.add_mul, Ser.sc_mul]
    funext i
    show Ser.mul q b i + -1 * Ser.mul q' b i = Ser.mul q b i - Ser.mul q' b i
    omega
  have hs : Bd p (Ser.mul (Ser.sub q q') b) m := by
    rw [hm]
    intro i hi
    have h1 := e i
    have h2 := d.2 i hi
    have h3 := d'.2 i hi
    show (Ser.mul q b i - Ser.mul q' b i) % p = 0
    have h4 : (Ser.mul q b i + r i) % p = (Ser.mul q' b i + r' i) % p := h1
    rw [Int.add_emod, h2, Int.add_emod (Ser.mul q' b i), h3] at h4
    simp at h4
    exact Int.emod_eq_emod_iff_emod_sub_eq_zero.1 h4
  have hz := mul_short h (hq.sub hq') hb ht hs
  have hqq := eq_of_sub hz
  refine ⟨hqq, ?_⟩
  intro i
  have h1 := e i
  have h2 := (hqq.mulL b) i
  have h4 : (Ser.mul q b i + r i) % p = (Ser.mul q' b i + r' i) % p := h1
  have h5 := Int.emod_eq_emod_iff_emod_sub_eq_zero.1 h4
  have h6 := Int.emod_eq_emod_iff_emod_sub_eq_zero.1 h2
  refine Int.emod_eq_emod_iff_emod_sub_eq_zero.2 ?_
  have : r i - r' i = (Ser.mul q b i + r i - (Ser.mul q' b i + r' i)) - (Ser.mul q b i - Ser.mul q' b i) := by omega
  rw [this, Int.sub_emod, h5, h6]
  simp
end Go.Proofs.YtipdnfdeacdkgaaDoor

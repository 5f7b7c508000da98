/- Plain mathematics for the slow answers: digits in base 2^32. No program text. -/
import Derived.Test.YtmajmpgcdpbnfaaDoorNatMath
namespace Go.Proofs.YtmajmpgcdpbnfaaDoor

/-- The number that digits in base 2^32 are, the lowest first. -/
def val32 : List Nat → Nat
  | [] => 0
  | x :: xs => x + 4294967296 * val32 xs
def Fit32 (xs : List Nat) : Prop := ∀ x ∈ xs, x < 4294967296
theorem Fit32.fit {xs : List Nat} (h : Fit32 xs) : Fit xs := fun x hx => by have := h x hx; omega
theorem fit32_nil : Fit32 [] := fun _ h => by cases h
theorem fit32_cons {x : Nat} {xs : List Nat} (hx : x < 4294967296) (h : Fit32 xs) : Fit32 (x :: xs) := by
  intro y hy
  rcases List.mem_cons.1 hy with rfl | hy
  · exact hx
  · exact h _ hy
theorem fit32_head {x : Nat} {xs : List Nat} (h : Fit32 (x :: xs)) : x < 4294967296 := h x (by simp)
theorem fit32_tail {x : Nat} {xs : List Nat} (h : Fit32 (x :: xs)) : Fit32 xs := fun y hy => h y (by simp [hy])
theorem fit32_append {xs ys : List Nat} (h : Fit32 xs) (k : Fit32 ys) : Fit32 (xs ++ ys) := fun y hy => by
  rcases List.mem_append.1 hy with hy | hy
  · exact h _ hy
  · exact k _ hy
theorem fit32_take {xs : List Nat} (h : Fit32 xs) (k : Nat) : Fit32 (xs.take k) := fun y hy => h y (List.mem_of_mem_take hy)
theorem fit32_drop {xs : List Nat} (h : Fit32 xs) (k : Nat) : Fit32 (xs.drop k) := fun y hy => h y (List.mem_of_mem_drop hy)
theorem fit32_getD {xs : List Nat} (h : Fit32 xs) (j : Nat) : xs.getD j 0 < 4294967296 := by
  rw [List.getD_eq_getElem?_getD]
  by_cases hj : j < xs.length
  · rw [List.getElem?_eq_getElem hj]; exact h _ (List.getElem_mem hj)
  · rw [List.getElem?_eq_none (by omega)]; decide
theorem val32_nil : val32 [] = 0 := rfl
theorem val32_cons (x : Nat) (xs : List Nat) : val32 (x :: xs) = x + 4294967296 * val32 xs := rfl
theorem val32_append (xs ys : List Nat) : val32 (xs ++ ys) = val32 xs + 4294967296 ^ xs.length * val32 ys := by
  induction xs with
  | nil => simp [val32]
  | cons x xs ih =>
    simp only [List.cons_append, val32_cons, ih, List.length_cons, Nat.pow_succ]
    grind
theorem val32_lt {xs : List Nat} (h : Fit32 xs) : val32 xs < 4294967296 ^ xs.length := by
  induction xs with
  | nil => simp [val32]
  | cons x xs ih =>
    have h1 := ih (fit32_tail h)
    have h2 := fit32_head h
    rw [val32_cons, List.length_cons, Nat.pow_succ, Nat.mul_comm _ 4294967296]
    have : 4294967296 * (val32 xs + 1) ≤ 4294967296 * 4294967296 ^ xs.length := Nat.mul_le_mul_left _ h1
    omega

/-- The list without noughts at the end. -/
def tz : List Nat → List Nat
  | [] => []
  | x :: xs => match tz xs with
    | [] => if x = 0 then [] else [x]
    | y :: ys => x :: y :: ys
theorem tz_cons (x : Nat) (xs : List Nat) : tz (x :: xs) = if tz xs = [] then (if x = 0 then [] else [x]) else x :: tz xs := by
  rw [tz]
  split
  · rename_i h; rw [if_pos h]
  · rename_i y ys h; rw [h, if_neg (by simp)]
theorem val_tz (xs : List Nat) : val (tz xs) = val xs := by
  induction xs with
  | nil => rfl
  | cons x xs ih =>
    rw [tz_cons]
    by_cases h : tz xs = []
    · rw [if_pos h]
      rw [h] at ih
      rw [val_cons, ← ih]
      by_cases hx : x = 0
      · subst hx; simp [val]
      · rw [if_neg hx]; simp [val]
    · rw [if_neg h, val_cons, val_cons, ih]
theorem val32_tz (xs : List Nat) : val32 (tz xs) = val32 xs := by
  induction xs with
  | nil => rfl
  | cons x xs ih =>
    rw [tz_cons]
    by_cases h : tz xs = []
    · rw [if_pos h]
      rw [h] at ih
      rw [val32_cons, ← ih]
      by_cases hx : x = 0
      · subst hx; simp [val32]
      · rw [if_neg hx]; simp [val32]
    · rw [if_neg h, val32_cons, val32_cons, ih]
theorem tz_mem {xs : List Nat} : ∀ x ∈ tz xs, x ∈ xs := by
  induction xs with
  | nil => intro x hx; cases hx
  | cons y ys ih =>
    intro x hx
    rw [tz_cons] at hx
    split at hx
    · split at hx
      · cases hx
      · simp at hx; simp [hx]
    · rcases List.mem_cons.1 hx with rfl | hx
      · simp
      · exact List.mem_cons_of_mem _ (ih x hx)
theorem fit_tz {xs : List Nat} (h : Fit xs) : Fit (tz xs) := fun x hx => h x (tz_mem x hx)
theorem fit32_tz {xs : List Nat} (h : Fit32 xs) : Fit32 (tz xs) := fun x hx => h x (tz_mem x hx)
theorem tz_last (xs : List Nat) (hne : tz xs ≠ []) : (tz xs).getLast hne ≠ 0 := by
  induction xs with
  | nil => exact absurd rfl hne
  | cons x xs ih =>
    by_cases h : tz xs = []
    · by_cases hx : x = 0
      · exact absurd (by rw [tz_cons, if_pos h, if_pos hx]) hne
      · have e : tz (x :: xs) = [x] := by rw [tz_cons, if_pos h, if_neg hx]
        simp only [e]
        simpa using hx
    · have e : tz (x :: xs) = x :: tz xs := by rw [tz_cons, if_neg h]
      simp only [e]
      rw [List.getLast_cons h]
      exact ih h
theorem nrm_val_eq_tz {xs : List Nat} (h : Fit xs) : nrm (val xs) = tz xs := by
  rw [← val_tz xs]
  exact nrm_val_of_last (fit_tz h) (fun hne => tz_last xs hne)
theorem tz_idem {xs : List Nat} (h : Fit xs) : tz (tz xs) = tz xs := by rw [← nrm_val_eq_tz (fit_tz h), val_tz, nrm_val_eq_tz h]

/-- The digits of a number in base 2^32, none at the end that is nought. -/
def d32F : Nat → Nat → List Nat
  | 0, _ => []
  | f + 1, v => if v = 0 then [] else v % 4294967296 :: d32F f (v / 4294967296)
def d32 (v : Nat) : List Nat := d32F v v
theorem d32F_eq (f g v : Nat) (hf : v ≤ f) (hg : v ≤ g) : d32F f v = d32F g v := by
  induction f generalizing g v with
  | zero =>
    have : v = 0 := by omega
    subst this
    cases g <;> simp [d32F]
  | succ f ih =>
    cases g with
    | zero =>
      have : v = 0 := by omega
      subst this
      simp [d32F]
    | succ g =>
      by_cases h : v = 0
      · simp [d32F, h]
      · simp only [d32F, h, if_false]
        rw [ih g _ (by omega) (by omega)]
theorem d32_zero : d32 0 = [] := rfl
theorem d32_pos (v : Nat) (h : v ≠ 0) : d32 v = v % 4294967296 :: d32 (v / 4294967296) := by
  obtain ⟨u, rfl⟩ : ∃ u, v = u + 1 := ⟨v - 1, by omega⟩
  show d32F (u + 1) (u + 1) = _
  rw [d32F, if_neg h]
  unfold d32
  rw [d32F_eq u ((u + 1) / 4294967296) _ (by omega) (by omega)]
theorem val32_d32 (v : Nat) : val32 (d32 v) = v := by
  induction v using Nat.strongRecOn with
  | ind v ih =>
    by_cases h : v = 0
    · subst h; rfl
    · rw [d32_pos v h, val32_cons, ih (v / 4294967296) (by omega)]
      omega
theorem fit32_d32 (v : Nat) : Fit32 (d32 v) := by
  induction v using Nat.strongRecOn with
  | ind v ih =>
    by_cases h : v = 0
    · subst h; exact fit32_nil
    · rw [d32_pos v h]
      exact fit32_cons (by omega) (ih _ (by omega))
theorem tz_eq_d32 {xs : List Nat} (h : Fit32 xs) : tz xs = d32 (val32 xs) := by
  induction xs with
  | nil => rfl
  | cons x xs ih =>
    have ih' := ih (fit32_tail h)
    have hx := fit32_head h
    rw [tz_cons, val32_cons]
    by_cases h0 : tz xs = []
    · have hv : val32 xs = 0 := by rw [← val32_tz, h0]; rfl
      rw [if_pos h0, hv]
      by_cases hx0 : x = 0
      · subst hx0; rfl
      · rw [if_neg hx0, Nat.mul_zero, Nat.add_zero, d32_pos x hx0]
        rw [Nat.mod_eq_of_lt hx, Nat.div_eq_of_lt hx]
        rfl
    · have hv : val32 xs ≠ 0 := by
        intro e
        rw [e] at ih'
        exact h0 ih'
      rw [if_neg h0, d32_pos _ (by omega), ih']
      congr 1
      · omega
      · congr 1; omega

/-- The halves of limbs, one behind the other. -/
def halvesOf : List Nat → List Nat
  | [] => []
  | x :: xs => x % 4294967296 :: x / 4294967296 :: halvesOf xs
theorem halvesOf_length (xs : List Nat) : (halvesOf xs).length = 2 * xs.length := by
  induction xs with
  | nil => rfl
  | cons x xs ih => simp only [halvesOf, List.length_cons, ih]; omega
theorem halvesOf_append (xs ys : List Nat) : halvesOf (xs ++ ys) = halvesOf xs ++ halvesOf ys := by
  induction xs with
  | nil => rfl
  | cons x xs ih => simp [halvesOf, ih]
theorem fit32_halves {xs : List Nat} (h : Fit xs) : Fit32 (halvesOf xs) := by
  induction xs with
  | nil => exact fit32_nil
  | cons x xs ih =>
    have hx := fit_head h
    exact fit32_cons (by omega) (fit32_cons (by omega) (ih (fit_tail h)))
theorem val32_halves (xs : List Nat) : val32 (halvesOf xs) = val xs := by
  induction xs with
  | nil => rfl
  | cons x xs ih => rw [halvesOf, val32_cons, val32_cons, ih, val_cons]; omega
theorem halves_snoc (xs : List Nat) (k : Nat) (hk : k < xs.length) : halvesOf (xs.take (k + 1)) = halvesOf (xs.take k) ++ [xs[k] % 4294967296, xs[k] / 4294967296] := by
  rw [List.take_succ_eq_append_getElem hk, halvesOf_append]
  rfl

/-- Limbs put together of digits, two by two. -/
def pair64 : List Nat → List Nat
  | [] => []
  | [x] => [x]
  | x :: y :: r => (x + y * 4294967296) :: pair64 r
theorem val_pair64 : ∀ (ds : List Nat), val (pair64 ds) = val32 ds
  | [] => rfl
  | [x] => by simp [pair64, val, val32]
  | x :: y :: r => by rw [pair64, val_cons, val_pair64 r, val32_cons, val32_cons]; omega
theorem fit_pair64 : ∀ (ds : List Nat), Fit32 ds → Fit (pair64 ds)
  | [], _ => fit_nil
  | [x], h => fit_cons (by have := fit32_head h; omega) fit_nil
  | x :: y :: r, h => fit_cons (by have := fit32_head h; have := fit32_head (fit32_tail h); omega) (fit_pair64 r (fit32_tail (fit32_tail h)))
theorem pair64_length : ∀ (ds : List Nat), (pair64 ds).length = (ds.length + 1) / 2
  | [] => rfl
  | [x] => by simp [pair64]
  | x :: y :: r => by rw [pair64, List.length_cons, pair64_length r]; simp only [List.length_cons]; omega
theorem pair64_two (a b : List Nat) (h : a.length % 2 = 0) : pair64 (a ++ b) = pair64 a ++ pair64 b := by
  match a, h with
  | [], _ => rfl
  | [x], h => simp at h
  | x :: y :: r, h =>
    simp only [List.cons_append, pair64]
    rw [pair64_two r b (by simp only [List.length_cons] at h; omega)]
/-- The round of limbs: two digits more, or the last one. -/
theorem pair64_snoc (ds : List Nat) (k : Nat) (hk : 2 * k + 1 < ds.length) : pair64 (ds.take (2 * k + 2)) = pair64 (ds.take (2 * k)) ++ [ds[2 * k] + ds[2 * k + 1] * 4294967296] := by
  rw [List.take_succ_eq_append_getElem (by omega), List.take_succ_eq_append_getElem (by omega), List.append_assoc, pair64_two _ _ (by rw [List.length_take]; omega)]
  rfl
theorem pair64_snoc1 (ds : List Nat) (k : Nat) (hk : 2 * k + 1 = ds.length) : pair64 (ds.take (2 * k + 1)) = pair64 (ds.take (2 * k)) ++ [ds[2 * k]] := by
  rw [List.take_succ_eq_append_getElem (by omega), pair64_two _ _ (by rw [List.length_take]; omega)]
  rfl
end Go.Proofs.YtmajmpgcdpbnfaaDoor

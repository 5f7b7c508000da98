/- Plain mathematics on lists of limbs: the value of a list of base-2^64 digits, and the plain list of digits of a number. No program text. -/
import Derived.WalkKit
namespace Go.Proofs.YtmajmpgcdpbnfaaDoor
/-- The base. -/
abbrev Wd : Nat := 18446744073709551616

/-- The number that limbs are, the lowest first. -/
def val : List Nat → Nat
  | [] => 0
  | x :: xs => x + 18446744073709551616 * val xs

/-- All limbs fit. -/
def Fit (xs : List Nat) : Prop := ∀ x ∈ xs, x < 18446744073709551616

/-- The plain limbs of a number (no noughts at the end), by fuel. -/
def nrmF : Nat → Nat → List Nat
  | 0, _ => []
  | f + 1, v => if v = 0 then [] else v % 18446744073709551616 :: nrmF f (v / 18446744073709551616)
def nrm (v : Nat) : List Nat := nrmF v v

theorem nrmF_eq (f g v : Nat) (hf : v ≤ f) (hg : v ≤ g) : nrmF f v = nrmF g v := by
  induction f generalizing g v with
  | zero =>
    have : v = 0 := by omega
    subst this
    cases g <;> simp [nrmF]
  | succ f ih =>
    cases g with
    | zero =>
      have : v = 0 := by omega
      subst this
      simp [nrmF]
    | succ g =>
      by_cases h : v = 0
      · simp [nrmF, h]
      · simp only [nrmF, h, if_false]
        rw [ih g _ (by omega) (by omega)]

theorem nrm_zero : nrm 0 = [] := rfl
theorem nrm_pos (v : Nat) (h : v ≠ 0) : nrm v = v % 18446744073709551616 :: nrm (v / 18446744073709551616) := by
  obtain ⟨u, rfl⟩ : ∃ u, v = u + 1 := ⟨v - 1, by omega⟩
  show nrmF (u + 1) (u + 1) = _
  rw [nrmF, if_neg h]
  unfold nrm
  rw [nrmF_eq u ((u + 1) / 18446744073709551616) _ (by omega) (by omega)]

theorem fit_nil : Fit [] := fun _ h => by cases h
theorem fit_cons {x : Nat} {xs : List Nat} (hx : x < 18446744073709551616) (h : Fit xs) : Fit (x :: xs) := by
  intro y hy
  rcases List.mem_cons.1 hy with rfl | hy
  · exact hx
  · exact h _ hy
theorem fit_head {x : Nat} {xs : List Nat} (h : Fit (x :: xs)) : x < 18446744073709551616 := h x (by simp)
theorem fit_tail {x : Nat} {xs : List Nat} (h : Fit (x :: xs)) : Fit xs := fun y hy => h y (by simp [hy])
theorem fit_take {xs : List Nat} (h : Fit xs) (k : Nat) : Fit (xs.take k) := fun y hy => h y (List.mem_of_mem_take hy)
theorem fit_drop {xs : List Nat} (h : Fit xs) (k : Nat) : Fit (xs.drop k) := fun y hy => h y (List.mem_of_mem_drop hy)
theorem fit_append {xs ys : List Nat} (h : Fit xs) (k : Fit ys) : Fit (xs ++ ys) := fun y hy => by
  rcases List.mem_append.1 hy with hy | hy
  · exact h _ hy
  · exact k _ hy
theorem fit_get {xs : List Nat} (h : Fit xs) (j : Nat) (hj : j < xs.length) : xs[j] < 18446744073709551616 := h _ (List.getElem_mem hj)
theorem fit_getD {xs : List Nat} (h : Fit xs) (j : Nat) : xs.getD j 0 < 18446744073709551616 := by
  rw [List.getD_eq_getElem?_getD]
  by_cases hj : j < xs.length
  · rw [List.getElem?_eq_getElem hj]; exact fit_get h j hj
  · rw [List.getElem?_eq_none (by omega)]; decide

theorem val_nil : val [] = 0 := rfl
theorem val_cons (x : Nat) (xs : List Nat) : val (x :: xs) = x + 18446744073709551616 * val xs := rfl
theorem val_append (xs ys : List Nat) : val (xs ++ ys) = val xs + 18446744073709551616 ^ xs.length * val ys := by
  induction xs with
  | nil => simp [val]
  | cons x xs ih =>
    simp only [List.cons_append, val_cons, ih, List.length_cons, Nat.pow_succ]
    rw [Nat.mul_add, Nat.add_assoc, ← Nat.mul_assoc, Nat.mul_comm 18446744073709551616 (18446744073709551616 ^ xs.length)]
theorem val_lt {xs : List Nat} (h : Fit xs) : val xs < 18446744073709551616 ^ xs.length := by
  induction xs with
  | nil => simp [val]
  | cons x xs ih =>
    have h1 := ih (fit_tail h)
    have h2 := fit_head h
    rw [val_cons, List.length_cons, Nat.pow_succ, Nat.mul_comm _ 18446744073709551616]
    have : 18446744073709551616 * (val xs + 1) ≤ 18446744073709551616 * 18446744073709551616 ^ xs.length := Nat.mul_le_mul_left _ h1
    omega
theorem val_nrm (v : Nat) : val (nrm v) = v := by
  induction v using Nat.strongRecOn with
  | ind v ih =>
    by_cases h : v = 0
    · subst h; rfl
    · rw [nrm_pos v h, val_cons, ih (v / 18446744073709551616) (by omega)]
      omega
theorem fit_nrm (v : Nat) : Fit (nrm v) := by
  induction v using Nat.strongRecOn with
  | ind v ih =>
    by_cases h : v = 0
    · subst h; exact fit_nil
    · rw [nrm_pos v h]
      exact fit_cons (by omega) (ih _ (by omega))
theorem nrm_inj {u v : Nat} (h : nrm u = nrm v) : u = v := by rw [← val_nrm u, ← val_nrm v, h]
theorem nrm_nil_iff (v : Nat) : nrm v = [] ↔ v = 0 := ⟨fun h => by rw [← val_nrm v, h]; rfl, fun h => by rw [h]; rfl⟩

/-- A list whose last limb isn't nought is the plain list of its value. -/
theorem nrm_val_of_last {xs : List Nat} (h : Fit xs) (hl : ∀ (hne : xs ≠ []), xs.getLast hne ≠ 0) : nrm (val xs) = xs := by
  induction xs with
  | nil => rfl
  | cons x xs ih =>
    have hx := fit_head h
    have ih' : nrm (val xs) = xs := ih (fit_tail h) (fun hne => by
      have := hl (by simp)
      rwa [List.getLast_cons hne] at this)
    have hpos : val (x :: xs) ≠ 0 := by
      intro h0
      rw [val_cons] at h0
      have hx0 : x = 0 := by omega
      have hv0 : val xs = 0 := by omega
      rw [hv0] at ih'
      have hxs : xs = [] := ih'.symm
      subst hxs
      exact hl (by simp) (by simpa using hx0)
    rw [nrm_pos _ hpos, val_cons]
    have e1 : (x + 18446744073709551616 * val xs) % 18446744073709551616 = x := by omega
    have e2 : (x + 18446744073709551616 * val xs) / 18446744073709551616 = val xs := by omega
    rw [e1, e2, ih']

theorem val_take_succ (xs : List Nat) (k : Nat) (hk : k < xs.length) : val (xs.take (k + 1)) = val (xs.take k) + 18446744073709551616 ^ k * xs[k] := by
  rw [List.take_succ_eq_append_getElem hk, val_append, val_cons, val_nil, List.length_take, Nat.min_eq_left (by omega)]
  simp
theorem val_take_zero (xs : List Nat) : val (xs.take 0) = 0 := by simp [val]
theorem val_take_all (xs : List Nat) : val (xs.take xs.length) = val xs := by rw [List.take_length]

/-- How long the plain list is. -/
theorem nrm_length_le {xs : List Nat} (h : Fit xs) : (nrm (val xs)).length ≤ xs.length := by
  induction xs with
  | nil => simp [val, nrm, nrmF]
  | cons x xs ih =>
    by_cases h0 : val (x :: xs) = 0
    · rw [h0]; simp [nrm, nrmF]
    · have hx := fit_head h
      rw [nrm_pos _ h0, val_cons]
      have e2 : (x + 18446744073709551616 * val xs) / 18446744073709551616 = val xs := by omega
      rw [e2]
      simp only [List.length_cons]
      have := ih (fit_tail h)
      omega

/-- The trimmed list is a front part of the list. -/
theorem take_nrm {xs : List Nat} (h : Fit xs) : xs.take (nrm (val xs)).length = nrm (val xs) := by
  induction xs with
  | nil => simp [val, nrm, nrmF]
  | cons x xs ih =>
    by_cases h0 : val (x :: xs) = 0
    · rw [h0]; simp [nrm, nrmF]
    · have hx := fit_head h
      rw [nrm_pos _ h0, val_cons]
      have e1 : (x + 18446744073709551616 * val xs) % 18446744073709551616 = x := by omega
      have e2 : (x + 18446744073709551616 * val xs) / 18446744073709551616 = val xs := by omega
      rw [e1, e2]
      simp only [List.length_cons, List.take_succ_cons]
      rw [ih (fit_tail h)]

/-- The loop of trim: what is left out is nought. -/
theorem val_take_zero_last (xs : List Nat) (k : Nat) (hk : k < xs.length) (h0 : xs[k] = 0) : val (xs.take k) = val (xs.take (k + 1)) := by
  rw [val_take_succ xs k hk, h0]; simp
theorem trim_done {xs : List Nat} (h : Fit xs) (k : Nat) (hk : k ≤ xs.length) (hv : val (xs.take k) = val xs) (hz : k = 0 ∨ ∃ hj : k - 1 < xs.length, xs[k - 1] ≠ 0) : (nrm (val xs)).length = k := by
  rw [← hv]
  rcases hz with rfl | ⟨hj, hz⟩
  · simp [val, nrm, nrmF]
  · by_cases hk0 : k = 0
    · subst hk0; simp [val, nrm, nrmF]
    · rw [nrm_val_of_last (fit_take h k) (fun hne => ?_), List.length_take, Nat.min_eq_left hk]
      rw [List.getLast_eq_getElem]
      simp only [List.length_take, Nat.min_eq_left hk, List.getElem_take]
      exact hz

/-- n limbs of a number, the lowest first. -/
def dig : Nat → Nat → List Nat
  | 0, _ => []
  | n + 1, v => v % 18446744073709551616 :: dig n (v / 18446744073709551616)
theorem dig_length (n v : Nat) : (dig n v).length = n := by
  induction n generalizing v with
  | zero => rfl
  | succ n ih => simp [dig, ih]
theorem fit_dig (n v : Nat) : Fit (dig n v) := by
  induction n generalizing v with
  | zero => exact fit_nil
  | succ n ih => exact fit_cons (by omega) (ih _)
theorem dig_val {xs : List Nat} (h : Fit xs) : dig xs.length (val xs) = xs := by
  induction xs with
  | nil => rfl
  | cons x xs ih =>
    have hx := fit_head h
    simp only [List.length_cons, dig, val_cons]
    have e1 : (x + 18446744073709551616 * val xs) % 18446744073709551616 = x := by omega
    have e2 : (x + 18446744073709551616 * val xs) / 18446744073709551616 = val xs := by omega
    rw [e1, e2, ih (fit_tail h)]
theorem val_dig (n v : Nat) : val (dig n v) = v % 18446744073709551616 ^ n := by
  induction n generalizing v with
  | zero => simp [dig, val, Nat.mod_one]
  | succ n ih =>
    rw [dig, val_cons, ih, Nat.pow_succ, Nat.mul_comm (18446744073709551616 ^ n), Nat.mod_mul]
theorem dig_snoc (n v : Nat) : dig (n + 1) v = dig n v ++ [v / 18446744073709551616 ^ n % 18446744073709551616] := by
  induction n generalizing v with
  | zero => simp [dig]
  | succ n ih =>
    rw [dig, ih (v / 18446744073709551616)]
    rw [show dig (n + 1) v = v % 18446744073709551616 :: dig n (v / 18446744073709551616) from rfl]
    rw [Nat.div_div_eq_div_mul, Nat.pow_succ, Nat.mul_comm 18446744073709551616]
    rfl
theorem dig_mod (n v : Nat) : dig n (v % 18446744073709551616 ^ n) = dig n v := by
  have := dig_val (fit_dig n v)
  rw [dig_length, val_dig] at this
  exact this
theorem dig_add_mul (n v u : Nat) : dig n (v + 18446744073709551616 ^ n * u) = dig n v := by
  rw [← dig_mod n (v + 18446744073709551616 ^ n * u), Nat.add_mul_mod_self_left, dig_mod]
theorem val_dig_of_lt {n v : Nat} (h : v < 18446744073709551616 ^ n) : val (dig n v) = v := by rw [val_dig, Nat.mod_eq_of_lt h]
theorem eq_of_val {xs ys : List Nat} (hx : Fit xs) (hy : Fit ys) (hl : xs.length = ys.length) (h : val xs = val ys) : xs = ys := by
  rw [← dig_val hx, ← dig_val hy, hl, h]
end Go.Proofs.YtmajmpgcdpbnfaaDoor

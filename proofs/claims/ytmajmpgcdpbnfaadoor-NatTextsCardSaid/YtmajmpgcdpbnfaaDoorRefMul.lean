/- cleaverref01.Mul, by its contract. -/
import Derived.Test.YtmajmpgcdpbnfaaDoorRefLim
namespace Go.Proofs.YtmajmpgcdpbnfaaDoor
open Go.RowKit

theorem val32_set (L : List Nat) (j u : Nat) (hj : j < L.length) : val32 (L.set j u) + 4294967296 ^ j * L.getD j 0 = val32 L + 4294967296 ^ j * u := by
  induction L generalizing j with
  | nil => simp at hj
  | cons x xs ih =>
    cases j with
    | zero => simp [val32]; omega
    | succ j =>
      have := ih j (by simpa using hj)
      simp only [List.set_cons_succ, val32_cons, List.getD_cons_succ, Nat.pow_succ]
      grind
theorem fit32_set {L : List Nat} (h : Fit32 L) (j u : Nat) (hu : u < 4294967296) : Fit32 (L.set j u) := by
  intro x hx
  rcases List.mem_or_eq_of_mem_set hx with hx | rfl
  · exact h x hx
  · exact hu
theorem val32_take_getD (xs : List Nat) (k : Nat) : val32 (xs.take (k + 1)) = val32 (xs.take k) + 4294967296 ^ k * xs.getD k 0 := by
  rw [List.getD_eq_getElem?_getD]
  by_cases h : k < xs.length
  · rw [List.take_succ_eq_append_getElem h, val32_append, val32_cons, val32_nil, List.length_take, Nat.min_eq_left (by omega), List.getElem?_eq_getElem h]
    simp
  · rw [List.take_of_length_le (by omega), List.take_of_length_le (by omega), List.getElem?_eq_none (by omega)]; simp
theorem getD_set_ne (L : List Nat) (j u i : Nat) (h : i ≠ j) : (L.set j u).getD i 0 = L.getD i 0 := by
  rw [List.getD_eq_getElem?_getD, List.getD_eq_getElem?_getD, List.getElem?_set_ne (Ne.symm h)]

/-- The relation of the inner loop. -/
def MulIn (N m i V xi : Nat) (ys L : List Nat) (k c : Nat) : Prop :=
  L.length = N ∧ Fit32 L ∧ c < 4294967296 ∧ val32 L + 4294967296 ^ (i + k) * c = V + xi * 4294967296 ^ i * val32 (ys.take k) ∧ ∀ j, i + m ≤ j → L.getD j 0 = 0
theorem mulIn_step {N m i V xi : Nat} {ys L : List Nat} {k c : Nat} (h : MulIn N m i V xi ys L k c) (hx : xi < 4294967296) (hy : Fit32 ys) (hk : k < m) (hN : i + m ≤ N) :
    MulIn N m i V xi ys (L.set (i + k) ((xi * ys.getD k 0 + L.getD (i + k) 0 + c) % 4294967296)) (k + 1) ((xi * ys.getD k 0 + L.getD (i + k) 0 + c) / 4294967296) := by
  obtain ⟨h1, h2, h3, h4, h5⟩ := h
  have hyk := fit32_getD hy k
  have hlk := fit32_getD h2 (i + k)
  have hb : xi * ys.getD k 0 ≤ 4294967295 * 4294967295 := Nat.mul_le_mul (by omega) (by omega)
  refine ⟨by rw [List.length_set, h1], fit32_set h2 _ _ (Nat.mod_lt _ (by decide)), by omega, ?_, fun j hj => by rw [getD_set_ne _ _ _ _ (by omega)]; exact h5 j hj⟩
  have hs := val32_set L (i + k) ((xi * ys.getD k 0 + L.getD (i + k) 0 + c) % 4294967296) (by omega)
  rw [val32_take_getD]
  generalize ys.getD k 0 = y at *
  generalize L.getD (i + k) 0 = d at *
  generalize hS : xi * y + d + c = S at *
  have hdm : S % 4294967296 + 4294967296 * (S / 4294967296) = S := Nat.mod_add_div S 4294967296
  have e1 : 4294967296 ^ (i + (k + 1)) = 4294967296 ^ (i + k) * 4294967296 := by rw [← Nat.pow_succ]; rfl
  have e2 : 4294967296 ^ (i + k) = 4294967296 ^ i * 4294967296 ^ k := Nat.pow_add ..
  rw [e1]
  generalize S % 4294967296 = r at *
  generalize S / 4294967296 = q at *
  generalize val32 (L.set (i + k) r) = V1 at *
  generalize val32 L = V0 at *
  generalize val32 (ys.take k) = Y at *
  rw [e2] at hs h4 ⊢
  generalize 4294967296 ^ i = p at *
  generalize 4294967296 ^ k = t at *
  have e3 : p * t * (r + 4294967296 * q) = p * t * (xi * y + d + c) := by rw [hdm, hS]
  grind
theorem mulIn_start {N m i V xi : Nat} {ys L : List Nat} (h1 : L.length = N) (h2 : Fit32 L) (h3 : val32 L = V) (h4 : ∀ j, i + m ≤ j → L.getD j 0 = 0) : MulIn N m i V xi ys L 0 0 :=
  ⟨h1, h2, by decide, by simp [h3, val32], h4⟩
theorem mulIn_end {N m i xi : Nat} {xs ys L : List Nat} {c : Nat} (h : MulIn N m i (val32 (xs.take i) * val32 ys) xi ys L m c) (hm : ys.length = m) (hxi : xi = xs.getD i 0) (hN : i + m < N) :
    (L.set (i + m) c).length = N ∧ Fit32 (L.set (i + m) c) ∧ val32 (L.set (i + m) c) = val32 (xs.take (i + 1)) * val32 ys ∧ ∀ j, i + 1 + m ≤ j → (L.set (i + m) c).getD j 0 = 0 := by
  obtain ⟨h1, h2, h3, h4, h5⟩ := h
  refine ⟨by rw [List.length_set, h1], fit32_set h2 _ _ h3, ?_, fun j hj => by rw [getD_set_ne _ _ _ _ (by omega)]; exact h5 j (by omega)⟩
  have hs := val32_set L (i + m) c (by omega)
  rw [h5 (i + m) (Nat.le_refl _), Nat.mul_zero, Nat.add_zero] at hs
  have e : ys.take m = ys := List.take_of_length_le (by omega)
  rw [hs, h4, e, val32_take_getD, ← hxi, Nat.add_mul]
  congr 1
  rw [Nat.mul_comm xi]

theorem Blk.cellD {w : World} {g : Nat} {L : List Nat} (h : Blk w g L) (i : Nat) (hi : i < L.length) : w.cell? ⟨g, i, none⟩ = some (u64v (L.getD i 0)) := by
  rw [h.cell i hi, List.getD_eq_getElem?_getD, List.getElem?_eq_getElem hi]
  rfl
theorem val32_zeros (n : Nat) : val32 (List.replicate n 0) = 0 := by
  induction n with
  | zero => rfl
  | succ n ih => rw [List.replicate_succ, val32_cons, ih]

end Go.Proofs.YtmajmpgcdpbnfaaDoor

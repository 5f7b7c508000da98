/- A product's coefficient told by partial sums; a row cut at its last place that isn't nought. Mathematics alone. -/
import Derived.Test.YtipdnfdeacdkgaaDoorRst
namespace Go.Proofs.YtipdnfdeacdkgaaDoor

def psum (f g : Ser) (k : Nat) : Nat → Int
  | 0 => 0
  | i + 1 => psum f g k i + f i * g (k - i)
theorem psum_shift (f g : Ser) (k i : Nat) : psum f g (k + 1) (i + 1) = f 0 * g (k + 1) + psum (Ser.tl f) g k i := by
  induction i with
  | zero => show (0 : Int) + f 0 * g (k + 1 - 0) = _; show _ = f 0 * g (k + 1) + 0; simp
  | succ i ih =>
    show psum f g (k + 1) (i + 1) + f (i + 1) * g (k + 1 - (i + 1)) = _
    rw [ih, Nat.add_sub_add_right]
    show _ = f 0 * g (k + 1) + (psum (Ser.tl f) g k i + f (i + 1) * g (k - i))
    omega
theorem psum_all (f g : Ser) (k : Nat) : psum f g k (k + 1) = Ser.mul f g k := by
  induction k generalizing f with
  | zero => rw [Ser.mul_zero_at]; show (0 : Int) + f 0 * g (0 - 0) = _; simp
  | succ k ih => rw [psum_shift, ih, Ser.mul_succ]
theorem psum_low {f g : Ser} {k i : Nat} (h : ∀ j, j < i → g (k - j) = 0) : psum f g k i = 0 := by
  induction i with
  | zero => rfl
  | succ i ih =>
    show psum f g k i + f i * g (k - i) = 0
    rw [ih (fun j hj => h j (by omega)), h i (by omega), Int.mul_zero]; rfl
theorem psum_high {f g : Ser} {k i : Nat} (h : ∀ j, i ≤ j → f j = 0) (d : Nat) : psum f g k (i + d) = psum f g k i := by
  induction d with
  | zero => rfl
  | succ d ih =>
    show psum f g k (i + d) + f (i + d) * g (k - (i + d)) = _
    rw [ih, h (i + d) (by omega), Int.zero_mul, Int.add_zero]
theorem psum_end {f g : Ser} {k i : Nat} (h : ∀ j, i ≤ j → f j = 0) (hi : i ≤ k + 1) : psum f g k i = Ser.mul f g k := by
  rw [← psum_all, show k + 1 = i + (k + 1 - i) from by omega, psum_high h]
theorem mul_bdM {p x y : Int} (hx : 0 ≤ x ∧ x < p) (hy : 0 ≤ y ∧ y < p) (hp : p ≤ 65521) : 0 ≤ x * y ∧ x * y ≤ 4292870400 := by
  refine ⟨Int.mul_nonneg hx.1 hy.1, ?_⟩
  have h1 : x * y ≤ 65520 * y := Int.mul_le_mul_of_nonneg_right (by omega) hy.1
  omega
theorem psum_bd {p : Int} {f g : Ser} (hp : p ≤ 65521) (hf : ∀ i, 0 ≤ f i ∧ f i < p) (hg : ∀ i, 0 ≤ g i ∧ g i < p) (k i : Nat) : 0 ≤ psum f g k i ∧ psum f g k i ≤ 4292870400 * (i : Int) := by
  induction i with
  | zero => exact ⟨Int.le_refl _, by show (0 : Int) ≤ _; omega⟩
  | succ i ih =>
    have := mul_bdM (hf i) (hg (k - i)) hp
    show 0 ≤ psum f g k i + f i * g (k - i) ∧ psum f g k i + f i * g (k - i) ≤ _
    generalize f i * g (k - i) = P at *
    omega
theorem mul_bdS {p : Int} {f g : Ser} {n : Nat} (hp : p ≤ 65521) (hf : ∀ i, 0 ≤ f i ∧ f i < p) (hg : ∀ i, 0 ≤ g i ∧ g i < p) (hn : ∀ j, n ≤ j → f j = 0) (k : Nat) : 0 ≤ Ser.mul f g k ∧ Ser.mul f g k ≤ 4292870400 * (n : Int) := by
  rcases Nat.lt_or_ge (k + 1) n with h | h
  · rw [← psum_all]
    have := psum_bd hp hf hg k (k + 1)
    omega
  · rw [← psum_end hn h]
    exact psum_bd hp hf hg k n

/-- The place at which noughts at the end are cut off. -/
def CutAt (xs : List Int) (t : Nat) : Prop := t ≤ xs.length ∧ (∀ i, t ≤ i → cf xs i = 0) ∧ (t = 0 ∨ cf xs (t - 1) ≠ 0)
theorem CutAt.pol {p : Int} {xs : List Int} {t : Nat} (h : CutAt xs t) (hr : Rs p xs) {f : Ser} (e : Ser.Eq p (cf xs) f) : Pol p (xs.take t) f := by
  obtain ⟨h1, h2⟩ := pln_cut hr t h.1 h.2.1 h.2.2
  refine ⟨h1, fun i => ?_⟩
  rw [h2]
  exact e i
/-- So many places are told. -/
def MdIn (p : Int) (f : Ser) (n t : Nat) (L : List Int) : Prop := L.length = n ∧ Rs p L ∧ ∀ i, cf L i = if i < t then f i % p else 0
theorem mdIn_start {p : Int} (hp : 1 ≤ p) (f : Ser) (n : Nat) : MdIn p f n 0 (List.replicate n 0) := ⟨by simp, Rs.zeros n hp, fun i => by rw [cf_replicate, if_neg (by omega)]⟩
theorem MdIn.step {p : Int} (hp : 1 ≤ p) {f : Ser} {n t : Nat} {L : List Int} (h : MdIn p f n t L) (ht : t < n) : MdIn p f n (t + 1) (L.set t (f t % p)) := by
  obtain ⟨h1, h2, h3⟩ := h
  refine ⟨by rw [List.length_set, h1], h2.set _ ⟨Int.emod_nonneg _ (by omega), Int.emod_lt_of_pos _ (by omega)⟩, fun i => ?_⟩
  rw [cf_set _ _ (by omega), h3]
  by_cases e : i = t
  · rw [if_pos e, if_pos (by omega), e]
  · rw [if_neg e]
    by_cases hi : i < t
    · rw [if_pos hi, if_pos (by omega)]
    · rw [if_neg hi, if_neg (by omega)]
/-- The first n places of a series. -/
def fst (n : Nat) (f : Ser) : Ser := fun i => if i < n then f i else 0
theorem MdIn.eq {p : Int} {f : Ser} {n : Nat} {L : List Int} (h : MdIn p f n n L) : Ser.Eq p (cf L) (fst n f) := fun i => by
  rw [h.2.2]
  show _ = (if i < n then f i else 0) % p
  by_cases e : i < n
  · rw [if_pos e, if_pos e, Int.emod_emod_of_dvd _ (Int.dvd_refl p)]
  · rw [if_neg e, if_neg e]
theorem fst_bd {p : Int} {f : Ser} {n : Nat} (h : Ser.Bd p f n) : Ser.Eq p (fst n f) f := fun i => by
  show (if i < n then f i else 0) % p = f i % p
  by_cases e : i < n
  · rw [if_pos e]
  · rw [if_neg e, h i (by omega)]; rfl
theorem fst_eq {p : Int} {f g : Ser} {n : Nat} (h : Ser.Eq p f g) : Ser.Eq p (fst n f) (fst n g) := fun i => by
  show (if i < n then f i else 0) % p = (if i < n then g i else 0) % p
  by_cases e : i < n
  · rw [if_pos e, if_pos e]; exact h i
  · rw [if_neg e, if_neg e]
end Go.Proofs.YtipdnfdeacdkgaaDoor

/- Power series over the integers: a commutative ring; what holds of them by a prime. Mathematics alone. -/
import Derived.Test.YtipdnfdeacdkgaaDoorFpMath
namespace Go.Proofs.YtipdnfdeacdkgaaDoor

/-- A row of coefficients without an end. -/
def Ser : Type := Nat → Int
namespace Ser
def tl (f : Ser) : Ser := fun i => f (i + 1)
def zer : Ser := fun _ => 0
def con (c : Int) : Ser := fun i => if i = 0 then c else 0
def add (f g : Ser) : Ser := fun i => f i + g i
def neg (f : Ser) : Ser := fun i => - f i
def sub (f g : Ser) : Ser := fun i => f i - g i
def sc (c : Int) (f : Ser) : Ser := fun i => c * f i
/-- X to the power k, times c. -/
def mono (c : Int) (k : Nat) : Ser := fun i => if i = k then c else 0
def mul (f g : Ser) : Ser
  | 0 => f 0 * g 0
  | n + 1 => f 0 * g (n + 1) + mul (tl f) g n

theorem mul_zero_at (f g : Ser) : mul f g 0 = f 0 * g 0 := by unfold mul; rfl
theorem mul_succ (f g : Ser) (n : Nat) : mul f g (n + 1) = f 0 * g (n + 1) + mul (tl f) g n := by conv => lhs; unfold mul
theorem mul_succ' (f g : Ser) (n : Nat) : mul f g (n + 1) = f (n + 1) * g 0 + mul f (tl g) n := by
  induction n generalizing f with
  | zero =>
    rw [mul_succ, mul_zero_at, mul_zero_at]
    show f 0 * g 1 + f 1 * g 0 = f 1 * g 0 + f 0 * g 1
    omega
  | succ n ih =>
    rw [mul_succ, ih (tl f), mul_succ f (tl g) n]
    show f 0 * g (n + 1 + 1) + (f (n + 1 + 1) * g 0 + mul (tl f) (tl g) n) = f (n + 1 + 1) * g 0 + (f 0 * g (n + 1 + 1) + mul (tl f) (tl g) n)
    omega
theorem mul_comm_at (f g : Ser) (n : Nat) : mul f g n = mul g f n := by
  induction n generalizing f g with
  | zero => rw [mul_zero_at, mul_zero_at, Int.mul_comm]
  | succ n ih =>
    rw [mul_succ, mul_succ' g f, ih (tl f) g, Int.mul_comm]
theorem add_mul_at (f g h : Ser) (n : Nat) : mul (add f g) h n = mul f h n + mul g h n := by
  induction n generalizing f g with
  | zero => simp only [mul_zero_at]; exact Int.add_mul _ _ _
  | succ n ih =>
    simp only [mul_succ]
    have e : tl (add f g) = add (tl f) (tl g) := rfl
    rw [e, ih]
    show (f 0 + g 0) * h (n + 1) + _ = _
    rw [Int.add_mul]
    omega
theorem sc_mul_at (c : Int) (f h : Ser) (n : Nat) : mul (sc c f) h n = c * mul f h n := by
  induction n generalizing f with
  | zero => simp only [mul_zero_at]; exact Int.mul_assoc _ _ _
  | succ n ih =>
    simp only [mul_succ]
    have e : tl (sc c f) = sc c (tl f) := rfl
    rw [e, ih, Int.mul_add]
    show c * f 0 * h (n + 1) + _ = _
    rw [Int.mul_assoc]
theorem mul_assoc_at (f g h : Ser) (n : Nat) : mul (mul f g) h n = mul f (mul g h) n := by
  induction n generalizing f with
  | zero => simp only [mul_zero_at]; exact Int.mul_assoc _ _ _
  | succ n ih =>
    have e : tl (mul f g) = add (sc (f 0) (tl g)) (mul (tl f) g) := by
      funext i
      show mul f g (i + 1) = _
      rw [mul_succ]; rfl
    rw [mul_succ, e, add_mul_at, sc_mul_at, ih, mul_succ f, mul_zero_at, mul_succ g h, Int.mul_add, Int.mul_assoc]
    omega
theorem con_mul_at (c : Int) (f : Ser) (n : Nat) : mul (con c) f n = c * f n := by
  cases n with
  | zero => rw [mul_zero_at]; rfl
  | succ n =>
    rw [mul_succ]
    have e : tl (con c) = zer := by funext i; rfl
    have ez : ∀ n, mul zer f n = 0 := by
      intro n
      induction n with
      | zero => rw [mul_zero_at]; exact Int.zero_mul _
      | succ n ih =>
        rw [mul_succ]
        have e : tl zer = zer := rfl
        rw [e, ih]
        show 0 * _ + 0 = (0 : Int)
        simp
    rw [e, ez]
    show c * f (n + 1) + 0 = _
    omega
theorem mono_mul_at (c : Int) (k : Nat) (f : Ser) (n : Nat) : mul (mono c k) f n = if k ≤ n then c * f (n - k) else 0 := by
  induction k generalizing n with
  | zero =>
    have e : mono c 0 = con c := rfl
    rw [e, con_mul_at, if_pos (Nat.zero_le _), Nat.sub_zero]
  | succ k ih =>
    cases n with
    | zero =>
      rw [mul_zero_at, if_neg (by omega)]
      show (if 0 = k + 1 then c else 0) * _ = 0
      rw [if_neg (by omega), Int.zero_mul]
    | succ n =>
      rw [mul_succ]
      have e : tl (mono c (k + 1)) = mono c k := by
        funext i
        show (if i + 1 = k + 1 then c else 0) = if i = k then c else 0
        simp
      rw [e, ih]
      show (if 0 = k + 1 then c else 0) * _ + _ = _
      rw [if_neg (by omega), Int.zero_mul, Int.zero_add]
      by_cases h : k ≤ n
      · rw [if_pos h, if_pos (by omega)]
        congr 2
        omega
      · rw [if_neg h, if_neg (by omega)]

theorem mul_comm (f g : Ser) : mul f g = mul g f := funext (mul_comm_at f g)
theorem mul_assoc (f g h : Ser) : mul (mul f g) h = mul f (mul g h) := funext (mul_assoc_at f g h)
theorem add_mul (f g h : Ser) : mul (add f g) h = add (mul f h) (mul g h) := funext (add_mul_at f g h)
theorem mul_add (f g h : Ser) : mul f (add g h) = add (mul f g) (mul f h) := by rw [mul_comm, add_mul, mul_comm g, mul_comm h]
theorem sc_mul (c : Int) (f h : Ser) : mul (sc c f) h = sc c (mul f h) := funext (sc_mul_at c f h)
theorem con_mul (c : Int) (f : Ser) : mul (con c) f = sc c f := funext (con_mul_at c f)
theorem one_mul (f : Ser) : mul (con 1) f = f := by rw [con_mul]; funext i; exact Int.one_mul _
theorem zer_mul (f : Ser) : mul zer f = zer := by
  have e : zer = con 0 := by funext i; show (0 : Int) = if i = 0 then 0 else 0; simp
  rw [e, con_mul]
  funext i
  show 0 * f i = if i = 0 then 0 else 0
  simp
theorem add_comm (f g : Ser) : add f g = add g f := funext fun _ => Int.add_comm _ _
theorem add_assoc (f g h : Ser) : add (add f g) h = add f (add g h) := funext fun _ => Int.add_assoc _ _ _

/-- The same by p. -/
def Eq (p : Int) (f g : Ser) : Prop := ∀ i, f i % p = g i % p
theorem Eq.refl (p : Int) (f : Ser) : Eq p f f := fun _ => rfl
theorem Eq.symm {p : Int} {f g : Ser} (h : Eq p f g) : Eq p g f := fun i => (h i).symm
theorem Eq.trans {p : Int} {f g h : Ser} (a : Eq p f g) (b : Eq p g h) : Eq p f h := fun i => (a i).trans (b i)
theorem Eq.of {p : Int} {f g : Ser} (h : f = g) : Eq p f g := h ▸ Eq.refl p f
theorem Eq.add {p : Int} {f g f' g' : Ser} (a : Eq p f f') (b : Eq p g g') : Eq p (Ser.add f g) (Ser.add f' g') := fun i => by
  show (f i + g i) % p = (f' i + g' i) % p
  rw [Int.add_emod, a i, b i, ← Int.add_emod]
theorem Eq.sub {p : Int} {f g f' g' : Ser} (a : Eq p f f') (b : Eq p g g') : Eq p (Ser.sub f g) (Ser.sub f' g') := fun i => by
  show (f i - g i) % p = (f' i - g' i) % p
  rw [Int.sub_emod, a i, b i, ← Int.sub_emod]
theorem Eq.sc {p c d : Int} {f f' : Ser} (h : c % p = d % p) (a : Eq p f f') : Eq p (Ser.sc c f) (Ser.sc d f') := fun i => by
  show c * f i % p = d * f' i % p
  rw [Int.mul_emod, h, a i, ← Int.mul_emod]
theorem Eq.tl {p : Int} {f f' : Ser} (a : Eq p f f') : Eq p (Ser.tl f) (Ser.tl f') := fun i => a (i + 1)
theorem Eq.mulL {p : Int} {f f' : Ser} (g : Ser) (a : Eq p f f') : Eq p (mul f g) (mul f' g) := by
  intro n
  induction n generalizing f f' with
  | zero => rw [mul_zero_at, mul_zero_at, Int.mul_emod, a 0, ← Int.mul_emod]
  | succ n ih =>
    rw [mul_succ, mul_succ, Int.add_emod, ih a.tl, Int.mul_emod, a 0, ← Int.mul_emod, ← Int.add_emod]
theorem Eq.mul {p : Int} {f g f' g' : Ser} (a : Eq p f f') (b : Eq p g g') : Eq p (Ser.mul f g) (Ser.mul f' g') := by
  refine (a.mulL g).trans ?_
  rw [mul_comm f' g, mul_comm f' g']
  exact b.mulL f'

/-- From N on nothing but noughts, by p. -/
def Bd (p : Int) (f : Ser) (N : Nat) : Prop := ∀ i, N ≤ i → f i % p = 0
theorem Bd.eq {p : Int} {f g : Ser} {N : Nat} (h : Bd p f N) (e : Eq p f g) : Bd p g N := fun i hi => (e i).symm.trans (h i hi)
theorem Bd.mono {p : Int} {f : Ser} {N M : Nat} (h : Bd p f N) (hm : N ≤ M) : Bd p f M := fun i hi => h i (Nat.le_trans hm hi)
theorem Bd.add {p : Int} {f g : Ser} {N : Nat} (a : Bd p f N) (b : Bd p g N) : Bd p (Ser.add f g) N := fun i hi => by
  show (f i + g i) % p = 0
  rw [Int.add_emod, a i hi, b i hi]; simp
theorem Bd.sub {p : Int} {f g : Ser} {N : Nat} (a : Bd p f N) (b : Bd p g N) : Bd p (Ser.sub f g) N := fun i hi => by
  show (f i - g i) % p = 0
  rw [Int.sub_emod, a i hi, b i hi]; simp
theorem mul_nought {p : Int} {f : Ser} (g : Ser) (a : Bd p f 0) (n : Nat) : mul f g n % p = 0 := by
  have e : Eq p f zer := fun i => by rw [a i (Nat.zero_le _)]; simp [zer]
  rw [(e.mulL g) n, zer_mul]
  simp [zer]
/-- A product's end. -/
theorem mul_top {p : Int} {f g : Ser} {m n : Nat} (a : Bd p f (m + 1)) (b : Bd p g (n + 1)) :
    mul f g (m + n) % p = f m * g n % p ∧ Bd p (mul f g) (m + n + 1) := by
  induction m generalizing f with
  | zero =>
    have ht : Bd p (tl f) 0 := fun i _ => a (i + 1) (by omega)
    have key : ∀ k, mul f g k % p = f 0 * g k % p := by
      intro k
      cases k with
      | zero => rw [mul_zero_at]
      | succ k => rw [mul_succ, Int.add_emod, mul_nought g ht k]; simp
    refine ⟨by rw [key, Nat.zero_add], fun i hi => ?_⟩
    rw [key, Int.mul_emod, b i (by omega)]; simp
  | succ m ih =>
    have ht : Bd p (tl f) (m + 1) := fun i hi => a (i + 1) (by omega)
    obtain ⟨h1, h2⟩ := ih ht
    refine ⟨?_, fun i hi => ?_⟩
    · rw [show m + 1 + n = (m + n) + 1 from by omega, mul_succ, Int.add_emod, h1, Int.mul_emod (f 0), b (m + n + 1) (by omega)]
      simp [tl]
    · obtain ⟨j, rfl⟩ : ∃ j, i = j + 1 := ⟨i - 1, by omega⟩
      rw [mul_succ, Int.add_emod, h2 j (by omega), Int.mul_emod (f 0), b (j + 1) (by omega)]
      simp

/-- Powers. -/
def pw (f : Ser) : Nat → Ser
  | 0 => con 1
  | n + 1 => mul (pw f n) f
theorem pw_zero (f : Ser) : pw f 0 = con 1 := rfl
theorem pw_succ (f : Ser) (n : Nat) : pw f (n + 1) = mul (pw f n) f := rfl
theorem pw_add (f : Ser) (m n : Nat) : pw f (m + n) = mul (pw f m) (pw f n) := by
  induction n with
  | zero => rw [Nat.add_zero, pw_zero, mul_comm, one_mul]
  | succ n ih => rw [← Nat.add_assoc, pw_succ, ih, pw_succ, mul_assoc]
theorem pw_mul (f : Ser) (m n : Nat) : pw f (m * n) = pw (pw f m) n := by
  induction n with
  | zero => rfl
  | succ n ih => rw [Nat.mul_succ, pw_add, ih, pw_succ]
theorem Eq.pw {p : Int} {f g : Ser} (h : Eq p f g) (n : Nat) : Eq p (Ser.pw f n) (Ser.pw g n) := by
  induction n with
  | zero => exact Eq.refl _ _
  | succ n ih => exact ih.mul h

/-- Sums of rows. -/
def sumS (F : Nat → Ser) : Nat → Ser
  | 0 => zer
  | n + 1 => add (sumS F n) (F n)
theorem add_zer (f : Ser) : add f zer = f := funext fun _ => Int.add_zero _
theorem zer_add (f : Ser) : add zer f = f := funext fun _ => Int.zero_add _
theorem sumS_add (F G : Nat → Ser) (n : Nat) : sumS (fun k => add (F k) (G k)) n = add (sumS F n) (sumS G n) := by
  induction n with
  | zero => rw [sumS, sumS, sumS, add_zer]
  | succ n ih =>
    rw [sumS, ih, sumS, sumS]
    funext i
    show sumS F n i + sumS G n i + (F n i + G n i) = sumS F n i + F n i + (sumS G n i + G n i)
    omega
theorem mul_sumS (F : Nat → Ser) (f : Ser) (n : Nat) : mul (sumS F n) f = sumS (fun k => mul (F k) f) n := by
  induction n with
  | zero => exact zer_mul f
  | succ n ih => rw [sumS, add_mul, ih, sumS]
theorem sumS_shift (F : Nat → Ser) (n : Nat) : sumS F (n + 1) = add (F 0) (sumS (fun k => F (k + 1)) n) := by
  induction n with
  | zero => rw [sumS, sumS, sumS, zer_add, add_zer]
  | succ n ih => rw [sumS, ih, sumS, add_assoc]
theorem sumS_congr (F G : Nat → Ser) (n : Nat) (h : ∀ k, k < n → F k = G k) : sumS F n = sumS G n := by
  induction n with
  | zero => rfl
  | succ n ih => rw [sumS, sumS, ih (fun k hk => h k (by omega)), h n (by omega)]
theorem sumS_nought {p : Int} (F : Nat → Ser) (n : Nat) (h : ∀ k, k < n → Bd p (F k) 0) : Bd p (sumS F n) 0 := by
  induction n with
  | zero => intro i _; simp [sumS, zer]
  | succ n ih => exact (ih fun k hk => h k (by omega)).add (h n (by omega))
/-- The binomial theorem. -/
theorem binomS (f g : Ser) (n : Nat) : pw (add f g) n = sumS (fun k => sc (chs n k : Int) (mul (pw f k) (pw g (n - k)))) (n + 1) := by
  induction n with
  | zero =>
    rw [sumS, sumS, zer_add, pw_zero, pw_zero, pw_zero, one_mul]
    funext i
    show con 1 i = ((chs 0 0 : Nat) : Int) * con 1 i
    rw [chs_self]; simp
  | succ n ih =>
    rw [pw_succ, ih, mul_add, mul_sumS, mul_sumS]
    -- the right side, by Pascal's rule
    have eR : sumS (fun k => sc (chs (n + 1) k : Int) (mul (pw f k) (pw g (n + 1 - k)))) (n + 1 + 1)
        = add (mul (con 1) (pw g (n + 1))) (sumS (fun k => add (sc (chs n k : Int) (mul (pw f (k + 1)) (pw g (n - k)))) (sc (chs n (k + 1) : Int) (mul (pw f (k + 1)) (pw g (n - k))))) (n + 1)) := by
      rw [sumS_shift]
      congr 1
      · funext i
        show ((chs (n + 1) 0 : Nat) : Int) * mul (pw f 0) (pw g (n + 1 - 0)) i = _
        rw [chs_zero, pw_zero, Nat.sub_zero]; simp
      · apply sumS_congr
        intro k _
        funext i
        show ((chs (n + 1) (k + 1) : Nat) : Int) * mul (pw f (k + 1)) (pw g (n + 1 - (k + 1))) i = ((chs n k : Nat) : Int) * _ + ((chs n (k + 1) : Nat) : Int) * _
        rw [chs, show n + 1 - (k + 1) = n - k from by omega, ← Int.add_mul]
        congr 1
    rw [eR, sumS_add]
    have e1 : sumS (fun k => mul (sc (chs n k : Int) (mul (pw f k) (pw g (n - k)))) f) (n + 1) = sumS (fun k => sc (chs n k : Int) (mul (pw f (k + 1)) (pw g (n - k)))) (n + 1) := by
      apply sumS_congr
      intro k _
      rw [sc_mul, mul_assoc, mul_comm (pw g (n - k)) f, ← mul_assoc, ← pw_succ]
    have e2 : sumS (fun k => mul (sc (chs n k : Int) (mul (pw f k) (pw g (n - k)))) g) (n + 1) = sumS (fun k => sc (chs n k : Int) (mul (pw f k) (pw g (n + 1 - k)))) (n + 1) := by
      apply sumS_congr
      intro k hk
      rw [sc_mul, mul_assoc, ← pw_succ, show n - k + 1 = n + 1 - k from by omega]
    have e3 : add (mul (con 1) (pw g (n + 1))) (sumS (fun k => sc (chs n (k + 1) : Int) (mul (pw f (k + 1)) (pw g (n - k)))) (n + 1)) = sumS (fun k => sc (chs n k : Int) (mul (pw f k) (pw g (n + 1 - k)))) (n + 1) := by
      have h1 := sumS_shift (fun k => sc (chs n k : Int) (mul (pw f k) (pw g (n + 1 - k)))) (n + 1)
      have h2 : sumS (fun k => sc (chs n k : Int) (mul (pw f k) (pw g (n + 1 - k)))) (n + 1 + 1) = sumS (fun k => sc (chs n k : Int) (mul (pw f k) (pw g (n + 1 - k)))) (n + 1) := by
        rw [sumS, chs_over n (n + 1) (by omega)]
        funext i
        show _ + ((0 : Nat) : Int) * _ = _
        simp
      rw [← h2, h1]
      congr 1
      · funext i
        show mul (con 1) _ i = ((chs n 0 : Nat) : Int) * mul (pw f 0) (pw g (n + 1 - 0)) i
        rw [chs_zero, pw_zero, Nat.sub_zero]; simp
      · apply sumS_congr
        intro k _
        rw [show n + 1 - (k + 1) = n - k from by omega]
    rw [e1, e2, ← e3, ← add_assoc, add_comm _ (mul (con 1) (pw g (n + 1))), add_assoc]
/-- The p-th power of a sum. -/
theorem frob {p : Int} (h : Pr p) (f g : Ser) : Eq p (pw (add f g) p.toNat) (add (pw f p.toNat) (pw g p.toNat)) := by
  obtain ⟨h2, _, hp⟩ := h
  obtain ⟨q, hq⟩ : ∃ q, p.toNat = q + 1 := ⟨p.toNat - 1, by omega⟩
  rw [hq] at hp ⊢
  rw [binomS, sumS, sumS_shift, chs_zero, chs_self, pw_zero, one_mul, Nat.sub_zero, Nat.sub_self, pw_zero, mul_comm (pw f (q + 1)), one_mul]
  have hm := sumS_nought (p := p) (fun k => sc (chs (q + 1) (k + 1) : Int) (mul (pw f (k + 1)) (pw g (q + 1 - (k + 1))))) q (fun k hk i _ => by
    show ((chs (q + 1) (k + 1) : Nat) : Int) * _ % p = 0
    have hd := chs_div hp (show 0 < k + 1 by omega) (show k + 1 < q + 1 by omega)
    have hd2 : p ∣ ((chs (q + 1) (k + 1) : Nat) : Int) := by
      rw [show p = ((q + 1 : Nat) : Int) from by omega]
      exact Int.natCast_dvd_natCast.2 hd
    exact Int.emod_eq_zero_of_dvd (Int.dvd_trans hd2 (Int.dvd_mul_right _ _)))
  intro i
  show (((1 : Nat) : Int) * pw g (q + 1) i + sumS _ q i + ((1 : Nat) : Int) * pw f (q + 1) i) % p = (pw f (q + 1) i + pw g (q + 1) i) % p
  have := hm i (Nat.zero_le _)
  rw [Int.natCast_one, Int.one_mul, Int.one_mul]
  rw [show pw g (q + 1) i + sumS (fun k => sc (chs (q + 1) (k + 1) : Int) (mul (pw f (k + 1)) (pw g (q + 1 - (k + 1))))) q i + pw f (q + 1) i = (pw f (q + 1) i + pw g (q + 1) i) + sumS (fun k => sc (chs (q + 1) (k + 1) : Int) (mul (pw f (k + 1)) (pw g (q + 1 - (k + 1))))) q i from by omega]
  rw [Int.add_emod, this]
  simp
end Ser
end Go.Proofs.YtipdnfdeacdkgaaDoor

/- Texts joined, in their order: Ser, Pol. -/
import Derived.Test.YtnkhhndjbanmnaaGreatDoorMp1

/- Power series over the integers: a commutative ring; what holds of them by a prime. Mathematics alone. -/
namespace Go.Proofs.YtnkhhndjbanmnaaGreatDoor

def Ser : Type := Nat → Int
namespace Ser
def tl (f : Ser) : Ser := fun i => f (i + 1)
def zer : Ser := fun _ => 0
def con (c : Int) : Ser := fun i => if i = 0 then c else 0
def add (f g : Ser) : Ser := fun i => f i + g i
def neg (f : Ser) : Ser := fun i => - f i
def sub (f g : Ser) : Ser := fun i => f i - g i
def sc (c : Int) (f : Ser) : Ser := fun i => c * f i
def mono (c : Int) (k : Nat) : Ser := fun i => if i = k then c else 0
def mul (f g : Ser) : Ser
  | 0 => f 0 * g 0
  | n + 1 => f 0 * g (n + 1) + mul (tl f) g n

theorem mul_zero_at (f g : Ser) : mul f g 0 = f 0 * g 0 := by unfold mul; rfl
theorem mul_succ (f g : Ser) (n : Nat) : mul f g (n + 1) = f 0 * g (n + 1) + mul (tl f) g n := by conv => lhs; unfold mul
theorem mul_succ' (f g : Ser) (n : Nat) : mul f g (n + 1) = f (n + 1) * g 0 + mul f (tl g) n := by
  induction n generalizing f with
  | zero =>
    rw [mul_succ, mul_zero_at, mul_zero_at]
    show f 0 * g 1 + f 1 * g 0 = f 1 * g 0 + f 0 * g 1
    omega
  | succ n ih =>
    rw [mul_succ, ih (tl f), mul_succ f (tl g) n]
    show f 0 * g (n + 1 + 1) + (f (n + 1 + 1) * g 0 + mul (tl f) (tl g) n) = f (n + 1 + 1) * g 0 + (f 0 * g (n + 1 + 1) + mul (tl f) (tl g) n)
    omega
theorem mul_comm_at (f g : Ser) (n : Nat) : mul f g n = mul g f n := by
  induction n generalizing f g with
  | zero => rw [mul_zero_at, mul_zero_at, Int.mul_comm]
  | succ n ih =>
    rw [mul_succ, mul_succ' g f, ih (tl f) g, Int.mul_comm]
theorem add_mul_at (f g h : Ser) (n : Nat) : mul (add f g) h n = mul f h n + mul g h n := by
  induction n generalizing f g with
  | zero => simp only [mul_zero_at]; exact Int.add_mul _ _ _
  | succ n ih =>
    simp only [mul_succ]
    have e : tl (add f g) = add (tl f) (tl g) := rfl
    rw [e, ih]
    show (f 0 + g 0) * h (n + 1) + _ = _
    rw [Int.add_mul]
    omega
theorem sc_mul_at (c : Int) (f h : Ser) (n : Nat) : mul (sc c f) h n = c * mul f h n := by
  induction n generalizing f with
  | zero => simp only [mul_zero_at]; exact Int.mul_assoc _ _ _
  | succ n ih =>
    simp only [mul_succ]
    have e : tl (sc c f) = sc c (tl f) := rfl
    rw [e, ih, Int.mul_add]
    show c * f 0 * h (n + 1) + _ = _
    rw [Int.mul_assoc]
theorem mul_assoc_at (f g h : Ser) (n : Nat) : mul (mul f g) h n = mul f (mul g h) n := by
  induction n generalizing f with
  | zero => simp only [mul_zero_at]; exact Int.mul_assoc _ _ _
  | succ n ih =>
    have e : tl (mul f g) = add (sc (f 0) (tl g)) (mul (tl f) g) := by
      funext i
      show mul f g (i + 1) = _
      rw [mul_succ]; rfl
    rw [mul_succ, e, add_mul_at, sc_mul_at, ih, mul_succ f, mul_zero_at, mul_succ g h, Int.mul_add, Int.mul_assoc]
    omega
theorem con_mul_at (c : Int) (f : Ser) (n : Nat) : mul (con c) f n = c * f n := by
  cases n with
  | zero => rw [mul_zero_at]; rfl
  | succ n =>
    rw [mul_succ]
    have e : tl (con c) = zer := by funext i; rfl
    have ez : ∀ n, mul zer f n = 0 := by
      intro n
      induction n with
      | zero => rw [mul_zero_at]; exact Int.zero_mul _
      | succ n ih =>
        rw [mul_succ]
        have e : tl zer = zer := rfl
        rw [e, ih]
        show 0 * _ + 0 = (0 : Int)
        simp
    rw [e, ez]
    show c * f (n + 1) + 0 = _
    omega
theorem mono_mul_at (c : Int) (k : Nat) (f : Ser) (n : Nat) : mul (mono c k) f n = if k ≤ n then c * f (n - k) else 0 := by
  induction k generalizing n with
  | zero =>
    have e : mono c 0 = con c := rfl
    rw [e, con_mul_at, if_pos (Nat.zero_le _), Nat.sub_zero]
  | succ k ih =>
    cases n with
    | zero =>
      rw [mul_zero_at, if_neg (by omega)]
      show (if 0 = k + 1 then c else 0) * _ = 0
      rw [if_neg (by omega), Int.zero_mul]
    | succ n =>
      rw [mul_succ]
      have e : tl (mono c (k + 1)) = mono c k := by
        funext i
        show (if i + 1 = k + 1 then c else 0) = if i = k then c else 0
        simp
      rw [e, ih]
      show (if 0 = k + 1 then c else 0) * _ + _ = _
      rw [if_neg (by omega), Int.zero_mul, Int.zero_add]
      by_cases h : k ≤ n
      · rw [if_pos h, if_pos (by omega)]
        congr 2
        omega
      · rw [if_neg h, if_neg (by omega)]

theorem mul_comm (f g : Ser) : mul f g = mul g f := funext (mul_comm_at f g)
theorem mul_assoc (f g h : Ser) : mul (mul f g) h = mul f (mul g h) := funext (mul_assoc_at f g h)
theorem add_mul (f g h : Ser) : mul (add f g) h = add (mul f h) (mul g h) := funext (add_mul_at f g h)
theorem mul_add (f g h : Ser) : mul f (add g h) = add (mul f g) (mul f h) := by rw [mul_comm, add_mul, mul_comm g, mul_comm h]
theorem sc_mul (c : Int) (f h : Ser) : mul (sc c f) h = sc c (mul f h) := funext (sc_mul_at c f h)
theorem con_mul (c : Int) (f : Ser) : mul (con c) f = sc c f := funext (con_mul_at c f)
theorem one_mul (f : Ser) : mul (con 1) f = f := by rw [con_mul]; funext i; exact Int.one_mul _
theorem zer_mul (f : Ser) : mul zer f = zer := by
  have e : zer = con 0 := by funext i; show (0 : Int) = if i = 0 then 0 else 0; simp
  rw [e, con_mul]
  funext i
  show 0 * f i = if i = 0 then 0 else 0
  simp
theorem add_comm (f g : Ser) : add f g = add g f := funext fun _ => Int.add_comm _ _
theorem add_assoc (f g h : Ser) : add (add f g) h = add f (add g h) := funext fun _ => Int.add_assoc _ _ _

def Eq (p : Int) (f g : Ser) : Prop := ∀ i, f i % p = g i % p
theorem Eq.refl (p : Int) (f : Ser) : Eq p f f := fun _ => rfl
theorem Eq.symm {p : Int} {f g : Ser} (h : Eq p f g) : Eq p g f := fun i => (h i).symm
theorem Eq.trans {p : Int} {f g h : Ser} (a : Eq p f g) (b : Eq p g h) : Eq p f h := fun i => (a i).trans (b i)
theorem Eq.of {p : Int} {f g : Ser} (h : f = g) : Eq p f g := h ▸ Eq.refl p f
theorem Eq.add {p : Int} {f g f' g' : Ser} (a : Eq p f f') (b : Eq p g g') : Eq p (Ser.add f g) (Ser.add f' g') := fun i => by
  show (f i + g i) % p = (f' i + g' i) % p
  rw [Int.add_emod, a i, b i, ← Int.add_emod]
theorem Eq.sub {p : Int} {f g f' g' : Ser} (a : Eq p f f') (b : Eq p g g') : Eq p (Ser.sub f g) (Ser.sub f' g') := fun i => by
  show (f i - g i) % p = (f' i - g' i) % p
  rw [Int.sub_emod, a i, b i, ← Int.sub_emod]
theorem Eq.sc {p c d : Int} {f f' : Ser} (h : c % p = d % p) (a : Eq p f f') : Eq p (Ser.sc c f) (Ser.sc d f') := fun i => by
  show c * f i % p = d * f' i % p
  rw [Int.mul_emod, h, a i, ← Int.mul_emod]
theorem Eq.tl {p : Int} {f f' : Ser} (a : Eq p f f') : Eq p (Ser.tl f) (Ser.tl f') := fun i => a (i + 1)
theorem Eq.mulL {p : Int} {f f' : Ser} (g : Ser) (a : Eq p f f') : Eq p (mul f g) (mul f' g) := by
  intro n
  induction n generalizing f f' with
  | zero => rw [mul_zero_at, mul_zero_at, Int.mul_emod, a 0, ← Int.mul_emod]
  | succ n ih =>
    rw [mul_succ, mul_succ, Int.add_emod, ih a.tl, Int.mul_emod, a 0, ← Int.mul_emod, ← Int.add_emod]
theorem Eq.mul {p : Int} {f g f' g' : Ser} (a : Eq p f f') (b : Eq p g g') : Eq p (Ser.mul f g) (Ser.mul f' g') := by
  refine (a.mulL g).trans ?_
  rw [mul_comm f' g, mul_comm f' g']
  exact b.mulL f'

def Bd (p : Int) (f : Ser) (N : Nat) : Prop := ∀ i, N ≤ i → f i % p = 0
theorem Bd.eq {p : Int} {f g : Ser} {N : Nat} (h : Bd p f N) (e : Eq p f g) : Bd p g N := fun i hi => (e i).symm.trans (h i hi)
theorem Bd.mono {p : Int} {f : Ser} {N M : Nat} (h : Bd p f N) (hm : N ≤ M) : Bd p f M := fun i hi => h i (Nat.le_trans hm hi)
theorem Bd.add {p : Int} {f g : Ser} {N : Nat} (a : Bd p f N) (b : Bd p g N) : Bd p (Ser.add f g) N := fun i hi => by
  show (f i + g i) % p = 0
  rw [Int.add_emod, a i hi, b i hi]; simp
theorem Bd.sub {p : Int} {f g : Ser} {N : Nat} (a : Bd p f N) (b : Bd p g N) : Bd p (Ser.sub f g) N := fun i hi => by
  show (f i - g i) % p = 0
  rw [Int.sub_emod, a i hi, b i hi]; simp
theorem mul_nought {p : Int} {f : Ser} (g : Ser) (a : Bd p f 0) (n : Nat) : mul f g n % p = 0 := by
  have e : Eq p f zer := fun i => by rw [a i (Nat.zero_le _)]; simp [zer]
  rw [(e.mulL g) n, zer_mul]
  simp [zer]
theorem mul_top {p : Int} {f g : Ser} {m n : Nat} (a : Bd p f (m + 1)) (b : Bd p g (n + 1)) :
    mul f g (m + n) % p = f m * g n % p ∧ Bd p (mul f g) (m + n + 1) := by
  induction m generalizing f with
  | zero =>
    have ht : Bd p (tl f) 0 := fun i _ => a (i + 1) (by omega)
    have key : ∀ k, mul f g k % p = f 0 * g k % p := by
      intro k
      cases k with
      | zero => rw [mul_zero_at]
      | succ k => rw [mul_succ, Int.add_emod, mul_nought g ht k]; simp
    refine ⟨by rw [key, Nat.zero_add], fun i hi => ?_⟩
    rw [key, Int.mul_emod, b i (by omega)]; simp
  | succ m ih =>
    have ht : Bd p (tl f) (m + 1) := fun i hi => a (i + 1) (by omega)
    obtain ⟨h1, h2⟩ := ih ht
    refine ⟨?_, fun i hi => ?_⟩
    · rw [show m + 1 + n = (m + n) + 1 from by omega, mul_succ, Int.add_emod, h1, Int.mul_emod (f 0), b (m + n + 1) (by omega)]
      simp [tl]
    · obtain ⟨j, rfl⟩ : ∃ j, i = j + 1 := ⟨i - 1, by omega⟩
      rw [mul_succ, Int.add_emod, h2 j (by omega), Int.mul_emod (f 0), b (j + 1) (by omega)]
      simp

def pw (f : Ser) : Nat → Ser
  | 0 => con 1
  | n + 1 => mul (pw f n) f
theorem pw_zero (f : Ser) : pw f 0 = con 1 := rfl
theorem pw_succ (f : Ser) (n : Nat) : pw f (n + 1) = mul (pw f n) f := rfl
theorem pw_add (f : Ser) (m n : Nat) : pw f (m + n) = mul (pw f m) (pw f n) := by
  induction n with
  | zero => rw [Nat.add_zero, pw_zero, mul_comm, one_mul]
  | succ n ih => rw [← Nat.add_assoc, pw_succ, ih, pw_succ, mul_assoc]
theorem pw_mul (f : Ser) (m n : Nat) : pw f (m * n) = pw (pw f m) n := by
  induction n with
  | zero => rfl
  | succ n ih => rw [Nat.mul_succ, pw_add, ih, pw_succ]
theorem Eq.pw {p : Int} {f g : Ser} (h : Eq p f g) (n : Nat) : Eq p (Ser.pw f n) (Ser.pw g n) := by
  induction n with
  | zero => exact Eq.refl _ _
  | succ n ih => exact ih.mul h

def sumS (F : Nat → Ser) : Nat → Ser
  | 0 => zer
  | n + 1 => add (sumS F n) (F n)
theorem add_zer (f : Ser) : add f zer = f := funext fun _ => Int.add_zero _
theorem zer_add (f : Ser) : add zer f = f := funext fun _ => Int.zero_add _
theorem sumS_add (F G : Nat → Ser) (n : Nat) : sumS (fun k => add (F k) (G k)) n = add (sumS F n) (sumS G n) := by
  induction n with
  | zero => rw [sumS, sumS, sumS, add_zer]
  | succ n ih =>
    rw [sumS, ih, sumS, sumS]
    funext i
    show sumS F n i + sumS G n i + (F n i + G n i) = sumS F n i + F n i + (sumS G n i + G n i)
    omega
theorem mul_sumS (F : Nat → Ser) (f : Ser) (n : Nat) : mul (sumS F n) f = sumS (fun k => mul (F k) f) n := by
  induction n with
  | zero => exact zer_mul f
  | succ n ih => rw [sumS, add_mul, ih, sumS]
theorem sumS_shift (F : Nat → Ser) (n : Nat) : sumS F (n + 1) = add (F 0) (sumS (fun k => F (k + 1)) n) := by
  induction n with
  | zero => rw [sumS, sumS, sumS, zer_add, add_zer]
  | succ n ih => rw [sumS, ih, sumS, add_assoc]
theorem sumS_congr (F G : Nat → Ser) (n : Nat) (h : ∀ k, k < n → F k = G k) : sumS F n = sumS G n := by
  induction n with
  | zero => rfl
  | succ n ih => rw [sumS, sumS, ih (fun k hk => h k (by omega)), h n (by omega)]
theorem sumS_nought {p : Int} (F : Nat → Ser) (n : Nat) (h : ∀ k, k < n → Bd p (F k) 0) : Bd p (sumS F n) 0 := by
  induction n with
  | zero => intro i _; simp [sumS, zer]
  | succ n ih => exact (ih fun k hk => h k (by omega)).add (h n (by omega))
theorem binomS (f g : Ser) (n : Nat) : pw (add f g) n = sumS (fun k => sc (chs n k : Int) (mul (pw f k) (pw g (n - k)))) (n + 1) := by
  induction n with
  | zero =>
    rw [sumS, sumS, zer_add, pw_zero, pw_zero, pw_zero, one_mul]
    funext i
    show con 1 i = ((chs 0 0 : Nat) : Int) * con 1 i
    rw [chs_self]; simp
  | succ n ih =>
    rw [pw_succ, ih, mul_add, mul_sumS, mul_sumS]
    -- the right side, by Pascal's rule
    have eR : sumS (fun k => sc (chs (n + 1) k : Int) (mul (pw f k) (pw g (n + 1 - k)))) (n + 1 + 1)
        = add (mul (con 1) (pw g (n + 1))) (sumS (fun k => add (sc (chs n k : Int) (mul (pw f (k + 1)) (pw g (n - k)))) (sc (chs n (k + 1) : Int) (mul (pw f (k + 1)) (pw g (n - k))))) (n + 1)) := by
      rw [sumS_shift]
      congr 1
      · funext i
        show ((chs (n + 1) 0 : Nat) : Int) * mul (pw f 0) (pw g (n + 1 - 0)) i = _
        rw [chs_zero, pw_zero, Nat.sub_zero]; simp
      · apply sumS_congr
        intro k _
        funext i
        show ((chs (n + 1) (k + 1) : Nat) : Int) * mul (pw f (k + 1)) (pw g (n + 1 - (k + 1))) i = ((chs n k : Nat) : Int) * _ + ((chs n (k + 1) : Nat) : Int) * _
        rw [chs, show n + 1 - (k + 1) = n - k from by omega, ← Int.add_mul]
        congr 1
    rw [eR, sumS_add]
    have e1 : sumS (fun k => mul (sc (chs n k : Int) (mul (pw f k) (pw g (n - k)))) f) (n + 1) = sumS (fun k => sc (chs n k : Int) (mul (pw f (k + 1)) (pw g (n - k)))) (n + 1) := by
      apply sumS_congr
      intro k _
      rw [sc_mul, mul_assoc, mul_comm (pw g (n - k)) f, ← mul_assoc, ← pw_succ]
    have e2 : sumS (fun k => mul (sc (chs n k : Int) (mul (pw f k) (pw g (n - k)))) g) (n + 1) = sumS (fun k => sc (chs n k : Int) (mul (pw f k) (pw g (n + 1 - k)))) (n + 1) := by
      apply sumS_congr
      intro k hk
      rw [sc_mul, mul_assoc, ← pw_succ, show n - k + 1 = n + 1 - k from by omega]
    have e3 : add (mul (con 1) (pw g (n + 1))) (sumS (fun k => sc (chs n (k + 1) : Int) (mul (pw f (k + 1)) (pw g (n - k)))) (n + 1)) = sumS (fun k => sc (chs n k : Int) (mul (pw f k) (pw g (n + 1 - k)))) (n + 1) := by
      have h1 := sumS_shift (fun k => sc (chs n k : Int) (mul (pw f k) (pw g (n + 1 - k)))) (n + 1)
      have h2 : sumS (fun k => sc (chs n k : Int) (mul (pw f k) (pw g (n + 1 - k)))) (n + 1 + 1) = sumS (fun k => sc (chs n k : Int) (mul (pw f k) (pw g (n + 1 - k)))) (n + 1) := by
        rw [sumS, chs_over n (n + 1) (by omega)]
        funext i
        show _ + ((0 : Nat) : Int) * _ = _
        simp
      rw [← h2, h1]
      congr 1
      · funext i
        show mul (con 1) _ i = ((chs n 0 : Nat) : Int) * mul (pw f 0) (pw g (n + 1 - 0)) i
        rw [chs_zero, pw_zero, Nat.sub_zero]; simp
      · apply sumS_congr
        intro k _
        rw [show n + 1 - (k + 1) = n - k from by omega]
    rw [e1, e2, ← e3, ← add_assoc, add_comm _ (mul (con 1) (pw g (n + 1))), add_assoc]
theorem frob {p : Int} (h : Pr p) (f g : Ser) : Eq p (pw (add f g) p.toNat) (add (pw f p.toNat) (pw g p.toNat)) := by
  obtain ⟨h2, _, hp⟩ := h
  obtain ⟨q, hq⟩ : ∃ q, p.toNat = q + 1 := ⟨p.toNat - 1, by omega⟩
  rw [hq] at hp ⊢
  rw [binomS, sumS, sumS_shift, chs_zero, chs_self, pw_zero, one_mul, Nat.sub_zero, Nat.sub_self, pw_zero, mul_comm (pw f (q + 1)), one_mul]
  have hm := sumS_nought (p := p) (fun k => sc (chs (q + 1) (k + 1) : Int) (mul (pw f (k + 1)) (pw g (q + 1 - (k + 1))))) q (fun k hk i _ => by
    show ((chs (q + 1) (k + 1) : Nat) : Int) * _ % p = 0
    have hd := chs_div hp (show 0 < k + 1 by omega) (show k + 1 < q + 1 by omega)
    have hd2 : p ∣ ((chs (q + 1) (k + 1) : Nat) : Int) := by
      rw [show p = ((q + 1 : Nat) : Int) from by omega]
      exact Int.natCast_dvd_natCast.2 hd
    exact Int.emod_eq_zero_of_dvd (Int.dvd_trans hd2 (Int.dvd_mul_right _ _)))
  intro i
  show (((1 : Nat) : Int) * pw g (q + 1) i + sumS _ q i + ((1 : Nat) : Int) * pw f (q + 1) i) % p = (pw f (q + 1) i + pw g (q + 1) i) % p
  have := hm i (Nat.zero_le _)
  rw [Int.natCast_one, Int.one_mul, Int.one_mul]
  rw [show pw g (q + 1) i + sumS (fun k => sc (chs (q + 1) (k + 1) : Int) (mul (pw f (k + 1)) (pw g (q + 1 - (k + 1))))) q i + pw f (q + 1) i = (pw f (q + 1) i + pw g (q + 1) i) + sumS (fun k => sc (chs (q + 1) (k + 1) : Int) (mul (pw f (k + 1)) (pw g (q + 1 - (k + 1))))) q i from by omega]
  rw [Int.add_emod, this]
  simp
end Ser
end Go.Proofs.YtnkhhndjbanmnaaGreatDoor

/- Polynomials by a small prime, as rows of residues: plain ones, the quotient and the rest, common divisors. Mathematics alone. -/
namespace Go.Proofs.YtnkhhndjbanmnaaGreatDoor
open Ser (Eq Bd)

def cf (xs : List Int) : Ser := fun i => xs.getD i 0
theorem cf_nil (i : Nat) : cf [] i = 0 := by simp [cf]
theorem cf_cons_zero (x : Int) (xs : List Int) : cf (x :: xs) 0 = x := by simp [cf]
theorem cf_cons_succ (x : Int) (xs : List Int) (i : Nat) : cf (x :: xs) (i + 1) = cf xs i := by simp [cf]
theorem cf_over {xs : List Int} {i : Nat} (h : xs.length ≤ i) : cf xs i = 0 := by
  show xs.getD i 0 = 0
  rw [List.getD_eq_getElem?_getD, List.getElem?_eq_none h]; rfl
theorem cf_at {xs : List Int} {i : Nat} (h : i < xs.length) : cf xs i = xs[i] := by
  show xs.getD i 0 = _
  rw [List.getD_eq_getElem?_getD, List.getElem?_eq_getElem h]; rfl
theorem cf_ext {xs ys : List Int} (hl : xs.length = ys.length) (h : ∀ i, cf xs i = cf ys i) : xs = ys := by
  apply List.ext_getElem hl
  intro i h1 h2
  rw [← cf_at h1, ← cf_at h2, h i]
theorem cf_take {xs : List Int} (k i : Nat) : cf (xs.take k) i = if i < k then cf xs i else 0 := by
  show (xs.take k).getD i 0 = _
  rw [List.getD_eq_getElem?_getD]
  by_cases h : i < k
  · rw [if_pos h, List.getElem?_take_of_lt h]; rfl
  · rw [if_neg h, List.getElem?_eq_none (by rw [List.length_take]; omega)]; rfl
theorem cf_append (xs ys : List Int) (i : Nat) : cf (xs ++ ys) i = if i < xs.length then cf xs i else cf ys (i - xs.length) := by
  show (xs ++ ys).getD i 0 = _
  rw [List.getD_eq_getElem?_getD]
  by_cases h : i < xs.length
  · rw [if_pos h, List.getElem?_append_left h]; rfl
  · rw [if_neg h, List.getElem?_append_right (by omega)]; rfl
theorem cf_set {xs : List Int} (k : Nat) (u : Int) (hk : k < xs.length) (i : Nat) : cf (xs.set k u) i = if i = k then u else cf xs i := by
  show (xs.set k u).getD i 0 = _
  rw [List.getD_eq_getElem?_getD, List.getElem?_set]
  by_cases h : i = k
  · subst h; rw [if_pos rfl, if_pos hk, if_pos rfl]; rfl
  · rw [if_neg (fun e => h e.symm), if_neg h]; rfl
theorem cf_map (f : Int → Int) (h0 : f 0 = 0) (xs : List Int) (i : Nat) : cf (xs.map f) i = f (cf xs i) := by
  show (xs.map f).getD i 0 = f (xs.getD i 0)
  rw [List.getD_eq_getElem?_getD, List.getD_eq_getElem?_getD, List.getElem?_map]
  cases xs[i]? with
  | none => simp [h0]
  | some x => rfl
theorem cf_replicate (n i : Nat) : cf (List.replicate n 0) i = 0 := by
  show (List.replicate n (0 : Int)).getD i 0 = 0
  rw [List.getD_eq_getElem?_getD]
  by_cases h : i < n <;> simp [h]

def Rs (p : Int) (xs : List Int) : Prop := ∀ x ∈ xs, 0 ≤ x ∧ x < p
theorem Rs.nil (p : Int) : Rs p [] := fun _ h => by cases h
theorem Rs.at {p : Int} {xs : List Int} (h : Rs p xs) (hp : 1 ≤ p) (i : Nat) : 0 ≤ cf xs i ∧ cf xs i < p := by
  by_cases hi : i < xs.length
  · rw [cf_at hi]; exact h _ (List.getElem_mem hi)
  · rw [cf_over (by omega)]; omega
theorem Rs.of_at {p : Int} {xs : List Int} (h : ∀ i, i < xs.length → 0 ≤ cf xs i ∧ cf xs i < p) : Rs p xs := by
  intro x hx
  obtain ⟨i, hi, rfl⟩ := List.getElem_of_mem hx
  rw [← cf_at hi]; exact h i hi
theorem Rs.snoc {p : Int} {xs : List Int} (h : Rs p xs) {x : Int} (hx : 0 ≤ x ∧ x < p) : Rs p (xs ++ [x]) := by
  intro y hy
  rcases List.mem_append.1 hy with hy | hy
  · exact h y hy
  · simp at hy; subst hy; exact hx
theorem Rs.take {p : Int} {xs : List Int} (h : Rs p xs) (k : Nat) : Rs p (xs.take k) := fun y hy => h y (List.mem_of_mem_take hy)
theorem Rs.set {p : Int} {xs : List Int} (h : Rs p xs) (k : Nat) {u : Int} (hu : 0 ≤ u ∧ u < p) : Rs p (xs.set k u) := by
  intro y hy
  rcases List.mem_or_eq_of_mem_set hy with hy | rfl
  · exact h y hy
  · exact hu
theorem Rs.append {p : Int} {xs ys : List Int} (h : Rs p xs) (k : Rs p ys) : Rs p (xs ++ ys) := fun y hy => by
  rcases List.mem_append.1 hy with hy | hy
  · exact h y hy
  · exact k y hy
theorem Rs.zeros {p : Int} (n : Nat) (hp : 1 ≤ p) : Rs p (List.replicate n 0) := fun y hy => by rw [List.eq_of_mem_replicate hy]; omega
theorem Rs.emod {p : Int} {xs : List Int} (h : Rs p xs) (hp : 1 ≤ p) (i : Nat) : cf xs i % p = cf xs i := Int.emod_eq_of_lt (h.at hp i).1 (h.at hp i).2

def Pln (p : Int) (xs : List Int) : Prop := Rs p xs ∧ (xs = [] ∨ cf xs (xs.length - 1) ≠ 0)
theorem Pln.nil (p : Int) : Pln p [] := ⟨Rs.nil p, .inl rfl⟩
theorem Pln.top {p : Int} {xs : List Int} (h : Pln p xs) (hn : xs ≠ []) (hp : 1 ≤ p) : cf xs (xs.length - 1) % p ≠ 0 := by
  rw [h.1.emod hp]
  exact h.2.resolve_left hn
theorem bd_len (p : Int) (xs : List Int) : Bd p (cf xs) xs.length := fun i hi => by rw [cf_over hi]; simp
theorem Pln.len_le {p : Int} {xs : List Int} (h : Pln p xs) (hp : 1 ≤ p) {N : Nat} (hb : Bd p (cf xs) N) : xs.length ≤ N := by
  rcases Nat.lt_or_ge N xs.length with hlt | hge
  · have hne : xs ≠ [] := by intro e; subst e; simp at hlt
    exact absurd (hb (xs.length - 1) (by omega)) (h.top hne hp)
  · exact hge
theorem Pln.uniq {p : Int} {xs ys : List Int} (h : Pln p xs) (k : Pln p ys) (hp : 1 ≤ p) (e : Eq p (cf xs) (cf ys)) : xs = ys := by
  have h1 := h.len_le hp ((bd_len p ys).eq e.symm)
  have h2 := k.len_le hp ((bd_len p xs).eq e)
  refine cf_ext (by omega) fun i => ?_
  rw [← h.1.emod hp i, ← k.1.emod hp i]
  exact e i

def Pol (p : Int) (xs : List Int) (f : Ser) : Prop := Pln p xs ∧ Eq p (cf xs) f
theorem Pol.uniq {p : Int} {xs ys : List Int} {f g : Ser} (h : Pol p xs f) (k : Pol p ys g) (hp : 1 ≤ p) (e : Eq p f g) : xs = ys :=
  h.1.uniq k.1 hp (h.2.trans (e.trans k.2.symm))
theorem Pol.eq {p : Int} {xs : List Int} {f g : Ser} (h : Pol p xs f) (e : Eq p f g) : Pol p xs g := ⟨h.1, h.2.trans e⟩
theorem Pol.self {p : Int} {xs : List Int} (h : Pln p xs) : Pol p xs (cf xs) := ⟨h, Ser.Eq.refl p _⟩
theorem Pol.nought {p : Int} {xs : List Int} {f : Ser} (h : Pol p xs f) (hp : 1 ≤ p) : xs = [] ↔ Bd p f 0 := by
  constructor
  · rintro rfl
    exact (bd_len p []).eq h.2
  · intro hb
    have := h.1.len_le hp (hb.eq h.2.symm)
    exact List.eq_nil_of_length_eq_zero (by omega)

theorem pln_cut {p : Int} {xs : List Int} (h : Rs p xs) (k : Nat) (hk : k ≤ xs.length) (hz : ∀ i, k ≤ i → cf xs i = 0) (hl : k = 0 ∨ cf xs (k - 1) ≠ 0) :
    Pln p (xs.take k) ∧ ∀ i, cf (xs.take k) i = cf xs i := by
  have e : ∀ i, cf (xs.take k) i = cf xs i := by
    intro i
    rw [cf_take]
    by_cases hi : i < k
    · rw [if_pos hi]
    · rw [if_neg hi, hz i (by omega)]
  refine ⟨⟨h.take k, ?_⟩, e⟩
  rcases hl with rfl | hl
  · left; simp
  · right
    rw [List.length_take, Nat.min_eq_left hk, e]
    exact hl

theorem mul_nz {p a b : Int} (h : Pr p) (ha : a % p ≠ 0) (hb : b % p ≠ 0) : a * b % p ≠ 0 := by
  intro e
  have h1 := finv_spec h ha
  have h2 : finv a p * (a * b) % p = b % p := by
    rw [← Int.mul_assoc, Int.mul_comm (finv a p) a, Int.mul_emod, h1.2.2, Int.one_mul, Int.emod_emod_of_dvd _ (Int.dvd_refl p)]
  rw [Int.mul_emod, e, Int.mul_zero] at h2
  simp at h2
  exact hb h2.symm
theorem bd_down {p : Int} {f : Ser} (h : ∀ k, Bd p f (k + 1) → f k % p = 0) : ∀ N, Bd p f N → Bd p f 0 := by
  intro N
  induction N with
  | zero => exact id
  | succ N ih =>
    intro hb
    refine ih fun i hi => ?_
    rcases Nat.lt_or_ge N i with h1 | h1
    · exact hb i h1
    · obtain rfl : i = N := by omega
      exact h i hb
theorem mul_short {p : Int} {f g : Ser} {N m : Nat} (h : Pr p) (hf : Bd p f N) (hg : Bd p g (m + 1)) (ht : g m % p ≠ 0) (hs : Bd p (Ser.mul f g) m) : Bd p f 0 := by
  refine bd_down (fun k hk => ?_) N hf
  rcases Classical.em (f k % p = 0) with h0 | h0
  · exact h0
  · have := (Ser.mul_top hk hg).1
    rw [hs (k + m) (by omega)] at this
    exact absurd this.symm (mul_nz h h0 ht)
theorem eq_of_sub {p : Int} {f g : Ser} (h : Bd p (Ser.sub f g) 0) : Eq p f g := fun i => by
  have := h i (Nat.zero_le _)
  exact Int.emod_eq_emod_iff_emod_sub_eq_zero.2 this
def IsDiv (p : Int) (m : Nat) (a b q r : Ser) : Prop := Eq p a (Ser.add (Ser.mul q b) r) ∧ Bd p r m
theorem IsDiv.uniq {p : Int} {m N : Nat} {a b q r q' r' : Ser} (h : Pr p) (hb : Bd p b (m + 1)) (ht : b m % p ≠ 0) (hq : Bd p q N) (hq' : Bd p q' N)
    (d : IsDiv p m a b q r) (d' : IsDiv p m a b q' r') : Eq p q q' ∧ Eq p r r' := by
  have e : Eq p (Ser.add (Ser.mul q b) r) (Ser.add (Ser.mul q' b) r') := d.1.symm.trans d'.1
  have hm : Ser.mul (Ser.sub q q') b = Ser.sub (Ser.mul q b) (Ser.mul q' b) := by
    have e1 : Ser.sub q q' = Ser.add q (Ser.sc (-1) q') := by funext i; show q i - q' i = q i + -1 * q' i; omega
    rw [e1, Ser.add_mul, Ser.sc_mul]
    funext i
    show Ser.mul q b i + -1 * Ser.mul q' b i = Ser.mul q b i - Ser.mul q' b i
    omega
  have hs : Bd p (Ser.mul (Ser.sub q q') b) m := by
    rw [hm]
    intro i hi
    have h1 := e i
    have h2 := d.2 i hi
    have h3 := d'.2 i hi
    show (Ser.mul q b i - Ser.mul q' b i) % p = 0
    have h4 : (Ser.mul q b i + r i) % p = (Ser.mul q' b i + r' i) % p := h1
    rw [Int.add_emod, h2, Int.add_emod (Ser.mul q' b i), h3] at h4
    simp at h4
    exact Int.emod_eq_emod_iff_emod_sub_eq_zero.1 h4
  have hz := mul_short h (hq.sub hq') hb ht hs
  have hqq := eq_of_sub hz
  refine ⟨hqq, ?_⟩
  intro i
  have h1 := e i
  have h2 := (hqq.mulL b) i
  have h4 : (Ser.mul q b i + r i) % p = (Ser.mul q' b i + r' i) % p := h1
  have h5 := Int.emod_eq_emod_iff_emod_sub_eq_zero.1 h4
  have h6 := Int.emod_eq_emod_iff_emod_sub_eq_zero.1 h2
  refine Int.emod_eq_emod_iff_emod_sub_eq_zero.2 ?_
  have : r i - r' i = (Ser.mul q b i + r i - (Ser.mul q' b i + r' i)) - (Ser.mul q b i - Ser.mul q' b i) := by omega
  rw [this, Int.sub_emod, h5, h6]
  simp
end Go.Proofs.YtnkhhndjbanmnaaGreatDoor

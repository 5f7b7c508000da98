/- Texts joined, in their order: NatMath, PolRest, DvM, EuRun, NatWords, NatTrim, NatBits, NatAdd1, NatAdd2, NatTake, NatMem, NatVal, NatSum, NatCmp, NatSub, NatRow, NatLop, NatAt, NatHalf, NatMul, RefSame, RefOw, RefMath, RefCut, RefDig, RefLim, RefMul, RefAdd, RefSum, RefLess, RefBits, ZSign, PolPow. -/
import Derived.WalkKit
import Derived.WalkSpells
import Derived.Laws.OwnMore
import Derived.Deep.Draws
import Derived.Laws.Rows
import Derived.Lib.Hide
import Derived.Test.YtbipbpakbanacaaDoorChecked
import Derived.Test.YtbipbpakbanacaaDoorShelf
import Derived.Laws.Externs
import Derived.Shelf.Spec.BitsCarry
import Derived.OneCell
import Derived.WalkLawsBesides
import Derived.Laws.CopyOwn
import Derived.OwnWalk
import Derived.Deep.QuietTactic
import Derived.BigQuiet
import Derived.Laws.MathBits
import Derived.Lib.BitFns
import Derived.Deep.RegionWith
import Derived.StillTailTactics
import Derived.Deep.RegionHeld3
import Derived.Laws.AppendOwnNone
import Derived.Deep.RegionLaw
import Derived.Laws.ShiftsVarLaws
import Derived.Laws.Bits64b
import Derived.Test.YtbipbpakbanacaaDoorMg1
import Derived.Test.YtbipbpakbanacaaDoorMg2

/- Plain mathematics on lists of limbs: the value of a list of base-2^64 digits, and the plain list of digits of a number. No program text. -/
namespace Go.Proofs.YtbipbpakbanacaaDoor
/-- The base. -/
abbrev Wd : Nat := 18446744073709551616

/-- The number that limbs are, the lowest first. -/
def val : List Nat → Nat
  | [] => 0
  | x :: xs => x + 18446744073709551616 * val xs

/-- All limbs fit. -/
def Fit (xs : List Nat) : Prop := ∀ x ∈ xs, x < 18446744073709551616

/-- The plain limbs of a number (no noughts at the end), by fuel. -/
def nrmF : Nat → Nat → List Nat
  | 0, _ => []
  | f + 1, v => if v = 0 then [] else v % 18446744073709551616 :: nrmF f (v / 18446744073709551616)
def nrm (v : Nat) : List Nat := nrmF v v

theorem nrmF_eq (f g v : Nat) (hf : v ≤ f) (hg : v ≤ g) : nrmF f v = nrmF g v := by
  induction f generalizing g v with
  | zero =>
    have : v = 0 := by omega
    subst this
    cases g <;> simp [nrmF]
  | succ f ih =>
    cases g with
    | zero =>
      have : v = 0 := by omega
      subst this
      simp [nrmF]
    | succ g =>
      by_cases h : v = 0
      · simp [nrmF, h]
      · simp only [nrmF, h, if_false]
        rw [ih g _ (by omega) (by omega)]

theorem nrm_zero : nrm 0 = [] := rfl
theorem nrm_pos (v : Nat) (h : v ≠ 0) : nrm v = v % 18446744073709551616 :: nrm (v / 18446744073709551616) := by
  obtain ⟨u, rfl⟩ : ∃ u, v = u + 1 := ⟨v - 1, by omega⟩
  show nrmF (u + 1) (u + 1) = _
  rw [nrmF, if_neg h]
  unfold nrm
  rw [nrmF_eq u ((u + 1) / 18446744073709551616) _ (by omega) (by omega)]

theorem fit_nil : Fit [] := fun _ h => by cases h
theorem fit_cons {x : Nat} {xs : List Nat} (hx : x < 18446744073709551616) (h : Fit xs) : Fit (x :: xs) := by
  intro y hy
  rcases List.mem_cons.1 hy with rfl | hy
  · exact hx
  · exact h _ hy
theorem fit_head {x : Nat} {xs : List Nat} (h : Fit (x :: xs)) : x < 18446744073709551616 := h x (by simp)
theorem fit_tail {x : Nat} {xs : List Nat} (h : Fit (x :: xs)) : Fit xs := fun y hy => h y (by simp [hy])
theorem fit_take {xs : List Nat} (h : Fit xs) (k : Nat) : Fit (xs.take k) := fun y hy => h y (List.mem_of_mem_take hy)
theorem fit_drop {xs : List Nat} (h : Fit xs) (k : Nat) : Fit (xs.drop k) := fun y hy => h y (List.mem_of_mem_drop hy)
theorem fit_append {xs ys : List Nat} (h : Fit xs) (k : Fit ys) : Fit (xs ++ ys) := fun y hy => by
  rcases List.mem_append.1 hy with hy | hy
  · exact h _ hy
  · exact k _ hy
theorem fit_get {xs : List Nat} (h : Fit xs) (j : Nat) (hj : j < xs.length) : xs[j] < 18446744073709551616 := h _ (List.getElem_mem hj)
theorem fit_getD {xs : List Nat} (h : Fit xs) (j : Nat) : xs.getD j 0 < 18446744073709551616 := by
  rw [List.getD_eq_getElem?_getD]
  by_cases hj : j < xs.length
  · rw [List.getElem?_eq_getElem hj]; exact fit_get h j hj
  · rw [List.getElem?_eq_none (by omega)]; decide

theorem val_nil : val [] = 0 := rfl
theorem val_cons (x : Nat) (xs : List Nat) : val (x :: xs) = x + 18446744073709551616 * val xs := rfl
theorem val_append (xs ys : List Nat) : val (xs ++ ys) = val xs + 18446744073709551616 ^ xs.length * val ys := by
  induction xs with
  | nil => simp [val]
  | cons x xs ih =>
    simp only [List.cons_append, val_cons, ih, List.length_cons, Nat.pow_succ]
    rw [Nat.mul_add, Nat.add_assoc, ← Nat.mul_assoc, Nat.mul_comm 18446744073709551616 (18446744073709551616 ^ xs.length)]
theorem val_lt {xs : List Nat} (h : Fit xs) : val xs < 18446744073709551616 ^ xs.length := by
  induction xs with
  | nil => simp [val]
  | cons x xs ih =>
    have h1 := ih (fit_tail h)
    have h2 := fit_head h
    rw [val_cons, List.length_cons, Nat.pow_succ, Nat.mul_comm _ 18446744073709551616]
    have : 18446744073709551616 * (val xs + 1) ≤ 18446744073709551616 * 18446744073709551616 ^ xs.length := Nat.mul_le_mul_left _ h1
    omega
theorem val_nrm (v : Nat) : val (nrm v) = v := by
  induction v using Nat.strongRecOn with
  | ind v ih =>
    by_cases h : v = 0
    · subst h; rfl
    · rw [nrm_pos v h, val_cons, ih (v / 18446744073709551616) (by omega)]
      omega
theorem fit_nrm (v : Nat) : Fit (nrm v) := by
  induction v using Nat.strongRecOn with
  | ind v ih =>
    by_cases h : v = 0
    · subst h; exact fit_nil
    · rw [nrm_pos v h]
      exact fit_cons (by omega) (ih _ (by omega))
theorem nrm_inj {u v : Nat} (h : nrm u = nrm v) : u = v := by rw [← val_nrm u, ← val_nrm v, h]
theorem nrm_nil_iff (v : Nat) : nrm v = [] ↔ v = 0 := ⟨fun h => by rw [← val_nrm v, h]; rfl, fun h => by rw [h]; rfl⟩

/-- A list whose last limb isn't nought is the plain list of its value. -/
theorem nrm_val_of_last {xs : List Nat} (h : Fit xs) (hl : ∀ (hne : xs ≠ []), xs.getLast hne ≠ 0) : nrm (val xs) = xs := by
  induction xs with
  | nil => rfl
  | cons x xs ih =>
    have hx := fit_head h
    have ih' : nrm (val xs) = xs := ih (fit_tail h) (fun hne => by
      have := hl (by simp)
      rwa [List.getLast_cons hne] at this)
    have hpos : val (x :: xs) ≠ 0 := by
      intro h0
      rw [val_cons] at h0
      have hx0 : x = 0 := by omega
      have hv0 : val xs = 0 := by omega
      rw [hv0] at ih'
      have hxs : xs = [] := ih'.symm
      subst hxs
      exact hl (by simp) (by simpa using hx0)
    rw [nrm_pos _ hpos, val_cons]
    have e1 : (x + 18446744073709551616 * val xs) % 18446744073709551616 = x := by omega
    have e2 : (x + 18446744073709551616 * val xs) / 18446744073709551616 = val xs := by omega
    rw [e1, e2, ih']

theorem val_take_succ (xs : List Nat) (k : Nat) (hk : k < xs.length) : val (xs.take (k + 1)) = val (xs.take k) + 18446744073709551616 ^ k * xs[k] := by
  rw [List.take_succ_eq_append_getElem hk, val_append, val_cons, val_nil, List.length_take, Nat.min_eq_left (by omega)]
  simp
theorem val_take_zero (xs : List Nat) : val (xs.take 0) = 0 := by simp [val]
theorem val_take_all (xs : List Nat) : val (xs.take xs.length) = val xs := by rw [List.take_length]

/-- How long the plain list is. -/
theorem nrm_length_le {xs : List Nat} (h : Fit xs) : (nrm (val xs)).length ≤ xs.length := by
  induction xs with
  | nil => simp [val, nrm, nrmF]
  | cons x xs ih =>
    by_cases h0 : val (x :: xs) = 0
    · rw [h0]; simp [nrm, nrmF]
    · have hx := fit_head h
      rw [nrm_pos _ h0, val_cons]
      have e2 : (x + 18446744073709551616 * val xs) / 18446744073709551616 = val xs := by omega
      rw [e2]
      simp only [List.length_cons]
      have := ih (fit_tail h)
      omega

/-- The trimmed list is a front part of the list. -/
theorem take_nrm {xs : List Nat} (h : Fit xs) : xs.take (nrm (val xs)).length = nrm (val xs) := by
  induction xs with
  | nil => simp [val, nrm, nrmF]
  | cons x xs ih =>
    by_cases h0 : val (x :: xs) = 0
    · rw [h0]; simp [nrm, nrmF]
    · have hx := fit_head h
      rw [nrm_pos _ h0, val_cons]
      have e1 : (x + 18446744073709551616 * val xs) % 18446744073709551616 = x := by omega
      have e2 : (x + 18446744073709551616 * val xs) / 18446744073709551616 = val xs := by omega
      rw [e1, e2]
      simp only [List.length_cons, List.take_succ_cons]
      rw [ih (fit_tail h)]

/-- The loop of trim: what is left out is nought. -/
theorem val_take_zero_last (xs : List Nat) (k : Nat) (hk : k < xs.length) (h0 : xs[k] = 0) : val (xs.take k) = val (xs.take (k + 1)) := by
  rw [val_take_succ xs k hk, h0]; simp
theorem trim_done {xs : List Nat} (h : Fit xs) (k : Nat) (hk : k ≤ xs.length) (hv : val (xs.take k) = val xs) (hz : k = 0 ∨ ∃ hj : k - 1 < xs.length, xs[k - 1] ≠ 0) : (nrm (val xs)).length = k := by
  rw [← hv]
  rcases hz with rfl | ⟨hj, hz⟩
  · simp [val, nrm, nrmF]
  · by_cases hk0 : k = 0
    · subst hk0; simp [val, nrm, nrmF]
    · rw [nrm_val_of_last (fit_take h k) (fun hne => ?_), List.length_take, Nat.min_eq_left hk]
      rw [List.getLast_eq_getElem]
      simp only [List.length_take, Nat.min_eq_left hk, List.getElem_take]
      exact hz

/-- n limbs of a number, the lowest first. -/
def dig : Nat → Nat → List Nat
  | 0, _ => []
  | n + 1, v => v % 18446744073709551616 :: dig n (v / 18446744073709551616)
theorem dig_length (n v : Nat) : (dig n v).length = n := by
  induction n generalizing v with
  | zero => rfl
  | succ n ih => simp [dig, ih]
theorem fit_dig (n v : Nat) : Fit (dig n v) := by
  induction n generalizing v with
  | zero => exact fit_nil
  | succ n ih => exact fit_cons (by omega) (ih _)
theorem dig_val {xs : List Nat} (h : Fit xs) : dig xs.length (val xs) = xs := by
  induction xs with
  | nil => rfl
  | cons x xs ih =>
    have hx := fit_head h
    simp only [List.length_cons, dig, val_cons]
    have e1 : (x + 18446744073709551616 * val xs) % 18446744073709551616 = x := by omega
    have e2 : (x + 18446744073709551616 * val xs) / 18446744073709551616 = val xs := by omega
    rw [e1, e2, ih (fit_tail h)]
theorem val_dig (n v : Nat) : val (dig n v) = v % 18446744073709551616 ^ n := by
  induction n generalizing v with
  | zero => simp [dig, val, Nat.mod_one]
  | succ n ih =>
    rw [dig, val_cons, ih, Nat.pow_succ, Nat.mul_comm (18446744073709551616 ^ n), Nat.mod_mul]
theorem dig_snoc (n v : Nat) : dig (n + 1) v = dig n v ++ [v / 18446744073709551616 ^ n % 18446744073709551616] := by
  induction n generalizing v with
  | zero => simp [dig]
  | succ n ih =>
    rw [dig, ih (v / 18446744073709551616)]
    rw [show dig (n + 1) v = v % 18446744073709551616 :: dig n (v / 18446744073709551616) from rfl]
    rw [Nat.div_div_eq_div_mul, Nat.pow_succ, Nat.mul_comm 18446744073709551616]
    rfl
theorem dig_mod (n v : Nat) : dig n (v % 18446744073709551616 ^ n) = dig n v := by
  have := dig_val (fit_dig n v)
  rw [dig_length, val_dig] at this
  exact this
theorem dig_add_mul (n v u : Nat) : dig n (v + 18446744073709551616 ^ n * u) = dig n v := by
  rw [← dig_mod n (v + 18446744073709551616 ^ n * u), Nat.add_mul_mod_self_left, dig_mod]
theorem val_dig_of_lt {n v : Nat} (h : v < 18446744073709551616 ^ n) : val (dig n v) = v := by rw [val_dig, Nat.mod_eq_of_lt h]
theorem eq_of_val {xs ys : List Nat} (hx : Fit xs) (hy : Fit ys) (hl : xs.length = ys.length) (h : val xs = val ys) : xs = ys := by
  rw [← dig_val hx, ← dig_val hy, hl, h]
end Go.Proofs.YtbipbpakbanacaaDoor

/- Rests of polynomials by another one, powers' rests, a number's bits. Mathematics alone. -/
namespace Go.Proofs.YtbipbpakbanacaaDoor

/-- What ends. -/
def Fini (p : Int) (f : Ser) : Prop := ∃ N, Ser.Bd p f N
theorem fini_cf (p : Int) (xs : List Int) : Fini p (cf xs) := ⟨xs.length, bd_len p xs⟩
theorem Fini.eq {p : Int} {f g : Ser} (h : Fini p f) (e : Ser.Eq p f g) : Fini p g := h.imp fun _ h => h.eq e
theorem Fini.add {p : Int} {f g : Ser} (h : Fini p f) (k : Fini p g) : Fini p (Ser.add f g) := by
  obtain ⟨N, hN⟩ := h
  obtain ⟨M, hM⟩ := k
  exact ⟨max N M, (hN.mono (by omega)).add (hM.mono (by omega))⟩
theorem Fini.mul {p : Int} {f g : Ser} (h : Fini p f) (k : Fini p g) : Fini p (Ser.mul f g) := by
  obtain ⟨N, hN⟩ := h
  obtain ⟨M, hM⟩ := k
  exact ⟨N + M + 1, (Ser.mul_top (hN.mono (by omega : N ≤ N + 1)) (hM.mono (by omega : M ≤ M + 1))).2⟩
theorem Fini.sc {p c : Int} {f : Ser} (h : Fini p f) : Fini p (Ser.sc c f) := by
  obtain ⟨N, hN⟩ := h
  exact ⟨N, fun i hi => by show c * f i % p = 0; rw [Int.mul_emod, hN i hi]; simp⟩

/-- r is f's rest by b, whose last place is m. -/
def RestOf (p : Int) (m : Nat) (f b r : Ser) : Prop := ∃ q, Fini p q ∧ IsDiv p m f b q r
theorem RestOf.uniq {p : Int} {m : Nat} {f f' b r r' : Ser} (hp : Pr p) (hb : Ser.Bd p b (m + 1)) (ht : b m % p ≠ 0) (h : RestOf p m f b r) (k : RestOf p m f' b r') (e : Ser.Eq p f f') : Ser.Eq p r r' := by
  obtain ⟨q, ⟨N, hN⟩, h1, h2⟩ := h
  obtain ⟨q', ⟨M, hM⟩, k1, k2⟩ := k
  exact (IsDiv.uniq (N := max N M) hp hb ht (hN.mono (by omega)) (hM.mono (by omega)) ⟨h1, h2⟩ ⟨e.trans k1, k2⟩).2
theorem RestOf.eq {p : Int} {m : Nat} {f f' b r : Ser} (h : RestOf p m f b r) (e : Ser.Eq p f f') : RestOf p m f' b r := by
  obtain ⟨q, hq, h1, h2⟩ := h
  exact ⟨q, hq, e.symm.trans h1, h2⟩
theorem RestOf.fini {p : Int} {m : Nat} {f b r : Ser} (h : RestOf p m f b r) : Fini p r := by
  obtain ⟨_, _, _, h2⟩ := h
  exact ⟨m, h2⟩
theorem RestOf.eqR {p : Int} {m : Nat} {f b r r' : Ser} (h : RestOf p m f b r) (e : Ser.Eq p r r') : RestOf p m f b r' := by
  obtain ⟨q, hq, h1, h2⟩ := h
  exact ⟨q, hq, h1.trans ((Ser.Eq.refl p _).add e), h2.eq e⟩
theorem RestOf.eqB {p : Int} {m : Nat} {f b b' r : Ser} (h : RestOf p m f b r) (e : Ser.Eq p b b') : RestOf p m f b' r := by
  obtain ⟨q, hq, h1, h2⟩ := h
  exact ⟨q, hq, h1.trans (((Ser.Eq.refl p _).mul e).add (Ser.Eq.refl p _)), h2⟩
theorem RestOf.mulR {p : Int} {m : Nat} {f g b r1 r : Ser} (h : RestOf p m f b r1) (hg : Fini p g) (k : RestOf p m (Ser.mul r1 g) b r) : RestOf p m (Ser.mul f g) b r := by
  obtain ⟨q1, f1, h1, h2⟩ := h
  obtain ⟨q2, f2, k1, k2⟩ := k
  refine ⟨Ser.add (Ser.mul q1 g) q2, (f1.mul hg).add f2, ?_, k2⟩
  refine (h1.mulL g).trans ?_
  rw [Ser.add_mul, Ser.mul_assoc, Ser.mul_comm b g, ← Ser.mul_assoc, Ser.add_mul, Ser.add_assoc]
  exact (Ser.Eq.refl p _).add k1
theorem RestOf.sq {p : Int} {m : Nat} {f b r1 r : Ser} (h : RestOf p m f b r1) (hf : Fini p f) (k : RestOf p m (Ser.mul r1 r1) b r) : RestOf p m (Ser.mul f f) b r := by
  have h1 : RestOf p m (Ser.mul f r1) b r := h.mulR h.fini k
  rw [Ser.mul_comm] at h1
  exact h.mulR hf h1
theorem fini_pw {p : Int} {f : Ser} (h : Fini p f) (n : Nat) : Fini p (Ser.pw f n) := by
  induction n with
  | zero => exact ⟨1, fun i hi => by show (if i = 0 then (1 : Int) else 0) % p = 0; rw [if_neg (by omega)]; simp⟩
  | succ n ih => exact ih.mul h

/-- Bit i of a number, told by its limb. -/
theorem pow_split64 (k : Nat) : 18446744073709551616 ^ (k / 64) * 2 ^ (k % 64) = 2 ^ k := by
  rw [show (18446744073709551616 : Nat) = 2 ^ 64 by decide, ← Nat.pow_mul, ← Nat.pow_add, Nat.div_add_mod]
theorem bit64_of (xs : List Nat) (i : Nat) (hx : Fit xs) : xs.getD (i / 64) 0 / 2 ^ (i % 64) % 2 = val xs / 2 ^ i % 2 := by
  by_cases hk : i / 64 < xs.length
  · have hlt := val_lt (fit_take hx (i / 64))
    rw [List.length_take, Nat.min_eq_left (by omega)] at hlt
    have hs : val xs = val (xs.take (i / 64)) + 18446744073709551616 ^ (i / 64) * (xs.getD (i / 64) 0 + 18446744073709551616 * val (xs.drop (i / 64 + 1))) := by
      have e : xs = xs.take (i / 64) ++ (xs.getD (i / 64) 0 :: xs.drop (i / 64 + 1)) := by
        rw [List.getD_eq_getElem?_getD, List.getElem?_eq_getElem hk, Option.getD_some, ← List.drop_eq_getElem_cons hk, List.take_append_drop]
      conv => lhs; rw [e]
      rw [val_append, List.length_take, Nat.min_eq_left (by omega), val_cons]
    rw [hs, ← pow_split64 i, ← Nat.div_div_eq_div_mul, Nat.add_mul_div_left _ _ (Nat.pow_pos (by decide)), Nat.div_eq_of_lt hlt, Nat.zero_add]
    have e : 18446744073709551616 = 2 ^ (i % 64) * (2 * 2 ^ (63 - i % 64)) := by
      rw [← Nat.mul_assoc, ← Nat.pow_succ, ← Nat.pow_add, show i % 64 + 1 + (63 - i % 64) = 64 by omega]
    generalize xs.getD (i / 64) 0 = x
    generalize val (xs.drop (i / 64 + 1)) = T
    rw [e, Nat.mul_assoc, Nat.add_mul_div_left _ _ (Nat.pow_pos (by decide)), Nat.mul_assoc, Nat.add_mul_mod_self_left]
  · have hz : xs.getD (i / 64) 0 = 0 := by
      rw [List.getD_eq_getElem?_getD, List.getElem?_eq_none (by omega)]; rfl
    have hv := val_lt hx
    have hle : 18446744073709551616 ^ xs.length ≤ 2 ^ i := by
      rw [← pow_split64 i]
      have h1 : 18446744073709551616 ^ xs.length ≤ 18446744073709551616 ^ (i / 64) := Nat.pow_le_pow_right (by decide) (by omega)
      have h2 : 18446744073709551616 ^ (i / 64) * 1 ≤ 18446744073709551616 ^ (i / 64) * 2 ^ (i % 64) := Nat.mul_le_mul_left _ (Nat.pow_pos (by decide))
      omega
    rw [hz, Nat.zero_div, Nat.div_eq_of_lt (by omega)]
/-- One bit more of the exponent. -/
theorem pw_bit (f : Ser) (V k : Nat) : Ser.pw f (V / 2 ^ k) = if V / 2 ^ k % 2 = 1 then Ser.mul (Ser.mul (Ser.pw f (V / 2 ^ (k + 1))) (Ser.pw f (V / 2 ^ (k + 1)))) f else Ser.mul (Ser.pw f (V / 2 ^ (k + 1))) (Ser.pw f (V / 2 ^ (k + 1))) := by
  have h1 : V / 2 ^ (k + 1) = V / 2 ^ k / 2 := by rw [Nat.pow_succ, ← Nat.div_div_eq_div_mul]
  rw [h1]
  generalize V / 2 ^ k = u
  by_cases h : u % 2 = 1
  · rw [if_pos h, ← Ser.pw_add, ← Ser.pw_succ]
    congr 1; omega
  · rw [if_neg h, ← Ser.pw_add]
    congr 1; omega
end Go.Proofs.YtbipbpakbanacaaDoor

/- Long division from the top place down, each quotient's coefficient told by what is left so far. Mathematics alone. -/
namespace Go.Proofs.YtbipbpakbanacaaDoor
open Ser (Eq Bd)

/-- What is left of a. -/
def lft2 (xs Q ys : List Int) : Ser := fun i => cf xs i - Ser.mul (cf Q) (cf ys) i
/-- The quotient's places from t on are told. -/
structure DvD (p : Int) (K m t : Nat) (xs ys Q : List Int) : Prop where
  len : Q.length = K
  rs : Rs p Q
  low : ∀ j, j < t → cf Q j = 0
  done : ∀ j, t ≤ j → lft2 xs Q ys (j + m) % p = 0
theorem dvD_start {p : Int} (hp : 1 ≤ p) {K m : Nat} (xs ys : List Int) (h : xs.length ≤ K + m) : DvD p K m K xs ys (List.replicate K 0) := by
  refine ⟨by simp, Rs.zeros K hp, fun j _ => cf_replicate K j, fun j hj => ?_⟩
  show (cf xs (j + m) - Ser.mul (cf (List.replicate K 0)) (cf ys) (j + m)) % p = 0
  have e : cf (List.replicate K 0) = Ser.zer := funext fun j => cf_replicate K j
  rw [e, Ser.zer_mul, cf_over (by omega)]
  show (0 - 0 : Int) % p = 0
  simp
theorem DvD.step {p : Int} (hp : Pr p) {K m t : Nat} {xs ys Q : List Int} (hz : ∀ j, m < j → cf ys j = 0) (ht : cf ys m % p ≠ 0) (h : DvD p K m (t + 1) xs ys Q) (hK : t < K)
    (c : Int) (hc : c = lft2 xs Q ys (t + m) % p * finv (cf ys m) p % p) : DvD p K m t xs ys (Q.set t c) := by
  have h2 := hp.1
  have hc0 : 0 ≤ c ∧ c < p := by rw [hc]; exact ⟨Int.emod_nonneg _ (by omega), Int.emod_lt_of_pos _ (by omega)⟩
  have e1 : cf (Q.set t c) = Ser.add (cf Q) (Ser.mono c t) := by
    funext i
    rw [cf_set _ _ (by rw [h.len]; exact hK)]
    show _ = cf Q i + if i = t then c else 0
    by_cases e : i = t
    · rw [if_pos e, if_pos e, e, h.low t (by omega), Int.zero_add]
    · rw [if_neg e, if_neg e, Int.add_zero]
  have e2 : ∀ i, lft2 xs (Q.set t c) ys i = lft2 xs Q ys i - (if t ≤ i then c * cf ys (i - t) else 0) := by
    intro i
    show cf xs i - Ser.mul (cf (Q.set t c)) (cf ys) i = cf xs i - Ser.mul (cf Q) (cf ys) i - _
    rw [e1, Ser.add_mul]
    show cf xs i - (Ser.mul (cf Q) (cf ys) i + Ser.mul (Ser.mono c t) (cf ys) i) = _
    rw [Ser.mono_mul_at]
    omega
  refine ⟨by rw [List.length_set, h.len], h.rs.set _ hc0, fun j hj => ?_, fun j hj => ?_⟩
  · rw [cf_set _ _ (by rw [h.len]; exact hK), if_neg (by omega)]
    exact h.low j (by omega)
  · rw [e2, if_pos (by omega)]
    by_cases e : j = t
    · subst e
      rw [show j + m - j = m from by omega, hc]
      have hs := (finv_spec hp ht).2.2
      generalize lft2 xs Q ys (j + m) = R at *
      generalize cf ys m = T at *
      have e3 : R % p * finv T p % p * T % p = R % p := by
        rw [Int.mul_emod, Int.emod_emod_of_dvd _ (Int.dvd_refl p), ← Int.mul_emod, Int.mul_assoc, Int.mul_comm (finv T p) T, Int.mul_emod, hs, Int.mul_one, Int.emod_emod_of_dvd _ (Int.dvd_refl p), Int.emod_emod_of_dvd _ (Int.dvd_refl p)]
      exact Int.emod_eq_emod_iff_emod_sub_eq_zero.1 e3.symm
    · rw [hz (j + m - t) (by omega), Int.mul_zero, Int.sub_zero]
      exact h.done j (by omega)
theorem DvD.isDiv {p : Int} {K m : Nat} {xs ys Q : List Int} (h : DvD p K m 0 xs ys Q) : IsDiv p m (cf xs) (cf ys) (cf Q) (fst m (lft2 xs Q ys)) := by
  have hb : Bd p (lft2 xs Q ys) m := fun i hi => by
    have := h.done (i - m) (Nat.zero_le _)
    rwa [show i - m + m = i from by omega] at this
  refine ⟨?_, hb.eq (fst_bd hb).symm⟩
  refine Ser.Eq.trans ?_ ((Ser.Eq.refl p _).add (fst_bd hb).symm)
  refine Ser.Eq.of ?_
  funext i
  show cf xs i = Ser.mul (cf Q) (cf ys) i + (cf xs i - Ser.mul (cf Q) (cf ys) i)
  omega
theorem DvD.plain {p : Int} (hp : Pr p) {K m : Nat} {xs ys Q : List Int} (h : DvD p K m 0 xs ys Q) (hb : Bd p (cf ys) (m + 1)) (hx : Pln p xs) (hK : K = 0 ∨ K + m = xs.length) : Pln p Q := by
  have h2 := hp.1
  refine ⟨h.rs, ?_⟩
  rcases hK with hK | hK
  · left; exact List.eq_nil_of_length_eq_zero (by rw [h.len, hK])
  · rcases Nat.eq_zero_or_pos K with k0 | k0
    · left; exact List.eq_nil_of_length_eq_zero (by rw [h.len, k0])
    · right
      rw [h.len]
      intro e0
      have ht := hx.top (by intro e; rw [e] at hK; simp at hK; omega) (by omega)
      have hd := h.done (K - 1) (Nat.zero_le _)
      have hm := (Ser.mul_top (f := cf Q) (m := K - 1) (by have := bd_len p Q; rw [h.len] at this; rw [show K - 1 + 1 = K from by omega]; exact this) hb).1
      rw [e0, Int.zero_mul] at hm
      have hd' : (cf xs (K - 1 + m) - Ser.mul (cf Q) (cf ys) (K - 1 + m)) % p = 0 := hd
      rw [Int.sub_emod, hm] at hd'
      simp at hd'
      rw [show xs.length - 1 = K - 1 + m from by omega] at ht
      exact ht hd'
end Go.Proofs.YtbipbpakbanacaaDoor

/- Euclid's rows of two polynomials by a small prime: what they end in, told but once; it divides both, is made of both, and goes with a common factor. Mathematics alone. -/
namespace Go.Proofs.YtbipbpakbanacaaDoor
open Ser (Eq Bd)

/-- A row: a polynomial, and of how many of both it is made. -/
structure ERow where
  g : Ser
  s : Ser
  t : Ser

def ERow.Same (p : Int) (x y : ERow) : Prop := Eq p x.g y.g ∧ Eq p x.s y.s ∧ Eq p x.t y.t
theorem ERow.Same.refl (p : Int) (x : ERow) : x.Same p x := ⟨Ser.Eq.refl _ _, Ser.Eq.refl _ _, Ser.Eq.refl _ _⟩
theorem ERow.Same.symm {p : Int} {x y : ERow} (h : x.Same p y) : y.Same p x := ⟨h.1.symm, h.2.1.symm, h.2.2.symm⟩
theorem ERow.Same.trans {p : Int} {x y z : ERow} (h : x.Same p y) (k : y.Same p z) : x.Same p z := ⟨h.1.trans k.1, h.2.1.trans k.2.1, h.2.2.trans k.2.2⟩

/-- One less so many times another one. -/
def less (f q g : Ser) : Ser := Ser.add f (Ser.sc (-1) (Ser.mul q g))
theorem less_eq {p : Int} {f f' q q' g g' : Ser} (a : Eq p f f') (b : Eq p q q') (c : Eq p g g') : Eq p (less f q g) (less f' q' g') := a.add (Ser.Eq.sc rfl (b.mul c))
theorem less_back (f q g : Ser) : f = Ser.add (Ser.mul q g) (less f q g) := by
  funext i
  show f i = Ser.mul q g i + (f i + -1 * Ser.mul q g i)
  omega
theorem less_of {p : Int} {f q g r : Ser} (h : Eq p f (Ser.add (Ser.mul q g) r)) : Eq p r (less f q g) := by
  intro i
  have h1 := h i
  show r i % p = (f i + -1 * Ser.mul q g i) % p
  rw [Int.add_emod (f i), h1]
  show r i % p = ((Ser.mul q g i + r i) % p + -1 * Ser.mul q g i % p) % p
  rw [← Int.add_emod]
  congr 1; omega
def ERow.less (x : ERow) (q : Ser) (y : ERow) : ERow := ⟨Proofs.YtbipbpakbanacaaDoor.less x.g q y.g, Proofs.YtbipbpakbanacaaDoor.less x.s q y.s, Proofs.YtbipbpakbanacaaDoor.less x.t q y.t⟩

/-- Euclid's way from two rows to the last one that isn't nought. -/
inductive EuRun (p : Int) : ERow → ERow → ERow → Prop
  | stop {x y : ERow} : Bd p y.g 0 → EuRun p x y x
  | step {x y z o : ERow} (m : Nat) (q : Ser) : Bd p y.g (m + 1) → y.g m % p ≠ 0 → Fini p q → Bd p z.g m → z.Same p (x.less q y) → EuRun p y z o → EuRun p x y o

theorem EuRun.uniq {p : Int} (hp : Pr p) {x y o : ERow} (h : EuRun p x y o) : ∀ {x' y' o' : ERow}, EuRun p x' y' o' → x.Same p x' → y.Same p y' → o.Same p o' := by
  induction h with
  | stop hb =>
    intro x' y' o' k hx hy
    cases k with
    | stop _ => exact hx
    | step m q h1 h2 => exact absurd ((hy.1 m).symm.trans (hb m (Nat.zero_le _))) h2
  | @step x y z o m q h1 h2 h3 h4 h5 _ ih =>
    intro x' y' o' k hx hy
    cases k with
    | stop hb => exact absurd ((hy.1 m).trans (hb m (Nat.zero_le _))) h2
    | @step _ _ z' _ m' q' k1 k2 k3 k4 k5 k6 =>
      obtain rfl := top_uniq hy.1 h1 h2 k1 k2
      obtain ⟨N, hN⟩ := h3
      obtain ⟨M, hM⟩ := k3
      have d1 : IsDiv p m x.g y.g q z.g := ⟨(Ser.Eq.of (less_back x.g q y.g)).trans ((Ser.Eq.refl p _).add h5.1.symm), h4⟩
      have d2 : IsDiv p m x.g y.g q' z'.g := by
        refine ⟨hx.1.trans ((Ser.Eq.of (less_back x'.g q' y'.g)).trans ?_), k4⟩
        exact ((Ser.Eq.refl p q').mul hy.1.symm).add k5.1.symm
      obtain ⟨e1, e2⟩ := IsDiv.uniq (N := max N M) hp h1 h2 (hN.mono (by omega)) (hM.mono (by omega)) d1 d2
      refine ih k6 hy ⟨e2, ?_, ?_⟩
      · exact h5.2.1.trans ((less_eq hx.2.1 e1 hy.2.1).trans k5.2.1.symm)
      · exact h5.2.2.trans ((less_eq hx.2.2 e1 hy.2.2).trans k5.2.2.symm)

/-- What is made of both stays so. -/
def Made (p : Int) (a b : Ser) (x : ERow) : Prop := Eq p x.g (Ser.add (Ser.mul x.s a) (Ser.mul x.t b))
theorem Made.less {p : Int} {a b : Ser} {x y z : ERow} {q : Ser} (hx : Made p a b x) (hy : Made p a b y) (hz : z.Same p (x.less q y)) : Made p a b z := by
  refine hz.1.trans ?_
  refine Ser.Eq.trans (less_eq hx (Ser.Eq.refl p q) hy) ?_
  refine Ser.Eq.trans (Ser.Eq.of ?_) (((hz.2.1.symm).mulL a).add ((hz.2.2.symm).mulL b))
  show Proofs.YtbipbpakbanacaaDoor.less (Ser.add (Ser.mul x.s a) (Ser.mul x.t b)) q (Ser.add (Ser.mul y.s a) (Ser.mul y.t b)) = Ser.add (Ser.mul (Proofs.YtbipbpakbanacaaDoor.less x.s q y.s) a) (Ser.mul (Proofs.YtbipbpakbanacaaDoor.less x.t q y.t) b)
  unfold Proofs.YtbipbpakbanacaaDoor.less
  rw [Ser.mul_add, ← Ser.mul_assoc, ← Ser.mul_assoc, Ser.add_mul, Ser.add_mul, Ser.sc_mul, Ser.sc_mul]
  funext i
  show Ser.mul x.s a i + Ser.mul x.t b i + -1 * (Ser.mul (Ser.mul q y.s) a i + Ser.mul (Ser.mul q y.t) b i) = Ser.mul x.s a i + -1 * Ser.mul (Ser.mul q y.s) a i + (Ser.mul x.t b i + -1 * Ser.mul (Ser.mul q y.t) b i)
  omega
theorem EuRun.made {p : Int} {a b : Ser} {x y o : ERow} (h : EuRun p x y o) : Made p a b x → Made p a b y → Made p a b o := by
  induction h with
  | stop _ => exact fun h _ => h
  | step m q _ _ _ _ h5 _ ih => exact fun hx hy => ih hy (hx.less hy h5)

/-- A multiple of something. -/
def Mult (p : Int) (d f : Ser) : Prop := ∃ u, Fini p u ∧ Eq p f (Ser.mul u d)
theorem EuRun.divides {p : Int} {x y o : ERow} (h : EuRun p x y o) : Mult p o.g x.g ∧ Mult p o.g y.g := by
  induction h with
  | @stop x y hb =>
    refine ⟨⟨Ser.con 1, ⟨1, fun i hi => ?_⟩, Ser.Eq.of (Ser.one_mul _).symm⟩, ⟨Ser.zer, ⟨0, fun i _ => by simp [Ser.zer]⟩, ?_⟩⟩
    · show (if i = 0 then (1 : Int) else 0) % p = 0
      rw [if_neg (by omega)]; simp
    · rw [Ser.zer_mul]
      exact fun i => by rw [hb i (Nat.zero_le _)]; simp [Ser.zer]
  | @step x y z o m q _ _ h3 _ h5 _ ih =>
    obtain ⟨⟨u, fu, hu⟩, ⟨v, fv, hv⟩⟩ := ih
    refine ⟨⟨Ser.add (Ser.mul q u) v, (h3.mul fu).add fv, ?_⟩, ⟨u, fu, hu⟩⟩
    rw [Ser.add_mul, Ser.mul_assoc]
    refine (Ser.Eq.of (less_back x.g q y.g)).trans ?_
    exact ((Ser.Eq.refl p q).mul hu).add (h5.1.symm.trans hv)

/-- With a common factor. -/
theorem EuRun.more {p : Int} (hp : Pr p) {c : Ser} {k : Nat} (hc : Bd p c (k + 1)) (hk : c k % p ≠ 0) {x y o : ERow} (h : EuRun p x y o) :
    EuRun p ⟨Ser.mul x.g c, x.s, x.t⟩ ⟨Ser.mul y.g c, y.s, y.t⟩ ⟨Ser.mul o.g c, o.s, o.t⟩ := by
  induction h with
  | stop hb => exact .stop fun i _ => Ser.mul_nought c hb i
  | @step x y z o m q h1 h2 h3 h4 h5 _ ih =>
    have ht := Ser.mul_top h1 hc
    refine .step (z := ⟨Ser.mul z.g c, z.s, z.t⟩) (m + k) q ht.2 ?_ h3 ?_ ⟨?_, h5.2.1, h5.2.2⟩ ih
    · show Ser.mul y.g c (m + k) % p ≠ 0
      rw [ht.1]
      exact mul_nz hp h2 hk
    · show Bd p (Ser.mul z.g c) (m + k)
      cases m with
      | zero => exact fun i _ => Ser.mul_nought c h4 i
      | succ m =>
        have := (Ser.mul_top h4 hc).2
        exact this.mono (by omega)
    · show Eq p (Ser.mul z.g c) (Proofs.YtbipbpakbanacaaDoor.less (Ser.mul x.g c) q (Ser.mul y.g c))
      refine (h5.1.mulL c).trans (Ser.Eq.of ?_)
      show Ser.mul (Ser.add x.g (Ser.sc (-1) (Ser.mul q y.g))) c = _
      rw [Ser.add_mul, Ser.sc_mul, Ser.mul_assoc]
      rfl

/-- What Bezout is to tell. -/
def IsBez (p : Int) (a b g s t : Ser) : Prop := ∃ o, EuRun p ⟨a, Ser.con 1, Ser.zer⟩ ⟨b, Ser.zer, Ser.con 1⟩ o ∧
  ((Bd p o.g 0 ∧ Bd p g 0 ∧ Eq p s (Ser.con 1) ∧ Bd p t 0) ∨
   ∃ m, Bd p o.g (m + 1) ∧ o.g m % p ≠ 0 ∧ Eq p g (Ser.sc (finv (o.g m) p) o.g) ∧ Eq p s (Ser.sc (finv (o.g m) p) o.s) ∧ Eq p t (Ser.sc (finv (o.g m) p) o.t))
theorem bd0_eq {p : Int} {f g : Ser} (h : Bd p f 0) (k : Bd p g 0) : Eq p f g := fun i => by rw [h i (Nat.zero_le _), k i (Nat.zero_le _)]
theorem IsBez.uniq {p : Int} (hp : Pr p) {a b g s t a' b' g' s' t' : Ser} (h : IsBez p a b g s t) (k : IsBez p a' b' g' s' t') (ea : Eq p a a') (eb : Eq p b b') : Eq p g g' ∧ Eq p s s' ∧ Eq p t t' := by
  obtain ⟨o, r, h⟩ := h
  obtain ⟨o', r', k⟩ := k
  have e := r.uniq hp r' ⟨ea, Ser.Eq.refl _ _, Ser.Eq.refl _ _⟩ ⟨eb, Ser.Eq.refl _ _, Ser.Eq.refl _ _⟩
  rcases h with ⟨h1, h2, h3, h4⟩ | ⟨m, h1, h2, h3, h4, h5⟩
  · rcases k with ⟨k1, k2, k3, k4⟩ | ⟨m', k1, k2, k3, k4, k5⟩
    · exact ⟨bd0_eq h2 k2, h3.trans k3.symm, bd0_eq h4 k4⟩
    · exact absurd ((e.1 m').symm.trans (h1 m' (Nat.zero_le _))) k2
  · rcases k with ⟨k1, k2, k3, k4⟩ | ⟨m', k1, k2, k3, k4, k5⟩
    · exact absurd ((e.1 m).trans (k1 m (Nat.zero_le _))) h2
    · obtain rfl := top_uniq e.1 h1 h2 k1 k2
      rw [finv_congr hp (e.1 m)] at h3 h4 h5
      exact ⟨h3.trans ((Ser.Eq.sc rfl e.1).trans k3.symm), h4.trans ((Ser.Eq.sc rfl e.2.1).trans k4.symm), h5.trans ((Ser.Eq.sc rfl e.2.2).trans k5.symm)⟩
/-- It is made of both. -/
theorem IsBez.made {p : Int} {a b g s t : Ser} (h : IsBez p a b g s t) : Eq p (Ser.add (Ser.mul s a) (Ser.mul t b)) g := by
  obtain ⟨o, r, h⟩ := h
  have hm : Made p a b o := r.made
    (Ser.Eq.of (by show a = Ser.add (Ser.mul (Ser.con 1) a) (Ser.mul Ser.zer b); rw [Ser.one_mul, Ser.zer_mul, Ser.add_zer]))
    (Ser.Eq.of (by show b = Ser.add (Ser.mul Ser.zer a) (Ser.mul (Ser.con 1) b); rw [Ser.one_mul, Ser.zer_mul, Ser.zer_add]))
  rcases h with ⟨h1, h2, h3, h4⟩ | ⟨m, h1, h2, h3, h4, h5⟩
  · have hd := r.divides
    obtain ⟨⟨u, _, hu⟩, _⟩ := hd
    have ha : Bd p a 0 := fun i _ => by
      have := hu i
      rw [Ser.mul_comm] at this
      rw [this]
      exact Ser.mul_nought u h1 i
    intro i
    show (Ser.mul s a i + Ser.mul t b i) % p = g i % p
    rw [Int.add_emod, Ser.mul_comm, Ser.mul_nought s ha i, Ser.mul_nought b h4 i, h2 i (Nat.zero_le _)]
    simp
  · refine ((h4.mulL a).add (h5.mulL b)).trans (Ser.Eq.trans (Ser.Eq.of ?_) ((Ser.Eq.sc rfl hm.symm).trans h3.symm))
    rw [Ser.sc_mul, Ser.sc_mul]
    funext i
    show _ + _ = _ * (_ + _)
    rw [Int.mul_add]
    rfl
/-- Nought just where both are. -/
theorem IsBez.nought {p : Int} {a b g s t : Ser} (hp : Pr p) (h : IsBez p a b g s t) : Bd p g 0 ↔ Bd p a 0 ∧ Bd p b 0 := by
  obtain ⟨o, r, h⟩ := h
  obtain ⟨⟨u, _, hu⟩, ⟨v, _, hv⟩⟩ := r.divides
  rcases h with ⟨h1, h2, _⟩ | ⟨m, h1, h2, h3, _⟩
  · refine ⟨fun _ => ⟨fun i _ => ?_, fun i _ => ?_⟩, fun _ => h2⟩
    · have := hu i
      rw [Ser.mul_comm] at this
      rw [this]
      exact Ser.mul_nought u h1 i
    · have := hv i
      rw [Ser.mul_comm] at this
      rw [this]
      exact Ser.mul_nought v h1 i
  · have hs := finv_spec hp h2
    constructor
    · intro hb
      have := (h3 m).symm.trans (hb m (Nat.zero_le _))
      have e : Ser.sc (finv (o.g m) p) o.g m = o.g m * finv (o.g m) p := Int.mul_comm _ _
      rw [e, hs.2.2] at this
      omega
    · rintro ⟨ha, hb⟩
      exfalso
      have hm : Made p a b o := r.made
        (Ser.Eq.of (by show a = Ser.add (Ser.mul (Ser.con 1) a) (Ser.mul Ser.zer b); rw [Ser.one_mul, Ser.zer_mul, Ser.add_zer]))
        (Ser.Eq.of (by show b = Ser.add (Ser.mul Ser.zer a) (Ser.mul (Ser.con 1) b); rw [Ser.one_mul, Ser.zer_mul, Ser.zer_add]))
      refine h2 ((hm m).trans ?_)
      show (Ser.mul o.s a m + Ser.mul o.t b m) % p = 0
      rw [Int.add_emod, Ser.mul_comm, Ser.mul_nought o.s ha m, Ser.mul_comm, Ser.mul_nought o.t hb m]
      simp
/-- It divides both. -/
theorem IsBez.divides {p : Int} {a b g s t : Ser} (hp : Pr p) (h : IsBez p a b g s t) : Mult p g a ∧ Mult p g b := by
  obtain ⟨o, r, h⟩ := h
  rcases h with ⟨h1, h2, _⟩ | ⟨m, h1, h2, h3, _⟩
  · obtain ⟨⟨u, fu, hu⟩, ⟨v, fv, hv⟩⟩ := r.divides
    exact ⟨⟨u, fu, hu.trans ((Ser.Eq.refl p u).mul (bd0_eq h1 h2))⟩, ⟨v, fv, hv.trans ((Ser.Eq.refl p v).mul (bd0_eq h1 h2))⟩⟩
  · have hs := finv_spec hp h2
    have hm : ∀ f, Mult p o.g f → Mult p g f := by
      rintro f ⟨u, fu, hu⟩
      refine ⟨Ser.sc (o.g m) u, fu.sc, hu.trans ?_⟩
      refine Ser.Eq.trans ?_ ((Ser.Eq.refl p _).mul h3.symm)
      rw [Ser.mul_comm (Ser.sc (o.g m) u), Ser.sc_mul, Ser.mul_comm o.g, Ser.sc_mul]
      intro i
      show Ser.mul u o.g i % p = finv (o.g m) p * (o.g m * Ser.mul u o.g i) % p
      rw [← Int.mul_assoc, Int.mul_comm (finv (o.g m) p), Int.mul_emod, hs.2.2, Int.one_mul, Int.emod_emod_of_dvd _ (Int.dvd_refl p)]
    exact ⟨hm _ r.divides.1, hm _ r.divides.2⟩
/-- It is monic. -/
theorem IsBez.monic {p : Int} {a b g s t : Ser} (hp : Pr p) (h : IsBez p a b g s t) (hn : ¬ Bd p g 0) : ∃ m, Bd p g (m + 1) ∧ g m % p = 1 := by
  obtain ⟨o, r, h⟩ := h
  rcases h with ⟨h1, h2, _⟩ | ⟨m, h1, h2, h3, _⟩
  · exact absurd h2 hn
  · refine ⟨m, Ser.Bd.eq (fun i hi => ?_) h3.symm, ?_⟩
    · show finv (o.g m) p * o.g i % p = 0
      rw [Int.mul_emod, h1 i hi]; simp
    · rw [h3 m]
      show finv (o.g m) p * o.g m % p = 1
      rw [Int.mul_comm]
      exact (finv_spec hp h2).2.2
/-- With a common factor more it is greater by that. -/
theorem IsBez.more {p : Int} (hp : Pr p) {a b g s t c g' s' t' : Ser} (hc : Fini p c) (h : IsBez p a b g s t) (k : IsBez p (Ser.mul a c) (Ser.mul b c) g' s' t') : IsMon p (Ser.mul g c) g' := by
  obtain ⟨N, hN⟩ := hc
  rcases Classical.em (Bd p c 0) with h0 | h0
  · have z : ∀ f : Ser, Bd p (Ser.mul f c) 0 := fun f i _ => by rw [Ser.mul_comm]; exact Ser.mul_nought f h0 i
    exact .inl ⟨z g, (k.nought hp).2 ⟨z a, z b⟩⟩
  · have hex : ∃ j, Bd p c (j + 1) ∧ c j % p ≠ 0 := by
      refine Classical.byContradiction fun hn => h0 (bd_down (fun j hj => ?_) N hN)
      exact Classical.byContradiction fun hj2 => hn ⟨j, hj, hj2⟩
    obtain ⟨j, hj, hj2⟩ := hex
    obtain ⟨o, r, h⟩ := h
    obtain ⟨o', r', k⟩ := k
    have e := (r.more hp hj hj2).uniq hp r' (ERow.Same.refl _ _) (ERow.Same.refl _ _)
    have e1 : Eq p (Ser.mul o.g c) o'.g := e.1
    rcases h with ⟨h1, h2, _⟩ | ⟨m, h1, h2, h3, _⟩
    · rcases k with ⟨k1, k2, _⟩ | ⟨m', k1, k2, k3, _⟩
      · exact .inl ⟨fun i _ => Ser.mul_nought c h2 i, k2⟩
      · exact absurd ((e1 m').symm.trans (Ser.mul_nought c h1 m')) k2
    · have ht := Ser.mul_top h1 hj
      have hnz : Ser.mul o.g c (m + j) % p ≠ 0 := by rw [ht.1]; exact mul_nz hp h2 hj2
      rcases k with ⟨k1, k2, _⟩ | ⟨m', k1, k2, k3, _⟩
      · exact absurd ((e1 (m + j)).trans (k1 _ (Nat.zero_le _))) hnz
      · obtain rfl := top_uniq e1 ht.2 hnz k1 k2
        have hs := finv_spec hp h2
        have hq := finv_spec hp hnz
        -- g c is the product by the residue that makes o.g monic
        have hgc : Eq p (Ser.mul g c) (Ser.sc (finv (o.g m) p) (Ser.mul o.g c)) := by
          rw [← Ser.sc_mul]; exact h3.mulL c
        have hv := finv_spec hp (a := finv (o.g m) p) (by rw [Int.emod_eq_of_lt (by omega) (by omega)]; omega)
        refine .inr ⟨m + j, ?_, ?_, ?_⟩
        · refine Ser.Bd.eq (fun i hi => ?_) hgc.symm
          show finv (o.g m) p * Ser.mul o.g c i % p = 0
          rw [Int.mul_emod, ht.2 i (by omega)]; simp
        · rw [hgc (m + j)]
          exact mul_nz hp (by rw [Int.emod_eq_of_lt (by omega) (by omega)]; omega) hnz
        · have htop : Ser.mul g c (m + j) % p = finv (o.g m) p * Ser.mul o.g c (m + j) % p := hgc (m + j)
          rw [finv_congr hp htop]
          have hfi : finv (finv (o.g m) p * Ser.mul o.g c (m + j)) p = finv (Ser.mul o.g c (m + j)) p * finv (finv (o.g m) p) p % p := by
            refine finv_eq hp ⟨Int.emod_nonneg _ (by omega), Int.emod_lt_of_pos _ (by omega), ?_⟩
            generalize finv (o.g m) p = u at *
            generalize Ser.mul o.g c (m + j) = T at *
            generalize finv T p = T' at *
            generalize finv u p = u' at *
            rw [Int.mul_emod, Int.emod_emod_of_dvd _ (Int.dvd_refl p), ← Int.mul_emod]
            have e2 : u * T * (T' * u') = (u * u') * (T * T') := by
              rw [Int.mul_assoc, Int.mul_left_comm T, Int.mul_comm T u', Int.mul_left_comm T', ← Int.mul_assoc u, Int.mul_comm T' T]
            rw [e2, Int.mul_emod, hv.2.2, hq.2.2]
            exact Int.emod_eq_of_lt (by omega) (by have := hp.1; omega)
          rw [hfi]
          refine k3.trans ?_
          rw [← finv_congr hp (e1 (m + j))]
          refine Ser.Eq.trans (Ser.Eq.sc rfl e1.symm) ?_
          refine Ser.Eq.trans ?_ (Ser.Eq.sc rfl hgc.symm)
          intro i
          show finv (Ser.mul o.g c (m + j)) p * Ser.mul o.g c i % p = finv (Ser.mul o.g c (m + j)) p * finv (finv (o.g m) p) p % p * (finv (o.g m) p * Ser.mul o.g c i) % p
          generalize Ser.mul o.g c i = X at *
          generalize finv (Ser.mul o.g c (m + j)) p = T' at *
          generalize finv (o.g m) p = u at *
          generalize finv u p = u' at *
          rw [Int.mul_emod (T' * u' % p), Int.emod_emod_of_dvd _ (Int.dvd_refl p), ← Int.mul_emod]
          have e2 : T' * u' * (u * X) = (u * u') * (T' * X) := by
            rw [Int.mul_comm T' u', Int.mul_assoc, Int.mul_left_comm T', ← Int.mul_assoc, Int.mul_comm u' u]
          rw [e2, Int.mul_emod (u * u'), hv.2.2, Int.one_mul, Int.emod_emod_of_dvd _ (Int.dvd_refl p)]
end Go.Proofs.YtbipbpakbanacaaDoor

/- Words for memory: a slice of limbs that is only read; a block of limbs of the call's own that is known whole. -/
namespace Go.Proofs.YtbipbpakbanacaaDoor
open Go.RowKit

/-- A limb as a value. -/
abbrev u64v (x : Nat) : Value := .int .u64 (x : Int)

/-- The slice address A leads to the limbs xs. -/
def Rd (w : World) (A : Option Addr) (xs : List Nat) : Prop :=
  Fit xs ∧ (xs = [] ∨ ∃ b o, A = some ⟨b, o, none⟩ ∧ b < w.heap.size ∧ ∀ j (h : j < xs.length), w.cell? ⟨b, o + j, none⟩ = some (u64v xs[j]))

theorem Rd.fit {w : World} {A : Option Addr} {xs : List Nat} (h : Rd w A xs) : Fit xs := h.1
theorem Rd.nil (w : World) (A : Option Addr) : Rd w A [] := ⟨fit_nil, .inl rfl⟩
theorem Rd.below {w w' : World} {A : Option Addr} {xs : List Nat} (h : Rd w A xs) (hb : Below w.heap.size w w') : Rd w' A xs := by
  refine ⟨h.1, h.2.imp id ?_⟩
  rintro ⟨b, o, rfl, hlt, hc⟩
  exact ⟨b, o, rfl, Nat.lt_of_lt_of_le hlt hb.size, fun j hj => (hb.cell (p := ⟨b, o + j, none⟩) hlt).trans (hc j hj)⟩
theorem Rd.take {w : World} {A : Option Addr} {xs : List Nat} (h : Rd w A xs) (k : Nat) : Rd w A (xs.take k) := by
  refine ⟨fit_take h.1 k, ?_⟩
  rcases h.2 with rfl | ⟨b, o, rfl, hlt, hc⟩
  · left; simp
  · right
    refine ⟨b, o, rfl, hlt, fun j hj => ?_⟩
    have hj' : j < xs.length := by rw [List.length_take] at hj; omega
    rw [List.getElem_take]
    exact hc j hj'
theorem Rd.plain {w : World} {A : Option Addr} {xs : List Nat} (h : Rd w A xs) : Rd w A (nrm (val xs)) := by
  have := h.take (nrm (val xs)).length
  rwa [take_nrm h.1] at this
/-- Memory below block B alone is asked for. -/
theorem Rd.grown {w w' : World} {g : Nat} {A : Option Addr} {xs : List Nat} (h : Rd w A xs) (hg : w.grownBy w' (some g)) (hne : ∀ b o s, A = some ⟨b, o, s⟩ → b ≠ g) : Rd w' A xs := by
  refine ⟨h.1, h.2.imp id ?_⟩
  rintro ⟨b, o, rfl, hlt, hc⟩
  refine ⟨b, o, rfl, Nat.lt_of_lt_of_le hlt hg.size, fun j hj => ?_⟩
  exact (World.cell?_of_block (w := w) (hg.block b hlt (fun e => hne b o none rfl (by injection e)))).trans (hc j hj)

/-- Block g holds just the limbs L. -/
def Blk (w : World) (g : Nat) (L : List Nat) : Prop := w.heap[g]? = some (.cells (L.map u64v).toArray 70 (0, 0)) ∧ Fit L

theorem Blk.lt {w : World} {g : Nat} {L : List Nat} (h : Blk w g L) : g < w.heap.size := by
  rcases Nat.lt_or_ge g w.heap.size with hlt | hge
  · exact hlt
  · have := h.1; rw [Array.getElem?_eq_none hge] at this; cases this
theorem Blk.fit {w : World} {g : Nat} {L : List Nat} (h : Blk w g L) : Fit L := h.2
theorem Blk.cell {w : World} {g : Nat} {L : List Nat} (h : Blk w g L) (i : Nat) (hi : i < L.length) : w.cell? ⟨g, i, none⟩ = some (u64v L[i]) := by
  rw [cell_of_row w g i _ _ (0, 0) h.1]
  simp [hi]
theorem Blk.frozen {w : World} {g : Nat} {L : List Nat} (h : Blk w g L) (i : Nat) : w.frozen? ⟨g, i, none⟩ = false := by
  have := h.1
  simp [World.frozen?, this]
theorem Blk.below {w w' : World} {g : Nat} {L : List Nat} (h : Blk w g L) (hb : Below w.heap.size w w') : Blk w' g L := ⟨(hb.block g h.lt).trans h.1, h.2⟩
theorem Blk.grown {w w' : World} {g g' : Nat} {L : List Nat} (h : Blk w g L) (hb : w.grownBy w' (some g')) (hne : g ≠ g') : Blk w' g L :=
  ⟨(hb.block g h.lt (fun e => hne (by injection e))).trans h.1, h.2⟩
theorem Blk.set_ {w : World} {g : Nat} {L : List Nat} (h : Blk w g L) (i : Nat) (u : Nat) (hu : u < 18446744073709551616) : Blk (w.setCell ⟨g, i, none⟩ (u64v u)) g (L.set i u) := by
  refine ⟨?_, ?_⟩
  · have := h.1
    simp [World.setCell, Array.getElem?_modify, this]
  · intro x hx
    rcases List.mem_or_eq_of_mem_set hx with hx | rfl
    · exact h.2 x hx
    · exact hu
theorem Blk.far {w : World} {g : Nat} {L : List Nat} (h : Blk w g L) {p : Addr} (hp : g ≠ p.block) (u : Value) : Blk (w.setCell p u) g L :=
  ⟨(Below.heap_setCell w p u g hp).trans h.1, h.2⟩
theorem Blk.alloc {w : World} {g : Nat} {L : List Nat} (h : Blk w g L) (o : Obj) : Blk (w.alloc o) g L := ⟨(Below.heap_alloc w o g h.lt).trans h.1, h.2⟩
theorem Blk.drew {w : World} {g : Nat} {L : List Nat} (h : Blk w g L) : Blk w.drew g L := h
theorem Blk.drewN {w : World} {g : Nat} {L : List Nat} (h : Blk w g L) (n : Nat) : Blk (w.drewN n) g L := h
/-- A block read through a slice that begins at o. -/
theorem Blk.rd {w : World} {g : Nat} {L : List Nat} (h : Blk w g L) (o n : Nat) : Rd w (some ⟨g, o, none⟩) ((L.drop o).take n) := by
  refine ⟨fit_take (fit_drop h.2 o) n, .inr ⟨g, o, rfl, h.lt, fun j hj => ?_⟩⟩
  have hj' : o + j < L.length := by simp only [List.length_take, List.length_drop] at hj; omega
  rw [h.cell (o + j) hj']
  simp
theorem Blk.rd0 {w : World} {g : Nat} {L : List Nat} (h : Blk w g L) : Rd w (some ⟨g, 0, none⟩) L := by
  have := h.rd 0 L.length
  simpa using this

theorem below_drewN {B : Nat} {a w : World} (h : Below B a w) (n : Nat) : Below B a (w.drewN n) := ⟨h.os, h.tape, h.output, h.size, h.block⟩
theorem below_of_grown {a w : World} {g B : Nat} (h : a.grownBy w (some g)) (hB : B ≤ a.heap.size) (hg : B ≤ g) : Below B a w :=
  (Below.refl B a).grown h hB (fun k e => by injection e with e; omega)
theorem grown_of_below {a w : World} (h : Below a.heap.size a w) (row : Option Nat) : a.grownBy w row := ⟨h.os, h.tape, h.output, h.size, fun i hi _ => h.block i hi⟩
theorem grown_drewN {a w : World} {row : Option Nat} (h : a.grownBy w row) (n : Nat) : a.grownBy (w.drewN n) row := ⟨h.os, h.tape, h.output, h.size, h.block⟩
theorem grown_drew {a w : World} {row : Option Nat} (h : a.grownBy w row) : a.grownBy w.drew row := ⟨h.os, h.tape, h.output, h.size, h.block⟩
theorem grown_alloc {a w : World} {row : Option Nat} (h : a.grownBy w row) (o : Obj) : a.grownBy (w.alloc o) row :=
  ⟨h.os, h.tape, h.output, Nat.le_trans h.size (by simp), fun i hi hne => (Below.heap_alloc w o i (Nat.lt_of_lt_of_le hi h.size)).trans (h.block i hi hne)⟩
theorem grown_setCell {a w : World} {g : Nat} (h : a.grownBy w (some g)) {p : Addr} (hp : p.block = g ∨ a.heap.size ≤ p.block) (u : Value) : a.grownBy (w.setCell p u) (some g) :=
  ⟨h.os, h.tape, h.output, by simpa [World.setCell] using h.size, fun i hi hne => (Below.heap_setCell w p u i (by
    rintro rfl
    rcases hp with hp | hp
    · exact hne (by rw [hp])
    · omega)).trans (h.block i hi hne)⟩
theorem grown_trans {a b c : World} {g : Nat} (h : a.grownBy b (some g)) (k : b.grownBy c (some g)) : a.grownBy c (some g) :=
  ⟨k.os.trans h.os, k.tape.trans h.tape, k.output.trans h.output, Nat.le_trans h.size k.size, fun i hi hne => (k.block i (Nat.lt_of_lt_of_le hi h.size) hne).trans (h.block i hi hne)⟩

/-- Behind the call: v is a new slice, in memory of the call's own (block B or later), that reads as xs. -/
def Own (w : World) (B : Nat) (v : Value) (xs : List Nat) : Prop :=
  ∃ g c L, v = .slice (some ⟨g, 0, none⟩) xs.length c ∧ B ≤ g ∧ Blk w g L ∧ L.length = c ∧ xs.length ≤ c ∧ L.take xs.length = xs ∧ c ≤ maxLen

end Go.Proofs.YtbipbpakbanacaaDoor

/- nat.trim, by its contract: it cuts the noughts at the end off, and turns nothing in memory. Conditions: the slice reads as limbs. -/
namespace Go.Proofs.YtbipbpakbanacaaDoor
open Go.RowKit

theorem getD_of_lt {xs : List Nat} {j : Nat} (h : j < xs.length) : xs[j]?.getD 0 = xs[j] := by rw [List.getElem?_eq_getElem h]; rfl

set_option maxHeartbeats 400000 in
theorem trim_some (b o c : Nat) (xs : List Nat) (w : World) (n : Nat) (hn : n = xs.length) (hf : Fit xs) (hle : n ≤ c) (hc : c ≤ 9223372036854775807)
    (hcell : ∀ j (h : j < xs.length), w.cell? ⟨b, o + j, none⟩ = some (u64v xs[j])) :
    Calls Tryd.prog 90 #[.slice (some ⟨b, o, none⟩) n c] w fun e w' => e = .returned (.slice (some ⟨b, o, none⟩) (nrm (val xs)).length c) ∧ w = w' := by
  have HN : Hid (n = xs.length) := hn
  have hcl : ∀ j, j < n → w.cell? ⟨b, o + j, none⟩ = some (u64v (xs.getD j 0)) := by
    intro j hj
    rw [hcell j (by omega), List.getD_eq_getElem?_getD, List.getElem?_eq_getElem (by omega)]
    rfl
  have HC := Lib.hid hcl
  clear hn hcell hcl
  go_enter Tryd.func90, Tryd.ntmps90
  go_wp2
  go_loop [3] (fun t => ∃ k : Nat, k ≤ n ∧ t = .int .i64 k ∧ val (xs.take k) = val xs) (fun t => (intOf t).toNat)
  case atStart => exact ⟨n, Nat.le_refl _, rfl, by rw [HN.out]; simp⟩
  case round =>
    obtain ⟨k, hk, rfl, hv⟩ := hrel
    have HV := Lib.hid hv
    clear hv
    by_cases hk0 : 0 < k
    · have hcell := HC.out (k - 1) (by omega)
      go_wp2
      · have hz : (((xs[k - 1]?.getD 0 : Nat) : Int) == 0) = true := by assumption
        have hlt : k - 1 < xs.length := by rw [← HN.out]; omega
        have hz' : xs[k - 1] = 0 := by rw [getD_of_lt hlt] at hz; simpa using hz
        go_round
        case rel =>
          refine ⟨k - 1, by omega, by go_num, ?_⟩
          rw [val_take_zero_last xs (k - 1) hlt hz', show k - 1 + 1 = k by omega]
          exact HV.out
        case measure => simp [intOf]; omega
      · have hz : (((xs[k - 1]?.getD 0 : Nat) : Int) == 0) = false := by assumption
        have hlt : k - 1 < xs.length := by rw [← HN.out]; omega
        have hz' : xs[k - 1] ≠ 0 := by rw [getD_of_lt hlt] at hz; simpa using hz
        have hd := trim_done hf k (by rw [← HN.out]; exact hk) HV.out (.inr ⟨hlt, hz'⟩)
        go_ret
        exact ⟨by rw [hd]; rfl, rfl⟩
    · have : k = 0 := by omega
      subst this
      have hd := trim_done hf 0 (Nat.zero_le _) HV.out (.inl rfl)
      have HD := Lib.hid hd
      clear hd
      go_wp2
      go_ret
      exact ⟨by rw [HD.out]; rfl, rfl⟩

set_option maxHeartbeats 400000 in
theorem trim_empty (A : Option Addr) (c : Nat) (w : World) (hA : A = none → c = 0) :
    Calls Tryd.prog 90 #[.slice A 0 c] w fun e w' => e = .returned (.slice A 0 c) ∧ w = w' := by
  rcases A with _ | a
  · obtain rfl := hA rfl
    go_enter Tryd.func90, Tryd.ntmps90
    go_wp2
    refine wp_loop_rounds 1 ?_
    rw [rounds_succ]
    go_wp2
    go_ret
    exact ⟨rfl, rfl⟩
  · clear hA
    go_enter Tryd.func90, Tryd.ntmps90
    go_wp2
    refine wp_loop_rounds 1 ?_
    rw [rounds_succ]
    go_wp2
    go_ret
    exact ⟨rfl, rfl⟩

/-- What is asked of a slice of limbs. -/
def Sl (w : World) (A : Option Addr) (n c : Nat) (xs : List Nat) : Prop := n = xs.length ∧ n ≤ c ∧ c ≤ 9223372036854775807 ∧ (A = none → c = 0) ∧ Rd w A xs

theorem Sl.len {w : World} {A : Option Addr} {n c : Nat} {xs : List Nat} (h : Sl w A n c xs) : n = xs.length := h.1
theorem Sl.le {w : World} {A : Option Addr} {n c : Nat} {xs : List Nat} (h : Sl w A n c xs) : n ≤ c := h.2.1
theorem Sl.max {w : World} {A : Option Addr} {n c : Nat} {xs : List Nat} (h : Sl w A n c xs) : c ≤ 9223372036854775807 := h.2.2.1
theorem Sl.rd {w : World} {A : Option Addr} {n c : Nat} {xs : List Nat} (h : Sl w A n c xs) : Rd w A xs := h.2.2.2.2
theorem Sl.fit {w : World} {A : Option Addr} {n c : Nat} {xs : List Nat} (h : Sl w A n c xs) : Fit xs := h.2.2.2.2.1

/-- What the slice reads lies in another block than g. -/
def Apart (A : Option Addr) (ys : List Nat) (g : Nat) : Prop := ys = [] ∨ ∀ b o s, A = some ⟨b, o, s⟩ → b ≠ g
theorem Rd.apart {w : World} {A : Option Addr} {xs : List Nat} (h : Rd w A xs) {g : Nat} (hg : w.heap.size ≤ g) : Apart A xs g := by
  rcases h.2 with h | ⟨b, o, rfl, hlt, _⟩
  · exact .inl h
  · refine .inr fun b' o' s' e => ?_
    simp only [Option.some.injEq, Addr.mk.injEq] at e
    omega
theorem Sl.apart {w : World} {A : Option Addr} {n c : Nat} {xs : List Nat} (h : Sl w A n c xs) {g : Nat} (hg : w.heap.size ≤ g) : Apart A xs g := h.rd.apart hg
theorem apart_of_ne {g' : Nat} {o : Nat} {s : Option Nat} {xs : List Nat} {g : Nat} (h : g' ≠ g) : Apart (some ⟨g', o, s⟩) xs g := by
  refine .inr fun b' o' s' e => ?_
  simp only [Option.some.injEq, Addr.mk.injEq] at e
  omega

theorem Sl.below {w w' : World} {A : Option Addr} {n c : Nat} {xs : List Nat} (h : Sl w A n c xs) (hb : Below w.heap.size w w') : Sl w' A n c xs := ⟨h.1, h.2.1, h.2.2.1, h.2.2.2.1, h.2.2.2.2.below hb⟩
theorem Sl.plain {w : World} {A : Option Addr} {n c : Nat} {xs : List Nat} (h : Sl w A n c xs) : Sl w A (nrm (val xs)).length c (nrm (val xs)) :=
  ⟨rfl, by have := nrm_length_le h.2.2.2.2.1; have := h.1; have := h.2.1; omega, h.2.2.1, h.2.2.2.1, h.2.2.2.2.plain⟩

theorem trim_any (A : Option Addr) (n c : Nat) (xs : List Nat) (w : World) (h : Sl w A n c xs) :
    Calls Tryd.prog 90 #[.slice A n c] w fun e w' => e = .returned (.slice A (nrm (val xs)).length c) ∧ w = w' := by
  obtain ⟨hn, hle, hc, hA, hf, rfl | ⟨b, o, rfl, _, hcell⟩⟩ := h
  · subst hn
    exact trim_empty A c w hA
  · exact trim_some b o c xs w n hn hf hle hc hcell
end Go.Proofs.YtbipbpakbanacaaDoor

/- math/bits.Mul64, Add64, Sub64 at this translation, and the closures that carry a limb on, by their contracts. -/
namespace Go.Proofs.YtbipbpakbanacaaDoor
open Go.RowKit Go.Lib

/-- The two halves of a product. -/
def Halves (x y hi lo : Nat) : Prop := hi < 18446744073709551616 ∧ lo < 18446744073709551616 ∧ hi * 18446744073709551616 + lo = x * y

/-- The borrow, under a name: an 'if' that stands open parts the walk. -/
def bor (x y : Int) : Int := if x < y then 1 else 0

/-- What addTimes' closure reckons. -/
theorem add_step (l m c h hi lo : Nat) (H : Halves l m hi lo) (hl : l < 18446744073709551616) (hm : m < 18446744073709551616) (hc : c < 18446744073709551616) (hh : h < 18446744073709551616) :
    (((lo : Int) + (c : Int) + (h : Int)) % 18446744073709551616 = ((h + l * m + c) % 18446744073709551616 : Nat)) ∧
    IntKind.u64.wrap (IntKind.u64.wrap ((hi : Int) + ((lo : Int) + (c : Int)) / 18446744073709551616) + (((lo : Int) + (c : Int)) % 18446744073709551616 + (h : Int)) / 18446744073709551616) = ((h + l * m + c) / 18446744073709551616 : Nat) := by
  obtain ⟨h1, h2, h3⟩ := H
  have hb : l * m ≤ 18446744073709551615 * 18446744073709551615 := Nat.mul_le_mul (by omega) (by omega)
  rw [← h3] at hb ⊢
  simp only [IntKind.wrap_u64]
  omega

theorem add_step_lt (l m c h : Nat) (hl : l < 18446744073709551616) (hm : m < 18446744073709551616) (hc : c < 18446744073709551616) (hh : h < 18446744073709551616) : (h + l * m + c) / 18446744073709551616 < 18446744073709551616 := by
  have hb : l * m ≤ 18446744073709551615 * 18446744073709551615 := Nat.mul_le_mul (by omega) (by omega)
  omega

/-- What takeTimes' closure reckons: the limb that is left, and what must still be taken. -/
def tkLimb (l m c h : Nat) : Nat := (h + 18446744073709551616 - (l * m + c) % 18446744073709551616) % 18446744073709551616
def tkCarry (l m c h : Nat) : Nat := (l * m + c) / 18446744073709551616 + (if h < (l * m + c) % 18446744073709551616 then 1 else 0)
theorem tk_spec (l m c h : Nat) (hh : h < 18446744073709551616) : h + 18446744073709551616 * tkCarry l m c h = tkLimb l m c h + (l * m + c) := by
  unfold tkCarry tkLimb
  generalize l * m + c = s
  split <;> omega
theorem tk_limb_lt (l m c h : Nat) : tkLimb l m c h < 18446744073709551616 := Nat.mod_lt _ (by decide)
theorem tk_carry_lt (l m c h : Nat) (hl : l < 18446744073709551616) (hm : m < 18446744073709551616) (hc : c < 18446744073709551616) : tkCarry l m c h < 18446744073709551616 := by
  have hb : l * m ≤ 18446744073709551615 * 18446744073709551615 := Nat.mul_le_mul (by omega) (by omega)
  unfold tkCarry
  split <;> omega
theorem take_step (l m c h hi lo : Nat) (H : Halves l m hi lo) (hl : l < 18446744073709551616) (hm : m < 18446744073709551616) (hc : c < 18446744073709551616) (hh : h < 18446744073709551616) :
    (((h : Int) - ((lo : Int) + (c : Int))) % 18446744073709551616 = (tkLimb l m c h : Nat)) ∧
    IntKind.u64.wrap (IntKind.u64.wrap ((hi : Int) + ((lo : Int) + (c : Int)) / 18446744073709551616) + bor h (((lo : Int) + (c : Int)) % 18446744073709551616)) = (tkCarry l m c h : Nat) := by
  obtain ⟨h1, h2, h3⟩ := H
  have hb : l * m ≤ 18446744073709551615 * 18446744073709551615 := Nat.mul_le_mul (by omega) (by omega)
  unfold tkLimb tkCarry bor
  rw [← h3] at hb ⊢
  simp only [IntKind.wrap_u64]
  split <;> split <;> omega

end Go.Proofs.YtbipbpakbanacaaDoor

/- nat.addTimes, by its contract: what stands in z's limbs afterwards, and what passes over the end. Conditions: z is memory of the call's own, apart from y, and as long as y or longer. -/
namespace Go.Proofs.YtbipbpakbanacaaDoor
open Go.RowKit

/-- What stands at z[0..k] after k limbs. -/
def addT (zs ys : List Nat) (m k : Nat) : Nat := val (zs.take k) + m * val (ys.take k)

theorem addT_zero (zs ys : List Nat) (m : Nat) : addT zs ys m 0 = 0 := by simp [addT, val]
theorem val_take_getD (xs : List Nat) (k : Nat) : val (xs.take (k + 1)) = val (xs.take k) + 18446744073709551616 ^ k * xs.getD k 0 := by
  rw [List.getD_eq_getElem?_getD]
  by_cases h : k < xs.length
  · rw [val_take_succ xs k h, List.getElem?_eq_getElem h]; rfl
  · rw [List.take_of_length_le (by omega), List.take_of_length_le (by omega), List.getElem?_eq_none (by omega)]; simp
theorem addT_succ (zs ys : List Nat) (m k : Nat) : addT zs ys m (k + 1) = addT zs ys m k + 18446744073709551616 ^ k * (zs.getD k 0 + ys.getD k 0 * m) := by
  unfold addT
  rw [val_take_getD, val_take_getD]
  grind
theorem addT_carry (zs ys : List Nat) (m k : Nat) : addT zs ys m (k + 1) / 18446744073709551616 ^ k = zs.getD k 0 + ys.getD k 0 * m + addT zs ys m k / 18446744073709551616 ^ k := by
  rw [addT_succ, Nat.add_mul_div_left _ _ (Nat.pow_pos (by decide))]
  omega
theorem addT_limb (zs ys : List Nat) (m k : Nat) : dig (k + 1) (addT zs ys m (k + 1)) = dig k (addT zs ys m k) ++ [(zs.getD k 0 + ys.getD k 0 * m + addT zs ys m k / 18446744073709551616 ^ k) % 18446744073709551616] := by
  rw [dig_snoc, addT_carry, addT_succ, dig_add_mul]
theorem addT_next (zs ys : List Nat) (m k : Nat) : addT zs ys m (k + 1) / 18446744073709551616 ^ (k + 1) = (zs.getD k 0 + ys.getD k 0 * m + addT zs ys m k / 18446744073709551616 ^ k) / 18446744073709551616 := by
  rw [Nat.pow_succ, ← Nat.div_div_eq_div_mul, addT_carry]
theorem addT_carry_lt (zs ys : List Nat) (m k : Nat) (hz : Fit zs) (hy : Fit ys) (hm : m < 18446744073709551616) : addT zs ys m k / 18446744073709551616 ^ k < 18446744073709551616 := by
  induction k with
  | zero => simp [addT_zero]
  | succ k ih => rw [addT_next]; exact add_step_lt _ _ _ _ (fit_getD hy k) hm ih (fit_getD hz k)

/-- The limbs of the block when k of z's have been turned. -/
def mid (L : List Nat) (o k : Nat) (new : List Nat) : List Nat := L.take o ++ new ++ L.drop (o + k)
theorem mid_zero (L : List Nat) (o : Nat) : mid L o 0 [] = L := by simp [mid]
theorem mid_length (L : List Nat) (o k : Nat) (new : List Nat) (h : o + k ≤ L.length) (hn : new.length = k) : (mid L o k new).length = L.length := by simp [mid, hn]; omega
theorem mid_get? (L : List Nat) (o k : Nat) (new : List Nat) (h : o + k < L.length) (hn : new.length = k) : (mid L o k new)[o + k]? = L[o + k]? := by
  unfold mid
  rw [List.getElem?_append_right (by simp [hn]; omega), List.getElem?_drop]
  congr 1
  simp [hn]; omega
theorem mid_set (L : List Nat) (o k : Nat) (new : List Nat) (u : Nat) (h : o + k < L.length) (hn : new.length = k) : (mid L o k new).set (o + k) u = mid L o (k + 1) (new ++ [u]) := by
  unfold mid
  rw [List.set_append_right _ _ (by simp [hn]; omega)]
  have e1 : o + k - (L.take o ++ new).length = 0 := by simp [hn]; omega
  rw [e1, List.drop_eq_getElem_cons h]
  simp [List.append_assoc, Nat.add_assoc]

/-- The relation of addTimes' loops. -/
def AddInv (w : World) (g o : Nat) (L ys : List Nat) (m bm bc k : Nat) (wr : World) : Prop :=
  Blk wr g (mid L o k (dig k (addT (L.drop o) ys m k))) ∧ Blk wr bm [m] ∧ Blk wr bc [addT (L.drop o) ys m k / 18446744073709551616 ^ k] ∧ w.grownBy wr (some g)

theorem blk_one (w : World) (x : Nat) (hx : x < 18446744073709551616) : Blk (w.alloc (.cells #[u64v x] 70)) w.heap.size [x] := ⟨heap_alloc_new w _, fit_cons hx fit_nil⟩

theorem addInv_start (w : World) (g o : Nat) (L ys : List Nat) (m : Nat) (hm : m < 18446744073709551616) (hB : Blk w g L) :
    AddInv w g o L ys m w.heap.size (w.heap.size + 1) 0 ((w.alloc (.cells #[u64v m] 70)).alloc (.cells #[u64v 0] 70)) := by
  refine ⟨?_, ?_, ?_, ?_⟩
  · rw [addT_zero, show dig 0 0 = [] from rfl, mid_zero]
    exact (hB.alloc _).alloc _
  · exact (blk_one w m hm).alloc _
  · rw [addT_zero]
    have := blk_one (w.alloc (.cells #[u64v m] 70)) 0 (by decide)
    simpa using this
  · exact (grown_alloc (grown_alloc (World.grownBy.refl w _) _) _)

theorem addInv_step {w : World} {g o : Nat} {L ys : List Nat} {m bm bc k : Nat} {wr : World} (h : AddInv w g o L ys m bm bc k wr) (hk : o + k < L.length) (hL : Fit L) (hy : Fit ys) (hm : m < 18446744073709551616)
    (hgm : g ≠ bm) (hgc : g ≠ bc) (hmc : bm ≠ bc) (hbc : w.heap.size ≤ bc) :
    AddInv w g o L ys m bm bc (k + 1)
      ((wr.setCell ⟨bc, 0, none⟩ (u64v ((L.getD (o + k) 0 + ys.getD k 0 * m + addT (L.drop o) ys m k / 18446744073709551616 ^ k) / 18446744073709551616))).setCell ⟨g, o + k, none⟩
        (u64v ((L.getD (o + k) 0 + ys.getD k 0 * m + addT (L.drop o) ys m k / 18446744073709551616 ^ k) % 18446744073709551616))) := by
  obtain ⟨h1, h2, h3, h4⟩ := h
  have ed : (L.drop o).getD k 0 = L.getD (o + k) 0 := by simp [List.getD_eq_getElem?_getD]
  have hcl : addT (L.drop o) ys m (k + 1) / 18446744073709551616 ^ (k + 1) < 18446744073709551616 := addT_carry_lt _ _ _ _ (fit_drop hL o) hy hm
  refine ⟨?_, ?_, ?_, ?_⟩
  · have := (h1.far (p := ⟨bc, 0, none⟩) hgc (u64v ((L.getD (o + k) 0 + ys.getD k 0 * m + addT (L.drop o) ys m k / 18446744073709551616 ^ k) / 18446744073709551616))).set_ (o + k) ((L.getD (o + k) 0 + ys.getD k 0 * m + addT (L.drop o) ys m k / 18446744073709551616 ^ k) % 18446744073709551616) (Nat.mod_lt _ (by decide))
    rw [mid_set _ _ _ _ _ hk (dig_length _ _)] at this
    rw [addT_limb, ed]
    exact this
  · exact (h2.far (p := ⟨bc, 0, none⟩) hmc _).far (p := ⟨g, o + k, none⟩) (Ne.symm hgm) _
  · rw [addT_next, ed] at hcl ⊢
    exact (h3.set_ 0 _ hcl).far (p := ⟨g, o + k, none⟩) (Ne.symm hgc) _
  · exact grown_setCell (grown_setCell h4 (.inr hbc) _) (.inl rfl) _

end Go.Proofs.YtbipbpakbanacaaDoor

/- nat.addTimes, walked. Conditions: as in its contract below. -/
namespace Go.Proofs.YtbipbpakbanacaaDoor
open Go.RowKit

/-- What the walk wants of a round: the limb that stands in z, and where the closure's two variables lie. -/
theorem addInv_cells {w : World} {g o : Nat} {L ys : List Nat} {m bm bc k : Nat} {wr : World} (h : AddInv w g o L ys m bm bc k wr) (hk : o + k < L.length) (hgc : bc ≠ g) :
    wr.cell? ⟨g, o + k, none⟩ = some (u64v (L.getD (o + k) 0)) ∧ wr.cell? ⟨bm, 0, none⟩ = some (u64v m) ∧ wr.cell? ⟨bc, 0, none⟩ = some (u64v (addT (L.drop o) ys m k / 18446744073709551616 ^ k)) ∧ wr.frozen? ⟨bc, 0, none⟩ = false ∧
      (∀ u, (wr.setCell ⟨bc, 0, none⟩ u).cell? ⟨g, o + k, none⟩ = some (u64v (L.getD (o + k) 0))) ∧ (∀ u, (wr.setCell ⟨bc, 0, none⟩ u).frozen? ⟨g, o + k, none⟩ = false) := by
  obtain ⟨h1, h2, h3, h4⟩ := h
  have hl := mid_length L o k (dig k (addT (L.drop o) ys m k)) (by omega) (dig_length _ _)
  have e : (mid L o k (dig k (addT (L.drop o) ys m k)))[o + k]'(by omega) = L.getD (o + k) 0 := by
    have := mid_get? L o k (dig k (addT (L.drop o) ys m k)) hk (dig_length _ _)
    rw [List.getElem?_eq_getElem (by omega), List.getElem?_eq_getElem hk] at this
    rw [List.getD_eq_getElem?_getD, List.getElem?_eq_getElem hk]
    injection this
  have hc : wr.cell? ⟨g, o + k, none⟩ = some (u64v (L.getD (o + k) 0)) := by rw [← e]; exact h1.cell _ _
  refine ⟨hc, h2.cell 0 (by simp), h3.cell 0 (by simp), h3.frozen 0, fun u => ?_, fun u => ?_⟩
  · rw [World.cell?_setCell_other _ _ _ _ (by intro e; injection e with e; first | exact hgc e | exact hgc e.symm)]
    exact hc
  · exact (h1.far (p := ⟨bc, 0, none⟩) (Ne.symm hgc) u).frozen _

theorem u64v_mod (a b : Nat) : u64v ((a + b) % 18446744073709551616) = .int .u64 (((a : Int) + (b : Int)) % 18446744073709551616) := by
  show Value.int .u64 (((a + b) % 18446744073709551616 : Nat) : Int) = _
  rw [show (((a + b) % 18446744073709551616 : Nat) : Int) = ((a : Int) + (b : Int)) % 18446744073709551616 by omega]

end Go.Proofs.YtbipbpakbanacaaDoor

/- nat.takeTimes, by its contract: what is left in z's limbs, and what z's end is short of. Conditions: z is memory of the call's own, apart from y, and as long as y or longer. -/
namespace Go.Proofs.YtbipbpakbanacaaDoor
open Go.RowKit

/-- What must still be taken after k limbs. -/
def tkC (zs ys : List Nat) (m : Nat) : Nat → Nat
  | 0 => 0
  | k + 1 => tkCarry (ys.getD k 0) m (tkC zs ys m k) (zs.getD k 0)
/-- The limbs that are left. -/
def tkL (zs ys : List Nat) (m : Nat) : Nat → List Nat
  | 0 => []
  | k + 1 => tkL zs ys m k ++ [tkLimb (ys.getD k 0) m (tkC zs ys m k) (zs.getD k 0)]
theorem tkL_length (zs ys : List Nat) (m k : Nat) : (tkL zs ys m k).length = k := by
  induction k with
  | zero => rfl
  | succ k ih => simp [tkL, ih]
theorem fit_tkL (zs ys : List Nat) (m k : Nat) : Fit (tkL zs ys m k) := by
  induction k with
  | zero => exact fit_nil
  | succ k ih => exact fit_append ih (fit_cons (tk_limb_lt _ _ _ _) fit_nil)
theorem tkC_lt (zs ys : List Nat) (m k : Nat) (hy : Fit ys) (hm : m < 18446744073709551616) : tkC zs ys m k < 18446744073709551616 := by
  induction k with
  | zero => show (0 : Nat) < _; decide
  | succ k ih => exact tk_carry_lt _ _ _ _ (fit_getD hy k) hm ih
theorem tk_all (zs ys : List Nat) (m k : Nat) (hz : Fit zs) : val (zs.take k) + 18446744073709551616 ^ k * tkC zs ys m k = val (tkL zs ys m k) + m * val (ys.take k) := by
  induction k with
  | zero => simp [tkC, tkL, val]
  | succ k ih =>
    have hs := tk_spec (ys.getD k 0) m (tkC zs ys m k) (zs.getD k 0) (fit_getD hz k)
    rw [val_take_getD, val_take_getD, tkL, val_append, tkL_length, val_cons, val_nil, tkC]
    generalize zs.getD k 0 = h at *
    generalize ys.getD k 0 = l at *
    generalize tkCarry l m (tkC zs ys m k) h = c' at *
    generalize tkLimb l m (tkC zs ys m k) h = d at *
    generalize tkC zs ys m k = c at *
    generalize val (tkL zs ys m k) = V at *
    generalize val (zs.take k) = Z at *
    generalize val (ys.take k) = Y at *
    rw [Nat.pow_succ]
    generalize 18446744073709551616 ^ k = p at *
    have e1 : p * (h + 18446744073709551616 * c') = p * (d + (l * m + c)) := by rw [hs]
    grind

/-- The relation of takeTimes' loops. -/
def TakeInv (w : World) (g o : Nat) (L ys : List Nat) (m bm bc k : Nat) (wr : World) : Prop :=
  Blk wr g (mid L o k (tkL (L.drop o) ys m k)) ∧ Blk wr bm [m] ∧ Blk wr bc [tkC (L.drop o) ys m k] ∧ w.grownBy wr (some g)

theorem takeInv_start (w : World) (g o : Nat) (L ys : List Nat) (m : Nat) (hm : m < 18446744073709551616) (hB : Blk w g L) :
    TakeInv w g o L ys m w.heap.size (w.heap.size + 1) 0 ((w.alloc (.cells #[u64v m] 70)).alloc (.cells #[u64v 0] 70)) := by
  refine ⟨?_, ?_, ?_, ?_⟩
  · rw [show tkL (L.drop o) ys m 0 = [] from rfl, mid_zero]
    exact (hB.alloc _).alloc _
  · exact (blk_one w m hm).alloc _
  · rw [show tkC (L.drop o) ys m 0 = 0 from rfl]
    have := blk_one (w.alloc (.cells #[u64v m] 70)) 0 (by decide)
    simpa using this
  · exact (grown_alloc (grown_alloc (World.grownBy.refl w _) _) _)

theorem takeInv_step {w : World} {g o : Nat} {L ys : List Nat} {m bm bc k : Nat} {wr : World} (h : TakeInv w g o L ys m bm bc k wr) (hk : o + k < L.length) (hy : Fit ys) (hm : m < 18446744073709551616)
    (hgm : g ≠ bm) (hgc : g ≠ bc) (hmc : bm ≠ bc) (hbc : w.heap.size ≤ bc) :
    TakeInv w g o L ys m bm bc (k + 1)
      ((wr.setCell ⟨bc, 0, none⟩ (u64v (tkCarry (ys.getD k 0) m (tkC (L.drop o) ys m k) (L.getD (o + k) 0)))).setCell ⟨g, o + k, none⟩
        (u64v (tkLimb (ys.getD k 0) m (tkC (L.drop o) ys m k) (L.getD (o + k) 0)))) := by
  obtain ⟨h1, h2, h3, h4⟩ := h
  have ed : (L.drop o).getD k 0 = L.getD (o + k) 0 := by simp [List.getD_eq_getElem?_getD]
  have hcl : tkC (L.drop o) ys m (k + 1) < 18446744073709551616 := tkC_lt _ _ _ _ hy hm
  refine ⟨?_, ?_, ?_, ?_⟩
  · have := (h1.far (p := ⟨bc, 0, none⟩) hgc (u64v (tkCarry (ys.getD k 0) m (tkC (L.drop o) ys m k) (L.getD (o + k) 0)))).set_ (o + k) (tkLimb (ys.getD k 0) m (tkC (L.drop o) ys m k) (L.getD (o + k) 0)) (tk_limb_lt _ _ _ _)
    rw [mid_set _ _ _ _ _ hk (tkL_length _ _ _ _)] at this
    rw [tkL, ed]
    exact this
  · exact (h2.far (p := ⟨bc, 0, none⟩) hmc _).far (p := ⟨g, o + k, none⟩) (Ne.symm hgm) _
  · rw [tkC, ed] at hcl ⊢
    exact (h3.set_ 0 _ hcl).far (p := ⟨g, o + k, none⟩) (Ne.symm hgc) _
  · exact grown_setCell (grown_setCell h4 (.inr hbc) _) (.inl rfl) _

/-- What the walk wants of a round: the limb that stands in z, and where the closure's two variables lie. -/
theorem takeInv_cells {w : World} {g o : Nat} {L ys : List Nat} {m bm bc k : Nat} {wr : World} (h : TakeInv w g o L ys m bm bc k wr) (hk : o + k < L.length) (hgc : bc ≠ g) :
    wr.cell? ⟨g, o + k, none⟩ = some (u64v (L.getD (o + k) 0)) ∧ wr.cell? ⟨bm, 0, none⟩ = some (u64v m) ∧ wr.cell? ⟨bc, 0, none⟩ = some (u64v (tkC (L.drop o) ys m k)) ∧ wr.frozen? ⟨bc, 0, none⟩ = false ∧
      (∀ u, (wr.setCell ⟨bc, 0, none⟩ u).cell? ⟨g, o + k, none⟩ = some (u64v (L.getD (o + k) 0))) ∧ (∀ u, (wr.setCell ⟨bc, 0, none⟩ u).frozen? ⟨g, o + k, none⟩ = false) := by
  obtain ⟨h1, h2, h3, h4⟩ := h
  have hl := mid_length L o k (tkL (L.drop o) ys m k) (by omega) (tkL_length _ _ _ _)
  have e : (mid L o k (tkL (L.drop o) ys m k))[o + k]'(by omega) = L.getD (o + k) 0 := by
    have := mid_get? L o k (tkL (L.drop o) ys m k) hk (tkL_length _ _ _ _)
    rw [List.getElem?_eq_getElem (by omega), List.getElem?_eq_getElem hk] at this
    rw [List.getD_eq_getElem?_getD, List.getElem?_eq_getElem hk]
    injection this
  have hc : wr.cell? ⟨g, o + k, none⟩ = some (u64v (L.getD (o + k) 0)) := by rw [← e]; exact h1.cell _ _
  refine ⟨hc, h2.cell 0 (by simp), h3.cell 0 (by simp), h3.frozen 0, fun u => ?_, fun u => ?_⟩
  · rw [World.cell?_setCell_other _ _ _ _ (by intro e; injection e with e; first | exact hgc e | exact hgc e.symm)]
    exact hc
  · exact (h1.far (p := ⟨bc, 0, none⟩) (Ne.symm hgc) u).frozen _

end Go.Proofs.YtbipbpakbanacaaDoor

/- make and copy of limbs, as laws of the walk. -/
namespace Go.Proofs.YtbipbpakbanacaaDoor
open Go.RowKit

theorem infoU : (Tryd.prog.info? 70).map (fun i => (i.zero, i.size, i.bytes)) = some (some (.int .u64 0), 1, 8) := by kernel_rfl
theorem infoUs : (Tryd.prog.info? 70).map (·.size) = some 1 := by kernel_rfl

theorem wpList_make_limbs {ops : Array Oper} {rest : List Oper} {o : Oper} {a : Act} {Q : Exit → Act → World → Prop} (w : World)
    (hg : o.guard = none) (l c : Operand) (hop : o.op = Op.makeSlice 38 l c) (kl kc : IntKind) (L C : Int) (n : Nat) (hl : a.eval l = .int kl L) (hc : a.eval c = .int kc C) (hL : L = (n : Int)) (hC : C = (n : Int)) (hn : n ≤ 35184372088832)
    (hK : ∀ w', Blk w' w.heap.size (List.replicate n 0) → Below w.heap.size w w' → wpList Tryd.prog ops Q rest (a.put o.dst (.slice (some ⟨w.heap.size, 0, none⟩) n n)) w') :
    wpList Tryd.prog ops Q (o :: rest) a w := by
  obtain ⟨i0, hi, hz0, hz1, hz2⟩ := info_parts infoU
  refine wpList_make_full w hg l c 38 hop w.heap.size 70 i0 _ 1 Tryd.underlying38 hi hz0 hz1 kl kc L C n hl hc hL hC (by rw [hz2]; omega) (by unfold maxLen; omega) (Nat.le_refl _) ?_
  intro w' ho hgr
  have hbel : Below w.heap.size w w' := (Below.refl _ _).grown hgr (Nat.le_refl _) (fun k e => by cases e)
  refine hK w' ⟨?_, ?_⟩ hbel
  · obtain ⟨h1, ⟨h2, _⟩ | ⟨g, cap, cur, hv, hb, hh, hn1, hn2, hs, ht⟩⟩ := ho
    · cases h2
    · simp only [Value.slice.injEq, Option.some.injEq, Addr.mk.injEq, and_true, true_and] at hv
      obtain ⟨rfl, rfl⟩ := hv
      have e1 : cur.toList = (List.replicate n 0).map u64v := by
        rw [List.take_of_length_le (by simp [hs])] at ht
        rw [ht, show (Value.int IntKind.u64 0).cells = #[Value.int IntKind.u64 0] from rfl, toList_madeCells_one]
        simp
      rw [hh]
      congr 2
      rw [← e1]
  · intro x hx
    rw [List.eq_of_mem_replicate hx]
    decide

theorem wpList_copy_limbs {ops : Array Oper} {rest : List Oper} {o : Oper} {a : Act} {Q : Exit → Act → World → Prop} (w : World) (hgd : o.guard = none) (d s : Operand)
    (ho : o.op = .call { callee := .builtin .copy, args := #[d, s], argTypes := #[38, 38] }) (g off dLen dCap : Nat) (A : Option Addr) (n c : Nat)
    (hd : a.eval d = .slice (some ⟨g, off, none⟩) dLen dCap) (hs : a.eval s = .slice A n c) (L xs : List Nat) (hB : Blk w g L) (hR : Rd w A xs) (hn : n = xs.length) (hfit : n ≤ dLen) (hL : off + n ≤ L.length)
    (h : ∀ w', Blk w' g (mid L off n xs) → w.grownBy w' (some g) → wpList Tryd.prog ops Q rest (a.put o.dst (goInt n)) w') : wpList Tryd.prog ops Q (o :: rest) a w := by
  subst hn
  by_cases h0 : xs.length = 0
  · obtain rfl : xs = [] := List.eq_nil_of_length_eq_zero h0
    refine wpList_copy_nothing hgd d s _ _ ho 70 Tryd.underlying38 infoUs _ _ _ _ _ _ hd hs (by simp) ?_
    refine h w ?_ (World.grownBy.refl w _)
    simpa [mid] using hB
  · obtain ⟨hf, h1 | ⟨b, oo, rfl, hlt, hc⟩⟩ := hR
    · exact absurd (by rw [h1]; rfl) h0
    · have hmin : xs.length = Nat.min xs.length dLen := (Nat.min_eq_left hfit).symm
      have hlen : (xs.map u64v).length = xs.length := List.length_map ..
      refine wpList_copy_own hgd d s _ _ ho 70 Tryd.underlying38 infoUs g off dLen dCap ⟨b, oo, none⟩ _ _ hd hs _ 70 hB.1 (xs.map u64v) (by rw [hlen]; exact hmin) ?_ (by simpa using hL) (by intro v hv; obtain ⟨x, _, rfl⟩ := List.mem_map.1 hv; rfl) ?_
      · intro j v hj
        rw [List.getElem?_map] at hj
        obtain ⟨x, hx, rfl⟩ := Option.map_eq_some_iff.1 hj
        obtain ⟨hj', rfl⟩ := List.getElem?_eq_some_iff.1 hx
        have ha : (⟨b, oo, none⟩ : Addr).add j = ⟨b, oo + j, none⟩ := by
          unfold Addr.add
          by_cases hj0 : j = 0 <;> simp [hj0]
        rw [ha]
        exact hc j hj'
      · rw [hlen]
        refine h _ ⟨?_, ?_⟩ ?_
        · rw [setRow_heap w g _ _ _ _ hB.1]
          congr 2
          simp [mid, List.map_take, List.map_drop]
        · unfold mid
          exact fit_append (fit_append (fit_take hB.2 _) hf) (fit_drop hB.2 _)
        · exact ⟨rfl, rfl, rfl, by simp, fun k _ hne => setRow_other w g k _ (fun e => hne (by rw [e]))⟩

set_option maxHeartbeats 400000 in
/-- nat.Norm: a new slice of the plain limbs. -/
theorem norm_any (A : Option Addr) (n c : Nat) (xs : List Nat) (w : World) (h : Sl w A n c xs) (hn : n ≤ 17592186044416) :
    Calls Tryd.prog 70 #[.slice A n c] w fun e w' =>
      e = .returned (.slice (some ⟨w.heap.size, 0, none⟩) (nrm (val xs)).length (nrm (val xs)).length) ∧ Blk w' w.heap.size (nrm (val xs)) ∧ Below w.heap.size w w' := by
  have HT := Lib.hid (trim_any A n c xs w h)
  have hpl := h.plain
  have hle := nrm_length_le h.fit
  rw [← h.len] at hle
  obtain ⟨m, hm⟩ : ∃ m, m = (nrm (val xs)).length := ⟨_, rfl⟩
  obtain ⟨ys, hys⟩ : ∃ ys, ys = nrm (val xs) := ⟨_, rfl⟩
  rw [← hm] at hle HT
  rw [← hm, ← hys] at hpl
  rw [← hm, ← hys]
  have hR := hpl.2.2.2.2
  have hmy := hpl.1
  have HP := Lib.hid hR
  have HM := Lib.hid hmy
  clear h hpl hys hm hR hmy
  go_enter Tryd.func70, Tryd.ntmps70
  go_wp2_with (first
    | (go_at_call 90; refine HT.out.mono ?_; rintro e w' ⟨rfl, rfl⟩)
    | (at_make; refine wpList_make_limbs _ rfl _ _ rfl _ _ _ _ m rfl rfl rfl rfl (by omega) ?_; intro w1 hb1 hbel1)
    | (with_reducible refine wpList_copy_limbs _ rfl (.tmp 9) (.tmp 10) rfl _ 0 m m A m c rfl rfl (List.replicate m 0) ys hb1 (HP.out.below hbel1) HM.out (Nat.le_refl _) (by simp) ?_; intro w2 hb2 hg2))
  go_ret
  refine ⟨rfl, ?_, hbel1.trans (below_of_grown hg2 hbel1.size (Nat.le_refl _))⟩
  have e : mid (List.replicate m 0) 0 m ys = ys := by simp [mid]
  rwa [e] at hb2

/-- A new slice, in memory of the call's own (block B or later), that reads as xs. -/
def New (w : World) (B : Nat) (v : Value) (xs : List Nat) : Prop := ∃ g c, v = .slice (some ⟨g, 0, none⟩) xs.length c ∧ B ≤ g ∧ g < w.heap.size ∧ Sl w (some ⟨g, 0, none⟩) xs.length c xs

theorem Blk.sl {w : World} {g : Nat} {L : List Nat} (h : Blk w g L) (hm : L.length ≤ 9223372036854775807) : Sl w (some ⟨g, 0, none⟩) L.length L.length L :=
  ⟨rfl, Nat.le_refl _, hm, (fun e => by cases e), h.rd0⟩
theorem New.below {w w' : World} {B : Nat} {v : Value} {xs : List Nat} (h : New w B v xs) (hb : Below w.heap.size w w') : New w' B v xs := by
  obtain ⟨g, c, h1, h2, h3, h4⟩ := h
  exact ⟨g, c, h1, h2, Nat.lt_of_lt_of_le h3 hb.size, h4.below hb⟩

theorem mid_new (k p : Nat) (ps : List Nat) : val (mid (List.replicate k 0) 0 p ps) = val ps := by
  have hz : ∀ n, val (List.replicate n 0) = 0 := by
    intro n
    induction n with
    | zero => rfl
    | succ n ih => rw [List.replicate_succ, val_cons, ih]
  unfold mid
  simp only [List.take_zero, List.nil_append, Nat.zero_add, List.drop_replicate]
  rw [val_append, hz]
  omega

/-- What addTimes leaves of a block that it fills whole, nothing passing over the end. -/
theorem addT_whole (L ys : List Nat) (m k : Nat) (hL : L.length = k) (hy : ys.length ≤ k) : addT (L.drop 0) ys m k = val L + m * val ys := by
  unfold addT
  rw [List.drop_zero, List.take_of_length_le (by omega), List.take_of_length_le (by omega)]
theorem mid_whole (L new : List Nat) (k : Nat) (hL : L.length = k) : mid L 0 k new = new := by
  unfold mid
  simp [List.drop_of_length_le (Nat.le_of_eq hL)]
theorem sum_lt (xs ys : List Nat) (hx : Fit xs) (hy : Fit ys) (k : Nat) (h1 : xs.length < k) (h2 : ys.length < k) : val xs + val ys < 18446744073709551616 ^ k := by
  have a1 := val_lt hx
  have a2 := val_lt hy
  have b1 : 18446744073709551616 ^ xs.length ≤ 18446744073709551616 ^ (k - 1) := Nat.pow_le_pow_right (by decide) (by omega)
  have b2 : 18446744073709551616 ^ ys.length ≤ 18446744073709551616 ^ (k - 1) := Nat.pow_le_pow_right (by decide) (by omega)
  have e : 18446744073709551616 ^ k = 18446744073709551616 ^ (k - 1) * 18446744073709551616 := by rw [← Nat.pow_succ]; congr 1; omega
  rw [e]
  omega
end Go.Proofs.YtbipbpakbanacaaDoor

/- What a block holds, said by its value alone: so many limbs of a number. -/
namespace Go.Proofs.YtbipbpakbanacaaDoor
open Go.RowKit

theorem val_mid (L new : List Nat) (o n : Nat) (h : o + n ≤ L.length) (hn : new.length = n) : val (mid L o n new) + 18446744073709551616 ^ o * val ((L.drop o).take n) = val L + 18446744073709551616 ^ o * val new := by
  have e : L = L.take o ++ ((L.drop o).take n ++ L.drop (o + n)) := by
    rw [← List.drop_drop, List.take_append_drop, List.take_append_drop]
  have h2 : val L = val (L.take o) + 18446744073709551616 ^ o * (val ((L.drop o).take n) + 18446744073709551616 ^ n * val (L.drop (o + n))) := by
    conv => lhs; rw [e]
    rw [val_append, val_append, List.length_take, List.length_take, List.length_drop, Nat.min_eq_left (by omega), Nat.min_eq_left (by omega)]
  have h1 : val (mid L o n new) = val (L.take o) + 18446744073709551616 ^ o * (val new + 18446744073709551616 ^ n * val (L.drop (o + n))) := by
    unfold mid
    rw [List.append_assoc, val_append, val_append, List.length_take, Nat.min_eq_left (by omega), hn]
  rw [h1, h2]
  grind
theorem fit_mid {L new : List Nat} (hL : Fit L) (hn : Fit new) (o n : Nat) : Fit (mid L o n new) := fit_append (fit_append (fit_take hL _) hn) (fit_drop hL _)
theorem dig_of {xs : List Nat} (h : Fit xs) (n v : Nat) (hn : xs.length = n) (hv : val xs = v) : xs = dig n v := by rw [← hn, ← hv, dig_val h]
theorem mid_dig (L new : List Nat) (o n v : Nat) (hL : Fit L) (hn' : Fit new) (h : o + n ≤ L.length) (hn : new.length = n) (hv : v + 18446744073709551616 ^ o * val ((L.drop o).take n) = val L + 18446744073709551616 ^ o * val new) : mid L o n new = dig L.length v := by
  refine dig_of (fit_mid hL hn' o n) _ _ (mid_length L o n new h hn) ?_
  have := val_mid L new o n h hn
  omega
theorem dig_zero (n : Nat) : dig n 0 = List.replicate n 0 := by
  induction n with
  | zero => rfl
  | succ n ih => rw [dig, List.replicate_succ, ← ih]

/-- Front and rear parts of a number's limbs. -/
theorem dig_take (n k v : Nat) (h : k ≤ n) : (dig n v).take k = dig k v := by
  induction n generalizing k v with
  | zero =>
    have : k = 0 := by omega
    subst this; rfl
  | succ n ih =>
    cases k with
    | zero => rfl
    | succ k => rw [dig, List.take_succ_cons, ih k _ (by omega), dig]
theorem dig_drop (n k v : Nat) : (dig n v).drop k = dig (n - k) (v / 18446744073709551616 ^ k) := by
  induction n generalizing k v with
  | zero => simp [dig]
  | succ n ih =>
    cases k with
    | zero => simp
    | succ k => rw [dig, List.drop_succ_cons, ih, Nat.div_div_eq_div_mul, Nat.pow_succ, Nat.mul_comm 18446744073709551616]; congr 1; omega
theorem dig_part (n o k v : Nat) (h : o + k ≤ n) : ((dig n v).drop o).take k = dig k (v / 18446744073709551616 ^ o) := by rw [dig_drop, dig_take _ _ _ (by omega)]

theorem Blk.sl' {w : World} {g K V : Nat} (h : Blk w g (dig K V)) (hm : K ≤ 9223372036854775807) : Sl w (some ⟨g, 0, none⟩) K K (dig K V) := by
  have := h.sl (by rw [dig_length]; exact hm)
  rwa [dig_length] at this

theorem wpList_make_val {ops : Array Oper} {rest : List Oper} {o : Oper} {a : Act} {Q : Exit → Act → World → Prop} (w : World)
    (hg : o.guard = none) (l c : Operand) (hop : o.op = Op.makeSlice 38 l c) (kl kc : IntKind) (L C : Int) (n : Nat) (hl : a.eval l = .int kl L) (hc : a.eval c = .int kc C) (hL : L = (n : Int)) (hC : C = (n : Int)) (hn : n ≤ 35184372088832)
    (hK : ∀ w', Blk w' w.heap.size (dig n 0) → Below w.heap.size w w' → wpList Tryd.prog ops Q rest (a.put o.dst (.slice (some ⟨w.heap.size, 0, none⟩) n n)) w') :
    wpList Tryd.prog ops Q (o :: rest) a w :=
  wpList_make_limbs w hg l c hop kl kc L C n hl hc hL hC hn fun w' hb hbel => hK w' (by rw [dig_zero]; exact hb) hbel

theorem wpList_copy_val {ops : Array Oper} {rest : List Oper} {o : Oper} {a : Act} {Q : Exit → Act → World → Prop} (w : World) (hgd : o.guard = none) (d s : Operand)
    (ho : o.op = .call { callee := .builtin .copy, args := #[d, s], argTypes := #[38, 38] }) (g off dLen dCap : Nat) (A : Option Addr) (n c : Nat)
    (hd : a.eval d = .slice (some ⟨g, off, none⟩) dLen dCap) (hs : a.eval s = .slice A n c) (K V : Nat) (xs : List Nat) (hB : Blk w g (dig K V)) (hR : Sl w A n c xs) (hfit : n ≤ dLen) (hL : off + n ≤ K)
    (hV : V < 18446744073709551616 ^ off)
    (h : ∀ w', Blk w' g (dig K (V + 18446744073709551616 ^ off * val xs)) → w.grownBy w' (some g) → wpList Tryd.prog ops Q rest (a.put o.dst (goInt n)) w') : wpList Tryd.prog ops Q (o :: rest) a w := by
  refine wpList_copy_limbs w hgd d s ho g off dLen dCap A n c hd hs (dig K V) xs hB hR.rd hR.len hfit (by rw [dig_length]; exact hL) fun w' hb hg => h w' ?_ hg
  have hVK : V < 18446744073709551616 ^ K := Nat.lt_of_lt_of_le hV (Nat.pow_le_pow_right (by decide) (by omega))
  have e := mid_dig (dig K V) xs off n (V + 18446744073709551616 ^ off * val xs) (fit_dig _ _) hR.fit (by rw [dig_length]; exact hL) hR.len.symm (by
    rw [dig_part K off n V hL, val_dig_of_lt hVK, Nat.div_eq_of_lt hV, val_dig]
    simp)
  rw [dig_length] at e
  rwa [e] at hb
/-- A block of so many limbs, cut to the plain ones, is a new slice of its value. -/
theorem new_of_blk {w : World} {g K V B : Nat} (h : Blk w g (dig K V)) (hm : K ≤ 9223372036854775807) (hV : V < 18446744073709551616 ^ K) (hB : B ≤ g) :
    New w B (.slice (some ⟨g, 0, none⟩) (nrm (val (dig K V))).length K) (nrm V) := by
  have hs := (h.sl' hm).plain
  rw [val_dig_of_lt hV] at hs ⊢
  exact ⟨g, K, rfl, hB, h.lt, hs⟩
end Go.Proofs.YtbipbpakbanacaaDoor

/- nat.Add, by its contract: a new slice of the sum's plain limbs. Conditions: the lengths are at most 2^43. -/
namespace Go.Proofs.YtbipbpakbanacaaDoor
open Go.RowKit

/-- cmp.Compare at uint64, -1, 0, 1. -/
def cmpN (x y : Nat) : Int := if x < y then -1 else if y < x then 1 else 0
end Go.Proofs.YtbipbpakbanacaaDoor

/- nat.Cmp, nat.Sub, nat.Bits, by their contracts. -/
namespace Go.Proofs.YtbipbpakbanacaaDoor
open Go.RowKit

theorem nrm_ge (v : Nat) (h : v ≠ 0) : 18446744073709551616 ^ ((nrm v).length - 1) ≤ v := by
  induction v using Nat.strongRecOn with
  | ind v ih =>
    rw [nrm_pos v h, List.length_cons, Nat.add_sub_cancel]
    by_cases h0 : v / 18446744073709551616 = 0
    · rw [h0, nrm_zero]; simp; omega
    · have h1 := ih (v / 18446744073709551616) (by omega) h0
      have hp : 0 < (nrm (v / 18446744073709551616)).length := by rw [nrm_pos _ h0]; simp
      have e : 18446744073709551616 ^ (nrm (v / 18446744073709551616)).length = 18446744073709551616 ^ ((nrm (v / 18446744073709551616)).length - 1) * 18446744073709551616 := by rw [← Nat.pow_succ]; congr 1; omega
      rw [e]
      have := Nat.mul_le_mul_right 18446744073709551616 h1
      omega
theorem nrm_lt (v : Nat) : v < 18446744073709551616 ^ (nrm v).length := by
  have := val_lt (fit_nrm v)
  rwa [val_nrm] at this
theorem lt_of_len {u v : Nat} (h : (nrm u).length < (nrm v).length) : u < v := by
  have hv : v ≠ 0 := by intro e; rw [e, nrm_zero] at h; simp at h
  have h1 := nrm_lt u
  have h2 := nrm_ge v hv
  have h3 : 18446744073709551616 ^ (nrm u).length ≤ 18446744073709551616 ^ ((nrm v).length - 1) := Nat.pow_le_pow_right (by decide) (by omega)
  omega
theorem cmp_len {u v : Nat} (h : (nrm u).length ≠ (nrm v).length) : cmpN (nrm u).length (nrm v).length = cmpN u v := by
  unfold cmpN
  rcases Nat.lt_or_gt_of_ne h with h1 | h1
  · have := lt_of_len h1
    rw [if_pos h1, if_pos this]
  · have := lt_of_len h1
    rw [if_neg (by omega), if_pos h1, if_neg (by omega), if_pos this]
theorem val_split (xs : List Nat) (k : Nat) (hk : k < xs.length) : val xs = val (xs.take k) + 18446744073709551616 ^ k * (xs[k] + 18446744073709551616 * val (xs.drop (k + 1))) := by
  conv => lhs; rw [← List.take_append_drop k xs]
  rw [val_append, List.drop_eq_getElem_cons hk, val_cons, List.length_take, Nat.min_eq_left (by omega)]
theorem lt_at {ps qs : List Nat} (hp : Fit ps) (k : Nat) (h1 : k < ps.length) (h2 : k < qs.length) (hd : ps.drop (k + 1) = qs.drop (k + 1)) (h : ps[k] < qs[k]) : val ps < val qs := by
  rw [val_split ps k h1, val_split qs k h2, hd]
  have a := val_lt (fit_take hp k)
  rw [List.length_take, Nat.min_eq_left (by omega)] at a
  have b : 18446744073709551616 ^ k * (ps[k] + 18446744073709551616 * val (qs.drop (k + 1)) + 1) ≤ 18446744073709551616 ^ k * (qs[k] + 18446744073709551616 * val (qs.drop (k + 1))) := Nat.mul_le_mul_left _ (by omega)
  rw [Nat.mul_add, Nat.mul_one] at b
  omega
theorem cmp_at {ps qs : List Nat} (hp : Fit ps) (hq : Fit qs) (k : Nat) (h1 : k < ps.length) (h2 : k < qs.length) (hd : ps.drop (k + 1) = qs.drop (k + 1)) (h : ps[k] ≠ qs[k]) : cmpN ps[k] qs[k] = cmpN (val ps) (val qs) := by
  unfold cmpN
  rcases Nat.lt_or_gt_of_ne h with h3 | h3
  · rw [if_pos h3, if_pos (lt_at hp k h1 h2 hd h3)]
  · have := lt_at hq k h2 h1 hd.symm h3
    rw [if_neg (by omega), if_pos h3, if_neg (by omega), if_pos this]
theorem drop_step {ps qs : List Nat} (k : Nat) (h1 : k < ps.length) (h2 : k < qs.length) (hd : ps.drop (k + 1) = qs.drop (k + 1)) (h : ps[k] = qs[k]) : ps.drop k = qs.drop k := by
  rw [List.drop_eq_getElem_cons h1, List.drop_eq_getElem_cons h2, hd, h]

/-- The cells of a slice that isn't empty. -/
theorem Sl.at_ {w : World} {A : Option Addr} {n c : Nat} {xs : List Nat} (h : Sl w A n c xs) (hn : 0 < n) : ∃ b o, A = some ⟨b, o, none⟩ ∧ b < w.heap.size ∧ ∀ j, j < n → w.cell? ⟨b, o + j, none⟩ = some (u64v (xs.getD j 0)) := by
  rcases h.rd.2 with e | ⟨b, o, rfl, hlt, hc⟩
  · rw [h.len, e] at hn; exact absurd hn (by simp)
  · refine ⟨b, o, rfl, hlt, fun j hj => ?_⟩
    have hj' : j < xs.length := by rw [← h.len]; exact hj
    rw [hc j hj', List.getD_eq_getElem?_getD, List.getElem?_eq_getElem hj']
    rfl

theorem quiet_add_same' {P : Program} {f : FuncId} {args : Array Value} {w : World} {a n : Nat} {v : Value}
    (h : Calls P f args (w.drewN (a + n)) fun e w' => e = .returned v ∧ w.drewN (a + n) = w') :
    Calls P f args (w.drewN (a + n)) fun e w'' => e = .returned v ∧ ∃ m, w'' = w.drewN (a + m) :=
  h.mono fun _ _ ⟨he, hm⟩ => ⟨he, n, hm.symm⟩

/-- nat.Bits: how many bits a number has. -/
theorem bitLen_split (x v : Nat) (k : Nat) (hx : x ≠ 0) (hv : v < 18446744073709551616 ^ k) : bitLen (v + 18446744073709551616 ^ k * x) = 64 * k + bitLen x := by
  have e : 18446744073709551616 ^ k = 2 ^ (64 * k) := by rw [Nat.pow_mul]
  rw [e] at hv ⊢
  have hd : (v + 2 ^ (64 * k) * x) / 2 ^ (64 * k) = x := by rw [Nat.add_mul_div_left _ _ (Nat.pow_pos (by decide)), Nat.div_eq_of_lt hv, Nat.zero_add]
  have := bitLen_shift (v + 2 ^ (64 * k) * x) (64 * k) (by rw [hd]; exact hx)
  rw [this, hd]
end Go.Proofs.YtbipbpakbanacaaDoor

/- nat.Sub and nat.Bits, by their contracts. -/
namespace Go.Proofs.YtbipbpakbanacaaDoor
open Go.RowKit

theorem nrm_dig (v : Nat) : nrm v = dig (nrm v).length v := dig_of (fit_nrm v) _ _ rfl (val_nrm v)
theorem len_le_of_le {u v : Nat} (h : u ≤ v) : (nrm u).length ≤ (nrm v).length := by
  rcases Nat.lt_or_ge (nrm v).length (nrm u).length with h1 | h1
  · have := lt_of_len h1; omega
  · exact h1

theorem ret_int {k : IntKind} {a b : Int} (h : a = b) : Ending.returned (.int k a) = .returned (.int k b) := by rw [h]

theorem lbl_eq (x : Nat) (h : x < 18446744073709551616) : Lib.bitLen x = bitLen x := by
  induction x using Nat.strongRecOn with
  | _ x ih =>
    by_cases h0 : x = 0
    · subst h0; rfl
    · rw [Lib.bitLen_half x h0 (by simpa using h), ih (x / 2) (by omega) (by omega)]
      unfold bitLen
      rw [if_neg h0, Nat.log2_def x]
      by_cases h2 : 2 ≤ x
      · rw [if_pos h2, if_neg (by omega)]; omega
      · obtain rfl : x = 1 := by omega
        simp

set_option maxHeartbeats 1000000 in
theorem bits_any (A : Option Addr) (n c : Nat) (xs : List Nat) (w : World) (h : Sl w A n c xs) (hn : n ≤ 70368744177664) :
    Calls Tryd.prog 85 #[.slice A n c] w fun e w' => e = .returned (.int .i64 (bitLen (val xs) : Int)) ∧ w = w' := by
  have HT := Lib.hid (trim_any A n c xs w h)
  have hpl := h.plain
  have hpn : (nrm (val xs)).length ≤ n := by rw [h.len]; exact nrm_length_le h.fit
  have hv := val_nrm (val xs)
  have hfit := fit_nrm (val xs)
  have hlast : ∀ k, k + 1 = (nrm (val xs)).length → (nrm (val xs)).getD k 0 ≠ 0 ∧ bitLen (val xs) = 64 * k + bitLen ((nrm (val xs)).getD k 0) := by
    intro k hk
    have hk' : k < (nrm (val xs)).length := by omega
    have e : (nrm (val xs)).getD k 0 = (nrm (val xs))[k] := by rw [List.getD_eq_getElem?_getD, List.getElem?_eq_getElem hk']; rfl
    have hs := val_split (nrm (val xs)) k hk'
    rw [List.drop_of_length_le (by omega), val_nil, Nat.mul_zero, Nat.add_zero] at hs
    have hl := val_lt (fit_take hfit k)
    rw [List.length_take, Nat.min_eq_left (by omega)] at hl
    have hx0 : (nrm (val xs))[k] ≠ 0 := by
      intro h0
      rw [h0, Nat.mul_zero, Nat.add_zero, hv] at hs
      have hge := nrm_ge (val xs) (by intro e0; rw [e0, nrm_zero] at hk; simp at hk)
      rw [← hk, Nat.add_sub_cancel] at hge
      omega
    rw [e]
    refine ⟨hx0, ?_⟩
    rw [hv] at hs
    have hb := bitLen_split _ _ _ hx0 hl
    rw [← hs] at hb
    exact hb
  have hz : (nrm (val xs)).length = 0 → bitLen (val xs) = 0 := by
    intro e
    rw [(nrm_nil_iff (val xs)).1 (List.eq_nil_of_length_eq_zero e)]
    rfl
  generalize nrm (val xs) = ps at *
  generalize bitLen (val xs) = r at *
  obtain ⟨p, hp⟩ : ∃ p, p = ps.length := ⟨_, rfl⟩
  rw [← hp] at HT hpl hpn hlast hz
  have H := Lib.hid h
  have H3 := Lib.hid hpl
  have HZ := Lib.hid hz
  have HL := Lib.hid hlast
  clear h hpl hlast hz hv
  by_cases h0 : p = 0
  · subst h0
    have hr := HZ.out rfl
    subst hr
    clear HZ HL
    go_enter Tryd.func85, Tryd.ntmps85
    go_wp2_with (go_at_call 90; refine HT.out.mono ?_; rintro e w' ⟨rfl, rfl⟩)
    go_ret
    exact ⟨rfl, rfl⟩
  · obtain ⟨b, o, rfl, _, hc⟩ := H3.out.at_ (by omega)
    have hx := hc (p - 1) (by omega)
    have hl := HL.out (p - 1) (by omega)
    have hlt := fit_getD hfit (p - 1)
    generalize ps.getD (p - 1) 0 = x at *
    have hb := Tryd.bits_Len64 x
    have e0 : Lib.bitLen x = bitLen x := lbl_eq x hlt
    have h64 : bitLen x ≤ 64 := by
      have := bitLen_spec x
      rw [← e0]
      exact Lib.bitLen_le x 64 (by omega) (by omega)
    rw [Int.toNat_natCast, e0] at hb
    have hr := hl.2
    generalize bitLen x = y at *
    subst hr
    have hne : ((p : Int) == 0) = false := by simp; omega
    have HB := Lib.hid hb
    clear hl hc hb HZ HL hp
    go_enter Tryd.func85, Tryd.ntmps85
    go_wp2_with (first
      | (go_at_call 90; refine HT.out.mono ?_; rintro e w' ⟨rfl, rfl⟩)
      | (go_at_call 93; refine (HB.out w (by omega) (by omega)).mono ?_; rintro e w' ⟨rfl, hw⟩; subst hw))
    go_ret
    exact ⟨ret_int (by omega), rfl⟩
end Go.Proofs.YtbipbpakbanacaaDoor

/- nat.rowProduct, by its contract: as many limbs as both factors have, of the product. -/
namespace Go.Proofs.YtbipbpakbanacaaDoor
open Go.RowKit

theorem row_bound (xs ys : List Nat) (n k : Nat) (hx : Fit xs) (hy : Fit ys) (hn : xs.length = n) : val xs * val (ys.take k) / 18446744073709551616 ^ k < 18446744073709551616 ^ n := by
  have h1 := val_lt hx
  rw [hn] at h1
  have h2 := val_lt (fit_take hy k)
  have h3 : 18446744073709551616 ^ (ys.take k).length ≤ 18446744073709551616 ^ k := Nat.pow_le_pow_right (by decide) (by rw [List.length_take]; omega)
  apply Nat.div_lt_of_lt_mul
  rw [Nat.mul_comm (18446744073709551616 ^ k)]
  rcases Nat.eq_zero_or_pos (val xs) with h0 | h0
  · rw [h0, Nat.zero_mul]; exact Nat.mul_pos (Nat.pow_pos (by decide)) (Nat.pow_pos (by decide))
  · exact Nat.lt_of_lt_of_le (Nat.mul_lt_mul_of_pos_left (Nat.lt_of_lt_of_le h2 h3) h0) (Nat.mul_le_mul_right _ (Nat.le_of_lt h1))
theorem row_all (xs ys : List Nat) (n k K : Nat) (hx : Fit xs) (hy : Fit ys) (hn : xs.length = n) (hK : n + k ≤ K) : val xs * val (ys.take k) < 18446744073709551616 ^ K := by
  have h := row_bound xs ys n k hx hy hn
  rw [Nat.div_lt_iff_lt_mul (Nat.pow_pos (by decide)), ← Nat.pow_add] at h
  exact Nat.lt_of_lt_of_le h (Nat.pow_le_pow_right (by decide) hK)
theorem row_limb (xs : List Nat) (n m Q : Nat) (hx : Fit xs) (hn : xs.length = n) (hQ : Q < 18446744073709551616 ^ n) (hm : m < 18446744073709551616) : val (dig (n + 1) Q) + m * val xs < 18446744073709551616 ^ (n + 1) := by
  have h1 := val_lt hx
  rw [hn] at h1
  have e : 18446744073709551616 ^ (n + 1) = 18446744073709551616 ^ n * 18446744073709551616 := Nat.pow_succ ..
  rw [val_dig_of_lt (by omega), e]
  have h2 : m * val xs ≤ 18446744073709551615 * (18446744073709551616 ^ n - 1) := Nat.mul_le_mul (by omega) (by omega)
  omega

end Go.Proofs.YtbipbpakbanacaaDoor

/- nat.lopsidedProduct, by its contract: given that smaller products are as they should be. -/
namespace Go.Proofs.YtbipbpakbanacaaDoor
open Go.RowKit

theorem add_add (a : Addr) (k : Nat) (b o : Nat) (h : a = ⟨b, o, none⟩) : a.add k = ⟨b, o + k, none⟩ := by
  subst h
  unfold Addr.add
  by_cases hk : k = 0 <;> simp [hk]

theorem Sl.drew {w : World} {A : Option Addr} {n c : Nat} {xs : List Nat} (h : Sl w A n c xs) : Sl w.drew A n c xs := h

theorem Sl.cutL {w : World} {A : Option Addr} {n c : Nat} {xs : List Nat} (h : Sl w A n c xs) (k : Nat) (hk : k ≤ n) : Sl w A k c (xs.take k) := by
  refine ⟨by rw [List.length_take, ← h.len]; omega, by have := h.le; omega, h.max, h.2.2.2.1, h.rd.take k⟩
theorem Sl.cutR {w : World} {b o n c : Nat} {xs : List Nat} (h : Sl w (some ⟨b, o, none⟩) n c xs) (k : Nat) (hk : k < n) : Sl w (some ⟨b, o + k, none⟩) (n - k) (c - k) (xs.drop k) := by
  have hl := h.len
  have hle := h.le
  have hm := h.max
  refine ⟨by rw [List.length_drop, ← hl], by omega, by omega, (fun e => by cases e), fit_drop h.fit k, ?_⟩
  rcases h.rd.2 with e | ⟨b', o', e, hlt, hc⟩
  · exfalso; rw [e] at hl; simp at hl; omega
  · simp only [Option.some.injEq, Addr.mk.injEq] at e
    obtain ⟨rfl, rfl, -⟩ := e
    refine .inr ⟨b, o + k, rfl, hlt, fun j hj => ?_⟩
    have hj' : k + j < xs.length := by rw [List.length_drop] at hj; omega
    rw [List.getElem_drop, Nat.add_assoc]
    exact hc (k + j) hj'

theorem val_halves (xs : List Nat) (k : Nat) (hk : k ≤ xs.length) : val xs = val (xs.take k) + 18446744073709551616 ^ k * val (xs.drop k) := by
  conv => lhs; rw [← List.take_append_drop k xs]
  rw [val_append, List.length_take, Nat.min_eq_left hk]
theorem part_lt {V P o n K : Nat} (hK : o + n = K) (h : V + 18446744073709551616 ^ o * P < 18446744073709551616 ^ K) : val (dig n (V / 18446744073709551616 ^ o)) + P < 18446744073709551616 ^ n := by
  have hp : 0 < 18446744073709551616 ^ o := Nat.pow_pos (by decide)
  have hd : (V + 18446744073709551616 ^ o * P) / 18446744073709551616 ^ o = V / 18446744073709551616 ^ o + P := Nat.add_mul_div_left _ _ hp
  have h2 : (V + 18446744073709551616 ^ o * P) / 18446744073709551616 ^ o < 18446744073709551616 ^ n := by
    apply Nat.div_lt_of_lt_mul
    rw [← Nat.pow_add, hK]
    exact h
  rw [hd] at h2
  rw [val_dig_of_lt (by omega)]
  exact h2

end Go.Proofs.YtbipbpakbanacaaDoor

/- The contracts once more, their results' lengths under names of their own. -/
namespace Go.Proofs.YtbipbpakbanacaaDoor
open Go.RowKit

theorem nrm_len_le {v k : Nat} (h : v < 18446744073709551616 ^ k) : (nrm v).length ≤ k := by
  have := nrm_length_le (fit_dig k v)
  rwa [val_dig_of_lt h, dig_length] at this

theorem trim_at (A : Option Addr) (n c : Nat) (xs : List Nat) (w : World) (h : Sl w A n c xs) :
    Calls Tryd.prog 90 #[.slice A n c] w fun e w' => ∃ m, e = .returned (.slice A m c) ∧ Sl w A m c (nrm (val xs)) ∧ m ≤ n ∧ w = w' :=
  (trim_any A n c xs w h).mono fun e w' ⟨he, hw⟩ => ⟨_, he, h.plain, by rw [h.len]; exact nrm_length_le h.fit, hw⟩

theorem norm_at (A : Option Addr) (n c : Nat) (xs : List Nat) (w : World) (h : Sl w A n c xs) (hn : n ≤ 17592186044416) :
    Calls Tryd.prog 70 #[.slice A n c] w fun e w' => ∃ g m, e = .returned (.slice (some ⟨g, 0, none⟩) m m) ∧ w.heap.size ≤ g ∧ Sl w' (some ⟨g, 0, none⟩) m m (nrm (val xs)) ∧ m ≤ n ∧ Below w.heap.size w w' :=
  (norm_any A n c xs w h hn).mono fun e w' ⟨he, hb, hbel⟩ => by
    have hle : (nrm (val xs)).length ≤ n := by rw [h.len]; exact nrm_length_le h.fit
    exact ⟨_, _, he, Nat.le_refl _, hb.sl (by omega), hle, hbel⟩

end Go.Proofs.YtbipbpakbanacaaDoor

/- nat.halvesProduct, by its contract: given that smaller products are as they should be. -/
namespace Go.Proofs.YtbipbpakbanacaaDoor
open Go.RowKit

theorem mul_all (xs ys : List Nat) (hx : Fit xs) (hy : Fit ys) (n n' : Nat) (hn : xs.length = n) (hn' : ys.length = n') : val xs * val ys < 18446744073709551616 ^ (n + n') := by
  have := row_all xs ys n n' (n + n') hx hy hn (Nat.le_refl _)
  rwa [List.take_of_length_le (by omega)] at this

theorem below_step {w2 W W' : World} (h : Below w2.heap.size w2 W) (k : Below W.heap.size W W') : Below w2.heap.size w2 W' := h.trans (k.mono h.size)

end Go.Proofs.YtbipbpakbanacaaDoor

/- nat.product by induction on the limbs, and nat.Mul: a new slice of the product's plain limbs. Conditions: both together have fewer than 2^42 limbs. -/
namespace Go.Proofs.YtbipbpakbanacaaDoor
open Go.RowKit

end Go.Proofs.YtbipbpakbanacaaDoor

/- cleaverref01.Same and cleaverlaw01.same, by their contracts, where both lists are the same. -/
namespace Go.Proofs.YtbipbpakbanacaaDoor
open Go.RowKit

end Go.Proofs.YtbipbpakbanacaaDoor

/- A row of limbs that grows by append, in memory of the call's own. -/
namespace Go.Proofs.YtbipbpakbanacaaDoor
open Go.RowKit

/-- The slice value v owns the limbs xs, in blocks from B on. -/
def Ow (w : World) (B : Nat) (v : Value) (xs : List Nat) : Prop := w.ownsRow B 70 1 v xs.length (xs.map u64v) ∧ Fit xs

theorem Ow.nil (w : World) (B : Nat) : Ow w B (.slice none 0 0) [] := ⟨World.ownsRow_nil _ _ _ _, fit_nil⟩
theorem Ow.fit {w : World} {B : Nat} {v : Value} {xs : List Nat} (h : Ow w B v xs) : Fit xs := h.2
theorem Ow.alloc {w : World} {B : Nat} {v : Value} {xs : List Nat} (h : Ow w B v xs) (o : Obj) : Ow (w.alloc o) B v xs := ⟨h.1.alloc o, h.2⟩
theorem Ow.drew {w : World} {B : Nat} {v : Value} {xs : List Nat} (h : Ow w B v xs) : Ow w.drew B v xs := h
theorem Ow.sl {w : World} {B : Nat} {v : Value} {xs : List Nat} (h : Ow w B v xs) : ∃ A c, v = .slice A xs.length c ∧ Sl w A xs.length c xs ∧ (∀ b o s, A = some ⟨b, o, s⟩ → B ≤ b) := by
  obtain ⟨⟨hl, h2⟩, hf⟩ := h
  rcases h2 with ⟨rfl, h0⟩ | ⟨g, cap, cur, rfl, hb, hh, hn, hc, hs, ht⟩
  · refine ⟨none, 0, by rw [h0], ⟨rfl, by omega, by decide, fun _ => rfl, hf, .inl (List.eq_nil_of_length_eq_zero h0)⟩, fun b o s e => by cases e⟩
  · refine ⟨some ⟨g, 0, none⟩, cap, rfl, ⟨rfl, hn, by unfold maxLen at hc; omega, (fun e => by cases e), hf, .inr ⟨g, 0, rfl, (Array.getElem?_eq_some_iff.1 hh).1, fun j hj => ?_⟩⟩, fun b o s e => ?_⟩
    · rw [cell_of_row w g (0 + j) cur _ (0, 0) hh, Nat.zero_add]
      have h1 : (cur.toList.take (xs.length * 1))[j]? = (xs.map u64v)[j]? := by rw [ht]
      rw [List.getElem?_take_of_lt (by omega), List.getElem?_map, List.getElem?_eq_getElem hj] at h1
      simpa using h1
    · simp only [Option.some.injEq, Addr.mk.injEq] at e
      omega
theorem Ow.lt {w : World} {B : Nat} {v : Value} {xs : List Nat} (h : Ow w B v xs) : ∀ k, v.ownBlock = some k → B ≤ k := fun k hk => (h.1.lt k hk).1

theorem run_app (w : World) (ty : TypeId) (B : Nat) (v : Value) (xs : List Nat) (hown : Ow w B v xs) (A : Option Addr) (m c : Nat) (news : List Nat) (hR : Sl w A m c news) (hmax : xs.length + m ≤ 17592186044416) (hB : B ≤ w.heap.size) :
    ∃ v' w', (Builtin.append_ #[38, 38] ty #[v, .slice A m c]).run Tryd.prog w = .ok v' w' ∧ Ow w' B v' (xs ++ news) ∧ Below B w w' := by
  obtain ⟨i0, hi, hz0, hz1, hz2⟩ := info_parts infoU
  have hl : (xs ++ news).length = xs.length + m := by rw [List.length_append, hR.len]
  have hfit : Fit (xs ++ news) := fit_append hown.2 hR.fit
  rcases A with _ | ad
  · have h0 : c = 0 := hR.2.2.2.1 rfl
    have hm : m = 0 := by have := hR.le; omega
    subst h0; subst hm
    have hn : news = [] := List.eq_nil_of_length_eq_zero hR.len.symm
    subst hn
    refine ⟨v, w, run_append_owned_none (P := Tryd.prog) (w := w) B 38 ty 70 i0 1 Tryd.underlying38 hi v xs.length (xs.map u64v) hown.1, ?_, Below.refl _ _⟩
    simpa using hown
  · have hcells : ∀ j u, (news.map u64v)[j]? = some u → w.cell? (ad.add j) = some u := by
      intro j u hj
      rw [List.getElem?_map] at hj
      obtain ⟨x, hx, rfl⟩ := Option.map_eq_some_iff.1 hj
      obtain ⟨hj', rfl⟩ := List.getElem?_eq_some_iff.1 hx
      rcases hR.rd.2 with e | ⟨b, o, e, hlt, hc⟩
      · rw [e] at hj'; exact absurd hj' (by simp)
      · simp only [Option.some.injEq] at e
        rw [add_add ad j b o e]
        exact hc j hj'
    obtain ⟨v', w', hrun, h2, h3, _⟩ := run_append_own (P := Tryd.prog) w B 38 ty 70 i0 _ 1 8 Tryd.underlying38 hi hz0 hz1 hz2 rfl (by decide) v xs.length (xs.map u64v) hown.1 ad m c (news.map u64v)
      (by rw [List.length_map, hR.len]; omega) hcells (by intro u hu; obtain ⟨x, _, rfl⟩ := List.mem_map.1 hu; rfl) (by unfold maxLen; omega) (by omega) hB
    refine ⟨v', w', hrun, ⟨?_, hfit⟩, (Below.refl B w).grown h3 hB (hown.lt)⟩
    rw [hl, List.map_append]
    exact h2

theorem wp_app {o : Oper} {a : Act} {K : Act → World → Prop} {Q : Exit → Act → World → Prop} (w : World) (s x : Operand) (ho : o.op = .call { callee := .builtin .append, args := #[s, x], argTypes := #[38, 38] })
    (B : Nat) (v : Value) (xs : List Nat) (hs : a.eval s = v) (hown : Ow w B v xs) (A : Option Addr) (m c : Nat) (hx : a.eval x = .slice A m c) (news : List Nat) (hR : Sl w A m c news) (hmax : xs.length + m ≤ 17592186044416) (hB : B ≤ w.heap.size)
    (h : ∀ v' w', Ow w' B v' (xs ++ news) → Below B w w' → K (a.put o.dst v') w') : o.wp Tryd.prog a w K Q := by
  obtain ⟨v', w', hrun, h2, h3⟩ := run_app w o.type B v xs hown A m c news hR hmax hB
  unfold Oper.wp execOp
  simp only [ho, resolve, invoke, builtin, Sem.run_bind, Sem.run_pure, Result.andThen_ok, List.map_toArray, List.map_cons, List.map_nil, hs, hx, hrun]
  exact h v' w' h2 h3

theorem wpList_app {ops : Array Oper} {rest : List Oper} {o : Oper} {a : Act} {Q : Exit → Act → World → Prop} (w : World) (hgd : o.guard = none) (s x : Operand) (ho : o.op = .call { callee := .builtin .append, args := #[s, x], argTypes := #[38, 38] })
    (B : Nat) (v : Value) (xs : List Nat) (hs : a.eval s = v) (hown : Ow w B v xs) (A : Option Addr) (m c : Nat) (hx : a.eval x = .slice A m c) (news : List Nat) (hR : Sl w A m c news) (hmax : xs.length + m ≤ 17592186044416) (hB : B ≤ w.heap.size)
    (h : ∀ v' w', Ow w' B v' (xs ++ news) → Below B w w' → wpList Tryd.prog ops Q rest (a.put o.dst v') w') : wpList Tryd.prog ops Q (o :: rest) a w :=
  wpList_plain hgd fun _ hK => wp_app w s x ho B v xs hs hown A m c hx news hR hmax hB fun v' w' h2 h3 => hK _ _ (h v' w' h2 h3)

theorem step_app {ops : Array Oper} {o : Oper} {a : Act} {K : Act → World → Prop} {Q : Exit → Act → World → Prop} {E : Prop} (w : World) (hgd : o.guard = none) (s x : Operand) (ho : o.op = .call { callee := .builtin .append, args := #[s, x], argTypes := #[38, 38] })
    (B : Nat) (v : Value) (xs : List Nat) (hs : a.eval s = v) (hown : Ow w B v xs) (A : Option Addr) (m c : Nat) (hx : a.eval x = .slice A m c) (news : List Nat) (hR : Sl w A m c news) (hmax : xs.length + m ≤ 17592186044416) (hB : B ≤ w.heap.size)
    (h : ∀ v' w', Ow w' B v' (xs ++ news) → Below B w w' → K (a.put o.dst v') w') : if Region.wanted o (yielded ops a.tmps) = true then Oper.wp Tryd.prog o a w K Q else E := by
  have hw : Region.wanted o (yielded ops a.tmps) = true := by simp [Region.wanted, hgd]
  rw [if_pos hw]
  exact wp_app w s x ho B v xs hs hown A m c hx news hR hmax hB h

theorem blk_list (w : World) (xs : List Nat) (hf : Fit xs) : Blk (w.alloc (.cells (xs.map u64v).toArray 70)) w.heap.size xs := ⟨heap_alloc_new w _, hf⟩
end Go.Proofs.YtbipbpakbanacaaDoor

/- Plain mathematics for the slow answers: digits in base 2^32. No program text. -/
namespace Go.Proofs.YtbipbpakbanacaaDoor

/-- The number that digits in base 2^32 are, the lowest first. -/
def val32 : List Nat → Nat
  | [] => 0
  | x :: xs => x + 4294967296 * val32 xs
def Fit32 (xs : List Nat) : Prop := ∀ x ∈ xs, x < 4294967296
theorem Fit32.fit {xs : List Nat} (h : Fit32 xs) : Fit xs := fun x hx => by have := h x hx; omega
theorem fit32_nil : Fit32 [] := fun _ h => by cases h
theorem fit32_cons {x : Nat} {xs : List Nat} (hx : x < 4294967296) (h : Fit32 xs) : Fit32 (x :: xs) := by
  intro y hy
  rcases List.mem_cons.1 hy with rfl | hy
  · exact hx
  · exact h _ hy
theorem fit32_head {x : Nat} {xs : List Nat} (h : Fit32 (x :: xs)) : x < 4294967296 := h x (by simp)
theorem fit32_tail {x : Nat} {xs : List Nat} (h : Fit32 (x :: xs)) : Fit32 xs := fun y hy => h y (by simp [hy])
theorem fit32_append {xs ys : List Nat} (h : Fit32 xs) (k : Fit32 ys) : Fit32 (xs ++ ys) := fun y hy => by
  rcases List.mem_append.1 hy with hy | hy
  · exact h _ hy
  · exact k _ hy
theorem fit32_take {xs : List Nat} (h : Fit32 xs) (k : Nat) : Fit32 (xs.take k) := fun y hy => h y (List.mem_of_mem_take hy)
theorem fit32_drop {xs : List Nat} (h : Fit32 xs) (k : Nat) : Fit32 (xs.drop k) := fun y hy => h y (List.mem_of_mem_drop hy)
theorem fit32_getD {xs : List Nat} (h : Fit32 xs) (j : Nat) : xs.getD j 0 < 4294967296 := by
  rw [List.getD_eq_getElem?_getD]
  by_cases hj : j < xs.length
  · rw [List.getElem?_eq_getElem hj]; exact h _ (List.getElem_mem hj)
  · rw [List.getElem?_eq_none (by omega)]; decide
theorem val32_nil : val32 [] = 0 := rfl
theorem val32_cons (x : Nat) (xs : List Nat) : val32 (x :: xs) = x + 4294967296 * val32 xs := rfl
theorem val32_append (xs ys : List Nat) : val32 (xs ++ ys) = val32 xs + 4294967296 ^ xs.length * val32 ys := by
  induction xs with
  | nil => simp [val32]
  | cons x xs ih =>
    simp only [List.cons_append, val32_cons, ih, List.length_cons, Nat.pow_succ]
    grind
theorem val32_lt {xs : List Nat} (h : Fit32 xs) : val32 xs < 4294967296 ^ xs.length := by
  induction xs with
  | nil => simp [val32]
  | cons x xs ih =>
    have h1 := ih (fit32_tail h)
    have h2 := fit32_head h
    rw [val32_cons, List.length_cons, Nat.pow_succ, Nat.mul_comm _ 4294967296]
    have : 4294967296 * (val32 xs + 1) ≤ 4294967296 * 4294967296 ^ xs.length := Nat.mul_le_mul_left _ h1
    omega

/-- The list without noughts at the end. -/
def tz : List Nat → List Nat
  | [] => []
  | x :: xs => match tz xs with
    | [] => if x = 0 then [] else [x]
    | y :: ys => x :: y :: ys
theorem tz_cons (x : Nat) (xs : List Nat) : tz (x :: xs) = if tz xs = [] then (if x = 0 then [] else [x]) else x :: tz xs := by
  rw [tz]
  split
  · rename_i h; rw [if_pos h]
  · rename_i y ys h; rw [h, if_neg (by simp)]
theorem val_tz (xs : List Nat) : val (tz xs) = val xs := by
  induction xs with
  | nil => rfl
  | cons x xs ih =>
    rw [tz_cons]
    by_cases h : tz xs = []
    · rw [if_pos h]
      rw [h] at ih
      rw [val_cons, ← ih]
      by_cases hx : x = 0
      · subst hx; simp [val]
      · rw [if_neg hx]; simp [val]
    · rw [if_neg h, val_cons, val_cons, ih]
theorem val32_tz (xs : List Nat) : val32 (tz xs) = val32 xs := by
  induction xs with
  | nil => rfl
  | cons x xs ih =>
    rw [tz_cons]
    by_cases h : tz xs = []
    · rw [if_pos h]
      rw [h] at ih
      rw [val32_cons, ← ih]
      by_cases hx : x = 0
      · subst hx; simp [val32]
      · rw [if_neg hx]; simp [val32]
    · rw [if_neg h, val32_cons, val32_cons, ih]
theorem tz_mem {xs : List Nat} : ∀ x ∈ tz xs, x ∈ xs := by
  induction xs with
  | nil => intro x hx; cases hx
  | cons y ys ih =>
    intro x hx
    rw [tz_cons] at hx
    split at hx
    · split at hx
      · cases hx
      · simp at hx; simp [hx]
    · rcases List.mem_cons.1 hx with rfl | hx
      · simp
      · exact List.mem_cons_of_mem _ (ih x hx)
theorem fit_tz {xs : List Nat} (h : Fit xs) : Fit (tz xs) := fun x hx => h x (tz_mem x hx)
theorem fit32_tz {xs : List Nat} (h : Fit32 xs) : Fit32 (tz xs) := fun x hx => h x (tz_mem x hx)
theorem tz_last (xs : List Nat) (hne : tz xs ≠ []) : (tz xs).getLast hne ≠ 0 := by
  induction xs with
  | nil => exact absurd rfl hne
  | cons x xs ih =>
    by_cases h : tz xs = []
    · by_cases hx : x = 0
      · exact absurd (by rw [tz_cons, if_pos h, if_pos hx]) hne
      · have e : tz (x :: xs) = [x] := by rw [tz_cons, if_pos h, if_neg hx]
        simp only [e]
        simpa using hx
    · have e : tz (x :: xs) = x :: tz xs := by rw [tz_cons, if_neg h]
      simp only [e]
      rw [List.getLast_cons h]
      exact ih h
theorem nrm_val_eq_tz {xs : List Nat} (h : Fit xs) : nrm (val xs) = tz xs := by
  rw [← val_tz xs]
  exact nrm_val_of_last (fit_tz h) (fun hne => tz_last xs hne)
theorem tz_idem {xs : List Nat} (h : Fit xs) : tz (tz xs) = tz xs := by rw [← nrm_val_eq_tz (fit_tz h), val_tz, nrm_val_eq_tz h]

/-- The digits of a number in base 2^32, none at the end that is nought. -/
def d32F : Nat → Nat → List Nat
  | 0, _ => []
  | f + 1, v => if v = 0 then [] else v % 4294967296 :: d32F f (v / 4294967296)
def d32 (v : Nat) : List Nat := d32F v v
theorem d32F_eq (f g v : Nat) (hf : v ≤ f) (hg : v ≤ g) : d32F f v = d32F g v := by
  induction f generalizing g v with
  | zero =>
    have : v = 0 := by omega
    subst this
    cases g <;> simp [d32F]
  | succ f ih =>
    cases g with
    | zero =>
      have : v = 0 := by omega
      subst this
      simp [d32F]
    | succ g =>
      by_cases h : v = 0
      · simp [d32F, h]
      · simp only [d32F, h, if_false]
        rw [ih g _ (by omega) (by omega)]
theorem d32_zero : d32 0 = [] := rfl
theorem d32_pos (v : Nat) (h : v ≠ 0) : d32 v = v % 4294967296 :: d32 (v / 4294967296) := by
  obtain ⟨u, rfl⟩ : ∃ u, v = u + 1 := ⟨v - 1, by omega⟩
  show d32F (u + 1) (u + 1) = _
  rw [d32F, if_neg h]
  unfold d32
  rw [d32F_eq u ((u + 1) / 4294967296) _ (by omega) (by omega)]
theorem val32_d32 (v : Nat) : val32 (d32 v) = v := by
  induction v using Nat.strongRecOn with
  | ind v ih =>
    by_cases h : v = 0
    · subst h; rfl
    · rw [d32_pos v h, val32_cons, ih (v / 4294967296) (by omega)]
      omega
theorem fit32_d32 (v : Nat) : Fit32 (d32 v) := by
  induction v using Nat.strongRecOn with
  | ind v ih =>
    by_cases h : v = 0
    · subst h; exact fit32_nil
    · rw [d32_pos v h]
      exact fit32_cons (by omega) (ih _ (by omega))
theorem tz_eq_d32 {xs : List Nat} (h : Fit32 xs) : tz xs = d32 (val32 xs) := by
  induction xs with
  | nil => rfl
  | cons x xs ih =>
    have ih' := ih (fit32_tail h)
    have hx := fit32_head h
    rw [tz_cons, val32_cons]
    by_cases h0 : tz xs = []
    · have hv : val32 xs = 0 := by rw [← val32_tz, h0]; rfl
      rw [if_pos h0, hv]
      by_cases hx0 : x = 0
      · subst hx0; rfl
      · rw [if_neg hx0, Nat.mul_zero, Nat.add_zero, d32_pos x hx0]
        rw [Nat.mod_eq_of_lt hx, Nat.div_eq_of_lt hx]
        rfl
    · have hv : val32 xs ≠ 0 := by
        intro e
        rw [e] at ih'
        exact h0 ih'
      rw [if_neg h0, d32_pos _ (by omega), ih']
      congr 1
      · omega
      · congr 1; omega

/-- The halves of limbs, one behind the other. -/
def halvesOf : List Nat → List Nat
  | [] => []
  | x :: xs => x % 4294967296 :: x / 4294967296 :: halvesOf xs
theorem halvesOf_length (xs : List Nat) : (halvesOf xs).length = 2 * xs.length := by
  induction xs with
  | nil => rfl
  | cons x xs ih => simp only [halvesOf, List.length_cons, ih]; omega
theorem halvesOf_append (xs ys : List Nat) : halvesOf (xs ++ ys) = halvesOf xs ++ halvesOf ys := by
  induction xs with
  | nil => rfl
  | cons x xs ih => simp [halvesOf, ih]
theorem fit32_halves {xs : List Nat} (h : Fit xs) : Fit32 (halvesOf xs) := by
  induction xs with
  | nil => exact fit32_nil
  | cons x xs ih =>
    have hx := fit_head h
    exact fit32_cons (by omega) (fit32_cons (by omega) (ih (fit_tail h)))
theorem val32_halves (xs : List Nat) : val32 (halvesOf xs) = val xs := by
  induction xs with
  | nil => rfl
  | cons x xs ih => rw [halvesOf, val32_cons, val32_cons, ih, val_cons]; omega
theorem halves_snoc (xs : List Nat) (k : Nat) (hk : k < xs.length) : halvesOf (xs.take (k + 1)) = halvesOf (xs.take k) ++ [xs[k] % 4294967296, xs[k] / 4294967296] := by
  rw [List.take_succ_eq_append_getElem hk, halvesOf_append]
  rfl

/-- Limbs put together of digits, two by two. -/
def pair64 : List Nat → List Nat
  | [] => []
  | [x] => [x]
  | x :: y :: r => (x + y * 4294967296) :: pair64 r
theorem val_pair64 : ∀ (ds : List Nat), val (pair64 ds) = val32 ds
  | [] => rfl
  | [x] => by simp [pair64, val, val32]
  | x :: y :: r => by rw [pair64, val_cons, val_pair64 r, val32_cons, val32_cons]; omega
theorem fit_pair64 : ∀ (ds : List Nat), Fit32 ds → Fit (pair64 ds)
  | [], _ => fit_nil
  | [x], h => fit_cons (by have := fit32_head h; omega) fit_nil
  | x :: y :: r, h => fit_cons (by have := fit32_head h; have := fit32_head (fit32_tail h); omega) (fit_pair64 r (fit32_tail (fit32_tail h)))
theorem pair64_length : ∀ (ds : List Nat), (pair64 ds).length = (ds.length + 1) / 2
  | [] => rfl
  | [x] => by simp [pair64]
  | x :: y :: r => by rw [pair64, List.length_cons, pair64_length r]; simp only [List.length_cons]; omega
theorem pair64_two (a b : List Nat) (h : a.length % 2 = 0) : pair64 (a ++ b) = pair64 a ++ pair64 b := by
  match a, h with
  | [], _ => rfl
  | [x], h => simp at h
  | x :: y :: r, h =>
    simp only [List.cons_append, pair64]
    rw [pair64_two r b (by simp only [List.length_cons] at h; omega)]
/-- The round of limbs: two digits more, or the last one. -/
theorem pair64_snoc (ds : List Nat) (k : Nat) (hk : 2 * k + 1 < ds.length) : pair64 (ds.take (2 * k + 2)) = pair64 (ds.take (2 * k)) ++ [ds[2 * k] + ds[2 * k + 1] * 4294967296] := by
  rw [List.take_succ_eq_append_getElem (by omega), List.take_succ_eq_append_getElem (by omega), List.append_assoc, pair64_two _ _ (by rw [List.length_take]; omega)]
  rfl
theorem pair64_snoc1 (ds : List Nat) (k : Nat) (hk : 2 * k + 1 = ds.length) : pair64 (ds.take (2 * k + 1)) = pair64 (ds.take (2 * k)) ++ [ds[2 * k]] := by
  rw [List.take_succ_eq_append_getElem (by omega), pair64_two _ _ (by rw [List.length_take]; omega)]
  rfl
end Go.Proofs.YtbipbpakbanacaaDoor

/- cleaverref01.cut and Norm, by their contracts. -/
namespace Go.Proofs.YtbipbpakbanacaaDoor
open Go.RowKit

/-- cleaverref01.Norm: a new slice of the plain limbs. -/
theorem pos_of {xs : List Nat} {w : World} {A : Option Addr} {n c : Nat} (h : Sl w A n c xs) : xs.length = n := h.len.symm

set_option maxHeartbeats 1000000 in
theorem refNorm_some (b o c : Nat) (xs : List Nat) (w : World) (n : Nat) (hs : Sl w (some ⟨b, o, none⟩) n c xs) (hmax : n ≤ 17592186044416)
    (hcell : ∀ j, j < n → w.cell? ⟨b, o + j, none⟩ = some (u64v (xs.getD j 0))) :
    Calls Tryd.prog 88 #[.slice (some ⟨b, o, none⟩) n c] w fun e w' => ∃ v, e = .returned v ∧ Ow w' w.heap.size v (nrm (val xs)) ∧ Below w.heap.size w w' := by
  have hn := hs.len
  have hf := hs.fit
  have hle := hs.le
  have hc := hs.max
  have HN : Hid (n = xs.length) := hn
  have HC := Lib.hid hcell
  have HS := Lib.hid hs
  clear hn hcell hs
  go_enter Tryd.func88, Tryd.ntmps88
  go_wp2
  go_loop [3] (fun t => ∃ k : Nat, k ≤ n ∧ t = .int .i64 k ∧ val (xs.take k) = val xs) (fun t => (intOf t).toNat)
  case atStart => exact ⟨n, Nat.le_refl _, rfl, by rw [HN.out]; simp⟩
  case round =>
    obtain ⟨k, hk, rfl, hv⟩ := hrel
    have HV := Lib.hid hv
    clear hv
    by_cases hgo : 0 < k ∧ xs.getD (k - 1) 0 = 0
    · obtain ⟨hk0, hz⟩ := hgo
      have hcell := HC.out (k - 1) (by omega)
      have hlt : k - 1 < xs.length := by rw [← HN.out]; omega
      have hz' : xs[k - 1] = 0 := by rw [← getD_of_lt hlt, ← List.getD_eq_getElem?_getD]; exact hz
      rw [hz] at hcell
      clear hz
      go_wp2
      go_round
      case rel =>
        refine ⟨k - 1, by omega, by go_num, ?_⟩
        rw [val_take_zero_last xs (k - 1) hlt hz', show k - 1 + 1 = k by omega]
        exact HV.out
      case measure => simp [intOf]; omega
    · have hd : (nrm (val xs)).length = k := by
        refine trim_done hf k (by rw [← HN.out]; exact hk) HV.out ?_
        by_cases h0 : k = 0
        · exact .inl h0
        · have hlt : k - 1 < xs.length := by rw [← HN.out]; omega
          exact .inr ⟨hlt, fun e => hgo ⟨by omega, by rw [List.getD_eq_getElem?_getD, getD_of_lt hlt]; exact e⟩⟩
      have hpl := HS.out.plain
      rw [hd] at hpl
      have HPL := Lib.hid hpl
      clear hpl
      have HD := Lib.hid hd
      clear hd
      have hnew : Ow (w.alloc (.cells #[] 70)) w.heap.size (.slice (some ⟨w.heap.size, 0, none⟩) 0 0) [] :=
        ⟨World.ownsRow_made w #[] 0 (Nat.le_refl _) (by unfold maxLen; omega) rfl, fit_nil⟩
      by_cases hk0 : 0 < k
      · have hcell := HC.out (k - 1) (by omega)
        have hne : ((xs.getD (k - 1) 0 : Nat) : Int) ≠ 0 := fun e => hgo ⟨hk0, by omega⟩
        generalize xs.getD (k - 1) 0 = y at *
        have hb : ((y : Int) == 0) = false := by simpa using hne
        clear hgo hne
        go_wp2_with (at_builtin; refine wpList_app _ rfl (.tmp 18) (.tmp 21) rfl w.heap.size _ [] rfl hnew (some ⟨b, o, none⟩) k c rfl _ (HPL.out.below ((Below.refl _ _).alloc (Nat.le_refl _) _)) (by simp; omega) (by simp) ?_; intro v1 w1 ho1 hb1)
        go_ret
        exact ⟨v1, rfl, ho1, ((Below.refl _ _).alloc (Nat.le_refl _) _).trans hb1⟩
      · obtain rfl : k = 0 := by omega
        clear hgo
        go_wp2_with (at_builtin; refine wpList_app _ rfl (.tmp 18) (.tmp 21) rfl w.heap.size _ [] rfl hnew (some ⟨b, o, none⟩) 0 c rfl _ (HPL.out.below ((Below.refl _ _).alloc (Nat.le_refl _) _)) (by simp) (by simp) ?_; intro v1 w1 ho1 hb1)
        go_ret
        exact ⟨v1, rfl, ho1, ((Below.refl _ _).alloc (Nat.le_refl _) _).trans hb1⟩
end Go.Proofs.YtbipbpakbanacaaDoor

/- cleaverref01.Norm at every slice, digits and limbs, by their contracts. -/
namespace Go.Proofs.YtbipbpakbanacaaDoor
open Go.RowKit

set_option maxHeartbeats 1000000 in
theorem refNorm_any (A : Option Addr) (n c : Nat) (xs : List Nat) (w : World) (h : Sl w A n c xs) (hmax : n ≤ 17592186044416) :
    Calls Tryd.prog 88 #[.slice A n c] w fun e w' => ∃ v, e = .returned v ∧ Ow w' w.heap.size v (nrm (val xs)) ∧ Below w.heap.size w w' := by
  by_cases h0 : n = 0
  · have hx : xs = [] := List.eq_nil_of_length_eq_zero (by rw [← h.len]; exact h0)
    subst h0
    subst hx
    have hnew : Ow (w.alloc (.cells #[] 70)) w.heap.size (.slice (some ⟨w.heap.size, 0, none⟩) 0 0) [] :=
      ⟨World.ownsRow_made w #[] 0 (Nat.le_refl _) (by unfold maxLen; omega) rfl, fit_nil⟩
    have HS := Lib.hid (h.below ((Below.refl _ _).alloc (Nat.le_refl _) (.cells #[] 70)))
    have hA := h.2.2.2.1
    clear h
    rcases A with _ | a
    · obtain rfl := hA rfl
      go_enter Tryd.func88, Tryd.ntmps88
      go_wp2
      refine wp_loop_rounds 1 ?_
      rw [rounds_succ]
      go_wp2_with (at_builtin; refine wpList_app _ rfl (.tmp 18) (.tmp 21) rfl w.heap.size _ [] rfl hnew none 0 0 rfl _ HS.out (by simp) (by simp) ?_; intro v1 w1 ho1 hb1)
      go_ret
      exact ⟨v1, rfl, ho1, ((Below.refl _ _).alloc (Nat.le_refl _) _).trans hb1⟩
    · clear hA
      go_enter Tryd.func88, Tryd.ntmps88
      go_wp2
      refine wp_loop_rounds 1 ?_
      rw [rounds_succ]
      go_wp2_with (at_builtin; refine wpList_app _ rfl (.tmp 18) (.tmp 21) rfl w.heap.size _ [] rfl hnew (some a) 0 c rfl _ HS.out (by simp) (by simp) ?_; intro v1 w1 ho1 hb1)
      go_ret
      exact ⟨v1, rfl, ho1, ((Below.refl _ _).alloc (Nat.le_refl _) _).trans hb1⟩
  · obtain ⟨b, o, rfl, _, hc⟩ := h.at_ (by omega)
    exact refNorm_some b o c xs w n h hmax hc

theorem and32 (x : Nat) (hx : x < 18446744073709551616) : bits .and .u64 (x : Int) 4294967295 = ((x % 4294967296 : Nat) : Int) := by
  rw [and_low32 x (by omega) (by omega)]
  omega

end Go.Proofs.YtbipbpakbanacaaDoor

/- cleaverref01.limbs, by its contract. Conditions: what it is handed are digits in base 2^32. -/
namespace Go.Proofs.YtbipbpakbanacaaDoor
open Go.RowKit

end Go.Proofs.YtbipbpakbanacaaDoor

/- cleaverref01.Mul, by its contract. -/
namespace Go.Proofs.YtbipbpakbanacaaDoor
open Go.RowKit

theorem val32_set (L : List Nat) (j u : Nat) (hj : j < L.length) : val32 (L.set j u) + 4294967296 ^ j * L.getD j 0 = val32 L + 4294967296 ^ j * u := by
  induction L generalizing j with
  | nil => simp at hj
  | cons x xs ih =>
    cases j with
    | zero => simp [val32]; omega
    | succ j =>
      have := ih j (by simpa using hj)
      simp only [List.set_cons_succ, val32_cons, List.getD_cons_succ, Nat.pow_succ]
      grind
theorem fit32_set {L : List Nat} (h : Fit32 L) (j u : Nat) (hu : u < 4294967296) : Fit32 (L.set j u) := by
  intro x hx
  rcases List.mem_or_eq_of_mem_set hx with hx | rfl
  · exact h x hx
  · exact hu
theorem val32_take_getD (xs : List Nat) (k : Nat) : val32 (xs.take (k + 1)) = val32 (xs.take k) + 4294967296 ^ k * xs.getD k 0 := by
  rw [List.getD_eq_getElem?_getD]
  by_cases h : k < xs.length
  · rw [List.take_succ_eq_append_getElem h, val32_append, val32_cons, val32_nil, List.length_take, Nat.min_eq_left (by omega), List.getElem?_eq_getElem h]
    simp
  · rw [List.take_of_length_le (by omega), List.take_of_length_le (by omega), List.getElem?_eq_none (by omega)]; simp
theorem getD_set_ne (L : List Nat) (j u i : Nat) (h : i ≠ j) : (L.set j u).getD i 0 = L.getD i 0 := by
  rw [List.getD_eq_getElem?_getD, List.getD_eq_getElem?_getD, List.getElem?_set_ne (Ne.symm h)]

/-- The relation of the inner loop. -/
def MulIn (N m i V xi : Nat) (ys L : List Nat) (k c : Nat) : Prop :=
  L.length = N ∧ Fit32 L ∧ c < 4294967296 ∧ val32 L + 4294967296 ^ (i + k) * c = V + xi * 4294967296 ^ i * val32 (ys.take k) ∧ ∀ j, i + m ≤ j → L.getD j 0 = 0
theorem mulIn_step {N m i V xi : Nat} {ys L : List Nat} {k c : Nat} (h : MulIn N m i V xi ys L k c) (hx : xi < 4294967296) (hy : Fit32 ys) (hk : k < m) (hN : i + m ≤ N) :
    MulIn N m i V xi ys (L.set (i + k) ((xi * ys.getD k 0 + L.getD (i + k) 0 + c) % 4294967296)) (k + 1) ((xi * ys.getD k 0 + L.getD (i + k) 0 + c) / 4294967296) := by
  obtain ⟨h1, h2, h3, h4, h5⟩ := h
  have hyk := fit32_getD hy k
  have hlk := fit32_getD h2 (i + k)
  have hb : xi * ys.getD k 0 ≤ 4294967295 * 4294967295 := Nat.mul_le_mul (by omega) (by omega)
  refine ⟨by rw [List.length_set, h1], fit32_set h2 _ _ (Nat.mod_lt _ (by decide)), by omega, ?_, fun j hj => by rw [getD_set_ne _ _ _ _ (by omega)]; exact h5 j hj⟩
  have hs := val32_set L (i + k) ((xi * ys.getD k 0 + L.getD (i + k) 0 + c) % 4294967296) (by omega)
  rw [val32_take_getD]
  generalize ys.getD k 0 = y at *
  generalize L.getD (i + k) 0 = d at *
  generalize hS : xi * y + d + c = S at *
  have hdm : S % 4294967296 + 4294967296 * (S / 4294967296) = S := Nat.mod_add_div S 4294967296
  have e1 : 4294967296 ^ (i + (k + 1)) = 4294967296 ^ (i + k) * 4294967296 := by rw [← Nat.pow_succ]; rfl
  have e2 : 4294967296 ^ (i + k) = 4294967296 ^ i * 4294967296 ^ k := Nat.pow_add ..
  rw [e1]
  generalize S % 4294967296 = r at *
  generalize S / 4294967296 = q at *
  generalize val32 (L.set (i + k) r) = V1 at *
  generalize val32 L = V0 at *
  generalize val32 (ys.take k) = Y at *
  rw [e2] at hs h4 ⊢
  generalize 4294967296 ^ i = p at *
  generalize 4294967296 ^ k = t at *
  have e3 : p * t * (r + 4294967296 * q) = p * t * (xi * y + d + c) := by rw [hdm, hS]
  grind
theorem mulIn_start {N m i V xi : Nat} {ys L : List Nat} (h1 : L.length = N) (h2 : Fit32 L) (h3 : val32 L = V) (h4 : ∀ j, i + m ≤ j → L.getD j 0 = 0) : MulIn N m i V xi ys L 0 0 :=
  ⟨h1, h2, by decide, by simp [h3, val32], h4⟩
theorem mulIn_end {N m i xi : Nat} {xs ys L : List Nat} {c : Nat} (h : MulIn N m i (val32 (xs.take i) * val32 ys) xi ys L m c) (hm : ys.length = m) (hxi : xi = xs.getD i 0) (hN : i + m < N) :
    (L.set (i + m) c).length = N ∧ Fit32 (L.set (i + m) c) ∧ val32 (L.set (i + m) c) = val32 (xs.take (i + 1)) * val32 ys ∧ ∀ j, i + 1 + m ≤ j → (L.set (i + m) c).getD j 0 = 0 := by
  obtain ⟨h1, h2, h3, h4, h5⟩ := h
  refine ⟨by rw [List.length_set, h1], fit32_set h2 _ _ h3, ?_, fun j hj => by rw [getD_set_ne _ _ _ _ (by omega)]; exact h5 j (by omega)⟩
  have hs := val32_set L (i + m) c (by omega)
  rw [h5 (i + m) (Nat.le_refl _), Nat.mul_zero, Nat.add_zero] at hs
  have e : ys.take m = ys := List.take_of_length_le (by omega)
  rw [hs, h4, e, val32_take_getD, ← hxi, Nat.add_mul]
  congr 1
  rw [Nat.mul_comm xi]

theorem Blk.cellD {w : World} {g : Nat} {L : List Nat} (h : Blk w g L) (i : Nat) (hi : i < L.length) : w.cell? ⟨g, i, none⟩ = some (u64v (L.getD i 0)) := by
  rw [h.cell i hi, List.getD_eq_getElem?_getD, List.getElem?_eq_getElem hi]
  rfl
theorem val32_zeros (n : Nat) : val32 (List.replicate n 0) = 0 := by
  induction n with
  | zero => rfl
  | succ n ih => rw [List.replicate_succ, val32_cons, ih]

end Go.Proofs.YtbipbpakbanacaaDoor

/- cleaverref01.at, compare, Add, less, Sub, Cmp, by their contracts. -/
namespace Go.Proofs.YtbipbpakbanacaaDoor
open Go.RowKit

theorem val32_drop_getD (xs : List Nat) (k : Nat) : val32 (xs.drop k) = xs.getD k 0 + 4294967296 * val32 (xs.drop (k + 1)) := by
  rw [List.getD_eq_getElem?_getD]
  by_cases h : k < xs.length
  · rw [List.drop_eq_getElem_cons h, val32_cons, List.getElem?_eq_getElem h]; rfl
  · rw [List.drop_of_length_le (by omega), List.drop_of_length_le (by omega), List.getElem?_eq_none (by omega)]; rfl
theorem val32_split (xs : List Nat) (k : Nat) : val32 xs = val32 (xs.take k) + 4294967296 ^ k * val32 (xs.drop k) := by
  by_cases h : k ≤ xs.length
  · conv => lhs; rw [← List.take_append_drop k xs]
    rw [val32_append, List.length_take, Nat.min_eq_left h]
  · rw [List.take_of_length_le (by omega), List.drop_of_length_le (by omega)]; simp [val32]
theorem val32_take_lt {xs : List Nat} (h : Fit32 xs) (k : Nat) : val32 (xs.take k) < 4294967296 ^ k :=
  Nat.lt_of_lt_of_le (val32_lt (fit32_take h k)) (Nat.pow_le_pow_right (by decide) (by rw [List.length_take]; omega))
theorem lt32_at {xs ys : List Nat} (hx : Fit32 xs) (k : Nat) (hd : val32 (xs.drop (k + 1)) = val32 (ys.drop (k + 1))) (h : xs.getD k 0 < ys.getD k 0) : val32 xs < val32 ys := by
  rw [val32_split xs k, val32_split ys k, val32_drop_getD xs k, val32_drop_getD ys k, hd]
  have a := val32_take_lt hx k
  have b : 4294967296 ^ k * (xs.getD k 0 + 4294967296 * val32 (ys.drop (k + 1)) + 1) ≤ 4294967296 ^ k * (ys.getD k 0 + 4294967296 * val32 (ys.drop (k + 1))) := Nat.mul_le_mul_left _ (by omega)
  rw [Nat.mul_add, Nat.mul_one] at b
  omega

end Go.Proofs.YtbipbpakbanacaaDoor

/- cleaverref01.Add, less, Sub, Cmp, by their contracts. -/
namespace Go.Proofs.YtbipbpakbanacaaDoor
open Go.RowKit

theorem fit32_snoc {L : List Nat} {u : Nat} (h : Fit32 L) (hu : u < 4294967296) : Fit32 (L ++ [u]) := fit32_append h (fit32_cons hu fit32_nil)
theorem val32_snoc (L : List Nat) (u : Nat) : val32 (L ++ [u]) = val32 L + 4294967296 ^ L.length * u := by rw [val32_append, val32_cons, val32_nil]; simp

/-- The relation of Add's loop. -/
def SumIn (xs ys L : List Nat) (k c : Nat) : Prop := L.length = k ∧ Fit32 L ∧ c ≤ 1 ∧ val32 L + 4294967296 ^ k * c = val32 (xs.take k) + val32 (ys.take k)
theorem sumIn_step {xs ys L : List Nat} {k c : Nat} (h : SumIn xs ys L k c) (hx : Fit32 xs) (hy : Fit32 ys) :
    SumIn xs ys (L ++ [(xs.getD k 0 + ys.getD k 0 + c) % 4294967296]) (k + 1) ((xs.getD k 0 + ys.getD k 0 + c) / 4294967296) := by
  obtain ⟨h1, h2, h3, h4⟩ := h
  have f1 := fit32_getD hx k
  have f2 := fit32_getD hy k
  refine ⟨by simp [h1], fit32_snoc h2 (Nat.mod_lt _ (by decide)), by omega, ?_⟩
  rw [val32_snoc, h1, val32_take_getD, val32_take_getD, Nat.pow_succ]
  generalize xs.getD k 0 = x at *
  generalize ys.getD k 0 = y at *
  have hdm : (x + y + c) % 4294967296 + 4294967296 * ((x + y + c) / 4294967296) = x + y + c := Nat.mod_add_div _ _
  generalize (x + y + c) % 4294967296 = r at *
  generalize (x + y + c) / 4294967296 = q at *
  generalize 4294967296 ^ k = p at *
  have e : p * (r + 4294967296 * q) = p * (x + y + c) := by rw [hdm]
  grind
theorem sumIn_end {xs ys L : List Nat} {K c : Nat} (h : SumIn xs ys L K c) (hx : Fit32 xs) (hy : Fit32 ys) (h1 : xs.length < K) (h2 : ys.length < K) : val32 L = val32 xs + val32 ys := by
  obtain ⟨_, hf, hc, hv⟩ := h
  rw [List.take_of_length_le (by omega), List.take_of_length_le (by omega)] at hv
  have a1 := val32_lt hx
  have a2 := val32_lt hy
  have b1 : 4294967296 ^ xs.length ≤ 4294967296 ^ (K - 1) := Nat.pow_le_pow_right (by decide) (by omega)
  have b2 : 4294967296 ^ ys.length ≤ 4294967296 ^ (K - 1) := Nat.pow_le_pow_right (by decide) (by omega)
  have e : 4294967296 ^ K = 4294967296 ^ (K - 1) * 4294967296 := by rw [← Nat.pow_succ]; congr 1; omega
  rw [e] at hv
  generalize 4294967296 ^ (K - 1) = p at *
  have hc0 : c = 0 := by
    rcases Nat.lt_or_ge c 1 with h | h
    · omega
    · have h1 : c = 1 := by omega
      rw [h1, Nat.mul_one] at hv
      omega
  rw [hc0, Nat.mul_zero, Nat.add_zero] at hv
  exact hv

end Go.Proofs.YtbipbpakbanacaaDoor

/- cleaverref01.less, Sub, Cmp, Bits, by their contracts. -/
namespace Go.Proofs.YtbipbpakbanacaaDoor
open Go.RowKit

/-- The relation of less' loop: what is left, and whether one must still be taken. -/
def LessIn (xs ys L : List Nat) (k c : Nat) : Prop := L.length = k ∧ Fit32 L ∧ c ≤ 1 ∧ val32 (xs.take k) + 4294967296 ^ k * c = val32 L + val32 (ys.take k)
theorem lessIn_step {xs ys L : List Nat} {k c : Nat} (h : LessIn xs ys L k c) (hx : Fit32 xs) (hy : Fit32 ys) :
    LessIn xs ys (L ++ [(xs.getD k 0 + 4294967296 - ys.getD k 0 - c) % 4294967296]) (k + 1) (1 - (xs.getD k 0 + 4294967296 - ys.getD k 0 - c) / 4294967296) := by
  obtain ⟨h1, h2, h3, h4⟩ := h
  have f1 := fit32_getD hx k
  have f2 := fit32_getD hy k
  refine ⟨by simp [h1], fit32_snoc h2 (Nat.mod_lt _ (by decide)), by omega, ?_⟩
  rw [val32_snoc, h1, val32_take_getD, val32_take_getD, Nat.pow_succ]
  generalize xs.getD k 0 = x at *
  generalize ys.getD k 0 = y at *
  have hd : x + 4294967296 * (1 - (x + 4294967296 - y - c) / 4294967296) = (x + 4294967296 - y - c) % 4294967296 + y + c := by omega
  generalize (x + 4294967296 - y - c) % 4294967296 = r at *
  generalize 1 - (x + 4294967296 - y - c) / 4294967296 = q at *
  generalize 4294967296 ^ k = p at *
  have e : p * (x + 4294967296 * q) = p * (r + y + c) := by rw [hd]
  grind
theorem lessIn_end {xs ys L : List Nat} {c : Nat} (h : LessIn xs ys L xs.length c) (hl : ys.length ≤ xs.length) (hle : val32 ys ≤ val32 xs) : val32 L = val32 xs - val32 ys := by
  obtain ⟨h1, hf, hc, hv⟩ := h
  rw [List.take_of_length_le (Nat.le_refl _), List.take_of_length_le hl] at hv
  have a1 := val32_lt hf
  rw [h1] at a1
  generalize 4294967296 ^ xs.length = p at *
  rcases Nat.lt_or_ge c 1 with h | h
  · have h0 : c = 0 := by omega
    rw [h0, Nat.mul_zero, Nat.add_zero] at hv
    omega
  · have h1 : c = 1 := by omega
    rw [h1, Nat.mul_one] at hv
    omega

theorem d32_lt (v : Nat) : v < 4294967296 ^ (d32 v).length := by
  have := val32_lt (fit32_d32 v)
  rwa [val32_d32] at this
theorem d32_ge (v : Nat) (h : v ≠ 0) : 4294967296 ^ ((d32 v).length - 1) ≤ v := by
  induction v using Nat.strongRecOn with
  | ind v ih =>
    rw [d32_pos v h, List.length_cons, Nat.add_sub_cancel]
    by_cases h0 : v / 4294967296 = 0
    · rw [h0, d32_zero]; simp; omega
    · have h1 := ih (v / 4294967296) (by omega) h0
      have hp : 0 < (d32 (v / 4294967296)).length := by rw [d32_pos _ h0]; simp
      have e : 4294967296 ^ (d32 (v / 4294967296)).length = 4294967296 ^ ((d32 (v / 4294967296)).length - 1) * 4294967296 := by rw [← Nat.pow_succ]; congr 1; omega
      rw [e]
      have := Nat.mul_le_mul_right 4294967296 h1
      omega
theorem d32_len_le {u v : Nat} (h : u ≤ v) : (d32 u).length ≤ (d32 v).length := by
  rcases Nat.lt_or_ge (d32 v).length (d32 u).length with h1 | h1
  · have hu : u ≠ 0 := by intro e; rw [e, d32_zero] at h1; simp at h1
    have h2 := d32_ge u hu
    have h3 := d32_lt v
    have h4 : 4294967296 ^ (d32 v).length ≤ 4294967296 ^ ((d32 u).length - 1) := Nat.pow_le_pow_right (by decide) (by omega)
    omega
  · exact h1

theorem cmpN_eq (a b : Nat) : cmpN a b = -1 ∧ a < b ∨ 0 ≤ cmpN a b ∧ b ≤ a := by
  unfold cmpN
  split
  · exact .inl ⟨rfl, by assumption⟩
  · refine .inr ⟨?_, by omega⟩
    split <;> omega

/-- What Sub answers: the limbs, the error. -/
def subL (u v : Nat) : List Nat := if u < v then [] else nrm (u - v)
def subE (u v : Nat) : Int := if u < v then 1 else 0
theorem subL_lt {u v : Nat} (h : u < v) : subL u v = [] := if_pos h
theorem subL_ge {u v : Nat} (h : v ≤ u) : subL u v = nrm (u - v) := if_neg (by omega)
theorem subE_lt {u v : Nat} (h : u < v) : subE u v = 1 := if_pos h
theorem subE_ge {u v : Nat} (h : v ≤ u) : subE u v = 0 := if_neg (by omega)

end Go.Proofs.YtbipbpakbanacaaDoor

/- cleaverref01.Bits, by its contract. -/
namespace Go.Proofs.YtbipbpakbanacaaDoor
open Go.RowKit

theorem bitLen_two (t : Nat) (h : t ≠ 0) : bitLen t = 1 + bitLen (t / 2) := by
  unfold bitLen
  rw [if_neg h, Nat.log2_def t]
  by_cases h2 : 2 ≤ t
  · rw [if_pos h2, if_neg (by omega)]; omega
  · obtain rfl : t = 1 := by omega
    simp

/-- The plain limbs' last one tells the bits. -/
theorem bits_last (v : Nat) (k : Nat) (hk : k + 1 = (nrm v).length) : (nrm v).getD k 0 ≠ 0 ∧ bitLen v = 64 * k + bitLen ((nrm v).getD k 0) := by
  have hk' : k < (nrm v).length := by omega
  have e : (nrm v).getD k 0 = (nrm v)[k] := by rw [List.getD_eq_getElem?_getD, List.getElem?_eq_getElem hk']; rfl
  have hs := val_split (nrm v) k hk'
  rw [List.drop_of_length_le (by omega), val_nil, Nat.mul_zero, Nat.add_zero] at hs
  have hl := val_lt (fit_take (fit_nrm v) k)
  rw [List.length_take, Nat.min_eq_left (by omega)] at hl
  have hv := val_nrm v
  have hx0 : (nrm v)[k] ≠ 0 := by
    intro h0
    rw [h0, Nat.mul_zero, Nat.add_zero, hv] at hs
    have hge := nrm_ge v (by intro e0; rw [e0, nrm_zero] at hk; simp at hk)
    rw [← hk, Nat.add_sub_cancel] at hge
    omega
  rw [e]
  refine ⟨hx0, ?_⟩
  rw [hv] at hs
  have hb := bitLen_split _ _ _ hx0 hl
  rw [← hs] at hb
  exact hb

set_option maxHeartbeats 1000000 in
theorem refBits_any (A : Option Addr) (n c : Nat) (xs : List Nat) (w : World) (h : Sl w A n c xs) (hn : n ≤ 17592186044416) :
    Calls Tryd.prog 66 #[.slice A n c] w fun e w' => e = .returned (.int .i64 (bitLen (val xs) : Int)) ∧ Below w.heap.size w w' := by
  have hpn : (nrm (val xs)).length ≤ n := by rw [h.len]; exact nrm_length_le h.fit
  have H := Lib.hid h
  clear h
  go_enter Tryd.func66, Tryd.ntmps66
  go_wp2_with fail
  refine (refNorm_any A n c xs w H.out hn).mono ?_
  rintro e w1 ⟨v, rfl, ho, hbel⟩
  obtain ⟨B, d, rfl, hs, _⟩ := ho.sl
  have hbl := bits_last (val xs)
  have hz : (nrm (val xs)).length = 0 → bitLen (val xs) = 0 := by
    intro e
    rw [(nrm_nil_iff (val xs)).1 (List.eq_nil_of_length_eq_zero e)]
    rfl
  have hfit := fit_nrm (val xs)
  generalize nrm (val xs) = ps at *
  obtain ⟨r, hr⟩ : ∃ r, r = bitLen (val xs) := ⟨_, rfl⟩
  rw [← hr] at hbl hz
  have HR := Lib.hid hr
  obtain ⟨p, hp⟩ : ∃ p, p = ps.length := ⟨_, rfl⟩
  rw [← hp] at hs hpn hz hbl ⊢
  have hsle := hs.le
  have hsm := hs.max
  clear hr ho
  by_cases h0 : p = 0
  · have hr := hz h0
    have HRR := Lib.hid hr
    have hp0 : ((p : Int) == 0) = true := by simp; omega
    clear h0 hz hbl hs hp hr
    go_wp2_with fail
    go_ret
    exact ⟨by rw [← HR.out, HRR.out]; rfl, hbel⟩
  · obtain ⟨b, o, rfl, _, hc⟩ := hs.at_ (by omega)
    have hx := hc (p - 1) (by omega)
    have hl := (hbl (p - 1) (by omega)).2
    have hlt := fit_getD hfit (p - 1)
    generalize ps.getD (p - 1) 0 = x at *
    have hb64 : bitLen x ≤ 64 := by
      have e0 : Lib.bitLen x = bitLen x := lbl_eq x hlt
      rw [← e0]
      exact Lib.bitLen_le x 64 (by omega) (by omega)
    obtain ⟨y, hy⟩ : ∃ y, y = bitLen x := ⟨_, rfl⟩
    rw [← hy] at hl hb64
    have HY := Lib.hid hy
    have HL := Lib.hid hl
    have hp0 : ((p : Int) == 0) = false := by simp; omega
    have hp1 : 0 < p := by omega
    clear h0 hz hbl hs hp hc hl hy
    go_wp2_with fail
    go_loop [5, 4] (fun t q => ∃ tn j : Nat, tn < 18446744073709551616 ∧ t = .int .u64 (tn : Int) ∧ q = .int .i64 (((64 * (p - 1) + j : Nat)) : Int) ∧ j + bitLen tn = y ∧ j ≤ 64) (fun t _ => (intOf t).toNat)
    case atStart => exact ⟨x, 0, hlt, rfl, by go_num, by rw [HY.out]; omega, by omega⟩
    case round =>
      obtain ⟨tn, j, ht, rfl, rfl, hj, hj2⟩ := hrel
      by_cases h0 : tn = 0
      · subst h0
        have hb0 : bitLen 0 = 0 := rfl
        rw [hb0] at hj
        have HJ := Lib.hid hj
        clear hj hb0
        go_wp2_with fail
        go_ret
        exact ⟨ret_int (by rw [← HR.out, HL.out, ← HJ.out]; rfl), hbel⟩
      · have h2 := bitLen_two tn h0
        have hpos : (0 : Int) < (tn : Int) := by omega
        have hj3 : j + 1 + bitLen (tn / 2) = y := by omega
        have HJ3 := Lib.hid hj3
        have hj4 : j + 1 ≤ 64 := by omega
        obtain ⟨s, hs⟩ : ∃ s, s = 64 * (p - 1) + j := ⟨_, rfl⟩
        have hs2 : s ≤ 4611686018427387904 := by omega
        rw [← hs]
        have HSS := Lib.hid hs
        clear h2 hj hj3 hs
        go_wp2_with fail
        have hs := HSS.out
        go_round
        case rel => exact ⟨tn / 2, j + 1, by omega, by go_num, by rw [hs]; go_num, HJ3.out, hj4⟩
        case measure => simp [intOf]; omega
end Go.Proofs.YtbipbpakbanacaaDoor

/- cleaverref02.Norm and Sign, by their contracts. -/
namespace Go.Proofs.YtbipbpakbanacaaDoor
open Go.RowKit

/-- The sign of an integer. -/
def zsg (neg : Bool) (v : Nat) : Int := if v = 0 then 0 else if neg = true then -1 else 1

set_option maxHeartbeats 1000000 in
theorem refZNorm (neg : Bool) (A : Option Addr) (n c : Nat) (xs : List Nat) (w : World) (h : Sl w A n c xs) (hn : n ≤ 17592186044416) :
    Calls Tryd.prog 87 #[.agg #[.bool neg, .slice A n c]] w fun e w' =>
      ∃ B m d, e = .returned (.agg #[.bool (neg && decide (m ≠ 0)), .slice B m d]) ∧ (m = 0 ↔ val xs = 0) ∧ m ≤ n ∧ Below w.heap.size w w' := by
  have H := Lib.hid h
  clear h
  go_enter Tryd.func87, Tryd.ntmps87
  go_wp2_with fail
  refine (refNorm_any A n c xs _ (H.out.below (((Below.refl _ _).alloc (Nat.le_refl _) _).alloc (by simp) _)) hn).mono ?_
  rintro e w1 ⟨v, rfl, ho, hb⟩
  obtain ⟨B, d, rfl, hs, hnew⟩ := ho.sl
  have hz := nrm_nil_iff (val xs)
  have hle : (nrm (val xs)).length ≤ n := by rw [H.out.len]; exact nrm_length_le H.out.fit
  obtain ⟨m, hm⟩ : ∃ m, m = (nrm (val xs)).length := ⟨_, rfl⟩
  have hm0 : m = 0 ↔ val xs = 0 := by rw [hm, List.length_eq_zero_iff]; exact hz
  rw [← hm] at hle ⊢
  have HM0 := Lib.hid hm0
  clear hm hz ho hs hnew hm0
  have hc : ∀ b o, b < w.heap.size + 2 → w1.cell? ⟨b, o, none⟩ = ((w.alloc (.cells #[.bool neg, .slice A n c] 40)).alloc (.cells #[.bool false, .slice none 0 0] 40)).cell? ⟨b, o, none⟩ := fun b o h => hb.cell (p := ⟨b, o, none⟩) (by simpa using h)
  have hf : ∀ b o, b < w.heap.size + 2 → w1.frozen? ⟨b, o, none⟩ = ((w.alloc (.cells #[.bool neg, .slice A n c] 40)).alloc (.cells #[.bool false, .slice none 0 0] 40)).frozen? ⟨b, o, none⟩ := fun b o h => hb.frozen (p := ⟨b, o, none⟩) (by simpa using h)
  have HB := Lib.hid hb
  clear hb
  cases neg
  · go_wp2_with fail
    exact bodyPost_ret (v := .agg #[.bool false, .slice B m d]) (by simp [results, Tryd.results87, go_sem, hc]) rfl ⟨B, m, d, by simp, HM0.out, hle, (((((Below.refl _ _).alloc (Nat.le_refl _) _).alloc (by simp) _).trans (HB.out.mono (by simp; omega))).setCell (by simp) _).setCell (by simp) _⟩
  · by_cases h0 : m = 0
    · subst h0
      go_wp2_with fail
      exact bodyPost_ret (v := .agg #[.bool false, .slice B 0 d]) (by simp [results, Tryd.results87, go_sem, hc]) rfl ⟨B, 0, d, by simp, by simpa using HM0.out, Nat.zero_le _, (((((Below.refl _ _).alloc (Nat.le_refl _) _).alloc (by simp) _).trans (HB.out.mono (by simp; omega))).setCell (by simp) _).setCell (by simp) _⟩
    · have hp : 0 < m := by omega
      go_wp2_with fail
      exact bodyPost_ret (v := .agg #[.bool true, .slice B m d]) (by simp [results, Tryd.results87, go_sem, hc]) rfl ⟨B, m, d, by simp [h0], HM0.out, hle, (((((Below.refl _ _).alloc (Nat.le_refl _) _).alloc (by simp) _).trans (HB.out.mono (by simp; omega))).setCell (by simp) _).setCell (by simp) _⟩

set_option maxHeartbeats 1000000 in
theorem refZSign (neg : Bool) (A : Option Addr) (n c : Nat) (xs : List Nat) (w : World) (h : Sl w A n c xs) (hn : n ≤ 17592186044416) :
    Calls Tryd.prog 65 #[.agg #[.bool neg, .slice A n c]] w fun e w' => e = .returned (.int .i64 (zsg neg (val xs))) ∧ Below w.heap.size w w' := by
  have H := Lib.hid h
  clear h
  go_enter Tryd.func65, Tryd.ntmps65
  go_wp2_with fail
  refine (refZNorm neg A n c xs _ (H.out.below ((Below.refl _ _).alloc (Nat.le_refl _) _)) hn).mono ?_
  rintro e w1 ⟨B, m, d, rfl, hm0, hle, hb⟩
  have HM0 := Lib.hid hm0
  have HB := Lib.hid hb
  have hz : w.heap.size + 1 ≤ w1.heap.size := by have := hb.size; simpa using this
  have ZN : Hid (m ≠ 0 → val xs ≠ 0) := Lib.hid (fun h e => h (HM0.out.2 e))
  clear hm0 hb
  cases neg
  · by_cases h0 : m = 0
    · have hz0 := HM0.out.1 h0
      have HZ0 := Lib.hid hz0
      subst h0
      clear hz0
      go_wp2_with fail
      go_ret
      exact ⟨ret_int (by rw [HZ0.out]; rfl), ((((Below.refl _ _).alloc (Nat.le_refl _) _).trans (HB.out.mono (by simp))).alloc (by omega) _)⟩
    · have hp : 0 < m := by omega
      have HZ1 := Lib.hid (ZN.out h0)
      go_wp2_with fail
      go_ret
      exact ⟨ret_int (by unfold zsg; rw [if_neg HZ1.out, if_neg (by decide)]), ((((Below.refl _ _).alloc (Nat.le_refl _) _).trans (HB.out.mono (by simp))).alloc (by omega) _)⟩
  · by_cases h0 : m = 0
    · have hz0 := HM0.out.1 h0
      have HZ0 := Lib.hid hz0
      subst h0
      clear hz0
      go_wp2_with fail
      go_ret
      exact ⟨ret_int (by rw [HZ0.out]; rfl), ((((Below.refl _ _).alloc (Nat.le_refl _) _).trans (HB.out.mono (by simp))).alloc (by omega) _)⟩
    · have hp : 0 < m := by omega
      have HZ1 := Lib.hid (ZN.out h0)
      go_wp2_with fail
      go_ret
      exact ⟨ret_int (by unfold zsg; rw [if_neg HZ1.out, if_pos rfl]), ((((Below.refl _ _).alloc (Nat.le_refl _) _).trans (HB.out.mono (by simp))).alloc (by omega) _)⟩
end Go.Proofs.YtbipbpakbanacaaDoor

/- cleaverref06.PowMod, by its contract. -/
namespace Go.Proofs.YtbipbpakbanacaaDoor
open Go.RowKit

theorem lt_bitLen (v : Nat) : v < 2 ^ bitLen v := by
  unfold bitLen
  by_cases h : v = 0
  · subst h; simp
  · rw [if_neg h]; exact Nat.lt_log2_self
theorem bitLen_le_of {v N : Nat} (h : v < 2 ^ N) : bitLen v ≤ N := by
  unfold bitLen
  by_cases h0 : v = 0
  · rw [if_pos h0]; exact Nat.zero_le _
  · rw [if_neg h0]
    have := (Nat.log2_lt h0).2 h
    omega
theorem bit_and64 (x j : Nat) (hx : x < 18446744073709551616) : bits .and .u64 ((x : Int) / 2 ^ (j % 64)) 1 = ((x / 2 ^ (j % 64) % 2 : Nat) : Int) := by
  have e : ((x : Int) / 2 ^ (j % 64)) = ((x / 2 ^ (j % 64) : Nat) : Int) := by simp
  have hlt : x / 2 ^ (j % 64) < 18446744073709551616 := Nat.lt_of_le_of_lt (Nat.div_le_self _ _) (by omega)
  rw [e]
  have h2 := bits_and_u64_nat (x / 2 ^ (j % 64)) 1 hlt (by decide)
  rw [Nat.and_one_is_mod] at h2
  exact h2
theorem below_cell {a w : World} (h : Below a.heap.size a w) {b o : Nat} (hb : b < a.heap.size) : w.cell? ⟨b, o, none⟩ = a.cell? ⟨b, o, none⟩ := h.cell (p := ⟨b, o, none⟩) hb

/-- The rest as a slice, no longer than m. -/
def RestIn (p : Int) (m : Nat) (f b : Ser) (w : World) (v : Value) : Prop := ∃ C k d rs, v = .slice C k d ∧ ISl w C k d rs ∧ Pln p rs ∧ RestOf p m f b (cf rs) ∧ k ≤ m

theorem divOut_rest {p : Int} {m n : Nat} {a b : Ser} {w w' : World} {v1 v2 : Value} (hp : Pr p) (h : DivOut p m a b n w v1 v2 w') : RestIn p m a b w' v2 := by
  obtain ⟨q, r, _, ⟨C, k, d, rs, hv, hs, hpol, _⟩, hd, hq, _⟩ := h
  have hr := RestOf.eqR (r' := cf rs) ⟨q, ⟨_, hq⟩, hd⟩ hpol.2.symm
  refine ⟨C, k, d, rs, hv, hs, hpol.1, hr, ?_⟩
  obtain ⟨_, _, _, hb⟩ := hr
  rw [hs.len]
  exact hpol.1.len_le (by have := hp.1; omega) hb

theorem refPDiv_nz (A B : Option Addr) (n c n' c' : Nat) (xs ys : List Int) (p : Int) (m : Nat) (w : World) (h : ISl w A n c xs) (h' : ISl w B n' c' ys) (hp : Pr p) (hn : n ≤ 1000000000) (hn' : n' ≤ 1000000000) (hb : Ser.Bd p (cf ys) (m + 1)) (ht : cf ys m % p ≠ 0) :
    Calls Tryd.prog 24 #[.slice A n c, .slice B n' c', .int .i64 p] w fun e w' =>
      ∃ v1 v2, e = .returned (.tuple #[v1, v2, .int .i64 0]) ∧ DivOut p m (cf xs) (cf ys) n w v1 v2 w' := by
  refine (refPDiv_any A B n c n' c' xs ys p w h h' hp hn hn').mono ?_
  rintro e w' ⟨v1, v2, er, rfl, ⟨h0, _⟩ | ⟨_, rfl, m', h1, h2, h3⟩⟩
  · exact absurd (h0 m (Nat.zero_le _)) ht
  · obtain rfl := top_uniq (Ser.Eq.refl p _) hb ht h1 h2
    exact ⟨v1, v2, rfl, h3⟩

set_option maxHeartbeats 400000 in
theorem refPowMod_not (A B E : Option Addr) (n c n' c' k e : Nat) (neg : Bool) (p : Int) (w : World) (h0 : In64 p) (hp : ¬ Pr p) :
    Calls Tryd.prog 35 #[.slice A n c, .agg #[.bool neg, .slice E k e], .slice B n' c', .int .i64 p] w fun e w' => e = .returned (.tuple #[.slice none 0 0, .int .i64 1]) ∧ Below w.heap.size w w' := by
  have C := refCheck_any p (w.alloc (.cells #[.bool neg, .slice E k e] 40)) h0.1 h0.2
  rw [chk_no (primB_no hp)] at C
  have CC := Lib.hid C
  clear C hp h0
  go_enter Tryd.func35, Tryd.ntmps35
  go_wp2_with (go_at_call 43; (with_reducible refine CC.out.mono ?_); rintro e w' ⟨rfl, rfl⟩)
  go_ret2
  exact ⟨rfl, (Below.refl _ _).alloc (Nat.le_refl _) _⟩

set_option maxHeartbeats 1000000 in
theorem refPowMod_neg (A B E : Option Addr) (n c n' c' k e : Nat) (neg : Bool) (es : List Nat) (p : Int) (w : World) (hE : Sl w E k e es) (hp : Pr p) (hk : k ≤ 100000000) (hz : zsg neg (val es) < 0) :
    Calls Tryd.prog 35 #[.slice A n c, .agg #[.bool neg, .slice E k e], .slice B n' c', .int .i64 p] w fun e w' => e = .returned (.tuple #[.slice none 0 0, .int .i64 1]) ∧ Below w.heap.size w w' := by
  have hp1 := hp.1
  have hp2 := hp.2.1
  have C := refCheck_any p (w.alloc (.cells #[.bool neg, .slice E k e] 40)) (by omega) (by omega)
  rw [chk_yes (primB_yes hp)] at C
  have CC := Lib.hid C
  have S := refZSign neg E k e es (w.alloc (.cells #[.bool neg, .slice E k e] 40)) (hE.below ((Below.refl _ _).alloc (Nat.le_refl _) _)) (by omega)
  obtain ⟨z, hz0⟩ : ∃ z, zsg neg (val es) = z := ⟨_, rfl⟩
  rw [hz0] at S hz
  have HS := Lib.hid S
  clear hE C S hp hz0
  go_enter Tryd.func35, Tryd.ntmps35
  go_wp2_with (first
    | (go_at_call 43; (with_reducible refine CC.out.mono ?_); rintro e w' ⟨rfl, rfl⟩)
    | (go_at_call 65; (with_reducible refine HS.out.mono ?_); rintro e w1 ⟨rfl, hb1⟩))
  go_ret2
  exact ⟨rfl, ((Below.refl _ _).alloc (Nat.le_refl _) _).trans (hb1.mono (by simp))⟩

set_option maxHeartbeats 1000000 in
theorem refPowMod_nought (A B E : Option Addr) (n c n' c' k e : Nat) (ys : List Int) (neg : Bool) (es : List Nat) (p : Int) (w : World) (h' : ISl w B n' c' ys) (hE : Sl w E k e es) (hp : Pr p) (hn' : n' ≤ 100000000) (hk : k ≤ 100000000) (hz : 0 ≤ zsg neg (val es)) (hb0 : Ser.Bd p (cf ys) 0) :
    Calls Tryd.prog 35 #[.slice A n c, .agg #[.bool neg, .slice E k e], .slice B n' c', .int .i64 p] w fun e w' => e = .returned (.tuple #[.slice none 0 0, .int .i64 3]) ∧ Below w.heap.size w w' := by
  have hp1 := hp.1
  have hp2 := hp.2.1
  have PR := Lib.hid hp
  have H' := Lib.hid h'
  have HB0 := Lib.hid hb0
  have C := refCheck_any p (w.alloc (.cells #[.bool neg, .slice E k e] 40)) (by omega) (by omega)
  rw [chk_yes (primB_yes hp)] at C
  have CC := Lib.hid C
  have S := refZSign neg E k e es (w.alloc (.cells #[.bool neg, .slice E k e] 40)) (hE.below ((Below.refl _ _).alloc (Nat.le_refl _) _)) (by omega)
  obtain ⟨z, hz0⟩ : ∃ z, zsg neg (val es) = z := ⟨_, rfl⟩
  rw [hz0] at S hz
  have HS := Lib.hid S
  clear hE C S hp hz0 h' hb0
  go_enter Tryd.func35, Tryd.ntmps35
  go_wp2_with (first
    | (go_at_call 43; (with_reducible refine CC.out.mono ?_); rintro e w' ⟨rfl, rfl⟩)
    | (go_at_call 65; (with_reducible refine HS.out.mono ?_); rintro e w1 ⟨rfl, hb1⟩))
  have hb01 : Below w.heap.size w w1 := ((Below.refl _ _).alloc (Nat.le_refl _) _).trans (hb1.mono (by simp))
  have HB01 := Lib.hid hb01
  clear hb1 hb01
  refine (refPDiv_any (some ⟨w1.heap.size, 0, none⟩) B 1 1 n' c' [1] ys p _ ((iblk_list w1 [1] (fi_one (by unfold In64; decide))).sl (by simp)) ((H'.out.below HB01.out).below ((Below.refl _ _).alloc (Nat.le_refl _) _)) PR.out (by omega) (by omega)).mono ?_
  rintro e w2 ⟨v1, v2, er, rfl, ⟨_, rfl, rfl, rfl, hb2⟩ | ⟨h0, _⟩⟩
  · go_wp2_with fail
    go_ret2
    exact ⟨rfl, (HB01.out.alloc HB01.out.size _).trans (hb2.mono (by have := HB01.out.size; simp; omega))⟩
  · exact absurd HB0.out h0

set_option maxHeartbeats 4000000 in
theorem refPowMod_any (A B E : Option Addr) (n c n' c' k e : Nat) (xs ys : List Int) (neg : Bool) (es : List Nat) (p : Int) (m : Nat) (w : World) (h : ISl w A n c xs) (h' : ISl w B n' c' ys) (hE : Sl w E k e es) (hp : Pr p)
    (hn : n ≤ 100000000) (hn' : n' ≤ 100000000) (hk : k ≤ 100000000) (hz : 0 ≤ zsg neg (val es)) (hb : Ser.Bd p (cf ys) (m + 1)) (ht : cf ys m % p ≠ 0) :
    Calls Tryd.prog 35 #[.slice A n c, .agg #[.bool neg, .slice E k e], .slice B n' c', .int .i64 p] w fun e w' =>
      ∃ v, e = .returned (.tuple #[v, .int .i64 0]) ∧ RestIn p m (Ser.pw (cf xs) (val es)) (cf ys) w' v ∧ Below w.heap.size w w' := by
  have H := Lib.hid h
  have H' := Lib.hid h'
  have HE := Lib.hid hE
  have PR := Lib.hid hp
  have hp1 := hp.1
  have hp2 := hp.2.1
  have hpos : 1 ≤ p := by omega
  have HBD := Lib.hid hb
  have HTP := Lib.hid ht
  have C := refCheck_any p (w.alloc (.cells #[.bool neg, .slice E k e] 40)) (by omega) (by omega)
  rw [chk_yes (primB_yes hp)] at C
  have CC := Lib.hid C
  have S := refZSign neg E k e es (w.alloc (.cells #[.bool neg, .slice E k e] 40)) (hE.below ((Below.refl _ _).alloc (Nat.le_refl _) _)) (by omega)
  obtain ⟨z, hz0⟩ : ∃ z, zsg neg (val es) = z := ⟨_, rfl⟩
  rw [hz0] at S hz
  have hmn : m + 1 ≤ n' := by
    rcases Nat.lt_or_ge m n' with h1 | h1
    · exact h1
    · exact absurd (by rw [cf_over (by rw [← h'.len]; exact h1)]; simp) ht
  have HS := Lib.hid S
  clear h h' hE C S hp hb ht hz0
  go_enter Tryd.func35, Tryd.ntmps35
  go_wp2_with (first
    | (go_at_call 43; (with_reducible refine CC.out.mono ?_); rintro e w' ⟨rfl, rfl⟩)
    | (go_at_call 65; (with_reducible refine HS.out.mono ?_); rintro e w1 ⟨rfl, hb1⟩))
  have hb01 : Below w.heap.size w w1 := ((Below.refl _ _).alloc (Nat.le_refl _) _).trans (hb1.mono (by simp))
  have hbx : w1.cell? ⟨w.heap.size, 1, none⟩ = some (.slice E k e) := by
    rw [below_cell hb1 (by simp)]
    rw [cell_of_row _ _ 1 _ _ (0, 0) (heap_alloc_new w _)]
    rfl
  have HB01 := Lib.hid hb01
  have HBX := Lib.hid hbx
  have hgx : w.heap.size < w1.heap.size := by have := hb1.size; simp at this; omega
  clear hb1 hb01 hbx
  refine (refPDiv_nz (some ⟨w1.heap.size, 0, none⟩) B 1 1 n' c' [1] ys p m _ ((iblk_list w1 [1] (fi_one (by unfold In64; decide))).sl (by simp)) ((H'.out.below HB01.out).below ((Below.refl _ _).alloc (Nat.le_refl _) _)) PR.out (by omega) (by omega) HBD.out HTP.out).mono ?_
  rintro e w2 ⟨v1, v2, rfl, hdo⟩
  obtain ⟨C, k1, d1, rs, rfl, hs, hpl, hro, hk1⟩ := divOut_rest PR.out hdo
  have hb12 : Below w1.heap.size w1 w2 := by
    obtain ⟨_, _, _, _, _, _, hbb⟩ := hdo
    exact ((Below.refl _ _).alloc (Nat.le_refl _) _).trans (hbb.mono (by simp))
  have HB02 : Hid (Below w.heap.size w w2) := Lib.hid (HB01.out.trans (hb12.mono HB01.out.size))
  have hbx : w2.cell? ⟨w.heap.size, 1, none⟩ = some (.slice E k e) := by rw [below_cell hb12 hgx]; exact HBX.out
  have HBX2 := Lib.hid hbx
  have hgx2 : w.heap.size < w2.heap.size := Nat.lt_of_lt_of_le hgx hb12.size
  have HRO : Hid (RestOf p m (Ser.pw (cf xs) (val es / 2 ^ bitLen (val es))) (cf ys) (cf rs)) := Lib.hid (by
    rw [Nat.div_eq_of_lt (lt_bitLen _), Ser.pw_zero, ← cf_one]
    exact hro)
  have TB := Lib.hid (refBits_any E k e es w2 (HE.out.below HB02.out) (by omega))
  have hbl : bitLen (val es) ≤ 64 * k := bitLen_le_of (by
    have := val_lt HE.out.fit
    rwa [← HE.out.len, show (18446744073709551616 : Nat) = 2 ^ 64 by decide, ← Nat.pow_mul] at this)
  have HS := Lib.hid hs
  have HPL := Lib.hid hpl
  obtain ⟨V, hV⟩ : ∃ V, val es = V := ⟨_, rfl⟩
  rw [hV] at hbl HRO TB
  have HV := Lib.hid hV
  obtain ⟨bl, hbl0⟩ : ∃ bl, bitLen V = bl := ⟨_, rfl⟩
  rw [hbl0] at hbl HRO TB
  clear hs hpl hro hdo hb12 HB01 HBX hgx hV hbl0
  go_wp2_with (go_at_call 66; (with_reducible refine TB.out.mono ?_); rintro e w3 ⟨rfl, hb3⟩)
  have HB03 : Hid (Below w.heap.size w w3) := Lib.hid (HB02.out.trans (hb3.mono HB02.out.size))
  have HBX3 : Hid (w3.cell? ⟨w.heap.size, 1, none⟩ = some (.slice E k e)) := Lib.hid (by rw [below_cell hb3 hgx2]; exact HBX2.out)
  have hgx3 : w.heap.size < w3.heap.size := Nat.lt_of_lt_of_le hgx2 hb3.size
  have HS3 := Lib.hid (HS.out.below hb3)
  clear hb3 hbx HBX2 HB02 HS hgx2
  go_loopw [13, 11] (fun i v wr => ∃ (j : Nat) (C : Option Addr) (k1 d1 : Nat) (rs : List Int), j ≤ bl ∧ i = .int .i64 ((j : Int) - 1) ∧ v = .slice C k1 d1 ∧ k1 ≤ m ∧ Hid (ISl wr C k1 d1 rs) ∧ Hid (Pln p rs) ∧ Hid (RestOf p m (Ser.pw (cf xs) (V / 2 ^ j)) (cf ys) (cf rs)) ∧ Below w3.heap.size w3 wr) (fun i _ _ => ((intOf i) + 1).toNat)
  case atStart => exact ⟨bl, C, k1, d1, rs, Nat.le_refl _, rfl, rfl, hk1, HS3, HPL, HRO, Below.refl _ _⟩
  case round =>
    clear HRO HPL HS3 hk1 TB
    obtain ⟨j, C, k1, d1, rs, hj, rfl, rfl, hk1, hS, hP, hR, hbel⟩ := hrel
    by_cases hj0 : j = 0
    · subst hj0
      go_wp2_with fail
      go_ret2
      refine ⟨_, rfl, ⟨C, k1, d1, rs, rfl, hS.out, hP.out, ?_, hk1⟩, HB03.out.trans (hbel.mono HB03.out.size)⟩
      have := hR.out
      rw [Nat.pow_zero, Nat.div_one] at this
      rw [HV.out]
      exact this
    · obtain ⟨i, rfl⟩ : ∃ i, j = i + 1 := ⟨j - 1, by omega⟩
      have HBW : Hid (Below w.heap.size w wr) := Lib.hid (HB03.out.trans (hbel.mono HB03.out.size))
      have HBR := Lib.hid hbel
      clear hbel
      go_wp2_with fail
      refine (times_any C C k1 d1 k1 d1 rs rs p wr hS.out hS.out PR.out.md (by omega) (by omega)).mono ?_
      rintro e w4 ⟨v4, rfl, C4, k4, d4, f4, rfl, hs4, hp4, hk4, -, hb4⟩
      go_wp2_with fail
      refine (refPDiv_nz C4 B k4 d4 n' c' f4 ys p m w4 hs4 ((H'.out.below HBW.out).below hb4) PR.out (by omega) (by omega) HBD.out HTP.out).mono ?_
      rintro e w5 ⟨u5, v5, rfl, hdo⟩
      obtain ⟨C5, k5, d5, r5, rfl, hs5, hpl5, hro5, hk5⟩ := divOut_rest PR.out hdo
      have hb45 : Below wr.heap.size wr w5 := by
        obtain ⟨_, _, _, _, _, _, hbb⟩ := hdo
        exact hb4.trans (hbb.mono hb4.size)
      have HB5 := Lib.hid hb45
      have HBW5 : Hid (Below w.heap.size w w5) := Lib.hid (HBW.out.trans (hb45.mono HBW.out.size))
      have HSQ : Hid (RestOf p m (Ser.mul (Ser.pw (cf xs) (V / 2 ^ (i + 1))) (Ser.pw (cf xs) (V / 2 ^ (i + 1)))) (cf ys) (cf r5)) := Lib.hid (RestOf.sq hR.out (fini_pw (fini_cf p xs) _) (hro5.eq hp4.2))
      have hPB := pw_bit (cf xs) V i
      have HS5 := Lib.hid hs5
      have HPL5 := Lib.hid hpl5
      have hb35 : Below w3.heap.size w3 w5 := HBR.out.trans (hb45.mono HBR.out.size)
      have hbx : w5.cell? ⟨w.heap.size, 1, none⟩ = some (.slice E k e) := by rw [below_cell hb35 hgx3]; exact HBX3.out
      have HB35 := Lib.hid hb35
      have hkpos : i / 64 < k := by omega
      obtain ⟨b6, o6, e6, hbl6, hc6⟩ := (HE.out.below HBW5.out).at_ (by omega)
      subst e6
      have hlimb := hc6 (i / 64) hkpos
      have hlf := fit_getD HE.out.fit (i / 64)
      have hbit := bit64_of es i HE.out.fit
      rw [HV.out] at hbit
      generalize es.getD (i / 64) 0 = lb at *
      clear hs4 hp4 hb4 hdo hb45 hs5 hpl5 hro5 hb35 hc6
      by_cases hbt : V / 2 ^ i % 2 = 1
      · rw [if_pos hbt] at hPB
        have HPB := Lib.hid hPB
        rw [hbt] at hbit
        have hband : bits .and .u64 ((lb : Int) / 2 ^ (i % 64)) 1 = 1 := by rw [bit_and64 lb i hlf, hbit]; rfl
        clear hPB hbt hbit
        have hi1 : (i : Int) / 64 < (k : Int) := by omega
        have hi2 : ((i : Int) % 64).toNat = i % 64 := by omega
        have hi3 : ((i : Int) / 64).toNat = i / 64 := by omega
        have hi4 : min (i % 64) 64 = i % 64 := by omega
        go_wp2_with fail
        refine (times_any C5 A k5 d5 n c r5 xs p w5 HS5.out (H.out.below HBW5.out) PR.out.md (by omega) (by omega)).mono ?_
        rintro e w6 ⟨v6, rfl, C6, k6, d6, f6, rfl, hs6, hp6, hk6, -, hb6⟩
        go_wp2_with fail
        refine (refPDiv_nz C6 B k6 d6 n' c' f6 ys p m w6 hs6 ((H'.out.below HBW5.out).below hb6) PR.out (by omega) (by omega) HBD.out HTP.out).mono ?_
        rintro e w7 ⟨u7, v7, rfl, hdo⟩
        obtain ⟨C7, k7, d7, r7, rfl, hs7, hpl7, hro7, hk7⟩ := divOut_rest PR.out hdo
        have hb57 : Below w5.heap.size w5 w7 := by
          obtain ⟨_, _, _, _, _, _, hbb⟩ := hdo
          exact hb6.trans (hbb.mono hb6.size)
        have hb37 : Below w3.heap.size w3 w7 := HB35.out.trans (hb57.mono HB35.out.size)
        have HRR : Hid (RestOf p m (Ser.pw (cf xs) (V / 2 ^ i)) (cf ys) (cf r7)) := Lib.hid (by
          rw [HPB.out]
          exact RestOf.mulR HSQ.out (fini_cf p xs) (hro7.eq hp6.2))
        have HS7 := Lib.hid hs7
        have HPL7 := Lib.hid hpl7
        clear hs6 hp6 hb6 hdo hs7 hpl7 hro7 hb57
        go_wp2_with fail
        go_roundw
        case rel => exact ⟨i, C7, k7, d7, r7, by omega, by go_num, rfl, hk7, HS7, HPL7, HRR, hb37⟩
        case measure => simp [intOf]
      · rw [if_neg hbt] at hPB
        have HPB := Lib.hid hPB
        have hband : bits .and .u64 ((lb : Int) / 2 ^ (i % 64)) 1 = 0 := by
          rw [bit_and64 lb i hlf, hbit]
          have : V / 2 ^ i % 2 = 0 := by omega
          rw [this]; rfl
        clear hPB hbt hbit
        have hi1 : (i : Int) / 64 < (k : Int) := by omega
        have hi2 : ((i : Int) % 64).toNat = i % 64 := by omega
        have hi3 : ((i : Int) / 64).toNat = i / 64 := by omega
        have hi4 : min (i % 64) 64 = i % 64 := by omega
        have HRR : Hid (RestOf p m (Ser.pw (cf xs) (V / 2 ^ i)) (cf ys) (cf r5)) := Lib.hid (by
          rw [HPB.out]
          exact HSQ.out)
        go_wp2_with fail
        go_roundw
        case rel => exact ⟨i, C5, k5, d5, r5, by omega, by go_num, rfl, hk5, HS5, HPL5, HRR, HB35.out⟩
        case measure => simp [intOf]
end Go.Proofs.YtbipbpakbanacaaDoor

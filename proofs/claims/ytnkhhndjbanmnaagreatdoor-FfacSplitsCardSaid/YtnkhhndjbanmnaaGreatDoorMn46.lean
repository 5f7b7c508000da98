/- Texts joined, in their order: BerN, BerO. -/
import Derived.Test.YtnkhhndjbanmnaaGreatDoorMn25
import Derived.Test.YtnkhhndjbanmnaaGreatDoorMn44

/- x raised to the p-th power so many times is x again by what can't be parted, just where its degree divides that number: here, that it is so at the degree, and not before it. Mathematics alone. -/
namespace Go.Proofs.YtnkhhndjbanmnaaGreatDoor
open Ser (Bd)

/-! Congruent by q. -/
def dif (y z : Ser) : Ser := Ser.add y (Ser.sc (-1) z)
theorem dif_at (y z : Ser) (i : Nat) : dif y z i = y i + -1 * z i := rfl
def Cg (p : Int) (q y z : Ser) : Prop := Mult p q (dif y z)
theorem dif_fini {p : Int} {y z : Ser} (h : Fini p y) (k : Fini p z) : Fini p (dif y z) := h.add k.sc
theorem dif_eq {p : Int} {y z y' z' : Ser} (h : Ser.Eq p y y') (k : Ser.Eq p z z') : Ser.Eq p (dif y z) (dif y' z') := h.add (Ser.Eq.sc rfl k)
theorem cg_of {p : Int} {q y z : Ser} (h : Ser.Eq p y z) : Cg p q y z := Mult.nought fun i _ => by
  have := Int.emod_eq_emod_iff_emod_sub_eq_zero.1 (h i)
  rw [dif_at, show y i + -1 * z i = y i - z i by omega]; exact this
theorem Cg.symm {p : Int} {q y z : Ser} (h : Cg p q y z) : Cg p q z y := (h.sc (c := -1)).eqR (Ser.Eq.of (funext fun i => by
  show -1 * (y i + -1 * z i) = z i + -1 * y i
  omega))
theorem Cg.trans {p : Int} {q x y z : Ser} (h : Cg p q x y) (k : Cg p q y z) : Cg p q x z := (Mult.add h k).eqR (Ser.Eq.of (funext fun i => by
  show x i + -1 * y i + (y i + -1 * z i) = x i + -1 * z i
  omega))
theorem Cg.eq {p : Int} {q y z y' z' : Ser} (h : Cg p q y z) (e : Ser.Eq p y y') (k : Ser.Eq p z z') : Cg p q y' z' := Mult.eqR h (dif_eq e k)
theorem mul_sc (c : Int) (f g : Ser) : Ser.mul f (Ser.sc c g) = Ser.sc c (Ser.mul f g) := by rw [Ser.mul_comm, Ser.sc_mul, Ser.mul_comm]
theorem Cg.mulL {p : Int} {q y z x : Ser} (h : Cg p q y z) (hx : Fini p x) : Cg p q (Ser.mul x y) (Ser.mul x z) := (Mult.byL h hx).eqR (Ser.Eq.of (by
  unfold dif
  rw [Ser.mul_add, mul_sc]))
theorem Cg.mul {p : Int} {q y z y' z' : Ser} (h : Cg p q y z) (k : Cg p q y' z') (fy : Fini p y') (fz : Fini p z) : Cg p q (Ser.mul y y') (Ser.mul z z') := by
  refine Cg.trans (y := Ser.mul z y') ?_ (k.mulL fz)
  rw [Ser.mul_comm y, Ser.mul_comm z]
  exact h.mulL fy
theorem Cg.add {p : Int} {q y z y' z' : Ser} (h : Cg p q y z) (k : Cg p q y' z') : Cg p q (Ser.add y y') (Ser.add z z') := (Mult.add h k).eqR (Ser.Eq.of (funext fun i => by
  show y i + -1 * z i + (y' i + -1 * z' i) = y i + y' i + -1 * (z i + z' i)
  omega))
/-! The p-th power, e times. -/
def frE (p : Int) (e : Nat) (y : Ser) : Ser := Ser.pw y (p.toNat ^ e)
theorem frE_zero (p : Int) (y : Ser) : frE p 0 y = y := by unfold frE; rw [Nat.pow_zero, pw_one]
theorem frE_add (p : Int) (a b : Nat) (y : Ser) : frE p (a + b) y = frE p b (frE p a y) := by unfold frE; rw [Nat.pow_add, Ser.pw_mul]
theorem frE_succ (p : Int) (e : Nat) (y : Ser) : frE p (e + 1) y = Ser.pw (frE p e y) p.toNat := by rw [frE_add]; unfold frE; rw [Nat.pow_one]
theorem frE_fini {p : Int} {y : Ser} (h : Fini p y) (e : Nat) : Fini p (frE p e y) := fini_pw h _
theorem sc_con (c : Int) (f : Ser) : Ser.sc c f = Ser.mul (Ser.con c) f := (Ser.con_mul c f).symm
theorem con_fermat {p : Int} (hp : Pr p) (c : Int) : Ser.Eq p (Ser.pw (Ser.con c) p.toNat) (Ser.con c) := fun i => by
  rw [pw_con]
  show (if i = 0 then c ^ p.toNat else 0) % p = (if i = 0 then c else 0) % p
  by_cases h : i = 0
  · rw [if_pos h, if_pos h]; exact fermatZ hp c
  · rw [if_neg h, if_neg h]
theorem pw_dif {p : Int} (hp : Pr p) (y z : Ser) : Ser.Eq p (Ser.pw (dif y z) p.toNat) (dif (Ser.pw y p.toNat) (Ser.pw z p.toNat)) := by
  refine (Ser.frob hp y (Ser.sc (-1) z)).trans ((Ser.Eq.refl _ _).add ?_)
  rw [sc_con, sc_con, pw_mulS]
  exact (con_fermat hp (-1)).mulL _
theorem frE_dif {p : Int} (hp : Pr p) (y z : Ser) : ∀ e, Ser.Eq p (frE p e (dif y z)) (dif (frE p e y) (frE p e z))
  | 0 => by rw [frE_zero, frE_zero, frE_zero]; exact Ser.Eq.refl _ _
  | e + 1 => by
    rw [frE_succ, frE_succ, frE_succ]
    exact ((frE_dif hp y z e).pw _).trans (pw_dif hp _ _)
theorem irr_pw {p : Int} {q y : Ser} (hp : Pr p) (hq : Irr p q) (hy : Fini p y) : ∀ n, Mult p q (Ser.pw y n) → Mult p q y
  | 0, h => absurd h (hq.not_unit hp (last_one hp))
  | n + 1, h => by
    rw [Ser.pw_succ] at h
    rcases irr_mul hp hq (fini_pw hy n) hy h with h | h
    · exact irr_pw hp hq hy n h
    · exact h
theorem frE_inj {p : Int} {q y z : Ser} (hp : Pr p) (hq : Irr p q) (hy : Fini p y) (hz : Fini p z) {e : Nat} (h : Cg p q (frE p e y) (frE p e z)) : Cg p q y z :=
  irr_pw hp hq (dif_fini hy hz) _ (Mult.eqR h (frE_dif hp y z e).symm)
/-! A row's value at any polynomial. -/
def evR : List Int → Ser → Ser
  | [], _ => Ser.zer
  | c :: cs, y => Ser.add (Ser.con c) (Ser.mul y (evR cs y))
theorem evR_X : ∀ xs : List Int, evR xs Xs = cf xs
  | [] => funext fun i => by rw [cf_nil]; rfl
  | c :: cs => by
    rw [evR, evR_X cs]
    funext i
    show (if i = 0 then c else 0) + Ser.mul (Ser.mono 1 1) (cf cs) i = cf (c :: cs) i
    rw [Ser.mono_mul_at]
    cases i with
    | zero => rw [if_pos rfl, if_neg (by omega)]; show c + 0 = c; omega
    | succ i => rw [if_neg (by omega), if_pos (by omega)]; show 0 + 1 * cf cs (i + 1 - 1) = cf cs i; rw [Nat.add_sub_cancel]; omega
theorem evR_fini {p : Int} {y : Ser} (h : Fini p y) : ∀ xs : List Int, Fini p (evR xs y)
  | [] => fini_zer p
  | c :: cs => (fini_con p c).add (h.mul (evR_fini h cs))
theorem evR_pw {p : Int} (hp : Pr p) (y : Ser) : ∀ xs : List Int, Ser.Eq p (Ser.pw (evR xs y) p.toNat) (evR xs (Ser.pw y p.toNat))
  | [] => by
    rw [evR, evR, pw_zer (by have := hp.1; omega)]
    exact Ser.Eq.refl _ _
  | c :: cs => by
    rw [evR, evR]
    refine (Ser.frob hp _ _).trans ((con_fermat hp c).add ?_)
    rw [pw_mulS]
    exact (Ser.Eq.refl _ _).mul (evR_pw hp y cs)
theorem evR_frE {p : Int} (hp : Pr p) (y : Ser) (xs : List Int) : ∀ e, Ser.Eq p (frE p e (evR xs y)) (evR xs (frE p e y))
  | 0 => by rw [frE_zero, frE_zero]; exact Ser.Eq.refl _ _
  | e + 1 => by
    rw [frE_succ, frE_succ]
    exact ((evR_frE hp y xs e).pw _).trans (evR_pw hp _ xs)
theorem evR_cg {p : Int} {q y z : Ser} (fy : Fini p y) (fz : Fini p z) (h : Cg p q y z) : ∀ xs : List Int, Cg p q (evR xs y) (evR xs z)
  | [] => cg_of (Ser.Eq.refl _ _)
  | _ :: cs => (cg_of (Ser.Eq.refl _ _)).add (h.mul (evR_cg fy fz h cs) (evR_fini fy cs) fz)

/-! Monic polynomials of polynomials, and how many roots they have by what can't be parted. -/
inductive MonF (p : Int) : Nat → (Ser → Ser) → Prop
  | one : MonF p 0 (fun _ => Ser.con 1)
  | more (n : Nat) (c : Ser) (G : Ser → Ser) : Fini p c → MonF p n G → MonF p (n + 1) (fun y => Ser.add c (Ser.mul y (G y)))
theorem MonF.fini {p : Int} {n : Nat} {F : Ser → Ser} (h : MonF p n F) {y : Ser} (hy : Fini p y) : Fini p (F y) := by
  induction h with
  | one => exact fini_con p 1
  | more n c G hc _ ih => exact hc.add (hy.mul ih)
theorem MonF.of {p : Int} {n : Nat} {F G : Ser → Ser} (h : MonF p n F) (e : ∀ y, F y = G y) : MonF p n G := by
  have : F = G := funext e
  subst this
  exact h
theorem MonF.div {p : Int} : ∀ (n : Nat) (F : Ser → Ser), MonF p (n + 1) F → ∀ r, Fini p r → ∃ G, MonF p n G ∧ ∀ y, dif (F y) (F r) = Ser.mul (dif y r) (G y) := by
  intro n
  induction n with
  | zero =>
    intro F h r hr
    cases h with
    | more _ c G hc h1 =>
      cases h1 with
      | one =>
        refine ⟨_, .one, fun y => ?_⟩
        show dif (Ser.add c (Ser.mul y (Ser.con 1))) (Ser.add c (Ser.mul r (Ser.con 1))) = Ser.mul (dif y r) (Ser.con 1)
        rw [Ser.mul_comm y, Ser.one_mul, Ser.mul_comm r, Ser.one_mul, Ser.mul_comm, Ser.one_mul]
        funext i
        show c i + y i + -1 * (c i + r i) = y i + -1 * r i
        omega
  | succ n ih =>
    intro F h r hr
    cases h with
    | more _ c G1 hc h1 =>
      obtain ⟨G, hG, e⟩ := ih G1 h1 r hr
      refine ⟨_, .more n (G1 r) G (h1.fini hr) hG, fun y => ?_⟩
      have e1 := e y
      show dif (Ser.add c (Ser.mul y (G1 y))) (Ser.add c (Ser.mul r (G1 r))) = Ser.mul (dif y r) (Ser.add (G1 r) (Ser.mul y (G y)))
      rw [Ser.mul_add, ← Ser.mul_assoc, Ser.mul_comm (dif y r) y, Ser.mul_assoc, ← e1]
      unfold dif
      rw [Ser.add_mul, Ser.mul_add, Ser.sc_mul, mul_sc]
      funext i
      show c i + Ser.mul y (G1 y) i + -1 * (c i + Ser.mul r (G1 r) i) = Ser.mul y (G1 r) i + -1 * Ser.mul r (G1 r) i + (Ser.mul y (G1 y) i + -1 * Ser.mul y (G1 r) i)
      omega
theorem roots_le {p : Int} {q : Ser} (hp : Pr p) (hq : Irr p q) : ∀ (n : Nat) (F : Ser → Ser), MonF p n F → ∀ R : List Ser, (∀ r ∈ R, Fini p r ∧ Mult p q (F r)) → R.Pairwise (fun a b => ¬ Cg p q a b) → R.length ≤ n := by
  intro n
  induction n with
  | zero =>
    intro F h R hR _
    cases h with
    | one =>
      cases R with
      | nil => exact Nat.le_refl _
      | cons r R => exact absurd (hR r (List.mem_cons_self ..)).2 (hq.not_unit hp (last_one hp))
  | succ n ih =>
    intro F h R hR hd
    cases R with
    | nil => exact Nat.zero_le _
    | cons r R =>
      rw [List.pairwise_cons] at hd
      obtain ⟨fr, mr⟩ := hR r (List.mem_cons_self ..)
      obtain ⟨G, hG, e⟩ := MonF.div n F h r fr
      have := ih G hG R (fun s hs => by
        obtain ⟨fs, ms⟩ := hR s (List.mem_cons_of_mem _ hs)
        refine ⟨fs, ?_⟩
        have h1 : Mult p q (dif (F s) (F r)) := Mult.add ms mr.sc
        rw [e s] at h1
        rcases irr_mul hp hq (dif_fini fs fr) (hG.fini fs) h1 with k | k
        · exact absurd (Cg.symm k) (hd.1 s hs)
        · exact k) hd.2
      rw [List.length_cons]
      omega
theorem monF_pw (p : Int) : ∀ n, MonF p n (fun y => Ser.pw y n)
  | 0 => .one
  | n + 1 => (MonF.more n Ser.zer _ (fini_zer p) (monF_pw p n)).of fun y => by
    rw [Ser.zer_add, Ser.mul_comm]; rfl
theorem monF_own (p : Int) (N : Nat) (h : 2 ≤ N) : MonF p N (fun y => dif (Ser.pw y N) y) := by
  obtain ⟨n, rfl⟩ : ∃ n, N = n + 1 + 1 := ⟨N - 2, by omega⟩
  refine (MonF.more (n + 1) Ser.zer _ (fini_zer p) (MonF.more n (Ser.con (-1)) _ (fini_con p _) (monF_pw p n))).of fun y => ?_
  rw [Ser.zer_add, Ser.mul_add, Ser.mul_comm y (Ser.con _), Ser.con_mul]
  unfold dif
  rw [Ser.add_comm]
  congr 1
  rw [Ser.pw_succ, Ser.pw_succ, Ser.mul_comm (Ser.mul _ y) y, Ser.mul_comm (Ser.pw y n) y]
theorem monF_row (p : Int) : ∀ ds : List Int, MonF p ds.length (evR (ds ++ [1]))
  | [] => MonF.one.of fun y => by
    show Ser.con 1 = Ser.add (Ser.con 1) (Ser.mul y Ser.zer)
    rw [Ser.mul_comm, Ser.zer_mul, Ser.add_zer]
  | c :: cs => .more cs.length (Ser.con c) _ (fini_con p c) (monF_row p cs)

/-! All rows of a length. -/
def dgs (P : Nat) : Nat → Nat → List Int
  | 0, _ => []
  | k + 1, j => ((j % P : Nat) : Int) :: dgs P k (j / P)
theorem dgs_len (P : Nat) : ∀ k j, (dgs P k j).length = k
  | 0, _ => rfl
  | k + 1, j => by rw [dgs, List.length_cons, dgs_len P k]
theorem dgs_dig {p : Int} (hp : Pr p) : ∀ k j, Dig p (dgs p.toNat k j)
  | 0, _ => fun _ h => (List.not_mem_nil h).elim
  | k + 1, j => fun x hx => by
    rcases List.mem_cons.1 hx with rfl | hx
    · have h1 := hp.1
      have := Nat.mod_lt j (show p.toNat > 0 by omega)
      omega
    · exact dgs_dig hp k _ x hx
theorem dgs_inj (P : Nat) : ∀ k i j, i < P ^ k → j < P ^ k → dgs P k i = dgs P k j → i = j
  | 0, i, j, hi, hj, _ => by rw [Nat.pow_zero] at hi hj; omega
  | k + 1, i, j, hi, hj, e => by
    rw [dgs, dgs, List.cons.injEq] at e
    rw [Nat.pow_succ] at hi hj
    have e1 : i % P = j % P := by omega
    have e2 := dgs_inj P k (i / P) (j / P) (Nat.div_lt_of_lt_mul (by rw [Nat.mul_comm]; exact hi)) (Nat.div_lt_of_lt_mul (by rw [Nat.mul_comm]; exact hj)) e.2
    rw [← Nat.div_add_mod i P, ← Nat.div_add_mod j P, e1, e2]
theorem rows_apart {p : Int} {q : Ser} {k : Nat} (hp : Pr p) (hq : Mo p q k) {a b : List Int} (ha : a.length = k) (hb : b.length = k) (da : Dig p a) (db : Dig p b) (h : Cg p q (cf a) (cf b)) : a = b := by
  have hB : Bd p (dif (cf a) (cf b)) k := fun i hi => by
    rw [dif_at, cf_over (by omega), cf_over (by omega)]; simp
  have h0 : Bd p (dif (cf a) (cf b)) 0 := Classical.byContradiction fun hn => by
    obtain ⟨j, hj⟩ := last_of hn ⟨_, hB⟩
    have h1 := mult_le hp hj hq.last h
    exact hj.2 (hB j h1)
  apply List.ext_getElem (by omega)
  intro i h1 h2
  have e := h0 i (Nat.zero_le _)
  have ea : cf a i = a[i] := by unfold cf; rw [List.getD_eq_getElem?_getD, List.getElem?_eq_getElem h1]; rfl
  have eb : cf b i = b[i] := by unfold cf; rw [List.getD_eq_getElem?_getD, List.getElem?_eq_getElem h2]; rfl
  rw [dif_at, ea, eb] at e
  have k1 := da _ (List.getElem_mem h1)
  have k2 := db _ (List.getElem_mem h2)
  have e2 := Int.emod_eq_emod_iff_emod_sub_eq_zero.2 (show (a[i] - b[i]) % p = 0 by rw [show a[i] - b[i] = a[i] + -1 * b[i] by omega]; exact e)
  rwa [Int.emod_eq_of_lt k1.1 k1.2, Int.emod_eq_of_lt k2.1 k2.2] at e2
theorem own_deg_le {p : Int} {q : Ser} {k e : Nat} (hp : Pr p) (hq : Irr p q) (hk : Mo p q k) (he : 1 ≤ e) (h : Cg p q (frE p e Xs) Xs) : k ≤ e := by
  have hP : 2 ≤ p.toNat := by have := hp.1; omega
  have hN : 2 ≤ p.toNat ^ e := Nat.le_trans hP (Nat.le_self_pow (by omega) _)
  have hX := xs_fini p
  have := roots_le hp hq _ _ (monF_own p _ hN) ((List.range (p.toNat ^ k)).map fun j => cf (dgs p.toNat k j)) (fun r hr => by
    obtain ⟨j, _, rfl⟩ := List.mem_map.1 hr
    refine ⟨fini_cf p _, ?_⟩
    have h1 := evR_frE hp Xs (dgs p.toNat k j) e
    have h2 := evR_cg (frE_fini hX e) hX h (dgs p.toNat k j)
    rw [evR_X] at h1 h2
    exact Cg.eq h2 h1.symm (Ser.Eq.refl _ _)) (by
    rw [List.pairwise_map, List.pairwise_iff_getElem]
    intro i j hi hj hij hc
    rw [List.length_range] at hi hj
    rw [List.getElem_range, List.getElem_range] at hc
    have := dgs_inj p.toNat k i j hi hj (rows_apart hp hk (dgs_len _ _ _) (dgs_len _ _ _) (dgs_dig hp _ _) (dgs_dig hp _ _) hc)
    omega)
  rw [List.length_map, List.length_range] at this
  exact (Nat.pow_le_pow_iff_right (by omega)).1 this
theorem own_deg {p : Int} {f : List Int} {k : Nat} (hp : Pr p) (hf : Mn p f) (hi : Irr p (cf f)) (hk : f.length = k + 1) : Cg p (cf f) (frE p k Xs) Xs := by
  have hX := xs_fini p
  obtain ⟨ds, rfl, _⟩ := hf.snoc
  have hdk : ds.length = k := by rw [List.length_append] at hk; simpa using hk
  have hmo : Mo p (cf (ds ++ [1])) k := by have := hf.2.2; rw [hk, Nat.add_sub_cancel] at this; exact this
  have ex : ∃ i j, i < j ∧ j < k + 1 ∧ Cg p (cf (ds ++ [1])) (frE p i Xs) (frE p j Xs) := Classical.byContradiction fun hn => by
    have := roots_le hp hi _ _ (monF_row p ds) ((List.range (k + 1)).map fun j => frE p j Xs) (fun r hr => by
      obtain ⟨j, _, rfl⟩ := List.mem_map.1 hr
      refine ⟨frE_fini hX j, ?_⟩
      have h1 := evR_frE hp Xs (ds ++ [1]) j
      rw [evR_X] at h1
      exact Mult.eqR (pw_multS (fini_cf p _) (Nat.pow_pos (by have := hp.1; omega))) h1) (by
      rw [List.pairwise_map, List.pairwise_iff_getElem]
      intro i j h1 h2 hij hc
      rw [List.length_range] at h1 h2
      rw [List.getElem_range, List.getElem_range] at hc
      exact hn ⟨i, j, hij, h2, hc⟩)
    rw [List.length_map, List.length_range] at this
    omega
  obtain ⟨i, j, hij, hj, hc⟩ := ex
  have hc2 : Cg p (cf (ds ++ [1])) Xs (frE p (j - i) Xs) := by
    refine frE_inj hp hi hX (frE_fini hX _) (e := i) ?_
    rw [← frE_add, Nat.sub_add_cancel (Nat.le_of_lt hij)]
    exact hc
  have hle := own_deg_le hp hi hmo (show 1 ≤ j - i by omega) hc2.symm
  have e : j - i = k := by omega
  rw [← e]
  exact hc2.symm
end Go.Proofs.YtnkhhndjbanmnaaGreatDoor

/- ffac.degrees, round by round: x raised so often, what is left, and the product of each degree. Mathematics alone. -/
namespace Go.Proofs.YtnkhhndjbanmnaaGreatDoor
open Ser (Bd)

theorem cg_down {p : Int} {q m y z : Ser} (h : Cg p m y z) (k : Mult p q m) : Cg p q y z := Mult.trans k h
theorem cg_pw {p : Int} {q y z : Ser} (hp : Pr p) (fy : Fini p y) (fz : Fini p z) (h : Cg p q y z) : Cg p q (Ser.pw y p.toNat) (Ser.pw z p.toNat) :=
  Mult.eqR (Mult.trans h (pw_multS (dif_fini fy fz) (by have := hp.1; omega))) (pw_dif hp y z)
structure DgR (p : Int) (m : List Int) (n t : Nat) (r : List Int) : Prop where
  bd : Bd p (cf r) n
  cg : Cg p (cf m) (cf r) (frE p t Xs)
theorem ras_dot {p : Int} {w : List Int} {n i : Nat} (v : Ser) : dot (cf ((List.range n).map fun j => cf (colL p w j) i)) v n = trS p w v n i := by
  unfold dot
  rw [trS_at]
  refine smN_congr fun j hj => ?_
  rw [cf_rangeMap, if_pos hj, Int.mul_comm]
theorem appL_tr {p : Int} {m v : List Int} {n : Nat} (hp : Pr p) (hl : Last p (cf m) n) : Ser.Eq p (cf (appL p (rasM p m n) v n)) (trS p m (cf v) n) := fun i => by
  have e : appL p (rasM p m n) v n = (List.range n).map fun i => trS p m (cf v) n i % p := by
    unfold appL rasM
    rw [List.map_map]
    exact List.map_congr_left fun i _ => by
      show dot _ _ _ % p = _
      rw [ras_dot]
  rw [e, cf_rangeMap]
  by_cases hi : i < n
  · rw [if_pos hi, Int.emod_emod_of_dvd _ (Int.dvd_refl p)]
  · rw [if_neg hi, trS_bd hp hl (cf v) n i (by omega)]; simp
theorem dgR_start {p : Int} {m r : List Int} {n : Nat} (hp : Pr p) (hl : Last p (cf m) n) (e : Ser.Eq p (cf (remL p Xs (cf m))) (cf r)) : DgR p m n 0 r := by
  obtain ⟨h1, h2⟩ := rm_mult hp hl (xs_fini p)
  refine ⟨h2.eq e, ?_⟩
  rw [frE_zero]
  exact Cg.eq (Cg.symm h1) e (Ser.Eq.refl _ _)
theorem DgR.next {p : Int} {m r : List Int} {n t : Nat} (hp : Pr p) (hl : Last p (cf m) n) (h : DgR p m n t r) : DgR p m n (t + 1) (appL p (rasM p m n) r n) := by
  have e := appL_tr (v := r) hp hl
  refine ⟨(trS_bd hp hl _ _).eq e.symm, ?_⟩
  have h1 : Cg p (cf m) (Ser.pw (cf r) p.toNat) (trS p m (cf r) n) := tr_pow hp hl h.bd
  rw [frE_succ]
  exact (Cg.eq h1.symm e.symm (Ser.Eq.refl _ _)).trans (cg_pw hp (fini_cf p r) (frE_fini (xs_fini p) t) h.cg)
structure DgL (p : Int) (m : List Int) (t : Nat) (left : List Int) : Prop where
  mn : Mn p left
  v : ∀ q k, Irr p q → Mo p q k → V p (cf left) q = if t < k then V p (cf m) q else 0
structure IsDg (p : Int) (m : List Int) (d : Nat) (ys : List Int) : Prop where
  mn : Mn p ys
  v : ∀ q k, Irr p q → Mo p q k → V p (cf ys) q = if k = d then V p (cf m) q else 0
theorem irr_mo {p : Int} {q : Ser} (h : Irr p q) : ∃ k, 1 ≤ k ∧ Mo p q k := by
  obtain ⟨k, h1, h2, _⟩ := h
  exact ⟨k, h1, h2⟩
theorem mo_uniq {p : Int} {q : Ser} {j k : Nat} (h : Mo p q j) (h' : Mo p q k) : j = k := h.last.uniq h'.last
theorem dgL_start {p : Int} {m : List Int} (hm : Mn p m) : DgL p m 0 m := ⟨hm, fun q k hq hk => by
  obtain ⟨j, h1, h2⟩ := irr_mo hq
  have := mo_uniq h2 hk
  rw [if_pos (by omega)]⟩
theorem IsDg.uniq {p : Int} {m ys zs : List Int} {d : Nat} (hp : Pr p) (h : IsDg p m d ys) (k : IsDg p m d zs) : ys = zs :=
  h.mn.ext hp k.mn fun q hq => by
    obtain ⟨j, _, hj⟩ := irr_mo hq
    rw [h.v q j hq hj, k.v q j hq hj]
theorem bez_sq {p : Int} {f : Ser} {left : List Int} (hp : Pr p) (hf : Fini p f) (hl : Mn p left) (hs : Sqf p left) :
    Mn p (bezG p f (cf left)) ∧ ∀ q, Irr p q → (Mult p q f → V p (cf (bezG p f (cf left))) q = V p (cf left) q) ∧ (¬ Mult p q f → V p (cf (bezG p f (cf left))) q = 0) := by
  obtain ⟨g, s, t, h, h1, hsP, htP, fg⟩ := bez_ex hp hf (fini_cf p left)
  have h0 : ¬ Bd p g 0 := fun k => hl.last.some ((h.nought hp).1 k).2
  obtain ⟨j, hj, ht⟩ := h.monic hp h0
  obtain ⟨m1, m2⟩ := mn_of hp h1 (⟨hj, ht⟩ : Mo p g j)
  obtain ⟨d1, d2⟩ := h.divides hp
  have gl : Last p g j := ⟨hj, by rw [ht]; decide⟩
  refine ⟨m1, fun q hq => ?_⟩
  rw [V_congr h1.2]
  have hle := V_le hp hq gl hl.last d2
  have hs1 := hs q hq
  have hpos := V_pos hp hq hl.last
  have gpos := V_pos hp hq gl
  refine ⟨fun hd => ?_, fun hd => ?_⟩
  · by_cases hv : 1 ≤ V p (cf left) q
    · have hg : Mult p q g := ((hd.byL ((fini_cf p _).eq hsP.2)).add ((hpos.2 hv).byL ((fini_cf p _).eq htP.2))).eqR h.made
      have := gpos.1 hg
      omega
    · omega
  · refine Classical.byContradiction fun hn => hd ((gpos.2 (by omega)).trans d1)
theorem dg_round {p : Int} {m r left : List Int} {n t : Nat} (hp : Pr p) (hm : Mn p m) (hs : Sqf p m) (hR : DgR p m n (t + 1) r) (hL : DgL p m t left) :
    IsDg p m (t + 1) (bezG p (cf (polL p (dif (cf r) Xs))) (cf left)) ∧ DgL p m (t + 1) (quoL p (cf left) (cf (bezG p (cf (polL p (dif (cf r) Xs))) (cf left)))) ∧ (bezG p (cf (polL p (dif (cf r) Xs))) (cf left)).length ≤ left.length := by
  have hX := xs_fini p
  have fd := dif_fini (fini_cf p r) hX
  have ef := (polL_pol hp fd).2
  have hls : Sqf p left := fun q hq => by
    obtain ⟨k, _, hk⟩ := irr_mo hq
    have := hL.v q k hq hk
    have := hs q hq
    split at * <;> omega
  obtain ⟨b1, b2⟩ := bez_sq hp (fini_cf p (polL p (dif (cf r) Xs))) hL.mn hls
  have key : ∀ q k, Irr p q → Mo p q k → 1 ≤ V p (cf left) q → (Mult p q (cf (polL p (dif (cf r) Xs))) ↔ k = t + 1) := fun q k hq hk hv => by
    have e := hL.v q k hq hk
    have htk : t < k := Classical.byContradiction fun h => by rw [if_neg h] at e; omega
    rw [if_pos htk] at e
    have hqm := (V_pos hp hq hm.last).2 (by omega : 1 ≤ V p (cf m) q)
    have hc := cg_down hR.cg hqm
    constructor
    · intro h
      have h1 : Cg p q (cf r) Xs := Mult.eqR h ef
      have := own_deg_le hp hq hk (by omega : 1 ≤ t + 1) (hc.symm.trans h1)
      omega
    · intro h
      subst h
      have hP := polL_pol hp hq.fini
      obtain ⟨f1, f2⟩ := mn_of hp hP hk
      have h1 : Cg p q (frE p (t + 1) Xs) Xs := Mult.eqL (own_deg hp f1 (hq.eq hP.2.symm) f2) hP.2
      exact Mult.eqR (hc.trans h1) ef.symm
  have hV : ∀ q k, Irr p q → Mo p q k → V p (cf (bezG p (cf (polL p (dif (cf r) Xs))) (cf left))) q = if k = t + 1 then V p (cf m) q else 0 := fun q k hq hk => by
    obtain ⟨c1, c2⟩ := b2 q hq
    have e := hL.v q k hq hk
    by_cases hv : 1 ≤ V p (cf left) q
    · have hk2 := key q k hq hk hv
      have htk : t < k := Classical.byContradiction fun h => by rw [if_neg h] at e; omega
      rw [if_pos htk] at e
      by_cases h1 : k = t + 1
      · rw [if_pos h1, c1 (hk2.2 h1), e]
      · rw [if_neg h1, c2 fun h => h1 (hk2.1 h)]
    · have h0 : V p (cf (bezG p (cf (polL p (dif (cf r) Xs))) (cf left))) q = 0 := by
        rcases Classical.em (Mult p q (cf (polL p (dif (cf r) Xs)))) with h | h
        · rw [c1 h]; omega
        · exact c2 h
      rw [h0]
      by_cases h1 : k = t + 1
      · rw [if_pos h1]
        rw [if_pos (by omega)] at e
        omega
      · rw [if_neg h1]
  have hle : ∀ q, Irr p q → V p (cf (bezG p (cf (polL p (dif (cf r) Xs))) (cf left))) q ≤ V p (cf left) q := fun q hq => by
    rcases Classical.em (Mult p q (cf (polL p (dif (cf r) Xs)))) with h | h
    · rw [(b2 q hq).1 h]; exact Nat.le_refl _
    · rw [(b2 q hq).2 h]; exact Nat.zero_le _
  obtain ⟨q1, _, q3⟩ := mn_quo hp hL.mn b1 hle
  refine ⟨⟨b1, hV⟩, ⟨q1, fun q k hq hk => ?_⟩, b1.len_le hp hL.mn hle⟩
  rw [q3 q hq, hV q k hq hk, hL.v q k hq hk]
  by_cases h1 : t + 1 < k
  · rw [if_pos h1, if_pos (by omega), if_neg (by omega)]; omega
  · rw [if_neg h1]
    by_cases h2 : k = t + 1
    · rw [if_pos h2, if_pos (by omega)]; omega
    · rw [if_neg h2, if_neg (by omega)]
end Go.Proofs.YtnkhhndjbanmnaaGreatDoor

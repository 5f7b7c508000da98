/- Texts joined, in their order: LinFst, LinMat, LinAns, BerC, BerD. -/
import Derived.Deep.QuietTactic
import Derived.BigQuiet
import Derived.Test.YtnkhhndjbanmnaaGreatDoorMp3
import Derived.Test.YtnkhhndjbanmnaaGreatDoorMp4
import Derived.Test.YtnkhhndjbanmnaaGreatDoorMp12
import Derived.Test.YtnkhhndjbanmnaaGreatDoorMp20
import Derived.Test.YtnkhhndjbanmnaaGreatDoorMp25

/- cleaverref07.first and less, by their contracts. -/
namespace Go.Proofs.YtnkhhndjbanmnaaGreatDoor
open Go.RowKit

def IsFst (xs : List Int) (k : Nat) : Prop := k < xs.length ∧ cf xs k ≠ 0 ∧ ∀ j, j < k → cf xs j = 0
theorem IsFst.uniq {xs : List Int} {k l : Nat} (h : IsFst xs k) (h' : IsFst xs l) : k = l := by
  rcases Nat.lt_trichotomy k l with e | e | e
  · exact absurd (h'.2.2 k e) h.2.1
  · exact e
  · exact absurd (h.2.2 l e) h'.2.1
noncomputable def fsi (xs : List Int) : Int := @dite _ (∃ k, IsFst xs k) (Classical.propDecidable _) (fun h => ((Classical.choose h : Nat) : Int)) (fun _ => -1)
theorem fsi_is {xs : List Int} {k : Nat} (h : IsFst xs k) : fsi xs = k := by
  unfold fsi
  rw [dif_pos ⟨k, h⟩]
  have := Classical.choose_spec (⟨k, h⟩ : ∃ k, IsFst xs k)
  rw [this.uniq h]
theorem fsi_none {xs : List Int} (h : ∀ j, j < xs.length → cf xs j = 0) : fsi xs = -1 := by
  unfold fsi
  rw [dif_neg]
  rintro ⟨k, hk⟩
  exact hk.2.1 (h k hk.1)
theorem fsi_cases (xs : List Int) : (∃ k : Nat, fsi xs = k ∧ IsFst xs k) ∨ (fsi xs = -1 ∧ ∀ j, cf xs j = 0) := by
  rcases Classical.em (∃ k, IsFst xs k) with ⟨k, h⟩ | h
  · exact .inl ⟨k, fsi_is h, h⟩
  · right
    have hz : ∀ j, cf xs j = 0 := by
      intro j
      induction j using Nat.strongRecOn with
      | ind j ih =>
        refine Classical.byContradiction fun hj => h ⟨j, ?_, hj, ih⟩
        rcases Nat.lt_or_ge j xs.length with h1 | h1
        · exact h1
        · exact absurd (cf_over h1) hj
    exact ⟨fsi_none fun j _ => hz j, hz⟩

theorem ISl.cfs {w : World} {A : Option Addr} {n c : Nat} {xs : List Int} (h : ISl w A n c xs) (hn : 0 < n) : ∃ b o, A = some ⟨b, o, none⟩ ∧ b < w.heap.size ∧ ∀ j, j < n → w.cell? ⟨b, o + j, none⟩ = some (iv (cf xs j)) := h.at_ hn

def Thaw (w : World) (C : Option Addr) : Prop := ∀ b o s, C = some ⟨b, o, s⟩ → ∀ i, w.frozen? ⟨b, i, none⟩ = false
def NewRow (w : World) (C : Option Addr) (m d : Nat) (L : List Int) (w' : World) : Prop := ISl w' C m d L ∧ Thaw w' C ∧ (∀ b o s, C = some ⟨b, o, s⟩ → w.heap.size ≤ b) ∧ Below w.heap.size w w'

end Go.Proofs.YtnkhhndjbanmnaaGreatDoor

/- A matrix as it lies in memory; cleaverref07.right, by its contract. -/
namespace Go.Proofs.YtnkhhndjbanmnaaGreatDoor
open Go.RowKit

def MatAt (w : World) (A : Option Addr) (n c : Nat) (M : List (List Int)) : Prop :=
  ∃ vs, VSl w A n c vs ∧ n = M.length ∧ ∀ i, i < n → ∃ C k d, vs.getD i nilv = .slice C k d ∧ ISl w C k d (M.getD i [])
theorem MatAt.len {w : World} {A : Option Addr} {n c : Nat} {M : List (List Int)} (h : MatAt w A n c M) : n = M.length := by
  obtain ⟨_, _, h, _⟩ := h
  exact h
theorem MatAt.le {w : World} {A : Option Addr} {n c : Nat} {M : List (List Int)} (h : MatAt w A n c M) : n ≤ c := by
  obtain ⟨_, h, _⟩ := h
  exact h.le
theorem MatAt.max {w : World} {A : Option Addr} {n c : Nat} {M : List (List Int)} (h : MatAt w A n c M) : c ≤ 9223372036854775807 := by
  obtain ⟨_, h, _⟩ := h
  exact h.max
theorem MatAt.below {w w' : World} {A : Option Addr} {n c : Nat} {M : List (List Int)} (h : MatAt w A n c M) (hb : Below w.heap.size w w') : MatAt w' A n c M := by
  obtain ⟨vs, h1, h2, h3⟩ := h
  refine ⟨vs, h1.below hb, h2, fun i hi => ?_⟩
  obtain ⟨C, k, d, e, k1⟩ := h3 i hi
  exact ⟨C, k, d, e, k1.below hb⟩
theorem MatAt.open_ {w : World} {A : Option Addr} {n c : Nat} {M : List (List Int)} (h : MatAt w A n c M) (hn : 0 < n) : ∃ b o, A = some ⟨b, o, none⟩ ∧ b < w.heap.size ∧
    ∀ i, i < n → ∃ C k d, w.cell? ⟨b, o + i, none⟩ = some (.slice C k d) ∧ ISl w C k d (M.getD i []) := by
  obtain ⟨vs, h1, h2, h3⟩ := h
  obtain ⟨b, o, rfl, hlt, hc⟩ := h1.at_ hn
  refine ⟨b, o, rfl, hlt, fun i hi => ?_⟩
  obtain ⟨C, k, d, e, k1⟩ := h3 i hi
  exact ⟨C, k, d, by rw [hc i hi, e], k1⟩

def Right (p : Int) (M : List (List Int)) : Prop := Pr p ∧ M.length ≤ 64 ∧ ∀ i, i < M.length → (M.getD i []).length ≤ 64 ∧ (M.getD i []).length = (M.getD 0 []).length
noncomputable def rightB (p : Int) (M : List (List Int)) : Bool := @decide (Right p M) (Classical.propDecidable _)
theorem rightB_yes {p : Int} {M : List (List Int)} (h : Right p M) : rightB p M = true := @decide_eq_true _ (Classical.propDecidable _) h
theorem rightB_no {p : Int} {M : List (List Int)} (h : ¬ Right p M) : rightB p M = false := @decide_eq_false _ (Classical.propDecidable _) h

end Go.Proofs.YtnkhhndjbanmnaaGreatDoor

/- What Echelon, Null and Apply are to answer, named once for the program and the document. -/
namespace Go.Proofs.YtnkhhndjbanmnaaGreatDoor
open Go.RowKit

def cols (M : List (List Int)) : Nat := (M.getD 0 []).length
def EchOf (p : Int) (nc : Nat) (M : List (List Int)) (P : List (Nat × List Int)) : Prop := EchP p nc P ∧ (∀ r ∈ rowsOf P, Sp p M (cf r)) ∧ (∀ r ∈ M, Sp p (rowsOf P) (cf r))
theorem EchOf.uniq {p : Int} {nc : Nat} (hp : 2 ≤ p) {M : List (List Int)} {P Q : List (Nat × List Int)} (h : EchOf p nc M P) (k : EchOf p nc M Q) : P = Q :=
  h.1.uniq hp k.1 (fun r hr => (h.2.1 r hr).sub k.2.2) (fun r hr => (k.2.1 r hr).sub h.2.2)
noncomputable def echP (p : Int) (nc : Nat) (M : List (List Int)) : List (Nat × List Int) := @dite _ (∃ P, EchOf p nc M P) (Classical.propDecidable _) (fun h => Classical.choose h) (fun _ => [])
theorem echP_eq {p : Int} {nc : Nat} (hp : 2 ≤ p) {M : List (List Int)} {P : List (Nat × List Int)} (h : EchOf p nc M P) : echP p nc M = P := by
  unfold echP
  rw [dif_pos ⟨P, h⟩]
  exact (Classical.choose_spec (⟨P, h⟩ : ∃ P, EchOf p nc M P)).uniq hp h
theorem IsEch.of {p : Int} {nc : Nat} {M E : List (List Int)} (h : IsEch p nc M E) : ∃ P, EchOf p nc M P ∧ E = rowsOf P := by
  obtain ⟨P, rfl, h1, h2, h3⟩ := h
  exact ⟨P, ⟨h1, h2, h3⟩, rfl⟩
def codeB (b : Bool) : Int := if b then 0 else 1
noncomputable def propB (q : Prop) : Bool := @decide q (Classical.propDecidable _)
theorem propB_yes {q : Prop} (h : q) : propB q = true := @decide_eq_true _ (Classical.propDecidable _) h
theorem propB_no {q : Prop} (h : ¬ q) : propB q = false := @decide_eq_false _ (Classical.propDecidable _) h
noncomputable def ansB {α : Type} (q : Prop) (x d : α) : α := @ite _ q (Classical.propDecidable _) x d
theorem ansB_yes {α : Type} {q : Prop} (h : q) (x d : α) : ansB q x d = x := @if_pos _ (Classical.propDecidable _) h _ _ _
theorem ansB_no {α : Type} {q : Prop} (h : ¬ q) (x d : α) : ansB q x d = d := @if_neg _ (Classical.propDecidable _) h _ _ _
noncomputable def codeP (q : Prop) : Int := codeB (propB q)
theorem codeP_yes {q : Prop} (h : q) : codeP q = 0 := by unfold codeP; rw [propB_yes h]; rfl
theorem codeP_no {q : Prop} (h : ¬ q) : codeP q = 1 := by unfold codeP; rw [propB_no h]; rfl

noncomputable def echV (p : Int) (M : List (List Int)) : List (List Int) := ansB (Right p M) (rowsOf (echP p (cols M) M)) []
def NulOk (p : Int) (M : List (List Int)) (n : Int) : Prop := Right p M ∧ 0 ≤ n ∧ n ≤ 64 ∧ (0 < M.length → (cols M : Int) = n)
noncomputable def nulV' (p : Int) (M : List (List Int)) (n : Int) : List (List Int) := ansB (NulOk p M n) (nulL p n.toNat (echP p n.toNat M) n.toNat) []
def AppOk (p : Int) (M : List (List Int)) (v : List Int) : Prop := Right p M ∧ (0 < M.length → cols M = v.length)
noncomputable def appV (p : Int) (M : List (List Int)) (v : List Int) : List Int := ansB (AppOk p M v) (appL p M v v.length) []
theorem Right.len {p : Int} {M : List (List Int)} (h : Right p M) {i : Nat} (hi : i < M.length) : (M.getD i []).length = cols M := (h.2.2 i hi).2
theorem Right.cols {p : Int} {M : List (List Int)} (h : Right p M) : cols M ≤ 64 := by
  unfold Go.Proofs.YtnkhhndjbanmnaaGreatDoor.cols
  by_cases hM : 0 < M.length
  · exact (h.2.2 0 hM).1
  · have : M = [] := List.eq_nil_of_length_eq_zero (by omega)
    subst this; simp
def RowsOut (w : World) (V : List (List Int)) (e : Int) (x : Ending) (w' : World) : Prop := ∃ A m c, x = .returned (.tuple #[.slice A m c, .int .i64 e]) ∧ MatAt w' A m c V ∧ Below w.heap.size w w'
def ListOut (w : World) (L : List Int) (e : Int) (x : Ending) (w' : World) : Prop := ∃ A m c, x = .returned (.tuple #[.slice A m c, .int .i64 e]) ∧ ISl w' A m c L ∧ Below w.heap.size w w'
theorem mat_nil (w : World) : MatAt w none 0 0 [] := ⟨[], ⟨rfl, Nat.le_refl _, by decide, fun _ => rfl, VRd.nil _ _⟩, rfl, fun i hi => absurd hi (Nat.not_lt_zero _)⟩
end Go.Proofs.YtnkhhndjbanmnaaGreatDoor

/- As many null vectors as factors, and what all of them are residues by can't be parted. Mathematics alone. -/
namespace Go.Proofs.YtnkhhndjbanmnaaGreatDoor
open Ser (Bd)

theorem Irr.eq {p : Int} {q r : Ser} (h : Irr p q) (e : Ser.Eq p q r) : Irr p r := by
  obtain ⟨m, h1, h2, h3⟩ := h
  exact ⟨m, h1, h2.eq e, fun d k hd hk => h3 d k hd (hk.eqR e.symm)⟩
theorem irr_dvd {p : Int} {q r : Ser} (hp : Pr p) (hq : Irr p q) (hr : Irr p r) (h : Mult p q r) : Ser.Eq p q r := by
  refine Classical.byContradiction fun hn => ?_
  obtain ⟨m, _, hm⟩ := hr.last
  have h1 := (V_pos hp hq hm).1 h
  rw [V_other hp hq hr (fun e => hn e.symm)] at h1
  omega
theorem Mult.both {p : Int} {q u s t F : Ser} (hs : Fini p s) (ht : Fini p t) (e : Ser.Eq p (Ser.add (Ser.mul s q) (Ser.mul t u)) (Ser.con 1)) (h : Mult p q F) (k : Mult p u F) : Mult p (Ser.mul q u) F := by
  have h1 : Mult p (Ser.mul q u) (Ser.mul (Ser.mul s q) F) := by
    rw [Ser.mul_assoc]
    exact ((Mult.refl p q).mul k).byL hs
  have h2 : Mult p (Ser.mul q u) (Ser.mul (Ser.mul t u) F) := by
    rw [Ser.mul_assoc, Ser.mul_comm q u]
    exact ((Mult.refl p u).mul h).byL ht
  refine (h1.add h2).eqR ?_
  rw [← Ser.add_mul]
  exact (e.mulL F).trans (Ser.Eq.of (Ser.one_mul F))
theorem idem_ex {p : Int} {w : List Int} {n : Nat} (hp : Pr p) (hl : Last p (cf w) n) (hs : Sqf p w) {q : Ser} (hq : Irr p q) (hw : Mult p q (cf w)) :
    ∃ e : Ser, Bd p e n ∧ Mult p (cf w) (frobS p e) ∧ Mult p q (lin e 1) ∧ ∀ r, Irr p r → Mult p r (cf w) → ¬ Ser.Eq p q r → Mult p r e := by
  obtain ⟨u, fu, hu⟩ := hw
  obtain ⟨k, k1, hk⟩ := hq.last
  obtain ⟨j, hj, _⟩ := last_quo hp hl hk fu hu
  have hn : ¬ Mult p q u := fun h => by
    have h1 := (V_pos hp hq hj).1 h
    have h2 := hs q hq
    rw [V_congr hu, V_mul hp hq hj hk, V_self hp hq] at h2
    omega
  obtain ⟨s, t, fs, ft, e⟩ := irr_bez hp hq fu hn
  have fe := ft.mul fu
  have e1 : Mult p q (lin (Ser.mul t u) 1) := by
    refine (((Mult.refl p q).byL fs).sc (c := -1)).eqR fun i => ?_
    have := e i
    show -1 * Ser.mul s q i % p = (Ser.mul t u i + (if i = 0 then -1 else 0)) % p
    have h1 : (Ser.mul s q i + Ser.mul t u i) % p = (if i = 0 then 1 else 0) % p := this
    have h2 := Int.emod_eq_emod_iff_emod_sub_eq_zero.1 h1.symm
    refine Int.emod_eq_emod_iff_emod_sub_eq_zero.2 ?_
    refine Eq.trans (congrArg (· % p) ?_) h2
    by_cases hi : i = 0
    · rw [if_pos hi, if_pos hi]; omega
    · rw [if_neg hi, if_neg hi]; omega
  have e0 : Mult p u (Ser.mul t u) := (Mult.refl p u).byL ft
  have hown : Mult p (cf w) (frobS p (Ser.mul t u)) := by
    refine Mult.eqL (Mult.both fs ft e (e1.trans (lin_dvd hp fe 1)) (e0.trans (frobS_dvd hp fe))) ?_
    rw [Ser.mul_comm]; exact hu.symm
  obtain ⟨r1, r2⟩ := rm_mult hp hl fe
  have fr := fini_cf p (remL p (Ser.mul t u) (cf w))
  have hqw : Mult p q (cf w) := ⟨u, fu, hu⟩
  have back : ∀ r z, Mult p r (cf w) → Mult p r (Ser.add (Ser.mul t u) z) → Mult p r (Ser.add (cf (remL p (Ser.mul t u) (cf w))) z) := fun r z hr h =>
    (h.add ((hr.trans r1).sc (c := -1))).eqR (Ser.Eq.of (funext fun i => by
      show Ser.mul t u i + z i + -1 * (Ser.mul t u i + -1 * cf (remL p (Ser.mul t u) (cf w)) i) = cf (remL p (Ser.mul t u) (cf w)) i + z i
      omega))
  refine ⟨cf (remL p (Ser.mul t u) (cf w)), r2, ?_, back q _ hqw e1, fun r hr hrw hne => ?_⟩
  · have f1 : Fini p (Ser.add (Ser.mul t u) (Ser.sc (-1) (cf (remL p (Ser.mul t u) (cf w))))) := fe.add fr.sc
    have h1 := r1.trans (frobS_dvd hp f1)
    refine (hown.add (h1.sc (c := -1))).eqR ?_
    refine ((Ser.Eq.refl _ _).add (Ser.Eq.sc rfl ((frobS_add hp _ _).trans ((Ser.Eq.refl _ _).add (frobS_sc hp _ _))))).trans (Ser.Eq.of (funext fun i => ?_))
    show frobS p (Ser.mul t u) i + -1 * (frobS p (Ser.mul t u) i + -1 * frobS p (cf (remL p (Ser.mul t u) (cf w))) i) = frobS p (cf (remL p (Ser.mul t u) (cf w))) i
    omega
  · have h1 : Mult p r u := by
      rcases irr_mul hp hr fu hq.fini (hrw.eqR hu) with h | h
      · exact h
      · exact absurd (irr_dvd hp hr hq h).symm hne
    have h2 := back r Ser.zer hrw (by rw [Ser.add_zer]; exact h1.trans e0)
    rwa [Ser.add_zer] at h2
theorem frob_sum {p : Int} (hp : Pr p) {d : Ser} (a : Nat → Int) (e : Nat → Ser) : ∀ m, (∀ i, i < m → Mult p d (frobS p (e i))) → Mult p d (frobS p (Ser.sumS (fun i => Ser.sc (a i) (e i)) m)) := by
  intro m
  induction m with
  | zero =>
    intro _
    refine Mult.nought fun i _ => ?_
    show (Ser.pw Ser.zer p.toNat i + -1 * 0) % p = 0
    rw [pw_zer (by have := pr_nat hp; omega)]
    show ((0 : Int) + -1 * 0) % p = 0
    simp
  | succ m ih =>
    intro h
    exact ((ih fun i hi => h i (by omega)).add ((h m (by omega)).sc (c := a m))).eqR (((Ser.Eq.refl _ _).add (frobS_sc hp _ _).symm).trans (frobS_add hp _ _).symm)
theorem sum_at (a : Nat → Int) (e : Nat → Ser) (m c : Nat) : Ser.sumS (fun i => Ser.sc (a i) (e i)) m c = smN (fun i => a i * e i c) m := by
  induction m with
  | zero => rfl
  | succ m ih => rw [sumS_at, ih]; rfl
theorem sum_bd {p : Int} (a : Nat → Int) (e : Nat → Ser) (n : Nat) : ∀ m, (∀ i, i < m → Bd p (e i) n) → Bd p (Ser.sumS (fun i => Ser.sc (a i) (e i)) m) n := by
  intro m
  induction m with
  | zero => exact fun _ i _ => by show (0 : Int) % p = 0; simp
  | succ m ih => exact fun h => (ih fun i hi => h i (by omega)).add fun i hi => by show a m * e m i % p = 0; rw [Int.mul_emod, h m (by omega) i hi]; simp

theorem own_dim {p : Int} {w : List Int} {n : Nat} (hp : Pr p) (hl : Last p (cf w) n) (hs : Sqf p w) {P : List (Nat × List Int)} (hP : EchOf p n (ownM p w n) P) {m : Nat} (Q : Nat → Ser) (hQ : ∀ i, i < m → Irr p (Q i)) (hw : ∀ i, i < m → Mult p (Q i) (cf w)) (hd : ∀ i j, i < m → j < m → i ≠ j → ¬ Ser.Eq p (Q i) (Q j)) : m ≤ (nulL p n P n).length := by
  rw [nulL_freeL, List.length_map]
  refine Classical.byContradiction fun hc => ?_
  have he : ∀ i, ∃ e : Ser, i < m → Bd p e n ∧ Mult p (cf w) (frobS p e) ∧ Mult p (Q i) (lin e 1) ∧ ∀ r, Irr p r → Mult p r (cf w) → ¬ Ser.Eq p (Q i) r → Mult p r e := fun i => by
    by_cases hi : i < m
    · obtain ⟨e, h⟩ := idem_ex hp hl hs (hQ i hi) (hw i hi)
      exact ⟨e, fun _ => h⟩
    · exact ⟨Ser.zer, fun h => absurd h hi⟩
  obtain ⟨e, he⟩ := Classical.axiomOfChoice he
  obtain ⟨a, ⟨t, ht, hat⟩, ha⟩ := depend hp (freeL P n).length m (fun i j => e i ((freeL P n).getD j 0)) (by omega)
  have hb := sum_bd (p := p) a e n m fun i hi => (he i hi).1
  have hf := frob_sum hp (d := cf w) a e m fun i hi => (he i hi).2.1
  have hz := null_zero hP.1 hb (fun r hr => Sp.dot0 ((own_null hp hl hb).2 hf) (hP.2.1 r hr)) fun c hc hfr => by
    obtain ⟨j, hj, e1⟩ := List.getElem_of_mem (freeL_mem.2 ⟨hc, hfr⟩)
    have := ha j hj
    rw [sum_at]
    simp only [List.getD_eq_getElem?_getD, List.getElem?_eq_getElem hj, Option.getD_some, e1] at this
    exact this
  have key : ∀ k, k ≤ m → Mult p (Q t) (Ser.add (Ser.sumS (fun i => Ser.sc (a i) (e i)) k) (Ser.con (if t < k then -(a t) else 0))) := by
    intro k
    induction k with
    | zero =>
      refine fun _ => Mult.nought fun i _ => ?_
      show ((0 : Int) + if i = 0 then (if t < 0 then -(a t) else 0) else 0) % p = 0
      rw [if_neg (Nat.not_lt_zero _)]
      simp
    | succ k ih =>
      intro hk
      have h1 := ih (by omega)
      by_cases htk : t = k
      · subst htk
        rw [if_neg (by omega)] at h1
        rw [if_pos (by omega)]
        refine (h1.add ((he t ht).2.2.1.sc (c := a t))).eqR (Ser.Eq.of (funext fun i => ?_))
        show Ser.sumS _ t i + (if i = 0 then 0 else 0) + a t * (e t i + if i = 0 then -1 else 0) = Ser.sumS _ t i + a t * e t i + if i = 0 then -(a t) else 0
        by_cases hi : i = 0
        · rw [if_pos hi, if_pos hi, if_pos hi, Int.mul_add]; omega
        · rw [if_neg hi, if_neg hi, if_neg hi, Int.mul_add]; omega
      · have h2 := (he k (by omega)).2.2.2 (Q t) (hQ t ht) (hw t ht) (hd k t (by omega) ht fun e => htk e.symm)
        refine (h1.add (h2.sc (c := a k))).eqR (Ser.Eq.of (funext fun i => ?_))
        have e1 : (if t < k + 1 then -(a t) else 0) = if t < k then -(a t) else 0 := by
          by_cases h : t < k
          · rw [if_pos h, if_pos (by omega)]
          · rw [if_neg h, if_neg (by omega)]
        rw [e1]
        show Ser.sumS _ k i + (if i = 0 then _ else 0) + a k * e k i = Ser.sumS _ k i + a k * e k i + if i = 0 then _ else 0
        omega
  have h1 := key m (Nat.le_refl _)
  rw [if_pos ht] at h1
  have h2 : Mult p (Q t) (Ser.con (-(a t))) := h1.eqR fun i => by
    show (Ser.sumS _ m i + Ser.con (-(a t)) i) % p = Ser.con (-(a t)) i % p
    rw [Int.add_emod, hz i (Nat.zero_le _)]
    simp
  refine (hQ t ht).not_unit hp (last_con ?_) h2
  intro e0
  refine hat ?_
  have := Int.emod_eq_zero_of_dvd (Int.dvd_neg.1 (Int.dvd_of_emod_eq_zero e0))
  exact this

def cmbS (p : Int) (n : Nat) (P : List (Nat × List Int)) (v : Ser) : Nat → Ser
  | 0 => Ser.zer
  | k + 1 => if freeB P k = true then Ser.add (cmbS p n P v k) (Ser.sc (v k) (cf (nulV p n k P))) else cmbS p n P v k
theorem cmb_bd {p : Int} {n : Nat} {P : List (Nat × List Int)} (v : Ser) : ∀ k, Bd p (cmbS p n P v k) n := by
  intro k
  induction k with
  | zero => exact fun i _ => by show (0 : Int) % p = 0; simp
  | succ k ih =>
    rw [cmbS]
    split
    · refine ih.add fun i hi => ?_
      show v k * cf (nulV p n k P) i % p = 0
      rw [cf_over (by rw [nulV_len]; exact hi)]; simp
    · exact ih
theorem cmb_dot {p : Int} {n : Nat} {P : List (Nat × List Int)} (h : EchP p n P) (v : Ser) (r : List Int) (hr : r ∈ rowsOf P) : ∀ k, k ≤ n → dot (cmbS p n P v k) (cf r) n % p = 0 := by
  intro k
  induction k with
  | zero =>
    intro _
    have h0 : dot (cmbS p n P v 0) (cf r) n = 0 := smN_zero fun j _ => Int.zero_mul _
    rw [h0]; simp
  | succ k ih =>
    intro hk
    rw [cmbS]
    split
    · rename_i hf
      rw [dot_add, dot_sc, Int.add_emod, ih (by omega), Int.mul_emod]
      have := nul_row h (c := k) (by omega) (freeB_iff.1 hf) r hr
      have e : dot (cf (nulV p n k P)) (cf r) n = dot (cf r) (cf (nulV p n k P)) n := smN_congr fun j _ => Int.mul_comm _ _
      rw [e, this]; simp
    · exact ih (by omega)
theorem cmb_at {p : Int} {n : Nat} {P : List (Nat × List Int)} (v : Ser) {c : Nat} (hc : c < n) (hf : freeB P c = true) : ∀ k, k ≤ n → cmbS p n P v k c = if c < k then v c else 0 := by
  intro k
  induction k with
  | zero => intro _; rw [if_neg (by omega)]; rfl
  | succ k ih =>
    intro hk
    rw [cmbS]
    by_cases hfk : freeB P k = true
    · rw [if_pos hfk]
      show cmbS p n P v k c + v k * cf (nulV p n k P) c = _
      rw [ih (by omega)]
      by_cases hck : c = k
      · subst hck
        rw [if_neg (by omega), if_pos (by omega), nulV_c hc (freeB_iff.1 hf)]; omega
      · rw [nulV_out (by omega) hck (freeB_iff.1 hf), Int.mul_zero, Int.add_zero]
        by_cases h : c < k
        · rw [if_pos h, if_pos (by omega)]
        · rw [if_neg h, if_neg (by omega)]
    · rw [if_neg hfk, ih (by omega)]
      have : c ≠ k := fun e => hfk (e ▸ hf)
      by_cases h : c < k
      · rw [if_pos h, if_pos (by omega)]
      · rw [if_neg h, if_neg (by omega)]
theorem cmb_con {p : Int} {n : Nat} {P : List (Nat × List Int)} {f : Ser} (v : Ser) (h : ∀ c, c < n → freeB P c = true → ∃ d, Mult p f (lin (cf (nulV p n c P)) d)) : ∀ k, k ≤ n → ∃ d, Mult p f (lin (cmbS p n P v k) d) := by
  intro k
  induction k with
  | zero => exact fun _ => ⟨0, Mult.nought fun i _ => by show ((0 : Int) + if i = 0 then -0 else 0) % p = 0; simp⟩
  | succ k ih =>
    intro hk
    obtain ⟨d, hd⟩ := ih (by omega)
    rw [cmbS]
    split
    · rename_i hf
      obtain ⟨d2, hd2⟩ := h k (by omega) hf
      refine ⟨d + v k * d2, (hd.add (hd2.sc (c := v k))).eqR (Ser.Eq.of (funext fun i => ?_))⟩
      show cmbS p n P v k i + (if i = 0 then -d else 0) + v k * (cf (nulV p n k P) i + if i = 0 then -d2 else 0) = cmbS p n P v k i + v k * cf (nulV p n k P) i + if i = 0 then -(d + v k * d2) else 0
      by_cases hi : i = 0
      · rw [if_pos hi, if_pos hi, if_pos hi, Int.mul_add, Int.mul_neg]; omega
      · rw [if_neg hi, if_neg hi, if_neg hi, Int.mul_add, Int.mul_zero]; omega
    · exact ⟨d, hd⟩
theorem null_cmb {p : Int} {w : List Int} {n : Nat} (hp : Pr p) (hl : Last p (cf w) n) {P : List (Nat × List Int)} (hP : EchOf p n (ownM p w n) P) {v : Ser} (hv : Bd p v n) (h : Mult p (cf w) (frobS p v)) : Ser.Eq p v (cmbS p n P v n) := by
  refine eq_of_sub (null_zero hP.1 (hv.sub (cmb_bd v n)) (fun r hr => ?_) fun c hc hf => ?_)
  · have h1 := Sp.dot0 ((own_null hp hl hv).2 h) (hP.2.1 r hr)
    have h2 := cmb_dot hP.1 v r hr n (Nat.le_refl _)
    have e : dot (cf r) (Ser.sub v (cmbS p n P v n)) n = dot (cf r) v n - dot (cmbS p n P v n) (cf r) n := by
      unfold dot
      have := smN_sub_mul (fun j => cf r j * v j) (fun j => cmbS p n P v n j * cf r j) 1 n
      rw [Int.mul_one] at this
      rw [← this]
      refine smN_congr fun j _ => ?_
      show cf r j * (v j - cmbS p n P v n j) = _
      rw [Int.mul_sub, Int.mul_one, Int.mul_comm (cmbS p n P v n j)]
    rw [e, Int.sub_emod, h1, h2]; simp
  · show (v c - cmbS p n P v n c) % p = 0
    rw [cmb_at v hc hf n (Nat.le_refl _), if_pos hc, Int.sub_self]; simp
theorem irr_of_one {p : Int} {f : List Int} (hp : Pr p) (hf : Mn p f) (hlen : 2 ≤ f.length) (hs : Sqf p f) (h : ∀ q r, Irr p q → Irr p r → Mult p q (cf f) → Mult p r (cf f) → Ser.Eq p q r) : Irr p (cf f) := by
  obtain ⟨q, hq, hv⟩ := hf.some_V hp (by omega)
  obtain ⟨m, hm1, hm, hmd⟩ := id hq
  have e : Ser.Eq p q (cf f) := mo_ext hp hm hf.2.2 fun r hr => by
    have hr1 := hs r hr
    by_cases hrq : Ser.Eq p q r
    · have h1 : V p q r = 1 := by rw [V_congr hrq, V_self hp hr]
      have h2 : V p (cf f) q = V p (cf f) r := by
        have hv2 := (V_pos hp hr hf.last).1 (((V_pos hp hq hf.last).2 hv).eqL hrq)
        have := hs q hq
        omega
      omega
    · rw [V_other hp hr hq hrq]
      refine (Nat.eq_zero_of_not_pos fun k => hrq ?_).symm
      exact h q r hq hr ((V_pos hp hq hf.last).2 hv) ((V_pos hp hr hf.last).2 k)
  exact hq.eq e
theorem own_irr {p : Int} {w f : List Int} {n : Nat} (hp : Pr p) (hl : Last p (cf w) n) (hs : Sqf p w) {P : List (Nat × List Int)} (hP : EchOf p n (ownM p w n) P) (hf : Mn p f) (hlen : 2 ≤ f.length) (hfw : Mult p (cf f) (cf w)) (hc : ∀ b ∈ nulL p n P n, ∃ c, Mult p (cf f) (lin (cf b) c)) : Irr p (cf f) := by
  have hsf : Sqf p f := fun q hq => Nat.le_trans (V_le hp hq hf.last hl hfw) (hs q hq)
  refine irr_of_one hp hf hlen hsf fun q r hq hr hqf hrf => Classical.byContradiction fun hne => ?_
  obtain ⟨e, e1, e2, e3, e4⟩ := idem_ex hp hl hs hq (hqf.trans hfw)
  have e5 := null_cmb hp hl hP e1 e2
  obtain ⟨d, hd⟩ := cmb_con (f := cf f) e (fun c hc1 hf1 => hc _ (by rw [nulL_freeL]; exact List.mem_map.2 ⟨c, freeL_mem.2 ⟨hc1, hf1⟩, rfl⟩)) n (Nat.le_refl _)
  have hd2 : Mult p (cf f) (lin e d) := hd.eqR (e5.symm.add (Ser.Eq.refl _ _))
  have d1 := lin_uniq hp hq e3 (hqf.trans hd2)
  have hr0 := e4 r hr (hrf.trans hfw) hne
  have d2 := lin_uniq (d := 0) hp hr (hrf.trans hd2) (hr0.eqR (Ser.Eq.of (funext fun i => by show e i = e i + if i = 0 then -0 else 0; simp)))
  rw [← d1, pr_one hp] at d2
  simp at d2
theorem own_one {p : Int} {w : List Int} {n : Nat} (hp : Pr p) (hm : Mn p w) (hn : w.length = n + 1) (h1 : 1 ≤ n) (hs : Sqf p w) {P : List (Nat × List Int)} (hP : EchOf p n (ownM p w n) P) : (nulL p n P n).length = 1 ↔ Irr p (cf w) := by
  have hl : Last p (cf w) n := by have := hm.last; rwa [hn, Nat.add_sub_cancel] at this
  constructor
  · intro hk
    refine irr_of_one hp hm (by omega) hs fun q r hq hr hqf hrf => Classical.byContradiction fun hne => ?_
    have := own_dim (m := 2) hp hl hs hP (fun i => if i = 0 then q else r) (fun i _ => by by_cases h : i = 0 <;> simp [h, hq, hr]) (fun i _ => by by_cases h : i = 0 <;> simp [h, hqf, hrf]) (fun i j hi hj hij => by
      by_cases h : i = 0
      · have hj0 : j ≠ 0 := by omega
        simp [h, hj0]; exact hne
      · have hj0 : j = 0 := by omega
        simp [h, hj0]; exact fun e => hne e.symm)
    omega
  · intro hi
    have hge := own_dim (m := 1) hp hl hs hP (fun _ => cf w) (fun _ _ => hi) (fun _ _ => Mult.refl p _) (fun i j hi hj hij => by omega)
    have hz : ∀ c ∈ freeL P n, c = 0 := by
      intro c hc
      obtain ⟨hcn, hcf⟩ := freeL_mem.1 hc
      have hb : Bd p (cf (nulV p n c P)) n := fun i hi => by rw [cf_over (by rw [nulV_len]; exact hi)]; simp
      have ho := (own_null hp hl hb).1 fun r hr => Sp.dot0 (fun r' hr' => nul_row hP.1 hcn (freeB_iff.1 hcf) r' hr') (hP.2.2 r hr)
      obtain ⟨d, _, _, hd⟩ := own_at hp hi (fini_cf p _) ho
      have hsm := mult_small hp hl hd (hb.add fun i hi => by show (if i = 0 then -d else 0) % p = 0; rw [if_neg (by omega)]; simp)
      refine Classical.byContradiction fun h0 => ?_
      have := hsm c (Nat.zero_le _)
      have e : lin (cf (nulV p n c P)) d c = 1 := by
        show cf (nulV p n c P) c + (if c = 0 then -d else 0) = 1
        rw [nulV_c hcn (freeB_iff.1 hcf), if_neg h0]; rfl
      rw [e, pr_one hp] at this
      omega
    rw [nulL_freeL, List.length_map] at hge ⊢
    have hpw : (freeL P n).Pairwise (· < ·) := (List.pairwise_lt_range (n := n)).sublist List.filter_sublist
    generalize freeL P n = L at *
    match L, hge, hz, hpw with
    | [], h, _, _ => simp at h
    | [_], _, _, _ => rfl
    | x :: y :: _, _, hz, hpw =>
      have a1 := hz x (by simp)
      have a2 := hz y (by simp)
      have := (List.pairwise_cons.1 hpw).1 y (by simp)
      omega
end Go.Proofs.YtnkhhndjbanmnaaGreatDoor

/- Parting a polynomial by what is its own p-th power, shift by shift: what one shift makes of the factors so far; after p shifts none is left to be parted. Mathematics alone. -/
namespace Go.Proofs.YtnkhhndjbanmnaaGreatDoor
open Ser (Bd)

noncomputable def vs (p : Int) (q : Ser) : List (List Int) → Nat
  | [] => 0
  | f :: L => V p (cf f) q + vs p q L
theorem vs_append (p : Int) (q : Ser) : ∀ L K, vs p q (L ++ K) = vs p q L + vs p q K
  | [], K => by rw [List.nil_append, vs, Nat.zero_add]
  | f :: L, K => by rw [List.cons_append, vs, vs, vs_append p q L K]; omega
theorem vs_mem {p : Int} {q : Ser} {f : List Int} : ∀ {L : List (List Int)}, f ∈ L → V p (cf f) q ≤ vs p q L
  | g :: L, h => by
    rw [vs]
    rcases List.mem_cons.1 h with rfl | h
    · omega
    · have := vs_mem (p := p) (q := q) h; omega
theorem vs_two {p : Int} {q : Ser} : ∀ {L : List (List Int)} {i j : Nat} (hi : i < L.length) (hj : j < L.length), i < j → V p (cf L[i]) q + V p (cf L[j]) q ≤ vs p q L
  | g :: L, i, j, hi, hj, hij => by
    obtain ⟨j, rfl⟩ : ∃ k, j = k + 1 := ⟨j - 1, by omega⟩
    rw [vs]
    cases i with
    | zero =>
      have := vs_mem (p := p) (q := q) (List.getElem_mem (l := L) (n := j) (by simpa using hj))
      simp only [List.getElem_cons_zero, List.getElem_cons_succ]
      omega
    | succ i =>
      have := vs_two (p := p) (q := q) (L := L) (i := i) (j := j) (by simpa using hi) (by simpa using hj) (by omega)
      simp only [List.getElem_cons_succ]
      omega
theorem vs_pos {p : Int} {q : Ser} : ∀ {L : List (List Int)}, 1 ≤ vs p q L → ∃ f ∈ L, 1 ≤ V p (cf f) q
  | [], h => by simp [vs] at h
  | f :: L, h => by
    rw [vs] at h
    by_cases hf : 1 ≤ V p (cf f) q
    · exact ⟨f, by simp, hf⟩
    · obtain ⟨g, h1, h2⟩ := vs_pos (p := p) (q := q) (L := L) (by omega)
      exact ⟨g, by simp [h1], h2⟩
structure Spl (p : Int) (w : List Int) (F : List (List Int)) : Prop where
  mn : ∀ f ∈ F, Mn p f ∧ 2 ≤ f.length
  v : ∀ q, Irr p q → vs p q F = V p (cf w) q
theorem spl_start {p : Int} {w : List Int} (h : Mn p w) (hl : 2 ≤ w.length) : Spl p w [w] := ⟨fun f hf => by rw [List.mem_singleton.1 hf]; exact ⟨h, hl⟩, fun q _ => by rw [vs, vs, Nat.add_zero]⟩
theorem Spl.le {p : Int} {w : List Int} {F : List (List Int)} (h : Spl p w F) {f : List Int} (hf : f ∈ F) {q : Ser} (hq : Irr p q) : V p (cf f) q ≤ V p (cf w) q := by
  rw [← h.v q hq]; exact vs_mem hf
theorem Spl.dvd {p : Int} {w : List Int} {F : List (List Int)} (hp : Pr p) (hw : Mn p w) (h : Spl p w F) {f : List Int} (hf : f ∈ F) : Mult p (cf f) (cf w) :=
  mult_of_V hp _ _ _ _ (h.mn f hf).1.last hw.last fun _ hq => h.le hf hq
theorem Spl.sqf {p : Int} {w : List Int} {F : List (List Int)} (hs : Sqf p w) (h : Spl p w F) {f : List Int} (hf : f ∈ F) : Sqf p f := fun q hq => Nat.le_trans (h.le hf hq) (hs q hq)
theorem Spl.sum_le {p : Int} {w : List Int} {F : List (List Int)} (hp : Pr p) (hw : Mn p w) (h : Spl p w F) : F.length + 1 ≤ w.length := by
  have key : ∀ (F : List (List Int)), (∀ f ∈ F, Mn p f ∧ 2 ≤ f.length) → ∃ g, Mn p g ∧ F.length + 1 ≤ g.length ∧ ∀ q, Irr p q → V p (cf g) q = vs p q F := by
    intro F
    induction F with
    | nil => exact fun _ => ⟨[1], mn_one hp, by simp, fun q hq => V_one hp hq⟩
    | cons f L ih =>
      intro h
      obtain ⟨g, g1, g2, g3⟩ := ih fun f hf => h f (List.mem_cons_of_mem _ hf)
      obtain ⟨f1, f2⟩ := h f (List.mem_cons_self ..)
      obtain ⟨m1, m2, m3⟩ := mn_mul hp f1 g1
      exact ⟨_, m1, by rw [List.length_cons]; omega, fun q hq => by rw [m3 q hq, g3 q hq, vs]⟩
  obtain ⟨g, g1, g2, g3⟩ := key F h.mn
  have := g1.len_le hp hw fun q hq => Nat.le_of_eq (by rw [g3 q hq, h.v q hq])
  omega

/-! Squares. -/
def hexp (p : Int) : Nat := max 1 ((p.toNat - 1) / 2)
def Chi (p x : Int) : Prop := x ^ hexp p % p = 1
theorem pow_rests (p : Int) {x y : Int} (h : x % p = y % p) (n : Nat) : x ^ n % p = y ^ n % p := by
  induction n with
  | zero => rw [Int.pow_zero, Int.pow_zero]
  | succ n ih => rw [Int.pow_succ, Int.pow_succ, Int.mul_emod, ih, h, ← Int.mul_emod]
theorem chi_eq {p x y : Int} (h : x % p = y % p) : Chi p x ↔ Chi p y := by unfold Chi; rw [pow_rests p h]
theorem hexp_pos (p : Int) : 1 ≤ hexp p := Nat.le_max_left ..
theorem chi_one {p : Int} (hp : Pr p) : Chi p 1 := by unfold Chi; rw [Int.one_pow]; exact pr_one hp
theorem chi_zero (p : Int) : ¬ Chi p 0 := by
  unfold Chi
  obtain ⟨k, hk⟩ : ∃ k, hexp p = k + 1 := ⟨hexp p - 1, by have := hexp_pos p; omega⟩
  rw [hk, Int.pow_succ, Int.mul_zero]; simp
theorem chi_apart {p : Int} (hp : Pr p) {c d s0 : Int} (h : ∀ j : Nat, j < p.toNat → (Chi p (c + (s0 + j)) ↔ Chi p (d + (s0 + j)))) : c % p = d % p := by
  have h2 := hp.1
  have all : ∀ s : Int, Chi p (c + s) ↔ Chi p (d + s) := fun s => by
    have e0 := Int.emod_nonneg (s - s0) (b := p) (by omega)
    have e1 := Int.emod_lt_of_pos (s - s0) (b := p) (by omega)
    have e2 := Int.emod_add_mul_ediv (s - s0) p
    have h3 := h ((s - s0) % p).toNat (by omega)
    rw [Int.toNat_of_nonneg e0] at h3
    have e3 : ∀ z : Int, (z + (s0 + (s - s0) % p)) % p = (z + s) % p := fun z => by
      rw [show z + (s0 + (s - s0) % p) = z + s + p * (-((s - s0) / p)) from by rw [Int.mul_neg]; omega, Int.add_mul_emod_self_left]
    rw [chi_eq (e3 c), chi_eq (e3 d)] at h3
    exact h3
  refine Classical.byContradiction fun hn => ?_
  have hd : (d - c) % p ≠ 0 := fun e => hn (Int.emod_eq_emod_iff_emod_sub_eq_zero.2 e).symm
  have step : ∀ k : Nat, Chi p 0 ↔ Chi p (k * (d - c)) := fun k => by
    induction k with
    | zero => simp
    | succ k ih =>
      rw [ih]
      have := all (k * (d - c) - c)
      rw [show c + (k * (d - c) - c) = k * (d - c) from by omega] at this
      rw [this]
      rw [show d + (k * (d - c) - c) = ((k + 1 : Nat) : Int) * (d - c) from by rw [Int.natCast_add, Int.add_mul]; show _ = _ + 1 * (d - c); omega]
  obtain ⟨y, y1, y2, hy⟩ := inv_exZ hp hd
  have := (step y.toNat).2
  rw [Int.toNat_of_nonneg (by omega), chi_eq (y := 1) (by rw [Int.mul_comm, hy, pr_one hp])] at this
  exact chi_zero p (this (chi_one hp))

/-! One factor. -/
def Con (p : Int) (f : List Int) (y : Ser) : Prop := ∃ c, Mult p (cf f) (lin y c)
def Hom (p : Int) (f : List Int) (y : Ser) (s : Int) : Prop := ∀ q r c d, Irr p q → Irr p r → Mult p q (cf f) → Mult p r (cf f) → Mult p q (lin y c) → Mult p r (lin y d) → (Chi p (c + s) ↔ Chi p (d + s))
theorem Con.sub {p : Int} {f g : List Int} {y : Ser} (h : Con p f y) (k : Mult p (cf g) (cf f)) : Con p g y := by
  obtain ⟨c, hc⟩ := h; exact ⟨c, k.trans hc⟩
theorem Hom.sub {p : Int} {f g : List Int} {y : Ser} {s : Int} (h : Hom p f y s) (k : Mult p (cf g) (cf f)) : Hom p g y s :=
  fun q r c d hq hr h1 h2 => h q r c d hq hr (h1.trans k) (h2.trans k)
theorem Con.hom {p : Int} (hp : Pr p) {f : List Int} {y : Ser} (h : Con p f y) (s : Int) : Hom p f y s := by
  obtain ⟨a, ha⟩ := h
  intro q r c d hq hr h1 h2 h3 h4
  have e1 := lin_uniq hp hq (h1.trans ha) h3
  have e2 := lin_uniq hp hr (h2.trans ha) h4
  exact chi_eq (by rw [Int.add_emod, ← e1, e2, ← Int.add_emod])
theorem mult_of_irr {p : Int} (hp : Pr p) {f : List Int} (hf : Mn p f) (hs : Sqf p f) {y : Ser} (hy : Fini p y) (h : ∀ q, Irr p q → Mult p q (cf f) → Mult p q y) : Mult p (cf f) y := by
  rcases Classical.em (Bd p y 0) with h0 | h0
  · exact Mult.nought h0
  · obtain ⟨m, hm⟩ := last_of h0 hy
    refine mult_of_V hp _ _ _ _ hf.last hm fun q hq => ?_
    have := hs q hq
    by_cases hv : 1 ≤ V p (cf f) q
    · have := (V_pos hp hq hm).1 (h q hq ((V_pos hp hq hf.last).2 hv))
      omega
    · omega
theorem hom_con {p : Int} (hp : Pr p) {f : List Int} (hf : Mn p f) (hs : Sqf p f) {y : Ser} (hy : Fini p y) (ho : Mult p (cf f) (frobS p y)) {s0 : Int} (h : ∀ j : Nat, j < p.toNat → Hom p f y (s0 + j)) : Con p f y := by
  by_cases h0 : ∃ q, Irr p q ∧ Mult p q (cf f)
  · obtain ⟨q, hq, hqf⟩ := h0
    obtain ⟨c, _, _, hc⟩ := own_at hp hq hy (hqf.trans ho)
    refine ⟨c, mult_of_irr hp hf hs (lin_fini hy c) fun r hr hrf => ?_⟩
    obtain ⟨d, _, _, hd⟩ := own_at hp hr hy (hrf.trans ho)
    exact lin_of hd (chi_apart hp fun j hj => h j hj r q d c hr hq hrf hqf hd hc)
  · exact ⟨0, mult_of_irr hp hf hs (lin_fini hy 0) fun q hq hqf => absurd ⟨q, hq, hqf⟩ h0⟩
theorem con_rem {p : Int} (hp : Pr p) {f : List Int} (hf : Mn p f) (y : Ser) (hy : Fini p y) (hl : 2 ≤ f.length) : Con p f y ↔ (remL p y (cf f)).length ≤ 1 := by
  obtain ⟨q, r, hq, hd, _, h2⟩ := quo_rem hp hf.last hy
  have hrm := (rm_mult hp hf.last hy)
  constructor
  · rintro ⟨c, hc⟩
    have h3 : Mult p (cf f) (lin (cf (remL p y (cf f))) c) := (hc.add (hrm.1.sc (c := -1))).eqR (Ser.Eq.of (funext fun i => by
      show y i + (if i = 0 then -c else 0) + -1 * (y i + -1 * cf (remL p y (cf f)) i) = cf (remL p y (cf f)) i + (if i = 0 then -c else 0)
      omega))
    have h4 := mult_small hp hf.last h3 (hrm.2.add fun i hi => by show (if i = 0 then -c else 0) % p = 0; rw [if_neg (by omega)]; simp)
    refine h2.1.len_le (by have := hp.1; omega) fun i hi => ?_
    have := h4 i (Nat.zero_le _)
    have e : lin (cf (remL p y (cf f))) c i = cf (remL p y (cf f)) i := by
      show cf (remL p y (cf f)) i + (if i = 0 then -c else 0) = _
      rw [if_neg (by omega), Int.add_zero]
    rwa [e] at this
  · intro h
    refine ⟨cf (remL p y (cf f)) 0, hrm.1.eqR ((Ser.Eq.refl _ _).add ?_)⟩
    intro i
    show -1 * cf (remL p y (cf f)) i % p = (if i = 0 then -cf (remL p y (cf f)) 0 else 0) % p
    by_cases hi : i = 0
    · subst hi; rw [if_pos rfl]; congr 1; omega
    · rw [if_neg hi, cf_over (by omega)]; rfl
end Go.Proofs.YtnkhhndjbanmnaaGreatDoor

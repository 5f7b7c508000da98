/- Texts joined, in their order: DvM, EuRun, NatWords, NatTrim, NatBits. -/
import Derived.WalkKit
import Derived.WalkSpells
import Derived.Laws.OwnMore
import Derived.Deep.Draws
import Derived.Laws.Rows
import Derived.Lib.Hide
import Derived.Test.YtnkhhndjbanmnaaGreatDoorChecked
import Derived.Test.YtnkhhndjbanmnaaGreatDoorShelf
import Derived.Laws.Externs
import Derived.Shelf.Spec.BitsCarry
import Derived.OneCell
import Derived.Test.YtnkhhndjbanmnaaGreatDoorMp3
import Derived.Test.YtnkhhndjbanmnaaGreatDoorMp6
import Derived.Test.YtnkhhndjbanmnaaGreatDoorMp8

/- Long division from the top place down, each quotient's coefficient told by what is left so far. Mathematics alone. -/
namespace Go.Proofs.YtnkhhndjbanmnaaGreatDoor
open Ser (Eq Bd)

def lft2 (xs Q ys : List Int) : Ser := fun i => cf xs i - Ser.mul (cf Q) (cf ys) i
structure DvD (p : Int) (K m t : Nat) (xs ys Q : List Int) : Prop where
  len : Q.length = K
  rs : Rs p Q
  low : ∀ j, j < t → cf Q j = 0
  done : ∀ j, t ≤ j → lft2 xs Q ys (j + m) % p = 0
theorem dvD_start {p : Int} (hp : 1 ≤ p) {K m : Nat} (xs ys : List Int) (h : xs.length ≤ K + m) : DvD p K m K xs ys (List.replicate K 0) := by
  refine ⟨by simp, Rs.zeros K hp, fun j _ => cf_replicate K j, fun j hj => ?_⟩
  show (cf xs (j + m) - Ser.mul (cf (List.replicate K 0)) (cf ys) (j + m)) % p = 0
  have e : cf (List.replicate K 0) = Ser.zer := funext fun j => cf_replicate K j
  rw [e, Ser.zer_mul, cf_over (by omega)]
  show (0 - 0 : Int) % p = 0
  simp
theorem DvD.step {p : Int} (hp : Pr p) {K m t : Nat} {xs ys Q : List Int} (hz : ∀ j, m < j → cf ys j = 0) (ht : cf ys m % p ≠ 0) (h : DvD p K m (t + 1) xs ys Q) (hK : t < K)
    (c : Int) (hc : c = lft2 xs Q ys (t + m) % p * finv (cf ys m) p % p) : DvD p K m t xs ys (Q.set t c) := by
  have h2 := hp.1
  have hc0 : 0 ≤ c ∧ c < p := by rw [hc]; exact ⟨Int.emod_nonneg _ (by omega), Int.emod_lt_of_pos _ (by omega)⟩
  have e1 : cf (Q.set t c) = Ser.add (cf Q) (Ser.mono c t) := by
    funext i
    rw [cf_set _ _ (by rw [h.len]; exact hK)]
    show _ = cf Q i + if i = t then c else 0
    by_cases e : i = t
    · rw [if_pos e, if_pos e, e, h.low t (by omega), Int.zero_add]
    · rw [if_neg e, if_neg e, Int.add_zero]
  have e2 : ∀ i, lft2 xs (Q.set t c) ys i = lft2 xs Q ys i - (if t ≤ i then c * cf ys (i - t) else 0) := by
    intro i
    show cf xs i - Ser.mul (cf (Q.set t c)) (cf ys) i = cf xs i - Ser.mul (cf Q) (cf ys) i - _
    rw [e1, Ser.add_mul]
    show cf xs i - (Ser.mul (cf Q) (cf ys) i + Ser.mul (Ser.mono c t) (cf ys) i) = _
    rw [Ser.mono_mul_at]
    omega
  refine ⟨by rw [List.length_set, h.len], h.rs.set _ hc0, fun j hj => ?_, fun j hj => ?_⟩
  · rw [cf_set _ _ (by rw [h.len]; exact hK), if_neg (by omega)]
    exact h.low j (by omega)
  · rw [e2, if_pos (by omega)]
    by_cases e : j = t
    · subst e
      rw [show j + m - j = m from by omega, hc]
      have hs := (finv_spec hp ht).2.2
      generalize lft2 xs Q ys (j + m) = R at *
      generalize cf ys m = T at *
      have e3 : R % p * finv T p % p * T % p = R % p := by
        rw [Int.mul_emod, Int.emod_emod_of_dvd _ (Int.dvd_refl p), ← Int.mul_emod, Int.mul_assoc, Int.mul_comm (finv T p) T, Int.mul_emod, hs, Int.mul_one, Int.emod_emod_of_dvd _ (Int.dvd_refl p), Int.emod_emod_of_dvd _ (Int.dvd_refl p)]
      exact Int.emod_eq_emod_iff_emod_sub_eq_zero.1 e3.symm
    · rw [hz (j + m - t) (by omega), Int.mul_zero, Int.sub_zero]
      exact h.done j (by omega)
theorem DvD.isDiv {p : Int} {K m : Nat} {xs ys Q : List Int} (h : DvD p K m 0 xs ys Q) : IsDiv p m (cf xs) (cf ys) (cf Q) (fst m (lft2 xs Q ys)) := by
  have hb : Bd p (lft2 xs Q ys) m := fun i hi => by
    have := h.done (i - m) (Nat.zero_le _)
    rwa [show i - m + m = i from by omega] at this
  refine ⟨?_, hb.eq (fst_bd hb).symm⟩
  refine Ser.Eq.trans ?_ ((Ser.Eq.refl p _).add (fst_bd hb).symm)
  refine Ser.Eq.of ?_
  funext i
  show cf xs i = Ser.mul (cf Q) (cf ys) i + (cf xs i - Ser.mul (cf Q) (cf ys) i)
  omega
theorem DvD.plain {p : Int} (hp : Pr p) {K m : Nat} {xs ys Q : List Int} (h : DvD p K m 0 xs ys Q) (hb : Bd p (cf ys) (m + 1)) (hx : Pln p xs) (hK : K = 0 ∨ K + m = xs.length) : Pln p Q := by
  have h2 := hp.1
  refine ⟨h.rs, ?_⟩
  rcases hK with hK | hK
  · left; exact List.eq_nil_of_length_eq_zero (by rw [h.len, hK])
  · rcases Nat.eq_zero_or_pos K with k0 | k0
    · left; exact List.eq_nil_of_length_eq_zero (by rw [h.len, k0])
    · right
      rw [h.len]
      intro e0
      have ht := hx.top (by intro e; rw [e] at hK; simp at hK; omega) (by omega)
      have hd := h.done (K - 1) (Nat.zero_le _)
      have hm := (Ser.mul_top (f := cf Q) (m := K - 1) (by have := bd_len p Q; rw [h.len] at this; rw [show K - 1 + 1 = K from by omega]; exact this) hb).1
      rw [e0, Int.zero_mul] at hm
      have hd' : (cf xs (K - 1 + m) - Ser.mul (cf Q) (cf ys) (K - 1 + m)) % p = 0 := hd
      rw [Int.sub_emod, hm] at hd'
      simp at hd'
      rw [show xs.length - 1 = K - 1 + m from by omega] at ht
      exact ht hd'
end Go.Proofs.YtnkhhndjbanmnaaGreatDoor

/- Euclid's rows of two polynomials by a small prime: what they end in, told but once; it divides both, is made of both, and goes with a common factor. Mathematics alone. -/
namespace Go.Proofs.YtnkhhndjbanmnaaGreatDoor
open Ser (Eq Bd)

structure ERow where
  g : Ser
  s : Ser
  t : Ser

def ERow.Same (p : Int) (x y : ERow) : Prop := Eq p x.g y.g ∧ Eq p x.s y.s ∧ Eq p x.t y.t
theorem ERow.Same.refl (p : Int) (x : ERow) : x.Same p x := ⟨Ser.Eq.refl _ _, Ser.Eq.refl _ _, Ser.Eq.refl _ _⟩
theorem ERow.Same.symm {p : Int} {x y : ERow} (h : x.Same p y) : y.Same p x := ⟨h.1.symm, h.2.1.symm, h.2.2.symm⟩
theorem ERow.Same.trans {p : Int} {x y z : ERow} (h : x.Same p y) (k : y.Same p z) : x.Same p z := ⟨h.1.trans k.1, h.2.1.trans k.2.1, h.2.2.trans k.2.2⟩

def less (f q g : Ser) : Ser := Ser.add f (Ser.sc (-1) (Ser.mul q g))
theorem less_eq {p : Int} {f f' q q' g g' : Ser} (a : Eq p f f') (b : Eq p q q') (c : Eq p g g') : Eq p (less f q g) (less f' q' g') := a.add (Ser.Eq.sc rfl (b.mul c))
theorem less_back (f q g : Ser) : f = Ser.add (Ser.mul q g) (less f q g) := by
  funext i
  show f i = Ser.mul q g i + (f i + -1 * Ser.mul q g i)
  omega
theorem less_of {p : Int} {f q g r : Ser} (h : Eq p f (Ser.add (Ser.mul q g) r)) : Eq p r (less f q g) := by
  intro i
  have h1 := h i
  show r i % p = (f i + -1 * Ser.mul q g i) % p
  rw [Int.add_emod (f i), h1]
  show r i % p = ((Ser.mul q g i + r i) % p + -1 * Ser.mul q g i % p) % p
  rw [← Int.add_emod]
  congr 1; omega
def ERow.less (x : ERow) (q : Ser) (y : ERow) : ERow := ⟨Proofs.YtnkhhndjbanmnaaGreatDoor.less x.g q y.g, Proofs.YtnkhhndjbanmnaaGreatDoor.less x.s q y.s, Proofs.YtnkhhndjbanmnaaGreatDoor.less x.t q y.t⟩

inductive EuRun (p : Int) : ERow → ERow → ERow → Prop
  | stop {x y : ERow} : Bd p y.g 0 → EuRun p x y x
  | step {x y z o : ERow} (m : Nat) (q : Ser) : Bd p y.g (m + 1) → y.g m % p ≠ 0 → Fini p q → Bd p z.g m → z.Same p (x.less q y) → EuRun p y z o → EuRun p x y o

theorem EuRun.uniq {p : Int} (hp : Pr p) {x y o : ERow} (h : EuRun p x y o) : ∀ {x' y' o' : ERow}, EuRun p x' y' o' → x.Same p x' → y.Same p y' → o.Same p o' := by
  induction h with
  | stop hb =>
    intro x' y' o' k hx hy
    cases k with
    | stop _ => exact hx
    | step m q h1 h2 => exact absurd ((hy.1 m).symm.trans (hb m (Nat.zero_le _))) h2
  | @step x y z o m q h1 h2 h3 h4 h5 _ ih =>
    intro x' y' o' k hx hy
    cases k with
    | stop hb => exact absurd ((hy.1 m).trans (hb m (Nat.zero_le _))) h2
    | @step _ _ z' _ m' q' k1 k2 k3 k4 k5 k6 =>
      obtain rfl := top_uniq hy.1 h1 h2 k1 k2
      obtain ⟨N, hN⟩ := h3
      obtain ⟨M, hM⟩ := k3
      have d1 : IsDiv p m x.g y.g q z.g := ⟨(Ser.Eq.of (less_back x.g q y.g)).trans ((Ser.Eq.refl p _).add h5.1.symm), h4⟩
      have d2 : IsDiv p m x.g y.g q' z'.g := by
        refine ⟨hx.1.trans ((Ser.Eq.of (less_back x'.g q' y'.g)).trans ?_), k4⟩
        exact ((Ser.Eq.refl p q').mul hy.1.symm).add k5.1.symm
      obtain ⟨e1, e2⟩ := IsDiv.uniq (N := max N M) hp h1 h2 (hN.mono (by omega)) (hM.mono (by omega)) d1 d2
      refine ih k6 hy ⟨e2, ?_, ?_⟩
      · exact h5.2.1.trans ((less_eq hx.2.1 e1 hy.2.1).trans k5.2.1.symm)
      · exact h5.2.2.trans ((less_eq hx.2.2 e1 hy.2.2).trans k5.2.2.symm)

def Made (p : Int) (a b : Ser) (x : ERow) : Prop := Eq p x.g (Ser.add (Ser.mul x.s a) (Ser.mul x.t b))
theorem Made.less {p : Int} {a b : Ser} {x y z : ERow} {q : Ser} (hx : Made p a b x) (hy : Made p a b y) (hz : z.Same p (x.less q y)) : Made p a b z := by
  refine hz.1.trans ?_
  refine Ser.Eq.trans (less_eq hx (Ser.Eq.refl p q) hy) ?_
  refine Ser.Eq.trans (Ser.Eq.of ?_) (((hz.2.1.symm).mulL a).add ((hz.2.2.symm).mulL b))
  show Proofs.YtnkhhndjbanmnaaGreatDoor.less (Ser.add (Ser.mul x.s a) (Ser.mul x.t b)) q (Ser.add (Ser.mul y.s a) (Ser.mul y.t b)) = Ser.add (Ser.mul (Proofs.YtnkhhndjbanmnaaGreatDoor.less x.s q y.s) a) (Ser.mul (Proofs.YtnkhhndjbanmnaaGreatDoor.less x.t q y.t) b)
  unfold Proofs.YtnkhhndjbanmnaaGreatDoor.less
  rw [Ser.mul_add, ← Ser.mul_assoc, ← Ser.mul_assoc, Ser.add_mul, Ser.add_mul, Ser.sc_mul, Ser.sc_mul]
  funext i
  show Ser.mul x.s a i + Ser.mul x.t b i + -1 * (Ser.mul (Ser.mul q y.s) a i + Ser.mul (Ser.mul q y.t) b i) = Ser.mul x.s a i + -1 * Ser.mul (Ser.mul q y.s) a i + (Ser.mul x.t b i + -1 * Ser.mul (Ser.mul q y.t) b i)
  omega
theorem EuRun.made {p : Int} {a b : Ser} {x y o : ERow} (h : EuRun p x y o) : Made p a b x → Made p a b y → Made p a b o := by
  induction h with
  | stop _ => exact fun h _ => h
  | step m q _ _ _ _ h5 _ ih => exact fun hx hy => ih hy (hx.less hy h5)

def Mult (p : Int) (d f : Ser) : Prop := ∃ u, Fini p u ∧ Eq p f (Ser.mul u d)
theorem EuRun.divides {p : Int} {x y o : ERow} (h : EuRun p x y o) : Mult p o.g x.g ∧ Mult p o.g y.g := by
  induction h with
  | @stop x y hb =>
    refine ⟨⟨Ser.con 1, ⟨1, fun i hi => ?_⟩, Ser.Eq.of (Ser.one_mul _).symm⟩, ⟨Ser.zer, ⟨0, fun i _ => by simp [Ser.zer]⟩, ?_⟩⟩
    · show (if i = 0 then (1 : Int) else 0) % p = 0
      rw [if_neg (by omega)]; simp
    · rw [Ser.zer_mul]
      exact fun i => by rw [hb i (Nat.zero_le _)]; simp [Ser.zer]
  | @step x y z o m q _ _ h3 _ h5 _ ih =>
    obtain ⟨⟨u, fu, hu⟩, ⟨v, fv, hv⟩⟩ := ih
    refine ⟨⟨Ser.add (Ser.mul q u) v, (h3.mul fu).add fv, ?_⟩, ⟨u, fu, hu⟩⟩
    rw [Ser.add_mul, Ser.mul_assoc]
    refine (Ser.Eq.of (less_back x.g q y.g)).trans ?_
    exact ((Ser.Eq.refl p q).mul hu).add (h5.1.symm.trans hv)

theorem EuRun.more {p : Int} (hp : Pr p) {c : Ser} {k : Nat} (hc : Bd p c (k + 1)) (hk : c k % p ≠ 0) {x y o : ERow} (h : EuRun p x y o) :
    EuRun p ⟨Ser.mul x.g c, x.s, x.t⟩ ⟨Ser.mul y.g c, y.s, y.t⟩ ⟨Ser.mul o.g c, o.s, o.t⟩ := by
  induction h with
  | stop hb => exact .stop fun i _ => Ser.mul_nought c hb i
  | @step x y z o m q h1 h2 h3 h4 h5 _ ih =>
    have ht := Ser.mul_top h1 hc
    refine .step (z := ⟨Ser.mul z.g c, z.s, z.t⟩) (m + k) q ht.2 ?_ h3 ?_ ⟨?_, h5.2.1, h5.2.2⟩ ih
    · show Ser.mul y.g c (m + k) % p ≠ 0
      rw [ht.1]
      exact mul_nz hp h2 hk
    · show Bd p (Ser.mul z.g c) (m + k)
      cases m with
      | zero => exact fun i _ => Ser.mul_nought c h4 i
      | succ m =>
        have := (Ser.mul_top h4 hc).2
        exact this.mono (by omega)
    · show Eq p (Ser.mul z.g c) (Proofs.YtnkhhndjbanmnaaGreatDoor.less (Ser.mul x.g c) q (Ser.mul y.g c))
      refine (h5.1.mulL c).trans (Ser.Eq.of ?_)
      show Ser.mul (Ser.add x.g (Ser.sc (-1) (Ser.mul q y.g))) c = _
      rw [Ser.add_mul, Ser.sc_mul, Ser.mul_assoc]
      rfl

def IsBez (p : Int) (a b g s t : Ser) : Prop := ∃ o, EuRun p ⟨a, Ser.con 1, Ser.zer⟩ ⟨b, Ser.zer, Ser.con 1⟩ o ∧
  ((Bd p o.g 0 ∧ Bd p g 0 ∧ Eq p s (Ser.con 1) ∧ Bd p t 0) ∨
   ∃ m, Bd p o.g (m + 1) ∧ o.g m % p ≠ 0 ∧ Eq p g (Ser.sc (finv (o.g m) p) o.g) ∧ Eq p s (Ser.sc (finv (o.g m) p) o.s) ∧ Eq p t (Ser.sc (finv (o.g m) p) o.t))
theorem bd0_eq {p : Int} {f g : Ser} (h : Bd p f 0) (k : Bd p g 0) : Eq p f g := fun i => by rw [h i (Nat.zero_le _), k i (Nat.zero_le _)]
theorem IsBez.uniq {p : Int} (hp : Pr p) {a b g s t a' b' g' s' t' : Ser} (h : IsBez p a b g s t) (k : IsBez p a' b' g' s' t') (ea : Eq p a a') (eb : Eq p b b') : Eq p g g' ∧ Eq p s s' ∧ Eq p t t' := by
  obtain ⟨o, r, h⟩ := h
  obtain ⟨o', r', k⟩ := k
  have e := r.uniq hp r' ⟨ea, Ser.Eq.refl _ _, Ser.Eq.refl _ _⟩ ⟨eb, Ser.Eq.refl _ _, Ser.Eq.refl _ _⟩
  rcases h with ⟨h1, h2, h3, h4⟩ | ⟨m, h1, h2, h3, h4, h5⟩
  · rcases k with ⟨k1, k2, k3, k4⟩ | ⟨m', k1, k2, k3, k4, k5⟩
    · exact ⟨bd0_eq h2 k2, h3.trans k3.symm, bd0_eq h4 k4⟩
    · exact absurd ((e.1 m').symm.trans (h1 m' (Nat.zero_le _))) k2
  · rcases k with ⟨k1, k2, k3, k4⟩ | ⟨m', k1, k2, k3, k4, k5⟩
    · exact absurd ((e.1 m).trans (k1 m (Nat.zero_le _))) h2
    · obtain rfl := top_uniq e.1 h1 h2 k1 k2
      rw [finv_congr hp (e.1 m)] at h3 h4 h5
      exact ⟨h3.trans ((Ser.Eq.sc rfl e.1).trans k3.symm), h4.trans ((Ser.Eq.sc rfl e.2.1).trans k4.symm), h5.trans ((Ser.Eq.sc rfl e.2.2).trans k5.symm)⟩
theorem IsBez.made {p : Int} {a b g s t : Ser} (h : IsBez p a b g s t) : Eq p (Ser.add (Ser.mul s a) (Ser.mul t b)) g := by
  obtain ⟨o, r, h⟩ := h
  have hm : Made p a b o := r.made
    (Ser.Eq.of (by show a = Ser.add (Ser.mul (Ser.con 1) a) (Ser.mul Ser.zer b); rw [Ser.one_mul, Ser.zer_mul, Ser.add_zer]))
    (Ser.Eq.of (by show b = Ser.add (Ser.mul Ser.zer a) (Ser.mul (Ser.con 1) b); rw [Ser.one_mul, Ser.zer_mul, Ser.zer_add]))
  rcases h with ⟨h1, h2, h3, h4⟩ | ⟨m, h1, h2, h3, h4, h5⟩
  · have hd := r.divides
    obtain ⟨⟨u, _, hu⟩, _⟩ := hd
    have ha : Bd p a 0 := fun i _ => by
      have := hu i
      rw [Ser.mul_comm] at this
      rw [this]
      exact Ser.mul_nought u h1 i
    intro i
    show (Ser.mul s a i + Ser.mul t b i) % p = g i % p
    rw [Int.add_emod, Ser.mul_comm, Ser.mul_nought s ha i, Ser.mul_nought b h4 i, h2 i (Nat.zero_le _)]
    simp
  · refine ((h4.mulL a).add (h5.mulL b)).trans (Ser.Eq.trans (Ser.Eq.of ?_) ((Ser.Eq.sc rfl hm.symm).trans h3.symm))
    rw [Ser.sc_mul, Ser.sc_mul]
    funext i
    show _ + _ = _ * (_ + _)
    rw [Int.mul_add]
    rfl
theorem IsBez.nought {p : Int} {a b g s t : Ser} (hp : Pr p) (h : IsBez p a b g s t) : Bd p g 0 ↔ Bd p a 0 ∧ Bd p b 0 := by
  obtain ⟨o, r, h⟩ := h
  obtain ⟨⟨u, _, hu⟩, ⟨v, _, hv⟩⟩ := r.divides
  rcases h with ⟨h1, h2, _⟩ | ⟨m, h1, h2, h3, _⟩
  · refine ⟨fun _ => ⟨fun i _ => ?_, fun i _ => ?_⟩, fun _ => h2⟩
    · have := hu i
      rw [Ser.mul_comm] at this
      rw [this]
      exact Ser.mul_nought u h1 i
    · have := hv i
      rw [Ser.mul_comm] at this
      rw [this]
      exact Ser.mul_nought v h1 i
  · have hs := finv_spec hp h2
    constructor
    · intro hb
      have := (h3 m).symm.trans (hb m (Nat.zero_le _))
      have e : Ser.sc (finv (o.g m) p) o.g m = o.g m * finv (o.g m) p := Int.mul_comm _ _
      rw [e, hs.2.2] at this
      omega
    · rintro ⟨ha, hb⟩
      exfalso
      have hm : Made p a b o := r.made
        (Ser.Eq.of (by show a = Ser.add (Ser.mul (Ser.con 1) a) (Ser.mul Ser.zer b); rw [Ser.one_mul, Ser.zer_mul, Ser.add_zer]))
        (Ser.Eq.of (by show b = Ser.add (Ser.mul Ser.zer a) (Ser.mul (Ser.con 1) b); rw [Ser.one_mul, Ser.zer_mul, Ser.zer_add]))
      refine h2 ((hm m).trans ?_)
      show (Ser.mul o.s a m + Ser.mul o.t b m) % p = 0
      rw [Int.add_emod, Ser.mul_comm, Ser.mul_nought o.s ha m, Ser.mul_comm, Ser.mul_nought o.t hb m]
      simp
theorem IsBez.divides {p : Int} {a b g s t : Ser} (hp : Pr p) (h : IsBez p a b g s t) : Mult p g a ∧ Mult p g b := by
  obtain ⟨o, r, h⟩ := h
  rcases h with ⟨h1, h2, _⟩ | ⟨m, h1, h2, h3, _⟩
  · obtain ⟨⟨u, fu, hu⟩, ⟨v, fv, hv⟩⟩ := r.divides
    exact ⟨⟨u, fu, hu.trans ((Ser.Eq.refl p u).mul (bd0_eq h1 h2))⟩, ⟨v, fv, hv.trans ((Ser.Eq.refl p v).mul (bd0_eq h1 h2))⟩⟩
  · have hs := finv_spec hp h2
    have hm : ∀ f, Mult p o.g f → Mult p g f := by
      rintro f ⟨u, fu, hu⟩
      refine ⟨Ser.sc (o.g m) u, fu.sc, hu.trans ?_⟩
      refine Ser.Eq.trans ?_ ((Ser.Eq.refl p _).mul h3.symm)
      rw [Ser.mul_comm (Ser.sc (o.g m) u), Ser.sc_mul, Ser.mul_comm o.g, Ser.sc_mul]
      intro i
      show Ser.mul u o.g i % p = finv (o.g m) p * (o.g m * Ser.mul u o.g i) % p
      rw [← Int.mul_assoc, Int.mul_comm (finv (o.g m) p), Int.mul_emod, hs.2.2, Int.one_mul, Int.emod_emod_of_dvd _ (Int.dvd_refl p)]
    exact ⟨hm _ r.divides.1, hm _ r.divides.2⟩
theorem IsBez.monic {p : Int} {a b g s t : Ser} (hp : Pr p) (h : IsBez p a b g s t) (hn : ¬ Bd p g 0) : ∃ m, Bd p g (m + 1) ∧ g m % p = 1 := by
  obtain ⟨o, r, h⟩ := h
  rcases h with ⟨h1, h2, _⟩ | ⟨m, h1, h2, h3, _⟩
  · exact absurd h2 hn
  · refine ⟨m, Ser.Bd.eq (fun i hi => ?_) h3.symm, ?_⟩
    · show finv (o.g m) p * o.g i % p = 0
      rw [Int.mul_emod, h1 i hi]; simp
    · rw [h3 m]
      show finv (o.g m) p * o.g m % p = 1
      rw [Int.mul_comm]
      exact (finv_spec hp h2).2.2
theorem IsBez.more {p : Int} (hp : Pr p) {a b g s t c g' s' t' : Ser} (hc : Fini p c) (h : IsBez p a b g s t) (k : IsBez p (Ser.mul a c) (Ser.mul b c) g' s' t') : IsMon p (Ser.mul g c) g' := by
  obtain ⟨N, hN⟩ := hc
  rcases Classical.em (Bd p c 0) with h0 | h0
  · have z : ∀ f : Ser, Bd p (Ser.mul f c) 0 := fun f i _ => by rw [Ser.mul_comm]; exact Ser.mul_nought f h0 i
    exact .inl ⟨z g, (k.nought hp).2 ⟨z a, z b⟩⟩
  · have hex : ∃ j, Bd p c (j + 1) ∧ c j % p ≠ 0 := by
      refine Classical.byContradiction fun hn => h0 (bd_down (fun j hj => ?_) N hN)
      exact Classical.byContradiction fun hj2 => hn ⟨j, hj, hj2⟩
    obtain ⟨j, hj, hj2⟩ := hex
    obtain ⟨o, r, h⟩ := h
    obtain ⟨o', r', k⟩ := k
    have e := (r.more hp hj hj2).uniq hp r' (ERow.Same.refl _ _) (ERow.Same.refl _ _)
    have e1 : Eq p (Ser.mul o.g c) o'.g := e.1
    rcases h with ⟨h1, h2, _⟩ | ⟨m, h1, h2, h3, _⟩
    · rcases k with ⟨k1, k2, _⟩ | ⟨m', k1, k2, k3, _⟩
      · exact .inl ⟨fun i _ => Ser.mul_nought c h2 i, k2⟩
      · exact absurd ((e1 m').symm.trans (Ser.mul_nought c h1 m')) k2
    · have ht := Ser.mul_top h1 hj
      have hnz : Ser.mul o.g c (m + j) % p ≠ 0 := by rw [ht.1]; exact mul_nz hp h2 hj2
      rcases k with ⟨k1, k2, _⟩ | ⟨m', k1, k2, k3, _⟩
      · exact absurd ((e1 (m + j)).trans (k1 _ (Nat.zero_le _))) hnz
      · obtain rfl := top_uniq e1 ht.2 hnz k1 k2
        have hs := finv_spec hp h2
        have hq := finv_spec hp hnz
        -- g c is the product by the residue that makes o.g monic
        have hgc : Eq p (Ser.mul g c) (Ser.sc (finv (o.g m) p) (Ser.mul o.g c)) := by
          rw [← Ser.sc_mul]; exact h3.mulL c
        have hv := finv_spec hp (a := finv (o.g m) p) (by rw [Int.emod_eq_of_lt (by omega) (by omega)]; omega)
        refine .inr ⟨m + j, ?_, ?_, ?_⟩
        · refine Ser.Bd.eq (fun i hi => ?_) hgc.symm
          show finv (o.g m) p * Ser.mul o.g c i % p = 0
          rw [Int.mul_emod, ht.2 i (by omega)]; simp
        · rw [hgc (m + j)]
          exact mul_nz hp (by rw [Int.emod_eq_of_lt (by omega) (by omega)]; omega) hnz
        · have htop : Ser.mul g c (m + j) % p = finv (o.g m) p * Ser.mul o.g c (m + j) % p := hgc (m + j)
          rw [finv_congr hp htop]
          have hfi : finv (finv (o.g m) p * Ser.mul o.g c (m + j)) p = finv (Ser.mul o.g c (m + j)) p * finv (finv (o.g m) p) p % p := by
            refine finv_eq hp ⟨Int.emod_nonneg _ (by omega), Int.emod_lt_of_pos _ (by omega), ?_⟩
            generalize finv (o.g m) p = u at *
            generalize Ser.mul o.g c (m + j) = T at *
            generalize finv T p = T' at *
            generalize finv u p = u' at *
            rw [Int.mul_emod, Int.emod_emod_of_dvd _ (Int.dvd_refl p), ← Int.mul_emod]
            have e2 : u * T * (T' * u') = (u * u') * (T * T') := by
              rw [Int.mul_assoc, Int.mul_left_comm T, Int.mul_comm T u', Int.mul_left_comm T', ← Int.mul_assoc u, Int.mul_comm T' T]
            rw [e2, Int.mul_emod, hv.2.2, hq.2.2]
            exact Int.emod_eq_of_lt (by omega) (by have := hp.1; omega)
          rw [hfi]
          refine k3.trans ?_
          rw [← finv_congr hp (e1 (m + j))]
          refine Ser.Eq.trans (Ser.Eq.sc rfl e1.symm) ?_
          refine Ser.Eq.trans ?_ (Ser.Eq.sc rfl hgc.symm)
          intro i
          show finv (Ser.mul o.g c (m + j)) p * Ser.mul o.g c i % p = finv (Ser.mul o.g c (m + j)) p * finv (finv (o.g m) p) p % p * (finv (o.g m) p * Ser.mul o.g c i) % p
          generalize Ser.mul o.g c i = X at *
          generalize finv (Ser.mul o.g c (m + j)) p = T' at *
          generalize finv (o.g m) p = u at *
          generalize finv u p = u' at *
          rw [Int.mul_emod (T' * u' % p), Int.emod_emod_of_dvd _ (Int.dvd_refl p), ← Int.mul_emod]
          have e2 : T' * u' * (u * X) = (u * u') * (T' * X) := by
            rw [Int.mul_comm T' u', Int.mul_assoc, Int.mul_left_comm T', ← Int.mul_assoc, Int.mul_comm u' u]
          rw [e2, Int.mul_emod (u * u'), hv.2.2, Int.one_mul, Int.emod_emod_of_dvd _ (Int.dvd_refl p)]
end Go.Proofs.YtnkhhndjbanmnaaGreatDoor

/- Words for memory: a slice of limbs that is only read; a block of limbs of the call's own that is known whole. -/
namespace Go.Proofs.YtnkhhndjbanmnaaGreatDoor
open Go.RowKit

abbrev u64v (x : Nat) : Value := .int .u64 (x : Int)

def Rd (w : World) (A : Option Addr) (xs : List Nat) : Prop :=
  Fit xs ∧ (xs = [] ∨ ∃ b o, A = some ⟨b, o, none⟩ ∧ b < w.heap.size ∧ ∀ j (h : j < xs.length), w.cell? ⟨b, o + j, none⟩ = some (u64v xs[j]))

theorem Rd.fit {w : World} {A : Option Addr} {xs : List Nat} (h : Rd w A xs) : Fit xs := h.1
theorem Rd.nil (w : World) (A : Option Addr) : Rd w A [] := ⟨fit_nil, .inl rfl⟩
theorem Rd.below {w w' : World} {A : Option Addr} {xs : List Nat} (h : Rd w A xs) (hb : Below w.heap.size w w') : Rd w' A xs := by
  refine ⟨h.1, h.2.imp id ?_⟩
  rintro ⟨b, o, rfl, hlt, hc⟩
  exact ⟨b, o, rfl, Nat.lt_of_lt_of_le hlt hb.size, fun j hj => (hb.cell (p := ⟨b, o + j, none⟩) hlt).trans (hc j hj)⟩
theorem Rd.take {w : World} {A : Option Addr} {xs : List Nat} (h : Rd w A xs) (k : Nat) : Rd w A (xs.take k) := by
  refine ⟨fit_take h.1 k, ?_⟩
  rcases h.2 with rfl | ⟨b, o, rfl, hlt, hc⟩
  · left; simp
  · right
    refine ⟨b, o, rfl, hlt, fun j hj => ?_⟩
    have hj' : j < xs.length := by rw [List.length_take] at hj; omega
    rw [List.getElem_take]
    exact hc j hj'
theorem Rd.plain {w : World} {A : Option Addr} {xs : List Nat} (h : Rd w A xs) : Rd w A (nrm (val xs)) := by
  have := h.take (nrm (val xs)).length
  rwa [take_nrm h.1] at this
theorem Rd.grown {w w' : World} {g : Nat} {A : Option Addr} {xs : List Nat} (h : Rd w A xs) (hg : w.grownBy w' (some g)) (hne : ∀ b o s, A = some ⟨b, o, s⟩ → b ≠ g) : Rd w' A xs := by
  refine ⟨h.1, h.2.imp id ?_⟩
  rintro ⟨b, o, rfl, hlt, hc⟩
  refine ⟨b, o, rfl, Nat.lt_of_lt_of_le hlt hg.size, fun j hj => ?_⟩
  exact (World.cell?_of_block (w := w) (hg.block b hlt (fun e => hne b o none rfl (by injection e)))).trans (hc j hj)

def Blk (w : World) (g : Nat) (L : List Nat) : Prop := w.heap[g]? = some (.cells (L.map u64v).toArray 102 (0, 0)) ∧ Fit L

theorem Blk.lt {w : World} {g : Nat} {L : List Nat} (h : Blk w g L) : g < w.heap.size := by
  rcases Nat.lt_or_ge g w.heap.size with hlt | hge
  · exact hlt
  · have := h.1; rw [Array.getElem?_eq_none hge] at this; cases this
theorem Blk.fit {w : World} {g : Nat} {L : List Nat} (h : Blk w g L) : Fit L := h.2
theorem Blk.cell {w : World} {g : Nat} {L : List Nat} (h : Blk w g L) (i : Nat) (hi : i < L.length) : w.cell? ⟨g, i, none⟩ = some (u64v L[i]) := by
  rw [cell_of_row w g i _ _ (0, 0) h.1]
  simp [hi]
theorem Blk.frozen {w : World} {g : Nat} {L : List Nat} (h : Blk w g L) (i : Nat) : w.frozen? ⟨g, i, none⟩ = false := by
  have := h.1
  simp [World.frozen?, this]
theorem Blk.below {w w' : World} {g : Nat} {L : List Nat} (h : Blk w g L) (hb : Below w.heap.size w w') : Blk w' g L := ⟨(hb.block g h.lt).trans h.1, h.2⟩
theorem Blk.grown {w w' : World} {g g' : Nat} {L : List Nat} (h : Blk w g L) (hb : w.grownBy w' (some g')) (hne : g ≠ g') : Blk w' g L :=
  ⟨(hb.block g h.lt (fun e => hne (by injection e))).trans h.1, h.2⟩
theorem Blk.set_ {w : World} {g : Nat} {L : List Nat} (h : Blk w g L) (i : Nat) (u : Nat) (hu : u < 18446744073709551616) : Blk (w.setCell ⟨g, i, none⟩ (u64v u)) g (L.set i u) := by
  refine ⟨?_, ?_⟩
  · have := h.1
    simp [World.setCell, Array.getElem?_modify, this]
  · intro x hx
    rcases List.mem_or_eq_of_mem_set hx with hx | rfl
    · exact h.2 x hx
    · exact hu
theorem Blk.far {w : World} {g : Nat} {L : List Nat} (h : Blk w g L) {p : Addr} (hp : g ≠ p.block) (u : Value) : Blk (w.setCell p u) g L :=
  ⟨(Below.heap_setCell w p u g hp).trans h.1, h.2⟩
theorem Blk.alloc {w : World} {g : Nat} {L : List Nat} (h : Blk w g L) (o : Obj) : Blk (w.alloc o) g L := ⟨(Below.heap_alloc w o g h.lt).trans h.1, h.2⟩
theorem Blk.drew {w : World} {g : Nat} {L : List Nat} (h : Blk w g L) : Blk w.drew g L := h
theorem Blk.drewN {w : World} {g : Nat} {L : List Nat} (h : Blk w g L) (n : Nat) : Blk (w.drewN n) g L := h
theorem Blk.rd {w : World} {g : Nat} {L : List Nat} (h : Blk w g L) (o n : Nat) : Rd w (some ⟨g, o, none⟩) ((L.drop o).take n) := by
  refine ⟨fit_take (fit_drop h.2 o) n, .inr ⟨g, o, rfl, h.lt, fun j hj => ?_⟩⟩
  have hj' : o + j < L.length := by simp only [List.length_take, List.length_drop] at hj; omega
  rw [h.cell (o + j) hj']
  simp
theorem Blk.rd0 {w : World} {g : Nat} {L : List Nat} (h : Blk w g L) : Rd w (some ⟨g, 0, none⟩) L := by
  have := h.rd 0 L.length
  simpa using this

theorem below_of_grown {a w : World} {g B : Nat} (h : a.grownBy w (some g)) (hB : B ≤ a.heap.size) (hg : B ≤ g) : Below B a w :=
  (Below.refl B a).grown h hB (fun k e => by injection e with e; omega)
def Own (w : World) (B : Nat) (v : Value) (xs : List Nat) : Prop :=
  ∃ g c L, v = .slice (some ⟨g, 0, none⟩) xs.length c ∧ B ≤ g ∧ Blk w g L ∧ L.length = c ∧ xs.length ≤ c ∧ L.take xs.length = xs ∧ c ≤ maxLen

end Go.Proofs.YtnkhhndjbanmnaaGreatDoor

/- nat.trim, by its contract: it cuts the noughts at the end off, and turns nothing in memory. Conditions: the slice reads as limbs. -/
namespace Go.Proofs.YtnkhhndjbanmnaaGreatDoor
open Go.RowKit

theorem getD_of_lt {xs : List Nat} {j : Nat} (h : j < xs.length) : xs[j]?.getD 0 = xs[j] := by rw [List.getElem?_eq_getElem h]; rfl

set_option maxRecDepth 100000 in
set_option maxHeartbeats 400000 in
theorem trim_some (b o c : Nat) (xs : List Nat) (w : World) (n : Nat) (hn : n = xs.length) (hf : Fit xs) (hle : n ≤ c) (hc : c ≤ 9223372036854775807)
    (hcell : ∀ j (h : j < xs.length), w.cell? ⟨b, o + j, none⟩ = some (u64v xs[j])) :
    Calls Tryz.prog 196 #[.slice (some ⟨b, o, none⟩) n c] w fun e w' => e = .returned (.slice (some ⟨b, o, none⟩) (nrm (val xs)).length c) ∧ w = w' := by
  have HN : Hid (n = xs.length) := hn
  have hcl : ∀ j, j < n → w.cell? ⟨b, o + j, none⟩ = some (u64v (xs.getD j 0)) := by
    intro j hj
    rw [hcell j (by omega), List.getD_eq_getElem?_getD, List.getElem?_eq_getElem (by omega)]
    rfl
  have HC := Lib.hid hcl
  clear hn hcell hcl
  go_enter Tryz.func196, Tryz.ntmps196
  go_wp2
  go_loop [3] (fun t => ∃ k : Nat, k ≤ n ∧ t = .int .i64 k ∧ val (xs.take k) = val xs) (fun t => (intOf t).toNat)
  case atStart => exact ⟨n, Nat.le_refl _, rfl, by rw [HN.out]; simp⟩
  case round =>
    obtain ⟨k, hk, rfl, hv⟩ := hrel
    have HV := Lib.hid hv
    clear hv
    by_cases hk0 : 0 < k
    · have hcell := HC.out (k - 1) (by omega)
      go_wp2
      · have hz : (((xs[k - 1]?.getD 0 : Nat) : Int) == 0) = true := by assumption
        have hlt : k - 1 < xs.length := by rw [← HN.out]; omega
        have hz' : xs[k - 1] = 0 := by rw [getD_of_lt hlt] at hz; simpa using hz
        go_round
        case rel =>
          refine ⟨k - 1, by omega, by go_num, ?_⟩
          rw [val_take_zero_last xs (k - 1) hlt hz', show k - 1 + 1 = k by omega]
          exact HV.out
        case measure => simp [intOf]; omega
      · have hz : (((xs[k - 1]?.getD 0 : Nat) : Int) == 0) = false := by assumption
        have hlt : k - 1 < xs.length := by rw [← HN.out]; omega
        have hz' : xs[k - 1] ≠ 0 := by rw [getD_of_lt hlt] at hz; simpa using hz
        have hd := trim_done hf k (by rw [← HN.out]; exact hk) HV.out (.inr ⟨hlt, hz'⟩)
        go_ret
        exact ⟨by rw [hd]; rfl, rfl⟩
    · have : k = 0 := by omega
      subst this
      have hd := trim_done hf 0 (Nat.zero_le _) HV.out (.inl rfl)
      have HD := Lib.hid hd
      clear hd
      go_wp2
      go_ret
      exact ⟨by rw [HD.out]; rfl, rfl⟩

set_option maxRecDepth 100000 in
set_option maxHeartbeats 400000 in
theorem trim_empty (A : Option Addr) (c : Nat) (w : World) (hA : A = none → c = 0) :
    Calls Tryz.prog 196 #[.slice A 0 c] w fun e w' => e = .returned (.slice A 0 c) ∧ w = w' := by
  rcases A with _ | a
  · obtain rfl := hA rfl
    go_enter Tryz.func196, Tryz.ntmps196
    go_wp2
    refine wp_loop_rounds 1 ?_
    rw [rounds_succ]
    go_wp2
    go_ret
    exact ⟨rfl, rfl⟩
  · clear hA
    go_enter Tryz.func196, Tryz.ntmps196
    go_wp2
    refine wp_loop_rounds 1 ?_
    rw [rounds_succ]
    go_wp2
    go_ret
    exact ⟨rfl, rfl⟩

def Sl (w : World) (A : Option Addr) (n c : Nat) (xs : List Nat) : Prop := n = xs.length ∧ n ≤ c ∧ c ≤ 9223372036854775807 ∧ (A = none → c = 0) ∧ Rd w A xs

theorem Sl.len {w : World} {A : Option Addr} {n c : Nat} {xs : List Nat} (h : Sl w A n c xs) : n = xs.length := h.1
theorem Sl.le {w : World} {A : Option Addr} {n c : Nat} {xs : List Nat} (h : Sl w A n c xs) : n ≤ c := h.2.1
theorem Sl.max {w : World} {A : Option Addr} {n c : Nat} {xs : List Nat} (h : Sl w A n c xs) : c ≤ 9223372036854775807 := h.2.2.1
theorem Sl.rd {w : World} {A : Option Addr} {n c : Nat} {xs : List Nat} (h : Sl w A n c xs) : Rd w A xs := h.2.2.2.2
theorem Sl.fit {w : World} {A : Option Addr} {n c : Nat} {xs : List Nat} (h : Sl w A n c xs) : Fit xs := h.2.2.2.2.1

def Apart (A : Option Addr) (ys : List Nat) (g : Nat) : Prop := ys = [] ∨ ∀ b o s, A = some ⟨b, o, s⟩ → b ≠ g
theorem Rd.apart {w : World} {A : Option Addr} {xs : List Nat} (h : Rd w A xs) {g : Nat} (hg : w.heap.size ≤ g) : Apart A xs g := by
  rcases h.2 with h | ⟨b, o, rfl, hlt, _⟩
  · exact .inl h
  · refine .inr fun b' o' s' e => ?_
    simp only [Option.some.injEq, Addr.mk.injEq] at e
    omega
theorem Sl.apart {w : World} {A : Option Addr} {n c : Nat} {xs : List Nat} (h : Sl w A n c xs) {g : Nat} (hg : w.heap.size ≤ g) : Apart A xs g := h.rd.apart hg
theorem Sl.below {w w' : World} {A : Option Addr} {n c : Nat} {xs : List Nat} (h : Sl w A n c xs) (hb : Below w.heap.size w w') : Sl w' A n c xs := ⟨h.1, h.2.1, h.2.2.1, h.2.2.2.1, h.2.2.2.2.below hb⟩
theorem Sl.plain {w : World} {A : Option Addr} {n c : Nat} {xs : List Nat} (h : Sl w A n c xs) : Sl w A (nrm (val xs)).length c (nrm (val xs)) :=
  ⟨rfl, by have := nrm_length_le h.2.2.2.2.1; have := h.1; have := h.2.1; omega, h.2.2.1, h.2.2.2.1, h.2.2.2.2.plain⟩

theorem trim_any (A : Option Addr) (n c : Nat) (xs : List Nat) (w : World) (h : Sl w A n c xs) :
    Calls Tryz.prog 196 #[.slice A n c] w fun e w' => e = .returned (.slice A (nrm (val xs)).length c) ∧ w = w' := by
  obtain ⟨hn, hle, hc, hA, hf, rfl | ⟨b, o, rfl, _, hcell⟩⟩ := h
  · subst hn
    exact trim_empty A c w hA
  · exact trim_some b o c xs w n hn hf hle hc hcell
end Go.Proofs.YtnkhhndjbanmnaaGreatDoor

/- math/bits.Mul64, Add64, Sub64 at this translation, and the closures that carry a limb on, by their contracts. -/
namespace Go.Proofs.YtnkhhndjbanmnaaGreatDoor
open Go.RowKit Go.Lib

def Halves (x y hi lo : Nat) : Prop := hi < 18446744073709551616 ∧ lo < 18446744073709551616 ∧ hi * 18446744073709551616 + lo = x * y

def bor (x y : Int) : Int := if x < y then 1 else 0

def tkLimb (l m c h : Nat) : Nat := (h + 18446744073709551616 - (l * m + c) % 18446744073709551616) % 18446744073709551616
def tkCarry (l m c h : Nat) : Nat := (l * m + c) / 18446744073709551616 + (if h < (l * m + c) % 18446744073709551616 then 1 else 0)
end Go.Proofs.YtnkhhndjbanmnaaGreatDoor

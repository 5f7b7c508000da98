/- Texts joined, in their order: FacP, FsqSm. -/
import Derived.StillTailTactics
import Derived.Test.YtnkhhndjbanmnaaGreatDoorMp16
import Derived.Test.YtnkhhndjbanmnaaGreatDoorMp19

/- The parts of a polynomial by how often their factors are in it: what they are, that there is one row of them; how the program gathers them, and the document. Mathematics alone. -/
namespace Go.Proofs.YtnkhhndjbanmnaaGreatDoor
open Ser (Bd)

def IsOwn (p : Int) (m : List Int) (N : Nat) (ys : List Int) : Prop := Mn p ys ∧ ∀ q, Irr p q → V p (cf ys) q = if V p (cf m) q = N then 1 else 0
theorem IsOwn.uniq {p : Int} {m ys zs : List Int} {N : Nat} (hp : Pr p) (h : IsOwn p m N ys) (k : IsOwn p m N zs) : ys = zs :=
  h.1.ext hp k.1 fun q hq => by rw [h.2 q hq, k.2 q hq]
def IsRad (p : Int) (m r : List Int) : Prop := Mn p r ∧ ∀ q, Irr p q → V p (cf r) q = min 1 (V p (cf m) q)
theorem IsRad.uniq {p : Int} {m m' ys zs : List Int} (hp : Pr p) (h : IsRad p m ys) (k : IsRad p m' zs) (e : ∀ q, Irr p q → V p (cf m) q = V p (cf m') q) : ys = zs :=
  h.1.ext hp k.1 fun q hq => by rw [h.2 q hq, k.2 q hq, e q hq]
def Sqf (p : Int) (m : List Int) : Prop := ∀ q, Irr p q → V p (cf m) q ≤ 1

abbrev PL : Type := List (List Int × Nat)
structure IsParts (p : Int) (m : List Int) (L : PL) : Prop where
  up : (L.map (·.2)).Pairwise (· < ·)
  own : ∀ x ∈ L, 1 ≤ x.2 ∧ IsOwn p m x.2 x.1 ∧ x.1 ≠ [1]
  all : ∀ q, Irr p q → 1 ≤ V p (cf m) q → ∃ x ∈ L, x.2 = V p (cf m) q
theorem own_some {p : Int} {m : List Int} {N : Nat} {ys : List Int} (hp : Pr p) (h : IsOwn p m N ys) (hn : ys ≠ [1]) : ∃ q, Irr p q ∧ V p (cf m) q = N := by
  obtain ⟨q, hq, h1⟩ := h.1.some_V hp (fun e => hn ((h.1.one_iff hp).1 e))
  refine ⟨q, hq, ?_⟩
  rw [h.2 q hq] at h1
  refine Classical.byContradiction fun hc => ?_
  rw [if_neg hc] at h1
  omega
theorem same_sorted : ∀ (L L' : PL), (L.map (·.2)).Pairwise (· < ·) → (L'.map (·.2)).Pairwise (· < ·) → (∀ x, x ∈ L ↔ x ∈ L') → L = L' := by
  intro L
  induction L with
  | nil =>
    intro L' _ _ h
    cases L' with
    | nil => rfl
    | cons y ys => exact absurd ((h y).2 (List.mem_cons_self ..)) (by simp)
  | cons x xs ih =>
    intro L' h1 h2 h
    cases L' with
    | nil => exact absurd ((h x).1 (List.mem_cons_self ..)) (by simp)
    | cons y ys =>
      rw [List.map_cons, List.pairwise_cons] at h1 h2
      have lx : ∀ z ∈ xs, x.2 < z.2 := fun z hz => h1.1 _ (List.mem_map.2 ⟨z, hz, rfl⟩)
      have ly : ∀ z ∈ ys, y.2 < z.2 := fun z hz => h2.1 _ (List.mem_map.2 ⟨z, hz, rfl⟩)
      have e : x = y := by
        rcases List.mem_cons.1 ((h x).1 (List.mem_cons_self ..)) with e | e
        · exact e
        · rcases List.mem_cons.1 ((h y).2 (List.mem_cons_self ..)) with e2 | e2
          · exact e2.symm
          · have := ly x e
            have := lx y e2
            omega
      subst e
      congr 1
      refine ih ys h1.2 h2.2 fun z => ⟨fun hz => ?_, fun hz => ?_⟩
      · rcases List.mem_cons.1 ((h z).1 (List.mem_cons_of_mem _ hz)) with e | e
        · subst e; exact absurd (lx _ hz) (Nat.lt_irrefl _)
        · exact e
      · rcases List.mem_cons.1 ((h z).2 (List.mem_cons_of_mem _ hz)) with e | e
        · subst e; exact absurd (ly _ hz) (Nat.lt_irrefl _)
        · exact e
theorem IsParts.sub {p : Int} {m : List Int} {L L' : PL} (hp : Pr p) (h : IsParts p m L) (k : IsParts p m L') (x : List Int × Nat) (hx : x ∈ L) : x ∈ L' := by
  obtain ⟨h1, h2, h3⟩ := h.own x hx
  obtain ⟨q, hq, hv⟩ := own_some hp h2 h3
  obtain ⟨y, hy, e⟩ := k.all q hq (by omega)
  obtain ⟨k1, k2, k3⟩ := k.own y hy
  have e2 : y.2 = x.2 := by omega
  rw [e2] at k2
  have e1 := k2.uniq hp h2
  have : y = x := Prod.ext e1 e2
  exact this ▸ hy
theorem IsParts.uniq {p : Int} {m : List Int} {L L' : PL} (hp : Pr p) (h : IsParts p m L) (k : IsParts p m L') : L = L' :=
  same_sorted L L' h.up k.up fun x => ⟨h.sub hp k x, k.sub hp h x⟩

structure Told (p : Int) (a : List Int) (n : Nat) (F : PL) : Prop where
  up : (F.map (·.2)).Pairwise (· < ·)
  own : ∀ x ∈ F, 1 ≤ x.2 ∧ x.2 < n ∧ ¬ p.toNat ∣ x.2 ∧ IsOwn p a x.2 x.1 ∧ x.1 ≠ [1]
  all : ∀ q, Irr p q → ¬ p.toNat ∣ V p (cf a) q → V p (cf a) q < n → ∃ x ∈ F, x.2 = V p (cf a) q
theorem told_start (p : Int) (a : List Int) : Told p a 1 [] :=
  ⟨List.Pairwise.nil, fun _ h => (List.not_mem_nil h).elim, fun q _ hn h1 => absurd (show p.toNat ∣ V p (cf a) q by rw [show V p (cf a) q = 0 by omega]; exact Nat.dvd_zero _) hn⟩
theorem pairwise_snoc {F : PL} {y : List Int × Nat} {n : Nat} (h : (F.map (·.2)).Pairwise (· < ·)) (hl : ∀ x ∈ F, x.2 < n) (e : y.2 = n) : ((F ++ [y]).map (·.2)).Pairwise (· < ·) := by
  rw [List.map_append, List.pairwise_append]
  refine ⟨h, by simp, fun u hu v hv => ?_⟩
  obtain ⟨x, hx, rfl⟩ := List.mem_map.1 hu
  obtain ⟨z, hz, rfl⟩ := List.mem_map.1 hv
  rw [List.mem_singleton.1 hz, e]
  exact hl x hx
theorem Told.snoc {p : Int} {a : List Int} {n : Nat} {F : PL} {ys : List Int} (h : Told p a n F) (h1 : 1 ≤ n) (hd : ¬ p.toNat ∣ n) (ho : IsOwn p a n ys) (hn : ys ≠ [1]) : Told p a (n + 1) (F ++ [(ys, n)]) := by
  refine ⟨pairwise_snoc h.up (fun x hx => (h.own x hx).2.1) rfl, fun x hx => ?_, fun q hq hv hlt => ?_⟩
  · rcases List.mem_append.1 hx with hx | hx
    · obtain ⟨a1, a2, a3⟩ := h.own x hx
      exact ⟨a1, by omega, a3⟩
    · rw [List.mem_singleton.1 hx]
      exact ⟨h1, Nat.lt_succ_self n, hd, ho, hn⟩
  · by_cases e : V p (cf a) q = n
    · exact ⟨(ys, n), by simp, e.symm⟩
    · obtain ⟨x, hx, e2⟩ := h.all q hq hv (by omega)
      exact ⟨x, by simp [hx], e2⟩
theorem Told.skip {p : Int} {a : List Int} {n : Nat} {F : PL} (h : Told p a n F) (hn : ∀ q, Irr p q → ¬ p.toNat ∣ V p (cf a) q → V p (cf a) q ≠ n) : Told p a (n + 1) F :=
  ⟨h.up, fun x hx => by obtain ⟨a1, a2, a3⟩ := h.own x hx; exact ⟨a1, by omega, a3⟩, fun q hq hv hlt => h.all q hq hv (by have := hn q hq hv; omega)⟩

structure TS (p : Int) (a : List Int) (n : Nat) (once left : List Int) : Prop where
  m1 : Mn p once
  v1 : ∀ q, Irr p q → V p (cf once) q = if ¬ p.toNat ∣ V p (cf a) q ∧ n ≤ V p (cf a) q then 1 else 0
  m2 : Mn p left
  v2 : ∀ q, Irr p q → V p (cf left) q = if p.toNat ∣ V p (cf a) q then V p (cf a) q else V p (cf a) q - n
  l1 : once.length ≤ a.length
  l2 : left.length ≤ a.length
theorem not_dvd_pos {P v : Nat} (h : ¬ P ∣ v) : 1 ≤ v := by
  rcases Nat.eq_zero_or_pos v with e | e
  · exact absurd (e ▸ Nat.dvd_zero P) h
  · exact e
theorem ts_start {p : Int} {a : List Int} (hp : Pr p) (h : Mn p a) :
    TS p a 1 (quoL p (cf a) (cf (bezG p (cf a) (cf (polL p (Ser.der (cf a))))))) (bezG p (cf a) (cf (polL p (Ser.der (cf a))))) := by
  obtain ⟨g1, g2, g3⟩ := mn_gcdD hp h
  have hle : ∀ q, Irr p q → V p (cf (bezG p (cf a) (cf (polL p (Ser.der (cf a)))))) q ≤ V p (cf a) q := fun q hq => by
    rw [g3 q hq]; split <;> omega
  obtain ⟨q1, q2, q3⟩ := mn_quo hp h g1 hle
  have := g1.pos
  refine ⟨q1, fun q hq => ?_, g1, g3, by omega, g2⟩
  rw [q3 q hq, g3 q hq]
  by_cases hd : p.toNat ∣ V p (cf a) q
  · rw [if_pos hd, if_neg (fun k => k.1 hd), Nat.sub_self]
  · have := not_dvd_pos hd
    rw [if_neg hd, if_pos ⟨hd, this⟩]
    omega
theorem TS.more {p : Int} {a once left : List Int} {n : Nat} (hp : Pr p) (h : TS p a n once left) :
    Mn p (bezG p (cf once) (cf left)) ∧ (bezG p (cf once) (cf left)).length ≤ once.length ∧ ∀ q, Irr p q → V p (cf (bezG p (cf once) (cf left))) q = if ¬ p.toNat ∣ V p (cf a) q ∧ n + 1 ≤ V p (cf a) q then 1 else 0 := by
  obtain ⟨g1, g2, g3⟩ := mn_gcd hp h.m1 h.m2
  refine ⟨g1, g2, fun q hq => ?_⟩
  rw [g3 q hq, h.v1 q hq, h.v2 q hq]
  by_cases hd : p.toNat ∣ V p (cf a) q
  · rw [if_neg (show ¬ (¬ p.toNat ∣ V p (cf a) q ∧ n ≤ V p (cf a) q) from fun k => k.1 hd), if_neg (show ¬ (¬ p.toNat ∣ V p (cf a) q ∧ n + 1 ≤ V p (cf a) q) from fun k => k.1 hd)]; omega
  · rw [if_neg hd]
    by_cases h1 : n + 1 ≤ V p (cf a) q
    · rw [if_pos ⟨hd, by omega⟩, if_pos ⟨hd, h1⟩]; omega
    · rw [if_neg (fun k => h1 k.2 : ¬ (¬ p.toNat ∣ V p (cf a) q ∧ n + 1 ≤ V p (cf a) q))]
      split <;> omega
theorem TS.le {p : Int} {a once left : List Int} {n : Nat} (hp : Pr p) (h : TS p a n once left) (q : Ser) (hq : Irr p q) : V p (cf (bezG p (cf once) (cf left))) q ≤ V p (cf once) q := by
  rw [(mn_gcd hp h.m1 h.m2).2.2 q hq]; omega
theorem TS.part {p : Int} {a once left : List Int} {n : Nat} (hp : Pr p) (h : TS p a n once left) (hl : (bezG p (cf once) (cf left)).length < once.length) :
    IsOwn p a n (quoL p (cf once) (cf (bezG p (cf once) (cf left)))) ∧ quoL p (cf once) (cf (bezG p (cf once) (cf left))) ≠ [1] ∧ ¬ p.toNat ∣ n ∧ (quoL p (cf once) (cf (bezG p (cf once) (cf left)))).length ≤ a.length := by
  obtain ⟨g1, g2, g3⟩ := h.more hp
  obtain ⟨q1, q2, q3⟩ := mn_quo hp h.m1 g1 (h.le hp)
  have hne : quoL p (cf once) (cf (bezG p (cf once) (cf left))) ≠ [1] := fun e => by rw [e] at q2; simp at q2; omega
  have hv : ∀ q, Irr p q → V p (cf (quoL p (cf once) (cf (bezG p (cf once) (cf left))))) q = if ¬ p.toNat ∣ V p (cf a) q ∧ V p (cf a) q = n then 1 else 0 := fun q hq => by
    rw [q3 q hq, g3 q hq, h.v1 q hq]
    by_cases hd : p.toNat ∣ V p (cf a) q
    · rw [if_neg (fun k => k.1 hd), if_neg (fun k => k.1 hd), if_neg (fun k => k.1 hd)]
    · by_cases h1 : n + 1 ≤ V p (cf a) q
      · rw [if_pos ⟨hd, by omega⟩, if_pos ⟨hd, h1⟩, if_neg (fun k => by omega)]
      · rw [if_neg (fun k => h1 k.2 : ¬ (¬ p.toNat ∣ V p (cf a) q ∧ n + 1 ≤ V p (cf a) q))]
        by_cases h2 : n ≤ V p (cf a) q
        · rw [if_pos ⟨hd, h2⟩, if_pos ⟨hd, by omega⟩]
        · rw [if_neg (fun k => h2 k.2), if_neg (fun k => by omega)]
  have hnd : ¬ p.toNat ∣ n := by
    obtain ⟨q, hq, h1⟩ := q1.some_V hp (fun e => hne ((q1.one_iff hp).1 e))
    rw [hv q hq] at h1
    refine fun hc => ?_
    rw [if_neg (fun k => k.1 (k.2 ▸ hc))] at h1
    omega
  have := g1.pos
  have := h.l1
  refine ⟨⟨q1, fun q hq => ?_⟩, hne, hnd, by omega⟩
  rw [hv q hq]
  by_cases e : V p (cf a) q = n
  · rw [if_pos e, if_pos ⟨by rw [e]; exact hnd, e⟩]
  · rw [if_neg e, if_neg (fun k => e k.2)]
theorem TS.none {p : Int} {a once left : List Int} {n : Nat} (hp : Pr p) (h : TS p a n once left) (hl : ¬ (bezG p (cf once) (cf left)).length < once.length) :
    ∀ q, Irr p q → ¬ p.toNat ∣ V p (cf a) q → V p (cf a) q ≠ n := by
  obtain ⟨g1, g2, g3⟩ := h.more hp
  have e := g1.len_eq hp h.m1 (h.le hp) (by omega)
  intro q hq hd hn
  have h1 := g3 q hq
  rw [e, h.v1 q hq, if_pos (show ¬ p.toNat ∣ V p (cf a) q ∧ n ≤ V p (cf a) q from ⟨hd, by omega⟩), if_neg (show ¬ (¬ p.toNat ∣ V p (cf a) q ∧ n + 1 ≤ V p (cf a) q) from fun k => by have := k.2; omega)] at h1
  omega
theorem TS.next {p : Int} {a once left : List Int} {n : Nat} (hp : Pr p) (h : TS p a n once left) :
    TS p a (n + 1) (bezG p (cf once) (cf left)) (quoL p (cf left) (cf (bezG p (cf once) (cf left)))) := by
  obtain ⟨g1, g2, g3⟩ := h.more hp
  have hle : ∀ q, Irr p q → V p (cf (bezG p (cf once) (cf left))) q ≤ V p (cf left) q := fun q hq => by
    rw [(mn_gcd hp h.m1 h.m2).2.2 q hq]; omega
  obtain ⟨q1, q2, q3⟩ := mn_quo hp h.m2 g1 hle
  have := g1.pos
  have := h.l1
  have := h.l2
  refine ⟨g1, g3, q1, fun q hq => ?_, by omega, by omega⟩
  rw [q3 q hq, g3 q hq, h.v2 q hq]
  by_cases hd : p.toNat ∣ V p (cf a) q
  · rw [if_pos hd, if_neg (fun k => k.1 hd), if_pos hd, Nat.sub_zero]
  · rw [if_neg hd, if_neg hd]
    by_cases h1 : n + 1 ≤ V p (cf a) q
    · rw [if_pos ⟨hd, h1⟩]; omega
    · rw [if_neg (fun k => h1 k.2)]; omega
theorem TS.lt {p : Int} {a once left : List Int} {n : Nat} (hp : Pr p) (ha : Mn p a) (h : TS p a n once left) (h1 : once.length ≠ 1) : n < a.length := by
  obtain ⟨q, hq, hv⟩ := h.m1.some_V hp h1
  have := ha.V_lt hp hq
  rw [h.v1 q hq] at hv
  by_cases hc : ¬ p.toNat ∣ V p (cf a) q ∧ n ≤ V p (cf a) q
  · omega
  · rw [if_neg hc] at hv; omega
structure ToldAll (p : Int) (a : List Int) (F : PL) (left : List Int) : Prop where
  up : (F.map (·.2)).Pairwise (· < ·)
  own : ∀ x ∈ F, 1 ≤ x.2 ∧ x.2 < a.length ∧ ¬ p.toNat ∣ x.2 ∧ IsOwn p a x.2 x.1 ∧ x.1 ≠ [1]
  all : ∀ q, Irr p q → ¬ p.toNat ∣ V p (cf a) q → ∃ x ∈ F, x.2 = V p (cf a) q
  m2 : Mn p left
  v2 : ∀ q, Irr p q → V p (cf left) q = if p.toNat ∣ V p (cf a) q then V p (cf a) q else 0
  l2 : left.length ≤ a.length
theorem TS.told {p : Int} {a once left : List Int} {n : Nat} {F : PL} (hp : Pr p) (ha : Mn p a) (h : TS p a n once left) (k : Told p a n F) (h1 : once.length = 1) : ToldAll p a F left := by
  have hz := (h.m1.len_one hp).1 h1
  have hlt : ∀ q, Irr p q → ¬ p.toNat ∣ V p (cf a) q → V p (cf a) q < n := fun q hq hd => by
    have := hz q hq
    rw [h.v1 q hq] at this
    refine Nat.lt_of_not_le fun hc => ?_
    rw [if_pos ⟨hd, hc⟩] at this
    omega
  refine ⟨k.up, fun x hx => ?_, fun q hq hd => k.all q hq hd (hlt q hq hd), h.m2, fun q hq => ?_, h.l2⟩
  · obtain ⟨a1, a2, a3, a4, a5⟩ := k.own x hx
    obtain ⟨q, hq, hv⟩ := own_some hp a4 a5
    have := ha.V_lt hp hq
    exact ⟨a1, by omega, a3, a4, a5⟩
  · rw [h.v2 q hq]
    by_cases hd : p.toNat ∣ V p (cf a) q
    · rw [if_pos hd, if_pos hd]
    · rw [if_neg hd, if_neg hd]
      have := hlt q hq hd
      omega

structure Upto (p : Int) (m : List Int) (k : Nat) (A : PL) : Prop where
  nd : (A.map (·.2)).Nodup
  own : ∀ x ∈ A, 1 ≤ x.2 ∧ x.2 < m.length ∧ ¬ p.toNat ^ k ∣ x.2 ∧ IsOwn p m x.2 x.1 ∧ x.1 ≠ [1]
  all : ∀ q, Irr p q → ¬ p.toNat ^ k ∣ V p (cf m) q → ∃ x ∈ A, x.2 = V p (cf m) q
theorem upto_start (p : Int) (m : List Int) : Upto p m 0 [] :=
  ⟨List.nodup_nil, fun _ h => (List.not_mem_nil h).elim, fun _ _ hn => absurd (by rw [Nat.pow_zero]; exact Nat.one_dvd _) hn⟩
structure LV (p : Int) (m : List Int) (k : Nat) (a : List Int) : Prop where
  mn : Mn p a
  v : ∀ q, Irr p q → V p (cf a) q = if p.toNat ^ k ∣ V p (cf m) q then V p (cf m) q / p.toNat ^ k else 0
  l : (a.length - 1) * p.toNat ^ k ≤ m.length - 1
theorem lv_start {p : Int} {m : List Int} (h : Mn p m) : LV p m 0 m :=
  ⟨h, fun q _ => by rw [Nat.pow_zero, if_pos (Nat.one_dvd _), Nat.div_one], by rw [Nat.pow_zero, Nat.mul_one]; exact Nat.le_refl _⟩
theorem LV.next {p : Int} {m a left : List Int} {k : Nat} {F : PL} (hp : Pr p) (h : LV p m k a) (t : ToldAll p a F left) :
    LV p m (k + 1) (rootL p.toNat left) ∧ left.length - 1 = p.toNat * ((rootL p.toNat left).length - 1) := by
  have h2 := hp.1
  have hP : 0 < p.toNat := by omega
  have hPk : 0 < p.toNat ^ k := Nat.pow_pos hP
  have hd : ∀ q, Irr p q → p.toNat ∣ V p (cf left) q := fun q hq => by
    rw [t.v2 q hq]
    split
    · assumption
    · exact Nat.dvd_zero _
  obtain ⟨r1, r2, r3⟩ := mn_root hp t.m2 hd
  refine ⟨⟨r1, fun q hq => ?_, ?_⟩, r2⟩
  · have e := r3 q hq
    rw [t.v2 q hq, h.v q hq] at e
    generalize V p (cf m) q = v at *
    generalize V p (cf (rootL p.toNat left)) q = u at *
    by_cases c1 : p.toNat ^ k ∣ v
    · rw [if_pos c1] at e
      obtain ⟨j, rfl⟩ := c1
      rw [Nat.mul_div_cancel_left _ hPk] at e
      by_cases c2 : p.toNat ∣ j
      · rw [if_pos c2] at e
        obtain ⟨i, rfl⟩ := c2
        rw [← Nat.mul_assoc, ← Nat.pow_succ, if_pos (Nat.dvd_mul_right _ _), Nat.mul_div_cancel_left _ (Nat.pow_pos hP)]
        exact (Nat.eq_of_mul_eq_mul_left hP e).symm
      · rw [if_neg c2] at e
        rw [if_neg (fun c => c2 (Nat.dvd_of_mul_dvd_mul_left hPk (by rw [← Nat.pow_succ]; exact c)))]
        rcases Nat.mul_eq_zero.1 e.symm with e1 | e1
        · omega
        · exact e1
    · rw [if_neg c1, if_pos (Nat.dvd_zero _)] at e
      rw [if_neg (fun c => c1 (Nat.dvd_trans (Nat.pow_dvd_pow _ (Nat.le_succ k)) c))]
      rcases Nat.mul_eq_zero.1 e.symm with e1 | e1
      · omega
      · exact e1
  · have l2 := t.l2
    have l3 : left.length - 1 ≤ a.length - 1 := by omega
    have := Nat.mul_le_mul_right (p.toNat ^ k) l3
    rw [r2] at this
    rw [Nat.pow_succ, Nat.mul_comm (p.toNat ^ k), ← Nat.mul_assoc, Nat.mul_comm _ p.toNat]
    exact Nat.le_trans this h.l
def lift (K : Nat) (x : List Int × Nat) : List Int × Nat := (x.1, x.2 * K)
theorem LV.own {p : Int} {m a : List Int} {k : Nat} (hp : Pr p) (h : LV p m k a) {n : Nat} {ys : List Int} (h1 : 1 ≤ n) (ho : IsOwn p a n ys) : IsOwn p m (n * p.toNat ^ k) ys := by
  have hPk : 0 < p.toNat ^ k := Nat.pow_pos (by have := hp.1; omega)
  refine ⟨ho.1, fun q hq => ?_⟩
  rw [ho.2 q hq, h.v q hq]
  generalize V p (cf m) q = v at *
  by_cases c : p.toNat ^ k ∣ v
  · rw [if_pos c]
    obtain ⟨j, rfl⟩ := c
    rw [Nat.mul_div_cancel_left _ hPk]
    by_cases e : j = n
    · rw [if_pos e, if_pos (by rw [e, Nat.mul_comm])]
    · rw [if_neg e, if_neg (fun c => e (Nat.eq_of_mul_eq_mul_left hPk (by rw [c, Nat.mul_comm])))]
  · rw [if_neg c, if_neg (by omega), if_neg (fun e => c (by rw [e]; exact Nat.dvd_mul_left _ _))]
theorem LV.num {p : Int} {m a : List Int} {k n : Nat} (h : LV p m k a) (hm : 1 ≤ m.length) (hn : n < a.length) : n * p.toNat ^ k < m.length := by
  have := Nat.mul_le_mul_right (p.toNat ^ k) (show n ≤ a.length - 1 by omega)
  have := h.l
  omega
theorem Upto.step {p : Int} {m a left : List Int} {k : Nat} {F A : PL} (hp : Pr p) (hm : Mn p m) (h : LV p m k a) (t : ToldAll p a F left) (u : Upto p m k A) : Upto p m (k + 1) (A ++ F.map (lift (p.toNat ^ k))) := by
  have hP : 0 < p.toNat := by have := hp.1; omega
  have hPk : 0 < p.toNat ^ k := Nat.pow_pos hP
  refine ⟨?_, fun x hx => ?_, fun q hq hd => ?_⟩
  · rw [List.map_append, List.nodup_append]
    refine ⟨u.nd, ?_, fun x hx y hy => ?_⟩
    · rw [List.map_map]
      have e : ((fun x : List Int × Nat => x.2) ∘ lift (p.toNat ^ k)) = (fun n => n * p.toNat ^ k) ∘ (fun x : List Int × Nat => x.2) := rfl
      rw [e, ← List.map_map]
      have := t.up
      refine (List.pairwise_map.2 (this.imp fun {i j} (hij : i < j) => ?_))
      exact fun c => Nat.ne_of_lt hij (Nat.eq_of_mul_eq_mul_right hPk c)
    · obtain ⟨x, hx', rfl⟩ := List.mem_map.1 hx
      obtain ⟨y', hy', rfl⟩ := List.mem_map.1 hy
      obtain ⟨z, hz, rfl⟩ := List.mem_map.1 hy'
      intro e
      refine (u.own x hx').2.2.1 ?_
      rw [e]
      exact Nat.dvd_mul_left _ _
  · rcases List.mem_append.1 hx with hx | hx
    · obtain ⟨a1, a2, a3, a4⟩ := u.own x hx
      exact ⟨a1, a2, fun c => a3 (Nat.dvd_trans (Nat.pow_dvd_pow _ (Nat.le_succ k)) c), a4⟩
    · obtain ⟨z, hz, rfl⟩ := List.mem_map.1 hx
      obtain ⟨a1, a2, a3, a4, a5⟩ := t.own z hz
      refine ⟨Nat.mul_pos a1 hPk, h.num hm.pos a2, fun c => a3 ?_, h.own hp a1 a4, a5⟩
      refine Nat.dvd_of_mul_dvd_mul_left hPk ?_
      rw [← Nat.pow_succ, Nat.mul_comm _ z.2]
      exact c
  · by_cases c : p.toNat ^ k ∣ V p (cf m) q
    · have hv := h.v q hq
      rw [if_pos c] at hv
      obtain ⟨j, hj⟩ := c
      rw [hj, Nat.mul_div_cancel_left _ hPk] at hv
      obtain ⟨x, hx, e⟩ := t.all q hq (fun c => hd (by
        rw [hj, Nat.pow_succ]
        exact Nat.mul_dvd_mul_left _ (hv ▸ c)))
      refine ⟨lift (p.toNat ^ k) x, List.mem_append.2 (.inr (List.mem_map.2 ⟨x, hx, rfl⟩)), ?_⟩
      show x.2 * p.toNat ^ k = _
      rw [e, hv, hj, Nat.mul_comm]
    · obtain ⟨x, hx, e⟩ := u.all q hq c
      exact ⟨x, List.mem_append.2 (.inl hx), e⟩
theorem Upto.whole {p : Int} {m a left : List Int} {k : Nat} {F A L : PL} (hp : Pr p) (h : LV p m k a) (t : ToldAll p a F left) (u : Upto p m (k + 1) A) (hl : left.length = 1) (hperm : L.Perm A) (hs : (L.map (·.2)).Pairwise (· ≤ ·)) : IsParts p m L := by
  have hP : 0 < p.toNat := by have := hp.1; omega
  have hPk : 0 < p.toNat ^ k := Nat.pow_pos hP
  have hnd : (L.map (·.2)).Nodup := (hperm.map _).nodup_iff.2 u.nd
  refine ⟨(hs.and hnd).imp fun {i j} (hij : i ≤ j ∧ i ≠ j) => Nat.lt_of_le_of_ne hij.1 hij.2, fun x hx => ?_, fun q hq h1 => ?_⟩
  · obtain ⟨a1, _, _, a4⟩ := u.own x (hperm.mem_iff.1 hx)
    exact ⟨a1, a4⟩
  · obtain ⟨x, hx, e⟩ := u.all q hq (fun c => by
      have hz := (t.m2.len_one hp).1 hl q hq
      have c1 : p.toNat ^ k ∣ V p (cf m) q := Nat.dvd_trans (Nat.pow_dvd_pow _ (Nat.le_succ k)) c
      have hv := h.v q hq
      rw [if_pos c1] at hv
      obtain ⟨j, hj⟩ := c
      rw [hj, Nat.pow_succ, Nat.mul_assoc, Nat.mul_div_cancel_left _ hPk] at hv
      rw [t.v2 q hq, hv, if_pos (Nat.dvd_mul_right _ _)] at hz
      have : j = 0 := by
        rcases Nat.mul_eq_zero.1 hz with e | e
        · omega
        · exact e
      rw [hj, this] at h1
      simp at h1)
    exact ⟨x, hperm.mem_iff.2 hx, e⟩

/-! What the document does. -/
structure DTold (p : Int) (m : List Int) (n : Nat) (F : PL) : Prop where
  up : (F.map (·.2)).Pairwise (· < ·)
  own : ∀ x ∈ F, 1 ≤ x.2 ∧ x.2 < n ∧ IsOwn p m x.2 x.1 ∧ x.1 ≠ [1]
  all : ∀ q, Irr p q → 1 ≤ V p (cf m) q → V p (cf m) q < n → ∃ x ∈ F, x.2 = V p (cf m) q
theorem DTold.snoc {p : Int} {m : List Int} {n : Nat} {F : PL} {ys : List Int} (h : DTold p m n F) (h1 : 1 ≤ n) (ho : IsOwn p m n ys) (hn : ys ≠ [1]) : DTold p m (n + 1) (F ++ [(ys, n)]) := by
  refine ⟨pairwise_snoc h.up (fun x hx => (h.own x hx).2.1) rfl, fun x hx => ?_, fun q hq hv hlt => ?_⟩
  · rcases List.mem_append.1 hx with hx | hx
    · obtain ⟨a1, a2, a3⟩ := h.own x hx
      exact ⟨a1, by omega, a3⟩
    · rw [List.mem_singleton.1 hx]
      exact ⟨h1, Nat.lt_succ_self n, ho, hn⟩
  · by_cases e : V p (cf m) q = n
    · exact ⟨(ys, n), by simp, e.symm⟩
    · obtain ⟨x, hx, e2⟩ := h.all q hq hv (by omega)
      exact ⟨x, by simp [hx], e2⟩
theorem DTold.skip {p : Int} {m : List Int} {n : Nat} {F : PL} (hp : Pr p) (h : DTold p m n F) (ho : IsOwn p m n [1]) : DTold p m (n + 1) F :=
  ⟨h.up, fun x hx => by obtain ⟨a1, a2, a3⟩ := h.own x hx; exact ⟨a1, by omega, a3⟩, fun q hq hv hlt => h.all q hq hv (by
    have h1 := ho.2 q hq
    rw [V_one hp hq] at h1
    rcases Nat.lt_or_ge (V p (cf m) q) n with c | c
    · exact c
    · rw [if_pos (by omega)] at h1
      omega)⟩
structure DS (p : Int) (m : List Int) (n : Nat) (left : List Int) : Prop where
  mn : Mn p left
  v : ∀ q, Irr p q → V p (cf left) q = V p (cf m) q - (n - 1)
  l : left.length ≤ m.length
theorem DS.next {p : Int} {m left r : List Int} {n : Nat} (hp : Pr p) (h : DS p m n left) (h1 : 1 ≤ n) (hr : IsRad p left r) : DS p m (n + 1) (quoL p (cf left) (cf r)) := by
  have hle : ∀ q, Irr p q → V p (cf r) q ≤ V p (cf left) q := fun q hq => by rw [hr.2 q hq]; omega
  obtain ⟨q1, q2, q3⟩ := mn_quo hp h.mn hr.1 hle
  have := hr.1.pos
  have := h.l
  refine ⟨q1, fun q hq => ?_, by omega⟩
  rw [q3 q hq, hr.2 q hq, h.v q hq]
  omega
theorem DS.own {p : Int} {m left r r' : List Int} {n : Nat} (hp : Pr p) (h : DS p m n left) (h1 : 1 ≤ n) (hr : IsRad p left r) (hr' : IsRad p (quoL p (cf left) (cf r)) r') : IsOwn p m n (quoL p (cf r) (cf r')) ∧ (quoL p (cf r) (cf r')).length ≤ r.length := by
  have hn := h.next hp h1 hr
  have hle : ∀ q, Irr p q → V p (cf r') q ≤ V p (cf r) q := fun q hq => by
    rw [hr.2 q hq, hr'.2 q hq, hn.v q hq, h.v q hq]; omega
  obtain ⟨q1, q2, q3⟩ := mn_quo hp hr.1 hr'.1 hle
  have := hr'.1.pos
  refine ⟨⟨q1, fun q hq => ?_⟩, by omega⟩
  rw [q3 q hq, hr.2 q hq, hr'.2 q hq, hn.v q hq, h.v q hq]
  split <;> omega
theorem DS.lt {p : Int} {m left : List Int} {n : Nat} (hp : Pr p) (hm : Mn p m) (h : DS p m n left) (h1 : left.length ≠ 1) : n < m.length := by
  obtain ⟨q, hq, hv⟩ := h.mn.some_V hp h1
  have := hm.V_lt hp hq
  rw [h.v q hq] at hv
  omega
theorem DS.whole {p : Int} {m left : List Int} {n : Nat} {F : PL} (hp : Pr p) (h : DS p m n left) (k : DTold p m n F) (h1 : left.length = 1) (hn : 1 ≤ n) : IsParts p m F := by
  have hz := (h.mn.len_one hp).1 h1
  refine ⟨k.up, fun x hx => ?_, fun q hq hv => k.all q hq hv ?_⟩
  · obtain ⟨a1, _, a3⟩ := k.own x hx
    exact ⟨a1, a3⟩
  · have := hz q hq
    rw [h.v q hq] at this
    omega

structure WO (p : Int) (a0 b a : List Int) : Prop where
  mn : Mn p a
  le : ∀ q, Irr p q → V p (cf a) q ≤ V p (cf a0) q
  eq : ∀ q, Irr p q → V p (cf b) q = 0 → V p (cf a) q = V p (cf a0) q
  l : a.length ≤ a0.length
theorem WO.next {p : Int} {a0 a b : List Int} (hp : Pr p) (hb : Mn p b) (h : WO p a0 b a) : WO p a0 b (quoL p (cf a) (cf (bezG p (cf a) (cf b)))) ∧ ((bezG p (cf a) (cf b)).length ≠ 1 → (quoL p (cf a) (cf (bezG p (cf a) (cf b)))).length < a.length) := by
  obtain ⟨g1, g2, g3⟩ := mn_gcd hp h.mn hb
  obtain ⟨q1, q2, q3⟩ := mn_quo hp h.mn g1 (fun q hq => by rw [g3 q hq]; omega)
  have := g1.pos
  have := h.l
  refine ⟨⟨q1, fun q hq => ?_, fun q hq hz => ?_, by omega⟩, fun hn => by omega⟩
  · have := h.le q hq
    rw [q3 q hq]; omega
  · rw [q3 q hq, g3 q hq, hz, h.eq q hq hz]; omega
theorem WO.done {p : Int} {a0 a b : List Int} (hp : Pr p) (hb : Mn p b) (h : WO p a0 b a) (h1 : (bezG p (cf a) (cf b)).length = 1) : ∀ q, Irr p q → V p (cf a) q = if V p (cf b) q = 0 then V p (cf a0) q else 0 := by
  obtain ⟨g1, g2, g3⟩ := mn_gcd hp h.mn hb
  have hz := (g1.len_one hp).1 h1
  intro q hq
  by_cases e : V p (cf b) q = 0
  · rw [if_pos e, h.eq q hq e]
  · rw [if_neg e]
    have := hz q hq
    rw [g3 q hq] at this
    omega

theorem sqf_gcd {p : Int} {m : List Int} (hp : Pr p) (h : Mn p m) : (bezG p (cf m) (cf (polL p (Ser.der (cf m))))).length = 1 ↔ Sqf p m := by
  have h2 := hp.1
  obtain ⟨g1, g2, g3⟩ := mn_gcdD hp h
  rw [g1.len_one hp]
  constructor
  · intro k q hq
    have := k q hq
    rw [g3 q hq] at this
    by_cases hd : p.toNat ∣ V p (cf m) q
    · rw [if_pos hd] at this; omega
    · rw [if_neg hd] at this; omega
  · intro k q hq
    have := k q hq
    rw [g3 q hq]
    by_cases hd : p.toNat ∣ V p (cf m) q
    · rw [if_pos hd]
      rcases Nat.eq_zero_or_pos (V p (cf m) q) with e | e
      · exact e
      · have := Nat.le_of_dvd e hd
        omega
    · rw [if_neg hd]; omega
end Go.Proofs.YtnkhhndjbanmnaaGreatDoor

/- fsqf's small calls by contract: what it takes from fpoly, and whether a polynomial is constant. -/
namespace Go.Proofs.YtnkhhndjbanmnaaGreatDoor
open Go.RowKit

theorem below_to {w w1 w2 : World} (h : Below w.heap.size w w1) (k : Below w1.heap.size w1 w2) : Below w.heap.size w w2 := h.trans (k.mono h.size)
theorem Got.isl {W w' : World} {C : Option Addr} {m d : Nat} {L : List Int} {N : Nat} (g : Got W C m d L N w') : ISl w' C m d L := g.1
theorem Got.bel {W w' : World} {C : Option Addr} {m d : Nat} {L : List Int} {N : Nat} (g : Got W C m d L N w') : Below W.heap.size W w' := g.2.2

set_option maxRecDepth 100000 in
set_option maxRecDepth 100000 in
set_option maxHeartbeats 400000 in
theorem fGcd (A B : Option Addr) (n c n' c' : Nat) (xs ys : List Int) (p : Int) (w : World) (hT : TabAt w) (h : ISl w A n c xs) (h' : ISl w B n' c' ys) (ip : In64 p) (hn : n ≤ 1000) (hn' : n' ≤ 1000) :
    Calls Tryz.prog 103 #[.slice A n c, .slice B n' c', .int .i64 p] w fun e w' => ∃ C m d, e = .returned (.slice C m d) ∧ Got w C m d (bezG p (cf xs) (cf ys)) 2000000 w' ∧ FreshA w C := by
  have CC := Lib.hid (cGcd_new A B n c n' c' xs ys p w hT h h' ip hn hn')
  generalize chk p = u at *
  clear h h' ip hn hn' hT
  go_enter Tryz.func103, Tryz.ntmps103
  go_wp2_with (go_at_call 118; (with_reducible refine CC.out.mono ?_); rintro e w' ⟨C, m, d, rfl, hg, hf⟩)
  go_ret
  exact ⟨C, m, d, rfl, hg, hf⟩
set_option maxRecDepth 100000 in
set_option maxRecDepth 100000 in
set_option maxHeartbeats 400000 in
theorem fQuo (A B : Option Addr) (n c n' c' : Nat) (xs ys : List Int) (p : Int) (w : World) (hT : TabAt w) (h : ISl w A n c xs) (h' : ISl w B n' c' ys) (ip : In64 p) (hn : n ≤ 1000) (hn' : n' ≤ 1000) :
    Calls Tryz.prog 133 #[.slice A n c, .slice B n' c', .int .i64 p] w fun e w' => ∃ C m d, e = .returned (.slice C m d) ∧ Got w C m d (quoL p (cf xs) (cf ys)) (n + 1) w' ∧ FreshA w C := by
  have CC := Lib.hid (cDiv_new A B n c n' c' xs ys p w hT h h' ip (by omega) (by omega))
  generalize ediv p (cf ys) = u at *
  clear h h' ip hn hn' hT
  go_enter Tryz.func133, Tryz.ntmps133
  go_wp2_with (go_at_call 87; (with_reducible refine CC.out.mono ?_); rintro e w' ⟨C, m, d, C', m', d', rfl, hg, -, hf, -⟩)
  go_ret
  exact ⟨C, m, d, rfl, hg, hf⟩
set_option maxRecDepth 100000 in
set_option maxRecDepth 100000 in
set_option maxHeartbeats 400000 in
theorem fDer (A : Option Addr) (n c : Nat) (xs : List Int) (p : Int) (w : World) (hT : TabAt w) (h : ISl w A n c xs) (ip : In64 p) (hn : n ≤ 1000) :
    Calls Tryz.prog 104 #[.slice A n c, .int .i64 p] w fun e w' => ∃ C m d, e = .returned (.slice C m d) ∧ Got w C m d (polL p (Ser.der (cf xs))) n w' := by
  have CC := Lib.hid (cDeriv A n c xs p w hT h ip (by omega))
  generalize chk p = u at *
  clear h ip hn hT
  go_enter Tryz.func104, Tryz.ntmps104
  go_wp2_with (go_at_call 145; (with_reducible refine CC.out.mono ?_); rintro e w' ⟨C, m, d, rfl, hg⟩)
  go_ret
  exact ⟨C, m, d, rfl, hg⟩
def oneB (n : Nat) : Bool := ((n : Int) == 1)
theorem oneB_yes {n : Nat} (h : n = 1) : oneB n = true := by subst h; rfl
theorem oneB_no {n : Nat} (h : n ≠ 1) : oneB n = false := by unfold oneB; simp; omega
set_option maxRecDepth 100000 in
set_option maxRecDepth 100000 in
set_option maxHeartbeats 400000 in
theorem fConst (A : Option Addr) (n c : Nat) (w : World) :
    Calls Tryz.prog 83 #[.slice A n c] w fun e w' => e = .returned (.bool (oneB n)) ∧ w = w' := by
  unfold oneB
  go_enter Tryz.func83, Tryz.ntmps83
  go_wp2_with fail
  go_ret
  exact ⟨rfl, rfl⟩

noncomputable def esq (p : Int) (f : Ser) : Int := if primB p = true then (if noB p f = true then 8 else 0) else 1
theorem esq_no {p : Int} {f : Ser} (h : ¬ Pr p) : esq p f = 1 := if_neg (by rw [primB_no h]; decide)
theorem esq_zero {p : Int} {f : Ser} (h : Pr p) (hb : Ser.Bd p f 0) : esq p f = 8 := by unfold esq; rw [if_pos (primB_yes h), if_pos (noB_yes hb)]
theorem esq_yes {p : Int} {f : Ser} (h : Pr p) (hb : ¬ Ser.Bd p f 0) : esq p f = 0 := by unfold esq; rw [if_pos (primB_yes h), noB_no hb]; rfl
theorem monL_zero {p : Int} {f : Ser} (hp : Pr p) (hb : Ser.Bd p f 0) : monL p f = [] :=
  monL_is (g := Ser.zer) hp (.inl ⟨hb, fun i _ => by simp [Ser.zer]⟩) ⟨Pln.nil p, fun i => by rw [cf_nil]; rfl⟩
theorem last_cf {p : Int} {xs : List Int} (hb : ¬ Ser.Bd p (cf xs) 0) : ∃ m, Last p (cf xs) m ∧ m < xs.length := by
  obtain ⟨m, hm⟩ := last_of hb (fini_cf p xs)
  refine ⟨m, hm, Nat.lt_of_not_le fun hc => hm.2 ?_⟩
  rw [cf_over hc]; simp
theorem mn_monL {p : Int} {xs : List Int} (hp : Pr p) (hb : ¬ Ser.Bd p (cf xs) 0) : Mn p (monL p (cf xs)) ∧ (monL p (cf xs)).length ≤ xs.length ∧ ∀ q, Irr p q → V p (cf (monL p (cf xs))) q = V p (cf xs) q := by
  obtain ⟨m, hm, hl⟩ := last_cf hb
  obtain ⟨h1, h2, _, h4⟩ := mn_mon hp hm
  exact ⟨h1, by omega, h4⟩

set_option maxRecDepth 100000 in
set_option maxRecDepth 100000 in
set_option maxHeartbeats 1000000 in
theorem fMon (A : Option Addr) (n c : Nat) (xs : List Int) (p : Int) (w : World) (hT : TabAt w) (h : ISl w A n c xs) (ip : In64 p) (hn : n ≤ 1000) :
    Calls Tryz.prog 53 #[.slice A n c, .int .i64 p] w fun e w' => ∃ C m d, e = .returned (.tuple #[.slice C m d, .int .i64 (esq p (cf xs))]) ∧ Got w C m d (monL p (cf xs)) (n + 1) w' := by
  have CM := cMonic A n c xs p w hT h ip (by omega)
  rcases Classical.em (Pr p) with hp | hp
  · rw [chk_yes (primB_yes hp)] at CM
    have CC := Lib.hid CM
    rcases Classical.em (Ser.Bd p (cf xs) 0) with hb | hb
    · have E := Lib.hid (monL_zero hp hb)
      rw [esq_zero hp hb]
      clear CM h ip hT hp hb
      go_enter Tryz.func53, Tryz.ntmps53
      go_wp2_with (go_at_call 52; (with_reducible refine CC.out.mono ?_); rintro e w' ⟨C, m, d, rfl, hg⟩; obtain rfl : m = 0 := by { have := hg.isl.len; rw [E.out] at this; exact this }; have HB := Lib.hid hg.bel; clear hg)
      go_ret2
      exact ⟨none, 0, 0, rfl, got_nil HB.out E.out⟩
    · obtain ⟨m1, _, _⟩ := mn_monL hp hb
      have E := Lib.hid m1.pos
      rw [esq_yes hp hb]
      clear CM h ip hT hp hb m1
      go_enter Tryz.func53, Tryz.ntmps53
      go_wp2_with (go_at_call 52; (with_reducible refine CC.out.mono ?_); rintro e w' ⟨C, m, d, rfl, hg⟩; have hm : ((m : Int) == 0) = false := by { have := hg.isl.len; have := E.out; simp; omega }; have HG := Lib.hid hg; clear hg)
      go_ret2
      exact ⟨C, m, d, rfl, HG.out⟩
  · rw [chk_no (primB_no hp)] at CM
    have CC := Lib.hid CM
    have E := Lib.hid (monL_no (f := cf xs) hp)
    rw [esq_no hp]
    clear CM h ip hT hp
    go_enter Tryz.func53, Tryz.ntmps53
    go_wp2_with (go_at_call 52; (with_reducible refine CC.out.mono ?_); rintro e w' ⟨C, m, d, rfl, hg⟩; have HB := Lib.hid hg.bel; clear hg)
    go_ret2
    exact ⟨none, 0, 0, rfl, got_nil HB.out E.out⟩
end Go.Proofs.YtnkhhndjbanmnaaGreatDoor

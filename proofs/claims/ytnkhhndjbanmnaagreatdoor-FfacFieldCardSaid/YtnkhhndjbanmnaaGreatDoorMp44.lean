/- Texts joined, in their order: BerM, BerK, FaTri. -/
import Derived.Test.YtnkhhndjbanmnaaGreatDoorMp42
import Derived.Test.YtnkhhndjbanmnaaGreatDoorMp43

/- Trial division: all monic rows in their order. Mathematics alone. -/
namespace Go.Proofs.YtnkhhndjbanmnaaGreatDoor
open Ser (Bd)

/-! Rows as numbers stand in the order of rows. -/
theorem ordN_cons (x y : Int) (xs ys : List Int) : ∀ n, ordN (x :: xs) (y :: ys) (n + 1) = if ordN xs ys n = 0 then cmpZ x y else ordN xs ys n
  | 0 => by
    show (if x = y then (0 : Int) else cmpZ x y) = if (0 : Int) = 0 then cmpZ x y else 0
    rw [if_pos rfl]
    by_cases h : x = y
    · rw [if_pos h]; have := cmpZ_cases x y; omega
    · rw [if_neg h]
  | n + 1 => by
    by_cases h : cf xs n = cf ys n
    · rw [ordN_same h, ← ordN_cons x y xs ys n, ordN_same (a := x :: xs) (b := y :: ys) (n := n + 1) h]
    · rw [ordN_diff h, ordN_diff (a := x :: xs) (b := y :: ys) (n := n + 1) h, if_neg (by have := cmpZ_cases (cf xs n) (cf ys n); omega)]
      rfl
theorem num_ord {p : Int} (hp : 1 ≤ p) : ∀ {xs ys : List Int}, xs.length = ys.length → Dig p xs → Dig p ys → (num p xs = num p ys ∧ ordN xs ys xs.length = 0) ∨ (num p xs < num p ys ∧ ordN xs ys xs.length = -1) ∨ (num p ys < num p xs ∧ ordN xs ys xs.length = 1)
  | [], [], _, _, _ => .inl ⟨rfl, rfl⟩
  | [], _ :: _, h, _, _ => by simp at h
  | _ :: _, [], h, _, _ => by simp at h
  | x :: xs, y :: ys, hl, h, k => by
    have hx := h x (List.mem_cons_self ..)
    have hy := k y (List.mem_cons_self ..)
    have ih := num_ord hp (xs := xs) (ys := ys) (by simpa using hl) (fun z hz => h z (List.mem_cons_of_mem _ hz)) (fun z hz => k z (List.mem_cons_of_mem _ hz))
    rw [List.length_cons, ordN_cons]
    show (x + p * num p xs = y + p * num p ys ∧ _) ∨ (x + p * num p xs < y + p * num p ys ∧ _) ∨ (y + p * num p ys < x + p * num p xs ∧ _)
    generalize num p xs = X at *
    generalize num p ys = Y at *
    rcases ih with ⟨e, ho⟩ | ⟨e, ho⟩ | ⟨e, ho⟩
    · rw [if_pos ho, e]
      have := cmpZ_cases x y
      omega
    · rw [if_neg (by omega), ho]
      have h1 := Int.mul_le_mul_of_nonneg_left (show X + 1 ≤ Y by omega) (show (0 : Int) ≤ p by omega)
      rw [Int.mul_add] at h1
      exact .inr (.inl ⟨by omega, rfl⟩)
    · rw [if_neg (by omega), ho]
      have h1 := Int.mul_le_mul_of_nonneg_left (show Y + 1 ≤ X by omega) (show (0 : Int) ≤ p by omega)
      rw [Int.mul_add] at h1
      exact .inr (.inr ⟨by omega, rfl⟩)
theorem ahd_num {p : Int} (hp : 1 ≤ p) {xs ys : List Int} (hl : xs.length = ys.length) (h : Dig p xs) (k : Dig p ys) (e : num p xs < num p ys) : Ahd xs ys := by
  unfold Ahd ordI
  rw [if_pos hl]
  have := num_ord hp hl h k
  omega
theorem ahd_len {xs ys : List Int} (hl : xs.length < ys.length) : Ahd xs ys := by
  unfold Ahd ordI
  rw [if_neg (by omega)]
  have := cmpZ_cases (xs.length : Int) (ys.length : Int)
  omega
theorem num_snoc (p : Int) : ∀ xs : List Int, num p (xs ++ [1]) = num p xs + p ^ xs.length
  | [] => by
    show 1 + p * 0 = 0 + p ^ 0
    simp
  | x :: xs => by
    show x + p * num p (xs ++ [1]) = x + p * num p xs + p ^ (xs.length + 1)
    rw [num_snoc p xs, Int.mul_add, Int.pow_succ, Int.mul_comm (p ^ xs.length)]
    omega
theorem Mn.dig {p : Int} {f : List Int} (h : Mn p f) : Dig p f := fun x hx => h.1.1 x hx
theorem Mn.snoc {p : Int} {f : List Int} (h : Mn p f) : ∃ ds, f = ds ++ [1] ∧ Dig p ds := by
  obtain ⟨ds, z, rfl⟩ : ∃ ds z, f = ds ++ [z] := ⟨f.dropLast, f.getLast h.2.1, (List.dropLast_concat_getLast h.2.1).symm⟩
  have hz := h.dig z (by simp)
  have h1 := h.2.2.2
  have e : cf (ds ++ [z]) ((ds ++ [z]).length - 1) = z := by
    unfold cf
    rw [List.length_append]
    simp [List.getD_eq_getElem?_getD]
  rw [e, Int.emod_eq_of_lt hz.1 hz.2] at h1
  exact ⟨ds, by rw [h1], fun x hx => h.dig x (List.mem_append.2 (.inl hx))⟩
theorem irr_two {p : Int} {f : List Int} (hm : Mn p f) (h : Irr p (cf f)) : 2 ≤ f.length := by
  obtain ⟨m, h1, h2⟩ := h.last
  have := h2.uniq hm.last
  omega
theorem irr_row {p : Int} {q : List Int} (hp : Pr p) (hq : Mn p q) (h2 : 2 ≤ q.length) : ∃ f, Mn p f ∧ Irr p (cf f) ∧ Mult p (cf f) (cf q) ∧ f.length ≤ q.length := by
  obtain ⟨r, hr, hd⟩ := irr_ex hp _ _ hq.last (by omega)
  have hP := polL_pol hp hr.fini
  obtain ⟨m, _, hm, _⟩ := id hr
  obtain ⟨f1, f2⟩ := mn_of hp hP hm
  have hd2 := hd.eqL hP.2.symm
  refine ⟨_, f1, hr.eq hP.2.symm, hd2, ?_⟩
  have := mult_le hp hq.last f1.last hd2
  have := hq.pos
  have := f1.pos
  omega

/-! Which rows have been tried: all shorter ones, and those of d + 1 coefficients below a number. -/
def Trd (p : Int) (d : Nat) (N : Int) (f : List Int) : Prop := f.length < d + 1 ∨ (f.length = d + 1 ∧ num p f < N)
theorem Trd.mono {p N N' : Int} {d : Nat} {f : List Int} (h : Trd p d N f) (e : N ≤ N') : Trd p d N' f := by
  rcases h with h | ⟨h1, h2⟩
  · exact .inl h
  · exact .inr ⟨h1, by omega⟩
structure Trl (p : Int) (m left : List Int) (out : PL) (d : Nat) (N : Int) : Prop where
  lft : Mn p left
  fct : Fct p out
  vv : ∀ q, Irr p q → vn p q out + V p (cf left) q = V p (cf m) q
  old : ∀ x ∈ out, Trd p d N x.1
  non : ∀ f, Mn p f → Irr p (cf f) → Trd p d N f → V p (cf left) (cf f) = 0
theorem trl_start {p : Int} {m : List Int} (hp : Pr p) (h : Mn p m) : Trl p m m [] 1 0 := by
  refine ⟨h, ⟨fun _ hx => (List.not_mem_nil hx).elim, List.Pairwise.nil⟩, fun q _ => Nat.zero_add _, fun _ hx => (List.not_mem_nil hx).elim, fun f hf hi ht => ?_⟩
  have h2 := irr_two hf hi
  have h0 := num_nonneg (show 1 ≤ p by have := hp.1; omega) hf.dig
  rcases ht with ht | ⟨_, ht⟩ <;> omega
theorem Trl.first {p : Int} {m left : List Int} {out : PL} {d : Nat} (hp : Pr p) (h : Trl p m left out d 0) : Trl p m left out d (num p (List.replicate d 0 ++ [1])) := by
  have hp1 : 1 ≤ p := by have := hp.1; omega
  have e0 : num p (List.replicate d 0 ++ [1]) = p ^ d := by rw [num_snoc, num_zero, List.length_replicate, Int.zero_add]
  have e1 : (0 : Int) ≤ p ^ d := Int.pow_nonneg (by omega)
  rw [e0]
  refine ⟨h.lft, h.fct, h.vv, fun x hx => (h.old x hx).mono e1, fun f hf hi ht => ?_⟩
  rcases ht with ht | ⟨h1, h2⟩
  · exact h.non f hf hi (.inl ht)
  · obtain ⟨ds, rfl, hd⟩ := hf.snoc
    rw [List.length_append] at h1
    have hl : ds.length = d := by simpa using h1
    rw [num_snoc, hl] at h2
    have := num_nonneg hp1 hd
    omega
structure Inn (p : Int) (left q cur : List Int) (n : Nat) : Prop where
  mn : Mn p cur
  v : ∀ r, Irr p r → V p (cf left) r = n * V p (cf q) r + V p (cf cur) r
  len : n + cur.length ≤ left.length
theorem inn_start {p : Int} {left q : List Int} (h : Mn p left) : Inn p left q left 0 := ⟨h, fun r _ => by omega, by omega⟩
theorem rem_no {p : Int} {a b : List Int} (hp : Pr p) (hb : Mn p b) (h : remL p (cf a) (cf b) = []) : Mult p (cf b) (cf a) := by
  obtain ⟨q, r, hq, hd, _, h2⟩ := quo_rem hp hb.last (fini_cf p a)
  rw [h] at h2
  refine ⟨q, hq, hd.1.trans ?_⟩
  refine ((Ser.Eq.refl p _).add (h2.2.symm.trans (g := cf []) (Ser.Eq.refl p _))).trans (Ser.Eq.of ?_)
  rw [show cf [] = Ser.zer from funext fun i => cf_nil i, Ser.add_zer]
theorem Inn.next {p : Int} {left q cur : List Int} {n : Nat} (hp : Pr p) (hq : Mn p q) (h2 : 2 ≤ q.length) (h : Inn p left q cur n) (hr : remL p (cf cur) (cf q) = []) : Inn p left q (quoL p (cf cur) (cf q)) (n + 1) := by
  have hm := rem_no hp hq hr
  have hv : ∀ r, Irr p r → V p (cf q) r ≤ V p (cf cur) r := fun r hi => V_le hp hi hq.last h.mn.last hm
  obtain ⟨m1, m2, m3⟩ := mn_quo hp h.mn hq hv
  refine ⟨m1, fun r hi => ?_, by have := h.len; omega⟩
  rw [h.v r hi, m3 r hi, Nat.succ_mul]
  have := hv r hi
  omega
theorem Trl.irr {p : Int} {m left q cur : List Int} {out : PL} {d n : Nat} (hp : Pr p) (h : Trl p m left out d (num p q)) (hq : Mn p q) (hl : q.length = d + 1) (hd : 1 ≤ d) (hn : 1 ≤ n) (hI : Inn p left q cur n) : Irr p (cf q) := by
  obtain ⟨f, f1, f2, f3, f4⟩ := irr_row hp hq (by omega)
  have hv := hI.v _ f2
  have h1 := (V_pos hp f2 hq.last).1 f3
  have h2 := Nat.mul_le_mul hn h1
  have hno : ¬ Trd p d (num p q) f := fun k => by have := h.non f f1 f2 k; omega
  have hfl : f.length = q.length := Classical.byContradiction fun k => hno (.inl (by omega))
  have hfq : Last p (cf q) (f.length - 1) := by rw [hfl]; exact hq.last
  exact f2.eq (mo_eq hp f1.2.2 hq.2.2 f3 (mult_swap hp f1.last hfq f3))
theorem V_none {p : Int} {a q : List Int} (hp : Pr p) (ha : Mn p a) (hq : Mn p q) (hi : Irr p (cf q)) (hr : remL p (cf a) (cf q) ≠ []) : V p (cf a) (cf q) = 0 :=
  Classical.byContradiction fun k => hr (rem_mult hp hq.last ((V_pos hp hi ha.last).2 (by omega)))
theorem Trl.not_ {p : Int} {m left q : List Int} {out : PL} {d : Nat} (hp : Pr p) (h : Trl p m left out d (num p q)) (hq : Mn p q) (hl : q.length = d + 1) (hr : remL p (cf left) (cf q) ≠ []) : Trl p m left out d (num p q + 1) := by
  refine ⟨h.lft, h.fct, h.vv, fun x hx => (h.old x hx).mono (by omega), fun f hf hi ht => ?_⟩
  by_cases e : num p f = num p q ∧ f.length = d + 1
  · have : f = q := num_inj (show 1 ≤ p by have := hp.1; omega) (by omega) hf.dig hq.dig e.1
    subst this
    exact V_none hp h.lft hf hi hr
  · refine h.non f hf hi ?_
    rcases ht with ht | ⟨h1, h2⟩
    · exact .inl ht
    · exact .inr ⟨h1, by omega⟩
theorem Trl.yes {p : Int} {m left q cur : List Int} {out : PL} {d n : Nat} (hp : Pr p) (h : Trl p m left out d (num p q)) (hq : Mn p q) (hl : q.length = d + 1) (hd : 1 ≤ d) (hn : 1 ≤ n) (hI : Inn p left q cur n) (hr : remL p (cf cur) (cf q) ≠ []) : Trl p m cur (out ++ [(q, n)]) d (num p q + 1) := by
  have hp1 : 1 ≤ p := by have := hp.1; omega
  have hi := h.irr hp hq hl hd hn hI
  refine ⟨hI.mn, ⟨fun x hx => ?_, ?_⟩, fun r hr => ?_, fun x hx => ?_, fun f hf hi2 ht => ?_⟩
  · rcases List.mem_append.1 hx with hx | hx
    · exact h.fct.own x hx
    · rw [List.mem_singleton.1 hx]
      exact ⟨hq, by show 2 ≤ q.length; omega, hi, hn⟩
  · rw [List.pairwise_append]
    refine ⟨h.fct.up, List.pairwise_singleton _ _, fun a ha b hb => ?_⟩
    rw [List.mem_singleton.1 hb]
    show Ahd a.1 q
    rcases h.old a ha with k | ⟨k1, k2⟩
    · exact ahd_len (by omega)
    · exact ahd_num hp1 (by omega) (h.fct.own a ha).1.dig hq.dig k2
  · rw [vn_append, ← h.vv r hr, hI.v r hr]
    show vn p r out + (n * V p (cf q) r + 0) + V p (cf cur) r = _
    omega
  · rcases List.mem_append.1 hx with hx | hx
    · exact (h.old x hx).mono (by omega)
    · rw [List.mem_singleton.1 hx]
      exact .inr ⟨hl, by show num p q < _; omega⟩
  · by_cases e : num p f = num p q ∧ f.length = d + 1
    · have : f = q := num_inj hp1 (by omega) hf.dig hq.dig e.1
      subst this
      exact V_none hp hI.mn hf hi2 hr
    · have h0 := h.non f hf hi2 (by
        rcases ht with ht | ⟨h1, h2⟩
        · exact .inl ht
        · exact .inr ⟨h1, by omega⟩)
      have := hI.v _ hi2
      omega
theorem Trl.last {p : Int} {m left ds : List Int} {out : PL} {d : Nat} (hp : Pr p) (h : Trl p m left out d (num p (ds ++ [1]) + 1)) (hl : ds.length = d) (hd : Dig p ds) (hb : (inc p ds).2 = false) : Trl p m left out (d + 1) 0 := by
  have hp1 : 1 ≤ p := by have := hp.1; omega
  refine ⟨h.lft, h.fct, h.vv, fun x hx => ?_, fun f hf hi ht => ?_⟩
  · rcases h.old x hx with k | ⟨k, _⟩
    · exact .inl (by omega)
    · exact .inl (by omega)
  · have h0 := num_nonneg hp1 hf.dig
    have hlen : f.length < d + 2 := by
      rcases ht with ht | ⟨_, ht⟩ <;> omega
    by_cases e : f.length = d + 1
    · obtain ⟨es, rfl, he⟩ := hf.snoc
      have hel : es.length = d := by rw [List.length_append] at e; simpa using e
      have := inc_last hp1 hd hb es (by omega) he
      refine h.non _ hf hi (.inr ⟨e, ?_⟩)
      rw [num_snoc, num_snoc, hel, hl]
      omega
    · exact h.non f hf hi (.inl (by omega))
theorem mn_row {p : Int} {ds : List Int} (hp : Pr p) (h : Dig p ds) : Mn p (ds ++ [1]) := by
  have h1 := hp.1
  have e : cf (ds ++ [1]) ((ds ++ [1]).length - 1) = 1 := by
    unfold cf
    rw [List.length_append]
    simp [List.getD_eq_getElem?_getD]
  refine ⟨⟨fun x hx => ?_, .inr (by rw [e]; decide)⟩, by simp, ⟨?_, by rw [e]; exact Int.emod_eq_of_lt (by decide) (by omega)⟩⟩
  · rcases List.mem_append.1 hx with hx | hx
    · exact h x hx
    · rw [List.mem_singleton.1 hx]; omega
  · have e9 : (ds ++ [(1 : Int)]).length - 1 + 1 = (ds ++ [(1 : Int)]).length := by simp
    rw [e9]
    exact bd_len p _
theorem Trl.rest {p : Int} {m left : List Int} {out : PL} {d : Nat} (hp : Pr p) (h : Trl p m left out d 0) (hd : left.length ≤ 2 * d) (h2 : 2 ≤ left.length) : Irr p (cf left) := by
  obtain ⟨f, f1, f2, f3, f4⟩ := irr_row hp h.lft h2
  have hdeg : ∀ g, Mn p g → Irr p (cf g) → Mult p (cf g) (cf left) → d + 1 ≤ g.length := fun g g1 g2 g3 => Classical.byContradiction fun k => by
    have := h.non g g1 g2 (.inl (by omega))
    have := (V_pos hp g2 h.lft.last).1 g3
    omega
  have hf := hdeg f f1 f2 f3
  obtain ⟨m1, m2, m3⟩ := mn_quo hp h.lft f1 fun r hr => V_le hp hr f1.last h.lft.last f3
  have hf2 := irr_two f1 f2
  by_cases e : (quoL p (cf left) (cf f)).length = 1
  · have hfl : Last p (cf left) (f.length - 1) := by
      have := h.lft.last
      rw [show left.length - 1 = f.length - 1 by omega] at this
      exact this
    exact f2.eq (mo_eq hp f1.2.2 h.lft.2.2 f3 (mult_swap hp f1.last hfl f3))
  · have hq := m1.pos
    obtain ⟨g, g1, g2, g3, g4⟩ := irr_row hp m1 (by omega)
    have hg := hdeg g g1 g2 ((V_pos hp g2 h.lft.last).2 (by
      have := m3 _ g2
      have := (V_pos hp g2 m1.last).1 g3
      omega))
    omega
theorem Trl.none_ {p : Int} {m left : List Int} {out : PL} {d : Nat} {N : Int} (hp : Pr p) (h : Trl p m left out d N) (h1 : left.length = 1) : FacN p m out :=
  h.fct.facN hp fun q hq => by rw [← h.vv q hq, (h.lft.len_one hp).1 h1 q hq]; rfl
theorem Trl.few {p : Int} {m left : List Int} {out : PL} {d : Nat} {N : Int} (hp : Pr p) (hm : Mn p m) (h : Trl p m left out d N) : out.length + left.length ≤ m.length := by
  obtain ⟨g, g1, g2, g3⟩ := fct_prod hp out fun x hx => ⟨(h.fct.own x hx).1, (h.fct.own x hx).2.1, (h.fct.own x hx).2.2.2⟩
  obtain ⟨m1, m2, m3⟩ := mn_mul hp g1 h.lft
  have := m1.len_le hp hm fun q hq => by rw [m3 q hq, ← h.vv q hq]; exact Nat.add_le_add_right (g3 q hq) _
  have := h.lft.pos
  omega
end Go.Proofs.YtnkhhndjbanmnaaGreatDoor

/- The factors of a product are those of both: how small all is. Mathematics alone. -/
namespace Go.Proofs.YtnkhhndjbanmnaaGreatDoor
open Ser (Bd)

theorem both_eff {p : Int} {xs ys : List Int} (hp : Pr p) (hx : ¬ Bd p (cf xs) 0) (hy : ¬ Bd p (cf ys) 0) (h1 : xs.length ≤ 10) (h2 : ys.length ≤ 10) :
    eff p (cf (polL p (Ser.mul (cf xs) (cf ys)))) = 0 ∧ ∀ q, Irr p q → V p (cf (monL p (cf (polL p (Ser.mul (cf xs) (cf ys)))))) q = V p (cf (monL p (cf xs))) q + V p (cf (monL p (cf ys))) q := by
  obtain ⟨a, ha⟩ := last_of hx (fini_cf p xs)
  obtain ⟨b, hb⟩ := last_of hy (fini_cf p ys)
  have hm := ha.mul hp hb
  have hP := polL_pol hp ((fini_cf p xs).mul (fini_cf p ys))
  have hX : Last p (cf (polL p (Ser.mul (cf xs) (cf ys)))) (a + b) := hm.eq hP.2.symm
  have la : a < xs.length := Classical.byContradiction fun h => ha.2 (by rw [cf_over (by omega)]; simp)
  have lb : b < ys.length := Classical.byContradiction fun h => hb.2 (by rw [cf_over (by omega)]; simp)
  obtain ⟨_, m2, _, m4⟩ := mn_mon hp hX
  refine ⟨eff_yes hp hX.some (by rw [m2]; omega), fun q hq => ?_⟩
  rw [m4 q hq, (mn_mon hp ha).2.2.2 q hq, (mn_mon hp hb).2.2.2 q hq, V_congr hP.2, V_mul hp hq ha hb]
theorem both_small {p : Int} {f g : List Int} {L : PL} (hp : Pr p) (hf : Mn p f) (hg : Mn p g) (h1 : f.length ≤ 10) (h2 : g.length ≤ 10) (h : Fct p L) (hv : ∀ q, Irr p q → vn p q L ≤ V p (cf f) q + V p (cf g) q) :
    L.length ≤ 18 ∧ ∀ x ∈ L, x.1.length ≤ 19 ∧ x.2 ≤ 19 := by
  obtain ⟨m1, m2, m3⟩ := mn_mul hp hf hg
  have hpf := hf.pos
  have hpg := hg.pos
  obtain ⟨g0, g1, g2, g3⟩ := fct_prod hp L fun x hx => ⟨(h.own x hx).1, (h.own x hx).2.1, (h.own x hx).2.2.2⟩
  have hl := g1.len_le hp m1 fun q hq => by rw [m3 q hq]; exact Nat.le_trans (g3 q hq) (hv q hq)
  refine ⟨by omega, fun x hx => ?_⟩
  obtain ⟨a1, a2, a3, a4⟩ := h.own x hx
  have e := h.at_ hp hx
  have e2 := hv _ a3
  rw [e, ← m3 _ a3] at e2
  have h3 := irr_len hp m1 a1 a3 (Nat.le_trans a4 e2)
  have h4 := V_le_deg hp a3 m1.last
  omega
theorem pls_get {Z : List Pt} {i : Nat} (h : i < (pls Z).length) : (pls Z)[i] = (Z[i]'(by rwa [pls_length] at h)).pl := List.getElem_map ..
theorem put_fct {p : Int} {Z : List Pt} {f : List Int} {k : Nat} {P : PL} (h : Fct p (pls Z)) (h1 : Mn p f) (h2 : 2 ≤ f.length) (h3 : Irr p (cf f)) (hP : PutOut Z f k P) : Fct p P ∧ ∀ q, vn p q P = vn p q (pls Z) + V p (cf f) q := by
  obtain ⟨a1, a2, a3, a4⟩ := hP
  rcases a4 with ⟨hk, e, rfl⟩ | ⟨hn, rfl⟩
  · have hk2 : k < (pls Z).length := by rw [pls_length]; exact hk
    have ee : (pls Z)[k] = (f, Z[k].N) := by
      rw [pls_get, ← e]; rfl
    have e1 : pls Z = (pls Z).take k ++ (f, Z[k].N) :: (pls Z).drop (k + 1) := by
      rw [← ee, List.getElem_cons_drop, List.take_append_drop]
    have e2 : (pls Z).set k (f, Z[k].N + 1) = (pls Z).take k ++ (f, Z[k].N + 1) :: (pls Z).drop (k + 1) := by
      rw [List.set_eq_take_append_cons_drop, if_pos hk2]
    have hh := h
    rw [e1] at hh
    have := put_same hh
    rw [e2]
    rw [← e1] at this
    exact this
  · have hh := h
    rw [← List.take_append_drop k (pls Z)] at hh
    have := put_new hh h1 h2 h3 (fun x hx => ?_) fun y D' e => ?_
    · rw [List.take_append_drop] at this
      exact this
    · obtain ⟨i, hi, rfl⟩ := List.getElem_of_mem hx
      rw [List.length_take, pls_length] at hi
      rw [List.getElem_take]
      have := a2 i (by omega) (by omega)
      rw [pls_get]
      exact ltB_iff.1 this
    · have hk : k < Z.length := by
        have := congrArg List.length e
        rw [List.length_drop, pls_length, List.length_cons] at this
        omega
      have ey : y = Z[k].pl := by
        have := List.getElem_cons_drop (show k < (pls Z).length by rw [pls_length]; exact hk)
        rw [e] at this
        simp only [List.cons.injEq] at this
        rw [← this.1, pls_get]
      subst ey
      refine ⟨fun k2 => ?_, hn hk⟩
      have := a1 hk
      rw [ltB_iff.2 (show Ahd Z[k].xs f from k2)] at this
      cases this
end Go.Proofs.YtnkhhndjbanmnaaGreatDoor

/- The state of the document's trial division in memory: the row that is tried, the factors found, what is left. -/
namespace Go.Proofs.YtnkhhndjbanmnaaGreatDoor
open Go.RowKit Go.Shelf Go.Lib

theorem ISl.fresh {wr : World} {C : Option Addr} {xs : List Int} {row : Option Nat} (hf : FreshA wr C) (hr : ∀ k, row = some k → k < wr.heap.size) : ApO C xs row := by
  refine .inr fun b o s e e2 => ?_
  have h1 := hf b o s e
  have h2 := hr b e2.symm
  omega
structure S8 (w0 wr : World) (v : Value) (Z : List Pt) (L : Option Addr) (nl cl : Nat) (left : List Int) : Prop where
  ow : POw 42 wr w0.heap.size v Z
  vl : ∀ k, v.ownBlock = some k → k < wr.heap.size
  l : ISl wr L nl cl left
  lv : ApO L left v.ownBlock
  b : Below w0.heap.size w0 wr
structure S9 (w0 wr : World) (g : Nat) (qs : List Int) (v : Value) (Z : List Pt) (L : Option Addr) (nl cl : Nat) (left : List Int) : Prop where
  s : S8 w0 wr v Z L nl cl left
  q : IBlk wr g qs
  hg : w0.heap.size ≤ g
  vq : v.ownBlock ≠ some g
  zq : ∀ z ∈ Z, ApO z.A z.xs (some g)
  lq : ApO L left (some g)
theorem S8.below {w0 wr w' : World} {v : Value} {Z : List Pt} {L : Option Addr} {nl cl : Nat} {left : List Int} (h : S8 w0 wr v Z L nl cl left) (hb : Below wr.heap.size wr w') : S8 w0 w' v Z L nl cl left :=
  ⟨h.ow.below hb, fun k hk => Nat.lt_of_lt_of_le (h.vl k hk) hb.size, h.l.below hb, h.lv, below_to h.b hb⟩
theorem S9.below {w0 wr w' : World} {g : Nat} {qs : List Int} {v : Value} {Z : List Pt} {L : Option Addr} {nl cl : Nat} {left : List Int} (h : S9 w0 wr g qs v Z L nl cl left) (hb : Below wr.heap.size wr w') : S9 w0 w' g qs v Z L nl cl left :=
  ⟨h.s.below hb, h.q.below hb, h.hg, h.vq, h.zq, h.lq⟩
theorem S9.left {w0 wr w' : World} {g : Nat} {qs : List Int} {v : Value} {Z : List Pt} {L C : Option Addr} {nl cl m d : Nat} {left xs : List Int} (h : S9 w0 wr g qs v Z L nl cl left) (hb : Below wr.heap.size wr w') (hx : ISl w' C m d xs) (hf : FreshA wr C) : S9 w0 w' g qs v Z C m d xs :=
  ⟨⟨h.s.ow.below hb, fun k hk => Nat.lt_of_lt_of_le (h.s.vl k hk) hb.size, hx, ISl.fresh hf h.s.vl, below_to h.s.b hb⟩, h.q.below hb, h.hg, h.vq, h.zq, ISl.fresh hf fun k hk => by
    have := h.q.lt
    simp only [Option.some.injEq] at hk
    omega⟩
theorem S8.new {w0 wr w' : World} {qs : List Int} {v : Value} {Z : List Pt} {L : Option Addr} {nl cl : Nat} {left : List Int} (h : S8 w0 wr v Z L nl cl left) (hb : Below wr.heap.size wr w') (hq : IBlk w' wr.heap.size qs) : S9 w0 w' wr.heap.size qs v Z L nl cl left :=
  ⟨h.below hb, hq, h.b.size, fun e => by have := h.vl _ e; omega, fun z hz => isl_old (h.ow.in_ z hz) (Nat.le_refl _), isl_old h.l (Nat.le_refl _)⟩
theorem POw.grownZ {T : TypeId} {w w' : World} {B g : Nat} {v : Value} {Z : List Pt} (h : POw T w B v Z) (hg : w.grownBy w' (some g)) (hv : v.ownBlock ≠ some g) (hz : ∀ z ∈ Z, ApO z.A z.xs (some g)) : POw T w' B v Z := by
  refine ⟨?_, fun z hz2 => ⟨(h.2 z hz2).1.grownO hg (hz z hz2), (h.2 z hz2).2⟩⟩
  obtain ⟨hl, h2⟩ := h.1
  refine ⟨hl, ?_⟩
  rcases h2 with h2 | ⟨k, cap, cur, rfl, h3, hh, h4⟩
  · exact .inl h2
  · refine .inr ⟨k, cap, cur, rfl, h3, ?_, h4⟩
    exact (hg.block k (Array.getElem?_eq_some_iff.1 hh).1 hv).trans hh
theorem S9.step {w0 wr w' : World} {g : Nat} {qs qs' : List Int} {v : Value} {Z : List Pt} {L : Option Addr} {nl cl : Nat} {left : List Int} (h : S9 w0 wr g qs v Z L nl cl left) (hg : wr.grownBy w' (some g)) (hq : IBlk w' g qs') : S9 w0 w' g qs' v Z L nl cl left :=
  ⟨⟨h.s.ow.grownZ hg h.vq h.zq, fun k hk => Nat.lt_of_lt_of_le (h.s.vl k hk) hg.size, h.s.l.grownO hg h.lq, h.s.lv, h.s.b.grown hg h.s.b.size fun k e => by
    simp only [Option.some.injEq] at e
    have := h.hg
    omega⟩, hq, h.hg, h.vq, h.zq, h.lq⟩
theorem S9.app {w0 wr w' : World} {g : Nat} {qs : List Int} {v v' : Value} {Z : List Pt} {z : Pt} {L : Option Addr} {nl cl : Nat} {left : List Int} (h : S9 w0 wr g qs v Z L nl cl left) (hz : ApO z.A z.xs (some g)) (ho : POw 42 w' w0.heap.size v' (Z ++ [z])) (hg : wr.grownBy w' v.ownBlock) (h5 : v'.ownBlock = v.ownBlock ∨ v'.ownBlock = some wr.heap.size) (hlt : ∀ k, v'.ownBlock = some k → k < w'.heap.size) : S9 w0 w' g qs v' (Z ++ [z]) L nl cl left := by
  refine ⟨⟨ho, hlt, h.s.l.grownO hg h.s.lv, h.s.l.apO h.s.lv h5, h.s.b.grown hg h.s.b.size h.s.ow.lt⟩, ⟨(hg.block g h.q.lt (fun e => h.vq e.symm)).trans h.q.1, h.q.2⟩, h.hg, ?_, fun y hy => ?_, h.lq⟩
  · rcases h5 with e | e
    · rw [e]; exact h.vq
    · rw [e]; intro k; have := h.q.lt; simp only [Option.some.injEq] at k; omega
  · rcases List.mem_append.1 hy with hy | hy
    · exact h.zq y hy
    · rw [List.mem_singleton.1 hy]; exact hz
theorem POw.ltz {T : TypeId} {w : World} {B : Nat} {v : Value} {Z : List Pt} (h : POw T w B v Z) : ∀ k, v.ownBlock = some k → k < w.heap.size := fun k hk => (h.1.lt k hk).2
end Go.Proofs.YtnkhhndjbanmnaaGreatDoor

/- The rows that cleaverref07.Echelon gathers, as they lie in memory; a row scaled in its place; a row less the new one. -/
import Derived.Test.YtipdnfdeacdkgaaDoorLinMat
import Derived.Test.YtipdnfdeacdkgaaDoorRefFp
import Derived.Test.YtipdnfdeacdkgaaDoorRst
namespace Go.Proofs.YtipdnfdeacdkgaaDoor
open Go.RowKit

theorem VOw.belowE {w w' : World} {B : Nat} {v : Value} {xs : List Value} (h : VOw w B v xs) (hb : Below w.heap.size w w') : VOw w' B v xs := by
  obtain ⟨⟨hl, h2⟩, hf⟩ := h
  refine ⟨⟨hl, ?_⟩, hf⟩
  rcases h2 with h2 | ⟨g, cap, cur, e, h3, hh, h4⟩
  · exact .inl h2
  · exact .inr ⟨g, cap, cur, e, h3, (hb.block g (Array.getElem?_eq_some_iff.1 hh).1).trans hh, h4⟩

theorem ech_nil (p : Int) (n : Nat) : EchP p n [] :=
  ⟨List.Pairwise.nil, fun _ h => (List.not_mem_nil h).elim, fun _ h => (List.not_mem_nil h).elim, fun _ h => (List.not_mem_nil h).elim, fun _ h => (List.not_mem_nil h).elim, fun _ h => (List.not_mem_nil h).elim, fun _ h => (List.not_mem_nil h).elim⟩
def prow (P : List (Nat × List Int)) (i : Nat) : List Int := (P.getD i (0, [])).2
/-- The rows gathered so far, as they lie. -/
def OutAt (w : World) (B nc : Nat) (v : Value) (vs : List Value) (P : List (Nat × List Int)) : Prop :=
  VOw w B v vs ∧ vs.length = P.length ∧ ∀ i, i < P.length → ∃ C d, vs.getD i nilv = .slice C nc d ∧ ISl w C nc d (prow P i) ∧ ApO C (prow P i) v.ownBlock
theorem OutAt.below {w w' : World} {B nc : Nat} {v : Value} {vs : List Value} {P : List (Nat × List Int)} (h : OutAt w B nc v vs P) (hb : Below w.heap.size w w') : OutAt w' B nc v vs P := by
  obtain ⟨h1, h2, h3⟩ := h
  refine ⟨h1.belowE hb, h2, fun i hi => ?_⟩
  obtain ⟨C, d, e, k1, k2⟩ := h3 i hi
  exact ⟨C, d, e, k1.below hb, k2⟩

theorem prow_at {P : List (Nat × List Int)} {i : Nat} (h : i < P.length) : prow P i = (P[i]).2 := by
  unfold prow
  rw [List.getD_eq_getElem?_getD, List.getElem?_eq_getElem h]
  rfl
theorem EchP.fst {p : Int} {n : Nat} {P : List (Nat × List Int)} (h : EchP p n P) {i : Nat} (hi : i < P.length) : fsi (prow P i) = ((P[i]).1 : Int) := by
  have hm : P[i] ∈ P := List.getElem_mem hi
  rw [prow_at hi]
  exact fsi_is ⟨by rw [h.len _ hm]; exact h.lt _ hm, by rw [h.one _ hm]; decide, h.low _ hm⟩
theorem keepA {wS W W' : World} {b o b' o' : Nat} {u0 u1 : Value} (h : W.cell? ⟨b, o, none⟩ = some u0 ∧ W.cell? ⟨b', o', none⟩ = some u1 ∧ b < W.heap.size ∧ b' < W.heap.size ∧ Below wS.heap.size wS W) (hb : Below W.heap.size W W') :
    W'.cell? ⟨b, o, none⟩ = some u0 ∧ W'.cell? ⟨b', o', none⟩ = some u1 ∧ b < W'.heap.size ∧ b' < W'.heap.size ∧ Below wS.heap.size wS W' := by
  obtain ⟨h0, h1, h2, h3, h4⟩ := h
  exact ⟨by rw [hb.cell (p := ⟨b, o, none⟩) h2]; exact h0, by rw [hb.cell (p := ⟨b', o', none⟩) h3]; exact h1, Nat.lt_of_lt_of_le h2 hb.size, Nat.lt_of_lt_of_le h3 hb.size, h4.trans (hb.mono h4.size)⟩
theorem keepAb {wS W : World} {b o b' o' : Nat} {u0 u1 : Value} (h : W.cell? ⟨b, o, none⟩ = some u0 ∧ W.cell? ⟨b', o', none⟩ = some u1 ∧ b < W.heap.size ∧ b' < W.heap.size ∧ Below wS.heap.size wS W) : Below wS.heap.size wS W := h.2.2.2.2
theorem ISl.setAt {w : World} {b o n c : Nat} {xs : List Int} (h : ISl w (some ⟨b, o, none⟩) n c xs) (i : Nat) (hi : i < n) (u : Int) (hu : In64 u) : ISl (w.setCell ⟨b, o + i, none⟩ (iv u)) (some ⟨b, o, none⟩) n c (xs.set i u) := by
  refine ⟨by rw [List.length_set]; exact h.len, h.le, h.max, (fun e => by cases e), ?_, .inr ⟨b, o, rfl, ?_, fun j hj => ?_⟩⟩
  · intro x hx
    rcases List.mem_or_eq_of_mem_set hx with hx | rfl
    · exact h.rd.1 x hx
    · exact hu
  · rcases h.rd.2 with e | ⟨b', o', e, hlt, _⟩
    · rw [h.len, e] at hi; exact absurd hi (by simp)
    · simp only [Option.some.injEq, Addr.mk.injEq] at e
      simpa [World.setCell, e.1] using hlt
  · rw [List.length_set] at hj
    have hjn : j < n := by rw [h.len]; exact hj
    obtain ⟨b', o', e, _, hc⟩ := h.cfs (by omega)
    simp only [Option.some.injEq, Addr.mk.injEq, and_true] at e
    obtain ⟨rfl, rfl⟩ := e
    rw [List.getElem_set]
    by_cases e : i = j
    · subst e
      rw [if_pos rfl]
      exact World.cell?_setCell_same' w _ _ (by rw [hc i hi]; rfl)
    · have hne : (⟨b, o + i, none⟩ : Addr) ≠ ⟨b, o + j, none⟩ := by
        intro e2
        simp only [Addr.mk.injEq, true_and, and_true] at e2
        omega
      rw [if_neg e, World.cell?_setCell_other _ _ _ _ hne, hc j hjn, cf_at hj]
theorem Thaw.set_ {w : World} {C : Option Addr} (h : Thaw w C) (a : Addr) (u : Value) : Thaw (w.setCell a u) C := fun b o s e i => by
  rw [World.frozen?_setCell]
  exact h b o s e i
/-- A row by a residue, its first q places so far. -/
def sclL (p x : Int) (r : List Int) (q : Nat) : List Int := (r.take q).map (fun y => y * x % p) ++ r.drop q
theorem sclL_len (p x : Int) (r : List Int) (q : Nat) : (sclL p x r q).length = r.length := by
  rw [sclL, List.length_append, List.length_map, List.length_take, List.length_drop]; omega
theorem sclL_zero (p x : Int) (r : List Int) : sclL p x r 0 = r := by simp [sclL]
theorem sclL_set {p x : Int} {r : List Int} {q : Nat} (hq : q < r.length) : (sclL p x r q).set q (cf r q * x % p) = sclL p x r (q + 1) := by
  unfold sclL
  rw [List.set_append_right (h := by simp; omega)]
  rw [List.take_succ_eq_append_getElem hq, List.map_append, List.append_assoc, cf_at hq]
  conv => lhs; rw [List.drop_eq_getElem_cons hq]
  congr 1
  have e : q - (List.map (fun y => y * x % p) (r.take q)).length = 0 := by simp; omega
  rw [e]
  rfl
theorem cf_sclL {p x : Int} {r : List Int} {q : Nat} (hq : q < r.length) : cf (sclL p x r q) q = cf r q := by
  unfold sclL
  rw [cf_append, if_neg (by simp; omega), List.length_map, List.length_take, Nat.min_eq_left (Nat.le_of_lt hq), Nat.sub_self, List.drop_eq_getElem_cons hq, cf_cons_zero, cf_at hq]
theorem sclL_all {p x : Int} {r : List Int} {q : Nat} (hq : r.length ≤ q) : sclL p x r q = r.map fun y => y * x % p := by
  unfold sclL
  rw [List.take_of_length_le hq, List.drop_of_length_le hq, List.append_nil]

/-- The scaled row. -/
theorem scl_facts {p y u : Int} {r : List Int} {x : Nat} (hp : 2 ≤ p) (_ : Rs p r) (_ : IsFst r x) (hy : cf r x = y) (hu : y * u % p = 1) :
    Rs p (sclL p u r r.length) ∧ cf (sclL p u r r.length) x = 1 ∧ (∀ j, cf r j = 0 → cf (sclL p u r r.length) j = 0) ∧ Ser.Eq p (cf (sclL p u r r.length)) (Ser.sc u (cf r)) ∧ Ser.Eq p (cf r) (Ser.sc y (cf (sclL p u r r.length))) := by
  rw [sclL_all (Nat.le_refl _)]
  have hc : ∀ i, cf (r.map fun y => y * u % p) i = cf r i * u % p := cf_map (fun y => y * u % p) (by simp) r
  refine ⟨fun z hz => ?_, ?_, fun j hj => ?_, fun i => ?_, fun i => ?_⟩
  · obtain ⟨w, _, rfl⟩ := List.mem_map.1 hz
    exact ⟨Int.emod_nonneg _ (by omega), Int.emod_lt_of_pos _ (by omega)⟩
  · rw [hc, hy, hu]
  · rw [hc, hj]; simp
  · rw [hc, Int.emod_emod_of_dvd _ (Int.dvd_refl p)]
    show _ = u * cf r i % p
    rw [Int.mul_comm]
  · show _ = y * cf (r.map fun y => y * u % p) i % p
    rw [hc, Int.mul_emod y, Int.emod_emod_of_dvd _ (Int.dvd_refl p), ← Int.mul_emod, Int.mul_comm (cf r i), ← Int.mul_assoc, Int.mul_emod, hu, Int.one_mul, Int.emod_emod_of_dvd _ (Int.dvd_refl p)]
theorem EchP.fst_less {p : Int} {n : Nat} {P : List (Nat × List Int)} (hp : 2 ≤ p) (h : EchP p n P) {w : List Int} {x : Nat} (hl : w.length = n) (h1 : cf w x = 1) (h0 : ∀ j, j < x → cf w j = 0) (hz : ∀ a ∈ P, cf w a.1 = 0) {a : Nat × List Int} (ha : a ∈ P) :
    fsi (lessL p a.2 w (cf a.2 x)) = (a.1 : Int) := by
  have hl2 : w.length = a.2.length := by rw [hl, h.len a ha]
  have hne : a.1 ≠ x := fun e => by
    have := hz a ha
    rw [e, h1] at this
    exact absurd this (by decide)
  refine fsi_is ⟨by rw [lessL_len, h.len a ha]; exact h.lt a ha, ?_, fun j hj => ?_⟩
  · rw [cf_lessL hl2, hz a ha, h.one a ha, Int.mul_zero, Int.sub_zero, Int.emod_eq_of_lt (by decide) (by omega)]
    decide
  · rw [cf_lessL hl2, h.low a ha j hj]
    by_cases e : j < x
    · rw [h0 j e]; simp
    · rw [h.low a ha x (by omega)]; simp
/-- The first q rows less the new one. -/
def mixP (p : Int) (x : Nat) (w : List Int) (P : List (Nat × List Int)) (q : Nat) : List (Nat × List Int) := (lessP p x w P).take q ++ P.drop q
theorem lessP_len (p : Int) (x : Nat) (w : List Int) (P : List (Nat × List Int)) : (lessP p x w P).length = P.length := by simp [lessP]
theorem mixP_len (p : Int) (x : Nat) (w : List Int) (P : List (Nat × List Int)) (q : Nat) (hq : q ≤ P.length) : (mixP p x w P q).length = P.length := by
  rw [mixP, List.length_append, List.length_take, List.length_drop, lessP_len]; omega
theorem mixP_zero (p : Int) (x : Nat) (w : List Int) (P : List (Nat × List Int)) : mixP p x w P 0 = P := by simp [mixP]
theorem mixP_all (p : Int) (x : Nat) (w : List Int) (P : List (Nat × List Int)) : mixP p x w P P.length = lessP p x w P := by
  rw [mixP, List.drop_of_length_le (Nat.le_refl _), List.append_nil, List.take_of_length_le (by rw [lessP_len]; exact Nat.le_refl _)]
theorem mixP_at {p : Int} {x : Nat} {w : List Int} {P : List (Nat × List Int)} {q : Nat} (hq : q < P.length) : prow (mixP p x w P q) q = prow P q := by
  unfold prow mixP
  rw [List.getD_eq_getElem?_getD, List.getD_eq_getElem?_getD, List.getElem?_append_right (by simp [lessP]; omega), List.length_take, lessP_len, Nat.min_eq_left (Nat.le_of_lt hq), Nat.sub_self, List.getElem?_drop]
  simp
theorem mixP_set {p : Int} {x : Nat} {w : List Int} {P : List (Nat × List Int)} {q : Nat} (hq : q < P.length) : (mixP p x w P q).set q ((P[q]).1, lessL p (P[q]).2 w (cf (P[q]).2 x)) = mixP p x w P (q + 1) := by
  unfold mixP
  have hl : ((lessP p x w P).take q).length = q := by rw [List.length_take, lessP_len]; omega
  rw [List.set_append_right (h := by rw [hl]; exact Nat.le_refl _), hl, Nat.sub_self]
  have h2 : (lessP p x w P).take (q + 1) = (lessP p x w P).take q ++ [((P[q]).1, lessL p (P[q]).2 w (cf (P[q]).2 x))] := by
    rw [List.take_succ_eq_append_getElem (by rw [lessP_len]; exact hq)]
    simp [lessP]
  rw [h2, List.append_assoc]
  conv => lhs; rw [List.drop_eq_getElem_cons hq]
  rfl
/-- The own block. -/
theorem OutAt.block {w : World} {B nc : Nat} {v : Value} {vs : List Value} {P : List (Nat × List Int)} (h : OutAt w B nc v vs P) (h0 : 0 < P.length) : ∃ b c, v = .slice (some ⟨b, 0, none⟩) P.length c ∧ B ≤ b ∧ b < w.heap.size ∧ (∀ i, w.frozen? ⟨b, i, none⟩ = false) := by
  obtain ⟨⟨⟨_, h1⟩, _⟩, h2, _⟩ := h
  rw [h2] at h1
  rcases h1 with ⟨_, e⟩ | ⟨g, cap, cur, e, hb, hh, _⟩
  · omega
  · exact ⟨g, cap, e, hb, (Array.getElem?_eq_some_iff.1 hh).1, fun i => by simp [World.frozen?, hh]⟩
theorem lit0 (w : World) (B g : Nat) (hg : g = w.heap.size) (hB : B ≤ w.heap.size) : VOw (w.alloc (.cells #[] 31)) B (.slice (some ⟨g, 0, none⟩) 0 0) [] := by
  subst hg
  exact ⟨World.ownsRow_lit w #[] 0 hB (by decide) rfl, sv_nil⟩
theorem VSl.takeV {w : World} {A : Option Addr} {n c : Nat} {xs : List Value} (h : VSl w A n c xs) (k : Nat) (hk : k ≤ n) : VSl w A k c (xs.take k) :=
  ⟨by rw [List.length_take, ← h.len]; omega, Nat.le_trans hk h.le, h.max, h.2.2.2.1, h.rd.take k⟩
theorem VSl.dropV {w : World} {b o n c : Nat} {xs : List Value} (h : VSl w (some ⟨b, o, none⟩) n c xs) (k : Nat) (hk : k ≤ n) : VSl w (some ⟨b, o + k, none⟩) (n - k) (c - k) (xs.drop k) := by
  refine ⟨by rw [List.length_drop, ← h.len], by have := h.le; omega, by have := h.max; omega, (fun e => by cases e), sv_drop h.fit k, ?_⟩
  rcases h.rd.2 with e | ⟨b', o', e, hlt, hc⟩
  · left; rw [e]; simp
  · simp only [Option.some.injEq, Addr.mk.injEq, and_true] at e
    obtain ⟨rfl, rfl⟩ := e
    refine .inr ⟨b, o + k, rfl, hlt, fun j hj => ?_⟩
    rw [List.length_drop] at hj
    rw [Nat.add_assoc, hc (k + j) (by omega)]
    simp
theorem VSl.endV {w : World} {A : Option Addr} {n c d : Nat} {xs : List Value} (h : VSl w A n c xs) (hd : d ≤ 9223372036854775807) {A' : Option Addr} (hA' : A' = none → d = 0) : VSl w A' 0 d (xs.drop n) := by
  have e : xs.drop n = [] := List.drop_of_length_le (by rw [← h.len]; exact Nat.le_refl _)
  rw [e]
  exact ⟨rfl, Nat.zero_le _, hd, hA', VRd.nil _ _⟩
theorem VOw.drewE {w : World} {B : Nat} {v : Value} {xs : List Value} (h : VOw w B v xs) : VOw w.drew B v xs := h
theorem lead_yes {P : List (Nat × List Int)} (h : P.Pairwise fun a b => a.1 < b.1) {s x : Nat} (hs : s < P.length) (hx : (P[s]).1 < x) : (∀ a ∈ P.take (s + 1), a.1 < x) ∧ (∀ a ∈ (P.take (s + 1)).drop (s + 1), x < a.1) := by
  refine ⟨fun a ha => ?_, fun a ha => ?_⟩
  · rw [List.take_succ_eq_append_getElem hs] at ha
    rcases List.mem_append.1 ha with ha | ha
    · obtain ⟨i, hi, rfl⟩ := List.getElem_of_mem ha
      rw [List.length_take] at hi
      rw [List.getElem_take]
      have := List.pairwise_iff_getElem.1 h i s (by omega) hs (by omega)
      omega
    · simp at ha
      rw [ha]; exact hx
  · rw [List.drop_of_length_le (by rw [List.length_take]; omega)] at ha
    exact (List.not_mem_nil ha).elim
theorem lead_no {P : List (Nat × List Int)} {s m x : Nat} (hs : s < P.length) (hms : m ≤ s) (hx : x < (P[s]).1) (h : (∀ a ∈ P.take m, a.1 < x) ∧ (∀ a ∈ (P.take s).drop m, x < a.1)) : (∀ a ∈ P.take m, a.1 < x) ∧ (∀ a ∈ (P.take (s + 1)).drop m, x < a.1) := by
  refine ⟨h.1, fun a ha => ?_⟩
  rw [List.take_succ_eq_append_getElem hs, List.drop_append_of_le_length (by rw [List.length_take]; omega)] at ha
  rcases List.mem_append.1 ha with ha | ha
  · exact h.2 a ha
  · simp at ha
    rw [ha]; exact hx
theorem grown_set (w : World) (g j : Nat) (u : Value) : w.grownBy (w.setCell ⟨g, j, none⟩ u) (some g) :=
  ⟨rfl, rfl, rfl, by simp [World.setCell], fun k _ hk => Below.heap_setCell w ⟨g, j, none⟩ u k (fun e => hk (by rw [e]))⟩
theorem ISl.farS {w : World} {g o n c : Nat} {xs : List Int} (h : ISl w (some ⟨g, o, none⟩) n c xs) {p : Addr} (hp : g ≠ p.block) (u : Value) : ISl (w.setCell p u) (some ⟨g, o, none⟩) n c xs := by
  refine ⟨h.1, h.2.1, h.2.2.1, h.2.2.2.1, h.rd.1, ?_⟩
  rcases h.rd.2 with h0 | ⟨b, o', e, hlt, hc⟩
  · exact .inl h0
  · simp only [Option.some.injEq, Addr.mk.injEq, and_true] at e
    obtain ⟨rfl, rfl⟩ := e
    exact .inr ⟨g, o, rfl, by simpa [World.setCell] using hlt, fun j hj => (World.cell?_of_block (w := w) (Below.heap_setCell w p u g hp)).trans (hc j hj)⟩
/-- A row's slice and its rows, laid open. -/
theorem OutAt.open_ {w : World} {B nc : Nat} {v : Value} {vs : List Value} {P : List (Nat × List Int)} (h : OutAt w B nc v vs P) : ∃ A c, v = .slice A P.length c ∧ P.length ≤ c ∧ c ≤ 9223372036854775807 ∧
    (0 < P.length → ∃ b o, o = 0 ∧ A = some ⟨b, o, none⟩ ∧ B ≤ b ∧ b < w.heap.size) := by
  obtain ⟨A, c, e, hs, _⟩ := h.1.sl
  rw [h.2.1] at e hs
  refine ⟨A, c, e, hs.le, hs.max, fun h0 => ?_⟩
  obtain ⟨b, c', e', hB, hb, _⟩ := h.block h0
  rw [e] at e'
  simp only [Value.slice.injEq] at e'
  exact ⟨b, 0, rfl, e'.1, hB, hb⟩
theorem OutAt.cells {w : World} {B nc b o n c : Nat} {vs : List Value} {P : List (Nat × List Int)} (h : OutAt w B nc (.slice (some ⟨b, o, none⟩) n c) vs P) {i : Nat} (hi : i < P.length) : b < w.heap.size ∧ w.frozen? ⟨b, o + i, none⟩ = false ∧ ∃ C d, w.cell? ⟨b, o + i, none⟩ = some (.slice C nc d) ∧ ISl w C nc d (prow P i) ∧ ApO C (prow P i) (some b) := by
  obtain ⟨g, c', e, _, hg, hf⟩ := h.block (by omega)
  simp only [Value.slice.injEq, Option.some.injEq, Addr.mk.injEq, and_true] at e
  obtain ⟨⟨rfl, rfl⟩, rfl, rfl⟩ := e
  obtain ⟨h1, h2, h3⟩ := h
  obtain ⟨A, c2, e2, hs, _⟩ := h1.sl
  simp only [Value.slice.injEq] at e2
  obtain ⟨b', o', e3, _, hc⟩ := hs.at_ (by rw [h2]; omega)
  rw [← e2.1] at e3
  simp only [Option.some.injEq, Addr.mk.injEq, and_true] at e3
  obtain ⟨rfl, rfl⟩ := e3
  obtain ⟨C, d, k1, k2, k3⟩ := h3 i hi
  exact ⟨hg, hf _, C, d, by rw [hc i (by rw [h2]; exact hi), k1], k2, k3⟩
theorem OutAt.store {w : World} {B nc b n c : Nat} {vs : List Value} {P : List (Nat × List Int)} (h : OutAt w B nc (.slice (some ⟨b, 0, none⟩) n c) vs P) (hn : n = P.length) {q : Nat} (hq : q < P.length) {C : Option Addr} {d : Nat} {L : List Int} (hL : ISl w C nc d L) (ha : ApO C L (some b)) (l : Nat) :
    OutAt (w.setCell ⟨b, q, none⟩ (.slice C nc d)) B nc (.slice (some ⟨b, 0, none⟩) n c) (vs.set q (.slice C nc d)) (P.set q (l, L)) := by
  obtain ⟨h1, h2, h3⟩ := h
  have hs : n = vs.length := by rw [hn, h2]
  have h4 := h1.1
  rw [← hs] at h4
  obtain ⟨s1, s2⟩ := h4.stored q (.slice C nc d)
  have hfit : Sv (vs.set q (.slice C nc d)) := fun x hx => by
    rcases List.mem_or_eq_of_mem_set hx with hx | rfl
    · exact h1.2 x hx
    · exact ⟨C, nc, d, rfl⟩
  refine ⟨⟨by rw [List.length_set, ← hs]; exact s1, hfit⟩, by rw [List.length_set, List.length_set, h2], fun i hi => ?_⟩
  rw [List.length_set] at hi
  by_cases e : i = q
  · subst e
    refine ⟨C, d, ?_, ?_, ?_⟩
    · rw [List.getD_eq_getElem?_getD, List.getElem?_set_self (by rw [h2]; exact hi)]; rfl
    · have : prow (P.set i (l, L)) i = L := by
        unfold prow
        rw [List.getD_eq_getElem?_getD, List.getElem?_set_self hi]; rfl
      rw [this]
      exact hL.grownO s2 ha
    · have : prow (P.set i (l, L)) i = L := by
        unfold prow
        rw [List.getD_eq_getElem?_getD, List.getElem?_set_self hi]; rfl
      rw [this]
      exact ha
  · obtain ⟨C', d', k1, k2, k3⟩ := h3 i hi
    have hpr : prow (P.set q (l, L)) i = prow P i := by
      unfold prow
      rw [List.getD_eq_getElem?_getD, List.getD_eq_getElem?_getD, List.getElem?_set_ne (by omega)]
    rw [hpr]
    refine ⟨C', d', ?_, k2.grownO s2 k3, k3⟩
    rw [List.getD_eq_getElem?_getD, List.getElem?_set_ne (by omega), ← List.getD_eq_getElem?_getD]
    exact k1
theorem OutAt.storeO {w : World} {B nc b o n c : Nat} (ho : o = 0) {vs : List Value} {P : List (Nat × List Int)} (h : OutAt w B nc (.slice (some ⟨b, o, none⟩) n c) vs P) (hn : n = P.length) {q : Nat} (hq : q < P.length) {C : Option Addr} {d : Nat} {L : List Int} (hL : ISl w C nc d L) (ha : ApO C L (some b)) (l : Nat) :
    OutAt (w.setCell ⟨b, o + q, none⟩ (.slice C nc d)) B nc (.slice (some ⟨b, o, none⟩) n c) (vs.set q (.slice C nc d)) (P.set q (l, L)) := by
  subst ho
  rw [Nat.zero_add]
  exact h.store hn hq hL ha l
end Go.Proofs.YtipdnfdeacdkgaaDoor

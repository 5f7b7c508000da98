/- The rows that flin.echelon gathers, as they lie in memory: two cells a row, in a row of the call's own. -/
import Derived.Test.YtipdnfdeacdkgaaDoorFlnIns
import Derived.Test.YtipdnfdeacdkgaaDoorFlnSeek
namespace Go.Proofs.YtipdnfdeacdkgaaDoor
open Go.RowKit Go.Shelf

/-- The slice value v owns the rows P, in blocks from B on. -/
def ROw (w : World) (B nc : Nat) (v : Value) (vs : List Value) (P : List (Nat × List Int)) : Prop :=
  w.ownsRow B 41 2 v P.length vs ∧ (∀ u ∈ vs, u.oneCell' = true) ∧ ∀ i, i < P.length → vs.getD (i * 2) nilv = .int .i64 (plc P i : Int) ∧ ∃ C d, vs.getD (i * 2 + 1) nilv = .slice C nc d ∧ ISl w C nc d (prow P i) ∧ ApO C (prow P i) v.ownBlock
theorem ROw.nil (w : World) (B nc : Nat) : ROw w B nc (.slice none 0 0) [] [] := ⟨World.ownsRow_nil _ _ _ _, fun _ h => (List.not_mem_nil h).elim, fun _ h => absurd h (Nat.not_lt_zero _)⟩
theorem ownsRow_belowE {w w' : World} {B n : Nat} {T : TypeId} {k : Nat} {v : Value} {xs : List Value} (h : w.ownsRow B T k v n xs) (hb : Below w.heap.size w w') : w'.ownsRow B T k v n xs := by
  obtain ⟨hl, h2⟩ := h
  refine ⟨hl, ?_⟩
  rcases h2 with h2 | ⟨g, cap, cur, e, h3, hh, h4⟩
  · exact .inl h2
  · exact .inr ⟨g, cap, cur, e, h3, (hb.block g (Array.getElem?_eq_some_iff.1 hh).1).trans hh, h4⟩
theorem ROw.below {w w' : World} {B nc : Nat} {v : Value} {vs : List Value} {P : List (Nat × List Int)} (h : ROw w B nc v vs P) (hb : Below w.heap.size w w') : ROw w' B nc v vs P := by
  obtain ⟨h1, h2, h3⟩ := h
  refine ⟨ownsRow_belowE h1 hb, h2, fun i hi => ?_⟩
  obtain ⟨e0, C, d, e, k1, k2⟩ := h3 i hi
  exact ⟨e0, C, d, e, k1.below hb, k2⟩
theorem ROw.len {w : World} {B nc : Nat} {v : Value} {vs : List Value} {P : List (Nat × List Int)} (h : ROw w B nc v vs P) : vs.length = P.length * 2 := h.1.1
theorem getD_some {α : Type} {xs : List α} {i : Nat} {d : α} (h : i < xs.length) : xs[i]? = some (xs.getD i d) := by
  rw [List.getD_eq_getElem?_getD, List.getElem?_eq_getElem h]; rfl
/-- A row's slice and its cells, laid open. -/
theorem ROw.open_ {w : World} {B nc : Nat} {v : Value} {vs : List Value} {P : List (Nat × List Int)} (h : ROw w B nc v vs P) : ∃ A c, v = .slice A P.length c ∧ RowsAt w A P.length c P ∧
    (0 < P.length → ∃ b, A = some ⟨b, 0, none⟩ ∧ B ≤ b ∧ b < w.heap.size ∧ (∀ i, w.frozen? ⟨b, i, none⟩ = false) ∧ ∀ i, i < P.length → w.cell? ⟨b, i * 2, none⟩ = some (.int .i64 (plc P i : Int)) ∧ ∃ C d, w.cell? ⟨b, i * 2 + 1, none⟩ = some (.slice C nc d) ∧ ISl w C nc d (prow P i) ∧ ApO C (prow P i) (some b)) := by
  obtain ⟨⟨hl, h1⟩, _, h3⟩ := h
  rcases h1 with ⟨e, e0⟩ | ⟨g, cap, cur, e, hB, hh, hn, hc, hs, ht⟩
  · have hP : P = [] := List.eq_nil_of_length_eq_zero e0
    subst hP
    exact ⟨none, 0, e, RowsAt.nil _ _ _ (by decide), fun h => absurd h (by simp)⟩
  · subst e
    have hcell : ∀ j, j < P.length * 2 → w.cell? ⟨g, j, none⟩ = some (vs.getD j nilv) := fun j hj => by
      rw [cell_of_row w g j cur _ (0, 0) hh, ← Array.getElem?_toList]
      have h1 : (cur.toList.take (P.length * 2))[j]? = vs[j]? := by rw [ht]
      rw [List.getElem?_take_of_lt hj] at h1
      rw [h1]
      exact getD_some (by omega)
    have hlt : g < w.heap.size := (Array.getElem?_eq_some_iff.1 hh).1
    refine ⟨some ⟨g, 0, none⟩, cap, rfl, ⟨rfl, hn, by unfold maxLen at hc; omega, .inr ⟨g, 0, rfl, hlt, fun i hi => ?_⟩⟩, fun _ => ⟨g, rfl, hB, hlt, fun i => by simp [World.frozen?, hh], fun i hi => ?_⟩⟩
    · obtain ⟨k0, C, d, k1, k2, _⟩ := h3 i hi
      rw [Nat.zero_add]
      exact ⟨by rw [hcell _ (by omega), k0], C, nc, d, by rw [hcell _ (by omega), k1], k2⟩
    · obtain ⟨k0, C, d, k1, k2, k3⟩ := h3 i hi
      exact ⟨by rw [hcell _ (by omega), k0], C, d, by rw [hcell _ (by omega), k1], k2, k3⟩
theorem ROw.store {w : World} {B nc b n c : Nat} {vs : List Value} {P : List (Nat × List Int)} (h : ROw w B nc (.slice (some ⟨b, 0, none⟩) n c) vs P) (hn : n = P.length) {q : Nat} (hq : q < P.length) {C : Option Addr} {d : Nat} {L : List Int} (hL : ISl w C nc d L) (ha : ApO C L (some b)) :
    ROw (w.setCell ⟨b, q * 2 + 1, none⟩ (.slice C nc d)) B nc (.slice (some ⟨b, 0, none⟩) n c) (vs.set (q * 2 + 1) (.slice C nc d)) (P.set q (plc P q, L)) := by
  obtain ⟨h1, h2, h3⟩ := h
  have hvl := h1.1
  have h4 := h1
  rw [← hn] at h4
  obtain ⟨s1, s2⟩ := h4.stored (q * 2 + 1) (.slice C nc d)
  refine ⟨by rw [List.length_set, ← hn]; exact s1, fun u hu => ?_, fun i hi => ?_⟩
  · rcases List.mem_or_eq_of_mem_set hu with hu | rfl
    · exact h2 u hu
    · rfl
  rw [List.length_set] at hi
  obtain ⟨k0, C', d', k1, k2, k3⟩ := h3 i hi
  by_cases e : i = q
  · subst e
    have hpr : prow (P.set i (plc P i, L)) i = L := by
      unfold prow
      rw [List.getD_eq_getElem?_getD, List.getElem?_set_self hi]; rfl
    have hpl : plc (P.set i (plc P i, L)) i = plc P i := by
      conv => lhs; unfold plc
      rw [List.getD_eq_getElem?_getD, List.getElem?_set_self hi]; rfl
    rw [hpr, hpl]
    refine ⟨?_, C, d, ?_, hL.grownO s2 ha, ha⟩
    · rw [List.getD_eq_getElem?_getD, List.getElem?_set_ne (by omega), ← List.getD_eq_getElem?_getD]; exact k0
    · rw [List.getD_eq_getElem?_getD, List.getElem?_set_self (by omega)]; rfl
  · have hpr : prow (P.set q (plc P q, L)) i = prow P i := by
      unfold prow
      rw [List.getD_eq_getElem?_getD, List.getD_eq_getElem?_getD, List.getElem?_set_ne (by omega)]
    have hpl : plc (P.set q (plc P q, L)) i = plc P i := by
      conv => lhs; unfold plc
      rw [List.getD_eq_getElem?_getD, List.getElem?_set_ne (by omega), ← List.getD_eq_getElem?_getD]; rfl
    rw [hpr, hpl]
    refine ⟨?_, C', d', ?_, k2.grownO s2 k3, k3⟩
    · rw [List.getD_eq_getElem?_getD, List.getElem?_set_ne (by omega), ← List.getD_eq_getElem?_getD]; exact k0
    · rw [List.getD_eq_getElem?_getD, List.getElem?_set_ne (by omega), ← List.getD_eq_getElem?_getD]; exact k1
/-- The new row among the others. -/
theorem ROw.ins {w w' : World} {B nc : Nat} {v v' : Value} {vs : List Value} {P : List (Nat × List Int)} {x t : Nat} {nw : List Int} {C : Option Addr} {d : Nat} (h : ROw w B nc v vs P) (ht : t ≤ P.length) (hn : ISl w C nc d nw) (ha : ApO C nw v.ownBlock)
    (k1 : w'.ownsRow B 41 2 v' (P.length + 1) (vs.take (t * 2) ++ [.int .i64 (x : Int), .slice C nc d] ++ vs.drop (t * 2))) (k2 : w.grownBy w' v.ownBlock) (k3 : v'.ownBlock = v.ownBlock ∨ v'.ownBlock = some w.heap.size) :
    ROw w' B nc v' (vs.take (t * 2) ++ [.int .i64 (x : Int), .slice C nc d] ++ vs.drop (t * 2)) (P.take t ++ (x, nw) :: P.drop t) := by
  obtain ⟨h1, h2, h3⟩ := h
  have hvl := h1.1
  have hpl : (P.take t ++ (x, nw) :: P.drop t).length = P.length + 1 := by
    rw [List.length_append, List.length_cons, List.length_take, List.length_drop]; omega
  have hlt : (vs.take (t * 2)).length = t * 2 := by rw [List.length_take]; omega
  refine ⟨by rw [hpl]; exact k1, fun u hu => ?_, fun i hi => ?_⟩
  · rw [List.append_assoc] at hu
    rcases List.mem_append.1 hu with hu | hu
    · exact h2 u (List.mem_of_mem_take hu)
    · rcases List.mem_append.1 hu with hu | hu
      · simp at hu; rcases hu with rfl | rfl <;> rfl
      · exact h2 u (List.mem_of_mem_drop hu)
  · rw [hpl] at hi
    have hg : ∀ j, (vs.take (t * 2) ++ [Value.int .i64 (x : Int), Value.slice C nc d] ++ vs.drop (t * 2)).getD j nilv = if j < t * 2 then vs.getD j nilv else if j = t * 2 then .int .i64 (x : Int) else if j = t * 2 + 1 then .slice C nc d else vs.getD (j - 2) nilv := fun j => by
      rw [List.append_assoc, List.getD_eq_getElem?_getD]
      by_cases c1 : j < t * 2
      · rw [if_pos c1, List.getElem?_append_left (by omega), List.getElem?_take, if_pos c1, List.getD_eq_getElem?_getD]
      · rw [if_neg c1, List.getElem?_append_right (by omega), hlt]
        by_cases c2 : j = t * 2
        · rw [if_pos c2, c2, Nat.sub_self]; rfl
        · rw [if_neg c2]
          by_cases c3 : j = t * 2 + 1
          · rw [if_pos c3, c3, show t * 2 + 1 - t * 2 = 1 by omega]; rfl
          · rw [if_neg c3, List.getElem?_append_right (by simp; omega), List.getElem?_drop, List.getD_eq_getElem?_getD]
            congr 2
            simp; omega
    have hpr : prow (P.take t ++ (x, nw) :: P.drop t) i = if i < t then prow P i else if i = t then nw else prow P (i - 1) := by
      unfold prow
      rw [getD_ins _ _ _ _ _ ht]
      by_cases e1 : i < t
      · rw [if_pos e1, if_pos e1]
      · rw [if_neg e1, if_neg e1]
        by_cases e2 : i = t
        · rw [if_pos e2, if_pos e2]
        · rw [if_neg e2, if_neg e2]
    have hpc : plc (P.take t ++ (x, nw) :: P.drop t) i = if i < t then plc P i else if i = t then x else plc P (i - 1) := by
      unfold plc
      rw [getD_ins _ _ _ _ _ ht]
      by_cases e1 : i < t
      · rw [if_pos e1, if_pos e1]
      · rw [if_neg e1, if_neg e1]
        by_cases e2 : i = t
        · rw [if_pos e2, if_pos e2]
        · rw [if_neg e2, if_neg e2]
    have hg0 := hg (i * 2)
    have hg1 := hg (i * 2 + 1)
    rw [hpr, hpc]
    by_cases e1 : i < t
    · rw [if_pos (show i * 2 < t * 2 by omega)] at hg0
      rw [if_pos (show i * 2 + 1 < t * 2 by omega)] at hg1
      rw [if_pos e1, if_pos e1, hg0, hg1]
      obtain ⟨k0, C', d', j1, j2, j3⟩ := h3 i (by omega)
      exact ⟨k0, C', d', j1, j2.grownO k2 j3, j2.apO j3 k3⟩
    · rw [if_neg (show ¬ i * 2 < t * 2 by omega)] at hg0
      rw [if_neg (show ¬ i * 2 + 1 < t * 2 by omega), if_neg (show ¬ i * 2 + 1 = t * 2 by omega)] at hg1
      rw [if_neg e1, if_neg e1]
      by_cases e2 : i = t
      · rw [if_pos (show i * 2 = t * 2 by omega)] at hg0
        rw [if_pos (show i * 2 + 1 = t * 2 + 1 by omega)] at hg1
        rw [if_pos e2, if_pos e2, hg0, hg1]
        exact ⟨rfl, C, d, rfl, hn.grownO k2 ha, hn.apO ha k3⟩
      · rw [if_neg (show ¬ i * 2 = t * 2 by omega), if_neg (show ¬ i * 2 = t * 2 + 1 by omega), show i * 2 - 2 = (i - 1) * 2 by omega] at hg0
        rw [if_neg (show ¬ i * 2 + 1 = t * 2 + 1 by omega), show i * 2 + 1 - 2 = (i - 1) * 2 + 1 by omega] at hg1
        rw [if_neg e2, if_neg e2, hg0, hg1]
        obtain ⟨k0, C', d', j1, j2, j3⟩ := h3 (i - 1) (by omega)
        exact ⟨k0, C', d', j1, j2.grownO k2 j3, j2.apO j3 k3⟩
/-- A row of new memory stands apart from what was there. -/
theorem NRow.sl {w w' : World} {v : Value} {n : Nat} {L : List Int} (h : NRow w v n L w') (hn : n ≤ 1000) : ∃ g, v = .slice (some ⟨g, 0, none⟩) n n ∧ ISl w' (some ⟨g, 0, none⟩) n n L ∧ IBlk w' g L ∧ w.heap.size ≤ g ∧ g < w'.heap.size := by
  obtain ⟨g, e, hl, h1, h2, h3⟩ := h
  have := h1.sl (by omega)
  rw [← hl] at this
  exact ⟨g, e, this, h1, h2, h1.lt⟩
end Go.Proofs.YtipdnfdeacdkgaaDoor

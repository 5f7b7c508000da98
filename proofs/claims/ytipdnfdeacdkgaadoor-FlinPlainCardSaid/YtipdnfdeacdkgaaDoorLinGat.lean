/- Rows gathered by append, as they lie in memory; a block of bools. -/
import Derived.Test.YtipdnfdeacdkgaaDoorLinPut
import Derived.Test.YtipdnfdeacdkgaaDoorLinAns
namespace Go.Proofs.YtipdnfdeacdkgaaDoor
open Go.RowKit

/-- The slice value v owns the rows G, in blocks from B on. -/
def GAt (w : World) (B : Nat) (v : Value) (G : List (List Int)) : Prop :=
  ∃ vs, VOw w B v vs ∧ vs.length = G.length ∧ ∀ i, i < G.length → ∃ C k d, vs.getD i nilv = .slice C k d ∧ ISl w C k d (G.getD i []) ∧ ApO C (G.getD i []) v.ownBlock
theorem GAt.nil (w : World) (B : Nat) : GAt w B (.slice none 0 0) [] := ⟨[], VOw.nil _ _, rfl, fun _ h => absurd h (Nat.not_lt_zero _)⟩
theorem GAt.below {w w' : World} {B : Nat} {v : Value} {G : List (List Int)} (h : GAt w B v G) (hb : Below w.heap.size w w') : GAt w' B v G := by
  obtain ⟨vs, h1, h2, h3⟩ := h
  refine ⟨vs, h1.belowE hb, h2, fun i hi => ?_⟩
  obtain ⟨C, k, d, e, k1, k2⟩ := h3 i hi
  exact ⟨C, k, d, e, k1.below hb, k2⟩
theorem GAt.mat {w : World} {B : Nat} {v : Value} {G : List (List Int)} (h : GAt w B v G) : ∃ A c, v = .slice A G.length c ∧ MatAt w A G.length c G := by
  obtain ⟨vs, h1, h2, h3⟩ := h
  obtain ⟨A, c, e, hs, _⟩ := h1.sl
  rw [h2] at e hs
  refine ⟨A, c, e, vs, hs, rfl, fun i hi => ?_⟩
  obtain ⟨C, k, d, e, k1, _⟩ := h3 i hi
  exact ⟨C, k, d, e, k1⟩
theorem GAt.lt {w : World} {B : Nat} {v : Value} {G : List (List Int)} (h : GAt w B v G) {k : Nat} (hk : v.ownBlock = some k) : B ≤ k ∧ k < w.heap.size := by
  obtain ⟨vs, h1, _⟩ := h
  exact h1.1.lt k hk
theorem GAt.snoc {w w' : World} {B : Nat} {v v' : Value} {G : List (List Int)} {vs : List Value} {C : Option Addr} {k d : Nat} {L : List Int} (h2 : vs.length = G.length) (h3 : ∀ i, i < G.length → ∃ C k d, vs.getD i nilv = .slice C k d ∧ ISl w C k d (G.getD i []) ∧ ApO C (G.getD i []) v.ownBlock)
    (hL : ISl w C k d L) (ha : ApO C L v.ownBlock) (j1 : VOw w' B v' (vs ++ [.slice C k d])) (j2 : w.grownBy w' v.ownBlock) (j3 : v'.ownBlock = v.ownBlock ∨ v'.ownBlock = some w.heap.size) : GAt w' B v' (G ++ [L]) := by
  refine ⟨_, j1, by simp [h2], fun i hi => ?_⟩
  rw [List.length_append] at hi
  simp only [List.length_cons, List.length_nil] at hi
  by_cases e : i < G.length
  · obtain ⟨C', k', d', e1, e2, e3⟩ := h3 i e
    have g1 : (vs ++ [Value.slice C k d]).getD i nilv = vs.getD i nilv := by rw [List.getD_eq_getElem?_getD, List.getElem?_append_left (by omega), ← List.getD_eq_getElem?_getD]
    have g2 : (G ++ [L]).getD i [] = G.getD i [] := by rw [List.getD_eq_getElem?_getD, List.getElem?_append_left e, ← List.getD_eq_getElem?_getD]
    rw [g1, g2]
    exact ⟨C', k', d', e1, e2.grownO j2 e3, e2.apO e3 j3⟩
  · obtain rfl : i = G.length := by omega
    have g1 : (vs ++ [Value.slice C k d]).getD G.length nilv = .slice C k d := by rw [List.getD_eq_getElem?_getD, ← h2, List.getElem?_append_right (Nat.le_refl _), Nat.sub_self]; rfl
    have g2 : (G ++ [L]).getD G.length [] = L := by rw [List.getD_eq_getElem?_getD, List.getElem?_append_right (Nat.le_refl _), Nat.sub_self]; rfl
    rw [g1, g2]
    exact ⟨C, k, d, rfl, hL.grownO j2 ha, hL.apO ha j3⟩
/-- One row more. -/
theorem gwpList_app {ops : Array Oper} {rest : List Oper} {o : Oper} {a : Act} {Q : Exit → Act → World → Prop} (w : World) (hgd : o.guard = none) (s x : Operand) (ho : o.op = .call { callee := .builtin .append, args := #[s, x], argTypes := #[22, 22] })
    (B : Nat) (v : Value) (G : List (List Int)) (hs : a.eval s = v) (hown : GAt w B v G) (g : Nat) (hx : a.eval x = .slice (some ⟨g, 0, none⟩) 1 1) (C : Option Addr) (k d : Nat) (hR : VBlk w g [.slice C k d]) (L : List Int) (hL : ISl w C k d L) (ha : ApO C L v.ownBlock) (hmax : G.length ≤ 1000) (hB : B ≤ w.heap.size)
    (h : ∀ v' w', GAt w' B v' (G ++ [L]) → Below B w w' → wpList Tryd.prog ops Q rest (a.put o.dst v') w') : wpList Tryd.prog ops Q (o :: rest) a w :=
  wpList_plain hgd fun _ hK => by
    obtain ⟨vs, h1, h2, h3⟩ := hown
    obtain ⟨v', w', hrun, j1, j2, j3⟩ := vrun_app_at w o.type B v vs h1 ⟨g, 0, none⟩ 1 1 [.slice C k d] (hR.sl (by simp)) (by omega) hB
    have hk := hK _ _ (h v' w' (GAt.snoc h2 h3 hL ha j1 j2 j3) (h1.grownBelow j2 hB))
    unfold Oper.wp execOp
    simp only [ho, resolve, invoke, builtin, Sem.run_bind, Sem.run_pure, Result.andThen_ok, List.map_toArray, List.map_cons, List.map_nil, hs, hx, hrun]
    exact hk

/-- Block g holds just the bools L. -/
def BBk (w : World) (g : Nat) (L : List Bool) : Prop := w.heap[g]? = some (.cells (L.map Value.bool).toArray 4 (0, 0))
theorem BBk.lt {w : World} {g : Nat} {L : List Bool} (h : BBk w g L) : g < w.heap.size := (Array.getElem?_eq_some_iff.1 h).1
theorem BBk.cell {w : World} {g : Nat} {L : List Bool} (h : BBk w g L) (i : Nat) (hi : i < L.length) : w.cell? ⟨g, i, none⟩ = some (.bool (L.getD i false)) := by
  rw [cell_of_row w g i _ _ (0, 0) h, List.getD_eq_getElem?_getD, List.getElem?_eq_getElem hi]
  simp [hi]
theorem BBk.frozen {w : World} {g : Nat} {L : List Bool} (h : BBk w g L) (i : Nat) : w.frozen? ⟨g, i, none⟩ = false := by
  have := show w.heap[g]? = _ from h
  simp [World.frozen?, this]
theorem BBk.below {w w' : World} {g : Nat} {L : List Bool} (h : BBk w g L) (hb : Below w.heap.size w w') : BBk w' g L := (hb.block g h.lt).trans h
theorem BBk.set_ {w : World} {g : Nat} {L : List Bool} (h : BBk w g L) (i : Nat) (u : Bool) : BBk (w.setCell ⟨g, i, none⟩ (.bool u)) g (L.set i u) := by
  have := show w.heap[g]? = _ from h
  unfold BBk
  simp [World.setCell, Array.getElem?_modify, this]
theorem infoB : (Tryd.prog.info? 4).map (fun i => (i.zero, i.size, i.bytes)) = some (some (.bool false), 1, 1) := by kernel_rfl
theorem wpList_make_bools {ops : Array Oper} {rest : List Oper} {o : Oper} {a : Act} {Q : Exit → Act → World → Prop} (w : World)
    (hg : o.guard = none) (l c : Operand) (hop : o.op = Op.makeSlice 58 l c) (kl kc : IntKind) (L C : Int) (n : Nat) (hl : a.eval l = .int kl L) (hc : a.eval c = .int kc C) (hL : L = (n : Int)) (hC : C = (n : Int)) (hn : n ≤ 35184372088832)
    (hK : ∀ w', BBk w' w.heap.size (List.replicate n false) → Below w.heap.size w w' → wpList Tryd.prog ops Q rest (a.put o.dst (.slice (some ⟨w.heap.size, 0, none⟩) n n)) w') :
    wpList Tryd.prog ops Q (o :: rest) a w := by
  obtain ⟨i0, hi, hz0, hz1, hz2⟩ := info_parts infoB
  refine wpList_make_full w hg l c 58 hop w.heap.size 4 i0 _ 1 Tryd.underlying58 hi hz0 hz1 kl kc L C n hl hc hL hC (by rw [hz2]; omega) (by unfold maxLen; omega) (Nat.le_refl _) ?_
  intro w' ho hgr
  have hbel : Below w.heap.size w w' := (Below.refl _ _).grown hgr (Nat.le_refl _) (fun k e => by cases e)
  refine hK w' ?_ hbel
  obtain ⟨h1, ⟨h2, _⟩ | ⟨g, cap, cur, hv, hb, hh, hn1, hn2, hs, ht⟩⟩ := ho
  · cases h2
  · simp only [Value.slice.injEq, Option.some.injEq, Addr.mk.injEq, and_true, true_and] at hv
    obtain ⟨rfl, rfl⟩ := hv
    have e1 : cur.toList = (List.replicate n false).map Value.bool := by
      rw [List.take_of_length_le (by simp [hs])] at ht
      rw [ht, show (Value.bool false).cells = #[Value.bool false] from rfl, toList_madeCells_one]
      simp
    unfold BBk
    rw [hh]
    congr 2
    rw [← e1]
end Go.Proofs.YtipdnfdeacdkgaaDoor

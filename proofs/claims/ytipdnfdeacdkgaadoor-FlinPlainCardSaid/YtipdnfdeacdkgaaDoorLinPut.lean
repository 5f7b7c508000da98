/- The new row among the others, as they lie in memory. -/
import Derived.Test.YtipdnfdeacdkgaaDoorLinOut
namespace Go.Proofs.YtipdnfdeacdkgaaDoor
open Go.RowKit

theorem VOw.lower {w : World} {B B' : Nat} {v : Value} {xs : List Value} (h : VOw w B v xs) (hB : B' ≤ B) : VOw w B' v xs := by
  obtain ⟨⟨hl, h2⟩, hf⟩ := h
  refine ⟨⟨hl, ?_⟩, hf⟩
  rcases h2 with h2 | ⟨g, cap, cur, e, h3, hh, h4⟩
  · exact .inl h2
  · exact .inr ⟨g, cap, cur, e, Nat.le_trans hB h3, hh, h4⟩
theorem ISl.apOw {w w' : World} {A : Option Addr} {n c : Nat} {L : List Int} {v : Value} {xs : List Value} (h : ISl w A n c L) (k : VOw w' w.heap.size v xs) : ApO A L v.ownBlock := by
  rcases h.rd.2 with e | ⟨b, o, e, hlt, _⟩
  · exact .inl e
  · refine .inr fun b' o' s' e' e2 => ?_
    rw [e] at e'
    simp only [Option.some.injEq, Addr.mk.injEq] at e'
    have := k.lt b' e2.symm
    omega
theorem getD_ins {α : Type} (xs : List α) (a d : α) (m i : Nat) (hm : m ≤ xs.length) : (xs.take m ++ a :: xs.drop m).getD i d = if i < m then xs.getD i d else if i = m then a else xs.getD (i - 1) d := by
  have hl : (xs.take m).length = m := by rw [List.length_take]; omega
  rw [List.getD_eq_getElem?_getD]
  by_cases h1 : i < m
  · rw [if_pos h1, List.getElem?_append_left (by rw [hl]; exact h1), List.getElem?_take, if_pos h1, List.getD_eq_getElem?_getD]
  · rw [if_neg h1, List.getElem?_append_right (by rw [hl]; omega), hl]
    by_cases h2 : i = m
    · rw [if_pos h2, h2, Nat.sub_self]; rfl
    · rw [if_neg h2, show i - m = (i - 1 - m) + 1 by omega, List.getElem?_cons_succ, List.getElem?_drop, List.getD_eq_getElem?_getD, show m + (i - 1 - m) = i - 1 by omega]
theorem OutAt.put {wr wc : World} {B nc : Nat} {v vc : Value} {vs : List Value} {P : List (Nat × List Int)} {p : Int} {x m : Nat} {nw : List Int} {C : Option Addr} {d : Nat}
    (h : OutAt wr B nc v vs (lessP p x nw P)) (hm : m ≤ P.length) (hnw : ISl wr C nc d nw) (hb : Below wr.heap.size wr wc) (hB : B ≤ wr.heap.size)
    (hov : VOw wc wr.heap.size vc (vs.take m ++ .slice C nc d :: vs.drop m)) : OutAt wc B nc vc (vs.take m ++ .slice C nc d :: vs.drop m) (putP p x nw m P) := by
  obtain ⟨h1, h2, h3⟩ := h
  rw [lessP_len] at h2 h3
  have hpl : (putP p x nw m P).length = P.length + 1 := by
    rw [putP, List.length_append, List.length_cons, List.length_take, List.length_drop, lessP_len]; omega
  refine ⟨hov.lower hB, ?_, fun i hi => ?_⟩
  · rw [hpl, List.length_append, List.length_cons, List.length_take, List.length_drop]; omega
  · rw [hpl] at hi
    have hpr : prow (putP p x nw m P) i = if i < m then prow (lessP p x nw P) i else if i = m then nw else prow (lessP p x nw P) (i - 1) := by
      unfold prow putP
      rw [getD_ins _ _ _ _ _ (by rw [lessP_len]; exact hm)]
      by_cases e1 : i < m
      · rw [if_pos e1, if_pos e1]
      · rw [if_neg e1, if_neg e1]
        by_cases e2 : i = m
        · rw [if_pos e2, if_pos e2]
        · rw [if_neg e2, if_neg e2]
    rw [getD_ins _ _ _ _ _ (by rw [h2]; exact hm), hpr]
    by_cases e1 : i < m
    · rw [if_pos e1, if_pos e1]
      obtain ⟨C', d', k1, k2, _⟩ := h3 i (by omega)
      exact ⟨C', d', k1, k2.below hb, k2.apOw hov⟩
    · rw [if_neg e1, if_neg e1]
      by_cases e2 : i = m
      · rw [if_pos e2, if_pos e2]
        exact ⟨C, d, rfl, hnw.below hb, hnw.apOw hov⟩
      · rw [if_neg e2, if_neg e2]
        obtain ⟨C', d', k1, k2, _⟩ := h3 (i - 1) (by omega)
        exact ⟨C', d', k1, k2.below hb, k2.apOw hov⟩
theorem putP_len (p : Int) (x : Nat) (w : List Int) (m : Nat) (P : List (Nat × List Int)) : (putP p x w m P).length = P.length + 1 := by
  rw [putP, List.length_append, List.length_cons, List.length_take, List.length_drop, lessP_len]; omega
theorem vrun_app_atO (w : World) (ty : TypeId) (B : Nat) (v : Value) (xs : List Value) (hown : VOw w B v xs) (A : Option Addr) (m c : Nat) (news : List Value) (hR : VSl w A m c news) (hmax : xs.length + m ≤ 4398046511104) (hB : B ≤ w.heap.size) :
    ∃ v' w', (Builtin.append_ #[22, 22] ty #[v, .slice A m c]).run Tryd.prog w = .ok v' w' ∧ VOw w' B v' (xs ++ news) ∧ w.grownBy w' v.ownBlock ∧ (v'.ownBlock = v.ownBlock ∨ v'.ownBlock = some w.heap.size) := by
  rcases A with _ | ad
  · have hc := hR.2.2.2.1 rfl
    have hl := hR.le
    have hn := hR.len
    obtain rfl : c = 0 := hc
    obtain rfl : m = 0 := by omega
    obtain rfl : news = [] := List.eq_nil_of_length_eq_zero hn.symm
    obtain ⟨i0, hi, -, -, -⟩ := info_parts infoV
    have hrun := run_append_owned_none (P := Tryd.prog) (w := w) B 22 ty 31 i0 1 Tryd.underlying22 hi v xs.length xs hown.1
    exact ⟨v, w, hrun, by rw [List.append_nil]; exact hown, World.grownBy.refl _ _, .inl rfl⟩
  · exact vrun_app_at w ty B v xs hown ad m c news hR hmax hB
theorem vstep_app_atO {ops : Array Oper} {o : Oper} {a : Act} {K : Act → World → Prop} {Q : Exit → Act → World → Prop} {E : Prop} (w : World) (hgd : o.guard = none) (s x : Operand) (ho : o.op = .call { callee := .builtin .append, args := #[s, x], argTypes := #[22, 22] })
    (B : Nat) (v : Value) (xs : List Value) (hs : a.eval s = v) (hown : VOw w B v xs) (A : Option Addr) (m c : Nat) (hx : a.eval x = .slice A m c) (news : List Value) (hR : VSl w A m c news) (hmax : xs.length + m ≤ 4398046511104) (hB : B ≤ w.heap.size)
    (h : ∀ v' w', VOw w' B v' (xs ++ news) → w.grownBy w' v.ownBlock → (v'.ownBlock = v.ownBlock ∨ v'.ownBlock = some w.heap.size) → K (a.put o.dst v') w') : if Region.wanted o (yielded ops a.tmps) = true then Oper.wp Tryd.prog o a w K Q else E := by
  have hw : Region.wanted o (yielded ops a.tmps) = true := by simp [Region.wanted, hgd]
  rw [if_pos hw]
  obtain ⟨v', w', hrun, h2, h3, h4⟩ := vrun_app_atO w o.type B v xs hown A m c news hR hmax hB
  unfold Oper.wp execOp
  simp only [ho, resolve, invoke, builtin, Sem.run_bind, Sem.run_pure, Result.andThen_ok, List.map_toArray, List.map_cons, List.map_nil, hs, hx, hrun]
  exact h v' w' h2 h3 h4
end Go.Proofs.YtipdnfdeacdkgaaDoor

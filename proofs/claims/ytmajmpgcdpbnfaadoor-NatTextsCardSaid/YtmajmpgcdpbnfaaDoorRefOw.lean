/- A row of limbs that grows by append, in memory of the call's own. -/
import Derived.Test.YtmajmpgcdpbnfaaDoorRefSame
import Derived.Laws.AppendOwnNone
import Derived.Deep.RegionHeld3
import Derived.Deep.RegionLaw
namespace Go.Proofs.YtmajmpgcdpbnfaaDoor
open Go.RowKit

/-- The slice value v owns the limbs xs, in blocks from B on. -/
def Ow (w : World) (B : Nat) (v : Value) (xs : List Nat) : Prop := w.ownsRow B 32 1 v xs.length (xs.map u64v) ∧ Fit xs

theorem Ow.nil (w : World) (B : Nat) : Ow w B (.slice none 0 0) [] := ⟨World.ownsRow_nil _ _ _ _, fit_nil⟩
theorem Ow.fit {w : World} {B : Nat} {v : Value} {xs : List Nat} (h : Ow w B v xs) : Fit xs := h.2
theorem Ow.alloc {w : World} {B : Nat} {v : Value} {xs : List Nat} (h : Ow w B v xs) (o : Obj) : Ow (w.alloc o) B v xs := ⟨h.1.alloc o, h.2⟩
theorem Ow.drew {w : World} {B : Nat} {v : Value} {xs : List Nat} (h : Ow w B v xs) : Ow w.drew B v xs := h
theorem Ow.sl {w : World} {B : Nat} {v : Value} {xs : List Nat} (h : Ow w B v xs) : ∃ A c, v = .slice A xs.length c ∧ Sl w A xs.length c xs ∧ (∀ b o s, A = some ⟨b, o, s⟩ → B ≤ b) := by
  obtain ⟨⟨hl, h2⟩, hf⟩ := h
  rcases h2 with ⟨rfl, h0⟩ | ⟨g, cap, cur, rfl, hb, hh, hn, hc, hs, ht⟩
  · refine ⟨none, 0, by rw [h0], ⟨rfl, by omega, by decide, fun _ => rfl, hf, .inl (List.eq_nil_of_length_eq_zero h0)⟩, fun b o s e => by cases e⟩
  · refine ⟨some ⟨g, 0, none⟩, cap, rfl, ⟨rfl, hn, by unfold maxLen at hc; omega, (fun e => by cases e), hf, .inr ⟨g, 0, rfl, (Array.getElem?_eq_some_iff.1 hh).1, fun j hj => ?_⟩⟩, fun b o s e => ?_⟩
    · rw [cell_of_row w g (0 + j) cur _ (0, 0) hh, Nat.zero_add]
      have h1 : (cur.toList.take (xs.length * 1))[j]? = (xs.map u64v)[j]? := by rw [ht]
      rw [List.getElem?_take_of_lt (by omega), List.getElem?_map, List.getElem?_eq_getElem hj] at h1
      simpa using h1
    · simp only [Option.some.injEq, Addr.mk.injEq] at e
      omega
theorem Ow.lt {w : World} {B : Nat} {v : Value} {xs : List Nat} (h : Ow w B v xs) : ∀ k, v.ownBlock = some k → B ≤ k := fun k hk => (h.1.lt k hk).1

theorem run_app (w : World) (ty : TypeId) (B : Nat) (v : Value) (xs : List Nat) (hown : Ow w B v xs) (A : Option Addr) (m c : Nat) (news : List Nat) (hR : Sl w A m c news) (hmax : xs.length + m ≤ 17592186044416) (hB : B ≤ w.heap.size) :
    ∃ v' w', (Builtin.append_ #[22, 22] ty #[v, .slice A m c]).run Tryd.prog w = .ok v' w' ∧ Ow w' B v' (xs ++ news) ∧ Below B w w' := by
  obtain ⟨i0, hi, hz0, hz1, hz2⟩ := info_parts infoU
  have hl : (xs ++ news).length = xs.length + m := by rw [List.length_append, hR.len]
  have hfit : Fit (xs ++ news) := fit_append hown.2 hR.fit
  rcases A with _ | ad
  · have h0 : c = 0 := hR.2.2.2.1 rfl
    have hm : m = 0 := by have := hR.le; omega
    subst h0; subst hm
    have hn : news = [] := List.eq_nil_of_length_eq_zero hR.len.symm
    subst hn
    refine ⟨v, w, run_append_owned_none (P := Tryd.prog) (w := w) B 22 ty 32 i0 1 Tryd.underlying22 hi v xs.length (xs.map u64v) hown.1, ?_, Below.refl _ _⟩
    simpa using hown
  · have hcells : ∀ j u, (news.map u64v)[j]? = some u → w.cell? (ad.add j) = some u := by
      intro j u hj
      rw [List.getElem?_map] at hj
      obtain ⟨x, hx, rfl⟩ := Option.map_eq_some_iff.1 hj
      obtain ⟨hj', rfl⟩ := List.getElem?_eq_some_iff.1 hx
      rcases hR.rd.2 with e | ⟨b, o, e, hlt, hc⟩
      · rw [e] at hj'; exact absurd hj' (by simp)
      · simp only [Option.some.injEq] at e
        rw [add_add ad j b o e]
        exact hc j hj'
    obtain ⟨v', w', hrun, h2, h3, _⟩ := run_append_own (P := Tryd.prog) w B 22 ty 32 i0 _ 1 8 Tryd.underlying22 hi hz0 hz1 hz2 rfl (by decide) v xs.length (xs.map u64v) hown.1 ad m c (news.map u64v)
      (by rw [List.length_map, hR.len]; omega) hcells (by intro u hu; obtain ⟨x, _, rfl⟩ := List.mem_map.1 hu; rfl) (by unfold maxLen; omega) (by omega) hB
    refine ⟨v', w', hrun, ⟨?_, hfit⟩, (Below.refl B w).grown h3 hB (hown.lt)⟩
    rw [hl, List.map_append]
    exact h2

theorem wp_app {o : Oper} {a : Act} {K : Act → World → Prop} {Q : Exit → Act → World → Prop} (w : World) (s x : Operand) (ho : o.op = .call { callee := .builtin .append, args := #[s, x], argTypes := #[22, 22] })
    (B : Nat) (v : Value) (xs : List Nat) (hs : a.eval s = v) (hown : Ow w B v xs) (A : Option Addr) (m c : Nat) (hx : a.eval x = .slice A m c) (news : List Nat) (hR : Sl w A m c news) (hmax : xs.length + m ≤ 17592186044416) (hB : B ≤ w.heap.size)
    (h : ∀ v' w', Ow w' B v' (xs ++ news) → Below B w w' → K (a.put o.dst v') w') : o.wp Tryd.prog a w K Q := by
  obtain ⟨v', w', hrun, h2, h3⟩ := run_app w o.type B v xs hown A m c news hR hmax hB
  unfold Oper.wp execOp
  simp only [ho, resolve, invoke, builtin, Sem.run_bind, Sem.run_pure, Result.andThen_ok, List.map_toArray, List.map_cons, List.map_nil, hs, hx, hrun]
  exact h v' w' h2 h3

theorem wpList_app {ops : Array Oper} {rest : List Oper} {o : Oper} {a : Act} {Q : Exit → Act → World → Prop} (w : World) (hgd : o.guard = none) (s x : Operand) (ho : o.op = .call { callee := .builtin .append, args := #[s, x], argTypes := #[22, 22] })
    (B : Nat) (v : Value) (xs : List Nat) (hs : a.eval s = v) (hown : Ow w B v xs) (A : Option Addr) (m c : Nat) (hx : a.eval x = .slice A m c) (news : List Nat) (hR : Sl w A m c news) (hmax : xs.length + m ≤ 17592186044416) (hB : B ≤ w.heap.size)
    (h : ∀ v' w', Ow w' B v' (xs ++ news) → Below B w w' → wpList Tryd.prog ops Q rest (a.put o.dst v') w') : wpList Tryd.prog ops Q (o :: rest) a w :=
  wpList_plain hgd fun _ hK => wp_app w s x ho B v xs hs hown A m c hx news hR hmax hB fun v' w' h2 h3 => hK _ _ (h v' w' h2 h3)

theorem step_app {ops : Array Oper} {o : Oper} {a : Act} {K : Act → World → Prop} {Q : Exit → Act → World → Prop} {E : Prop} (w : World) (hgd : o.guard = none) (s x : Operand) (ho : o.op = .call { callee := .builtin .append, args := #[s, x], argTypes := #[22, 22] })
    (B : Nat) (v : Value) (xs : List Nat) (hs : a.eval s = v) (hown : Ow w B v xs) (A : Option Addr) (m c : Nat) (hx : a.eval x = .slice A m c) (news : List Nat) (hR : Sl w A m c news) (hmax : xs.length + m ≤ 17592186044416) (hB : B ≤ w.heap.size)
    (h : ∀ v' w', Ow w' B v' (xs ++ news) → Below B w w' → K (a.put o.dst v') w') : if Region.wanted o (yielded ops a.tmps) = true then Oper.wp Tryd.prog o a w K Q else E := by
  have hw : Region.wanted o (yielded ops a.tmps) = true := by simp [Region.wanted, hgd]
  rw [if_pos hw]
  exact wp_app w s x ho B v xs hs hown A m c hx news hR hmax hB h

theorem blk_list (w : World) (xs : List Nat) (hf : Fit xs) : Blk (w.alloc (.cells (xs.map u64v).toArray 32)) w.heap.size xs := ⟨heap_alloc_new w _, hf⟩
end Go.Proofs.YtmajmpgcdpbnfaaDoor

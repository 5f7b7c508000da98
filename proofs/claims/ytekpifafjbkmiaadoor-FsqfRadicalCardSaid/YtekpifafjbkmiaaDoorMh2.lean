/- Texts joined, in their order: IntWords. -/
import Derived.Test.YtekpifafjbkmiaaDoorChecked
import Derived.WalkKit
import Derived.WalkSpells
import Derived.Laws.OwnMore
import Derived.Deep.Draws
import Derived.Laws.Rows
import Derived.Lib.Hide
import Derived.Laws.AppendOwnNone
import Derived.Deep.RegionHeld3
import Derived.Deep.RegionLaw
import Derived.Below
import Derived.OwnWalk
import Derived.Laws.CopyOwn
import Derived.Test.YtekpifafjbkmiaaDoorMh1

/- Words for memory, of ints: a slice that is only read; a block of the call's own that is known whole; a row that grows by append. -/
namespace Go.Proofs.YtekpifafjbkmiaaDoor
open Go.RowKit

/-- An int as a value. -/
abbrev iv (x : Int) : Value := .int .i64 x
/-- All are ints. -/
def Fi (xs : List Int) : Prop := ∀ x ∈ xs, In64 x
theorem fi_nil : Fi [] := fun _ h => by cases h
theorem fi_take {xs : List Int} (h : Fi xs) (k : Nat) : Fi (xs.take k) := fun y hy => h y (List.mem_of_mem_take hy)
theorem fi_drop {xs : List Int} (h : Fi xs) (k : Nat) : Fi (xs.drop k) := fun y hy => h y (List.mem_of_mem_drop hy)
theorem fi_append {xs ys : List Int} (h : Fi xs) (k : Fi ys) : Fi (xs ++ ys) := fun y hy => by
  rcases List.mem_append.1 hy with hy | hy
  · exact h _ hy
  · exact k _ hy
theorem fi_one {x : Int} (h : In64 x) : Fi [x] := fun y hy => by simp at hy; subst hy; exact h
theorem fi_getD {xs : List Int} (h : Fi xs) (j : Nat) : In64 (xs.getD j 0) := by
  rw [List.getD_eq_getElem?_getD]
  by_cases hj : j < xs.length
  · rw [List.getElem?_eq_getElem hj]; exact h _ (List.getElem_mem hj)
  · rw [List.getElem?_eq_none (by omega)]; unfold In64; decide

/-- The slice address A leads to the limbs xs. -/
def IRd (w : World) (A : Option Addr) (xs : List Int) : Prop :=
  Fi xs ∧ (xs = [] ∨ ∃ b o, A = some ⟨b, o, none⟩ ∧ b < w.heap.size ∧ ∀ j (h : j < xs.length), w.cell? ⟨b, o + j, none⟩ = some (iv xs[j]))

theorem IRd.fit {w : World} {A : Option Addr} {xs : List Int} (h : IRd w A xs) : Fi xs := h.1
theorem IRd.nil (w : World) (A : Option Addr) : IRd w A [] := ⟨fi_nil, .inl rfl⟩
theorem IRd.below {w w' : World} {A : Option Addr} {xs : List Int} (h : IRd w A xs) (hb : Below w.heap.size w w') : IRd w' A xs := by
  refine ⟨h.1, h.2.imp id ?_⟩
  rintro ⟨b, o, rfl, hlt, hc⟩
  exact ⟨b, o, rfl, Nat.lt_of_lt_of_le hlt hb.size, fun j hj => (hb.cell (p := ⟨b, o + j, none⟩) hlt).trans (hc j hj)⟩
theorem IRd.take {w : World} {A : Option Addr} {xs : List Int} (h : IRd w A xs) (k : Nat) : IRd w A (xs.take k) := by
  refine ⟨fi_take h.1 k, ?_⟩
  rcases h.2 with rfl | ⟨b, o, rfl, hlt, hc⟩
  · left; simp
  · right
    refine ⟨b, o, rfl, hlt, fun j hj => ?_⟩
    have hj' : j < xs.length := by rw [List.length_take] at hj; omega
    rw [List.getElem_take]
    exact hc j hj'
/-- Memory below block B alone is asked for. -/
theorem IRd.grown {w w' : World} {g : Nat} {A : Option Addr} {xs : List Int} (h : IRd w A xs) (hg : w.grownBy w' (some g)) (hne : ∀ b o s, A = some ⟨b, o, s⟩ → b ≠ g) : IRd w' A xs := by
  refine ⟨h.1, h.2.imp id ?_⟩
  rintro ⟨b, o, rfl, hlt, hc⟩
  refine ⟨b, o, rfl, Nat.lt_of_lt_of_le hlt hg.size, fun j hj => ?_⟩
  exact (World.cell?_of_block (w := w) (hg.block b hlt (fun e => hne b o none rfl (by injection e)))).trans (hc j hj)

/-- Block g holds just the limbs L. -/
def IBlk (w : World) (g : Nat) (L : List Int) : Prop := w.heap[g]? = some (.cells (L.map iv).toArray 3 (0, 0)) ∧ Fi L

theorem IBlk.lt {w : World} {g : Nat} {L : List Int} (h : IBlk w g L) : g < w.heap.size := by
  rcases Nat.lt_or_ge g w.heap.size with hlt | hge
  · exact hlt
  · have := h.1; rw [Array.getElem?_eq_none hge] at this; cases this
theorem IBlk.fit {w : World} {g : Nat} {L : List Int} (h : IBlk w g L) : Fi L := h.2
theorem IBlk.cell {w : World} {g : Nat} {L : List Int} (h : IBlk w g L) (i : Nat) (hi : i < L.length) : w.cell? ⟨g, i, none⟩ = some (iv L[i]) := by
  rw [cell_of_row w g i _ _ (0, 0) h.1]
  simp [hi]
theorem IBlk.frozen {w : World} {g : Nat} {L : List Int} (h : IBlk w g L) (i : Nat) : w.frozen? ⟨g, i, none⟩ = false := by
  have := h.1
  simp [World.frozen?, this]
theorem IBlk.below {w w' : World} {g : Nat} {L : List Int} (h : IBlk w g L) (hb : Below w.heap.size w w') : IBlk w' g L := ⟨(hb.block g h.lt).trans h.1, h.2⟩
theorem IBlk.grown {w w' : World} {g g' : Nat} {L : List Int} (h : IBlk w g L) (hb : w.grownBy w' (some g')) (hne : g ≠ g') : IBlk w' g L :=
  ⟨(hb.block g h.lt (fun e => hne (by injection e))).trans h.1, h.2⟩
theorem IBlk.set_ {w : World} {g : Nat} {L : List Int} (h : IBlk w g L) (i : Nat) (u : Int) (hu : In64 u) : IBlk (w.setCell ⟨g, i, none⟩ (iv u)) g (L.set i u) := by
  refine ⟨?_, ?_⟩
  · have := h.1
    simp [World.setCell, Array.getElem?_modify, this]
  · intro x hx
    rcases List.mem_or_eq_of_mem_set hx with hx | rfl
    · exact h.2 x hx
    · exact hu
theorem IBlk.far {w : World} {g : Nat} {L : List Int} (h : IBlk w g L) {p : Addr} (hp : g ≠ p.block) (u : Value) : IBlk (w.setCell p u) g L :=
  ⟨(Below.heap_setCell w p u g hp).trans h.1, h.2⟩
theorem IBlk.alloc {w : World} {g : Nat} {L : List Int} (h : IBlk w g L) (o : Obj) : IBlk (w.alloc o) g L := ⟨(Below.heap_alloc w o g h.lt).trans h.1, h.2⟩
theorem IBlk.drew {w : World} {g : Nat} {L : List Int} (h : IBlk w g L) : IBlk w.drew g L := h
theorem IBlk.drewN {w : World} {g : Nat} {L : List Int} (h : IBlk w g L) (n : Nat) : IBlk (w.drewN n) g L := h
/-- A block read through a slice that begins at o. -/
theorem IBlk.rd {w : World} {g : Nat} {L : List Int} (h : IBlk w g L) (o n : Nat) : IRd w (some ⟨g, o, none⟩) ((L.drop o).take n) := by
  refine ⟨fi_take (fi_drop h.2 o) n, .inr ⟨g, o, rfl, h.lt, fun j hj => ?_⟩⟩
  have hj' : o + j < L.length := by simp only [List.length_take, List.length_drop] at hj; omega
  rw [h.cell (o + j) hj']
  simp
theorem IBlk.rd0 {w : World} {g : Nat} {L : List Int} (h : IBlk w g L) : IRd w (some ⟨g, 0, none⟩) L := by
  have := h.rd 0 L.length
  simpa using this

theorem ibelow_drewN {B : Nat} {a w : World} (h : Below B a w) (n : Nat) : Below B a (w.drewN n) := ⟨h.os, h.tape, h.output, h.size, h.block⟩

/-- What is asked of a slice of limbs. -/
def ISl (w : World) (A : Option Addr) (n c : Nat) (xs : List Int) : Prop := n = xs.length ∧ n ≤ c ∧ c ≤ 9223372036854775807 ∧ (A = none → c = 0) ∧ IRd w A xs

theorem ISl.len {w : World} {A : Option Addr} {n c : Nat} {xs : List Int} (h : ISl w A n c xs) : n = xs.length := h.1
theorem ISl.le {w : World} {A : Option Addr} {n c : Nat} {xs : List Int} (h : ISl w A n c xs) : n ≤ c := h.2.1
theorem ISl.max {w : World} {A : Option Addr} {n c : Nat} {xs : List Int} (h : ISl w A n c xs) : c ≤ 9223372036854775807 := h.2.2.1
theorem ISl.rd {w : World} {A : Option Addr} {n c : Nat} {xs : List Int} (h : ISl w A n c xs) : IRd w A xs := h.2.2.2.2
theorem ISl.fit {w : World} {A : Option Addr} {n c : Nat} {xs : List Int} (h : ISl w A n c xs) : Fi xs := h.2.2.2.2.1

theorem ISl.below {w w' : World} {A : Option Addr} {n c : Nat} {xs : List Int} (h : ISl w A n c xs) (hb : Below w.heap.size w w') : ISl w' A n c xs := ⟨h.1, h.2.1, h.2.2.1, h.2.2.2.1, h.2.2.2.2.below hb⟩
theorem ISl.at_ {w : World} {A : Option Addr} {n c : Nat} {xs : List Int} (h : ISl w A n c xs) (hn : 0 < n) : ∃ b o, A = some ⟨b, o, none⟩ ∧ b < w.heap.size ∧ ∀ j, j < n → w.cell? ⟨b, o + j, none⟩ = some (iv (xs.getD j 0)) := by
  rcases h.rd.2 with e | ⟨b, o, rfl, hlt, hc⟩
  · rw [h.len, e] at hn; exact absurd hn (by simp)
  · refine ⟨b, o, rfl, hlt, fun j hj => ?_⟩
    have hj' : j < xs.length := by rw [← h.len]; exact hj
    rw [hc j hj', List.getD_eq_getElem?_getD, List.getElem?_eq_getElem hj']
    rfl

theorem IBlk.sl {w : World} {g : Nat} {L : List Int} (h : IBlk w g L) (hm : L.length ≤ 9223372036854775807) : ISl w (some ⟨g, 0, none⟩) L.length L.length L :=
  ⟨rfl, Nat.le_refl _, hm, (fun e => by cases e), h.rd0⟩
theorem IBlk.cellD {w : World} {g : Nat} {L : List Int} (h : IBlk w g L) (i : Nat) (hi : i < L.length) : w.cell? ⟨g, i, none⟩ = some (iv (L.getD i 0)) := by
  rw [h.cell i hi, List.getD_eq_getElem?_getD, List.getElem?_eq_getElem hi]
  rfl
theorem infoI : (Tryd.prog.info? 3).map (fun i => (i.zero, i.size, i.bytes)) = some (some (.int .i64 0), 1, 8) := by kernel_rfl

theorem wpList_make_ints {ops : Array Oper} {rest : List Oper} {o : Oper} {a : Act} {Q : Exit → Act → World → Prop} (w : World)
    (hg : o.guard = none) (l c : Operand) (hop : o.op = Op.makeSlice 22 l c) (kl kc : IntKind) (L C : Int) (n : Nat) (hl : a.eval l = .int kl L) (hc : a.eval c = .int kc C) (hL : L = (n : Int)) (hC : C = (n : Int)) (hn : n ≤ 35184372088832)
    (hK : ∀ w', IBlk w' w.heap.size (List.replicate n 0) → Below w.heap.size w w' → wpList Tryd.prog ops Q rest (a.put o.dst (.slice (some ⟨w.heap.size, 0, none⟩) n n)) w') :
    wpList Tryd.prog ops Q (o :: rest) a w := by
  obtain ⟨i0, hi, hz0, hz1, hz2⟩ := info_parts infoI
  refine wpList_make_full w hg l c 22 hop w.heap.size 3 i0 _ 1 Tryd.underlying22 hi hz0 hz1 kl kc L C n hl hc hL hC (by rw [hz2]; omega) (by unfold maxLen; omega) (Nat.le_refl _) ?_
  intro w' ho hgr
  have hbel : Below w.heap.size w w' := (Below.refl _ _).grown hgr (Nat.le_refl _) (fun k e => by cases e)
  refine hK w' ⟨?_, ?_⟩ hbel
  · obtain ⟨h1, ⟨h2, _⟩ | ⟨g, cap, cur, hv, hb, hh, hn1, hn2, hs, ht⟩⟩ := ho
    · cases h2
    · simp only [Value.slice.injEq, Option.some.injEq, Addr.mk.injEq, and_true, true_and] at hv
      obtain ⟨rfl, rfl⟩ := hv
      have e1 : cur.toList = (List.replicate n 0).map iv := by
        rw [List.take_of_length_le (by simp [hs])] at ht
        rw [ht, show (Value.int IntKind.i64 0).cells = #[Value.int IntKind.i64 0] from rfl, toList_madeCells_one]
        simp
      rw [hh, show ((List.replicate n 0).map iv).toArray = cur from by rw [← e1]]
  · intro x hx
    rw [List.eq_of_mem_replicate hx]
    unfold In64; decide

/-- The slice value v owns the limbs xs, in blocks from B on. -/
def IOw (w : World) (B : Nat) (v : Value) (xs : List Int) : Prop := w.ownsRow B 3 1 v xs.length (xs.map iv) ∧ Fi xs

theorem IOw.nil (w : World) (B : Nat) : IOw w B (.slice none 0 0) [] := ⟨World.ownsRow_nil _ _ _ _, fi_nil⟩
theorem IOw.fit {w : World} {B : Nat} {v : Value} {xs : List Int} (h : IOw w B v xs) : Fi xs := h.2
theorem IOw.alloc {w : World} {B : Nat} {v : Value} {xs : List Int} (h : IOw w B v xs) (o : Obj) : IOw (w.alloc o) B v xs := ⟨h.1.alloc o, h.2⟩
theorem IOw.drew {w : World} {B : Nat} {v : Value} {xs : List Int} (h : IOw w B v xs) : IOw w.drew B v xs := h
theorem IOw.sl {w : World} {B : Nat} {v : Value} {xs : List Int} (h : IOw w B v xs) : ∃ A c, v = .slice A xs.length c ∧ ISl w A xs.length c xs ∧ (∀ b o s, A = some ⟨b, o, s⟩ → B ≤ b) := by
  obtain ⟨⟨hl, h2⟩, hf⟩ := h
  rcases h2 with ⟨rfl, h0⟩ | ⟨g, cap, cur, rfl, hb, hh, hn, hc, hs, ht⟩
  · refine ⟨none, 0, by rw [h0], ⟨rfl, by omega, by decide, fun _ => rfl, hf, .inl (List.eq_nil_of_length_eq_zero h0)⟩, fun b o s e => by cases e⟩
  · refine ⟨some ⟨g, 0, none⟩, cap, rfl, ⟨rfl, hn, by unfold maxLen at hc; omega, (fun e => by cases e), hf, .inr ⟨g, 0, rfl, (Array.getElem?_eq_some_iff.1 hh).1, fun j hj => ?_⟩⟩, fun b o s e => ?_⟩
    · rw [cell_of_row w g (0 + j) cur _ (0, 0) hh, Nat.zero_add]
      have h1 : (cur.toList.take (xs.length * 1))[j]? = (xs.map iv)[j]? := by rw [ht]
      rw [List.getElem?_take_of_lt (by omega), List.getElem?_map, List.getElem?_eq_getElem hj] at h1
      simpa using h1
    · simp only [Option.some.injEq, Addr.mk.injEq] at e
      omega
theorem IOw.lt {w : World} {B : Nat} {v : Value} {xs : List Int} (h : IOw w B v xs) : ∀ k, v.ownBlock = some k → B ≤ k := fun k hk => (h.1.lt k hk).1

theorem iadd_add (a : Addr) (k : Nat) (b o : Nat) (h : a = ⟨b, o, none⟩) : a.add k = ⟨b, o + k, none⟩ := by
  subst h
  unfold Addr.add
  by_cases hk : k = 0 <;> simp [hk]

theorem irun_app (w : World) (ty : TypeId) (B : Nat) (v : Value) (xs : List Int) (hown : IOw w B v xs) (A : Option Addr) (m c : Nat) (news : List Int) (hR : ISl w A m c news) (hmax : xs.length + m ≤ 17592186044416) (hB : B ≤ w.heap.size) :
    ∃ v' w', (Builtin.append_ #[22, 22] ty #[v, .slice A m c]).run Tryd.prog w = .ok v' w' ∧ IOw w' B v' (xs ++ news) ∧ Below B w w' := by
  obtain ⟨i0, hi, hz0, hz1, hz2⟩ := info_parts infoI
  have hl : (xs ++ news).length = xs.length + m := by rw [List.length_append, hR.len]
  have hfit : Fi (xs ++ news) := fi_append hown.2 hR.fit
  rcases A with _ | ad
  · have h0 : c = 0 := hR.2.2.2.1 rfl
    have hm : m = 0 := by have := hR.le; omega
    subst h0; subst hm
    have hn : news = [] := List.eq_nil_of_length_eq_zero hR.len.symm
    subst hn
    refine ⟨v, w, run_append_owned_none (P := Tryd.prog) (w := w) B 22 ty 3 i0 1 Tryd.underlying22 hi v xs.length (xs.map iv) hown.1, ?_, Below.refl _ _⟩
    simpa using hown
  · have hcells : ∀ j u, (news.map iv)[j]? = some u → w.cell? (ad.add j) = some u := by
      intro j u hj
      rw [List.getElem?_map] at hj
      obtain ⟨x, hx, rfl⟩ := Option.map_eq_some_iff.1 hj
      obtain ⟨hj', rfl⟩ := List.getElem?_eq_some_iff.1 hx
      rcases hR.rd.2 with e | ⟨b, o, e, hlt, hc⟩
      · rw [e] at hj'; exact absurd hj' (by simp)
      · simp only [Option.some.injEq] at e
        rw [iadd_add ad j b o e]
        exact hc j hj'
    obtain ⟨v', w', hrun, h2, h3, _⟩ := run_append_own (P := Tryd.prog) w B 22 ty 3 i0 _ 1 8 Tryd.underlying22 hi hz0 hz1 hz2 rfl (by decide) v xs.length (xs.map iv) hown.1 ad m c (news.map iv)
      (by rw [List.length_map, hR.len]; omega) hcells (by intro u hu; obtain ⟨x, _, rfl⟩ := List.mem_map.1 hu; rfl) (by unfold maxLen; omega) (by omega) hB
    refine ⟨v', w', hrun, ⟨?_, hfit⟩, (Below.refl B w).grown h3 hB (hown.lt)⟩
    rw [hl, List.map_append]
    exact h2

theorem iwp_app {o : Oper} {a : Act} {K : Act → World → Prop} {Q : Exit → Act → World → Prop} (w : World) (s x : Operand) (ho : o.op = .call { callee := .builtin .append, args := #[s, x], argTypes := #[22, 22] })
    (B : Nat) (v : Value) (xs : List Int) (hs : a.eval s = v) (hown : IOw w B v xs) (A : Option Addr) (m c : Nat) (hx : a.eval x = .slice A m c) (news : List Int) (hR : ISl w A m c news) (hmax : xs.length + m ≤ 17592186044416) (hB : B ≤ w.heap.size)
    (h : ∀ v' w', IOw w' B v' (xs ++ news) → Below B w w' → K (a.put o.dst v') w') : o.wp Tryd.prog a w K Q := by
  obtain ⟨v', w', hrun, h2, h3⟩ := irun_app w o.type B v xs hown A m c news hR hmax hB
  unfold Oper.wp execOp
  simp only [ho, resolve, invoke, builtin, Sem.run_bind, Sem.run_pure, Result.andThen_ok, List.map_toArray, List.map_cons, List.map_nil, hs, hx, hrun]
  exact h v' w' h2 h3

theorem iwpList_app {ops : Array Oper} {rest : List Oper} {o : Oper} {a : Act} {Q : Exit → Act → World → Prop} (w : World) (hgd : o.guard = none) (s x : Operand) (ho : o.op = .call { callee := .builtin .append, args := #[s, x], argTypes := #[22, 22] })
    (B : Nat) (v : Value) (xs : List Int) (hs : a.eval s = v) (hown : IOw w B v xs) (A : Option Addr) (m c : Nat) (hx : a.eval x = .slice A m c) (news : List Int) (hR : ISl w A m c news) (hmax : xs.length + m ≤ 17592186044416) (hB : B ≤ w.heap.size)
    (h : ∀ v' w', IOw w' B v' (xs ++ news) → Below B w w' → wpList Tryd.prog ops Q rest (a.put o.dst v') w') : wpList Tryd.prog ops Q (o :: rest) a w :=
  wpList_plain hgd fun _ hK => iwp_app w s x ho B v xs hs hown A m c hx news hR hmax hB fun v' w' h2 h3 => hK _ _ (h v' w' h2 h3)

theorem istep_app {ops : Array Oper} {o : Oper} {a : Act} {K : Act → World → Prop} {Q : Exit → Act → World → Prop} {E : Prop} (w : World) (hgd : o.guard = none) (s x : Operand) (ho : o.op = .call { callee := .builtin .append, args := #[s, x], argTypes := #[22, 22] })
    (B : Nat) (v : Value) (xs : List Int) (hs : a.eval s = v) (hown : IOw w B v xs) (A : Option Addr) (m c : Nat) (hx : a.eval x = .slice A m c) (news : List Int) (hR : ISl w A m c news) (hmax : xs.length + m ≤ 17592186044416) (hB : B ≤ w.heap.size)
    (h : ∀ v' w', IOw w' B v' (xs ++ news) → Below B w w' → K (a.put o.dst v') w') : if Region.wanted o (yielded ops a.tmps) = true then Oper.wp Tryd.prog o a w K Q else E := by
  have hw : Region.wanted o (yielded ops a.tmps) = true := by simp [Region.wanted, hgd]
  rw [if_pos hw]
  exact iwp_app w s x ho B v xs hs hown A m c hx news hR hmax hB h

theorem iblk_list (w : World) (xs : List Int) (hf : Fi xs) : IBlk (w.alloc (.cells (xs.map iv).toArray 3)) w.heap.size xs := ⟨heap_alloc_new w _, hf⟩
end Go.Proofs.YtekpifafjbkmiaaDoor

/- Texts joined, in their order: FlnIns. -/
import Derived.Lib.AppendZerosOnto
import Derived.Lib.Overlaps
import Derived.Laws.Externs
import Derived.Laws.CopyRow
import Derived.Laws.NewBlocks
import Derived.Deep.RegionLaw
import Derived.Test.YtnkhhndjbanmnaaGreatDoorMp30

/- slices.Insert at flin's rows, one row more, by its contract: a row of the call's own. -/
namespace Go.Proofs.YtnkhhndjbanmnaaGreatDoor
open Go.RowKit Go.Shelf

theorem infoR : (Tryz.prog.info? 136).map (fun i => (i.zero, i.size, i.bytes)) = some (some (.agg #[.int .i64 0, .slice none 0 0]), 2, 32) := by kernel_rfl

theorem rrun_app (w : World) (ty : TypeId) (B : Nat) (v : Value) (n : Nat) (xs : List Value) (hown : w.ownsRow B 136 2 v n xs) (g : Nat) (y0 y1 : Value) (hy : w.heap[g]? = some (.cells #[y0, y1] 136 (0, 0))) (h0 : y0.oneCell' = true) (h1 : y1.oneCell' = true) (hn : n ≤ 1000) (hB : B ≤ w.heap.size) :
    ∃ v' w', (Builtin.append_ #[106, 106] ty #[v, .slice (some ⟨g, 0, none⟩) 1 1]).run Tryz.prog w = .ok v' w' ∧ w'.ownsRow B 136 2 v' (n + 1) (xs ++ [y0, y1]) ∧ w.grownBy w' v.ownBlock ∧ (v'.ownBlock = v.ownBlock ∨ v'.ownBlock = some w.heap.size) := by
  obtain ⟨i0, hi, hz0, hz1, hz2⟩ := info_parts infoR
  obtain ⟨v', w', hrun, k1, k2, _, k3⟩ := run_append_own_at (P := Tryz.prog) (w := w) B 106 ty 136 i0 _ 2 32 Tryz.underlying106 hi hz0 hz1 hz2 rfl (by decide) v n xs hown ⟨g, 0, none⟩ 1 1 [y0, y1] rfl
    (fun j u hj => by
      rw [iadd_add _ j g 0 rfl, cell_of_row w g (0 + j) _ _ (0, 0) hy]
      rw [Nat.zero_add]
      simpa using hj)
    (fun u hu => by simp at hu; rcases hu with rfl | rfl <;> assumption) (by unfold maxLen; omega) (by omega) hB
  exact ⟨v', w', hrun, k1, k2, k3⟩

theorem rwp_app {o : Oper} {a : Act} {K : Act → World → Prop} {Q : Exit → Act → World → Prop} (w : World) (s x : Operand) (ho : o.op = .call { callee := .builtin .append, args := #[s, x], argTypes := #[106, 106] })
    (B : Nat) (v : Value) (n : Nat) (xs : List Value) (hs : a.eval s = v) (hown : w.ownsRow B 136 2 v n xs) (g : Nat) (hx : a.eval x = .slice (some ⟨g, 0, none⟩) 1 1) (y0 y1 : Value) (hy : w.heap[g]? = some (.cells #[y0, y1] 136 (0, 0))) (h0 : y0.oneCell' = true) (h1 : y1.oneCell' = true) (hn : n ≤ 1000) (hB : B ≤ w.heap.size)
    (h : ∀ v' w', w'.ownsRow B 136 2 v' (n + 1) (xs ++ [y0, y1]) → w.grownBy w' v.ownBlock → (v'.ownBlock = v.ownBlock ∨ v'.ownBlock = some w.heap.size) → K (a.put o.dst v') w') : o.wp Tryz.prog a w K Q := by
  obtain ⟨v', w', hrun, h2, h3, h4⟩ := rrun_app w o.type B v n xs hown g y0 y1 hy h0 h1 hn hB
  unfold Oper.wp execOp
  simp only [ho, resolve, invoke, builtin, Sem.run_bind, Sem.run_pure, Result.andThen_ok, List.map_toArray, List.map_cons, List.map_nil, hs, hx, hrun]
  exact h v' w' h2 h3 h4
theorem rwpList_app {ops : Array Oper} {rest : List Oper} {o : Oper} {a : Act} {Q : Exit → Act → World → Prop} (w : World) (hgd : o.guard = none) (s x : Operand) (ho : o.op = .call { callee := .builtin .append, args := #[s, x], argTypes := #[106, 106] })
    (B : Nat) (v : Value) (n : Nat) (xs : List Value) (hs : a.eval s = v) (hown : w.ownsRow B 136 2 v n xs) (g : Nat) (hx : a.eval x = .slice (some ⟨g, 0, none⟩) 1 1) (y0 y1 : Value) (hy : w.heap[g]? = some (.cells #[y0, y1] 136 (0, 0))) (h0 : y0.oneCell' = true) (h1 : y1.oneCell' = true) (hn : n ≤ 1000) (hB : B ≤ w.heap.size)
    (h : ∀ v' w', w'.ownsRow B 136 2 v' (n + 1) (xs ++ [y0, y1]) → w.grownBy w' v.ownBlock → (v'.ownBlock = v.ownBlock ∨ v'.ownBlock = some w.heap.size) → wpList Tryz.prog ops Q rest (a.put o.dst v') w') : wpList Tryz.prog ops Q (o :: rest) a w :=
  wpList_plain hgd fun _ hK => rwp_app w s x ho B v n xs hs hown g hx y0 y1 hy h0 h1 hn hB fun v' w' h2 h3 h4 => hK _ _ (h v' w' h2 h3 h4)

theorem rwp_copy {o : Oper} {a : Act} {K : Act → World → Prop} {Q : Exit → Act → World → Prop} (w : World) (d s : Operand) (ho : o.op = .call { callee := .builtin .copy, args := #[d, s], argTypes := #[106, 106] })
    (v u : Value) (hd : a.eval d = v) (hs : a.eval s = u) {v' : Value} {w' : World} (hr : ∀ ty, (Builtin.copy_ #[106, 106] ty #[v, u]).run Tryz.prog w = .ok v' w') (h : K (a.put o.dst v') w') : o.wp Tryz.prog a w K Q := by
  have hr := hr o.type
  unfold Oper.wp execOp
  simp only [ho, resolve, invoke, builtin, Sem.run_bind, Sem.run_pure, Result.andThen_ok, List.map_toArray, List.map_cons, List.map_nil, hd, hs, hr]
  exact h
theorem rstep_copy {ops : Array Oper} {o : Oper} {a : Act} {K : Act → World → Prop} {Q : Exit → Act → World → Prop} {E : Prop} (w : World) (hgd : o.guard = none) (d s : Operand) (ho : o.op = .call { callee := .builtin .copy, args := #[d, s], argTypes := #[106, 106] })
    (v u : Value) (hd : a.eval d = v) (hs : a.eval s = u) {v' : Value} {w' : World} (hr : ∀ ty, (Builtin.copy_ #[106, 106] ty #[v, u]).run Tryz.prog w = .ok v' w') (h : K (a.put o.dst v') w') : if Region.wanted o (yielded ops a.tmps) = true then Oper.wp Tryz.prog o a w K Q else E := by
  have hw : Region.wanted o (yielded ops a.tmps) = true := by simp [Region.wanted, hgd]
  rw [if_pos hw]
  exact rwp_copy w d s ho v u hd hs hr h
theorem rwpList_zer {ops : Array Oper} {rest : List Oper} {o : Oper} {a : Act} {Q : Exit → Act → World → Prop} (w : World) (hgd : o.guard = none) (s x : Operand) (ho : o.op = .call { callee := .builtin .append, args := #[s, x], argTypes := #[106, 3] })
    (v u : Value) (hs : a.eval s = v) (hx : a.eval x = u) {v' : Value} {w' : World} (hr : ∀ ty, (Builtin.append_ #[106, 3] ty #[v, u]).run Tryz.prog w = .ok v' w') (h : wpList Tryz.prog ops Q rest (a.put o.dst v') w') : wpList Tryz.prog ops Q (o :: rest) a w :=
  wpList_plain hgd fun _ hK => by
    have hr := hr o.type
    unfold Oper.wp execOp
    simp only [ho, resolve, invoke, builtin, Sem.run_bind, Sem.run_pure, Result.andThen_ok, List.map_toArray, List.map_cons, List.map_nil, hs, hx, hr]
    exact hK _ _ h

theorem rrun_copy (w : World) (ty : TypeId) (g o dLen dCap : Nat) (a : Addr) (sLen sCap : Nat) (cur : Array Value) (cs : List Value)
    (hg : w.heap[g]? = some (.cells cur 136 (0, 0))) (hn : cs.length = Nat.min sLen dLen * 2)
    (hsrc : ∀ j v, cs[j]? = some v → w.cell? (a.add j) = some v) (hfit : o + cs.length ≤ cur.size) (h1 : ∀ v ∈ cs, v.oneCell' = true) :
    (Builtin.copy_ #[106, 106] ty #[.slice (some ⟨g, o, none⟩) dLen dCap, .slice (some a) sLen sCap]).run Tryz.prog w =
      .ok (goInt (Nat.min sLen dLen)) (w.setRow g (cur.toList.take o ++ cs ++ cur.toList.drop (o + cs.length)).toArray) := by
  have hl := run_loadCells_list (P := Tryz.prog) w a cs hsrc
  have hst := run_storeCells_at Tryz.prog g o 136 cs 0 cur w hg (by simpa using hfit) h1
  obtain ⟨i0, hi, _, hz1, _⟩ := info_parts infoR
  simp [Builtin.copy_, run_underlying Tryz.underlying106, Builtin.lenOf, Builtin.firstCells, sizeOf, typeInfo, hi, hz1, ← hn, hl, hst]

theorem ins_list (A D Y rest : List Value) (hr : 2 ≤ rest.length) :
    (((A ++ (D ++ rest)).take (A.length + 2) ++ D ++ (A ++ (D ++ rest)).drop (A.length + 2 + D.length)).take A.length ++ Y ++ ((A ++ (D ++ rest)).take (A.length + 2) ++ D ++ (A ++ (D ++ rest)).drop (A.length + 2 + D.length)).drop (A.length + 2)) = A ++ Y ++ D ++ rest.drop 2 := by
  have e1 : (A ++ (D ++ rest)).take (A.length + 2) = A ++ (D ++ rest).take 2 := by rw [List.take_append]; simp [List.take_of_length_le]
  have e2 : (A ++ (D ++ rest)).drop (A.length + 2 + D.length) = rest.drop 2 := by
    rw [show A.length + 2 + D.length = A.length + (D.length + 2) by omega, List.drop_append, List.drop_of_length_le (by omega), List.nil_append, show A.length + (D.length + 2) - A.length = D.length + 2 by omega, List.drop_append, List.drop_of_length_le (by omega), List.nil_append, show D.length + 2 - D.length = 2 by omega]
  rw [e1, e2]
  have hJ : ((D ++ rest).take 2).length = 2 := by rw [List.length_take, List.length_append]; omega
  have e3 : (A ++ (D ++ rest).take 2 ++ D ++ rest.drop 2).take A.length = A := by simp [List.append_assoc]
  have e4 : (A ++ (D ++ rest).take 2 ++ D ++ rest.drop 2).drop (A.length + 2) = D ++ rest.drop 2 := by
    generalize (D ++ rest).take 2 = J at hJ
    rw [List.append_assoc, List.drop_append, List.drop_of_length_le (by rw [List.length_append]; omega)]
    rw [List.nil_append, List.length_append, hJ]; simp
  rw [e3, e4, List.append_assoc, List.append_assoc, List.append_assoc]

def InsOut (w : World) (B : Nat) (v : Value) (n : Nat) (L : List Value) (e : Ending) (w' : World) : Prop :=
  ∃ v', e = .returned v' ∧ w'.ownsRow B 136 2 v' (n + 1) L ∧ w.grownBy w' v.ownBlock ∧ (v'.ownBlock = v.ownBlock ∨ v'.ownBlock = some w.heap.size)

set_option maxRecDepth 100000 in
set_option maxHeartbeats 2000000 in
theorem rIns_nil (w : World) (B g : Nat) (y0 y1 : Value) (hy : w.heap[g]? = some (.cells #[y0, y1] 136 (0, 0))) (h0 : y0.oneCell' = true) (h1 : y1.oneCell' = true) (hB : B ≤ w.heap.size) :
    Calls Tryz.prog 152 #[.slice none 0 0, .int .i64 0, .slice (some ⟨g, 0, none⟩) 1 1] w fun e w' => InsOut w B (.slice none 0 0) 0 [y0, y1] e w' := by
  have hown := World.ownsRow_nil w B 136 2
  go_enter Tryz.func152, Tryz.ntmps152
  go_wp2_with (at_builtin; refine rwpList_app _ rfl _ _ rfl B _ 0 [] rfl hown g rfl y0 y1 hy h0 h1 (by omega) hB ?_; intro v' w' k1 k2 k3)
  go_ret
  exact ⟨_, rfl, k1, k2, k3⟩

set_option maxRecDepth 100000 in
set_option maxHeartbeats 2000000 in
theorem rIns_end (w : World) (B g6 n cap g : Nat) (xs : List Value) (y0 y1 : Value) (hown : w.ownsRow B 136 2 (.slice (some ⟨g6, 0, none⟩) n cap) n xs) (hy : w.heap[g]? = some (.cells #[y0, y1] 136 (0, 0))) (h0 : y0.oneCell' = true) (h1 : y1.oneCell' = true) (hn : n ≤ 1000) (hB : B ≤ w.heap.size) :
    Calls Tryz.prog 152 #[.slice (some ⟨g6, 0, none⟩) n cap, .int .i64 (n : Int), .slice (some ⟨g, 0, none⟩) 1 1] w fun e w' => InsOut w B (.slice (some ⟨g6, 0, none⟩) n cap) n (xs ++ [y0, y1]) e w' := by
  have i1 : (0 : Int) ≤ (n : Int) := by omega
  go_enter Tryz.func152, Tryz.ntmps152
  go_wp2_with (at_builtin; refine rwpList_app _ rfl _ _ rfl B _ n xs rfl hown g rfl y0 y1 hy h0 h1 hn hB ?_; intro v' w' k1 k2 k3)
  all_goals
    go_ret
    exact ⟨_, rfl, k1, k2, k3⟩

set_option maxRecDepth 100000 in
set_option maxHeartbeats 4000000 in
theorem rIns_room (w : World) (B g6 n cap g t : Nat) (xs : List Value) (y0 y1 : Value) (hown : w.ownsRow B 136 2 (.slice (some ⟨g6, 0, none⟩) n cap) n xs) (hy : w.heap[g]? = some (.cells #[y0, y1] 136 (0, 0))) (hg : g ≠ g6) (h0 : y0.oneCell' = true) (h1 : y1.oneCell' = true) (hx1 : ∀ u ∈ xs, u.oneCell' = true)
    (hn : n ≤ 1000) (hnc : n + 1 ≤ cap) (hcm : cap ≤ 9223372036854775807) (ht : t < n) :
    Calls Tryz.prog 152 #[.slice (some ⟨g6, 0, none⟩) n cap, .int .i64 (t : Int), .slice (some ⟨g, 0, none⟩) 1 1] w fun e w' => InsOut w B (.slice (some ⟨g6, 0, none⟩) n cap) n (xs.take (t * 2) ++ [y0, y1] ++ xs.drop (t * 2)) e w' := by
  obtain ⟨hxl, ho⟩ := hown
  rcases ho with ⟨e, _⟩ | ⟨g', cap', cur, e, hBg, hh, _, hcx, hcs, htk⟩
  · cases e
  simp only [Value.slice.injEq, Option.some.injEq, Addr.mk.injEq, and_true, true_and] at e
  obtain ⟨rfl, rfl⟩ := e
  obtain ⟨A, hA⟩ : ∃ A, xs.take (t * 2) = A := ⟨_, rfl⟩
  obtain ⟨D, hD⟩ : ∃ D, xs.drop (t * 2) = D := ⟨_, rfl⟩
  obtain ⟨rest, hR⟩ : ∃ rest, cur.toList.drop (n * 2) = rest := ⟨_, rfl⟩
  have hAl : A.length = t * 2 := by rw [← hA, List.length_take]; omega
  have hDl : D.length = (n - t) * 2 := by rw [← hD, List.length_drop]; omega
  have hRl : rest.length = (cap - n) * 2 := by rw [← hR, List.length_drop, Array.length_toList, hcs]; omega
  have hxs : xs = A ++ D := by rw [← hA, ← hD, List.take_append_drop]
  have hcur : cur.toList = A ++ (D ++ rest) := by rw [← List.append_assoc, ← hxs, ← htk, ← hR, List.take_append_drop]
  have hD1 : ∀ u ∈ D, u.oneCell' = true := fun u hu => hx1 u (by rw [hxs]; exact List.mem_append_right _ hu)
  rw [hA, hD]
  obtain ⟨c1, hc1⟩ : ∃ c1, (cur.toList.take ((t + 1) * 2) ++ D ++ cur.toList.drop ((t + 1) * 2 + D.length)).toArray = c1 := ⟨_, rfl⟩
  obtain ⟨c2, hc2⟩ : ∃ c2, (c1.toList.take (t * 2) ++ [y0, y1] ++ c1.toList.drop (t * 2 + [y0, y1].length)).toArray = c2 := ⟨_, rfl⟩
  have hc2l : c2.toList = A ++ [y0, y1] ++ D ++ rest.drop 2 := by
    rw [← hc2, ← hc1, hcur]
    have := ins_list A D [y0, y1] rest (by omega)
    rw [hAl] at this
    rw [show (t + 1) * 2 = t * 2 + 2 by omega]
    exact this
  have hc1s : c1.size = cap * 2 := by
    rw [← hc1, ← Array.length_toList, List.toList_toArray, List.length_append, List.length_append, List.length_take, List.length_drop, Array.length_toList, hcs, hDl]; omega
  have hcp1 : ∀ ty dc sc, (Builtin.copy_ #[106, 106] ty #[.slice (some ⟨g6, (t + 1) * 2, none⟩) (n + 1 - (t + 1)) dc, .slice (some ⟨g6, t * 2, none⟩) (n + 1 - t) sc]).run Tryz.prog w.drew = .ok (goInt (Nat.min (n + 1 - t) (n + 1 - (t + 1)))) (w.drew.setRow g6 c1) := fun ty dc sc => by
    rw [← hc1]
    exact rrun_copy w.drew ty g6 ((t + 1) * 2) _ dc ⟨g6, t * 2, none⟩ _ sc cur D hh (by rw [hDl, show Nat.min (n + 1 - t) (n + 1 - (t + 1)) = n + 1 - (t + 1) from Nat.min_eq_right (by omega)]; omega)
      (fun j u hj => by
        rw [iadd_add _ j g6 (t * 2) rfl, cell_of_row w.drew g6 (t * 2 + j) cur _ (0, 0) hh, ← Array.getElem?_toList, hcur]
        rw [List.getElem?_append_right (by omega), hAl, show t * 2 + j - t * 2 = j by omega, List.getElem?_append_left (by have := (List.getElem?_eq_some_iff.1 hj).1; exact this)]
        exact hj) (by rw [hDl, hcs]; omega) hD1
  have hcp2 : ∀ (W : World), W.heap[g6]? = some (.cells c1 136 (0, 0)) → W.heap[g]? = some (.cells #[y0, y1] 136 (0, 0)) → ∀ ty dc, (Builtin.copy_ #[106, 106] ty #[.slice (some ⟨g6, t * 2, none⟩) (n + 1 - t) dc, .slice (some ⟨g, 0, none⟩) 1 1]).run Tryz.prog W = .ok (goInt (Nat.min 1 (n + 1 - t))) (W.setRow g6 c2) := fun W h6 hgW ty dc => by
    rw [← hc2]
    exact rrun_copy W ty g6 (t * 2) _ dc ⟨g, 0, none⟩ 1 1 c1 [y0, y1] h6 (by rw [show Nat.min 1 (n + 1 - t) = 1 from Nat.min_eq_left (by omega)]; rfl)
      (fun j u hj => by
        rw [iadd_add _ j g 0 rfl, cell_of_row W g (0 + j) _ _ (0, 0) hgW, Nat.zero_add]
        simpa using hj) (by simp; omega) (fun u hu => by simp at hu; rcases hu with rfl | rfl <;> assumption)
  have hov : ∀ o lb cb, (callFunc 183 #[.slice (some ⟨g, 0, none⟩) 1 1, .slice (some ⟨g6, o, none⟩) lb cb]).run Tryz.prog w = .ok (.value (.bool false)) w := fun o lb cb => by
    rw [run_callFunc_extern Tryz.func183 (by kernel_rfl) (by kernel_rfl) (by kernel_rfl) (e := Extern.SlicesOverlaps.overlaps #[106, 106] #[4]) (by kernel_rfl),
      Lib.run_overlaps_apart w 106 4 136 Tryz.underlying106 2 Tryz.sizeOf136 ⟨g, 0, none⟩ ⟨g6, o, none⟩ 1 1 lb cb hg 136 136 2 (cap * 2) (by simp [World.shape?, hy]) (by simp [World.shape?, hh, hcs]) (by omega)
        (by simp [World.frozen?, hy]) (by simp [World.frozen?, hy])]
    rfl
  have i1 : (0 : Int) ≤ (t : Int) := by omega
  have i2 : (t : Int) ≤ (n : Int) := by omega
  have i3 : ¬ ((t : Int) = (n : Int)) := by omega
  have i4 : ¬ ((cap : Int) < (n : Int) + 1) := by omega
  have i5 : ¬ (cap = t) := by omega
  have i6 : ¬ (cap = t + 1) := by omega
  have i7 : IntKind.i64.wrap ((t : Int) + 1) = (t : Int) + 1 := by rw [IntKind.wrap_i64]; omega
  have i8 : (0 : Int) ≤ (t : Int) + 1 := by omega
  have i9 : (t : Int) + 1 ≤ (n : Int) + 1 := by omega
  have i10 : ((t : Int) + 1).toNat = t + 1 := by omega
  have i11 : (t : Int) ≤ (n : Int) + 1 := by omega
  clear hc1 hc2
  go_enter Tryz.func152, Tryz.ntmps152
  go_wp2_with (simp only [hov])
  go_region_law (refine rstep_copy _ (by rfl) (.tmp 73) (.tmp 76) (by rfl) (.slice (some ⟨g6, (t + 1) * 2, none⟩) (n + 1 - (t + 1)) (cap - (t + 1))) (.slice (some ⟨g6, t * 2, none⟩) (n + 1 - t) (cap - t)) (by simp [Act.eval, Act.put]) (by simp [Act.eval, Act.put]) (fun ty => hcp1 ty _ _) ?_)
  have hq := fun ty => hcp2 (w.drew.setRow g6 c1) (setRow_heap _ _ _ _ _ _ hh) ((setRow_other _ _ _ _ hg).trans hy) ty (cap - t)
  clear hcp1 hcp2 hov
  go_wp2_with fail
  go_ret
  refine ⟨_, rfl, ⟨by rw [List.length_append, List.length_append, hAl, hDl]; simp; omega, .inr ⟨g6, cap, c2, rfl, hBg, ?_, hnc, hcx, ?_, ?_⟩⟩, ⟨rfl, rfl, rfl, by simp, fun k _ hk => ?_⟩, .inl rfl⟩
  · exact setRow_heap _ _ _ _ _ _ (setRow_heap _ _ _ _ _ _ hh)
  · rw [← Array.length_toList, hc2l]
    simp only [List.length_append, List.length_drop, hAl, hDl, hRl, List.length_cons, List.length_nil]; omega
  · rw [hc2l, List.take_append_of_le_length (by simp only [List.length_append, hAl, hDl, List.length_cons, List.length_nil]; omega)]
    exact List.take_of_length_le (by simp only [List.length_append, hAl, hDl, List.length_cons, List.length_nil]; omega)
  · have hk6 : k ≠ g6 := fun e => hk (by rw [e]; rfl)
    rw [setRow_other _ _ _ _ hk6, setRow_other _ _ _ _ hk6]; rfl

theorem grown_list (A D Y Z : List Value) (hY : Y.length = 2) (hZ : Z.length = D.length + 2) (W : List Value) :
    (((A ++ Z ++ W).take A.length ++ Y ++ (A ++ Z ++ W).drop (A.length + 2)).take (A.length + 2) ++ D ++ ((A ++ Z ++ W).take A.length ++ Y ++ (A ++ Z ++ W).drop (A.length + 2)).drop (A.length + 2 + D.length)) = A ++ Y ++ D ++ W := by
  have e1 : (A ++ Z ++ W).take A.length = A := by rw [List.append_assoc]; simp
  have e2 : (A ++ Z ++ W).drop (A.length + 2) = (Z ++ W).drop 2 := by
    rw [List.append_assoc, List.drop_append, List.drop_of_length_le (by omega), List.nil_append, show A.length + 2 - A.length = 2 by omega]
  rw [e1, e2]
  have e3 : (A ++ Y ++ (Z ++ W).drop 2).take (A.length + 2) = A ++ Y := by
    rw [List.take_append_of_le_length (by rw [List.length_append]; omega)]
    exact List.take_of_length_le (by rw [List.length_append]; omega)
  have e4 : (A ++ Y ++ (Z ++ W).drop 2).drop (A.length + 2 + D.length) = W := by
    rw [List.drop_append, List.drop_of_length_le (by rw [List.length_append]; omega), List.nil_append, List.length_append, hY, show A.length + 2 + D.length - (A.length + 2) = D.length by omega, List.drop_drop, List.drop_append, List.drop_of_length_le (by omega), List.nil_append, show 2 + D.length - Z.length = 0 by omega]
    rfl
  rw [e3, e4]

set_option maxRecDepth 100000 in
set_option maxHeartbeats 4000000 in
theorem rIns_grow (w : World) (B g6 n cap g t : Nat) (xs : List Value) (y0 y1 : Value) (hown : w.ownsRow B 136 2 (.slice (some ⟨g6, 0, none⟩) n cap) n xs) (hy : w.heap[g]? = some (.cells #[y0, y1] 136 (0, 0))) (h0 : y0.oneCell' = true) (h1 : y1.oneCell' = true) (hx1 : ∀ u ∈ xs, u.oneCell' = true)
    (hn : n ≤ 1000) (hnc : cap < n + 1) (ht : t < n) (hB : B ≤ w.heap.size) :
    Calls Tryz.prog 152 #[.slice (some ⟨g6, 0, none⟩) n cap, .int .i64 (t : Int), .slice (some ⟨g, 0, none⟩) 1 1] w fun e w' => InsOut w B (.slice (some ⟨g6, 0, none⟩) n cap) n (xs.take (t * 2) ++ [y0, y1] ++ xs.drop (t * 2)) e w' := by
  have hgw : g < w.heap.size := (Array.getElem?_eq_some_iff.1 hy).1
  obtain ⟨hxl, ho⟩ := hown
  rcases ho with ⟨e, _⟩ | ⟨g', cap', cur, e, hBg, hh, hncap, hcx, hcs, htk⟩
  · cases e
  simp only [Value.slice.injEq, Option.some.injEq, Addr.mk.injEq, and_true, true_and] at e
  obtain ⟨rfl, rfl⟩ := e
  obtain rfl : cap = n := by omega
  have hg6w : g6 < w.heap.size := (Array.getElem?_eq_some_iff.1 hh).1
  obtain ⟨A, hA⟩ : ∃ A, xs.take (t * 2) = A := ⟨_, rfl⟩
  obtain ⟨D, hD⟩ : ∃ D, xs.drop (t * 2) = D := ⟨_, rfl⟩
  have hAl : A.length = t * 2 := by rw [← hA, List.length_take]; omega
  have hDl : D.length = (cap - t) * 2 := by rw [← hD, List.length_drop]; omega
  have hxs : xs = A ++ D := by rw [← hA, ← hD, List.take_append_drop]
  have hcur : cur.toList = A ++ D := by rw [← hxs, ← htk, List.take_of_length_le (by rw [Array.length_toList, hcs]; exact Nat.le_refl _)]
  have hD1 : ∀ u ∈ D, u.oneCell' = true := fun u hu => hx1 u (by rw [hxs]; exact List.mem_append_right _ hu)
  rw [hA, hD]
  obtain ⟨i0, hi0, hz0, hzs, hzb⟩ := info_parts infoR
  have hold : (Builtin.firstCells i0.size t (.slice (some ⟨g6, 0, none⟩) t cap)).run Tryz.prog w.drew = .ok A.toArray w.drew := by
    rw [hzs]
    exact run_firstCells_some w.drew 2 t ⟨g6, 0, none⟩ t cap A hAl (fun j v hj => by
      rw [iadd_add _ j g6 0 rfl, cell_of_row w.drew g6 (0 + j) cur _ (0, 0) hh, ← Array.getElem?_toList, hcur, Nat.zero_add, List.getElem?_append_left (by have := (List.getElem?_eq_some_iff.1 hj).1; exact this)]
      exact hj)
  obtain ⟨G, hG⟩ : ∃ G, G = grownCap w (cap + 1) cap 136 := ⟨_, rfl⟩
  obtain ⟨Z, hZ⟩ : ∃ Z, (Builtin.zeroCells (Value.agg #[.int .i64 0, .slice none 0 0]).cells (cap + 1 - t)).toList = Z := ⟨_, rfl⟩
  obtain ⟨V, hV⟩ : ∃ V, (Builtin.zeroCells (Value.agg #[.int .i64 0, .slice none 0 0]).cells (G - (cap + 1))).toList = V := ⟨_, rfl⟩
  have hGn : cap + 1 ≤ G := by rw [hG]; exact grownCap_ge w _ _ _
  have hGx : G ≤ maxLen := by
    rw [hG]
    exact grownCap_le_maxLen w (cap + 1) cap 136 (by unfold maxLen; omega)
  have hZl : Z.length = D.length + 2 := by rw [← hZ, hDl]; simp [Builtin.zeroCells, Value.cells]; omega
  have hVl : V.length = (G - (cap + 1)) * 2 := by rw [← hV]; simp [Builtin.zeroCells, Value.cells]
  obtain ⟨ROW, hROW⟩ : ∃ ROW : Array Value, ROW = A.toArray ++ Builtin.zeroCells (Value.agg #[.int .i64 0, .slice none 0 0]).cells (cap + 1 - t) ++ Builtin.zeroCells (Value.agg #[.int .i64 0, .slice none 0 0]).cells (G - (cap + 1)) := ⟨_, rfl⟩
  have hRl : ROW.toList = A ++ Z ++ V := by rw [hROW, ← hZ, ← hV]; simp
  obtain ⟨h, hh0⟩ : ∃ h, h = w.heap.size := ⟨_, rfl⟩
  obtain ⟨w1, hw1⟩ : ∃ w1, w1 = w.drew.alloc (.cells ROW 136) := ⟨_, rfl⟩
  have hrz : ∀ ty, (Builtin.append_ #[106, 3] ty #[.slice (some ⟨g6, 0, none⟩) t cap, .int .i64 ((cap : Int) + 1 - (t : Int))]).run Tryz.prog w = .ok (.slice (some ⟨h, 0, none⟩) (cap + 1) G) w1 := fun ty => by
    have e := Lib.run_append_grow_zeros (P := Tryz.prog) w 106 3 ty 136 i0 _ .i64 .i64 Tryz.underlying106 Tryz.underlying3 hi0 hz0 (some ⟨g6, 0, none⟩) t cap A hold (cap + 1 - t) (by omega) (by omega) (by omega) (by omega) (by rw [hzb]; omega) (by rw [hzb, show t + (cap + 1 - t) = cap + 1 by omega]; exact growslice_fits (by omega) (by omega))
    rw [show t + (cap + 1 - t) = cap + 1 by omega, ← hG, ← hROW, ← hw1, ← hh0, show (((cap + 1 - t : Nat) : Int)) = (cap : Int) + 1 - (t : Int) by omega] at e
    exact e
  have b1 : w1.heap[h]? = some (.cells ROW 136 (0, 0)) := by rw [hw1, hh0]; exact heap_alloc_new w.drew _
  have b2 : w1.heap[g]? = some (.cells #[y0, y1] 136 (0, 0)) := by rw [hw1]; exact (Below.heap_alloc w.drew _ g hgw).trans hy
  have b3 : w1.heap[g6]? = some (.cells cur 136 (0, 0)) := by rw [hw1]; exact (Below.heap_alloc w.drew _ g6 hg6w).trans hh
  have b4 : ∀ row, w.grownBy w1 row := fun row => by
    have := World.grownBy_alloc w.drew (.cells ROW 136) row
    rw [← hw1] at this
    exact ⟨this.os, this.tape, this.output, this.size, this.block⟩
  obtain ⟨c1, hc1⟩ : ∃ c1, (ROW.toList.take (t * 2) ++ [y0, y1] ++ ROW.toList.drop (t * 2 + [y0, y1].length)).toArray = c1 := ⟨_, rfl⟩
  obtain ⟨c2, hc2⟩ : ∃ c2, (c1.toList.take ((t + 1) * 2) ++ D ++ c1.toList.drop ((t + 1) * 2 + D.length)).toArray = c2 := ⟨_, rfl⟩
  have hc2l : c2.toList = A ++ [y0, y1] ++ D ++ V := by
    rw [← hc2, ← hc1, hRl]
    have := grown_list A D [y0, y1] Z rfl hZl V
    rw [hAl] at this
    rw [show (t + 1) * 2 = t * 2 + 2 by omega]
    exact this
  have hRs : ROW.size = G * 2 := by rw [← Array.length_toList, hRl, List.length_append, List.length_append, hAl, hZl, hVl, hDl]; omega
  have hc1s : c1.size = G * 2 := by
    rw [← hc1, ← Array.length_toList, List.toList_toArray, List.length_append, List.length_append, List.length_take, List.length_drop, Array.length_toList, hRs]
    simp only [List.length_cons, List.length_nil]; omega
  have hcp1 : ∀ ty dc, (Builtin.copy_ #[106, 106] ty #[.slice (some ⟨h, t * 2, none⟩) (cap + 1 - t) dc, .slice (some ⟨g, 0, none⟩) 1 1]).run Tryz.prog w1 = .ok (goInt (Nat.min 1 (cap + 1 - t))) (w1.setRow h c1) := fun ty dc => by
    rw [← hc1]
    exact rrun_copy w1 ty h (t * 2) _ dc ⟨g, 0, none⟩ 1 1 ROW [y0, y1] b1 (by rw [show Nat.min 1 (cap + 1 - t) = 1 from Nat.min_eq_left (by omega)]; rfl)
      (fun j u hj => by
        rw [iadd_add _ j g 0 rfl, cell_of_row w1 g (0 + j) _ _ (0, 0) b2, Nat.zero_add]
        simpa using hj) (by rw [hRs]; simp; omega) (fun u hu => by simp at hu; rcases hu with rfl | rfl <;> assumption)
  have hne : g6 ≠ h := by omega
  obtain ⟨w2, hw2⟩ : ∃ w2, w2 = (w1.setRow h c1).drew := ⟨_, rfl⟩
  have d1 : w2.heap[h]? = some (.cells c1 136 (0, 0)) := by rw [hw2]; exact setRow_heap _ _ _ _ _ _ b1
  have d3 : w2.heap[g6]? = some (.cells cur 136 (0, 0)) := by rw [hw2]; exact (setRow_other _ _ _ _ hne).trans b3
  have hcp2 : ∀ ty dc sc, (Builtin.copy_ #[106, 106] ty #[.slice (some ⟨h, (t + 1) * 2, none⟩) (cap + 1 - (t + 1)) dc, .slice (some ⟨g6, t * 2, none⟩) (cap - t) sc]).run Tryz.prog w2 = .ok (goInt (Nat.min (cap - t) (cap + 1 - (t + 1)))) (w2.setRow h c2) := fun ty dc sc => by
    rw [← hc2]
    exact rrun_copy w2 ty h ((t + 1) * 2) _ dc ⟨g6, t * 2, none⟩ _ sc c1 D d1 (by rw [hDl, show Nat.min (cap - t) (cap + 1 - (t + 1)) = cap - t from Nat.min_eq_left (by omega)])
      (fun j u hj => by
        rw [iadd_add _ j g6 (t * 2) rfl, cell_of_row w2 g6 (t * 2 + j) cur _ (0, 0) d3, ← Array.getElem?_toList, hcur]
        rw [List.getElem?_append_right (by omega), hAl, show t * 2 + j - t * 2 = j by omega]
        exact hj) (by rw [hDl, hc1s]; omega) hD1
  have hG63 : G ≤ 9223372036854775807 := by unfold maxLen at hGx; omega
  have i1 : (0 : Int) ≤ (t : Int) := by omega
  have i2 : (t : Int) ≤ (cap : Int) := by omega
  have i3 : ¬ ((t : Int) = (cap : Int)) := by omega
  have i4 : (cap : Int) < (cap : Int) + 1 := by omega
  have i5 : ¬ (cap = t) := by omega
  have i6 : ¬ (G = t + 1) := by omega
  have i6' : ¬ (G = t) := by omega
  have i7 : IntKind.i64.wrap ((t : Int) + 1) = (t : Int) + 1 := by rw [IntKind.wrap_i64]; omega
  have i7' : IntKind.i64.wrap ((cap : Int) + 1) = (cap : Int) + 1 := by rw [IntKind.wrap_i64]; omega
  have i8 : (0 : Int) ≤ (t : Int) + 1 := by omega
  have i9 : (t : Int) + 1 ≤ (cap : Int) + 1 := by omega
  have i10 : ((t : Int) + 1).toNat = t + 1 := by omega
  have i11 : (t : Int) ≤ (cap : Int) + 1 := by omega
  have HW2 := Lib.hid hw2
  have HH0 := Lib.hid hh0
  have hBh : B ≤ h := by omega
  clear hh0 hc1 hc2 hROW hZ hV hG hold hw1 hw2
  go_enter Tryz.func152, Tryz.ntmps152
  go_wp2_with (at_builtin; refine rwpList_zer _ rfl _ _ rfl _ _ rfl rfl hrz ?_)
  go_region_law (refine rstep_copy _ (by rfl) (.tmp 50) (.tmp 53) (by rfl) (.slice (some ⟨h, (t + 1) * 2, none⟩) (cap + 1 - (t + 1)) (G - (t + 1))) (.slice (some ⟨g6, t * 2, none⟩) (cap - t) (cap - t)) (by simp [Act.eval, Act.put]) (by simp [Act.eval, Act.put]) (fun ty => by rw [← HW2.out]; exact hcp2 ty _ _) ?_)
  go_wp2_with fail
  go_ret
  refine ⟨_, rfl, ⟨by rw [List.length_append, List.length_append, hAl, hDl]; simp; omega, .inr ⟨h, G, c2, rfl, hBh, setRow_heap _ _ _ _ _ _ d1, hGn, hGx, ?_, ?_⟩⟩, ?_, .inr (by rw [← HH0.out]; rfl)⟩
  · rw [← Array.length_toList, hc2l]
    simp only [List.length_append, hAl, hDl, hVl, List.length_cons, List.length_nil]; omega
  · rw [hc2l, List.take_append_of_le_length (by simp only [List.length_append, hAl, hDl, List.length_cons, List.length_nil]; omega)]
    exact List.take_of_length_le (by simp only [List.length_append, hAl, hDl, List.length_cons, List.length_nil]; omega)
  · refine ⟨by rw [HW2.out]; exact (b4 none).os, by rw [HW2.out]; exact (b4 none).tape, by rw [HW2.out]; exact (b4 none).output, ?_, fun k hk _ => ?_⟩
    · rw [HW2.out]; simpa using (b4 none).size
    · have hkh : k ≠ h := by rw [HH0.out]; omega
      rw [setRow_other _ _ _ _ hkh, HW2.out]
      exact (setRow_other _ _ _ _ hkh).trans ((b4 none).block k hk (by simp))

theorem rIns_any (w : World) (B n g t : Nat) (v : Value) (xs : List Value) (y0 y1 : Value) (hown : w.ownsRow B 136 2 v n xs) (hy : w.heap[g]? = some (.cells #[y0, y1] 136 (0, 0))) (hg : v.ownBlock ≠ some g) (h0 : y0.oneCell' = true) (h1 : y1.oneCell' = true) (hx1 : ∀ u ∈ xs, u.oneCell' = true)
    (hn : n ≤ 1000) (ht : t ≤ n) (hB : B ≤ w.heap.size) :
    Calls Tryz.prog 152 #[v, .int .i64 (t : Int), .slice (some ⟨g, 0, none⟩) 1 1] w fun e w' => InsOut w B v n (xs.take (t * 2) ++ [y0, y1] ++ xs.drop (t * 2)) e w' := by
  have hown0 := hown
  obtain ⟨hxl, ho⟩ := hown
  rcases ho with ⟨e, e2⟩ | ⟨g6, cap, cur, e, hBg, hh, hncap, hcx, hcs, htk⟩
  · subst e; subst e2
    obtain rfl : t = 0 := by omega
    obtain rfl : xs = [] := List.eq_nil_of_length_eq_zero (by omega)
    exact rIns_nil w B g y0 y1 hy h0 h1 hB
  · subst e
    have hcm : cap ≤ 9223372036854775807 := by unfold maxLen at hcx; omega
    have hgg : g ≠ g6 := fun e => hg (by rw [e]; rfl)
    by_cases htn : t = n
    · subst htn
      rw [List.take_of_length_le (by omega), List.drop_of_length_le (by omega), List.append_nil]
      exact rIns_end w B g6 t cap g xs y0 y1 hown0 hy h0 h1 hn hB
    · by_cases hroom : n + 1 ≤ cap
      · exact rIns_room w B g6 n cap g t xs y0 y1 hown0 hy hgg h0 h1 hx1 hn hroom hcm (by omega)
      · exact rIns_grow w B g6 n cap g t xs y0 y1 hown0 hy h0 h1 hx1 hn (by omega) (by omega) hB
end Go.Proofs.YtnkhhndjbanmnaaGreatDoor

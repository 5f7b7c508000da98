/- Texts joined, in their order: FaPut. -/
import Derived.StillTailTactics
import Derived.Test.YtnkhhndjbanmnaaGreatDoorMp42

/- The document's Put of layer 9 by contract. -/
namespace Go.Proofs.YtnkhhndjbanmnaaGreatDoor
open Go.RowKit Go.Shelf Go.Lib

theorem eq_of_cf {xs ys : List Int} (hl : xs.length = ys.length) (h : ∀ i, i < xs.length → cf xs i = cf ys i) : xs = ys := by
  apply List.ext_getElem hl
  intro i h1 h2
  have := h i h1
  unfold cf at this
  rw [List.getD_eq_getElem?_getD, List.getD_eq_getElem?_getD, List.getElem?_eq_getElem h1, List.getElem?_eq_getElem h2] at this
  exact this
set_option maxRecDepth 100000 in
set_option maxHeartbeats 1000000 in
theorem rSameNo (A B : Option Addr) (n c n' c' : Nat) (xs ys : List Int) (w : World) (h : ISl w A n c xs) (h' : ISl w B n' c' ys) (hne : xs ≠ ys) :
    Calls Tryz.prog 24 #[.slice A n c, .slice B n' c'] w fun e w' => e = .returned (.bool false) ∧ Below w.heap.size w w' := by
  have hle := h.le
  have hmx := h.max
  have hle' := h'.le
  have hmx' := h'.max
  have H := Lib.hid h
  have H' := Lib.hid h'
  by_cases hnm : n = n'
  · have EX : Hid (¬ ∀ i, i < n → cf xs i = cf ys i) := Lib.hid fun k => hne (eq_of_cf (by rw [← h.len, ← h'.len]; exact hnm) fun i hi => k i (by rw [h.len]; exact hi))
    subst hnm
    clear h h' hne
    go_enter Tryz.func24, Tryz.ntmps24
    go_wp2
    go_loopw [5] (fun i wr => ∃ k q : Nat, k ≤ n ∧ i = .int .i64 k ∧ wr = w.drewN q ∧ Hid (∀ j, j < k → cf xs j = cf ys j)) (fun i _ => n - (intOf i).toNat)
    case atStart => exact ⟨0, 0, Nat.zero_le _, rfl, rfl, Lib.hid fun j hj => absurd hj (Nat.not_lt_zero _)⟩
    case round =>
      obtain ⟨k, q, hk, rfl, rfl, HE⟩ := hrel
      by_cases hlt : k < n
      · obtain ⟨b, o, rfl, hl1, hca⟩ := H.out.cf_ (by omega)
        obtain ⟨b', o', rfl, hl2, hcb⟩ := H'.out.cf_ (by omega)
        have h1 := hca k hlt
        have h2 := hcb k hlt
        have i1 : (0 : Int) ≤ (k : Int) := by omega
        have i2 : (k : Int) < (n : Int) := by omega
        have HJ := Lib.hid (fun e j (e2 : j = k) => (show cf xs j = cf ys j by rw [e2]; exact e))
        by_cases hxy : cf xs k = cf ys k
        · have HJ2 := Lib.hid (HJ.out hxy)
          have hne2 : (cf xs k != cf ys k) = false := by simp [hxy]
          clear HJ hxy hca hcb
          generalize cf xs k = x at *
          generalize cf ys k = y at *
          go_wp2
          go_quiet (fail)
          go_wp2
          go_roundw
          case rel => exact ⟨k + 1, _, by omega, by go_num, rfl, Lib.hid fun j hj => by
            by_cases e : j = k
            · exact HJ2.out j e
            · exact HE.out j (by omega)⟩
          case measure => simp [intOf]; omega
        · have hne2 : (cf xs k != cf ys k) = true := by simp [hxy]
          clear HJ hxy hca hcb
          generalize cf xs k = x at *
          generalize cf ys k = y at *
          go_wp2
          go_quiet (fail)
          go_wp2
          go_ret
          exact ⟨rfl, ibelow_drewN (ibelow_drewN (Below.refl _ _) _) _⟩
      · obtain rfl : k = n := by omega
        exact absurd HE.out EX.out
  · have hne2 : ((n : Int) != (n' : Int)) = true := by simp; omega
    clear h h' hne
    go_enter Tryz.func24, Tryz.ntmps24
    go_wp2
    go_ret
    exact ⟨rfl, Below.refl _ _⟩

/-! Append of some. -/
theorem prun_apps {S T : TypeId} (ht : PTy S T) (w : World) (ty : TypeId) (B : Nat) (v : Value) (Z : List Pt) (hown : POw T w B v Z) (A : Option Addr) (m c : Nat) (K : List Pt) (hK : PRd w A m c K) (hA : A = none → c = 0)
    (ha : ∀ z ∈ K, ApO z.A z.xs v.ownBlock) (hmax : Z.length + m ≤ 1000000) (hB : B ≤ w.heap.size) :
    ∃ v' w', (Builtin.append_ #[S, S] ty #[v, .slice A m c]).run Tryz.prog w = .ok v' w' ∧ POw T w' B v' (Z ++ K) ∧ w.grownBy w' v.ownBlock ∧ (v'.ownBlock = v.ownBlock ∨ v'.ownBlock = some w.heap.size) := by
  obtain ⟨i0, hi, hz0, hz1, hz2⟩ := info_parts ht.i
  rcases A with _ | ad
  · have h0 := hA rfl
    have hm : m = 0 := by have := hK.le; omega
    subst h0 hm
    have hn : K = [] := List.eq_nil_of_length_eq_zero hK.len.symm
    subst hn
    refine ⟨v, w, run_append_owned_none (P := Tryz.prog) (w := w) B S ty T i0 2 ht.u hi v Z.length (pvals Z) hown.1, ?_, ⟨rfl, rfl, rfl, Nat.le_refl _, fun _ _ _ => rfl⟩, .inl rfl⟩
    simpa using hown
  · have hcells : ∀ j u, (pvals K)[j]? = some u → w.cell? (ad.add j) = some u := by
      intro j u hj
      obtain ⟨hj', _⟩ := List.getElem?_eq_some_iff.1 hj
      rw [pvals_length] at hj'
      rcases hK.2.2.2.2 with e | ⟨b, o, e, hlt, hc⟩
      · rw [e] at hj'; exact absurd hj' (by simp)
      · simp only [Option.some.injEq] at e
        rw [iadd_add ad j b o e]
        have hj2 : j / 2 < K.length := by omega
        obtain ⟨k1, k2⟩ := hc (j / 2) hj2
        obtain ⟨p1, p2⟩ := pvals_at K (j / 2) hj2
        rcases Nat.mod_two_eq_zero_or_one j with e2 | e2
        · have ej : j = j / 2 * 2 := by omega
          have hj3 := hj
          rw [ej] at hj3
          rw [p1] at hj3
          rw [show o + j = o + j / 2 * 2 by omega, k1, ← hj3]
        · have ej : j = j / 2 * 2 + 1 := by omega
          have hj3 := hj
          rw [ej] at hj3
          rw [p2] at hj3
          rw [show o + j = o + j / 2 * 2 + 1 by omega, k2, ← hj3]
    obtain ⟨v', w', hrun, h2, h3, _, h5⟩ := run_append_own_at (P := Tryz.prog) w B S ty T i0 _ 2 32 ht.u hi hz0 hz1 hz2 rfl (by decide) v Z.length (pvals Z) hown.1 ad m c (pvals K)
      (by rw [pvals_length, hK.len]) hcells (pvals_one K) (by unfold maxLen; omega) (by omega) hB
    refine ⟨v', w', hrun, ⟨?_, fun y hy => ?_⟩, h3, h5⟩
    · rw [List.length_append, pvals_append, ← hK.len]
      exact h2
    · rcases List.mem_append.1 hy with hy | hy
      · obtain ⟨k1, k2⟩ := hown.2 y hy
        exact ⟨k1.grownO h3 k2, k1.apO k2 h5⟩
      · exact ⟨(hK.in_ y hy).grownO h3 (ha y hy), (hK.in_ y hy).apO (ha y hy) h5⟩

theorem heap_at {w : World} {o : Obj} {g : Nat} (hg : g = w.heap.size) : (w.alloc o).heap[g]? = some o := by
  subst hg
  show (w.heap.push o)[w.heap.size]? = some o
  simp
theorem heap_bef {w : World} {o : Obj} {g : Nat} (hg : g < w.heap.size) : (w.alloc o).heap[g]? = w.heap[g]? := by
  show (w.heap.push o)[g]? = w.heap[g]?
  rw [Array.getElem?_push_lt hg, Array.getElem?_eq_getElem hg]
theorem isl_old {w : World} {A : Option Addr} {n c g : Nat} {xs : List Int} (h : ISl w A n c xs) (hg : w.heap.size ≤ g) : ApO A xs (some g) := by
  rcases h.rd.2 with e | ⟨b, o, rfl, hlt, _⟩
  · exact .inl e
  · refine .inr fun b' o' s' e e2 => ?_
    simp only [Option.some.injEq, Addr.mk.injEq] at e e2
    omega
theorem prd_one {W : World} {g m d : Nat} {B : Option Addr} {f : List Int} (hi : ISl W B m d f) (h0 : W.cell? ⟨g, 0, none⟩ = some (.slice B m d)) (h1 : W.cell? ⟨g, 1, none⟩ = some (.int .i64 1)) (hlt : g < W.heap.size) : PRd W (some ⟨g, 0, none⟩) 1 1 [⟨B, m, d, f, 1⟩] := by
  refine ⟨rfl, Nat.le_refl _, by decide, fun z hz => by rw [List.mem_singleton.1 hz]; exact hi, .inr ⟨g, 0, rfl, hlt, fun i hi2 => ?_⟩⟩
  obtain rfl : i = 0 := by simpa using hi2
  exact ⟨h0, h1⟩
theorem pow_mt {W : World} {g B : Nat} (hg : W.heap[g]? = some (.cells #[] 42 (0, 0))) (hB : B ≤ g) : POw 42 W B (.slice (some ⟨g, 0, none⟩) 0 0) [] :=
  ⟨⟨rfl, .inr ⟨g, 0, #[], rfl, hB, hg, Nat.le_refl _, by decide, rfl, rfl⟩⟩, fun _ h => (List.not_mem_nil h).elim⟩
theorem pwpList_apps {S T : TypeId} (ht : PTy S T) {ops : Array Oper} {rest : List Oper} {o : Oper} {a : Act} {Q : Exit → Act → World → Prop} (w : World) (hgd : o.guard = none) (s x : Operand) (ho : o.op = .call { callee := .builtin .append, args := #[s, x], argTypes := #[S, S] })
    (B : Nat) (v : Value) (Z : List Pt) (hs : a.eval s = v) (hown : POw T w B v Z) (A : Option Addr) (m c : Nat) (K9 : List Pt) (hx : a.eval x = .slice A m c) (hK : PRd w A m c K9) (hA : A = none → c = 0)
    (ha : ∀ z ∈ K9, ApO z.A z.xs v.ownBlock) (hmax : Z.length + m ≤ 1000000) (hB : B ≤ w.heap.size)
    (h : ∀ v' w', POw T w' B v' (Z ++ K9) → w.grownBy w' v.ownBlock → Below B w w' → wpList Tryz.prog ops Q rest (a.put o.dst v') w') : wpList Tryz.prog ops Q (o :: rest) a w :=
  wpList_plain hgd fun _ hK2 => by
    obtain ⟨v', w', hrun, h2, h3, _⟩ := prun_apps ht w o.type B v Z hown A m c K9 hK hA ha hmax hB
    have hk := hK2 _ _ (h v' w' h2 h3 ((Below.refl B w).grown h3 hB hown.lt))
    unfold Oper.wp execOp
    simp only [ho, resolve, invoke, builtin, Sem.run_bind, Sem.run_pure, Result.andThen_ok, List.map_toArray, List.map_cons, List.map_nil, hs, hx, hrun]
    exact hk
theorem pstep_apps {S T : TypeId} (ht : PTy S T) {ops : Array Oper} {o : Oper} {a : Act} {K : Act → World → Prop} {Q : Exit → Act → World → Prop} {E : Prop} (w : World) (hgd : o.guard = none) (s x : Operand) (ho : o.op = .call { callee := .builtin .append, args := #[s, x], argTypes := #[S, S] })
    (B : Nat) (v : Value) (Z : List Pt) (hs : a.eval s = v) (hown : POw T w B v Z) (A : Option Addr) (m c : Nat) (K9 : List Pt) (hx : a.eval x = .slice A m c) (hK : PRd w A m c K9) (hA : A = none → c = 0)
    (ha : ∀ z ∈ K9, ApO z.A z.xs v.ownBlock) (hmax : Z.length + m ≤ 1000000) (hB : B ≤ w.heap.size)
    (h : ∀ v' w', POw T w' B v' (Z ++ K9) → w.grownBy w' v.ownBlock → Below B w w' → K (a.put o.dst v') w') : if Region.wanted o (yielded ops a.tmps) = true then Oper.wp Tryz.prog o a w K Q else E := by
  have hw : Region.wanted o (yielded ops a.tmps) = true := by simp [Region.wanted, hgd]
  rw [if_pos hw]
  obtain ⟨v', w', hrun, h2, h3, _⟩ := prun_apps ht w o.type B v Z hown A m c K9 hK hA ha hmax hB
  unfold Oper.wp execOp
  simp only [ho, resolve, invoke, builtin, Sem.run_bind, Sem.run_pure, Result.andThen_ok, List.map_toArray, List.map_cons, List.map_nil, hs, hx, hrun]
  exact h v' w' h2 h3 ((Below.refl B w).grown h3 hB hown.lt)
def LedBy (Z : List Pt) (f : List Int) (k : Nat) : Prop := ∀ i (h : i < Z.length), i < k → ltB Z[i].xs f = true
theorem PRd.takeP {w : World} {A : Option Addr} {n c : Nat} {Z : List Pt} (h : PRd w A n c Z) {k : Nat} (hk : k ≤ n) : PRd w A k c (Z.take k) := by
  have hl := h.len
  refine ⟨by rw [List.length_take]; omega, Nat.le_trans hk h.le, h.max, fun z hz => h.in_ z (List.mem_of_mem_take hz), ?_⟩
  rcases h.2.2.2.2 with e | ⟨b, o, e, hlt, hc⟩
  · left; rw [e]; simp
  · right
    refine ⟨b, o, e, hlt, fun i hi => ?_⟩
    rw [List.length_take] at hi
    rw [List.getElem_take]
    exact hc i (by omega)
theorem PRd.dropP {w : World} {b o : Nat} {n c : Nat} {Z : List Pt} (h : PRd w (some ⟨b, o, none⟩) n c Z) {k : Nat} (hk : k ≤ n) : PRd w (some ⟨b, o + k * 2, none⟩) (n - k) (c - k) (Z.drop k) := by
  have hl := h.len
  have hle := h.le
  have hmx := h.max
  refine ⟨by rw [List.length_drop]; omega, by omega, by omega, fun z hz => h.in_ z (List.mem_of_mem_drop hz), ?_⟩
  rcases h.2.2.2.2 with e | ⟨b', o', e, hlt, hc⟩
  · left; rw [e]; simp
  · right
    simp only [Option.some.injEq, Addr.mk.injEq] at e
    obtain ⟨rfl, rfl, _⟩ := e
    refine ⟨b, o + k * 2, rfl, hlt, fun i hi => ?_⟩
    rw [List.length_drop] at hi
    rw [List.getElem_drop]
    have := hc (k + i) (by omega)
    rw [show o + k * 2 + i * 2 = o + (k + i) * 2 by omega]
    exact this
theorem pls_put (Z : List Pt) (k : Nat) (B : Option Addr) (m d : Nat) (f : List Int) : pls ([] ++ Z.take k ++ [⟨B, m, d, f, 1⟩] ++ Z.drop k) = (pls Z).take k ++ [(f, 1)] ++ (pls Z).drop k := by
  unfold pls
  simp [List.map_take, List.map_drop, Pt.pl]
theorem put_cell {w : World} {b k : Nat} {Z : List Pt} (hc : ∀ i, i < ([] ++ Z).length * 2 → w.cell? ⟨b, i, none⟩ = (pvals ([] ++ Z))[i]?) (hk : k < Z.length) {A : Option Addr} {n c N : Nat} {xs : List Int} (hz : Z[k] = ⟨A, n, c, xs, N⟩) : w.cell? ⟨b, k * 2 + 1, none⟩ = some (.int .i64 (N : Int)) := by
  rw [List.nil_append] at hc
  rw [hc _ (by omega), (pvals_at Z k hk).2, hz]; rfl
theorem pls_set (Z : List Pt) (k : Nat) (z : Pt) : pls (Z.set k z) = (pls Z).set k z.pl := by
  unfold pls
  rw [List.map_set]
theorem put_set {T : TypeId} {w : World} {B b n c k N n' c' : Nat} {A : Option Addr} {xs : List Int} {Z : List Pt} (h : POw T w B (.slice (some ⟨b, 0, none⟩) n c) Z) (hk : k < Z.length) (hz : Z[k] = ⟨A, n', c', xs, N⟩) :
    PRd (w.setCell ⟨b, k * 2 + 1, none⟩ (.int .i64 ((N : Int) + 1))) (some ⟨b, 0, none⟩) n c (Z.set k ⟨A, n', c', xs, N + 1⟩) := by
  have h2 := h.2
  obtain ⟨A9, c9, e, hrd, _, _⟩ := h.rd
  simp only [Value.slice.injEq] at e
  obtain ⟨e1, e2, e3⟩ := e
  subst e1 e2 e3
  obtain ⟨b', o', e', hlt, hc⟩ := hrd.open_ (by omega)
  simp only [Option.some.injEq, Addr.mk.injEq] at e'
  obtain ⟨rfl, rfl, _⟩ := e'
  have hg := grown_set w b (k * 2 + 1) (.int .i64 ((N : Int) + 1))
  refine ⟨by rw [List.length_set], hrd.le, hrd.max, fun z hz2 => ?_, .inr ⟨b, 0, rfl, Nat.lt_of_lt_of_le hlt hg.size, fun i hi => ?_⟩⟩
  · rcases List.mem_or_eq_of_mem_set hz2 with h1 | rfl
    · exact (h2 z h1).1.grownO hg (h2 z h1).2
    · have h1 := h2 Z[k] (List.getElem_mem hk)
      rw [hz] at h1
      exact h1.1.grownO hg h1.2
  · rw [List.length_set] at hi
    obtain ⟨c0, c1⟩ := hc i hi
    rw [List.getElem_set]
    by_cases e : k = i
    · subst e
      rw [if_pos rfl]
      rw [hz] at c0 c1
      refine ⟨sc_far (by simp <;> omega) c0, ?_⟩
      rw [Nat.zero_add] at c1 ⊢
      rw [World.cell?_setCell_same' _ _ _ (by rw [c1]; rfl)]
      rfl
    · rw [if_neg e]
      exact ⟨sc_far (by simp <;> omega) c0, sc_far (by simp <;> omega) c1⟩
def PutOut (Z : List Pt) (f : List Int) (k : Nat) (P : PL) : Prop :=
  (∀ h : k < Z.length, ltB Z[k].xs f = false) ∧ LedBy Z f k ∧ k ≤ Z.length ∧
    ((∃ h : k < Z.length, Z[k].xs = f ∧ P = (pls Z).set k (f, Z[k].N + 1)) ∨ ((∀ h : k < Z.length, Z[k].xs ≠ f) ∧ P = (pls Z).take k ++ [(f, 1)] ++ (pls Z).drop k))
set_option maxRecDepth 100000 in
set_option maxHeartbeats 4000000 in
theorem rPut (b o : Nat) (A B : Option Addr) (n c m d : Nat) (Z : List Pt) (f : List Int) (w : World) (hA : A = none ∧ c = 0 ∨ A = some ⟨b, o, none⟩) (h : PRd w A n c Z) (h' : ISl w B m d f) (hn : n ≤ 1000) (hZ : ∀ z ∈ Z, z.n ≤ 1000 ∧ z.N ≤ 1000) :
    Calls Tryz.prog 29 #[.slice A n c, .slice B m d] w fun e w' => ∃ b' n' c' Z' k, e = .returned (.slice (some ⟨b', 0, none⟩) n' c') ∧ PRd w' (some ⟨b', 0, none⟩) n' c' Z' ∧ PutOut Z f k (pls Z') ∧ Below w.heap.size w w' := by
  have hle := h.le
  have hmx := h.max
  have hle' := h'.le
  have hmx' := h'.max
  have H := Lib.hid h
  have H' := Lib.hid h'
  have ZL := Lib.hid h.len
  have HAC := Lib.hid hA
  have HZ9 := Lib.hid hZ
  clear h h' hA hZ
  go_enter Tryz.func29, Tryz.ntmps29
  go_wp2
  go_loopw [5] (fun i wr => ∃ k : Nat, k ≤ n ∧ i = .int .i64 (k : Int) ∧ Hid (LedBy Z f k) ∧ Hid (Below w.heap.size w wr)) (fun i _ => n - (intOf i).toNat)
  case atStart => exact ⟨0, Nat.zero_le _, rfl, Lib.hid fun i _ hi => absurd hi (Nat.not_lt_zero _), Lib.hid (Below.refl _ _)⟩
  case round =>
    obtain ⟨k, hk, rfl, LB, HB⟩ := hrel
    obtain ⟨wo, rfl⟩ : ∃ wo, wo = wr := ⟨wr, rfl⟩
    by_cases hlt : k < n
    · have hlz : k < Z.length := by rw [← ZL.out]; exact hlt
      obtain ⟨b2, o2, rfl, hbl, hc⟩ := (H.out.below HB.out).open_ (by omega)
      obtain ⟨c0, c1⟩ := hc k hlz
      have zin := (H.out.in_ _ (List.getElem_mem hlz)).below HB.out
      obtain ⟨z, hz⟩ : ∃ z, Z[k] = z := ⟨_, rfl⟩
      have HZ := Lib.hid hz
      have hzn := HZ9.out _ (List.getElem_mem hlz)
      rw [hz] at hzn
      have HZN := Lib.hid hzn
      rw [hz] at c0 c1 zin
      obtain ⟨zA, zn, zc, zx, zN⟩ := z
      simp only [Pt.sl, Pt.nv] at c0 c1
      have zin : ISl wo zA zn zc zx := zin
      have i1 : (0 : Int) ≤ (k : Int) := by omega
      have i2 : (k : Int) < (n : Int) := by omega
      have ZI := Lib.hid zin
      have zcl := zin.le
      have zcm := zin.max
      have LS := Lib.hid (rLess9 zA B zn zc m d zx f wo zin (H'.out.below HB.out) (by have h9 : zn ≤ 1000 := HZN.out.1; omega))
      clear hc zin hz
      cases hl : ltB zx f with
      | true =>
        rw [hl] at LS
        have HL := Lib.hid hl
        clear hl
        go_wp2_with (first
          | (go_at_call 21; with_reducible refine LS.out.mono ?_; rintro e w6 ⟨rfl, hb6⟩; have HB6 := Lib.hid (below_to HB.out hb6); clear hb6)
          | fail)
        go_roundw
        case rel => exact ⟨k + 1, by omega, by go_num, Lib.hid fun i h1 h2 => by
          by_cases e : i = k
          · subst e; rw [HZ.out]; exact HL.out
          · exact LB.out i h1 (by omega), HB6⟩
        case measure => simp [intOf]; omega
      | false =>
        rw [hl] at LS
        have HL := Lib.hid hl
        clear hl
        by_cases he : zx = f
        · have SY := Lib.hid (fun W (hb : Below wo.heap.size wo W) => polSame zA B zn zc m d zx f W (ZI.out.below hb) (H'.out.below (below_to HB.out hb)) he)
          go_wp2_with (first
            | (go_at_call 21; with_reducible refine LS.out.mono ?_; rintro e w6 ⟨rfl, hb6⟩; have HB6 := Lib.hid (below_to HB.out hb6); have c06 := (hb6.cell (p := ⟨b2, o2 + k * 2, none⟩) hbl).trans c0; have hbl6 := Nat.lt_of_lt_of_le hbl hb6.size; have S6 := Lib.hid (SY.out w6 hb6); clear hb6)
            | (go_at_call 24; with_reducible refine S6.out.mono ?_; rintro e w7 ⟨rfl, hb7⟩; have HB7 := Lib.hid (below_to HB6.out hb7); have R0 := Lib.hid (H.out.below HB7.out); clear hb7)
            | (at_builtin; refine pwpList_apps ptyRF _ rfl (.tmp 35) (.tmp 36) rfl w7.heap.size _ [] rfl (pow_mt (heap_at rfl) (Nat.le_refl _)) _ _ _ Z rfl (R0.out.below (by (repeat (first | exact Below.refl _ _ | refine Below.drew ?_ | refine Below.alloc ?_ (by (first | exact Nat.le_refl _ | assumption | (simp <;> omega) | omega)) _)))) (fun e => by cases e) (fun z hz => isl_old (R0.out.in_ z hz) (Nat.le_refl _)) (by simp <;> omega) (by (first | exact Nat.le_refl _ | assumption | (simp <;> omega) | omega)) ?_; intro v9 w9 ho9 hg9 hb9; have HO9 := Lib.hid ho9; have HB9 := Lib.hid hb9; obtain ⟨A9, c9, e9, hrd9, -, hbk9⟩ := ho9.rd; obtain ⟨b9, e9b, hlt9, hfz9, hcl9⟩ := hbk9.resolve_left (fun e => by have : Z = [] := (by simpa using e); rw [this] at hlz; simp at hlz); subst e9b; have c19 := put_cell hcl9 hlz HZ.out; have f19 := hfz9 (k * 2 + 1); have hl9 : k < Z.length := hlz; have hle9 : Z.length ≤ c9 := (by simpa using hrd9.le); have hmx9 := hrd9.max; have HRD9 := Lib.hid hrd9; clear ho9 hb9 hg9 hcl9 hbk9 hrd9; subst e9; have e0 : (([] : List Pt) ++ Z).length = n := (by rw [List.nil_append, ZL.out]); rw [e0]; rw [← ZL.out] at hle9)
            | fail)
          go_ret
          exact ⟨b9, n, c9, _, k, rfl, by have := put_set HO9.out (by simpa using hl9) (by simpa using HZ.out) (k := k); rw [List.nil_append, ← ZL.out] at this; exact this, ⟨fun _ => by rw [HZ.out]; exact HL.out, LB.out, Nat.le_of_lt hl9, .inl ⟨hl9, by rw [HZ.out]; exact he, by rw [pls_set, ← he, HZ.out]; rfl⟩⟩, below_to HB7.out (((bel_al w7 _).trans HB9.out).setCell (p := ⟨b9, k * 2 + 1, none⟩) (HO9.out.lt b9 rfl) _)⟩
        · have SN := Lib.hid (fun W (hb : Below wo.heap.size wo W) => rSameNo zA B zn zc m d zx f W (ZI.out.below hb) (H'.out.below (below_to HB.out hb)) he)
          go_wp2_with (first
            | (go_at_call 21; with_reducible refine LS.out.mono ?_; rintro e w6 ⟨rfl, hb6⟩; have HB6 := Lib.hid (below_to HB.out hb6); have c06 := (hb6.cell (p := ⟨b2, o2 + k * 2, none⟩) hbl).trans c0; have hbl6 := Nat.lt_of_lt_of_le hbl hb6.size; have S6 := Lib.hid (SN.out w6 hb6); clear hb6)
            | (go_at_call 24; with_reducible refine S6.out.mono ?_; rintro e w7 ⟨rfl, hb7⟩; have HB7 := Lib.hid (below_to HB6.out hb7); clear hb7)
            | fail)
          have hkc : k ≤ c := by omega
          have hkn : k ≤ n := by omega
          have hck : ¬ c = k := by omega
          have hck2 : ¬ (c : Int) = (k : Int) := by omega
          have R1 := Lib.hid ((H.out.below HB7.out).takeP (k := k) (by omega))
          have R2 := Lib.hid ((H.out.below HB7.out).dropP (k := k) (by omega))
          have FI := Lib.hid (H'.out.below HB7.out)
          go_region_law (first
            | (refine pstep_apps ptyRF _ (by rfl) (.tmp 47) (.tmp 50) (by rfl) w7.heap.size _ [] (by rfl) (pow_mt (by first | exact heap_at rfl | exact heap_at (by simp) | exact (heap_bef (by simp)).trans (heap_at rfl) | exact (heap_bef (by simp)).trans (heap_at (by simp))) (by (first | exact Nat.le_refl _ | assumption | (simp <;> omega) | omega))) _ _ _ (Z.take k) (by rfl) (R1.out.below (by (repeat (first | exact Below.refl _ _ | refine Below.drew ?_ | refine Below.alloc ?_ (by (first | exact Nat.le_refl _ | assumption | (simp <;> omega) | omega)) _)))) (fun e => by cases e) (fun z hz => isl_old (R1.out.in_ z hz) (by (first | exact Nat.le_refl _ | assumption | (simp <;> omega) | omega))) (by simp <;> omega) (by (first | exact Nat.le_refl _ | assumption | (simp <;> omega) | omega)) ?_; intro v9 w9 ho9 hg9 hb9; have hs9 : w7.heap.size ≤ w9.heap.size := Nat.le_trans (by (first | exact Nat.le_refl _ | assumption | (simp <;> omega) | omega)) hb9.size; have hB9 : Below w7.heap.size w7 w9 := Below.trans (by (repeat (first | exact Below.refl _ _ | refine Below.drew ?_ | refine Below.alloc ?_ (by (first | exact Nat.le_refl _ | assumption | (simp <;> omega) | omega)) _))) hb9)
            | (refine pstep_apps ptyRF _ (by rfl) (.tmp 51) (.tmp 54) (by rfl) w7.heap.size _ _ (by rfl) (ho9.below (by (repeat (first | exact Below.refl _ _ | refine Below.drew ?_ | refine Below.alloc ?_ (by (first | exact Nat.le_refl _ | assumption | (simp <;> omega) | omega)) _)))) _ _ _ [⟨B, m, d, f, 1⟩] (by rfl) (prd_one (FI.out.below (hB9.trans (by (repeat (first | exact Below.refl _ _ | refine Below.drew ?_ | refine Below.alloc ?_ (by (first | exact Nat.le_refl _ | assumption | (simp <;> omega) | omega)) _))))) (by first | exact two_cell0 .. | exact (World.cell?_of_block (hg9.block _ (by simp <;> omega) (by simp [Value.ownBlock]))).trans (by simp)) (by first | exact two_cell1 .. | exact (World.cell?_of_block (hg9.block _ (by simp <;> omega) (by simp [Value.ownBlock]))).trans (by simp)) (by first | simp | (have := hb9.size; simp at this ⊢; omega) | (have := hb9.size; simp at this; omega))) (fun e => by cases e) (fun z hz => by rw [List.mem_singleton.1 hz]; exact ho9.oldF FI.out) (by simp <;> omega) (by (first | exact Nat.le_refl _ | assumption | (simp <;> omega) | omega)) ?_; intro v10 w10 ho10 hg10 hb10; have hs10 : w7.heap.size ≤ w10.heap.size := Nat.le_trans (by (first | exact Nat.le_refl _ | assumption | (simp <;> omega) | omega)) hb10.size; have hB10 : Below w7.heap.size w7 w10 := hB9.trans (Below.trans (by (repeat (first | exact Below.refl _ _ | refine Below.drew ?_ | refine Below.alloc ?_ (by (first | exact Nat.le_refl _ | assumption | (simp <;> omega) | omega)) _))) hb10))
            | (refine pstep_apps ptyRF _ (by rfl) (.tmp 55) (.tmp 58) (by rfl) w7.heap.size _ _ (by rfl) ho10 _ _ _ (Z.drop k) (by rfl) (R2.out.below hB10) (fun e => by cases e) (fun z hz => ho10.oldF (R2.out.in_ z hz)) (by simp <;> omega) (by (first | exact Nat.le_refl _ | assumption | (simp <;> omega) | omega)) ?_; intro v11 w11 ho11 hg11 hb11; have HO := Lib.hid ho11; have HB11 := Lib.hid (below_to HB7.out (hB10.trans hb11)))
            | fail)
          all_goals
            go_wp2_with fail
            go_ret
            obtain ⟨A', c', rfl, hrd, _, hbk⟩ := HO.out.rd
            rcases hbk with e | ⟨b', rfl, _⟩
            · simp at e
            · exact ⟨b', _, c', _, k, rfl, hrd, ⟨fun _ => by rw [HZ.out]; exact HL.out, LB.out, by omega, .inr ⟨fun _ => by rw [HZ.out]; exact he, pls_put Z k B m d f⟩⟩, HB11.out⟩
    · obtain rfl : k = n := by omega
      obtain ⟨w7, rfl⟩ : ∃ w, w = wo := ⟨wo, rfl⟩
      have HB7 := HB
      have FI := Lib.hid (H'.out.below HB7.out)
      have PO := Lib.hid (show ∀ P, P = (pls Z).take k ++ [(f, 1)] ++ (pls Z).drop k → PutOut Z f k P from fun P hP => ⟨fun h => absurd h (by rw [← ZL.out]; omega), LB.out, by rw [← ZL.out]; exact Nat.le_refl _, .inr ⟨fun h => absurd h (by rw [← ZL.out]; omega), hP⟩⟩)
      rcases HAC.out with ⟨rfl, rfl⟩ | rfl
      · obtain rfl : k = 0 := by omega
        have R1 : Hid (PRd w7 none 0 0 (Z.take 0)) := Lib.hid ⟨rfl, Nat.le_refl _, by decide, fun z hz => (by simp at hz), .inl rfl⟩
        have R2 : Hid (PRd w7 none 0 0 (Z.drop 0)) := Lib.hid (H.out.below HB7.out)
        go_wp2_with fail
        go_region_law (first
            | (refine pstep_apps ptyRF _ (by rfl) (.tmp 47) (.tmp 50) (by rfl) w7.heap.size _ [] (by rfl) (pow_mt (by first | exact heap_at rfl | exact heap_at (by simp) | exact (heap_bef (by simp)).trans (heap_at rfl) | exact (heap_bef (by simp)).trans (heap_at (by simp))) (by (first | exact Nat.le_refl _ | assumption | (simp <;> omega) | omega))) _ _ _ (Z.take 0) (by rfl) (R1.out.below (by (repeat (first | exact Below.refl _ _ | refine Below.drew ?_ | refine Below.alloc ?_ (by (first | exact Nat.le_refl _ | assumption | (simp <;> omega) | omega)) _)))) (fun _ => rfl) (fun z hz => isl_old (R1.out.in_ z hz) (by (first | exact Nat.le_refl _ | assumption | (simp <;> omega) | omega))) (by simp <;> omega) (by (first | exact Nat.le_refl _ | assumption | (simp <;> omega) | omega)) ?_; intro v9 w9 ho9 hg9 hb9; have hs9 : w7.heap.size ≤ w9.heap.size := Nat.le_trans (by (first | exact Nat.le_refl _ | assumption | (simp <;> omega) | omega)) hb9.size; have hB9 : Below w7.heap.size w7 w9 := Below.trans (by (repeat (first | exact Below.refl _ _ | refine Below.drew ?_ | refine Below.alloc ?_ (by (first | exact Nat.le_refl _ | assumption | (simp <;> omega) | omega)) _))) hb9)
            | (refine pstep_apps ptyRF _ (by rfl) (.tmp 51) (.tmp 54) (by rfl) w7.heap.size _ _ (by rfl) (ho9.below (by (repeat (first | exact Below.refl _ _ | refine Below.drew ?_ | refine Below.alloc ?_ (by (first | exact Nat.le_refl _ | assumption | (simp <;> omega) | omega)) _)))) _ _ _ [⟨B, m, d, f, 1⟩] (by rfl) (prd_one (FI.out.below (hB9.trans (by (repeat (first | exact Below.refl _ _ | refine Below.drew ?_ | refine Below.alloc ?_ (by (first | exact Nat.le_refl _ | assumption | (simp <;> omega) | omega)) _))))) (by first | exact two_cell0 .. | exact (World.cell?_of_block (hg9.block _ (by simp <;> omega) (by simp [Value.ownBlock]))).trans (by simp)) (by first | exact two_cell1 .. | exact (World.cell?_of_block (hg9.block _ (by simp <;> omega) (by simp [Value.ownBlock]))).trans (by simp)) (by first | simp | (have := hb9.size; simp at this ⊢; omega) | (have := hb9.size; simp at this; omega))) (fun e => by cases e) (fun z hz => by rw [List.mem_singleton.1 hz]; exact ho9.oldF FI.out) (by simp <;> omega) (by (first | exact Nat.le_refl _ | assumption | (simp <;> omega) | omega)) ?_; intro v10 w10 ho10 hg10 hb10; have hs10 : w7.heap.size ≤ w10.heap.size := Nat.le_trans (by (first | exact Nat.le_refl _ | assumption | (simp <;> omega) | omega)) hb10.size; have hB10 : Below w7.heap.size w7 w10 := hB9.trans (Below.trans (by (repeat (first | exact Below.refl _ _ | refine Below.drew ?_ | refine Below.alloc ?_ (by (first | exact Nat.le_refl _ | assumption | (simp <;> omega) | omega)) _))) hb10))
            | (refine pstep_apps ptyRF _ (by rfl) (.tmp 55) (.tmp 58) (by rfl) w7.heap.size _ _ (by rfl) ho10 _ _ _ (Z.drop 0) (by rfl) (R2.out.below hB10) (fun _ => rfl) (fun z hz => ho10.oldF (R2.out.in_ z hz)) (by simp <;> omega) (by (first | exact Nat.le_refl _ | assumption | (simp <;> omega) | omega)) ?_; intro v11 w11 ho11 hg11 hb11; have HO := Lib.hid ho11; have HB11 := Lib.hid (below_to HB7.out (hB10.trans hb11)))
            | fail)
        all_goals
          go_wp2_with fail
          go_ret
          obtain ⟨A', c', rfl, hrd, _, hbk⟩ := HO.out.rd
          rcases hbk with e | ⟨b', rfl, _⟩
          · simp at e
          · exact ⟨b', _, c', _, _, rfl, hrd, PO.out _ (pls_put Z _ B m d f), HB11.out⟩
      · by_cases hcn : c = k
        · subst hcn
          have R1 := Lib.hid ((H.out.below HB7.out).takeP (k := c) (Nat.le_refl _))
          have R2 : Hid (PRd w7 (some ⟨b, o, none⟩) 0 0 (Z.drop c)) := Lib.hid ⟨by rw [List.length_drop, ← ZL.out, Nat.sub_self], Nat.le_refl _, by decide, fun z hz => (H.out.below HB7.out).in_ z (List.mem_of_mem_drop hz), .inl (List.drop_eq_nil_of_le (by rw [← ZL.out]; exact Nat.le_refl _))⟩
          go_wp2_with fail
          go_region_law (first
            | (refine pstep_apps ptyRF _ (by rfl) (.tmp 47) (.tmp 50) (by rfl) w7.heap.size _ [] (by rfl) (pow_mt (by first | exact heap_at rfl | exact heap_at (by simp) | exact (heap_bef (by simp)).trans (heap_at rfl) | exact (heap_bef (by simp)).trans (heap_at (by simp))) (by (first | exact Nat.le_refl _ | assumption | (simp <;> omega) | omega))) _ _ _ (Z.take c) (by rfl) (R1.out.below (by (repeat (first | exact Below.refl _ _ | refine Below.drew ?_ | refine Below.alloc ?_ (by (first | exact Nat.le_refl _ | assumption | (simp <;> omega) | omega)) _)))) (fun e => by cases e) (fun z hz => isl_old (R1.out.in_ z hz) (by (first | exact Nat.le_refl _ | assumption | (simp <;> omega) | omega))) (by simp <;> omega) (by (first | exact Nat.le_refl _ | assumption | (simp <;> omega) | omega)) ?_; intro v9 w9 ho9 hg9 hb9; have hs9 : w7.heap.size ≤ w9.heap.size := Nat.le_trans (by (first | exact Nat.le_refl _ | assumption | (simp <;> omega) | omega)) hb9.size; have hB9 : Below w7.heap.size w7 w9 := Below.trans (by (repeat (first | exact Below.refl _ _ | refine Below.drew ?_ | refine Below.alloc ?_ (by (first | exact Nat.le_refl _ | assumption | (simp <;> omega) | omega)) _))) hb9)
            | (refine pstep_apps ptyRF _ (by rfl) (.tmp 51) (.tmp 54) (by rfl) w7.heap.size _ _ (by rfl) (ho9.below (by (repeat (first | exact Below.refl _ _ | refine Below.drew ?_ | refine Below.alloc ?_ (by (first | exact Nat.le_refl _ | assumption | (simp <;> omega) | omega)) _)))) _ _ _ [⟨B, m, d, f, 1⟩] (by rfl) (prd_one (FI.out.below (hB9.trans (by (repeat (first | exact Below.refl _ _ | refine Below.drew ?_ | refine Below.alloc ?_ (by (first | exact Nat.le_refl _ | assumption | (simp <;> omega) | omega)) _))))) (by first | exact two_cell0 .. | exact (World.cell?_of_block (hg9.block _ (by simp <;> omega) (by simp [Value.ownBlock]))).trans (by simp)) (by first | exact two_cell1 .. | exact (World.cell?_of_block (hg9.block _ (by simp <;> omega) (by simp [Value.ownBlock]))).trans (by simp)) (by first | simp | (have := hb9.size; simp at this ⊢; omega) | (have := hb9.size; simp at this; omega))) (fun e => by cases e) (fun z hz => by rw [List.mem_singleton.1 hz]; exact ho9.oldF FI.out) (by simp <;> omega) (by (first | exact Nat.le_refl _ | assumption | (simp <;> omega) | omega)) ?_; intro v10 w10 ho10 hg10 hb10; have hs10 : w7.heap.size ≤ w10.heap.size := Nat.le_trans (by (first | exact Nat.le_refl _ | assumption | (simp <;> omega) | omega)) hb10.size; have hB10 : Below w7.heap.size w7 w10 := hB9.trans (Below.trans (by (repeat (first | exact Below.refl _ _ | refine Below.drew ?_ | refine Below.alloc ?_ (by (first | exact Nat.le_refl _ | assumption | (simp <;> omega) | omega)) _))) hb10))
            | (refine pstep_apps ptyRF _ (by rfl) (.tmp 55) (.tmp 58) (by rfl) w7.heap.size _ _ (by rfl) ho10 _ _ _ (Z.drop c) (by rfl) (R2.out.below hB10) (fun e => by cases e) (fun z hz => ho10.oldF (R2.out.in_ z hz)) (by simp <;> omega) (by (first | exact Nat.le_refl _ | assumption | (simp <;> omega) | omega)) ?_; intro v11 w11 ho11 hg11 hb11; have HO := Lib.hid ho11; have HB11 := Lib.hid (below_to HB7.out (hB10.trans hb11)))
            | fail)
          all_goals
            go_wp2_with fail
            go_ret
            obtain ⟨A', c', rfl, hrd, _, hbk⟩ := HO.out.rd
            rcases hbk with e | ⟨b', rfl, _⟩
            · simp at e
            · exact ⟨b', _, c', _, _, rfl, hrd, PO.out _ (pls_put Z _ B m d f), HB11.out⟩
        · have hkc : k ≤ c := by omega
          have hck2 : ¬ (c : Int) = (k : Int) := by omega
          have R1 := Lib.hid ((H.out.below HB7.out).takeP (k := k) (Nat.le_refl _))
          have R2 : Hid (PRd w7 (some ⟨b, o + k * 2, none⟩) 0 (c - k) (Z.drop k)) := Lib.hid (by have := (H.out.below HB7.out).dropP (k := k) (Nat.le_refl _); rw [Nat.sub_self] at this; exact this)
          go_wp2_with fail
          go_region_law (first
            | (refine pstep_apps ptyRF _ (by rfl) (.tmp 47) (.tmp 50) (by rfl) w7.heap.size _ [] (by rfl) (pow_mt (by first | exact heap_at rfl | exact heap_at (by simp) | exact (heap_bef (by simp)).trans (heap_at rfl) | exact (heap_bef (by simp)).trans (heap_at (by simp))) (by (first | exact Nat.le_refl _ | assumption | (simp <;> omega) | omega))) _ _ _ (Z.take k) (by rfl) (R1.out.below (by (repeat (first | exact Below.refl _ _ | refine Below.drew ?_ | refine Below.alloc ?_ (by (first | exact Nat.le_refl _ | assumption | (simp <;> omega) | omega)) _)))) (fun e => by cases e) (fun z hz => isl_old (R1.out.in_ z hz) (by (first | exact Nat.le_refl _ | assumption | (simp <;> omega) | omega))) (by simp <;> omega) (by (first | exact Nat.le_refl _ | assumption | (simp <;> omega) | omega)) ?_; intro v9 w9 ho9 hg9 hb9; have hs9 : w7.heap.size ≤ w9.heap.size := Nat.le_trans (by (first | exact Nat.le_refl _ | assumption | (simp <;> omega) | omega)) hb9.size; have hB9 : Below w7.heap.size w7 w9 := Below.trans (by (repeat (first | exact Below.refl _ _ | refine Below.drew ?_ | refine Below.alloc ?_ (by (first | exact Nat.le_refl _ | assumption | (simp <;> omega) | omega)) _))) hb9)
            | (refine pstep_apps ptyRF _ (by rfl) (.tmp 51) (.tmp 54) (by rfl) w7.heap.size _ _ (by rfl) (ho9.below (by (repeat (first | exact Below.refl _ _ | refine Below.drew ?_ | refine Below.alloc ?_ (by (first | exact Nat.le_refl _ | assumption | (simp <;> omega) | omega)) _)))) _ _ _ [⟨B, m, d, f, 1⟩] (by rfl) (prd_one (FI.out.below (hB9.trans (by (repeat (first | exact Below.refl _ _ | refine Below.drew ?_ | refine Below.alloc ?_ (by (first | exact Nat.le_refl _ | assumption | (simp <;> omega) | omega)) _))))) (by first | exact two_cell0 .. | exact (World.cell?_of_block (hg9.block _ (by simp <;> omega) (by simp [Value.ownBlock]))).trans (by simp)) (by first | exact two_cell1 .. | exact (World.cell?_of_block (hg9.block _ (by simp <;> omega) (by simp [Value.ownBlock]))).trans (by simp)) (by first | simp | (have := hb9.size; simp at this ⊢; omega) | (have := hb9.size; simp at this; omega))) (fun e => by cases e) (fun z hz => by rw [List.mem_singleton.1 hz]; exact ho9.oldF FI.out) (by simp <;> omega) (by (first | exact Nat.le_refl _ | assumption | (simp <;> omega) | omega)) ?_; intro v10 w10 ho10 hg10 hb10; have hs10 : w7.heap.size ≤ w10.heap.size := Nat.le_trans (by (first | exact Nat.le_refl _ | assumption | (simp <;> omega) | omega)) hb10.size; have hB10 : Below w7.heap.size w7 w10 := hB9.trans (Below.trans (by (repeat (first | exact Below.refl _ _ | refine Below.drew ?_ | refine Below.alloc ?_ (by (first | exact Nat.le_refl _ | assumption | (simp <;> omega) | omega)) _))) hb10))
            | (refine pstep_apps ptyRF _ (by rfl) (.tmp 55) (.tmp 58) (by rfl) w7.heap.size _ _ (by rfl) ho10 _ _ _ (Z.drop k) (by rfl) (R2.out.below hB10) (fun e => by cases e) (fun z hz => ho10.oldF (R2.out.in_ z hz)) (by simp <;> omega) (by (first | exact Nat.le_refl _ | assumption | (simp <;> omega) | omega)) ?_; intro v11 w11 ho11 hg11 hb11; have HO := Lib.hid ho11; have HB11 := Lib.hid (below_to HB7.out (hB10.trans hb11)))
            | fail)
          all_goals
            go_wp2_with fail
            go_ret
            obtain ⟨A', c', rfl, hrd, _, hbk⟩ := HO.out.rd
            rcases hbk with e | ⟨b', rfl, _⟩
            · simp at e
            · exact ⟨b', _, c', _, _, rfl, hrd, PO.out _ (pls_put Z _ B m d f), HB11.out⟩
end Go.Proofs.YtnkhhndjbanmnaaGreatDoor

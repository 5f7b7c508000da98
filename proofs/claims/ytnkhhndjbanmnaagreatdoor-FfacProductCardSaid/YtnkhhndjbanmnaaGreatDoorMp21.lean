/- Texts joined, in their order: PrtRow, FsqSort, FaPl, PowM. -/
import Derived.Test.YtnkhhndjbanmnaaGreatDoorSortLay
import Derived.Shelf.SlSortCmp.NoneTotal
import Derived.Deep.QuietTactic
import Derived.BigQuiet
import Derived.Test.YtnkhhndjbanmnaaGreatDoorMp1
import Derived.Test.YtnkhhndjbanmnaaGreatDoorMp4
import Derived.Test.YtnkhhndjbanmnaaGreatDoorMp7
import Derived.Test.YtnkhhndjbanmnaaGreatDoorMp12
import Derived.Test.YtnkhhndjbanmnaaGreatDoorMp13
import Derived.Test.YtnkhhndjbanmnaaGreatDoorMp20

/- Parts as they lie in memory: two cells each, a polynomial's slice and a number; read alone, owned and growing by append. -/
namespace Go.Proofs.YtnkhhndjbanmnaaGreatDoor
open Go.RowKit

structure Pt where
  A : Option Addr
  n : Nat
  c : Nat
  xs : List Int
  N : Nat
instance : Inhabited Pt := ⟨⟨none, 0, 0, [], 0⟩⟩
def Pt.sl (z : Pt) : Value := .slice z.A z.n z.c
def Pt.nv (z : Pt) : Value := .int .i64 (z.N : Int)
def Pt.enc (z : Pt) : List Value := [z.sl, z.nv]
def Pt.pl (z : Pt) : List Int × Nat := (z.xs, z.N)
def pls (Z : List Pt) : List (List Int × Nat) := Z.map Pt.pl
theorem pls_append (X Y : List Pt) : pls (X ++ Y) = pls X ++ pls Y := List.map_append
theorem pls_length (X : List Pt) : (pls X).length = X.length := List.length_map ..
def pvals : List Pt → List Value
  | [] => []
  | z :: Z => z.sl :: z.nv :: pvals Z
theorem pvals_length : ∀ Z : List Pt, (pvals Z).length = Z.length * 2
  | [] => rfl
  | z :: Z => by rw [pvals, List.length_cons, List.length_cons, pvals_length Z, List.length_cons]; omega
theorem pvals_append : ∀ X Y : List Pt, pvals (X ++ Y) = pvals X ++ pvals Y
  | [], Y => rfl
  | z :: Z, Y => by rw [List.cons_append, pvals, pvals, pvals_append Z Y]; rfl
theorem pvals_at : ∀ (Z : List Pt) (i : Nat) (h : i < Z.length), (pvals Z)[i * 2]? = some (Z[i].sl) ∧ (pvals Z)[i * 2 + 1]? = some (Z[i].nv)
  | [], i, h => absurd h (Nat.not_lt_zero _)
  | z :: Z, 0, h => ⟨rfl, rfl⟩
  | z :: Z, i + 1, h => by
    have := pvals_at Z i (by simpa using h)
    rw [show (i + 1) * 2 = i * 2 + 1 + 1 by omega]
    exact this
theorem pvals_one : ∀ (Z : List Pt) (u : Value), u ∈ pvals Z → u.oneCell' = true
  | [], u, h => by cases h
  | z :: Z, u, h => by
    rw [pvals] at h
    rcases List.mem_cons.1 h with rfl | h
    · rfl
    · rcases List.mem_cons.1 h with rfl | h
      · rfl
      · exact pvals_one Z u h

def PIn (w : World) (Z : List Pt) : Prop := ∀ z ∈ Z, ISl w z.A z.n z.c z.xs
theorem PIn.below {w w' : World} {Z : List Pt} (h : PIn w Z) (hb : Below w.heap.size w w') : PIn w' Z := fun z hz => (h z hz).below hb

def PRd (w : World) (A : Option Addr) (n c : Nat) (Z : List Pt) : Prop :=
  n = Z.length ∧ n ≤ c ∧ c ≤ 9223372036854775807 ∧ PIn w Z ∧ (Z = [] ∨ ∃ b o, A = some ⟨b, o, none⟩ ∧ b < w.heap.size ∧
    ∀ i (h : i < Z.length), w.cell? ⟨b, o + i * 2, none⟩ = some Z[i].sl ∧ w.cell? ⟨b, o + i * 2 + 1, none⟩ = some Z[i].nv)
theorem PRd.len {w : World} {A : Option Addr} {n c : Nat} {Z : List Pt} (h : PRd w A n c Z) : n = Z.length := h.1
theorem PRd.le {w : World} {A : Option Addr} {n c : Nat} {Z : List Pt} (h : PRd w A n c Z) : n ≤ c := h.2.1
theorem PRd.max {w : World} {A : Option Addr} {n c : Nat} {Z : List Pt} (h : PRd w A n c Z) : c ≤ 9223372036854775807 := h.2.2.1
theorem PRd.in_ {w : World} {A : Option Addr} {n c : Nat} {Z : List Pt} (h : PRd w A n c Z) : PIn w Z := h.2.2.2.1
theorem PRd.nil (w : World) : PRd w none 0 0 [] := ⟨rfl, Nat.le_refl _, by decide, fun _ h => (List.not_mem_nil h).elim, .inl rfl⟩
theorem PRd.below {w w' : World} {A : Option Addr} {n c : Nat} {Z : List Pt} (h : PRd w A n c Z) (hb : Below w.heap.size w w') : PRd w' A n c Z := by
  refine ⟨h.1, h.2.1, h.2.2.1, h.in_.below hb, h.2.2.2.2.imp id ?_⟩
  rintro ⟨b, o, rfl, hlt, hc⟩
  refine ⟨b, o, rfl, Nat.lt_of_lt_of_le hlt hb.size, fun i hi => ?_⟩
  obtain ⟨h1, h2⟩ := hc i hi
  exact ⟨(hb.cell (p := ⟨b, o + i * 2, none⟩) hlt).trans h1, (hb.cell (p := ⟨b, o + i * 2 + 1, none⟩) hlt).trans h2⟩
theorem PRd.open_ {w : World} {A : Option Addr} {n c : Nat} {Z : List Pt} (h : PRd w A n c Z) (hn : 0 < n) : ∃ b o, A = some ⟨b, o, none⟩ ∧ b < w.heap.size ∧
    ∀ i (h : i < Z.length), w.cell? ⟨b, o + i * 2, none⟩ = some Z[i].sl ∧ w.cell? ⟨b, o + i * 2 + 1, none⟩ = some Z[i].nv := by
  rcases h.2.2.2.2 with e | h
  · rw [h.1, e] at hn; simp at hn
  · exact h

structure PTy (S T : TypeId) : Prop where
  u : Tryz.prog.underlying S = some (.slice T)
  i : (Tryz.prog.info? T).map (fun i => (i.zero, i.size, i.bytes)) = some (some (.agg #[.slice none 0 0, .int .i64 0]), 2, 32)
theorem ptyP : PTy 55 58 := ⟨Tryz.underlying55, by kernel_rfl⟩
def POw (T : TypeId) (w : World) (B : Nat) (v : Value) (Z : List Pt) : Prop :=
  w.ownsRow B T 2 v Z.length (pvals Z) ∧ ∀ z ∈ Z, ISl w z.A z.n z.c z.xs ∧ ApO z.A z.xs v.ownBlock
theorem POw.nil (T : TypeId) (w : World) (B : Nat) : POw T w B (.slice none 0 0) [] := ⟨World.ownsRow_nil _ _ _ _, fun _ h => (List.not_mem_nil h).elim⟩
theorem ownsRow_belowP {w w' : World} {B n : Nat} {T : TypeId} {k : Nat} {v : Value} {xs : List Value} (h : w.ownsRow B T k v n xs) (hb : Below w.heap.size w w') : w'.ownsRow B T k v n xs := by
  obtain ⟨hl, h2⟩ := h
  refine ⟨hl, ?_⟩
  rcases h2 with h2 | ⟨g, cap, cur, e, h3, hh, h4⟩
  · exact .inl h2
  · exact .inr ⟨g, cap, cur, e, h3, (hb.block g (Array.getElem?_eq_some_iff.1 hh).1).trans hh, h4⟩
theorem POw.below {T : TypeId} {w w' : World} {B : Nat} {v : Value} {Z : List Pt} (h : POw T w B v Z) (hb : Below w.heap.size w w') : POw T w' B v Z :=
  ⟨ownsRow_belowP h.1 hb, fun z hz => ⟨(h.2 z hz).1.below hb, (h.2 z hz).2⟩⟩
theorem POw.in_ {T : TypeId} {w : World} {B : Nat} {v : Value} {Z : List Pt} (h : POw T w B v Z) : PIn w Z := fun z hz => (h.2 z hz).1
theorem POw.lt {T : TypeId} {w : World} {B : Nat} {v : Value} {Z : List Pt} (h : POw T w B v Z) : ∀ k, v.ownBlock = some k → B ≤ k := fun k hk => (h.1.lt k hk).1
theorem POw.rd {T : TypeId} {w : World} {B : Nat} {v : Value} {Z : List Pt} (h : POw T w B v Z) : ∃ A c, v = .slice A Z.length c ∧ PRd w A Z.length c Z ∧ (∀ b o s, A = some ⟨b, o, s⟩ → B ≤ b) ∧
    (Z = [] ∨ ∃ b, A = some ⟨b, 0, none⟩ ∧ b < w.heap.size ∧ (∀ i, w.frozen? ⟨b, i, none⟩ = false) ∧ ∀ i, i < Z.length * 2 → w.cell? ⟨b, i, none⟩ = (pvals Z)[i]?) := by
  have hin := h.in_
  obtain ⟨⟨hl, h2⟩, hf⟩ := h
  rcases h2 with ⟨rfl, h0⟩ | ⟨g, cap, cur, rfl, hb, hh, hn, hc, hs, ht⟩
  · have hZ : Z = [] := List.eq_nil_of_length_eq_zero h0
    subst hZ
    exact ⟨none, 0, rfl, PRd.nil w, fun b o s e => (by cases e), .inl rfl⟩
  · have hlt : g < w.heap.size := (Array.getElem?_eq_some_iff.1 hh).1
    have hcell : ∀ j, j < Z.length * 2 → w.cell? ⟨g, j, none⟩ = (pvals Z)[j]? := fun j hj => by
      rw [cell_of_row w g j cur _ (0, 0) hh, ← Array.getElem?_toList, ← ht, List.getElem?_take_of_lt hj]
    refine ⟨some ⟨g, 0, none⟩, cap, rfl, ⟨rfl, hn, by unfold maxLen at hc; omega, hin, .inr ⟨g, 0, rfl, hlt, fun i hi => ?_⟩⟩, fun b o s e => ?_, .inr ⟨g, rfl, hlt, fun i => by simp [World.frozen?, hh], hcell⟩⟩
    · obtain ⟨k1, k2⟩ := pvals_at Z i hi
      exact ⟨by rw [Nat.zero_add, hcell _ (by omega), k1], by rw [Nat.zero_add, hcell _ (by omega), k2]⟩
    · simp only [Option.some.injEq, Addr.mk.injEq] at e
      omega

def ApB (A : Option Addr) (row : Option Nat) : Prop := ∀ b o s, A = some ⟨b, o, s⟩ → some b ≠ row
theorem keep_prd {w w' : World} {row row' : Option Nat} (hg : w.grownBy w' row) (h5 : row' = row ∨ row' = some w.heap.size) {A : Option Addr} {n c : Nat} {Z : List Pt} (h : PRd w A n c Z) (ha : ∀ z ∈ Z, ApO z.A z.xs row) (hb : ApB A row) :
    PRd w' A n c Z ∧ (∀ z ∈ Z, ApO z.A z.xs row') ∧ (Z = [] ∨ ApB A row') := by
  refine ⟨⟨h.1, h.2.1, h.2.2.1, fun z hz => (h.in_ z hz).grownO hg (ha z hz), h.2.2.2.2.imp id ?_⟩, fun z hz => (h.in_ z hz).apO (ha z hz) h5, ?_⟩
  · rintro ⟨b, o, rfl, hlt, hc⟩
    refine ⟨b, o, rfl, Nat.lt_of_lt_of_le hlt hg.size, fun i hi => ?_⟩
    obtain ⟨h1, h2⟩ := hc i hi
    exact ⟨(World.cell?_of_block (w := w) (hg.block b hlt (hb b o none rfl))).trans h1, (World.cell?_of_block (w := w) (hg.block b hlt (hb b o none rfl))).trans h2⟩
  · rcases h.2.2.2.2 with e | ⟨b, o, rfl, hlt, _⟩
    · exact .inl e
    · right
      rcases h5 with rfl | rfl
      · exact hb
      · intro b' o' s' e e2
        simp only [Option.some.injEq, Addr.mk.injEq] at e
        simp only [Option.some.injEq] at e2
        omega
structure Keep (w : World) (v : Value) (w' : World) (v' : Value) : Prop where
  isl : ∀ A n c xs, ISl w A n c xs → ApO A xs v.ownBlock → ISl w' A n c xs ∧ ApO A xs v'.ownBlock
  prd : ∀ A n c Z, PRd w A n c Z → (∀ z ∈ Z, ApO z.A z.xs v.ownBlock) → ApB A v.ownBlock → PRd w' A n c Z ∧ (∀ z ∈ Z, ApO z.A z.xs v'.ownBlock) ∧ (Z = [] ∨ ApB A v'.ownBlock)
theorem prun_app {S T : TypeId} (ht : PTy S T) (w : World) (ty : TypeId) (B : Nat) (v : Value) (Z : List Pt) (hown : POw T w B v Z) (g c : Nat) (z : Pt) (h0 : w.cell? ⟨g, 0, none⟩ = some z.sl) (h1 : w.cell? ⟨g, 1, none⟩ = some z.nv)
    (hL : ISl w z.A z.n z.c z.xs) (ha : ApO z.A z.xs v.ownBlock) (hmax : Z.length ≤ 1000000) (hB : B ≤ w.heap.size) :
    ∃ v' w', (Builtin.append_ #[S, S] ty #[v, .slice (some ⟨g, 0, none⟩) 1 c]).run Tryz.prog w = .ok v' w' ∧ POw T w' B v' (Z ++ [z]) ∧ Below B w w' ∧ Keep w v w' v' := by
  obtain ⟨i0, hi, hz0, hz1, hz2⟩ := info_parts ht.i
  have hcells : ∀ j u, (z.enc)[j]? = some u → w.cell? ((⟨g, 0, none⟩ : Addr).add j) = some u := by
    intro j u hj
    rw [iadd_add ⟨g, 0, none⟩ j g 0 rfl, Nat.zero_add]
    match j, hj with
    | 0, hj => simp only [Pt.enc, List.getElem?_cons_zero] at hj; rw [h0, hj]
    | 1, hj => simp only [Pt.enc, List.getElem?_cons_succ, List.getElem?_cons_zero] at hj; rw [h1, hj]
    | k + 2, hj => simp [Pt.enc] at hj
  obtain ⟨v', w', hrun, h2, h3, _, h5⟩ := run_append_own_at (P := Tryz.prog) w B S ty T i0 _ 2 32 ht.u hi hz0 hz1 hz2 rfl (by decide) v Z.length (pvals Z) hown.1 ⟨g, 0, none⟩ 1 c z.enc
    rfl hcells (by intro u hu; simp only [Pt.enc, List.mem_cons, List.not_mem_nil, or_false] at hu; rcases hu with rfl | rfl <;> rfl) (by unfold maxLen; omega) (by omega) hB
  have hbl : Below B w w' := (Below.refl B w).grown h3 hB hown.lt
  refine ⟨v', w', hrun, ⟨?_, fun y hy => ?_⟩, hbl, ⟨fun A n c xs k1 k2 => ⟨k1.grownO h3 k2, k1.apO k2 h5⟩, fun A n c Z k1 k2 k3 => keep_prd h3 h5 k1 k2 k3⟩⟩
  · rw [List.length_append, pvals_append]
    exact h2
  · rcases List.mem_append.1 hy with hy | hy
    · obtain ⟨k1, k2⟩ := hown.2 y hy
      exact ⟨k1.grownO h3 k2, k1.apO k2 h5⟩
    · rw [List.mem_singleton.1 hy]
      exact ⟨hL.grownO h3 ha, hL.apO ha h5⟩
theorem pwp_app {S T : TypeId} (ht : PTy S T) {o : Oper} {a : Act} {K : Act → World → Prop} {Q : Exit → Act → World → Prop} (w : World) (s x : Operand) (ho : o.op = .call { callee := .builtin .append, args := #[s, x], argTypes := #[S, S] })
    (B : Nat) (v : Value) (Z : List Pt) (hs : a.eval s = v) (hown : POw T w B v Z) (g c : Nat) (hx : a.eval x = .slice (some ⟨g, 0, none⟩) 1 c) (z : Pt) (h0 : w.cell? ⟨g, 0, none⟩ = some z.sl) (h1 : w.cell? ⟨g, 1, none⟩ = some z.nv)
    (hL : ISl w z.A z.n z.c z.xs) (ha : ApO z.A z.xs v.ownBlock) (hmax : Z.length ≤ 1000000) (hB : B ≤ w.heap.size)
    (h : ∀ v' w', POw T w' B v' (Z ++ [z]) → Below B w w' → Keep w v w' v' → K (a.put o.dst v') w') : o.wp Tryz.prog a w K Q := by
  obtain ⟨v', w', hrun, h2, h3, h4⟩ := prun_app ht w o.type B v Z hown g c z h0 h1 hL ha hmax hB
  unfold Oper.wp execOp
  simp only [ho, resolve, invoke, builtin, Sem.run_bind, Sem.run_pure, Result.andThen_ok, List.map_toArray, List.map_cons, List.map_nil, hs, hx, hrun]
  exact h v' w' h2 h3 h4
theorem pwpList_app {S T : TypeId} (ht : PTy S T) {ops : Array Oper} {rest : List Oper} {o : Oper} {a : Act} {Q : Exit → Act → World → Prop} (w : World) (hgd : o.guard = none) (s x : Operand) (ho : o.op = .call { callee := .builtin .append, args := #[s, x], argTypes := #[S, S] })
    (B : Nat) (v : Value) (Z : List Pt) (hs : a.eval s = v) (hown : POw T w B v Z) (g c : Nat) (hx : a.eval x = .slice (some ⟨g, 0, none⟩) 1 c) (z : Pt) (h0 : w.cell? ⟨g, 0, none⟩ = some z.sl) (h1 : w.cell? ⟨g, 1, none⟩ = some z.nv)
    (hL : ISl w z.A z.n z.c z.xs) (ha : ApO z.A z.xs v.ownBlock) (hmax : Z.length ≤ 1000000) (hB : B ≤ w.heap.size)
    (h : ∀ v' w', POw T w' B v' (Z ++ [z]) → Below B w w' → Keep w v w' v' → wpList Tryz.prog ops Q rest (a.put o.dst v') w') : wpList Tryz.prog ops Q (o :: rest) a w :=
  wpList_plain hgd fun _ hK => pwp_app ht w s x ho B v Z hs hown g c hx z h0 h1 hL ha hmax hB fun v' w' h2 h3 h4 => hK _ _ (h v' w' h2 h3 h4)
theorem pstep_app {S T : TypeId} (ht : PTy S T) {ops : Array Oper} {o : Oper} {a : Act} {K : Act → World → Prop} {Q : Exit → Act → World → Prop} {E : Prop} (w : World) (hgd : o.guard = none) (s x : Operand) (ho : o.op = .call { callee := .builtin .append, args := #[s, x], argTypes := #[S, S] })
    (B : Nat) (v : Value) (Z : List Pt) (hs : a.eval s = v) (hown : POw T w B v Z) (g c : Nat) (hx : a.eval x = .slice (some ⟨g, 0, none⟩) 1 c) (z : Pt) (h0 : w.cell? ⟨g, 0, none⟩ = some z.sl) (h1 : w.cell? ⟨g, 1, none⟩ = some z.nv)
    (hL : ISl w z.A z.n z.c z.xs) (ha : ApO z.A z.xs v.ownBlock) (hmax : Z.length ≤ 1000000) (hB : B ≤ w.heap.size)
    (h : ∀ v' w', POw T w' B v' (Z ++ [z]) → Below B w w' → Keep w v w' v' → K (a.put o.dst v') w') : if Region.wanted o (yielded ops a.tmps) = true then Oper.wp Tryz.prog o a w K Q else E := by
  have hw : Region.wanted o (yielded ops a.tmps) = true := by simp [Region.wanted, hgd]
  rw [if_pos hw]
  exact pwp_app ht w s x ho B v Z hs hown g c hx z h0 h1 hL ha hmax hB h
theorem POw.apart {T : TypeId} {w : World} {B : Nat} {v : Value} {Z : List Pt} (h : POw T w B v Z) {A : Option Addr} {fs : List Int} (hA : ∀ b o s, A = some ⟨b, o, s⟩ → w.heap.size ≤ b ∨ b < B) : ApO A fs v.ownBlock := by
  refine .inr fun b o s e e2 => ?_
  have h1 := h.1.lt b e2.symm
  have h2 := hA b o s e
  omega
theorem bel_al (w : World) (o : Obj) : Below w.heap.size w (w.alloc o) := (Below.refl _ _).alloc (Nat.le_refl _) _
theorem POw.alloc {T : TypeId} {w : World} {B : Nat} {v : Value} {Z : List Pt} (h : POw T w B v Z) (o : Obj) : POw T (w.alloc o) B v Z := h.below (bel_al w o)
theorem isl_alloc {w : World} {A : Option Addr} {n c : Nat} {xs : List Int} (h : ISl w A n c xs) (o : Obj) : ISl (w.alloc o) A n c xs := h.below (bel_al w o)
theorem two_cell0 (w : World) (a b : Value) (T : TypeId) : (w.alloc (.cells #[a, b] T)).cell? ⟨w.heap.size, 0, none⟩ = some a := by simp
theorem two_cell1 (w : World) (a b : Value) (T : TypeId) : (w.alloc (.cells #[a, b] T)).cell? ⟨w.heap.size, 1, none⟩ = some b := by simp
theorem pwpList_new {S T : TypeId} (ht : PTy S T) {ops : Array Oper} {rest : List Oper} {o : Oper} {a : Act} {Q : Exit → Act → World → Prop} (w : World) (g : Nat) (hg : g = w.heap.size) (T' : TypeId) (z : Pt) (hgd : o.guard = none) (s x : Operand) (ho : o.op = .call { callee := .builtin .append, args := #[s, x], argTypes := #[S, S] })
    (B : Nat) (v : Value) (Z : List Pt) (hs : a.eval s = v) (hown : POw T w B v Z) (hx : a.eval x = .slice (some ⟨g, 0, none⟩) 1 1)
    (hL : ISl w z.A z.n z.c z.xs) (ha : ApO z.A z.xs v.ownBlock) (hmax : Z.length ≤ 1000000) (hB : B ≤ w.heap.size)
    (h : ∀ v' w', POw T w' B v' (Z ++ [z]) → Below B w w' → Keep w v w' v' → wpList Tryz.prog ops Q rest (a.put o.dst v') w') : wpList Tryz.prog ops Q (o :: rest) a (w.alloc (.cells #[z.sl, z.nv] T')) :=
  by
  subst hg
  exact pwpList_app ht _ hgd s x ho B v Z hs (hown.alloc _) w.heap.size 1 hx z (two_cell0 ..) (two_cell1 ..) (isl_alloc hL _) ha hmax (Nat.le_trans hB (bel_al w _).size) fun v' w' h1 h2 h3 => h v' w' h1 (((bel_al w _).mono hB).trans h2) ⟨fun A n c xs k1 k2 => h3.isl A n c xs (isl_alloc k1 _) k2, fun A n c Z k1 k2 k3 => h3.prd A n c Z (k1.below (bel_al w _)) k2 k3⟩
end Go.Proofs.YtnkhhndjbanmnaaGreatDoor

/- slices.SortFunc at fsqf's parts, by how often: the closure, and what the row holds behind it. -/
namespace Go.Proofs.YtnkhhndjbanmnaaGreatDoor
open Go.RowKit Go.Shelf Go.Lib

set_option maxRecDepth 100000 in
set_option maxRecDepth 100000 in
set_option maxHeartbeats 1000000 in
theorem fNaN (x : Int) (w : World) : Calls Tryz.prog 101 #[.int .i64 x] w fun e w' => e = .returned (.bool false) ∧ w = w' := by
  go_enter Tryz.func101, Tryz.ntmps101
  go_wp2_with fail
  go_ret
  exact ⟨by simp, rfl⟩
set_option maxRecDepth 100000 in
set_option maxRecDepth 100000 in
set_option maxHeartbeats 1000000 in
theorem fCmpInt (x y : Int) (w : World) : Calls Tryz.prog 63 #[.int .i64 x, .int .i64 y] w fun e w' => e = .returned (.int .i64 (Lib.compareInt x y)) ∧ w = w' := by
  have N1 := Lib.hid (fun x => fNaN x w)
  unfold Lib.compareInt
  by_cases h1 : x < y
  · rw [if_pos h1]
    go_enter Tryz.func63, Tryz.ntmps63
    go_wp2_with (go_at_call 101; (with_reducible refine (N1.out _).mono ?_); rintro e w1 ⟨rfl, rfl⟩)
    go_ret
    exact ⟨rfl, rfl⟩
  · rw [if_neg h1]
    by_cases h2 : x > y
    · rw [if_pos h2]
      have h3 : y < x := h2
      go_enter Tryz.func63, Tryz.ntmps63
      go_wp2_with (go_at_call 101; (with_reducible refine (N1.out _).mono ?_); rintro e w1 ⟨rfl, rfl⟩)
      go_ret
      exact ⟨rfl, rfl⟩
    · rw [if_neg h2]
      have h3 : ¬ y < x := h2
      go_enter Tryz.func63, Tryz.ntmps63
      go_wp2_with (go_at_call 101; (with_reducible refine (N1.out _).mono ?_); rintro e w1 ⟨rfl, rfl⟩)
      go_ret
      exact ⟨rfl, rfl⟩

def byN (x y : Pt) : Int := Lib.compareInt (x.N : Int) (y.N : Int)
theorem byN_lt (x y : Pt) : ltOf byN x y = decide (x.N < y.N) := by
  unfold ltOf byN Lib.compareInt
  by_cases h1 : (x.N : Int) < (y.N : Int)
  · rw [if_pos h1]
    rw [decide_eq_true (show x.N < y.N by omega)]; rfl
  · rw [if_neg h1, decide_eq_false (show ¬ x.N < y.N by omega)]
    split <;> rfl
theorem byN_swo : Sort.SWO (ltOf byN) where
  irrefl x := by rw [byN_lt]; simp
  trans x y z h1 h2 := by rw [byN_lt] at *; simp at *; omega
  ntrans x y z h1 h2 := by rw [byN_lt] at *; simp at *; omega

set_option maxRecDepth 100000 in
set_option maxRecDepth 100000 in
set_option maxHeartbeats 1000000 in
theorem fByN (x y : Pt) (W : World) : Calls Tryz.prog 86 #[.agg #[x.sl, x.nv], .agg #[y.sl, y.nv]] W fun e w' => e = .returned (.int .i64 (byN x y)) ∧ ∃ q os', w' = Sort.grow (W.drewN q) os' := by
  have C := Lib.hid (fun W => fCmpInt (x.N : Int) (y.N : Int) W)
  unfold byN Pt.sl Pt.nv
  generalize Lib.compareInt (x.N : Int) (y.N : Int) = r at *
  go_enter Tryz.func86, Tryz.ntmps86
  go_wp2_with (go_at_call 63; (with_reducible refine (C.out _).mono ?_); rintro e w1 ⟨rfl, rfl⟩)
  go_ret
  exact ⟨rfl, 0, _, by rw [Sort.alloc_eq_grow, Sort.alloc_eq_grow, Sort.grow_grow]; rfl⟩

theorem pvals_get (Z : List Pt) (t : Nat) (ht : t < Z.length * 2) : (pvals Z)[t]? = some (Pt.enc (Z.toArray[t / 2]!))[t % 2]! := by
  obtain ⟨k1, k2⟩ := pvals_at Z (t / 2) (by omega)
  have e : Z.toArray[t / 2]! = Z[t / 2]'(by omega) := by
    rw [getElem!_pos Z.toArray (t / 2) (by simp; omega)]
    simp
  rw [e]
  rcases Nat.mod_two_eq_zero_or_one t with h | h
  · rw [h]
    have : t = t / 2 * 2 := by omega
    rw [show (pvals Z)[t]? = (pvals Z)[t / 2 * 2]? by rw [← this]]
    exact k1
  · rw [h]
    have : t = t / 2 * 2 + 1 := by omega
    rw [show (pvals Z)[t]? = (pvals Z)[t / 2 * 2 + 1]? by rw [← this]]
    exact k2
theorem holds_parts {w : World} {b : Nat} {Z : List Pt} (hf : ∀ i, w.frozen? ⟨b, i, none⟩ = false) (hc : ∀ i, i < Z.length * 2 → w.cell? ⟨b, i, none⟩ = (pvals Z)[i]?) : Sort.HoldsK Pt.enc 2 w b 0 Z.toArray := by
  intro j hj
  have hj2 : j < Z.length * 2 := by simpa using hj
  refine ⟨?_, by rw [Nat.zero_add]; exact hf j⟩
  rw [Nat.zero_add, hc j hj2, pvals_get Z j hj2, Sort.get_flatK _ _ _ _ (by simpa using hj2)]
  rfl
theorem sort_grown (w : World) (b n : Nat) (d : Array Pt) (os : Array Obj) : w.grownBy (sortWorldK Pt.enc 2 w b 0 n d os) (some b) := by
  refine ⟨rfl, rfl, rfl, ?_, fun k hk hne => ?_⟩
  · exact size_sortWorldK_c Pt.enc 2 w b 0 n d os
  · have hkb : b ≠ k := fun e => hne (by rw [e])
    show (Array.modify w.heap b _ ++ os)[k]? = w.heap[k]?
    rw [Array.getElem?_append_left (by simpa using hk), Array.getElem?_modify, if_neg hkb]
def SRow (w : World) (b : Nat) (Z : List Pt) (w' : World) : Prop :=
  ∃ Z' : List Pt, Z'.Perm Z ∧ (Z'.map (·.N)).Pairwise (· ≤ ·) ∧ w.grownBy w' (some b) ∧ ∀ i (h : i < Z'.length), w'.cell? ⟨b, 0 + i * 2, none⟩ = some Z'[i].sl ∧ w'.cell? ⟨b, 0 + i * 2 + 1, none⟩ = some Z'[i].nv
theorem fSort (b c : Nat) (Z : List Pt) (w : World) (hb : b < w.heap.size) (hf : ∀ i, w.frozen? ⟨b, i, none⟩ = false) (hc : ∀ i, i < Z.length * 2 → w.cell? ⟨b, i, none⟩ = (pvals Z)[i]?) (hn : Z.length ≤ 1000000) :
    Calls Tryz.prog 85 #[.slice (some ⟨b, 0, none⟩) Z.length c, .func (.func 86) #[] #[]] w fun e w' => e = .returned (.tuple #[]) ∧ SRow w b Z w' := by
  have eg : ∀ args w, (callFunc 86 args).run Tryz.prog w = .ok (.enter 86 args) w := enters_of Tryz.func86 (by kernel_rfl) rfl
  have hH := holds_parts hf hc
  have hcon := AnyQ.slices_SortFunc Tryz.sortPart 2 Tryz.isAgg58 Tryz.sizeOf58 Pt.enc (fun _ => rfl) (fun x v hv => by simp [Pt.enc] at hv; rcases hv with rfl | rfl <;> rfl) byN byN_swo 86 #[] b 0 c Z.toArray w eg (fun _ _ _ _ x y => fByN x y _) hH hb (by simp; omega)
  refine Calls.mono hcon ?_
  rintro e w' ⟨rfl, d', n, os, hp, hs, rfl⟩
  have hsz : d'.size = Z.length := by simpa using hp.1
  have hperm : d'.toList.Perm Z := by
    have := hp.2.2
    rw [Array.extract_eq_self_of_le (by simp; omega), Array.extract_eq_self_of_le (by simp)] at this
    simpa using this
  have hH' := holdsK_sortWorldK_c Pt.enc 2 w b 0 Z.toArray d' n os hH hb (by simpa using hp.1)
  refine ⟨rfl, d'.toList, hperm, ?_, sort_grown w b n d' os, fun i hi => ?_⟩
  · rw [List.pairwise_map, List.pairwise_iff_getElem]
    intro i j hi hj hij
    have hi2 : i < d'.size := by simpa using hi
    have hj2 : j < d'.size := by simpa using hj
    have := hs i j (Nat.zero_le _) hij (by simp; omega)
    rw [byN_lt, getElem!_pos d' j hj2, getElem!_pos d' i hi2] at this
    have h2 := of_decide_eq_false this
    simp only [Array.getElem_toList]
    omega
  · have hi2 : i < d'.size := by simpa using hi
    have c0 := (hH'.cell hi2 (show 0 < 2 by decide)).1
    have c1 := (hH'.cell hi2 (show 1 < 2 by decide)).1
    rw [getElem!_pos d' i hi2] at c0 c1
    simp only [Array.getElem_toList]
    exact ⟨c0, c1⟩
theorem fSort0 (A : Option Addr) (c : Nat) (w : World) :
    Calls Tryz.prog 85 #[.slice A 0 c, .func (.func 86) #[] #[]] w fun e w' => e = .returned (.tuple #[]) ∧ w' = w :=
  AnyF.slices_SortFunc_none Tryz.sortPart A c _ w
theorem srow_rd {w wr w' : World} {b zl c : Nat} {Z : List Pt} (ho : POw 58 wr w.heap.size (.slice (some ⟨b, 0, none⟩) zl c) Z) (hr : PRd wr (some ⟨b, 0, none⟩) zl c Z) (hb : w.heap.size ≤ b) (hlt : b < wr.heap.size) (hw : Below w.heap.size w wr) (h : SRow wr b Z w') :
    ∃ Zs : List Pt, Zs.Perm Z ∧ (Zs.map (·.N)).Pairwise (· ≤ ·) ∧ PRd w' (some ⟨b, 0, none⟩) zl c Zs ∧ Below w.heap.size w w' := by
  obtain ⟨Zs, h1, h2, h3, h4⟩ := h
  refine ⟨Zs, h1, h2, ⟨by rw [h1.length_eq]; exact hr.len, hr.le, hr.max, fun z hz => ?_, .inr ⟨b, 0, rfl, Nat.lt_of_lt_of_le hlt h3.size, h4⟩⟩, hw.grown h3 hw.size (fun k e => by simp only [Option.some.injEq] at e; omega)⟩
  obtain ⟨k1, k2⟩ := ho.2 z (h1.mem_iff.1 hz)
  exact k1.grownO h3 k2
end Go.Proofs.YtnkhhndjbanmnaaGreatDoor

/- Plain and Monic of rows as long as there are any. -/
namespace Go.Proofs.YtnkhhndjbanmnaaGreatDoor
open Go.RowKit
set_option maxHeartbeats 1000000 in
theorem plain_big (A : Option Addr) (n c : Nat) (xs : List Int) (p : Int) (w : World) (h : ISl w A n c xs) (hp : Md p) (hn : n ≤ 17592186044416) :
    Calls Tryz.prog 23 #[.slice A n c, .int .i64 p] w fun e w' => ∃ v, e = .returned v ∧ PolOut p (cf xs) n w v w' := by
  have H := Lib.hid h
  have hcl := h.le
  have hcm := h.max
  obtain ⟨hp1, hp2⟩ := hp
  have MD := Lib.hid (show Md p from ⟨hp1, hp2⟩)
  have RED := Lib.hid (fun (a : Int) (w : World) => refRed_any a p w (by omega) (by omega))
  clear h
  go_enter Tryz.func23, Tryz.ntmps23
  go_wp2_with fail
  go_loopw [6, 5] (fun i v wr => ∃ k : Nat, k ≤ n ∧ i = .int .i64 k ∧ IOw wr w.heap.size v (rst p (xs.take k)) ∧ Below w.heap.size w wr) (fun i _ _ => n - (intOf i).toNat)
  case atStart => exact ⟨0, Nat.zero_le _, rfl, IOw.nil _ _, Below.refl _ _⟩
  case round =>
    obtain ⟨k, hk, rfl, hown, hbel⟩ := hrel
    by_cases hlt : k < n
    · obtain ⟨b, o, rfl, hbl, hc⟩ := H.out.cf_ (by omega)
      have hx := hc k hlt
      rw [← hbel.cell (p := ⟨b, o + k, none⟩) hbl] at hx
      have hsn := rst_snoc p xs k (by rw [← H.out.len]; exact hlt)
      have hR := RED.out (cf xs k) wr
      rw [red_pos hp1] at hR
      have hy0 := Int.emod_nonneg (cf xs k) (b := p) (by omega)
      have hy1 := Int.emod_lt_of_pos (cf xs k) (b := p) (by omega)
      generalize cf xs k % p = y at *
      generalize cf xs k = x at *
      have hl : (rst p (xs.take k)).length = k := by rw [rst_length, List.length_take, ← H.out.len]; omega
      have hN := (iblk_list wr [y] (fi_one (by unfold In64; omega))).sl (by simp)
      have HN := Lib.hid hN
      have HO := Lib.hid hown
      have HB := Lib.hid hbel
      have HR := Lib.hid hR
      have HS := Lib.hid hsn
      have HL := Lib.hid hl
      have hsz := hbel.size
      clear hc hN hown hbel hR hsn hl
      go_wp2_with (first
        | (go_at_call 47; (with_reducible refine HR.out.mono ?_); rintro e w' ⟨rfl, rfl⟩)
        | (at_builtin; refine iwpList_app _ rfl (.tmp 14) (.tmp 21) rfl w.heap.size _ _ rfl (HO.out.alloc _) (some ⟨wr.heap.size, 0, none⟩) 1 1 rfl [y] HN.out (by rw [HL.out]; omega) (by simp; omega) ?_; intro v1 w3 ho1 hb3))
      have hb4 : Below w.heap.size w w3 := (HB.out.alloc hsz _).trans hb3
      clear hb3
      rw [← HS.out] at ho1
      go_roundw
      case rel => exact ⟨k + 1, by omega, by go_num, ho1, hb4⟩
      case measure => simp [intOf]; omega
    · obtain rfl : k = n := by omega
      have hk2 : xs.take k = xs := List.take_of_length_le (by rw [← H.out.len]; exact Nat.le_refl _)
      rw [hk2] at hown
      obtain ⟨A', d, rfl, hs, hnew⟩ := hown.sl
      have NEW := Lib.hid hnew
      have hl : (rst p xs).length = k := by rw [rst_length, ← H.out.len]
      rw [hl] at hs ⊢
      have CUT := Lib.hid (fun t => @rst_cut p MD.out xs t)
      have hxl : k ≤ xs.length := by rw [← H.out.len]; exact Nat.le_refl _
      have HXL := Lib.hid hxl
      have RS := Lib.hid (rst_rs p MD.out xs)
      have HSS := Lib.hid hs
      have HB := Lib.hid hbel
      have hsle := hs.le
      have hsm := hs.max
      have OV := Lib.hid (fun i (hi : k ≤ i) => cf_over (xs := rst p xs) (i := i) (by rw [hl]; exact hi))
      clear hown hk2 hl hs hbel hxl hnew
      generalize rst p xs = zs at *
      go_wp2_with fail
      by_cases hn0 : k = 0
      · subst hn0
        go_loop [7] (fun t => t = .int .i64 0) (fun _ => 0)
        case atStart => rfl
        case round =>
          subst hrel
          have hAd := HSS.out.2.2.2.1
          rcases A' with _ | a
          · obtain rfl := hAd rfl
            go_wp2_with fail
            go_ret
            exact ⟨_, rfl, none, 0, 0, _, rfl, HSS.out.take 0 (Nat.le_refl _), CUT.out 0 (Nat.zero_le _) OV.out (.inl rfl), Nat.le_refl _, NEW.out, HB.out⟩
          · clear hAd
            go_wp2_with fail
            go_ret
            exact ⟨_, rfl, some a, 0, d, _, rfl, HSS.out.take 0 (Nat.le_refl _), CUT.out 0 (Nat.zero_le _) OV.out (.inl rfl), Nat.le_refl _, NEW.out, HB.out⟩
      · obtain ⟨b, o, rfl, _, hc⟩ := HSS.out.cf_ (by omega)
        have HC := Lib.hid hc
        clear hc
        go_loop [7] (fun t => ∃ j : Nat, j ≤ k ∧ t = .int .i64 (j : Int) ∧ Hid (∀ i, j ≤ i → cf zs i = 0)) (fun t => (intOf t).toNat)
        case atStart => exact ⟨k, Nat.le_refl _, rfl, OV⟩
        case round =>
          obtain ⟨j, hj, rfl, hz⟩ := hrel
          by_cases hj0 : j = 0
          · subst hj0
            go_wp2_with fail
            go_ret
            exact ⟨_, rfl, _, 0, d, _, rfl, HSS.out.take 0 (Nat.zero_le _), CUT.out 0 (Nat.zero_le _) hz.out (.inl rfl), Nat.zero_le _, NEW.out, HB.out⟩
          · have hcell := HC.out (j - 1) (by omega)
            have hpos : 0 < j := by omega
            by_cases hy : cf zs (j - 1) = 0
            · have HY := Lib.hid hy
              rw [hy] at hcell
              clear hy
              go_wp2_with fail
              go_round
              case rel => exact ⟨j - 1, by omega, by go_num, fun i hi => by
                by_cases e : i = j - 1
                · rw [e]; exact HY.out
                · exact hz.out i (by omega)⟩
              case measure => simp [intOf]; omega
            · have HY := Lib.hid hy
              obtain ⟨y, hyy⟩ : ∃ y, cf zs (j - 1) = y := ⟨_, rfl⟩
              rw [hyy] at hcell hy
              have hyb : (y == 0) = false := by simpa using hy
              clear hy hyy
              go_wp2_with fail
              go_ret
              exact ⟨_, rfl, _, j, d, _, rfl, HSS.out.take j hj, CUT.out j (Nat.le_trans hj HXL.out) hz.out (.inr HY.out), hj, NEW.out, HB.out⟩

set_option maxHeartbeats 1000000 in
theorem cMonic_big (A : Option Addr) (n c : Nat) (xs : List Int) (p : Int) (w : World) (hT : TabAt w) (h : ISl w A n c xs) (ip : In64 p) (hn : n ≤ 17592186044416) :
    Calls Tryz.prog 52 #[.slice A n c, .int .i64 p] w fun e w' => ∃ C m d, e = .returned (.tuple #[.slice C m d, .int .i64 (chk p)]) ∧ Got w C m d (monL p (cf xs)) (n + 1) w' := by
  have C := pCheck_any p w ip.1 ip.2 hT
  rcases Classical.em (Pr p) with hp | hp
  · rw [chk_yes (primB_yes hp)] at C ⊢
    have CC := Lib.hid C
    have PR := Lib.hid hp
    have P1 := Lib.hid (fun W (hb : Below w.heap.size w W) => pPlain_any A n c xs p W (h.below hb) hp.md (by omega))
    have HT := Lib.hid hT
    have TM := Lib.hid (fun (X : Option Addr) (m1 d1 : Nat) (fx : List Int) (W : World) (hX : ISl W X m1 d1 fx) (hx : Pln p fx) (hT : TabAt W) (hm : m1 ≤ 35184372088832) => pMonic_any X m1 d1 fx p W hT hX hp hx hm)
    clear C h ip hT hp
    go_enter Tryz.func52, Tryz.ntmps52
    go_wp2_with (first
      | (go_at_call 48; (with_reducible refine CC.out.mono ?_); rintro e w1 ⟨rfl, rfl⟩)
      | (go_at_call 49; (with_reducible refine Calls.mono (P1.out _ (Below.refl _ _)) ?_); rintro e w2 ⟨v1, rfl, X, m1, d1, fx, rfl, hX, px, hm1, hnew1, hb1⟩; have HX := Lib.hid hX; have PX := Lib.hid px; have HM1 := Lib.hid hm1; have HB1 := Lib.hid hb1; have SZ1 := Lib.hid hb1.size; clear hX px hm1 hnew1 hb1)
      | (go_at_call 81; (refine Calls.mono (TM.out _ _ _ _ _ HX.out PX.out.1 (HT.out.below HB1.out) (Nat.le_trans HM1.out (by omega))) ?_); rintro e w5 ⟨v, rfl, ho⟩; have HO := Lib.hid ho; clear ho))
    go_ret2
    have mo := ovl_mon PR.out PX.out.1
    obtain ⟨C, m, d, rfl, hgot⟩ := polIn_got (L := monL p (cf xs)) HO.out.in_.1 (HB1.out.trans (HO.out.in_.2.mono SZ1.out)) (Nat.le_trans HM1.out (Nat.le_succ _)) (fun ys hy => monL_is PR.out (mo.eqL PX.out.2 PR.out) hy)
    exact ⟨C, m, d, rfl, hgot⟩
  · rw [chk_no (primB_no hp)] at C ⊢
    have CC := Lib.hid C
    have NO := Lib.hid hp
    clear C h ip hT hp
    go_enter Tryz.func52, Tryz.ntmps52
    go_wp2_with (go_at_call 48; (with_reducible refine CC.out.mono ?_); rintro e w1 ⟨rfl, rfl⟩)
    go_ret2
    exact ⟨none, 0, 0, rfl, got_nil (Below.refl _ _) (monL_no NO.out)⟩
end Go.Proofs.YtnkhhndjbanmnaaGreatDoor

/- Powers' rests, limb by limb and bit by bit; what a round of a loop over a function keeps. -/
namespace Go.Proofs.YtnkhhndjbanmnaaGreatDoor
open Go.RowKit

theorem RestOf.both {p : Int} {m : Nat} {F f b z o r : Ser} (h : RestOf p m F b z) (k : RestOf p m f b o) (hF : Fini p F) (ho : Fini p o) (e : RestOf p m (Ser.mul z o) b r) : RestOf p m (Ser.mul F f) b r := by
  have h1 := h.mulR ho e
  rw [Ser.mul_comm] at h1
  have h2 := k.mulR hF h1
  rwa [Ser.mul_comm] at h2

def ev : List (Nat × Nat) → Nat := List.foldl (fun e x => e * 18446744073709551616 + x.2 % 18446744073709551616) 0
theorem ev_snoc (pre : List (Nat × Nat)) (x : Nat × Nat) : ev (pre ++ [x]) = ev pre * 18446744073709551616 + x.2 % 18446744073709551616 := by simp [ev]
theorem ev_upto {es : List Nat} (hf : Fit es) : ∀ k, k ≤ es.length → ev (upto (downs (fun j => es.getD j 0) es.length) k) = val (es.drop (es.length - k)) := by
  intro k
  induction k with
  | zero => intro _; rw [Nat.sub_zero, List.drop_length]; rfl
  | succ k ih =>
    intro hk
    rw [upto_succ, ev_snoc, ih (by omega)]
    show _ + es.getD (es.length - 1 - k) 0 % _ = _
    have hlt : es.length - (k + 1) < es.length := by omega
    rw [List.drop_eq_getElem_cons hlt, val, show es.length - (k + 1) + 1 = es.length - k from by omega, show es.length - 1 - k = es.length - (k + 1) from by omega]
    have hx := fit_getD hf (es.length - (k + 1))
    rw [Nat.mod_eq_of_lt hx, List.getD_eq_getElem?_getD, List.getElem?_eq_getElem hlt]
    show _ = es[es.length - (k + 1)] + _
    simp only [Option.getD_some]
    omega
theorem ev_bit (e x t : Nat) (ht : t < 64) : (e * 18446744073709551616 + x) / 2 ^ t % 2 = x / 2 ^ t % 2 := by
  have h1 : (18446744073709551616 : Nat) = 2 ^ t * (2 * 2 ^ (63 - t)) := by
    rw [show (18446744073709551616 : Nat) = 2 ^ 64 from rfl, ← Nat.pow_succ', ← Nat.pow_add]
    congr 1
    omega
  rw [h1, show e * (2 ^ t * (2 * 2 ^ (63 - t))) + x = x + 2 ^ t * (e * (2 * 2 ^ (63 - t))) from by rw [Nat.add_comm, Nat.mul_left_comm], Nat.add_mul_div_left _ _ (Nat.two_pow_pos t), show e * (2 * 2 ^ (63 - t)) = 2 * (e * 2 ^ (63 - t)) from Nat.mul_left_comm _ _ _, Nat.add_mul_mod_self_left]
theorem ev_top (e x : Nat) (hx : x < 18446744073709551616) : (e * 18446744073709551616 + x) / 2 ^ 64 = e := by
  rw [show (2 : Nat) ^ 64 = 18446744073709551616 from rfl]
  omega

theorem isl_own {W W' : World} {row : Option Nat} {A : Option Addr} {n c : Nat} {xs : List Int} (h : ISl W A n c xs) (hg : W.grownBy W' row) (hr : ∀ r, row = some r → ∃ o : Obj, W.heap[r]? = some o ∧ o.isCells = false) : ISl W' A n c xs := by
  refine ⟨h.1, h.2.1, h.2.2.1, h.2.2.2.1, h.rd.1, h.rd.2.imp id ?_⟩
  rintro ⟨b, o, rfl, hlt, hc⟩
  exact ⟨b, o, rfl, Nat.lt_of_lt_of_le hlt hg.size, fun j hj => cell_kept (hc j hj) hg hr⟩
theorem isl_box {W : World} {A : Option Addr} {n c g k d : Nat} {xs : List Int} {C : Option Addr} {t : TypeId} (h : ISl W A n c xs) (hb : Boxed W g t (.slice C k d)) : IApart A xs g := by
  rcases h.rd.2 with h0 | ⟨b, o, rfl, hlt, hc⟩
  · exact .inl h0
  · cases xs with
    | nil => exact .inl rfl
    | cons x xs =>
      refine .inr fun b' o' s' e => ?_
      simp only [Option.some.injEq, Addr.mk.injEq] at e
      obtain ⟨rfl, _, _⟩ := e
      intro hbg
      subst hbg
      have h1 := hc 0 (by simp)
      rw [cell_of_row W b (o + 0) _ _ (0, 0) hb] at h1
      cases o with
      | zero => simp at h1
      | succ o => simp at h1
theorem keepsFrom_of_below {B : Nat} {W W' : World} (h : Below W.heap.size W W') : KeepsFrom B W W' :=
  ⟨h.size, fun k _ _ hk _ => (h.block k (Array.getElem?_eq_some_iff.1 hk).1).trans hk⟩

structure PwIn (B6 B7 B10 B12 : Nat) (t12 : TypeId) (B : Option Addr) (n' c' : Nat) (O : Option Addr) (k0 d0 : Nat) (os : List Int) (p : Int) (m : Nat) (b : Ser) (F : Ser) (W : World) : Prop where
  c6 : W.cell? ⟨B6, 0, none⟩ = some (.slice B n' c')
  c7 : W.cell? ⟨B7, 0, none⟩ = some (.int .i64 p)
  c10 : W.cell? ⟨B10, 0, none⟩ = some (.slice O k0 d0)
  so : ISl W O k0 d0 os
  z : ∃ C k d rs, Boxed W B12 t12 (.slice C k d) ∧ ISl W C k d rs ∧ Pln p rs ∧ RestOf p m F b (cf rs) ∧ k ≤ m
theorem PwIn.own {β : Type} {B6 B7 B10 B12 : Nat} {t12 : TypeId} {B : Option Addr} {n' c' : Nat} {O : Option Addr} {k0 d0 : Nat} {os : List Int} {p : Int} {m : Nat} {b : Ser} (F : β → Ser) :
    Go.Own (fun s W => PwIn B6 B7 B10 B12 t12 B n' c' O k0 d0 os p m b (F s) W) := by
  intro s W W' row hs hg hr
  obtain ⟨c6, c7, c10, so, C, k, d, rs, hb, hi, hp, hro, hk⟩ := hs
  refine ⟨cell_kept c6 hg hr, cell_kept c7 hg hr, cell_kept c10 hg hr, isl_own so hg hr, C, k, d, rs, hb.kept hg (fun e => ?_), isl_own hi hg hr, hp, hro, hk⟩
  obtain ⟨o, ho, hc⟩ := hr B12 e.symm
  rw [show W.heap[B12]? = _ from hb] at ho
  cases ho
  cases hc
end Go.Proofs.YtnkhhndjbanmnaaGreatDoor

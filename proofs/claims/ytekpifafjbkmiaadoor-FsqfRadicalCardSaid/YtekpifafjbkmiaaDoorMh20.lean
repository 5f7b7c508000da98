/- Texts joined, in their order: FsqSm, PrtRow. -/
import Derived.StillTailTactics
import Derived.Test.YtekpifafjbkmiaaDoorMh11
import Derived.Test.YtekpifafjbkmiaaDoorMh16
import Derived.Test.YtekpifafjbkmiaaDoorMh19

/- fsqf's small calls by contract: what it takes from fpoly, and whether a polynomial is constant. -/
namespace Go.Proofs.YtekpifafjbkmiaaDoor
open Go.RowKit

theorem below_to {w w1 w2 : World} (h : Below w.heap.size w w1) (k : Below w1.heap.size w1 w2) : Below w.heap.size w w2 := h.trans (k.mono h.size)
theorem Got.isl {W w' : World} {C : Option Addr} {m d : Nat} {L : List Int} {N : Nat} (g : Got W C m d L N w') : ISl w' C m d L := g.1
theorem Got.bel {W w' : World} {C : Option Addr} {m d : Nat} {L : List Int} {N : Nat} (g : Got W C m d L N w') : Below W.heap.size W w' := g.2.2

set_option maxRecDepth 100000 in
set_option maxHeartbeats 400000 in
theorem fGcd (A B : Option Addr) (n c n' c' : Nat) (xs ys : List Int) (p : Int) (w : World) (hT : TabAt w) (h : ISl w A n c xs) (h' : ISl w B n' c' ys) (ip : In64 p) (hn : n ≤ 1000) (hn' : n' ≤ 1000) :
    Calls Tryd.prog 31 #[.slice A n c, .slice B n' c', .int .i64 p] w fun e w' => ∃ C m d, e = .returned (.slice C m d) ∧ Got w C m d (bezG p (cf xs) (cf ys)) 2000000 w' ∧ FreshA w C := by
  have CC := Lib.hid (cGcd_new A B n c n' c' xs ys p w hT h h' ip hn hn')
  generalize chk p = u at *
  clear h h' ip hn hn' hT
  go_enter Tryd.func31, Tryd.ntmps31
  go_wp2_with (go_at_call 21; (with_reducible refine CC.out.mono ?_); rintro e w' ⟨C, m, d, rfl, hg, hf⟩)
  go_ret
  exact ⟨C, m, d, rfl, hg, hf⟩
set_option maxRecDepth 100000 in
set_option maxHeartbeats 400000 in
theorem fQuo (A B : Option Addr) (n c n' c' : Nat) (xs ys : List Int) (p : Int) (w : World) (hT : TabAt w) (h : ISl w A n c xs) (h' : ISl w B n' c' ys) (ip : In64 p) (hn : n ≤ 1000) (hn' : n' ≤ 1000) :
    Calls Tryd.prog 67 #[.slice A n c, .slice B n' c', .int .i64 p] w fun e w' => ∃ C m d, e = .returned (.slice C m d) ∧ Got w C m d (quoL p (cf xs) (cf ys)) (n + 1) w' ∧ FreshA w C := by
  have CC := Lib.hid (cDiv_new A B n c n' c' xs ys p w hT h h' ip (by omega) (by omega))
  generalize ediv p (cf ys) = u at *
  clear h h' ip hn hn' hT
  go_enter Tryd.func67, Tryd.ntmps67
  go_wp2_with (go_at_call 22; (with_reducible refine CC.out.mono ?_); rintro e w' ⟨C, m, d, C', m', d', rfl, hg, -, hf, -⟩)
  go_ret
  exact ⟨C, m, d, rfl, hg, hf⟩
set_option maxRecDepth 100000 in
set_option maxHeartbeats 400000 in
theorem fMul (A B : Option Addr) (n c n' c' : Nat) (xs ys : List Int) (p : Int) (w : World) (hT : TabAt w) (h : ISl w A n c xs) (h' : ISl w B n' c' ys) (ip : In64 p) (hn : n ≤ 1000) (hn' : n' ≤ 1000) :
    Calls Tryd.prog 29 #[.slice A n c, .slice B n' c', .int .i64 p] w fun e w' => ∃ C m d, e = .returned (.slice C m d) ∧ Got w C m d (polL p (Ser.mul (cf xs) (cf ys))) (n + n') w' := by
  have CC := Lib.hid (cMul A B n c n' c' xs ys p w hT h h' ip (by omega) (by omega))
  generalize chk p = u at *
  clear h h' ip hn hn' hT
  go_enter Tryd.func29, Tryd.ntmps29
  go_wp2_with (go_at_call 35; (with_reducible refine CC.out.mono ?_); rintro e w' ⟨C, m, d, rfl, hg⟩)
  go_ret
  exact ⟨C, m, d, rfl, hg⟩
set_option maxRecDepth 100000 in
set_option maxHeartbeats 400000 in
theorem fDer (A : Option Addr) (n c : Nat) (xs : List Int) (p : Int) (w : World) (hT : TabAt w) (h : ISl w A n c xs) (ip : In64 p) (hn : n ≤ 1000) :
    Calls Tryd.prog 32 #[.slice A n c, .int .i64 p] w fun e w' => ∃ C m d, e = .returned (.slice C m d) ∧ Got w C m d (polL p (Ser.der (cf xs))) n w' := by
  have CC := Lib.hid (cDeriv A n c xs p w hT h ip (by omega))
  generalize chk p = u at *
  clear h ip hn hT
  go_enter Tryd.func32, Tryd.ntmps32
  go_wp2_with (go_at_call 20; (with_reducible refine CC.out.mono ?_); rintro e w' ⟨C, m, d, rfl, hg⟩)
  go_ret
  exact ⟨C, m, d, rfl, hg⟩
/-- Whether its length is 1. -/
def oneB (n : Nat) : Bool := ((n : Int) == 1)
theorem oneB_yes {n : Nat} (h : n = 1) : oneB n = true := by subst h; rfl
theorem oneB_no {n : Nat} (h : n ≠ 1) : oneB n = false := by unfold oneB; simp; omega
set_option maxRecDepth 100000 in
set_option maxHeartbeats 400000 in
theorem fConst (A : Option Addr) (n c : Nat) (w : World) :
    Calls Tryd.prog 30 #[.slice A n c] w fun e w' => e = .returned (.bool (oneB n)) ∧ w = w' := by
  unfold oneB
  go_enter Tryd.func30, Tryd.ntmps30
  go_wp2_with fail
  go_ret
  exact ⟨rfl, rfl⟩

/-- The error: no prime, a polynomial that is nought, none. -/
noncomputable def esq (p : Int) (f : Ser) : Int := if primB p = true then (if noB p f = true then 8 else 0) else 1
theorem esq_no {p : Int} {f : Ser} (h : ¬ Pr p) : esq p f = 1 := if_neg (by rw [primB_no h]; decide)
theorem esq_zero {p : Int} {f : Ser} (h : Pr p) (hb : Ser.Bd p f 0) : esq p f = 8 := by unfold esq; rw [if_pos (primB_yes h), if_pos (noB_yes hb)]
theorem esq_yes {p : Int} {f : Ser} (h : Pr p) (hb : ¬ Ser.Bd p f 0) : esq p f = 0 := by unfold esq; rw [if_pos (primB_yes h), noB_no hb]; rfl
theorem monL_zero {p : Int} {f : Ser} (hp : Pr p) (hb : Ser.Bd p f 0) : monL p f = [] :=
  monL_is (g := Ser.zer) hp (.inl ⟨hb, fun i _ => by simp [Ser.zer]⟩) ⟨Pln.nil p, fun i => by rw [cf_nil]; rfl⟩
theorem last_cf {p : Int} {xs : List Int} (hb : ¬ Ser.Bd p (cf xs) 0) : ∃ m, Last p (cf xs) m ∧ m < xs.length := by
  obtain ⟨m, hm⟩ := last_of hb (fini_cf p xs)
  refine ⟨m, hm, Nat.lt_of_not_le fun hc => hm.2 ?_⟩
  rw [cf_over hc]; simp
theorem mn_monL {p : Int} {xs : List Int} (hp : Pr p) (hb : ¬ Ser.Bd p (cf xs) 0) : Mn p (monL p (cf xs)) ∧ (monL p (cf xs)).length ≤ xs.length ∧ ∀ q, Irr p q → V p (cf (monL p (cf xs))) q = V p (cf xs) q := by
  obtain ⟨m, hm, hl⟩ := last_cf hb
  obtain ⟨h1, h2, _, h4⟩ := mn_mon hp hm
  exact ⟨h1, by omega, h4⟩

set_option maxRecDepth 100000 in
set_option maxHeartbeats 1000000 in
theorem fMon (A : Option Addr) (n c : Nat) (xs : List Int) (p : Int) (w : World) (hT : TabAt w) (h : ISl w A n c xs) (ip : In64 p) (hn : n ≤ 1000) :
    Calls Tryd.prog 23 #[.slice A n c, .int .i64 p] w fun e w' => ∃ C m d, e = .returned (.tuple #[.slice C m d, .int .i64 (esq p (cf xs))]) ∧ Got w C m d (monL p (cf xs)) (n + 1) w' := by
  have CM := cMonic A n c xs p w hT h ip (by omega)
  rcases Classical.em (Pr p) with hp | hp
  · rw [chk_yes (primB_yes hp)] at CM
    have CC := Lib.hid CM
    rcases Classical.em (Ser.Bd p (cf xs) 0) with hb | hb
    · have E := Lib.hid (monL_zero hp hb)
      rw [esq_zero hp hb]
      clear CM h ip hT hp hb
      go_enter Tryd.func23, Tryd.ntmps23
      go_wp2_with (go_at_call 42; (with_reducible refine CC.out.mono ?_); rintro e w' ⟨C, m, d, rfl, hg⟩; obtain rfl : m = 0 := by { have := hg.isl.len; rw [E.out] at this; exact this }; have HB := Lib.hid hg.bel; clear hg)
      go_ret2
      exact ⟨none, 0, 0, rfl, got_nil HB.out E.out⟩
    · obtain ⟨m1, _, _⟩ := mn_monL hp hb
      have E := Lib.hid m1.pos
      rw [esq_yes hp hb]
      clear CM h ip hT hp hb m1
      go_enter Tryd.func23, Tryd.ntmps23
      go_wp2_with (go_at_call 42; (with_reducible refine CC.out.mono ?_); rintro e w' ⟨C, m, d, rfl, hg⟩; have hm : ((m : Int) == 0) = false := by { have := hg.isl.len; have := E.out; simp; omega }; have HG := Lib.hid hg; clear hg)
      go_ret2
      exact ⟨C, m, d, rfl, HG.out⟩
  · rw [chk_no (primB_no hp)] at CM
    have CC := Lib.hid CM
    have E := Lib.hid (monL_no (f := cf xs) hp)
    rw [esq_no hp]
    clear CM h ip hT hp
    go_enter Tryd.func23, Tryd.ntmps23
    go_wp2_with (go_at_call 42; (with_reducible refine CC.out.mono ?_); rintro e w' ⟨C, m, d, rfl, hg⟩; have HB := Lib.hid hg.bel; clear hg)
    go_ret2
    exact ⟨none, 0, 0, rfl, got_nil HB.out E.out⟩
end Go.Proofs.YtekpifafjbkmiaaDoor

/- Parts as they lie in memory: two cells each, a polynomial's slice and a number; read alone, owned and growing by append. -/
namespace Go.Proofs.YtekpifafjbkmiaaDoor
open Go.RowKit

/-- A part, and where its polynomial lies. -/
structure Pt where
  A : Option Addr
  n : Nat
  c : Nat
  xs : List Int
  N : Nat
instance : Inhabited Pt := ⟨⟨none, 0, 0, [], 0⟩⟩
def Pt.sl (z : Pt) : Value := .slice z.A z.n z.c
def Pt.nv (z : Pt) : Value := .int .i64 (z.N : Int)
def Pt.enc (z : Pt) : List Value := [z.sl, z.nv]
def Pt.pl (z : Pt) : List Int × Nat := (z.xs, z.N)
def pls (Z : List Pt) : List (List Int × Nat) := Z.map Pt.pl
theorem pls_append (X Y : List Pt) : pls (X ++ Y) = pls X ++ pls Y := List.map_append
theorem pls_length (X : List Pt) : (pls X).length = X.length := List.length_map ..
def pvals : List Pt → List Value
  | [] => []
  | z :: Z => z.sl :: z.nv :: pvals Z
theorem pvals_length : ∀ Z : List Pt, (pvals Z).length = Z.length * 2
  | [] => rfl
  | z :: Z => by rw [pvals, List.length_cons, List.length_cons, pvals_length Z, List.length_cons]; omega
theorem pvals_append : ∀ X Y : List Pt, pvals (X ++ Y) = pvals X ++ pvals Y
  | [], Y => rfl
  | z :: Z, Y => by rw [List.cons_append, pvals, pvals, pvals_append Z Y]; rfl
theorem pvals_at : ∀ (Z : List Pt) (i : Nat) (h : i < Z.length), (pvals Z)[i * 2]? = some (Z[i].sl) ∧ (pvals Z)[i * 2 + 1]? = some (Z[i].nv)
  | [], i, h => absurd h (Nat.not_lt_zero _)
  | z :: Z, 0, h => ⟨rfl, rfl⟩
  | z :: Z, i + 1, h => by
    have := pvals_at Z i (by simpa using h)
    rw [show (i + 1) * 2 = i * 2 + 1 + 1 by omega]
    exact this
theorem pvals_one : ∀ (Z : List Pt) (u : Value), u ∈ pvals Z → u.oneCell' = true
  | [], u, h => by cases h
  | z :: Z, u, h => by
    rw [pvals] at h
    rcases List.mem_cons.1 h with rfl | h
    · rfl
    · rcases List.mem_cons.1 h with rfl | h
      · rfl
      · exact pvals_one Z u h

/-- Each part's polynomial lies where it says. -/
def PIn (w : World) (Z : List Pt) : Prop := ∀ z ∈ Z, ISl w z.A z.n z.c z.xs
theorem PIn.below {w w' : World} {Z : List Pt} (h : PIn w Z) (hb : Below w.heap.size w w') : PIn w' Z := fun z hz => (h z hz).below hb

/-- Parts that are read. -/
def PRd (w : World) (A : Option Addr) (n c : Nat) (Z : List Pt) : Prop :=
  n = Z.length ∧ n ≤ c ∧ c ≤ 9223372036854775807 ∧ PIn w Z ∧ (Z = [] ∨ ∃ b o, A = some ⟨b, o, none⟩ ∧ b < w.heap.size ∧
    ∀ i (h : i < Z.length), w.cell? ⟨b, o + i * 2, none⟩ = some Z[i].sl ∧ w.cell? ⟨b, o + i * 2 + 1, none⟩ = some Z[i].nv)
theorem PRd.len {w : World} {A : Option Addr} {n c : Nat} {Z : List Pt} (h : PRd w A n c Z) : n = Z.length := h.1
theorem PRd.le {w : World} {A : Option Addr} {n c : Nat} {Z : List Pt} (h : PRd w A n c Z) : n ≤ c := h.2.1
theorem PRd.max {w : World} {A : Option Addr} {n c : Nat} {Z : List Pt} (h : PRd w A n c Z) : c ≤ 9223372036854775807 := h.2.2.1
theorem PRd.in_ {w : World} {A : Option Addr} {n c : Nat} {Z : List Pt} (h : PRd w A n c Z) : PIn w Z := h.2.2.2.1
theorem PRd.nil (w : World) : PRd w none 0 0 [] := ⟨rfl, Nat.le_refl _, by decide, fun _ h => (List.not_mem_nil h).elim, .inl rfl⟩
theorem PRd.below {w w' : World} {A : Option Addr} {n c : Nat} {Z : List Pt} (h : PRd w A n c Z) (hb : Below w.heap.size w w') : PRd w' A n c Z := by
  refine ⟨h.1, h.2.1, h.2.2.1, h.in_.below hb, h.2.2.2.2.imp id ?_⟩
  rintro ⟨b, o, rfl, hlt, hc⟩
  refine ⟨b, o, rfl, Nat.lt_of_lt_of_le hlt hb.size, fun i hi => ?_⟩
  obtain ⟨h1, h2⟩ := hc i hi
  exact ⟨(hb.cell (p := ⟨b, o + i * 2, none⟩) hlt).trans h1, (hb.cell (p := ⟨b, o + i * 2 + 1, none⟩) hlt).trans h2⟩
theorem PRd.open_ {w : World} {A : Option Addr} {n c : Nat} {Z : List Pt} (h : PRd w A n c Z) (hn : 0 < n) : ∃ b o, A = some ⟨b, o, none⟩ ∧ b < w.heap.size ∧
    ∀ i (h : i < Z.length), w.cell? ⟨b, o + i * 2, none⟩ = some Z[i].sl ∧ w.cell? ⟨b, o + i * 2 + 1, none⟩ = some Z[i].nv := by
  rcases h.2.2.2.2 with e | h
  · rw [h.1, e] at hn; simp at hn
  · exact h

/-- A slice's type S and its parts' type T. -/
structure PTy (S T : TypeId) : Prop where
  u : Tryd.prog.underlying S = some (.slice T)
  i : (Tryd.prog.info? T).map (fun i => (i.zero, i.size, i.bytes)) = some (some (.agg #[.slice none 0 0, .int .i64 0]), 2, 32)
theorem ptyP : PTy 24 40 := ⟨Tryd.underlying24, by kernel_rfl⟩
theorem ptyR : PTy 28 47 := ⟨Tryd.underlying28, by kernel_rfl⟩

/-- The slice value v owns the parts Z, in blocks from B on. -/
def POw (T : TypeId) (w : World) (B : Nat) (v : Value) (Z : List Pt) : Prop :=
  w.ownsRow B T 2 v Z.length (pvals Z) ∧ ∀ z ∈ Z, ISl w z.A z.n z.c z.xs ∧ ApO z.A z.xs v.ownBlock
theorem POw.nil (T : TypeId) (w : World) (B : Nat) : POw T w B (.slice none 0 0) [] := ⟨World.ownsRow_nil _ _ _ _, fun _ h => (List.not_mem_nil h).elim⟩
theorem ownsRow_belowP {w w' : World} {B n : Nat} {T : TypeId} {k : Nat} {v : Value} {xs : List Value} (h : w.ownsRow B T k v n xs) (hb : Below w.heap.size w w') : w'.ownsRow B T k v n xs := by
  obtain ⟨hl, h2⟩ := h
  refine ⟨hl, ?_⟩
  rcases h2 with h2 | ⟨g, cap, cur, e, h3, hh, h4⟩
  · exact .inl h2
  · exact .inr ⟨g, cap, cur, e, h3, (hb.block g (Array.getElem?_eq_some_iff.1 hh).1).trans hh, h4⟩
theorem POw.below {T : TypeId} {w w' : World} {B : Nat} {v : Value} {Z : List Pt} (h : POw T w B v Z) (hb : Below w.heap.size w w') : POw T w' B v Z :=
  ⟨ownsRow_belowP h.1 hb, fun z hz => ⟨(h.2 z hz).1.below hb, (h.2 z hz).2⟩⟩
theorem POw.in_ {T : TypeId} {w : World} {B : Nat} {v : Value} {Z : List Pt} (h : POw T w B v Z) : PIn w Z := fun z hz => (h.2 z hz).1
theorem POw.lt {T : TypeId} {w : World} {B : Nat} {v : Value} {Z : List Pt} (h : POw T w B v Z) : ∀ k, v.ownBlock = some k → B ≤ k := fun k hk => (h.1.lt k hk).1
/-- Laid open: it can be read, and where it lies. -/
theorem POw.rd {T : TypeId} {w : World} {B : Nat} {v : Value} {Z : List Pt} (h : POw T w B v Z) : ∃ A c, v = .slice A Z.length c ∧ PRd w A Z.length c Z ∧ (∀ b o s, A = some ⟨b, o, s⟩ → B ≤ b) ∧
    (Z = [] ∨ ∃ b, A = some ⟨b, 0, none⟩ ∧ b < w.heap.size ∧ (∀ i, w.frozen? ⟨b, i, none⟩ = false) ∧ ∀ i, i < Z.length * 2 → w.cell? ⟨b, i, none⟩ = (pvals Z)[i]?) := by
  have hin := h.in_
  obtain ⟨⟨hl, h2⟩, hf⟩ := h
  rcases h2 with ⟨rfl, h0⟩ | ⟨g, cap, cur, rfl, hb, hh, hn, hc, hs, ht⟩
  · have hZ : Z = [] := List.eq_nil_of_length_eq_zero h0
    subst hZ
    exact ⟨none, 0, rfl, PRd.nil w, fun b o s e => (by cases e), .inl rfl⟩
  · have hlt : g < w.heap.size := (Array.getElem?_eq_some_iff.1 hh).1
    have hcell : ∀ j, j < Z.length * 2 → w.cell? ⟨g, j, none⟩ = (pvals Z)[j]? := fun j hj => by
      rw [cell_of_row w g j cur _ (0, 0) hh, ← Array.getElem?_toList, ← ht, List.getElem?_take_of_lt hj]
    refine ⟨some ⟨g, 0, none⟩, cap, rfl, ⟨rfl, hn, by unfold maxLen at hc; omega, hin, .inr ⟨g, 0, rfl, hlt, fun i hi => ?_⟩⟩, fun b o s e => ?_, .inr ⟨g, rfl, hlt, fun i => by simp [World.frozen?, hh], hcell⟩⟩
    · obtain ⟨k1, k2⟩ := pvals_at Z i hi
      exact ⟨by rw [Nat.zero_add, hcell _ (by omega), k1], by rw [Nat.zero_add, hcell _ (by omega), k2]⟩
    · simp only [Option.some.injEq, Addr.mk.injEq] at e
      omega

/-- It lies in another block than that row. -/
def ApB (A : Option Addr) (row : Option Nat) : Prop := ∀ b o s, A = some ⟨b, o, s⟩ → some b ≠ row
theorem keep_prd {w w' : World} {row row' : Option Nat} (hg : w.grownBy w' row) (h5 : row' = row ∨ row' = some w.heap.size) {A : Option Addr} {n c : Nat} {Z : List Pt} (h : PRd w A n c Z) (ha : ∀ z ∈ Z, ApO z.A z.xs row) (hb : ApB A row) :
    PRd w' A n c Z ∧ (∀ z ∈ Z, ApO z.A z.xs row') ∧ (Z = [] ∨ ApB A row') := by
  refine ⟨⟨h.1, h.2.1, h.2.2.1, fun z hz => (h.in_ z hz).grownO hg (ha z hz), h.2.2.2.2.imp id ?_⟩, fun z hz => (h.in_ z hz).apO (ha z hz) h5, ?_⟩
  · rintro ⟨b, o, rfl, hlt, hc⟩
    refine ⟨b, o, rfl, Nat.lt_of_lt_of_le hlt hg.size, fun i hi => ?_⟩
    obtain ⟨h1, h2⟩ := hc i hi
    exact ⟨(World.cell?_of_block (w := w) (hg.block b hlt (hb b o none rfl))).trans h1, (World.cell?_of_block (w := w) (hg.block b hlt (hb b o none rfl))).trans h2⟩
  · rcases h.2.2.2.2 with e | ⟨b, o, rfl, hlt, _⟩
    · exact .inl e
    · right
      rcases h5 with rfl | rfl
      · exact hb
      · intro b' o' s' e e2
        simp only [Option.some.injEq, Addr.mk.injEq] at e
        simp only [Option.some.injEq] at e2
        omega
/-- What lies apart from the row stays, and stays apart. -/
structure Keep (w : World) (v : Value) (w' : World) (v' : Value) : Prop where
  isl : ∀ A n c xs, ISl w A n c xs → ApO A xs v.ownBlock → ISl w' A n c xs ∧ ApO A xs v'.ownBlock
  prd : ∀ A n c Z, PRd w A n c Z → (∀ z ∈ Z, ApO z.A z.xs v.ownBlock) → ApB A v.ownBlock → PRd w' A n c Z ∧ (∀ z ∈ Z, ApO z.A z.xs v'.ownBlock) ∧ (Z = [] ∨ ApB A v'.ownBlock)
theorem prun_app {S T : TypeId} (ht : PTy S T) (w : World) (ty : TypeId) (B : Nat) (v : Value) (Z : List Pt) (hown : POw T w B v Z) (g c : Nat) (z : Pt) (h0 : w.cell? ⟨g, 0, none⟩ = some z.sl) (h1 : w.cell? ⟨g, 1, none⟩ = some z.nv)
    (hL : ISl w z.A z.n z.c z.xs) (ha : ApO z.A z.xs v.ownBlock) (hmax : Z.length ≤ 1000000) (hB : B ≤ w.heap.size) :
    ∃ v' w', (Builtin.append_ #[S, S] ty #[v, .slice (some ⟨g, 0, none⟩) 1 c]).run Tryd.prog w = .ok v' w' ∧ POw T w' B v' (Z ++ [z]) ∧ Below B w w' ∧ Keep w v w' v' := by
  obtain ⟨i0, hi, hz0, hz1, hz2⟩ := info_parts ht.i
  have hcells : ∀ j u, (z.enc)[j]? = some u → w.cell? ((⟨g, 0, none⟩ : Addr).add j) = some u := by
    intro j u hj
    rw [iadd_add ⟨g, 0, none⟩ j g 0 rfl, Nat.zero_add]
    match j, hj with
    | 0, hj => simp only [Pt.enc, List.getElem?_cons_zero] at hj; rw [h0, hj]
    | 1, hj => simp only [Pt.enc, List.getElem?_cons_succ, List.getElem?_cons_zero] at hj; rw [h1, hj]
    | k + 2, hj => simp [Pt.enc] at hj
  obtain ⟨v', w', hrun, h2, h3, _, h5⟩ := run_append_own_at (P := Tryd.prog) w B S ty T i0 _ 2 32 ht.u hi hz0 hz1 hz2 rfl (by decide) v Z.length (pvals Z) hown.1 ⟨g, 0, none⟩ 1 c z.enc
    rfl hcells (by intro u hu; simp only [Pt.enc, List.mem_cons, List.not_mem_nil, or_false] at hu; rcases hu with rfl | rfl <;> rfl) (by unfold maxLen; omega) (by omega) hB
  have hbl : Below B w w' := (Below.refl B w).grown h3 hB hown.lt
  refine ⟨v', w', hrun, ⟨?_, fun y hy => ?_⟩, hbl, ⟨fun A n c xs k1 k2 => ⟨k1.grownO h3 k2, k1.apO k2 h5⟩, fun A n c Z k1 k2 k3 => keep_prd h3 h5 k1 k2 k3⟩⟩
  · rw [List.length_append, pvals_append]
    exact h2
  · rcases List.mem_append.1 hy with hy | hy
    · obtain ⟨k1, k2⟩ := hown.2 y hy
      exact ⟨k1.grownO h3 k2, k1.apO k2 h5⟩
    · rw [List.mem_singleton.1 hy]
      exact ⟨hL.grownO h3 ha, hL.apO ha h5⟩
theorem pwp_app {S T : TypeId} (ht : PTy S T) {o : Oper} {a : Act} {K : Act → World → Prop} {Q : Exit → Act → World → Prop} (w : World) (s x : Operand) (ho : o.op = .call { callee := .builtin .append, args := #[s, x], argTypes := #[S, S] })
    (B : Nat) (v : Value) (Z : List Pt) (hs : a.eval s = v) (hown : POw T w B v Z) (g c : Nat) (hx : a.eval x = .slice (some ⟨g, 0, none⟩) 1 c) (z : Pt) (h0 : w.cell? ⟨g, 0, none⟩ = some z.sl) (h1 : w.cell? ⟨g, 1, none⟩ = some z.nv)
    (hL : ISl w z.A z.n z.c z.xs) (ha : ApO z.A z.xs v.ownBlock) (hmax : Z.length ≤ 1000000) (hB : B ≤ w.heap.size)
    (h : ∀ v' w', POw T w' B v' (Z ++ [z]) → Below B w w' → Keep w v w' v' → K (a.put o.dst v') w') : o.wp Tryd.prog a w K Q := by
  obtain ⟨v', w', hrun, h2, h3, h4⟩ := prun_app ht w o.type B v Z hown g c z h0 h1 hL ha hmax hB
  unfold Oper.wp execOp
  simp only [ho, resolve, invoke, builtin, Sem.run_bind, Sem.run_pure, Result.andThen_ok, List.map_toArray, List.map_cons, List.map_nil, hs, hx, hrun]
  exact h v' w' h2 h3 h4
/-- One part more. -/
theorem pwpList_app {S T : TypeId} (ht : PTy S T) {ops : Array Oper} {rest : List Oper} {o : Oper} {a : Act} {Q : Exit → Act → World → Prop} (w : World) (hgd : o.guard = none) (s x : Operand) (ho : o.op = .call { callee := .builtin .append, args := #[s, x], argTypes := #[S, S] })
    (B : Nat) (v : Value) (Z : List Pt) (hs : a.eval s = v) (hown : POw T w B v Z) (g c : Nat) (hx : a.eval x = .slice (some ⟨g, 0, none⟩) 1 c) (z : Pt) (h0 : w.cell? ⟨g, 0, none⟩ = some z.sl) (h1 : w.cell? ⟨g, 1, none⟩ = some z.nv)
    (hL : ISl w z.A z.n z.c z.xs) (ha : ApO z.A z.xs v.ownBlock) (hmax : Z.length ≤ 1000000) (hB : B ≤ w.heap.size)
    (h : ∀ v' w', POw T w' B v' (Z ++ [z]) → Below B w w' → Keep w v w' v' → wpList Tryd.prog ops Q rest (a.put o.dst v') w') : wpList Tryd.prog ops Q (o :: rest) a w :=
  wpList_plain hgd fun _ hK => pwp_app ht w s x ho B v Z hs hown g c hx z h0 h1 hL ha hmax hB fun v' w' h2 h3 h4 => hK _ _ (h v' w' h2 h3 h4)
theorem pstep_app {S T : TypeId} (ht : PTy S T) {ops : Array Oper} {o : Oper} {a : Act} {K : Act → World → Prop} {Q : Exit → Act → World → Prop} {E : Prop} (w : World) (hgd : o.guard = none) (s x : Operand) (ho : o.op = .call { callee := .builtin .append, args := #[s, x], argTypes := #[S, S] })
    (B : Nat) (v : Value) (Z : List Pt) (hs : a.eval s = v) (hown : POw T w B v Z) (g c : Nat) (hx : a.eval x = .slice (some ⟨g, 0, none⟩) 1 c) (z : Pt) (h0 : w.cell? ⟨g, 0, none⟩ = some z.sl) (h1 : w.cell? ⟨g, 1, none⟩ = some z.nv)
    (hL : ISl w z.A z.n z.c z.xs) (ha : ApO z.A z.xs v.ownBlock) (hmax : Z.length ≤ 1000000) (hB : B ≤ w.heap.size)
    (h : ∀ v' w', POw T w' B v' (Z ++ [z]) → Below B w w' → Keep w v w' v' → K (a.put o.dst v') w') : if Region.wanted o (yielded ops a.tmps) = true then Oper.wp Tryd.prog o a w K Q else E := by
  have hw : Region.wanted o (yielded ops a.tmps) = true := by simp [Region.wanted, hgd]
  rw [if_pos hw]
  exact pwp_app ht w s x ho B v Z hs hown g c hx z h0 h1 hL ha hmax hB h
/-- What is read alone lies apart from a row that is owned from B on, if it lies below B. -/
theorem POw.apart {T : TypeId} {w : World} {B : Nat} {v : Value} {Z : List Pt} (h : POw T w B v Z) {A : Option Addr} {fs : List Int} (hA : ∀ b o s, A = some ⟨b, o, s⟩ → w.heap.size ≤ b ∨ b < B) : ApO A fs v.ownBlock := by
  refine .inr fun b o s e e2 => ?_
  have h1 := h.1.lt b e2.symm
  have h2 := hA b o s e
  omega
theorem bel_al (w : World) (o : Obj) : Below w.heap.size w (w.alloc o) := (Below.refl _ _).alloc (Nat.le_refl _) _
theorem POw.alloc {T : TypeId} {w : World} {B : Nat} {v : Value} {Z : List Pt} (h : POw T w B v Z) (o : Obj) : POw T (w.alloc o) B v Z := h.below (bel_al w o)
theorem isl_alloc {w : World} {A : Option Addr} {n c : Nat} {xs : List Int} (h : ISl w A n c xs) (o : Obj) : ISl (w.alloc o) A n c xs := h.below (bel_al w o)
theorem two_cell0 (w : World) (a b : Value) (T : TypeId) : (w.alloc (.cells #[a, b] T)).cell? ⟨w.heap.size, 0, none⟩ = some a := by simp
theorem two_cell1 (w : World) (a b : Value) (T : TypeId) : (w.alloc (.cells #[a, b] T)).cell? ⟨w.heap.size, 1, none⟩ = some b := by simp
/-- One more part, just built: its cells in a new block. -/
theorem pwpList_new {S T : TypeId} (ht : PTy S T) {ops : Array Oper} {rest : List Oper} {o : Oper} {a : Act} {Q : Exit → Act → World → Prop} (w : World) (g : Nat) (hg : g = w.heap.size) (T' : TypeId) (z : Pt) (hgd : o.guard = none) (s x : Operand) (ho : o.op = .call { callee := .builtin .append, args := #[s, x], argTypes := #[S, S] })
    (B : Nat) (v : Value) (Z : List Pt) (hs : a.eval s = v) (hown : POw T w B v Z) (hx : a.eval x = .slice (some ⟨g, 0, none⟩) 1 1)
    (hL : ISl w z.A z.n z.c z.xs) (ha : ApO z.A z.xs v.ownBlock) (hmax : Z.length ≤ 1000000) (hB : B ≤ w.heap.size)
    (h : ∀ v' w', POw T w' B v' (Z ++ [z]) → Below B w w' → Keep w v w' v' → wpList Tryd.prog ops Q rest (a.put o.dst v') w') : wpList Tryd.prog ops Q (o :: rest) a (w.alloc (.cells #[z.sl, z.nv] T')) :=
  by
  subst hg
  exact pwpList_app ht _ hgd s x ho B v Z hs (hown.alloc _) w.heap.size 1 hx z (two_cell0 ..) (two_cell1 ..) (isl_alloc hL _) ha hmax (Nat.le_trans hB (bel_al w _).size) fun v' w' h1 h2 h3 => h v' w' h1 (((bel_al w _).mono hB).trans h2) ⟨fun A n c xs k1 k2 => h3.isl A n c xs (isl_alloc k1 _) k2, fun A n c Z k1 k2 k3 => h3.prd A n c Z (k1.below (bel_al w _)) k2 k3⟩
end Go.Proofs.YtekpifafjbkmiaaDoor

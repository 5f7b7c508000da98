/- Rows of three polynomials, as arrays in memory. -/
import Derived.Test.YtbipbpakbanacaaDoorMg8
namespace Go.Proofs.YtbipbpakbanacaaDoor
open Go.RowKit

/-- A slice's words. -/
abbrev SV := Option Addr × Nat × Nat
def sv (x : SV) : Value := .slice x.1 x.2.1 x.2.2
/-- Block g holds just a row. -/
def ABlk (w : World) (g : Nat) (X : Nat → SV) : Prop := w.heap[g]? = some (.cells #[sv (X 0), sv (X 1), sv (X 2)] 63 (0, 0))
theorem ABlk.lt {w : World} {g : Nat} {X : Nat → SV} (h : ABlk w g X) : g < w.heap.size := (Array.getElem?_eq_some_iff.1 h).1
theorem ABlk.cell {w : World} {g : Nat} {X : Nat → SV} (h : ABlk w g X) (k : Nat) (hk : k < 3) : w.cell? ⟨g, k, none⟩ = some (sv (X k)) := by
  rw [cell_of_row w g k _ _ (0, 0) h]
  match k, hk with
  | 0, _ => rfl
  | 1, _ => rfl
  | 2, _ => rfl
theorem ABlk.frozen {w : World} {g : Nat} {X : Nat → SV} (h : ABlk w g X) (k : Nat) : w.frozen? ⟨g, k, none⟩ = false := by
  simp [World.frozen?, show w.heap[g]? = _ from h]
theorem ABlk.below {w w' : World} {g : Nat} {X : Nat → SV} (h : ABlk w g X) (hb : Below w.heap.size w w') : ABlk w' g X := (hb.block g h.lt).trans h
theorem ABlk.far {w : World} {g : Nat} {X : Nat → SV} (h : ABlk w g X) {p : Addr} (hp : g ≠ p.block) (u : Value) : ABlk (w.setCell p u) g X := (Below.heap_setCell w p u g hp).trans h
theorem ABlk.new (w : World) (X : Nat → SV) : ABlk (w.alloc (.cells #[sv (X 0), sv (X 1), sv (X 2)] 63)) w.heap.size X := heap_alloc_new w _
theorem ABlk.congr {w : World} {g : Nat} {X Y : Nat → SV} (h : ABlk w g X) (e : ∀ k, k < 3 → X k = Y k) : ABlk w g Y := by
  unfold ABlk at *
  rw [h, e 0 (by omega), e 1 (by omega), e 2 (by omega)]
/-- One place told anew. -/
def putR (X : Nat → SV) (k : Nat) (y : SV) : Nat → SV := fun j => if j = k then y else X j
theorem putR_at (X : Nat → SV) (k : Nat) (y : SV) : putR X k y k = y := if_pos rfl
theorem putR_ne (X : Nat → SV) {k j : Nat} (y : SV) (h : j ≠ k) : putR X k y j = X j := if_neg h
theorem ABlk.set_ {w : World} {g : Nat} {X : Nat → SV} (h : ABlk w g X) (k : Nat) (hk : k < 3) (y : SV) : ABlk (w.setCell ⟨g, k, none⟩ (sv y)) g (putR X k y) := by
  have h1 := show w.heap[g]? = _ from h
  unfold ABlk
  match k, hk with
  | 0, _ => simp [World.setCell, Array.getElem?_modify, h1, putR]
  | 1, _ => simp [World.setCell, Array.getElem?_modify, h1, putR]
  | 2, _ => simp [World.setCell, Array.getElem?_modify, h1, putR]
/-- A slice of ints lies in no row's block. -/
theorem isl_arr {W : World} {A : Option Addr} {n c g : Nat} {xs : List Int} {X : Nat → SV} (h : ISl W A n c xs) (hb : ABlk W g X) : IApart A xs g := by
  rcases h.rd.2 with h0 | ⟨b, o, rfl, hlt, hc⟩
  · exact .inl h0
  · cases xs with
    | nil => exact .inl rfl
    | cons x xs =>
      refine .inr fun b' o' s' e => ?_
      simp only [Option.some.injEq, Addr.mk.injEq] at e
      obtain ⟨rfl, _, _⟩ := e
      intro hbg
      subst hbg
      have h1 := hc 0 (by simp)
      rw [cell_of_row W b (o + 0) _ _ (0, 0) hb] at h1
      match o with
      | 0 => simp [sv] at h1
      | 1 => simp [sv] at h1
      | 2 => simp [sv] at h1
      | o + 3 => simp at h1
/-- The polynomials of a row, each plain, no longer than N. -/
def RowP (w : World) (X : Nat → SV) (F : Nat → List Int) (p : Int) (N : Nat) : Prop := ∀ k, k < 3 → ISl w (X k).1 (X k).2.1 (X k).2.2 (F k) ∧ Pln p (F k) ∧ (X k).2.1 ≤ N
theorem RowP.below {w w' : World} {X : Nat → SV} {F : Nat → List Int} {p : Int} {N : Nat} (h : RowP w X F p N) (hb : Below w.heap.size w w') : RowP w' X F p N := fun k hk => ⟨(h k hk).1.below hb, (h k hk).2⟩
theorem RowP.mono {w : World} {X : Nat → SV} {F : Nat → List Int} {p : Int} {N M : Nat} (h : RowP w X F p N) (hn : N ≤ M) : RowP w X F p M := fun k hk => ⟨(h k hk).1, (h k hk).2.1, Nat.le_trans (h k hk).2.2 hn⟩
theorem RowP.far {w : World} {X Y : Nat → SV} {F : Nat → List Int} {p : Int} {N g : Nat} (h : RowP w X F p N) (hb : ABlk w g Y) (i : Nat) (u : Value) : RowP (w.setCell ⟨g, i, none⟩ u) X F p N := fun k hk => ⟨(h k hk).1.far (isl_arr (h k hk).1 hb) i u, (h k hk).2⟩
def putF (F : Nat → List Int) (k : Nat) (y : List Int) : Nat → List Int := fun j => if j = k then y else F j
theorem putF_at (X : Nat → List Int) (k : Nat) (y : List Int) : putF X k y k = y := if_pos rfl
theorem putF_ne (X : Nat → List Int) {k j : Nat} (y : List Int) (h : j ≠ k) : putF X k y j = X j := if_neg h
theorem RowP.put {w : World} {X : Nat → SV} {F : Nat → List Int} {p : Int} {N : Nat} (h : RowP w X F p N) (k : Nat) {C : Option Addr} {n c : Nat} {xs : List Int} (h1 : ISl w C n c xs) (h2 : Pln p xs) (h3 : n ≤ N) : RowP w (putR X k (C, n, c)) (putF F k xs) p N := by
  intro j hj
  by_cases e : j = k
  · subst e; rw [putR_at, putF_at]; exact ⟨h1, h2, h3⟩
  · rw [putR_ne _ _ e, putF_ne _ _ e]; exact h j hj
theorem RowP.one {w : World} {X : Nat → SV} {F : Nat → List Int} {p : Int} {N : Nat} (h : RowP w X F p N) (k : Nat) (hk : k < 3) {C : Option Addr} {n c : Nat} (e : X k = (C, n, c)) : ISl w C n c (F k) ∧ Pln p (F k) ∧ n ≤ N := by
  have := h k hk
  rw [e] at this
  exact this

/-- A step of Euclid's way. -/
def StepOf (p : Int) (m : Nat) (F G H : Nat → List Int) : Prop := ∃ q, Fini p q ∧ Ser.Bd p (cf (H 0)) m ∧ (rowS H).Same p ((rowS F).less q (rowS G))
theorem isDiv_rows {p : Int} {m : Nat} {a b q r : Ser} {qs rs : List Int} (hd : IsDiv p m a b q r) (hq : Pol p qs q) (hr : Pol p rs r) : IsDiv p m a b (cf qs) (cf rs) :=
  ⟨hd.1.trans (((hq.2.symm).mul (Ser.Eq.refl p b)).add hr.2.symm), hd.2.eq hr.2.symm⟩
theorem less_fst {p : Int} {N : Nat} {xs qs ys : List Int} (h1 : xs.length ≤ N) (h2 : qs.length + ys.length ≤ N) : Ser.Eq p (fst N (fun i => cf xs i - Ser.mul (cf qs) (cf ys) i)) (less (cf xs) (cf qs) (cf ys)) := by
  refine Ser.Eq.trans (fst_bd (fun i hi => ?_)) (Ser.Eq.of ?_)
  · show (cf xs i - Ser.mul (cf qs) (cf ys) i) % p = 0
    rw [cf_over (by omega), Int.sub_emod, bd_mulcf p qs ys i (by omega)]
    simp
  · funext i
    show cf xs i - Ser.mul (cf qs) (cf ys) i = cf xs i + -1 * Ser.mul (cf qs) (cf ys) i
    omega
end Go.Proofs.YtbipbpakbanacaaDoor

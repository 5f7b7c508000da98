/- What Echelon, Null and Apply are to answer, named once for the program and the document. -/
import Derived.Test.YtipdnfdeacdkgaaDoorNulM
import Derived.Test.YtipdnfdeacdkgaaDoorLinMat
import Derived.Test.YtipdnfdeacdkgaaDoorRst
namespace Go.Proofs.YtipdnfdeacdkgaaDoor
open Go.RowKit

/-- The columns of a matrix. -/
def cols (M : List (List Int)) : Nat := (M.getD 0 []).length
/-- The plain rows of a matrix, with their places. -/
def EchOf (p : Int) (nc : Nat) (M : List (List Int)) (P : List (Nat × List Int)) : Prop := EchP p nc P ∧ (∀ r ∈ rowsOf P, Sp p M (cf r)) ∧ (∀ r ∈ M, Sp p (rowsOf P) (cf r))
theorem EchOf.uniq {p : Int} {nc : Nat} (hp : 2 ≤ p) {M : List (List Int)} {P Q : List (Nat × List Int)} (h : EchOf p nc M P) (k : EchOf p nc M Q) : P = Q :=
  h.1.uniq hp k.1 (fun r hr => (h.2.1 r hr).sub k.2.2) (fun r hr => (k.2.1 r hr).sub h.2.2)
noncomputable def echP (p : Int) (nc : Nat) (M : List (List Int)) : List (Nat × List Int) := @dite _ (∃ P, EchOf p nc M P) (Classical.propDecidable _) (fun h => Classical.choose h) (fun _ => [])
theorem echP_eq {p : Int} {nc : Nat} (hp : 2 ≤ p) {M : List (List Int)} {P : List (Nat × List Int)} (h : EchOf p nc M P) : echP p nc M = P := by
  unfold echP
  rw [dif_pos ⟨P, h⟩]
  exact (Classical.choose_spec (⟨P, h⟩ : ∃ P, EchOf p nc M P)).uniq hp h
theorem IsEch.of {p : Int} {nc : Nat} {M E : List (List Int)} (h : IsEch p nc M E) : ∃ P, EchOf p nc M P ∧ E = rowsOf P := by
  obtain ⟨P, rfl, h1, h2, h3⟩ := h
  exact ⟨P, ⟨h1, h2, h3⟩, rfl⟩
def codeB (b : Bool) : Int := if b then 0 else 1
noncomputable def propB (q : Prop) : Bool := @decide q (Classical.propDecidable _)
theorem propB_yes {q : Prop} (h : q) : propB q = true := @decide_eq_true _ (Classical.propDecidable _) h
theorem propB_no {q : Prop} (h : ¬ q) : propB q = false := @decide_eq_false _ (Classical.propDecidable _) h
noncomputable def ansB {α : Type} (q : Prop) (x d : α) : α := @ite _ q (Classical.propDecidable _) x d
theorem ansB_yes {α : Type} {q : Prop} (h : q) (x d : α) : ansB q x d = x := @if_pos _ (Classical.propDecidable _) h _ _ _
theorem ansB_no {α : Type} {q : Prop} (h : ¬ q) (x d : α) : ansB q x d = d := @if_neg _ (Classical.propDecidable _) h _ _ _
/-- The code of an answer. -/
noncomputable def codeP (q : Prop) : Int := codeB (propB q)
theorem codeP_yes {q : Prop} (h : q) : codeP q = 0 := by unfold codeP; rw [propB_yes h]; rfl
theorem codeP_no {q : Prop} (h : ¬ q) : codeP q = 1 := by unfold codeP; rw [propB_no h]; rfl

noncomputable def echV (p : Int) (M : List (List Int)) : List (List Int) := ansB (Right p M) (rowsOf (echP p (cols M) M)) []
def NulOk (p : Int) (M : List (List Int)) (n : Int) : Prop := Right p M ∧ 0 ≤ n ∧ n ≤ 64 ∧ (0 < M.length → (cols M : Int) = n)
noncomputable def nulV' (p : Int) (M : List (List Int)) (n : Int) : List (List Int) := ansB (NulOk p M n) (nulL p n.toNat (echP p n.toNat M) n.toNat) []
def AppOk (p : Int) (M : List (List Int)) (v : List Int) : Prop := Right p M ∧ (0 < M.length → cols M = v.length)
noncomputable def appV (p : Int) (M : List (List Int)) (v : List Int) : List Int := ansB (AppOk p M v) (appL p M v v.length) []
theorem Right.len {p : Int} {M : List (List Int)} (h : Right p M) {i : Nat} (hi : i < M.length) : (M.getD i []).length = cols M := (h.2.2 i hi).2
theorem Right.cols {p : Int} {M : List (List Int)} (h : Right p M) : cols M ≤ 64 := by
  unfold Go.Proofs.YtipdnfdeacdkgaaDoor.cols
  by_cases hM : 0 < M.length
  · exact (h.2.2 0 hM).1
  · have : M = [] := List.eq_nil_of_length_eq_zero (by omega)
    subst this; simp
/-- What a call that answers rows and a code is to leave. -/
def RowsOut (w : World) (V : List (List Int)) (e : Int) (x : Ending) (w' : World) : Prop := ∃ A m c, x = .returned (.tuple #[.slice A m c, .int .i64 e]) ∧ MatAt w' A m c V ∧ Below w.heap.size w w'
/-- What a call that answers residues and a code is to leave. -/
def ListOut (w : World) (L : List Int) (e : Int) (x : Ending) (w' : World) : Prop := ∃ A m c, x = .returned (.tuple #[.slice A m c, .int .i64 e]) ∧ ISl w' A m c L ∧ Below w.heap.size w w'
theorem mat_nil (w : World) : MatAt w none 0 0 [] := ⟨[], ⟨rfl, Nat.le_refl _, by decide, fun _ => rfl, VRd.nil _ _⟩, rfl, fun i hi => absurd hi (Nat.not_lt_zero _)⟩
theorem isl_nil (w : World) : ISl w none 0 0 [] := ⟨rfl, Nat.le_refl _, by decide, fun _ => rfl, IRd.nil _ _⟩
end Go.Proofs.YtipdnfdeacdkgaaDoor

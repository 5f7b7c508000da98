/- An argument that is a matrix, or a slice of ints, opened: it reads as rows of ints. -/
import Derived.Test.YtipdnfdeacdkgaaDoorLinMat
import Derived.Test.YtipdnfdeacdkgaaDoorLstOpen
import Derived.Deep.Matrix
namespace Go.Proofs.YtipdnfdeacdkgaaDoor
open Go.ChangeShapes Go.WideShapes Go.ChangeAt Go.RowKit

theorem cellsV : Tryd.prog.cellsOf 31 = 1 := by kernel_rfl
theorem wf64 {n : Int} (h : (Lit.int .i64 n).wf = true) : In64 n := by
  have h2 : IntKind.i64.min = -9223372036854775808 := rfl
  have h3 : IntKind.i64.max = 9223372036854775807 := rfl
  simp only [Lit.wf, Bool.and_eq_true, decide_eq_true_eq] at h
  unfold In64; omega
theorem mat_open {H : Type} {enc : TypeId × Value → H} {W : World} {a : Option Addr} {len cap : Nat} {d : DataW H} {p : List MemPlace}
    (h : DataW.Trod enc Tryd.prog W 0 (fun _ => true) true 22 (.slice a len cap) d p) : ∃ M, MatAt W a len cap M := by
  obtain ⟨fuel, hf⟩ := h
  rcases Deep.open_int_rows Tryd.underlying22 Tryd.underlying31 Tryd.underlying3 cellsV cellsI hf with ⟨hcs, _⟩ | ⟨x, l, c, A, L, C, Z, hcs, _, hl, hm, _, hrow⟩
  · simp [Value.cells] at hcs
    obtain ⟨rfl, rfl, rfl⟩ := hcs
    exact ⟨[], [], ⟨rfl, Nat.le_refl _, by decide, fun _ => rfl, VRd.nil _ _⟩, rfl, fun i hi => absurd hi (Nat.not_lt_zero _)⟩
  · simp [Value.cells] at hcs
    obtain ⟨rfl, rfl, rfl⟩ := hcs
    have hcm : cap ≤ 9223372036854775807 := by unfold maxLen at hm; omega
    refine ⟨(List.range len).map fun r => (Z r).take (L r), (List.range len).map fun r => .slice (A r) (L r) (C r), ⟨by simp, hl, hcm, (fun e => by cases e), ?_, ?_⟩, by simp, fun i hi => ?_⟩
    · intro v hv
      obtain ⟨r, _, rfl⟩ := List.mem_map.1 hv
      exact ⟨_, _, _, rfl⟩
    · by_cases h0 : len = 0
      · left; rw [h0]; rfl
      · right
        obtain ⟨b, off, spot⟩ := x
        have hc := (hrow 0 (by omega)).1
        have hspot : spot = none := by simpa [Addr.add] using World.cell?_spot hc
        subst hspot
        refine ⟨b, off, rfl, World.block_lt_of_cell? W _ (by simpa [Addr.add] using hc), fun k hk => ?_⟩
        rw [List.length_map, List.length_range] at hk
        have h1 := (hrow k (by omega)).1
        rw [iadd_add _ k b off rfl] at h1
        rw [h1]
        simp
    · obtain ⟨_, h2, h3, h4, h5, h6, h7⟩ := hrow i (by omega)
      have hzl : ((Z i).take (L i)).length = L i := by rw [List.length_take]; omega
      have e1 : ((List.range len).map fun r => (.slice (A r) (L r) (C r) : Value)).getD i nilv = .slice (A i) (L i) (C i) := by
        rw [List.getD_eq_getElem?_getD, List.getElem?_map, List.getElem?_range hi]; rfl
      have e2 : ((List.range len).map fun r => (Z r).take (L r)).getD i [] = (Z i).take (L i) := by
        rw [List.getD_eq_getElem?_getD, List.getElem?_map, List.getElem?_range hi]; rfl
      refine ⟨A i, L i, C i, e1, ?_⟩
      rw [e2]
      refine ⟨hzl.symm, h2, by unfold maxLen at h3; omega, h6, fun y hy => wf64 (h5 y (List.mem_of_mem_take hy)), ?_⟩
      by_cases h0 : L i = 0
      · left
        apply List.eq_nil_of_length_eq_zero
        rw [hzl, h0]
      · right
        cases hA : A i with
        | none => exact absurd (h6 hA) (by omega)
        | some a' =>
          obtain ⟨_, hcell⟩ := h7 a' hA
          obtain ⟨b, off, spot⟩ := a'
          have hc := hcell 0 (by omega)
          have hspot : spot = none := by simpa [Addr.add] using World.cell?_spot hc
          subst hspot
          refine ⟨b, off, rfl, World.block_lt_of_cell? W _ (by simpa [Addr.add] using hc), fun k hk => ?_⟩
          rw [hzl] at hk
          have h1 := hcell k (by omega)
          rw [iadd_add _ k b off rfl] at h1
          rw [h1]
          have e : (Z i).getD k 0 = (Z i)[k]'(by omega) := by rw [List.getD_eq_getElem?_getD, List.getElem?_eq_getElem (by omega)]; rfl
          rw [e]
          simp only [List.getElem_take]
end Go.Proofs.YtipdnfdeacdkgaaDoor

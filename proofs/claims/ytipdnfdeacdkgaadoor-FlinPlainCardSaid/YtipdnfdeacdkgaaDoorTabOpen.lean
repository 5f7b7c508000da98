/- From the row's condition on the table of small primes to the words that the walks use. -/
import Derived.Test.YtipdnfdeacdkgaaDoorPrimeTab
import Derived.Test.YtipdnfdeacdkgaaDoorRows
import Derived.Lib.LaidTab
import Derived.MakeChecks
namespace Go.Proofs.YtipdnfdeacdkgaaDoor
open Go.RowKit

theorem tab_is : (Rows.laid_cleaver_prime_divisors : DataW Unit) = Lib.tabData .u8 (tblL.map fun n : Nat => (n : Int)) := rfl
theorem tab_of_laid {W : World} (h : laidMetH Tryd.prog [("cleaver/prime.divisors", Rows.laid_cleaver_prime_divisors)] W) : TabAt W := by
  rw [MakeChecks.laidMetH_plain _ _ _ (by kernel_rfl), tab_is] at h
  have hg : Tryd.prog.globalNamed "cleaver/prime.divisors" = some 0 := by kernel_rfl
  have hT := Lib.tabIs_of_head hg (t := 67) (e := 5) (n := 54) (by kernel_rfl) (by kernel_rfl) (by kernel_rfl) (by kernel_rfl) (by kernel_rfl) h
  have hc : ∀ i, i < 54 → W.cell? ⟨0, i, none⟩ = some (.int .u8 (tbl i : Int)) := fun i hi => by
    rw [hT.cell hg i (by simpa [tblL] using hi)]
    unfold tbl
    rw [List.getD_eq_getElem?_getD, List.getD_eq_getElem?_getD, List.getElem?_map]
    cases tblL[i]? <;> rfl
  refine ⟨?_, hc⟩
  have h0 := hc 0 (by decide)
  refine Classical.byContradiction fun hn => ?_
  simp only [World.cell?] at h0
  rw [Array.getElem?_eq_none (by omega)] at h0
  simp at h0
end Go.Proofs.YtipdnfdeacdkgaaDoor

/- The table of small primes that prime.Is goes through: what it holds, and what a number is that none of them divides. -/
import Derived.Test.YtipdnfdeacdkgaaDoorFpMath
import Derived.Below
import Derived.Lib.Hide
namespace Go.Proofs.YtipdnfdeacdkgaaDoor
open Go.RowKit

def tblL : List Nat := [2, 3, 5, 7, 11, 13, 17, 19, 23, 29, 31, 37, 41, 43, 47, 53, 59, 61, 67, 71, 73, 79, 83, 89, 97, 101, 103, 107, 109, 113, 127, 131, 137, 139, 149, 151, 157, 163, 167, 173, 179, 181, 191, 193, 197, 199, 211, 223, 227, 229, 233, 239, 241, 251]
def tbl (i : Nat) : Nat := tblL.getD i 0
theorem tbl_cover : (List.range 256).all (fun e => decide (e < 2) || (List.range 54).any (fun j => e % tbl j == 0 && decide (tbl j ≤ e))) = true := by decide +kernel
theorem tbl_sort : (List.range 54).all (fun i => decide (2 ≤ tbl i) && decide (tbl i ≤ 251) && (List.range i).all (fun j => decide (tbl j < tbl i))) = true := by decide +kernel
theorem tbl_bd {i : Nat} (h : i < 54) : 2 ≤ tbl i ∧ tbl i ≤ 251 := by
  have := List.all_eq_true.1 tbl_sort i (List.mem_range.2 h)
  simp only [Bool.and_eq_true, decide_eq_true_eq] at this
  exact this.1
theorem tbl_lt {i j : Nat} (h : i < 54) (hj : j < i) : tbl j < tbl i := by
  have := List.all_eq_true.1 tbl_sort i (List.mem_range.2 h)
  simp only [Bool.and_eq_true, decide_eq_true_eq] at this
  have := List.all_eq_true.1 this.2 j (List.mem_range.2 hj)
  simpa using this
theorem tbl_div {e : Nat} (h2 : 2 ≤ e) (h9 : e < 256) : ∃ j, j < 54 ∧ tbl j ∣ e ∧ tbl j ≤ e := by
  have := List.all_eq_true.1 tbl_cover e (List.mem_range.2 h9)
  simp only [Bool.or_eq_true, decide_eq_true_eq, List.any_eq_true, List.mem_range, Bool.and_eq_true, beq_iff_eq] at this
  rcases this with h | ⟨j, hj, hd, hle⟩
  · omega
  · exact ⟨j, hj, Nat.dvd_of_mod_eq_zero hd, hle⟩
/-- None of the first i divides m, and the square of the next one is above m: so m is a prime. -/
theorem tbl_yes {m i : Nat} (hm2 : 2 ≤ m) (hm9 : m ≤ 65521) (hi : i ≤ 54) (hsq : i < 54 → m < tbl i * tbl i) (hall : ∀ j, j < i → ¬ tbl j ∣ m) : Pr (m : Int) := by
  obtain ⟨d, hd, hd9, hdd⟩ : ∃ d, m < d * d ∧ d ≤ 256 ∧ ∀ j, j < 54 → tbl j < d → j < i := by
    rcases Nat.lt_or_ge i 54 with h | h
    · refine ⟨tbl i, hsq h, by have := tbl_bd h; omega, fun j hj hlt => ?_⟩
      rcases Nat.lt_or_ge j i with k | k
      · exact k
      · rcases Nat.lt_or_ge i j with k2 | k2
        · have := tbl_lt hj k2; omega
        · have : i = j := by omega
          rw [this] at hlt; omega
    · exact ⟨256, by omega, Nat.le_refl _, fun j hj _ => by omega⟩
  refine pr_trial hm2 hm9 d hd (fun e h2 h3 h4 => ?_)
  obtain ⟨j, hj, k1, k2⟩ := tbl_div h2 (by omega)
  exact hall j (hdd j hj (by omega)) (Nat.dvd_trans k1 h4)
theorem tbl_no {m i : Nat} (hi : i < 54) (hle : tbl i * tbl i ≤ m) (hd : m % tbl i = 0) : ¬ Pr (m : Int) := pr_not (tbl_bd hi).1 hle hd

/-- The program's table, as it lies. -/
def TabAt (w : World) : Prop := 0 < w.heap.size ∧ ∀ i, i < 54 → w.cell? ⟨0, i, none⟩ = some (.int .u8 (tbl i : Int))
theorem TabAt.below {w w' : World} (h : TabAt w) (hb : Below w.heap.size w w') : TabAt w' :=
  ⟨Nat.lt_of_lt_of_le h.1 hb.size, fun i hi => (hb.cell (p := ⟨0, i, none⟩) h.1).trans (h.2 i hi)⟩
end Go.Proofs.YtipdnfdeacdkgaaDoor

/- fp's calls but Inv and Div, by their contracts. -/
import Derived.Test.YtipdnfdeacdkgaaDoorPrgIs
import Derived.Test.YtipdnfdeacdkgaaDoorRefFp
import Derived.WalkMore
import Derived.Deep.QuietTactic
import Derived.BigQuiet
import Derived.Below
import Derived.Test.YtipdnfdeacdkgaaDoorAndOnes
namespace Go.Proofs.YtipdnfdeacdkgaaDoor
open Go.RowKit

theorem pbelow_drewN (w : World) (n : Nat) : Below w.heap.size w (w.drewN n) :=
  have h := Below.refl w.heap.size w
  ⟨h.os, h.tape, h.output, h.size, h.block⟩
theorem quiet_left {P : Program} {f : FuncId} {args : Array Value} {w : World} {n : Nat} {v : Value}
    (h : Calls P f args (w.drewN n) fun e w' => e = .returned v ∧ w.drewN n = w') : Calls P f args (w.drewN n) fun e w'' => e = .returned v ∧ ∃ m, w'' = w.drewN m :=
  h.mono fun _ _ ⟨he, hm⟩ => ⟨he, n, hm.symm⟩

/-- What lies above -p and below p, plain. -/
def lft (a p : Int) : Int := if a < 0 then a + p else a
theorem lft_low {a p : Int} (h : a < 0) : lft a p = a + p := if_pos h
theorem lft_pos {a p : Int} (h : 0 ≤ a) : lft a p = a := if_neg (by omega)
theorem lft_emod {a p : Int} (h : -p < a) (h' : a < p) : lft a p = a % p := by
  rcases Int.lt_or_le a 0 with h0 | h0
  · rw [lft_low h0, ← Int.add_emod_right, Int.emod_eq_of_lt (by omega) (by omega)]
  · rw [lft_pos h0, Int.emod_eq_of_lt h0 h']

theorem pLifted_any (a p : Int) (w : World) (h0 : 0 ≤ p) (h1 : -p ≤ a) (h3 : p ≤ 9223372036854775807) :
    Calls Tryd.prog 49 #[.int .i64 a, .int .i64 p] w fun e w' => e = .returned (.int .i64 (lft a p)) ∧ w = w' := by
  rcases Int.lt_or_le a 0 with h | h
  · rw [lft_low h]
    go_enter Tryd.func49, Tryd.ntmps49
    go_wp2_with fail
    go_ret
    exact ⟨rfl, rfl⟩
  · rw [lft_pos h]
    go_enter Tryd.func49, Tryd.ntmps49
    go_wp2_with fail
    go_ret
    exact ⟨rfl, rfl⟩

theorem pRed_any (a p : Int) (w : World) (h2 : -9223372036854775808 ≤ p) (h3 : p ≤ 9223372036854775807) :
    Calls Tryd.prog 37 #[.int .i64 a, .int .i64 p] w fun e w' => e = .returned (.int .i64 (red a p)) ∧ w = w' := by
  by_cases hp : p < 1
  · have e := red_low (a := a) hp
    generalize red a p = r at *
    subst e
    go_enter Tryd.func37, Tryd.ntmps37
    go_wp2_with fail
    go_ret
    exact ⟨rfl, rfl⟩
  · have e := red_pos (a := a) (show 1 ≤ p by omega)
    have hc := tmod_cases a p (by omega)
    have hl : lft (a.tmod p) p = a % p := by
      rcases hc with ⟨c1, c2, c3⟩ | ⟨c1, c2, c3⟩
      · rw [lft_pos c1, c2]
      · rw [lft_low c1, c2]
    have L := pLifted_any (a.tmod p) p w (by omega) (by omega) h3
    rw [e]
    rw [hl] at L
    obtain ⟨t, ht⟩ : ∃ t, a.tmod p = t := ⟨_, rfl⟩
    obtain ⟨r, hr⟩ : ∃ r, a % p = r := ⟨_, rfl⟩
    rw [ht, hr] at hc
    rw [ht, hr] at L
    rw [hr]
    have LL := Lib.hid L
    clear e hr hl L
    have hc2 : -p < t ∧ t < p := by omega
    clear hc
    go_enter Tryd.func37, Tryd.ntmps37
    go_wp2_with (go_at_call 49; with_reducible refine LL.out.mono ?_; rintro e w' ⟨rfl, rfl⟩)
    go_ret
    exact ⟨rfl, rfl⟩

theorem and_lowest (j : Nat) : bits .and .i64 (j : Int) 1 = ((j % 2 : Nat) : Int) := by
  rw [and_1, Int.natCast_emod]; rfl

end Go.Proofs.YtipdnfdeacdkgaaDoor

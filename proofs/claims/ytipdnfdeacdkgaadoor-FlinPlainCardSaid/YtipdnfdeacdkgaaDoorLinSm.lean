/- cleaverref06.Same where both are the same, by its contract. -/
import Derived.Test.YtipdnfdeacdkgaaDoorLinFst
import Derived.StillTailTactics
namespace Go.Proofs.YtipdnfdeacdkgaaDoor
open Go.RowKit

set_option maxHeartbeats 1000000 in
theorem polSame (A B : Option Addr) (n c n' c' : Nat) (xs ys : List Int) (w : World) (h : ISl w A n c xs) (h' : ISl w B n' c' ys) (e : xs = ys) :
    Calls Tryd.prog 17 #[.slice A n c, .slice B n' c'] w fun e w' => e = .returned (.bool true) ∧ Below w.heap.size w w' := by
  subst e
  have hnn : n' = n := by rw [h.len, h'.len]
  subst hnn
  have hle := h.le
  have hmx := h.max
  have H := Lib.hid h
  have H' := Lib.hid h'
  clear h h'
  go_enter Tryd.func17, Tryd.ntmps17
  go_wp2
  go_loopw [5] (fun i wr => ∃ k : Nat, k ≤ n' ∧ i = .int .i64 k ∧ Below w.heap.size w wr) (fun i _ => n' - (intOf i).toNat)
  case atStart => exact ⟨0, Nat.zero_le _, rfl, Below.refl _ _⟩
  case round =>
    obtain ⟨k, hk, rfl, hb⟩ := hrel
    by_cases hlt : k < n'
    · obtain ⟨b, o, rfl, hl1, hca⟩ := H.out.cfs (by omega)
      obtain ⟨b', o', rfl, hl2, hcb⟩ := H'.out.cfs (by omega)
      have h1 := hca k hlt
      have h2 := hcb k hlt
      rw [← hb.cell (p := ⟨b, o + k, none⟩) hl1] at h1
      rw [← hb.cell (p := ⟨b', o' + k, none⟩) hl2] at h2
      generalize cf xs k = x at *
      have i1 : (0 : Int) ≤ (k : Int) := by omega
      have i2 : (k : Int) < (n' : Int) := by omega
      have HB := Lib.hid hb
      clear hca hcb hb
      go_wp2
      go_quiet (fail)
      go_wp2
      go_roundw
      case rel => exact ⟨k + 1, by omega, by go_num, ibelow_drewN HB.out _⟩
      case measure => simp [intOf]; omega
    · obtain rfl : k = n' := by omega
      go_wp2
      go_ret
      exact ⟨rfl, hb⟩

end Go.Proofs.YtipdnfdeacdkgaaDoor

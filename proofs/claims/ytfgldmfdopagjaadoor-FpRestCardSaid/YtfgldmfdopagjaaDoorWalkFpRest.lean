/- The law FpRest, walked. -/
import Derived.Test.YtfgldmfdopagjaaDoorFpCalls
import Derived.Test.YtfgldmfdopagjaaDoorAndOnes
namespace Go.Proofs.YtfgldmfdopagjaaDoor
open Go.RowKit

set_option maxHeartbeats 2000000 in
theorem walkFpRest (a p : Int) (w : World) (hT : TabAt w) (_ : (Lit.int .i64 a).wf = true) (hp : (Lit.int .i64 p).wf = true) :
    Calls Tryd.prog 7 #[.int .i64 a, .int .i64 p] w fun e w' => e = .returned (.bool true) ∧ Below w.heap.size w w' := by
  have ip : In64 p := int_wf hp
  have A0 := Lib.hid awake05
  have HT := Lib.hid hT
  clear hT
  have HB := Lib.hid (Below.refl w.heap.size w)
  have c1 := cRed a p ip
  obtain ⟨_, _⟩ := ip
  by_cases h1 : p < 1
  · rw [red_low h1] at c1
    have c1 : ∀ W : World, TabAt W → Calls Tryd.prog 15 #[.int .i64 a, .int .i64 p] W fun e w' => e = .returned (.int .i64 0) ∧ Below W.heap.size W w' := c1
    have C1 := Lib.hid c1
    clear c1
    go_enter Tryd.func7, Tryd.ntmps7
    go_wp2_with (first
      | (go_at_call 8; with_reducible refine (A0.out _ (HT.out.below HB.out)).mono ?_; rintro e w1 ⟨rfl, hb⟩; replace HB := Lib.hid (HB.out.trans (hb.mono HB.out.size)); clear hb)
      | (go_at_call 15; with_reducible refine (C1.out _ (HT.out.below HB.out)).mono ?_; rintro e w1 ⟨rfl, hb⟩; replace HB := Lib.hid (HB.out.trans (hb.mono HB.out.size)); clear hb))
    go_ret
    exact ⟨rfl, HB.out⟩
  · have hc := tmod_cases a p (by omega)
    have hr := red_pos (a := a) (p := p) (by omega)
    rw [← hr] at hc
    obtain ⟨t, ht⟩ : ∃ t, a.tmod p = t := ⟨_, rfl⟩
    rw [ht] at hc
    generalize red a p = r at *
    clear hr
    rcases hc with ⟨g1, g2, g3⟩ | ⟨g1, g2, g3⟩
    · subst g2
      have C1 := Lib.hid c1
      clear c1
      go_enter Tryd.func7, Tryd.ntmps7
      go_wp2_with (first
        | (go_at_call 8; with_reducible refine (A0.out _ (HT.out.below HB.out)).mono ?_; rintro e w1 ⟨rfl, hb⟩; replace HB := Lib.hid (HB.out.trans (hb.mono HB.out.size)); clear hb)
        | (go_at_call 15; with_reducible refine (C1.out _ (HT.out.below HB.out)).mono ?_; rintro e w1 ⟨rfl, hb⟩; replace HB := Lib.hid (HB.out.trans (hb.mono HB.out.size)); clear hb))
      go_ret
      exact ⟨rfl, HB.out⟩
    · have g4 : (t == r) = false := by simp; omega
      have g5 : (r - p == t) = true := by simp; omega
      have g6 : 0 ≤ r := by omega
      have g7 : r < p := by omega
      clear g2
      have C1 := Lib.hid c1
      clear c1
      go_enter Tryd.func7, Tryd.ntmps7
      go_wp2_with (first
        | (go_at_call 8; with_reducible refine (A0.out _ (HT.out.below HB.out)).mono ?_; rintro e w1 ⟨rfl, hb⟩; replace HB := Lib.hid (HB.out.trans (hb.mono HB.out.size)); clear hb)
        | (go_at_call 15; with_reducible refine (C1.out _ (HT.out.below HB.out)).mono ?_; rintro e w1 ⟨rfl, hb⟩; replace HB := Lib.hid (HB.out.trans (hb.mono HB.out.size)); clear hb))
      go_ret
      exact ⟨rfl, HB.out⟩
end Go.Proofs.YtfgldmfdopagjaaDoor

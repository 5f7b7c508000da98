/- Gcd and Bezout, as the laws' walks take them. -/
import Derived.Test.YtbipbpakbanacaaDoorMg8
import Derived.Test.YtbipbpakbanacaaDoorPrgBez
import Derived.Test.YtbipbpakbanacaaDoorPolDocE
namespace Go.Proofs.YtbipbpakbanacaaDoor
open Go.RowKit

theorem cGcd_ok (A B : Option Addr) (n c n' c' : Nat) (xs ys : List Int) (p : Int) (w : World) (hT : TabAt w) (h : ISl w A n c xs) (h' : ISl w B n' c' ys) (ip : In64 p) (hp : Pr p) (hn : n ≤ 1000) (hn' : n' ≤ 1000) :
    Calls Tryd.prog 33 #[.slice A n c, .slice B n' c', .int .i64 p] w fun e w' => ∃ C m d, e = .returned (.tuple #[.slice C m d, .int .i64 0]) ∧ Got w C m d (bezG p (cf xs) (cf ys)) 2000000 w' := by
  have h := cGcd A B n c n' c' xs ys p w hT h h' ip hn hn'
  rwa [chk_yes (primB_yes hp)] at h
theorem cBezout_fix (A B : Option Addr) (n c n' c' : Nat) (xs ys : List Int) (p : Int) (w : World) (hT : TabAt w) (l : Nat) (h : ISl w A n c xs) (h' : ISl w B n' c' ys) (ip : In64 p) (hp : Pr p) (hn : n ≤ 1000) (hn' : n' ≤ 1000) (hl : (bezG p (cf xs) (cf ys)).length = l) :
    Calls Tryd.prog 31 #[.slice A n c, .slice B n' c', .int .i64 p] w fun e w' => ∃ C1 d1 C2 m2 d2 C3 m3 d3, e = .returned (.tuple #[.slice C1 l d1, .slice C2 m2 d2, .slice C3 m3 d3, .int .i64 0]) ∧ Got w C1 l d1 (bezG p (cf xs) (cf ys)) 2000000 w' ∧ Got w C2 m2 d2 (bezS p (cf xs) (cf ys)) 2000000 w' ∧ Got w C3 m3 d3 (bezT p (cf xs) (cf ys)) 2000000 w' := by
  have h := cBezout A B n c n' c' xs ys p w hT h h' ip hn hn'
  rw [chk_yes (primB_yes hp)] at h
  refine h.mono ?_
  rintro e w' ⟨C1, m1, d1, C2, m2, d2, C3, m3, d3, rfl, hg, hg2, hg3⟩
  obtain rfl : m1 = l := hg.len.trans hl
  exact ⟨C1, d1, C2, m2, d2, C3, m3, d3, rfl, hg, hg2, hg3⟩
end Go.Proofs.YtbipbpakbanacaaDoor

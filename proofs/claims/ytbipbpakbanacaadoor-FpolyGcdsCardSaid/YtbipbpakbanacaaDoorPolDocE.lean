/- The document's Bezout and Gcd in one form. -/
import Derived.Test.YtbipbpakbanacaaDoorMg8
import Derived.Test.YtbipbpakbanacaaDoorPolEu
namespace Go.Proofs.YtbipbpakbanacaaDoor
open Go.RowKit

theorem rBezout (A B : Option Addr) (n c n' c' : Nat) (xs ys : List Int) (p : Int) (w : World) (h : ISl w A n c xs) (h' : ISl w B n' c' ys) (ip : In64 p) (hn : n ≤ 1000) (hn' : n' ≤ 1000) :
    Calls Tryd.prog 32 #[.slice A n c, .slice B n' c', .int .i64 p] w fun e w' => ∃ C1 m1 d1 C2 m2 d2 C3 m3 d3, e = .returned (.tuple #[.slice C1 m1 d1, .slice C2 m2 d2, .slice C3 m3 d3, .int .i64 (chk p)]) ∧ Got w C1 m1 d1 (bezG p (cf xs) (cf ys)) 2000000 w' ∧ Got w C2 m2 d2 (bezS p (cf xs) (cf ys)) 2000000 w' ∧ Got w C3 m3 d3 (bezT p (cf xs) (cf ys)) 2000000 w' := by
  rcases Classical.em (Pr p) with hp | hp
  · rw [chk_yes (primB_yes hp)]
    refine (refBezout_any A B n c n' c' xs ys p w h h' hp (by omega) (by omega)).mono ?_
    rintro e w' ⟨v1, v2, v3, rfl, g, s, t, hb, i1, i2, i3, hw⟩
    obtain ⟨C1, m1, d1, rfl, g1⟩ := polIn_got (L := bezG p (cf xs) (cf ys)) i1 hw (Nat.le_refl _) (fun zs hz => bezG_is hp hb hz)
    obtain ⟨C2, m2, d2, rfl, g2⟩ := polIn_got (L := bezS p (cf xs) (cf ys)) i2 hw (Nat.le_refl _) (fun zs hz => bezS_is hp hb hz)
    obtain ⟨C3, m3, d3, rfl, g3⟩ := polIn_got (L := bezT p (cf xs) (cf ys)) i3 hw (Nat.le_refl _) (fun zs hz => bezT_is hp hb hz)
    exact ⟨C1, m1, d1, C2, m2, d2, C3, m3, d3, rfl, g1, g2, g3⟩
  · rw [chk_no (primB_no hp)]
    refine (refBezout_not A B n c n' c' p w ip hp).mono ?_
    rintro e w' ⟨rfl, hw⟩
    exact ⟨none, 0, 0, none, 0, 0, none, 0, 0, rfl, got_nil (below_eq hw) (bezG_no hp), got_nil (below_eq hw) (bezS_no hp), got_nil (below_eq hw) (bezT_no hp)⟩
end Go.Proofs.YtbipbpakbanacaaDoor

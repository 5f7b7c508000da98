/- fpoly's Euclid: the last row, by its contracts. -/
import Derived.Test.YtbipbpakbanacaaDoorPrgEu
namespace Go.Proofs.YtbipbpakbanacaaDoor
open Go.RowKit Go.Shelf

/-- Where Euclid's way stands. -/
def LrIn (h : Nat) (p : Int) (F G : Nat → List Int) (w wr : World) (N : Nat) (X' Y' : Nat → SV) (F' G' : Nat → List Int) : Prop :=
  ABlk wr h X' ∧ ABlk wr (h + 1) Y' ∧ ABlk wr (h + 1 + 1) (fun _ => nilS) ∧ RowP wr X' F' p N ∧ RowP wr Y' G' p N ∧ (F' 0).length ≤ 1000 ∧ (G' 0).length ≤ 1000 ∧ N + 1001 * (G' 0).length ≤ 2000000 ∧ (∀ o, EuRun p (rowS F') (rowS G') o → EuRun p (rowS F) (rowS G) o) ∧ Below h w wr
theorem lr_next {h : Nat} {p : Int} {F G : Nat → List Int} {w wr w6 : World} {N m : Nat} {X' Y' Z : Nat → SV} {F' G' H : Nat → List Int} (hp : Pr p) (hin : LrIn h p F G w wr N X' Y' F' G') (hm : (G' 0).length = m + 1) (ha : AfO p m (N + (F' 0).length + 1) F' G' wr Z H w6) (hh : w.heap.size = h) :
    LrIn h p F G w ((((((w6.setCell ⟨h, 0, none⟩ (sv (Y' 0))).setCell ⟨h, 1, none⟩ (sv (Y' 1))).setCell ⟨h, 2, none⟩ (sv (Y' 2))).setCell ⟨h + 1, 0, none⟩ (sv (Z 0))).setCell ⟨h + 1, 1, none⟩ (sv (Z 1))).setCell ⟨h + 1, 2, none⟩ (sv (Z 2))) (N + (F' 0).length + 1) Y' Z G' H := by
  obtain ⟨g3, g4, g6, gx, gy, l1, l2, l3, run, gb⟩ := hin
  obtain ⟨hz, ⟨q, hq, hbd, hs⟩, hl, hb6⟩ := ha
  have h2 := hp.1
  have hsz : h ≤ wr.heap.size := by rw [← hh]; exact gb.size
  have a3 := g3.below hb6
  have a4 := g4.below hb6
  have a6 := g6.below hb6
  have b1 := a3.set_ 0 (by omega) (Y' 0)
  have b2 := b1.set_ 1 (by omega) (Y' 1)
  have b3 := b2.set_ 2 (by omega) (Y' 2)
  have d3 := ((a4.far (p := ⟨h, 0, none⟩) (by simp) (sv (Y' 0))).far (p := ⟨h, 1, none⟩) (by simp) (sv (Y' 1))).far (p := ⟨h, 2, none⟩) (by simp) (sv (Y' 2))
  have d4 := d3.set_ 0 (by omega) (Z 0)
  have d5 := d4.set_ 1 (by omega) (Z 1)
  have d6 := d5.set_ 2 (by omega) (Z 2)
  have e6 := (((((a6.far (p := ⟨h, 0, none⟩) (by simp <;> omega) (sv (Y' 0))).far (p := ⟨h, 1, none⟩) (by simp <;> omega) (sv (Y' 1))).far (p := ⟨h, 2, none⟩) (by simp <;> omega) (sv (Y' 2))).far (p := ⟨h + 1, 0, none⟩) (by simp) (sv (Z 0))).far (p := ⟨h + 1, 1, none⟩) (by simp) (sv (Z 1))).far (p := ⟨h + 1, 2, none⟩) (by simp) (sv (Z 2))
  have FAR : ∀ {X : Nat → SV} {F : Nat → List Int} {M : Nat}, RowP w6 X F p M → RowP ((((((w6.setCell ⟨h, 0, none⟩ (sv (Y' 0))).setCell ⟨h, 1, none⟩ (sv (Y' 1))).setCell ⟨h, 2, none⟩ (sv (Y' 2))).setCell ⟨h + 1, 0, none⟩ (sv (Z 0))).setCell ⟨h + 1, 1, none⟩ (sv (Z 1))).setCell ⟨h + 1, 2, none⟩ (sv (Z 2))) X F p M :=
    fun r => (((((r.far a3 0 _).far b1 1 _).far b2 2 _).far d3 0 _).far d4 1 _).far d5 2 _
  have ht := (gy 0 (by omega)).2.1.top (by intro e; rw [e] at hm; simp at hm) (by omega)
  rw [hm, Nat.add_sub_cancel] at ht
  refine ⟨?_, ?_, e6, FAR ((gy.below hb6).mono (by omega)), FAR hz, l2, by omega, by omega, ?_, ?_⟩
  · have f3 := ((b3.far (p := ⟨h + 1, 0, none⟩) (by simp) (sv (Z 0))).far (p := ⟨h + 1, 1, none⟩) (by simp) (sv (Z 1))).far (p := ⟨h + 1, 2, none⟩) (by simp) (sv (Z 2))
    exact f3.congr (fun k hk => by match k, hk with | 0, _ => rfl | 1, _ => rfl | 2, _ => rfl)
  · exact d6.congr (fun k hk => by match k, hk with | 0, _ => rfl | 1, _ => rfl | 2, _ => rfl)
  · intro o ho
    exact run o (.step m q (by have := bd_len p (G' 0); rw [hm] at this; exact this) ht hq hbd hs ho)
  · have hb : Below h w w6 := gb.trans (hb6.mono hsz)
    exact (((((hb.setCell (p := ⟨h, 0, none⟩) (Nat.le_refl _) _).setCell (p := ⟨h, 1, none⟩) (Nat.le_refl _) _).setCell (p := ⟨h, 2, none⟩) (Nat.le_refl _) _).setCell (p := ⟨h + 1, 0, none⟩) (Nat.le_succ _) _).setCell (p := ⟨h + 1, 1, none⟩) (Nat.le_succ _) _).setCell (p := ⟨h + 1, 2, none⟩) (Nat.le_succ _) _
/-- How long the first one of the row in a block is. -/
def headL (h : Nat) (w : World) : Nat := match w.cell? ⟨h, 0, none⟩ with
  | some (.slice _ n _) => n
  | _ => 0
theorem headL_at {h : Nat} {w : World} {X : Nat → SV} (hb : ABlk w h X) : headL h w = (X 0).2.1 := by
  unfold headL
  rw [hb.cell 0 (by omega)]
  rfl
/-- What Euclid's way leaves: the last row. -/
def LrO (p : Int) (F G : Nat → List Int) (w : World) (Z : Nat → SV) (H : Nat → List Int) (w' : World) : Prop :=
  RowP w' Z H p 2000000 ∧ EuRun p (rowS F) (rowS G) (rowS H) ∧ Below w.heap.size w w'

end Go.Proofs.YtbipbpakbanacaaDoor

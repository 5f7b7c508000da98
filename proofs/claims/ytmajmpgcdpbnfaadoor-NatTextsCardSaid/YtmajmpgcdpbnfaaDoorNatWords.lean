/- Words for memory: a slice of limbs that is only read; a block of limbs of the call's own that is known whole. -/
import Derived.Test.YtmajmpgcdpbnfaaDoorNatMath
import Derived.WalkKit
import Derived.WalkSpells
import Derived.Laws.OwnMore
import Derived.Deep.Draws
import Derived.Laws.Rows
import Derived.Lib.Hide
namespace Go.Proofs.YtmajmpgcdpbnfaaDoor
open Go.RowKit

/-- A limb as a value. -/
abbrev u64v (x : Nat) : Value := .int .u64 (x : Int)

/-- The slice address A leads to the limbs xs. -/
def Rd (w : World) (A : Option Addr) (xs : List Nat) : Prop :=
  Fit xs ∧ (xs = [] ∨ ∃ b o, A = some ⟨b, o, none⟩ ∧ b < w.heap.size ∧ ∀ j (h : j < xs.length), w.cell? ⟨b, o + j, none⟩ = some (u64v xs[j]))

theorem Rd.fit {w : World} {A : Option Addr} {xs : List Nat} (h : Rd w A xs) : Fit xs := h.1
theorem Rd.nil (w : World) (A : Option Addr) : Rd w A [] := ⟨fit_nil, .inl rfl⟩
theorem Rd.below {w w' : World} {A : Option Addr} {xs : List Nat} (h : Rd w A xs) (hb : Below w.heap.size w w') : Rd w' A xs := by
  refine ⟨h.1, h.2.imp id ?_⟩
  rintro ⟨b, o, rfl, hlt, hc⟩
  exact ⟨b, o, rfl, Nat.lt_of_lt_of_le hlt hb.size, fun j hj => (hb.cell (p := ⟨b, o + j, none⟩) hlt).trans (hc j hj)⟩
theorem Rd.take {w : World} {A : Option Addr} {xs : List Nat} (h : Rd w A xs) (k : Nat) : Rd w A (xs.take k) := by
  refine ⟨fit_take h.1 k, ?_⟩
  rcases h.2 with rfl | ⟨b, o, rfl, hlt, hc⟩
  · left; simp
  · right
    refine ⟨b, o, rfl, hlt, fun j hj => ?_⟩
    have hj' : j < xs.length := by rw [List.length_take] at hj; omega
    rw [List.getElem_take]
    exact hc j hj'
theorem Rd.plain {w : World} {A : Option Addr} {xs : List Nat} (h : Rd w A xs) : Rd w A (nrm (val xs)) := by
  have := h.take (nrm (val xs)).length
  rwa [take_nrm h.1] at this
/-- Memory below block B alone is asked for. -/
theorem Rd.grown {w w' : World} {g : Nat} {A : Option Addr} {xs : List Nat} (h : Rd w A xs) (hg : w.grownBy w' (some g)) (hne : ∀ b o s, A = some ⟨b, o, s⟩ → b ≠ g) : Rd w' A xs := by
  refine ⟨h.1, h.2.imp id ?_⟩
  rintro ⟨b, o, rfl, hlt, hc⟩
  refine ⟨b, o, rfl, Nat.lt_of_lt_of_le hlt hg.size, fun j hj => ?_⟩
  exact (World.cell?_of_block (w := w) (hg.block b hlt (fun e => hne b o none rfl (by injection e)))).trans (hc j hj)

/-- Block g holds just the limbs L. -/
def Blk (w : World) (g : Nat) (L : List Nat) : Prop := w.heap[g]? = some (.cells (L.map u64v).toArray 32 (0, 0)) ∧ Fit L

theorem Blk.lt {w : World} {g : Nat} {L : List Nat} (h : Blk w g L) : g < w.heap.size := by
  rcases Nat.lt_or_ge g w.heap.size with hlt | hge
  · exact hlt
  · have := h.1; rw [Array.getElem?_eq_none hge] at this; cases this
theorem Blk.fit {w : World} {g : Nat} {L : List Nat} (h : Blk w g L) : Fit L := h.2
theorem Blk.cell {w : World} {g : Nat} {L : List Nat} (h : Blk w g L) (i : Nat) (hi : i < L.length) : w.cell? ⟨g, i, none⟩ = some (u64v L[i]) := by
  rw [cell_of_row w g i _ _ (0, 0) h.1]
  simp [hi]
theorem Blk.frozen {w : World} {g : Nat} {L : List Nat} (h : Blk w g L) (i : Nat) : w.frozen? ⟨g, i, none⟩ = false := by
  have := h.1
  simp [World.frozen?, this]
theorem Blk.below {w w' : World} {g : Nat} {L : List Nat} (h : Blk w g L) (hb : Below w.heap.size w w') : Blk w' g L := ⟨(hb.block g h.lt).trans h.1, h.2⟩
theorem Blk.grown {w w' : World} {g g' : Nat} {L : List Nat} (h : Blk w g L) (hb : w.grownBy w' (some g')) (hne : g ≠ g') : Blk w' g L :=
  ⟨(hb.block g h.lt (fun e => hne (by injection e))).trans h.1, h.2⟩
theorem Blk.set_ {w : World} {g : Nat} {L : List Nat} (h : Blk w g L) (i : Nat) (u : Nat) (hu : u < 18446744073709551616) : Blk (w.setCell ⟨g, i, none⟩ (u64v u)) g (L.set i u) := by
  refine ⟨?_, ?_⟩
  · have := h.1
    simp [World.setCell, Array.getElem?_modify, this]
  · intro x hx
    rcases List.mem_or_eq_of_mem_set hx with hx | rfl
    · exact h.2 x hx
    · exact hu
theorem Blk.far {w : World} {g : Nat} {L : List Nat} (h : Blk w g L) {p : Addr} (hp : g ≠ p.block) (u : Value) : Blk (w.setCell p u) g L :=
  ⟨(Below.heap_setCell w p u g hp).trans h.1, h.2⟩
theorem Blk.alloc {w : World} {g : Nat} {L : List Nat} (h : Blk w g L) (o : Obj) : Blk (w.alloc o) g L := ⟨(Below.heap_alloc w o g h.lt).trans h.1, h.2⟩
theorem Blk.drew {w : World} {g : Nat} {L : List Nat} (h : Blk w g L) : Blk w.drew g L := h
theorem Blk.drewN {w : World} {g : Nat} {L : List Nat} (h : Blk w g L) (n : Nat) : Blk (w.drewN n) g L := h
/-- A block read through a slice that begins at o. -/
theorem Blk.rd {w : World} {g : Nat} {L : List Nat} (h : Blk w g L) (o n : Nat) : Rd w (some ⟨g, o, none⟩) ((L.drop o).take n) := by
  refine ⟨fit_take (fit_drop h.2 o) n, .inr ⟨g, o, rfl, h.lt, fun j hj => ?_⟩⟩
  have hj' : o + j < L.length := by simp only [List.length_take, List.length_drop] at hj; omega
  rw [h.cell (o + j) hj']
  simp
theorem Blk.rd0 {w : World} {g : Nat} {L : List Nat} (h : Blk w g L) : Rd w (some ⟨g, 0, none⟩) L := by
  have := h.rd 0 L.length
  simpa using this

theorem below_drewN {B : Nat} {a w : World} (h : Below B a w) (n : Nat) : Below B a (w.drewN n) := ⟨h.os, h.tape, h.output, h.size, h.block⟩
theorem below_of_grown {a w : World} {g B : Nat} (h : a.grownBy w (some g)) (hB : B ≤ a.heap.size) (hg : B ≤ g) : Below B a w :=
  (Below.refl B a).grown h hB (fun k e => by injection e with e; omega)
theorem grown_of_below {a w : World} (h : Below a.heap.size a w) (row : Option Nat) : a.grownBy w row := ⟨h.os, h.tape, h.output, h.size, fun i hi _ => h.block i hi⟩
theorem grown_drewN {a w : World} {row : Option Nat} (h : a.grownBy w row) (n : Nat) : a.grownBy (w.drewN n) row := ⟨h.os, h.tape, h.output, h.size, h.block⟩
theorem grown_drew {a w : World} {row : Option Nat} (h : a.grownBy w row) : a.grownBy w.drew row := ⟨h.os, h.tape, h.output, h.size, h.block⟩
theorem grown_alloc {a w : World} {row : Option Nat} (h : a.grownBy w row) (o : Obj) : a.grownBy (w.alloc o) row :=
  ⟨h.os, h.tape, h.output, Nat.le_trans h.size (by simp), fun i hi hne => (Below.heap_alloc w o i (Nat.lt_of_lt_of_le hi h.size)).trans (h.block i hi hne)⟩
theorem grown_setCell {a w : World} {g : Nat} (h : a.grownBy w (some g)) {p : Addr} (hp : p.block = g ∨ a.heap.size ≤ p.block) (u : Value) : a.grownBy (w.setCell p u) (some g) :=
  ⟨h.os, h.tape, h.output, by simpa [World.setCell] using h.size, fun i hi hne => (Below.heap_setCell w p u i (by
    rintro rfl
    rcases hp with hp | hp
    · exact hne (by rw [hp])
    · omega)).trans (h.block i hi hne)⟩
theorem grown_trans {a b c : World} {g : Nat} (h : a.grownBy b (some g)) (k : b.grownBy c (some g)) : a.grownBy c (some g) :=
  ⟨k.os.trans h.os, k.tape.trans h.tape, k.output.trans h.output, Nat.le_trans h.size k.size, fun i hi hne => (k.block i (Nat.lt_of_lt_of_le hi h.size) hne).trans (h.block i hi hne)⟩

/-- Behind the call: v is a new slice, in memory of the call's own (block B or later), that reads as xs. -/
def Own (w : World) (B : Nat) (v : Value) (xs : List Nat) : Prop :=
  ∃ g c L, v = .slice (some ⟨g, 0, none⟩) xs.length c ∧ B ≤ g ∧ Blk w g L ∧ L.length = c ∧ xs.length ≤ c ∧ L.take xs.length = xs ∧ c ≤ maxLen

end Go.Proofs.YtmajmpgcdpbnfaaDoor

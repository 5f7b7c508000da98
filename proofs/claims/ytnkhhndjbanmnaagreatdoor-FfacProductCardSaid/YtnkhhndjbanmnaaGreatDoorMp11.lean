/- Texts joined, in their order: NatRow, NatLop, NatAt, NatHalf, NatMul, RefSame, RefOw, RefMath, RefCut, RefDig, RefLim, RefMul, RefAdd, RefSum, RefLess, RefBits. -/
import Derived.Deep.RegionWith
import Derived.StillTailTactics
import Derived.Deep.RegionHeld3
import Derived.Laws.AppendOwnNone
import Derived.Deep.RegionLaw
import Derived.Laws.MathBits
import Derived.Test.YtnkhhndjbanmnaaGreatDoorMp8
import Derived.Test.YtnkhhndjbanmnaaGreatDoorMp10

/- nat.rowProduct, by its contract: as many limbs as both factors have, of the product. -/
namespace Go.Proofs.YtnkhhndjbanmnaaGreatDoor
open Go.RowKit

end Go.Proofs.YtnkhhndjbanmnaaGreatDoor

/- nat.lopsidedProduct, by its contract: given that smaller products are as they should be. -/
namespace Go.Proofs.YtnkhhndjbanmnaaGreatDoor
open Go.RowKit

theorem Sl.drew {w : World} {A : Option Addr} {n c : Nat} {xs : List Nat} (h : Sl w A n c xs) : Sl w.drew A n c xs := h

end Go.Proofs.YtnkhhndjbanmnaaGreatDoor

/- The contracts once more, their results' lengths under names of their own. -/
namespace Go.Proofs.YtnkhhndjbanmnaaGreatDoor
open Go.RowKit

theorem norm_at (A : Option Addr) (n c : Nat) (xs : List Nat) (w : World) (h : Sl w A n c xs) (hn : n ≤ 17592186044416) :
    Calls Tryz.prog 174 #[.slice A n c] w fun e w' => ∃ g m, e = .returned (.slice (some ⟨g, 0, none⟩) m m) ∧ w.heap.size ≤ g ∧ Sl w' (some ⟨g, 0, none⟩) m m (nrm (val xs)) ∧ m ≤ n ∧ Below w.heap.size w w' :=
  (norm_any A n c xs w h hn).mono fun e w' ⟨he, hb, hbel⟩ => by
    have hle : (nrm (val xs)).length ≤ n := by rw [h.len]; exact nrm_length_le h.fit
    exact ⟨_, _, he, Nat.le_refl _, hb.sl (by omega), hle, hbel⟩

end Go.Proofs.YtnkhhndjbanmnaaGreatDoor

/- nat.halvesProduct, by its contract: given that smaller products are as they should be. -/
namespace Go.Proofs.YtnkhhndjbanmnaaGreatDoor
open Go.RowKit

end Go.Proofs.YtnkhhndjbanmnaaGreatDoor

/- nat.product by induction on the limbs, and nat.Mul: a new slice of the product's plain limbs. Conditions: both together have fewer than 2^42 limbs. -/
namespace Go.Proofs.YtnkhhndjbanmnaaGreatDoor
open Go.RowKit

end Go.Proofs.YtnkhhndjbanmnaaGreatDoor

/- cleaverref01.Same and cleaverlaw01.same, by their contracts, where both lists are the same. -/
namespace Go.Proofs.YtnkhhndjbanmnaaGreatDoor
open Go.RowKit

end Go.Proofs.YtnkhhndjbanmnaaGreatDoor

/- A row of limbs that grows by append, in memory of the call's own. -/
namespace Go.Proofs.YtnkhhndjbanmnaaGreatDoor
open Go.RowKit

def Ow (w : World) (B : Nat) (v : Value) (xs : List Nat) : Prop := w.ownsRow B 102 1 v xs.length (xs.map u64v) ∧ Fit xs

theorem Ow.nil (w : World) (B : Nat) : Ow w B (.slice none 0 0) [] := ⟨World.ownsRow_nil _ _ _ _, fit_nil⟩
theorem Ow.fit {w : World} {B : Nat} {v : Value} {xs : List Nat} (h : Ow w B v xs) : Fit xs := h.2
theorem Ow.alloc {w : World} {B : Nat} {v : Value} {xs : List Nat} (h : Ow w B v xs) (o : Obj) : Ow (w.alloc o) B v xs := ⟨h.1.alloc o, h.2⟩
theorem Ow.drew {w : World} {B : Nat} {v : Value} {xs : List Nat} (h : Ow w B v xs) : Ow w.drew B v xs := h
theorem Ow.sl {w : World} {B : Nat} {v : Value} {xs : List Nat} (h : Ow w B v xs) : ∃ A c, v = .slice A xs.length c ∧ Sl w A xs.length c xs ∧ (∀ b o s, A = some ⟨b, o, s⟩ → B ≤ b) := by
  obtain ⟨⟨hl, h2⟩, hf⟩ := h
  rcases h2 with ⟨rfl, h0⟩ | ⟨g, cap, cur, rfl, hb, hh, hn, hc, hs, ht⟩
  · refine ⟨none, 0, by rw [h0], ⟨rfl, by omega, by decide, fun _ => rfl, hf, .inl (List.eq_nil_of_length_eq_zero h0)⟩, fun b o s e => by cases e⟩
  · refine ⟨some ⟨g, 0, none⟩, cap, rfl, ⟨rfl, hn, by unfold maxLen at hc; omega, (fun e => by cases e), hf, .inr ⟨g, 0, rfl, (Array.getElem?_eq_some_iff.1 hh).1, fun j hj => ?_⟩⟩, fun b o s e => ?_⟩
    · rw [cell_of_row w g (0 + j) cur _ (0, 0) hh, Nat.zero_add]
      have h1 : (cur.toList.take (xs.length * 1))[j]? = (xs.map u64v)[j]? := by rw [ht]
      rw [List.getElem?_take_of_lt (by omega), List.getElem?_map, List.getElem?_eq_getElem hj] at h1
      simpa using h1
    · simp only [Option.some.injEq, Addr.mk.injEq] at e
      omega
theorem Ow.lt {w : World} {B : Nat} {v : Value} {xs : List Nat} (h : Ow w B v xs) : ∀ k, v.ownBlock = some k → B ≤ k := fun k hk => (h.1.lt k hk).1

end Go.Proofs.YtnkhhndjbanmnaaGreatDoor

/- Plain mathematics for the slow answers: digits in base 2^32. No program text. -/
namespace Go.Proofs.YtnkhhndjbanmnaaGreatDoor

def val32 : List Nat → Nat
  | [] => 0
  | x :: xs => x + 4294967296 * val32 xs
def Fit32 (xs : List Nat) : Prop := ∀ x ∈ xs, x < 4294967296
theorem Fit32.fit {xs : List Nat} (h : Fit32 xs) : Fit xs := fun x hx => by have := h x hx; omega
def tz : List Nat → List Nat
  | [] => []
  | x :: xs => match tz xs with
    | [] => if x = 0 then [] else [x]
    | y :: ys => x :: y :: ys
def d32F : Nat → Nat → List Nat
  | 0, _ => []
  | f + 1, v => if v = 0 then [] else v % 4294967296 :: d32F f (v / 4294967296)
def d32 (v : Nat) : List Nat := d32F v v
def halvesOf : List Nat → List Nat
  | [] => []
  | x :: xs => x % 4294967296 :: x / 4294967296 :: halvesOf xs
def pair64 : List Nat → List Nat
  | [] => []
  | [x] => [x]
  | x :: y :: r => (x + y * 4294967296) :: pair64 r
end Go.Proofs.YtnkhhndjbanmnaaGreatDoor

/- cleaverref01.cut and Norm, by their contracts. -/
namespace Go.Proofs.YtnkhhndjbanmnaaGreatDoor
open Go.RowKit

end Go.Proofs.YtnkhhndjbanmnaaGreatDoor

/- cleaverref01.Norm at every slice, digits and limbs, by their contracts. -/
namespace Go.Proofs.YtnkhhndjbanmnaaGreatDoor
open Go.RowKit

end Go.Proofs.YtnkhhndjbanmnaaGreatDoor

/- cleaverref01.limbs, by its contract. Conditions: what it is handed are digits in base 2^32. -/
namespace Go.Proofs.YtnkhhndjbanmnaaGreatDoor
open Go.RowKit

end Go.Proofs.YtnkhhndjbanmnaaGreatDoor

/- cleaverref01.Mul, by its contract. -/
namespace Go.Proofs.YtnkhhndjbanmnaaGreatDoor
open Go.RowKit

def MulIn (N m i V xi : Nat) (ys L : List Nat) (k c : Nat) : Prop :=
  L.length = N ∧ Fit32 L ∧ c < 4294967296 ∧ val32 L + 4294967296 ^ (i + k) * c = V + xi * 4294967296 ^ i * val32 (ys.take k) ∧ ∀ j, i + m ≤ j → L.getD j 0 = 0
theorem Blk.cellD {w : World} {g : Nat} {L : List Nat} (h : Blk w g L) (i : Nat) (hi : i < L.length) : w.cell? ⟨g, i, none⟩ = some (u64v (L.getD i 0)) := by
  rw [h.cell i hi, List.getD_eq_getElem?_getD, List.getElem?_eq_getElem hi]
  rfl
end Go.Proofs.YtnkhhndjbanmnaaGreatDoor

/- cleaverref01.at, compare, Add, less, Sub, Cmp, by their contracts. -/
namespace Go.Proofs.YtnkhhndjbanmnaaGreatDoor
open Go.RowKit

end Go.Proofs.YtnkhhndjbanmnaaGreatDoor

/- cleaverref01.Add, less, Sub, Cmp, by their contracts. -/
namespace Go.Proofs.YtnkhhndjbanmnaaGreatDoor
open Go.RowKit

def SumIn (xs ys L : List Nat) (k c : Nat) : Prop := L.length = k ∧ Fit32 L ∧ c ≤ 1 ∧ val32 L + 4294967296 ^ k * c = val32 (xs.take k) + val32 (ys.take k)
end Go.Proofs.YtnkhhndjbanmnaaGreatDoor

/- cleaverref01.less, Sub, Cmp, Bits, by their contracts. -/
namespace Go.Proofs.YtnkhhndjbanmnaaGreatDoor
open Go.RowKit

def LessIn (xs ys L : List Nat) (k c : Nat) : Prop := L.length = k ∧ Fit32 L ∧ c ≤ 1 ∧ val32 (xs.take k) + 4294967296 ^ k * c = val32 L + val32 (ys.take k)
def subL (u v : Nat) : List Nat := if u < v then [] else nrm (u - v)
def subE (u v : Nat) : Int := if u < v then 1 else 0
end Go.Proofs.YtnkhhndjbanmnaaGreatDoor

/- cleaverref01.Bits, by its contract. -/
namespace Go.Proofs.YtnkhhndjbanmnaaGreatDoor
open Go.RowKit

end Go.Proofs.YtnkhhndjbanmnaaGreatDoor

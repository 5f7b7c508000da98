/- Texts joined, in their order: PrgBack, RoundReg, PrgEval, PowM, ZOf, PrgZ. -/
import Derived.RangeFuncBox
import Derived.RangeFuncLeaves
import Derived.RangeFuncNested
import Derived.RangeFuncCalls
import Derived.Shelf.Abstract
import Derived.Shelf.RegionOpen
import Derived.WalkKit
import Derived.OwnWalkIn
import Derived.TacticsInMore
import Derived.LoopNIn
import Derived.LoopIn
import Derived.Lib.Hide
import Derived.Test.YtbipbpakbanacaaDoorChecked
import Derived.Deep.RegionHeld3
import Derived.Test.YtbipbpakbanacaaDoorMg2
import Derived.Test.YtbipbpakbanacaaDoorMg3
import Derived.Test.YtbipbpakbanacaaDoorMg5

/- slices.Backward over ints and over limbs: what it hands to a loop's body: the places from the last one down, and what lies there. -/
namespace Go.Proofs.YtbipbpakbanacaaDoor
open Go.RowKit Go.Shelf
attribute [local go_sem] Oper.semAt_some

/-- What has come when k rounds are over. -/
def upto {α : Type} (f : Nat → α) (k : Nat) : List α := (List.range k).map f
theorem upto_succ {α : Type} (f : Nat → α) (k : Nat) : upto f (k + 1) = upto f k ++ [f k] := by simp [upto, List.range_succ]
theorem upto_length {α : Type} (f : Nat → α) (k : Nat) : (upto f k).length = k := by simp [upto]
/-- What a round that goes on keeps: what was there, and the loop's own block. -/
def KpB (n₀ Bs : Nat) (A B : World) : Prop := Below n₀ A B ∧ B.heap[Bs]? = A.heap[Bs]?
theorem KpB.refl (n₀ Bs : Nat) (A : World) : KpB n₀ Bs A A := ⟨Below.refl _ _, rfl⟩
theorem KpB.trans {n₀ Bs : Nat} {A B C : World} (h : KpB n₀ Bs A B) (k : KpB n₀ Bs B C) : KpB n₀ Bs A C := ⟨h.1.trans k.1, k.2.trans h.2⟩
theorem KpB.drew {n₀ Bs : Nat} {A B : World} (h : KpB n₀ Bs A B) : KpB n₀ Bs A B.drew := ⟨h.1.drew, h.2⟩
theorem KpB.set {n₀ Bs : Nat} {A B : World} (h : KpB n₀ Bs A B) (p : Addr) (hp : n₀ ≤ p.block) (hq : Bs ≠ p.block) (v : Value) : KpB n₀ Bs A (B.setCell p v) := ⟨h.1.setCell hp v, (Below.heap_setCell B p v Bs hq).trans h.2⟩
theorem KpB.put {n₀ Bs : Nat} {w : World} (h0 : n₀ ≤ w.heap.size) (h1 : Bs < w.heap.size) (W : World) (l : Nat) (o o' : Obj) (hl : w.heap.size ≤ l) (h : W.heap[l]? = some o) (hc : o.isCells = false) (hw : o.isWalk = false) : KpB n₀ Bs W (W.putObj l o') :=
  ⟨belowK_b (w := w) h0 W l o o' hl h hc hw, by
    show (W.heap.setIfInBounds l o')[Bs]? = _
    rw [Array.getElem?_setIfInBounds_ne (by omega)]⟩
/-- The places from the last one down. -/
def downs {β : Type} (g : Nat → β) (len : Nat) (j : Nat) : Nat × β := (len - 1 - j, g (len - 1 - j))

set_option maxRecDepth 100000 in
set_option maxHeartbeats 2000000 in
theorem back1I_in {β : Type} (en : β → Value) (g : Nat → β) (F : Fence) (n : Nat) (h8 : F.fn 81) (hro : F.round = none) (hn : 1 ≤ n) (l Bs n₀ b off len cap : Nat) (hreach : len ≤ 17592186044416) (hb : b < n₀) (J Jx : List (Nat × β) → World → Prop)
    (hY : ∀ pre x W, J pre W → pre.length < len → YieldAt F (n - 1) Tryd.prog l #[.int .i64 (x.1 : Int), en x.2] W fun e W' =>
      (e = .returned (.bool true) ∧ J (pre ++ [x]) W' ∧ KpB n₀ Bs W W') ∨ (e = .returned (.bool false) ∧ Jx (pre ++ [x]) W'))
    (W : World) (hBs : W.cell? ⟨Bs, 0, none⟩ = some (.slice (some ⟨b, off, none⟩) len cap)) (hc : ∀ j, j < len → W.cell? ⟨b, off + j, none⟩ = some (en (g j))) (h0 : J [] W) :
    CallsIn F n Tryd.prog 81 #[.func (.yield l) #[] #[], .pointer (some ⟨Bs, 0, none⟩)] W fun e W' => (∃ v, e = .returned v) ∧
      ((∃ ys, ys = upto (downs g len) len ∧ J ys W') ∨ (∃ pre, (∃ k, k ≤ len ∧ pre = upto (downs g len) k) ∧ Jx pre W')) := by
  refine callsIn_of_wp Tryd.func81 rfl h8 ?_ hro
  simp only [Tryd.ntmps81, List.size_toArray, List.length_cons, List.length_nil, Nat.reduceAdd, Nat.reduceSub, Array.replicate_succ, Array.replicate_zero, List.push_toArray, List.append_toArray, List.nil_append, List.cons_append]
  gi_wp2
  gi_loopw [3] (fun i wr => ∃ k : Nat, k ≤ len ∧ i = .int .i64 ((len : Int) - 1 - (k : Int)) ∧ J (upto (downs g len) k) wr ∧ KpB n₀ Bs W wr)
    (fun i _ => (intOf i + 1).toNat)
  case atStart => exact ⟨0, Nat.zero_le _, by simp, h0, KpB.refl _ _ _⟩
  case round =>
    obtain ⟨k, hk, rfl, hJs, hnx⟩ := hrel
    have hcb : wr.cell? ⟨Bs, 0, none⟩ = some (.slice (some ⟨b, off, none⟩) len cap) := (World.cell?_of_block (w := W) hnx.2).trans hBs
    by_cases hlt : k < len
    · obtain ⟨i, hi⟩ : ∃ i, i = len - 1 - k := ⟨_, rfl⟩
      have hii : (len : Int) - 1 - (k : Int) = (i : Int) := by omega
      have hcx' : wr.cell? ⟨b, off + i, none⟩ = some (en (g i)) := (hnx.1.cell (p := ⟨b, off + i, none⟩) hb).trans (hc i (by omega))
      have JN := Lib.hid (show ∀ W', J (upto (downs g len) k ++ [(i, g i)]) W' → J (upto (downs g len) (k + 1)) W' from fun W' h => by rw [upto_succ, downs, ← hi]; exact h)
      have JN2 := Lib.hid (show ∀ W', Jx (upto (downs g len) k ++ [(i, g i)]) W' → Jx (upto (downs g len) (k + 1)) W' from fun W' h => by rw [upto_succ, downs, ← hi]; exact h)
      obtain ⟨fn, tmps, assign, body, hy, hR⟩ := hY _ (i, g i) wr hJs (by rw [upto_length]; exact hlt)
      dsimp only at hy
      rw [hii]
      have II := Lib.hid hii
      have HI := Lib.hid hi
      have i1 : (i : Int) < (len : Int) := by omega
      generalize g i = x at *
      clear hii hi
      gi_wp2
      refine hR.mono ?_
      rintro e W3 (⟨rfl, hJ3, hk3⟩ | ⟨rfl, hJx3⟩)
      · gi_wp2
        go_roundw
        case rel => exact ⟨k + 1, by omega, (by have := II.out; congr 1; omega), JN.out _ hJ3, hnx.trans hk3⟩
        case measure => simp [intOf]
      · gi_wp2
        refine bodyPost_ret (results_none rfl _ _ _) rfl ?_
        exact ⟨⟨_, rfl⟩, .inr ⟨_, ⟨k + 1, by omega, rfl⟩, JN2.out _ hJx3⟩⟩
    · obtain rfl : k = len := by omega
      have e1 : (k : Int) - 1 - (k : Int) = -1 := by omega
      rw [e1]
      gi_wp2
      go_end0
      exact ⟨⟨_, rfl⟩, .inl ⟨_, rfl, hJs⟩⟩

set_option maxRecDepth 100000 in
set_option maxHeartbeats 1000000 in
theorem back0I_in {β : Type} (F : Fence) (n : Nat) (h8 : F.fn 81) (hro : F.round = none) (l Bs cap : Nat) (A : Option Addr) (J : List (Nat × β) → World → Prop) (W : World) (hBs : W.cell? ⟨Bs, 0, none⟩ = some (.slice A 0 cap)) (h0 : J [] W) :
    CallsIn F n Tryd.prog 81 #[.func (.yield l) #[] #[], .pointer (some ⟨Bs, 0, none⟩)] W fun e W' => (∃ v, e = .returned v) ∧ J [] W' := by
  refine callsIn_of_wp Tryd.func81 rfl h8 ?_ hro
  simp only [Tryd.ntmps81, List.size_toArray, List.length_cons, List.length_nil, Nat.reduceAdd, Nat.reduceSub, Array.replicate_succ, Array.replicate_zero, List.push_toArray, List.append_toArray, List.nil_append, List.cons_append]
  gi_wp2
  gi_loopw [3] (fun i wr => i = .int .i64 (-1) ∧ J [] wr) (fun _ _ => 0)
  case atStart => exact ⟨rfl, h0⟩
  case round =>
    obtain ⟨rfl, hJs⟩ := hrel
    gi_wp2
    go_end0
    exact ⟨⟨_, rfl⟩, hJs⟩

set_option maxHeartbeats 1000000 in
theorem backI_in (F : Fence) (n : Nat) (h5 : F.fn 57) (hro : F.round = none) (a : Option Addr) (len cap : Nat) (w : World) :
    CallsIn F n Tryd.prog 57 #[.slice a len cap] w fun e w' => e = .returned (.func (.func 81) #[] #[.pointer (some ⟨w.heap.size, 0, none⟩)]) ∧ w' = w.alloc (.cells #[.slice a len cap] 22) := by
  have hmf : ∀ (fn : Fn) (first cap : Array Value) (w : World), (Instr.makeFunc fn first cap).run Tryd.prog w = .ok (.func fn first cap) w := fun _ _ _ _ => rfl
  refine callsIn_of_wp Tryd.func57 rfl h5 ?_ hro
  simp only [Tryd.ntmps57, List.size_toArray, List.length_cons, List.length_nil, Nat.reduceAdd, Nat.reduceSub, Array.replicate_succ, Array.replicate_zero, List.push_toArray, List.append_toArray, List.nil_append, List.cons_append]
  gi_wp2
  go_ret
  exact ⟨rfl, rfl⟩

/-- A slice whose cells lie below n₀, or without a cell. -/
theorem backI_stops {β : Type} (en : β → Value) (g : Nat → β) (F : Fence) (n : Nat) (h7 : F.fn 81) (hro : F.round = none) (hn : 1 ≤ n) (Bs n₀ len cap : Nat) (A : Option Addr) (hreach : len ≤ 17592186044416) (w : World) (hBs : Bs < w.heap.size) (hn₀ : n₀ ≤ w.heap.size)
    (hc : w.cell? ⟨Bs, 0, none⟩ = some (.slice A len cap)) (hI : len = 0 ∨ ∃ b off, A = some ⟨b, off, none⟩ ∧ b < n₀ ∧ ∀ j, j < len → w.cell? ⟨b, off + j, none⟩ = some (en (g j))) :
    SeqStopsK F n Tryd.prog 81 #[.pointer (some ⟨Bs, 0, none⟩)] (fun x : Nat × β => #[Value.int .i64 (x.1 : Int), en x.2]) (KpB n₀ Bs) (fun ys => ys = upto (downs g len) len)
      (fun pre => ∃ k, k ≤ len ∧ pre = upto (downs g len) k) len w := fun l J Jx W hW _ _ hY h0 => by
  have hc' := (hW.cell (p := ⟨Bs, 0, none⟩) hBs).trans hc
  rcases hI with rfl | ⟨b, off, rfl, hb, hcs⟩
  · exact (back0I_in F n h7 hro l Bs cap A J W hc' h0).mono fun e W' ⟨he, hj⟩ => ⟨he, .inl ⟨_, rfl, hj⟩⟩
  · exact back1I_in en g F n h7 hro hn l Bs n₀ b off len cap hreach hb J Jx hY W hc' (fun j hj => ((hW.mono hn₀).cell (p := ⟨b, off + j, none⟩) hb).trans (hcs j hj)) h0

set_option maxRecDepth 100000 in
set_option maxHeartbeats 2000000 in
theorem back1U_in {β : Type} (en : β → Value) (g : Nat → β) (F : Fence) (n : Nat) (h8 : F.fn 94) (hro : F.round = none) (hn : 1 ≤ n) (l Bs n₀ b off len cap : Nat) (hreach : len ≤ 17592186044416) (hb : b < n₀) (J Jx : List (Nat × β) → World → Prop)
    (hY : ∀ pre x W, J pre W → pre.length < len → YieldAt F (n - 1) Tryd.prog l #[.int .i64 (x.1 : Int), en x.2] W fun e W' =>
      (e = .returned (.bool true) ∧ J (pre ++ [x]) W' ∧ KpB n₀ Bs W W') ∨ (e = .returned (.bool false) ∧ Jx (pre ++ [x]) W'))
    (W : World) (hBs : W.cell? ⟨Bs, 0, none⟩ = some (.slice (some ⟨b, off, none⟩) len cap)) (hc : ∀ j, j < len → W.cell? ⟨b, off + j, none⟩ = some (en (g j))) (h0 : J [] W) :
    CallsIn F n Tryd.prog 94 #[.func (.yield l) #[] #[], .pointer (some ⟨Bs, 0, none⟩)] W fun e W' => (∃ v, e = .returned v) ∧
      ((∃ ys, ys = upto (downs g len) len ∧ J ys W') ∨ (∃ pre, (∃ k, k ≤ len ∧ pre = upto (downs g len) k) ∧ Jx pre W')) := by
  refine callsIn_of_wp Tryd.func94 rfl h8 ?_ hro
  simp only [Tryd.ntmps94, List.size_toArray, List.length_cons, List.length_nil, Nat.reduceAdd, Nat.reduceSub, Array.replicate_succ, Array.replicate_zero, List.push_toArray, List.append_toArray, List.nil_append, List.cons_append]
  gi_wp2
  gi_loopw [3] (fun i wr => ∃ k : Nat, k ≤ len ∧ i = .int .i64 ((len : Int) - 1 - (k : Int)) ∧ J (upto (downs g len) k) wr ∧ KpB n₀ Bs W wr)
    (fun i _ => (intOf i + 1).toNat)
  case atStart => exact ⟨0, Nat.zero_le _, by simp, h0, KpB.refl _ _ _⟩
  case round =>
    obtain ⟨k, hk, rfl, hJs, hnx⟩ := hrel
    have hcb : wr.cell? ⟨Bs, 0, none⟩ = some (.slice (some ⟨b, off, none⟩) len cap) := (World.cell?_of_block (w := W) hnx.2).trans hBs
    by_cases hlt : k < len
    · obtain ⟨i, hi⟩ : ∃ i, i = len - 1 - k := ⟨_, rfl⟩
      have hii : (len : Int) - 1 - (k : Int) = (i : Int) := by omega
      have hcx' : wr.cell? ⟨b, off + i, none⟩ = some (en (g i)) := (hnx.1.cell (p := ⟨b, off + i, none⟩) hb).trans (hc i (by omega))
      have JN := Lib.hid (show ∀ W', J (upto (downs g len) k ++ [(i, g i)]) W' → J (upto (downs g len) (k + 1)) W' from fun W' h => by rw [upto_succ, downs, ← hi]; exact h)
      have JN2 := Lib.hid (show ∀ W', Jx (upto (downs g len) k ++ [(i, g i)]) W' → Jx (upto (downs g len) (k + 1)) W' from fun W' h => by rw [upto_succ, downs, ← hi]; exact h)
      obtain ⟨fn, tmps, assign, body, hy, hR⟩ := hY _ (i, g i) wr hJs (by rw [upto_length]; exact hlt)
      dsimp only at hy
      rw [hii]
      have II := Lib.hid hii
      have HI := Lib.hid hi
      have i1 : (i : Int) < (len : Int) := by omega
      generalize g i = x at *
      clear hii hi
      gi_wp2
      refine hR.mono ?_
      rintro e W3 (⟨rfl, hJ3, hk3⟩ | ⟨rfl, hJx3⟩)
      · gi_wp2
        go_roundw
        case rel => exact ⟨k + 1, by omega, (by have := II.out; congr 1; omega), JN.out _ hJ3, hnx.trans hk3⟩
        case measure => simp [intOf]
      · gi_wp2
        refine bodyPost_ret (results_none rfl _ _ _) rfl ?_
        exact ⟨⟨_, rfl⟩, .inr ⟨_, ⟨k + 1, by omega, rfl⟩, JN2.out _ hJx3⟩⟩
    · obtain rfl : k = len := by omega
      have e1 : (k : Int) - 1 - (k : Int) = -1 := by omega
      rw [e1]
      gi_wp2
      go_end0
      exact ⟨⟨_, rfl⟩, .inl ⟨_, rfl, hJs⟩⟩

set_option maxRecDepth 100000 in
set_option maxHeartbeats 1000000 in
theorem back0U_in {β : Type} (F : Fence) (n : Nat) (h8 : F.fn 94) (hro : F.round = none) (l Bs cap : Nat) (A : Option Addr) (J : List (Nat × β) → World → Prop) (W : World) (hBs : W.cell? ⟨Bs, 0, none⟩ = some (.slice A 0 cap)) (h0 : J [] W) :
    CallsIn F n Tryd.prog 94 #[.func (.yield l) #[] #[], .pointer (some ⟨Bs, 0, none⟩)] W fun e W' => (∃ v, e = .returned v) ∧ J [] W' := by
  refine callsIn_of_wp Tryd.func94 rfl h8 ?_ hro
  simp only [Tryd.ntmps94, List.size_toArray, List.length_cons, List.length_nil, Nat.reduceAdd, Nat.reduceSub, Array.replicate_succ, Array.replicate_zero, List.push_toArray, List.append_toArray, List.nil_append, List.cons_append]
  gi_wp2
  gi_loopw [3] (fun i wr => i = .int .i64 (-1) ∧ J [] wr) (fun _ _ => 0)
  case atStart => exact ⟨rfl, h0⟩
  case round =>
    obtain ⟨rfl, hJs⟩ := hrel
    gi_wp2
    go_end0
    exact ⟨⟨_, rfl⟩, hJs⟩

set_option maxHeartbeats 1000000 in
theorem backU_in (F : Fence) (n : Nat) (h5 : F.fn 86) (hro : F.round = none) (a : Option Addr) (len cap : Nat) (w : World) :
    CallsIn F n Tryd.prog 86 #[.slice a len cap] w fun e w' => e = .returned (.func (.func 94) #[] #[.pointer (some ⟨w.heap.size, 0, none⟩)]) ∧ w' = w.alloc (.cells #[.slice a len cap] 38) := by
  have hmf : ∀ (fn : Fn) (first cap : Array Value) (w : World), (Instr.makeFunc fn first cap).run Tryd.prog w = .ok (.func fn first cap) w := fun _ _ _ _ => rfl
  refine callsIn_of_wp Tryd.func86 rfl h5 ?_ hro
  simp only [Tryd.ntmps86, List.size_toArray, List.length_cons, List.length_nil, Nat.reduceAdd, Nat.reduceSub, Array.replicate_succ, Array.replicate_zero, List.push_toArray, List.append_toArray, List.nil_append, List.cons_append]
  gi_wp2
  go_ret
  exact ⟨rfl, rfl⟩

/-- A slice whose cells lie below n₀, or without a cell. -/
theorem backU_stops {β : Type} (en : β → Value) (g : Nat → β) (F : Fence) (n : Nat) (h7 : F.fn 94) (hro : F.round = none) (hn : 1 ≤ n) (Bs n₀ len cap : Nat) (A : Option Addr) (hreach : len ≤ 17592186044416) (w : World) (hBs : Bs < w.heap.size) (hn₀ : n₀ ≤ w.heap.size)
    (hc : w.cell? ⟨Bs, 0, none⟩ = some (.slice A len cap)) (hI : len = 0 ∨ ∃ b off, A = some ⟨b, off, none⟩ ∧ b < n₀ ∧ ∀ j, j < len → w.cell? ⟨b, off + j, none⟩ = some (en (g j))) :
    SeqStopsK F n Tryd.prog 94 #[.pointer (some ⟨Bs, 0, none⟩)] (fun x : Nat × β => #[Value.int .i64 (x.1 : Int), en x.2]) (KpB n₀ Bs) (fun ys => ys = upto (downs g len) len)
      (fun pre => ∃ k, k ≤ len ∧ pre = upto (downs g len) k) len w := fun l J Jx W hW _ _ hY h0 => by
  have hc' := (hW.cell (p := ⟨Bs, 0, none⟩) hBs).trans hc
  rcases hI with rfl | ⟨b, off, rfl, hb, hcs⟩
  · exact (back0U_in F n h7 hro l Bs cap A J W hc' h0).mono fun e W' ⟨he, hj⟩ => ⟨he, .inl ⟨_, rfl, hj⟩⟩
  · exact back1U_in en g F n h7 hro hn l Bs n₀ b off len cap hreach hb J Jx hY W hc' (fun j hj => ((hW.mono hn₀).cell (p := ⟨b, off + j, none⟩) hb).trans (hcs j hj)) h0
end Go.Proofs.YtbipbpakbanacaaDoor

/- A region that draws its order, in a round of a loop over a function: by the plain moves with a condition on the world. -/
namespace Go.Proofs.YtbipbpakbanacaaDoor
open Go.RowKit

/-- Q, and no other way out than the plain one. -/
def OnlyN (Q : Exit → Act → World → Prop) : Exit → Act → World → Prop := fun e a w => e = .normal ∧ Q .normal a w
theorem onlyN_out {Q : Exit → Act → World → Prop} : ¬ LetsOut (OnlyN Q) := fun ⟨_, _, h⟩ => by have h2 := h.1; cases h2
theorem onlyN_up {Q : Exit → Act → World → Prop} : ∀ e a w, OnlyN Q e a w → Q e a w := fun _ _ _ h => h.1 ▸ h.2
theorem onlyN_q {Q : Exit → Act → World → Prop} {a a' : Act} : ∀ c w, OnlyN Q (.panic c) a' w → OnlyN Q (.panic c) a w := fun _ _ h => by have h2 := h.1; cases h2

theorem op_round {P : Program} {l n : Nat} {o : Oper} {a : Act} {w : World} {K : Act → World → Prop} {Q : Exit → Act → World → Prop} (hd : ∀ c, o.op ≠ .defer c) (h : o.wp P a w K (OnlyN Q)) : o.wpIn (Fence.wide.inRound l) n P a w K (OnlyN Q) := by
  refine ⟨fun _ _ => trivial, ?_⟩
  rw [Oper.semAt_eq _ _ _ hd]
  unfold Oper.wp at h
  generalize (execOp a.eval o).run P w = r at *
  cases r with
  | ok x w' =>
    cases x
    case enter f args => exact And.intro (fun hs => by cases hs) (CallsIn.inRound l (callsIn_wide.2 h))
    case row row args =>
      refine And.intro (fun hs => by cases hs) (fun c cs _ => ?_)
      obtain ⟨v, w'', r, s⟩ := h c cs
      exact ⟨v, w'', r, stepsIn_wide.2 s⟩
    all_goals first | exact h | exact h.elim
  | halt x w' => cases x <;> first | exact h | exact h.elim

section
variable {P : Program} {l n : Nat} {ops : Array Oper} {Q : Exit → Act → World → Prop}
theorem opAt_round {i : Nat} {a : Act} {w : World} {K K' : Act → World → Prop} (hd : ∀ (j : Nat) (o : Oper) (c : Call), ops[j]? = some o → o.op ≠ .defer c) (hK : ∀ a w, K a w → K' a w) (h : wpOp P ops (OnlyN Q) i K a w) :
    wpOpIn (Fence.wide.inRound l) n P ops (OnlyN Q) i K' a w := by
  unfold wpOp at h
  unfold wpOpIn
  cases ho : ops[i]? with
  | none => simp only [ho] at h; exact hK _ _ h
  | some o =>
    simp only [ho] at h
    simp only
    split
    · rename_i hw
      rw [if_pos hw] at h
      rcases h with h | h
      · exact Oper.wpIn_mono hK (op_round (fun c => hd i o c ho) h)
      · exact absurd h.2 onlyN_out
    · rename_i hw
      rw [if_neg hw] at h
      exact ⟨fun _ _ => trivial, hK _ _ h⟩
theorem any_round {md : Region.Mode} (hd : ∀ (j : Nat) (o : Oper) (c : Call), ops[j]? = some o → o.op ≠ .defer c) : ∀ (fuel : Nat) (listed : Array Bool) (a : Act) (w : World), wpAny P md ops (OnlyN Q) fuel listed a w → wpAnyIn (Fence.wide.inRound l) n P md ops (OnlyN Q) fuel listed a w
  | 0, _, _, _, h => h
  | fuel + 1, _, _, _, h => ⟨h.1, fun i hi => opAt_round hd (any_round hd fuel _) (h.2 i hi)⟩
/-- No operation is a defer statement. -/
def noDefer (ops : Array Oper) : Bool := ops.all fun o => match o.op with | .defer _ => false | _ => true
theorem noDefer_spec (h : noDefer ops = true) : ∀ (j : Nat) (o : Oper) (c : Call), ops[j]? = some o → o.op ≠ .defer c := by
  intro j o c ho e
  have h1 := Array.all_eq_true'.1 h o (Array.mem_of_getElem? ho)
  rw [e] at h1
  cases h1
theorem region_round {id : Nat} {a : Act} {w : World} (S : World → Prop) (hm : P.follows .mixedOrders = true) (hd : noDefer ops = true)
    (h : wpAnyH P .any ops (OnlyN Q) S ops.size (Array.replicate ops.size false) a w.drew) : (Code.region id ops true).wpIn (Fence.wide.inRound l) n P Q a w :=
  wpIn_mono (wpIn_region_any hm (any_round (noDefer_spec hd) _ _ _ _ (wpAny_of_held _ _ _ _ h))) onlyN_up
end
end Go.Proofs.YtbipbpakbanacaaDoor

/- fpoly.Eval, by its contract: a range over a function. -/
namespace Go.Proofs.YtbipbpakbanacaaDoor
open Go.RowKit Go.Shelf
attribute [local go_sem] Oper.semAt_some

/-- The value so far. -/
def hv (r p : Int) : List (Nat × Int) → Int := List.foldl (fun v x => (v * r + x.2 % p) % p) 0
theorem hv_nil (r p : Int) : hv r p [] = 0 := rfl
theorem hv_snoc (r p : Int) (pre : List (Nat × Int)) (x : Nat × Int) : hv r p (pre ++ [x]) = (hv r p pre * r + x.2 % p) % p := by simp [hv]
theorem hv_bd {r p : Int} (hp : 1 ≤ p) (pre : List (Nat × Int)) : 0 ≤ hv r p pre ∧ hv r p pre < p := by
  rcases List.eq_nil_or_concat pre with rfl | ⟨l, x, rfl⟩
  · rw [hv_nil]; omega
  · rw [List.concat_eq_append, hv_snoc]
    exact ⟨Int.emod_nonneg _ (by omega), Int.emod_lt_of_pos _ (by omega)⟩
theorem hv_upto {x p : Int} {xs : List Int} {k : Nat} (hk : k ≤ xs.length) : hv (x % p) p (upto (downs (cf xs) xs.length) k) = evL x (xs.drop (xs.length - k)) % p := by
  induction k with
  | zero => rw [Nat.sub_zero, List.drop_length]; show (0 : Int) = evL x [] % p; unfold evL; simp
  | succ k ih =>
    rw [upto_succ, hv_snoc, ih (by omega)]
    show (evL x (xs.drop (xs.length - k)) % p * (x % p) + cf xs (xs.length - 1 - k) % p) % p = _
    rw [evL_drop x xs (xs.length - (k + 1)) (by omega), show xs.length - (k + 1) + 1 = xs.length - k from by omega, show xs.length - 1 - k = xs.length - (k + 1) from by omega]
    rw [← Int.add_emod_right (_ * _ + _), Int.add_emod_right, Int.add_emod, Int.emod_emod_of_dvd _ (Int.dvd_refl p), ← Int.mul_emod, ← Int.add_emod, Int.mul_comm, Int.add_comm]

theorem sc_far {W : World} {a b : Addr} {v u : Value} (h : a ≠ b) (hc : W.cell? b = some u) : (W.setCell a v).cell? b = some u := by
  rw [World.cell?_setCell_other]
  · exact hc
  · exact h

set_option maxRecDepth 100000 in
set_option maxHeartbeats 4000000 in
theorem pEval_any (A : Option Addr) (n c : Nat) (xs : List Int) (x p : Int) (w : World) (hT : TabAt (w.alloc (.cells #[.int .i64 p] 3))) (h : ISl w A n c xs) (hp : Pr p) (hn : n ≤ 100000000) :
    Calls Tryd.prog 29 #[.slice A n c, .int .i64 x, .int .i64 p] w fun e w' => e = .returned (.tuple #[.int .i64 (evL x xs % p), .int .i64 0]) ∧ Below w.heap.size w w' := by
  have hp1 := hp.1
  have hp2 := hp.2.1
  have C := pCheck_any p _ (by omega) (by omega) hT
  rw [chk_yes (primB_yes hp)] at C
  have CC := Lib.hid C
  have RR := Lib.hid (fun (a : Int) (W : World) => pRed_md a p hp.md W)
  have H := Lib.hid h
  clear C hT h hp
  refine (callsIn_wide (n := 3)).1 ?_
  refine callsIn_of_wp_marks Tryd.func29 rfl trivial ?_ rfl
  simp only [Tryd.ntmps29, List.size_toArray, List.length_cons, List.length_nil, Nat.reduceAdd, Nat.reduceSub, Array.replicate_succ, Array.replicate_zero, List.push_toArray, List.append_toArray, List.nil_append, List.cons_append]
  gi_wp2_with (first
    | (refine ⟨trivial, ?_⟩; gi_at_call 36; refine CallsIn.mono (callsIn_wide.2 CC.out) ?_; rintro e w1 ⟨rfl, rfl⟩)
    | (refine ⟨trivial, ?_⟩; gi_at_call 56; refine CallsIn.mono (callsIn_wide.2 (RR.out _ _)) ?_; rintro e w1 ⟨rfl, rfl⟩)
    | (refine ⟨trivial, ?_⟩; gi_at_call 57; refine (backI_in Fence.wide _ trivial rfl _ _ _ _).mono ?_; rintro e w1 ⟨rfl, rfl⟩))
  obtain ⟨r, hr⟩ : ∃ r, x % p = r := ⟨_, rfl⟩
  have hr1 : 0 ≤ r ∧ r < p := hr ▸ ⟨Int.emod_nonneg _ (by omega), Int.emod_lt_of_pos _ (by omega)⟩
  rw [hr]
  have b5 := (((Boxed.new w 3 (.int .i64 p)).alloc (.cells #[.int .i64 0] 3)).alloc (.cells #[.int .i64 r] 3)).alloc (.cells #[.slice A n c] 22)
  have b9 := ((Boxed.new (w.alloc (.cells #[.int .i64 p] 3)) 3 (.int .i64 0)).alloc (.cells #[.int .i64 r] 3)).alloc (.cells #[.slice A n c] 22)
  have b10 := (Boxed.new ((w.alloc (.cells #[.int .i64 p] 3)).alloc (.cells #[.int .i64 0] 3)) 3 (.int .i64 r)).alloc (.cells #[.slice A n c] 22)
  have bs := Boxed.new (((w.alloc (.cells #[.int .i64 p] 3)).alloc (.cells #[.int .i64 0] 3)).alloc (.cells #[.int .i64 r] 3)) 22 (.slice A n c)
  simp only [World.size_alloc] at b9 b10 bs
  have hB0 := ((((Below.refl _ w).alloc (Nat.le_refl _) (.cells #[.int .i64 p] 3)).alloc (by simp) (.cells #[.int .i64 0] 3)).alloc (by simp; omega) (.cells #[.int .i64 r] 3)).alloc (by simp; omega) (.cells #[.slice A n c] 22)
  have hsz : ((((w.alloc (.cells #[.int .i64 p] 3)).alloc (.cells #[.int .i64 0] 3)).alloc (.cells #[.int .i64 r] 3)).alloc (.cells #[.slice A n c] 22)).heap.size = w.heap.size + 4 := by simp
  generalize ((((w.alloc (.cells #[.int .i64 p] 3)).alloc (.cells #[.int .i64 0] 3)).alloc (.cells #[.int .i64 r] 3)).alloc (.cells #[.slice A n c] 22)) = W4 at *
  have hI : n = 0 ∨ ∃ b off, A = some ⟨b, off, none⟩ ∧ b < w.heap.size ∧ ∀ j, j < n → W4.cell? ⟨b, off + j, none⟩ = some (.int .i64 (cf xs j)) := by
    rcases Nat.eq_zero_or_pos n with h0 | h0
    · exact .inl h0
    · obtain ⟨b, o, rfl, hbl, hc⟩ := H.out.cf_ h0
      exact .inr ⟨b, o, rfl, hbl, fun j hj => (hB0.cell (p := ⟨b, o + j, none⟩) hbl).trans (hc j hj)⟩
  refine wpIn_rangeFunc_ownG rfl (by omega) (gf := 81) (lb := #[.pointer (some ⟨w.heap.size + 1 + 1 + 1, 0, none⟩)]) rfl trivial (enters_of Tryd.func81 (by kernel_rfl) rfl)
    (backI_stops (fun v : Int => .int .i64 v) (cf xs) Fence.wide _ trivial rfl (by omega) (w.heap.size + 1 + 1 + 1) w.heap.size n c A (by omega) W4 (by omega) (by omega) bs.cell hI) KpB.trans (KpB.put (w := W4) (by omega) (by omega)) (Below.refl _ _) (fun _ => rfl)
    (fun pre W => ((W.cell? ⟨w.heap.size + 1, 0, none⟩ = some (.int .i64 (hv r p pre)) ∧ W.frozen? ⟨w.heap.size + 1, 0, none⟩ = false) ∧ W.cell? ⟨w.heap.size + 1 + 1, 0, none⟩ = some (.int .i64 r) ∧ W.cell? ⟨w.heap.size, 0, none⟩ = some (.int .i64 p)) ∧ Below w.heap.size w W)
    (fun _ _ _ => False)
    (OwnFrom.and (Own.from (fun s A B row hs hg hr => ⟨⟨cell_kept hs.1.1 hg hr, (frozen_kept hs.1.1 hg hr).trans hs.1.2⟩, cell_kept hs.2.1 hg hr, cell_kept hs.2.2 hg hr⟩) _) (ownFrom_below (Nat.le_refl _) (by omega)))
    (fun _ _ _ _ _ hs _ _ => hs)
    ⟨⟨⟨b9.cell, b9.frozen⟩, b10.cell, b5.cell⟩, hB0⟩
    (fun y => { tmps := #[.slice A n c, .int .i64 x, .int .i64 p, undef, undef, .pointer (some ⟨w.heap.size, 0, none⟩), .int .i64 0, .int .i64 0, .int .i64 0, .pointer (some ⟨w.heap.size + 1, 0, none⟩), .pointer (some ⟨w.heap.size + 1 + 1, 0, none⟩), undef, .int .i64 y.2, .int .i64 p, .int .i64 0, .int .i64 0, .bool false, undef, .int .i64 x, .int .i64 p, .int .i64 r, .slice A n c, .func (.func 81) #[] #[.pointer (some ⟨w.heap.size + 1 + 1 + 1, 0, none⟩)], .int .i64 (y.1 : Int), .int .i64 y.2, undef, undef, undef, undef, undef, undef, undef, undef, undef, undef], defers := [] }) ?assign ?body ?done ?stop
  case assign =>
    intro l x W K hK
    gi_wp2
    exact hK
  case body =>
    rintro l pre y W ⟨⟨⟨hc, hf⟩, hc10, hc5⟩, hB⟩ _
    have hd : 1 ≤ 3 - 1 - 1 := by omega
    have hmx : Tryd.prog.follows .mixedOrders = true := by kernel_rfl
    have hbd := hv_bd (r := r) (p := p) (by omega) pre
    have hsn := hv_snoc r p pre y
    generalize hv r p pre = v at *
    obtain ⟨y0, y1⟩ := y
    have hbd1 := hbd.1
    have hbd2 := hbd.2
    have bm := mul_bdM hbd hr1 hp2
    obtain ⟨P, hP⟩ : ∃ P, v * r = P := ⟨_, rfl⟩
    obtain ⟨z, hz⟩ : ∃ z, y1 % p = z := ⟨_, rfl⟩
    have z1 : 0 ≤ z ∧ z < p := by rw [← hz]; exact ⟨Int.emod_nonneg _ (by omega), Int.emod_lt_of_pos _ (by omega)⟩
    have z11 := z1.1
    have z12 := z1.2
    rw [hP] at bm hsn
    rw [hz] at hsn
    have bm1 := bm.1
    have bm2 := bm.2
    obtain ⟨q, hq⟩ : ∃ q, (P + z) % p = q := ⟨_, rfl⟩
    rw [hq] at hsn
    have R1 : ∀ W, Calls Tryd.prog 56 #[.int .i64 y1, .int .i64 p] W fun e w' => e = .returned (.int .i64 z) ∧ W = w' := fun W => by have := RR.out y1 W; rwa [hz] at this
    have R2 : ∀ W, Calls Tryd.prog 56 #[.int .i64 (P + z), .int .i64 p] W fun e w' => e = .returned (.int .i64 q) ∧ W = w' := fun W => by have := RR.out (P + z) W; rwa [hq] at this
    have RR1 := Lib.hid R1
    have RR2 := Lib.hid R2
    have HSN := Lib.hid hsn
    have m1 : IntKind.i64.wrap (v * r) = P := by rw [hP, IntKind.wrap_i64]; omega
    have m2 : IntKind.i64.wrap (P + z) = P + z := by rw [IntKind.wrap_i64]; omega
    have m3 : wrap64 (v * r) = P := by rw [hP]; unfold wrap64; omega
    have m4 : wrap64 (P + z) = P + z := by unfold wrap64; omega
    have m5 : wrap64 P = P := by unfold wrap64; omega
    clear hbd bm R1 R2 hP hz hq hsn z1 hr hr1 hI bs b5 b9 b10
    gi_wp2
    refine region_round (fun W' => W'.cell? ⟨w.heap.size + 1 + 1, 0, none⟩ = some (.int .i64 r) ∧ W'.cell? ⟨w.heap.size, 0, none⟩ = some (.int .i64 p)) (by kernel_rfl) (by kernel_rfl) ?_
    have hS : W.drew.cell? ⟨w.heap.size + 1 + 1, 0, none⟩ = some (.int .i64 r) ∧ W.drew.cell? ⟨w.heap.size, 0, none⟩ = some (.int .i64 p) := ⟨hc10, hc5⟩
    refine wpAnyH_take (i := 1) (v := .int .i64 r) rfl (by kernel_rfl) (by kernel_rfl) (by kernel_rfl) (fun c a w h => onlyN_q c w h) (.inl ⟨by rfl, fun W' hS' => ?_⟩) hS ?_
    · obtain ⟨s1, s2⟩ := hS'
      go_simp
    simp only [Act.put, List.setIfInBounds_toArray]
    refine wpAnyH_take (i := 3) (v := .int .i64 y1) rfl (by kernel_rfl) (by kernel_rfl) (by kernel_rfl) (fun c a w h => onlyN_q c w h) (.inl ⟨by rfl, fun W' hS' => ?_⟩) hS ?_
    · obtain ⟨s1, s2⟩ := hS'
      go_simp
    simp only [Act.put]
    refine wpAnyH_take (i := 4) (v := .int .i64 p) rfl (by kernel_rfl) (by kernel_rfl) (by kernel_rfl) (fun c a w h => onlyN_q c w h) (.inl ⟨by rfl, fun W' hS' => ?_⟩) hS ?_
    · obtain ⟨s1, s2⟩ := hS'
      go_simp
    simp only [Act.put]
    refine wpAnyH_take (i := 7) (v := .int .i64 p) rfl (by kernel_rfl) (by kernel_rfl) (by kernel_rfl) (fun c a w h => onlyN_q c w h) (.inl ⟨by rfl, fun W' hS' => ?_⟩) hS ?_
    · obtain ⟨s1, s2⟩ := hS'
      go_simp
    simp only [Act.put]
    refine wpAnyH_ready (rs := [0, 5]) (by kernel_rfl) (by simp) (AllReadyH.cons rfl (fun K hK => ?_) (AllReadyH.cons rfl (fun K hK => ?_) AllReadyH.nil))
    · go_simp
      refine hK.out _ _ hS (fun hS => ?_)
      clear hK K
      refine wpAnyH_take (i := 2) (v := .int .i64 P) rfl (by kernel_rfl) (by kernel_rfl) (by kernel_rfl) (fun c a w h => onlyN_q c w h) (.inl ⟨by rfl, fun W' hS' => ?_⟩) hS ?_
      · obtain ⟨s1, s2⟩ := hS'
        go_simp
      simp only [Act.put]
      refine wpAnyH_ready (rs := [5]) (by kernel_rfl) (by simp) (AllReadyH.cons rfl (fun K hK => ?_) AllReadyH.nil)
      go_simp
      refine (RR1.out _).mono ?_
      rintro e w' ⟨rfl, rfl⟩
      refine hK.out _ _ hS (fun hS => ?_)
      clear hK K
      refine wpAnyH_take (i := 6) (v := .int .i64 (P + z)) rfl (by kernel_rfl) (by kernel_rfl) (by kernel_rfl) (fun c a w h => onlyN_q c w h) (.inl ⟨by rfl, fun W' hS' => ?_⟩) hS ?_
      · obtain ⟨s1, s2⟩ := hS'
        go_simp
      simp only [Act.put]
      refine wpAnyH_ready (rs := [8]) (by kernel_rfl) (by simp) (AllReadyH.cons rfl (fun K hK => ?_) AllReadyH.nil)
      go_simp
      refine (RR2.out _).mono ?_
      rintro e w' ⟨rfl, rfl⟩
      refine hK.out _ _ hS (fun hS => ?_)
      clear hK K
      refine wpAnyH_ready (rs := [9]) (by kernel_rfl) (by simp) (AllReadyH.cons rfl (fun K hK => ?_) AllReadyH.nil)
      go_simp
      refine hK.out _ _ ?_ (fun _ => wpAnyH_done (by kernel_rfl) ⟨rfl, ?_⟩ _)
      · obtain ⟨s1, s2⟩ := hS
        exact ⟨by rw [World.cell?_drew]; exact sc_far (by simp) s1, by rw [World.cell?_drew]; exact sc_far (by simp) s2⟩
      · (try simp only [Exit.inBlock])
        exact ⟨((KeepsOthers.setCell _ _ _).trans (KeepsOthers.drew _)).from _, ((KpB.refl _ _ W).set ⟨w.heap.size + 1, 0, none⟩ (Nat.le_succ _) (show w.heap.size + 1 + 1 + 1 ≠ w.heap.size + 1 by omega) _).drew, ⟨⟨by rw [HSN.out, World.cell?_drew]; exact World.cell?_setCell_same' _ _ _ (by rw [hc]; rfl), by rw [frozen_drew_own, World.frozen?_setCell]; exact hf⟩, by rw [World.cell?_drew]; exact sc_far (by simp) hc10, by rw [World.cell?_drew]; exact sc_far (by simp) hc5⟩, (hB.setCell (p := ⟨w.heap.size + 1, 0, none⟩) (Nat.le_succ _) _).drew⟩
    · go_simp
      refine (RR1.out _).mono ?_
      rintro e w' ⟨rfl, rfl⟩
      refine hK.out _ _ hS (fun hS => ?_)
      clear hK K
      refine wpAnyH_ready (rs := [0]) (by kernel_rfl) (by simp) (AllReadyH.cons rfl (fun K hK => ?_) AllReadyH.nil)
      go_simp
      refine hK.out _ _ hS (fun hS => ?_)
      clear hK K
      refine wpAnyH_take (i := 2) (v := .int .i64 P) rfl (by kernel_rfl) (by kernel_rfl) (by kernel_rfl) (fun c a w h => onlyN_q c w h) (.inl ⟨by rfl, fun W' hS' => ?_⟩) hS ?_
      · obtain ⟨s1, s2⟩ := hS'
        go_simp
      simp only [Act.put]
      refine wpAnyH_take (i := 6) (v := .int .i64 (P + z)) rfl (by kernel_rfl) (by kernel_rfl) (by kernel_rfl) (fun c a w h => onlyN_q c w h) (.inl ⟨by rfl, fun W' hS' => ?_⟩) hS ?_
      · obtain ⟨s1, s2⟩ := hS'
        go_simp
      simp only [Act.put]
      refine wpAnyH_ready (rs := [8]) (by kernel_rfl) (by simp) (AllReadyH.cons rfl (fun K hK => ?_) AllReadyH.nil)
      go_simp
      refine (RR2.out _).mono ?_
      rintro e w' ⟨rfl, rfl⟩
      refine hK.out _ _ hS (fun hS => ?_)
      clear hK K
      refine wpAnyH_ready (rs := [9]) (by kernel_rfl) (by simp) (AllReadyH.cons rfl (fun K hK => ?_) AllReadyH.nil)
      go_simp
      refine hK.out _ _ ?_ (fun _ => wpAnyH_done (by kernel_rfl) ⟨rfl, ?_⟩ _)
      · obtain ⟨s1, s2⟩ := hS
        exact ⟨by rw [World.cell?_drew]; exact sc_far (by simp) s1, by rw [World.cell?_drew]; exact sc_far (by simp) s2⟩
      · (try simp only [Exit.inBlock])
        exact ⟨((KeepsOthers.setCell _ _ _).trans (KeepsOthers.drew _)).from _, ((KpB.refl _ _ W).set ⟨w.heap.size + 1, 0, none⟩ (Nat.le_succ _) (show w.heap.size + 1 + 1 + 1 ≠ w.heap.size + 1 by omega) _).drew, ⟨⟨by rw [HSN.out, World.cell?_drew]; exact World.cell?_setCell_same' _ _ _ (by rw [hc]; rfl), by rw [frozen_drew_own, World.frozen?_setCell]; exact hf⟩, by rw [World.cell?_drew]; exact sc_far (by simp) hc10, by rw [World.cell?_drew]; exact sc_far (by simp) hc5⟩, (hB.setCell (p := ⟨w.heap.size + 1, 0, none⟩) (Nat.le_succ _) _).drew⟩
  case done =>
    rintro D ys W hD rfl ⟨⟨⟨hc, hf⟩, hc10, hc5⟩, hB⟩ hK
    have hfin : hv r p (upto (downs (cf xs) n) n) = evL x xs % p := by
      rw [← hr, H.out.len, hv_upto (Nat.le_refl _), Nat.sub_self, List.drop_zero]
    obtain ⟨res, hres⟩ : ∃ res, evL x xs % p = res := ⟨_, rfl⟩
    rw [hfin, hres] at hc
    have HRES := Lib.hid hres
    clear hres hfin
    gi_wp2
    refine ⟨by simp, .inl ⟨_, _, rfl, run_takeDeferred hK, ?_⟩⟩
    exact ⟨_, results_tmp2 rfl _ _ _, (by rw [HRES.out] <;> rfl), hB.trans (belowK_b (w := w) (Nat.le_refl _) W D _ _ (by omega) hK rfl rfl)⟩
  case stop =>
    rintro D c pre W _ _ h _
    exact h.elim

set_option maxRecDepth 100000 in
set_option maxHeartbeats 1000000 in
theorem cEval (A : Option Addr) (n c : Nat) (xs : List Int) (x p : Int) (w : World) (hT : TabAt w) (h : ISl w A n c xs) (ip : In64 p) (hn : n ≤ 100000000) :
    Calls Tryd.prog 29 #[.slice A n c, .int .i64 x, .int .i64 p] w fun e w' => e = .returned (.tuple #[.int .i64 (evP' x p xs), .int .i64 (chk p)]) ∧ Below w.heap.size w w' := by
  have hT2 := hT.below (below_al w (.cells #[.int .i64 p] 3))
  rcases Classical.em (Pr p) with hp | hp
  · rw [chk_yes (primB_yes hp), show evP' x p xs = evL x xs % p from if_pos (primB_yes hp)]
    exact pEval_any A n c xs x p w hT2 h hp hn
  · rw [chk_no (primB_no hp), show evP' x p xs = 0 from if_neg (by rw [primB_no hp]; decide)]
    have C := pCheck_any p _ ip.1 ip.2 hT2
    rw [chk_no (primB_no hp)] at C
    have CC := Lib.hid C
    have BB := Lib.hid (below_al w (.cells #[.int .i64 p] 3))
    clear C hT hT2 h hp ip
    refine (callsIn_wide (n := 3)).1 ?_
    refine callsIn_of_wp_marks Tryd.func29 rfl trivial ?_ rfl
    simp only [Tryd.ntmps29, List.size_toArray, List.length_cons, List.length_nil, Nat.reduceAdd, Nat.reduceSub, Array.replicate_succ, Array.replicate_zero, List.push_toArray, List.append_toArray, List.nil_append, List.cons_append]
    gi_wp2_with (first
      | (refine ⟨trivial, ?_⟩; gi_at_call 36; refine CallsIn.mono (callsIn_wide.2 CC.out) ?_; rintro e w1 ⟨rfl, rfl⟩))
    first
      | exact ⟨_, results_tmp2 rfl _ _ _, rfl, BB.out⟩
      | exact ⟨rfl, _, results_tmp2 rfl _ _ _, rfl, BB.out⟩
end Go.Proofs.YtbipbpakbanacaaDoor

/- Powers' rests, limb by limb and bit by bit; what a round of a loop over a function keeps. -/
namespace Go.Proofs.YtbipbpakbanacaaDoor
open Go.RowKit

theorem RestOf.both {p : Int} {m : Nat} {F f b z o r : Ser} (h : RestOf p m F b z) (k : RestOf p m f b o) (hF : Fini p F) (ho : Fini p o) (e : RestOf p m (Ser.mul z o) b r) : RestOf p m (Ser.mul F f) b r := by
  have h1 := h.mulR ho e
  rw [Ser.mul_comm] at h1
  have h2 := k.mulR hF h1
  rwa [Ser.mul_comm] at h2

/-- The number of the limbs that have come, from the highest one down. -/
def ev : List (Nat × Nat) → Nat := List.foldl (fun e x => e * 18446744073709551616 + x.2 % 18446744073709551616) 0
theorem ev_snoc (pre : List (Nat × Nat)) (x : Nat × Nat) : ev (pre ++ [x]) = ev pre * 18446744073709551616 + x.2 % 18446744073709551616 := by simp [ev]
theorem ev_upto {es : List Nat} (hf : Fit es) : ∀ k, k ≤ es.length → ev (upto (downs (fun j => es.getD j 0) es.length) k) = val (es.drop (es.length - k)) := by
  intro k
  induction k with
  | zero => intro _; rw [Nat.sub_zero, List.drop_length]; rfl
  | succ k ih =>
    intro hk
    rw [upto_succ, ev_snoc, ih (by omega)]
    show _ + es.getD (es.length - 1 - k) 0 % _ = _
    have hlt : es.length - (k + 1) < es.length := by omega
    rw [List.drop_eq_getElem_cons hlt, val, show es.length - (k + 1) + 1 = es.length - k from by omega, show es.length - 1 - k = es.length - (k + 1) from by omega]
    have hx := fit_getD hf (es.length - (k + 1))
    rw [Nat.mod_eq_of_lt hx, List.getD_eq_getElem?_getD, List.getElem?_eq_getElem hlt]
    show _ = es[es.length - (k + 1)] + _
    simp only [Option.getD_some]
    omega
/-- A limb's bits stand below those that have come. -/
theorem ev_bit (e x t : Nat) (ht : t < 64) : (e * 18446744073709551616 + x) / 2 ^ t % 2 = x / 2 ^ t % 2 := by
  have h1 : (18446744073709551616 : Nat) = 2 ^ t * (2 * 2 ^ (63 - t)) := by
    rw [show (18446744073709551616 : Nat) = 2 ^ 64 from rfl, ← Nat.pow_succ', ← Nat.pow_add]
    congr 1
    omega
  rw [h1, show e * (2 ^ t * (2 * 2 ^ (63 - t))) + x = x + 2 ^ t * (e * (2 * 2 ^ (63 - t))) from by rw [Nat.add_comm, Nat.mul_left_comm], Nat.add_mul_div_left _ _ (Nat.two_pow_pos t), show e * (2 * 2 ^ (63 - t)) = 2 * (e * 2 ^ (63 - t)) from Nat.mul_left_comm _ _ _, Nat.add_mul_mod_self_left]
theorem ev_top (e x : Nat) (hx : x < 18446744073709551616) : (e * 18446744073709551616 + x) / 2 ^ 64 = e := by
  rw [show (2 : Nat) ^ 64 = 18446744073709551616 from rfl]
  omega

theorem isl_own {W W' : World} {row : Option Nat} {A : Option Addr} {n c : Nat} {xs : List Int} (h : ISl W A n c xs) (hg : W.grownBy W' row) (hr : ∀ r, row = some r → ∃ o : Obj, W.heap[r]? = some o ∧ o.isCells = false) : ISl W' A n c xs := by
  refine ⟨h.1, h.2.1, h.2.2.1, h.2.2.2.1, h.rd.1, h.rd.2.imp id ?_⟩
  rintro ⟨b, o, rfl, hlt, hc⟩
  exact ⟨b, o, rfl, Nat.lt_of_lt_of_le hlt hg.size, fun j hj => cell_kept (hc j hj) hg hr⟩
/-- A slice of ints lies in no variable's box of a slice. -/
theorem isl_box {W : World} {A : Option Addr} {n c g k d : Nat} {xs : List Int} {C : Option Addr} {t : TypeId} (h : ISl W A n c xs) (hb : Boxed W g t (.slice C k d)) : IApart A xs g := by
  rcases h.rd.2 with h0 | ⟨b, o, rfl, hlt, hc⟩
  · exact .inl h0
  · cases xs with
    | nil => exact .inl rfl
    | cons x xs =>
      refine .inr fun b' o' s' e => ?_
      simp only [Option.some.injEq, Addr.mk.injEq] at e
      obtain ⟨rfl, _, _⟩ := e
      intro hbg
      subst hbg
      have h1 := hc 0 (by simp)
      rw [cell_of_row W b (o + 0) _ _ (0, 0) hb] at h1
      cases o with
      | zero => simp at h1
      | succ o => simp at h1
theorem keepsFrom_of_below {B : Nat} {W W' : World} (h : Below W.heap.size W W') : KeepsFrom B W W' :=
  ⟨h.size, fun k _ _ hk _ => (h.block k (Array.getElem?_eq_some_iff.1 hk).1).trans hk⟩

/-- What a power's rounds know of the world: the divisor, the modulus, what is multiplied by, the rest so far. -/
structure PwIn (B6 B7 B10 B12 : Nat) (t12 : TypeId) (B : Option Addr) (n' c' : Nat) (O : Option Addr) (k0 d0 : Nat) (os : List Int) (p : Int) (m : Nat) (b : Ser) (F : Ser) (W : World) : Prop where
  c6 : W.cell? ⟨B6, 0, none⟩ = some (.slice B n' c')
  c7 : W.cell? ⟨B7, 0, none⟩ = some (.int .i64 p)
  c10 : W.cell? ⟨B10, 0, none⟩ = some (.slice O k0 d0)
  so : ISl W O k0 d0 os
  z : ∃ C k d rs, Boxed W B12 t12 (.slice C k d) ∧ ISl W C k d rs ∧ Pln p rs ∧ RestOf p m F b (cf rs) ∧ k ≤ m
theorem PwIn.own {β : Type} {B6 B7 B10 B12 : Nat} {t12 : TypeId} {B : Option Addr} {n' c' : Nat} {O : Option Addr} {k0 d0 : Nat} {os : List Int} {p : Int} {m : Nat} {b : Ser} (F : β → Ser) :
    Go.Own (fun s W => PwIn B6 B7 B10 B12 t12 B n' c' O k0 d0 os p m b (F s) W) := by
  intro s W W' row hs hg hr
  obtain ⟨c6, c7, c10, so, C, k, d, rs, hb, hi, hp, hro, hk⟩ := hs
  refine ⟨cell_kept c6 hg hr, cell_kept c7 hg hr, cell_kept c10 hg hr, isl_own so hg hr, C, k, d, rs, hb.kept hg (fun e => ?_), isl_own hi hg hr, hp, hro, hk⟩
  obtain ⟨o, ho, hc⟩ := hr B12 e.symm
  rw [show W.heap[B12]? = _ from hb] at ho
  cases ho
  cases hc
end Go.Proofs.YtbipbpakbanacaaDoor

/- zint.Of of a number that isn't below 0, by its contract. -/
namespace Go.Proofs.YtbipbpakbanacaaDoor
open Go.RowKit

theorem Sl.farS {w : World} {g o n c : Nat} {xs : List Nat} (h : Sl w (some ⟨g, o, none⟩) n c xs) {p : Addr} (hp : g ≠ p.block) (u : Value) : Sl (w.setCell p u) (some ⟨g, o, none⟩) n c xs := by
  refine ⟨h.1, h.2.1, h.2.2.1, h.2.2.2.1, h.rd.1, ?_⟩
  rcases h.rd.2 with h0 | ⟨b, o', e, hlt, hc⟩
  · exact .inl h0
  · simp only [Option.some.injEq, Addr.mk.injEq, and_true] at e
    obtain ⟨rfl, rfl⟩ := e
    exact .inr ⟨g, o, rfl, by simpa [World.setCell] using hlt, fun j hj => (World.cell?_of_block (w := w) (Below.heap_setCell w p u g hp)).trans (hc j hj)⟩

set_option maxHeartbeats 1000000 in
theorem zSigned_no (A : Option Addr) (n c : Nat) (w : World) :
    Calls Tryd.prog 69 #[.bool false, .slice A n c] w fun e w' => e = .returned (.agg #[.bool false, .slice A n c]) ∧ Below w.heap.size w w' := by
  go_enter Tryd.func69, Tryd.ntmps69
  go_wp2_with fail
  exact bodyPost_ret (v := .agg #[.bool false, .slice A n c]) (by simp [results, Tryd.results69, go_sem]) rfl ⟨rfl, (Below.refl _ _).alloc (Nat.le_refl _) _⟩

set_option maxHeartbeats 1000000 in
theorem zOf (k : Nat) (hk : k ≤ 9223372036854775807) (w : World) :
    Calls Tryd.prog 41 #[.int .i64 (k : Int)] w fun e w' => ∃ E m d es, e = .returned (.agg #[.bool false, .slice E m d]) ∧ Sl w' E m d es ∧ val es = k ∧ m ≤ 1 ∧ Below w.heap.size w w' := by
  have h0 : ¬ (k : Int) < 0 := by omega
  go_enter Tryd.func41, Tryd.ntmps41
  go_wp2_with fail
  have hal : Below w.heap.size w ((w.alloc (Obj.cells #[Value.bool false, Value.slice none 0 0] 40)).alloc (Obj.cells #[Value.int .u64 (k : Int)] 70)) := ((Below.refl _ _).alloc (Nat.le_refl _) _).alloc (by simp) _
  have hk1 := (blk_one (w.alloc (Obj.cells #[Value.bool false, Value.slice none 0 0] 40)) k (by omega)).sl (by simp)
  have hs1 : Sl ((w.alloc (Obj.cells #[Value.bool false, Value.slice none 0 0] 40)).alloc (Obj.cells #[Value.int .u64 (k : Int)] 70)) (some ⟨w.heap.size + 1, 0, none⟩) 1 1 [k] := by
    have e : (w.alloc (Obj.cells #[Value.bool false, Value.slice none 0 0] 40)).heap.size = w.heap.size + 1 := by simp
    rw [e] at hk1
    exact hk1
  have HN := Lib.hid (norm_at _ 1 1 [k] _ hs1 (by omega))
  with_reducible refine HN.out.mono ?_
  rintro e w1 ⟨g, m, rfl, hg, hs, hm, hb⟩
  have HG : Hid (g ≠ w.heap.size) := Lib.hid (by simp at hg; omega)
  have HS := Lib.hid hs
  have HB := Lib.hid hb
  have HA := Lib.hid hal
  clear hk1 hs1 hs hb hal HN hg
  go_wp2_with fail
  refine (zSigned_no (some ⟨g, 0, none⟩) m m w1).mono ?_
  rintro e w2 ⟨rfl, hb2⟩
  have hb12 : Below (w.heap.size + 2) ((w.alloc (Obj.cells #[Value.bool false, Value.slice none 0 0] 40)).alloc (Obj.cells #[Value.int .u64 (k : Int)] 70)) w2 := by
    have h1 := HB.out
    have e : ((w.alloc (Obj.cells #[Value.bool false, Value.slice none 0 0] 40)).alloc (Obj.cells #[Value.int .u64 (k : Int)] 70)).heap.size = w.heap.size + 2 := by simp
    rw [e] at h1
    exact h1.trans (hb2.mono (by rw [← e]; exact HB.out.size))
  have hc : ∀ b o, b < w.heap.size + 2 → w2.cell? ⟨b, o, none⟩ = ((w.alloc (Obj.cells #[Value.bool false, Value.slice none 0 0] 40)).alloc (Obj.cells #[Value.int .u64 (k : Int)] 70)).cell? ⟨b, o, none⟩ := fun b o h => hb12.cell (p := ⟨b, o, none⟩) h
  have hf : ∀ b o, b < w.heap.size + 2 → w2.frozen? ⟨b, o, none⟩ = ((w.alloc (Obj.cells #[Value.bool false, Value.slice none 0 0] 40)).alloc (Obj.cells #[Value.int .u64 (k : Int)] 70)).frozen? ⟨b, o, none⟩ := fun b o h => hb12.frozen (p := ⟨b, o, none⟩) h
  have HS2 := Lib.hid (HS.out.below hb2)
  have HB2 := Lib.hid (HA.out.trans (hb12.mono (by omega)))
  clear hb2 hb12
  go_wp2_with fail
  refine bodyPost_ret (v := .agg #[.bool false, .slice (some ⟨g, 0, none⟩) m m]) (by simp [results, Tryd.results41, go_sem, hc]) rfl ⟨_, _, _, nrm (val [k]), rfl, (HS2.out.farS HG.out _).farS HG.out _, by rw [val_nrm]; simp [val], hm, (HB2.out.setCell (Nat.le_refl _) _).setCell (Nat.le_refl _) _⟩
end Go.Proofs.YtbipbpakbanacaaDoor

/- zint.Sign and zint.Norm of the program, by their contracts. -/
namespace Go.Proofs.YtbipbpakbanacaaDoor
open Go.RowKit

theorem bitLen_zero_iff (v : Nat) : bitLen v = 0 ↔ v = 0 := by
  constructor
  · intro h
    have := lt_bitLen v
    rw [h] at this
    omega
  · rintro rfl
    unfold bitLen
    rfl

set_option maxHeartbeats 1000000 in
theorem pSign_any (neg : Bool) (A : Option Addr) (n c : Nat) (xs : List Nat) (w : World) (h : Sl w A n c xs) (hn : n ≤ 17592186044416) :
    Calls Tryd.prog 62 #[.agg #[.bool neg, .slice A n c]] w fun e w' => e = .returned (.int .i64 (zsg neg (val xs))) ∧ Below w.heap.size w w' := by
  have B := bits_any A n c xs _ (h.below (show Below w.heap.size w (w.alloc (.cells #[.bool neg, .slice A n c] 40)) from (Below.refl _ _).alloc (Nat.le_refl _) _)) (by omega)
  have BB := Lib.hid B
  have HB := Lib.hid (show Below w.heap.size w (w.alloc (.cells #[.bool neg, .slice A n c] 40)) from (Below.refl _ _).alloc (Nat.le_refl _) _)
  have hz : bitLen (val xs) = 0 ↔ val xs = 0 := bitLen_zero_iff _
  generalize val xs = V at *
  clear B h
  by_cases h0 : V = 0
  · have hb := hz.2 h0
    rw [hb] at BB
    have e : zsg neg V = 0 := if_pos h0
    rw [e]
    clear hz hb e
    go_enter Tryd.func62, Tryd.ntmps62
    go_wp2_with (go_at_call 85; (with_reducible refine BB.out.mono ?_); rintro e w' ⟨rfl, rfl⟩)
    go_ret
    exact ⟨rfl, HB.out⟩
  · have hb : bitLen V ≠ 0 := fun h => h0 (hz.1 h)
    generalize bitLen V = b at *
    have hb1 : ((b : Int) == 0) = false := by simp; omega
    have hb2 : ¬ (b : Int) = 0 := by omega
    cases neg
    · have e : zsg false V = 1 := by unfold zsg; rw [if_neg h0]; rfl
      rw [e]
      clear hz e hb
      go_enter Tryd.func62, Tryd.ntmps62
      go_wp2_with (go_at_call 85; (with_reducible refine BB.out.mono ?_); rintro e w' ⟨rfl, rfl⟩)
      go_ret
      exact ⟨rfl, HB.out⟩
    · have e : zsg true V = -1 := by unfold zsg; rw [if_neg h0]; rfl
      rw [e]
      clear hz e hb
      go_enter Tryd.func62, Tryd.ntmps62
      go_wp2_with (go_at_call 85; (with_reducible refine BB.out.mono ?_); rintro e w' ⟨rfl, rfl⟩)
      go_ret
      exact ⟨rfl, HB.out⟩

set_option maxHeartbeats 1000000 in
theorem zSigned_any (neg : Bool) (A : Option Addr) (n c : Nat) (w : World) :
    Calls Tryd.prog 69 #[.bool neg, .slice A n c] w fun e w' => e = .returned (.agg #[.bool (neg && decide (n ≠ 0)), .slice A n c]) ∧ Below w.heap.size w w' := by
  cases neg
  · refine (zSigned_no A n c w).mono ?_
    rintro e w' ⟨rfl, h⟩
    exact ⟨rfl, h⟩
  · by_cases h0 : n = 0
    · subst h0
      go_enter Tryd.func69, Tryd.ntmps69
      go_wp2_with fail
      exact bodyPost_ret (v := .agg #[.bool false, .slice A 0 c]) (by simp [results, Tryd.results69, go_sem]) rfl ⟨by simp, (Below.refl _ _).alloc (Nat.le_refl _) _⟩
    · have hp : 0 < n := by omega
      go_enter Tryd.func69, Tryd.ntmps69
      go_wp2_with fail
      exact bodyPost_ret (v := .agg #[.bool true, .slice A n c]) (by simp [results, Tryd.results69, go_sem]) rfl ⟨by simp [h0], (Below.refl _ _).alloc (Nat.le_refl _) _⟩

set_option maxHeartbeats 1000000 in
theorem pZNorm_any (neg : Bool) (A : Option Addr) (n c : Nat) (xs : List Nat) (w : World) (h : Sl w A n c xs) (hn : n ≤ 17592186044416) :
    Calls Tryd.prog 64 #[.agg #[.bool neg, .slice A n c]] w fun e w' => ∃ b E m d, e = .returned (.agg #[.bool b, .slice E m d]) ∧ Sl w' E m d (nrm (val xs)) ∧ m ≤ n ∧ Below w.heap.size w w' := by
  have H := Lib.hid h
  clear h
  obtain ⟨w2, hw2⟩ : ∃ w2, w2 = (w.alloc (.cells #[.bool neg, .slice A n c] 40)).alloc (.cells #[.bool false, .slice none 0 0] 40) := ⟨_, rfl⟩
  have hb2 : Below w.heap.size w w2 := by rw [hw2]; exact ((Below.refl _ _).alloc (Nat.le_refl _) _).alloc (by simp) _
  have hs2 : w2.heap.size = w.heap.size + 2 := by rw [hw2]; simp
  have c0 : w2.cell? ⟨w.heap.size, 0, none⟩ = some (.bool neg) := by rw [hw2]; simp
  have c1 : w2.cell? ⟨w.heap.size, 1, none⟩ = some (.slice A n c) := by rw [hw2]; simp
  have r0 : w2.cell? ⟨w.heap.size + 1, 0, none⟩ = some (.bool false) := by rw [hw2]; simp
  have r1 : w2.cell? ⟨w.heap.size + 1, 1, none⟩ = some (.slice none 0 0) := by rw [hw2]; simp
  have f0 : w2.frozen? ⟨w.heap.size + 1, 0, none⟩ = false := by rw [hw2]; simp
  have f1 : w2.frozen? ⟨w.heap.size + 1, 1, none⟩ = false := by rw [hw2]; simp
  have NN := Lib.hid (fun W (hb : Below w2.heap.size w2 W) => norm_at A n c xs W ((H.out.below hb2).below hb) (by omega))
  have HB2 := Lib.hid hb2
  have HS2 := Lib.hid hs2
  go_enter Tryd.func64, Tryd.ntmps64
  go_wp2_with fail
  rw [← hw2]
  clear hw2 hb2
  go_region_held3 (fun W => W.cell? ⟨w.heap.size, 0, none⟩ = some (.bool neg) ∧ W.cell? ⟨w.heap.size, 1, none⟩ = some (.slice A n c))
    (first
      | go_keep
      | (constructor <;> (first | (rw [hb6.cell (by show w.heap.size < _; omega)]; first | assumption | go_keep)))
      | (constructor <;> (first | (rw [hb5.cell (by show w.heap.size < _; omega)]; first | assumption | go_keep))))
    (first
      | (go_at_call 70; refine (NN.out _ ((Below.refl _ _).drew)).mono ?_; rintro e w5 ⟨g, m, rfl, hg, hs, hm, hb5'⟩; have hb5 : Below w2.heap.size w2 w5 := ((Below.refl _ _).drew).trans hb5'; have HS5 := Lib.hid hs; have HG5 := Lib.hid hg; clear hb5' hs hg; have hz5 := hb5.size)
      | (go_at_call 69; refine (zSigned_any neg _ _ _ _).mono ?_; rintro e w6 ⟨rfl, hb6⟩; have HB6 := Lib.hid (hb5.trans (hb6.mono hz5)); have HS6 := Lib.hid (HS5.out.below hb6); have r0' : w6.cell? ⟨w.heap.size + 1, 0, none⟩ = some (.bool false) := (HB6.out.cell (p := ⟨w.heap.size + 1, 0, none⟩) (by show w.heap.size + 1 < _; omega)).trans r0; have r1' : w6.cell? ⟨w.heap.size + 1, 1, none⟩ = some (.slice none 0 0) := (HB6.out.cell (p := ⟨w.heap.size + 1, 1, none⟩) (by show w.heap.size + 1 < _; omega)).trans r1; have f0' : w6.frozen? ⟨w.heap.size + 1, 0, none⟩ = false := (HB6.out.frozen (p := ⟨w.heap.size + 1, 0, none⟩) (by show w.heap.size + 1 < _; omega)).trans f0; have f1' : w6.frozen? ⟨w.heap.size + 1, 1, none⟩ = false := (HB6.out.frozen (p := ⟨w.heap.size + 1, 1, none⟩) (by show w.heap.size + 1 < _; omega)).trans f1)
      | fail)
  go_wp2_with fail
  have HGG : Hid (g ≠ w.heap.size + 1) := Lib.hid (by have := HG5.out; have h2 : w2.drew.heap.size = w2.heap.size := rfl; omega)
  exact bodyPost_ret (v := .agg #[.bool (neg && decide (m ≠ 0)), .slice (some ⟨g, 0, none⟩) m m]) (by simp [results, Tryd.results64, go_sem, r0', r1']) rfl ⟨_, _, m, m, rfl, (HS6.out.farS HGG.out _).farS HGG.out _, hm, ((HB2.out.trans (HB6.out.mono HB2.out.size)).setCell (p := ⟨w.heap.size + 1, 0, none⟩) (Nat.le_succ _) _).setCell (p := ⟨w.heap.size + 1, 1, none⟩) (Nat.le_succ _) _⟩
end Go.Proofs.YtbipbpakbanacaaDoor

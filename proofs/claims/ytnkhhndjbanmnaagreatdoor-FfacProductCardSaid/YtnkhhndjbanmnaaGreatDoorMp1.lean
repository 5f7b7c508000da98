/- Texts joined, in their order: PrgBack, Fermat, FpMath. -/
import Derived.RangeFuncBox
import Derived.RangeFuncLeaves
import Derived.RangeFuncNested
import Derived.RangeFuncCalls
import Derived.Shelf.Abstract
import Derived.Shelf.RegionOpen
import Derived.WalkKit
import Derived.OwnWalkIn
import Derived.TacticsInMore
import Derived.LoopNIn
import Derived.LoopIn
import Derived.Lib.Hide
import Derived.Test.YtnkhhndjbanmnaaGreatDoorChecked

/- slices.Backward over ints and over limbs: what it hands to a loop's body: the places from the last one down, and what lies there. -/
namespace Go.Proofs.YtnkhhndjbanmnaaGreatDoor
open Go.RowKit Go.Shelf
attribute [local go_sem] Oper.semAt_some

def upto {α : Type} (f : Nat → α) (k : Nat) : List α := (List.range k).map f
theorem upto_succ {α : Type} (f : Nat → α) (k : Nat) : upto f (k + 1) = upto f k ++ [f k] := by simp [upto, List.range_succ]
theorem upto_length {α : Type} (f : Nat → α) (k : Nat) : (upto f k).length = k := by simp [upto]
def KpB (n₀ Bs : Nat) (A B : World) : Prop := Below n₀ A B ∧ B.heap[Bs]? = A.heap[Bs]?
theorem KpB.refl (n₀ Bs : Nat) (A : World) : KpB n₀ Bs A A := ⟨Below.refl _ _, rfl⟩
theorem KpB.trans {n₀ Bs : Nat} {A B C : World} (h : KpB n₀ Bs A B) (k : KpB n₀ Bs B C) : KpB n₀ Bs A C := ⟨h.1.trans k.1, k.2.trans h.2⟩
theorem KpB.drew {n₀ Bs : Nat} {A B : World} (h : KpB n₀ Bs A B) : KpB n₀ Bs A B.drew := ⟨h.1.drew, h.2⟩
theorem KpB.set {n₀ Bs : Nat} {A B : World} (h : KpB n₀ Bs A B) (p : Addr) (hp : n₀ ≤ p.block) (hq : Bs ≠ p.block) (v : Value) : KpB n₀ Bs A (B.setCell p v) := ⟨h.1.setCell hp v, (Below.heap_setCell B p v Bs hq).trans h.2⟩
theorem KpB.put {n₀ Bs : Nat} {w : World} (h0 : n₀ ≤ w.heap.size) (h1 : Bs < w.heap.size) (W : World) (l : Nat) (o o' : Obj) (hl : w.heap.size ≤ l) (h : W.heap[l]? = some o) (hc : o.isCells = false) (hw : o.isWalk = false) : KpB n₀ Bs W (W.putObj l o') :=
  ⟨belowK_b (w := w) h0 W l o o' hl h hc hw, by
    show (W.heap.setIfInBounds l o')[Bs]? = _
    rw [Array.getElem?_setIfInBounds_ne (by omega)]⟩
def downs {β : Type} (g : Nat → β) (len : Nat) (j : Nat) : Nat × β := (len - 1 - j, g (len - 1 - j))

set_option maxRecDepth 100000 in
set_option maxRecDepth 100000 in
set_option maxHeartbeats 1000000 in
theorem back0I_in {β : Type} (F : Fence) (n : Nat) (h8 : F.fn 102) (hro : F.round = none) (l Bs cap : Nat) (A : Option Addr) (J : List (Nat × β) → World → Prop) (W : World) (hBs : W.cell? ⟨Bs, 0, none⟩ = some (.slice A 0 cap)) (h0 : J [] W) :
    CallsIn F n Tryz.prog 102 #[.func (.yield l) #[] #[], .pointer (some ⟨Bs, 0, none⟩)] W fun e W' => (∃ v, e = .returned v) ∧ J [] W' := by
  refine callsIn_of_wp Tryz.func102 rfl h8 ?_ hro
  simp only [Tryz.ntmps102, List.size_toArray, List.length_cons, List.length_nil, Nat.reduceAdd, Nat.reduceSub, Array.replicate_succ, Array.replicate_zero, List.push_toArray, List.append_toArray, List.nil_append, List.cons_append]
  gi_wp2
  gi_loopw [3] (fun i wr => i = .int .i64 (-1) ∧ J [] wr) (fun _ _ => 0)
  case atStart => exact ⟨rfl, h0⟩
  case round =>
    obtain ⟨rfl, hJs⟩ := hrel
    gi_wp2
    go_end0
    exact ⟨⟨_, rfl⟩, hJs⟩

set_option maxRecDepth 100000 in
set_option maxHeartbeats 1000000 in
theorem backI_in (F : Fence) (n : Nat) (h5 : F.fn 64) (hro : F.round = none) (a : Option Addr) (len cap : Nat) (w : World) :
    CallsIn F n Tryz.prog 64 #[.slice a len cap] w fun e w' => e = .returned (.func (.func 102) #[] #[.pointer (some ⟨w.heap.size, 0, none⟩)]) ∧ w' = w.alloc (.cells #[.slice a len cap] 22) := by
  have hmf : ∀ (fn : Fn) (first cap : Array Value) (w : World), (Instr.makeFunc fn first cap).run Tryz.prog w = .ok (.func fn first cap) w := fun _ _ _ _ => rfl
  refine callsIn_of_wp Tryz.func64 rfl h5 ?_ hro
  simp only [Tryz.ntmps64, List.size_toArray, List.length_cons, List.length_nil, Nat.reduceAdd, Nat.reduceSub, Array.replicate_succ, Array.replicate_zero, List.push_toArray, List.append_toArray, List.nil_append, List.cons_append]
  gi_wp2
  go_ret
  exact ⟨rfl, rfl⟩

set_option maxRecDepth 100000 in
set_option maxRecDepth 100000 in
set_option maxHeartbeats 2000000 in
theorem back1U_in {β : Type} (en : β → Value) (g : Nat → β) (F : Fence) (n : Nat) (h8 : F.fn 200) (hro : F.round = none) (hn : 1 ≤ n) (l Bs n₀ b off len cap : Nat) (hreach : len ≤ 17592186044416) (hb : b < n₀) (J Jx : List (Nat × β) → World → Prop)
    (hY : ∀ pre x W, J pre W → pre.length < len → YieldAt F (n - 1) Tryz.prog l #[.int .i64 (x.1 : Int), en x.2] W fun e W' =>
      (e = .returned (.bool true) ∧ J (pre ++ [x]) W' ∧ KpB n₀ Bs W W') ∨ (e = .returned (.bool false) ∧ Jx (pre ++ [x]) W'))
    (W : World) (hBs : W.cell? ⟨Bs, 0, none⟩ = some (.slice (some ⟨b, off, none⟩) len cap)) (hc : ∀ j, j < len → W.cell? ⟨b, off + j, none⟩ = some (en (g j))) (h0 : J [] W) :
    CallsIn F n Tryz.prog 200 #[.func (.yield l) #[] #[], .pointer (some ⟨Bs, 0, none⟩)] W fun e W' => (∃ v, e = .returned v) ∧
      ((∃ ys, ys = upto (downs g len) len ∧ J ys W') ∨ (∃ pre, (∃ k, k ≤ len ∧ pre = upto (downs g len) k) ∧ Jx pre W')) := by
  refine callsIn_of_wp Tryz.func200 rfl h8 ?_ hro
  simp only [Tryz.ntmps200, List.size_toArray, List.length_cons, List.length_nil, Nat.reduceAdd, Nat.reduceSub, Array.replicate_succ, Array.replicate_zero, List.push_toArray, List.append_toArray, List.nil_append, List.cons_append]
  gi_wp2
  gi_loopw [3] (fun i wr => ∃ k : Nat, k ≤ len ∧ i = .int .i64 ((len : Int) - 1 - (k : Int)) ∧ J (upto (downs g len) k) wr ∧ KpB n₀ Bs W wr)
    (fun i _ => (intOf i + 1).toNat)
  case atStart => exact ⟨0, Nat.zero_le _, by simp, h0, KpB.refl _ _ _⟩
  case round =>
    obtain ⟨k, hk, rfl, hJs, hnx⟩ := hrel
    have hcb : wr.cell? ⟨Bs, 0, none⟩ = some (.slice (some ⟨b, off, none⟩) len cap) := (World.cell?_of_block (w := W) hnx.2).trans hBs
    by_cases hlt : k < len
    · obtain ⟨i, hi⟩ : ∃ i, i = len - 1 - k := ⟨_, rfl⟩
      have hii : (len : Int) - 1 - (k : Int) = (i : Int) := by omega
      have hcx' : wr.cell? ⟨b, off + i, none⟩ = some (en (g i)) := (hnx.1.cell (p := ⟨b, off + i, none⟩) hb).trans (hc i (by omega))
      have JN := Lib.hid (show ∀ W', J (upto (downs g len) k ++ [(i, g i)]) W' → J (upto (downs g len) (k + 1)) W' from fun W' h => by rw [upto_succ, downs, ← hi]; exact h)
      have JN2 := Lib.hid (show ∀ W', Jx (upto (downs g len) k ++ [(i, g i)]) W' → Jx (upto (downs g len) (k + 1)) W' from fun W' h => by rw [upto_succ, downs, ← hi]; exact h)
      obtain ⟨fn, tmps, assign, body, hy, hR⟩ := hY _ (i, g i) wr hJs (by rw [upto_length]; exact hlt)
      dsimp only at hy
      rw [hii]
      have II := Lib.hid hii
      have HI := Lib.hid hi
      have i1 : (i : Int) < (len : Int) := by omega
      generalize g i = x at *
      clear hii hi
      gi_wp2
      refine hR.mono ?_
      rintro e W3 (⟨rfl, hJ3, hk3⟩ | ⟨rfl, hJx3⟩)
      · gi_wp2
        go_roundw
        case rel => exact ⟨k + 1, by omega, (by have := II.out; congr 1; omega), JN.out _ hJ3, hnx.trans hk3⟩
        case measure => simp [intOf]
      · gi_wp2
        refine bodyPost_ret (results_none rfl _ _ _) rfl ?_
        exact ⟨⟨_, rfl⟩, .inr ⟨_, ⟨k + 1, by omega, rfl⟩, JN2.out _ hJx3⟩⟩
    · obtain rfl : k = len := by omega
      have e1 : (k : Int) - 1 - (k : Int) = -1 := by omega
      rw [e1]
      gi_wp2
      go_end0
      exact ⟨⟨_, rfl⟩, .inl ⟨_, rfl, hJs⟩⟩

set_option maxRecDepth 100000 in
set_option maxRecDepth 100000 in
set_option maxHeartbeats 1000000 in
theorem back0U_in {β : Type} (F : Fence) (n : Nat) (h8 : F.fn 200) (hro : F.round = none) (l Bs cap : Nat) (A : Option Addr) (J : List (Nat × β) → World → Prop) (W : World) (hBs : W.cell? ⟨Bs, 0, none⟩ = some (.slice A 0 cap)) (h0 : J [] W) :
    CallsIn F n Tryz.prog 200 #[.func (.yield l) #[] #[], .pointer (some ⟨Bs, 0, none⟩)] W fun e W' => (∃ v, e = .returned v) ∧ J [] W' := by
  refine callsIn_of_wp Tryz.func200 rfl h8 ?_ hro
  simp only [Tryz.ntmps200, List.size_toArray, List.length_cons, List.length_nil, Nat.reduceAdd, Nat.reduceSub, Array.replicate_succ, Array.replicate_zero, List.push_toArray, List.append_toArray, List.nil_append, List.cons_append]
  gi_wp2
  gi_loopw [3] (fun i wr => i = .int .i64 (-1) ∧ J [] wr) (fun _ _ => 0)
  case atStart => exact ⟨rfl, h0⟩
  case round =>
    obtain ⟨rfl, hJs⟩ := hrel
    gi_wp2
    go_end0
    exact ⟨⟨_, rfl⟩, hJs⟩

set_option maxRecDepth 100000 in
set_option maxHeartbeats 1000000 in
theorem backU_in (F : Fence) (n : Nat) (h5 : F.fn 195) (hro : F.round = none) (a : Option Addr) (len cap : Nat) (w : World) :
    CallsIn F n Tryz.prog 195 #[.slice a len cap] w fun e w' => e = .returned (.func (.func 200) #[] #[.pointer (some ⟨w.heap.size, 0, none⟩)]) ∧ w' = w.alloc (.cells #[.slice a len cap] 123) := by
  have hmf : ∀ (fn : Fn) (first cap : Array Value) (w : World), (Instr.makeFunc fn first cap).run Tryz.prog w = .ok (.func fn first cap) w := fun _ _ _ _ => rfl
  refine callsIn_of_wp Tryz.func195 rfl h5 ?_ hro
  simp only [Tryz.ntmps195, List.size_toArray, List.length_cons, List.length_nil, Nat.reduceAdd, Nat.reduceSub, Array.replicate_succ, Array.replicate_zero, List.push_toArray, List.append_toArray, List.nil_append, List.cons_append]
  gi_wp2
  go_ret
  exact ⟨rfl, rfl⟩

theorem backU_stops {β : Type} (en : β → Value) (g : Nat → β) (F : Fence) (n : Nat) (h7 : F.fn 200) (hro : F.round = none) (hn : 1 ≤ n) (Bs n₀ len cap : Nat) (A : Option Addr) (hreach : len ≤ 17592186044416) (w : World) (hBs : Bs < w.heap.size) (hn₀ : n₀ ≤ w.heap.size)
    (hc : w.cell? ⟨Bs, 0, none⟩ = some (.slice A len cap)) (hI : len = 0 ∨ ∃ b off, A = some ⟨b, off, none⟩ ∧ b < n₀ ∧ ∀ j, j < len → w.cell? ⟨b, off + j, none⟩ = some (en (g j))) :
    SeqStopsK F n Tryz.prog 200 #[.pointer (some ⟨Bs, 0, none⟩)] (fun x : Nat × β => #[Value.int .i64 (x.1 : Int), en x.2]) (KpB n₀ Bs) (fun ys => ys = upto (downs g len) len)
      (fun pre => ∃ k, k ≤ len ∧ pre = upto (downs g len) k) len w := fun l J Jx W hW _ _ hY h0 => by
  have hc' := (hW.cell (p := ⟨Bs, 0, none⟩) hBs).trans hc
  rcases hI with rfl | ⟨b, off, rfl, hb, hcs⟩
  · exact (back0U_in F n h7 hro l Bs cap A J W hc' h0).mono fun e W' ⟨he, hj⟩ => ⟨he, .inl ⟨_, rfl, hj⟩⟩
  · exact back1U_in en g F n h7 hro hn l Bs n₀ b off len cap hreach hb J Jx hY W hc' (fun j hj => ((hW.mono hn₀).cell (p := ⟨b, off + j, none⟩) hb).trans (hcs j hj)) h0
end Go.Proofs.YtnkhhndjbanmnaaGreatDoor

/- Small primes: Euclid's lemma, inverses, the p-th power of a sum, Fermat's little theorem. Mathematics alone. -/
namespace Go.Proofs.YtnkhhndjbanmnaaGreatDoor

def IsP (p : Nat) : Prop := 2 ≤ p ∧ ∀ d, 2 ≤ d → d < p → ¬ d ∣ p

theorem isP_small {n : Nat} : IsP n ↔ 2 ≤ n ∧ ∀ d, 2 ≤ d → d * d ≤ n → ¬ d ∣ n := by
  constructor
  · rintro ⟨h2, h⟩
    refine ⟨h2, fun d hd hdd => h d hd ?_⟩
    have := Nat.mul_le_mul_left d hd
    omega
  · rintro ⟨h2, h⟩
    refine ⟨h2, fun d hd hdn hdv => ?_⟩
    obtain ⟨e, he⟩ := hdv
    have he2 : 2 ≤ e := by
      rcases Nat.lt_or_ge e 2 with h1 | h1
      · exfalso
        have : e = 0 ∨ e = 1 := by omega
        rcases this with rfl | rfl
        · simp at he; omega
        · simp at he; omega
      · exact h1
    rcases Nat.le_total d e with hle | hle
    · exact h d hd (by rw [he]; exact Nat.mul_le_mul_left d hle) ⟨e, he⟩
    · exact h e he2 (by rw [he]; exact Nat.mul_le_mul_right e hle) ⟨d, by rw [he, Nat.mul_comm]⟩

theorem isP_gcd {p a : Nat} (hp : IsP p) (ha : ¬ p ∣ a) : Nat.gcd p a = 1 := by
  have h1 : Nat.gcd p a ∣ p := Nat.gcd_dvd_left p a
  have h2 : Nat.gcd p a ∣ a := Nat.gcd_dvd_right p a
  have h3 : Nat.gcd p a ≤ p := Nat.le_of_dvd (by have := hp.1; omega) h1
  have h0 : 0 < Nat.gcd p a := Nat.gcd_pos_of_pos_left a (by have := hp.1; omega)
  rcases Nat.lt_or_ge (Nat.gcd p a) 2 with h | h
  · omega
  · rcases Nat.lt_or_ge (Nat.gcd p a) p with h4 | h4
    · exact absurd h1 (hp.2 _ h h4)
    · have e : Nat.gcd p a = p := by omega
      rw [e] at h2
      exact absurd h2 ha

theorem bez (a b : Nat) : ∃ x y : Int, x * a + y * b = (Nat.gcd a b : Int) := by
  induction a, b using Nat.gcd.induction with
  | H0 b => exact ⟨0, 1, by simp⟩
  | H1 a b ha ih =>
    obtain ⟨x, y, h⟩ := ih
    refine ⟨y - x * (b / a : Nat), x, ?_⟩
    have e : (b : Int) = ((b % a : Nat) : Int) + (a : Int) * ((b / a : Nat) : Int) := by
      have := Nat.mod_add_div b a
      exact_mod_cast this.symm
    rw [Nat.gcd_rec a b, ← h]
    rw [Int.sub_mul]
    have e2 : x * (b : Int) = x * ((b % a : Nat) : Int) + x * ((b / a : Nat) : Int) * a := by
      conv => lhs; rw [e]
      rw [Int.mul_add, Int.mul_comm (a : Int), ← Int.mul_assoc]
    omega

theorem euclid {p a b : Nat} (hp : IsP p) (h : p ∣ a * b) : p ∣ a ∨ p ∣ b := by
  by_cases ha : p ∣ a
  · exact .inl ha
  · right
    have hg := isP_gcd hp ha
    exact Nat.Coprime.dvd_of_dvd_mul_left hg h

theorem inv_ex {p a : Nat} (hp : IsP p) (ha : ¬ p ∣ a) : ∃ x, 1 ≤ x ∧ x < p ∧ a * x % p = 1 := by
  obtain ⟨u, v, h⟩ := bez p a
  rw [isP_gcd hp ha] at h
  have hp2 := hp.1
  have hpi : (0 : Int) < (p : Int) := by omega
  have hx0 : 0 ≤ v % (p : Int) := Int.emod_nonneg _ (by omega)
  have hx1 : v % (p : Int) < p := Int.emod_lt_of_pos _ hpi
  have key : ((a : Int) * (v % (p : Int))) % p = 1 := by
    have e : (a : Int) * (v % (p : Int)) = 1 + p * (-(u + a * (v / p))) := by
      have hv := Int.emod_add_mul_ediv v p
      have e1 : v % (p : Int) = v - p * (v / p) := by omega
      rw [e1, Int.mul_sub]
      have e2 : (p : Int) * (-(u + a * (v / p))) = -(p * u) - p * (a * (v / p)) := by
        rw [Int.mul_neg, Int.mul_add]; omega
      have e3 : (a : Int) * (p * (v / p)) = p * (a * (v / p)) := by
        rw [← Int.mul_assoc, Int.mul_comm (a : Int), Int.mul_assoc]
      have e4 : u * (p : Int) = p * u := Int.mul_comm _ _
      have e5 : v * (a : Int) = a * v := Int.mul_comm _ _
      rw [e2, e3]
      omega
    rw [e, Int.add_mul_emod_self_left]
    exact Int.emod_eq_of_lt (by decide) (by omega)
  refine ⟨(v % (p : Int)).toNat, ?_, by omega, ?_⟩
  · rcases Nat.eq_zero_or_pos (v % (p : Int)).toNat with e | e
    · have : v % (p : Int) = 0 := by omega
      rw [this, Int.mul_zero] at key
      simp at key
    · exact e
  · have : (((a * (v % (p : Int)).toNat : Nat) : Int)) % p = 1 := by
      rw [Int.natCast_mul, Int.toNat_of_nonneg hx0]; exact key
    exact_mod_cast this

def chs : Nat → Nat → Nat
  | _, 0 => 1
  | 0, _ + 1 => 0
  | n + 1, k + 1 => chs n k + chs n (k + 1)
theorem chs_zero (n : Nat) : chs n 0 = 1 := by cases n <;> rfl
theorem chs_over (n k : Nat) (h : n < k) : chs n k = 0 := by
  induction n generalizing k with
  | zero =>
    obtain ⟨j, rfl⟩ : ∃ j, k = j + 1 := ⟨k - 1, by omega⟩
    rfl
  | succ n ih =>
    obtain ⟨j, rfl⟩ : ∃ j, k = j + 1 := ⟨k - 1, by omega⟩
    rw [chs, ih j (by omega), ih (j + 1) (by omega)]
theorem chs_self (n : Nat) : chs n n = 1 := by
  induction n with
  | zero => rfl
  | succ n ih => rw [chs, ih, chs_over n (n + 1) (by omega)]
theorem chs_down (n k : Nat) : (k + 1) * chs (n + 1) (k + 1) = (n + 1) * chs n k := by
  induction n generalizing k with
  | zero =>
    cases k with
    | zero => rfl
    | succ k => simp [chs]
  | succ n ih =>
    cases k with
    | zero =>
      have := ih 0
      simp only [chs, chs_zero] at this ⊢
      omega
    | succ k =>
      have h1 := ih k
      have h2 := ih (k + 1)
      rw [chs, Nat.mul_add, h2]
      have e : (k + 1 + 1) * chs (n + 1) (k + 1) = (n + 1) * chs n k + chs (n + 1) (k + 1) := by rw [Nat.add_mul, h1, Nat.one_mul]
      have e2 : chs (n + 1) (k + 1) = chs n k + chs n (k + 1) := rfl
      rw [e, e2]
      generalize chs n k = u
      generalize chs n (k + 1) = t
      grind

def sumN (f : Nat → Nat) : Nat → Nat
  | 0 => 0
  | n + 1 => sumN f n + f n
theorem sumN_add (f g : Nat → Nat) (n : Nat) : sumN (fun k => f k + g k) n = sumN f n + sumN g n := by
  induction n with
  | zero => rfl
  | succ n ih => simp only [sumN, ih]; omega
theorem sumN_mul (f : Nat → Nat) (c n : Nat) : sumN (fun k => c * f k) n = c * sumN f n := by
  induction n with
  | zero => rfl
  | succ n ih => simp only [sumN, ih, Nat.mul_add]
theorem sumN_shift (f : Nat → Nat) (n : Nat) : sumN f (n + 1) = f 0 + sumN (fun k => f (k + 1)) n := by
  induction n with
  | zero => simp [sumN]
  | succ n ih => rw [sumN, ih, sumN]; omega
theorem sumN_congr (f g : Nat → Nat) (n : Nat) (h : ∀ k, k < n → f k = g k) : sumN f n = sumN g n := by
  induction n with
  | zero => rfl
  | succ n ih => rw [sumN, sumN, ih (fun k hk => h k (by omega)), h n (by omega)]
theorem binomial (a n : Nat) : (a + 1) ^ n = sumN (fun k => chs n k * a ^ k) (n + 1) := by
  induction n with
  | zero => simp [sumN, chs]
  | succ n ih =>
    have e : sumN (fun k => chs (n + 1) k * a ^ k) (n + 1 + 1) = 1 + sumN (fun k => (a * (chs n k * a ^ k)) + chs n (k + 1) * a ^ (k + 1)) (n + 1) := by
      rw [sumN_shift, chs_zero, Nat.pow_zero, Nat.mul_one]
      congr 1
      apply sumN_congr
      intro k _
      rw [chs, Nat.add_mul, Nat.pow_succ]
      congr 1
      rw [Nat.mul_comm (a ^ k) a, ← Nat.mul_assoc, ← Nat.mul_assoc, Nat.mul_comm (chs n k) a]
    have e2 : sumN (fun k => chs n k * a ^ k) (n + 1 + 1) = 1 + sumN (fun k => chs n (k + 1) * a ^ (k + 1)) (n + 1) := by
      rw [sumN_shift, chs_zero, Nat.pow_zero, Nat.mul_one]
    have e3 : sumN (fun k => chs n k * a ^ k) (n + 1 + 1) = sumN (fun k => chs n k * a ^ k) (n + 1) := by
      rw [sumN, chs_over n (n + 1) (by omega), Nat.zero_mul, Nat.add_zero]
    rw [e, sumN_add, sumN_mul, ← ih, Nat.pow_succ, Nat.mul_add, Nat.mul_one, Nat.mul_comm _ a]
    rw [e3, ← ih] at e2
    omega

theorem chs_div {p k : Nat} (hp : IsP p) (h0 : 0 < k) (hk : k < p) : p ∣ chs p k := by
  obtain ⟨j, rfl⟩ : ∃ j, k = j + 1 := ⟨k - 1, by omega⟩
  obtain ⟨q, rfl⟩ : ∃ q, p = q + 1 := ⟨p - 1, by omega⟩
  have h := chs_down q j
  have hd : (q + 1) ∣ (j + 1) * chs (q + 1) (j + 1) := by rw [h]; exact Nat.dvd_mul_right _ _
  rcases euclid hp hd with h1 | h1
  · have := Nat.le_of_dvd (by omega) h1
    omega
  · exact h1
theorem sumN_div (f : Nat → Nat) (p n : Nat) (h : ∀ k, k < n → p ∣ f k) : p ∣ sumN f n := by
  induction n with
  | zero => exact Nat.dvd_zero p
  | succ n ih => exact (Nat.dvd_add (ih fun k hk => h k (by omega)) (h n (by omega)))
theorem freshman {p : Nat} (hp : IsP p) (a : Nat) : ∃ m, (a + 1) ^ p = a ^ p + 1 + p * m := by
  obtain ⟨q, rfl⟩ : ∃ q, p = q + 1 := ⟨p - 1, by have := hp.1; omega⟩
  have hb := binomial a (q + 1)
  rw [sumN, chs_self, Nat.one_mul, sumN_shift, chs_zero, Nat.pow_zero, Nat.mul_one] at hb
  obtain ⟨m, hm⟩ := sumN_div (fun k => chs (q + 1) (k + 1) * a ^ (k + 1)) (q + 1) q (fun k hk => Nat.dvd_trans (chs_div hp (by omega) (by omega)) (Nat.dvd_mul_right _ _))
  exact ⟨m, by rw [hb, hm]; omega⟩
theorem fermat {p : Nat} (hp : IsP p) (a : Nat) : a ^ p % p = a % p := by
  induction a with
  | zero => rw [Nat.zero_pow (by have := hp.1; omega)]
  | succ a ih =>
    obtain ⟨m, hm⟩ := freshman hp a
    rw [hm, Nat.add_mul_mod_self_left, Nat.add_mod, ih, ← Nat.add_mod]
end Go.Proofs.YtnkhhndjbanmnaaGreatDoor

/- The residues by a small prime, as plain functions: what layer 5 answers. Mathematics alone. -/
namespace Go.Proofs.YtnkhhndjbanmnaaGreatDoor

def In64 (n : Int) : Prop := -9223372036854775808 ≤ n ∧ n ≤ 9223372036854775807

def Pr (p : Int) : Prop := 2 ≤ p ∧ p ≤ 65521 ∧ IsP p.toNat
noncomputable def primB (p : Int) : Bool := @decide (Pr p) (Classical.propDecidable _)
theorem primB_yes {p : Int} (h : Pr p) : primB p = true := @decide_eq_true _ (Classical.propDecidable _) h
theorem primB_no {p : Int} (h : ¬ Pr p) : primB p = false := @decide_eq_false _ (Classical.propDecidable _) h
theorem primB_or (p : Int) : (primB p = true ∧ Pr p) ∨ (primB p = false ∧ ¬ Pr p) := by
  by_cases h : Pr p
  · exact .inl ⟨primB_yes h, h⟩
  · exact .inr ⟨primB_no h, h⟩
theorem pr_trial {n : Nat} (h2 : 2 ≤ n) (h3 : n ≤ 65521) (d : Nat) (hd : n < d * d) (h : ∀ e, 2 ≤ e → e < d → ¬ e ∣ n) : Pr (n : Int) := by
  refine ⟨by omega, by omega, ?_⟩
  rw [Int.toNat_natCast, isP_small]
  refine ⟨h2, fun e he hee => h e he ?_⟩
  rcases Nat.lt_or_ge e d with h1 | h1
  · exact h1
  · have := Nat.mul_le_mul h1 h1
    omega
theorem pr_not {n d : Nat} (hd : 2 ≤ d) (hdd : d * d ≤ n) (h : n % d = 0) : ¬ Pr (n : Int) := by
  rintro ⟨_, _, h2⟩
  rw [Int.toNat_natCast, isP_small] at h2
  exact h2.2 d hd hdd (Nat.dvd_of_mod_eq_zero h)

noncomputable def chk (p : Int) : Int := if primB p = true then 0 else 1
theorem chk_yes {p : Int} (h : primB p = true) : chk p = 0 := if_pos h
theorem chk_no {p : Int} (h : primB p = false) : chk p = 1 := if_neg (by rw [h]; decide)

def red (a p : Int) : Int := if p < 1 then 0 else a % p
theorem red_low {a p : Int} (h : p < 1) : red a p = 0 := if_pos h
theorem red_pos {a p : Int} (h : 1 ≤ p) : red a p = a % p := if_neg (by omega)
theorem tmod_cases (a p : Int) (h : 1 ≤ p) : (0 ≤ a.tmod p ∧ a % p = a.tmod p ∧ a.tmod p < p) ∨ (a.tmod p < 0 ∧ a % p = a.tmod p + p ∧ -p < a.tmod p) := by
  rcases Int.lt_or_le a 0 with h0 | h0
  · have e1 : a.tmod p = -((-a) % p) := by
      have := Int.neg_tmod (-a) p
      rw [Int.neg_neg] at this
      rw [this, Int.tmod_eq_emod_of_nonneg (by omega)]
    have b0 := Int.emod_nonneg (-a) (b := p) (by omega)
    have b1 := Int.emod_lt_of_pos (-a) (b := p) (by omega)
    have c0 := Int.emod_nonneg a (b := p) (by omega)
    have c1 := Int.emod_lt_of_pos a (b := p) (by omega)
    have d1 := Int.emod_add_mul_ediv (-a) p
    have d2 := Int.emod_add_mul_ediv a p
    have key : (a % p + (-a) % p) % p = 0 := by
      rw [← Int.add_emod]
      simp [Int.add_right_neg]
    rcases Int.lt_or_le 0 ((-a) % p) with hp | hp
    · right
      have hs : a % p + (-a) % p = p := by
        have hlt : a % p + (-a) % p < 2 * p := by omega
        have hdv : p ∣ a % p + (-a) % p := Int.dvd_of_emod_eq_zero key
        obtain ⟨k, hk⟩ := hdv
        have hk1 : k = 1 := by
          have h1 : 0 < p * k := by omega
          have h2 : p * k < p * 2 := by omega
          have := Int.lt_of_mul_lt_mul_left h2 (by omega)
          have : 0 < k := by
            rcases Int.lt_or_le 0 k with h | h
            · exact h
            · have := Int.mul_le_mul_of_nonneg_left h (show 0 ≤ p by omega)
              omega
          omega
        rw [hk, hk1, Int.mul_one]
      omega
    · left
      have hz : (-a) % p = 0 := by omega
      rw [hz, Int.add_zero] at key
      have : a % p = 0 := by
        rw [Int.emod_emod_of_dvd a (Int.dvd_refl p)] at key
        exact key
      omega
  · left
    rw [Int.tmod_eq_emod_of_nonneg h0]
    exact ⟨Int.emod_nonneg _ (by omega), rfl, Int.emod_lt_of_pos _ (by omega)⟩

noncomputable def fadd (a b p : Int) : Int := if primB p = true then (a + b) % p else 0
noncomputable def fsub (a b p : Int) : Int := if primB p = true then (a - b) % p else 0
noncomputable def fmul (a b p : Int) : Int := if primB p = true then a * b % p else 0
theorem inv_exZ {a p : Int} (h : Pr p) (ha : a % p ≠ 0) : ∃ x, 1 ≤ x ∧ x < p ∧ a * x % p = 1 := by
  obtain ⟨h2, _, hp⟩ := h
  have b0 := Int.emod_nonneg a (b := p) (by omega)
  obtain ⟨n, hn⟩ : ∃ n : Nat, a % p = (n : Int) := ⟨(a % p).toNat, by omega⟩
  obtain ⟨q, hq⟩ : ∃ q : Nat, p = (q : Int) := ⟨p.toNat, by omega⟩
  subst hq
  have hnd : ¬ q ∣ n := by
    intro hd
    have hlt := Int.emod_lt_of_pos a (b := (q : Int)) (by omega)
    have := Nat.eq_zero_of_dvd_of_lt hd (by omega)
    omega
  rw [Int.toNat_natCast] at hp
  obtain ⟨x, h3, h4, h5⟩ := inv_ex hp hnd
  refine ⟨x, by omega, by omega, ?_⟩
  have : ((n * x % q : Nat) : Int) = 1 := by rw [h5]; rfl
  rw [Int.natCast_emod, Int.natCast_mul, ← hn] at this
  rw [Int.mul_emod, Int.emod_emod_of_dvd _ (Int.dvd_refl _), ← Int.mul_emod] at this
  exact this
theorem inv_uniq {a p x y : Int} (hx : 0 ≤ x ∧ x < p ∧ a * x % p = 1) (hy : 0 ≤ y ∧ y < p ∧ a * y % p = 1) : x = y := by
  have e1 : x * (a * y) % p = x := by
    rw [Int.mul_emod, hy.2.2, Int.mul_one, Int.emod_emod_of_dvd _ (Int.dvd_refl p)]
    exact Int.emod_eq_of_lt hx.1 hx.2.1
  have e2 : y * (a * x) % p = y := by
    rw [Int.mul_emod, hx.2.2, Int.mul_one, Int.emod_emod_of_dvd _ (Int.dvd_refl p)]
    exact Int.emod_eq_of_lt hy.1 hy.2.1
  have e3 : x * (a * y) = y * (a * x) := by grind
  rw [← e1, e3, e2]
open Classical in
noncomputable def finv (a p : Int) : Int := if h : Pr p ∧ a % p ≠ 0 then Classical.choose (inv_exZ h.1 h.2) else 0
theorem finv_spec {a p : Int} (h : Pr p) (ha : a % p ≠ 0) : 1 ≤ finv a p ∧ finv a p < p ∧ a * finv a p % p = 1 := by
  unfold finv
  rw [dif_pos ⟨h, ha⟩]
  exact Classical.choose_spec (inv_exZ h ha)
theorem finv_eq {a p x : Int} (h : Pr p) (hx : 0 ≤ x ∧ x < p ∧ a * x % p = 1) : finv a p = x := by
  have ha : a % p ≠ 0 := by
    intro e
    have := hx.2.2
    rw [Int.mul_emod, e, Int.zero_mul] at this
    simp at this
  have hs := finv_spec h ha
  exact inv_uniq ⟨by omega, hs.2⟩ hx
theorem finv_zero {a p : Int} (ha : a % p = 0) : finv a p = 0 := by
  unfold finv
  rw [dif_neg (fun h => h.2 ha)]
theorem finv_no {a p : Int} (h : ¬ Pr p) : finv a p = 0 := by
  unfold finv
  rw [dif_neg (fun g => h g.1)]
noncomputable def einv (a p : Int) : Int := if primB p = true then (if a % p = 0 then 3 else 0) else 1
theorem einv_no {a p : Int} (h : primB p = false) : einv a p = 1 := if_neg (by rw [h]; decide)
theorem einv_zero {a p : Int} (h : primB p = true) (ha : a % p = 0) : einv a p = 3 := by unfold einv; rw [if_pos h, if_pos ha]
theorem einv_yes {a p : Int} (h : primB p = true) (ha : a % p ≠ 0) : einv a p = 0 := by unfold einv; rw [if_pos h, if_neg ha]
noncomputable def fdiv (a b p : Int) : Int := if primB p = true then (if b % p = 0 then 0 else a * finv b p % p) else 0
noncomputable def fpow (a n p : Int) : Int := if primB p = true then (if n < 0 then 0 else a ^ n.toNat % p) else 0
noncomputable def epow (n p : Int) : Int := if primB p = true then (if n < 0 then 1 else 0) else 1
theorem fpow_no {a n p : Int} (h : primB p = false) : fpow a n p = 0 := if_neg (by rw [h]; decide)
theorem fpow_low {a n p : Int} (h : primB p = true) (hn : n < 0) : fpow a n p = 0 := by unfold fpow; rw [if_pos h, if_pos hn]
theorem fpow_yes {a p : Int} (n : Nat) (h : primB p = true) : fpow a (n : Int) p = a ^ n % p := by unfold fpow; rw [if_pos h, if_neg (by omega), Int.toNat_natCast]
theorem epow_no {n p : Int} (h : primB p = false) : epow n p = 1 := if_neg (by rw [h]; decide)
theorem epow_low {n p : Int} (h : primB p = true) (hn : n < 0) : epow n p = 1 := by unfold epow; rw [if_pos h, if_pos hn]
theorem epow_yes {n p : Int} (h : primB p = true) (hn : 0 ≤ n) : epow n p = 0 := by unfold epow; rw [if_pos h, if_neg (by omega)]
theorem fermatZ {p : Int} (h : Pr p) (a : Int) : a ^ p.toNat % p = a % p := by
  obtain ⟨h2, _, hp⟩ := h
  have b0 := Int.emod_nonneg a (b := p) (by omega)
  obtain ⟨n, hn⟩ : ∃ n : Nat, a % p = (n : Int) := ⟨(a % p).toNat, by omega⟩
  obtain ⟨q, hq⟩ : ∃ q : Nat, p = (q : Int) := ⟨p.toNat, by omega⟩
  subst hq
  rw [Int.toNat_natCast] at hp ⊢
  have hf := fermat hp n
  have e : ∀ k : Nat, a ^ k % (q : Int) = ((n ^ k % q : Nat) : Int) := by
    intro k
    rw [Int.natCast_emod, Int.natCast_pow, ← hn]
    induction k with
    | zero => simp
    | succ k ih => rw [Int.pow_succ, Int.pow_succ, Int.mul_emod, ih, ← Int.mul_emod, Int.mul_emod _ (a % (q : Int)), Int.emod_emod_of_dvd a (Int.dvd_refl _), ← Int.mul_emod]
  rw [e q, hf, Int.natCast_emod, ← hn, Int.emod_emod_of_dvd _ (Int.dvd_refl _)]
theorem red_pr {a p : Int} (h : Pr p) : red a p = a % p ∧ 0 ≤ a % p ∧ a % p < p := by
  have h2 := h.1
  exact ⟨red_pos (by omega), Int.emod_nonneg _ (by omega), Int.emod_lt_of_pos _ (by omega)⟩
theorem mul_bd {x y p : Int} (h0 : 0 ≤ x ∧ x < p) (h1 : 0 ≤ y ∧ y < p) (hp : p ≤ 65521) : 0 ≤ x * y ∧ x * y ≤ 4292870400 := by
  refine ⟨Int.mul_nonneg h0.1 h1.1, ?_⟩
  have h2 : x * y ≤ 65520 * y := Int.mul_le_mul_of_nonneg_right (by omega) h1.1
  omega

end Go.Proofs.YtnkhhndjbanmnaaGreatDoor

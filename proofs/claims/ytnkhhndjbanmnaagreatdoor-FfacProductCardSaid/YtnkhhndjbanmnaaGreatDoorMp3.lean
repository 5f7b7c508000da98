/- Texts joined, in their order: RngDown, IntWords, Rst, MadeM. -/
import Derived.Sort.Grow
import Derived.Test.YtnkhhndjbanmnaaGreatDoorChecked
import Derived.WalkKit
import Derived.WalkSpells
import Derived.Laws.OwnMore
import Derived.Deep.Draws
import Derived.Laws.Rows
import Derived.Lib.Hide
import Derived.Laws.AppendOwnNone
import Derived.Deep.RegionHeld3
import Derived.Deep.RegionLaw
import Derived.Below
import Derived.OwnWalk
import Derived.Laws.CopyOwn
import Derived.Test.YtnkhhndjbanmnaaGreatDoorMp1
import Derived.Test.YtnkhhndjbanmnaaGreatDoorMp2

/- A range over a function whose invariant may speak of the draws, too: it is asked to bear new blocks and turns of blocks that are no cells, each by itself; slices.Backward over ints by it. -/
namespace Go.Proofs.YtnkhhndjbanmnaaGreatDoor
open Go.RowKit Go.Shelf
attribute [local go_sem] Oper.semAt_some

structure Turns {β : Type} (B : Nat) (I : β → World → Prop) : Prop where
  al : ∀ s W o, I s W → I s (W.alloc o)
  put : ∀ s W l (o o' : Obj), I s W → B ≤ l → W.heap[l]? = some o → o.isCells = false → I s (W.putObj l o')
theorem Turns.and {β : Type} {B : Nat} {I J : β → World → Prop} (h : Turns B I) (k : Turns B J) : Turns B fun s W => I s W ∧ J s W :=
  ⟨fun s W o ⟨a, b⟩ => ⟨h.al s W o a, k.al s W o b⟩, fun s W l o o' ⟨a, b⟩ h1 h2 h3 => ⟨h.put s W l o o' a h1 h2 h3, k.put s W l o o' b h1 h2 h3⟩⟩
theorem OwnFrom.turns {β : Type} {B : Nat} {I : β → World → Prop} (h : OwnFrom B I) : Turns B I := ⟨fun _ _ o a => h.alloc o a, fun _ _ _ _ o' a h1 h2 h3 => h.putObj o' a h1 h2 h3⟩
theorem turns_drawn {β : Type} (B d : Nat) : Turns B fun (_ : β) (W : World) => d ≤ W.drawn := ⟨fun _ _ _ a => a, fun _ _ _ _ _ a _ _ _ => a⟩
def turnPost (B : Nat) (Kp : World → World → Prop) (I Ix : Nat → World → Prop) (k : Nat) (W : World) : Exit → Act → World → Prop
  | .normal, _, W' => KeepsFrom B W W' ∧ Kp W W' ∧ I k W'
  | .ret, _, W' => KeepsFrom B W W' ∧ Ix k W'
  | _, _, _ => False
variable {F : Fence} {n : Nat} {P : Program}
theorem wpIn_rangeFunc_turns {g : Operand} {ps : Array Tmp} {assign body : Code} {Q : Exit → Act → World → Prop} {a : Act} {w : World}
    (hro : F.round = none) (h1 : 1 ≤ n) {gf : Nat} {lb : Array Value} (hg : a.eval g = .func (.func gf) #[] lb) (hFg : F.fn gf) (eg : ∀ args w, (callFunc gf args).run P w = .ok (.enter gf args) w)
    {encs : Nat → Array Value} {Kp : World → World → Prop} {N : Nat}
    (hseq : ∀ (l : Nat) (J Jx : Nat → World → Prop) (W : World), Below w.heap.size w W →
      (∀ k W1, J k W1 → k < N → YieldAt F (n - 1 - 1) P l (encs k) W1 fun e W' => (e = .returned (.bool true) ∧ J (k + 1) W' ∧ Kp W1 W') ∨ (e = .returned (.bool false) ∧ Jx (k + 1) W')) →
      J 0 W → CallsIn F (n - 1) P gf (#[.func (.yield l) #[] #[]] ++ lb) W fun e W' => (∃ v, e = .returned v) ∧ (J N W' ∨ ∃ k, Jx k W'))
    (hKt : ∀ {A B C : World}, Kp A B → Kp B C → Kp A C) (hKb : ∀ (W : World) (l : Nat) (o o' : Obj), w.heap.size ≤ l → W.heap[l]? = some o → o.isCells = false → o.isWalk = false → Kp W (W.putObj l o')) (hps : ∀ k, (encs k).size = ps.size)
    (I Ix : Nat → World → Prop) (hI : Turns w.heap.size I) (hIx : Turns w.heap.size Ix) (h0 : I 0 w) (a₁ : Nat → Act)
    (hassign : ∀ (l k : Nat) (W : World) (K : Act → World → Prop), K (a₁ k) W →
      assign.wpIn (F.inRound l) (n - 1 - 1) P (Exit.then K (fun _ _ _ => False)) { tmps := (ps.zip (encs k)).foldl (fun t (p, v) => t.setIfInBounds p v) a.tmps, defers := [] } W)
    (hbody : ∀ (l k : Nat) (W : World), I k W → k < N → body.wpIn (F.inRound l) (n - 1 - 1) P (turnPost w.heap.size Kp I Ix (k + 1) W) (a₁ k) W)
    (hdone : ∀ (D : Nat) (W : World), w.heap.size ≤ D → I N W → W.heap[D]? = some (.deferred (some [])) → Q .normal { a with defers := { target := .collected D, args := #[] } :: a.defers } W)
    (hstop : ∀ (D k : Nat) (W : World), w.heap.size ≤ D → Ix k W → W.heap[D]? = some (.deferred (some [])) → Code.ret.wpIn F n P Q { a with defers := { target := .collected D, args := #[] } :: a.defers } W) :
    (Code.rangeFunc g ps assign body).wpIn F n P Q a w := by
  refine wpIn_rangeFunc fun fn hfn => ?_
  -- the record: what it says but for its state and its jump stays
  let R : LoopState → Option Code → Obj := fun s j => .loop { state := s, pending := j, fn := fn, tmps := a.tmps, params := ps, assign := assign, body := body, defers := w.heap.size }
  let W0 : World := (w.alloc (.deferred (some []))).alloc (R .ready none)
  have two : ∀ (s : LoopState) (j : Option Code) (W : World), W.heap[w.heap.size + 1]? = some (R s j) → ∀ o', (W.putObj (w.heap.size + 1) o').heap[w.heap.size + 1]? = some o' := fun s j W h o' => World.putObj_heap_same (Array.getElem?_eq_some_iff.1 h).1
  have one : ∀ (W : World) o', W.heap[w.heap.size]? = some (.deferred (some [])) → (W.putObj (w.heap.size + 1) o').heap[w.heap.size]? = some (.deferred (some [])) := fun W o' h => (World.putObj_heap_other (by omega)).trans h
  have hR0 : W0.heap[w.heap.size + 1]? = some (R .ready none) := by
    have := World.alloc_heap_new (w.alloc (.deferred (some []))) (R .ready none)
    rwa [World.size_alloc] at this
  have hD0 : W0.heap[w.heap.size]? = some (.deferred (some [])) := (Below.heap_alloc _ _ _ (by simp)).trans (World.alloc_heap_new w _)
  have hb0 : Below w.heap.size w W0 := ((Below.refl _ w).alloc (Nat.le_refl _) _).alloc (by simp) _
  refine ⟨w.heap.size + 1, [{ target := .collected w.heap.size, args := #[] }], W0, { target := .fn (.func gf) lb, args := #[.func (.yield (w.heap.size + 1)) #[] #[]] }, W0, gf, #[.func (.yield (w.heap.size + 1)) #[] #[]] ++ lb, W0, ?_, ?_, ?_, ?_, fun _ => h1, ?_⟩
  · rw [hro]; exact run_enterLoop_outer _ _ _ _ _
  · simp only [resolve, hg]
    simp [go_sem]
  · intro f' hf'
    simp [Target.leads] at hf'
    subst hf'
    exact hFg
  · simp [invoke, go_sem, eg]
  refine (hseq (w.heap.size + 1) (fun k W => (I k W ∧ W.heap[w.heap.size + 1]? = some (R .ready none)) ∧ W.heap[w.heap.size]? = some (.deferred (some [])))
    (fun k W => (Ix k W ∧ W.heap[w.heap.size + 1]? = some (R .done (some .ret))) ∧ W.heap[w.heap.size]? = some (.deferred (some []))) W0 hb0 ?_ ⟨⟨hI.al _ _ _ (hI.al _ _ _ h0), hR0⟩, hD0⟩).mono ?_
  · rintro k W ⟨⟨hi, hl⟩, hd⟩ hlen
    have hbusy := two _ _ W hl (R .busy none)
    have hidle := one W (R .busy none) hd
    have hstart : Kp W (W.putObj (w.heap.size + 1) (R .busy none)) := hKb _ _ _ _ (by omega) hl rfl rfl
    refine ⟨fn, _, assign, body, run_yield hl (hps k), roundIn_of_wpIn hfn (hassign _ k W _ ⟨_, run_beginRound hl rfl, ?_⟩)⟩
    refine wpIn_mono (hbody _ k _ (hI.put _ _ _ _ _ hi (by omega) hl rfl) hlen) ?_
    rintro e b W3 hp
    have same : KeepsFrom w.heap.size (W.putObj (w.heap.size + 1) (R .busy none)) W3 → W3.heap[w.heap.size + 1]? = some (R .busy none) ∧ W3.heap[w.heap.size]? = some (.deferred (some [])) := fun k => ⟨k.same _ _ (by omega) hbusy rfl, k.same _ _ (Nat.le_refl _) hidle rfl⟩
    match e, hp with
    | .normal, ⟨k1, k2, k3⟩ =>
      obtain ⟨s1, s2⟩ := same k1
      exact ⟨_, _, run_endRound none s1, .inl ⟨rfl, ⟨⟨hI.put _ _ _ _ _ k3 (by omega) s1 rfl, two _ _ W3 s1 _⟩, one W3 _ s2⟩, hKt (hKt hstart k2) (hKb _ _ _ _ (by omega) s1 rfl rfl)⟩⟩
    | .ret, ⟨k1, k3⟩ =>
      obtain ⟨s1, s2⟩ := same k1
      exact ⟨_, _, run_endRound (some .ret) s1, .inr ⟨rfl, ⟨hIx.put _ _ _ _ _ k3 (by omega) s1 rfl, two _ _ W3 s1 _⟩, one W3 _ s2⟩⟩
  · rintro e W2 ⟨⟨v, rfl⟩, hh⟩
    rcases hh with ⟨⟨hi, hl⟩, hd⟩ | ⟨k, ⟨hi, hl⟩, hd⟩
    · exact ⟨none, _, run_endLoop hl (fun e => by cases e), hdone _ _ (Nat.le_refl _) (hI.put _ _ _ _ _ hi (by omega) hl rfl) (one W2 _ hd)⟩
    · exact ⟨some .ret, _, run_endLoop hl (fun e => by cases e), hstop _ k _ (Nat.le_refl _) (hIx.put _ _ _ _ _ hi (by omega) hl rfl) (one W2 _ hd)⟩

def downE (xs : List Int) (len k : Nat) : Array Value := #[.int .i64 (((len - 1 - k : Nat)) : Int), .int .i64 (cf xs (len - 1 - k))]
set_option maxRecDepth 100000 in
set_option maxHeartbeats 2000000 in
theorem back1_down (xs : List Int) (F : Fence) (n : Nat) (h8 : F.fn 102) (hro : F.round = none) (hn : 1 ≤ n) (l Bs n₀ b off len cap : Nat) (hreach : len ≤ 17592186044416) (hb : b < n₀) (J Jx : Nat → World → Prop)
    (hY : ∀ k W, J k W → k < len → YieldAt F (n - 1) Tryz.prog l (downE xs len k) W fun e W' => (e = .returned (.bool true) ∧ J (k + 1) W' ∧ KpB n₀ Bs W W') ∨ (e = .returned (.bool false) ∧ Jx (k + 1) W'))
    (W : World) (hBs : W.cell? ⟨Bs, 0, none⟩ = some (.slice (some ⟨b, off, none⟩) len cap)) (hc : ∀ j, j < len → W.cell? ⟨b, off + j, none⟩ = some (.int .i64 (cf xs j))) (h0 : J 0 W) :
    CallsIn F n Tryz.prog 102 #[.func (.yield l) #[] #[], .pointer (some ⟨Bs, 0, none⟩)] W fun e W' => (∃ v, e = .returned v) ∧ (J len W' ∨ ∃ k, Jx k W') := by
  refine callsIn_of_wp Tryz.func102 rfl h8 ?_ hro
  simp only [Tryz.ntmps102, List.size_toArray, List.length_cons, List.length_nil, Nat.reduceAdd, Nat.reduceSub, Array.replicate_succ, Array.replicate_zero, List.push_toArray, List.append_toArray, List.nil_append, List.cons_append]
  gi_wp2
  gi_loopw [3] (fun i wr => ∃ k : Nat, k ≤ len ∧ i = .int .i64 ((len : Int) - 1 - (k : Int)) ∧ J k wr ∧ KpB n₀ Bs W wr)
    (fun i _ => (intOf i + 1).toNat)
  case atStart => exact ⟨0, Nat.zero_le _, by simp, h0, KpB.refl _ _ _⟩
  case round =>
    obtain ⟨k, hk, rfl, hJs, hnx⟩ := hrel
    have hcb : wr.cell? ⟨Bs, 0, none⟩ = some (.slice (some ⟨b, off, none⟩) len cap) := (World.cell?_of_block (w := W) hnx.2).trans hBs
    by_cases hlt : k < len
    · obtain ⟨i, hi⟩ : ∃ i, len - 1 - k = i := ⟨_, rfl⟩
      have hii : (len : Int) - 1 - (k : Int) = (i : Int) := by omega
      have hcx' : wr.cell? ⟨b, off + i, none⟩ = some (.int .i64 (cf xs i)) := (hnx.1.cell (p := ⟨b, off + i, none⟩) hb).trans (hc i (by omega))
      have hy9 := hY k wr hJs hlt
      unfold downE at hy9
      rw [hi] at hy9
      obtain ⟨fn, tmps, assign, body, hy, hR⟩ := hy9
      rw [hii]
      have i1 : (i : Int) < (len : Int) := by omega
      have II := Lib.hid hii
      generalize cf xs i = x at *
      clear hii hi
      gi_wp2
      refine hR.mono ?_
      rintro e W3 (⟨rfl, hJ3, hk3⟩ | ⟨rfl, hJx3⟩)
      · gi_wp2
        go_roundw
        case rel => exact ⟨k + 1, by omega, (by have := II.out; congr 1; omega), hJ3, hnx.trans hk3⟩
        case measure => simp [intOf]
      · gi_wp2
        refine bodyPost_ret (results_none rfl _ _ _) rfl ?_
        exact ⟨⟨_, rfl⟩, .inr ⟨_, hJx3⟩⟩
    · obtain rfl : k = len := by omega
      have e1 : (k : Int) - 1 - (k : Int) = -1 := by omega
      rw [e1]
      gi_wp2
      go_end0
      exact ⟨⟨_, rfl⟩, .inl hJs⟩
set_option maxRecDepth 100000 in
set_option maxHeartbeats 1000000 in
theorem back0_down (F : Fence) (n : Nat) (h8 : F.fn 102) (hro : F.round = none) (l Bs cap : Nat) (A : Option Addr) (J : Nat → World → Prop) (W : World) (hBs : W.cell? ⟨Bs, 0, none⟩ = some (.slice A 0 cap)) (h0 : J 0 W) :
    CallsIn F n Tryz.prog 102 #[.func (.yield l) #[] #[], .pointer (some ⟨Bs, 0, none⟩)] W fun e W' => (∃ v, e = .returned v) ∧ J 0 W' :=
  back0I_in (β := Int) F n h8 hro l Bs cap A (fun _ W => J 0 W) W hBs h0
theorem back_down (xs : List Int) (F : Fence) (n : Nat) (h7 : F.fn 102) (hro : F.round = none) (hn : 1 ≤ n) (Bs n₀ len cap : Nat) (A : Option Addr) (hreach : len ≤ 17592186044416) (w : World) (hBs : Bs < w.heap.size) (hn₀ : n₀ ≤ w.heap.size)
    (hc : w.cell? ⟨Bs, 0, none⟩ = some (.slice A len cap)) (hI : len = 0 ∨ ∃ b off, A = some ⟨b, off, none⟩ ∧ b < n₀ ∧ ∀ j, j < len → w.cell? ⟨b, off + j, none⟩ = some (.int .i64 (cf xs j)))
    (l : Nat) (J Jx : Nat → World → Prop) (W : World) (hW : Below w.heap.size w W)
    (hY : ∀ k W1, J k W1 → k < len → YieldAt F (n - 1) Tryz.prog l (downE xs len k) W1 fun e W' => (e = .returned (.bool true) ∧ J (k + 1) W' ∧ KpB n₀ Bs W1 W') ∨ (e = .returned (.bool false) ∧ Jx (k + 1) W'))
    (h0 : J 0 W) : CallsIn F n Tryz.prog 102 (#[.func (.yield l) #[] #[]] ++ #[.pointer (some ⟨Bs, 0, none⟩)]) W fun e W' => (∃ v, e = .returned v) ∧ (J len W' ∨ ∃ k, Jx k W') := by
  have hc' := (hW.cell (p := ⟨Bs, 0, none⟩) hBs).trans hc
  rcases hI with rfl | ⟨b, off, rfl, hb, hcs⟩
  · exact (back0_down F n h7 hro l Bs cap A J W hc' h0).mono fun e W' ⟨he, hj⟩ => ⟨he, .inl hj⟩
  · exact back1_down xs F n h7 hro hn l Bs n₀ b off len cap hreach hb J Jx hY W hc' (fun j hj => ((hW.mono hn₀).cell (p := ⟨b, off + j, none⟩) hb).trans (hcs j hj)) h0
theorem grow_of {w w' : World} (h : Below w.heap.size w w') (hd : w.drawn ≤ w'.drawn) : ∃ q os, w' = Sort.grow (w.drewN q) os := by
  refine ⟨w'.drawn - w.drawn, w'.heap.extract w.heap.size w'.heap.size, ?_⟩
  have e1 : w'.heap = w.heap ++ w'.heap.extract w.heap.size w'.heap.size := by
    apply Array.ext_getElem?
    intro i
    rcases Nat.lt_or_ge i w.heap.size with hi | hi
    · rw [Array.getElem?_append_left hi, h.block i hi]
    · rw [Array.getElem?_append_right hi, Array.getElem?_extract]
      have hs := h.size
      by_cases hi2 : i < w'.heap.size
      · rw [if_pos (by omega)]
        congr 1; omega
      · rw [if_neg (by omega), Array.getElem?_eq_none (by omega)]
  have e2 : w'.drawn = w.drawn + (w'.drawn - w.drawn) := by omega
  obtain ⟨hp, tp, dr, os, ou⟩ := w'
  obtain ⟨hp0, tp0, dr0, os0, ou0⟩ := w
  have h1 := h.os
  have h2 := h.tape
  have h3 := h.output
  simp only [] at h1 h2 h3 e1 e2
  subst h1 h2 h3
  simp only [Sort.grow, World.drewN, World.mk.injEq]
  exact ⟨e1, trivial, e2, trivial, trivial⟩
end Go.Proofs.YtnkhhndjbanmnaaGreatDoor

/- Words for memory, of ints: a slice that is only read; a block of the call's own that is known whole; a row that grows by append. -/
namespace Go.Proofs.YtnkhhndjbanmnaaGreatDoor
open Go.RowKit

abbrev iv (x : Int) : Value := .int .i64 x
def Fi (xs : List Int) : Prop := ∀ x ∈ xs, In64 x
theorem fi_nil : Fi [] := fun _ h => by cases h
theorem fi_take {xs : List Int} (h : Fi xs) (k : Nat) : Fi (xs.take k) := fun y hy => h y (List.mem_of_mem_take hy)
theorem fi_drop {xs : List Int} (h : Fi xs) (k : Nat) : Fi (xs.drop k) := fun y hy => h y (List.mem_of_mem_drop hy)
theorem fi_append {xs ys : List Int} (h : Fi xs) (k : Fi ys) : Fi (xs ++ ys) := fun y hy => by
  rcases List.mem_append.1 hy with hy | hy
  · exact h _ hy
  · exact k _ hy
theorem fi_one {x : Int} (h : In64 x) : Fi [x] := fun y hy => by simp at hy; subst hy; exact h
theorem fi_getD {xs : List Int} (h : Fi xs) (j : Nat) : In64 (xs.getD j 0) := by
  rw [List.getD_eq_getElem?_getD]
  by_cases hj : j < xs.length
  · rw [List.getElem?_eq_getElem hj]; exact h _ (List.getElem_mem hj)
  · rw [List.getElem?_eq_none (by omega)]; unfold In64; decide

def IRd (w : World) (A : Option Addr) (xs : List Int) : Prop :=
  Fi xs ∧ (xs = [] ∨ ∃ b o, A = some ⟨b, o, none⟩ ∧ b < w.heap.size ∧ ∀ j (h : j < xs.length), w.cell? ⟨b, o + j, none⟩ = some (iv xs[j]))

theorem IRd.fit {w : World} {A : Option Addr} {xs : List Int} (h : IRd w A xs) : Fi xs := h.1
theorem IRd.nil (w : World) (A : Option Addr) : IRd w A [] := ⟨fi_nil, .inl rfl⟩
theorem IRd.below {w w' : World} {A : Option Addr} {xs : List Int} (h : IRd w A xs) (hb : Below w.heap.size w w') : IRd w' A xs := by
  refine ⟨h.1, h.2.imp id ?_⟩
  rintro ⟨b, o, rfl, hlt, hc⟩
  exact ⟨b, o, rfl, Nat.lt_of_lt_of_le hlt hb.size, fun j hj => (hb.cell (p := ⟨b, o + j, none⟩) hlt).trans (hc j hj)⟩
theorem IRd.take {w : World} {A : Option Addr} {xs : List Int} (h : IRd w A xs) (k : Nat) : IRd w A (xs.take k) := by
  refine ⟨fi_take h.1 k, ?_⟩
  rcases h.2 with rfl | ⟨b, o, rfl, hlt, hc⟩
  · left; simp
  · right
    refine ⟨b, o, rfl, hlt, fun j hj => ?_⟩
    have hj' : j < xs.length := by rw [List.length_take] at hj; omega
    rw [List.getElem_take]
    exact hc j hj'
theorem IRd.grown {w w' : World} {g : Nat} {A : Option Addr} {xs : List Int} (h : IRd w A xs) (hg : w.grownBy w' (some g)) (hne : ∀ b o s, A = some ⟨b, o, s⟩ → b ≠ g) : IRd w' A xs := by
  refine ⟨h.1, h.2.imp id ?_⟩
  rintro ⟨b, o, rfl, hlt, hc⟩
  refine ⟨b, o, rfl, Nat.lt_of_lt_of_le hlt hg.size, fun j hj => ?_⟩
  exact (World.cell?_of_block (w := w) (hg.block b hlt (fun e => hne b o none rfl (by injection e)))).trans (hc j hj)

def IBlk (w : World) (g : Nat) (L : List Int) : Prop := w.heap[g]? = some (.cells (L.map iv).toArray 3 (0, 0)) ∧ Fi L

theorem IBlk.lt {w : World} {g : Nat} {L : List Int} (h : IBlk w g L) : g < w.heap.size := by
  rcases Nat.lt_or_ge g w.heap.size with hlt | hge
  · exact hlt
  · have := h.1; rw [Array.getElem?_eq_none hge] at this; cases this
theorem IBlk.fit {w : World} {g : Nat} {L : List Int} (h : IBlk w g L) : Fi L := h.2
theorem IBlk.cell {w : World} {g : Nat} {L : List Int} (h : IBlk w g L) (i : Nat) (hi : i < L.length) : w.cell? ⟨g, i, none⟩ = some (iv L[i]) := by
  rw [cell_of_row w g i _ _ (0, 0) h.1]
  simp [hi]
theorem IBlk.frozen {w : World} {g : Nat} {L : List Int} (h : IBlk w g L) (i : Nat) : w.frozen? ⟨g, i, none⟩ = false := by
  have := h.1
  simp [World.frozen?, this]
theorem IBlk.below {w w' : World} {g : Nat} {L : List Int} (h : IBlk w g L) (hb : Below w.heap.size w w') : IBlk w' g L := ⟨(hb.block g h.lt).trans h.1, h.2⟩
theorem IBlk.grown {w w' : World} {g g' : Nat} {L : List Int} (h : IBlk w g L) (hb : w.grownBy w' (some g')) (hne : g ≠ g') : IBlk w' g L :=
  ⟨(hb.block g h.lt (fun e => hne (by injection e))).trans h.1, h.2⟩
theorem IBlk.set_ {w : World} {g : Nat} {L : List Int} (h : IBlk w g L) (i : Nat) (u : Int) (hu : In64 u) : IBlk (w.setCell ⟨g, i, none⟩ (iv u)) g (L.set i u) := by
  refine ⟨?_, ?_⟩
  · have := h.1
    simp [World.setCell, Array.getElem?_modify, this]
  · intro x hx
    rcases List.mem_or_eq_of_mem_set hx with hx | rfl
    · exact h.2 x hx
    · exact hu
theorem IBlk.far {w : World} {g : Nat} {L : List Int} (h : IBlk w g L) {p : Addr} (hp : g ≠ p.block) (u : Value) : IBlk (w.setCell p u) g L :=
  ⟨(Below.heap_setCell w p u g hp).trans h.1, h.2⟩
theorem IBlk.alloc {w : World} {g : Nat} {L : List Int} (h : IBlk w g L) (o : Obj) : IBlk (w.alloc o) g L := ⟨(Below.heap_alloc w o g h.lt).trans h.1, h.2⟩
theorem IBlk.drew {w : World} {g : Nat} {L : List Int} (h : IBlk w g L) : IBlk w.drew g L := h
theorem IBlk.drewN {w : World} {g : Nat} {L : List Int} (h : IBlk w g L) (n : Nat) : IBlk (w.drewN n) g L := h
theorem IBlk.rd {w : World} {g : Nat} {L : List Int} (h : IBlk w g L) (o n : Nat) : IRd w (some ⟨g, o, none⟩) ((L.drop o).take n) := by
  refine ⟨fi_take (fi_drop h.2 o) n, .inr ⟨g, o, rfl, h.lt, fun j hj => ?_⟩⟩
  have hj' : o + j < L.length := by simp only [List.length_take, List.length_drop] at hj; omega
  rw [h.cell (o + j) hj']
  simp
theorem IBlk.rd0 {w : World} {g : Nat} {L : List Int} (h : IBlk w g L) : IRd w (some ⟨g, 0, none⟩) L := by
  have := h.rd 0 L.length
  simpa using this

theorem ibelow_drewN {B : Nat} {a w : World} (h : Below B a w) (n : Nat) : Below B a (w.drewN n) := ⟨h.os, h.tape, h.output, h.size, h.block⟩

def ISl (w : World) (A : Option Addr) (n c : Nat) (xs : List Int) : Prop := n = xs.length ∧ n ≤ c ∧ c ≤ 9223372036854775807 ∧ (A = none → c = 0) ∧ IRd w A xs

theorem ISl.len {w : World} {A : Option Addr} {n c : Nat} {xs : List Int} (h : ISl w A n c xs) : n = xs.length := h.1
theorem ISl.le {w : World} {A : Option Addr} {n c : Nat} {xs : List Int} (h : ISl w A n c xs) : n ≤ c := h.2.1
theorem ISl.max {w : World} {A : Option Addr} {n c : Nat} {xs : List Int} (h : ISl w A n c xs) : c ≤ 9223372036854775807 := h.2.2.1
theorem ISl.rd {w : World} {A : Option Addr} {n c : Nat} {xs : List Int} (h : ISl w A n c xs) : IRd w A xs := h.2.2.2.2
theorem ISl.fit {w : World} {A : Option Addr} {n c : Nat} {xs : List Int} (h : ISl w A n c xs) : Fi xs := h.2.2.2.2.1

theorem ISl.below {w w' : World} {A : Option Addr} {n c : Nat} {xs : List Int} (h : ISl w A n c xs) (hb : Below w.heap.size w w') : ISl w' A n c xs := ⟨h.1, h.2.1, h.2.2.1, h.2.2.2.1, h.2.2.2.2.below hb⟩
theorem ISl.at_ {w : World} {A : Option Addr} {n c : Nat} {xs : List Int} (h : ISl w A n c xs) (hn : 0 < n) : ∃ b o, A = some ⟨b, o, none⟩ ∧ b < w.heap.size ∧ ∀ j, j < n → w.cell? ⟨b, o + j, none⟩ = some (iv (xs.getD j 0)) := by
  rcases h.rd.2 with e | ⟨b, o, rfl, hlt, hc⟩
  · rw [h.len, e] at hn; exact absurd hn (by simp)
  · refine ⟨b, o, rfl, hlt, fun j hj => ?_⟩
    have hj' : j < xs.length := by rw [← h.len]; exact hj
    rw [hc j hj', List.getD_eq_getElem?_getD, List.getElem?_eq_getElem hj']
    rfl

theorem IBlk.sl {w : World} {g : Nat} {L : List Int} (h : IBlk w g L) (hm : L.length ≤ 9223372036854775807) : ISl w (some ⟨g, 0, none⟩) L.length L.length L :=
  ⟨rfl, Nat.le_refl _, hm, (fun e => by cases e), h.rd0⟩
theorem IBlk.cellD {w : World} {g : Nat} {L : List Int} (h : IBlk w g L) (i : Nat) (hi : i < L.length) : w.cell? ⟨g, i, none⟩ = some (iv (L.getD i 0)) := by
  rw [h.cell i hi, List.getD_eq_getElem?_getD, List.getElem?_eq_getElem hi]
  rfl
theorem infoI : (Tryz.prog.info? 3).map (fun i => (i.zero, i.size, i.bytes)) = some (some (.int .i64 0), 1, 8) := by kernel_rfl

theorem wpList_make_ints {ops : Array Oper} {rest : List Oper} {o : Oper} {a : Act} {Q : Exit → Act → World → Prop} (w : World)
    (hg : o.guard = none) (l c : Operand) (hop : o.op = Op.makeSlice 22 l c) (kl kc : IntKind) (L C : Int) (n : Nat) (hl : a.eval l = .int kl L) (hc : a.eval c = .int kc C) (hL : L = (n : Int)) (hC : C = (n : Int)) (hn : n ≤ 35184372088832)
    (hK : ∀ w', IBlk w' w.heap.size (List.replicate n 0) → Below w.heap.size w w' → wpList Tryz.prog ops Q rest (a.put o.dst (.slice (some ⟨w.heap.size, 0, none⟩) n n)) w') :
    wpList Tryz.prog ops Q (o :: rest) a w := by
  obtain ⟨i0, hi, hz0, hz1, hz2⟩ := info_parts infoI
  refine wpList_make_full w hg l c 22 hop w.heap.size 3 i0 _ 1 Tryz.underlying22 hi hz0 hz1 kl kc L C n hl hc hL hC (by rw [hz2]; omega) (by unfold maxLen; omega) (Nat.le_refl _) ?_
  intro w' ho hgr
  have hbel : Below w.heap.size w w' := (Below.refl _ _).grown hgr (Nat.le_refl _) (fun k e => by cases e)
  refine hK w' ⟨?_, ?_⟩ hbel
  · obtain ⟨h1, ⟨h2, _⟩ | ⟨g, cap, cur, hv, hb, hh, hn1, hn2, hs, ht⟩⟩ := ho
    · cases h2
    · simp only [Value.slice.injEq, Option.some.injEq, Addr.mk.injEq, and_true, true_and] at hv
      obtain ⟨rfl, rfl⟩ := hv
      have e1 : cur.toList = (List.replicate n 0).map iv := by
        rw [List.take_of_length_le (by simp [hs])] at ht
        rw [ht, show (Value.int IntKind.i64 0).cells = #[Value.int IntKind.i64 0] from rfl, toList_madeCells_one]
        simp
      rw [hh, show ((List.replicate n 0).map iv).toArray = cur from by rw [← e1]]
  · intro x hx
    rw [List.eq_of_mem_replicate hx]
    unfold In64; decide

def IOw (w : World) (B : Nat) (v : Value) (xs : List Int) : Prop := w.ownsRow B 3 1 v xs.length (xs.map iv) ∧ Fi xs

theorem IOw.nil (w : World) (B : Nat) : IOw w B (.slice none 0 0) [] := ⟨World.ownsRow_nil _ _ _ _, fi_nil⟩
theorem IOw.fit {w : World} {B : Nat} {v : Value} {xs : List Int} (h : IOw w B v xs) : Fi xs := h.2
theorem IOw.alloc {w : World} {B : Nat} {v : Value} {xs : List Int} (h : IOw w B v xs) (o : Obj) : IOw (w.alloc o) B v xs := ⟨h.1.alloc o, h.2⟩
theorem IOw.drew {w : World} {B : Nat} {v : Value} {xs : List Int} (h : IOw w B v xs) : IOw w.drew B v xs := h
theorem IOw.sl {w : World} {B : Nat} {v : Value} {xs : List Int} (h : IOw w B v xs) : ∃ A c, v = .slice A xs.length c ∧ ISl w A xs.length c xs ∧ (∀ b o s, A = some ⟨b, o, s⟩ → B ≤ b) := by
  obtain ⟨⟨hl, h2⟩, hf⟩ := h
  rcases h2 with ⟨rfl, h0⟩ | ⟨g, cap, cur, rfl, hb, hh, hn, hc, hs, ht⟩
  · refine ⟨none, 0, by rw [h0], ⟨rfl, by omega, by decide, fun _ => rfl, hf, .inl (List.eq_nil_of_length_eq_zero h0)⟩, fun b o s e => by cases e⟩
  · refine ⟨some ⟨g, 0, none⟩, cap, rfl, ⟨rfl, hn, by unfold maxLen at hc; omega, (fun e => by cases e), hf, .inr ⟨g, 0, rfl, (Array.getElem?_eq_some_iff.1 hh).1, fun j hj => ?_⟩⟩, fun b o s e => ?_⟩
    · rw [cell_of_row w g (0 + j) cur _ (0, 0) hh, Nat.zero_add]
      have h1 : (cur.toList.take (xs.length * 1))[j]? = (xs.map iv)[j]? := by rw [ht]
      rw [List.getElem?_take_of_lt (by omega), List.getElem?_map, List.getElem?_eq_getElem hj] at h1
      simpa using h1
    · simp only [Option.some.injEq, Addr.mk.injEq] at e
      omega
theorem IOw.lt {w : World} {B : Nat} {v : Value} {xs : List Int} (h : IOw w B v xs) : ∀ k, v.ownBlock = some k → B ≤ k := fun k hk => (h.1.lt k hk).1

theorem iadd_add (a : Addr) (k : Nat) (b o : Nat) (h : a = ⟨b, o, none⟩) : a.add k = ⟨b, o + k, none⟩ := by
  subst h
  unfold Addr.add
  by_cases hk : k = 0 <;> simp [hk]

theorem irun_app (w : World) (ty : TypeId) (B : Nat) (v : Value) (xs : List Int) (hown : IOw w B v xs) (A : Option Addr) (m c : Nat) (news : List Int) (hR : ISl w A m c news) (hmax : xs.length + m ≤ 17592186044416) (hB : B ≤ w.heap.size) :
    ∃ v' w', (Builtin.append_ #[22, 22] ty #[v, .slice A m c]).run Tryz.prog w = .ok v' w' ∧ IOw w' B v' (xs ++ news) ∧ Below B w w' := by
  obtain ⟨i0, hi, hz0, hz1, hz2⟩ := info_parts infoI
  have hl : (xs ++ news).length = xs.length + m := by rw [List.length_append, hR.len]
  have hfit : Fi (xs ++ news) := fi_append hown.2 hR.fit
  rcases A with _ | ad
  · have h0 : c = 0 := hR.2.2.2.1 rfl
    have hm : m = 0 := by have := hR.le; omega
    subst h0; subst hm
    have hn : news = [] := List.eq_nil_of_length_eq_zero hR.len.symm
    subst hn
    refine ⟨v, w, run_append_owned_none (P := Tryz.prog) (w := w) B 22 ty 3 i0 1 Tryz.underlying22 hi v xs.length (xs.map iv) hown.1, ?_, Below.refl _ _⟩
    simpa using hown
  · have hcells : ∀ j u, (news.map iv)[j]? = some u → w.cell? (ad.add j) = some u := by
      intro j u hj
      rw [List.getElem?_map] at hj
      obtain ⟨x, hx, rfl⟩ := Option.map_eq_some_iff.1 hj
      obtain ⟨hj', rfl⟩ := List.getElem?_eq_some_iff.1 hx
      rcases hR.rd.2 with e | ⟨b, o, e, hlt, hc⟩
      · rw [e] at hj'; exact absurd hj' (by simp)
      · simp only [Option.some.injEq] at e
        rw [iadd_add ad j b o e]
        exact hc j hj'
    obtain ⟨v', w', hrun, h2, h3, _⟩ := run_append_own (P := Tryz.prog) w B 22 ty 3 i0 _ 1 8 Tryz.underlying22 hi hz0 hz1 hz2 rfl (by decide) v xs.length (xs.map iv) hown.1 ad m c (news.map iv)
      (by rw [List.length_map, hR.len]; omega) hcells (by intro u hu; obtain ⟨x, _, rfl⟩ := List.mem_map.1 hu; rfl) (by unfold maxLen; omega) (by omega) hB
    refine ⟨v', w', hrun, ⟨?_, hfit⟩, (Below.refl B w).grown h3 hB (hown.lt)⟩
    rw [hl, List.map_append]
    exact h2

theorem iwp_app {o : Oper} {a : Act} {K : Act → World → Prop} {Q : Exit → Act → World → Prop} (w : World) (s x : Operand) (ho : o.op = .call { callee := .builtin .append, args := #[s, x], argTypes := #[22, 22] })
    (B : Nat) (v : Value) (xs : List Int) (hs : a.eval s = v) (hown : IOw w B v xs) (A : Option Addr) (m c : Nat) (hx : a.eval x = .slice A m c) (news : List Int) (hR : ISl w A m c news) (hmax : xs.length + m ≤ 17592186044416) (hB : B ≤ w.heap.size)
    (h : ∀ v' w', IOw w' B v' (xs ++ news) → Below B w w' → K (a.put o.dst v') w') : o.wp Tryz.prog a w K Q := by
  obtain ⟨v', w', hrun, h2, h3⟩ := irun_app w o.type B v xs hown A m c news hR hmax hB
  unfold Oper.wp execOp
  simp only [ho, resolve, invoke, builtin, Sem.run_bind, Sem.run_pure, Result.andThen_ok, List.map_toArray, List.map_cons, List.map_nil, hs, hx, hrun]
  exact h v' w' h2 h3

theorem iwpList_app {ops : Array Oper} {rest : List Oper} {o : Oper} {a : Act} {Q : Exit → Act → World → Prop} (w : World) (hgd : o.guard = none) (s x : Operand) (ho : o.op = .call { callee := .builtin .append, args := #[s, x], argTypes := #[22, 22] })
    (B : Nat) (v : Value) (xs : List Int) (hs : a.eval s = v) (hown : IOw w B v xs) (A : Option Addr) (m c : Nat) (hx : a.eval x = .slice A m c) (news : List Int) (hR : ISl w A m c news) (hmax : xs.length + m ≤ 17592186044416) (hB : B ≤ w.heap.size)
    (h : ∀ v' w', IOw w' B v' (xs ++ news) → Below B w w' → wpList Tryz.prog ops Q rest (a.put o.dst v') w') : wpList Tryz.prog ops Q (o :: rest) a w :=
  wpList_plain hgd fun _ hK => iwp_app w s x ho B v xs hs hown A m c hx news hR hmax hB fun v' w' h2 h3 => hK _ _ (h v' w' h2 h3)

theorem iblk_list (w : World) (xs : List Int) (hf : Fi xs) : IBlk (w.alloc (.cells (xs.map iv).toArray 3)) w.heap.size xs := ⟨heap_alloc_new w _, hf⟩
end Go.Proofs.YtnkhhndjbanmnaaGreatDoor

/- A small modulus; a row's rests. Mathematics, and the words for memory. -/
namespace Go.Proofs.YtnkhhndjbanmnaaGreatDoor

def Md (p : Int) : Prop := 1 ≤ p ∧ p ≤ 65521
theorem Pr.md {p : Int} (h : Pr p) : Md p := ⟨by have := h.1; omega, h.2.1⟩
theorem Md.in64 {p : Int} (h : Md p) : In64 p := by obtain ⟨h1, h2⟩ := h; unfold In64; omega
theorem Pol.rs {p : Int} {xs : List Int} {f : Ser} (h : Pol p xs f) : Rs p xs := h.1.1

def rst (p : Int) (xs : List Int) : List Int := xs.map (· % p)
theorem rst_length (p : Int) (xs : List Int) : (rst p xs).length = xs.length := List.length_map ..
theorem rst_rs (p : Int) (hp : Md p) (xs : List Int) : Rs p (rst p xs) := fun y hy => by
  obtain ⟨x, _, rfl⟩ := List.mem_map.1 hy
  have := hp.1
  exact ⟨Int.emod_nonneg _ (by omega), Int.emod_lt_of_pos _ (by omega)⟩
theorem cf_rst (p : Int) (xs : List Int) (i : Nat) : cf (rst p xs) i = cf xs i % p := cf_map (· % p) (by simp) xs i
theorem rst_snoc (p : Int) (xs : List Int) (k : Nat) (hk : k < xs.length) : rst p (xs.take (k + 1)) = rst p (xs.take k) ++ [cf xs k % p] := by
  rw [List.take_succ_eq_append_getElem hk, cf_at hk]
  simp only [rst, List.map_append, List.map_cons, List.map_nil]
end Go.Proofs.YtnkhhndjbanmnaaGreatDoor

/- A product's coefficient told by partial sums; a row cut at its last place that isn't nought. Mathematics alone. -/
namespace Go.Proofs.YtnkhhndjbanmnaaGreatDoor

def psum (f g : Ser) (k : Nat) : Nat → Int
  | 0 => 0
  | i + 1 => psum f g k i + f i * g (k - i)
theorem psum_shift (f g : Ser) (k i : Nat) : psum f g (k + 1) (i + 1) = f 0 * g (k + 1) + psum (Ser.tl f) g k i := by
  induction i with
  | zero => show (0 : Int) + f 0 * g (k + 1 - 0) = _; show _ = f 0 * g (k + 1) + 0; simp
  | succ i ih =>
    show psum f g (k + 1) (i + 1) + f (i + 1) * g (k + 1 - (i + 1)) = _
    rw [ih, Nat.add_sub_add_right]
    show _ = f 0 * g (k + 1) + (psum (Ser.tl f) g k i + f (i + 1) * g (k - i))
    omega
theorem psum_all (f g : Ser) (k : Nat) : psum f g k (k + 1) = Ser.mul f g k := by
  induction k generalizing f with
  | zero => rw [Ser.mul_zero_at]; show (0 : Int) + f 0 * g (0 - 0) = _; simp
  | succ k ih => rw [psum_shift, ih, Ser.mul_succ]
theorem psum_low {f g : Ser} {k i : Nat} (h : ∀ j, j < i → g (k - j) = 0) : psum f g k i = 0 := by
  induction i with
  | zero => rfl
  | succ i ih =>
    show psum f g k i + f i * g (k - i) = 0
    rw [ih (fun j hj => h j (by omega)), h i (by omega), Int.mul_zero]; rfl
theorem psum_high {f g : Ser} {k i : Nat} (h : ∀ j, i ≤ j → f j = 0) (d : Nat) : psum f g k (i + d) = psum f g k i := by
  induction d with
  | zero => rfl
  | succ d ih =>
    show psum f g k (i + d) + f (i + d) * g (k - (i + d)) = _
    rw [ih, h (i + d) (by omega), Int.zero_mul, Int.add_zero]
theorem psum_end {f g : Ser} {k i : Nat} (h : ∀ j, i ≤ j → f j = 0) (hi : i ≤ k + 1) : psum f g k i = Ser.mul f g k := by
  rw [← psum_all, show k + 1 = i + (k + 1 - i) from by omega, psum_high h]
theorem mul_bdM {p x y : Int} (hx : 0 ≤ x ∧ x < p) (hy : 0 ≤ y ∧ y < p) (hp : p ≤ 65521) : 0 ≤ x * y ∧ x * y ≤ 4292870400 := by
  refine ⟨Int.mul_nonneg hx.1 hy.1, ?_⟩
  have h1 : x * y ≤ 65520 * y := Int.mul_le_mul_of_nonneg_right (by omega) hy.1
  omega
theorem psum_bd {p : Int} {f g : Ser} (hp : p ≤ 65521) (hf : ∀ i, 0 ≤ f i ∧ f i < p) (hg : ∀ i, 0 ≤ g i ∧ g i < p) (k i : Nat) : 0 ≤ psum f g k i ∧ psum f g k i ≤ 4292870400 * (i : Int) := by
  induction i with
  | zero => exact ⟨Int.le_refl _, by show (0 : Int) ≤ _; omega⟩
  | succ i ih =>
    have := mul_bdM (hf i) (hg (k - i)) hp
    show 0 ≤ psum f g k i + f i * g (k - i) ∧ psum f g k i + f i * g (k - i) ≤ _
    generalize f i * g (k - i) = P at *
    omega
theorem mul_bdS {p : Int} {f g : Ser} {n : Nat} (hp : p ≤ 65521) (hf : ∀ i, 0 ≤ f i ∧ f i < p) (hg : ∀ i, 0 ≤ g i ∧ g i < p) (hn : ∀ j, n ≤ j → f j = 0) (k : Nat) : 0 ≤ Ser.mul f g k ∧ Ser.mul f g k ≤ 4292870400 * (n : Int) := by
  rcases Nat.lt_or_ge (k + 1) n with h | h
  · rw [← psum_all]
    have := psum_bd hp hf hg k (k + 1)
    omega
  · rw [← psum_end hn h]
    exact psum_bd hp hf hg k n

def CutAt (xs : List Int) (t : Nat) : Prop := t ≤ xs.length ∧ (∀ i, t ≤ i → cf xs i = 0) ∧ (t = 0 ∨ cf xs (t - 1) ≠ 0)
theorem CutAt.pol {p : Int} {xs : List Int} {t : Nat} (h : CutAt xs t) (hr : Rs p xs) {f : Ser} (e : Ser.Eq p (cf xs) f) : Pol p (xs.take t) f := by
  obtain ⟨h1, h2⟩ := pln_cut hr t h.1 h.2.1 h.2.2
  refine ⟨h1, fun i => ?_⟩
  rw [h2]
  exact e i
def MdIn (p : Int) (f : Ser) (n t : Nat) (L : List Int) : Prop := L.length = n ∧ Rs p L ∧ ∀ i, cf L i = if i < t then f i % p else 0
theorem mdIn_start {p : Int} (hp : 1 ≤ p) (f : Ser) (n : Nat) : MdIn p f n 0 (List.replicate n 0) := ⟨by simp, Rs.zeros n hp, fun i => by rw [cf_replicate, if_neg (by omega)]⟩
theorem MdIn.step {p : Int} (hp : 1 ≤ p) {f : Ser} {n t : Nat} {L : List Int} (h : MdIn p f n t L) (ht : t < n) : MdIn p f n (t + 1) (L.set t (f t % p)) := by
  obtain ⟨h1, h2, h3⟩ := h
  refine ⟨by rw [List.length_set, h1], h2.set _ ⟨Int.emod_nonneg _ (by omega), Int.emod_lt_of_pos _ (by omega)⟩, fun i => ?_⟩
  rw [cf_set _ _ (by omega), h3]
  by_cases e : i = t
  · rw [if_pos e, if_pos (by omega), e]
  · rw [if_neg e]
    by_cases hi : i < t
    · rw [if_pos hi, if_pos (by omega)]
    · rw [if_neg hi, if_neg (by omega)]
def fst (n : Nat) (f : Ser) : Ser := fun i => if i < n then f i else 0
theorem MdIn.eq {p : Int} {f : Ser} {n : Nat} {L : List Int} (h : MdIn p f n n L) : Ser.Eq p (cf L) (fst n f) := fun i => by
  rw [h.2.2]
  show _ = (if i < n then f i else 0) % p
  by_cases e : i < n
  · rw [if_pos e, if_pos e, Int.emod_emod_of_dvd _ (Int.dvd_refl p)]
  · rw [if_neg e, if_neg e]
theorem fst_bd {p : Int} {f : Ser} {n : Nat} (h : Ser.Bd p f n) : Ser.Eq p (fst n f) f := fun i => by
  show (if i < n then f i else 0) % p = f i % p
  by_cases e : i < n
  · rw [if_pos e]
  · rw [if_neg e, h i (by omega)]; rfl
theorem fst_eq {p : Int} {f g : Ser} {n : Nat} (h : Ser.Eq p f g) : Ser.Eq p (fst n f) (fst n g) := fun i => by
  show (if i < n then f i else 0) % p = (if i < n then g i else 0) % p
  by_cases e : i < n
  · rw [if_pos e, if_pos e]; exact h i
  · rw [if_neg e, if_neg e]
end Go.Proofs.YtnkhhndjbanmnaaGreatDoor

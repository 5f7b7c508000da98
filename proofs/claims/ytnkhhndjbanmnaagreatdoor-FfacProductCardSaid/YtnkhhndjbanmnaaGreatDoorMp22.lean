/- Texts joined, in their order: ZOf, PrgZ. -/
import Derived.Test.YtnkhhndjbanmnaaGreatDoorMp10
import Derived.Test.YtnkhhndjbanmnaaGreatDoorMp11
import Derived.Test.YtnkhhndjbanmnaaGreatDoorMp12

/- zint.Of of a number that isn't below 0, by its contract. -/
namespace Go.Proofs.YtnkhhndjbanmnaaGreatDoor
open Go.RowKit

theorem Sl.farS {w : World} {g o n c : Nat} {xs : List Nat} (h : Sl w (some ⟨g, o, none⟩) n c xs) {p : Addr} (hp : g ≠ p.block) (u : Value) : Sl (w.setCell p u) (some ⟨g, o, none⟩) n c xs := by
  refine ⟨h.1, h.2.1, h.2.2.1, h.2.2.2.1, h.rd.1, ?_⟩
  rcases h.rd.2 with h0 | ⟨b, o', e, hlt, hc⟩
  · exact .inl h0
  · simp only [Option.some.injEq, Addr.mk.injEq, and_true] at e
    obtain ⟨rfl, rfl⟩ := e
    exact .inr ⟨g, o, rfl, by simpa [World.setCell] using hlt, fun j hj => (World.cell?_of_block (w := w) (Below.heap_setCell w p u g hp)).trans (hc j hj)⟩

set_option maxRecDepth 100000 in
set_option maxHeartbeats 1000000 in
theorem zSigned_no (A : Option Addr) (n c : Nat) (w : World) :
    Calls Tryz.prog 173 #[.bool false, .slice A n c] w fun e w' => e = .returned (.agg #[.bool false, .slice A n c]) ∧ Below w.heap.size w w' := by
  go_enter Tryz.func173, Tryz.ntmps173
  go_wp2_with fail
  exact bodyPost_ret (v := .agg #[.bool false, .slice A n c]) (by simp [results, Tryz.results173, go_sem]) rfl ⟨rfl, (Below.refl _ _).alloc (Nat.le_refl _) _⟩

set_option maxRecDepth 100000 in
set_option maxHeartbeats 1000000 in
theorem zOf (k : Nat) (hk : k ≤ 9223372036854775807) (w : World) :
    Calls Tryz.prog 137 #[.int .i64 (k : Int)] w fun e w' => ∃ E m d es, e = .returned (.agg #[.bool false, .slice E m d]) ∧ Sl w' E m d es ∧ val es = k ∧ m ≤ 1 ∧ Below w.heap.size w w' := by
  have h0 : ¬ (k : Int) < 0 := by omega
  go_enter Tryz.func137, Tryz.ntmps137
  go_wp2_with fail
  have hal : Below w.heap.size w ((w.alloc (Obj.cells #[Value.bool false, Value.slice none 0 0] 125)).alloc (Obj.cells #[Value.int .u64 (k : Int)] 102)) := ((Below.refl _ _).alloc (Nat.le_refl _) _).alloc (by simp) _
  have hk1 := (blk_one (w.alloc (Obj.cells #[Value.bool false, Value.slice none 0 0] 125)) k (by omega)).sl (by simp)
  have hs1 : Sl ((w.alloc (Obj.cells #[Value.bool false, Value.slice none 0 0] 125)).alloc (Obj.cells #[Value.int .u64 (k : Int)] 102)) (some ⟨w.heap.size + 1, 0, none⟩) 1 1 [k] := by
    have e : (w.alloc (Obj.cells #[Value.bool false, Value.slice none 0 0] 125)).heap.size = w.heap.size + 1 := by simp
    rw [e] at hk1
    exact hk1
  have HN := Lib.hid (norm_at _ 1 1 [k] _ hs1 (by omega))
  with_reducible refine HN.out.mono ?_
  rintro e w1 ⟨g, m, rfl, hg, hs, hm, hb⟩
  have HG : Hid (g ≠ w.heap.size) := Lib.hid (by simp at hg; omega)
  have HS := Lib.hid hs
  have HB := Lib.hid hb
  have HA := Lib.hid hal
  clear hk1 hs1 hs hb hal HN hg
  go_wp2_with fail
  refine (zSigned_no (some ⟨g, 0, none⟩) m m w1).mono ?_
  rintro e w2 ⟨rfl, hb2⟩
  have hb12 : Below (w.heap.size + 2) ((w.alloc (Obj.cells #[Value.bool false, Value.slice none 0 0] 125)).alloc (Obj.cells #[Value.int .u64 (k : Int)] 102)) w2 := by
    have h1 := HB.out
    have e : ((w.alloc (Obj.cells #[Value.bool false, Value.slice none 0 0] 125)).alloc (Obj.cells #[Value.int .u64 (k : Int)] 102)).heap.size = w.heap.size + 2 := by simp
    rw [e] at h1
    exact h1.trans (hb2.mono (by rw [← e]; exact HB.out.size))
  have hc : ∀ b o, b < w.heap.size + 2 → w2.cell? ⟨b, o, none⟩ = ((w.alloc (Obj.cells #[Value.bool false, Value.slice none 0 0] 125)).alloc (Obj.cells #[Value.int .u64 (k : Int)] 102)).cell? ⟨b, o, none⟩ := fun b o h => hb12.cell (p := ⟨b, o, none⟩) h
  have hf : ∀ b o, b < w.heap.size + 2 → w2.frozen? ⟨b, o, none⟩ = ((w.alloc (Obj.cells #[Value.bool false, Value.slice none 0 0] 125)).alloc (Obj.cells #[Value.int .u64 (k : Int)] 102)).frozen? ⟨b, o, none⟩ := fun b o h => hb12.frozen (p := ⟨b, o, none⟩) h
  have HS2 := Lib.hid (HS.out.below hb2)
  have HB2 := Lib.hid (HA.out.trans (hb12.mono (by omega)))
  clear hb2 hb12
  go_wp2_with fail
  refine bodyPost_ret (v := .agg #[.bool false, .slice (some ⟨g, 0, none⟩) m m]) (by simp [results, Tryz.results137, go_sem, hc]) rfl ⟨_, _, _, nrm (val [k]), rfl, (HS2.out.farS HG.out _).farS HG.out _, by rw [val_nrm]; simp [val], hm, (HB2.out.setCell (Nat.le_refl _) _).setCell (Nat.le_refl _) _⟩
end Go.Proofs.YtnkhhndjbanmnaaGreatDoor

/- zint.Sign and zint.Norm of the program, by their contracts. -/
namespace Go.Proofs.YtnkhhndjbanmnaaGreatDoor
open Go.RowKit

theorem bitLen_zero_iff (v : Nat) : bitLen v = 0 ↔ v = 0 := by
  constructor
  · intro h
    have := lt_bitLen v
    rw [h] at this
    omega
  · rintro rfl
    unfold bitLen
    rfl

set_option maxRecDepth 100000 in
set_option maxHeartbeats 1000000 in
theorem pSign_any (neg : Bool) (A : Option Addr) (n c : Nat) (xs : List Nat) (w : World) (h : Sl w A n c xs) (hn : n ≤ 17592186044416) :
    Calls Tryz.prog 170 #[.agg #[.bool neg, .slice A n c]] w fun e w' => e = .returned (.int .i64 (zsg neg (val xs))) ∧ Below w.heap.size w w' := by
  have B := bits_any A n c xs _ (h.below (show Below w.heap.size w (w.alloc (.cells #[.bool neg, .slice A n c] 125)) from (Below.refl _ _).alloc (Nat.le_refl _) _)) (by omega)
  have BB := Lib.hid B
  have HB := Lib.hid (show Below w.heap.size w (w.alloc (.cells #[.bool neg, .slice A n c] 125)) from (Below.refl _ _).alloc (Nat.le_refl _) _)
  have hz : bitLen (val xs) = 0 ↔ val xs = 0 := bitLen_zero_iff _
  generalize val xs = V at *
  clear B h
  by_cases h0 : V = 0
  · have hb := hz.2 h0
    rw [hb] at BB
    have e : zsg neg V = 0 := if_pos h0
    rw [e]
    clear hz hb e
    go_enter Tryz.func170, Tryz.ntmps170
    go_wp2_with (go_at_call 194; (with_reducible refine BB.out.mono ?_); rintro e w' ⟨rfl, rfl⟩)
    go_ret
    exact ⟨rfl, HB.out⟩
  · have hb : bitLen V ≠ 0 := fun h => h0 (hz.1 h)
    generalize bitLen V = b at *
    have hb1 : ((b : Int) == 0) = false := by simp; omega
    have hb2 : ¬ (b : Int) = 0 := by omega
    cases neg
    · have e : zsg false V = 1 := by unfold zsg; rw [if_neg h0]; rfl
      rw [e]
      clear hz e hb
      go_enter Tryz.func170, Tryz.ntmps170
      go_wp2_with (go_at_call 194; (with_reducible refine BB.out.mono ?_); rintro e w' ⟨rfl, rfl⟩)
      go_ret
      exact ⟨rfl, HB.out⟩
    · have e : zsg true V = -1 := by unfold zsg; rw [if_neg h0]; rfl
      rw [e]
      clear hz e hb
      go_enter Tryz.func170, Tryz.ntmps170
      go_wp2_with (go_at_call 194; (with_reducible refine BB.out.mono ?_); rintro e w' ⟨rfl, rfl⟩)
      go_ret
      exact ⟨rfl, HB.out⟩

set_option maxRecDepth 100000 in
set_option maxHeartbeats 1000000 in
theorem zSigned_any (neg : Bool) (A : Option Addr) (n c : Nat) (w : World) :
    Calls Tryz.prog 173 #[.bool neg, .slice A n c] w fun e w' => e = .returned (.agg #[.bool (neg && decide (n ≠ 0)), .slice A n c]) ∧ Below w.heap.size w w' := by
  cases neg
  · refine (zSigned_no A n c w).mono ?_
    rintro e w' ⟨rfl, h⟩
    exact ⟨rfl, h⟩
  · by_cases h0 : n = 0
    · subst h0
      go_enter Tryz.func173, Tryz.ntmps173
      go_wp2_with fail
      exact bodyPost_ret (v := .agg #[.bool false, .slice A 0 c]) (by simp [results, Tryz.results173, go_sem]) rfl ⟨by simp, (Below.refl _ _).alloc (Nat.le_refl _) _⟩
    · have hp : 0 < n := by omega
      go_enter Tryz.func173, Tryz.ntmps173
      go_wp2_with fail
      exact bodyPost_ret (v := .agg #[.bool true, .slice A n c]) (by simp [results, Tryz.results173, go_sem]) rfl ⟨by simp [h0], (Below.refl _ _).alloc (Nat.le_refl _) _⟩

set_option maxRecDepth 100000 in
set_option maxHeartbeats 1000000 in
theorem pZNorm_any (neg : Bool) (A : Option Addr) (n c : Nat) (xs : List Nat) (w : World) (h : Sl w A n c xs) (hn : n ≤ 17592186044416) :
    Calls Tryz.prog 172 #[.agg #[.bool neg, .slice A n c]] w fun e w' => ∃ b E m d, e = .returned (.agg #[.bool b, .slice E m d]) ∧ Sl w' E m d (nrm (val xs)) ∧ m ≤ n ∧ Below w.heap.size w w' := by
  have H := Lib.hid h
  clear h
  obtain ⟨w2, hw2⟩ : ∃ w2, w2 = (w.alloc (.cells #[.bool neg, .slice A n c] 125)).alloc (.cells #[.bool false, .slice none 0 0] 125) := ⟨_, rfl⟩
  have hb2 : Below w.heap.size w w2 := by rw [hw2]; exact ((Below.refl _ _).alloc (Nat.le_refl _) _).alloc (by simp) _
  have hs2 : w2.heap.size = w.heap.size + 2 := by rw [hw2]; simp
  have c0 : w2.cell? ⟨w.heap.size, 0, none⟩ = some (.bool neg) := by rw [hw2]; simp
  have c1 : w2.cell? ⟨w.heap.size, 1, none⟩ = some (.slice A n c) := by rw [hw2]; simp
  have r0 : w2.cell? ⟨w.heap.size + 1, 0, none⟩ = some (.bool false) := by rw [hw2]; simp
  have r1 : w2.cell? ⟨w.heap.size + 1, 1, none⟩ = some (.slice none 0 0) := by rw [hw2]; simp
  have f0 : w2.frozen? ⟨w.heap.size + 1, 0, none⟩ = false := by rw [hw2]; simp
  have f1 : w2.frozen? ⟨w.heap.size + 1, 1, none⟩ = false := by rw [hw2]; simp
  have NN := Lib.hid (fun W (hb : Below w2.heap.size w2 W) => norm_at A n c xs W ((H.out.below hb2).below hb) (by omega))
  have HB2 := Lib.hid hb2
  have HS2 := Lib.hid hs2
  go_enter Tryz.func172, Tryz.ntmps172
  go_wp2_with fail
  rw [← hw2]
  clear hw2 hb2
  go_region_held3 (fun W => W.cell? ⟨w.heap.size, 0, none⟩ = some (.bool neg) ∧ W.cell? ⟨w.heap.size, 1, none⟩ = some (.slice A n c))
    (first
      | go_keep
      | (constructor <;> (first | (rw [hb6.cell (by show w.heap.size < _; omega)]; first | assumption | go_keep)))
      | (constructor <;> (first | (rw [hb5.cell (by show w.heap.size < _; omega)]; first | assumption | go_keep))))
    (first
      | (go_at_call 174; refine (NN.out _ ((Below.refl _ _).drew)).mono ?_; rintro e w5 ⟨g, m, rfl, hg, hs, hm, hb5'⟩; have hb5 : Below w2.heap.size w2 w5 := ((Below.refl _ _).drew).trans hb5'; have HS5 := Lib.hid hs; have HG5 := Lib.hid hg; clear hb5' hs hg; have hz5 := hb5.size)
      | (go_at_call 173; refine (zSigned_any neg _ _ _ _).mono ?_; rintro e w6 ⟨rfl, hb6⟩; have HB6 := Lib.hid (hb5.trans (hb6.mono hz5)); have HS6 := Lib.hid (HS5.out.below hb6); have r0' : w6.cell? ⟨w.heap.size + 1, 0, none⟩ = some (.bool false) := (HB6.out.cell (p := ⟨w.heap.size + 1, 0, none⟩) (by show w.heap.size + 1 < _; omega)).trans r0; have r1' : w6.cell? ⟨w.heap.size + 1, 1, none⟩ = some (.slice none 0 0) := (HB6.out.cell (p := ⟨w.heap.size + 1, 1, none⟩) (by show w.heap.size + 1 < _; omega)).trans r1; have f0' : w6.frozen? ⟨w.heap.size + 1, 0, none⟩ = false := (HB6.out.frozen (p := ⟨w.heap.size + 1, 0, none⟩) (by show w.heap.size + 1 < _; omega)).trans f0; have f1' : w6.frozen? ⟨w.heap.size + 1, 1, none⟩ = false := (HB6.out.frozen (p := ⟨w.heap.size + 1, 1, none⟩) (by show w.heap.size + 1 < _; omega)).trans f1)
      | fail)
  go_wp2_with fail
  have HGG : Hid (g ≠ w.heap.size + 1) := Lib.hid (by have := HG5.out; have h2 : w2.drew.heap.size = w2.heap.size := rfl; omega)
  exact bodyPost_ret (v := .agg #[.bool (neg && decide (m ≠ 0)), .slice (some ⟨g, 0, none⟩) m m]) (by simp [results, Tryz.results172, go_sem, r0', r1']) rfl ⟨_, _, m, m, rfl, (HS6.out.farS HGG.out _).farS HGG.out _, hm, ((HB2.out.trans (HB6.out.mono HB2.out.size)).setCell (p := ⟨w.heap.size + 1, 0, none⟩) (Nat.le_succ _) _).setCell (p := ⟨w.heap.size + 1, 1, none⟩) (Nat.le_succ _) _⟩
end Go.Proofs.YtnkhhndjbanmnaaGreatDoor

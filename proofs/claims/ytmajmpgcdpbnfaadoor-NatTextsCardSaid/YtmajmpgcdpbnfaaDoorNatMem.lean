/- make and copy of limbs, as laws of the walk. -/
import Derived.Test.YtmajmpgcdpbnfaaDoorNatTake
import Derived.Laws.CopyOwn
import Derived.OwnWalk
namespace Go.Proofs.YtmajmpgcdpbnfaaDoor
open Go.RowKit

theorem infoU : (Tryd.prog.info? 32).map (fun i => (i.zero, i.size, i.bytes)) = some (some (.int .u64 0), 1, 8) := by kernel_rfl
theorem infoUs : (Tryd.prog.info? 32).map (·.size) = some 1 := by kernel_rfl

theorem wpList_make_limbs {ops : Array Oper} {rest : List Oper} {o : Oper} {a : Act} {Q : Exit → Act → World → Prop} (w : World)
    (hg : o.guard = none) (l c : Operand) (hop : o.op = Op.makeSlice 22 l c) (kl kc : IntKind) (L C : Int) (n : Nat) (hl : a.eval l = .int kl L) (hc : a.eval c = .int kc C) (hL : L = (n : Int)) (hC : C = (n : Int)) (hn : n ≤ 35184372088832)
    (hK : ∀ w', Blk w' w.heap.size (List.replicate n 0) → Below w.heap.size w w' → wpList Tryd.prog ops Q rest (a.put o.dst (.slice (some ⟨w.heap.size, 0, none⟩) n n)) w') :
    wpList Tryd.prog ops Q (o :: rest) a w := by
  obtain ⟨i0, hi, hz0, hz1, hz2⟩ := info_parts infoU
  refine wpList_make_full w hg l c 22 hop w.heap.size 32 i0 _ 1 Tryd.underlying22 hi hz0 hz1 kl kc L C n hl hc hL hC (by rw [hz2]; omega) (by unfold maxLen; omega) (Nat.le_refl _) ?_
  intro w' ho hgr
  have hbel : Below w.heap.size w w' := (Below.refl _ _).grown hgr (Nat.le_refl _) (fun k e => by cases e)
  refine hK w' ⟨?_, ?_⟩ hbel
  · obtain ⟨h1, ⟨h2, _⟩ | ⟨g, cap, cur, hv, hb, hh, hn1, hn2, hs, ht⟩⟩ := ho
    · cases h2
    · simp only [Value.slice.injEq, Option.some.injEq, Addr.mk.injEq, and_true, true_and] at hv
      obtain ⟨rfl, rfl⟩ := hv
      have e1 : cur.toList = (List.replicate n 0).map u64v := by
        rw [List.take_of_length_le (by simp [hs])] at ht
        rw [ht, show (Value.int IntKind.u64 0).cells = #[Value.int IntKind.u64 0] from rfl, toList_madeCells_one]
        simp
      rw [hh]
      congr 2
      rw [← e1]
  · intro x hx
    rw [List.eq_of_mem_replicate hx]
    decide

theorem wpList_copy_limbs {ops : Array Oper} {rest : List Oper} {o : Oper} {a : Act} {Q : Exit → Act → World → Prop} (w : World) (hgd : o.guard = none) (d s : Operand)
    (ho : o.op = .call { callee := .builtin .copy, args := #[d, s], argTypes := #[22, 22] }) (g off dLen dCap : Nat) (A : Option Addr) (n c : Nat)
    (hd : a.eval d = .slice (some ⟨g, off, none⟩) dLen dCap) (hs : a.eval s = .slice A n c) (L xs : List Nat) (hB : Blk w g L) (hR : Rd w A xs) (hn : n = xs.length) (hfit : n ≤ dLen) (hL : off + n ≤ L.length)
    (h : ∀ w', Blk w' g (mid L off n xs) → w.grownBy w' (some g) → wpList Tryd.prog ops Q rest (a.put o.dst (goInt n)) w') : wpList Tryd.prog ops Q (o :: rest) a w := by
  subst hn
  by_cases h0 : xs.length = 0
  · obtain rfl : xs = [] := List.eq_nil_of_length_eq_zero h0
    refine wpList_copy_nothing hgd d s _ _ ho 32 Tryd.underlying22 infoUs _ _ _ _ _ _ hd hs (by simp) ?_
    refine h w ?_ (World.grownBy.refl w _)
    simpa [mid] using hB
  · obtain ⟨hf, h1 | ⟨b, oo, rfl, hlt, hc⟩⟩ := hR
    · exact absurd (by rw [h1]; rfl) h0
    · have hmin : xs.length = Nat.min xs.length dLen := (Nat.min_eq_left hfit).symm
      have hlen : (xs.map u64v).length = xs.length := List.length_map ..
      refine wpList_copy_own hgd d s _ _ ho 32 Tryd.underlying22 infoUs g off dLen dCap ⟨b, oo, none⟩ _ _ hd hs _ 32 hB.1 (xs.map u64v) (by rw [hlen]; exact hmin) ?_ (by simpa using hL) (by intro v hv; obtain ⟨x, _, rfl⟩ := List.mem_map.1 hv; rfl) ?_
      · intro j v hj
        rw [List.getElem?_map] at hj
        obtain ⟨x, hx, rfl⟩ := Option.map_eq_some_iff.1 hj
        obtain ⟨hj', rfl⟩ := List.getElem?_eq_some_iff.1 hx
        have ha : (⟨b, oo, none⟩ : Addr).add j = ⟨b, oo + j, none⟩ := by
          unfold Addr.add
          by_cases hj0 : j = 0 <;> simp [hj0]
        rw [ha]
        exact hc j hj'
      · rw [hlen]
        refine h _ ⟨?_, ?_⟩ ?_
        · rw [setRow_heap w g _ _ _ _ hB.1]
          congr 2
          simp [mid, List.map_take, List.map_drop]
        · unfold mid
          exact fit_append (fit_append (fit_take hB.2 _) hf) (fit_drop hB.2 _)
        · exact ⟨rfl, rfl, rfl, by simp, fun k _ hne => setRow_other w g k _ (fun e => hne (by rw [e]))⟩

set_option maxHeartbeats 400000 in
/-- nat.Norm: a new slice of the plain limbs. -/
theorem norm_any (A : Option Addr) (n c : Nat) (xs : List Nat) (w : World) (h : Sl w A n c xs) (hn : n ≤ 17592186044416) :
    Calls Tryd.prog 10 #[.slice A n c] w fun e w' =>
      e = .returned (.slice (some ⟨w.heap.size, 0, none⟩) (nrm (val xs)).length (nrm (val xs)).length) ∧ Blk w' w.heap.size (nrm (val xs)) ∧ Below w.heap.size w w' := by
  have HT := Lib.hid (trim_any A n c xs w h)
  have hpl := h.plain
  have hle := nrm_length_le h.fit
  rw [← h.len] at hle
  obtain ⟨m, hm⟩ : ∃ m, m = (nrm (val xs)).length := ⟨_, rfl⟩
  obtain ⟨ys, hys⟩ : ∃ ys, ys = nrm (val xs) := ⟨_, rfl⟩
  rw [← hm] at hle HT
  rw [← hm, ← hys] at hpl
  rw [← hm, ← hys]
  have hR := hpl.2.2.2.2
  have hmy := hpl.1
  have HP := Lib.hid hR
  have HM := Lib.hid hmy
  clear h hpl hys hm hR hmy
  go_enter Tryd.func10, Tryd.ntmps10
  go_wp2_with (first
    | (go_at_call 16; refine HT.out.mono ?_; rintro e w' ⟨rfl, rfl⟩)
    | (at_make; refine wpList_make_limbs _ rfl _ _ rfl _ _ _ _ m rfl rfl rfl rfl (by omega) ?_; intro w1 hb1 hbel1)
    | (with_reducible refine wpList_copy_limbs _ rfl (.tmp 9) (.tmp 10) rfl _ 0 m m A m c rfl rfl (List.replicate m 0) ys hb1 (HP.out.below hbel1) HM.out (Nat.le_refl _) (by simp) ?_; intro w2 hb2 hg2))
  go_ret
  refine ⟨rfl, ?_, hbel1.trans (below_of_grown hg2 hbel1.size (Nat.le_refl _))⟩
  have e : mid (List.replicate m 0) 0 m ys = ys := by simp [mid]
  rwa [e] at hb2

/-- A new slice, in memory of the call's own (block B or later), that reads as xs. -/
def New (w : World) (B : Nat) (v : Value) (xs : List Nat) : Prop := ∃ g c, v = .slice (some ⟨g, 0, none⟩) xs.length c ∧ B ≤ g ∧ g < w.heap.size ∧ Sl w (some ⟨g, 0, none⟩) xs.length c xs

theorem Blk.sl {w : World} {g : Nat} {L : List Nat} (h : Blk w g L) (hm : L.length ≤ 9223372036854775807) : Sl w (some ⟨g, 0, none⟩) L.length L.length L :=
  ⟨rfl, Nat.le_refl _, hm, (fun e => by cases e), h.rd0⟩
theorem New.below {w w' : World} {B : Nat} {v : Value} {xs : List Nat} (h : New w B v xs) (hb : Below w.heap.size w w') : New w' B v xs := by
  obtain ⟨g, c, h1, h2, h3, h4⟩ := h
  exact ⟨g, c, h1, h2, Nat.lt_of_lt_of_le h3 hb.size, h4.below hb⟩

theorem mid_new (k p : Nat) (ps : List Nat) : val (mid (List.replicate k 0) 0 p ps) = val ps := by
  have hz : ∀ n, val (List.replicate n 0) = 0 := by
    intro n
    induction n with
    | zero => rfl
    | succ n ih => rw [List.replicate_succ, val_cons, ih]
  unfold mid
  simp only [List.take_zero, List.nil_append, Nat.zero_add, List.drop_replicate]
  rw [val_append, hz]
  omega

/-- What addTimes leaves of a block that it fills whole, nothing passing over the end. -/
theorem addT_whole (L ys : List Nat) (m k : Nat) (hL : L.length = k) (hy : ys.length ≤ k) : addT (L.drop 0) ys m k = val L + m * val ys := by
  unfold addT
  rw [List.drop_zero, List.take_of_length_le (by omega), List.take_of_length_le (by omega)]
theorem mid_whole (L new : List Nat) (k : Nat) (hL : L.length = k) : mid L 0 k new = new := by
  unfold mid
  simp [List.drop_of_length_le (Nat.le_of_eq hL)]
theorem sum_lt (xs ys : List Nat) (hx : Fit xs) (hy : Fit ys) (k : Nat) (h1 : xs.length < k) (h2 : ys.length < k) : val xs + val ys < 18446744073709551616 ^ k := by
  have a1 := val_lt hx
  have a2 := val_lt hy
  have b1 : 18446744073709551616 ^ xs.length ≤ 18446744073709551616 ^ (k - 1) := Nat.pow_le_pow_right (by decide) (by omega)
  have b2 : 18446744073709551616 ^ ys.length ≤ 18446744073709551616 ^ (k - 1) := Nat.pow_le_pow_right (by decide) (by omega)
  have e : 18446744073709551616 ^ k = 18446744073709551616 ^ (k - 1) * 18446744073709551616 := by rw [← Nat.pow_succ]; congr 1; omega
  rw [e]
  omega
end Go.Proofs.YtmajmpgcdpbnfaaDoor

/- Texts joined, in their order: NatAdd1, NatAdd2, NatTake, NatMem, NatVal, NatSum, NatCmp, NatSub. -/
import Derived.WalkLawsBesides
import Derived.Laws.CopyOwn
import Derived.OwnWalk
import Derived.Deep.QuietTactic
import Derived.BigQuiet
import Derived.Laws.MathBits
import Derived.Lib.BitFns
import Derived.Shelf.Spec.BitsCarry
import Derived.Test.YtnkhhndjbanmnaaGreatDoorMp9

/- nat.addTimes, by its contract: what stands in z's limbs afterwards, and what passes over the end. Conditions: z is memory of the call's own, apart from y, and as long as y or longer. -/
namespace Go.Proofs.YtnkhhndjbanmnaaGreatDoor
open Go.RowKit

def addT (zs ys : List Nat) (m k : Nat) : Nat := val (zs.take k) + m * val (ys.take k)

def mid (L : List Nat) (o k : Nat) (new : List Nat) : List Nat := L.take o ++ new ++ L.drop (o + k)
def AddInv (w : World) (g o : Nat) (L ys : List Nat) (m bm bc k : Nat) (wr : World) : Prop :=
  Blk wr g (mid L o k (dig k (addT (L.drop o) ys m k))) ∧ Blk wr bm [m] ∧ Blk wr bc [addT (L.drop o) ys m k / 18446744073709551616 ^ k] ∧ w.grownBy wr (some g)

theorem blk_one (w : World) (x : Nat) (hx : x < 18446744073709551616) : Blk (w.alloc (.cells #[u64v x] 102)) w.heap.size [x] := ⟨heap_alloc_new w _, fit_cons hx fit_nil⟩

end Go.Proofs.YtnkhhndjbanmnaaGreatDoor

/- nat.addTimes, walked. Conditions: as in its contract below. -/
namespace Go.Proofs.YtnkhhndjbanmnaaGreatDoor
open Go.RowKit

end Go.Proofs.YtnkhhndjbanmnaaGreatDoor

/- nat.takeTimes, by its contract: what is left in z's limbs, and what z's end is short of. Conditions: z is memory of the call's own, apart from y, and as long as y or longer. -/
namespace Go.Proofs.YtnkhhndjbanmnaaGreatDoor
open Go.RowKit

def tkC (zs ys : List Nat) (m : Nat) : Nat → Nat
  | 0 => 0
  | k + 1 => tkCarry (ys.getD k 0) m (tkC zs ys m k) (zs.getD k 0)
def tkL (zs ys : List Nat) (m : Nat) : Nat → List Nat
  | 0 => []
  | k + 1 => tkL zs ys m k ++ [tkLimb (ys.getD k 0) m (tkC zs ys m k) (zs.getD k 0)]
def TakeInv (w : World) (g o : Nat) (L ys : List Nat) (m bm bc k : Nat) (wr : World) : Prop :=
  Blk wr g (mid L o k (tkL (L.drop o) ys m k)) ∧ Blk wr bm [m] ∧ Blk wr bc [tkC (L.drop o) ys m k] ∧ w.grownBy wr (some g)

end Go.Proofs.YtnkhhndjbanmnaaGreatDoor

/- make and copy of limbs, as laws of the walk. -/
namespace Go.Proofs.YtnkhhndjbanmnaaGreatDoor
open Go.RowKit

set_option maxRecDepth 100000 in
theorem infoU : (Tryz.prog.info? 102).map (fun i => (i.zero, i.size, i.bytes)) = some (some (.int .u64 0), 1, 8) := by kernel_rfl
set_option maxRecDepth 100000 in
theorem infoUs : (Tryz.prog.info? 102).map (·.size) = some 1 := by kernel_rfl

set_option maxRecDepth 100000 in
theorem wpList_make_limbs {ops : Array Oper} {rest : List Oper} {o : Oper} {a : Act} {Q : Exit → Act → World → Prop} (w : World)
    (hg : o.guard = none) (l c : Operand) (hop : o.op = Op.makeSlice 123 l c) (kl kc : IntKind) (L C : Int) (n : Nat) (hl : a.eval l = .int kl L) (hc : a.eval c = .int kc C) (hL : L = (n : Int)) (hC : C = (n : Int)) (hn : n ≤ 35184372088832)
    (hK : ∀ w', Blk w' w.heap.size (List.replicate n 0) → Below w.heap.size w w' → wpList Tryz.prog ops Q rest (a.put o.dst (.slice (some ⟨w.heap.size, 0, none⟩) n n)) w') :
    wpList Tryz.prog ops Q (o :: rest) a w := by
  obtain ⟨i0, hi, hz0, hz1, hz2⟩ := info_parts infoU
  refine wpList_make_full w hg l c 123 hop w.heap.size 102 i0 _ 1 Tryz.underlying123 hi hz0 hz1 kl kc L C n hl hc hL hC (by rw [hz2]; omega) (by unfold maxLen; omega) (Nat.le_refl _) ?_
  intro w' ho hgr
  have hbel : Below w.heap.size w w' := (Below.refl _ _).grown hgr (Nat.le_refl _) (fun k e => by cases e)
  refine hK w' ⟨?_, ?_⟩ hbel
  · obtain ⟨h1, ⟨h2, _⟩ | ⟨g, cap, cur, hv, hb, hh, hn1, hn2, hs, ht⟩⟩ := ho
    · cases h2
    · simp only [Value.slice.injEq, Option.some.injEq, Addr.mk.injEq, and_true, true_and] at hv
      obtain ⟨rfl, rfl⟩ := hv
      have e1 : cur.toList = (List.replicate n 0).map u64v := by
        rw [List.take_of_length_le (by simp [hs])] at ht
        rw [ht, show (Value.int IntKind.u64 0).cells = #[Value.int IntKind.u64 0] from rfl, toList_madeCells_one]
        simp
      rw [hh]
      congr 2
      rw [← e1]
  · intro x hx
    rw [List.eq_of_mem_replicate hx]
    decide

set_option maxRecDepth 100000 in
theorem wpList_copy_limbs {ops : Array Oper} {rest : List Oper} {o : Oper} {a : Act} {Q : Exit → Act → World → Prop} (w : World) (hgd : o.guard = none) (d s : Operand)
    (ho : o.op = .call { callee := .builtin .copy, args := #[d, s], argTypes := #[123, 123] }) (g off dLen dCap : Nat) (A : Option Addr) (n c : Nat)
    (hd : a.eval d = .slice (some ⟨g, off, none⟩) dLen dCap) (hs : a.eval s = .slice A n c) (L xs : List Nat) (hB : Blk w g L) (hR : Rd w A xs) (hn : n = xs.length) (hfit : n ≤ dLen) (hL : off + n ≤ L.length)
    (h : ∀ w', Blk w' g (mid L off n xs) → w.grownBy w' (some g) → wpList Tryz.prog ops Q rest (a.put o.dst (goInt n)) w') : wpList Tryz.prog ops Q (o :: rest) a w := by
  subst hn
  by_cases h0 : xs.length = 0
  · obtain rfl : xs = [] := List.eq_nil_of_length_eq_zero h0
    refine wpList_copy_nothing hgd d s _ _ ho 102 Tryz.underlying123 infoUs _ _ _ _ _ _ hd hs (by simp) ?_
    refine h w ?_ (World.grownBy.refl w _)
    simpa [mid] using hB
  · obtain ⟨hf, h1 | ⟨b, oo, rfl, hlt, hc⟩⟩ := hR
    · exact absurd (by rw [h1]; rfl) h0
    · have hmin : xs.length = Nat.min xs.length dLen := (Nat.min_eq_left hfit).symm
      have hlen : (xs.map u64v).length = xs.length := List.length_map ..
      refine wpList_copy_own hgd d s _ _ ho 102 Tryz.underlying123 infoUs g off dLen dCap ⟨b, oo, none⟩ _ _ hd hs _ 102 hB.1 (xs.map u64v) (by rw [hlen]; exact hmin) ?_ (by simpa using hL) (by intro v hv; obtain ⟨x, _, rfl⟩ := List.mem_map.1 hv; rfl) ?_
      · intro j v hj
        rw [List.getElem?_map] at hj
        obtain ⟨x, hx, rfl⟩ := Option.map_eq_some_iff.1 hj
        obtain ⟨hj', rfl⟩ := List.getElem?_eq_some_iff.1 hx
        have ha : (⟨b, oo, none⟩ : Addr).add j = ⟨b, oo + j, none⟩ := by
          unfold Addr.add
          by_cases hj0 : j = 0 <;> simp [hj0]
        rw [ha]
        exact hc j hj'
      · rw [hlen]
        refine h _ ⟨?_, ?_⟩ ?_
        · rw [setRow_heap w g _ _ _ _ hB.1]
          congr 2
          simp [mid, List.map_take, List.map_drop]
        · unfold mid
          exact fit_append (fit_append (fit_take hB.2 _) hf) (fit_drop hB.2 _)
        · exact ⟨rfl, rfl, rfl, by simp, fun k _ hne => setRow_other w g k _ (fun e => hne (by rw [e]))⟩

set_option maxRecDepth 100000 in
set_option maxHeartbeats 400000 in
theorem norm_any (A : Option Addr) (n c : Nat) (xs : List Nat) (w : World) (h : Sl w A n c xs) (hn : n ≤ 17592186044416) :
    Calls Tryz.prog 174 #[.slice A n c] w fun e w' =>
      e = .returned (.slice (some ⟨w.heap.size, 0, none⟩) (nrm (val xs)).length (nrm (val xs)).length) ∧ Blk w' w.heap.size (nrm (val xs)) ∧ Below w.heap.size w w' := by
  have HT := Lib.hid (trim_any A n c xs w h)
  have hpl := h.plain
  have hle := nrm_length_le h.fit
  rw [← h.len] at hle
  obtain ⟨m, hm⟩ : ∃ m, m = (nrm (val xs)).length := ⟨_, rfl⟩
  obtain ⟨ys, hys⟩ : ∃ ys, ys = nrm (val xs) := ⟨_, rfl⟩
  rw [← hm] at hle HT
  rw [← hm, ← hys] at hpl
  rw [← hm, ← hys]
  have hR := hpl.2.2.2.2
  have hmy := hpl.1
  have HP := Lib.hid hR
  have HM := Lib.hid hmy
  clear h hpl hys hm hR hmy
  go_enter Tryz.func174, Tryz.ntmps174
  go_wp2_with (first
    | (go_at_call 196; refine HT.out.mono ?_; rintro e w' ⟨rfl, rfl⟩)
    | (at_make; refine wpList_make_limbs _ rfl _ _ rfl _ _ _ _ m rfl rfl rfl rfl (by omega) ?_; intro w1 hb1 hbel1)
    | (with_reducible refine wpList_copy_limbs _ rfl (.tmp 9) (.tmp 10) rfl _ 0 m m A m c rfl rfl (List.replicate m 0) ys hb1 (HP.out.below hbel1) HM.out (Nat.le_refl _) (by simp) ?_; intro w2 hb2 hg2))
  go_ret
  refine ⟨rfl, ?_, hbel1.trans (below_of_grown hg2 hbel1.size (Nat.le_refl _))⟩
  have e : mid (List.replicate m 0) 0 m ys = ys := by simp [mid]
  rwa [e] at hb2

def New (w : World) (B : Nat) (v : Value) (xs : List Nat) : Prop := ∃ g c, v = .slice (some ⟨g, 0, none⟩) xs.length c ∧ B ≤ g ∧ g < w.heap.size ∧ Sl w (some ⟨g, 0, none⟩) xs.length c xs

set_option maxRecDepth 100000 in
theorem Blk.sl {w : World} {g : Nat} {L : List Nat} (h : Blk w g L) (hm : L.length ≤ 9223372036854775807) : Sl w (some ⟨g, 0, none⟩) L.length L.length L :=
  ⟨rfl, Nat.le_refl _, hm, (fun e => by cases e), h.rd0⟩
set_option maxRecDepth 100000 in
theorem New.below {w w' : World} {B : Nat} {v : Value} {xs : List Nat} (h : New w B v xs) (hb : Below w.heap.size w w') : New w' B v xs := by
  obtain ⟨g, c, h1, h2, h3, h4⟩ := h
  exact ⟨g, c, h1, h2, Nat.lt_of_lt_of_le h3 hb.size, h4.below hb⟩

end Go.Proofs.YtnkhhndjbanmnaaGreatDoor

/- What a block holds, said by its value alone: so many limbs of a number. -/
namespace Go.Proofs.YtnkhhndjbanmnaaGreatDoor
open Go.RowKit

end Go.Proofs.YtnkhhndjbanmnaaGreatDoor

/- nat.Add, by its contract: a new slice of the sum's plain limbs. Conditions: the lengths are at most 2^43. -/
namespace Go.Proofs.YtnkhhndjbanmnaaGreatDoor
open Go.RowKit

def cmpN (x y : Nat) : Int := if x < y then -1 else if y < x then 1 else 0
end Go.Proofs.YtnkhhndjbanmnaaGreatDoor

/- nat.Cmp, nat.Sub, nat.Bits, by their contracts. -/
namespace Go.Proofs.YtnkhhndjbanmnaaGreatDoor
open Go.RowKit

theorem nrm_ge (v : Nat) (h : v ≠ 0) : 18446744073709551616 ^ ((nrm v).length - 1) ≤ v := by
  induction v using Nat.strongRecOn with
  | ind v ih =>
    rw [nrm_pos v h, List.length_cons, Nat.add_sub_cancel]
    by_cases h0 : v / 18446744073709551616 = 0
    · rw [h0, nrm_zero]; simp; omega
    · have h1 := ih (v / 18446744073709551616) (by omega) h0
      have hp : 0 < (nrm (v / 18446744073709551616)).length := by rw [nrm_pos _ h0]; simp
      have e : 18446744073709551616 ^ (nrm (v / 18446744073709551616)).length = 18446744073709551616 ^ ((nrm (v / 18446744073709551616)).length - 1) * 18446744073709551616 := by rw [← Nat.pow_succ]; congr 1; omega
      rw [e]
      have := Nat.mul_le_mul_right 18446744073709551616 h1
      omega
theorem val_split (xs : List Nat) (k : Nat) (hk : k < xs.length) : val xs = val (xs.take k) + 18446744073709551616 ^ k * (xs[k] + 18446744073709551616 * val (xs.drop (k + 1))) := by
  conv => lhs; rw [← List.take_append_drop k xs]
  rw [val_append, List.drop_eq_getElem_cons hk, val_cons, List.length_take, Nat.min_eq_left (by omega)]
theorem Sl.at_ {w : World} {A : Option Addr} {n c : Nat} {xs : List Nat} (h : Sl w A n c xs) (hn : 0 < n) : ∃ b o, A = some ⟨b, o, none⟩ ∧ b < w.heap.size ∧ ∀ j, j < n → w.cell? ⟨b, o + j, none⟩ = some (u64v (xs.getD j 0)) := by
  rcases h.rd.2 with e | ⟨b, o, rfl, hlt, hc⟩
  · rw [h.len, e] at hn; exact absurd hn (by simp)
  · refine ⟨b, o, rfl, hlt, fun j hj => ?_⟩
    have hj' : j < xs.length := by rw [← h.len]; exact hj
    rw [hc j hj', List.getD_eq_getElem?_getD, List.getElem?_eq_getElem hj']
    rfl

theorem bitLen_split (x v : Nat) (k : Nat) (hx : x ≠ 0) (hv : v < 18446744073709551616 ^ k) : bitLen (v + 18446744073709551616 ^ k * x) = 64 * k + bitLen x := by
  have e : 18446744073709551616 ^ k = 2 ^ (64 * k) := by rw [Nat.pow_mul]
  rw [e] at hv ⊢
  have hd : (v + 2 ^ (64 * k) * x) / 2 ^ (64 * k) = x := by rw [Nat.add_mul_div_left _ _ (Nat.pow_pos (by decide)), Nat.div_eq_of_lt hv, Nat.zero_add]
  have := bitLen_shift (v + 2 ^ (64 * k) * x) (64 * k) (by rw [hd]; exact hx)
  rw [this, hd]
end Go.Proofs.YtnkhhndjbanmnaaGreatDoor

/- nat.Sub and nat.Bits, by their contracts. -/
namespace Go.Proofs.YtnkhhndjbanmnaaGreatDoor
open Go.RowKit

theorem ret_int {k : IntKind} {a b : Int} (h : a = b) : Ending.returned (.int k a) = .returned (.int k b) := by rw [h]

theorem lbl_eq (x : Nat) (h : x < 18446744073709551616) : Lib.bitLen x = bitLen x := by
  induction x using Nat.strongRecOn with
  | _ x ih =>
    by_cases h0 : x = 0
    · subst h0; rfl
    · rw [Lib.bitLen_half x h0 (by simpa using h), ih (x / 2) (by omega) (by omega)]
      unfold bitLen
      rw [if_neg h0, Nat.log2_def x]
      by_cases h2 : 2 ≤ x
      · rw [if_pos h2, if_neg (by omega)]; omega
      · obtain rfl : x = 1 := by omega
        simp

set_option maxRecDepth 100000 in
set_option maxHeartbeats 1000000 in
theorem bits_any (A : Option Addr) (n c : Nat) (xs : List Nat) (w : World) (h : Sl w A n c xs) (hn : n ≤ 70368744177664) :
    Calls Tryz.prog 194 #[.slice A n c] w fun e w' => e = .returned (.int .i64 (bitLen (val xs) : Int)) ∧ w = w' := by
  have HT := Lib.hid (trim_any A n c xs w h)
  have hpl := h.plain
  have hpn : (nrm (val xs)).length ≤ n := by rw [h.len]; exact nrm_length_le h.fit
  have hv := val_nrm (val xs)
  have hfit := fit_nrm (val xs)
  have hlast : ∀ k, k + 1 = (nrm (val xs)).length → (nrm (val xs)).getD k 0 ≠ 0 ∧ bitLen (val xs) = 64 * k + bitLen ((nrm (val xs)).getD k 0) := by
    intro k hk
    have hk' : k < (nrm (val xs)).length := by omega
    have e : (nrm (val xs)).getD k 0 = (nrm (val xs))[k] := by rw [List.getD_eq_getElem?_getD, List.getElem?_eq_getElem hk']; rfl
    have hs := val_split (nrm (val xs)) k hk'
    rw [List.drop_of_length_le (by omega), val_nil, Nat.mul_zero, Nat.add_zero] at hs
    have hl := val_lt (fit_take hfit k)
    rw [List.length_take, Nat.min_eq_left (by omega)] at hl
    have hx0 : (nrm (val xs))[k] ≠ 0 := by
      intro h0
      rw [h0, Nat.mul_zero, Nat.add_zero, hv] at hs
      have hge := nrm_ge (val xs) (by intro e0; rw [e0, nrm_zero] at hk; simp at hk)
      rw [← hk, Nat.add_sub_cancel] at hge
      omega
    rw [e]
    refine ⟨hx0, ?_⟩
    rw [hv] at hs
    have hb := bitLen_split _ _ _ hx0 hl
    rw [← hs] at hb
    exact hb
  have hz : (nrm (val xs)).length = 0 → bitLen (val xs) = 0 := by
    intro e
    rw [(nrm_nil_iff (val xs)).1 (List.eq_nil_of_length_eq_zero e)]
    rfl
  generalize nrm (val xs) = ps at *
  generalize bitLen (val xs) = r at *
  obtain ⟨p, hp⟩ : ∃ p, p = ps.length := ⟨_, rfl⟩
  rw [← hp] at HT hpl hpn hlast hz
  have H := Lib.hid h
  have H3 := Lib.hid hpl
  have HZ := Lib.hid hz
  have HL := Lib.hid hlast
  clear h hpl hlast hz hv
  by_cases h0 : p = 0
  · subst h0
    have hr := HZ.out rfl
    subst hr
    clear HZ HL
    go_enter Tryz.func194, Tryz.ntmps194
    go_wp2_with (go_at_call 196; refine HT.out.mono ?_; rintro e w' ⟨rfl, rfl⟩)
    go_ret
    exact ⟨rfl, rfl⟩
  · obtain ⟨b, o, rfl, _, hc⟩ := H3.out.at_ (by omega)
    have hx := hc (p - 1) (by omega)
    have hl := HL.out (p - 1) (by omega)
    have hlt := fit_getD hfit (p - 1)
    generalize ps.getD (p - 1) 0 = x at *
    have hb := Tryz.bits_Len64 x
    have e0 : Lib.bitLen x = bitLen x := lbl_eq x hlt
    have h64 : bitLen x ≤ 64 := by
      have := bitLen_spec x
      rw [← e0]
      exact Lib.bitLen_le x 64 (by omega) (by omega)
    rw [Int.toNat_natCast, e0] at hb
    have hr := hl.2
    generalize bitLen x = y at *
    subst hr
    have hne : ((p : Int) == 0) = false := by simp; omega
    have HB := Lib.hid hb
    clear hl hc hb HZ HL hp
    go_enter Tryz.func194, Tryz.ntmps194
    go_wp2_with (first
      | (go_at_call 196; refine HT.out.mono ?_; rintro e w' ⟨rfl, rfl⟩)
      | (go_at_call 100; refine (HB.out w (by omega) (by omega)).mono ?_; rintro e w' ⟨rfl, hw⟩; subst hw))
    go_ret
    exact ⟨ret_int (by omega), rfl⟩
end Go.Proofs.YtnkhhndjbanmnaaGreatDoor

/- nat.takeTimes, by its contract: what is left in z's limbs, and what z's end is short of. Conditions: z is memory of the call's own, apart from y, and as long as y or longer. -/
import Derived.Test.YtmajmpgcdpbnfaaNatAdd2
namespace Go.Proofs.Ytmajmpgcdpbnfaa
open Go.RowKit

/-- What must still be taken after k limbs. -/
def tkC (zs ys : List Nat) (m : Nat) : Nat → Nat
  | 0 => 0
  | k + 1 => tkCarry (ys.getD k 0) m (tkC zs ys m k) (zs.getD k 0)
/-- The limbs that are left. -/
def tkL (zs ys : List Nat) (m : Nat) : Nat → List Nat
  | 0 => []
  | k + 1 => tkL zs ys m k ++ [tkLimb (ys.getD k 0) m (tkC zs ys m k) (zs.getD k 0)]
theorem tkL_length (zs ys : List Nat) (m k : Nat) : (tkL zs ys m k).length = k := by
  induction k with
  | zero => rfl
  | succ k ih => simp [tkL, ih]
theorem fit_tkL (zs ys : List Nat) (m k : Nat) : Fit (tkL zs ys m k) := by
  induction k with
  | zero => exact fit_nil
  | succ k ih => exact fit_append ih (fit_cons (tk_limb_lt _ _ _ _) fit_nil)
theorem tkC_lt (zs ys : List Nat) (m k : Nat) (hy : Fit ys) (hm : m < 18446744073709551616) : tkC zs ys m k < 18446744073709551616 := by
  induction k with
  | zero => show (0 : Nat) < _; decide
  | succ k ih => exact tk_carry_lt _ _ _ _ (fit_getD hy k) hm ih
theorem tk_all (zs ys : List Nat) (m k : Nat) (hz : Fit zs) : val (zs.take k) + 18446744073709551616 ^ k * tkC zs ys m k = val (tkL zs ys m k) + m * val (ys.take k) := by
  induction k with
  | zero => simp [tkC, tkL, val]
  | succ k ih =>
    have hs := tk_spec (ys.getD k 0) m (tkC zs ys m k) (zs.getD k 0) (fit_getD hz k)
    rw [val_take_getD, val_take_getD, tkL, val_append, tkL_length, val_cons, val_nil, tkC]
    generalize zs.getD k 0 = h at *
    generalize ys.getD k 0 = l at *
    generalize tkCarry l m (tkC zs ys m k) h = c' at *
    generalize tkLimb l m (tkC zs ys m k) h = d at *
    generalize tkC zs ys m k = c at *
    generalize val (tkL zs ys m k) = V at *
    generalize val (zs.take k) = Z at *
    generalize val (ys.take k) = Y at *
    rw [Nat.pow_succ]
    generalize 18446744073709551616 ^ k = p at *
    have e1 : p * (h + 18446744073709551616 * c') = p * (d + (l * m + c)) := by rw [hs]
    grind

/-- The relation of takeTimes' loops. -/
def TakeInv (w : World) (g o : Nat) (L ys : List Nat) (m bm bc k : Nat) (wr : World) : Prop :=
  Blk wr g (mid L o k (tkL (L.drop o) ys m k)) ∧ Blk wr bm [m] ∧ Blk wr bc [tkC (L.drop o) ys m k] ∧ w.grownBy wr (some g)

theorem takeInv_start (w : World) (g o : Nat) (L ys : List Nat) (m : Nat) (hm : m < 18446744073709551616) (hB : Blk w g L) :
    TakeInv w g o L ys m w.heap.size (w.heap.size + 1) 0 ((w.alloc (.cells #[u64v m] 28)).alloc (.cells #[u64v 0] 28)) := by
  refine ⟨?_, ?_, ?_, ?_⟩
  · rw [show tkL (L.drop o) ys m 0 = [] from rfl, mid_zero]
    exact (hB.alloc _).alloc _
  · exact (blk_one w m hm).alloc _
  · rw [show tkC (L.drop o) ys m 0 = 0 from rfl]
    have := blk_one (w.alloc (.cells #[u64v m] 28)) 0 (by decide)
    simpa using this
  · exact (grown_alloc (grown_alloc (World.grownBy.refl w _) _) _)

theorem takeInv_step {w : World} {g o : Nat} {L ys : List Nat} {m bm bc k : Nat} {wr : World} (h : TakeInv w g o L ys m bm bc k wr) (hk : o + k < L.length) (hy : Fit ys) (hm : m < 18446744073709551616)
    (hgm : g ≠ bm) (hgc : g ≠ bc) (hmc : bm ≠ bc) (hbc : w.heap.size ≤ bc) :
    TakeInv w g o L ys m bm bc (k + 1)
      ((wr.setCell ⟨bc, 0, none⟩ (u64v (tkCarry (ys.getD k 0) m (tkC (L.drop o) ys m k) (L.getD (o + k) 0)))).setCell ⟨g, o + k, none⟩
        (u64v (tkLimb (ys.getD k 0) m (tkC (L.drop o) ys m k) (L.getD (o + k) 0)))) := by
  obtain ⟨h1, h2, h3, h4⟩ := h
  have ed : (L.drop o).getD k 0 = L.getD (o + k) 0 := by simp [List.getD_eq_getElem?_getD]
  have hcl : tkC (L.drop o) ys m (k + 1) < 18446744073709551616 := tkC_lt _ _ _ _ hy hm
  refine ⟨?_, ?_, ?_, ?_⟩
  · have := (h1.far (p := ⟨bc, 0, none⟩) hgc (u64v (tkCarry (ys.getD k 0) m (tkC (L.drop o) ys m k) (L.getD (o + k) 0)))).set_ (o + k) (tkLimb (ys.getD k 0) m (tkC (L.drop o) ys m k) (L.getD (o + k) 0)) (tk_limb_lt _ _ _ _)
    rw [mid_set _ _ _ _ _ hk (tkL_length _ _ _ _)] at this
    rw [tkL, ed]
    exact this
  · exact (h2.far (p := ⟨bc, 0, none⟩) hmc _).far (p := ⟨g, o + k, none⟩) (Ne.symm hgm) _
  · rw [tkC, ed] at hcl ⊢
    exact (h3.set_ 0 _ hcl).far (p := ⟨g, o + k, none⟩) (Ne.symm hgc) _
  · exact grown_setCell (grown_setCell h4 (.inr hbc) _) (.inl rfl) _

/-- What the walk wants of a round: the limb that stands in z, and where the closure's two variables lie. -/
theorem takeInv_cells {w : World} {g o : Nat} {L ys : List Nat} {m bm bc k : Nat} {wr : World} (h : TakeInv w g o L ys m bm bc k wr) (hk : o + k < L.length) (hgc : bc ≠ g) :
    wr.cell? ⟨g, o + k, none⟩ = some (u64v (L.getD (o + k) 0)) ∧ wr.cell? ⟨bm, 0, none⟩ = some (u64v m) ∧ wr.cell? ⟨bc, 0, none⟩ = some (u64v (tkC (L.drop o) ys m k)) ∧ wr.frozen? ⟨bc, 0, none⟩ = false ∧
      (∀ u, (wr.setCell ⟨bc, 0, none⟩ u).cell? ⟨g, o + k, none⟩ = some (u64v (L.getD (o + k) 0))) ∧ (∀ u, (wr.setCell ⟨bc, 0, none⟩ u).frozen? ⟨g, o + k, none⟩ = false) := by
  obtain ⟨h1, h2, h3, h4⟩ := h
  have hl := mid_length L o k (tkL (L.drop o) ys m k) (by omega) (tkL_length _ _ _ _)
  have e : (mid L o k (tkL (L.drop o) ys m k))[o + k]'(by omega) = L.getD (o + k) 0 := by
    have := mid_get? L o k (tkL (L.drop o) ys m k) hk (tkL_length _ _ _ _)
    rw [List.getElem?_eq_getElem (by omega), List.getElem?_eq_getElem hk] at this
    rw [List.getD_eq_getElem?_getD, List.getElem?_eq_getElem hk]
    injection this
  have hc : wr.cell? ⟨g, o + k, none⟩ = some (u64v (L.getD (o + k) 0)) := by rw [← e]; exact h1.cell _ _
  refine ⟨hc, h2.cell 0 (by simp), h3.cell 0 (by simp), h3.frozen 0, fun u => ?_, fun u => ?_⟩
  · rw [World.cell?_setCell_other _ _ _ _ (by intro e; injection e with e; first | exact hgc e | exact hgc e.symm)]
    exact hc
  · exact (h1.far (p := ⟨bc, 0, none⟩) (Ne.symm hgc) u).frozen _

set_option maxHeartbeats 1000000 in
theorem takeTimes_any (g o n c : Nat) (L : List Nat) (A : Option Addr) (ny cy : Nat) (ys : List Nat) (m : Nat) (w : World)
    (hB : Blk w g L) (hn : o + n ≤ L.length) (hmax : n ≤ 9223372036854775807) (hy : Sl w A ny cy ys) (hyn : ny ≤ n) (hne : Apart A ys g) (hm : m < 18446744073709551616) :
    Calls Try.prog 29 #[.slice (some ⟨g, o, none⟩) n c, .slice A ny cy, .int .u64 (m : Int)] w fun e w' =>
      e = .returned (u64v (tkC (L.drop o) ys m n)) ∧ Blk w' g (mid L o n (tkL (L.drop o) ys m n)) ∧ w.grownBy w' (some g) := by
  obtain ⟨hny, _, _, _, hR⟩ := hy
  have hstart := takeInv_start w g o L ys m hm hB
  have hgl := hB.lt
  have hLf := hB.fit
  have hyf := hR.fit
  have HS := Lib.hid hstart
  have HR := Lib.hid hR
  have HNY := Lib.hid hny
  have HNE := Lib.hid hne
  have HMM := Lib.hid hm
  have HLF := Lib.hid hLf
  have HYF := Lib.hid hyf
  clear hstart hR hny hne hB hm hLf hyf
  go_enter Try.func29, Try.ntmps29
  go_wp2
  go_loopw [15] (fun i wr => ∃ k : Nat, k ≤ ny ∧ i = .int .i64 k ∧ TakeInv w g o L ys m w.heap.size (w.heap.size + 1) k wr) (fun i _ => ny - (intOf i).toNat)
  case atStart => exact ⟨0, Nat.zero_le _, rfl, HS.out⟩
  case round =>
    obtain ⟨k, hk, rfl, hinv⟩ := hrel
    have HI := Lib.hid hinv
    clear hinv
    by_cases hlt : k < ny
    · have hnyl : k < ys.length := by rw [← HNY.out]; exact hlt
      obtain ⟨by_, oy, rfl, hby, hyc⟩ : ∃ b oy, A = some ⟨b, oy, none⟩ ∧ b < w.heap.size ∧ ∀ j (h : j < ys.length), w.cell? ⟨b, oy + j, none⟩ = some (u64v ys[j]) := by
        rcases HR.out.2 with h | h
        · exact absurd hnyl (by rw [h]; simp)
        · exact h
      have hyk : wr.cell? ⟨by_, oy + k, none⟩ = some (u64v (ys.getD k 0)) := by
        have e : ys.getD k 0 = ys[k] := by rw [List.getD_eq_getElem?_getD, List.getElem?_eq_getElem hnyl]; rfl
        rw [e]
        refine (World.cell?_of_block (w := w) (HI.out.2.2.2.block by_ hby (fun e => HNE.out.resolve_left (by intro e; rw [e] at hnyl; exact absurd hnyl (by simp)) by_ oy none rfl (by injection e)))).trans (hyc k hnyl)
      obtain ⟨c1, c2, c3, c4, c5, c6⟩ := takeInv_cells HI.out (by omega) (by omega)
      obtain ⟨yk, hyk'⟩ : ∃ yk, yk = ys.getD k 0 := ⟨_, rfl⟩
      obtain ⟨zk, hzk'⟩ : ∃ zk, zk = L.getD (o + k) 0 := ⟨_, rfl⟩
      obtain ⟨ck, hck'⟩ : ∃ ck, ck = tkC (L.drop o) ys m k := ⟨_, rfl⟩
      rw [← hyk'] at hyk
      rw [← hzk'] at c1 c5
      rw [← hck'] at c3
      have b1 : yk < 18446744073709551616 := by rw [hyk']; exact fit_getD HYF.out k
      have b2 : zk < 18446744073709551616 := by rw [hzk']; exact fit_getD HLF.out _
      have b3 : ck < 18446744073709551616 := by rw [hck']; exact tkC_lt _ _ _ _ HYF.out HMM.out
      have HC := Lib.hid (takeNext_any w.heap.size (w.heap.size + 1) yk m ck zk wr b1 HMM.out b3 b2 c2 c3 c4)
      have HSTEP := Lib.hid (takeInv_step HI.out (by omega) HYF.out HMM.out (by omega) (by omega) (by omega) (by omega))
      rw [← hyk', ← hzk', ← hck'] at HSTEP
      clear hyk' hzk' hck' b1 b2 b3 c2 c3 c4 hyc
      go_wp2_with (go_at_call 46; refine HC.out.mono ?_; rintro e w' ⟨rfl, rfl⟩)
      go_roundw
      case rel => exact ⟨k + 1, by omega, by go_num, HSTEP.out⟩
      case measure => simp [intOf]; omega
    · obtain rfl : k = ny := by omega
      go_wp2
      go_loopw [11] (fun i wq => ∃ q : Nat, k ≤ q ∧ q ≤ n ∧ i = .int .i64 q ∧ TakeInv w g o L ys m w.heap.size (w.heap.size + 1) q wq) (fun i _ => n - (intOf i).toNat)
      case atStart => exact ⟨k, Nat.le_refl _, by omega, rfl, HI.out⟩
      case round =>
        obtain ⟨q, hkq, hq, rfl, hinv⟩ := hrel
        have HJ := Lib.hid hinv
        clear hinv
        by_cases hlt' : q < n
        · have e0 : ys.getD q 0 = 0 := by rw [List.getD_eq_getElem?_getD, List.getElem?_eq_none (by rw [← HNY.out]; exact hkq)]; rfl
          obtain ⟨c1, c2, c3, c4, c5, c6⟩ := takeInv_cells HJ.out (by omega) (by omega)
          obtain ⟨zk, hzk'⟩ : ∃ zk, zk = L.getD (o + q) 0 := ⟨_, rfl⟩
          obtain ⟨ck, hck'⟩ : ∃ ck, ck = tkC (L.drop o) ys m q := ⟨_, rfl⟩
          rw [← hzk'] at c1 c5
          rw [← hck'] at c3
          have b2 : zk < 18446744073709551616 := by rw [hzk']; exact fit_getD HLF.out _
          have b3 : ck < 18446744073709551616 := by rw [hck']; exact tkC_lt _ _ _ _ HYF.out HMM.out
          have HC := Lib.hid (takeNext_any w.heap.size (w.heap.size + 1) 0 m ck zk wr (by decide) HMM.out b3 b2 c2 c3 c4)
          have HSTEP := Lib.hid (takeInv_step HJ.out (by omega) HYF.out HMM.out (by omega) (by omega) (by omega) (by omega))
          rw [e0, ← hzk', ← hck'] at HSTEP
          clear e0 hzk' hck' b2 b3 c2 c3 c4
          go_wp2_with (go_at_call 46; refine HC.out.mono ?_; rintro e w' ⟨rfl, rfl⟩)
          go_roundw
          case rel => exact ⟨q + 1, by omega, by omega, by go_num, HSTEP.out⟩
          case measure => simp [intOf]; omega
        · obtain rfl : q = n := by omega
          have hc3 := HJ.out.2.2.1.cell 0 (by simp)
          obtain ⟨ck, hck'⟩ : ∃ ck, ck = tkC (L.drop o) ys m q := ⟨_, rfl⟩
          simp only [List.getElem_cons_zero, ← hck'] at hc3
          have HK := Lib.hid hck'
          clear hck'
          go_wp2
          go_ret
          rw [← HK.out]
          exact ⟨rfl, HJ.out.1, HJ.out.2.2.2⟩
end Go.Proofs.Ytmajmpgcdpbnfaa

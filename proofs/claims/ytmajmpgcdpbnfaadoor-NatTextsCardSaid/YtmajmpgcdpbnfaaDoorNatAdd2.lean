/- nat.addTimes, walked. Conditions: as in its contract below. -/
import Derived.Test.YtmajmpgcdpbnfaaDoorNatAdd1
import Derived.WalkLawsBesides
namespace Go.Proofs.YtmajmpgcdpbnfaaDoor
open Go.RowKit

/-- What the walk wants of a round: the limb that stands in z, and where the closure's two variables lie. -/
theorem addInv_cells {w : World} {g o : Nat} {L ys : List Nat} {m bm bc k : Nat} {wr : World} (h : AddInv w g o L ys m bm bc k wr) (hk : o + k < L.length) (hgc : bc ≠ g) :
    wr.cell? ⟨g, o + k, none⟩ = some (u64v (L.getD (o + k) 0)) ∧ wr.cell? ⟨bm, 0, none⟩ = some (u64v m) ∧ wr.cell? ⟨bc, 0, none⟩ = some (u64v (addT (L.drop o) ys m k / 18446744073709551616 ^ k)) ∧ wr.frozen? ⟨bc, 0, none⟩ = false ∧
      (∀ u, (wr.setCell ⟨bc, 0, none⟩ u).cell? ⟨g, o + k, none⟩ = some (u64v (L.getD (o + k) 0))) ∧ (∀ u, (wr.setCell ⟨bc, 0, none⟩ u).frozen? ⟨g, o + k, none⟩ = false) := by
  obtain ⟨h1, h2, h3, h4⟩ := h
  have hl := mid_length L o k (dig k (addT (L.drop o) ys m k)) (by omega) (dig_length _ _)
  have e : (mid L o k (dig k (addT (L.drop o) ys m k)))[o + k]'(by omega) = L.getD (o + k) 0 := by
    have := mid_get? L o k (dig k (addT (L.drop o) ys m k)) hk (dig_length _ _)
    rw [List.getElem?_eq_getElem (by omega), List.getElem?_eq_getElem hk] at this
    rw [List.getD_eq_getElem?_getD, List.getElem?_eq_getElem hk]
    injection this
  have hc : wr.cell? ⟨g, o + k, none⟩ = some (u64v (L.getD (o + k) 0)) := by rw [← e]; exact h1.cell _ _
  refine ⟨hc, h2.cell 0 (by simp), h3.cell 0 (by simp), h3.frozen 0, fun u => ?_, fun u => ?_⟩
  · rw [World.cell?_setCell_other _ _ _ _ (by intro e; injection e with e; first | exact hgc e | exact hgc e.symm)]
    exact hc
  · exact (h1.far (p := ⟨bc, 0, none⟩) (Ne.symm hgc) u).frozen _

theorem u64v_mod (a b : Nat) : u64v ((a + b) % 18446744073709551616) = .int .u64 (((a : Int) + (b : Int)) % 18446744073709551616) := by
  show Value.int .u64 (((a + b) % 18446744073709551616 : Nat) : Int) = _
  rw [show (((a + b) % 18446744073709551616 : Nat) : Int) = ((a : Int) + (b : Int)) % 18446744073709551616 by omega]

set_option maxHeartbeats 1000000 in
theorem addTimes_any (g o n c : Nat) (L : List Nat) (A : Option Addr) (ny cy : Nat) (ys : List Nat) (m : Nat) (w : World)
    (hB : Blk w g L) (hn : o + n ≤ L.length) (hmax : n ≤ 9223372036854775807) (hy : Sl w A ny cy ys) (hyn : ny ≤ n) (hne : Apart A ys g) (hm : m < 18446744073709551616) :
    Calls Tryd.prog 21 #[.slice (some ⟨g, o, none⟩) n c, .slice A ny cy, .int .u64 (m : Int)] w fun e w' =>
      e = .returned (u64v (addT (L.drop o) ys m n / 18446744073709551616 ^ n)) ∧ Blk w' g (mid L o n (dig n (addT (L.drop o) ys m n))) ∧ w.grownBy w' (some g) := by
  obtain ⟨hny, _, _, _, hR⟩ := hy
  have hstart := addInv_start w g o L ys m hm hB
  have hgl := hB.lt
  have hLf := hB.fit
  have hyf := hR.fit
  have HS := Lib.hid hstart
  have HR := Lib.hid hR
  have HNY := Lib.hid hny
  have HNE := Lib.hid hne
  have HMM := Lib.hid hm
  have HLF := Lib.hid hLf
  have HYF := Lib.hid hyf
  clear hstart hR hny hne hB hm hLf hyf
  go_enter Tryd.func21, Tryd.ntmps21
  go_wp2
  go_loopw [15] (fun i wr => ∃ k : Nat, k ≤ ny ∧ i = .int .i64 k ∧ AddInv w g o L ys m w.heap.size (w.heap.size + 1) k wr) (fun i _ => ny - (intOf i).toNat)
  case atStart => exact ⟨0, Nat.zero_le _, rfl, HS.out⟩
  case round =>
    obtain ⟨k, hk, rfl, hinv⟩ := hrel
    have HI := Lib.hid hinv
    clear hinv
    by_cases hlt : k < ny
    · have hnyl : k < ys.length := by rw [← HNY.out]; exact hlt
      obtain ⟨by_, oy, rfl, hby, hyc⟩ : ∃ b oy, A = some ⟨b, oy, none⟩ ∧ b < w.heap.size ∧ ∀ j (h : j < ys.length), w.cell? ⟨b, oy + j, none⟩ = some (u64v ys[j]) := by
        rcases HR.out.2 with h | h
        · exact absurd hnyl (by rw [h]; simp)
        · exact h
      have hyk : wr.cell? ⟨by_, oy + k, none⟩ = some (u64v (ys.getD k 0)) := by
        have e : ys.getD k 0 = ys[k] := by rw [List.getD_eq_getElem?_getD, List.getElem?_eq_getElem hnyl]; rfl
        rw [e]
        refine (World.cell?_of_block (w := w) (HI.out.2.2.2.block by_ hby (fun e => HNE.out.resolve_left (by intro e; rw [e] at hnyl; exact absurd hnyl (by simp)) by_ oy none rfl (by injection e)))).trans (hyc k hnyl)
      obtain ⟨c1, c2, c3, c4, c5, c6⟩ := addInv_cells HI.out (by omega) (by omega)
      obtain ⟨yk, hyk'⟩ : ∃ yk, yk = ys.getD k 0 := ⟨_, rfl⟩
      obtain ⟨zk, hzk'⟩ : ∃ zk, zk = L.getD (o + k) 0 := ⟨_, rfl⟩
      obtain ⟨ck, hck'⟩ : ∃ ck, ck = addT (L.drop o) ys m k / 18446744073709551616 ^ k := ⟨_, rfl⟩
      rw [← hyk'] at hyk
      rw [← hzk'] at c1 c5
      rw [← hck'] at c3
      have b1 : yk < 18446744073709551616 := by rw [hyk']; exact fit_getD HYF.out k
      have b2 : zk < 18446744073709551616 := by rw [hzk']; exact fit_getD HLF.out _
      have b3 : ck < 18446744073709551616 := by rw [hck']; exact addT_carry_lt _ _ _ _ (fit_drop HLF.out o) HYF.out HMM.out
      have HC := Lib.hid (addNext_any w.heap.size (w.heap.size + 1) yk m ck zk wr b1 HMM.out b3 b2 c2 c3 c4)
      have HSTEP := Lib.hid (addInv_step HI.out (by omega) HLF.out HYF.out HMM.out (by omega) (by omega) (by omega) (by omega))
      rw [← hyk', ← hzk', ← hck'] at HSTEP
      clear hyk' hzk' hck' b1 b2 b3 c2 c3 c4 hyc
      go_wp2_with (go_at_call 28; refine HC.out.mono ?_; rintro e w' ⟨rfl, rfl⟩)
      go_roundw
      case rel => exact ⟨k + 1, by omega, by go_num, HSTEP.out⟩
      case measure => simp [intOf]; omega
    · obtain rfl : k = ny := by omega
      go_wp2
      go_loopw [11] (fun i wq => ∃ q : Nat, k ≤ q ∧ q ≤ n ∧ i = .int .i64 q ∧ AddInv w g o L ys m w.heap.size (w.heap.size + 1) q wq) (fun i _ => n - (intOf i).toNat)
      case atStart => exact ⟨k, Nat.le_refl _, by omega, rfl, HI.out⟩
      case round =>
        obtain ⟨q, hkq, hq, rfl, hinv⟩ := hrel
        have HJ := Lib.hid hinv
        clear hinv
        by_cases hlt' : q < n
        · have e0 : ys.getD q 0 = 0 := by rw [List.getD_eq_getElem?_getD, List.getElem?_eq_none (by rw [← HNY.out]; exact hkq)]; rfl
          obtain ⟨c1, c2, c3, c4, c5, c6⟩ := addInv_cells HJ.out (by omega) (by omega)
          obtain ⟨zk, hzk'⟩ : ∃ zk, zk = L.getD (o + q) 0 := ⟨_, rfl⟩
          obtain ⟨ck, hck'⟩ : ∃ ck, ck = addT (L.drop o) ys m q / 18446744073709551616 ^ q := ⟨_, rfl⟩
          rw [← hzk'] at c1 c5
          rw [← hck'] at c3
          have b2 : zk < 18446744073709551616 := by rw [hzk']; exact fit_getD HLF.out _
          have b3 : ck < 18446744073709551616 := by rw [hck']; exact addT_carry_lt _ _ _ _ (fit_drop HLF.out o) HYF.out HMM.out
          have HC := Lib.hid (addNext_any w.heap.size (w.heap.size + 1) 0 m ck zk wr (by decide) HMM.out b3 b2 c2 c3 c4)
          have HSTEP := Lib.hid (addInv_step HJ.out (by omega) HLF.out HYF.out HMM.out (by omega) (by omega) (by omega) (by omega))
          rw [e0, ← hzk', ← hck'] at HSTEP
          clear e0 hzk' hck' b2 b3 c2 c3 c4
          go_wp2_with (go_at_call 28; refine HC.out.mono ?_; rintro e w' ⟨rfl, rfl⟩)
          go_roundw
          case rel => exact ⟨q + 1, by omega, by omega, by go_num, by have h := HSTEP.out; simp only [Nat.zero_mul, Nat.add_zero] at h; rw [u64v_mod] at h; exact h⟩
          case measure => simp [intOf]; omega
        · obtain rfl : q = n := by omega
          have hc3 := HJ.out.2.2.1.cell 0 (by simp)
          obtain ⟨ck, hck'⟩ : ∃ ck, ck = addT (L.drop o) ys m q / 18446744073709551616 ^ q := ⟨_, rfl⟩
          simp only [List.getElem_cons_zero, ← hck'] at hc3
          have HK := Lib.hid hck'
          clear hck'
          go_wp2
          go_ret
          rw [← HK.out]
          exact ⟨rfl, HJ.out.1, HJ.out.2.2.2⟩
end Go.Proofs.YtmajmpgcdpbnfaaDoor

/- nat.divLong, by its contract: quotient and rest of long division. -/
import Derived.Test.YtmajmpgcdpbnfaaDivT
namespace Go.Proofs.Ytmajmpgcdpbnfaa
open Go.RowKit

set_option maxHeartbeats 2000000 in
theorem divLong_at (A B : Option Addr) (n c k c' : Nat) (xs ys : List Nat) (w : World) (h : Sl w A n c xs) (h' : Sl w B (k + 1) c' ys) (hk : 1 ≤ k) (hkn : k + 1 ≤ n) (hn : n ≤ 1099511627775) (hlast : 0 < ys.getD k 0) :
    Calls Try.prog 43 #[.slice A n c, .slice B (k + 1) c'] w fun e w' =>
      ∃ A1 m1 d1 A2 m2 d2, e = .returned (.tuple #[.slice A1 m1 d1, .slice A2 m2 d2]) ∧ Sl w' A1 m1 d1 (nrm (val xs / val ys)) ∧ Sl w' A2 m2 d2 (nrm (val xs % val ys)) ∧ Below w.heap.size w w' := by
  obtain ⟨b', o', rfl, _, hcell⟩ := h'.at_ (by omega)
  have hcl := hcell k (by omega)
  have hyb := fit_getD h'.fit k
  obtain ⟨s, hs, hs64, hY1, hY2⟩ := raise_top (ys.getD k 0) hlast hyb
  obtain ⟨r1, r2, r3, r4⟩ := dt_raise xs ys s k h.fit h'.fit h'.len.symm (by rw [← h.len]; exact hkn) hs64 hY1 hY2
  rw [← h.len] at r2 r3
  have hps : 0 < 2 ^ s := Nat.pow_pos (by decide)
  obtain ⟨hr1, hr2⟩ := raised (val xs) (val ys) (2 ^ s) hps
  obtain ⟨y, hy⟩ : ∃ y, y = ys.getD k 0 := ⟨_, rfl⟩
  rw [← hy] at hcl hs hyb hlast
  have HLZ := Try.bits_LeadingZeros64 (y : Int)
  have e0 : (64 - (Lib.bitLen (y : Int).toNat : Int)) = (s : Int) := by rw [Int.toNat_natCast, lbl_eq y hyb]; omega
  rw [e0] at HLZ
  have hYp : 0 < val ys * 2 ^ s := Nat.lt_of_lt_of_le (Nat.mul_pos (by decide) (Nat.pow_pos (by decide))) r4
  obtain ⟨V, hV⟩ : ∃ V, V = val xs * 2 ^ s := ⟨_, rfl⟩
  obtain ⟨Y, hY⟩ : ∃ Y, Y = val ys * 2 ^ s := ⟨_, rfl⟩
  rw [← hV] at r2 r3 hr1 hr2
  rw [← hY] at r1 r3 r4 hr1 hr2 hYp
  have hsl := shl_one s hs64
  have hpl := pow_lt64 s hs64
  have s1 : (0 : Int) ≤ (s : Int) := by omega
  have s2 : min s 64 = s := by omega
  have HLZH := Lib.hid HLZ
  have R1 := Lib.hid r1
  have R2 := Lib.hid r2
  have R3 := Lib.hid r3
  have R4 := Lib.hid r4
  have HR1 := Lib.hid hr1
  have HR2 := Lib.hid hr2
  have HVV := Lib.hid hV
  have HYY := Lib.hid hY
  have HYP := Lib.hid hYp
  have HSL := Lib.hid hsl
  have HPL := Lib.hid hpl
  have H := Lib.hid h
  have H' := Lib.hid h'
  have HYB := Lib.hid hyb
  obtain ⟨m, hm⟩ : ∃ m, m = n - (k + 1) + 1 := ⟨_, rfl⟩
  have m1 : (n : Int) - ((k : Int) + 1) + 1 = (m : Int) := by omega
  have HMM := Lib.hid hm
  clear h h' HLZ r1 r2 r3 r4 hr1 hr2 hV hY hYp hsl hpl hyb hs hy hY1 hY2 e0 hlast hcell hm
  go_enter Try.func43, Try.ntmps43
  go_wp2_with fail
  refine (HLZH.out w (by omega) (by have := HYB.out; omega)).mono ?_
  rintro e w0 ⟨rfl, hw0⟩
  subst hw0
  have z1 : val (dig (n + 1) (0 / 18446744073709551616 ^ 0)) + 2 ^ s * val xs < 18446744073709551616 ^ (n + 1) := by
    rw [Nat.zero_div, val_dig, Nat.zero_mod, Nat.zero_add, Nat.mul_comm, ← HVV.out]; exact R2.out
  have z2 : val (dig (k + 1) (0 / 18446744073709551616 ^ 0)) + 2 ^ s * val ys < 18446744073709551616 ^ (k + 1) := by
    rw [Nat.zero_div, val_dig, Nat.zero_mod, Nat.zero_add, Nat.mul_comm, ← HYY.out]; exact R1.out
  have eV : 0 + 18446744073709551616 ^ 0 * (2 ^ s * val xs) = V := by rw [Nat.pow_zero, Nat.one_mul, Nat.zero_add, Nat.mul_comm]; exact HVV.out.symm
  have eY : 0 + 18446744073709551616 ^ 0 * (2 ^ s * val ys) = Y := by rw [Nat.pow_zero, Nat.one_mul, Nat.zero_add, Nat.mul_comm]; exact HYY.out.symm
  have Z1 := Lib.hid z1
  have Z2 := Lib.hid z2
  have EV := Lib.hid eV
  have EY := Lib.hid eY
  clear z1 z2 eV eY
  go_wp2_with (first
    | (at_make; refine wpList_make_val _ rfl _ _ rfl _ _ _ _ (n + 1) rfl rfl (by omega) (by omega) (by omega) ?_; intro w1 hb1 hbel1))
  rw [HSL.out]
  refine (addTimes_val w0.heap.size 0 (n + 1) (n + 1) (n + 1) 0 A n c xs (2 ^ s) w1 hb1 (by omega) (by omega) (H.out.below hbel1) (by omega) (H.out.apart (Nat.le_refl _)) HPL.out (Nat.pow_pos (by decide)) Z1.out).mono ?_
  rintro e w2 ⟨rfl, hb2, hg2⟩
  rw [EV.out] at hb2
  have hbel2 : Below w0.heap.size w0 w2 := hbel1.trans (below_of_grown hg2 hbel1.size (Nat.le_refl _))
  clear hb1 hg2 hbel1
  go_wp2_with (first
    | (at_make; refine wpList_make_val _ rfl _ _ rfl _ _ _ _ (k + 1) rfl rfl (by omega) (by omega) (by omega) ?_; intro w3 hb3 hbel3))
  rw [HSL.out]
  refine (addTimes_val w2.heap.size 0 (k + 1) (k + 1) (k + 1) 0 (some ⟨b', o', none⟩) (k + 1) c' ys (2 ^ s) w3 hb3 (by omega) (by omega) (H'.out.below (hbel2.trans (hbel3.mono hbel2.size))) (by omega) (H'.out.apart hbel2.size) HPL.out (Nat.pow_pos (by decide)) Z2.out).mono ?_
  rintro e w4 ⟨rfl, hb4, hg4⟩
  rw [EY.out] at hb4
  have hb2' := (hb2.below hbel3).grown hg4 (by have := hb2.lt; omega)
  have hbel4 : Below w0.heap.size w0 w4 := (hbel2.trans (hbel3.mono hbel2.size)).trans (below_of_grown hg4 (Nat.le_trans hbel2.size hbel3.size) hbel2.size)
  have hg12 : w0.heap.size < w2.heap.size := hb2.lt
  have hg24 : w2.heap.size < w4.heap.size := hb4.lt
  clear hb2 hb3 hg4 hbel3 hbel2
  go_wp2_with (first
    | (at_make; refine wpList_make_val _ rfl _ _ rfl _ _ _ _ m rfl rfl (by omega) (by omega) (by omega) ?_; intro w5 hb5 hbel5))
  have hb2 := hb2'.below hbel5
  have hb4' := hb4.below hbel5
  have hbel : Below w0.heap.size w0 w5 := hbel4.trans (hbel5.mono hbel4.size)
  clear hb2' hb4 hbel4 hbel5
  obtain ⟨st1, st2⟩ := dt_start V Y m (by rw [HMM.out]; exact R3.out)
  rw [← st1] at hb2
  rw [← st2] at hb5
  have hmn : m + k = n := by have := HMM.out; omega
  have hy0 : val (dig (k + 1) Y) = Y := val_dig_of_lt R1.out
  have hytop : 0 < (dig (k + 1) Y).getD k 0 := by
    rw [dig_getD (k + 1) Y k (by omega)]
    have h1 : 9223372036854775808 ≤ Y / 18446744073709551616 ^ k := (Nat.le_div_iff_mul_le (Nat.pow_pos (by decide))).2 R4.out
    have h2 : Y / 18446744073709551616 ^ k < 18446744073709551616 := by
      apply Nat.div_lt_of_lt_mul
      rw [← Nat.pow_succ]; exact R1.out
    rw [Nat.mod_eq_of_lt h2]
    omega
  have HB2 := Lib.hid hb2
  have HB4 := Lib.hid hb4'
  have HB5 := Lib.hid hb5
  have HYT := Lib.hid hytop
  have HY0 := Lib.hid hy0
  clear hb2 hb4' hb5 hytop hy0 st1 st2
  go_loopw [10] (fun i wr => ∃ j : Nat, j ≤ m ∧ i = .int .i64 ((j : Int) - 1) ∧ Blk wr w0.heap.size (dig (n + 1) (dtR V Y j)) ∧ Blk wr w2.heap.size (dig (k + 1) Y) ∧ Blk wr w4.heap.size (dig m (dtQ V Y j)) ∧ Below w0.heap.size w0 wr) (fun i _ => (intOf i + 1).toNat)
  case atStart => exact ⟨m, Nat.le_refl _, rfl, HB2.out, HB4.out, HB5.out, hbel⟩
  case round =>
    obtain ⟨j, hj, rfl, hb1, hb2, hb3, hbw⟩ := hrel
    clear HB2 HB4 HB5 hbel
    by_cases hj0 : 0 < j
    · obtain ⟨i, rfl⟩ : ∃ i, j = i + 1 := ⟨j - 1, by omega⟩
      have hii : (((i + 1 : Nat) : Int) - 1) = (i : Int) := by omega
      rw [hii]
      have hYle : Y ≤ 18446744073709551616 ^ (k + 1) := Nat.le_of_lt R1.out
      obtain ⟨d1, d2⟩ := dt_mid V Y (n + 1) i (k + 1) R2.out HYP.out hYle (by omega)
      have d3 := dt_part_lt V Y i HYP.out
      have d4 := dt_limb V Y i
      have d5 := dt_quo V Y m i (by omega)
      have d6 : dtR V Y (i + 1) / 18446744073709551616 ^ i / Y < 18446744073709551616 := by rw [d4]; exact Nat.mod_lt _ (by decide)
      rw [← d4] at d5
      obtain ⟨q, hq⟩ : ∃ q, q = dtR V Y (i + 1) / 18446744073709551616 ^ i / Y := ⟨_, rfl⟩
      rw [← hq] at d5 d6
      have hlen3 : (dig m (dtQ V Y (i + 1))).length = m := dig_length _ _
      have TS := fun wx (q1 : Blk wx w0.heap.size (dig (n + 1) (dtR V Y (i + 1)))) (q2 : Blk wx w2.heap.size (dig (k + 1) Y)) => divStep_at w0.heap.size i (k + 1) (n + 1 - i) (k + 1) (dig (n + 1) (dtR V Y (i + 1))) (some ⟨w2.heap.size, 0, none⟩) (dig (k + 1) Y) wx q1 (by rw [dig_length]; omega) (by omega) (by omega) (by omega) (by omega) (q2.sl' (by omega)) (apart_of_ne (by omega)) (by rw [Nat.add_sub_cancel]; exact HYT.out) (by rw [d1, HY0.out]; exact d3)
      rw [d1, HY0.out, d2, ← hq] at TS
      have TSS := Lib.hid TS
      have D5 := Lib.hid d5
      have D6 := Lib.hid d6
      have e7 : i + (k + 1) + 1 - i = k + 1 + 1 := by omega
      have E7 := Lib.hid e7
      have HB1 := Lib.hid hb1
      have HB2 := Lib.hid hb2
      have HB3 := Lib.hid hb3
      have HBW := Lib.hid hbw
      have i1 : (0 : Int) ≤ (i : Int) := by omega
      have i2 : (i : Int) < (m : Int) := by omega
      have i3 : (i : Int) ≤ (i : Int) + ((k : Int) + 1) + 1 := by omega
      have i4 : (i : Int) + ((k : Int) + 1) + 1 ≤ (n : Int) + 1 := by omega
      have i5 : ¬ n + 1 = i := by omega
      have him : i < m := by omega
      clear d1 d2 d3 d4 d5 d6 hq e7 TS hb1 hb2 hb3 hbw hYle hlen3 hii hj hj0
      go_wp2_with fail
      rw [E7.out]
      refine (TSS.out wr HB1.out HB2.out).mono ?_
      rintro e w6 ⟨rfl, hb1, hg6⟩
      have hb2 := HB2.out.grown hg6 (by omega)
      have hb3 := HB3.out.grown hg6 (by omega)
      have hbw := HBW.out.trans (below_of_grown hg6 HBW.out.size (Nat.le_refl _))
      have hlen3 : (dig m (dtQ V Y (i + 1))).length = m := dig_length _ _
      have hc3 := hb3.cellD i (by rw [hlen3]; exact him)
      have hf3 := hb3.frozen i
      have hset := hb3.set_ i q D6.out
      rw [D5.out] at hset
      have hb1s := hb1.far (p := ⟨w4.heap.size, i, none⟩) (by show w0.heap.size ≠ w4.heap.size; omega) (u64v q)
      have hb2s := hb2.far (p := ⟨w4.heap.size, i, none⟩) (by show w2.heap.size ≠ w4.heap.size; omega) (u64v q)
      have hbws := hbw.setCell (p := ⟨w4.heap.size, i, none⟩) (by show w0.heap.size ≤ w4.heap.size; omega) (u64v q)
      have HB1 := Lib.hid hb1s
      have HB2 := Lib.hid hb2s
      have HB3 := Lib.hid hset
      have HBW := Lib.hid hbws
      clear hb1 hb2 hb3 hbw hset hb1s hb2s hbws hg6 hlen3
      go_wp2_with fail
      go_roundw
      case rel => exact ⟨i, by omega, rfl, HB1.out, HB2.out, HB3.out, HBW.out⟩
      case measure => simp [intOf]
    · obtain rfl : j = 0 := by omega
      obtain ⟨en1, en2⟩ := dt_end V Y
      rw [en1] at hb1
      rw [en2] at hb3
      have T := trim_any _ m m _ wr (hb3.sl' (by omega))
      have hVd : V / Y < 18446744073709551616 ^ m := Nat.div_lt_of_lt_mul (by rw [HMM.out]; exact R3.out)
      have hRl : V % Y < 18446744073709551616 ^ (n + 1) := Nat.lt_of_le_of_lt (Nat.mod_le _ _) R2.out
      have hs3 := (hb3.sl' (by omega)).plain
      rw [val_dig_of_lt hVd, HR1.out] at T hs3
      have hs1 := hb1.sl' (by omega)
      have SR := shr_at (some ⟨w0.heap.size, 0, none⟩) (n + 1) (n + 1) _ (s : Int) s wr hs1 (by omega) (by omega) (by omega)
      rw [val_dig_of_lt hRl, HR2.out] at SR
      have TT := Lib.hid T
      have SS := Lib.hid SR
      have HS3 := Lib.hid hs3
      have HBW := Lib.hid hbw
      clear T SR hs3 hs1 hVd hRl hb1 hb2 hb3 hbw en1 en2
      go_wp2_with (first
        | (go_at_call 30; (with_reducible refine TT.out.mono ?_); rintro e w' ⟨rfl, rfl⟩)
        | (go_at_call 27; refine SS.out.mono ?_; rintro e w7 ⟨A2, m2, d2, rfl, hs2, -, hb7⟩))
      go_ret2
      exact ⟨_, _, _, _, _, _, rfl, HS3.out.below hb7, hs2, HBW.out.trans (hb7.mono HBW.out.size)⟩
end Go.Proofs.Ytmajmpgcdpbnfaa

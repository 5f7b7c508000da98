/- The law NatRest, walked: quotient times divisor, and the rest. -/
import Derived.Test.YtmajmpgcdpbnfaaNatOpen
import Derived.Test.YtmajmpgcdpbnfaaNatDiv
namespace Go.Proofs.Ytmajmpgcdpbnfaa
open Go.RowKit

set_option maxHeartbeats 4000000 in
theorem walkNatRest (A0 : Option Addr) (n0 c0 : Nat) (xs : List Nat) (A1 : Option Addr) (n1 c1 : Nat) (ys : List Nat) (w : World)
    (h0 : Sl w A0 n0 c0 xs) (b0 : n0 ≤ 17592186044416) (h1 : Sl w A1 n1 c1 ys) (b1 : n1 ≤ 17592186044416) :
    Calls Try.prog 8 #[.slice A0 n0 c0, .slice A1 n1 c1] w fun e w' => e = .returned (.bool true) ∧ Below w.heap.size w w' := by
  have hone : ∀ W : World, Sl (W.alloc (.cells #[.int .u64 1] 28)) (some ⟨W.heap.size, 0, none⟩) 1 1 [1] := fun W => (blk_one W 1 (by decide)).sl (by decide)
  have hnil : ∀ W : World, Sl W none 0 0 [] := fun W => ⟨rfl, Nat.le_refl _, by decide, fun _ => rfl, Rd.nil _ _⟩
  have hcmp : cmpN (val []) (val [1]) = -1 := by decide
  have HONE := Lib.hid hone
  have HNIL := Lib.hid hnil
  have HCMP := Lib.hid hcmp
  clear hone hnil hcmp
  by_cases hbig : 400 < n0 + n1
  · go_enter Try.func8, Try.ntmps8
    go_wp2_with fail
    have hc := cmp_below none (some ⟨w.heap.size, 0, none⟩) 0 0 1 1 [] [1] _ (HNIL.out _) (HONE.out w)
    rw [HCMP.out] at hc
    refine hc.mono ?_
    rintro e w1 ⟨rfl, hb⟩
    clear hc
    go_wp2_with fail
    go_ret
    exact ⟨rfl, (Below.refl _ _).alloc (Nat.le_refl _) _ |>.trans (hb.mono (by simp))⟩
  · have hz0 : n0 ≤ 400 := by omega
    have hz1 : n1 ≤ 400 := by omega
    have s0 := h0
    have s1 := h1
    have hw : Below w.heap.size w w := Below.refl _ _
    by_cases hy : val ys = 0
    · have hy0 : cmpN (val ys) (val []) = 0 := by rw [hy]; decide
      have HY0 := Lib.hid hy0
      have HDZ := Lib.hid (div_zero A0 A1 n0 c0 n1 c1 xs ys w s0 s1 hy)
      clear h0 h1 b0 b1 hy hy0
      go_enter Try.func8, Try.ntmps8
      go_wp2_with fail
      refine HDZ.out.mono ?_
      rintro e w' ⟨rfl, rfl⟩
      go_wp2_with fail
      have hc := cmp_below A1 none n1 c1 0 0 ys [] w s1 (HNIL.out _)
      rw [HY0.out] at hc
      refine hc.mono ?_
      rintro e w1 ⟨rfl, hb⟩
      clear hc
      go_wp2_with fail
      have hal : Below w1.heap.size w1 (w1.alloc (.cells #[.int .u64 1] 28)) := (Below.refl _ _).alloc (Nat.le_refl _) _
      have hc := cmp_below none (some ⟨w1.heap.size, 0, none⟩) 0 0 1 1 [] [1] _ (HNIL.out _) (HONE.out w1)
      rw [HCMP.out] at hc
      refine hc.mono ?_
      rintro e w2 ⟨rfl, hb1⟩
      clear hc
      go_wp2_with fail
      go_ret
      exact ⟨rfl, hb.trans ((hal.trans (hb1.mono hal.size)).mono hb.size)⟩
    · have hy1 : cmpN (val ys) (val []) = 1 := by unfold cmpN; rw [if_neg (by simp [val]), if_pos (by simp [val]; omega)]
      have HY1 := Lib.hid hy1
      have hrb : cmpN (val (nrm (val xs % val ys))) (val ys) = -1 := by rw [val_nrm]; unfold cmpN; rw [if_pos (Nat.mod_lt _ (Nat.pos_of_ne_zero hy))]
      have HRB := Lib.hid hrb
      have HY := Lib.hid hy
      clear h0 h1 b0 b1 hy hy1 hrb
      go_enter Try.func8, Try.ntmps8
      go_wp2_with fail
      refine (div_at A0 A1 n0 c0 n1 c1 _ _ _ s0 s1 (by omega) HY.out).mono ?_
      rintro e w1 ⟨Q1, q1, u1, R1, r1, v1, rfl, sq1, sr1, hq1, hr1, hr1b, hb⟩
      replace s0 := s0.below hb
      replace s1 := s1.below hb
      replace hw := hw.trans (hb.mono hw.size)
      clear hb
      go_wp2_with fail
      have hc := cmp_below A1 none n1 c1 0 0 ys [] _ s1 (HNIL.out _)
      rw [HY1.out] at hc
      refine hc.mono ?_
      rintro e w2 ⟨rfl, hb⟩
      clear hc
      replace s0 := s0.below hb
      replace s1 := s1.below hb
      replace sq1 := sq1.below hb
      replace sr1 := sr1.below hb
      replace hw := hw.trans (hb.mono hw.size)
      clear hb
      go_wp2_with fail
      refine (mul_at A0 A1 n0 c0 n1 c1 _ _ _ s0 s1 (by omega)).mono ?_
      rintro e w3 ⟨g3, m3, d3, rfl, -, s5, hm3, hb⟩
      replace s0 := s0.below hb
      replace s1 := s1.below hb
      replace sq1 := sq1.below hb
      replace sr1 := sr1.below hb
      replace hw := hw.trans (hb.mono hw.size)
      clear hb
      go_wp2_with fail
      refine (div_at (some ⟨g3, 0, none⟩) A1 m3 d3 n1 c1 _ _ _ s5 s1 (by omega) HY.out).mono ?_
      rintro e w4 ⟨Q4, q4, u4, R4, r4, v4, rfl, sq4, sr4, hq4, hr4, hr4b, hb⟩
      replace s0 := s0.below hb
      replace s1 := s1.below hb
      replace sq1 := sq1.below hb
      replace sr1 := sr1.below hb
      replace s5 := s5.below hb
      replace hw := hw.trans (hb.mono hw.size)
      clear hb
      go_wp2_with fail
      clear s5
      refine (mul_at Q1 A1 q1 u1 n1 c1 _ _ _ sq1 s1 (by omega)).mono ?_
      rintro e w5 ⟨g5, m5, d5, rfl, -, s7, hm5, hb⟩
      replace s0 := s0.below hb
      replace s1 := s1.below hb
      replace sq1 := sq1.below hb
      replace sr1 := sr1.below hb
      replace sq4 := sq4.below hb
      replace sr4 := sr4.below hb
      replace hw := hw.trans (hb.mono hw.size)
      clear hb
      go_wp2_with fail
      refine (add_at (some ⟨g5, 0, none⟩) R1 m5 d5 r1 v1 _ _ _ s7 sr1 (by omega) (by omega)).mono ?_
      rintro e w6 ⟨g6, m6, d6, rfl, -, s8, hm6, hb⟩
      replace s0 := s0.below hb
      replace s1 := s1.below hb
      replace sq1 := sq1.below hb
      replace sr1 := sr1.below hb
      replace sq4 := sq4.below hb
      replace sr4 := sr4.below hb
      replace s7 := s7.below hb
      replace hw := hw.trans (hb.mono hw.size)
      clear hb
      go_wp2_with fail
      clear s7
      refine (norm_at A0 n0 c0 _ _ s0 (by omega)).mono ?_
      rintro e w7 ⟨g7, m7, rfl, -, s9, hm7, hb⟩
      replace s0 := s0.below hb
      replace s1 := s1.below hb
      replace sq1 := sq1.below hb
      replace sr1 := sr1.below hb
      replace sq4 := sq4.below hb
      replace sr4 := sr4.below hb
      replace s8 := s8.below hb
      replace hw := hw.trans (hb.mono hw.size)
      clear hb
      go_wp2_with fail
      refine (same_true (some ⟨g6, 0, none⟩) (some ⟨g7, 0, none⟩) m6 d6 m7 m7 _ _ _ s8 s9 (by rw [val_nrm, val_nrm, val_nrm, Nat.mul_comm]; exact congrArg nrm (Nat.div_add_mod _ _))).mono ?_
      rintro e w8 ⟨rfl, hb⟩
      clear s8
      clear s9
      replace s0 := s0.below hb
      replace s1 := s1.below hb
      replace sq1 := sq1.below hb
      replace sr1 := sr1.below hb
      replace sq4 := sq4.below hb
      replace sr4 := sr4.below hb
      replace hw := hw.trans (hb.mono hw.size)
      clear hb
      go_wp2_with fail
      have hc := cmp_below R1 A1 r1 v1 n1 c1 _ _ _ sr1 s1
      rw [HRB.out] at hc
      refine hc.mono ?_
      rintro e w9 ⟨rfl, hb⟩
      clear hc
      replace s0 := s0.below hb
      replace s1 := s1.below hb
      replace sq1 := sq1.below hb
      replace sr1 := sr1.below hb
      replace sq4 := sq4.below hb
      replace sr4 := sr4.below hb
      replace hw := hw.trans (hb.mono hw.size)
      clear hb
      go_wp2_with fail
      refine (norm_at A0 n0 c0 _ _ s0 (by omega)).mono ?_
      rintro e w10 ⟨g10, m10, rfl, -, s12, hm10, hb⟩
      replace s0 := s0.below hb
      replace s1 := s1.below hb
      replace sq1 := sq1.below hb
      replace sr1 := sr1.below hb
      replace sq4 := sq4.below hb
      replace sr4 := sr4.below hb
      replace hw := hw.trans (hb.mono hw.size)
      clear hb
      go_wp2_with fail
      have hs0 : r4 = 0 := by have h := sr4.len; rw [val_nrm, Nat.mul_mod_left, nrm_zero] at h; exact h
      subst hs0
      refine (same_true Q4 (some ⟨g10, 0, none⟩) q4 u4 m10 m10 _ _ _ sq4 s12 (by rw [val_nrm, Nat.mul_div_cancel _ (Nat.pos_of_ne_zero HY.out)])).mono ?_
      rintro e w11 ⟨rfl, hb⟩
      clear sq4
      clear s12
      replace s0 := s0.below hb
      replace s1 := s1.below hb
      replace sq1 := sq1.below hb
      replace sr1 := sr1.below hb
      replace sr4 := sr4.below hb
      replace hw := hw.trans (hb.mono hw.size)
      clear hb
      go_wp2_with fail
      go_ret
      exact ⟨rfl, hw⟩
end Go.Proofs.Ytmajmpgcdpbnfaa

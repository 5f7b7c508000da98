/- The law NatRing, walked: sums and products changed about and put together otherwise. -/
import Derived.Test.YtmajmpgcdpbnfaaNatOpen
namespace Go.Proofs.Ytmajmpgcdpbnfaa
open Go.RowKit

set_option maxHeartbeats 4000000 in
theorem walkNatRing (A0 : Option Addr) (n0 c0 : Nat) (xs : List Nat) (A1 : Option Addr) (n1 c1 : Nat) (ys : List Nat) (A2 : Option Addr) (n2 c2 : Nat) (zs : List Nat) (w : World)
    (h0 : Sl w A0 n0 c0 xs) (b0 : n0 ≤ 17592186044416) (h1 : Sl w A1 n1 c1 ys) (b1 : n1 ≤ 17592186044416) (h2 : Sl w A2 n2 c2 zs) (b2 : n2 ≤ 17592186044416) :
    Calls Try.prog 7 #[.slice A0 n0 c0, .slice A1 n1 c1, .slice A2 n2 c2] w fun e w' => e = .returned (.bool true) ∧ Below w.heap.size w w' := by
  have hone : ∀ W : World, Sl (W.alloc (.cells #[.int .u64 1] 28)) (some ⟨W.heap.size, 0, none⟩) 1 1 [1] := fun W => (blk_one W 1 (by decide)).sl (by decide)
  have hnil : ∀ W : World, Sl W none 0 0 [] := fun W => ⟨rfl, Nat.le_refl _, by decide, fun _ => rfl, Rd.nil _ _⟩
  have hcmp : cmpN (val []) (val [1]) = -1 := by decide
  have HONE := Lib.hid hone
  have HNIL := Lib.hid hnil
  have HCMP := Lib.hid hcmp
  clear hone hnil hcmp
  by_cases hbig : 400 < n0 + n1 + n2
  · go_enter Try.func7, Try.ntmps7
    go_wp2_with fail
    have hc := cmp_below none (some ⟨w.heap.size, 0, none⟩) 0 0 1 1 [] [1] _ (HNIL.out _) (HONE.out w)
    rw [HCMP.out] at hc
    refine hc.mono ?_
    rintro e w1 ⟨rfl, hb⟩
    clear hc
    go_wp2_with fail
    go_ret
    exact ⟨rfl, (Below.refl _ _).alloc (Nat.le_refl _) _ |>.trans (hb.mono (by simp))⟩
  · have hz0 : n0 ≤ 400 := by omega
    have hz1 : n1 ≤ 400 := by omega
    have hz2 : n2 ≤ 400 := by omega
    go_enter Try.func7, Try.ntmps7
    go_wp2_with fail
    have hw : Below w.heap.size w w := Below.refl _ _
    have s0 := h0
    have s1 := h1
    have s2 := h2
    clear h0 h1 h2 b0 b1 b2 hbig
    refine (add_at A0 A1 n0 c0 n1 c1 _ _ _ s0 s1 (by omega) (by omega)).mono ?_
    rintro e w1 ⟨g1, m1, d1, rfl, -, s3, hm1, hb⟩
    replace s0 := s0.below hb
    replace s1 := s1.below hb
    replace s2 := s2.below hb
    replace hw := hw.trans (hb.mono hw.size)
    clear hb
    go_wp2_with fail
    refine (sub_at (some ⟨g1, 0, none⟩) A1 m1 d1 n1 c1 _ _ _ s3 s1 (by omega) (by rw [val_nrm]; omega)).mono ?_
    rintro e w2 ⟨g2, m2, d2, rfl, -, s4, hm2, hb⟩
    replace s0 := s0.below hb
    replace s1 := s1.below hb
    replace s2 := s2.below hb
    replace s3 := s3.below hb
    replace hw := hw.trans (hb.mono hw.size)
    clear hb
    go_wp2_with fail
    clear s3
    have hal : Below w2.heap.size w2 (w2.alloc (.cells #[.int .u64 1] 28)) := (Below.refl _ _).alloc (Nat.le_refl _) _
    have hc := cmp_below none (some ⟨w2.heap.size, 0, none⟩) 0 0 1 1 [] [1] _ (HNIL.out _) (HONE.out w2)
    rw [HCMP.out] at hc
    refine hc.mono ?_
    rintro e w3 ⟨rfl, hb1⟩
    clear hc
    have hb := hal.trans (hb1.mono hal.size)
    clear hal hb1
    replace s0 := s0.below hb
    replace s1 := s1.below hb
    replace s2 := s2.below hb
    replace s4 := s4.below hb
    replace hw := hw.trans (hb.mono hw.size)
    clear hb
    go_wp2_with fail
    refine (add_at A0 A1 n0 c0 n1 c1 _ _ _ s0 s1 (by omega) (by omega)).mono ?_
    rintro e w4 ⟨g4, m4, d4, rfl, -, s6, hm4, hb⟩
    replace s0 := s0.below hb
    replace s1 := s1.below hb
    replace s2 := s2.below hb
    replace s4 := s4.below hb
    replace hw := hw.trans (hb.mono hw.size)
    clear hb
    go_wp2_with fail
    refine (add_at A1 A0 n1 c1 n0 c0 _ _ _ s1 s0 (by omega) (by omega)).mono ?_
    rintro e w5 ⟨g5, m5, d5, rfl, -, s7, hm5, hb⟩
    replace s0 := s0.below hb
    replace s1 := s1.below hb
    replace s2 := s2.below hb
    replace s4 := s4.below hb
    replace s6 := s6.below hb
    replace hw := hw.trans (hb.mono hw.size)
    clear hb
    go_wp2_with fail
    refine (same_true (some ⟨g4, 0, none⟩) (some ⟨g5, 0, none⟩) m4 d4 m5 d5 _ _ _ s6 s7 (by rw [Nat.add_comm])).mono ?_
    rintro e w6 ⟨rfl, hb⟩
    clear s6
    clear s7
    replace s0 := s0.below hb
    replace s1 := s1.below hb
    replace s2 := s2.below hb
    replace s4 := s4.below hb
    replace hw := hw.trans (hb.mono hw.size)
    clear hb
    go_wp2_with fail
    refine (add_at A0 A1 n0 c0 n1 c1 _ _ _ s0 s1 (by omega) (by omega)).mono ?_
    rintro e w7 ⟨g7, m7, d7, rfl, -, s9, hm7, hb⟩
    replace s0 := s0.below hb
    replace s1 := s1.below hb
    replace s2 := s2.below hb
    replace s4 := s4.below hb
    replace hw := hw.trans (hb.mono hw.size)
    clear hb
    go_wp2_with fail
    refine (add_at (some ⟨g7, 0, none⟩) A2 m7 d7 n2 c2 _ _ _ s9 s2 (by omega) (by omega)).mono ?_
    rintro e w8 ⟨g8, m8, d8, rfl, -, s10, hm8, hb⟩
    replace s0 := s0.below hb
    replace s1 := s1.below hb
    replace s2 := s2.below hb
    replace s4 := s4.below hb
    replace s9 := s9.below hb
    replace hw := hw.trans (hb.mono hw.size)
    clear hb
    go_wp2_with fail
    clear s9
    refine (add_at A1 A2 n1 c1 n2 c2 _ _ _ s1 s2 (by omega) (by omega)).mono ?_
    rintro e w9 ⟨g9, m9, d9, rfl, -, s11, hm9, hb⟩
    replace s0 := s0.below hb
    replace s1 := s1.below hb
    replace s2 := s2.below hb
    replace s4 := s4.below hb
    replace s10 := s10.below hb
    replace hw := hw.trans (hb.mono hw.size)
    clear hb
    go_wp2_with fail
    refine (add_at A0 (some ⟨g9, 0, none⟩) n0 c0 m9 d9 _ _ _ s0 s11 (by omega) (by omega)).mono ?_
    rintro e w10 ⟨g10, m10, d10, rfl, -, s12, hm10, hb⟩
    replace s0 := s0.below hb
    replace s1 := s1.below hb
    replace s2 := s2.below hb
    replace s4 := s4.below hb
    replace s10 := s10.below hb
    replace s11 := s11.below hb
    replace hw := hw.trans (hb.mono hw.size)
    clear hb
    go_wp2_with fail
    clear s11
    refine (same_true (some ⟨g8, 0, none⟩) (some ⟨g10, 0, none⟩) m8 d8 m10 d10 _ _ _ s10 s12 (by rw [val_nrm, val_nrm, Nat.add_assoc])).mono ?_
    rintro e w11 ⟨rfl, hb⟩
    clear s10
    clear s12
    replace s0 := s0.below hb
    replace s1 := s1.below hb
    replace s2 := s2.below hb
    replace s4 := s4.below hb
    replace hw := hw.trans (hb.mono hw.size)
    clear hb
    go_wp2_with fail
    refine (mul_at A0 A1 n0 c0 n1 c1 _ _ _ s0 s1 (by omega)).mono ?_
    rintro e w12 ⟨g12, m12, d12, rfl, -, s14, hm12, hb⟩
    replace s0 := s0.below hb
    replace s1 := s1.below hb
    replace s2 := s2.below hb
    replace s4 := s4.below hb
    replace hw := hw.trans (hb.mono hw.size)
    clear hb
    go_wp2_with fail
    refine (mul_at A1 A0 n1 c1 n0 c0 _ _ _ s1 s0 (by omega)).mono ?_
    rintro e w13 ⟨g13, m13, d13, rfl, -, s15, hm13, hb⟩
    replace s0 := s0.below hb
    replace s1 := s1.below hb
    replace s2 := s2.below hb
    replace s4 := s4.below hb
    replace s14 := s14.below hb
    replace hw := hw.trans (hb.mono hw.size)
    clear hb
    go_wp2_with fail
    refine (same_true (some ⟨g12, 0, none⟩) (some ⟨g13, 0, none⟩) m12 d12 m13 d13 _ _ _ s14 s15 (by rw [Nat.mul_comm])).mono ?_
    rintro e w14 ⟨rfl, hb⟩
    clear s14
    clear s15
    replace s0 := s0.below hb
    replace s1 := s1.below hb
    replace s2 := s2.below hb
    replace s4 := s4.below hb
    replace hw := hw.trans (hb.mono hw.size)
    clear hb
    go_wp2_with fail
    refine (mul_at A0 A1 n0 c0 n1 c1 _ _ _ s0 s1 (by omega)).mono ?_
    rintro e w15 ⟨g15, m15, d15, rfl, -, s17, hm15, hb⟩
    replace s0 := s0.below hb
    replace s1 := s1.below hb
    replace s2 := s2.below hb
    replace s4 := s4.below hb
    replace hw := hw.trans (hb.mono hw.size)
    clear hb
    go_wp2_with fail
    refine (mul_at (some ⟨g15, 0, none⟩) A2 m15 d15 n2 c2 _ _ _ s17 s2 (by omega)).mono ?_
    rintro e w16 ⟨g16, m16, d16, rfl, -, s18, hm16, hb⟩
    replace s0 := s0.below hb
    replace s1 := s1.below hb
    replace s2 := s2.below hb
    replace s4 := s4.below hb
    replace s17 := s17.below hb
    replace hw := hw.trans (hb.mono hw.size)
    clear hb
    go_wp2_with fail
    clear s17
    refine (mul_at A1 A2 n1 c1 n2 c2 _ _ _ s1 s2 (by omega)).mono ?_
    rintro e w17 ⟨g17, m17, d17, rfl, -, s19, hm17, hb⟩
    replace s0 := s0.below hb
    replace s1 := s1.below hb
    replace s2 := s2.below hb
    replace s4 := s4.below hb
    replace s18 := s18.below hb
    replace hw := hw.trans (hb.mono hw.size)
    clear hb
    go_wp2_with fail
    refine (mul_at A0 (some ⟨g17, 0, none⟩) n0 c0 m17 d17 _ _ _ s0 s19 (by omega)).mono ?_
    rintro e w18 ⟨g18, m18, d18, rfl, -, s20, hm18, hb⟩
    replace s0 := s0.below hb
    replace s1 := s1.below hb
    replace s2 := s2.below hb
    replace s4 := s4.below hb
    replace s18 := s18.below hb
    replace s19 := s19.below hb
    replace hw := hw.trans (hb.mono hw.size)
    clear hb
    go_wp2_with fail
    clear s19
    refine (same_true (some ⟨g16, 0, none⟩) (some ⟨g18, 0, none⟩) m16 d16 m18 d18 _ _ _ s18 s20 (by rw [val_nrm, val_nrm, Nat.mul_assoc])).mono ?_
    rintro e w19 ⟨rfl, hb⟩
    clear s18
    clear s20
    replace s0 := s0.below hb
    replace s1 := s1.below hb
    replace s2 := s2.below hb
    replace s4 := s4.below hb
    replace hw := hw.trans (hb.mono hw.size)
    clear hb
    go_wp2_with fail
    refine (add_at A1 A2 n1 c1 n2 c2 _ _ _ s1 s2 (by omega) (by omega)).mono ?_
    rintro e w20 ⟨g20, m20, d20, rfl, -, s22, hm20, hb⟩
    replace s0 := s0.below hb
    replace s1 := s1.below hb
    replace s2 := s2.below hb
    replace s4 := s4.below hb
    replace hw := hw.trans (hb.mono hw.size)
    clear hb
    go_wp2_with fail
    refine (mul_at A0 (some ⟨g20, 0, none⟩) n0 c0 m20 d20 _ _ _ s0 s22 (by omega)).mono ?_
    rintro e w21 ⟨g21, m21, d21, rfl, -, s23, hm21, hb⟩
    replace s0 := s0.below hb
    replace s1 := s1.below hb
    replace s2 := s2.below hb
    replace s4 := s4.below hb
    replace s22 := s22.below hb
    replace hw := hw.trans (hb.mono hw.size)
    clear hb
    go_wp2_with fail
    clear s22
    refine (mul_at A0 A1 n0 c0 n1 c1 _ _ _ s0 s1 (by omega)).mono ?_
    rintro e w22 ⟨g22, m22, d22, rfl, -, s24, hm22, hb⟩
    replace s0 := s0.below hb
    replace s1 := s1.below hb
    replace s2 := s2.below hb
    replace s4 := s4.below hb
    replace s23 := s23.below hb
    replace hw := hw.trans (hb.mono hw.size)
    clear hb
    go_wp2_with fail
    refine (mul_at A0 A2 n0 c0 n2 c2 _ _ _ s0 s2 (by omega)).mono ?_
    rintro e w23 ⟨g23, m23, d23, rfl, -, s25, hm23, hb⟩
    replace s0 := s0.below hb
    replace s1 := s1.below hb
    replace s2 := s2.below hb
    replace s4 := s4.below hb
    replace s23 := s23.below hb
    replace s24 := s24.below hb
    replace hw := hw.trans (hb.mono hw.size)
    clear hb
    go_wp2_with fail
    refine (add_at (some ⟨g22, 0, none⟩) (some ⟨g23, 0, none⟩) m22 d22 m23 d23 _ _ _ s24 s25 (by omega) (by omega)).mono ?_
    rintro e w24 ⟨g24, m24, d24, rfl, -, s26, hm24, hb⟩
    replace s0 := s0.below hb
    replace s1 := s1.below hb
    replace s2 := s2.below hb
    replace s4 := s4.below hb
    replace s23 := s23.below hb
    replace s24 := s24.below hb
    replace s25 := s25.below hb
    replace hw := hw.trans (hb.mono hw.size)
    clear hb
    go_wp2_with fail
    clear s24 s25
    refine (same_true (some ⟨g21, 0, none⟩) (some ⟨g24, 0, none⟩) m21 d21 m24 d24 _ _ _ s23 s26 (by rw [val_nrm, val_nrm, val_nrm, Nat.mul_add])).mono ?_
    rintro e w25 ⟨rfl, hb⟩
    clear s23
    clear s26
    replace s0 := s0.below hb
    replace s1 := s1.below hb
    replace s2 := s2.below hb
    replace s4 := s4.below hb
    replace hw := hw.trans (hb.mono hw.size)
    clear hb
    go_wp2_with fail
    refine (norm_at A0 n0 c0 _ _ s0 (by omega)).mono ?_
    rintro e w26 ⟨g26, m26, rfl, -, s28, hm26, hb⟩
    replace s0 := s0.below hb
    replace s1 := s1.below hb
    replace s2 := s2.below hb
    replace s4 := s4.below hb
    replace hw := hw.trans (hb.mono hw.size)
    clear hb
    go_wp2_with fail
    refine (same_true (some ⟨g2, 0, none⟩) (some ⟨g26, 0, none⟩) m2 d2 m26 m26 _ _ _ s4 s28 (by rw [val_nrm, Nat.add_sub_cancel])).mono ?_
    rintro e w27 ⟨rfl, hb⟩
    clear s4
    clear s28
    replace s0 := s0.below hb
    replace s1 := s1.below hb
    replace s2 := s2.below hb
    replace hw := hw.trans (hb.mono hw.size)
    clear hb
    go_wp2_with fail
    go_ret
    exact ⟨rfl, hw⟩
end Go.Proofs.Ytmajmpgcdpbnfaa

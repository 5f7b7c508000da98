/- The law NatAdds, walked: sums, differences, order, bits are the slow answer's. Condition: the lengths are at most 2^20. -/
import Derived.Test.YtmajmpgcdpbnfaaNatOpenU
import Derived.Test.YtmajmpgcdpbnfaaRefBits
import Derived.Test.YtmajmpgcdpbnfaaWalkNatMultiplies
namespace Go.Proofs.Ytmajmpgcdpbnfaa
open Go.RowKit

theorem sub_any (A B : Option Addr) (n c n' c' : Nat) (xs ys : List Nat) (w : World) (h : Sl w A n c xs) (h' : Sl w B n' c' ys) (hn : n ≤ 8796093022208) (er : Int) (her : er = subE (val xs) (val ys)) :
    Calls Try.prog 10 #[.slice A n c, .slice B n' c'] w fun e w' => ∃ C m d, e = .returned (.tuple #[.slice C m d, .int .i64 er]) ∧ Sl w' C m d (subL (val xs) (val ys)) ∧ Below w.heap.size w w' := by
  rcases Nat.lt_or_ge (val xs) (val ys) with hc | hc
  · rw [her, subE_lt hc, subL_lt hc]
    exact (sub_lt A B n c n' c' xs ys w h h' hc).mono fun e w' ⟨h1, h2⟩ => ⟨none, 0, 0, h1, ⟨rfl, Nat.le_refl _, by decide, fun _ => rfl, Rd.nil _ _⟩, h2⟩
  · rw [her, subE_ge hc, subL_ge hc]
    exact (sub_at A B n c n' c' xs ys w h h' hn hc).mono fun e w' ⟨g, m, d, h1, _, h2, _, h3⟩ => ⟨_, m, d, h1, h2, h3⟩

set_option maxHeartbeats 4000000 in
theorem walkNatAdds (A0 : Option Addr) (n0 c0 : Nat) (xs : List Nat) (A1 : Option Addr) (n1 c1 : Nat) (ys : List Nat) (w : World)
    (h0 : Sl w A0 n0 c0 xs) (b0 : n0 ≤ 1048576) (h1 : Sl w A1 n1 c1 ys) (b1 : n1 ≤ 1048576) :
    Calls Try.prog 3 #[.slice A0 n0 c0, .slice A1 n1 c1] w fun e w' => e = .returned (.bool true) ∧ Below w.heap.size w w' := by
  obtain ⟨er, her⟩ : ∃ er, er = subE (val xs) (val ys) := ⟨_, rfl⟩
  obtain ⟨r, hr⟩ : ∃ r, r = cmpN (val xs) (val ys) := ⟨_, rfl⟩
  obtain ⟨k, hk⟩ : ∃ k, k = bitLen (val xs) := ⟨_, rfl⟩
  have HER := Lib.hid her
  have HR := Lib.hid hr
  have HK := Lib.hid hk
  have s0 := h0
  have s1 := h1
  have hw : Below w.heap.size w w := Below.refl _ _
  clear her hr hk h0 h1
  go_enter Try.func3, Try.ntmps3
  go_wp2_with fail
  refine (sub_any A0 A1 n0 c0 n1 c1 xs ys _ s0 s1 (by omega) er HER.out).mono ?_
  rintro e w1 ⟨C1, m1, d1, rfl, sd, hb⟩
  replace s0 := s0.below hb
  replace s1 := s1.below hb
  replace hw := hw.trans (hb.mono hw.size)
  clear hb
  go_wp2_with fail
  refine (refSub_any A0 A1 n0 c0 n1 c1 xs ys _ s0 s1 (by omega) (by omega)).mono ?_
  rintro e w2 ⟨C2, m2, d2, er2, rfl, sx, he2, hb⟩
  rw [← HER.out] at he2
  subst he2
  replace s0 := s0.below hb
  replace s1 := s1.below hb
  replace sd := sd.below hb
  replace hw := hw.trans (hb.mono hw.size)
  clear hb
  go_wp2_with fail
  have hal : Below w2.heap.size w2 (w2.alloc (.cells #[.int .u64 1] 28)) := (Below.refl _ _).alloc (Nat.le_refl _) _
  refine (add_at (some ⟨w2.heap.size, 0, none⟩) none 1 1 0 0 [1] [] _ (lit1 w2 1 (by decide)) ⟨rfl, Nat.le_refl _, by decide, fun _ => rfl, Rd.nil _ _⟩ (by omega) (by omega)).mono ?_
  rintro e w3 ⟨g3, m3, d3, rfl, -, so, -, hb1⟩
  have hb := hal.trans (hb1.mono hal.size)
  clear hal hb1
  replace s0 := s0.below hb
  replace s1 := s1.below hb
  replace sd := sd.below hb
  replace sx := sx.below hb
  replace hw := hw.trans (hb.mono hw.size)
  clear hb
  go_wp2_with fail
  have hal : Below w3.heap.size w3 (w3.alloc (.cells #[.int .u64 1] 28)) := (Below.refl _ _).alloc (Nat.le_refl _) _
  refine (same_true _ _ m3 d3 1 1 _ [1] _ (so.below hal) (lit1 w3 1 (by decide)) (by decide)).mono ?_
  rintro e w4 ⟨rfl, hb1⟩
  have hb := hal.trans (hb1.mono hal.size)
  clear hal hb1
  clear so
  replace s0 := s0.below hb
  replace s1 := s1.below hb
  replace sd := sd.below hb
  replace sx := sx.below hb
  replace hw := hw.trans (hb.mono hw.size)
  clear hb
  go_wp2_with fail
  refine (add_at A0 A1 n0 c0 n1 c1 xs ys _ s0 s1 (by omega) (by omega)).mono ?_
  rintro e w5 ⟨g4, m4, d4, rfl, -, sa, -, hb⟩
  replace s0 := s0.below hb
  replace s1 := s1.below hb
  replace sd := sd.below hb
  replace sx := sx.below hb
  replace hw := hw.trans (hb.mono hw.size)
  clear hb
  go_wp2_with fail
  refine (refAdd_any A0 A1 n0 c0 n1 c1 xs ys _ s0 s1 (by omega) (by omega)).mono ?_
  rintro e w6 ⟨C5, m5, d5, rfl, sb, hb⟩
  replace s0 := s0.below hb
  replace s1 := s1.below hb
  replace sd := sd.below hb
  replace sx := sx.below hb
  replace sa := sa.below hb
  replace hw := hw.trans (hb.mono hw.size)
  clear hb
  go_wp2_with fail
  refine (same_true _ _ m4 d4 m5 d5 _ _ _ sa sb rfl).mono ?_
  rintro e w7 ⟨rfl, hb⟩
  clear sa
  clear sb
  replace s0 := s0.below hb
  replace s1 := s1.below hb
  replace sd := sd.below hb
  replace sx := sx.below hb
  replace hw := hw.trans (hb.mono hw.size)
  clear hb
  go_wp2_with fail
  refine (same_true _ _ m1 d1 m2 d2 _ _ _ sd sx rfl).mono ?_
  rintro e w8 ⟨rfl, hb⟩
  clear sd
  clear sx
  replace s0 := s0.below hb
  replace s1 := s1.below hb
  replace hw := hw.trans (hb.mono hw.size)
  clear hb
  go_wp2_with fail
  have hc := cmp_below A0 A1 n0 c0 n1 c1 xs ys _ s0 s1
  rw [← HR.out] at hc
  refine (hc).mono ?_
  rintro e w9 ⟨rfl, hb⟩
  clear hc
  replace s0 := s0.below hb
  replace s1 := s1.below hb
  replace hw := hw.trans (hb.mono hw.size)
  clear hb
  go_wp2_with fail
  have hc := refCmp_any A0 A1 n0 c0 n1 c1 xs ys _ s0 s1 (by omega) (by omega)
  rw [← HR.out] at hc
  refine (hc).mono ?_
  rintro e w10 ⟨rfl, hb⟩
  clear hc
  replace s0 := s0.below hb
  replace s1 := s1.below hb
  replace hw := hw.trans (hb.mono hw.size)
  clear hb
  go_wp2_with fail
  refine (norm_at A0 n0 c0 xs _ s0 (by omega)).mono ?_
  rintro e w11 ⟨g6, m6, rfl, -, sn, -, hb⟩
  replace s0 := s0.below hb
  replace s1 := s1.below hb
  replace hw := hw.trans (hb.mono hw.size)
  clear hb
  go_wp2_with fail
  refine (refNorm_any A0 n0 c0 xs _ s0 (by omega)).mono ?_
  rintro e w12 ⟨v7, rfl, ho, hb⟩
  obtain ⟨A7, d7, rfl, sm, _⟩ := ho.sl
  generalize hm7 : (nrm (val xs)).length = m7 at sm
  have HM7 := Lib.hid hm7
  clear hm7 ho
  replace s0 := s0.below hb
  replace s1 := s1.below hb
  replace sn := sn.below hb
  replace hw := hw.trans (hb.mono hw.size)
  clear hb
  go_wp2_with fail
  refine (same_true _ _ m6 m6 m7 d7 _ _ _ sn sm rfl).mono ?_
  rintro e w13 ⟨rfl, hb⟩
  clear sn
  clear sm
  replace s0 := s0.below hb
  replace s1 := s1.below hb
  replace hw := hw.trans (hb.mono hw.size)
  clear hb
  go_wp2_with fail
  have hbt := bits_any A0 n0 c0 xs _ s0 (by omega)
  rw [← HK.out] at hbt
  refine hbt.mono ?_
  rintro e w' ⟨rfl, rfl⟩
  clear hbt
  go_wp2_with fail
  have hc := refBits_any A0 n0 c0 xs _ s0 (by omega)
  rw [← HK.out] at hc
  refine (hc).mono ?_
  rintro e w14 ⟨rfl, hb⟩
  clear hc
  replace s0 := s0.below hb
  replace s1 := s1.below hb
  replace hw := hw.trans (hb.mono hw.size)
  clear hb
  go_wp2_with fail
  go_ret
  exact ⟨rfl, hw⟩
end Go.Proofs.Ytmajmpgcdpbnfaa

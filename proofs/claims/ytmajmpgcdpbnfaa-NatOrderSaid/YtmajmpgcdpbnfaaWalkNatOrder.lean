/- The law NatOrder, walked: order and differences, bits, shifts up and down. -/
import Derived.Test.YtmajmpgcdpbnfaaNatOpen
import Derived.Test.YtmajmpgcdpbnfaaNatShr
namespace Go.Proofs.Ytmajmpgcdpbnfaa
open Go.RowKit

theorem and1023 (n : Int) : bits .and .i64 n 1023 = n % 1024 := by
  have h1 : (BitVec.ofInt 64 1023).toNat = 2 ^ 10 - 1 := by decide
  have key : (BitVec.ofInt 64 n &&& BitVec.ofInt 64 1023).toNat = (n % ((2 ^ 64 : Nat) : Int)).toNat % 2 ^ 10 := by
    rw [BitVec.toNat_and, BitVec.toNat_ofInt, h1, Nat.and_two_pow_sub_one_eq_mod]
  show IntKind.i64.wrap ((BitVec.ofInt 64 n &&& BitVec.ofInt 64 1023).toNat : Nat) = n % 1024
  rw [key, IntKind.wrap_i64]
  omega

/-- Sub's error alone. -/
theorem sub_err (A B : Option Addr) (n c n' c' : Nat) (xs ys : List Nat) (w : World) (h : Sl w A n c xs) (h' : Sl w B n' c' ys) (hn : n ≤ 8796093022208) (er : Int) (he : er = if val xs < val ys then 1 else 0) :
    Calls Try.prog 10 #[.slice A n c, .slice B n' c'] w fun e w' => ∃ v, e = .returned (.tuple #[v, .int .i64 er]) ∧ Below w.heap.size w w' := by
  by_cases hc : val xs < val ys
  · rw [he, if_pos hc]
    exact (sub_lt A B n c n' c' xs ys w h h' hc).mono fun e w' ⟨h1, h2⟩ => ⟨_, h1, h2⟩
  · rw [he, if_neg hc]
    exact (sub_ge A B n c n' c' xs ys w h h' hn (by omega)).mono fun e w' ⟨v, h1, _, h2⟩ => ⟨v, h1, h2⟩

theorem bits_lt (v : Nat) : v < 2 ^ bitLen v := (bitLen_spec v).1
theorem bits_ge (v : Nat) (h : bitLen v ≠ 0) : 2 ^ (bitLen v - 1) ≤ v := (bitLen_spec v).2 (by rintro rfl; exact h rfl)
theorem bits_le (xs : List Nat) (n : Nat) (hf : Fit xs) (hn : n = xs.length) : bitLen (val xs) ≤ 64 * n := by
  have h1 := val_lt hf
  rw [← hn, pow64] at h1
  by_cases h0 : bitLen (val xs) = 0
  · omega
  · have h2 := bits_ge (val xs) h0
    have h3 : 2 ^ (bitLen (val xs) - 1) < 2 ^ (64 * n) := Nat.lt_of_le_of_lt h2 h1
    have := (Nat.pow_lt_pow_iff_right (by decide : 1 < 2)).1 h3
    omega

set_option maxHeartbeats 16000000 in
theorem orderCore (A0 : Option Addr) (n0 c0 : Nat) (xs : List Nat) (A1 : Option Addr) (n1 c1 : Nat) (ys : List Nat) (sh : Int) (w : World)
    (h0 : Sl w A0 n0 c0 xs) (h1 : Sl w A1 n1 c1 ys) (hz : n0 + n1 ≤ 400) (cv er : Int) (hcv : cmpN (val xs) (val ys) = cv) (hcv' : cmpN (val ys) (val xs) = -cv) (her : er = if val xs < val ys then 1 else 0)
    (hcase : (cv = -1 ∧ er = 1) ∨ (cv = 0 ∧ er = 0) ∨ (cv = 1 ∧ er = 0)) :
    Calls Try.prog 9 #[.slice A0 n0 c0, .slice A1 n1 c1, .int .i64 sh] w fun e w' => e = .returned (.bool true) ∧ Below w.heap.size w w' := by
  have hone : ∀ W : World, Sl (W.alloc (.cells #[.int .u64 1] 28)) (some ⟨W.heap.size, 0, none⟩) 1 1 [1] := fun W => (blk_one W 1 (by decide)).sl (by decide)
  have hnil : ∀ W : World, Sl W none 0 0 [] := fun W => ⟨rfl, Nat.le_refl _, by decide, fun _ => rfl, Rd.nil _ _⟩
  have hcmp : cmpN (val []) (val [1]) = -1 := by decide
  have HONE := Lib.hid hone
  have HNIL := Lib.hid hnil
  have HCMP := Lib.hid hcmp
  have hb1 := bits_lt (val xs)
  have hb2 := bits_ge (val xs)
  have hb3 := bits_le xs n0 h0.fit h0.len
  obtain ⟨k, hk⟩ : ∃ k, k = bitLen (val xs) := ⟨_, rfl⟩
  rw [← hk] at hb1 hb2 hb3
  have hand := and1023 sh
  obtain ⟨t, ht⟩ : ∃ t : Nat, (t : Int) = sh % 1024 := ⟨(sh % 1024).toNat, by omega⟩
  have ht2 : t ≤ 1023 := by omega
  rw [← ht] at hand
  obtain ⟨k1, hk1⟩ : ∃ k1 : Nat, k1 = k - 1 := ⟨_, rfl⟩
  have hmax : max ((k : Int) - 1) 0 = (k1 : Int) := by omega
  have hk1b : k1 ≤ 25600 := by omega
  have hkb : k ≤ 25600 := by omega
  have hmt : max (t : Int) 0 = (t : Int) := by omega
  have hv1 : val [1] = 1 := rfl
  have hhigh : cmpN (val xs) (val (nrm (val [1] * 2 ^ k))) = -1 := by
    rw [val_nrm, hv1, Nat.one_mul]; unfold cmpN; rw [if_pos hb1]
  have hlow : ¬ k = 0 → 0 ≤ cmpN (val xs) (val (nrm (val [1] * 2 ^ k1))) := by
    intro hk0
    have := hb2 hk0
    rw [val_nrm, hv1, Nat.one_mul, hk1]; unfold cmpN; rw [if_neg (by omega)]; split <;> omega
  have HK := Lib.hid hk
  have HLOW := Lib.hid hlow
  have HHIGH := Lib.hid hhigh
  have HCV := Lib.hid hcv
  have HCV' := Lib.hid hcv'
  have HER := Lib.hid her
  clear hone hnil hcmp hb1 hb2 hb3 hk ht hk1 hv1 hhigh hlow hcv hcv' her
  have hz0 : n0 ≤ 400 := by omega
  have hz1 : n1 ≤ 400 := by omega
  have hw0 : Below w.heap.size w w := Below.refl _ _
  by_cases hk0 : k = 0
  · have hk0' : ((k : Int) == 0) = true := by simp; omega
    clear hk0 HLOW
    rcases hcase with ⟨hc, he⟩ | ⟨hc, he⟩ | ⟨hc, he⟩
    all_goals
      subst hc
      subst he
      have s0 := h0
      have s1 := h1
      have hw := hw0
      clear h0 h1 hw0
      go_enter Try.func9, Try.ntmps9
      go_wp2_with fail
      have hc := cmp_below A0 A1 n0 c0 n1 c1 xs ys _ s0 s1
      rw [HCV.out] at hc
      with_reducible refine hc.mono ?_
      rintro e w1 ⟨rfl, hb⟩
      clear hc
      replace s0 := s0.below hb
      replace s1 := s1.below hb
      replace hw := hw.trans (hb.mono hw.size)
      clear hb
      go_wp2_with fail
      with_reducible refine (sub_err A0 A1 n0 c0 n1 c1 xs ys _ s0 s1 (by omega) _ HER.out).mono ?_
      rintro e w2 ⟨v, rfl, hb⟩
      replace s0 := s0.below hb
      replace s1 := s1.below hb
      replace hw := hw.trans (hb.mono hw.size)
      clear hb
      go_wp2_with fail
      have hbt := bits_any A0 n0 c0 xs _ s0 (by omega)
      rw [← HK.out] at hbt
      with_reducible refine hbt.mono ?_
      rintro e w' ⟨rfl, rfl⟩
      clear hbt
      go_wp2_with fail
      have hal : Below w2.heap.size w2 (w2.alloc (.cells #[.int .u64 1] 28)) := (Below.refl _ _).alloc (Nat.le_refl _) _
      with_reducible refine (shl_at (some ⟨w2.heap.size, 0, none⟩) 1 1 [1] k1 _ (HONE.out w2) (by omega) (by omega)).mono ?_
      rintro e w3 ⟨gl, ml, dl, rfl, -, slow, hml, hb1⟩
      have hb := hal.trans (hb1.mono hal.size)
      clear hal hb1
      replace s0 := s0.below hb
      replace s1 := s1.below hb
      replace hw := hw.trans (hb.mono hw.size)
      clear hb
      go_wp2_with fail
      have hal : Below w3.heap.size w3 (w3.alloc (.cells #[.int .u64 1] 28)) := (Below.refl _ _).alloc (Nat.le_refl _) _
      with_reducible refine (shl_at (some ⟨w3.heap.size, 0, none⟩) 1 1 [1] k _ (HONE.out w3) (by omega) (by omega)).mono ?_
      rintro e w4 ⟨gh, mh, dh, rfl, -, shigh, hmh, hb1⟩
      have hb := hal.trans (hb1.mono hal.size)
      clear hal hb1
      replace s0 := s0.below hb
      replace s1 := s1.below hb
      replace slow := slow.below hb
      replace hw := hw.trans (hb.mono hw.size)
      clear hb
      go_wp2_with fail
      with_reducible refine (shl_at A0 n0 c0 xs t _ s0 (by omega) (by omega)).mono ?_
      rintro e w5 ⟨gu, mu, du, rfl, -, sup, hmu, hb⟩
      replace s0 := s0.below hb
      replace s1 := s1.below hb
      replace slow := slow.below hb
      replace shigh := shigh.below hb
      replace hw := hw.trans (hb.mono hw.size)
      clear hb
      go_wp2_with fail
      have hc := cmp_below A1 A0 n1 c1 n0 c0 ys xs _ s1 s0
      rw [HCV'.out] at hc
      with_reducible refine hc.mono ?_
      rintro e w6 ⟨rfl, hb⟩
      clear hc
      replace s0 := s0.below hb
      replace s1 := s1.below hb
      replace slow := slow.below hb
      replace shigh := shigh.below hb
      replace sup := sup.below hb
      replace hw := hw.trans (hb.mono hw.size)
      clear hb
      go_wp2_with fail
      have hc := cmp_below A0 (some ⟨gh, 0, none⟩) n0 c0 mh dh xs _ _ s0 shigh
      rw [HHIGH.out] at hc
      with_reducible refine hc.mono ?_
      rintro e w7 ⟨rfl, hb⟩
      clear hc
      replace s0 := s0.below hb
      replace s1 := s1.below hb
      replace slow := slow.below hb
      replace shigh := shigh.below hb
      replace sup := sup.below hb
      replace hw := hw.trans (hb.mono hw.size)
      clear hb
      go_wp2_with fail
      clear shigh
      with_reducible refine (shr_at (some ⟨gu, 0, none⟩) mu du _ _ t _ sup (by omega) hmt (by omega)).mono ?_
      rintro e w8 ⟨Ar, mr, dr, rfl, sr, hmr, hb⟩
      clear sup
      replace s0 := s0.below hb
      replace s1 := s1.below hb
      replace slow := slow.below hb
      replace hw := hw.trans (hb.mono hw.size)
      clear hb
      go_wp2_with fail
      with_reducible refine (norm_at A0 n0 c0 xs _ s0 (by omega)).mono ?_
      rintro e w9 ⟨gn, mn, rfl, -, sn, hmn, hb⟩
      replace s0 := s0.below hb
      replace s1 := s1.below hb
      replace slow := slow.below hb
      replace sr := sr.below hb
      replace hw := hw.trans (hb.mono hw.size)
      clear hb
      go_wp2_with fail
      with_reducible refine (same_true _ _ mr dr mn mn _ _ _ sr sn (by rw [val_nrm, Nat.mul_div_cancel _ (Nat.pow_pos (by decide))])).mono ?_
      rintro e w10 ⟨rfl, hb⟩
      clear sr sn
      replace s0 := s0.below hb
      replace s1 := s1.below hb
      replace slow := slow.below hb
      replace hw := hw.trans (hb.mono hw.size)
      clear hb
      go_wp2_with fail
      have hal : Below w10.heap.size w10 (w10.alloc (.cells #[.int .u64 1] 28)) := (Below.refl _ _).alloc (Nat.le_refl _) _
      have hc := cmp_below none (some ⟨w10.heap.size, 0, none⟩) 0 0 1 1 [] [1] _ (HNIL.out _) (HONE.out w10)
      rw [HCMP.out] at hc
      with_reducible refine hc.mono ?_
      rintro e w11 ⟨rfl, hb1⟩
      clear hc
      have hb := hal.trans (hb1.mono hal.size)
      clear hal hb1
      replace s0 := s0.below hb
      replace s1 := s1.below hb
      replace slow := slow.below hb
      replace hw := hw.trans (hb.mono hw.size)
      clear hb
      go_wp2_with fail
      go_ret
      exact ⟨rfl, hw⟩
  · have hk0' : ((k : Int) == 0) = false := by simp; omega
    have HL0 := Lib.hid (HLOW.out hk0)
    clear hk0 HLOW
    rcases hcase with ⟨hc, he⟩ | ⟨hc, he⟩ | ⟨hc, he⟩
    all_goals
      subst hc
      subst he
      have s0 := h0
      have s1 := h1
      have hw := hw0
      clear h0 h1 hw0
      go_enter Try.func9, Try.ntmps9
      go_wp2_with fail
      have hc := cmp_below A0 A1 n0 c0 n1 c1 xs ys _ s0 s1
      rw [HCV.out] at hc
      with_reducible refine hc.mono ?_
      rintro e w1 ⟨rfl, hb⟩
      clear hc
      replace s0 := s0.below hb
      replace s1 := s1.below hb
      replace hw := hw.trans (hb.mono hw.size)
      clear hb
      go_wp2_with fail
      with_reducible refine (sub_err A0 A1 n0 c0 n1 c1 xs ys _ s0 s1 (by omega) _ HER.out).mono ?_
      rintro e w2 ⟨v, rfl, hb⟩
      replace s0 := s0.below hb
      replace s1 := s1.below hb
      replace hw := hw.trans (hb.mono hw.size)
      clear hb
      go_wp2_with fail
      have hbt := bits_any A0 n0 c0 xs _ s0 (by omega)
      rw [← HK.out] at hbt
      with_reducible refine hbt.mono ?_
      rintro e w' ⟨rfl, rfl⟩
      clear hbt
      go_wp2_with fail
      have hal : Below w2.heap.size w2 (w2.alloc (.cells #[.int .u64 1] 28)) := (Below.refl _ _).alloc (Nat.le_refl _) _
      with_reducible refine (shl_at (some ⟨w2.heap.size, 0, none⟩) 1 1 [1] k1 _ (HONE.out w2) (by omega) (by omega)).mono ?_
      rintro e w3 ⟨gl, ml, dl, rfl, -, slow, hml, hb1⟩
      have hb := hal.trans (hb1.mono hal.size)
      clear hal hb1
      replace s0 := s0.below hb
      replace s1 := s1.below hb
      replace hw := hw.trans (hb.mono hw.size)
      clear hb
      go_wp2_with fail
      have hal : Below w3.heap.size w3 (w3.alloc (.cells #[.int .u64 1] 28)) := (Below.refl _ _).alloc (Nat.le_refl _) _
      with_reducible refine (shl_at (some ⟨w3.heap.size, 0, none⟩) 1 1 [1] k _ (HONE.out w3) (by omega) (by omega)).mono ?_
      rintro e w4 ⟨gh, mh, dh, rfl, -, shigh, hmh, hb1⟩
      have hb := hal.trans (hb1.mono hal.size)
      clear hal hb1
      replace s0 := s0.below hb
      replace s1 := s1.below hb
      replace slow := slow.below hb
      replace hw := hw.trans (hb.mono hw.size)
      clear hb
      go_wp2_with fail
      with_reducible refine (shl_at A0 n0 c0 xs t _ s0 (by omega) (by omega)).mono ?_
      rintro e w5 ⟨gu, mu, du, rfl, -, sup, hmu, hb⟩
      replace s0 := s0.below hb
      replace s1 := s1.below hb
      replace slow := slow.below hb
      replace shigh := shigh.below hb
      replace hw := hw.trans (hb.mono hw.size)
      clear hb
      go_wp2_with fail
      have hc := cmp_below A1 A0 n1 c1 n0 c0 ys xs _ s1 s0
      rw [HCV'.out] at hc
      with_reducible refine hc.mono ?_
      rintro e w6 ⟨rfl, hb⟩
      clear hc
      replace s0 := s0.below hb
      replace s1 := s1.below hb
      replace slow := slow.below hb
      replace shigh := shigh.below hb
      replace sup := sup.below hb
      replace hw := hw.trans (hb.mono hw.size)
      clear hb
      go_wp2_with fail
      have hc := cmp_below A0 (some ⟨gh, 0, none⟩) n0 c0 mh dh xs _ _ s0 shigh
      rw [HHIGH.out] at hc
      with_reducible refine hc.mono ?_
      rintro e w7 ⟨rfl, hb⟩
      clear hc
      replace s0 := s0.below hb
      replace s1 := s1.below hb
      replace slow := slow.below hb
      replace shigh := shigh.below hb
      replace sup := sup.below hb
      replace hw := hw.trans (hb.mono hw.size)
      clear hb
      go_wp2_with fail
      clear shigh
      have hl := HL0.out
      have hc := cmp_below A0 (some ⟨gl, 0, none⟩) n0 c0 ml dl xs _ _ s0 slow
      generalize cmpN (val xs) (val (nrm (val [1] * 2 ^ k1))) = lv at *
      with_reducible refine hc.mono ?_
      rintro e w8 ⟨rfl, hb⟩
      clear hc
      replace s0 := s0.below hb
      replace s1 := s1.below hb
      replace slow := slow.below hb
      replace sup := sup.below hb
      replace hw := hw.trans (hb.mono hw.size)
      clear hb
      go_wp2_with fail
      with_reducible refine (shr_at (some ⟨gu, 0, none⟩) mu du _ _ t _ sup (by omega) hmt (by omega)).mono ?_
      rintro e w9 ⟨Ar, mr, dr, rfl, sr, hmr, hb⟩
      clear sup
      replace s0 := s0.below hb
      replace s1 := s1.below hb
      replace slow := slow.below hb
      replace hw := hw.trans (hb.mono hw.size)
      clear hb
      go_wp2_with fail
      with_reducible refine (norm_at A0 n0 c0 xs _ s0 (by omega)).mono ?_
      rintro e w10 ⟨gn, mn, rfl, -, sn, hmn, hb⟩
      replace s0 := s0.below hb
      replace s1 := s1.below hb
      replace slow := slow.below hb
      replace sr := sr.below hb
      replace hw := hw.trans (hb.mono hw.size)
      clear hb
      go_wp2_with fail
      with_reducible refine (same_true _ _ mr dr mn mn _ _ _ sr sn (by rw [val_nrm, Nat.mul_div_cancel _ (Nat.pow_pos (by decide))])).mono ?_
      rintro e w11 ⟨rfl, hb⟩
      clear sr sn
      replace s0 := s0.below hb
      replace s1 := s1.below hb
      replace slow := slow.below hb
      replace hw := hw.trans (hb.mono hw.size)
      clear hb
      go_wp2_with fail
      have hal : Below w11.heap.size w11 (w11.alloc (.cells #[.int .u64 1] 28)) := (Below.refl _ _).alloc (Nat.le_refl _) _
      have hc := cmp_below none (some ⟨w11.heap.size, 0, none⟩) 0 0 1 1 [] [1] _ (HNIL.out _) (HONE.out w11)
      rw [HCMP.out] at hc
      with_reducible refine hc.mono ?_
      rintro e w12 ⟨rfl, hb1⟩
      clear hc
      have hb := hal.trans (hb1.mono hal.size)
      clear hal hb1
      replace s0 := s0.below hb
      replace s1 := s1.below hb
      replace slow := slow.below hb
      replace hw := hw.trans (hb.mono hw.size)
      clear hb
      go_wp2_with fail
      go_ret
      exact ⟨rfl, hw⟩

set_option maxHeartbeats 1000000 in
theorem walkNatOrder (A0 : Option Addr) (n0 c0 : Nat) (xs : List Nat) (A1 : Option Addr) (n1 c1 : Nat) (ys : List Nat) (sh : Int) (w : World)
    (h0 : Sl w A0 n0 c0 xs) (b0 : n0 ≤ 17592186044416) (h1 : Sl w A1 n1 c1 ys) (b1 : n1 ≤ 17592186044416) (_wf : (Lit.int .i64 sh).wf = true) :
    Calls Try.prog 9 #[.slice A0 n0 c0, .slice A1 n1 c1, .int .i64 sh] w fun e w' => e = .returned (.bool true) ∧ Below w.heap.size w w' := by
  by_cases hbig : 400 < n0 + n1
  · have hone : ∀ W : World, Sl (W.alloc (.cells #[.int .u64 1] 28)) (some ⟨W.heap.size, 0, none⟩) 1 1 [1] := fun W => (blk_one W 1 (by decide)).sl (by decide)
    have hnil : ∀ W : World, Sl W none 0 0 [] := fun W => ⟨rfl, Nat.le_refl _, by decide, fun _ => rfl, Rd.nil _ _⟩
    have hcmp : cmpN (val []) (val [1]) = -1 := by decide
    have HONE := Lib.hid hone
    have HNIL := Lib.hid hnil
    have HCMP := Lib.hid hcmp
    clear hone hnil hcmp h0 h1 _wf
    go_enter Try.func9, Try.ntmps9
    go_wp2_with fail
    have hc := cmp_below none (some ⟨w.heap.size, 0, none⟩) 0 0 1 1 [] [1] _ (HNIL.out _) (HONE.out w)
    rw [HCMP.out] at hc
    refine hc.mono ?_
    rintro e w1 ⟨rfl, hb⟩
    clear hc
    go_wp2_with fail
    go_ret
    exact ⟨rfl, (Below.refl _ _).alloc (Nat.le_refl _) _ |>.trans (hb.mono (by simp))⟩
  · rcases Nat.lt_trichotomy (val xs) (val ys) with h | h | h
    · exact orderCore A0 n0 c0 xs A1 n1 c1 ys sh w h0 h1 (by omega) (-1) 1 (by unfold cmpN; rw [if_pos h]) (by unfold cmpN; rw [if_neg (by omega), if_pos h]; rfl) (by rw [if_pos h]) (.inl ⟨rfl, rfl⟩)
    · exact orderCore A0 n0 c0 xs A1 n1 c1 ys sh w h0 h1 (by omega) 0 0 (by unfold cmpN; rw [if_neg (by omega), if_neg (by omega)]) (by unfold cmpN; rw [if_neg (by omega), if_neg (by omega)]; rfl) (by rw [if_neg (by omega)]) (.inr (.inl ⟨rfl, rfl⟩))
    · exact orderCore A0 n0 c0 xs A1 n1 c1 ys sh w h0 h1 (by omega) 1 0 (by unfold cmpN; rw [if_neg (by omega), if_pos h]) (by unfold cmpN; rw [if_pos h]) (by rw [if_neg (by omega)]) (.inr (.inr ⟨rfl, rfl⟩))
end Go.Proofs.Ytmajmpgcdpbnfaa

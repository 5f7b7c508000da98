/- nat.halvesProduct, by its contract: given that smaller products are as they should be. -/
import Derived.Test.YtmajmpgcdpbnfaaNatAt
namespace Go.Proofs.Ytmajmpgcdpbnfaa
open Go.RowKit

theorem mul_all (xs ys : List Nat) (hx : Fit xs) (hy : Fit ys) (n n' : Nat) (hn : xs.length = n) (hn' : ys.length = n') : val xs * val ys < 18446744073709551616 ^ (n + n') := by
  have := row_all xs ys n n' (n + n') hx hy hn (Nat.le_refl _)
  rwa [List.take_of_length_le (by omega)] at this

theorem below_step {w2 W W' : World} (h : Below w2.heap.size w2 W) (k : Below W.heap.size W W') : Below w2.heap.size w2 W' := h.trans (k.mono h.size)

set_option maxHeartbeats 2000000 in
theorem halves_any (N : Nat) (hN : ProdOK N) (A B : Option Addr) (n c n' c' half : Nat) (xs ys : List Nat) (w : World) (h : Sl w A n c xs) (h' : Sl w B n' c' ys) (hn : n ≤ 4398046511104) (hn' : n' ≤ n)
    (h0 : 3 < half) (h1 : half < n') (h2 : n ≤ 2 * half) (h3 : 2 * half ≤ n + 1) (hNN : n + n' ≤ N) :
    Calls Try.prog 55 #[.slice A n c, .slice B n' c', .int .i64 (half : Int)] w fun e w' =>
      ∃ g, e = .returned (.slice (some ⟨g, 0, none⟩) (n + n') (n + n')) ∧ w.heap.size ≤ g ∧ Blk w' g (dig (n + n') (val xs * val ys)) ∧ Below w.heap.size w w' := by
  obtain ⟨b, o, rfl, _, _⟩ := h.at_ (by omega)
  obtain ⟨b', o', rfl, _, _⟩ := h'.at_ (by omega)
  have hX1 := h.cutL half (by omega)
  have hX2 := h.cutR half (by omega)
  have hY1 := h'.cutL half (by omega)
  have hY2 := h'.cutR half (by omega)
  have hle := h.le
  have hle' := h'.le
  have hmx := h.max
  have hmx' := h'.max
  have htot := mul_all xs ys h.fit h'.fit n n' h.len.symm h'.len.symm
  have hvx := val_halves xs half (by rw [← h.len]; omega)
  have hvy := val_halves ys half (by rw [← h'.len]; omega)
  rw [hvx, hvy] at htot ⊢
  generalize xs.take half = x1 at *
  generalize xs.drop half = x2 at *
  generalize ys.take half = y1 at *
  generalize ys.drop half = y2 at *
  have hP1 := mul_all x1 y1 hX1.fit hY1.fit half half hX1.len.symm hY1.len.symm
  have hP2 := mul_all x2 y2 hX2.fit hY2.fit (n - half) (n' - half) hX2.len.symm hY2.len.symm
  have eT : (val x1 + 18446744073709551616 ^ half * val x2) * (val y1 + 18446744073709551616 ^ half * val y2) = val x1 * val y1 + 18446744073709551616 ^ (2 * half) * (val x2 * val y2) + 18446744073709551616 ^ half * (val x1 * val y2 + val x2 * val y1) := by
    rw [Nat.two_mul, Nat.pow_add]; grind
  rw [eT] at htot ⊢
  obtain ⟨P1, hP1e⟩ : ∃ P1, P1 = val x1 * val y1 := ⟨_, rfl⟩
  obtain ⟨P2, hP2e⟩ : ∃ P2, P2 = val x2 * val y2 := ⟨_, rfl⟩
  obtain ⟨X, hXe⟩ : ∃ X, X = val x1 * val y2 + val x2 * val y1 := ⟨_, rfl⟩
  obtain ⟨K, hK⟩ : ∃ K, K = n + n' := ⟨_, rfl⟩
  have eV : (val x1 + val x2) * (val y1 + val y2) = P1 + P2 + X := by rw [hP1e, hP2e, hXe]; grind
  rw [← hP1e] at hP1
  rw [← hP2e] at hP2
  rw [← hP1e, ← hP2e, ← hXe, ← hK] at htot ⊢
  have k1 : n + n' ≤ K := by omega
  have k2 : K ≤ n + n' := by omega
  have E1 := Lib.hid hP1e
  have E2 := Lib.hid hP2e
  have EV := Lib.hid eV
  have HKK := Lib.hid hK
  have H1 := Lib.hid hX1
  have H2 := Lib.hid hX2
  have H3 := Lib.hid hY1
  have H4 := Lib.hid hY2
  have HT := Lib.hid htot
  have HP1 := Lib.hid hP1
  have HP2 := Lib.hid hP2
  have HN := Lib.hid hN
  have i1 : (0 : Int) ≤ (half : Int) := by omega
  have i2 : (half : Int) ≤ (n : Int) := by omega
  have i3 : (half : Int) ≤ (n' : Int) := by omega
  have i4 : (half : Int) ≤ (c : Int) := by omega
  have i5 : (half : Int) ≤ (c' : Int) := by omega
  have i6 : (n : Int) ≤ (c : Int) := by omega
  have i7 : (n' : Int) ≤ (c' : Int) := by omega
  have i8 : ¬ c = half := by omega
  have i9 : ¬ c' = half := by omega
  clear h h' hX1 hX2 hY1 hY2 hvx hvy htot hP1 hP2 eT hN eV hP1e hP2e hXe hK
  go_enter Try.func55, Try.ntmps55
  go_wp2_with fail
  go_region_held3 (fun _ => True) (trivial) (first
    | (go_at_call 41; refine (ProdOK.at_ HN.out (some ⟨b, o, none⟩) (some ⟨b', o', none⟩) half c half c' x1 y1 w.drew (by omega) H1.out.drew H3.out.drew).mono ?_; rintro e w1 ⟨g1, rfl, hg1, hb1, hbel1⟩))
  have hbel1' : Below w.heap.size w w1 := (Below.refl _ _).drew.trans hbel1
  go_wp2_with fail
  go_region_held3 (fun _ => True) (trivial) (first
    | (go_at_call 41; refine (ProdOK.at_ HN.out (some ⟨b, o + half, none⟩) (some ⟨b', o' + half, none⟩) (n - half) (c - half) (n' - half) (c' - half) x2 y2 w1.drew (by omega) (H2.out.below hbel1').drew (H4.out.below hbel1').drew).mono ?_; rintro e w2 ⟨g2, rfl, hg2, hb2, hbel2⟩))
  have hbel2' : Below w.heap.size w w2 := hbel1'.trans ((Below.refl _ _).drew.trans (hbel2.mono (B' := w.heap.size) hbel1'.size))
  have hb1' : Blk w2 g1 _ := hb1.drew.below hbel2
  have hg2' : w1.heap.size ≤ g2 := hg2
  clear hbel1 hbel2 hb1
  go_wp2_with fail
  have S1 := Lib.hid (fun W (hb : Below w2.heap.size w2 W) => (H1.out.below hbel2').below hb)
  have S2 := Lib.hid (fun W (hb : Below w2.heap.size w2 W) => (H2.out.below hbel2').below hb)
  have S3 := Lib.hid (fun W (hb : Below w2.heap.size w2 W) => (H3.out.below hbel2').below hb)
  have S4 := Lib.hid (fun W (hb : Below w2.heap.size w2 W) => (H4.out.below hbel2').below hb)
  go_region_held3 (fun W => Below w2.heap.size w2 W)
    (first
      | exact (Below.refl _ _).drew
      | (refine below_step ?_ hbc; assumption)
      | (refine below_step ?_ hba; assumption)
      | (refine below_step ?_ hbb; assumption))
    (first
      | (go_at_call 13; (with_reducible refine (add_at (some ⟨b, o, none⟩) (some ⟨b, o + half, none⟩) half c (n - half) (c - half) x1 x2 _ (S1.out _ (by assumption)) (S2.out _ (by assumption)) (by omega) (by omega)).mono ?_); rintro e wa ⟨ga, ma, da, rfl, hga, hsa, hma, hba⟩)
      | (go_at_call 13; (with_reducible refine (add_at (some ⟨b', o', none⟩) (some ⟨b', o' + half, none⟩) half c' (n' - half) (c' - half) y1 y2 _ (S3.out _ (by assumption)) (S4.out _ (by assumption)) (by omega) (by omega)).mono ?_); rintro e wb ⟨gb, mb, db, rfl, hgb, hsb, hmb, hbb⟩)
      | (go_at_call 41; (with_reducible refine (ProdOK.at_ HN.out (some ⟨ga, 0, none⟩) (some ⟨gb, 0, none⟩) ma da mb db _ _ wb (by omega) (hsa.below hbb) hsb).mono ?_); rintro e wc ⟨gc, rfl, hgc, hbkc, hbc⟩)
      | (go_at_call 41; (with_reducible refine (ProdOK.at_ HN.out (some ⟨ga, 0, none⟩) (some ⟨gb, 0, none⟩) ma da mb db _ _ wa (by omega) hsa (hsb.below hba)).mono ?_); rintro e wc ⟨gc, rfl, hgc, hbkc, hbc⟩))
  have h2a : Below w2.heap.size w2 wa := below_step ((Below.refl _ _).drew) hba
  have h2b : Below w2.heap.size w2 wb := below_step h2a hbb
  have h2c : Below w2.heap.size w2 wc := below_step h2b hbc
  have hgc' : w2.heap.size ≤ gc := Nat.le_trans h2b.size hgc
  have hbel0 : Below w.heap.size w wc := hbel2'.trans (h2c.mono hbel2'.size)
  have hV := mul_all _ _ hsa.fit hsb.fit ma mb hsa.len.symm hsb.len.symm
  rw [val_nrm, val_nrm] at hbkc hV
  rw [EV.out] at hbkc hV
  have l1 := hb1'.below h2c
  have l2 := hb2.below h2c
  have hg1c : g1 ≠ gc := by have := hb1'.lt; omega
  have hg2c : g2 ≠ gc := by have := hb2.lt; omega
  rw [← E1.out] at l1
  rw [← E2.out] at l2
  obtain ⟨m1, hm1⟩ : ∃ m1, m1 = (nrm P1).length := ⟨_, rfl⟩
  obtain ⟨m2, hm2⟩ : ∃ m2, m2 = (nrm P2).length := ⟨_, rfl⟩
  obtain ⟨m3, hm3⟩ : ∃ m3, m3 = (nrm X).length := ⟨_, rfl⟩
  have q1 : m1 ≤ ma + mb := by rw [hm1]; exact nrm_len_le (by omega)
  have q2 : m2 ≤ ma + mb := by rw [hm2]; exact nrm_len_le (by omega)
  have q3 : m3 ≤ K - half := by
    rw [hm3]
    refine nrm_len_le ?_
    have h5 : 18446744073709551616 ^ half * X < 18446744073709551616 ^ K := by have := HT.out; omega
    rw [show K = half + (K - half) by omega, Nat.pow_add] at h5
    exact Nat.lt_of_mul_lt_mul_left h5
  have hKX := part_lt (V := P1 + 18446744073709551616 ^ (2 * half) * P2) (P := X) (o := half) (n := K - half) (K := K) (by omega) HT.out
  have r1 : ma + mb ≤ 8796093022208 := by omega
  have L1 := Lib.hid l1
  have L2 := Lib.hid l2
  have HC := Lib.hid hbkc
  have HV := Lib.hid hV
  have HKX := Lib.hid hKX
  have HM1 := Lib.hid hm1
  have HM2 := Lib.hid hm2
  have HM3 := Lib.hid hm3
  have HG1 := Lib.hid hg1c
  have HG2 := Lib.hid hg2c
  have T1 := Lib.hid (trim_any (some ⟨g1, 0, none⟩) (half + half) (half + half) _ wc (l1.sl' (by omega)))
  rw [val_dig_of_lt HP1.out, ← hm1] at T1
  have U1 := Lib.hid ((l1.sl' (by omega)).plain)
  rw [val_dig_of_lt HP1.out, ← hm1] at U1
  clear hm1 hm2 hm3 hbkc hV hKX l1 l2 hba hbb hbc hsa hsb hb2 hb1' hma hmb S1 S2 S3 S4 H1 H2 H3 H4 HN hg1c hg2c
  go_wp2_with (first
    | (go_at_call 30; (with_reducible refine T1.out.mono ?_); rintro e w' ⟨rfl, rfl⟩)
    | (go_at_call 29; (with_reducible refine (takeTimes_val1 gc (ma + mb) (ma + mb) (ma + mb) _ (some ⟨g1, 0, none⟩) m1 (half + half) (nrm P1) wc HC.out rfl (by omega) U1.out q1 (apart_of_ne HG1.out) HV.out (by rw [val_nrm]; omega)).mono ?_); rintro e wd ⟨rfl, hd1, hd2⟩))
  have d1 := (L1.out.grown hd2 HG1.out)
  have d2 := (L2.out.grown hd2 HG2.out)
  rw [val_nrm] at hd1
  have hszd : wc.heap.size ≤ wd.heap.size := hd2.size
  have hbd : Below w.heap.size w wd := hbel0.trans (below_of_grown hd2 hbel0.size (by have := hbel2'.size; omega))
  have D1 := Lib.hid d1
  have D2 := Lib.hid d2
  have HD := Lib.hid hd1
  have T2 := Lib.hid (trim_any (some ⟨g2, 0, none⟩) (n - half + (n' - half)) (n - half + (n' - half)) _ wd (d2.sl' (by omega)))
  rw [val_dig_of_lt HP2.out, ← HM2.out] at T2
  have U2 := Lib.hid ((d2.sl' (by omega)).plain)
  rw [val_dig_of_lt HP2.out, ← HM2.out] at U2
  clear d1 d2 hd1 hd2 T1 U1 L1 L2 HC
  go_wp2_with (first
    | (go_at_call 30; (with_reducible refine T2.out.mono ?_); rintro e w' ⟨rfl, rfl⟩)
    | (go_at_call 29; (with_reducible refine (takeTimes_val1 gc (ma + mb) (ma + mb) (ma + mb) _ (some ⟨g2, 0, none⟩) m2 (n - half + (n' - half)) (nrm P2) wd HD.out rfl (by omega) U2.out q2 (apart_of_ne HG2.out) (by have := HV.out; omega) (by rw [val_nrm]; omega)).mono ?_); rintro e we ⟨rfl, he1, he2⟩)
    | (at_make; refine wpList_make_val _ rfl _ _ rfl _ _ _ _ K rfl rfl (by rw [HKK.out]; omega) (by rw [HKK.out]; omega) (by omega) ?_; intro wf hf1 hf2)
    | ((with_reducible refine wpList_copy_val _ rfl (.tmp 54) (.tmp 55) rfl _ 0 K K (some ⟨g1, 0, none⟩) (half + half) (half + half) rfl rfl K 0 _ hf1 (((D1.out.grown he2 HG1.out).below hf2).sl' (by omega)) (by omega) (by omega) (by decide) ?_); intro wg hg1' hg2'; rw [val_dig_of_lt HP1.out, Nat.pow_zero, Nat.one_mul, Nat.zero_add] at hg1'; have HGZ := Lib.hid hg1'; clear hg1')
    | ((with_reducible show wpList _ _ _ (⟨some 62, _, _, _, _, _⟩ :: _) _ _); (refine wpList_copy_val (o := ⟨some 62, _, _, _, _, _⟩) wg ?ga (.tmp 60) (.tmp 61) ?gb we.heap.size (2 * half) (K - 2 * half) (K - 2 * half) (some ⟨g2, 0, none⟩) (n - half + (n' - half)) (n - half + (n' - half)) ?gc ?gd K P1 _ HGZ.out ((((D2.out.grown he2 HG2.out).below hf2).grown hg2' (by have := D2.out.lt; have := he2.size; omega)).sl' (by omega)) (by omega) (by omega) (by have := HP1.out; rw [Nat.two_mul]; exact this) ?_); (case ga => rfl); (case gb => rfl); (case gc => rfl); (case gd => rfl); intro wh hh1 hh2))
  rw [val_dig_of_lt HP2.out] at hh1
  have hze : we.heap.size < wf.heap.size := hf1.lt
  have hgcz : gc < we.heap.size := by have := he1.lt; omega
  have hx3 := ((he1.below hf2).grown hg2' (by omega)).grown hh2 (by omega)
  have hbh : Below w.heap.size w wh := by
    have b1 := hbd.trans (below_of_grown he2 hbd.size (by have := hbel2'.size; omega))
    have b2 := b1.trans (hf2.mono b1.size)
    have b3 := b2.trans (below_of_grown hg2' b2.size b1.size)
    exact b3.trans (below_of_grown hh2 b3.size b1.size)
  have hsz : w.heap.size ≤ we.heap.size := (hbd.trans (below_of_grown he2 hbd.size (by have := hbel2'.size; omega))).size
  have eX : P1 + P2 + X - P1 - P2 = X := by omega
  rw [val_nrm, eX] at hx3
  have hXlt : X < 18446744073709551616 ^ (ma + mb) := by have := HV.out; omega
  have hvz : P1 + 18446744073709551616 ^ (2 * half) * P2 < 18446744073709551616 ^ K := by have := HT.out; omega
  have T3 := Lib.hid (trim_any (some ⟨gc, 0, none⟩) (ma + mb) (ma + mb) _ wh.drew (hx3.sl' (by omega)).drew)
  rw [val_dig_of_lt hXlt, ← HM3.out] at T3
  have U3 := Lib.hid ((hx3.sl' (by omega)).plain)
  rw [val_dig_of_lt hXlt, ← HM3.out] at U3
  have eXn : val (nrm X) = X := val_nrm X
  have hkx := HKX.out
  rw [← eXn] at hkx
  have HKY := Lib.hid hkx
  have HZ := Lib.hid hh1
  have HVZ := Lib.hid hvz
  have HXN := Lib.hid eXn
  clear eX hXlt hx3 hh1 hh2 hg2' hf1 hf2 he1 he2 HGZ T2 U2 D1 D2 HD HKX hkx hvz eXn
  have j1 : (half : Int) ≤ (K : Int) := by omega
  have j2 : ¬ K = half := by omega
  go_region_held3 (fun _ => True) (trivial) (first
    | (go_at_call 30; (with_reducible refine T3.out.mono ?_); rintro e w' ⟨rfl, rfl⟩)
    | (go_at_call 36; refine (addTimes_val1 we.heap.size half (K - half) (K - half) K _ (some ⟨gc, 0, none⟩) m3 (ma + mb) (nrm X) wh.drew HZ.out.drew (by omega) (by omega) U3.out.drew q3 (apart_of_ne (by omega)) HVZ.out HKY.out).mono ?_; rintro e wi ⟨rfl, hi1, hi2⟩))
  go_wp2_with fail
  go_ret
  refine ⟨we.heap.size, rfl, hsz, ?_, ?_⟩
  · rw [HXN.out] at hi1
    exact hi1
  · exact hbh.drew.trans (below_of_grown hi2 hbh.size hsz)
end Go.Proofs.Ytmajmpgcdpbnfaa

/- cleaverref01.power, Shl, Shr, by their contracts. -/
import Derived.Test.YtmajmpgcdpbnfaaRefDiv
import Derived.Test.YtmajmpgcdpbnfaaNatShl
import Derived.Laws.ShiftsVarLaws
namespace Go.Proofs.Ytmajmpgcdpbnfaa
open Go.RowKit

theorem val_zeros_pow (a x : Nat) : val (List.replicate a 0 ++ [x]) = 18446744073709551616 ^ a * x := by
  rw [val_append, List.length_replicate]
  have : val (List.replicate a 0) = 0 := by
    induction a with
    | zero => rfl
    | succ a ih => rw [List.replicate_succ, val_cons, ih]
  rw [this, val_cons, val_nil, Nat.mul_zero, Nat.add_zero, Nat.zero_add]

theorem zeros_set (a x : Nat) : (List.replicate (a + 1) 0).set a x = List.replicate a 0 ++ [x] := by
  induction a with
  | zero => rfl
  | succ a ih => rw [List.replicate_succ, List.set_cons_succ, ih, List.replicate_succ, List.cons_append]

set_option maxHeartbeats 1000000 in
theorem power_at (k : Nat) (w : World) (hk : k ≤ 100000000000) :
    Calls Try.prog 45 #[.int .i64 (k : Int)] w fun e w' =>
      ∃ g ys, e = .returned (.slice (some ⟨g, 0, none⟩) (k / 64 + 1) (k / 64 + 1)) ∧ Sl w' (some ⟨g, 0, none⟩) (k / 64 + 1) (k / 64 + 1) ys ∧ val ys = 2 ^ k ∧ Below w.heap.size w w' := by
  obtain ⟨a, ha⟩ : ∃ a, a = k / 64 := ⟨_, rfl⟩
  obtain ⟨r, hr⟩ : ∃ r, r = k % 64 := ⟨_, rfl⟩
  have hr3 : r < 64 := by omega
  have hv : 18446744073709551616 ^ a * 2 ^ r = 2 ^ k := by rw [ha, hr]; exact two_split k
  have HV := Lib.hid hv
  have e1 : (k : Int) / 64 = (a : Int) := by omega
  have e2 : (k : Int).tdiv 64 = (a : Int) := by rw [Int.tdiv_eq_ediv_of_nonneg (by omega)]; omega
  have e3 : (k : Int).tmod 64 = (r : Int) := by rw [Int.tmod_eq_emod_of_nonneg (by omega)]; omega
  have e4 : (k : Int) % 64 = (r : Int) := by omega
  have e5 : min r 64 = r := by omega
  have e6 := shl_one r (by omega)
  have ha9 : a ≤ 100000000000 := by omega
  rw [← ha]
  have hpw := pow_lt64 r (by omega)
  have HPW := Lib.hid hpw
  clear hv ha hr hpw
  go_enter Try.func45, Try.ntmps45
  go_wp2_with (at_make; refine wpList_make_limbs _ rfl _ _ rfl _ _ _ _ (a + 1) rfl rfl (by omega) (by omega) (by omega) ?_; intro w1 hk1 hb1; have hz := hk1.cell a (by simp); have hzf := hk1.frozen a; have HK := Lib.hid hk1; have HB := Lib.hid hb1; clear hk1 hb1)
  go_ret
  have hset := HK.out.set_ a _ HPW.out
  rw [zeros_set] at hset
  have hl : (List.replicate a 0 ++ [2 ^ r]).length = a + 1 := by simp
  have hs := hset.sl (by rw [hl]; omega)
  rw [hl] at hs
  have e9 : u64v (2 ^ r) = .int .u64 ((2 : Int) ^ r) := by simp [u64v]
  rw [e9] at hs
  refine ⟨w.heap.size, _, rfl, hs, ?_, (HB.out.setCell (p := ⟨w.heap.size, a, none⟩) (Nat.le_refl _) _)⟩
  rw [val_zeros_pow, HV.out]

theorem refShl_err (A : Option Addr) (n c : Nat) (k : Int) (w : World) (hk : k < 0 ∨ 262144 < k) :
    Calls Try.prog 26 #[.slice A n c, .int .i64 k] w fun e w' => e = .returned (.tuple #[.slice none 0 0, .int .i64 1]) ∧ w = w' := by
  rcases hk with hk | hk
  · go_enter Try.func26, Try.ntmps26
    go_wp2
    go_ret2
    exact ⟨rfl, rfl⟩
  · have h0 : ¬ k < 0 := by omega
    go_enter Try.func26, Try.ntmps26
    go_wp2
    go_ret2
    exact ⟨rfl, rfl⟩

set_option maxHeartbeats 1000000 in
theorem refShl_at (A : Option Addr) (n c : Nat) (xs : List Nat) (k : Nat) (w : World) (h : Sl w A n c xs) (hn : n ≤ 1099511627776) (hk : k ≤ 262144) :
    Calls Try.prog 26 #[.slice A n c, .int .i64 (k : Int)] w fun e w' =>
      ∃ C m d, e = .returned (.tuple #[.slice C m d, .int .i64 0]) ∧ Sl w' C m d (nrm (val xs * 2 ^ k)) ∧ Below w.heap.size w w' := by
  have H := Lib.hid h
  have TP := Lib.hid (power_at k w (by omega))
  have h0 : ¬ (k : Int) < 0 := by omega
  have h1 : ¬ (262144 : Int) < (k : Int) := by omega
  obtain ⟨a, ha⟩ : ∃ a, a = k / 64 + 1 := ⟨_, rfl⟩
  rw [← ha] at TP
  have ha9 : a ≤ 1099511627776 := by omega
  clear h ha
  go_enter Try.func26, Try.ntmps26
  go_wp2_with fail
  with_reducible refine TP.out.mono ?_
  rintro e w1 ⟨g, ys, rfl, hs, hv, hb⟩
  have T := refMul_any A (some ⟨g, 0, none⟩) n c a a xs ys w1 (H.out.below hb) hs hn ha9
  rw [hv] at T
  have TT := Lib.hid T
  have HB := Lib.hid hb
  clear T hs hv hb
  go_wp2_with fail
  with_reducible refine TT.out.mono ?_
  rintro e w2 ⟨C, m, d, rfl, hs2, hb2⟩
  go_wp2_with fail
  go_ret2
  exact ⟨C, m, d, rfl, hs2, HB.out.trans (hb2.mono HB.out.size)⟩

set_option maxHeartbeats 1000000 in
theorem refShr_any (A : Option Addr) (n c : Nat) (xs : List Nat) (k : Int) (k0 : Nat) (w : World) (h : Sl w A n c xs) (hn : n ≤ 1000000000) (hk : max k 0 = (k0 : Int)) (hk9 : k ≤ 9223372036854775807) :
    Calls Try.prog 28 #[.slice A n c, .int .i64 k] w fun e w' =>
      ∃ C m d, e = .returned (.slice C m d) ∧ Sl w' C m d (nrm (val xs / 2 ^ k0)) ∧ Below w.heap.size w w' := by
  by_cases hge : 64 * (n : Int) ≤ k
  · have hv : val xs / 2 ^ k0 = 0 := by
      apply Nat.div_eq_of_lt
      have h1 := val_lt h.fit
      rw [← h.len, pow64] at h1
      exact Nat.lt_of_lt_of_le h1 (Nat.pow_le_pow_right (by decide) (by omega))
    rw [hv]
    clear hv h
    go_enter Try.func28, Try.ntmps28
    go_wp2_with fail
    go_ret
    exact ⟨none, 0, 0, rfl, ⟨rfl, Nat.le_refl _, by decide, fun _ => rfl, Rd.nil _ _⟩, Below.refl _ _⟩
  · have hk2 : k0 ≤ 100000000000 := by omega
    have TP := Lib.hid (power_at k0 w hk2)
    have H := Lib.hid h
    obtain ⟨a, ha⟩ : ∃ a, a = k0 / 64 + 1 := ⟨_, rfl⟩
    rw [← ha] at TP
    have ha9 : a ≤ 1099511627776 := by omega
    clear h ha
    go_enter Try.func28, Try.ntmps28
    go_wp2_with fail
    with_reducible refine TP.out.mono ?_
    rintro e w1 ⟨g, ys, rfl, hs, hv, hb⟩
    have T := refDiv_any A (some ⟨g, 0, none⟩) n c a a xs ys w1 (H.out.below hb) hs (by omega) ha9 (by rw [hv]; exact Nat.ne_of_gt (Nat.pow_pos (by decide)))
    rw [hv] at T
    have TT := Lib.hid T
    have HB := Lib.hid hb
    clear T hs hv hb
    go_wp2_with fail
    with_reducible refine TT.out.mono ?_
    rintro e w2 ⟨C, m, d, C2, m2, d2, rfl, hs2, -, hb2⟩
    go_wp2_with fail
    go_ret
    exact ⟨C, m, d, rfl, hs2, HB.out.trans (hb2.mono HB.out.size)⟩
end Go.Proofs.Ytmajmpgcdpbnfaa

/- nat.rowProduct, by its contract: as many limbs as both factors have, of the product. -/
import Derived.Test.YtmajmpgcdpbnfaaNatSub
namespace Go.Proofs.Ytmajmpgcdpbnfaa
open Go.RowKit

theorem row_bound (xs ys : List Nat) (n k : Nat) (hx : Fit xs) (hy : Fit ys) (hn : xs.length = n) : val xs * val (ys.take k) / 18446744073709551616 ^ k < 18446744073709551616 ^ n := by
  have h1 := val_lt hx
  rw [hn] at h1
  have h2 := val_lt (fit_take hy k)
  have h3 : 18446744073709551616 ^ (ys.take k).length ≤ 18446744073709551616 ^ k := Nat.pow_le_pow_right (by decide) (by rw [List.length_take]; omega)
  apply Nat.div_lt_of_lt_mul
  rw [Nat.mul_comm (18446744073709551616 ^ k)]
  rcases Nat.eq_zero_or_pos (val xs) with h0 | h0
  · rw [h0, Nat.zero_mul]; exact Nat.mul_pos (Nat.pow_pos (by decide)) (Nat.pow_pos (by decide))
  · exact Nat.lt_of_lt_of_le (Nat.mul_lt_mul_of_pos_left (Nat.lt_of_lt_of_le h2 h3) h0) (Nat.mul_le_mul_right _ (Nat.le_of_lt h1))
theorem row_all (xs ys : List Nat) (n k K : Nat) (hx : Fit xs) (hy : Fit ys) (hn : xs.length = n) (hK : n + k ≤ K) : val xs * val (ys.take k) < 18446744073709551616 ^ K := by
  have h := row_bound xs ys n k hx hy hn
  rw [Nat.div_lt_iff_lt_mul (Nat.pow_pos (by decide)), ← Nat.pow_add] at h
  exact Nat.lt_of_lt_of_le h (Nat.pow_le_pow_right (by decide) hK)
theorem row_limb (xs : List Nat) (n m Q : Nat) (hx : Fit xs) (hn : xs.length = n) (hQ : Q < 18446744073709551616 ^ n) (hm : m < 18446744073709551616) : val (dig (n + 1) Q) + m * val xs < 18446744073709551616 ^ (n + 1) := by
  have h1 := val_lt hx
  rw [hn] at h1
  have e : 18446744073709551616 ^ (n + 1) = 18446744073709551616 ^ n * 18446744073709551616 := Nat.pow_succ ..
  rw [val_dig_of_lt (by omega), e]
  have h2 : m * val xs ≤ 18446744073709551615 * (18446744073709551616 ^ n - 1) := Nat.mul_le_mul (by omega) (by omega)
  omega

set_option maxHeartbeats 1000000 in
theorem rowProduct_any (A B : Option Addr) (n c n' c' : Nat) (xs ys : List Nat) (w : World) (h : Sl w A n c xs) (h' : Sl w B n' c' ys) (hn : n ≤ 8796093022208) (hn' : n' ≤ 8796093022208) :
    Calls Try.prog 53 #[.slice A n c, .slice B n' c'] w fun e w' =>
      e = .returned (.slice (some ⟨w.heap.size, 0, none⟩) (n + n') (n + n')) ∧ Blk w' w.heap.size (dig (n + n') (val xs * val ys)) ∧ Below w.heap.size w w' := by
  obtain ⟨K, hK⟩ : ∃ K, K = n + n' := ⟨_, rfl⟩
  rw [← hK]
  have HK := Lib.hid hK
  have hK1 : n + n' ≤ K := by omega
  have hK2 : K ≤ 17592186044416 := by omega
  have H := Lib.hid h
  have H' := Lib.hid h'
  clear h h' hK
  go_enter Try.func53, Try.ntmps53
  go_wp2_with (at_make; refine wpList_make_val _ rfl _ _ rfl _ _ _ _ K rfl rfl (by rw [HK.out]; omega) (by rw [HK.out]; omega) (by omega) ?_; intro w1 hb1 hbel1)
  go_loopw [16] (fun i wr => ∃ k : Nat, k ≤ n' ∧ i = .int .i64 k ∧ Blk wr w.heap.size (dig K (val xs * val (ys.take k))) ∧ Below w.heap.size w wr) (fun i _ => n' - (intOf i).toNat)
  case atStart => exact ⟨0, Nat.zero_le _, rfl, by simpa [val] using hb1, hbel1⟩
  case round =>
    obtain ⟨k, hk, rfl, hb, hbel⟩ := hrel
    clear hb1 hbel1
    by_cases hlt : k < n'
    · obtain ⟨b', o', rfl, hlt', hc⟩ := H'.out.at_ (by omega)
      have hy := hc k hlt
      rw [← hbel.cell (p := ⟨b', o' + k, none⟩) hlt'] at hy
      have hstep := val_take_getD ys k
      have hyf := fit_getD H'.out.fit k
      generalize ys.getD k 0 = y at *
      have HS := Lib.hid hstep
      clear hstep hc
      go_wp2_with fail
      have e1 : k + n + 1 - k = n + 1 := by omega
      rw [e1]
      clear e1
      have hQ := row_bound xs ys n k H.out.fit H'.out.fit H.out.len.symm
      have hT := row_limb xs n y _ H.out.fit H.out.len.symm hQ hyf
      have hA := row_all xs ys n k K H.out.fit H'.out.fit H.out.len.symm (by omega)
      refine (addTimes_val w.heap.size k (n + 1) (K - k) K _ A n c xs y wr hb (by omega) (by omega) (H.out.below hbel) (by omega) (H.out.apart (Nat.le_refl _)) hyf hA hT).mono ?_
      rintro e w2 ⟨rfl, hb2, hg2⟩
      have hbel2 := hbel.trans (below_of_grown hg2 hbel.size (Nat.le_refl _))
      have hb3 : Blk w2 w.heap.size (dig K (val xs * val (ys.take (k + 1)))) := by
        have e : val xs * val (ys.take k) + 18446744073709551616 ^ k * (y * val xs) = val xs * val (ys.take (k + 1)) := by rw [HS.out]; grind
        rwa [e] at hb2
      clear hQ hT hA hb hbel hb2 hg2
      go_wp2_with fail
      go_roundw
      case rel => exact ⟨k + 1, by omega, by go_num, hb3, hbel2⟩
      case measure => simp [intOf]; omega
    · obtain rfl : k = n' := by omega
      rw [List.take_of_length_le (by rw [← H'.out.len]; exact Nat.le_refl _)] at hb
      go_wp2
      go_ret
      exact ⟨rfl, hb, hbel⟩
end Go.Proofs.Ytmajmpgcdpbnfaa

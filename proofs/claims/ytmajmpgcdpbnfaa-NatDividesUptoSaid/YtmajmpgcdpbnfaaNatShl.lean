/- nat.Shl, by its contract. Conditions: fewer than 2^42 limbs. -/
import Derived.Test.YtmajmpgcdpbnfaaNatMul
import Derived.Laws.ShiftsVarLaws
namespace Go.Proofs.Ytmajmpgcdpbnfaa
open Go.RowKit

theorem pow64 (l : Nat) : 18446744073709551616 ^ l = 2 ^ (64 * l) := by rw [Nat.pow_mul]
theorem two_split (k : Nat) : 18446744073709551616 ^ (k / 64) * 2 ^ (k % 64) = 2 ^ k := by
  rw [pow64, ← Nat.pow_add, Nat.div_add_mod]

theorem shl_err (A : Option Addr) (n c : Nat) (k : Int) (w : World) (hk : k < 0 ∨ 262144 < k) :
    Calls Try.prog 25 #[.slice A n c, .int .i64 k] w fun e w' => e = .returned (.tuple #[.slice none 0 0, .int .i64 1]) ∧ w = w' := by
  rcases hk with hk | hk
  · go_enter Try.func25, Try.ntmps25
    go_wp2
    go_ret2
    exact ⟨rfl, rfl⟩
  · have h0 : ¬ k < 0 := by omega
    go_enter Try.func25, Try.ntmps25
    go_wp2
    go_ret2
    exact ⟨rfl, rfl⟩

theorem shl_one (r : Nat) (hr : r < 64) : IntKind.u64.wrap ((2 : Int) ^ r) = ((2 ^ r : Nat) : Int) := by
  rw [IntKind.wrap_u64]
  have h : (2 : Nat) ^ r ≤ 2 ^ 63 := Nat.pow_le_pow_right (by decide) (by omega)
  have e : ((2 : Int) ^ r) = ((2 ^ r : Nat) : Int) := by simp
  rw [e]
  clear e
  generalize (2 : Nat) ^ r = t at *
  omega
theorem pow_lt64 (r : Nat) (hr : r < 64) : 2 ^ r < 18446744073709551616 := by
  have h : (2 : Nat) ^ r ≤ 2 ^ 63 := Nat.pow_le_pow_right (by decide) (by omega)
  omega

set_option maxHeartbeats 1000000 in
theorem shl_at (A : Option Addr) (n c : Nat) (xs : List Nat) (k : Nat) (w : World) (h : Sl w A n c xs) (hn : n ≤ 4398046511104) (hk : k ≤ 262144) :
    Calls Try.prog 25 #[.slice A n c, .int .i64 (k : Int)] w fun e w' =>
      ∃ g m d, e = .returned (.tuple #[.slice (some ⟨g, 0, none⟩) m d, .int .i64 0]) ∧ w.heap.size ≤ g ∧ Sl w' (some ⟨g, 0, none⟩) m d (nrm (val xs * 2 ^ k)) ∧ m ≤ n + 4097 ∧ Below w.heap.size w w' := by
  have H := Lib.hid h
  clear h
  have hl2 : k / 64 ≤ 4096 := by omega
  have hr2 : k % 64 < 64 := by omega
  have h0 : ¬ (k : Int) < 0 := by omega
  have h1 : ¬ (262144 : Int) < (k : Int) := by omega
  go_enter Try.func25, Try.ntmps25
  go_wp2_with (first
    | (go_at_call 30; (with_reducible refine (trim_at A n c xs w H.out).mono ?_); rintro e w' ⟨p, rfl, hp, hpn, rfl⟩)
    | (at_make; refine wpList_make_val _ rfl _ _ rfl _ _ _ _ (k / 64 + p + 1) rfl rfl (by omega) (by omega) (by omega) ?_; intro w1 hb1 hbel1))
  have i1 : (0 : Int) ≤ (k : Int) / 64 := by omega
  have i2 : (k : Int) / 64 ≤ (k : Int) / 64 + (p : Int) + 1 := by omega
  have i3 : ¬ k / 64 + p + 1 = k / 64 := by omega
  have i4 : (0 : Int) ≤ (k : Int).tmod 64 := by rw [Int.tmod_eq_emod_of_nonneg (by omega)]; omega
  have e1 : ((k : Int) / 64).toNat = k / 64 := by omega
  have e2 : k / 64 + p + 1 - k / 64 = p + 1 := by omega
  have e3 : ((k : Int).tmod 64).toNat = k % 64 := by rw [Int.tmod_eq_emod_of_nonneg (by omega)]; omega
  have e4 : min (k % 64) 64 = k % 64 := by omega
  have e5 := shl_one (k % 64) hr2
  have hm := pow_lt64 (k % 64) hr2
  have hpl := val_lt hp.fit
  rw [← hp.len, val_nrm] at hpl
  have hz : val (dig (p + 1) (0 / 18446744073709551616 ^ (k / 64))) + 2 ^ (k % 64) * val (nrm (val xs)) < 18446744073709551616 ^ (p + 1) := by
    rw [Nat.zero_div]
    exact row_limb (nrm (val xs)) p (2 ^ (k % 64)) 0 hp.fit hp.len.symm (Nat.pow_pos (by decide)) hm
  have E1 := Lib.hid e1
  have E2 := Lib.hid e2
  have E3 := Lib.hid e3
  have E4 := Lib.hid e4
  have E5 := Lib.hid e5
  have HZ := Lib.hid hz
  have HM := Lib.hid hm
  have HPL := Lib.hid hpl
  have HP := Lib.hid hp
  have HB1 := Lib.hid hb1
  clear e1 e2 e3 e4 e5 hz hm hpl hp hb1
  go_region_held3 (fun _ => True) (trivial) (first
    | (go_at_call 36; rw [E1.out, if_neg i3, E2.out, E3.out, E4.out, E5.out]; refine (addTimes_val w.heap.size (k / 64) (p + 1) (p + 1) (k / 64 + p + 1) 0 A p c _ (2 ^ (k % 64)) w1.drew HB1.out.drew (by omega) (by omega) (HP.out.below hbel1).drew (by omega) ((HP.out.apart (Nat.le_refl _))) HM.out (Nat.pow_pos (by decide)) HZ.out).mono ?_; rintro e w2 ⟨rfl, hb2, hg2⟩))
  have hbel2 : Below w.heap.size w w2 := hbel1.drew.trans (below_of_grown hg2 hbel1.size (Nat.le_refl _))
  have hV : val xs * 2 ^ k < 18446744073709551616 ^ (k / 64 + p + 1) := by
    rw [← two_split k, Nat.mul_left_comm, Nat.pow_add _ (k / 64 + p), Nat.pow_add _ (k / 64) p, Nat.pow_one, Nat.mul_assoc]
    refine Nat.mul_lt_mul_of_pos_left ?_ (Nat.pow_pos (by decide))
    exact Nat.mul_lt_mul'' HPL.out HM.out
  have eV : 0 + 18446744073709551616 ^ (k / 64) * (2 ^ (k % 64) * val (nrm (val xs))) = val xs * 2 ^ k := by
    rw [val_nrm, Nat.zero_add, ← Nat.mul_assoc, two_split, Nat.mul_comm]
  rw [eV] at hb2
  have T := trim_any _ (k / 64 + p + 1) (k / 64 + p + 1) _ w2 (hb2.sl' (by omega))
  have hs := (hb2.sl' (by omega)).plain
  have hle := nrm_len_le hV
  rw [val_dig_of_lt hV] at T hs
  generalize (nrm (val xs * 2 ^ k)).length = m at *
  have TT := Lib.hid T
  have HS := Lib.hid hs
  clear T hs hV hb2 eV hg2
  go_wp2_with (go_at_call 30; refine TT.out.mono ?_; rintro e w' ⟨rfl, rfl⟩)
  go_ret2
  exact ⟨w.heap.size, m, _, rfl, Nat.le_refl _, HS.out, by omega, hbel2⟩
end Go.Proofs.Ytmajmpgcdpbnfaa

/- nat.divLimb, by its contract: a block of the call's own is divided by one limb. -/
import Derived.Test.YtmajmpgcdpbnfaaDoorDivL
import Derived.Test.YtmajmpgcdpbnfaaDoorNatD64
import Derived.Test.YtmajmpgcdpbnfaaDoorRefMul
namespace Go.Proofs.YtmajmpgcdpbnfaaDoor
open Go.RowKit

theorem div64_at (hi lo y : Nat) (w : World) (hlt : hi < y) (hlo : lo < 18446744073709551616) (hy : y < 18446744073709551616) :
    Calls Tryd.prog 23 #[.int .u64 (hi : Int), .int .u64 (lo : Int), .int .u64 (y : Int)] w fun e w' =>
      ∃ q r : Nat, e = .returned (.tuple #[.int .u64 (q : Int), .int .u64 (r : Int)]) ∧ (q = (hi * 18446744073709551616 + lo) / y ∧ r = (hi * 18446744073709551616 + lo) % y ∧ q < 18446744073709551616 ∧ r < y) ∧ ∃ nq, w' = w.drewN nq := by
  have hq : (hi * 18446744073709551616 + lo) / y < 18446744073709551616 := by
    apply Nat.div_lt_of_lt_mul
    have := Nat.mul_le_mul_right 18446744073709551616 hlt
    rw [Nat.succ_mul] at this
    exact Nat.lt_of_lt_of_le (Nat.add_lt_add_left hlo _) this
  have hr := Nat.mod_lt (hi * 18446744073709551616 + lo) (by omega : 0 < y)
  by_cases h0 : hi = 0
  · subst h0
    rw [Nat.zero_mul, Nat.zero_add] at hq hr ⊢
    exact (div64_zero lo y w hlo (by omega) hy).mono fun e w' ⟨he, hw⟩ => ⟨_, _, he, ⟨rfl, rfl, hq, hr⟩, hw⟩
  · exact (div64_pos hi lo y w (by omega) hlt hlo hy).mono fun e w' ⟨he, hw⟩ => ⟨_, _, he, ⟨rfl, rfl, hq, hr⟩, hw⟩

theorem dlV_limb (V d i : Nat) : dlV V d (i + 1) / 18446744073709551616 ^ i % 18446744073709551616 = V / 18446744073709551616 ^ i % 18446744073709551616 := by
  rw [← Nat.mod_mul_right_div_self, ← Nat.mod_mul_right_div_self, ← Nat.pow_succ, dlV_mod V d (i + 1) (i + 1) (Nat.le_refl _)]

set_option maxHeartbeats 2000000 in
theorem divLimb_le (g n c K V d : Nat) (w : World) (hB : Blk w g (dig K V)) (hn : n ≤ K) (hmax : n ≤ 9223372036854775807) (hV : V < 18446744073709551616 ^ n) (hd : 0 < d) (hd2 : d < 18446744073709551616) :
    Calls Tryd.prog 15 #[.slice (some ⟨g, 0, none⟩) n c, .int .u64 (d : Int)] w fun e w' =>
      e = .returned (u64v (V % d)) ∧ Blk w' g (dig K (V / d)) ∧ w.grownBy w' (some g) := by
  have H := Lib.hid hB
  have HV := Lib.hid hV
  have hgl := hB.lt
  clear hB hV
  go_enter Tryd.func15, Tryd.ntmps15
  go_wp2_with fail
  go_loopw [6, 5] (fun i r wr => ∃ j rr : Nat, j ≤ n ∧ i = .int .i64 ((j : Int) - 1) ∧ r = u64v rr ∧ rr = V / 18446744073709551616 ^ j % d ∧ Blk wr g (dig K (dlV V d j)) ∧ w.grownBy wr (some g)) (fun i _ _ => (intOf i + 1).toNat)
  case atStart =>
    refine ⟨n, 0, Nat.le_refl _, rfl, rfl, by rw [Nat.div_eq_of_lt HV.out, Nat.zero_mod], ?_, ⟨rfl, rfl, rfl, Nat.le_refl _, fun _ _ _ => rfl⟩⟩
    unfold dlV
    rw [Nat.div_eq_of_lt HV.out, Nat.zero_div, Nat.zero_mul, Nat.zero_add, Nat.mod_eq_of_lt HV.out]
    exact H.out
  case round =>
    obtain ⟨j, rr, hj, rfl, rfl, hrr, hb, hg⟩ := hrel
    by_cases hj0 : 0 < j
    · obtain ⟨i, rfl⟩ : ∃ i, j = i + 1 := ⟨j - 1, by omega⟩
      have hii : (((i + 1 : Nat) : Int) - 1) = (i : Int) := by omega
      rw [hii]
      have hlen := dig_length K (dlV V d (i + 1))
      have hc := hb.cellD i (by rw [hlen]; omega)
      rw [dig_getD _ _ _ (by omega), dlV_limb] at hc
      have hf := hb.frozen i
      obtain ⟨x, hx⟩ : ∃ x, x = V / 18446744073709551616 ^ i % 18446744073709551616 := ⟨_, rfl⟩
      rw [← hx] at hc
      have hxb : x < 18446744073709551616 := by rw [hx]; exact Nat.mod_lt _ (by decide)
      have hrd : rr < d := by rw [hrr]; exact Nat.mod_lt _ hd
      obtain ⟨s1, s2, s3⟩ := dlV_step V d i x _ rr hd hx rfl hrr
      have hds := dig_set K (dlV V d (i + 1)) (dlV V d i) i (by omega) (by rw [dlV_mod _ _ _ _ (Nat.le_refl _), dlV_mod _ _ _ _ (Nat.le_succ _)]) s3
      rw [s1] at hds
      have HBB := Lib.hid hb
      have i1 : (0 : Int) ≤ (i : Int) := by omega
      have i2 : (i : Int) < (n : Int) := by omega
      have HDS := Lib.hid hds
      have HS2 := Lib.hid s2
      have HG := Lib.hid hg
      have hin : i < n := by omega
      clear hds s1 s2 s3 hb hlen hx hrr hii hg hj hj0
      go_wp2_with fail
      refine (div64_at rr x d wr hrd hxb hd2).mono ?_
      rintro e w' ⟨q, r, rfl, ⟨hq, hr, hqb, hrb⟩, nq, rfl⟩
      have hf2 : (wr.drewN nq).frozen? ⟨g, i, none⟩ = false := hf
      have hc2 : (wr.drewN nq).cell? ⟨g, i, none⟩ = some (u64v x) := hc
      have hset := (HBB.out.drewN nq).set_ i q hqb
      have e : (dig K (dlV V d (i + 1))).set i q = dig K (dlV V d i) := by rw [hq]; exact HDS.out
      rw [e] at hset
      have HSET := Lib.hid hset
      have hr2 : r = V / 18446744073709551616 ^ i % d := hr.trans HS2.out.symm
      have HR := Lib.hid hr2
      clear hset e hq hr hr2
      go_wp2_with fail
      go_roundw
      case rel => exact ⟨i, r, by omega, rfl, rfl, HR.out, HSET.out, grown_setCell (grown_drewN HG.out nq) (.inl rfl) _⟩
      case measure => simp [intOf]
    · obtain rfl : j = 0 := by omega
      rw [Nat.pow_zero, Nat.div_one] at hrr
      have e0 : dlV V d 0 = V / d := by unfold dlV; rw [Nat.pow_zero, Nat.div_one, Nat.mul_one, Nat.mod_one, Nat.add_zero]
      rw [e0] at hb
      subst hrr
      go_wp2_with fail
      go_ret
      exact ⟨rfl, hb, hg⟩
theorem divLimb_val (g n c K V d : Nat) (w : World) (hB : Blk w g (dig K V)) (hn : n = K) (hmax : n ≤ 9223372036854775807) (hV : V < 18446744073709551616 ^ K) (hd : 0 < d) (hd2 : d < 18446744073709551616) :
    Calls Tryd.prog 15 #[.slice (some ⟨g, 0, none⟩) n c, .int .u64 (d : Int)] w fun e w' =>
      e = .returned (u64v (V % d)) ∧ Blk w' g (dig K (V / d)) ∧ w.grownBy w' (some g) := divLimb_le g n c K V d w hB (Nat.le_of_eq hn) hmax (by rw [hn]; exact hV) hd hd2
end Go.Proofs.YtmajmpgcdpbnfaaDoor

/- nat.Add, by its contract: a new slice of the sum's plain limbs. Conditions: the lengths are at most 2^43. -/
import Derived.Test.YtmajmpgcdpbnfaaNatVal
namespace Go.Proofs.Ytmajmpgcdpbnfaa
open Go.RowKit

set_option maxHeartbeats 1000000 in
theorem add_any (A B : Option Addr) (n c n' c' : Nat) (xs ys : List Nat) (w : World) (h : Sl w A n c xs) (h' : Sl w B n' c' ys) (hn : n ≤ 8796093022208) (hn' : n' ≤ 8796093022208) :
    Calls Try.prog 13 #[.slice A n c, .slice B n' c'] w fun e w' =>
      ∃ v, e = .returned v ∧ New w' w.heap.size v (nrm (val xs + val ys)) ∧ Below w.heap.size w w' := by
  have HT := Lib.hid (trim_any A n c xs w h)
  have HT' := Lib.hid (trim_any B n' c' ys w h')
  have hpl := h.plain
  have hpl' := h'.plain
  have hle := nrm_length_le h.2.2.2.2.1
  have hle' := nrm_length_le h'.2.2.2.2.1
  have hv : val xs + val ys = val (nrm (val xs)) + val (nrm (val ys)) := by rw [val_nrm, val_nrm]
  rw [← h.1] at hle
  rw [← h'.1] at hle'
  have hc := h.2.2.1
  have hc' := h'.2.2.1
  generalize nrm (val xs) = ps at *
  generalize nrm (val ys) = qs at *
  obtain ⟨p, hp⟩ : ∃ p, p = ps.length := ⟨_, rfl⟩
  obtain ⟨q, hq⟩ : ∃ q, q = qs.length := ⟨_, rfl⟩
  rw [← hp] at hle HT hpl
  rw [← hq] at hle' HT' hpl'
  have HP := Lib.hid hp
  have HQ := Lib.hid hq
  have HR := Lib.hid hpl
  have HR' := Lib.hid hpl'
  have HV := Lib.hid hv
  clear h h' hpl hpl' hp hq hv
  obtain ⟨K, hK⟩ : ∃ K, K = max p q + 1 := ⟨_, rfl⟩
  have hpK : p < K := by omega
  have hqK : q < K := by omega
  have hK2 : K ≤ 8796093022209 := by omega
  have HK := Lib.hid hK
  clear hK
  have hlt : val ps + val qs < 18446744073709551616 ^ K := sum_lt ps qs HR.out.fit HR'.out.fit K (by rw [← HP.out]; exact hpK) (by rw [← HQ.out]; exact hqK)
  have HLT := Lib.hid hlt
  clear hlt
  go_enter Try.func13, Try.ntmps13
  go_wp2_with (first
    | (go_at_call 30; (with_reducible refine HT.out.mono ?_); rintro e w' ⟨rfl, rfl⟩)
    | (go_at_call 30; (with_reducible refine HT'.out.mono ?_); rintro e w' ⟨rfl, rfl⟩)
    | (at_make; refine wpList_make_val _ rfl _ _ rfl _ _ _ _ K rfl rfl (by rw [HK.out]; omega) (by rw [HK.out]; omega) (by omega) ?_; intro w1 hb1 hbel1)
    | ((with_reducible refine wpList_copy_val _ rfl (.tmp 17) (.tmp 18) rfl _ 0 K K A p c rfl rfl K 0 ps hb1 (HR.out.below hbel1) (by omega) (by omega) (by decide) ?_); intro w2 hb2 hg2; have hbel2 := hbel1.trans (below_of_grown hg2 hbel1.size (Nat.le_refl _)); have HB2 := Lib.hid hb2; clear hb2 hb1 hg2 hbel1)
    | (go_at_call 36; (with_reducible refine (addTimes_val1 w.heap.size 0 K K K _ B q c' qs w2 HB2.out (by omega) (by omega) (HR'.out.below hbel2) (by omega) (HR'.out.apart (Nat.le_refl _)) (by have := HLT.out; simp only [Nat.pow_zero, Nat.one_mul, Nat.zero_add]; omega) (by have := HLT.out; simp only [Nat.pow_zero, Nat.one_mul, Nat.zero_add, Nat.div_one]; rw [val_dig_of_lt (by omega)]; exact this)).mono ?_); rintro e w3 ⟨rfl, hb3, hg3⟩; have hbel3 := hbel2.trans (below_of_grown hg3 hbel2.size (Nat.le_refl _)); have HB3 := Lib.hid hb3; clear hb3 hg3 hbel2)
    | (go_at_call 30; (with_reducible refine (trim_any _ K K _ w3 (Blk.sl' HB3.out (by omega))).mono ?_); rintro e w' ⟨rfl, rfl⟩))
  go_ret
  refine ⟨_, rfl, ?_, hbel3⟩
  have hnew := new_of_blk HB3.out (by omega) (by have := HLT.out; simp only [Nat.pow_zero, Nat.one_mul, Nat.zero_add]; exact this) (Nat.le_refl w.heap.size)
  simp only [Nat.pow_zero, Nat.one_mul, Nat.zero_add] at hnew
  rw [HV.out]
  exact hnew

/-- cmp.Compare at uint64, -1, 0, 1. -/
def cmpN (x y : Nat) : Int := if x < y then -1 else if y < x then 1 else 0
theorem cmp64_any (x y : Nat) (w : World) : Calls Try.prog 39 #[.int .u64 (x : Int), .int .u64 (y : Int)] w fun e w' => e = .returned (.int .i64 (cmpN x y)) ∧ w = w' := by
  rcases Nat.lt_trichotomy x y with h | h | h
  · have e : cmpN x y = -1 := by unfold cmpN; rw [if_pos h]
    rw [e]; clear e
    go_enter Try.func39, Try.ntmps39
    go_wp2
    go_ret
    exact ⟨rfl, rfl⟩
  · have e : cmpN x y = 0 := by unfold cmpN; rw [if_neg (by omega), if_neg (by omega)]
    rw [e]; clear e
    subst h
    go_enter Try.func39, Try.ntmps39
    go_wp2
    go_ret
    exact ⟨rfl, rfl⟩
  · have e : cmpN x y = 1 := by unfold cmpN; rw [if_neg (by omega), if_pos h]
    rw [e]; clear e
    go_enter Try.func39, Try.ntmps39
    go_wp2
    go_ret
    exact ⟨rfl, rfl⟩
theorem cmpInt_any (x y : Nat) (w : World) : Calls Try.prog 38 #[.int .i64 (x : Int), .int .i64 (y : Int)] w fun e w' => e = .returned (.int .i64 (cmpN x y)) ∧ w = w' := by
  rcases Nat.lt_trichotomy x y with h | h | h
  · have e : cmpN x y = -1 := by unfold cmpN; rw [if_pos h]
    rw [e]; clear e
    go_enter Try.func38, Try.ntmps38
    go_wp2
    go_ret
    exact ⟨rfl, rfl⟩
  · have e : cmpN x y = 0 := by unfold cmpN; rw [if_neg (by omega), if_neg (by omega)]
    rw [e]; clear e
    subst h
    go_enter Try.func38, Try.ntmps38
    go_wp2
    go_ret
    exact ⟨rfl, rfl⟩
  · have e : cmpN x y = 1 := by unfold cmpN; rw [if_neg (by omega), if_pos h]
    rw [e]; clear e
    go_enter Try.func38, Try.ntmps38
    go_wp2
    go_ret
    exact ⟨rfl, rfl⟩
end Go.Proofs.Ytmajmpgcdpbnfaa

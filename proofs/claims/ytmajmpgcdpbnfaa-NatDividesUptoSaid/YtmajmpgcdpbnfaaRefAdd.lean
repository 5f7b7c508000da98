/- cleaverref01.at, compare, Add, less, Sub, Cmp, by their contracts. -/
import Derived.Test.YtmajmpgcdpbnfaaRefMul
namespace Go.Proofs.Ytmajmpgcdpbnfaa
open Go.RowKit

theorem at_any (A : Option Addr) (n c : Nat) (ds : List Nat) (i : Nat) (w : World) (h : Sl w A n c ds) :
    Calls Try.prog 37 #[.slice A n c, .int .i64 (i : Int)] w fun e w' => e = .returned (u64v (ds.getD i 0)) ∧ w = w' := by
  have hle := h.le
  have hmx := h.max
  by_cases hi : i < n
  · obtain ⟨b, o, rfl, _, hc⟩ := h.at_ (by omega)
    have hx := hc i hi
    generalize ds.getD i 0 = x at *
    have i1 : (0 : Int) ≤ (i : Int) := by omega
    have i2 : (i : Int) < (n : Int) := by omega
    clear hc h
    go_enter Try.func37, Try.ntmps37
    go_wp2
    go_ret
    exact ⟨rfl, rfl⟩
  · have hz : ds.getD i 0 = 0 := by rw [List.getD_eq_getElem?_getD, List.getElem?_eq_none (by rw [← h.len]; omega)]; rfl
    rw [hz]
    have i2 : ¬ (i : Int) < (n : Int) := by omega
    clear h hz
    go_enter Try.func37, Try.ntmps37
    go_wp2
    go_ret
    exact ⟨rfl, rfl⟩

theorem val32_drop_getD (xs : List Nat) (k : Nat) : val32 (xs.drop k) = xs.getD k 0 + 4294967296 * val32 (xs.drop (k + 1)) := by
  rw [List.getD_eq_getElem?_getD]
  by_cases h : k < xs.length
  · rw [List.drop_eq_getElem_cons h, val32_cons, List.getElem?_eq_getElem h]; rfl
  · rw [List.drop_of_length_le (by omega), List.drop_of_length_le (by omega), List.getElem?_eq_none (by omega)]; rfl
theorem val32_split (xs : List Nat) (k : Nat) : val32 xs = val32 (xs.take k) + 4294967296 ^ k * val32 (xs.drop k) := by
  by_cases h : k ≤ xs.length
  · conv => lhs; rw [← List.take_append_drop k xs]
    rw [val32_append, List.length_take, Nat.min_eq_left h]
  · rw [List.take_of_length_le (by omega), List.drop_of_length_le (by omega)]; simp [val32]
theorem val32_take_lt {xs : List Nat} (h : Fit32 xs) (k : Nat) : val32 (xs.take k) < 4294967296 ^ k :=
  Nat.lt_of_lt_of_le (val32_lt (fit32_take h k)) (Nat.pow_le_pow_right (by decide) (by rw [List.length_take]; omega))
theorem lt32_at {xs ys : List Nat} (hx : Fit32 xs) (k : Nat) (hd : val32 (xs.drop (k + 1)) = val32 (ys.drop (k + 1))) (h : xs.getD k 0 < ys.getD k 0) : val32 xs < val32 ys := by
  rw [val32_split xs k, val32_split ys k, val32_drop_getD xs k, val32_drop_getD ys k, hd]
  have a := val32_take_lt hx k
  have b : 4294967296 ^ k * (xs.getD k 0 + 4294967296 * val32 (ys.drop (k + 1)) + 1) ≤ 4294967296 ^ k * (ys.getD k 0 + 4294967296 * val32 (ys.drop (k + 1))) := Nat.mul_le_mul_left _ (by omega)
  rw [Nat.mul_add, Nat.mul_one] at b
  omega

set_option maxHeartbeats 2000000 in
theorem compare_any (A B : Option Addr) (n c n' c' : Nat) (xs ys : List Nat) (w : World) (h : Sl w A n c xs) (h' : Sl w B n' c' ys) (hx : Fit32 xs) (hy : Fit32 ys) :
    Calls Try.prog 32 #[.slice A n c, .slice B n' c'] w fun e w' => e = .returned (.int .i64 (cmpN (val32 xs) (val32 ys))) ∧ w = w' := by
  have HA := Lib.hid (fun i => at_any A n c xs i w h)
  have HB := Lib.hid (fun i => at_any B n' c' ys i w h')
  have hl := h.len
  have hl' := h'.len
  have hle := h.le
  have hle' := h'.le
  have hm := h.max
  have hm' := h'.max
  have HX := Lib.hid hx
  have HY := Lib.hid hy
  obtain ⟨K, hK⟩ : ∃ K, K = max n n' := ⟨_, rfl⟩
  have hmax : max (n : Int) (n' : Int) = (K : Int) := by omega
  have hdx : val32 (xs.drop K) = val32 (ys.drop K) := by rw [List.drop_of_length_le (by omega), List.drop_of_length_le (by omega)]
  have HD := Lib.hid hdx
  have hKb : K ≤ 9223372036854775807 := by omega
  clear h h' hx hy hl hl' hK hdx
  go_enter Try.func32, Try.ntmps32
  go_wp2_with fail
  go_loop [5] (fun i => ∃ k : Nat, k ≤ K ∧ i = .int .i64 ((k : Int) - 1) ∧ val32 (xs.drop k) = val32 (ys.drop k)) (fun i => (intOf i + 1).toNat)
  case atStart => exact ⟨K, Nat.le_refl _, rfl, HD.out⟩
  case round =>
    obtain ⟨k, hk, rfl, hd⟩ := hrel
    have HE := Lib.hid hd
    clear hd
    by_cases hk0 : 0 < k
    · obtain ⟨j, hj⟩ : ∃ j, j = k - 1 := ⟨_, rfl⟩
      have hkj : (k : Int) - 1 = (j : Int) := by omega
      have hkj2 : k = j + 1 := by omega
      have hd2 := HE.out
      rw [hkj2] at hd2
      have c1 := HA.out j
      have c2 := HB.out j
      have hlt1 := lt32_at HX.out j hd2
      have hlt2 := lt32_at HY.out j hd2.symm
      have heq : xs.getD j 0 = ys.getD j 0 → val32 (xs.drop j) = val32 (ys.drop j) := by
        intro e
        rw [val32_drop_getD xs j, val32_drop_getD ys j, e, hd2]
      generalize xs.getD j 0 = x at *
      generalize ys.getD j 0 = y at *
      have C1 := Lib.hid c1
      have C2 := Lib.hid c2
      rw [hkj]
      have i1 : (0 : Int) ≤ (j : Int) := by omega
      have hjk : j < k := by omega
      have HJ := Lib.hid hkj2
      clear c1 c2 hd2 hj hkj hkj2 HE
      rcases Nat.lt_trichotomy x y with hlt | he | hgt
      · have e : cmpN (val32 xs) (val32 ys) = -1 := by unfold cmpN; rw [if_pos (hlt1 hlt)]
        have E := Lib.hid e
        clear e hlt1 hlt2 heq
        go_wp2_with (first
          | (go_at_call 37; (with_reducible refine C1.out.mono ?_); rintro e w' ⟨rfl, rfl⟩)
          | (go_at_call 37; (with_reducible refine C2.out.mono ?_); rintro e w' ⟨rfl, rfl⟩))
        go_ret
        exact ⟨by rw [E.out]; rfl, rfl⟩
      · have hq := heq he
        have HQ := Lib.hid hq
        clear hlt1 hlt2 heq hq
        subst he
        go_wp2_with (first
          | (go_at_call 37; (with_reducible refine C1.out.mono ?_); rintro e w' ⟨rfl, rfl⟩)
          | (go_at_call 37; (with_reducible refine C2.out.mono ?_); rintro e w' ⟨rfl, rfl⟩))
        go_round
        case rel => exact ⟨j, by omega, rfl, HQ.out⟩
        case measure => simp [intOf]
      · have e : cmpN (val32 xs) (val32 ys) = 1 := by
          have := hlt2 hgt
          unfold cmpN; rw [if_neg (by omega), if_pos this]
        have E := Lib.hid e
        clear e hlt1 hlt2 heq
        go_wp2_with (first
          | (go_at_call 37; (with_reducible refine C1.out.mono ?_); rintro e w' ⟨rfl, rfl⟩)
          | (go_at_call 37; (with_reducible refine C2.out.mono ?_); rintro e w' ⟨rfl, rfl⟩))
        go_ret
        exact ⟨by rw [E.out]; rfl, rfl⟩
    · obtain rfl : k = 0 := by omega
      have e : cmpN (val32 xs) (val32 ys) = 0 := by
        have := HE.out
        simp only [List.drop_zero] at this
        unfold cmpN; rw [if_neg (by omega), if_neg (by omega)]
      have E := Lib.hid e
      clear e
      go_wp2_with fail
      go_ret
      exact ⟨by rw [E.out]; rfl, rfl⟩
end Go.Proofs.Ytmajmpgcdpbnfaa

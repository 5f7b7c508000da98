/- nat.lopsidedProduct, by its contract: given that smaller products are as they should be. -/
import Derived.Test.YtmajmpgcdpbnfaaNatRow
import Derived.Deep.RegionWith
import Derived.StillTailTactics
import Derived.Deep.RegionHeld3
namespace Go.Proofs.Ytmajmpgcdpbnfaa
open Go.RowKit

/-- Products of fewer limbs than N are as they should be. -/
def ProdOK (N : Nat) : Prop := ∀ (A B : Option Addr) (n c n' c' : Nat) (xs ys : List Nat) (w : World), n + n' < N → Sl w A n c xs → Sl w B n' c' ys →
    Calls Try.prog 41 #[.slice A n c, .slice B n' c'] w fun e w' =>
      ∃ g, e = .returned (.slice (some ⟨g, 0, none⟩) (n + n') (n + n')) ∧ w.heap.size ≤ g ∧ Blk w' g (dig (n + n') (val xs * val ys)) ∧ Below w.heap.size w w'

theorem ProdOK.at_ {N : Nat} (h : ProdOK N) (A B : Option Addr) (n c n' c' : Nat) (xs ys : List Nat) (w : World) (hn : n + n' < N) (h1 : Sl w A n c xs) (h2 : Sl w B n' c' ys) :
    Calls Try.prog 41 #[.slice A n c, .slice B n' c'] w fun e w' =>
      ∃ g, e = .returned (.slice (some ⟨g, 0, none⟩) (n + n') (n + n')) ∧ w.heap.size ≤ g ∧ Blk w' g (dig (n + n') (val xs * val ys)) ∧ Below w.heap.size w w' := h A B n c n' c' xs ys w hn h1 h2

theorem add_add (a : Addr) (k : Nat) (b o : Nat) (h : a = ⟨b, o, none⟩) : a.add k = ⟨b, o + k, none⟩ := by
  subst h
  unfold Addr.add
  by_cases hk : k = 0 <;> simp [hk]

theorem Sl.drew {w : World} {A : Option Addr} {n c : Nat} {xs : List Nat} (h : Sl w A n c xs) : Sl w.drew A n c xs := h

theorem Sl.cutL {w : World} {A : Option Addr} {n c : Nat} {xs : List Nat} (h : Sl w A n c xs) (k : Nat) (hk : k ≤ n) : Sl w A k c (xs.take k) := by
  refine ⟨by rw [List.length_take, ← h.len]; omega, by have := h.le; omega, h.max, h.2.2.2.1, h.rd.take k⟩
theorem Sl.cutR {w : World} {b o n c : Nat} {xs : List Nat} (h : Sl w (some ⟨b, o, none⟩) n c xs) (k : Nat) (hk : k < n) : Sl w (some ⟨b, o + k, none⟩) (n - k) (c - k) (xs.drop k) := by
  have hl := h.len
  have hle := h.le
  have hm := h.max
  refine ⟨by rw [List.length_drop, ← hl], by omega, by omega, (fun e => by cases e), fit_drop h.fit k, ?_⟩
  rcases h.rd.2 with e | ⟨b', o', e, hlt, hc⟩
  · exfalso; rw [e] at hl; simp at hl; omega
  · simp only [Option.some.injEq, Addr.mk.injEq] at e
    obtain ⟨rfl, rfl, -⟩ := e
    refine .inr ⟨b, o + k, rfl, hlt, fun j hj => ?_⟩
    have hj' : k + j < xs.length := by rw [List.length_drop] at hj; omega
    rw [List.getElem_drop, Nat.add_assoc]
    exact hc (k + j) hj'

theorem val_halves (xs : List Nat) (k : Nat) (hk : k ≤ xs.length) : val xs = val (xs.take k) + 18446744073709551616 ^ k * val (xs.drop k) := by
  conv => lhs; rw [← List.take_append_drop k xs]
  rw [val_append, List.length_take, Nat.min_eq_left hk]
theorem part_lt {V P o n K : Nat} (hK : o + n = K) (h : V + 18446744073709551616 ^ o * P < 18446744073709551616 ^ K) : val (dig n (V / 18446744073709551616 ^ o)) + P < 18446744073709551616 ^ n := by
  have hp : 0 < 18446744073709551616 ^ o := Nat.pow_pos (by decide)
  have hd : (V + 18446744073709551616 ^ o * P) / 18446744073709551616 ^ o = V / 18446744073709551616 ^ o + P := Nat.add_mul_div_left _ _ hp
  have h2 : (V + 18446744073709551616 ^ o * P) / 18446744073709551616 ^ o < 18446744073709551616 ^ n := by
    apply Nat.div_lt_of_lt_mul
    rw [← Nat.pow_add, hK]
    exact h
  rw [hd] at h2
  rw [val_dig_of_lt (by omega)]
  exact h2

set_option maxHeartbeats 1000000 in
theorem lopsided_any (N : Nat) (hN : ProdOK N) (A B : Option Addr) (n c n' c' half : Nat) (xs ys : List Nat) (w : World) (h : Sl w A n c xs) (h' : Sl w B n' c' ys) (hn : n ≤ 8796093022208) (hn' : n' ≤ 8796093022208)
    (h0 : 0 < half) (h1 : half < n) (hNN : n + n' ≤ N) :
    Calls Try.prog 54 #[.slice A n c, .slice B n' c', .int .i64 (half : Int)] w fun e w' =>
      e = .returned (.slice (some ⟨w.heap.size, 0, none⟩) (n + n') (n + n')) ∧ Blk w' w.heap.size (dig (n + n') (val xs * val ys)) ∧ Below w.heap.size w w' := by
  obtain ⟨K, hK⟩ : ∃ K, K = n + n' := ⟨_, rfl⟩
  rw [← hK]
  have HK := Lib.hid hK
  have hK1 : n + n' ≤ K := by omega
  have hK2 : K ≤ 17592186044416 := by omega
  have hK3 : K ≤ n + n' := by omega
  obtain ⟨b, o, rfl, hlt, _⟩ := h.at_ (by omega)
  have hcL := h.cutL half (by omega)
  have hcR := h.cutR half h1
  have hle := h.le
  have hmx := h.max
  have hval := val_halves xs half (by rw [← h.len]; omega)
  have htot := row_all xs ys n n' K h.fit h'.fit h.len.symm (by omega)
  rw [List.take_of_length_le (by rw [← h'.len]; exact Nat.le_refl _)] at htot
  rw [hval, Nat.add_mul, Nat.mul_assoc] at htot ⊢
  have hX1 := h.len
  generalize xs.take half = x1 at *
  generalize xs.drop half = x2 at *
  have H := Lib.hid hcL
  have H2 := Lib.hid hcR
  have H' := Lib.hid h'
  have HTOT := Lib.hid htot
  have HN := Lib.hid hN
  clear h h' hK hcL hcR hval htot hX1 hN
  go_enter Try.func54, Try.ntmps54
  go_wp2_with (first
    | (at_make; refine wpList_make_val _ rfl _ _ rfl _ _ _ _ K rfl rfl (by rw [HK.out]; omega) (by rw [HK.out]; omega) (by omega) ?_; intro w1 hb1 hbel1)
    | (go_at_call 41; (with_reducible refine (ProdOK.at_ HN.out (some ⟨b, o, none⟩) B half c n' c' x1 ys w1 (by omega) (H.out.below hbel1) (H'.out.below hbel1)).mono ?_); rintro e w2 ⟨g2, rfl, hg2, hb2, hbel2⟩; have hbel12 := hbel1.trans (hbel2.mono hbel1.size); have hz2 := hb1.below hbel2)
    | ((with_reducible refine wpList_copy_val _ rfl (.tmp 14) (.tmp 19) rfl _ 0 K K (some ⟨g2, 0, none⟩) (half + n') (half + n') rfl rfl K 0 _ hz2 (hb2.sl' (by omega)) (by omega) (by omega) (by decide) ?_); intro w3 hb3 hg3; have hbel3 := hbel12.trans (below_of_grown hg3 hbel12.size (Nat.le_refl _))))
  have hP1 : val x1 * val ys < 18446744073709551616 ^ (half + n') := by
    have := row_all x1 ys half n' (half + n') H.out.fit H'.out.fit H.out.len.symm (Nat.le_refl _)
    rwa [List.take_of_length_le (by rw [← H'.out.len]; exact Nat.le_refl _)] at this
  have hP2 : val x2 * val ys < 18446744073709551616 ^ (n - half + n') := by
    have := row_all x2 ys (n - half) n' (n - half + n') H2.out.fit H'.out.fit H2.out.len.symm (Nat.le_refl _)
    rwa [List.take_of_length_le (by rw [← H'.out.len]; exact Nat.le_refl _)] at this
  rw [val_dig_of_lt hP1, Nat.pow_zero, Nat.one_mul, Nat.zero_add] at hb3
  have hpt := part_lt (V := val x1 * val ys) (P := val x2 * val ys) (o := half) (n := K - half) (K := K) (by omega) HTOT.out
  have hvk : val x1 * val ys < 18446744073709551616 ^ K := Nat.lt_of_lt_of_le hP1 (Nat.pow_le_pow_right (by decide) (by omega))
  have hv2 := val_dig_of_lt hP2
  rw [← hv2] at hpt
  have HB3 := Lib.hid hb3
  have HPT := Lib.hid hpt
  have HVK := Lib.hid hvk
  have HV2 := Lib.hid hv2
  have HSZ : w.heap.size ≤ w3.heap.size := hbel3.size
  clear hb3 hb2 hz2 hb1 hbel1 hbel2 hg3 hP1 hP2 hpt hvk hv2
  have i1 : (0 : Int) ≤ (half : Int) := by omega
  have i2 : (half : Int) ≤ (n : Int) := by omega
  have i3 : (half : Int) ≤ (K : Int) := by omega
  have i4 : (half : Int) ≤ (c : Int) := by omega
  have i5 : (n : Int) ≤ (c : Int) := by omega
  have i6 : ¬ K = half := by omega
  have i7 : ¬ c = half := by omega
  go_region_held3 (fun _ => True) (trivial) (first
    | (go_at_call 41; refine (ProdOK.at_ HN.out (some ⟨b, o + half, none⟩) B (n - half) (c - half) n' c' x2 ys w3.drew (by omega) (H2.out.below hbel3).drew (H'.out.below hbel3).drew).mono ?_; rintro e w4 ⟨g4, rfl, hg4, hb4, hbel4⟩)
    | (go_at_call 36; refine (addTimes_val1 w.heap.size half (K - half) (K - half) K _ (some ⟨g4, 0, none⟩) (n - half + n') (n - half + n') _ w4 (HB3.out.drew.below hbel4) (by omega) (by omega) (hb4.sl' (by omega)) (by omega) (apart_of_ne (by have := HB3.out.lt; have h9 : w3.heap.size ≤ g4 := hg4; omega)) HVK.out HPT.out).mono ?_; rintro e w5 ⟨rfl, hb5, hg5⟩))
  all_goals
    go_wp2
    go_ret
    refine ⟨rfl, ?_, ?_⟩
    · rw [HV2.out] at hb5
      exact hb5
    · exact (hbel3.drew.trans (hbel4.mono hbel3.size)).trans (below_of_grown hg5 (Nat.le_trans hbel3.size hbel4.size) (Nat.le_refl _))
end Go.Proofs.Ytmajmpgcdpbnfaa

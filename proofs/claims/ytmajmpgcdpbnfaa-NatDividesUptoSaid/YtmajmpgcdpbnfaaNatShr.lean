/- nat.Shr, by its contract. Conditions: fewer than 2^43 limbs. -/
import Derived.Test.YtmajmpgcdpbnfaaNatShl
import Derived.Laws.BitsAllLaws
namespace Go.Proofs.Ytmajmpgcdpbnfaa
open Go.RowKit

/-- The limb that is laid at one place. -/
def srLimb (x y d : Nat) : Nat := x / 2 ^ d + y % 2 ^ d * 2 ^ (64 - d)
/-- The limbs when those from j on have been turned. -/
def srL (L : List Nat) (d j : Nat) : List Nat := L.take j ++ dig (L.length - j) (val (L.drop j) / 2 ^ d)

theorem sr_split (x R y d : Nat) (hd : d < 64) (hx : x < 18446744073709551616) (hy : R % 2 ^ d = y % 2 ^ d) :
    (x + 18446744073709551616 * R) / 2 ^ d % 18446744073709551616 = srLimb x y d ∧ (x + 18446744073709551616 * R) / 2 ^ d / 18446744073709551616 = R / 2 ^ d := by
  have hp : 0 < 2 ^ d := Nat.pow_pos (by decide)
  have e : 18446744073709551616 = 2 ^ d * 2 ^ (64 - d) := by rw [← Nat.pow_add, show d + (64 - d) = 64 by omega]
  constructor
  · unfold srLimb
    have h1 : (x + 18446744073709551616 * R) / 2 ^ d = x / 2 ^ d + 2 ^ (64 - d) * R := by
      rw [e, Nat.mul_assoc, Nat.add_mul_div_left _ _ hp]
    rw [h1, ← hy]
    have h2 : R = R % 2 ^ d + 2 ^ d * (R / 2 ^ d) := (Nat.mod_add_div R (2 ^ d)).symm
    have h3 : x / 2 ^ d + 2 ^ (64 - d) * R = x / 2 ^ d + R % 2 ^ d * 2 ^ (64 - d) + 18446744073709551616 * (R / 2 ^ d) := by
      conv => lhs; rw [h2]
      rw [e]
      grind
    rw [h3, Nat.add_mul_mod_self_left, Nat.mod_eq_of_lt]
    have h4 : x / 2 ^ d < 2 ^ (64 - d) := by
      apply Nat.div_lt_of_lt_mul
      rw [← e]; exact hx
    have h5 : R % 2 ^ d + 1 ≤ 2 ^ d := Nat.mod_lt _ hp
    have h6 := Nat.mul_le_mul_right (2 ^ (64 - d)) h5
    rw [← e, Nat.add_mul, Nat.one_mul] at h6
    omega
  · rw [Nat.div_div_eq_div_mul, Nat.mul_comm (2 ^ d), ← Nat.div_div_eq_div_mul]
    congr 1
    omega

theorem srL_start (L : List Nat) (d : Nat) : srL L d L.length = L := by simp [srL, dig]
theorem srL_end (L : List Nat) (d : Nat) : srL L d 0 = dig L.length (val L / 2 ^ d) := by simp [srL]
theorem srL_length (L : List Nat) (d j : Nat) (hj : j ≤ L.length) : (srL L d j).length = L.length := by simp [srL, dig_length]; omega
theorem srL_get (L : List Nat) (d j : Nat) (hj : j < L.length) : (srL L d (j + 1))[j]? = L[j]? := by
  unfold srL
  rw [List.getElem?_append_left (by simp; omega), List.getElem?_take_of_lt (by omega)]
theorem srL_step (L : List Nat) (d j : Nat) (hj : j < L.length) (hL : Fit L) (hd : d < 64) : (srL L d (j + 1)).set j (srLimb (L.getD j 0) (L.getD (j + 1) 0) d) = srL L d j := by
  have hx : L.getD j 0 = L[j] := by rw [List.getD_eq_getElem?_getD, List.getElem?_eq_getElem hj]; rfl
  have hm : val (L.drop (j + 1)) % 2 ^ d = L.getD (j + 1) 0 % 2 ^ d := by
    by_cases h : j + 1 < L.length
    · rw [List.drop_eq_getElem_cons h, val_cons, List.getD_eq_getElem?_getD, List.getElem?_eq_getElem h]
      have e : 18446744073709551616 = 2 ^ d * 2 ^ (64 - d) := by rw [← Nat.pow_add, show d + (64 - d) = 64 by omega]
      rw [e, Nat.mul_assoc, Nat.add_mul_mod_self_left]
      rfl
    · rw [List.drop_of_length_le (by omega), List.getD_eq_getElem?_getD, List.getElem?_eq_none (by omega)]
      rfl
  obtain ⟨s1, s2⟩ := sr_split L[j] (val (L.drop (j + 1))) (L.getD (j + 1) 0) d hd (fit_get hL j hj) hm
  unfold srL
  rw [show L.length - j = (L.length - (j + 1)) + 1 by omega, dig, List.drop_eq_getElem_cons hj, val_cons, s1, s2, hx]
  rw [List.take_succ_eq_append_getElem hj, List.append_assoc, List.set_append_right _ _ (by simp; omega)]
  simp [Nat.min_eq_left (Nat.le_of_lt hj)]

theorem srLimb_lt (x y d : Nat) (hd : d < 64) (hx : x < 18446744073709551616) : srLimb x y d < 18446744073709551616 := by
  have hp : 0 < 2 ^ d := Nat.pow_pos (by decide)
  have e : 18446744073709551616 = 2 ^ d * 2 ^ (64 - d) := by rw [← Nat.pow_add, show d + (64 - d) = 64 by omega]
  have h4 : x / 2 ^ d < 2 ^ (64 - d) := by
    apply Nat.div_lt_of_lt_mul
    rw [← e]; exact hx
  have h5 : y % 2 ^ d + 1 ≤ 2 ^ d := Nat.mod_lt _ hp
  have h6 := Nat.mul_le_mul_right (2 ^ (64 - d)) h5
  rw [← e, Nat.add_mul, Nat.one_mul] at h6
  unfold srLimb
  omega

theorem sr_bits (x y d s : Nat) (hs : s = 64 - d) (hd : d < 64) (hx : x < 18446744073709551616) :
    bits .or .u64 ((x : Int) / 2 ^ d) (IntKind.u64.wrap ((y : Int) * 2 ^ min s 64)) = ((srLimb x y d : Nat) : Int) := by
  have e : 18446744073709551616 = 2 ^ d * 2 ^ s := by rw [← Nat.pow_add, hs, show d + (64 - d) = 64 by omega]
  have h1 : ((x : Int) / 2 ^ d) = ((x / 2 ^ d : Nat) : Int) := by simp
  have h2 : IntKind.u64.wrap ((y : Int) * 2 ^ min s 64) = (((y % 2 ^ d) * 2 ^ s : Nat) : Int) := by
    rw [show min s 64 = s by omega, IntKind.wrap_u64]
    have e3 : ((y : Int) * 2 ^ s) = ((y * 2 ^ s : Nat) : Int) := by simp
    have e4 : (y % 2 ^ d) * 2 ^ s = (y * 2 ^ s) % 18446744073709551616 := by rw [e, Nat.mul_mod_mul_right]
    rw [e3, e4]
    generalize y * 2 ^ s = t
    omega
  have h4 : x / 2 ^ d < 2 ^ s := by
    apply Nat.div_lt_of_lt_mul
    rw [← e]; exact hx
  have hlt := srLimb_lt x y d hd hx
  unfold srLimb at hlt ⊢
  rw [← hs] at hlt ⊢
  rw [h1, h2, u64_or_nat _ _ (Nat.lt_of_le_of_lt (Nat.le_add_right _ _) hlt) (Nat.lt_of_le_of_lt (Nat.le_add_left _ _) hlt)]
  have h5 := Nat.two_pow_add_eq_or_of_lt h4 (y % 2 ^ d)
  rw [Nat.or_comm, Nat.mul_comm, ← h5, Nat.add_comm, Nat.mul_comm]

set_option maxHeartbeats 1000000 in
theorem shr_some (b o n c : Nat) (xs : List Nat) (k : Int) (k0 : Nat) (w : World) (h : Sl w (some ⟨b, o, none⟩) n c xs) (hn : n ≤ 8796093022208) (hk : max k 0 = (k0 : Int)) (hk9 : (k0 : Int) ≤ 9223372036854775807) (hlt : k0 / 64 < n) :
    Calls Try.prog 27 #[.slice (some ⟨b, o, none⟩) n c, .int .i64 k] w fun e w' =>
      ∃ g m d, e = .returned (.slice (some ⟨g, 0, none⟩) m d) ∧ w.heap.size ≤ g ∧ Sl w' (some ⟨g, 0, none⟩) m d (nrm (val xs / 2 ^ k0)) ∧ m ≤ n ∧ Below w.heap.size w w' := by
  have hcut := h.cutR (k0 / 64) hlt
  have hle := h.le
  have hmx := h.max
  have H := Lib.hid h
  have HC := Lib.hid hcut
  clear h hcut
  have i1 : (0 : Int) ≤ (k0 : Int) / 64 := by omega
  have i2 : (k0 : Int) / 64 < (n : Int) := by omega
  have i3 : (k0 : Int) / 64 ≤ (n : Int) := by omega
  have i4 : ((k0 : Int) / 64).toNat = k0 / 64 := by omega
  have i5 : ¬ c = k0 / 64 := by omega
  have hk1 : (k0 : Int) ≤ 9223372036854775807 := hk9
  go_enter Try.func27, Try.ntmps27
  go_wp2_with fail
  refine (norm_any _ (n - k0 / 64) (c - k0 / 64) _ w HC.out (by omega)).mono ?_
  rintro e w1 ⟨rfl, hb1, hbel1⟩
  have hpn : (nrm (val (xs.drop (k0 / 64)))).length ≤ n - k0 / 64 := by rw [HC.out.len]; exact nrm_length_le HC.out.fit
  have hvl := val_nrm (val (xs.drop (k0 / 64)))
  have hfit := fit_nrm (val (xs.drop (k0 / 64)))
  generalize nrm (val (xs.drop (k0 / 64))) = L at *
  obtain ⟨p, hp⟩ : ∃ p, p = L.length := ⟨_, rfl⟩
  obtain ⟨d, hd⟩ : ∃ d, d = k0 % 64 := ⟨_, rfl⟩
  have hd64 : d < 64 := by omega
  have ed : (k0 : Int) % 64 = (d : Int) := by omega
  rw [← hp, ed]
  rw [← hp] at hpn
  have HP := Lib.hid hp
  have HD := Lib.hid hd
  have HVL := Lib.hid hvl
  clear hp hd hvl ed
  have hB0 := srL_start L d
  rw [← hB0] at hb1
  clear hB0
  have HB1 := Lib.hid hb1
  clear hb1
  go_wp2_with fail
  go_loopw [9, 8] (fun i ab wr => ∃ j : Nat, j ≤ p ∧ i = .int .i64 ((j : Int) - 1) ∧ ab = u64v (L.getD j 0) ∧ Blk wr w.heap.size (srL L d j) ∧ Below w.heap.size w wr) (fun i _ _ => (intOf i + 1).toNat)
  case atStart => exact ⟨p, Nat.le_refl _, rfl, by rw [List.getD_eq_getElem?_getD, List.getElem?_eq_none (by rw [HP.out]; exact Nat.le_refl _)]; rfl, by rw [HP.out]; exact HB1.out, hbel1⟩
  case round =>
    obtain ⟨j, hj, rfl, rfl, hb, hbel⟩ := hrel
    clear HB1 hbel1
    by_cases hj0 : 0 < j
    · have hjl : j - 1 < L.length := by rw [← HP.out]; omega
      have hstep := srL_step L d (j - 1) hjl hfit hd64
      have hget := srL_get L d (j - 1) hjl
      have hlen := srL_length L d j (by rw [← HP.out]; exact hj)
      rw [show j - 1 + 1 = j by omega] at hstep hget
      have hc : wr.cell? ⟨w.heap.size, j - 1, none⟩ = some (u64v (L.getD (j - 1) 0)) := by
        rw [hb.cell (j - 1) (by rw [hlen]; exact hjl)]
        have : (srL L d j)[j - 1]'(by rw [hlen]; exact hjl) = L.getD (j - 1) 0 := by
          rw [List.getElem?_eq_getElem (by rw [hlen]; exact hjl), List.getElem?_eq_getElem hjl] at hget
          rw [List.getD_eq_getElem?_getD, List.getElem?_eq_getElem hjl]
          injection hget
        rw [this]
      have hf := hb.frozen (j - 1)
      have hx64 := fit_getD hfit (j - 1)
      have hy64 := fit_getD hfit j
      obtain ⟨x, hx⟩ : ∃ x, x = L.getD (j - 1) 0 := ⟨_, rfl⟩
      obtain ⟨y, hy⟩ : ∃ y, y = L.getD j 0 := ⟨_, rfl⟩
      rw [← hx] at hc hx64 hstep
      rw [← hy] at hy64 hstep
      rw [← hy]
      have HS := Lib.hid hstep
      have HX := Lib.hid hx
      have HB := Lib.hid hb
      clear hstep hget hlen hx hy hb
      have j1 : (0 : Int) ≤ (j : Int) - 1 := by omega
      have j2 : (j : Int) - 1 < (p : Int) := by omega
      have j3 : (0 : Int) ≤ (d : Int) := by omega
      obtain ⟨s, hs⟩ : ∃ s, s = 64 - d := ⟨_, rfl⟩
      have j4 : (0 : Int) ≤ (s : Int) := by omega
      have j5 : IntKind.i64.wrap (64 - (d : Int)) = (s : Int) := by rw [IntKind.wrap_i64]; omega
      have HSS := Lib.hid hs
      clear hs
      go_wp2_with fail
      go_region_held3 (fun _ => True) (trivial) (fail)
      go_wp2_with fail
      rw [sr_bits x y d s HSS.out hd64 hx64]
      have hb2 := HB.out.set_ (j - 1) (srLimb x y d) (srLimb_lt x y d hd64 hx64)
      rw [HS.out] at hb2
      go_roundw
      case rel => exact ⟨j - 1, by omega, by go_num, by rw [HX.out], hb2.drew, (hbel.setCell (p := ⟨w.heap.size, j - 1, none⟩) (Nat.le_refl _) _).drew⟩
      case measure => simp [intOf]; omega
    · obtain rfl : j = 0 := by omega
      have hb' := hb
      rw [srL_end, ← HP.out, HVL.out] at hb'
      clear hb
      have hv : val (xs.drop (k0 / 64)) / 2 ^ d = val xs / 2 ^ k0 := by
        have h1 := val_halves xs (k0 / 64) (by rw [← H.out.len]; omega)
        have h2 := val_lt (fit_take H.out.fit (k0 / 64))
        rw [List.length_take, Nat.min_eq_left (by rw [← H.out.len]; omega)] at h2
        have h3 : val xs / 18446744073709551616 ^ (k0 / 64) = val (xs.drop (k0 / 64)) := by
          rw [h1, Nat.add_mul_div_left _ _ (Nat.pow_pos (by decide)), Nat.div_eq_of_lt h2, Nat.zero_add]
        rw [← h3, Nat.div_div_eq_div_mul, HD.out, two_split]
      have hvlt : val xs / 2 ^ k0 < 18446744073709551616 ^ p := by
        rw [← hv, ← HVL.out]
        have := val_lt hfit
        rw [← HP.out] at this
        exact Nat.lt_of_le_of_lt (Nat.div_le_self _ _) this
      rw [hv] at hb'
      have T := trim_any _ p p _ wr (hb'.sl' (by omega))
      have hs := (hb'.sl' (by omega)).plain
      have hle2 := nrm_len_le hvlt
      rw [val_dig_of_lt hvlt] at T hs
      generalize (nrm (val xs / 2 ^ k0)).length = m at *
      have TT := Lib.hid T
      have HS := Lib.hid hs
      clear T hs hv hvlt hb'
      go_wp2_with (go_at_call 30; refine TT.out.mono ?_; rintro e w' ⟨rfl, rfl⟩)
      go_ret
      exact ⟨w.heap.size, m, p, rfl, Nat.le_refl _, HS.out, by omega, hbel⟩

/-- nat.Shr at every count. -/
theorem shr_at (A : Option Addr) (n c : Nat) (xs : List Nat) (k : Int) (k0 : Nat) (w : World) (h : Sl w A n c xs) (hn : n ≤ 8796093022208) (hk : max k 0 = (k0 : Int)) (hk9 : k ≤ 9223372036854775807) :
    Calls Try.prog 27 #[.slice A n c, .int .i64 k] w fun e w' =>
      ∃ A' m d, e = .returned (.slice A' m d) ∧ Sl w' A' m d (nrm (val xs / 2 ^ k0)) ∧ m ≤ n ∧ Below w.heap.size w w' := by
  by_cases hlt : k0 / 64 < n
  · obtain ⟨b, o, rfl, _, _⟩ := h.at_ (by omega)
    exact (shr_some b o n c xs k k0 w h hn hk (by omega) hlt).mono fun e w' ⟨g, m, d, he, _, hs, hm, hb⟩ => ⟨_, m, d, he, hs, hm, hb⟩
  · have hv : val xs / 2 ^ k0 = 0 := by
      apply Nat.div_eq_of_lt
      have h1 := val_lt h.fit
      rw [← h.len, pow64] at h1
      exact Nat.lt_of_lt_of_le h1 (Nat.pow_le_pow_right (by decide) (by omega))
    rw [hv]
    have hk1 : (k0 : Int) ≤ 9223372036854775807 := by omega
    have i1 : (n : Int) ≤ (k0 : Int) / 64 := by omega
    clear hv h
    go_enter Try.func27, Try.ntmps27
    go_wp2_with fail
    go_ret
    exact ⟨none, 0, 0, rfl, ⟨rfl, Nat.le_refl _, by decide, fun _ => rfl, Rd.nil _ _⟩, Nat.zero_le _, Below.refl _ _⟩
end Go.Proofs.Ytmajmpgcdpbnfaa

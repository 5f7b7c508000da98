/- cleaverref01.Bits, by its contract. -/
import Derived.Test.YtmajmpgcdpbnfaaRefLess
namespace Go.Proofs.Ytmajmpgcdpbnfaa
open Go.RowKit

theorem bitLen_two (t : Nat) (h : t ≠ 0) : bitLen t = 1 + bitLen (t / 2) := by
  unfold bitLen
  rw [if_neg h, Nat.log2_def t]
  by_cases h2 : 2 ≤ t
  · rw [if_pos h2, if_neg (by omega)]; omega
  · obtain rfl : t = 1 := by omega
    simp

/-- The plain limbs' last one tells the bits. -/
theorem bits_last (v : Nat) (k : Nat) (hk : k + 1 = (nrm v).length) : (nrm v).getD k 0 ≠ 0 ∧ bitLen v = 64 * k + bitLen ((nrm v).getD k 0) := by
  have hk' : k < (nrm v).length := by omega
  have e : (nrm v).getD k 0 = (nrm v)[k] := by rw [List.getD_eq_getElem?_getD, List.getElem?_eq_getElem hk']; rfl
  have hs := val_split (nrm v) k hk'
  rw [List.drop_of_length_le (by omega), val_nil, Nat.mul_zero, Nat.add_zero] at hs
  have hl := val_lt (fit_take (fit_nrm v) k)
  rw [List.length_take, Nat.min_eq_left (by omega)] at hl
  have hv := val_nrm v
  have hx0 : (nrm v)[k] ≠ 0 := by
    intro h0
    rw [h0, Nat.mul_zero, Nat.add_zero, hv] at hs
    have hge := nrm_ge v (by intro e0; rw [e0, nrm_zero] at hk; simp at hk)
    rw [← hk, Nat.add_sub_cancel] at hge
    omega
  rw [e]
  refine ⟨hx0, ?_⟩
  rw [hv] at hs
  have hb := bitLen_split _ _ _ hx0 hl
  rw [← hs] at hb
  exact hb

set_option maxHeartbeats 1000000 in
theorem refBits_any (A : Option Addr) (n c : Nat) (xs : List Nat) (w : World) (h : Sl w A n c xs) (hn : n ≤ 17592186044416) :
    Calls Try.prog 20 #[.slice A n c] w fun e w' => e = .returned (.int .i64 (bitLen (val xs) : Int)) ∧ Below w.heap.size w w' := by
  have hpn : (nrm (val xs)).length ≤ n := by rw [h.len]; exact nrm_length_le h.fit
  have H := Lib.hid h
  clear h
  go_enter Try.func20, Try.ntmps20
  go_wp2_with fail
  refine (refNorm_any A n c xs w H.out hn).mono ?_
  rintro e w1 ⟨v, rfl, ho, hbel⟩
  obtain ⟨B, d, rfl, hs, _⟩ := ho.sl
  have hbl := bits_last (val xs)
  have hz : (nrm (val xs)).length = 0 → bitLen (val xs) = 0 := by
    intro e
    rw [(nrm_nil_iff (val xs)).1 (List.eq_nil_of_length_eq_zero e)]
    rfl
  have hfit := fit_nrm (val xs)
  generalize nrm (val xs) = ps at *
  obtain ⟨r, hr⟩ : ∃ r, r = bitLen (val xs) := ⟨_, rfl⟩
  rw [← hr] at hbl hz
  have HR := Lib.hid hr
  obtain ⟨p, hp⟩ : ∃ p, p = ps.length := ⟨_, rfl⟩
  rw [← hp] at hs hpn hz hbl ⊢
  have hsle := hs.le
  have hsm := hs.max
  clear hr ho
  by_cases h0 : p = 0
  · have hr := hz h0
    have HRR := Lib.hid hr
    have hp0 : ((p : Int) == 0) = true := by simp; omega
    clear h0 hz hbl hs hp hr
    go_wp2_with fail
    go_ret
    exact ⟨by rw [← HR.out, HRR.out]; rfl, hbel⟩
  · obtain ⟨b, o, rfl, _, hc⟩ := hs.at_ (by omega)
    have hx := hc (p - 1) (by omega)
    have hl := (hbl (p - 1) (by omega)).2
    have hlt := fit_getD hfit (p - 1)
    generalize ps.getD (p - 1) 0 = x at *
    have hb64 : bitLen x ≤ 64 := by
      have e0 : Lib.bitLen x = bitLen x := lbl_eq x hlt
      rw [← e0]
      exact Lib.bitLen_le x 64 (by omega) (by omega)
    obtain ⟨y, hy⟩ : ∃ y, y = bitLen x := ⟨_, rfl⟩
    rw [← hy] at hl hb64
    have HY := Lib.hid hy
    have HL := Lib.hid hl
    have hp0 : ((p : Int) == 0) = false := by simp; omega
    have hp1 : 0 < p := by omega
    clear h0 hz hbl hs hp hc hl hy
    go_wp2_with fail
    go_loop [5, 4] (fun t q => ∃ tn j : Nat, tn < 18446744073709551616 ∧ t = .int .u64 (tn : Int) ∧ q = .int .i64 (((64 * (p - 1) + j : Nat)) : Int) ∧ j + bitLen tn = y ∧ j ≤ 64) (fun t _ => (intOf t).toNat)
    case atStart => exact ⟨x, 0, hlt, rfl, by go_num, by rw [HY.out]; omega, by omega⟩
    case round =>
      obtain ⟨tn, j, ht, rfl, rfl, hj, hj2⟩ := hrel
      by_cases h0 : tn = 0
      · subst h0
        have hb0 : bitLen 0 = 0 := rfl
        rw [hb0] at hj
        have HJ := Lib.hid hj
        clear hj hb0
        go_wp2_with fail
        go_ret
        exact ⟨ret_int (by rw [← HR.out, HL.out, ← HJ.out]; rfl), hbel⟩
      · have h2 := bitLen_two tn h0
        have hpos : (0 : Int) < (tn : Int) := by omega
        have hj3 : j + 1 + bitLen (tn / 2) = y := by omega
        have HJ3 := Lib.hid hj3
        have hj4 : j + 1 ≤ 64 := by omega
        obtain ⟨s, hs⟩ : ∃ s, s = 64 * (p - 1) + j := ⟨_, rfl⟩
        have hs2 : s ≤ 4611686018427387904 := by omega
        rw [← hs]
        have HSS := Lib.hid hs
        clear h2 hj hj3 hs
        go_wp2_with fail
        have hs := HSS.out
        go_round
        case rel => exact ⟨tn / 2, j + 1, by omega, by go_num, by rw [hs]; go_num, HJ3.out, hj4⟩
        case measure => simp [intOf]; omega
end Go.Proofs.Ytmajmpgcdpbnfaa

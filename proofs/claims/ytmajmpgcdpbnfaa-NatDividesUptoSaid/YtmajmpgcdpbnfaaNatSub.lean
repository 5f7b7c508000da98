/- nat.Sub and nat.Bits, by their contracts. -/
import Derived.Test.YtmajmpgcdpbnfaaNatCmp
namespace Go.Proofs.Ytmajmpgcdpbnfaa
open Go.RowKit

theorem nrm_dig (v : Nat) : nrm v = dig (nrm v).length v := dig_of (fit_nrm v) _ _ rfl (val_nrm v)
theorem len_le_of_le {u v : Nat} (h : u ≤ v) : (nrm u).length ≤ (nrm v).length := by
  rcases Nat.lt_or_ge (nrm v).length (nrm u).length with h1 | h1
  · have := lt_of_len h1; omega
  · exact h1

theorem cmp_below (A B : Option Addr) (n c n' c' : Nat) (xs ys : List Nat) (w : World) (h : Sl w A n c xs) (h' : Sl w B n' c' ys) :
    Calls Try.prog 15 #[.slice A n c, .slice B n' c'] w fun e w' => e = .returned (.int .i64 (cmpN (val xs) (val ys))) ∧ Below w.heap.size w w' :=
  (cmp_any A B n c n' c' xs ys w h h').mono fun e w' ⟨he, d, hw⟩ => ⟨he, by rw [hw]; exact below_drewN (Below.refl _ _) d⟩

set_option maxHeartbeats 1000000 in
theorem sub_lt (A B : Option Addr) (n c n' c' : Nat) (xs ys : List Nat) (w : World) (h : Sl w A n c xs) (h' : Sl w B n' c' ys) (hlt : val xs < val ys) :
    Calls Try.prog 10 #[.slice A n c, .slice B n' c'] w fun e w' => e = .returned (.tuple #[.slice none 0 0, .int .i64 1]) ∧ Below w.heap.size w w' := by
  have hc := cmp_below A B n c n' c' xs ys w h h'
  have er : cmpN (val xs) (val ys) = -1 := by unfold cmpN; rw [if_pos hlt]
  rw [er] at hc
  have HC := Lib.hid hc
  clear h h' hc er hlt
  go_enter Try.func10, Try.ntmps10
  go_wp2_with (go_at_call 15; refine HC.out.mono ?_; rintro e w1 ⟨rfl, hb1⟩)
  go_ret2
  exact ⟨rfl, hb1⟩

set_option maxHeartbeats 1000000 in
theorem sub_ge (A B : Option Addr) (n c n' c' : Nat) (xs ys : List Nat) (w : World) (h : Sl w A n c xs) (h' : Sl w B n' c' ys) (hn : n ≤ 8796093022208) (hle : val ys ≤ val xs) :
    Calls Try.prog 10 #[.slice A n c, .slice B n' c'] w fun e w' => ∃ v, e = .returned (.tuple #[v, .int .i64 0]) ∧ New w' w.heap.size v (nrm (val xs - val ys)) ∧ Below w.heap.size w w' := by
  have hc := cmp_below A B n c n' c' xs ys w h h'
  have er : 0 ≤ cmpN (val xs) (val ys) := by unfold cmpN; rw [if_neg (by omega)]; split <;> omega
  generalize cmpN (val xs) (val ys) = r at *
  have HC := Lib.hid hc
  clear hc
  have hlen := len_le_of_le hle
  have hpn : (nrm (val xs)).length ≤ n := by rw [h.len]; exact nrm_length_le h.fit
  have hdig := nrm_dig (val xs)
  have hvlt := nrm_lt (val xs)
  obtain ⟨p, hp⟩ : ∃ p, p = (nrm (val xs)).length := ⟨_, rfl⟩
  obtain ⟨q, hq⟩ : ∃ q, q = (nrm (val ys)).length := ⟨_, rfl⟩
  have hpl' := h'.plain
  rw [← hp] at hlen hpn hdig hvlt
  rw [← hq] at hlen hpl'
  have HP := Lib.hid hp
  have HQ := Lib.hid hq
  have HD := Lib.hid hdig
  have HV := Lib.hid hvlt
  have HLE := Lib.hid hle
  have H1 := Lib.hid h
  have H2 := Lib.hid h'
  have H3 := Lib.hid hpl'
  have hqc := hpl'.le
  clear h h' hp hq hdig hvlt hle hpl'
  go_enter Try.func10, Try.ntmps10
  go_wp2_with (first
    | (go_at_call 15; refine HC.out.mono ?_; rintro e w1 ⟨rfl, hb1⟩)
    | (go_at_call 17; refine (norm_any A n c xs w1 (H1.out.below hb1) (by omega)).mono ?_; rintro e w2 ⟨rfl, hk2, hb2⟩; rw [HD.out] at hk2; rw [← HP.out]; have hbel2 := hb1.trans (hb2.mono hb1.size))
    | (go_at_call 30; (with_reducible refine (trim_any B n' c' ys w2 (H2.out.below hbel2)).mono ?_); rintro e w' ⟨rfl, rfl⟩; rw [← HQ.out])
    | (go_at_call 29; (with_reducible refine (takeTimes_val1 w1.heap.size p p p (val xs) B q c' _ w2 hk2 rfl (by omega) (H3.out.below hbel2) hlen (H3.out.apart hb1.size) HV.out (by rw [val_nrm]; exact HLE.out)).mono ?_); rintro e w3 ⟨rfl, hk3, hg3⟩; rw [val_nrm] at hk3; have hbel3 := hbel2.trans (below_of_grown hg3 hbel2.size hb1.size))
    | (go_at_call 30; (with_reducible refine (trim_any _ p p _ w3 (hk3.sl' (by omega))).mono ?_); rintro e w' ⟨rfl, rfl⟩))
  go_ret2
  refine ⟨_, rfl, ?_, hbel3⟩
  exact new_of_blk hk3 (by omega) (by have := HV.out; omega) hb1.size

theorem ret_int {k : IntKind} {a b : Int} (h : a = b) : Ending.returned (.int k a) = .returned (.int k b) := by rw [h]

theorem lbl_eq (x : Nat) (h : x < 18446744073709551616) : Lib.bitLen x = bitLen x := by
  induction x using Nat.strongRecOn with
  | _ x ih =>
    by_cases h0 : x = 0
    · subst h0; rfl
    · rw [Lib.bitLen_half x h0 (by simpa using h), ih (x / 2) (by omega) (by omega)]
      unfold bitLen
      rw [if_neg h0, Nat.log2_def x]
      by_cases h2 : 2 ≤ x
      · rw [if_pos h2, if_neg (by omega)]; omega
      · obtain rfl : x = 1 := by omega
        simp

set_option maxHeartbeats 1000000 in
theorem bits_any (A : Option Addr) (n c : Nat) (xs : List Nat) (w : World) (h : Sl w A n c xs) (hn : n ≤ 70368744177664) :
    Calls Try.prog 19 #[.slice A n c] w fun e w' => e = .returned (.int .i64 (bitLen (val xs) : Int)) ∧ w = w' := by
  have HT := Lib.hid (trim_any A n c xs w h)
  have hpl := h.plain
  have hpn : (nrm (val xs)).length ≤ n := by rw [h.len]; exact nrm_length_le h.fit
  have hv := val_nrm (val xs)
  have hfit := fit_nrm (val xs)
  have hlast : ∀ k, k + 1 = (nrm (val xs)).length → (nrm (val xs)).getD k 0 ≠ 0 ∧ bitLen (val xs) = 64 * k + bitLen ((nrm (val xs)).getD k 0) := by
    intro k hk
    have hk' : k < (nrm (val xs)).length := by omega
    have e : (nrm (val xs)).getD k 0 = (nrm (val xs))[k] := by rw [List.getD_eq_getElem?_getD, List.getElem?_eq_getElem hk']; rfl
    have hs := val_split (nrm (val xs)) k hk'
    rw [List.drop_of_length_le (by omega), val_nil, Nat.mul_zero, Nat.add_zero] at hs
    have hl := val_lt (fit_take hfit k)
    rw [List.length_take, Nat.min_eq_left (by omega)] at hl
    have hx0 : (nrm (val xs))[k] ≠ 0 := by
      intro h0
      rw [h0, Nat.mul_zero, Nat.add_zero, hv] at hs
      have hge := nrm_ge (val xs) (by intro e0; rw [e0, nrm_zero] at hk; simp at hk)
      rw [← hk, Nat.add_sub_cancel] at hge
      omega
    rw [e]
    refine ⟨hx0, ?_⟩
    rw [hv] at hs
    have hb := bitLen_split _ _ _ hx0 hl
    rw [← hs] at hb
    exact hb
  have hz : (nrm (val xs)).length = 0 → bitLen (val xs) = 0 := by
    intro e
    rw [(nrm_nil_iff (val xs)).1 (List.eq_nil_of_length_eq_zero e)]
    rfl
  generalize nrm (val xs) = ps at *
  generalize bitLen (val xs) = r at *
  obtain ⟨p, hp⟩ : ∃ p, p = ps.length := ⟨_, rfl⟩
  rw [← hp] at HT hpl hpn hlast hz
  have H := Lib.hid h
  have H3 := Lib.hid hpl
  have HZ := Lib.hid hz
  have HL := Lib.hid hlast
  clear h hpl hlast hz hv
  by_cases h0 : p = 0
  · subst h0
    have hr := HZ.out rfl
    subst hr
    clear HZ HL
    go_enter Try.func19, Try.ntmps19
    go_wp2_with (go_at_call 30; refine HT.out.mono ?_; rintro e w' ⟨rfl, rfl⟩)
    go_ret
    exact ⟨rfl, rfl⟩
  · obtain ⟨b, o, rfl, _, hc⟩ := H3.out.at_ (by omega)
    have hx := hc (p - 1) (by omega)
    have hl := HL.out (p - 1) (by omega)
    have hlt := fit_getD hfit (p - 1)
    generalize ps.getD (p - 1) 0 = x at *
    have hb := Try.bits_Len64 x
    have e0 : Lib.bitLen x = bitLen x := lbl_eq x hlt
    have h64 : bitLen x ≤ 64 := by
      have := bitLen_spec x
      rw [← e0]
      exact Lib.bitLen_le x 64 (by omega) (by omega)
    rw [Int.toNat_natCast, e0] at hb
    have hr := hl.2
    generalize bitLen x = y at *
    subst hr
    have hne : ((p : Int) == 0) = false := by simp; omega
    have HB := Lib.hid hb
    clear hl hc hb HZ HL hp
    go_enter Try.func19, Try.ntmps19
    go_wp2_with (first
      | (go_at_call 30; refine HT.out.mono ?_; rintro e w' ⟨rfl, rfl⟩)
      | (go_at_call 40; refine (HB.out w (by omega) (by omega)).mono ?_; rintro e w' ⟨rfl, hw⟩; subst hw))
    go_ret
    exact ⟨ret_int (by omega), rfl⟩
end Go.Proofs.Ytmajmpgcdpbnfaa

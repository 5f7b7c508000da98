/- The law NatBack, walked: there and back. -/
import Derived.Test.YtmajmpgcdpbnfaaDoorTxtOut
import Derived.Test.YtmajmpgcdpbnfaaDoorNatAt
namespace Go.Proofs.YtmajmpgcdpbnfaaDoor
open Go.RowKit

theorem okText_txt (v : Nat) (h : v < 10 ^ 4096) : okText (txt v) := by
  refine ⟨txt_pos v, txt_len v 4096 h (by decide), txt_digits v, ?_⟩
  by_cases h0 : v = 0
  · right; unfold txt; rw [if_pos h0]; rfl
  · exact .inl (txt_head v h0)
theorem lt_tens (xs : List Nat) (n k m : Nat) (hf : Fit xs) (hl : n = xs.length) (hn : n ≤ k) (hm : 20 * k ≤ m) : val xs < 10 ^ m := by
  have h1 := val_lt hf
  have h2 : 18446744073709551616 ^ xs.length ≤ (10 ^ 20) ^ xs.length := Nat.pow_le_pow_left (by decide) _
  rw [← Nat.pow_mul] at h2
  have h3 : 10 ^ (20 * xs.length) ≤ 10 ^ m := Nat.pow_le_pow_right (by decide) (by omega)
  omega

set_option maxHeartbeats 2000000 in
theorem backCore (A0 : Option Addr) (n0 c0 : Nat) (xs : List Nat) (w : World) (h0 : Sl w A0 n0 c0 xs) (b0 : n0 ≤ 150) :
    ∃ t : ByteArray, (∀ W, Below w.heap.size w W → Calls Tryd.prog 8 #[.slice A0 n0 c0] W fun e w' => e = .returned (.string t) ∧ Below W.heap.size W w') ∧
      (∀ W, Calls Tryd.prog 5 #[.string t] W fun e w' => ∃ A m d, e = .returned (.tuple #[.slice A m d, .int .i64 0]) ∧ Sl w' A m d (nrm (val xs)) ∧ m ≤ 4096 ∧ Below W.heap.size W w') := by
  refine ⟨⟨(txt (val xs)).toArray⟩, fun W hb => text_at A0 n0 c0 xs W (h0.below hb) (by omega), fun W => ?_⟩
  have hok : okText (⟨(txt (val xs)).toArray⟩ : ByteArray).data.toList := okText_txt _ (lt_tens xs n0 150 4096 h0.fit h0.len b0 (by decide))
  have T := parse_ok ⟨(txt (val xs)).toArray⟩ W hok
  have e : hv (⟨(txt (val xs)).toArray⟩ : ByteArray).data.toList = val xs := hv_txt _
  rw [e] at T
  exact T

/-- What is parsed has the text as its own. -/
theorem backText (s : ByteArray) (A : Option Addr) (m d : Nat) (w : World) (hok : okText s.data.toList) (h : Sl w A m d (nrm (hv s.data.toList))) (hm : m ≤ 4096) :
    Calls Tryd.prog 8 #[.slice A m d] w fun e w' => e = .returned (.string s) ∧ Below w.heap.size w w' := by
  have T := text_at A m d _ w h hm
  have e : (⟨(txt (val (nrm (hv s.data.toList)))).toArray⟩ : ByteArray) = s := by
    rw [val_nrm, txt_hv hok.2.2.1 hok.1 hok.2.2.2]
  rw [e] at T
  exact T
theorem textNil (w : World) : Calls Tryd.prog 8 #[.slice none 0 0] w fun e w' => e = .returned (.string ⟨#[48]⟩) ∧ Below w.heap.size w w' :=
  text_at none 0 0 [] w ⟨rfl, Nat.le_refl _, by decide, fun _ => rfl, Rd.nil _ _⟩ (by decide)


set_option maxHeartbeats 4000000 in
theorem walkNatBack (A0 : Option Addr) (n0 c0 : Nat) (xs : List Nat) (s : ByteArray) (w : World)
    (h0 : Sl w A0 n0 c0 xs) (b0 : n0 ≤ 17592186044416) :
    Calls Tryd.prog 4 #[.slice A0 n0 c0, .string s] w fun e w' => e = .returned (.bool true) ∧ Below w.heap.size w w' := by
  have TN := Lib.hid textNil
  by_cases hok : okText s.data.toList
  · have TP := Lib.hid (parse_ok s w hok)
    have TB := Lib.hid (fun A m d W => backText s A m d W hok)
    clear hok
    by_cases hbig : 150 < n0
    · clear h0
      go_enter Tryd.func4, Tryd.ntmps4
      go_wp2_with fail
      refine TP.out.mono ?_
      rintro e w1 ⟨A, m, d, rfl, hs, hm, hb1⟩
      go_wp2_with fail
      refine (TB.out A m d w1 hs hm).mono ?_
      rintro e w2 ⟨rfl, hb2⟩
      have hw2 := hb1.trans (hb2.mono hb1.size)
      clear hs hb1 hb2
      go_wp2_with fail
      refine (TN.out w2).mono ?_
      rintro e w3 ⟨rfl, hb3⟩
      have hw3 := hw2.trans (hb3.mono hw2.size)
      clear hw2 hb3
      go_wp2_with fail
      go_ret
      exact ⟨rfl, hw3⟩
    · obtain ⟨t, T1, T2⟩ := backCore A0 n0 c0 xs w h0 (by omega)
      have TT1 := Lib.hid T1
      have TT2 := Lib.hid T2
      have H0 := Lib.hid h0
      clear T1 T2 h0
      go_enter Tryd.func4, Tryd.ntmps4
      go_wp2_with fail
      refine TP.out.mono ?_
      rintro e w1 ⟨A, m, d, rfl, hs, hm, hb1⟩
      go_wp2_with fail
      refine (TB.out A m d w1 hs hm).mono ?_
      rintro e w2 ⟨rfl, hb2⟩
      have hw2 := hb1.trans (hb2.mono hb1.size)
      clear hs hb1 hb2 TB TP
      go_wp2_with fail
      refine (TT1.out w2 hw2).mono ?_
      rintro e w3 ⟨rfl, hb3⟩
      have hw3 := hw2.trans (hb3.mono hw2.size)
      clear hw2 hb3
      go_wp2_with fail
      refine (TT2.out w3).mono ?_
      rintro e w4 ⟨A4, m4, d4, rfl, hs4, hm4, hb4⟩
      have hw4 := hw3.trans (hb4.mono hw3.size)
      clear hw3 hb4
      go_wp2_with fail
      refine (TN.out w4).mono ?_
      rintro e w5 ⟨rfl, hb5⟩
      replace hs4 := hs4.below hb5
      have hw5 := hw4.trans (hb5.mono hw4.size)
      clear hw4 hb5
      go_wp2_with fail
      refine (norm_at A0 n0 c0 xs w5 (H0.out.below hw5) (by omega)).mono ?_
      rintro e w6 ⟨g6, m6, rfl, -, hs6, hm6, hb6⟩
      replace hs4 := hs4.below hb6
      have hw6 := hw5.trans (hb6.mono hw5.size)
      clear hw5 hb6
      go_wp2_with fail
      refine (same_true A4 (some ⟨g6, 0, none⟩) m4 d4 m6 m6 _ _ w6 hs4 hs6 rfl).mono ?_
      rintro e w7 ⟨rfl, hb7⟩
      have hw7 := hw6.trans (hb7.mono hw6.size)
      clear hw6 hb7 hs4 hs6
      go_wp2_with fail
      go_ret
      exact ⟨rfl, hw7⟩
  · have TP := Lib.hid (parse_bad s w hok)
    clear hok
    by_cases hbig : 150 < n0
    · clear h0
      go_enter Tryd.func4, Tryd.ntmps4
      go_wp2_with fail
      refine TP.out.mono ?_
      rintro e w2 ⟨rfl, rfl⟩
      go_wp2_with fail
      refine (TN.out w).mono ?_
      rintro e w3 ⟨rfl, hb3⟩
      go_wp2_with fail
      go_ret
      exact ⟨rfl, hb3⟩
    · obtain ⟨t, T1, T2⟩ := backCore A0 n0 c0 xs w h0 (by omega)
      have TT1 := Lib.hid T1
      have TT2 := Lib.hid T2
      have H0 := Lib.hid h0
      clear T1 T2 h0
      go_enter Tryd.func4, Tryd.ntmps4
      go_wp2_with fail
      refine TP.out.mono ?_
      rintro e w' ⟨rfl, rfl⟩
      have hw2 : Below w.heap.size w w := Below.refl _ _
      clear TP
      go_wp2_with fail
      refine (TT1.out w hw2).mono ?_
      rintro e w3 ⟨rfl, hb3⟩
      have hw3 := hw2.trans (hb3.mono hw2.size)
      clear hw2 hb3
      go_wp2_with fail
      refine (TT2.out w3).mono ?_
      rintro e w4 ⟨A4, m4, d4, rfl, hs4, hm4, hb4⟩
      have hw4 := hw3.trans (hb4.mono hw3.size)
      clear hw3 hb4
      go_wp2_with fail
      refine (TN.out w4).mono ?_
      rintro e w5 ⟨rfl, hb5⟩
      replace hs4 := hs4.below hb5
      have hw5 := hw4.trans (hb5.mono hw4.size)
      clear hw4 hb5
      go_wp2_with fail
      refine (norm_at A0 n0 c0 xs w5 (H0.out.below hw5) (by omega)).mono ?_
      rintro e w6 ⟨g6, m6, rfl, -, hs6, hm6, hb6⟩
      replace hs4 := hs4.below hb6
      have hw6 := hw5.trans (hb6.mono hw5.size)
      clear hw5 hb6
      go_wp2_with fail
      refine (same_true A4 (some ⟨g6, 0, none⟩) m4 d4 m6 m6 _ _ w6 hs4 hs6 rfl).mono ?_
      rintro e w7 ⟨rfl, hb7⟩
      have hw7 := hw6.trans (hb7.mono hw6.size)
      clear hw6 hb7 hs4 hs6
      go_wp2_with fail
      go_ret
      exact ⟨rfl, hw7⟩
end Go.Proofs.YtmajmpgcdpbnfaaDoor

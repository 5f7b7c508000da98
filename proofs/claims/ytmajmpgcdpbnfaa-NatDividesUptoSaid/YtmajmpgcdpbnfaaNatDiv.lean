/- nat.Div, by its contract: quotient and rest. Conditions: fewer than 2^40 limbs. -/
import Derived.Test.YtmajmpgcdpbnfaaNatDLong
namespace Go.Proofs.Ytmajmpgcdpbnfaa
open Go.RowKit

theorem nrm_last (v k : Nat) (hk : k + 1 = (nrm v).length) : (nrm v).getD k 0 ≠ 0 := by
  have hk' : k < (nrm v).length := by omega
  have e : (nrm v).getD k 0 = (nrm v)[k] := by rw [List.getD_eq_getElem?_getD, List.getElem?_eq_getElem hk']; rfl
  have hs := val_split (nrm v) k hk'
  rw [List.drop_of_length_le (by omega), val_nil, Nat.mul_zero, Nat.add_zero] at hs
  have hl := val_lt (fit_take (fit_nrm v) k)
  rw [List.length_take, Nat.min_eq_left (by omega)] at hl
  rw [e]
  intro h0
  rw [h0, Nat.mul_zero, Nat.add_zero, val_nrm] at hs
  have hge := nrm_ge v (by intro e0; rw [e0, nrm_zero] at hk; simp at hk)
  rw [← hk, Nat.add_sub_cancel] at hge
  omega

theorem nrm_len_zero {v : Nat} (h : v = 0) : (nrm v).length = 0 := by rw [h, nrm_zero]; rfl
theorem nrm_len_pos {v : Nat} (h : v ≠ 0) : 0 < (nrm v).length := by
  rcases Nat.eq_zero_or_pos (nrm v).length with e | e
  · exact absurd ((nrm_nil_iff v).1 (List.eq_nil_of_length_eq_zero e)) h
  · exact e
theorem nrm_one {v : Nat} (h : (nrm v).length = 1) : v < 18446744073709551616 ∧ nrm v = [v] := by
  have h1 := nrm_lt v
  rw [h, Nat.pow_one] at h1
  have h2 := nrm_dig v
  rw [h] at h2
  refine ⟨h1, ?_⟩
  rw [h2]
  simp [dig, Nat.mod_eq_of_lt h1]

set_option maxHeartbeats 1000000 in
theorem div_zero (A B : Option Addr) (n c n' c' : Nat) (xs ys : List Nat) (w : World) (h : Sl w A n c xs) (h' : Sl w B n' c' ys) (h0 : val ys = 0) :
    Calls Try.prog 23 #[.slice A n c, .slice B n' c'] w fun e w' => e = .returned (.tuple #[.slice none 0 0, .slice none 0 0, .int .i64 3]) ∧ w = w' := by
  have T := trim_any A n c xs w h
  have T' := trim_any B n' c' ys w h'
  rw [nrm_len_zero h0] at T'
  have HT := Lib.hid T
  have HT' := Lib.hid T'
  clear h h' T T' h0
  go_enter Try.func23, Try.ntmps23
  go_wp2_with (first
    | (go_at_call 30; (with_reducible refine HT.out.mono ?_); rintro e w' ⟨rfl, rfl⟩)
    | (go_at_call 30; (with_reducible refine HT'.out.mono ?_); rintro e w' ⟨rfl, rfl⟩))
  go_ret3
  exact ⟨rfl, rfl⟩

set_option maxHeartbeats 1000000 in
theorem div_less (A B : Option Addr) (n c n' c' : Nat) (xs ys : List Nat) (w : World) (h : Sl w A n c xs) (h' : Sl w B n' c' ys) (hn : n ≤ 1099511627775) (hlt : val xs < val ys) :
    Calls Try.prog 23 #[.slice A n c, .slice B n' c'] w fun e w' =>
      ∃ A1 m1 d1 A2 m2 d2, e = .returned (.tuple #[.slice A1 m1 d1, .slice A2 m2 d2, .int .i64 0]) ∧ Sl w' A1 m1 d1 (nrm (val xs / val ys)) ∧ Sl w' A2 m2 d2 (nrm (val xs % val ys)) ∧ Below w.heap.size w w' := by
  rw [Nat.div_eq_of_lt hlt, Nat.mod_eq_of_lt hlt]
  have T := trim_any A n c xs w h
  have T' := trim_any B n' c' ys w h'
  have hq := nrm_len_pos (v := val ys) (by omega)
  have hpn : (nrm (val xs)).length ≤ n := by rw [h.len]; exact nrm_length_le h.fit
  have hc := cmp_below A B (nrm (val xs)).length c (nrm (val ys)).length c' _ _ w h.plain h'.plain
  have er : cmpN (val (nrm (val xs))) (val (nrm (val ys))) = -1 := by rw [val_nrm, val_nrm]; unfold cmpN; rw [if_pos hlt]
  rw [er] at hc
  have hpl := h.plain
  obtain ⟨X, hX⟩ : ∃ X, X = val xs := ⟨_, rfl⟩
  rw [← hX] at T hpn hc hpl ⊢
  obtain ⟨p, hp⟩ : ∃ p, p = (nrm X).length := ⟨_, rfl⟩
  obtain ⟨q, hq'⟩ : ∃ q, q = (nrm (val ys)).length := ⟨_, rfl⟩
  rw [← hp] at T hpn hc hpl
  rw [← hq'] at T' hq hc
  have HT := Lib.hid T
  have HT' := Lib.hid T'
  have HC := Lib.hid hc
  have H := Lib.hid hpl
  have HP := Lib.hid hp
  have q1 : ¬ (q : Int) = 0 := by omega
  clear h h' T T' hlt hc hpl er hp hq' hX
  go_enter Try.func23, Try.ntmps23
  go_wp2_with (first
    | (go_at_call 30; (with_reducible refine HT.out.mono ?_); rintro e w' ⟨rfl, rfl⟩)
    | (go_at_call 30; (with_reducible refine HT'.out.mono ?_); rintro e w' ⟨rfl, rfl⟩)
    | (go_at_call 15; (with_reducible refine HC.out.mono ?_); rintro e w1 ⟨rfl, hb1⟩)
    | (go_at_call 17; (with_reducible refine (norm_any A p c _ w1 (H.out.below hb1) (by omega)).mono ?_); rintro e w2 ⟨rfl, hk2, hb2⟩))
  go_ret3
  rw [val_nrm] at hk2
  rw [val_nrm]
  refine ⟨none, 0, 0, _, _, _, rfl, ?_, hk2.sl ?_, hb1.trans (hb2.mono hb1.size)⟩
  · rw [nrm_zero]; exact ⟨rfl, Nat.le_refl _, by decide, fun _ => rfl, Rd.nil _ _⟩
  · rw [← HP.out]; omega

set_option maxHeartbeats 1000000 in
theorem div_limb (A B : Option Addr) (n c n' c' : Nat) (xs ys : List Nat) (w : World) (h : Sl w A n c xs) (h' : Sl w B n' c' ys) (hn : n ≤ 1099511627775) (hle : val ys ≤ val xs) (h1 : (nrm (val ys)).length = 1) :
    Calls Try.prog 23 #[.slice A n c, .slice B n' c'] w fun e w' =>
      ∃ A1 m1 d1 A2 m2 d2, e = .returned (.tuple #[.slice A1 m1 d1, .slice A2 m2 d2, .int .i64 0]) ∧ Sl w' A1 m1 d1 (nrm (val xs / val ys)) ∧ Sl w' A2 m2 d2 (nrm (val xs % val ys)) ∧ Below w.heap.size w w' := by
  have T := trim_any A n c xs w h
  have T' := trim_any B n' c' ys w h'
  have hpn : (nrm (val xs)).length ≤ n := by rw [h.len]; exact nrm_length_le h.fit
  have hc := cmp_below A B (nrm (val xs)).length c (nrm (val ys)).length c' _ _ w h.plain h'.plain
  have er : 0 ≤ cmpN (val (nrm (val xs))) (val (nrm (val ys))) := by rw [val_nrm, val_nrm]; unfold cmpN; rw [if_neg (by omega)]; split <;> omega
  generalize cmpN (val (nrm (val xs))) (val (nrm (val ys))) = r at *
  have hpl := h.plain
  have hpl' := h'.plain
  obtain ⟨hYb, hY1⟩ := nrm_one h1
  obtain ⟨X, hX⟩ : ∃ X, X = val xs := ⟨_, rfl⟩
  obtain ⟨Y, hY⟩ : ∃ Y, Y = val ys := ⟨_, rfl⟩
  rw [← hX] at T hpn hc hpl hle ⊢
  rw [← hY] at T' hc hpl' hle hYb hY1 h1 ⊢
  rw [hY1] at hpl' T' hc
  simp only [List.length_singleton] at hpl' T' hc
  have hY0 : 0 < Y := by
    rcases Nat.eq_zero_or_pos Y with e | e
    · rw [e, nrm_zero] at hY1; cases hY1
    · exact e
  have hdig := nrm_dig X
  have hvlt := nrm_lt X
  obtain ⟨p, hp⟩ : ∃ p, p = (nrm X).length := ⟨_, rfl⟩
  rw [← hp] at T hpn hc hpl hdig hvlt
  obtain ⟨b, o, rfl, _, hcell⟩ := hpl'.at_ (by simp)
  have hcl := hcell 0 (by simp)
  have e00 : [Y].getD 0 0 = Y := rfl
  rw [e00] at hcl
  have HT := Lib.hid T
  have HT' := Lib.hid T'
  have HC := Lib.hid hc
  have H := Lib.hid hpl
  have H' := Lib.hid hpl'
  have HP := Lib.hid hp
  have HD := Lib.hid hdig
  have HV := Lib.hid hvlt
  have HCL := Lib.hid hcl
  have HY0 := Lib.hid hY0
  have HYB := Lib.hid hYb
  clear h h' T T' hle hc hpl hpl' hp hX hY h1 hY1 hdig hvlt hcl hcell e00 hY0 hYb
  go_enter Try.func23, Try.ntmps23
  go_wp2_with (first
    | (go_at_call 30; (with_reducible refine HT.out.mono ?_); rintro e w' ⟨rfl, rfl⟩)
    | (go_at_call 30; (with_reducible refine HT'.out.mono ?_); rintro e w' ⟨rfl, rfl⟩)
    | (go_at_call 15; (with_reducible refine HC.out.mono ?_); rintro e w1 ⟨rfl, hb1⟩))
  refine (norm_any A p c _ w1 (H.out.below hb1) (by omega)).mono ?_
  rintro e w2 ⟨rfl, hk2, hb2⟩
  rw [val_nrm] at hk2 ⊢
  rw [← HP.out]
  rw [HD.out] at hk2
  have hbw := hb1.trans (hb2.mono hb1.size)
  obtain ⟨b2, o2, hbo, _, hcell2⟩ := (H'.out.below hbw).at_ (by simp)
  have hcl2 := hcell2 0 (by simp)
  obtain ⟨rfl, rfl⟩ : b = b2 ∧ o = o2 := by simpa using hbo
  replace hcl2 : w2.cell? ⟨b, o, none⟩ = some (u64v Y) := hcl2
  clear hcell2 hbo
  have DL := divLimb_val w1.heap.size p p p X Y w2 hk2 rfl (by omega) HV.out HY0.out HYB.out
  go_wp2_with (first
    | (go_at_call 42; refine DL.mono ?_; rintro e w3 ⟨rfl, hk3, hg3⟩))
  have hg3w : Below w.heap.size w w3 := hbw.trans (below_of_grown hg3 hbw.size hb1.size)
  have hXY : X / Y < 18446744073709551616 ^ p := Nat.lt_of_le_of_lt (Nat.div_le_self _ _) HV.out
  have T2 := trim_any _ p p _ w3 (hk3.sl' (by omega))
  have s2 := (hk3.sl' (by omega)).plain
  rw [val_dig_of_lt hXY] at T2 s2
  have hRb : X % Y < 18446744073709551616 := Nat.lt_trans (Nat.mod_lt _ HY0.out) HYB.out
  obtain ⟨R, hR⟩ : ∃ R, R = X % Y := ⟨_, rfl⟩
  rw [← hR] at hRb ⊢
  have hlit : Sl (w3.alloc (.cells #[.int .u64 (R : Int)] 28)) (some ⟨w3.heap.size, 0, none⟩) 1 1 [R] := (blk_one w3 R hRb).sl (by simp)
  have T3 := trim_any _ 1 1 _ _ hlit
  have s3 := hlit.plain
  have e3 : val [R] = R := by simp [val]
  rw [e3] at T3 s3
  have hal : Below w3.heap.size w3 (w3.alloc (.cells #[.int .u64 (R : Int)] 28)) := (Below.refl _ _).alloc (Nat.le_refl _) _
  have s2' := s2.below hal
  obtain ⟨q1, hq1⟩ : ∃ q, q = (nrm (X / Y)).length := ⟨_, rfl⟩
  obtain ⟨q2, hq2⟩ : ∃ q, q = (nrm R).length := ⟨_, rfl⟩
  rw [← hq1] at T2 s2'
  rw [← hq2] at T3 s3
  have TT2 := Lib.hid T2
  have TT3 := Lib.hid T3
  have S2 := Lib.hid s2'
  have S3 := Lib.hid s3
  have HR := Lib.hid hR
  have HBW := Lib.hid (hg3w.trans (hal.mono hg3w.size))
  clear T2 T3 s2 s2' s3 hR hlit hal hg3w hq1 hq2 hXY e3 hk3 hg3 hbw hb1 hb2 DL hk2 hRb
  go_wp2_with (first
    | (go_at_call 30; (with_reducible refine TT2.out.mono ?_); rintro e w' ⟨rfl, rfl⟩)
    | (go_at_call 30; refine TT3.out.mono ?_; rintro e w4 ⟨rfl, hw4⟩; subst hw4))
  go_ret3
  exact ⟨_, _, _, _, _, _, rfl, S2.out, (by rw [← HR.out]; exact S3.out), HBW.out⟩

set_option maxHeartbeats 1000000 in
theorem div_many (A B : Option Addr) (n c n' c' : Nat) (xs ys : List Nat) (w : World) (h : Sl w A n c xs) (h' : Sl w B n' c' ys) (hn : n ≤ 1099511627775) (hle : val ys ≤ val xs) (h1 : 2 ≤ (nrm (val ys)).length) :
    Calls Try.prog 23 #[.slice A n c, .slice B n' c'] w fun e w' =>
      ∃ A1 m1 d1 A2 m2 d2, e = .returned (.tuple #[.slice A1 m1 d1, .slice A2 m2 d2, .int .i64 0]) ∧ Sl w' A1 m1 d1 (nrm (val xs / val ys)) ∧ Sl w' A2 m2 d2 (nrm (val xs % val ys)) ∧ Below w.heap.size w w' := by
  have T := trim_any A n c xs w h
  have T' := trim_any B n' c' ys w h'
  have hpn : (nrm (val xs)).length ≤ n := by rw [h.len]; exact nrm_length_le h.fit
  have hlen := len_le_of_le hle
  have hc := cmp_below A B (nrm (val xs)).length c (nrm (val ys)).length c' _ _ w h.plain h'.plain
  have er : 0 ≤ cmpN (val (nrm (val xs))) (val (nrm (val ys))) := by rw [val_nrm, val_nrm]; unfold cmpN; rw [if_neg (by omega)]; split <;> omega
  generalize cmpN (val (nrm (val xs))) (val (nrm (val ys))) = r at *
  have hpl := h.plain
  have hpl' := h'.plain
  obtain ⟨q, hq⟩ : ∃ q, q + 1 = (nrm (val ys)).length := ⟨(nrm (val ys)).length - 1, by omega⟩
  have hlast := Nat.pos_of_ne_zero (nrm_last (val ys) q hq)
  obtain ⟨p, hp⟩ : ∃ p, p = (nrm (val xs)).length := ⟨_, rfl⟩
  rw [← hp] at T hpn hc hpl hlen
  rw [← hq] at T' hc hpl' hlen h1
  have DL := fun w1 (hb : Below w.heap.size w w1) => divLong_at A B p c q c' _ _ w1 (hpl.below hb) (hpl'.below hb) (by omega) hlen (by omega) hlast
  rw [val_nrm, val_nrm] at DL
  have HT := Lib.hid T
  have HT' := Lib.hid T'
  have HC := Lib.hid hc
  have HDL := Lib.hid DL
  have q1 : ¬ (q : Int) + 1 = 0 := by omega
  have q2 : ¬ (q : Int) + 1 = 1 := by omega
  clear h h' T T' hle hc hpl hpl' hp hq hlast DL h1 hlen
  go_enter Try.func23, Try.ntmps23
  go_wp2_with (first
    | (go_at_call 30; (with_reducible refine HT.out.mono ?_); rintro e w' ⟨rfl, rfl⟩)
    | (go_at_call 30; (with_reducible refine HT'.out.mono ?_); rintro e w' ⟨rfl, rfl⟩)
    | (go_at_call 15; (with_reducible refine HC.out.mono ?_); rintro e w1 ⟨rfl, hb1⟩)
    | (go_at_call 43; refine (HDL.out w1 hb1).mono ?_; rintro e w2 ⟨A1, m1, d1, A2, m2, d2, rfl, s1, s2, hb2⟩))
  go_ret3
  exact ⟨_, _, _, _, _, _, rfl, s1, s2, hb1.trans (hb2.mono hb1.size)⟩

/-- nat.Div where the divisor is not nought. -/
theorem div_at (A B : Option Addr) (n c n' c' : Nat) (xs ys : List Nat) (w : World) (h : Sl w A n c xs) (h' : Sl w B n' c' ys) (hn : n ≤ 1099511627775) (hy : val ys ≠ 0) :
    Calls Try.prog 23 #[.slice A n c, .slice B n' c'] w fun e w' =>
      ∃ A1 m1 d1 A2 m2 d2, e = .returned (.tuple #[.slice A1 m1 d1, .slice A2 m2 d2, .int .i64 0]) ∧ Sl w' A1 m1 d1 (nrm (val xs / val ys)) ∧ Sl w' A2 m2 d2 (nrm (val xs % val ys)) ∧ m1 ≤ n ∧ m2 ≤ n ∧ m2 ≤ n' ∧ Below w.heap.size w w' := by
  have hx : (nrm (val xs)).length ≤ n := by rw [h.len]; exact nrm_length_le h.fit
  have hyl : (nrm (val ys)).length ≤ n' := by rw [h'.len]; exact nrm_length_le h'.fit
  have l1 := len_le_of_le (Nat.div_le_self (val xs) (val ys))
  have l2 := len_le_of_le (Nat.mod_le (val xs) (val ys))
  have l3 := len_le_of_le (Nat.le_of_lt (Nat.mod_lt (val xs) (Nat.pos_of_ne_zero hy)))
  have key : Calls Try.prog 23 #[.slice A n c, .slice B n' c'] w fun e w' =>
      ∃ A1 m1 d1 A2 m2 d2, e = .returned (.tuple #[.slice A1 m1 d1, .slice A2 m2 d2, .int .i64 0]) ∧ Sl w' A1 m1 d1 (nrm (val xs / val ys)) ∧ Sl w' A2 m2 d2 (nrm (val xs % val ys)) ∧ Below w.heap.size w w' := by
    rcases Nat.lt_or_ge (val xs) (val ys) with hlt | hge
    · exact div_less A B n c n' c' xs ys w h h' hn hlt
    · by_cases h1 : (nrm (val ys)).length = 1
      · exact div_limb A B n c n' c' xs ys w h h' hn hge h1
      · exact div_many A B n c n' c' xs ys w h h' hn hge (by have := nrm_len_pos hy; omega)
  refine key.mono ?_
  rintro e w' ⟨A1, m1, d1, A2, m2, d2, he, s1, s2, hb⟩
  have t1 := s1.len
  have t2 := s2.len
  exact ⟨A1, m1, d1, A2, m2, d2, he, s1, s2, by omega, by omega, by omega, hb⟩
end Go.Proofs.Ytmajmpgcdpbnfaa

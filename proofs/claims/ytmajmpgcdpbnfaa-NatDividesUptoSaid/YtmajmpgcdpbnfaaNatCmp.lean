/- nat.Cmp, nat.Sub, nat.Bits, by their contracts. -/
import Derived.Test.YtmajmpgcdpbnfaaNatSum
import Derived.Deep.QuietTactic
import Derived.BigQuiet
import Derived.Laws.MathBits
namespace Go.Proofs.Ytmajmpgcdpbnfaa
open Go.RowKit

theorem nrm_ge (v : Nat) (h : v ≠ 0) : 18446744073709551616 ^ ((nrm v).length - 1) ≤ v := by
  induction v using Nat.strongRecOn with
  | ind v ih =>
    rw [nrm_pos v h, List.length_cons, Nat.add_sub_cancel]
    by_cases h0 : v / 18446744073709551616 = 0
    · rw [h0, nrm_zero]; simp; omega
    · have h1 := ih (v / 18446744073709551616) (by omega) h0
      have hp : 0 < (nrm (v / 18446744073709551616)).length := by rw [nrm_pos _ h0]; simp
      have e : 18446744073709551616 ^ (nrm (v / 18446744073709551616)).length = 18446744073709551616 ^ ((nrm (v / 18446744073709551616)).length - 1) * 18446744073709551616 := by rw [← Nat.pow_succ]; congr 1; omega
      rw [e]
      have := Nat.mul_le_mul_right 18446744073709551616 h1
      omega
theorem nrm_lt (v : Nat) : v < 18446744073709551616 ^ (nrm v).length := by
  have := val_lt (fit_nrm v)
  rwa [val_nrm] at this
theorem lt_of_len {u v : Nat} (h : (nrm u).length < (nrm v).length) : u < v := by
  have hv : v ≠ 0 := by intro e; rw [e, nrm_zero] at h; simp at h
  have h1 := nrm_lt u
  have h2 := nrm_ge v hv
  have h3 : 18446744073709551616 ^ (nrm u).length ≤ 18446744073709551616 ^ ((nrm v).length - 1) := Nat.pow_le_pow_right (by decide) (by omega)
  omega
theorem cmp_len {u v : Nat} (h : (nrm u).length ≠ (nrm v).length) : cmpN (nrm u).length (nrm v).length = cmpN u v := by
  unfold cmpN
  rcases Nat.lt_or_gt_of_ne h with h1 | h1
  · have := lt_of_len h1
    rw [if_pos h1, if_pos this]
  · have := lt_of_len h1
    rw [if_neg (by omega), if_pos h1, if_neg (by omega), if_pos this]
theorem val_split (xs : List Nat) (k : Nat) (hk : k < xs.length) : val xs = val (xs.take k) + 18446744073709551616 ^ k * (xs[k] + 18446744073709551616 * val (xs.drop (k + 1))) := by
  conv => lhs; rw [← List.take_append_drop k xs]
  rw [val_append, List.drop_eq_getElem_cons hk, val_cons, List.length_take, Nat.min_eq_left (by omega)]
theorem lt_at {ps qs : List Nat} (hp : Fit ps) (k : Nat) (h1 : k < ps.length) (h2 : k < qs.length) (hd : ps.drop (k + 1) = qs.drop (k + 1)) (h : ps[k] < qs[k]) : val ps < val qs := by
  rw [val_split ps k h1, val_split qs k h2, hd]
  have a := val_lt (fit_take hp k)
  rw [List.length_take, Nat.min_eq_left (by omega)] at a
  have b : 18446744073709551616 ^ k * (ps[k] + 18446744073709551616 * val (qs.drop (k + 1)) + 1) ≤ 18446744073709551616 ^ k * (qs[k] + 18446744073709551616 * val (qs.drop (k + 1))) := Nat.mul_le_mul_left _ (by omega)
  rw [Nat.mul_add, Nat.mul_one] at b
  omega
theorem cmp_at {ps qs : List Nat} (hp : Fit ps) (hq : Fit qs) (k : Nat) (h1 : k < ps.length) (h2 : k < qs.length) (hd : ps.drop (k + 1) = qs.drop (k + 1)) (h : ps[k] ≠ qs[k]) : cmpN ps[k] qs[k] = cmpN (val ps) (val qs) := by
  unfold cmpN
  rcases Nat.lt_or_gt_of_ne h with h3 | h3
  · rw [if_pos h3, if_pos (lt_at hp k h1 h2 hd h3)]
  · have := lt_at hq k h2 h1 hd.symm h3
    rw [if_neg (by omega), if_pos h3, if_neg (by omega), if_pos this]
theorem drop_step {ps qs : List Nat} (k : Nat) (h1 : k < ps.length) (h2 : k < qs.length) (hd : ps.drop (k + 1) = qs.drop (k + 1)) (h : ps[k] = qs[k]) : ps.drop k = qs.drop k := by
  rw [List.drop_eq_getElem_cons h1, List.drop_eq_getElem_cons h2, hd, h]

/-- The cells of a slice that isn't empty. -/
theorem Sl.at_ {w : World} {A : Option Addr} {n c : Nat} {xs : List Nat} (h : Sl w A n c xs) (hn : 0 < n) : ∃ b o, A = some ⟨b, o, none⟩ ∧ b < w.heap.size ∧ ∀ j, j < n → w.cell? ⟨b, o + j, none⟩ = some (u64v (xs.getD j 0)) := by
  rcases h.rd.2 with e | ⟨b, o, rfl, hlt, hc⟩
  · rw [h.len, e] at hn; exact absurd hn (by simp)
  · refine ⟨b, o, rfl, hlt, fun j hj => ?_⟩
    have hj' : j < xs.length := by rw [← h.len]; exact hj
    rw [hc j hj', List.getD_eq_getElem?_getD, List.getElem?_eq_getElem hj']
    rfl

theorem quiet_add_same' {P : Program} {f : FuncId} {args : Array Value} {w : World} {a n : Nat} {v : Value}
    (h : Calls P f args (w.drewN (a + n)) fun e w' => e = .returned v ∧ w.drewN (a + n) = w') :
    Calls P f args (w.drewN (a + n)) fun e w'' => e = .returned v ∧ ∃ m, w'' = w.drewN (a + m) :=
  h.mono fun _ _ ⟨he, hm⟩ => ⟨he, n, hm.symm⟩

set_option maxHeartbeats 1000000 in
theorem cmp_any (A B : Option Addr) (n c n' c' : Nat) (xs ys : List Nat) (w : World) (h : Sl w A n c xs) (h' : Sl w B n' c' ys) :
    Calls Try.prog 15 #[.slice A n c, .slice B n' c'] w fun e w' => e = .returned (.int .i64 (cmpN (val xs) (val ys))) ∧ ∃ d, w' = w.drewN d := by
  have HT := Lib.hid (trim_any A n c xs w h)
  have HT' := Lib.hid (trim_any B n' c' ys w h')
  have hpl := h.plain
  have hpl' := h'.plain
  have hc := h.max
  have hc' := h'.max
  have hlen := @cmp_len (val xs) (val ys)
  have hv : cmpN (val xs) (val ys) = cmpN (val (nrm (val xs))) (val (nrm (val ys))) := by rw [val_nrm, val_nrm]
  have hvv : nrm (val xs) = nrm (val ys) → cmpN (val xs) (val ys) = 0 := by
    intro e
    rw [hv, e]
    unfold cmpN
    rw [if_neg (by omega), if_neg (by omega)]
  have hle := hpl.le
  have hle' := hpl'.le
  generalize nrm (val xs) = ps at *
  generalize nrm (val ys) = qs at *
  obtain ⟨r, hr⟩ : ∃ r, r = cmpN (val xs) (val ys) := ⟨_, rfl⟩
  rw [← hr] at hlen hv hvv ⊢
  obtain ⟨p, hp⟩ : ∃ p, p = ps.length := ⟨_, rfl⟩
  obtain ⟨q, hq⟩ : ∃ q, q = qs.length := ⟨_, rfl⟩
  rw [← hp] at HT hpl hle hlen
  rw [← hq] at HT' hpl' hle' hlen
  have HP := Lib.hid hp
  have HQ := Lib.hid hq
  have HR := Lib.hid hpl
  have HR' := Lib.hid hpl'
  have HL := Lib.hid hlen
  have HV := Lib.hid hv
  have HVV := Lib.hid hvv
  clear h h' hpl hpl' hp hq hlen hr hv hvv
  by_cases hpq : p = q
  · subst hpq
    clear HL
    go_enter Try.func15, Try.ntmps15
    go_wp2_with (first
      | (go_at_call 30; (with_reducible refine HT.out.mono ?_); rintro e w' ⟨rfl, rfl⟩)
      | (go_at_call 30; (with_reducible refine HT'.out.mono ?_); rintro e w' ⟨rfl, rfl⟩))
    go_loopw [5] (fun i wr => ∃ k : Nat, k ≤ p ∧ i = .int .i64 ((k : Int) - 1) ∧ ps.drop k = qs.drop k ∧ ∃ d, wr = w.drewN d) (fun i _ => (intOf i + 1).toNat)
    case atStart => exact ⟨p, Nat.le_refl _, rfl, by rw [List.drop_of_length_le (by rw [← HP.out]; exact Nat.le_refl _), List.drop_of_length_le (by rw [← HQ.out]; exact Nat.le_refl _)], 0, rfl⟩
    case round =>
      obtain ⟨k, hk, rfl, hd, d, hw⟩ := hrel
      have HD := Lib.hid hd
      have HW := Lib.hid hw
      have hcw : ∀ a : Addr, wr.cell? a = w.cell? a := by rw [hw]; exact fun _ => rfl
      have HCW := Lib.hid hcw
      clear hd hw hcw
      by_cases hk0 : 0 < k
      · obtain ⟨b, o, rfl, _, hca⟩ := HR.out.at_ (by omega)
        obtain ⟨b', o', rfl, _, hcb⟩ := HR'.out.at_ (by omega)
        have h1 := hca (k - 1) (by omega)
        have h2 := hcb (k - 1) (by omega)
        rw [← HCW.out] at h1 h2
        have l1 : k - 1 < ps.length := by rw [← HP.out]; omega
        have l2 : k - 1 < qs.length := by rw [← HQ.out]; omega
        have e1 : ps.getD (k - 1) 0 = ps[k - 1] := by rw [List.getD_eq_getElem?_getD, List.getElem?_eq_getElem l1]; rfl
        have e2 : qs.getD (k - 1) 0 = qs[k - 1] := by rw [List.getD_eq_getElem?_getD, List.getElem?_eq_getElem l2]; rfl
        have hd1 : ps.drop (k - 1 + 1) = qs.drop (k - 1 + 1) := by rw [show k - 1 + 1 = k by omega]; exact HD.out
        have hstep := drop_step (k - 1) l1 l2 hd1
        have hcmp := cmp_at HR.out.fit HR'.out.fit (k - 1) l1 l2 hd1
        rw [← HV.out] at hcmp
        rw [e1] at h1
        rw [e2] at h2
        generalize ps[k - 1] = x at *
        generalize qs[k - 1] = y at *
        clear hca hcb e1 e2 hd1
        have b1 : (0 : Int) ≤ (k : Int) - 1 := by omega
        have b2 : (k : Int) - 1 < (p : Int) := by omega
        by_cases hxy : x = y
        · have hs := hstep hxy
          have HS := Lib.hid hs
          clear hs hcmp hstep
          subst hxy
          go_wp2
          go_quiet (fail)
          go_wp2
          go_roundw
          case rel => exact ⟨k - 1, by omega, by go_num, HS.out, _, by rw [HW.out, World.drewN_drewN]⟩
          case measure => simp [intOf]; omega
        · have hc := hcmp hxy
          have HC := Lib.hid hc
          clear hc hcmp hstep
          have hne1 : ((x : Int) != (y : Int)) = true := by simp; omega
          have hne2 : ((x : Int) == (y : Int)) = false := by simp; omega
          go_wp2
          go_quiet (fail)
          go_wp2
          go_quiet ((go_at_call 39; exact quiet_add_same' (cmp64_any _ _ _)))
          go_wp2
          go_ret
          exact ⟨by rw [← HC.out]; rfl, _, by rw [HW.out, World.drewN_drewN, World.drewN_drewN]⟩
      · obtain rfl : k = 0 := by omega
        have hz := HVV.out (by simpa using HD.out)
        have HZ := Lib.hid hz
        clear hz
        go_wp2
        go_ret
        exact ⟨by rw [HZ.out]; rfl, d, HW.out⟩
  · have hl := HL.out hpq
    have HLL := Lib.hid hl
    clear hl HL
    have hne1 : ((p : Int) != (q : Int)) = true := by simp; omega
    have hne2 : ((p : Int) == (q : Int)) = false := by simp; omega
    go_enter Try.func15, Try.ntmps15
    go_wp2_with (first
      | (go_at_call 30; (with_reducible refine HT.out.mono ?_); rintro e w' ⟨rfl, rfl⟩)
      | (go_at_call 30; (with_reducible refine HT'.out.mono ?_); rintro e w' ⟨rfl, rfl⟩)
      | (go_at_call 38; refine (cmpInt_any _ _ _).mono ?_; rintro e w' ⟨rfl, rfl⟩))
    go_ret
    exact ⟨by rw [← HLL.out]; rfl, 0, rfl⟩

/-- nat.Bits: how many bits a number has. -/
theorem bitLen_split (x v : Nat) (k : Nat) (hx : x ≠ 0) (hv : v < 18446744073709551616 ^ k) : bitLen (v + 18446744073709551616 ^ k * x) = 64 * k + bitLen x := by
  have e : 18446744073709551616 ^ k = 2 ^ (64 * k) := by rw [Nat.pow_mul]
  rw [e] at hv ⊢
  have hd : (v + 2 ^ (64 * k) * x) / 2 ^ (64 * k) = x := by rw [Nat.add_mul_div_left _ _ (Nat.pow_pos (by decide)), Nat.div_eq_of_lt hv, Nat.zero_add]
  have := bitLen_shift (v + 2 ^ (64 * k) * x) (64 * k) (by rw [hd]; exact hx)
  rw [this, hd]
end Go.Proofs.Ytmajmpgcdpbnfaa

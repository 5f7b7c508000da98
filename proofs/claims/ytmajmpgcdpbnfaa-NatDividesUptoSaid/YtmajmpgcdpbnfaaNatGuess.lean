/- nat.guess, by its contract. -/
import Derived.Test.YtmajmpgcdpbnfaaNatDLimb
import Derived.Test.YtmajmpgcdpbnfaaNatBits
import Derived.BigQuiet
namespace Go.Proofs.Ytmajmpgcdpbnfaa
open Go.RowKit

/-- What is asked of a guess: not below q0, and with the ends it does not pass over the ends. -/
def Guessed (N3 D q0 l : Nat) : Prop := q0 ≤ l ∧ l < 18446744073709551616 ∧ l * D ≤ N3

set_option maxHeartbeats 2000000 in
theorem guess_at (A B : Option Addr) (n c nr cr : Nat) (rs ys : List Nat) (w : World) (q0 r2 r1 r0 last second : Nat) (h : Sl w A nr cr rs) (h' : Sl w B n c ys) (hnr : nr = n + 1) (hn : 2 ≤ n) (hn9 : n ≤ 1099511627776)
    (e2 : rs.getD n 0 = r2) (e1 : rs.getD (n - 1) 0 = r1) (e0 : rs.getD (n - 2) 0 = r0) (el : ys.getD (n - 1) 0 = last) (es : ys.getD (n - 2) 0 = second)
    (hl0 : 0 < last) (hle : r2 ≤ last) (hqb : q0 < 18446744073709551616)
    (hq : ∀ q, (r2 * 18446744073709551616 + r1) * 18446744073709551616 + r0 < q * (last * 18446744073709551616 + second) → q0 < q) :
    Calls Try.prog 59 #[.slice A nr cr, .slice B n c] w fun e w' =>
      ∃ l : Nat, e = .returned (u64v l) ∧ Guessed ((r2 * 18446744073709551616 + r1) * 18446744073709551616 + r0) (last * 18446744073709551616 + second) q0 l ∧ ∃ k, w' = w.drewN k := by
  obtain ⟨b, o, rfl, _, hc⟩ := h.at_ (by omega)
  obtain ⟨b', o', rfl, _, hc'⟩ := h'.at_ (by omega)
  have c2 := hc n (by omega)
  have c1 := hc (n - 1) (by omega)
  have c0 := hc (n - 2) (by omega)
  have cl := hc' (n - 1) (by omega)
  have cs := hc' (n - 2) (by omega)
  have f2 := fit_getD h.fit n
  have f1 := fit_getD h.fit (n - 1)
  have f0 := fit_getD h.fit (n - 2)
  have fl := fit_getD h'.fit (n - 1)
  have fs := fit_getD h'.fit (n - 2)
  rw [e2] at c2 f2
  rw [e1] at c1 f1
  rw [e0] at c0 f0
  rw [el] at cl fl
  rw [es] at cs fs
  subst hnr
  obtain ⟨n1, hn1⟩ : ∃ n1, n1 = n - 1 := ⟨_, rfl⟩
  obtain ⟨n2, hn2⟩ : ∃ n2, n2 = n - 2 := ⟨_, rfl⟩
  rw [← hn1] at c1 cl
  rw [← hn2] at c0 cs
  have i1 : (0 : Int) ≤ (n1 : Int) := by omega
  have i2 : (0 : Int) ≤ (n2 : Int) := by omega
  have i3 : (n1 : Int) < (n : Int) := by omega
  have i4 : (n2 : Int) < (n : Int) := by omega
  have i5 : (0 : Int) ≤ (n : Int) := by omega
  have i6 : (n : Int) < (n : Int) + 1 := by omega
  have i7 : (n1 : Int) < (n : Int) + 1 := by omega
  have i8 : (n2 : Int) < (n : Int) + 1 := by omega
  have a1 : (n : Int) - 1 = (n1 : Int) := by omega
  have a2 : (n : Int) - 2 = (n2 : Int) := by omega
  have a3 : IntKind.i64.wrap (n1 : Int) = (n1 : Int) := by rw [IntKind.wrap_i64]; omega
  have a4 : IntKind.i64.wrap (n2 : Int) = (n2 : Int) := by rw [IntKind.wrap_i64]; omega
  have HQ := Lib.hid hq
  have HN := Lib.hid hn
  clear hq hc hc' e2 e1 e0 el es h h' hn1 hn2 hn
  go_enter Try.func59, Try.ntmps59
  go_wp2_with fail
  go_quiet (fail)
  have d2 : (w.drewN nq).cell? ⟨b, o + n, none⟩ = some (u64v r2) := c2
  have d1 : (w.drewN nq).cell? ⟨b, o + n1, none⟩ = some (u64v r1) := c1
  have d0 : (w.drewN nq).cell? ⟨b, o + n2, none⟩ = some (u64v r0) := c0
  have hst : r2 < last → q0 ≤ (r2 * 18446744073709551616 + r1) / last := by
    intro hlt
    have h1 := HQ.out ((r2 * 18446744073709551616 + r1) / last + 1) (by
      have h2 := Nat.div_add_mod (r2 * 18446744073709551616 + r1) last
      have h3 := Nat.mod_lt (r2 * 18446744073709551616 + r1) hl0
      have h4 : r2 * 18446744073709551616 + r1 + 1 ≤ ((r2 * 18446744073709551616 + r1) / last + 1) * last := by
        have h6 := Nat.add_lt_add_left h3 (last * ((r2 * 18446744073709551616 + r1) / last))
        rw [h2] at h6
        rw [Nat.add_mul, Nat.one_mul, Nat.mul_comm ((r2 * 18446744073709551616 + r1) / last) last]
        exact h6
      rw [Nat.mul_add, ← Nat.mul_assoc]
      have h5 := Nat.mul_le_mul_right 18446744073709551616 h4
      rw [Nat.add_mul, Nat.one_mul] at h5
      exact Nat.lt_of_lt_of_le (Nat.add_lt_add_left f0 _) (Nat.le_trans h5 (Nat.le_add_right _ _)))
    exact Nat.le_of_lt_succ h1
  have HST := Lib.hid hst
  clear hst
  by_cases hlt : (r2 : Int) < (last : Int)
  · go_wp2_with fail
    go_region_held3 (fun W => W.cell? ⟨b, o + n, none⟩ = some (u64v r2) ∧ W.cell? ⟨b, o + n1, none⟩ = some (u64v r1)) (exact ⟨d2, d1⟩) (first
      | (go_at_call 56; refine (div64_at r2 r1 last _ (by omega) f1 fl).mono ?_; rintro e w' ⟨L, R, rfl, hLR, nq2, rfl⟩; have HLR := Lib.hid hLR; have hLb := hLR.2.2.1; have hRb := hLR.2.2.2; clear hLR))
    go_wp2_with fail
    go_loopw [8, 9, 10] (fun l lf ov wr => ∃ L R v k : Nat, l = u64v L ∧ lf = u64v R ∧ ov = u64v v ∧ GIn r2 r1 last q0 L R v ∧ wr = w.drewN k) (fun l _ _ _ => (intOf l).toNat)
    case atStart => exact ⟨L, R, 0, _, rfl, rfl, rfl, ⟨by rw [HLR.out.1, HLR.out.2.1, Nat.zero_mul, Nat.add_zero, Nat.mul_comm ((r2 * 18446744073709551616 + r1) / last) last]; exact (Nat.div_add_mod _ _).symm, by rw [HLR.out.1]; exact HST.out (by omega), hLb, by omega, by omega⟩, rfl⟩
    case round =>
      obtain ⟨l, lf, v, k, rfl, rfl, rfl, hin, rfl⟩ := hrel
      have x0 : (w.drewN k).cell? ⟨b, o + n2, none⟩ = some (u64v r0) := c0
      have hlb := hin.2.2.1
      have hlfb := hin.2.2.2.1
      have hvb := hin.2.2.2.2
      have HIN := Lib.hid hin
      clear hin
      by_cases hv : v = 0
      · subst hv
        go_wp2_with fail
        refine (mul64_any l second hlb fs _).mono ?_
        rintro e w' ⟨hi, lo, rfl, HX, rfl⟩
        have HX' := Lib.hid HX
        have hhib := HX.1
        have hlob := HX.2.1
        clear HX
        by_cases q1 : (hi : Int) < (lf : Int)
        · have hd := gIn_done (r0 := r0) (second := second) HIN.out fs (.inr (by rw [← HX'.out.2.2]; omega))
          go_wp2_with fail
          go_ret
          exact ⟨l, rfl, ⟨HIN.out.2.1, hlb, hd⟩, k, rfl⟩
        · have q1' : decide ((hi : Int) < (lf : Int)) = false := by simp; omega
          by_cases q2 : hi = lf
          · subst q2
            by_cases q3 : (lo : Int) ≤ (r0 : Int)
            · have hd := gIn_done (r0 := r0) (second := second) HIN.out fs (.inr (by rw [← HX'.out.2.2]; omega))
              go_wp2_with fail
              go_ret
              exact ⟨l, rfl, ⟨HIN.out.2.1, hlb, hd⟩, k, rfl⟩
            · have q3' : decide ((lo : Int) ≤ (r0 : Int)) = false := by simp; omega
              obtain ⟨hl0, hgo⟩ := gIn_down HIN.out fl HQ.out (by rw [← HX'.out.2.2]; omega)
              have HGO := Lib.hid hgo
              clear hgo
              go_wp2_with (simp only [add64_a])
              go_roundw
              case rel => exact ⟨l - 1, (hi + last) % 18446744073709551616, (hi + last) / 18446744073709551616, k, by go_num, rfl, rfl, HGO.out, rfl⟩
              case measure => simp [intOf]; omega
          · have q2' : decide ((hi : Int) = (lf : Int)) = false := by simp; omega
            have q2'' : ((hi : Int) == (lf : Int)) = false := by simp; omega
            obtain ⟨hl0, hgo⟩ := gIn_down HIN.out fl HQ.out (by rw [← HX'.out.2.2]; omega)
            have HGO := Lib.hid hgo
            clear hgo
            go_wp2_with (simp only [add64_a])
            go_roundw
            case rel => exact ⟨l - 1, (lf + last) % 18446744073709551616, (lf + last) / 18446744073709551616, k, by go_num, rfl, rfl, HGO.out, rfl⟩
            case measure => simp [intOf]; omega
      · obtain rfl : v = 1 := by omega
        have hd := gIn_done (r0 := r0) HIN.out fs (.inl rfl)
        go_wp2_with fail
        go_ret
        exact ⟨l, rfl, ⟨HIN.out.2.1, hlb, hd⟩, k, rfl⟩
  · obtain rfl : r2 = last := by omega
    have hgs : GIn r2 r1 r2 q0 18446744073709551615 ((r1 + r2) % 18446744073709551616) ((r1 + r2) / 18446744073709551616) := ⟨by omega, by omega, by decide, Nat.mod_lt _ (by decide), by omega⟩
    have HGS := Lib.hid hgs
    clear hgs
    go_wp2_with (simp only [add64_a])
    go_loopw [8, 9, 10] (fun l lf ov wr => ∃ L R v k : Nat, l = u64v L ∧ lf = u64v R ∧ ov = u64v v ∧ GIn r2 r1 r2 q0 L R v ∧ wr = w.drewN k) (fun l _ _ _ => (intOf l).toNat)
    case atStart => exact ⟨18446744073709551615, (r1 + r2) % 18446744073709551616, (r1 + r2) / 18446744073709551616, _, rfl, rfl, rfl, HGS.out, rfl⟩
    case round =>
      obtain ⟨l, lf, v, k, rfl, rfl, rfl, hin, rfl⟩ := hrel
      have x0 : (w.drewN k).cell? ⟨b, o + n2, none⟩ = some (u64v r0) := c0
      have hlb := hin.2.2.1
      have hlfb := hin.2.2.2.1
      have hvb := hin.2.2.2.2
      have HIN := Lib.hid hin
      clear hin
      by_cases hv : v = 0
      · subst hv
        go_wp2_with fail
        refine (mul64_any l second hlb fs _).mono ?_
        rintro e w' ⟨hi, lo, rfl, HX, rfl⟩
        have HX' := Lib.hid HX
        have hhib := HX.1
        have hlob := HX.2.1
        clear HX
        by_cases q1 : (hi : Int) < (lf : Int)
        · have hd := gIn_done (r0 := r0) (second := second) HIN.out fs (.inr (by rw [← HX'.out.2.2]; omega))
          go_wp2_with fail
          go_ret
          exact ⟨l, rfl, ⟨HIN.out.2.1, hlb, hd⟩, k, rfl⟩
        · have q1' : decide ((hi : Int) < (lf : Int)) = false := by simp; omega
          by_cases q2 : hi = lf
          · subst q2
            by_cases q3 : (lo : Int) ≤ (r0 : Int)
            · have hd := gIn_done (r0 := r0) (second := second) HIN.out fs (.inr (by rw [← HX'.out.2.2]; omega))
              go_wp2_with fail
              go_ret
              exact ⟨l, rfl, ⟨HIN.out.2.1, hlb, hd⟩, k, rfl⟩
            · have q3' : decide ((lo : Int) ≤ (r0 : Int)) = false := by simp; omega
              obtain ⟨hl0, hgo⟩ := gIn_down HIN.out fl HQ.out (by rw [← HX'.out.2.2]; omega)
              have HGO := Lib.hid hgo
              clear hgo
              go_wp2_with (simp only [add64_a])
              go_roundw
              case rel => exact ⟨l - 1, (hi + r2) % 18446744073709551616, (hi + r2) / 18446744073709551616, k, by go_num, rfl, rfl, HGO.out, rfl⟩
              case measure => simp [intOf]; omega
          · have q2' : decide ((hi : Int) = (lf : Int)) = false := by simp; omega
            have q2'' : ((hi : Int) == (lf : Int)) = false := by simp; omega
            obtain ⟨hl0, hgo⟩ := gIn_down HIN.out fl HQ.out (by rw [← HX'.out.2.2]; omega)
            have HGO := Lib.hid hgo
            clear hgo
            go_wp2_with (simp only [add64_a])
            go_roundw
            case rel => exact ⟨l - 1, (lf + r2) % 18446744073709551616, (lf + r2) / 18446744073709551616, k, by go_num, rfl, rfl, HGO.out, rfl⟩
            case measure => simp [intOf]; omega
      · obtain rfl : v = 1 := by omega
        have hd := gIn_done (r0 := r0) HIN.out fs (.inl rfl)
        go_wp2_with fail
        go_ret
        exact ⟨l, rfl, ⟨HIN.out.2.1, hlb, hd⟩, k, rfl⟩
end Go.Proofs.Ytmajmpgcdpbnfaa

/- bits.Div64, by its contract. Condition: the upper limb is less than the divisor. -/
import Derived.Test.YtmajmpgcdpbnfaaDoorDivM
import Derived.Test.YtmajmpgcdpbnfaaDoorRefDig
import Derived.Test.YtmajmpgcdpbnfaaDoorShelf
import Derived.Laws.ShiftsVarLaws
import Derived.Deep.QuietTactic
import Derived.BigQuiet
namespace Go.Proofs.YtmajmpgcdpbnfaaDoor
open Go.RowKit

theorem u64_mul_mod (a b : Nat) : IntKind.u64.wrap ((a : Int) * (b : Int)) = ((a * b % 18446744073709551616 : Nat) : Int) := by
  rw [IntKind.wrap_u64, ← Int.natCast_mul]; omega

theorem div64_zero (lo y : Nat) (w : World) (hlo : lo < 18446744073709551616) (hy0 : 0 < y) (hy : y < 18446744073709551616) :
    Calls Tryd.prog 23 #[.int .u64 0, u64v lo, u64v y] w fun e w' => e = .returned (.tuple #[u64v (lo / y), u64v (lo % y)]) ∧ ∃ nq, w' = w.drewN nq := by
  have h1 : ((y : Int) == 0) = false := by simp; omega
  have h3 : ¬ (y : Int) = 0 := by omega
  have h2 : ¬ (y : Int) ≤ 0 := by omega
  obtain ⟨Q, hQ⟩ : ∃ Q, Q = lo / y := ⟨_, rfl⟩
  obtain ⟨R, hR⟩ : ∃ R, R = lo % y := ⟨_, rfl⟩
  have e3 : (lo : Int) / (y : Int) = (Q : Int) := by rw [hQ]; simp
  have e4 : (lo : Int) % (y : Int) = (R : Int) := by rw [hR]; simp
  have hQb : Q ≤ lo := by rw [hQ]; exact Nat.div_le_self _ _
  rw [← hQ, ← hR]
  unfold u64v
  clear hQ hR
  go_enter Tryd.func23, Tryd.ntmps23
  go_wp2_with fail
  go_quiet (fail)
  go_wp2_with fail
  go_ret2
  refine ⟨?_, _, rfl⟩
  show Ending.returned (.tuple #[.int .u64 (Q : Int), .int .u64 ((lo : Int) % (y : Int))]) = _
  rw [e4]

/-- A limb raised, with what comes up from the one below. -/
theorem up_bits (hi lo s sx : Nat) (hs : s < 64) (hsx : sx = 64 - s) (hh : hi * 2 ^ s < 18446744073709551616) (hlo : lo < 18446744073709551616) :
    bits .or .u64 ((hi * 2 ^ s : Nat) : Int) ((lo : Int) / 2 ^ sx) = ((hi * 2 ^ s + lo / 2 ^ sx : Nat) : Int) ∧ (hi * 18446744073709551616 + lo) * 2 ^ s = (hi * 2 ^ s + lo / 2 ^ sx) * 18446744073709551616 + lo * 2 ^ s % 18446744073709551616 := by
  have e : 18446744073709551616 = 2 ^ s * 2 ^ sx := by rw [← Nat.pow_add, hsx, show s + (64 - s) = 64 by omega]
  have h4 : lo / 2 ^ sx < 2 ^ s := by
    apply Nat.div_lt_of_lt_mul
    rw [Nat.mul_comm, ← e]; exact hlo
  have h1 : ((lo : Int) / 2 ^ sx) = ((lo / 2 ^ sx : Nat) : Int) := by simp
  have h5 := Nat.two_pow_add_eq_or_of_lt h4 hi
  have h6 : lo / 2 ^ sx < 18446744073709551616 := Nat.lt_of_le_of_lt (Nat.div_le_self _ _) hlo
  constructor
  · rw [h1, u64_or_nat _ _ hh h6, Nat.mul_comm hi, h5]
  · have h7 : lo * 2 ^ s / 18446744073709551616 = lo / 2 ^ sx := by
      rw [e, Nat.mul_comm lo, Nat.mul_div_mul_left _ _ (Nat.pow_pos (by decide))]
    have h8 := Nat.div_add_mod (lo * 2 ^ s) 18446744073709551616
    rw [h7] at h8
    rw [Nat.add_mul, Nat.mul_right_comm]
    generalize hi * 2 ^ s = P at *
    generalize lo * 2 ^ s = S at *
    generalize lo / 2 ^ sx = T at *
    omega

set_option maxHeartbeats 40000000 in
set_option maxRecDepth 100000 in
theorem div64_pos (hi lo y : Nat) (w : World) (h0 : 0 < hi) (hlt : hi < y) (hlo : lo < 18446744073709551616) (hy : y < 18446744073709551616) :
    Calls Tryd.prog 23 #[u64v hi, u64v lo, u64v y] w fun e w' =>
      e = .returned (.tuple #[u64v ((hi * 18446744073709551616 + lo) / y), u64v ((hi * 18446744073709551616 + lo) % y)]) ∧ ∃ nq, w' = w.drewN nq := by
  have h1 : ((y : Int) == 0) = false := by simp; omega
  have h3 : ¬ (y : Int) = 0 := by omega
  have h2 : ¬ (y : Int) ≤ (hi : Int) := by omega
  have h4 : ((hi : Int) == 0) = false := by simp; omega
  obtain ⟨s, hs, hs64, hY1, hY2⟩ := raise_top y (by omega) hy
  have HLZ := Lib.hid (Tryd.bits_LeadingZeros64 (y : Int) w (by omega) (by omega))
  have e0 : (64 - (Lib.bitLen (y : Int).toNat : Int)) = (s : Int) := by rw [Int.toNat_natCast, lbl_eq y hy]; omega
  rw [e0] at HLZ
  have e9 : min s 64 = s := by omega
  have e10 : IntKind.u64.wrap (s : Int) = (s : Int) := by rw [IntKind.wrap_u64]; omega
  obtain ⟨sx, hsx⟩ : ∃ sx, sx = 64 - s := ⟨_, rfl⟩
  have e11 : IntKind.u64.wrap (64 - (s : Int)) = (sx : Int) := by rw [IntKind.wrap_u64]; omega
  have e12 : min sx 64 = sx := by omega
  have hp : 0 < 2 ^ s := Nat.pow_pos (by decide)
  have hh : hi * 2 ^ s < y * 2 ^ s := Nat.mul_lt_mul_of_pos_right hlt hp
  obtain ⟨hU, hV⟩ := up_bits hi lo s sx hs64 hsx (by omega) hlo
  obtain ⟨hdiv, hmod⟩ := raised (hi * 18446744073709551616 + lo) y (2 ^ s) hp
  have eP : ((2 : Int) ^ s) = ((2 ^ s : Nat) : Int) := by simp
  have w1 : IntKind.u64.wrap ((y : Int) * 2 ^ s) = ((y * 2 ^ s : Nat) : Int) := by
    rw [eP, u64_mul_mod, Nat.mod_eq_of_lt hY2]
  have w2 : IntKind.u64.wrap ((hi : Int) * 2 ^ s) = ((hi * 2 ^ s : Nat) : Int) := by
    rw [eP, u64_mul_mod, Nat.mod_eq_of_lt (by omega)]
  have w3 : IntKind.u64.wrap ((lo : Int) * 2 ^ s) = ((lo * 2 ^ s % 18446744073709551616 : Nat) : Int) := by
    rw [eP, u64_mul_mod]
  have hUY : hi * 2 ^ s + lo / 2 ^ sx < y * 2 ^ s := by
    have h8 : (hi + 1) * 2 ^ s ≤ y * 2 ^ s := Nat.mul_le_mul_right _ hlt
    have h9 : lo / 2 ^ sx < 2 ^ s := by
      apply Nat.div_lt_of_lt_mul
      rw [← Nat.pow_add, show sx + s = 64 by omega]; exact hlo
    rw [Nat.add_mul, Nat.one_mul] at h8
    omega
  have hTlt : lo * 2 ^ s % 18446744073709551616 < 18446744073709551616 := Nat.mod_lt _ (by decide)
  rw [← hdiv, ← hmod, hV]
  have w4 : ((lo : Int) / 2 ^ sx) = ((lo / 2 ^ sx : Nat) : Int) := by simp
  rw [w4] at hU
  clear e0 hs hsx hdiv hmod hV eP hh hp
  generalize lo * 2 ^ s % 18446744073709551616 = T at *
  generalize hi * 2 ^ s = P at *
  generalize lo / 2 ^ sx = D at *
  generalize y * 2 ^ s = Y at *
  obtain ⟨U, hUe⟩ : ∃ U, U = P + D := ⟨_, rfl⟩
  rw [← hUe] at hU hUY ⊢
  obtain ⟨y1, hy1⟩ : ∃ y1, y1 = Y / 4294967296 := ⟨_, rfl⟩
  obtain ⟨y0, hy0⟩ : ∃ y0, y0 = Y % 4294967296 := ⟨_, rfl⟩
  obtain ⟨t1, ht1⟩ : ∃ t1, t1 = T / 4294967296 := ⟨_, rfl⟩
  obtain ⟨t0, ht0⟩ : ∃ t0, t0 = T % 4294967296 := ⟨_, rfl⟩
  have a1 : (Y : Int) / 4294967296 = (y1 : Int) := by omega
  have a2 : bits .and .u64 (Y : Int) 4294967295 = (y0 : Int) := by rw [and32 Y (by omega), hy0]
  have a3 : (T : Int) / 4294967296 = (t1 : Int) := by omega
  have a4 : bits .and .u64 (T : Int) 4294967295 = (t0 : Int) := by rw [and32 T (by omega), ht0]
  have hYe : Y = y1 * 4294967296 + y0 := by omega
  have hTe : T = t1 * 4294967296 + t0 := by omega
  have hy1a : 2147483648 ≤ y1 := by omega
  have hy1b : y1 < 4294967296 := by omega
  have hy0b : y0 < 4294967296 := by omega
  have ht1b : t1 < 4294967296 := by omega
  have ht0b : t0 < 4294967296 := by omega
  rw [hTe]
  have HYE := Lib.hid hYe
  clear hy1 hy0 ht1 ht0 hTe hYe hUe hTlt hY1
  have hy1p : 0 < y1 := by omega
  have a8 : ¬ (y1 : Int) = 0 := by omega
  have hst := hIn_start (d := t1) HYE.out hy1p hy1b ht1b (by omega : U < 18446744073709551616)
  obtain ⟨q, r, QY, hq, hr, hqb, hr1, hqyb, a5, a6, a7⟩ := quo_wraps U y1 hy1p (by omega)
  rw [← hq, ← hr] at hst
  have HST := Lib.hid hst
  obtain ⟨F, hF⟩ : ∃ F, F = (U * 18446744073709551616 + (t1 * 4294967296 + t0)) / Y := ⟨_, rfl⟩
  obtain ⟨G, hG⟩ : ∃ G, G = (U * 18446744073709551616 + (t1 * 4294967296 + t0)) % Y / 2 ^ s := ⟨_, rfl⟩
  rw [← hF, ← hG]
  have HF := Lib.hid hF
  have HG := Lib.hid hG
  clear hF hG
  unfold u64v
  clear hq hr hst
  go_enter Tryd.func23, Tryd.ntmps23
  go_wp2_with fail
  with_reducible refine HLZ.out.mono ?_
  rintro e w' ⟨rfl, hw⟩
  subst hw
  go_wp2_with fail
  go_loopw [15, 16] (fun i k wr => ∃ qq rr : Nat, i = u64v qq ∧ k = u64v rr ∧ HIn U Y y1 t1 qq rr ∧ wr = w') (fun i _ _ => (intOf i).toNat)
  case atStart => exact ⟨q, r, rfl, rfl, HST.out, rfl⟩
  case round =>
    obtain ⟨qq, rr, rfl, rfl, hin, rfl⟩ := hrel
    have hrr := hin.2.2.1
    have hqb' := hin.2.2.2
    by_cases hge : (4294967296 : Int) ≤ (qq : Int)
    · obtain ⟨hpos, hnext, hstop⟩ := hIn_down HYE.out hin hUY ht1b hy0b (.inl (by omega))
      obtain ⟨qn, hqn⟩ : ∃ qn, qn = qq - 1 := ⟨_, rfl⟩
      rw [← hqn] at hnext hstop
      have k2 : IntKind.u64.wrap ((qq : Int) - 1) = (qn : Int) := by rw [IntKind.wrap_u64]; omega
      have k3 : (qq : Int) - 1 = (qn : Int) := by omega
      have k4 : qn < qq := by omega
      clear hin hqn
      by_cases hbr : (4294967296 : Int) ≤ (rr : Int) + (y1 : Int)
      · have hdone := hstop (by omega)
        clear hstop hnext
        obtain ⟨M1, M3, R, hR, hRe, hRY, hM1, hM3, b1, b3, b4⟩ := rem_wraps U t1 qn Y hdone (by omega) hY2
        have hqnW : qn < 4294967296 := by rw [hdone]; exact Nat.div_lt_of_lt_mul (by omega)
        obtain ⟨q2, r2, QZ, hq2, hr2, hqb2, hr21, hqyb2, c5, c6, c7⟩ := quo_wraps R y1 hy1p (by omega)
        have hst2 := hIn_start (d := t0) HYE.out hy1p hy1b ht0b (by omega : R < 18446744073709551616)
        rw [← hq2, ← hr2] at hst2
        have HST2 := Lib.hid hst2
        have HRE := Lib.hid hRe
        clear hst2 hq2 hr2 hR hRe hdone
        rename World => wo
        go_wp2_with fail
        go_loopw [18, 16] (fun i k wr => ∃ qq rr : Nat, i = u64v qq ∧ k = u64v rr ∧ HIn R Y y1 t0 qq rr ∧ wr = wo) (fun i _ _ => (intOf i).toNat)
        case atStart => exact ⟨q2, r2, rfl, rfl, HST2.out, rfl⟩
        case round =>
          obtain ⟨qq, rr, rfl, rfl, hin, rfl⟩ := hrel
          have hrr := hin.2.2.1
          have hqb' := hin.2.2.2
          by_cases hge : (4294967296 : Int) ≤ (qq : Int)
          · obtain ⟨hpos, hnext, hstop⟩ := hIn_down HYE.out hin hRY ht0b hy0b (.inl (by omega))
            obtain ⟨qm, hqn⟩ : ∃ qm, qm = qq - 1 := ⟨_, rfl⟩
            rw [← hqn] at hnext hstop
            have k2 : IntKind.u64.wrap ((qq : Int) - 1) = (qm : Int) := by rw [IntKind.wrap_u64]; omega
            have k3 : (qq : Int) - 1 = (qm : Int) := by omega
            have k4 : qm < qq := by omega
            clear hin hqn
            by_cases hbr : (4294967296 : Int) ≤ (rr : Int) + (y1 : Int)
            · have hdone2 := hstop (by omega)
              clear hstop hnext
              obtain ⟨M5, M6, R0, hR0, hR0e, hR0Y, hM5, hM6, g1, g3, g4⟩ := rem_wraps R t0 qm Y hdone2 (by omega) hY2
              have hqmW : qm < 4294967296 := by rw [hdone2]; exact Nat.div_lt_of_lt_mul (by omega)
              obtain ⟨hend1, hend2⟩ := two_halves rfl HRE.out hR0e hR0Y
              have HEND := Lib.hid (And.intro hend1 hend2)
              obtain ⟨Z, hZ⟩ : ∃ Z, Z = R0 / 2 ^ s := ⟨_, rfl⟩
              have g5 : (R0 : Int) / 2 ^ s = (Z : Int) := by rw [hZ]; simp
              have HZ := Lib.hid hZ
              clear hend1 hend2 hR0 hR0e hdone2 hZ
              go_wp2_with fail
              go_ret2
              have fF : F = qn * 4294967296 + qm := HF.out.trans HEND.out.1
              have fG : G = Z := HG.out.trans (by rw [HEND.out.2, HZ.out])
              rw [fF, fG]
              exact ⟨by simp, 0, rfl⟩
            · have HNX2 := Lib.hid (hnext (by omega))
              clear hstop hnext
              go_wp2_with fail
              go_roundw
              case rel => exact ⟨qm, rr + y1, rfl, by go_num, HNX2.out, trivial⟩
              case measure => simp [intOf]; omega
          · have hge2 : decide ((4294967296 : Int) ≤ (qq : Int)) = false := by simp; omega
            obtain ⟨S, hS⟩ : ∃ S, S = qq * y0 := ⟨_, rfl⟩
            have hSb : qq * y0 ≤ 4294967295 * 4294967295 := Nat.mul_le_mul (by omega) (by omega)
            have k1 : IntKind.u64.wrap ((qq : Int) * (y0 : Int)) = (S : Int) := by rw [wrap_mul, Nat.mod_eq_of_lt (by omega), hS]
            rw [← hS] at hSb
            by_cases hgt : (4294967296 : Int) * (rr : Int) + (t0 : Int) < (S : Int)
            · obtain ⟨hpos, hnext, hstop⟩ := hIn_down HYE.out hin hRY ht0b hy0b (.inr (by rw [← hS]; omega))
              clear hS
              obtain ⟨qm, hqn⟩ : ∃ qm, qm = qq - 1 := ⟨_, rfl⟩
              rw [← hqn] at hnext hstop
              have k2 : IntKind.u64.wrap ((qq : Int) - 1) = (qm : Int) := by rw [IntKind.wrap_u64]; omega
              have k3 : (qq : Int) - 1 = (qm : Int) := by omega
              have k4 : qm < qq := by omega
              clear hin hqn
              by_cases hbr : (4294967296 : Int) ≤ (rr : Int) + (y1 : Int)
              · have hdone2 := hstop (by omega)
                clear hstop hnext
                obtain ⟨M5, M6, R0, hR0, hR0e, hR0Y, hM5, hM6, g1, g3, g4⟩ := rem_wraps R t0 qm Y hdone2 (by omega) hY2
                have hqmW : qm < 4294967296 := by rw [hdone2]; exact Nat.div_lt_of_lt_mul (by omega)
                obtain ⟨hend1, hend2⟩ := two_halves rfl HRE.out hR0e hR0Y
                have HEND := Lib.hid (And.intro hend1 hend2)
                obtain ⟨Z, hZ⟩ : ∃ Z, Z = R0 / 2 ^ s := ⟨_, rfl⟩
                have g5 : (R0 : Int) / 2 ^ s = (Z : Int) := by rw [hZ]; simp
                have HZ := Lib.hid hZ
                clear hend1 hend2 hR0 hR0e hdone2 hZ
                go_wp2_with fail
                go_ret2
                have fF : F = qn * 4294967296 + qm := HF.out.trans HEND.out.1
                have fG : G = Z := HG.out.trans (by rw [HEND.out.2, HZ.out])
                rw [fF, fG]
                exact ⟨by simp, 0, rfl⟩
              · have HNX2 := Lib.hid (hnext (by omega))
                clear hstop hnext
                go_wp2_with fail
                go_roundw
                case rel => exact ⟨qm, rr + y1, rfl, by go_num, HNX2.out, trivial⟩
                case measure => simp [intOf]; omega
            · have hdone2 := hIn_done HYE.out hin hRY (by rw [← hS]; omega)
              clear hin hS
              obtain ⟨qm, hqn⟩ : ∃ qm, qm = qq := ⟨_, rfl⟩
              subst hqn
              obtain ⟨M5, M6, R0, hR0, hR0e, hR0Y, hM5, hM6, g1, g3, g4⟩ := rem_wraps R t0 qm Y hdone2 (by omega) hY2
              have hqmW : qm < 4294967296 := by rw [hdone2]; exact Nat.div_lt_of_lt_mul (by omega)
              obtain ⟨hend1, hend2⟩ := two_halves rfl HRE.out hR0e hR0Y
              have HEND := Lib.hid (And.intro hend1 hend2)
              obtain ⟨Z, hZ⟩ : ∃ Z, Z = R0 / 2 ^ s := ⟨_, rfl⟩
              have g5 : (R0 : Int) / 2 ^ s = (Z : Int) := by rw [hZ]; simp
              have HZ := Lib.hid hZ
              clear hend1 hend2 hR0 hR0e hdone2 hZ
              go_wp2_with fail
              go_ret2
              have fF : F = qn * 4294967296 + qm := HF.out.trans HEND.out.1
              have fG : G = Z := HG.out.trans (by rw [HEND.out.2, HZ.out])
              rw [fF, fG]
              exact ⟨by simp, 0, rfl⟩
      · have HNX := Lib.hid (hnext (by omega))
        clear hstop hnext
        go_wp2_with fail
        go_roundw
        case rel => exact ⟨qn, rr + y1, rfl, by go_num, HNX.out, trivial⟩
        case measure => simp [intOf]; omega
    · have hge2 : decide ((4294967296 : Int) ≤ (qq : Int)) = false := by simp; omega
      obtain ⟨S, hS⟩ : ∃ S, S = qq * y0 := ⟨_, rfl⟩
      have hSb : qq * y0 ≤ 4294967295 * 4294967295 := Nat.mul_le_mul (by omega) (by omega)
      have k1 : IntKind.u64.wrap ((qq : Int) * (y0 : Int)) = (S : Int) := by rw [wrap_mul, Nat.mod_eq_of_lt (by omega), hS]
      rw [← hS] at hSb
      by_cases hgt : (4294967296 : Int) * (rr : Int) + (t1 : Int) < (S : Int)
      · obtain ⟨hpos, hnext, hstop⟩ := hIn_down HYE.out hin hUY ht1b hy0b (.inr (by rw [← hS]; omega))
        clear hS
        obtain ⟨qn, hqn⟩ : ∃ qn, qn = qq - 1 := ⟨_, rfl⟩
        rw [← hqn] at hnext hstop
        have k2 : IntKind.u64.wrap ((qq : Int) - 1) = (qn : Int) := by rw [IntKind.wrap_u64]; omega
        have k3 : (qq : Int) - 1 = (qn : Int) := by omega
        have k4 : qn < qq := by omega
        clear hin hqn
        by_cases hbr : (4294967296 : Int) ≤ (rr : Int) + (y1 : Int)
        · have hdone := hstop (by omega)
          clear hstop hnext
          obtain ⟨M1, M3, R, hR, hRe, hRY, hM1, hM3, b1, b3, b4⟩ := rem_wraps U t1 qn Y hdone (by omega) hY2
          have hqnW : qn < 4294967296 := by rw [hdone]; exact Nat.div_lt_of_lt_mul (by omega)
          obtain ⟨q2, r2, QZ, hq2, hr2, hqb2, hr21, hqyb2, c5, c6, c7⟩ := quo_wraps R y1 hy1p (by omega)
          have hst2 := hIn_start (d := t0) HYE.out hy1p hy1b ht0b (by omega : R < 18446744073709551616)
          rw [← hq2, ← hr2] at hst2
          have HST2 := Lib.hid hst2
          have HRE := Lib.hid hRe
          clear hst2 hq2 hr2 hR hRe hdone
          rename World => wo
          go_wp2_with fail
          go_loopw [18, 16] (fun i k wr => ∃ qq rr : Nat, i = u64v qq ∧ k = u64v rr ∧ HIn R Y y1 t0 qq rr ∧ wr = wo) (fun i _ _ => (intOf i).toNat)
          case atStart => exact ⟨q2, r2, rfl, rfl, HST2.out, rfl⟩
          case round =>
            obtain ⟨qq, rr, rfl, rfl, hin, rfl⟩ := hrel
            have hrr := hin.2.2.1
            have hqb' := hin.2.2.2
            by_cases hge : (4294967296 : Int) ≤ (qq : Int)
            · obtain ⟨hpos, hnext, hstop⟩ := hIn_down HYE.out hin hRY ht0b hy0b (.inl (by omega))
              obtain ⟨qm, hqn⟩ : ∃ qm, qm = qq - 1 := ⟨_, rfl⟩
              rw [← hqn] at hnext hstop
              have k2 : IntKind.u64.wrap ((qq : Int) - 1) = (qm : Int) := by rw [IntKind.wrap_u64]; omega
              have k3 : (qq : Int) - 1 = (qm : Int) := by omega
              have k4 : qm < qq := by omega
              clear hin hqn
              by_cases hbr : (4294967296 : Int) ≤ (rr : Int) + (y1 : Int)
              · have hdone2 := hstop (by omega)
                clear hstop hnext
                obtain ⟨M5, M6, R0, hR0, hR0e, hR0Y, hM5, hM6, g1, g3, g4⟩ := rem_wraps R t0 qm Y hdone2 (by omega) hY2
                have hqmW : qm < 4294967296 := by rw [hdone2]; exact Nat.div_lt_of_lt_mul (by omega)
                obtain ⟨hend1, hend2⟩ := two_halves rfl HRE.out hR0e hR0Y
                have HEND := Lib.hid (And.intro hend1 hend2)
                obtain ⟨Z, hZ⟩ : ∃ Z, Z = R0 / 2 ^ s := ⟨_, rfl⟩
                have g5 : (R0 : Int) / 2 ^ s = (Z : Int) := by rw [hZ]; simp
                have HZ := Lib.hid hZ
                clear hend1 hend2 hR0 hR0e hdone2 hZ
                go_wp2_with fail
                go_ret2
                have fF : F = qn * 4294967296 + qm := HF.out.trans HEND.out.1
                have fG : G = Z := HG.out.trans (by rw [HEND.out.2, HZ.out])
                rw [fF, fG]
                exact ⟨by simp, 0, rfl⟩
              · have HNX2 := Lib.hid (hnext (by omega))
                clear hstop hnext
                go_wp2_with fail
                go_roundw
                case rel => exact ⟨qm, rr + y1, rfl, by go_num, HNX2.out, trivial⟩
                case measure => simp [intOf]; omega
            · have hge2 : decide ((4294967296 : Int) ≤ (qq : Int)) = false := by simp; omega
              obtain ⟨S, hS⟩ : ∃ S, S = qq * y0 := ⟨_, rfl⟩
              have hSb : qq * y0 ≤ 4294967295 * 4294967295 := Nat.mul_le_mul (by omega) (by omega)
              have k1 : IntKind.u64.wrap ((qq : Int) * (y0 : Int)) = (S : Int) := by rw [wrap_mul, Nat.mod_eq_of_lt (by omega), hS]
              rw [← hS] at hSb
              by_cases hgt : (4294967296 : Int) * (rr : Int) + (t0 : Int) < (S : Int)
              · obtain ⟨hpos, hnext, hstop⟩ := hIn_down HYE.out hin hRY ht0b hy0b (.inr (by rw [← hS]; omega))
                clear hS
                obtain ⟨qm, hqn⟩ : ∃ qm, qm = qq - 1 := ⟨_, rfl⟩
                rw [← hqn] at hnext hstop
                have k2 : IntKind.u64.wrap ((qq : Int) - 1) = (qm : Int) := by rw [IntKind.wrap_u64]; omega
                have k3 : (qq : Int) - 1 = (qm : Int) := by omega
                have k4 : qm < qq := by omega
                clear hin hqn
                by_cases hbr : (4294967296 : Int) ≤ (rr : Int) + (y1 : Int)
                · have hdone2 := hstop (by omega)
                  clear hstop hnext
                  obtain ⟨M5, M6, R0, hR0, hR0e, hR0Y, hM5, hM6, g1, g3, g4⟩ := rem_wraps R t0 qm Y hdone2 (by omega) hY2
                  have hqmW : qm < 4294967296 := by rw [hdone2]; exact Nat.div_lt_of_lt_mul (by omega)
                  obtain ⟨hend1, hend2⟩ := two_halves rfl HRE.out hR0e hR0Y
                  have HEND := Lib.hid (And.intro hend1 hend2)
                  obtain ⟨Z, hZ⟩ : ∃ Z, Z = R0 / 2 ^ s := ⟨_, rfl⟩
                  have g5 : (R0 : Int) / 2 ^ s = (Z : Int) := by rw [hZ]; simp
                  have HZ := Lib.hid hZ
                  clear hend1 hend2 hR0 hR0e hdone2 hZ
                  go_wp2_with fail
                  go_ret2
                  have fF : F = qn * 4294967296 + qm := HF.out.trans HEND.out.1
                  have fG : G = Z := HG.out.trans (by rw [HEND.out.2, HZ.out])
                  rw [fF, fG]
                  exact ⟨by simp, 0, rfl⟩
                · have HNX2 := Lib.hid (hnext (by omega))
                  clear hstop hnext
                  go_wp2_with fail
                  go_roundw
                  case rel => exact ⟨qm, rr + y1, rfl, by go_num, HNX2.out, trivial⟩
                  case measure => simp [intOf]; omega
              · have hdone2 := hIn_done HYE.out hin hRY (by rw [← hS]; omega)
                clear hin hS
                obtain ⟨qm, hqn⟩ : ∃ qm, qm = qq := ⟨_, rfl⟩
                subst hqn
                obtain ⟨M5, M6, R0, hR0, hR0e, hR0Y, hM5, hM6, g1, g3, g4⟩ := rem_wraps R t0 qm Y hdone2 (by omega) hY2
                have hqmW : qm < 4294967296 := by rw [hdone2]; exact Nat.div_lt_of_lt_mul (by omega)
                obtain ⟨hend1, hend2⟩ := two_halves rfl HRE.out hR0e hR0Y
                have HEND := Lib.hid (And.intro hend1 hend2)
                obtain ⟨Z, hZ⟩ : ∃ Z, Z = R0 / 2 ^ s := ⟨_, rfl⟩
                have g5 : (R0 : Int) / 2 ^ s = (Z : Int) := by rw [hZ]; simp
                have HZ := Lib.hid hZ
                clear hend1 hend2 hR0 hR0e hdone2 hZ
                go_wp2_with fail
                go_ret2
                have fF : F = qn * 4294967296 + qm := HF.out.trans HEND.out.1
                have fG : G = Z := HG.out.trans (by rw [HEND.out.2, HZ.out])
                rw [fF, fG]
                exact ⟨by simp, 0, rfl⟩
        · have HNX := Lib.hid (hnext (by omega))
          clear hstop hnext
          go_wp2_with fail
          go_roundw
          case rel => exact ⟨qn, rr + y1, rfl, by go_num, HNX.out, trivial⟩
          case measure => simp [intOf]; omega
      · have hdone := hIn_done HYE.out hin hUY (by rw [← hS]; omega)
        clear hin hS
        obtain ⟨qn, hqn⟩ : ∃ qn, qn = qq := ⟨_, rfl⟩
        subst hqn
        obtain ⟨M1, M3, R, hR, hRe, hRY, hM1, hM3, b1, b3, b4⟩ := rem_wraps U t1 qn Y hdone (by omega) hY2
        have hqnW : qn < 4294967296 := by rw [hdone]; exact Nat.div_lt_of_lt_mul (by omega)
        obtain ⟨q2, r2, QZ, hq2, hr2, hqb2, hr21, hqyb2, c5, c6, c7⟩ := quo_wraps R y1 hy1p (by omega)
        have hst2 := hIn_start (d := t0) HYE.out hy1p hy1b ht0b (by omega : R < 18446744073709551616)
        rw [← hq2, ← hr2] at hst2
        have HST2 := Lib.hid hst2
        have HRE := Lib.hid hRe
        clear hst2 hq2 hr2 hR hRe hdone
        rename World => wo
        go_wp2_with fail
        go_loopw [18, 16] (fun i k wr => ∃ qq rr : Nat, i = u64v qq ∧ k = u64v rr ∧ HIn R Y y1 t0 qq rr ∧ wr = wo) (fun i _ _ => (intOf i).toNat)
        case atStart => exact ⟨q2, r2, rfl, rfl, HST2.out, rfl⟩
        case round =>
          obtain ⟨qq, rr, rfl, rfl, hin, rfl⟩ := hrel
          have hrr := hin.2.2.1
          have hqb' := hin.2.2.2
          by_cases hge : (4294967296 : Int) ≤ (qq : Int)
          · obtain ⟨hpos, hnext, hstop⟩ := hIn_down HYE.out hin hRY ht0b hy0b (.inl (by omega))
            obtain ⟨qm, hqn⟩ : ∃ qm, qm = qq - 1 := ⟨_, rfl⟩
            rw [← hqn] at hnext hstop
            have k2 : IntKind.u64.wrap ((qq : Int) - 1) = (qm : Int) := by rw [IntKind.wrap_u64]; omega
            have k3 : (qq : Int) - 1 = (qm : Int) := by omega
            have k4 : qm < qq := by omega
            clear hin hqn
            by_cases hbr : (4294967296 : Int) ≤ (rr : Int) + (y1 : Int)
            · have hdone2 := hstop (by omega)
              clear hstop hnext
              obtain ⟨M5, M6, R0, hR0, hR0e, hR0Y, hM5, hM6, g1, g3, g4⟩ := rem_wraps R t0 qm Y hdone2 (by omega) hY2
              have hqmW : qm < 4294967296 := by rw [hdone2]; exact Nat.div_lt_of_lt_mul (by omega)
              obtain ⟨hend1, hend2⟩ := two_halves rfl HRE.out hR0e hR0Y
              have HEND := Lib.hid (And.intro hend1 hend2)
              obtain ⟨Z, hZ⟩ : ∃ Z, Z = R0 / 2 ^ s := ⟨_, rfl⟩
              have g5 : (R0 : Int) / 2 ^ s = (Z : Int) := by rw [hZ]; simp
              have HZ := Lib.hid hZ
              clear hend1 hend2 hR0 hR0e hdone2 hZ
              go_wp2_with fail
              go_ret2
              have fF : F = qn * 4294967296 + qm := HF.out.trans HEND.out.1
              have fG : G = Z := HG.out.trans (by rw [HEND.out.2, HZ.out])
              rw [fF, fG]
              exact ⟨by simp, 0, rfl⟩
            · have HNX2 := Lib.hid (hnext (by omega))
              clear hstop hnext
              go_wp2_with fail
              go_roundw
              case rel => exact ⟨qm, rr + y1, rfl, by go_num, HNX2.out, trivial⟩
              case measure => simp [intOf]; omega
          · have hge2 : decide ((4294967296 : Int) ≤ (qq : Int)) = false := by simp; omega
            obtain ⟨S, hS⟩ : ∃ S, S = qq * y0 := ⟨_, rfl⟩
            have hSb : qq * y0 ≤ 4294967295 * 4294967295 := Nat.mul_le_mul (by omega) (by omega)
            have k1 : IntKind.u64.wrap ((qq : Int) * (y0 : Int)) = (S : Int) := by rw [wrap_mul, Nat.mod_eq_of_lt (by omega), hS]
            rw [← hS] at hSb
            by_cases hgt : (4294967296 : Int) * (rr : Int) + (t0 : Int) < (S : Int)
            · obtain ⟨hpos, hnext, hstop⟩ := hIn_down HYE.out hin hRY ht0b hy0b (.inr (by rw [← hS]; omega))
              clear hS
              obtain ⟨qm, hqn⟩ : ∃ qm, qm = qq - 1 := ⟨_, rfl⟩
              rw [← hqn] at hnext hstop
              have k2 : IntKind.u64.wrap ((qq : Int) - 1) = (qm : Int) := by rw [IntKind.wrap_u64]; omega
              have k3 : (qq : Int) - 1 = (qm : Int) := by omega
              have k4 : qm < qq := by omega
              clear hin hqn
              by_cases hbr : (4294967296 : Int) ≤ (rr : Int) + (y1 : Int)
              · have hdone2 := hstop (by omega)
                clear hstop hnext
                obtain ⟨M5, M6, R0, hR0, hR0e, hR0Y, hM5, hM6, g1, g3, g4⟩ := rem_wraps R t0 qm Y hdone2 (by omega) hY2
                have hqmW : qm < 4294967296 := by rw [hdone2]; exact Nat.div_lt_of_lt_mul (by omega)
                obtain ⟨hend1, hend2⟩ := two_halves rfl HRE.out hR0e hR0Y
                have HEND := Lib.hid (And.intro hend1 hend2)
                obtain ⟨Z, hZ⟩ : ∃ Z, Z = R0 / 2 ^ s := ⟨_, rfl⟩
                have g5 : (R0 : Int) / 2 ^ s = (Z : Int) := by rw [hZ]; simp
                have HZ := Lib.hid hZ
                clear hend1 hend2 hR0 hR0e hdone2 hZ
                go_wp2_with fail
                go_ret2
                have fF : F = qn * 4294967296 + qm := HF.out.trans HEND.out.1
                have fG : G = Z := HG.out.trans (by rw [HEND.out.2, HZ.out])
                rw [fF, fG]
                exact ⟨by simp, 0, rfl⟩
              · have HNX2 := Lib.hid (hnext (by omega))
                clear hstop hnext
                go_wp2_with fail
                go_roundw
                case rel => exact ⟨qm, rr + y1, rfl, by go_num, HNX2.out, trivial⟩
                case measure => simp [intOf]; omega
            · have hdone2 := hIn_done HYE.out hin hRY (by rw [← hS]; omega)
              clear hin hS
              obtain ⟨qm, hqn⟩ : ∃ qm, qm = qq := ⟨_, rfl⟩
              subst hqn
              obtain ⟨M5, M6, R0, hR0, hR0e, hR0Y, hM5, hM6, g1, g3, g4⟩ := rem_wraps R t0 qm Y hdone2 (by omega) hY2
              have hqmW : qm < 4294967296 := by rw [hdone2]; exact Nat.div_lt_of_lt_mul (by omega)
              obtain ⟨hend1, hend2⟩ := two_halves rfl HRE.out hR0e hR0Y
              have HEND := Lib.hid (And.intro hend1 hend2)
              obtain ⟨Z, hZ⟩ : ∃ Z, Z = R0 / 2 ^ s := ⟨_, rfl⟩
              have g5 : (R0 : Int) / 2 ^ s = (Z : Int) := by rw [hZ]; simp
              have HZ := Lib.hid hZ
              clear hend1 hend2 hR0 hR0e hdone2 hZ
              go_wp2_with fail
              go_ret2
              have fF : F = qn * 4294967296 + qm := HF.out.trans HEND.out.1
              have fG : G = Z := HG.out.trans (by rw [HEND.out.2, HZ.out])
              rw [fF, fG]
              exact ⟨by simp, 0, rfl⟩
end Go.Proofs.YtmajmpgcdpbnfaaDoor

/- fp's calls but Inv and Div, by their contracts. -/
import Derived.Test.YtfgldmfdopagjaaDoorPrgIs
import Derived.Test.YtfgldmfdopagjaaDoorRefFp
import Derived.WalkMore
import Derived.Deep.QuietTactic
import Derived.BigQuiet
import Derived.Below
import Derived.Test.YtfgldmfdopagjaaDoorAndOnes
namespace Go.Proofs.YtfgldmfdopagjaaDoor
open Go.RowKit

theorem below_drewN (w : World) (n : Nat) : Below w.heap.size w (w.drewN n) :=
  have h := Below.refl w.heap.size w
  ⟨h.os, h.tape, h.output, h.size, h.block⟩
theorem quiet_left {P : Program} {f : FuncId} {args : Array Value} {w : World} {n : Nat} {v : Value}
    (h : Calls P f args (w.drewN n) fun e w' => e = .returned v ∧ w.drewN n = w') : Calls P f args (w.drewN n) fun e w'' => e = .returned v ∧ ∃ m, w'' = w.drewN m :=
  h.mono fun _ _ ⟨he, hm⟩ => ⟨he, n, hm.symm⟩

/-- What lies above -p and below p, plain. -/
def lft (a p : Int) : Int := if a < 0 then a + p else a
theorem lft_low {a p : Int} (h : a < 0) : lft a p = a + p := if_pos h
theorem lft_pos {a p : Int} (h : 0 ≤ a) : lft a p = a := if_neg (by omega)
theorem lft_emod {a p : Int} (h : -p < a) (h' : a < p) : lft a p = a % p := by
  rcases Int.lt_or_le a 0 with h0 | h0
  · rw [lft_low h0, ← Int.add_emod_right, Int.emod_eq_of_lt (by omega) (by omega)]
  · rw [lft_pos h0, Int.emod_eq_of_lt h0 h']

theorem pLifted_any (a p : Int) (w : World) (h0 : 0 ≤ p) (h1 : -p ≤ a) (h3 : p ≤ 9223372036854775807) :
    Calls Tryd.prog 25 #[.int .i64 a, .int .i64 p] w fun e w' => e = .returned (.int .i64 (lft a p)) ∧ w = w' := by
  rcases Int.lt_or_le a 0 with h | h
  · rw [lft_low h]
    go_enter Tryd.func25, Tryd.ntmps25
    go_wp2_with fail
    go_ret
    exact ⟨rfl, rfl⟩
  · rw [lft_pos h]
    go_enter Tryd.func25, Tryd.ntmps25
    go_wp2_with fail
    go_ret
    exact ⟨rfl, rfl⟩

theorem pRed_any (a p : Int) (w : World) (h2 : -9223372036854775808 ≤ p) (h3 : p ≤ 9223372036854775807) :
    Calls Tryd.prog 15 #[.int .i64 a, .int .i64 p] w fun e w' => e = .returned (.int .i64 (red a p)) ∧ w = w' := by
  by_cases hp : p < 1
  · have e := red_low (a := a) hp
    generalize red a p = r at *
    subst e
    go_enter Tryd.func15, Tryd.ntmps15
    go_wp2_with fail
    go_ret
    exact ⟨rfl, rfl⟩
  · have e := red_pos (a := a) (show 1 ≤ p by omega)
    have hc := tmod_cases a p (by omega)
    have hl : lft (a.tmod p) p = a % p := by
      rcases hc with ⟨c1, c2, c3⟩ | ⟨c1, c2, c3⟩
      · rw [lft_pos c1, c2]
      · rw [lft_low c1, c2]
    have L := pLifted_any (a.tmod p) p w (by omega) (by omega) h3
    rw [e]
    rw [hl] at L
    obtain ⟨t, ht⟩ : ∃ t, a.tmod p = t := ⟨_, rfl⟩
    obtain ⟨r, hr⟩ : ∃ r, a % p = r := ⟨_, rfl⟩
    rw [ht, hr] at hc
    rw [ht, hr] at L
    rw [hr]
    have LL := Lib.hid L
    clear e hr hl L
    have hc2 : -p < t ∧ t < p := by omega
    clear hc
    go_enter Tryd.func15, Tryd.ntmps15
    go_wp2_with (go_at_call 25; with_reducible refine LL.out.mono ?_; rintro e w' ⟨rfl, rfl⟩)
    go_ret
    exact ⟨rfl, rfl⟩

set_option maxHeartbeats 1000000 in
theorem pAdd_any (a b p : Int) (w : World) (h2 : -9223372036854775808 ≤ p) (h3 : p ≤ 9223372036854775807) (hT : TabAt w) :
    Calls Tryd.prog 9 #[.int .i64 a, .int .i64 b, .int .i64 p] w fun e w' => e = .returned (.tuple #[.int .i64 (fadd a b p), .int .i64 (chk p)]) ∧ w = w' := by
  have C := pCheck_any p w h2 h3 hT
  clear hT
  have R1 := pRed_any a p w h2 h3
  have R2 := pRed_any b p w h2 h3
  rcases primB_or p with ⟨hb, hpr⟩ | ⟨hb, -⟩
  · rw [chk_yes hb] at C ⊢
    rw [(red_pr hpr).1] at R1 R2
    rw [fadd_yes hb, ← add_rests]
    have hx := (red_pr (a := a) hpr).2
    have hy := (red_pr (a := b) hpr).2
    have hp := hpr.2.1
    generalize a % p = x at *
    generalize b % p = y at *
    have R3 := pRed_any (x + y) p w h2 h3
    rw [(red_pr hpr).1] at R3
    generalize (x + y) % p = z at *
    have CC := Lib.hid C
    have RR1 := Lib.hid R1
    have RR2 := Lib.hid R2
    have RR3 := Lib.hid R3
    clear C R1 R2 R3 hb hpr
    go_enter Tryd.func9, Tryd.ntmps9
    go_wp2_with (first
      | (go_at_call 17; with_reducible refine CC.out.mono ?_; rintro e w' ⟨rfl, rfl⟩)
      | (go_at_call 15; with_reducible refine RR1.out.mono ?_; rintro e w' ⟨rfl, rfl⟩)
      | (go_at_call 15; with_reducible refine RR2.out.mono ?_; rintro e w' ⟨rfl, rfl⟩)
      | (go_at_call 15; with_reducible refine RR3.out.mono ?_; rintro e w' ⟨rfl, rfl⟩))
    go_ret2
    exact ⟨rfl, rfl⟩
  · rw [chk_no hb] at C ⊢
    rw [fadd_no hb]
    have CC := Lib.hid C
    clear C R1 R2 hb
    go_enter Tryd.func9, Tryd.ntmps9
    go_wp2_with (go_at_call 17; with_reducible refine CC.out.mono ?_; rintro e w' ⟨rfl, rfl⟩)
    go_ret2
    exact ⟨rfl, rfl⟩

set_option maxHeartbeats 1000000 in
theorem pSub_any (a b p : Int) (w : World) (h2 : -9223372036854775808 ≤ p) (h3 : p ≤ 9223372036854775807) (hT : TabAt w) :
    Calls Tryd.prog 11 #[.int .i64 a, .int .i64 b, .int .i64 p] w fun e w' => e = .returned (.tuple #[.int .i64 (fsub a b p), .int .i64 (chk p)]) ∧ w = w' := by
  have C := pCheck_any p w h2 h3 hT
  clear hT
  have R1 := pRed_any a p w h2 h3
  have R2 := pRed_any b p w h2 h3
  rcases primB_or p with ⟨hb, hpr⟩ | ⟨hb, -⟩
  · rw [chk_yes hb] at C ⊢
    rw [(red_pr hpr).1] at R1 R2
    rw [fsub_yes hb, ← sub_rests]
    have R3 := pLifted_any (a % p - b % p) p w (by have := hpr.1; omega) (by have := (red_pr (a := a) hpr).2; have := (red_pr (a := b) hpr).2; omega) h3
    rw [lft_emod (by have := (red_pr (a := a) hpr).2; have := (red_pr (a := b) hpr).2; omega) (by have := (red_pr (a := a) hpr).2; have := (red_pr (a := b) hpr).2; omega)] at R3
    have hx := (red_pr (a := a) hpr).2
    have hy := (red_pr (a := b) hpr).2
    have hp := hpr.2.1
    generalize a % p = x at *
    generalize b % p = y at *
    generalize (x - y) % p = z at *
    have CC := Lib.hid C
    have RR1 := Lib.hid R1
    have RR2 := Lib.hid R2
    have RR3 := Lib.hid R3
    clear C R1 R2 R3 hb hpr
    go_enter Tryd.func11, Tryd.ntmps11
    go_wp2_with (first
      | (go_at_call 17; with_reducible refine CC.out.mono ?_; rintro e w' ⟨rfl, rfl⟩)
      | (go_at_call 15; with_reducible refine RR1.out.mono ?_; rintro e w' ⟨rfl, rfl⟩)
      | (go_at_call 15; with_reducible refine RR2.out.mono ?_; rintro e w' ⟨rfl, rfl⟩)
      | (go_at_call 25; with_reducible refine RR3.out.mono ?_; rintro e w' ⟨rfl, rfl⟩))
    go_ret2
    exact ⟨rfl, rfl⟩
  · rw [chk_no hb] at C ⊢
    rw [fsub_no hb]
    have CC := Lib.hid C
    clear C R1 R2 hb
    go_enter Tryd.func11, Tryd.ntmps11
    go_wp2_with (go_at_call 17; with_reducible refine CC.out.mono ?_; rintro e w' ⟨rfl, rfl⟩)
    go_ret2
    exact ⟨rfl, rfl⟩

set_option maxHeartbeats 1000000 in
theorem pProduct_any (x y p : Int) (w : World) (hx : 0 ≤ x ∧ x < p) (hy : 0 ≤ y ∧ y < p) (hp : p ≤ 65521) :
    Calls Tryd.prog 26 #[.int .i64 x, .int .i64 y, .int .i64 p] w fun e w' => e = .returned (.int .i64 (x * y % p)) ∧ w = w' := by
  have hm := mul_bd hx hy hp
  obtain ⟨P, hP⟩ : ∃ P, x * y = P := ⟨_, rfl⟩
  rw [hP] at hm ⊢
  have q1 := Int.emod_nonneg P (b := p) (by omega)
  have q2 := Int.emod_lt_of_pos P (b := p) (by omega)
  have hp1 : 1 ≤ p := by omega
  go_enter Tryd.func26, Tryd.ntmps26
  go_wp2_with fail
  go_ret
  exact ⟨rfl, rfl⟩

set_option maxHeartbeats 1000000 in
theorem pMul_any (a b p : Int) (w : World) (h2 : -9223372036854775808 ≤ p) (h3 : p ≤ 9223372036854775807) (hT : TabAt w) :
    Calls Tryd.prog 13 #[.int .i64 a, .int .i64 b, .int .i64 p] w fun e w' => e = .returned (.tuple #[.int .i64 (fmul a b p), .int .i64 (chk p)]) ∧ w = w' := by
  have C := pCheck_any p w h2 h3 hT
  clear hT
  have R1 := pRed_any a p w h2 h3
  have R2 := pRed_any b p w h2 h3
  rcases primB_or p with ⟨hb, hpr⟩ | ⟨hb, -⟩
  · rw [chk_yes hb] at C ⊢
    rw [(red_pr hpr).1] at R1 R2
    rw [fmul_yes hb, ← mul_rests]
    have hx := (red_pr (a := a) hpr).2
    have hy := (red_pr (a := b) hpr).2
    have hp := hpr.2.1
    generalize a % p = x at *
    generalize b % p = y at *
    have R3 := pProduct_any x y p w hx hy hp
    generalize x * y % p = z at *
    have RR3 := Lib.hid R3
    have CC := Lib.hid C
    have RR1 := Lib.hid R1
    have RR2 := Lib.hid R2
    clear C R1 R2 R3 hb hpr
    go_enter Tryd.func13, Tryd.ntmps13
    go_wp2_with (first
      | (go_at_call 17; with_reducible refine CC.out.mono ?_; rintro e w' ⟨rfl, rfl⟩)
      | (go_at_call 15; with_reducible refine RR1.out.mono ?_; rintro e w' ⟨rfl, rfl⟩)
      | (go_at_call 15; with_reducible refine RR2.out.mono ?_; rintro e w' ⟨rfl, rfl⟩)
      | (go_at_call 26; with_reducible refine RR3.out.mono ?_; rintro e w' ⟨rfl, rfl⟩))
    go_ret2
    exact ⟨rfl, rfl⟩
  · rw [chk_no hb] at C ⊢
    rw [fmul_no hb]
    have CC := Lib.hid C
    clear C R1 R2 hb
    go_enter Tryd.func13, Tryd.ntmps13
    go_wp2_with (go_at_call 17; with_reducible refine CC.out.mono ?_; rintro e w' ⟨rfl, rfl⟩)
    go_ret2
    exact ⟨rfl, rfl⟩

theorem and_lowest (j : Nat) : bits .and .i64 (j : Int) 1 = ((j % 2 : Nat) : Int) := by
  rw [and_1, Int.natCast_emod]; rfl

set_option maxHeartbeats 1000000 in
theorem pPow_any (a n p : Int) (w : World) (h2 : -9223372036854775808 ≤ p) (h3 : p ≤ 9223372036854775807) (h5 : n ≤ 9223372036854775807) (hT : TabAt w) :
    Calls Tryd.prog 23 #[.int .i64 a, .int .i64 n, .int .i64 p] w fun e w' => e = .returned (.tuple #[.int .i64 (fpow a n p), .int .i64 (epow n p)]) ∧ w = w' := by
  have C := pCheck_any p w h2 h3 hT
  clear hT
  have R1 := pRed_any a p w h2 h3
  rcases primB_or p with ⟨hb, hpr⟩ | ⟨hb, -⟩
  · rw [chk_yes hb] at C
    by_cases hn : n < 0
    · rw [fpow_low hb hn, epow_low hb hn]
      have CC := Lib.hid C
      clear C R1 hb hpr
      go_enter Tryd.func23, Tryd.ntmps23
      go_wp2_with (go_at_call 17; with_reducible refine CC.out.mono ?_; rintro e w' ⟨rfl, rfl⟩)
      go_ret2
      exact ⟨rfl, rfl⟩
    · obtain ⟨m, rfl⟩ : ∃ m : Nat, n = (m : Int) := ⟨n.toNat, by omega⟩
      rw [fpow_yes m hb, epow_yes hb (by omega)]
      rw [(red_pr hpr).1] at R1
      have hx := (red_pr (a := a) hpr).2
      have hp := hpr.2.1
      have hp2 := hpr.1
      have ST := Lib.hid (powIn_start a m p)
      generalize a % p = r at *
      have END := Lib.hid (fun out base => @powIn_end a m out base p)
      have SQ := Lib.hid (fun k out base => @powIn_sq a m k out base p)
      have OD := Lib.hid (fun k out base => @powIn_odd a m k out base p)
      generalize PowIn a m = PI at *
      have CC := Lib.hid C
      have RR1 := Lib.hid R1
      have PP := Lib.hid (fun (x y : Int) (hx : 0 ≤ x ∧ x < p) (hy : 0 ≤ y ∧ y < p) => pProduct_any x y p w hx hy hp)
      generalize a ^ m % p = res at *
      clear C R1 hb hpr hn
      go_enter Tryd.func23, Tryd.ntmps23
      go_wp2_with (first
        | (go_at_call 17; with_reducible refine CC.out.mono ?_; rintro e w' ⟨rfl, rfl⟩)
        | (go_at_call 15; with_reducible refine RR1.out.mono ?_; rintro e w' ⟨rfl, rfl⟩))
      go_loop [9, 10, 1] (fun o b k => ∃ (out base : Int) (j : Nat), o = .int .i64 out ∧ b = .int .i64 base ∧ k = .int .i64 (j : Int) ∧ 0 ≤ out ∧ out < p ∧ 0 ≤ base ∧ base < p ∧ j ≤ m ∧ Hid (PI j out base p)) (fun _ _ k => (intOf k).toNat)
      case atStart => exact ⟨1, r, m, rfl, rfl, rfl, by omega, by omega, hx.1, hx.2, Nat.le_refl _, ST⟩
      case round =>
        obtain ⟨out, base, j, rfl, rfl, rfl, ho1, ho2, hb1, hb2, hj, hI⟩ := hrel
        by_cases h0 : j = 0
        · subst h0
          obtain rfl := END.out out base hI.out ho1 ho2
          go_wp2_with fail
          go_ret2
          exact ⟨rfl, rfl⟩
        · obtain ⟨P, hP⟩ : ∃ P, out * base % p = P := ⟨_, rfl⟩
          obtain ⟨S, hS⟩ : ∃ S, base * base % p = S := ⟨_, rfl⟩
          have P1 := PP.out out base ⟨ho1, ho2⟩ ⟨hb1, hb2⟩
          have P2 := PP.out base base ⟨hb1, hb2⟩ ⟨hb1, hb2⟩
          rw [hP] at P1
          rw [hS] at P2
          have PP1 := Lib.hid P1
          have PP2 := Lib.hid P2
          have q1 : 0 ≤ P ∧ P < p := hP ▸ ⟨Int.emod_nonneg _ (by omega), Int.emod_lt_of_pos _ (by omega)⟩
          have q3 : 0 ≤ S ∧ S < p := hS ▸ ⟨Int.emod_nonneg _ (by omega), Int.emod_lt_of_pos _ (by omega)⟩
          have HP := Lib.hid hP
          have HS := Lib.hid hS
          clear hP hS P1 P2
          have hpos : (0 : Int) < (j : Int) := by omega
          have hand := and_lowest j
          by_cases hodd : j % 2 = 1
          · have hoo : (((j : Int) % 2) == 1) = true := by simp; omega
            have HO := Lib.hid hodd
            clear hodd
            go_wp2_with (first
              | (go_at_call 26; with_reducible refine PP1.out.mono ?_; rintro e w' ⟨rfl, rfl⟩)
              | (go_at_call 26; with_reducible refine PP2.out.mono ?_; rintro e w' ⟨rfl, rfl⟩))
            go_round
            case rel => exact ⟨P, S, j / 2, rfl, rfl, by go_num, q1.1, q1.2, q3.1, q3.2, by omega, Lib.hid (by rw [← HP.out, ← HS.out]; exact OD.out j out base hI.out HO.out)⟩
            case measure => simp [intOf]; omega
          · have hoo : (((j : Int) % 2) == 1) = false := by simp; omega
            have HO := Lib.hid hodd
            clear hodd
            go_wp2_with (first
              | (go_at_call 26; with_reducible refine PP2.out.mono ?_; rintro e w' ⟨rfl, rfl⟩))
            go_round
            case rel => exact ⟨out, S, j / 2, rfl, rfl, by go_num, ho1, ho2, q3.1, q3.2, by omega, Lib.hid (by rw [← HS.out]; exact SQ.out j out base hI.out (by have := HO.out; omega))⟩
            case measure => simp [intOf]; omega
  · rw [chk_no hb] at C
    rw [epow_no hb, fpow_no hb]
    have CC := Lib.hid C
    clear C R1 hb
    go_enter Tryd.func23, Tryd.ntmps23
    go_wp2_with (go_at_call 17; with_reducible refine CC.out.mono ?_; rintro e w' ⟨rfl, rfl⟩)
    go_ret2
    exact ⟨rfl, rfl⟩
end Go.Proofs.YtfgldmfdopagjaaDoor

/- The law NatShifts, walked: shifted up and down as the slow answer says. -/
import Derived.Test.YtmajmpgcdpbnfaaNatOpen
import Derived.Test.YtmajmpgcdpbnfaaRefSame
import Derived.Test.YtmajmpgcdpbnfaaRefPow
import Derived.Test.YtmajmpgcdpbnfaaNatShr
namespace Go.Proofs.Ytmajmpgcdpbnfaa
open Go.RowKit

theorem sl_none (w : World) : Sl w none 0 0 [] := ⟨rfl, Nat.le_refl _, by decide, fun _ => rfl, Rd.nil _ _⟩

set_option maxHeartbeats 2000000 in
theorem walkNatShifts (A0 : Option Addr) (n0 c0 : Nat) (xs : List Nat) (k : Int) (w : World)
    (h0 : Sl w A0 n0 c0 xs) (b0 : n0 ≤ 17592186044416) (hk : (Lit.int .i64 k).wf = true) :
    Calls Try.prog 6 #[.slice A0 n0 c0, .int .i64 k] w fun e w' => e = .returned (.bool true) ∧ Below w.heap.size w w' := by
  have HE := Lib.hid (shl_err none 0 0 (-1) w (by omega))
  have hk9 : k ≤ 9223372036854775807 := by
    have h2 : IntKind.i64.min = -9223372036854775808 := rfl
    have h3 : IntKind.i64.max = 9223372036854775807 := rfl
    simp only [Lit.wf, Bool.and_eq_true, decide_eq_true_eq] at hk
    omega
  clear hk
  by_cases hbig : 60 < n0
  · go_enter Try.func6, Try.ntmps6
    go_wp2_with fail
    with_reducible refine HE.out.mono ?_
    rintro e w' ⟨rfl, rfl⟩
    go_wp2_with fail
    go_ret
    exact ⟨rfl, Below.refl _ _⟩
  · by_cases hmid : 5000 < k
    · by_cases hmid2 : k ≤ 262144
      · go_enter Try.func6, Try.ntmps6
        go_wp2_with fail
        with_reducible refine HE.out.mono ?_
        rintro e w' ⟨rfl, rfl⟩
        go_wp2_with fail
        go_ret
        exact ⟨rfl, Below.refl _ _⟩
      · have H := Lib.hid h0
        obtain ⟨k0, hk0⟩ : ∃ k0 : Nat, max k 0 = (k0 : Int) := ⟨k.toNat, by omega⟩
        have HK0 := Lib.hid hk0
        have S0 := Lib.hid (same_true none none 0 0 0 0 [] [] w (sl_none w) (sl_none w) rfl)
        have HA := Lib.hid (shl_err A0 n0 c0 k w (by omega))
        have HB := Lib.hid (refShl_err A0 n0 c0 k w (by omega))
        clear h0 hk0
        go_enter Try.func6, Try.ntmps6
        go_wp2_with fail
        with_reducible refine HE.out.mono ?_
        rintro e w' ⟨rfl, rfl⟩
        go_wp2_with fail
        with_reducible refine HA.out.mono ?_
        rintro e w' ⟨rfl, rfl⟩
        go_wp2_with fail
        with_reducible refine HB.out.mono ?_
        rintro e w' ⟨rfl, rfl⟩
        go_wp2_with fail
        with_reducible refine S0.out.mono ?_
        rintro e w1 ⟨rfl, hb1⟩
        have TR := Lib.hid (shr_at A0 n0 c0 xs k k0 w1 (H.out.below hb1) (by omega) HK0.out hk9)
        go_wp2_with fail
        with_reducible refine TR.out.mono ?_
        rintro e w2 ⟨C, m, d, rfl, hs2, -, hb2⟩
        have hb3 := hb1.trans (hb2.mono hb1.size)
        have TS := Lib.hid (refShr_any A0 n0 c0 xs k k0 w2 (H.out.below hb3) (by omega) HK0.out hk9)
        have HS2 := Lib.hid hs2
        clear TR hb1 hb2 hs2
        go_wp2_with fail
        with_reducible refine TS.out.mono ?_
        rintro e w3 ⟨C3, m3, d3, rfl, hs3, hb4⟩
        have T := Lib.hid (same_true _ _ m d m3 d3 _ _ w3 (HS2.out.below hb4) hs3 rfl)
        have hb5 := hb3.trans (hb4.mono hb3.size)
        clear TS hb3 hb4 hs3
        go_wp2_with fail
        with_reducible refine T.out.mono ?_
        rintro e w4 ⟨rfl, hb6⟩
        have hb7 := hb5.trans (hb6.mono hb5.size)
        go_wp2_with fail
        go_ret
        exact ⟨rfl, hb7⟩
    · have H := Lib.hid h0
      obtain ⟨k0, hk0⟩ : ∃ k0 : Nat, max k 0 = (k0 : Int) := ⟨k.toNat, by omega⟩
      have HK0 := Lib.hid hk0
      by_cases hneg : k < 0
      · have S0 := Lib.hid (same_true none none 0 0 0 0 [] [] w (sl_none w) (sl_none w) rfl)
        have HA := Lib.hid (shl_err A0 n0 c0 k w (by omega))
        have HB := Lib.hid (refShl_err A0 n0 c0 k w (by omega))
        clear h0 hk0
        go_enter Try.func6, Try.ntmps6
        go_wp2_with fail
        with_reducible refine HE.out.mono ?_
        rintro e w' ⟨rfl, rfl⟩
        go_wp2_with fail
        with_reducible refine HA.out.mono ?_
        rintro e w' ⟨rfl, rfl⟩
        go_wp2_with fail
        with_reducible refine HB.out.mono ?_
        rintro e w' ⟨rfl, rfl⟩
        go_wp2_with fail
        with_reducible refine S0.out.mono ?_
        rintro e w1 ⟨rfl, hb1⟩
        have TR := Lib.hid (shr_at A0 n0 c0 xs k k0 w1 (H.out.below hb1) (by omega) HK0.out hk9)
        go_wp2_with fail
        with_reducible refine TR.out.mono ?_
        rintro e w2 ⟨C, m, d, rfl, hs2, -, hb2⟩
        have hb3 := hb1.trans (hb2.mono hb1.size)
        have TS := Lib.hid (refShr_any A0 n0 c0 xs k k0 w2 (H.out.below hb3) (by omega) HK0.out hk9)
        have HS2 := Lib.hid hs2
        clear TR hb1 hb2 hs2
        go_wp2_with fail
        with_reducible refine TS.out.mono ?_
        rintro e w3 ⟨C3, m3, d3, rfl, hs3, hb4⟩
        have T := Lib.hid (same_true _ _ m d m3 d3 _ _ w3 (HS2.out.below hb4) hs3 rfl)
        have hb5 := hb3.trans (hb4.mono hb3.size)
        clear TS hb3 hb4 hs3
        go_wp2_with fail
        with_reducible refine T.out.mono ?_
        rintro e w4 ⟨rfl, hb6⟩
        have hb7 := hb5.trans (hb6.mono hb5.size)
        go_wp2_with fail
        go_ret
        exact ⟨rfl, hb7⟩
      · obtain rfl : k = (k0 : Int) := by omega
        have HA := Lib.hid (shl_at A0 n0 c0 xs k0 w h0 (by omega) (by omega))
        clear h0 hk0
        go_enter Try.func6, Try.ntmps6
        go_wp2_with fail
        with_reducible refine HE.out.mono ?_
        rintro e w' ⟨rfl, rfl⟩
        go_wp2_with fail
        with_reducible refine HA.out.mono ?_
        rintro e wa ⟨ga, ma, da, rfl, -, hsa, -, hba⟩
        have HB := Lib.hid (refShl_at A0 n0 c0 xs k0 wa (H.out.below hba) (by omega) (by omega))
        have HSA := Lib.hid hsa
        clear hsa
        go_wp2_with fail
        with_reducible refine HB.out.mono ?_
        rintro e wb ⟨Cb, mb, db, rfl, hsb, hbb⟩
        have S0 := Lib.hid (same_true _ _ ma da mb db _ _ wb (HSA.out.below hbb) hsb rfl)
        have hbc := hba.trans (hbb.mono hba.size)
        clear hba hbb hsb HB HSA HA
        go_wp2_with fail
        with_reducible refine S0.out.mono ?_
        rintro e w1 ⟨rfl, hb0⟩
        have hb1 := hbc.trans (hb0.mono hbc.size)
        clear hb0 hbc S0
        have TR := Lib.hid (shr_at A0 n0 c0 xs k0 k0 w1 (H.out.below hb1) (by omega) HK0.out hk9)
        go_wp2_with fail
        with_reducible refine TR.out.mono ?_
        rintro e w2 ⟨C, m, d, rfl, hs2, -, hb2⟩
        have hb3 := hb1.trans (hb2.mono hb1.size)
        have TS := Lib.hid (refShr_any A0 n0 c0 xs k0 k0 w2 (H.out.below hb3) (by omega) HK0.out hk9)
        have HS2 := Lib.hid hs2
        clear TR hb1 hb2 hs2
        go_wp2_with fail
        with_reducible refine TS.out.mono ?_
        rintro e w3 ⟨C3, m3, d3, rfl, hs3, hb4⟩
        have T := Lib.hid (same_true _ _ m d m3 d3 _ _ w3 (HS2.out.below hb4) hs3 rfl)
        have hb5 := hb3.trans (hb4.mono hb3.size)
        clear TS hb3 hb4 hs3
        go_wp2_with fail
        with_reducible refine T.out.mono ?_
        rintro e w4 ⟨rfl, hb6⟩
        have hb7 := hb5.trans (hb6.mono hb5.size)
        go_wp2_with fail
        go_ret
        exact ⟨rfl, hb7⟩
end Go.Proofs.Ytmajmpgcdpbnfaa

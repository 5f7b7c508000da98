/- nat.divStep, by its contract: one limb of the quotient. -/
import Derived.Test.YtmajmpgcdpbnfaaNatDEnds
namespace Go.Proofs.Ytmajmpgcdpbnfaa
open Go.RowKit

set_option maxHeartbeats 1000000 in
theorem divStep_at (g o n c cy : Nat) (L : List Nat) (B : Option Addr) (ys : List Nat) (w : World) (hB : Blk w g L) (hnL : o + (n + 1) ≤ L.length) (hn : 2 ≤ n) (hn9 : n ≤ 1099511627776) (hc : n + 1 ≤ c) (hc9 : c ≤ 9223372036854775807)
    (hy : Sl w B n cy ys) (hne : Apart B ys g) (hlast : 0 < ys.getD (n - 1) 0) (hlt : val ((L.drop o).take (n + 1)) < val ys * 18446744073709551616) :
    Calls Try.prog 58 #[.slice (some ⟨g, o, none⟩) (n + 1) c, .slice B n cy] w fun e w' =>
      e = .returned (u64v (val ((L.drop o).take (n + 1)) / val ys)) ∧ Blk w' g (mid L o (n + 1) (dig (n + 1) (val ((L.drop o).take (n + 1)) % val ys))) ∧ w.grownBy w' (some g) := by
  obtain ⟨k, hk⟩ : ∃ k, n = k + 2 := ⟨n - 2, by omega⟩
  obtain ⟨rs, hrs⟩ : ∃ rs, rs = (L.drop o).take (n + 1) := ⟨_, rfl⟩
  have hS : Sl w (some ⟨g, o, none⟩) (n + 1) c rs := by
    rw [hrs]
    exact ⟨by rw [List.length_take, List.length_drop]; omega, hc, hc9, (fun e => by cases e), hB.rd o (n + 1)⟩
  rw [← hrs] at hlt ⊢
  have n1 : n - 1 = k + 1 := by omega
  have n2 : n - 2 = k := by omega
  have hrl : rs.length = k + 3 := by rw [← hS.len, hk]
  have hyl : ys.length = k + 2 := by rw [← hy.len, hk]
  rw [n1] at hlast
  obtain ⟨a1, a2, a3⟩ := ends_all rs ys k hS.fit hy.fit hrl hyl hlast hlt
  have hY0 : 0 < val ys := Nat.pos_of_ne_zero (fun h => by rw [h, Nat.zero_mul] at hlt; exact absurd hlt (Nat.not_lt_zero _))
  have hq0 : val rs / val ys < 18446744073709551616 := Nat.div_lt_of_lt_mul hlt
  have TG := guess_at (some ⟨g, o, none⟩) B n cy (n + 1) c rs ys w (val rs / val ys) _ _ _ _ _ hS hy rfl hn hn9 (by rw [hk]) (by rw [n1]) (by rw [n2]) (by rw [n1]) (by rw [n2]) hlast a1 hq0 a2
  obtain ⟨P, hP⟩ : ∃ P, P = val rs := ⟨_, rfl⟩
  obtain ⟨Y, hY⟩ : ∃ Y, Y = val ys := ⟨_, rfl⟩
  rw [← hP, ← hY] at TG a3 hq0 ⊢
  rw [← hY] at hY0
  have TGG := Lib.hid TG
  have A3 := Lib.hid a3
  have HRS := Lib.hid hrs
  have HP := Lib.hid hP
  have HY := Lib.hid hY
  clear TG a1 a2 a3 hS hlast hlt hrl hyl n1 n2 hk hrs hP hY
  go_enter Try.func58, Try.ntmps58
  go_wp2_with fail
  with_reducible refine TGG.out.mono ?_
  rintro e w' ⟨l, rfl, hgd, kk, rfl⟩
  have hall := tk_all (L.drop o) ys l (n + 1) (fit_drop hB.fit o)
  rw [List.take_of_length_le (by rw [← hy.len]; omega : ys.length ≤ n + 1), ← HRS.out, ← HP.out, ← HY.out] at hall
  have hy2 : Sl (w.drewN kk) B n cy ys := hy
  have TT := takeTimes_any g o (n + 1) c L B n cy ys l (w.drewN kk) (hB.drewN kk) hnL (by omega) hy2 (by omega) hne hgd.2.1
  have hTf := fit_tkL (L.drop o) ys l (n + 1)
  have hTl := tkL_length (L.drop o) ys l (n + 1)
  obtain ⟨C, hC⟩ : ∃ C, C = tkC (L.drop o) ys l (n + 1) := ⟨_, rfl⟩
  obtain ⟨TL, hTL⟩ : ∃ TL, TL = tkL (L.drop o) ys l (n + 1) := ⟨_, rfl⟩
  rw [← hC] at hall TT
  rw [← hTL] at hall TT hTf hTl
  have hT := val_lt hTf
  rw [hTl] at hT
  have hlb := hgd.2.1
  have hl2 := A3.out l hgd
  clear hC hTL hgd TGG A3
  rcases hl2 with hl | hl
  · obtain ⟨hC0, hTe⟩ := step_exact hT hall hl
    have hdg := dig_of hTf (n + 1) _ hTl hTe
    subst hC0
    rw [hdg] at TT
    have TTT := Lib.hid TT
    have HL := Lib.hid hl
    clear TT hdg hTe hall hl hT hTl hTf
    go_wp2_with fail
    with_reducible refine TTT.out.mono ?_
    rintro e w1 ⟨rfl, hb, hg⟩
    go_wp2_with fail
    go_ret
    exact ⟨by rw [← HL.out]; rfl, hb, ⟨hg.os, hg.tape, hg.output, hg.size, hg.block⟩⟩
  · rw [hl] at hall
    have hYM : Y ≤ 18446744073709551616 ^ (n + 1) := by
      have h1 := val_lt hy.fit
      rw [← hy.len, ← HY.out] at h1
      exact Nat.le_trans (Nat.le_of_lt h1) (Nat.pow_le_pow_right (by decide) (Nat.le_succ _))
    obtain ⟨hC1, hTe⟩ := step_over hT hYM hY0 hall rfl
    subst hC1
    have TTT := Lib.hid TT
    have HL := Lib.hid hl
    have HTE := Lib.hid hTe
    have HTL := Lib.hid hTl
    clear TT hTe hall hl hT hTl hTf hYM
    obtain ⟨q, hq⟩ : ∃ q, q = P / Y := ⟨_, rfl⟩
    have hlq : (l : Int) - 1 = (q : Int) := by rw [HL.out, hq]; omega
    have HQ := Lib.hid hq
    clear hq
    go_wp2_with fail
    with_reducible refine TTT.out.mono ?_
    rintro e w1 ⟨rfl, hb, hg⟩
    have hg1 : w.grownBy w1 (some g) := ⟨hg.os, hg.tape, hg.output, hg.size, hg.block⟩
    have hy3 : Sl w1 B n cy ys := by
      refine ⟨hy.len, hy.le, hy.max, hy.2.2.2.1, Rd.grown hy.2.2.2.2 hg1 ?_⟩
      rcases hne with h | h
      · have h1 := hy.len
        rw [h, List.length_nil] at h1
        omega
      · exact h
    have TA := addTimes_any g o (n + 1) c _ B n cy ys 1 w1 hb (by rw [mid_length L o (n + 1) TL hnL HTL.out]; exact hnL) (by omega) hy3 (by omega) hne (by decide)
    have eA : addT ((mid L o (n + 1) TL).drop o) ys 1 (n + 1) = P % Y + 18446744073709551616 ^ (n + 1) * 1 := by
      unfold addT
      rw [mid_part L TL o (n + 1) hnL HTL.out, List.take_of_length_le (by rw [← hy.len]; omega : ys.length ≤ n + 1), Nat.one_mul, ← HY.out, HTE.out, Nat.mul_one]
    rw [eA, dig_add_mul, mid_mid L TL _ o (n + 1) hnL HTL.out] at TA
    have TAA := Lib.hid TA
    clear TA eA
    go_wp2_with fail
    refine TAA.out.mono ?_
    rintro e w2 ⟨rfl, hb2, hg2⟩
    go_wp2_with fail
    go_ret
    exact ⟨by rw [← HQ.out]; rfl, hb2, grown_trans hg1 hg2⟩
end Go.Proofs.Ytmajmpgcdpbnfaa

/- prime.Is and fp.Check, by their contracts. -/
import Derived.Test.YtipdnfdeacdkgaaDoorRefIs
import Derived.Test.YtipdnfdeacdkgaaDoorPrimeTab
import Derived.WalkMore
namespace Go.Proofs.YtipdnfdeacdkgaaDoor
open Go.RowKit

set_option maxHeartbeats 4000000 in
/-- prime.least, asked for one number alone. -/
theorem pLeast_any (m : Nat) (w : World) (hm2 : 2 ≤ m) (hm9 : m ≤ 65521) (hT : TabAt w) :
    Calls Tryd.prog 50 #[.int .i64 (m : Int), .int .i64 (m : Int)] w fun e w' => e = .returned (.int .i64 (if primB (m : Int) = true then (m : Int) else 0)) ∧ w = w' := by
  have PYES := Lib.hid (fun h : Pr (m : Int) => show (if primB (m : Int) = true then (m : Int) else 0) = (m : Int) by rw [if_pos (primB_yes h)])
  have PNO := Lib.hid (fun h : ¬ Pr (m : Int) => show (if primB (m : Int) = true then (m : Int) else 0) = 0 by rw [primB_no h]; rfl)
  generalize (if primB (m : Int) = true then (m : Int) else 0) = r at *
  have HT := Lib.hid hT
  clear hT
  go_enter Tryd.func50, Tryd.ntmps50
  go_wp2_with fail
  go_step3
  go_wp2_with fail
  go_step3
  go_wp2_with fail
  go_loop [5] (fun n => ∃ k : Nat, n = .int .i64 (k : Int) ∧ (k = m ∨ (k = m + 1 ∧ r = 0))) (fun n => (m + 1 - intOf n).toNat)
  case atStart => exact ⟨m, rfl, .inl rfl⟩
  case round =>
    obtain ⟨k, rfl, hk⟩ := hrel
    rcases hk with rfl | ⟨rfl, rfl⟩
    · go_wp2_with fail
      go_loop [14] (fun i => ∃ j : Nat, i = .int .i64 (j : Int) ∧ j ≤ 54 ∧ Hid (∀ t, t < j → ¬ tbl t ∣ k)) (fun i => (54 - intOf i).toNat)
      case atStart => exact ⟨0, rfl, by omega, Lib.hid fun t ht => absurd ht (Nat.not_lt_zero _)⟩
      case round =>
        obtain ⟨j, rfl, hj, hall⟩ := hrel
        by_cases hlt : j < 54
        · have hc := HT.out.2 j hlt
          have hb := tbl_bd hlt
          have YES := Lib.hid (fun h : k < tbl j * tbl j => tbl_yes hm2 hm9 hj (fun _ => h) hall.out)
          have NO := Lib.hid (fun (h : tbl j * tbl j ≤ k) (h2 : k % tbl j = 0) => tbl_no hlt h h2)
          have ND := Lib.hid (fun (h : ¬ tbl j ∣ k) => (show ∀ t, t < j + 1 → ¬ tbl t ∣ k from fun t ht => by
            rcases Nat.lt_or_ge t j with h1 | h1
            · exact hall.out t h1
            · obtain rfl : t = j := by omega
              exact h))
          obtain ⟨d, hd⟩ : ∃ d, tbl j = d := ⟨_, rfl⟩
          rw [hd] at hc hb YES NO ND
          obtain ⟨D, hD⟩ : ∃ D, D = d * d := ⟨_, rfl⟩
          rw [← hD] at YES NO
          have hDi : (d : Int) * (d : Int) = (D : Int) := by rw [hD]; exact (Int.natCast_mul d d).symm
          have hD9 : D ≤ 63001 := by rw [hD]; exact Nat.mul_le_mul hb.2 hb.2
          have i1 : (0 : Int) ≤ (j : Int) := by omega
          have i2 : (j : Int) < 54 := by omega
          clear hd hD
          by_cases hgt : k < D
          · have e := PYES.out (YES.out hgt)
            subst e
            go_wp2_with fail
            go_ret
            exact ⟨rfl, rfl⟩
          · by_cases hz : k % d = 0
            · have e := PNO.out (NO.out (by omega) hz)
              have hzz : (((k : Int) % (d : Int)) == 0) = true := by simp; omega
              subst e
              clear hz
              go_wp2_with fail
              go_round
              case rel => exact ⟨k + 1, by go_num, .inr ⟨rfl, by trivial⟩⟩
              case measure => simp [intOf]
            · have hzz : (((k : Int) % (d : Int)) == 0) = false := by simp; omega
              have HN := Lib.hid (ND.out fun h => hz (Nat.mod_eq_zero_of_dvd h))
              clear hz
              go_wp2_with fail
              go_round
              case rel => exact ⟨j + 1, by go_num, by omega, HN⟩
              case measure => simp [intOf]; omega
        · obtain rfl : j = 54 := by omega
          have e := PYES.out (tbl_yes hm2 hm9 (Nat.le_refl _) (fun h => absurd h (by decide)) hall.out)
          subst e
          go_wp2_with fail
          go_ret
          exact ⟨rfl, rfl⟩
    · go_wp2_with fail
      go_ret
      exact ⟨rfl, rfl⟩

set_option maxHeartbeats 1000000 in
theorem pIs_any (n : Int) (w : World) (h0 : -9223372036854775808 ≤ n) (h1 : n ≤ 9223372036854775807) (hT : TabAt w) :
    Calls Tryd.prog 38 #[.int .i64 n] w fun e w' => e = .returned (.bool (primB n)) ∧ w = w' := by
  by_cases hlo : n < 2
  · have hp := primB_no (p := n) (fun h => by have := h.1; omega)
    have HP := Lib.hid hp
    clear hp hT
    go_enter Tryd.func38, Tryd.ntmps38
    go_wp2_with fail
    go_ret
    exact ⟨by rw [HP.out]; rfl, rfl⟩
  by_cases hhi : 65521 < n
  · have hp := primB_no (p := n) (fun h => by have := h.2.1; omega)
    have HP := Lib.hid hp
    clear hp hT
    go_enter Tryd.func38, Tryd.ntmps38
    go_wp2_with fail
    go_ret
    exact ⟨by rw [HP.out]; rfl, rfl⟩
  obtain ⟨m, rfl⟩ : ∃ m : Nat, n = (m : Int) := ⟨n.toNat, by omega⟩
  have L := pLeast_any m w (by omega) (by omega) hT
  clear hT
  rcases primB_or (m : Int) with ⟨hb, -⟩ | ⟨hb, -⟩
  · rw [if_pos hb] at L
    have HB := Lib.hid hb
    have LL := Lib.hid L
    clear L hb
    go_enter Tryd.func38, Tryd.ntmps38
    go_wp2_with (go_at_call 50; refine LL.out.mono ?_; rintro e w' ⟨rfl, rfl⟩)
    go_ret
    exact ⟨by rw [HB.out]; rfl, rfl⟩
  · rw [hb, if_neg (by decide)] at L
    have HB := Lib.hid hb
    have LL := Lib.hid L
    have hm0 : (0 == (m : Int)) = false := by simp; omega
    clear L hb
    go_enter Tryd.func38, Tryd.ntmps38
    go_wp2_with (go_at_call 50; refine LL.out.mono ?_; rintro e w' ⟨rfl, rfl⟩)
    go_ret
    exact ⟨by rw [HB.out]; rfl, rfl⟩

theorem pCheck_any (p : Int) (w : World) (h0 : -9223372036854775808 ≤ p) (h1 : p ≤ 9223372036854775807) (hT : TabAt w) :
    Calls Tryd.prog 27 #[.int .i64 p] w fun e w' => e = .returned (.int .i64 (chk p)) ∧ w = w' := by
  have T := pIs_any p w h0 h1 hT
  clear hT
  have hy : primB p = true → chk p = 0 := chk_yes
  have hn : primB p = false → chk p = 1 := chk_no
  generalize primB p = b at *
  generalize chk p = c at *
  have TT := Lib.hid T
  clear T
  rcases b with _ | _
  · have hc := hn rfl
    clear hy hn
    subst hc
    go_enter Tryd.func27, Tryd.ntmps27
    go_wp2_with (go_at_call 38; refine TT.out.mono ?_; rintro e w' ⟨rfl, rfl⟩)
    go_ret
    exact ⟨rfl, rfl⟩
  · have hc := hy rfl
    clear hy hn
    subst hc
    go_enter Tryd.func27, Tryd.ntmps27
    go_wp2_with (go_at_call 38; refine TT.out.mono ?_; rintro e w' ⟨rfl, rfl⟩)
    go_ret
    exact ⟨rfl, rfl⟩
end Go.Proofs.YtipdnfdeacdkgaaDoor

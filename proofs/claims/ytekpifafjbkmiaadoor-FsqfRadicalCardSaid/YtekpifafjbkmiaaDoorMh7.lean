/- Texts joined, in their order: PrgIs, RefFp, AndOnes, PrgFp, PrgMade, PolRing. -/
import Derived.WalkMore
import Derived.WalkKit
import Derived.Laws.Bits64b
import Derived.Deep.QuietTactic
import Derived.BigQuiet
import Derived.Below
import Derived.Shelf.Abstract
import Derived.Test.YtekpifafjbkmiaaDoorMh4
import Derived.Test.YtekpifafjbkmiaaDoorMh5
import Derived.Test.YtekpifafjbkmiaaDoorMh6

/- prime.Is and fp.Check, by their contracts. -/
namespace Go.Proofs.YtekpifafjbkmiaaDoor
open Go.RowKit

set_option maxRecDepth 100000 in
set_option maxHeartbeats 4000000 in
/-- prime.least, asked for one number alone. -/
theorem pLeast_any (m : Nat) (w : World) (hm2 : 2 ≤ m) (hm9 : m ≤ 65521) (hT : TabAt w) :
    Calls Tryd.prog 76 #[.int .i64 (m : Int), .int .i64 (m : Int)] w fun e w' => e = .returned (.int .i64 (if primB (m : Int) = true then (m : Int) else 0)) ∧ w = w' := by
  have PYES := Lib.hid (fun h : Pr (m : Int) => show (if primB (m : Int) = true then (m : Int) else 0) = (m : Int) by rw [if_pos (primB_yes h)])
  have PNO := Lib.hid (fun h : ¬ Pr (m : Int) => show (if primB (m : Int) = true then (m : Int) else 0) = 0 by rw [primB_no h]; rfl)
  generalize (if primB (m : Int) = true then (m : Int) else 0) = r at *
  have HT := Lib.hid hT
  clear hT
  go_enter Tryd.func76, Tryd.ntmps76
  go_wp2_with fail
  go_step3
  go_wp2_with fail
  go_step3
  go_wp2_with fail
  go_loop [5] (fun n => ∃ k : Nat, n = .int .i64 (k : Int) ∧ (k = m ∨ (k = m + 1 ∧ r = 0))) (fun n => (m + 1 - intOf n).toNat)
  case atStart => exact ⟨m, rfl, .inl rfl⟩
  case round =>
    obtain ⟨k, rfl, hk⟩ := hrel
    rcases hk with rfl | ⟨rfl, rfl⟩
    · go_wp2_with fail
      go_loop [14] (fun i => ∃ j : Nat, i = .int .i64 (j : Int) ∧ j ≤ 54 ∧ Hid (∀ t, t < j → ¬ tbl t ∣ k)) (fun i => (54 - intOf i).toNat)
      case atStart => exact ⟨0, rfl, by omega, Lib.hid fun t ht => absurd ht (Nat.not_lt_zero _)⟩
      case round =>
        obtain ⟨j, rfl, hj, hall⟩ := hrel
        by_cases hlt : j < 54
        · have hc := HT.out.2 j hlt
          have hb := tbl_bd hlt
          have YES := Lib.hid (fun h : k < tbl j * tbl j => tbl_yes hm2 hm9 hj (fun _ => h) hall.out)
          have NO := Lib.hid (fun (h : tbl j * tbl j ≤ k) (h2 : k % tbl j = 0) => tbl_no hlt h h2)
          have ND := Lib.hid (fun (h : ¬ tbl j ∣ k) => (show ∀ t, t < j + 1 → ¬ tbl t ∣ k from fun t ht => by
            rcases Nat.lt_or_ge t j with h1 | h1
            · exact hall.out t h1
            · obtain rfl : t = j := by omega
              exact h))
          obtain ⟨d, hd⟩ : ∃ d, tbl j = d := ⟨_, rfl⟩
          rw [hd] at hc hb YES NO ND
          obtain ⟨D, hD⟩ : ∃ D, D = d * d := ⟨_, rfl⟩
          rw [← hD] at YES NO
          have hDi : (d : Int) * (d : Int) = (D : Int) := by rw [hD]; exact (Int.natCast_mul d d).symm
          have hD9 : D ≤ 63001 := by rw [hD]; exact Nat.mul_le_mul hb.2 hb.2
          have i1 : (0 : Int) ≤ (j : Int) := by omega
          have i2 : (j : Int) < 54 := by omega
          clear hd hD
          by_cases hgt : k < D
          · have e := PYES.out (YES.out hgt)
            subst e
            go_wp2_with fail
            go_ret
            exact ⟨rfl, rfl⟩
          · by_cases hz : k % d = 0
            · have e := PNO.out (NO.out (by omega) hz)
              have hzz : (((k : Int) % (d : Int)) == 0) = true := by simp; omega
              subst e
              clear hz
              go_wp2_with fail
              go_round
              case rel => exact ⟨k + 1, by go_num, .inr ⟨rfl, by trivial⟩⟩
              case measure => simp [intOf]
            · have hzz : (((k : Int) % (d : Int)) == 0) = false := by simp; omega
              have HN := Lib.hid (ND.out fun h => hz (Nat.mod_eq_zero_of_dvd h))
              clear hz
              go_wp2_with fail
              go_round
              case rel => exact ⟨j + 1, by go_num, by omega, HN⟩
              case measure => simp [intOf]; omega
        · obtain rfl : j = 54 := by omega
          have e := PYES.out (tbl_yes hm2 hm9 (Nat.le_refl _) (fun h => absurd h (by decide)) hall.out)
          subst e
          go_wp2_with fail
          go_ret
          exact ⟨rfl, rfl⟩
    · go_wp2_with fail
      go_ret
      exact ⟨rfl, rfl⟩

set_option maxRecDepth 100000 in
set_option maxHeartbeats 1000000 in
theorem pIs_any (n : Int) (w : World) (h0 : -9223372036854775808 ≤ n) (h1 : n ≤ 9223372036854775807) (hT : TabAt w) :
    Calls Tryd.prog 57 #[.int .i64 n] w fun e w' => e = .returned (.bool (primB n)) ∧ w = w' := by
  by_cases hlo : n < 2
  · have hp := primB_no (p := n) (fun h => by have := h.1; omega)
    have HP := Lib.hid hp
    clear hp hT
    go_enter Tryd.func57, Tryd.ntmps57
    go_wp2_with fail
    go_ret
    exact ⟨by rw [HP.out]; rfl, rfl⟩
  by_cases hhi : 65521 < n
  · have hp := primB_no (p := n) (fun h => by have := h.2.1; omega)
    have HP := Lib.hid hp
    clear hp hT
    go_enter Tryd.func57, Tryd.ntmps57
    go_wp2_with fail
    go_ret
    exact ⟨by rw [HP.out]; rfl, rfl⟩
  obtain ⟨m, rfl⟩ : ∃ m : Nat, n = (m : Int) := ⟨n.toNat, by omega⟩
  have L := pLeast_any m w (by omega) (by omega) hT
  clear hT
  rcases primB_or (m : Int) with ⟨hb, -⟩ | ⟨hb, -⟩
  · rw [if_pos hb] at L
    have HB := Lib.hid hb
    have LL := Lib.hid L
    clear L hb
    go_enter Tryd.func57, Tryd.ntmps57
    go_wp2_with (go_at_call 76; refine LL.out.mono ?_; rintro e w' ⟨rfl, rfl⟩)
    go_ret
    exact ⟨by rw [HB.out]; rfl, rfl⟩
  · rw [hb, if_neg (by decide)] at L
    have HB := Lib.hid hb
    have LL := Lib.hid L
    have hm0 : (0 == (m : Int)) = false := by simp; omega
    clear L hb
    go_enter Tryd.func57, Tryd.ntmps57
    go_wp2_with (go_at_call 76; refine LL.out.mono ?_; rintro e w' ⟨rfl, rfl⟩)
    go_ret
    exact ⟨by rw [HB.out]; rfl, rfl⟩

theorem pCheck_any (p : Int) (w : World) (h0 : -9223372036854775808 ≤ p) (h1 : p ≤ 9223372036854775807) (hT : TabAt w) :
    Calls Tryd.prog 33 #[.int .i64 p] w fun e w' => e = .returned (.int .i64 (chk p)) ∧ w = w' := by
  have T := pIs_any p w h0 h1 hT
  clear hT
  have hy : primB p = true → chk p = 0 := chk_yes
  have hn : primB p = false → chk p = 1 := chk_no
  generalize primB p = b at *
  generalize chk p = c at *
  have TT := Lib.hid T
  clear T
  rcases b with _ | _
  · have hc := hn rfl
    clear hy hn
    subst hc
    go_enter Tryd.func33, Tryd.ntmps33
    go_wp2_with (go_at_call 57; refine TT.out.mono ?_; rintro e w' ⟨rfl, rfl⟩)
    go_ret
    exact ⟨rfl, rfl⟩
  · have hc := hy rfl
    clear hy hn
    subst hc
    go_enter Tryd.func33, Tryd.ntmps33
    go_wp2_with (go_at_call 57; refine TT.out.mono ?_; rintro e w' ⟨rfl, rfl⟩)
    go_ret
    exact ⟨rfl, rfl⟩
end Go.Proofs.YtekpifafjbkmiaaDoor

/- cleaverref05.Add, Sub, Mul, Inv, Div, Pow, by their contracts. -/
namespace Go.Proofs.YtekpifafjbkmiaaDoor
open Go.RowKit

theorem inv_none {a p r : Int} (h : Pr p) (hr : a % p = r) (hn : ∀ j : Int, 1 ≤ j → j < p → ¬ r * j % p = 1) : a % p = 0 := by
  rcases Classical.em (a % p = 0) with h0 | h0
  · exact h0
  · have hs := finv_spec h h0
    refine absurd ?_ (hn _ hs.1 hs.2.1)
    rw [← hr, Int.mul_emod, Int.emod_emod_of_dvd _ (Int.dvd_refl _), ← Int.mul_emod]
    exact hs.2.2
theorem inv_found {a p r x : Int} (h : Pr p) (hr : a % p = r) (h1 : 1 ≤ x) (h2 : x < p) (h3 : r * x % p = 1) : finv a p = x ∧ a % p ≠ 0 := by
  have e : a * x % p = 1 := by
    rw [← h3, ← hr]
    rw [Int.mul_emod (a % p), Int.emod_emod_of_dvd _ (Int.dvd_refl _), ← Int.mul_emod]
  refine ⟨finv_eq h ⟨by omega, h2, e⟩, fun h0 => ?_⟩
  rw [Int.mul_emod, h0, Int.zero_mul] at e
  simp at e

end Go.Proofs.YtekpifafjbkmiaaDoor

/- An int and a row of ones, also below 0: the rest by a power of two. Mathematics alone. -/
namespace Go.Proofs.YtekpifafjbkmiaaDoor

theorem and_ones (n : Int) (k : Nat) (hk : k ≤ 62) : bits .and .i64 n ((2 ^ k - 1 : Nat) : Int) = n % ((2 ^ k : Nat) : Int) := by
  have hpk : 2 ^ k ≤ 2 ^ 62 := Nat.pow_le_pow_right (by decide) hk
  have hpos : 0 < 2 ^ k := Nat.pow_pos (by decide)
  have h1 : (BitVec.ofInt 64 n).toNat = (n % 18446744073709551616).toNat := by
    rw [BitVec.toNat_ofInt]; rfl
  have h2 : (BitVec.ofInt 64 ((2 ^ k - 1 : Nat) : Int)).toNat = 2 ^ k - 1 := by
    rw [BitVec.ofInt_natCast, BitVec.toNat_ofNat]
    exact Nat.mod_eq_of_lt (by omega)
  show IntKind.i64.wrap ((BitVec.ofInt 64 n &&& BitVec.ofInt 64 ((2 ^ k - 1 : Nat) : Int)).toNat : Int) = _
  rw [BitVec.toNat_and, h1, h2, Nat.and_two_pow_sub_one_eq_mod]
  have hlt := Nat.mod_lt (n % 18446744073709551616).toNat hpos
  have e1 : (((n % 18446744073709551616).toNat % 2 ^ k : Nat) : Int) = n % ((2 ^ k : Nat) : Int) := by
    rw [Int.natCast_emod, Int.toNat_of_nonneg (Int.emod_nonneg _ (by decide))]
    refine Int.emod_emod_of_dvd n ?_
    have : (18446744073709551616 : Int) = ((2 ^ k * 2 ^ (64 - k) : Nat) : Int) := by
      rw [← Nat.pow_add, show k + (64 - k) = 64 from by omega]; rfl
    rw [this, Int.natCast_mul]
    exact Int.dvd_mul_right _ _
  rw [e1]
  have h3 : 0 ≤ n % ((2 ^ k : Nat) : Int) := Int.emod_nonneg _ (by omega)
  have h4 : n % ((2 ^ k : Nat) : Int) < ((2 ^ k : Nat) : Int) := Int.emod_lt_of_pos _ (by omega)
  rw [IntKind.wrap_i64]
  omega
theorem and_1 (n : Int) : bits .and .i64 n 1 = n % 2 := and_ones n 1 (by decide)
theorem and_255 (n : Int) : bits .and .i64 n 255 = n % 256 := and_ones n 8 (by decide)
theorem and_65535 (n : Int) : bits .and .i64 n 65535 = n % 65536 := and_ones n 16 (by decide)
theorem and_1048575 (n : Int) : bits .and .i64 n 1048575 = n % 1048576 := and_ones n 20 (by decide)
end Go.Proofs.YtekpifafjbkmiaaDoor

/- fp's calls but Inv and Div, by their contracts. -/
namespace Go.Proofs.YtekpifafjbkmiaaDoor
open Go.RowKit

theorem pbelow_drewN (w : World) (n : Nat) : Below w.heap.size w (w.drewN n) :=
  have h := Below.refl w.heap.size w
  ⟨h.os, h.tape, h.output, h.size, h.block⟩
theorem quiet_left {P : Program} {f : FuncId} {args : Array Value} {w : World} {n : Nat} {v : Value}
    (h : Calls P f args (w.drewN n) fun e w' => e = .returned v ∧ w.drewN n = w') : Calls P f args (w.drewN n) fun e w'' => e = .returned v ∧ ∃ m, w'' = w.drewN m :=
  h.mono fun _ _ ⟨he, hm⟩ => ⟨he, n, hm.symm⟩

/-- What lies above -p and below p, plain. -/
def lft (a p : Int) : Int := if a < 0 then a + p else a
theorem lft_low {a p : Int} (h : a < 0) : lft a p = a + p := if_pos h
theorem lft_pos {a p : Int} (h : 0 ≤ a) : lft a p = a := if_neg (by omega)
theorem lft_emod {a p : Int} (h : -p < a) (h' : a < p) : lft a p = a % p := by
  rcases Int.lt_or_le a 0 with h0 | h0
  · rw [lft_low h0, ← Int.add_emod_right, Int.emod_eq_of_lt (by omega) (by omega)]
  · rw [lft_pos h0, Int.emod_eq_of_lt h0 h']

theorem pLifted_any (a p : Int) (w : World) (h0 : 0 ≤ p) (h1 : -p ≤ a) (h3 : p ≤ 9223372036854775807) :
    Calls Tryd.prog 78 #[.int .i64 a, .int .i64 p] w fun e w' => e = .returned (.int .i64 (lft a p)) ∧ w = w' := by
  rcases Int.lt_or_le a 0 with h | h
  · rw [lft_low h]
    go_enter Tryd.func78, Tryd.ntmps78
    go_wp2_with fail
    go_ret
    exact ⟨rfl, rfl⟩
  · rw [lft_pos h]
    go_enter Tryd.func78, Tryd.ntmps78
    go_wp2_with fail
    go_ret
    exact ⟨rfl, rfl⟩

theorem pRed_any (a p : Int) (w : World) (h2 : -9223372036854775808 ≤ p) (h3 : p ≤ 9223372036854775807) :
    Calls Tryd.prog 60 #[.int .i64 a, .int .i64 p] w fun e w' => e = .returned (.int .i64 (red a p)) ∧ w = w' := by
  by_cases hp : p < 1
  · have e := red_low (a := a) hp
    generalize red a p = r at *
    subst e
    go_enter Tryd.func60, Tryd.ntmps60
    go_wp2_with fail
    go_ret
    exact ⟨rfl, rfl⟩
  · have e := red_pos (a := a) (show 1 ≤ p by omega)
    have hc := tmod_cases a p (by omega)
    have hl : lft (a.tmod p) p = a % p := by
      rcases hc with ⟨c1, c2, c3⟩ | ⟨c1, c2, c3⟩
      · rw [lft_pos c1, c2]
      · rw [lft_low c1, c2]
    have L := pLifted_any (a.tmod p) p w (by omega) (by omega) h3
    rw [e]
    rw [hl] at L
    obtain ⟨t, ht⟩ : ∃ t, a.tmod p = t := ⟨_, rfl⟩
    obtain ⟨r, hr⟩ : ∃ r, a % p = r := ⟨_, rfl⟩
    rw [ht, hr] at hc
    rw [ht, hr] at L
    rw [hr]
    have LL := Lib.hid L
    clear e hr hl L
    have hc2 : -p < t ∧ t < p := by omega
    clear hc
    go_enter Tryd.func60, Tryd.ntmps60
    go_wp2_with (go_at_call 78; with_reducible refine LL.out.mono ?_; rintro e w' ⟨rfl, rfl⟩)
    go_ret
    exact ⟨rfl, rfl⟩

theorem and_lowest (j : Nat) : bits .and .i64 (j : Int) 1 = ((j % 2 : Nat) : Int) := by
  rw [and_1, Int.natCast_emod]; rfl

end Go.Proofs.YtekpifafjbkmiaaDoor

/- fpoly's coefficient, sumAt, trim, made, by their contracts. -/
namespace Go.Proofs.YtekpifafjbkmiaaDoor
open Go.RowKit Go.Shelf

set_option maxRecDepth 100000 in
set_option maxHeartbeats 1000000 in
theorem pCoef_any (A : Option Addr) (n c : Nat) (xs : List Int) (k : Nat) (w : World) (h : ISl w A n c xs) (hk : k ≤ 9223372036854775807) :
    Calls Tryd.prog 38 #[.slice A n c, .int .i64 (k : Int)] w fun e w' => e = .returned (.int .i64 (cf xs k)) ∧ w = w' := by
  have hcl := h.le
  have hcm := h.max
  by_cases hlt : k < n
  · obtain ⟨b, o, rfl, _, hc⟩ := h.cf_ (by omega)
    have hx := hc k hlt
    generalize cf xs k = x at *
    clear hc h
    go_enter Tryd.func38, Tryd.ntmps38
    go_wp2_with fail
    go_ret
    exact ⟨rfl, rfl⟩
  · have hz := cf_over (xs := xs) (i := k) (by rw [← h.len]; omega)
    generalize cf xs k = x at *
    subst hz
    clear h
    go_enter Tryd.func38, Tryd.ntmps38
    go_wp2_with fail
    go_ret
    exact ⟨rfl, rfl⟩

def vlen : Value → Nat
  | .slice _ n _ => n
  | _ => 0

set_option maxRecDepth 100000 in
set_option maxHeartbeats 2000000 in
theorem pTrim_any (A : Option Addr) (n c : Nat) (xs : List Int) (w : World) (h : ISl w A n c xs) :
    Calls Tryd.prog 61 #[.slice A n c] w fun e w' => ∃ t, e = .returned (.slice A t c) ∧ CutAt xs t ∧ w = w' := by
  have hcl := h.le
  have hcm := h.max
  have OV := Lib.hid (fun i (hi : n ≤ i) => cf_over (xs := xs) (i := i) (by rw [← h.len]; exact hi))
  have HL := Lib.hid h.len
  by_cases hn0 : n = 0
  · subst hn0
    have CUT := Lib.hid (show CutAt xs 0 from ⟨Nat.zero_le _, OV.out, .inl rfl⟩)
    clear OV HL h
    go_enter Tryd.func61, Tryd.ntmps61
    go_wp2_with fail
    go_loop [0] (fun v => v = .slice A 0 c) (fun _ => 0)
    case atStart => rfl
    case round =>
      subst hrel
      go_wp2_with fail
      go_ret
      exact ⟨0, rfl, CUT.out, rfl⟩
  · obtain ⟨b, o, rfl, _, hc⟩ := h.cf_ (by omega)
    have HC := Lib.hid hc
    have hpos : 0 < n := by omega
    clear hc h hn0
    go_enter Tryd.func61, Tryd.ntmps61
    go_wp2_with fail
    go_loop [0] (fun v => ∃ j : Nat, j ≤ n ∧ v = .slice (some ⟨b, o, none⟩) j c ∧ Hid (∀ i, j ≤ i → cf xs i = 0)) (fun v => vlen v)
    case atStart => exact ⟨n, Nat.le_refl _, rfl, OV⟩
    case round =>
      obtain ⟨j, hj, rfl, hz⟩ := hrel
      by_cases hj0 : j = 0
      · subst hj0
        go_wp2_with fail
        go_ret
        exact ⟨0, rfl, ⟨Nat.zero_le _, hz.out, .inl rfl⟩, rfl⟩
      · have hcell := HC.out (j - 1) (by omega)
        have hjpos : 0 < j := by omega
        by_cases hy : cf xs (j - 1) = 0
        · have HY := Lib.hid hy
          rw [hy] at hcell
          clear hy
          go_wp2_with fail
          go_round
          case rel => exact ⟨j - 1, by omega, by go_num, fun i hi => by
            by_cases e : i = j - 1
            · rw [e]; exact HY.out
            · exact hz.out i (by omega)⟩
          case measure => simp [vlen]; omega
        · have HY := Lib.hid hy
          obtain ⟨y, hyy⟩ : ∃ y, cf xs (j - 1) = y := ⟨_, rfl⟩
          rw [hyy] at hcell hy
          have hyb : (y == 0) = false := by simpa using hy
          clear hy hyy
          go_wp2_with fail
          go_ret
          exact ⟨j, rfl, ⟨by rw [← HL.out]; exact hj, hz.out, .inr HY.out⟩, rfl⟩

set_option maxRecDepth 100000 in
set_option maxHeartbeats 4000000 in
theorem pSumAt_any (A B : Option Addr) (n c n' c' : Nat) (xs ys : List Int) (k : Nat) (p : Int) (w : World) (h : ISl w A n c xs) (h' : ISl w B n' c' ys) (hp : Md p) (hx : Rs p xs) (hy : Rs p ys) (hk : k ≤ 1000000000000) (hn : n ≤ 1000000000) (hn' : n' ≤ 1000000000000) :
    Calls Tryd.prog 65 #[.slice A n c, .slice B n' c', .int .i64 (k : Int)] w fun e w' => e = .returned (.int .i64 (Ser.mul (cf xs) (cf ys) k)) ∧ ∃ q, w' = w.drewN q := by
  obtain ⟨hp1, hp2⟩ := hp
  have bx := hx.at hp1
  have bY := hy.at hp1
  have hX := h.le
  have hXm := h.max
  have hY := h'.le
  have hYm := h'.max
  have H := Lib.hid h
  have H' := Lib.hid h'
  have BD := Lib.hid (fun i => psum_bd hp2 bx bY k i)
  have LOW := Lib.hid (fun i (hi : i + n' ≤ k + 1) => psum_low (f := cf xs) (g := cf ys) (k := k) (i := i) (fun j hj => cf_over (by rw [← h'.len]; omega)))
  have Z0 := Lib.hid (show psum (cf xs) (cf ys) k 0 = 0 from rfl)
  have END := Lib.hid (fun i (hi : i ≤ k + 1) (hi2 : k + 1 ≤ i ∨ n ≤ i) => show psum (cf xs) (cf ys) k i = Ser.mul (cf xs) (cf ys) k from by
    rcases hi2 with h2 | h2
    · rw [← psum_all]; congr 1; omega
    · exact psum_end (fun j hj => cf_over (by rw [← h.len]; omega)) hi)
  have STEP := Lib.hid (fun i => show psum (cf xs) (cf ys) k (i + 1) = psum (cf xs) (cf ys) k i + cf xs i * cf ys (k - i) from rfl)
  have MB := Lib.hid (fun i j => mul_bdM (bx i) (bY j) hp2)
  generalize Ser.mul (cf xs) (cf ys) k = R at *
  generalize psum (cf xs) (cf ys) k = S at *
  clear bx bY h h' hx hy
  by_cases hkn : k + 1 < n'
  · have hki : (k : Int) - (n' : Int) + 1 ≤ 0 := by omega
    go_enter Tryd.func65, Tryd.ntmps65
    go_wp2_with fail
    go_loopw [7, 8] (fun s i wr => ∃ t : Nat, t ≤ k + 1 ∧ (k + 1 : Int) ≤ (t : Int) + (n' : Int) ∧ i = .int .i64 (t : Int) ∧ s = .int .i64 (S t) ∧ ∃ q, wr = w.drewN q) (fun _ i _ => k + 1 - (intOf i).toNat)
    case atStart => exact ⟨0, by omega, by omega, rfl, by rw [Z0.out], 0, rfl⟩
    case round => 
      obtain ⟨t, ht, htn, rfl, rfl, q, rfl⟩ := hrel
      by_cases hlt : t ≤ k
      · have c1 : (t : Int) ≤ (k : Int) := by omega
        by_cases hln : t < n
        · have c2 : (t : Int) < (n : Int) := by omega
          obtain ⟨b, o, rfl, hbl, hcx⟩ := H.out.cf_ (by omega)
          obtain ⟨b', o', rfl, hbl', hcy⟩ := H'.out.cf_ (by omega)
          have x1 := hcx t hln
          have x2 := hcy (k - t) (by omega)
          have s1 := STEP.out t
          have b1 := MB.out t (k - t)
          have b2 := BD.out t
          generalize cf xs t = x at *
          generalize cf ys (k - t) = y at *
          obtain ⟨P, hP⟩ : ∃ P, x * y = P := ⟨_, rfl⟩
          rw [hP] at s1 b1
          have HS1 := Lib.hid s1
          generalize S t = s at *
          have m1 : IntKind.i64.wrap (x * y) = P := by rw [hP, IntKind.wrap_i64]; omega
          have m2 : IntKind.i64.wrap (s + P) = s + P := by rw [IntKind.wrap_i64]; omega
          have m3 : IntKind.i64.wrap ((k : Int) - (t : Int)) = (k : Int) - (t : Int) := by rw [IntKind.wrap_i64]; omega
          have i1 : (0 : Int) ≤ (t : Int) := by omega
          have i3 : (0 : Int) ≤ (k : Int) - (t : Int) := by omega
          have i4 : (k : Int) - (t : Int) < (n' : Int) := by omega
          have i5 : ((k : Int) - (t : Int)).toNat = k - t := by omega
          have bb1 := b1.1
          have bb2 := b1.2
          have bb3 := b2.1
          have bb4 := b2.2
          clear hcx hcy hP s1 b1 b2
          go_wp2_with fail
          go_quiet (fail)
          go_wp2_with fail
          go_roundw
          case rel => exact ⟨t + 1, by omega, by omega, by go_num, by rw [HS1.out], _, rfl⟩
          case measure => simp [intOf]; omega
        · have c2 : ¬ (t : Int) < (n : Int) := by omega
          have c3 : decide ((t : Int) < (n : Int)) = false := by simp; omega
          have e := END.out t ht (.inr (by omega))
          go_wp2_with fail
          go_ret
          exact ⟨rfl, _, rfl⟩
      · have c1 : ¬ (t : Int) ≤ (k : Int) := by omega
        have c3 : decide ((t : Int) ≤ (k : Int)) = false := by simp; omega
        have e := END.out t ht (.inl (by omega))
        go_wp2_with fail
        go_ret
        exact ⟨rfl, _, rfl⟩
  · have hki : ¬ ((k : Int) - (n' : Int) + 1 < 0) := by omega
    have kn : (k : Int) - (n' : Int) + 1 = ((k + 1 - n' : Nat) : Int) := by omega
    have KN := Lib.hid kn
    clear kn
    go_enter Tryd.func65, Tryd.ntmps65
    go_wp2_with fail
    go_loopw [7, 8] (fun s i wr => ∃ t : Nat, t ≤ k + 1 ∧ (k + 1 : Int) ≤ (t : Int) + (n' : Int) ∧ i = .int .i64 (t : Int) ∧ s = .int .i64 (S t) ∧ ∃ q, wr = w.drewN q) (fun _ i _ => k + 1 - (intOf i).toNat)
    case atStart => exact ⟨k + 1 - n', by omega, by omega, by rw [KN.out], by rw [LOW.out (k + 1 - n') (by omega)], 0, rfl⟩
    case round => 
      obtain ⟨t, ht, htn, rfl, rfl, q, rfl⟩ := hrel
      by_cases hlt : t ≤ k
      · have c1 : (t : Int) ≤ (k : Int) := by omega
        by_cases hln : t < n
        · have c2 : (t : Int) < (n : Int) := by omega
          obtain ⟨b, o, rfl, hbl, hcx⟩ := H.out.cf_ (by omega)
          obtain ⟨b', o', rfl, hbl', hcy⟩ := H'.out.cf_ (by omega)
          have x1 := hcx t hln
          have x2 := hcy (k - t) (by omega)
          have s1 := STEP.out t
          have b1 := MB.out t (k - t)
          have b2 := BD.out t
          generalize cf xs t = x at *
          generalize cf ys (k - t) = y at *
          obtain ⟨P, hP⟩ : ∃ P, x * y = P := ⟨_, rfl⟩
          rw [hP] at s1 b1
          have HS1 := Lib.hid s1
          generalize S t = s at *
          have m1 : IntKind.i64.wrap (x * y) = P := by rw [hP, IntKind.wrap_i64]; omega
          have m2 : IntKind.i64.wrap (s + P) = s + P := by rw [IntKind.wrap_i64]; omega
          have m3 : IntKind.i64.wrap ((k : Int) - (t : Int)) = (k : Int) - (t : Int) := by rw [IntKind.wrap_i64]; omega
          have i1 : (0 : Int) ≤ (t : Int) := by omega
          have i3 : (0 : Int) ≤ (k : Int) - (t : Int) := by omega
          have i4 : (k : Int) - (t : Int) < (n' : Int) := by omega
          have i5 : ((k : Int) - (t : Int)).toNat = k - t := by omega
          have bb1 := b1.1
          have bb2 := b1.2
          have bb3 := b2.1
          have bb4 := b2.2
          clear hcx hcy hP s1 b1 b2
          go_wp2_with fail
          go_quiet (fail)
          go_wp2_with fail
          go_roundw
          case rel => exact ⟨t + 1, by omega, by omega, by go_num, by rw [HS1.out], _, rfl⟩
          case measure => simp [intOf]; omega
        · have c2 : ¬ (t : Int) < (n : Int) := by omega
          have c3 : decide ((t : Int) < (n : Int)) = false := by simp; omega
          have e := END.out t ht (.inr (by omega))
          go_wp2_with fail
          go_ret
          exact ⟨rfl, _, rfl⟩
      · have c1 : ¬ (t : Int) ≤ (k : Int) := by omega
        have c3 : decide ((t : Int) ≤ (k : Int)) = false := by simp; omega
        have e := END.out t ht (.inl (by omega))
        go_wp2_with fail
        go_ret
        exact ⟨rfl, _, rfl⟩

/-- A function value tells each of the first n places. -/
def Tells (g : Nat) (lb : Array Value) (f : Ser) (n : Nat) (w : World) : Prop :=
  ∀ (W : World) (t : Nat), t < n → Below w.heap.size w W → Calls Tryd.prog g (#[.int .i64 (t : Int)] ++ lb) W fun e w' => e = .returned (.int .i64 (f t)) ∧ Below W.heap.size W w'

set_option maxRecDepth 100000 in
set_option maxHeartbeats 4000000 in
theorem pMade_any (g : Nat) (lb : Array Value) (eg : ∀ args w, (callFunc g args).run Tryd.prog w = .ok (.enter g args) w) (f : Ser) (n : Nat) (p : Int) (w : World) (hp : Md p) (hT : Tells g lb f n w) (hn : n ≤ 35184372088832) :
    Calls Tryd.prog 36 #[.int .i64 (n : Int), .int .i64 p, .func (.func g) #[] lb] w fun e w' => ∃ v, e = .returned v ∧ PolOut p (fst n f) n w v w' := by
  have MD := Lib.hid hp
  obtain ⟨hp1, hp2⟩ := hp
  have HT := Lib.hid hT
  have RED := Lib.hid (fun (a : Int) (w : World) => show Calls Tryd.prog 60 #[.int .i64 a, .int .i64 p] w fun e w' => e = .returned (.int .i64 (a % p)) ∧ w = w' from by
    have := pRed_any a p w (by omega) (by omega)
    rwa [red_pos hp1] at this)
  clear hT
  go_enter Tryd.func36, Tryd.ntmps36
  go_wp2_with (at_make; refine wpList_make_ints _ rfl _ _ rfl _ _ _ _ n rfl rfl rfl rfl (by omega) ?_; intro w3 hk3 hb3; have HK3 := Lib.hid hk3; clear hk3)
  go_loopw [13] (fun i wr => ∃ t : Nat, t ≤ n ∧ i = .int .i64 (t : Int) ∧ ∃ L, IBlk wr w.heap.size L ∧ MdIn p f n t L ∧ Below w.heap.size w wr) (fun i _ => n - (intOf i).toNat)
  case atStart => exact ⟨0, Nat.zero_le _, rfl, _, HK3.out, mdIn_start hp1 f n, hb3⟩
  case round =>
    obtain ⟨t, ht, rfl, L, hL, hIn, hbel⟩ := hrel
    clear HK3 hb3
    by_cases hlt : t < n
    · have c1 := HT.out wr t hlt hbel
      have hst := hIn.step hp1 hlt
      obtain ⟨u, hu⟩ : ∃ u, f t = u := ⟨_, rfl⟩
      rw [hu] at c1 hst
      have r1 := RED.out u
      have hq0 := Int.emod_nonneg u (b := p) (by omega)
      have hq1 := Int.emod_lt_of_pos u (b := p) (by omega)
      obtain ⟨z, hz⟩ : ∃ z, u % p = z := ⟨_, rfl⟩
      rw [hz] at r1 hst hq0 hq1
      have hf1 := hL.frozen t
      have hll := hIn.1
      have HLL := Lib.hid hll
      have HST := Lib.hid hst
      have C1 := Lib.hid c1
      have R1 := Lib.hid r1
      have HL := Lib.hid hL
      have HBB := Lib.hid hbel
      have i2 : (t : Int) < (n : Int) := by omega
      clear c1 hst r1 hu hz hf1 hll hL hIn hbel
      go_wp2_with (first
        | (go_at_fn g; (with_reducible refine C1.out.mono ?_); rintro e w5 ⟨rfl, hb5⟩; have hL5 := HL.out.below hb5; have HL5 := Lib.hid hL5; have hc5 := hL5.cellD t (by rw [HLL.out]; exact hlt); have hf5 := hL5.frozen t; have HB5 := Lib.hid (HBB.out.trans (hb5.mono HBB.out.size)); clear hb5 hL5)
        | (go_at_call 60; (with_reducible refine (R1.out _).mono ?_); rintro e w6 ⟨rfl, rfl⟩))
      go_roundw
      case rel => exact ⟨t + 1, by omega, by go_num, _, HL5.out.set_ t z (by unfold In64; omega), HST.out, HB5.out.setCell (p := ⟨w.heap.size, t, none⟩) (Nat.le_refl _) _⟩
      case measure => simp [intOf]; omega
    · obtain rfl : t = n := by omega
      have hs := hL.sl (by rw [hIn.1]; omega)
      rw [hIn.1] at hs
      have T := pTrim_any _ _ _ _ wr hs
      have EQ := Lib.hid hIn.eq
      have RS := Lib.hid hIn.2.1
      have TT := Lib.hid T
      have HS := Lib.hid hs
      have HBB := Lib.hid hbel
      have HLL := Lib.hid hIn.1
      clear T hs hIn hL hbel
      go_wp2_with (go_at_call 61; refine TT.out.mono ?_; rintro e w5 ⟨j, rfl, hcut, rfl⟩; have HC := Lib.hid hcut; clear hcut)
      go_ret
      have hj : j ≤ t := by have := HC.out.1; rw [HLL.out] at this; exact this
      exact ⟨_, rfl, _, _, _, _, rfl, HS.out.take j hj, HC.out.pol RS.out EQ.out, hj, fun b o s e => by simp only [Option.some.injEq, Addr.mk.injEq] at e; omega, HBB.out⟩
end Go.Proofs.YtekpifafjbkmiaaDoor

/- cleaverref06.Norm, Add, Sub, Mul, by their contracts. -/
namespace Go.Proofs.YtekpifafjbkmiaaDoor
open Go.RowKit

end Go.Proofs.YtekpifafjbkmiaaDoor

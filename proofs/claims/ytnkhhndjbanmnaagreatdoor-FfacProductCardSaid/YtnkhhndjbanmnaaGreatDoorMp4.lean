/- Texts joined, in their order: RefIs, PolPlain, PolSum, RefFPow. -/
import Derived.Test.YtnkhhndjbanmnaaGreatDoorProg
import Derived.WalkKit
import Derived.WalkSpells
import Derived.Lib.Hide
import Derived.Deep.QuietTactic
import Derived.BigQuiet
import Derived.StillTailTactics
import Derived.Test.YtnkhhndjbanmnaaGreatDoorMp1
import Derived.Test.YtnkhhndjbanmnaaGreatDoorMp3

/- cleaverref04.Is, cleaverref05.Check and Red, by their contracts. -/
namespace Go.Proofs.YtnkhhndjbanmnaaGreatDoor
open Go.RowKit

theorem sq_le {a b : Nat} (h : a ≤ b) : a * a ≤ b * b := Nat.mul_le_mul h h

set_option maxRecDepth 100000 in
set_option maxHeartbeats 1000000 in
theorem refIs_any (n : Int) (w : World) (h0 : -9223372036854775808 ≤ n) (h1 : n ≤ 9223372036854775807) :
    Calls Tryz.prog 51 #[.int .i64 n] w fun e w' => e = .returned (.bool (primB n)) ∧ w = w' := by
  by_cases hlo : n < 2
  · have hp := primB_no (p := n) (fun h => by have := h.1; omega)
    have HP := Lib.hid hp
    clear hp
    go_enter Tryz.func51, Tryz.ntmps51
    go_wp2_with fail
    go_ret
    exact ⟨by rw [HP.out]; rfl, rfl⟩
  by_cases hhi : 65521 < n
  · have hp := primB_no (p := n) (fun h => by have := h.2.1; omega)
    have HP := Lib.hid hp
    clear hp
    go_enter Tryz.func51, Tryz.ntmps51
    go_wp2_with fail
    go_ret
    exact ⟨by rw [HP.out]; rfl, rfl⟩
  obtain ⟨m, rfl⟩ : ∃ m : Nat, n = (m : Int) := ⟨n.toNat, by omega⟩
  have hm2 : 2 ≤ m := by omega
  have hm9 : m ≤ 65521 := by omega
  have hyes := fun d => pr_trial hm2 hm9 d
  have hno := fun d => @pr_not m d
  have pyes : Pr (m : Int) → primB (m : Int) = true := primB_yes
  have pno : ¬ Pr (m : Int) → primB (m : Int) = false := primB_no
  generalize primB (m : Int) = r at *
  have HYES := Lib.hid hyes
  have HNO := Lib.hid hno
  have PYES := Lib.hid pyes
  have PNO := Lib.hid pno
  clear hyes hno pyes pno h0 h1
  go_enter Tryz.func51, Tryz.ntmps51
  go_wp2_with fail
  go_loop [3] (fun i => ∃ d : Nat, i = .int .i64 (d : Int) ∧ 2 ≤ d ∧ d ≤ 256 ∧ ∀ e, 2 ≤ e → e < d → ¬ e ∣ m) (fun i => (300 - intOf i).toNat)
  case atStart => exact ⟨2, rfl, by omega, by omega, fun e h2 h3 => absurd h3 (by omega)⟩
  case round =>
    obtain ⟨d, rfl, hd2, hd9, hall⟩ := hrel
    have HALL := Lib.hid hall
    obtain ⟨D, hD⟩ : ∃ D, D = d * d := ⟨_, rfl⟩
    have hDi : (d : Int) * (d : Int) = (D : Int) := by rw [hD]; exact (Int.natCast_mul d d).symm
    have hDD := sq_le hd9
    have hD9 : D ≤ 65536 := by omega
    have HD := Lib.hid hD
    clear hall hD hDD
    by_cases hle : D ≤ m
    · have hne : d ≠ 256 := by
        intro e
        have := HD.out
        subst e
        omega
      by_cases hz : m % d = 0
      · have hb := PNO.out (HNO.out d hd2 (by rw [← HD.out]; exact hle) hz)
        have HB := Lib.hid hb
        have hzz : (((m : Int) % (d : Int)) == 0) = true := by simp; omega
        clear hb
        go_wp2_with fail
        go_ret
        exact ⟨by rw [HB.out]; rfl, rfl⟩
      · have hzz : (((m : Int) % (d : Int)) == 0) = false := by simp; omega
        have hnd : ¬ d ∣ m := fun h => hz (Nat.mod_eq_zero_of_dvd h)
        have HND := Lib.hid hnd
        have hd8 : d ≤ 255 := by omega
        clear hnd hz hne
        go_wp2_with fail
        go_round
        case rel => exact ⟨d + 1, by go_num, by omega, by omega, fun e h2 h3 => by
          rcases Nat.lt_or_ge e d with h | h
          · exact HALL.out e h2 h
          · obtain rfl : e = d := by omega
            exact HND.out⟩
        case measure => simp [intOf]; omega
    · have hb := PYES.out (HYES.out d (by rw [← HD.out]; omega) HALL.out)
      have HB := Lib.hid hb
      clear hb
      go_wp2_with fail
      go_ret
      exact ⟨by rw [HB.out]; rfl, rfl⟩

theorem refCheck_any (p : Int) (w : World) (h0 : -9223372036854775808 ≤ p) (h1 : p ≤ 9223372036854775807) :
    Calls Tryz.prog 30 #[.int .i64 p] w fun e w' => e = .returned (.int .i64 (chk p)) ∧ w = w' := by
  have T := refIs_any p w h0 h1
  have hy : primB p = true → chk p = 0 := chk_yes
  have hn : primB p = false → chk p = 1 := chk_no
  generalize primB p = b at *
  generalize chk p = c at *
  have TT := Lib.hid T
  clear T
  rcases b with _ | _
  · have hc := hn rfl
    clear hy hn
    subst hc
    go_enter Tryz.func30, Tryz.ntmps30
    go_wp2_with (go_at_call 51; refine TT.out.mono ?_; rintro e w' ⟨rfl, rfl⟩)
    go_ret
    exact ⟨rfl, rfl⟩
  · have hc := hy rfl
    clear hy hn
    subst hc
    go_enter Tryz.func30, Tryz.ntmps30
    go_wp2_with (go_at_call 51; refine TT.out.mono ?_; rintro e w' ⟨rfl, rfl⟩)
    go_ret
    exact ⟨rfl, rfl⟩

theorem refRed_any (a p : Int) (w : World) (h2 : -9223372036854775808 ≤ p) (h3 : p ≤ 9223372036854775807) :
    Calls Tryz.prog 47 #[.int .i64 a, .int .i64 p] w fun e w' => e = .returned (.int .i64 (red a p)) ∧ w = w' := by
  by_cases hp : p < 1
  · have e := red_low (a := a) hp
    generalize red a p = r at *
    subst e
    go_enter Tryz.func47, Tryz.ntmps47
    go_wp2_with fail
    go_ret
    exact ⟨rfl, rfl⟩
  · have e := red_pos (a := a) (show 1 ≤ p by omega)
    have hc := tmod_cases a p (by omega)
    rw [e]
    obtain ⟨t, ht⟩ : ∃ t, a.tmod p = t := ⟨_, rfl⟩
    obtain ⟨r, hr⟩ : ∃ r, a % p = r := ⟨_, rfl⟩
    rw [ht, hr] at hc
    rw [hr]
    clear e hr
    rcases hc with ⟨c1, rfl, c3⟩ | ⟨c1, rfl, c3⟩
    · go_enter Tryz.func47, Tryz.ntmps47
      go_wp2_with fail
      go_ret
      exact ⟨rfl, rfl⟩
    · go_enter Tryz.func47, Tryz.ntmps47
      go_wp2_with fail
      go_ret
      exact ⟨rfl, rfl⟩
end Go.Proofs.YtnkhhndjbanmnaaGreatDoor

/- cleaverref06.Plain and at, by their contracts. -/
namespace Go.Proofs.YtnkhhndjbanmnaaGreatDoor
open Go.RowKit

theorem rst_cut {p : Int} (hp : Md p) (xs : List Int) (t : Nat) (ht : t ≤ xs.length) (hz : ∀ i, t ≤ i → cf (rst p xs) i = 0) (hl : t = 0 ∨ cf (rst p xs) (t - 1) ≠ 0) :
    Pol p ((rst p xs).take t) (cf xs) := by
  obtain ⟨h1, h2⟩ := pln_cut (rst_rs p hp xs) t (by rw [rst_length]; exact ht) hz hl
  refine ⟨h1, fun i => ?_⟩
  rw [h2, cf_rst, Int.emod_emod_of_dvd _ (Int.dvd_refl p)]

theorem ISl.take {w : World} {A : Option Addr} {n c : Nat} {xs : List Int} (h : ISl w A n c xs) (t : Nat) (ht : t ≤ n) : ISl w A t c (xs.take t) :=
  ⟨by rw [List.length_take, ← h.len]; omega, Nat.le_trans ht h.le, h.max, h.2.2.2.1, h.rd.take t⟩
theorem ISl.cf_ {w : World} {A : Option Addr} {n c : Nat} {xs : List Int} (h : ISl w A n c xs) (hn : 0 < n) : ∃ b o, A = some ⟨b, o, none⟩ ∧ b < w.heap.size ∧ ∀ j, j < n → w.cell? ⟨b, o + j, none⟩ = some (iv (cf xs j)) := h.at_ hn

def PolOut (p : Int) (f : Ser) (n : Nat) (w : World) (v : Value) (w' : World) : Prop :=
  ∃ C m d ys, v = .slice C m d ∧ ISl w' C m d ys ∧ Pol p ys f ∧ m ≤ n ∧ (∀ b o s, C = some ⟨b, o, s⟩ → w.heap.size ≤ b) ∧ Below w.heap.size w w'

set_option maxRecDepth 100000 in
set_option maxHeartbeats 1000000 in
theorem plain_any (A : Option Addr) (n c : Nat) (xs : List Int) (p : Int) (w : World) (h : ISl w A n c xs) (hp : Md p) (hn : n ≤ 1099511627776) :
    Calls Tryz.prog 23 #[.slice A n c, .int .i64 p] w fun e w' => ∃ v, e = .returned v ∧ PolOut p (cf xs) n w v w' := by
  have H := Lib.hid h
  have hcl := h.le
  have hcm := h.max
  obtain ⟨hp1, hp2⟩ := hp
  have MD := Lib.hid (show Md p from ⟨hp1, hp2⟩)
  have RED := Lib.hid (fun (a : Int) (w : World) => refRed_any a p w (by omega) (by omega))
  clear h
  go_enter Tryz.func23, Tryz.ntmps23
  go_wp2_with fail
  go_loopw [6, 5] (fun i v wr => ∃ k : Nat, k ≤ n ∧ i = .int .i64 k ∧ IOw wr w.heap.size v (rst p (xs.take k)) ∧ Below w.heap.size w wr) (fun i _ _ => n - (intOf i).toNat)
  case atStart => exact ⟨0, Nat.zero_le _, rfl, IOw.nil _ _, Below.refl _ _⟩
  case round =>
    obtain ⟨k, hk, rfl, hown, hbel⟩ := hrel
    by_cases hlt : k < n
    · obtain ⟨b, o, rfl, hbl, hc⟩ := H.out.cf_ (by omega)
      have hx := hc k hlt
      rw [← hbel.cell (p := ⟨b, o + k, none⟩) hbl] at hx
      have hsn := rst_snoc p xs k (by rw [← H.out.len]; exact hlt)
      have hR := RED.out (cf xs k) wr
      rw [red_pos hp1] at hR
      have hy0 := Int.emod_nonneg (cf xs k) (b := p) (by omega)
      have hy1 := Int.emod_lt_of_pos (cf xs k) (b := p) (by omega)
      generalize cf xs k % p = y at *
      generalize cf xs k = x at *
      have hl : (rst p (xs.take k)).length = k := by rw [rst_length, List.length_take, ← H.out.len]; omega
      have hN := (iblk_list wr [y] (fi_one (by unfold In64; omega))).sl (by simp)
      have HN := Lib.hid hN
      have HO := Lib.hid hown
      have HB := Lib.hid hbel
      have HR := Lib.hid hR
      have HS := Lib.hid hsn
      have HL := Lib.hid hl
      have hsz := hbel.size
      clear hc hN hown hbel hR hsn hl
      go_wp2_with (first
        | (go_at_call 47; (with_reducible refine HR.out.mono ?_); rintro e w' ⟨rfl, rfl⟩)
        | (at_builtin; refine iwpList_app _ rfl (.tmp 14) (.tmp 21) rfl w.heap.size _ _ rfl (HO.out.alloc _) (some ⟨wr.heap.size, 0, none⟩) 1 1 rfl [y] HN.out (by rw [HL.out]; omega) (by simp; omega) ?_; intro v1 w3 ho1 hb3))
      have hb4 : Below w.heap.size w w3 := (HB.out.alloc hsz _).trans hb3
      clear hb3
      rw [← HS.out] at ho1
      go_roundw
      case rel => exact ⟨k + 1, by omega, by go_num, ho1, hb4⟩
      case measure => simp [intOf]; omega
    · obtain rfl : k = n := by omega
      have hk2 : xs.take k = xs := List.take_of_length_le (by rw [← H.out.len]; exact Nat.le_refl _)
      rw [hk2] at hown
      obtain ⟨A', d, rfl, hs, hnew⟩ := hown.sl
      have NEW := Lib.hid hnew
      have hl : (rst p xs).length = k := by rw [rst_length, ← H.out.len]
      rw [hl] at hs ⊢
      have CUT := Lib.hid (fun t => @rst_cut p MD.out xs t)
      have hxl : k ≤ xs.length := by rw [← H.out.len]; exact Nat.le_refl _
      have HXL := Lib.hid hxl
      have RS := Lib.hid (rst_rs p MD.out xs)
      have HSS := Lib.hid hs
      have HB := Lib.hid hbel
      have hsle := hs.le
      have hsm := hs.max
      have OV := Lib.hid (fun i (hi : k ≤ i) => cf_over (xs := rst p xs) (i := i) (by rw [hl]; exact hi))
      clear hown hk2 hl hs hbel hxl hnew
      generalize rst p xs = zs at *
      go_wp2_with fail
      by_cases hn0 : k = 0
      · subst hn0
        go_loop [7] (fun t => t = .int .i64 0) (fun _ => 0)
        case atStart => rfl
        case round =>
          subst hrel
          have hAd := HSS.out.2.2.2.1
          rcases A' with _ | a
          · obtain rfl := hAd rfl
            go_wp2_with fail
            go_ret
            exact ⟨_, rfl, none, 0, 0, _, rfl, HSS.out.take 0 (Nat.le_refl _), CUT.out 0 (Nat.zero_le _) OV.out (.inl rfl), Nat.le_refl _, NEW.out, HB.out⟩
          · clear hAd
            go_wp2_with fail
            go_ret
            exact ⟨_, rfl, some a, 0, d, _, rfl, HSS.out.take 0 (Nat.le_refl _), CUT.out 0 (Nat.zero_le _) OV.out (.inl rfl), Nat.le_refl _, NEW.out, HB.out⟩
      · obtain ⟨b, o, rfl, _, hc⟩ := HSS.out.cf_ (by omega)
        have HC := Lib.hid hc
        clear hc
        go_loop [7] (fun t => ∃ j : Nat, j ≤ k ∧ t = .int .i64 (j : Int) ∧ Hid (∀ i, j ≤ i → cf zs i = 0)) (fun t => (intOf t).toNat)
        case atStart => exact ⟨k, Nat.le_refl _, rfl, OV⟩
        case round =>
          obtain ⟨j, hj, rfl, hz⟩ := hrel
          by_cases hj0 : j = 0
          · subst hj0
            go_wp2_with fail
            go_ret
            exact ⟨_, rfl, _, 0, d, _, rfl, HSS.out.take 0 (Nat.zero_le _), CUT.out 0 (Nat.zero_le _) hz.out (.inl rfl), Nat.zero_le _, NEW.out, HB.out⟩
          · have hcell := HC.out (j - 1) (by omega)
            have hpos : 0 < j := by omega
            by_cases hy : cf zs (j - 1) = 0
            · have HY := Lib.hid hy
              rw [hy] at hcell
              clear hy
              go_wp2_with fail
              go_round
              case rel => exact ⟨j - 1, by omega, by go_num, fun i hi => by
                by_cases e : i = j - 1
                · rw [e]; exact HY.out
                · exact hz.out i (by omega)⟩
              case measure => simp [intOf]; omega
            · have HY := Lib.hid hy
              obtain ⟨y, hyy⟩ : ∃ y, cf zs (j - 1) = y := ⟨_, rfl⟩
              rw [hyy] at hcell hy
              have hyb : (y == 0) = false := by simpa using hy
              clear hy hyy
              go_wp2_with fail
              go_ret
              exact ⟨_, rfl, _, j, d, _, rfl, HSS.out.take j hj, CUT.out j (Nat.le_trans hj HXL.out) hz.out (.inr HY.out), hj, NEW.out, HB.out⟩
end Go.Proofs.YtnkhhndjbanmnaaGreatDoor

/- cleaverref06.at, Sum, Times, by their contracts. -/
namespace Go.Proofs.YtnkhhndjbanmnaaGreatDoor
open Go.RowKit

set_option maxRecDepth 100000 in
set_option maxHeartbeats 1000000 in
theorem atc_any (A : Option Addr) (n c : Nat) (xs : List Int) (k : Nat) (w : World) (h : ISl w A n c xs) (hk : k ≤ 9223372036854775807) :
    Calls Tryz.prog 121 #[.slice A n c, .int .i64 (k : Int)] w fun e w' => e = .returned (.int .i64 (cf xs k)) ∧ w = w' := by
  have hcl := h.le
  have hcm := h.max
  by_cases hlt : k < n
  · obtain ⟨b, o, rfl, _, hc⟩ := h.cf_ (by omega)
    have hx := hc k hlt
    generalize cf xs k = x at *
    clear hc h
    go_enter Tryz.func121, Tryz.ntmps121
    go_wp2_with fail
    go_ret
    exact ⟨rfl, rfl⟩
  · have hz := cf_over (xs := xs) (i := k) (by rw [← h.len]; omega)
    generalize cf xs k = x at *
    subst hz
    clear h
    go_enter Tryz.func121, Tryz.ntmps121
    go_wp2_with fail
    go_ret
    exact ⟨rfl, rfl⟩

def smL (X Y : List Int) (k : Int) (t : Nat) : List Int := (List.range t).map fun i => cf X i + k * cf Y i
theorem smL_length (X Y : List Int) (k : Int) (t : Nat) : (smL X Y k t).length = t := by simp [smL]
theorem smL_snoc (X Y : List Int) (k : Int) (t : Nat) : smL X Y k (t + 1) = smL X Y k t ++ [cf X t + k * cf Y t] := by simp [smL, List.range_succ]
theorem cf_smL (X Y : List Int) (k : Int) (N : Nat) (h1 : X.length ≤ N) (h2 : Y.length ≤ N) : cf (smL X Y k N) = Ser.add (cf X) (Ser.sc k (cf Y)) := by
  funext i
  show cf (smL X Y k N) i = cf X i + k * cf Y i
  by_cases h : i < N
  · rw [cf_at (by rw [smL_length]; exact h)]
    simp [smL]
  · rw [cf_over (by rw [smL_length]; omega), cf_over (by omega), cf_over (by omega)]
    simp

theorem PolOut.eq {p : Int} {f g : Ser} {n : Nat} {w w' : World} {v : Value} (h : PolOut p f n w v w') (e : Ser.Eq p f g) : PolOut p g n w v w' := by
  obtain ⟨C, m, d, ys, h1, h2, h3, h4, h5, h6⟩ := h
  exact ⟨C, m, d, ys, h1, h2, h3.eq e, h4, h5, h6⟩
theorem PolOut.after {p : Int} {f : Ser} {n n' : Nat} {w w1 w' : World} {v : Value} (h : PolOut p f n w1 v w') (hb : Below w.heap.size w w1) (hn : n ≤ n') : PolOut p f n' w v w' := by
  obtain ⟨C, m, d, ys, h1, h2, h3, h4, h5, h6⟩ := h
  exact ⟨C, m, d, ys, h1, h2, h3, Nat.le_trans h4 hn, fun b o s e => Nat.le_trans hb.size (h5 b o s e), hb.trans (h6.mono hb.size)⟩

set_option maxRecDepth 100000 in
set_option maxHeartbeats 2000000 in
theorem sum_any (A B : Option Addr) (n c n' c' : Nat) (xs ys : List Int) (k p : Int) (w : World) (h : ISl w A n c xs) (h' : ISl w B n' c' ys) (hp : Md p) (hk : -65521 ≤ k ∧ k ≤ 65521) (hn : n ≤ 1099511627776) (hn' : n' ≤ 1099511627776) :
    Calls Tryz.prog 74 #[.slice A n c, .slice B n' c', .int .i64 k, .int .i64 p] w fun e w' => ∃ v, e = .returned v ∧ PolOut p (Ser.add (cf xs) (Ser.sc k (cf ys))) (max n n') w v w' := by
  have H := Lib.hid h
  have H' := Lib.hid h'
  have MD := Lib.hid hp
  obtain ⟨hp1, hp2⟩ := hp
  clear h h'
  go_enter Tryz.func74, Tryz.ntmps74
  go_wp2_with fail
  refine (plain_any A n c xs p w H.out MD.out hn).mono ?_
  rintro e w1 ⟨v1, rfl, X, m, d, fx, rfl, hX, px, hmn, -, hb1⟩
  go_wp2_with fail
  refine (plain_any B n' c' ys p w1 (H'.out.below hb1) MD.out hn').mono ?_
  rintro e w2 ⟨v2, rfl, Y, m', d', fy, rfl, hY, py, hmn', -, hb2⟩
  have hX2 := hX.below hb2
  have hb12 : Below w.heap.size w w2 := hb1.trans (hb2.mono hb1.size)
  obtain ⟨N, hN⟩ : ∃ N, N = max m m' := ⟨_, rfl⟩
  have hNi : max (m : Int) (m' : Int) = (N : Int) := by omega
  have hN9 : N ≤ 1099511627776 := by omega
  have EX := Lib.hid (cf_smL fx fy k N (by rw [← hX.len]; omega) (by rw [← hY.len]; omega))
  have ES : Hid (Ser.Eq p (Ser.add (cf fx) (Ser.sc k (cf fy))) (Ser.add (cf xs) (Ser.sc k (cf ys)))) := Lib.hid (px.2.add (Ser.Eq.sc rfl py.2))
  have RX := Lib.hid px.rs
  have RY := Lib.hid py.rs
  have HX := Lib.hid hX2
  have HY := Lib.hid hY
  have HB := Lib.hid hb12
  have HNN := Lib.hid hN
  have HMN := Lib.hid (And.intro hmn hmn')
  have hszw := hb12.size
  clear hX hX2 hY px py hb1 hb2 hb12 hN hmn hmn'
  go_wp2_with fail
  go_loopw [12, 11] (fun i v wr => ∃ t : Nat, t ≤ N ∧ i = .int .i64 (t : Int) ∧ IOw wr w2.heap.size v (smL fx fy k t) ∧ Below w2.heap.size w2 wr) (fun i _ _ => N - (intOf i).toNat)
  case atStart => exact ⟨0, Nat.zero_le _, rfl, IOw.nil _ _, Below.refl _ _⟩
  case round =>
    obtain ⟨t, ht, rfl, hown, hbel⟩ := hrel
    by_cases hlt : t < N
    · have hor : (t : Int) < (m : Int) ∨ (t : Int) < (m' : Int) := by omega
      have c1 := atc_any X m d fx t wr (HX.out.below hbel) (by omega)
      have c2 := atc_any Y m' d' fy t wr (HY.out.below hbel) (by omega)
      have hsn := smL_snoc fx fy k t
      have bx := RX.out.at hp1 t
      have bY := RY.out.at hp1 t
      have hl := smL_length fx fy k t
      generalize cf fx t = x at *
      generalize cf fy t = y at *
      have hky : -4293000000 ≤ k * y ∧ k * y ≤ 4293000000 := by
        have h1 : k * y ≤ 65521 * y := Int.mul_le_mul_of_nonneg_right hk.2 bY.1
        have h2 : -65521 * y ≤ k * y := Int.mul_le_mul_of_nonneg_right hk.1 bY.1
        omega
      obtain ⟨P, hP⟩ : ∃ P, k * y = P := ⟨_, rfl⟩
      rw [hP] at hsn hky
      have hNn := (iblk_list wr [x + P] (fi_one (by unfold In64; omega))).sl (by simp)
      have HN := Lib.hid hNn
      have HO := Lib.hid hown
      have HBB := Lib.hid hbel
      have C1 := Lib.hid c1
      have C2 := Lib.hid c2
      have HS := Lib.hid hsn
      have HL := Lib.hid hl
      have hsz := hbel.size
      clear hNn hown hbel c1 c2 hsn hl
      go_wp2_with (first
        | (go_at_call 121; (with_reducible refine C1.out.mono ?_); rintro e w' ⟨rfl, rfl⟩)
        | (go_at_call 121; (with_reducible refine C2.out.mono ?_); rintro e w' ⟨rfl, rfl⟩)
        | (at_builtin; refine iwpList_app _ rfl (.tmp 28) (.tmp 38) rfl w2.heap.size _ _ rfl (HO.out.alloc _) (some ⟨wr.heap.size, 0, none⟩) 1 1 rfl [x + P] HN.out (by rw [HL.out]; omega) (by simp; omega) ?_; intro v1 w3 ho1 hb3))
      have hb4 : Below w2.heap.size w2 w3 := (HBB.out.alloc hsz _).trans hb3
      clear hb3
      rw [← HS.out] at ho1
      go_roundw
      case rel => exact ⟨t + 1, by omega, by go_num, ho1, hb4⟩
      case measure => simp [intOf]; omega
    · obtain rfl : t = N := by omega
      have hm1 : (m : Int) ≤ (t : Int) := by omega
      have hm2 : (m' : Int) ≤ (t : Int) := by omega
      obtain ⟨A', d2, rfl, hs, _⟩ := hown.sl
      have hl := smL_length fx fy k t
      have T := plain_any A' _ d2 _ p wr hs MD.out (by rw [hl]; omega)
      rw [hl, EX.out] at T
      rw [hl]
      have TT := Lib.hid T
      have HBB := Lib.hid hbel
      clear T hs hown hl hbel
      go_wp2_with (go_at_call 23; refine TT.out.mono ?_; rintro e w5 ⟨v5, rfl, hout⟩)
      all_goals
        go_ret
        exact ⟨_, rfl, (hout.eq ES.out).after (HB.out.trans (HBB.out.mono hszw)) (by have := HNN.out; have := HMN.out; omega)⟩

def TmIn (p : Int) (N i k : Nat) (X Y M : List Int) : Prop :=
  M.length = N ∧ Rs p M ∧ Ser.Eq p (cf M) (Ser.add (Ser.mul (cf (X.take i)) (cf Y)) (Ser.mul (Ser.mono (cf X i) i) (cf (Y.take k))))
theorem tm_start {p : Int} {N i : Nat} {X Y M : List Int} (h1 : M.length = N) (h2 : Rs p M) (h3 : Ser.Eq p (cf M) (Ser.mul (cf (X.take i)) (cf Y))) : TmIn p N i 0 X Y M := by
  refine ⟨h1, h2, h3.trans (Ser.Eq.of ?_)⟩
  funext n
  show _ = _ + Ser.mul (Ser.mono (cf X i) i) (cf (Y.take 0)) n
  rw [Ser.mono_mul_at, List.take_zero, cf_nil]
  simp
theorem tm_step {p : Int} {N i k : Nat} {X Y M : List Int} (hp : Md p) (h : TmIn p N i k X Y M) (hN : i + k < N) :
    TmIn p N i (k + 1) X Y (M.set (i + k) ((cf M (i + k) + cf X i * cf Y k) % p)) := by
  obtain ⟨h1, h2, h3⟩ := h
  have hp1 := hp.1
  refine ⟨by rw [List.length_set, h1], h2.set _ ⟨Int.emod_nonneg _ (by omega), Int.emod_lt_of_pos _ (by omega)⟩, fun n => ?_⟩
  rw [cf_set _ _ (by omega)]
  have h4 := h3 n
  have e1 : ∀ k, Ser.add (Ser.mul (cf (X.take i)) (cf Y)) (Ser.mul (Ser.mono (cf X i) i) (cf (Y.take k))) n = Ser.mul (cf (X.take i)) (cf Y) n + Ser.mul (Ser.mono (cf X i) i) (cf (Y.take k)) n := fun _ => rfl
  rw [e1] at h4 ⊢
  rw [Ser.mono_mul_at] at h4 ⊢
  by_cases hn : n = i + k
  · subst hn
    rw [if_pos rfl]
    rw [if_pos (by omega), show i + k - i = k from by omega, cf_take] at h4 ⊢
    rw [if_neg (by omega), Int.mul_zero, Int.add_zero] at h4
    rw [if_pos (by omega), Int.emod_emod_of_dvd _ (Int.dvd_refl p), Int.add_emod, h4, ← Int.add_emod]
  · rw [if_neg hn, h4]
    by_cases hi : i ≤ n
    · rw [if_pos hi, if_pos hi, cf_take, cf_take]
      by_cases hk : n - i < k
      · rw [if_pos hk, if_pos (by omega)]
      · rw [if_neg hk, if_neg (by omega)]
    · rw [if_neg hi, if_neg hi]
theorem tm_end {p : Int} {N i k : Nat} {X Y M : List Int} (h : TmIn p N i k X Y M) (hk : Y.length ≤ k) (hi : i < X.length) :
    M.length = N ∧ Rs p M ∧ Ser.Eq p (cf M) (Ser.mul (cf (X.take (i + 1))) (cf Y)) := by
  obtain ⟨h1, h2, h3⟩ := h
  refine ⟨h1, h2, h3.trans (Ser.Eq.of ?_)⟩
  rw [List.take_of_length_le hk, ← Ser.add_mul]
  congr 1
  funext n
  show cf (X.take i) n + (if n = i then cf X i else 0) = cf (X.take (i + 1)) n
  rw [cf_take, cf_take]
  by_cases hn : n = i
  · subst hn; rw [if_neg (by omega), if_pos rfl, if_pos (by omega), Int.zero_add]
  · rw [if_neg hn, Int.add_zero]
    by_cases hlt : n < i
    · rw [if_pos hlt, if_pos (by omega)]
    · rw [if_neg hlt, if_neg (by omega)]

set_option maxRecDepth 100000 in
set_option maxHeartbeats 4000000 in
theorem times_any (A B : Option Addr) (n c n' c' : Nat) (xs ys : List Int) (p : Int) (w : World) (h : ISl w A n c xs) (h' : ISl w B n' c' ys) (hp : Md p) (hn : n ≤ 500000000000) (hn' : n' ≤ 500000000000) :
    Calls Tryz.prog 25 #[.slice A n c, .slice B n' c', .int .i64 p] w fun e w' => ∃ v, e = .returned v ∧ PolOut p (Ser.mul (cf xs) (cf ys)) (n + n') w v w' := by
  have H := Lib.hid h
  have H' := Lib.hid h'
  have MD := Lib.hid hp
  obtain ⟨hp1, hp2⟩ := hp
  clear h h'
  go_enter Tryz.func25, Tryz.ntmps25
  go_wp2_with fail
  refine (plain_any A n c xs p w H.out MD.out (by omega)).mono ?_
  rintro e w1 ⟨v1, rfl, X, m, d, fx, rfl, hX, px, hmn, -, hb1⟩
  go_wp2_with fail
  refine (plain_any B n' c' ys p w1 (H'.out.below hb1) MD.out (by omega)).mono ?_
  rintro e w2 ⟨v2, rfl, Y, m', d', fy, rfl, hY, py, hmn', -, hb2⟩
  have hX2 := hX.below hb2
  have hb12 : Below w.heap.size w w2 := hb1.trans (hb2.mono hb1.size)
  have ES : Hid (Ser.Eq p (Ser.mul (cf fx) (cf fy)) (Ser.mul (cf xs) (cf ys))) := Lib.hid (px.2.mul py.2)
  have RX := Lib.hid px.rs
  have RY := Lib.hid py.rs
  have HX := Lib.hid hX2
  have HY := Lib.hid hY
  have HB := Lib.hid hb12
  have hszw := hb12.size
  have hx9 := hX.le
  have hx8 := hX.max
  have hy9 := hY.le
  have hy8 := hY.max
  obtain ⟨N, hNe⟩ : ∃ N, N = m + m' := ⟨_, rfl⟩
  have hN1 : m + m' ≤ N := by omega
  have hN2 : N ≤ m + m' := by omega
  have HNE := Lib.hid hNe
  clear hX hX2 hY px py hb1 hb2 hb12 hNe
  go_wp2_with (at_make; refine wpList_make_ints _ rfl _ _ rfl _ _ _ _ N rfl rfl (by rw [HNE.out]; omega) (by rw [HNE.out]; omega) (by omega) ?_; intro w3 hk3 hb3)
  have HK3 := Lib.hid hk3
  clear hk3
  go_loopw [10] (fun i wr => ∃ t : Nat, t ≤ m ∧ i = .int .i64 (t : Int) ∧ ∃ L, IBlk wr w2.heap.size L ∧ (L.length = N ∧ Rs p L ∧ Ser.Eq p (cf L) (Ser.mul (cf (fx.take t)) (cf fy))) ∧ Below w2.heap.size w2 wr) (fun i _ => m - (intOf i).toNat)
  case atStart => exact ⟨0, Nat.zero_le _, rfl, _, HK3.out, ⟨by simp, Rs.zeros N hp1, fun i => by
    rw [cf_replicate, List.take_zero]
    have e : cf [] = Ser.zer := by funext j; exact cf_nil j
    rw [e, Ser.zer_mul]; rfl⟩, hb3⟩
  case round =>
    obtain ⟨t, ht, rfl, L, hL, hLp, hbel⟩ := hrel
    clear HK3 hb3
    by_cases hlt : t < m
    · have HL := Lib.hid hL
      have HLP := Lib.hid hLp
      have HBB := Lib.hid hbel
      clear hL hLp hbel
      go_wp2_with fail
      go_loopw [11] (fun k wq => ∃ u : Nat, u ≤ m' ∧ k = .int .i64 (u : Int) ∧ ∃ M, IBlk wq w2.heap.size M ∧ TmIn p N t u fx fy M ∧ Below w2.heap.size w2 wq) (fun k _ => m' - (intOf k).toNat)
      case atStart => exact ⟨0, Nat.zero_le _, rfl, L, HL.out, tm_start HLP.out.1 HLP.out.2.1 HLP.out.2.2, HBB.out⟩
      case round =>
        obtain ⟨u, hu, rfl, M, hM, hIn, hbel⟩ := hrel
        by_cases hlt2 : u < m'
        · obtain ⟨b, o, rfl, hbl, hcx⟩ := HX.out.cf_ (by omega)
          obtain ⟨b', o', rfl, hbl', hcy⟩ := HY.out.cf_ (by omega)
          have h1 := hcx t hlt
          have h2 := hcy u hlt2
          rw [← hbel.cell (p := ⟨b, o + t, none⟩) hbl] at h1
          rw [← hbel.cell (p := ⟨b', o' + u, none⟩) hbl'] at h2
          have h3 : _ = some (iv (cf M (t + u))) := hM.cellD (t + u) (by rw [hIn.1]; omega)
          have h3f := hM.frozen (t + u)
          have hstep := tm_step MD.out hIn (by omega)
          have hq0 := Int.emod_nonneg (cf M (t + u) + cf fx t * cf fy u) (b := p) (by omega)
          have hq1 := Int.emod_lt_of_pos (cf M (t + u) + cf fx t * cf fy u) (b := p) (by omega)
          have hset := hM.set_ (t + u) ((cf M (t + u) + cf fx t * cf fy u) % p) (by unfold In64; omega)
          have b1 := RX.out.at hp1 t
          have b2 := RY.out.at hp1 u
          have b3 := hIn.2.1.at hp1 (t + u)
          have bm := mul_bd b1 b2 hp2
          generalize cf fx t = x at *
          generalize cf fy u = y at *
          generalize cf M (t + u) = z at *
          obtain ⟨P, hP⟩ : ∃ P, x * y = P := ⟨_, rfl⟩
          rw [hP] at hstep hset bm hq0 hq1
          have hmul : IntKind.i64.wrap (x * y) = P := by rw [hP, IntKind.wrap_i64]; omega
          have hadd : IntKind.i64.wrap (z + P) = z + P := by rw [IntKind.wrap_i64]; omega
          have hsum : IntKind.i64.wrap ((t : Int) + (u : Int)) = (t : Int) + (u : Int) := by rw [IntKind.wrap_i64]; omega
          have htm : (z + P).tmod p = (z + P) % p := Int.tmod_eq_emod_of_nonneg (by omega)
          have hp0 : (p == 0) = false := by simp; omega
          have hp00 : ¬ p = 0 := by omega
          have i1 : (0 : Int) ≤ (t : Int) := by omega
          have i2 : (t : Int) < (m : Int) := by omega
          have i3 : (0 : Int) ≤ (u : Int) := by omega
          have i4 : (u : Int) < (m' : Int) := by omega
          have i5 : (0 : Int) ≤ (t : Int) + (u : Int) := by omega
          have i6 : (t : Int) + (u : Int) < (N : Int) := by omega
          have i7 : ((t : Int) + (u : Int)).toNat = t + u := by omega
          have HST := Lib.hid hstep
          have HSE := Lib.hid hset
          have HB2 := Lib.hid hbel
          clear hcx hcy hstep hset hbel hP hM hIn bm b1 b2 b3
          go_wp2_with fail
          go_still_tail 23, (by kernel_rfl)
          change wpList _ _ _ _ _ (World.drew wr)
          have k3 : (World.drew wr).cell? ⟨w2.heap.size, t + u, none⟩ = some (iv z) := h3
          have k3f : (World.drew wr).frozen? ⟨w2.heap.size, t + u, none⟩ = false := h3f
          have KSE : Hid (IBlk ((World.drew wr).setCell ⟨w2.heap.size, t + u, none⟩ (iv ((z + P) % p))) w2.heap.size (M.set (t + u) ((z + P) % p))) := Lib.hid HSE.out
          have KB : Hid (Below w2.heap.size w2 (World.drew wr)) := Lib.hid HB2.out.drew
          clear h1 h2 h3 h3f HSE HB2
          generalize World.drew wr = w7 at *
          go_wp2_with fail
          go_roundw
          case rel => exact ⟨u + 1, by omega, by go_num, _, KSE.out, HST.out, KB.out.setCell (p := ⟨w2.heap.size, t + u, none⟩) (Nat.le_refl _) _⟩
          case measure => simp [intOf]; omega
        · obtain rfl : u = m' := by omega
          have hend := tm_end hIn (by rw [← HY.out.len]; exact Nat.le_refl _) (by rw [← HX.out.len]; exact hlt)
          have HEN := Lib.hid hend
          have HB2 := Lib.hid hbel
          have HM := Lib.hid hM
          clear hend hbel hM hIn
          go_wp2_with fail
          go_roundw
          case rel => exact ⟨t + 1, by omega, by go_num, _, HM.out, HEN.out, HB2.out⟩
          case measure => simp [intOf]; omega
    · obtain rfl : t = m := by omega
      have hv := hLp.2.2
      rw [List.take_of_length_le (by rw [← HX.out.len]; exact Nat.le_refl _)] at hv
      have hs := hL.sl (by rw [hLp.1]; omega)
      have T := plain_any _ _ _ _ p wr hs MD.out (by rw [hLp.1]; omega)
      rw [hLp.1] at T
      have TT := Lib.hid T
      have HV := Lib.hid hv
      have HBB := Lib.hid hbel
      clear T hs hv hL hLp hbel
      go_wp2_with (go_at_call 23; refine TT.out.mono ?_; rintro e w5 ⟨v5, rfl, hout⟩)
      go_ret
      exact ⟨_, rfl, (hout.eq (HV.out.trans ES.out)).after (HB.out.trans (HBB.out.mono hszw)) (by omega)⟩
end Go.Proofs.YtnkhhndjbanmnaaGreatDoor

/- cleaverref05.Pow, by its contract. -/
namespace Go.Proofs.YtnkhhndjbanmnaaGreatDoor
open Go.RowKit

def PowIn (a : Int) (n k : Nat) (out base p : Int) : Prop := (out * base ^ k) % p = a ^ n % p
theorem powIn_start (a : Int) (n : Nat) (p : Int) : PowIn a n n 1 (a % p) p := by
  unfold PowIn
  rw [Int.one_mul]
  induction n with
  | zero => rw [Int.pow_zero, Int.pow_zero]
  | succ n ih => rw [Int.pow_succ, Int.pow_succ, Int.mul_emod, ih, ← Int.mul_emod, Int.mul_emod, Int.emod_emod_of_dvd a (Int.dvd_refl _), ← Int.mul_emod]
theorem pow_mod_base (x p : Int) (k : Nat) : (x % p) ^ k % p = x ^ k % p := by
  induction k with
  | zero => rw [Int.pow_zero, Int.pow_zero]
  | succ k ih => rw [Int.pow_succ, Int.pow_succ, Int.mul_emod, ih, ← Int.mul_emod, Int.mul_emod, Int.emod_emod_of_dvd x (Int.dvd_refl _), ← Int.mul_emod]
theorem powIn_sq {a : Int} {n k : Nat} {out base p : Int} (h : PowIn a n k out base p) (he : k % 2 = 0) : PowIn a n (k / 2) out (base * base % p) p := by
  unfold PowIn at *
  rw [← h, Int.mul_emod, pow_mod_base, ← Int.mul_emod]
  have : k = 2 * (k / 2) := by omega
  conv => rhs; rw [this, Int.pow_mul]
  rw [show base ^ 2 = base * base from by rw [Int.pow_succ, Int.pow_succ, Int.pow_zero, Int.one_mul]]
theorem powIn_odd {a : Int} {n k : Nat} {out base p : Int} (h : PowIn a n k out base p) (he : k % 2 = 1) : PowIn a n (k / 2) (out * base % p) (base * base % p) p := by
  unfold PowIn at *
  rw [← h, Int.mul_emod, pow_mod_base, Int.emod_emod_of_dvd _ (Int.dvd_refl _), ← Int.mul_emod]
  have : k = 2 * (k / 2) + 1 := by omega
  conv => rhs; rw [this, Int.pow_succ, Int.pow_mul]
  rw [show base ^ 2 = base * base from by rw [Int.pow_succ, Int.pow_succ, Int.pow_zero, Int.one_mul]]
  generalize (base * base) ^ (k / 2) = u
  congr 1
  grind
theorem powIn_end {a : Int} {n : Nat} {out base p : Int} (h : PowIn a n 0 out base p) (h0 : 0 ≤ out) (h1 : out < p) : out = a ^ n % p := by
  unfold PowIn at h
  rw [Int.pow_zero, Int.mul_one] at h
  rw [← h]
  exact (Int.emod_eq_of_lt h0 h1).symm

set_option maxRecDepth 100000 in
set_option maxHeartbeats 1000000 in
theorem refPow_any (a n p : Int) (w : World) (h2 : -9223372036854775808 ≤ p) (h3 : p ≤ 9223372036854775807) (h5 : n ≤ 9223372036854775807) :
    Calls Tryz.prog 120 #[.int .i64 a, .int .i64 n, .int .i64 p] w fun e w' => e = .returned (.tuple #[.int .i64 (fpow a n p), .int .i64 (epow n p)]) ∧ w = w' := by
  have C := refCheck_any p w h2 h3
  have R1 := refRed_any a p w h2 h3
  rcases primB_or p with ⟨hb, hpr⟩ | ⟨hb, -⟩
  · rw [chk_yes hb] at C
    by_cases hn : n < 0
    · rw [fpow_low hb hn, epow_low hb hn]
      have CC := Lib.hid C
      clear C R1 hb hpr
      go_enter Tryz.func120, Tryz.ntmps120
      go_wp2_with (go_at_call 30; with_reducible refine CC.out.mono ?_; rintro e w' ⟨rfl, rfl⟩)
      go_ret2
      exact ⟨rfl, rfl⟩
    · obtain ⟨m, rfl⟩ : ∃ m : Nat, n = (m : Int) := ⟨n.toNat, by omega⟩
      rw [fpow_yes m hb, epow_yes hb (by omega)]
      rw [(red_pr hpr).1] at R1
      have hx := (red_pr (a := a) hpr).2
      have hp := hpr.2.1
      have hp2 := hpr.1
      have ST := Lib.hid (powIn_start a m p)
      generalize a % p = r at *
      have END := Lib.hid (fun out base => @powIn_end a m out base p)
      have SQ := Lib.hid (fun k out base => @powIn_sq a m k out base p)
      have OD := Lib.hid (fun k out base => @powIn_odd a m k out base p)
      generalize PowIn a m = PI at *
      have CC := Lib.hid C
      have RR1 := Lib.hid R1
      generalize a ^ m % p = res at *
      have h1p : (1 : Int) % p = 1 := Int.emod_eq_of_lt (by omega) (by omega)
      clear C R1 hb hpr hn
      go_enter Tryz.func120, Tryz.ntmps120
      go_wp2_with (first
        | (go_at_call 30; with_reducible refine CC.out.mono ?_; rintro e w' ⟨rfl, rfl⟩)
        | (go_at_call 47; with_reducible refine RR1.out.mono ?_; rintro e w' ⟨rfl, rfl⟩))
      go_loop [8, 9, 10] (fun o b k => ∃ (out base : Int) (j : Nat), o = .int .i64 out ∧ b = .int .i64 base ∧ k = .int .i64 (j : Int) ∧ 0 ≤ out ∧ out < p ∧ 0 ≤ base ∧ base < p ∧ j ≤ m ∧ Hid (PI j out base p)) (fun _ _ k => (intOf k).toNat)
      case atStart => exact ⟨1, r, m, rfl, rfl, rfl, by omega, by omega, hx.1, hx.2, Nat.le_refl _, ST⟩
      case round =>
        obtain ⟨out, base, j, rfl, rfl, rfl, ho1, ho2, hb1, hb2, hj, hI⟩ := hrel
        by_cases h0 : j = 0
        · subst h0
          obtain rfl := END.out out base hI.out ho1 ho2
          go_wp2_with fail
          go_ret2
          exact ⟨rfl, rfl⟩
        · have hm1 := mul_bd ⟨ho1, ho2⟩ ⟨hb1, hb2⟩ hp
          have hm2 := mul_bd ⟨hb1, hb2⟩ ⟨hb1, hb2⟩ hp
          obtain ⟨P, hP⟩ : ∃ P, out * base = P := ⟨_, rfl⟩
          obtain ⟨S, hS⟩ : ∃ S, base * base = S := ⟨_, rfl⟩
          rw [hP] at hm1
          rw [hS] at hm2
          have HP := Lib.hid hP
          have HS := Lib.hid hS
          have q1 := Int.emod_nonneg P (b := p) (by omega)
          have q2 := Int.emod_lt_of_pos P (b := p) (by omega)
          have q3 := Int.emod_nonneg S (b := p) (by omega)
          have q4 := Int.emod_lt_of_pos S (b := p) (by omega)
          have hpos : (0 : Int) < (j : Int) := by omega
          by_cases hodd : j % 2 = 1
          · have hoo : (((j : Int) % 2) == 1) = true := by simp; omega
            have HO := Lib.hid hodd
            clear hodd
            go_wp2_with fail
            go_round
            case rel => exact ⟨P % p, S % p, j / 2, rfl, rfl, by go_num, q1, q2, q3, q4, by omega, Lib.hid (by rw [← HP.out, ← HS.out]; exact OD.out j out base hI.out HO.out)⟩
            case measure => simp [intOf]; omega
          · have hoo : (((j : Int) % 2) == 1) = false := by simp; omega
            have HO := Lib.hid hodd
            clear hodd
            go_wp2_with fail
            go_round
            case rel => exact ⟨out, S % p, j / 2, rfl, rfl, by go_num, ho1, ho2, q3, q4, by omega, Lib.hid (by rw [← HS.out]; exact SQ.out j out base hI.out (by have := HO.out; omega))⟩
            case measure => simp [intOf]; omega
  · rw [chk_no hb] at C
    rw [epow_no hb, fpow_no hb]
    have CC := Lib.hid C
    clear C R1 hb
    go_enter Tryz.func120, Tryz.ntmps120
    go_wp2_with (go_at_call 30; with_reducible refine CC.out.mono ?_; rintro e w' ⟨rfl, rfl⟩)
    go_ret2
    exact ⟨rfl, rfl⟩
end Go.Proofs.YtnkhhndjbanmnaaGreatDoor

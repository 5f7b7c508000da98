/- Texts joined, in their order: MadeM, RefIs, PolPlain. -/
import Derived.Test.YtekpifafjbkmiaaDoorProg
import Derived.WalkKit
import Derived.WalkSpells
import Derived.Lib.Hide
import Derived.Deep.QuietTactic
import Derived.BigQuiet
import Derived.Test.YtekpifafjbkmiaaDoorMh1
import Derived.Test.YtekpifafjbkmiaaDoorMh2
import Derived.Test.YtekpifafjbkmiaaDoorMh3

/- A product's coefficient told by partial sums; a row cut at its last place that isn't nought. Mathematics alone. -/
namespace Go.Proofs.YtekpifafjbkmiaaDoor

def psum (f g : Ser) (k : Nat) : Nat → Int
  | 0 => 0
  | i + 1 => psum f g k i + f i * g (k - i)
theorem psum_shift (f g : Ser) (k i : Nat) : psum f g (k + 1) (i + 1) = f 0 * g (k + 1) + psum (Ser.tl f) g k i := by
  induction i with
  | zero => show (0 : Int) + f 0 * g (k + 1 - 0) = _; show _ = f 0 * g (k + 1) + 0; simp
  | succ i ih =>
    show psum f g (k + 1) (i + 1) + f (i + 1) * g (k + 1 - (i + 1)) = _
    rw [ih, Nat.add_sub_add_right]
    show _ = f 0 * g (k + 1) + (psum (Ser.tl f) g k i + f (i + 1) * g (k - i))
    omega
theorem psum_all (f g : Ser) (k : Nat) : psum f g k (k + 1) = Ser.mul f g k := by
  induction k generalizing f with
  | zero => rw [Ser.mul_zero_at]; show (0 : Int) + f 0 * g (0 - 0) = _; simp
  | succ k ih => rw [psum_shift, ih, Ser.mul_succ]
theorem psum_low {f g : Ser} {k i : Nat} (h : ∀ j, j < i → g (k - j) = 0) : psum f g k i = 0 := by
  induction i with
  | zero => rfl
  | succ i ih =>
    show psum f g k i + f i * g (k - i) = 0
    rw [ih (fun j hj => h j (by omega)), h i (by omega), Int.mul_zero]; rfl
theorem psum_high {f g : Ser} {k i : Nat} (h : ∀ j, i ≤ j → f j = 0) (d : Nat) : psum f g k (i + d) = psum f g k i := by
  induction d with
  | zero => rfl
  | succ d ih =>
    show psum f g k (i + d) + f (i + d) * g (k - (i + d)) = _
    rw [ih, h (i + d) (by omega), Int.zero_mul, Int.add_zero]
theorem psum_end {f g : Ser} {k i : Nat} (h : ∀ j, i ≤ j → f j = 0) (hi : i ≤ k + 1) : psum f g k i = Ser.mul f g k := by
  rw [← psum_all, show k + 1 = i + (k + 1 - i) from by omega, psum_high h]
theorem mul_bdM {p x y : Int} (hx : 0 ≤ x ∧ x < p) (hy : 0 ≤ y ∧ y < p) (hp : p ≤ 65521) : 0 ≤ x * y ∧ x * y ≤ 4292870400 := by
  refine ⟨Int.mul_nonneg hx.1 hy.1, ?_⟩
  have h1 : x * y ≤ 65520 * y := Int.mul_le_mul_of_nonneg_right (by omega) hy.1
  omega
theorem psum_bd {p : Int} {f g : Ser} (hp : p ≤ 65521) (hf : ∀ i, 0 ≤ f i ∧ f i < p) (hg : ∀ i, 0 ≤ g i ∧ g i < p) (k i : Nat) : 0 ≤ psum f g k i ∧ psum f g k i ≤ 4292870400 * (i : Int) := by
  induction i with
  | zero => exact ⟨Int.le_refl _, by show (0 : Int) ≤ _; omega⟩
  | succ i ih =>
    have := mul_bdM (hf i) (hg (k - i)) hp
    show 0 ≤ psum f g k i + f i * g (k - i) ∧ psum f g k i + f i * g (k - i) ≤ _
    generalize f i * g (k - i) = P at *
    omega
theorem mul_bdS {p : Int} {f g : Ser} {n : Nat} (hp : p ≤ 65521) (hf : ∀ i, 0 ≤ f i ∧ f i < p) (hg : ∀ i, 0 ≤ g i ∧ g i < p) (hn : ∀ j, n ≤ j → f j = 0) (k : Nat) : 0 ≤ Ser.mul f g k ∧ Ser.mul f g k ≤ 4292870400 * (n : Int) := by
  rcases Nat.lt_or_ge (k + 1) n with h | h
  · rw [← psum_all]
    have := psum_bd hp hf hg k (k + 1)
    omega
  · rw [← psum_end hn h]
    exact psum_bd hp hf hg k n

/-- The place at which noughts at the end are cut off. -/
def CutAt (xs : List Int) (t : Nat) : Prop := t ≤ xs.length ∧ (∀ i, t ≤ i → cf xs i = 0) ∧ (t = 0 ∨ cf xs (t - 1) ≠ 0)
theorem CutAt.pol {p : Int} {xs : List Int} {t : Nat} (h : CutAt xs t) (hr : Rs p xs) {f : Ser} (e : Ser.Eq p (cf xs) f) : Pol p (xs.take t) f := by
  obtain ⟨h1, h2⟩ := pln_cut hr t h.1 h.2.1 h.2.2
  refine ⟨h1, fun i => ?_⟩
  rw [h2]
  exact e i
/-- So many places are told. -/
def MdIn (p : Int) (f : Ser) (n t : Nat) (L : List Int) : Prop := L.length = n ∧ Rs p L ∧ ∀ i, cf L i = if i < t then f i % p else 0
theorem mdIn_start {p : Int} (hp : 1 ≤ p) (f : Ser) (n : Nat) : MdIn p f n 0 (List.replicate n 0) := ⟨by simp, Rs.zeros n hp, fun i => by rw [cf_replicate, if_neg (by omega)]⟩
theorem MdIn.step {p : Int} (hp : 1 ≤ p) {f : Ser} {n t : Nat} {L : List Int} (h : MdIn p f n t L) (ht : t < n) : MdIn p f n (t + 1) (L.set t (f t % p)) := by
  obtain ⟨h1, h2, h3⟩ := h
  refine ⟨by rw [List.length_set, h1], h2.set _ ⟨Int.emod_nonneg _ (by omega), Int.emod_lt_of_pos _ (by omega)⟩, fun i => ?_⟩
  rw [cf_set _ _ (by omega), h3]
  by_cases e : i = t
  · rw [if_pos e, if_pos (by omega), e]
  · rw [if_neg e]
    by_cases hi : i < t
    · rw [if_pos hi, if_pos (by omega)]
    · rw [if_neg hi, if_neg (by omega)]
/-- The first n places of a series. -/
def fst (n : Nat) (f : Ser) : Ser := fun i => if i < n then f i else 0
theorem MdIn.eq {p : Int} {f : Ser} {n : Nat} {L : List Int} (h : MdIn p f n n L) : Ser.Eq p (cf L) (fst n f) := fun i => by
  rw [h.2.2]
  show _ = (if i < n then f i else 0) % p
  by_cases e : i < n
  · rw [if_pos e, if_pos e, Int.emod_emod_of_dvd _ (Int.dvd_refl p)]
  · rw [if_neg e, if_neg e]
theorem fst_bd {p : Int} {f : Ser} {n : Nat} (h : Ser.Bd p f n) : Ser.Eq p (fst n f) f := fun i => by
  show (if i < n then f i else 0) % p = f i % p
  by_cases e : i < n
  · rw [if_pos e]
  · rw [if_neg e, h i (by omega)]; rfl
theorem fst_eq {p : Int} {f g : Ser} {n : Nat} (h : Ser.Eq p f g) : Ser.Eq p (fst n f) (fst n g) := fun i => by
  show (if i < n then f i else 0) % p = (if i < n then g i else 0) % p
  by_cases e : i < n
  · rw [if_pos e, if_pos e]; exact h i
  · rw [if_neg e, if_neg e]
end Go.Proofs.YtekpifafjbkmiaaDoor

/- cleaverref04.Is, cleaverref05.Check and Red, by their contracts. -/
namespace Go.Proofs.YtekpifafjbkmiaaDoor
open Go.RowKit

theorem sq_le {a b : Nat} (h : a ≤ b) : a * a ≤ b * b := Nat.mul_le_mul h h

set_option maxRecDepth 100000 in
set_option maxHeartbeats 1000000 in
theorem refIs_any (n : Int) (w : World) (h0 : -9223372036854775808 ≤ n) (h1 : n ≤ 9223372036854775807) :
    Calls Tryd.prog 71 #[.int .i64 n] w fun e w' => e = .returned (.bool (primB n)) ∧ w = w' := by
  by_cases hlo : n < 2
  · have hp := primB_no (p := n) (fun h => by have := h.1; omega)
    have HP := Lib.hid hp
    clear hp
    go_enter Tryd.func71, Tryd.ntmps71
    go_wp2_with fail
    go_ret
    exact ⟨by rw [HP.out]; rfl, rfl⟩
  by_cases hhi : 65521 < n
  · have hp := primB_no (p := n) (fun h => by have := h.2.1; omega)
    have HP := Lib.hid hp
    clear hp
    go_enter Tryd.func71, Tryd.ntmps71
    go_wp2_with fail
    go_ret
    exact ⟨by rw [HP.out]; rfl, rfl⟩
  obtain ⟨m, rfl⟩ : ∃ m : Nat, n = (m : Int) := ⟨n.toNat, by omega⟩
  have hm2 : 2 ≤ m := by omega
  have hm9 : m ≤ 65521 := by omega
  have hyes := fun d => pr_trial hm2 hm9 d
  have hno := fun d => @pr_not m d
  have pyes : Pr (m : Int) → primB (m : Int) = true := primB_yes
  have pno : ¬ Pr (m : Int) → primB (m : Int) = false := primB_no
  generalize primB (m : Int) = r at *
  have HYES := Lib.hid hyes
  have HNO := Lib.hid hno
  have PYES := Lib.hid pyes
  have PNO := Lib.hid pno
  clear hyes hno pyes pno h0 h1
  go_enter Tryd.func71, Tryd.ntmps71
  go_wp2_with fail
  go_loop [3] (fun i => ∃ d : Nat, i = .int .i64 (d : Int) ∧ 2 ≤ d ∧ d ≤ 256 ∧ ∀ e, 2 ≤ e → e < d → ¬ e ∣ m) (fun i => (300 - intOf i).toNat)
  case atStart => exact ⟨2, rfl, by omega, by omega, fun e h2 h3 => absurd h3 (by omega)⟩
  case round =>
    obtain ⟨d, rfl, hd2, hd9, hall⟩ := hrel
    have HALL := Lib.hid hall
    obtain ⟨D, hD⟩ : ∃ D, D = d * d := ⟨_, rfl⟩
    have hDi : (d : Int) * (d : Int) = (D : Int) := by rw [hD]; exact (Int.natCast_mul d d).symm
    have hDD := sq_le hd9
    have hD9 : D ≤ 65536 := by omega
    have HD := Lib.hid hD
    clear hall hD hDD
    by_cases hle : D ≤ m
    · have hne : d ≠ 256 := by
        intro e
        have := HD.out
        subst e
        omega
      by_cases hz : m % d = 0
      · have hb := PNO.out (HNO.out d hd2 (by rw [← HD.out]; exact hle) hz)
        have HB := Lib.hid hb
        have hzz : (((m : Int) % (d : Int)) == 0) = true := by simp; omega
        clear hb
        go_wp2_with fail
        go_ret
        exact ⟨by rw [HB.out]; rfl, rfl⟩
      · have hzz : (((m : Int) % (d : Int)) == 0) = false := by simp; omega
        have hnd : ¬ d ∣ m := fun h => hz (Nat.mod_eq_zero_of_dvd h)
        have HND := Lib.hid hnd
        have hd8 : d ≤ 255 := by omega
        clear hnd hz hne
        go_wp2_with fail
        go_round
        case rel => exact ⟨d + 1, by go_num, by omega, by omega, fun e h2 h3 => by
          rcases Nat.lt_or_ge e d with h | h
          · exact HALL.out e h2 h
          · obtain rfl : e = d := by omega
            exact HND.out⟩
        case measure => simp [intOf]; omega
    · have hb := PYES.out (HYES.out d (by rw [← HD.out]; omega) HALL.out)
      have HB := Lib.hid hb
      clear hb
      go_wp2_with fail
      go_ret
      exact ⟨by rw [HB.out]; rfl, rfl⟩

theorem refCheck_any (p : Int) (w : World) (h0 : -9223372036854775808 ≤ p) (h1 : p ≤ 9223372036854775807) :
    Calls Tryd.prog 48 #[.int .i64 p] w fun e w' => e = .returned (.int .i64 (chk p)) ∧ w = w' := by
  have T := refIs_any p w h0 h1
  have hy : primB p = true → chk p = 0 := chk_yes
  have hn : primB p = false → chk p = 1 := chk_no
  generalize primB p = b at *
  generalize chk p = c at *
  have TT := Lib.hid T
  clear T
  rcases b with _ | _
  · have hc := hn rfl
    clear hy hn
    subst hc
    go_enter Tryd.func48, Tryd.ntmps48
    go_wp2_with (go_at_call 71; refine TT.out.mono ?_; rintro e w' ⟨rfl, rfl⟩)
    go_ret
    exact ⟨rfl, rfl⟩
  · have hc := hy rfl
    clear hy hn
    subst hc
    go_enter Tryd.func48, Tryd.ntmps48
    go_wp2_with (go_at_call 71; refine TT.out.mono ?_; rintro e w' ⟨rfl, rfl⟩)
    go_ret
    exact ⟨rfl, rfl⟩

theorem refRed_any (a p : Int) (w : World) (h2 : -9223372036854775808 ≤ p) (h3 : p ≤ 9223372036854775807) :
    Calls Tryd.prog 72 #[.int .i64 a, .int .i64 p] w fun e w' => e = .returned (.int .i64 (red a p)) ∧ w = w' := by
  by_cases hp : p < 1
  · have e := red_low (a := a) hp
    generalize red a p = r at *
    subst e
    go_enter Tryd.func72, Tryd.ntmps72
    go_wp2_with fail
    go_ret
    exact ⟨rfl, rfl⟩
  · have e := red_pos (a := a) (show 1 ≤ p by omega)
    have hc := tmod_cases a p (by omega)
    rw [e]
    obtain ⟨t, ht⟩ : ∃ t, a.tmod p = t := ⟨_, rfl⟩
    obtain ⟨r, hr⟩ : ∃ r, a % p = r := ⟨_, rfl⟩
    rw [ht, hr] at hc
    rw [hr]
    clear e hr
    rcases hc with ⟨c1, rfl, c3⟩ | ⟨c1, rfl, c3⟩
    · go_enter Tryd.func72, Tryd.ntmps72
      go_wp2_with fail
      go_ret
      exact ⟨rfl, rfl⟩
    · go_enter Tryd.func72, Tryd.ntmps72
      go_wp2_with fail
      go_ret
      exact ⟨rfl, rfl⟩
end Go.Proofs.YtekpifafjbkmiaaDoor

/- cleaverref06.Plain and at, by their contracts. -/
namespace Go.Proofs.YtekpifafjbkmiaaDoor
open Go.RowKit

theorem rst_cut {p : Int} (hp : Md p) (xs : List Int) (t : Nat) (ht : t ≤ xs.length) (hz : ∀ i, t ≤ i → cf (rst p xs) i = 0) (hl : t = 0 ∨ cf (rst p xs) (t - 1) ≠ 0) :
    Pol p ((rst p xs).take t) (cf xs) := by
  obtain ⟨h1, h2⟩ := pln_cut (rst_rs p hp xs) t (by rw [rst_length]; exact ht) hz hl
  refine ⟨h1, fun i => ?_⟩
  rw [h2, cf_rst, Int.emod_emod_of_dvd _ (Int.dvd_refl p)]

theorem ISl.take {w : World} {A : Option Addr} {n c : Nat} {xs : List Int} (h : ISl w A n c xs) (t : Nat) (ht : t ≤ n) : ISl w A t c (xs.take t) :=
  ⟨by rw [List.length_take, ← h.len]; omega, Nat.le_trans ht h.le, h.max, h.2.2.2.1, h.rd.take t⟩
theorem ISl.cf_ {w : World} {A : Option Addr} {n c : Nat} {xs : List Int} (h : ISl w A n c xs) (hn : 0 < n) : ∃ b o, A = some ⟨b, o, none⟩ ∧ b < w.heap.size ∧ ∀ j, j < n → w.cell? ⟨b, o + j, none⟩ = some (iv (cf xs j)) := h.at_ hn

/-- What comes back is a slice of the plain row of a series, no longer than n; what was there is as it was. -/
def PolOut (p : Int) (f : Ser) (n : Nat) (w : World) (v : Value) (w' : World) : Prop :=
  ∃ C m d ys, v = .slice C m d ∧ ISl w' C m d ys ∧ Pol p ys f ∧ m ≤ n ∧ (∀ b o s, C = some ⟨b, o, s⟩ → w.heap.size ≤ b) ∧ Below w.heap.size w w'

set_option maxRecDepth 100000 in
set_option maxHeartbeats 1000000 in
theorem plain_any (A : Option Addr) (n c : Nat) (xs : List Int) (p : Int) (w : World) (h : ISl w A n c xs) (hp : Md p) (hn : n ≤ 1099511627776) :
    Calls Tryd.prog 49 #[.slice A n c, .int .i64 p] w fun e w' => ∃ v, e = .returned v ∧ PolOut p (cf xs) n w v w' := by
  have H := Lib.hid h
  have hcl := h.le
  have hcm := h.max
  obtain ⟨hp1, hp2⟩ := hp
  have MD := Lib.hid (show Md p from ⟨hp1, hp2⟩)
  have RED := Lib.hid (fun (a : Int) (w : World) => refRed_any a p w (by omega) (by omega))
  clear h
  go_enter Tryd.func49, Tryd.ntmps49
  go_wp2_with fail
  go_loopw [6, 5] (fun i v wr => ∃ k : Nat, k ≤ n ∧ i = .int .i64 k ∧ IOw wr w.heap.size v (rst p (xs.take k)) ∧ Below w.heap.size w wr) (fun i _ _ => n - (intOf i).toNat)
  case atStart => exact ⟨0, Nat.zero_le _, rfl, IOw.nil _ _, Below.refl _ _⟩
  case round =>
    obtain ⟨k, hk, rfl, hown, hbel⟩ := hrel
    by_cases hlt : k < n
    · obtain ⟨b, o, rfl, hbl, hc⟩ := H.out.cf_ (by omega)
      have hx := hc k hlt
      rw [← hbel.cell (p := ⟨b, o + k, none⟩) hbl] at hx
      have hsn := rst_snoc p xs k (by rw [← H.out.len]; exact hlt)
      have hR := RED.out (cf xs k) wr
      rw [red_pos hp1] at hR
      have hy0 := Int.emod_nonneg (cf xs k) (b := p) (by omega)
      have hy1 := Int.emod_lt_of_pos (cf xs k) (b := p) (by omega)
      generalize cf xs k % p = y at *
      generalize cf xs k = x at *
      have hl : (rst p (xs.take k)).length = k := by rw [rst_length, List.length_take, ← H.out.len]; omega
      have hN := (iblk_list wr [y] (fi_one (by unfold In64; omega))).sl (by simp)
      have HN := Lib.hid hN
      have HO := Lib.hid hown
      have HB := Lib.hid hbel
      have HR := Lib.hid hR
      have HS := Lib.hid hsn
      have HL := Lib.hid hl
      have hsz := hbel.size
      clear hc hN hown hbel hR hsn hl
      go_wp2_with (first
        | (go_at_call 72; (with_reducible refine HR.out.mono ?_); rintro e w' ⟨rfl, rfl⟩)
        | (at_builtin; refine iwpList_app _ rfl (.tmp 14) (.tmp 21) rfl w.heap.size _ _ rfl (HO.out.alloc _) (some ⟨wr.heap.size, 0, none⟩) 1 1 rfl [y] HN.out (by rw [HL.out]; omega) (by simp; omega) ?_; intro v1 w3 ho1 hb3))
      have hb4 : Below w.heap.size w w3 := (HB.out.alloc hsz _).trans hb3
      clear hb3
      rw [← HS.out] at ho1
      go_roundw
      case rel => exact ⟨k + 1, by omega, by go_num, ho1, hb4⟩
      case measure => simp [intOf]; omega
    · obtain rfl : k = n := by omega
      have hk2 : xs.take k = xs := List.take_of_length_le (by rw [← H.out.len]; exact Nat.le_refl _)
      rw [hk2] at hown
      obtain ⟨A', d, rfl, hs, hnew⟩ := hown.sl
      have NEW := Lib.hid hnew
      have hl : (rst p xs).length = k := by rw [rst_length, ← H.out.len]
      rw [hl] at hs ⊢
      have CUT := Lib.hid (fun t => @rst_cut p MD.out xs t)
      have hxl : k ≤ xs.length := by rw [← H.out.len]; exact Nat.le_refl _
      have HXL := Lib.hid hxl
      have RS := Lib.hid (rst_rs p MD.out xs)
      have HSS := Lib.hid hs
      have HB := Lib.hid hbel
      have hsle := hs.le
      have hsm := hs.max
      have OV := Lib.hid (fun i (hi : k ≤ i) => cf_over (xs := rst p xs) (i := i) (by rw [hl]; exact hi))
      clear hown hk2 hl hs hbel hxl hnew
      generalize rst p xs = zs at *
      go_wp2_with fail
      by_cases hn0 : k = 0
      · subst hn0
        go_loop [7] (fun t => t = .int .i64 0) (fun _ => 0)
        case atStart => rfl
        case round =>
          subst hrel
          have hAd := HSS.out.2.2.2.1
          rcases A' with _ | a
          · obtain rfl := hAd rfl
            go_wp2_with fail
            go_ret
            exact ⟨_, rfl, none, 0, 0, _, rfl, HSS.out.take 0 (Nat.le_refl _), CUT.out 0 (Nat.zero_le _) OV.out (.inl rfl), Nat.le_refl _, NEW.out, HB.out⟩
          · clear hAd
            go_wp2_with fail
            go_ret
            exact ⟨_, rfl, some a, 0, d, _, rfl, HSS.out.take 0 (Nat.le_refl _), CUT.out 0 (Nat.zero_le _) OV.out (.inl rfl), Nat.le_refl _, NEW.out, HB.out⟩
      · obtain ⟨b, o, rfl, _, hc⟩ := HSS.out.cf_ (by omega)
        have HC := Lib.hid hc
        clear hc
        go_loop [7] (fun t => ∃ j : Nat, j ≤ k ∧ t = .int .i64 (j : Int) ∧ Hid (∀ i, j ≤ i → cf zs i = 0)) (fun t => (intOf t).toNat)
        case atStart => exact ⟨k, Nat.le_refl _, rfl, OV⟩
        case round =>
          obtain ⟨j, hj, rfl, hz⟩ := hrel
          by_cases hj0 : j = 0
          · subst hj0
            go_wp2_with fail
            go_ret
            exact ⟨_, rfl, _, 0, d, _, rfl, HSS.out.take 0 (Nat.zero_le _), CUT.out 0 (Nat.zero_le _) hz.out (.inl rfl), Nat.zero_le _, NEW.out, HB.out⟩
          · have hcell := HC.out (j - 1) (by omega)
            have hpos : 0 < j := by omega
            by_cases hy : cf zs (j - 1) = 0
            · have HY := Lib.hid hy
              rw [hy] at hcell
              clear hy
              go_wp2_with fail
              go_round
              case rel => exact ⟨j - 1, by omega, by go_num, fun i hi => by
                by_cases e : i = j - 1
                · rw [e]; exact HY.out
                · exact hz.out i (by omega)⟩
              case measure => simp [intOf]; omega
            · have HY := Lib.hid hy
              obtain ⟨y, hyy⟩ : ∃ y, cf zs (j - 1) = y := ⟨_, rfl⟩
              rw [hyy] at hcell hy
              have hyb : (y == 0) = false := by simpa using hy
              clear hy hyy
              go_wp2_with fail
              go_ret
              exact ⟨_, rfl, _, j, d, _, rfl, HSS.out.take j hj, CUT.out j (Nat.le_trans hj HXL.out) hz.out (.inr HY.out), hj, NEW.out, HB.out⟩
end Go.Proofs.YtekpifafjbkmiaaDoor

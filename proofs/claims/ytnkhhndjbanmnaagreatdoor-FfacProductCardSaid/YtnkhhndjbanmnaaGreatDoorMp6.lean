/- Texts joined, in their order: PrgFp, PrgMade, PolRing, PolSame, PolDer. -/
import Derived.WalkMore
import Derived.Deep.QuietTactic
import Derived.BigQuiet
import Derived.Below
import Derived.Shelf.Abstract
import Derived.Test.YtnkhhndjbanmnaaGreatDoorMp3
import Derived.Test.YtnkhhndjbanmnaaGreatDoorMp5

/- fp's calls but Inv and Div, by their contracts. -/
namespace Go.Proofs.YtnkhhndjbanmnaaGreatDoor
open Go.RowKit

theorem pbelow_drewN (w : World) (n : Nat) : Below w.heap.size w (w.drewN n) :=
  have h := Below.refl w.heap.size w
  ⟨h.os, h.tape, h.output, h.size, h.block⟩
def lft (a p : Int) : Int := if a < 0 then a + p else a
theorem lft_low {a p : Int} (h : a < 0) : lft a p = a + p := if_pos h
theorem lft_pos {a p : Int} (h : 0 ≤ a) : lft a p = a := if_neg (by omega)
theorem pLifted_any (a p : Int) (w : World) (h0 : 0 ≤ p) (h1 : -p ≤ a) (h3 : p ≤ 9223372036854775807) :
    Calls Tryz.prog 139 #[.int .i64 a, .int .i64 p] w fun e w' => e = .returned (.int .i64 (lft a p)) ∧ w = w' := by
  rcases Int.lt_or_le a 0 with h | h
  · rw [lft_low h]
    go_enter Tryz.func139, Tryz.ntmps139
    go_wp2_with fail
    go_ret
    exact ⟨rfl, rfl⟩
  · rw [lft_pos h]
    go_enter Tryz.func139, Tryz.ntmps139
    go_wp2_with fail
    go_ret
    exact ⟨rfl, rfl⟩

theorem pRed_any (a p : Int) (w : World) (h2 : -9223372036854775808 ≤ p) (h3 : p ≤ 9223372036854775807) :
    Calls Tryz.prog 90 #[.int .i64 a, .int .i64 p] w fun e w' => e = .returned (.int .i64 (red a p)) ∧ w = w' := by
  by_cases hp : p < 1
  · have e := red_low (a := a) hp
    generalize red a p = r at *
    subst e
    go_enter Tryz.func90, Tryz.ntmps90
    go_wp2_with fail
    go_ret
    exact ⟨rfl, rfl⟩
  · have e := red_pos (a := a) (show 1 ≤ p by omega)
    have hc := tmod_cases a p (by omega)
    have hl : lft (a.tmod p) p = a % p := by
      rcases hc with ⟨c1, c2, c3⟩ | ⟨c1, c2, c3⟩
      · rw [lft_pos c1, c2]
      · rw [lft_low c1, c2]
    have L := pLifted_any (a.tmod p) p w (by omega) (by omega) h3
    rw [e]
    rw [hl] at L
    obtain ⟨t, ht⟩ : ∃ t, a.tmod p = t := ⟨_, rfl⟩
    obtain ⟨r, hr⟩ : ∃ r, a % p = r := ⟨_, rfl⟩
    rw [ht, hr] at hc
    rw [ht, hr] at L
    rw [hr]
    have LL := Lib.hid L
    clear e hr hl L
    have hc2 : -p < t ∧ t < p := by omega
    clear hc
    go_enter Tryz.func90, Tryz.ntmps90
    go_wp2_with (go_at_call 139; with_reducible refine LL.out.mono ?_; rintro e w' ⟨rfl, rfl⟩)
    go_ret
    exact ⟨rfl, rfl⟩

end Go.Proofs.YtnkhhndjbanmnaaGreatDoor

/- fpoly's coefficient, sumAt, trim, made, by their contracts. -/
namespace Go.Proofs.YtnkhhndjbanmnaaGreatDoor
open Go.RowKit Go.Shelf

set_option maxRecDepth 100000 in
set_option maxHeartbeats 1000000 in
theorem pCoef_any (A : Option Addr) (n c : Nat) (xs : List Int) (k : Nat) (w : World) (h : ISl w A n c xs) (hk : k ≤ 9223372036854775807) :
    Calls Tryz.prog 176 #[.slice A n c, .int .i64 (k : Int)] w fun e w' => e = .returned (.int .i64 (cf xs k)) ∧ w = w' := by
  have hcl := h.le
  have hcm := h.max
  by_cases hlt : k < n
  · obtain ⟨b, o, rfl, _, hc⟩ := h.cf_ (by omega)
    have hx := hc k hlt
    generalize cf xs k = x at *
    clear hc h
    go_enter Tryz.func176, Tryz.ntmps176
    go_wp2_with fail
    go_ret
    exact ⟨rfl, rfl⟩
  · have hz := cf_over (xs := xs) (i := k) (by rw [← h.len]; omega)
    generalize cf xs k = x at *
    subst hz
    clear h
    go_enter Tryz.func176, Tryz.ntmps176
    go_wp2_with fail
    go_ret
    exact ⟨rfl, rfl⟩

def vlen : Value → Nat
  | .slice _ n _ => n
  | _ => 0

set_option maxRecDepth 100000 in
set_option maxHeartbeats 2000000 in
theorem pTrim_any (A : Option Addr) (n c : Nat) (xs : List Int) (w : World) (h : ISl w A n c xs) :
    Calls Tryz.prog 128 #[.slice A n c] w fun e w' => ∃ t, e = .returned (.slice A t c) ∧ CutAt xs t ∧ w = w' := by
  have hcl := h.le
  have hcm := h.max
  have OV := Lib.hid (fun i (hi : n ≤ i) => cf_over (xs := xs) (i := i) (by rw [← h.len]; exact hi))
  have HL := Lib.hid h.len
  by_cases hn0 : n = 0
  · subst hn0
    have CUT := Lib.hid (show CutAt xs 0 from ⟨Nat.zero_le _, OV.out, .inl rfl⟩)
    clear OV HL h
    go_enter Tryz.func128, Tryz.ntmps128
    go_wp2_with fail
    go_loop [0] (fun v => v = .slice A 0 c) (fun _ => 0)
    case atStart => rfl
    case round =>
      subst hrel
      go_wp2_with fail
      go_ret
      exact ⟨0, rfl, CUT.out, rfl⟩
  · obtain ⟨b, o, rfl, _, hc⟩ := h.cf_ (by omega)
    have HC := Lib.hid hc
    have hpos : 0 < n := by omega
    clear hc h hn0
    go_enter Tryz.func128, Tryz.ntmps128
    go_wp2_with fail
    go_loop [0] (fun v => ∃ j : Nat, j ≤ n ∧ v = .slice (some ⟨b, o, none⟩) j c ∧ Hid (∀ i, j ≤ i → cf xs i = 0)) (fun v => vlen v)
    case atStart => exact ⟨n, Nat.le_refl _, rfl, OV⟩
    case round =>
      obtain ⟨j, hj, rfl, hz⟩ := hrel
      by_cases hj0 : j = 0
      · subst hj0
        go_wp2_with fail
        go_ret
        exact ⟨0, rfl, ⟨Nat.zero_le _, hz.out, .inl rfl⟩, rfl⟩
      · have hcell := HC.out (j - 1) (by omega)
        have hjpos : 0 < j := by omega
        by_cases hy : cf xs (j - 1) = 0
        · have HY := Lib.hid hy
          rw [hy] at hcell
          clear hy
          go_wp2_with fail
          go_round
          case rel => exact ⟨j - 1, by omega, by go_num, fun i hi => by
            by_cases e : i = j - 1
            · rw [e]; exact HY.out
            · exact hz.out i (by omega)⟩
          case measure => simp [vlen]; omega
        · have HY := Lib.hid hy
          obtain ⟨y, hyy⟩ : ∃ y, cf xs (j - 1) = y := ⟨_, rfl⟩
          rw [hyy] at hcell hy
          have hyb : (y == 0) = false := by simpa using hy
          clear hy hyy
          go_wp2_with fail
          go_ret
          exact ⟨j, rfl, ⟨by rw [← HL.out]; exact hj, hz.out, .inr HY.out⟩, rfl⟩

set_option maxRecDepth 100000 in
set_option maxHeartbeats 4000000 in
theorem pSumAt_any (A B : Option Addr) (n c n' c' : Nat) (xs ys : List Int) (k : Nat) (p : Int) (w : World) (h : ISl w A n c xs) (h' : ISl w B n' c' ys) (hp : Md p) (hx : Rs p xs) (hy : Rs p ys) (hk : k ≤ 1000000000000) (hn : n ≤ 1000000000) (hn' : n' ≤ 1000000000000) :
    Calls Tryz.prog 130 #[.slice A n c, .slice B n' c', .int .i64 (k : Int)] w fun e w' => e = .returned (.int .i64 (Ser.mul (cf xs) (cf ys) k)) ∧ ∃ q, w' = w.drewN q := by
  obtain ⟨hp1, hp2⟩ := hp
  have bx := hx.at hp1
  have bY := hy.at hp1
  have hX := h.le
  have hXm := h.max
  have hY := h'.le
  have hYm := h'.max
  have H := Lib.hid h
  have H' := Lib.hid h'
  have BD := Lib.hid (fun i => psum_bd hp2 bx bY k i)
  have LOW := Lib.hid (fun i (hi : i + n' ≤ k + 1) => psum_low (f := cf xs) (g := cf ys) (k := k) (i := i) (fun j hj => cf_over (by rw [← h'.len]; omega)))
  have Z0 := Lib.hid (show psum (cf xs) (cf ys) k 0 = 0 from rfl)
  have END := Lib.hid (fun i (hi : i ≤ k + 1) (hi2 : k + 1 ≤ i ∨ n ≤ i) => show psum (cf xs) (cf ys) k i = Ser.mul (cf xs) (cf ys) k from by
    rcases hi2 with h2 | h2
    · rw [← psum_all]; congr 1; omega
    · exact psum_end (fun j hj => cf_over (by rw [← h.len]; omega)) hi)
  have STEP := Lib.hid (fun i => show psum (cf xs) (cf ys) k (i + 1) = psum (cf xs) (cf ys) k i + cf xs i * cf ys (k - i) from rfl)
  have MB := Lib.hid (fun i j => mul_bdM (bx i) (bY j) hp2)
  generalize Ser.mul (cf xs) (cf ys) k = R at *
  generalize psum (cf xs) (cf ys) k = S at *
  clear bx bY h h' hx hy
  by_cases hkn : k + 1 < n'
  · have hki : (k : Int) - (n' : Int) + 1 ≤ 0 := by omega
    go_enter Tryz.func130, Tryz.ntmps130
    go_wp2_with fail
    go_loopw [7, 8] (fun s i wr => ∃ t : Nat, t ≤ k + 1 ∧ (k + 1 : Int) ≤ (t : Int) + (n' : Int) ∧ i = .int .i64 (t : Int) ∧ s = .int .i64 (S t) ∧ ∃ q, wr = w.drewN q) (fun _ i _ => k + 1 - (intOf i).toNat)
    case atStart => exact ⟨0, by omega, by omega, rfl, by rw [Z0.out], 0, rfl⟩
    case round => 
      obtain ⟨t, ht, htn, rfl, rfl, q, rfl⟩ := hrel
      by_cases hlt : t ≤ k
      · have c1 : (t : Int) ≤ (k : Int) := by omega
        by_cases hln : t < n
        · have c2 : (t : Int) < (n : Int) := by omega
          obtain ⟨b, o, rfl, hbl, hcx⟩ := H.out.cf_ (by omega)
          obtain ⟨b', o', rfl, hbl', hcy⟩ := H'.out.cf_ (by omega)
          have x1 := hcx t hln
          have x2 := hcy (k - t) (by omega)
          have s1 := STEP.out t
          have b1 := MB.out t (k - t)
          have b2 := BD.out t
          generalize cf xs t = x at *
          generalize cf ys (k - t) = y at *
          obtain ⟨P, hP⟩ : ∃ P, x * y = P := ⟨_, rfl⟩
          rw [hP] at s1 b1
          have HS1 := Lib.hid s1
          generalize S t = s at *
          have m1 : IntKind.i64.wrap (x * y) = P := by rw [hP, IntKind.wrap_i64]; omega
          have m2 : IntKind.i64.wrap (s + P) = s + P := by rw [IntKind.wrap_i64]; omega
          have m3 : IntKind.i64.wrap ((k : Int) - (t : Int)) = (k : Int) - (t : Int) := by rw [IntKind.wrap_i64]; omega
          have i1 : (0 : Int) ≤ (t : Int) := by omega
          have i3 : (0 : Int) ≤ (k : Int) - (t : Int) := by omega
          have i4 : (k : Int) - (t : Int) < (n' : Int) := by omega
          have i5 : ((k : Int) - (t : Int)).toNat = k - t := by omega
          have bb1 := b1.1
          have bb2 := b1.2
          have bb3 := b2.1
          have bb4 := b2.2
          clear hcx hcy hP s1 b1 b2
          go_wp2_with fail
          go_quiet (fail)
          go_wp2_with fail
          go_roundw
          case rel => exact ⟨t + 1, by omega, by omega, by go_num, by rw [HS1.out], _, rfl⟩
          case measure => simp [intOf]; omega
        · have c2 : ¬ (t : Int) < (n : Int) := by omega
          have c3 : decide ((t : Int) < (n : Int)) = false := by simp; omega
          have e := END.out t ht (.inr (by omega))
          go_wp2_with fail
          go_ret
          exact ⟨rfl, _, rfl⟩
      · have c1 : ¬ (t : Int) ≤ (k : Int) := by omega
        have c3 : decide ((t : Int) ≤ (k : Int)) = false := by simp; omega
        have e := END.out t ht (.inl (by omega))
        go_wp2_with fail
        go_ret
        exact ⟨rfl, _, rfl⟩
  · have hki : ¬ ((k : Int) - (n' : Int) + 1 < 0) := by omega
    have kn : (k : Int) - (n' : Int) + 1 = ((k + 1 - n' : Nat) : Int) := by omega
    have KN := Lib.hid kn
    clear kn
    go_enter Tryz.func130, Tryz.ntmps130
    go_wp2_with fail
    go_loopw [7, 8] (fun s i wr => ∃ t : Nat, t ≤ k + 1 ∧ (k + 1 : Int) ≤ (t : Int) + (n' : Int) ∧ i = .int .i64 (t : Int) ∧ s = .int .i64 (S t) ∧ ∃ q, wr = w.drewN q) (fun _ i _ => k + 1 - (intOf i).toNat)
    case atStart => exact ⟨k + 1 - n', by omega, by omega, by rw [KN.out], by rw [LOW.out (k + 1 - n') (by omega)], 0, rfl⟩
    case round => 
      obtain ⟨t, ht, htn, rfl, rfl, q, rfl⟩ := hrel
      by_cases hlt : t ≤ k
      · have c1 : (t : Int) ≤ (k : Int) := by omega
        by_cases hln : t < n
        · have c2 : (t : Int) < (n : Int) := by omega
          obtain ⟨b, o, rfl, hbl, hcx⟩ := H.out.cf_ (by omega)
          obtain ⟨b', o', rfl, hbl', hcy⟩ := H'.out.cf_ (by omega)
          have x1 := hcx t hln
          have x2 := hcy (k - t) (by omega)
          have s1 := STEP.out t
          have b1 := MB.out t (k - t)
          have b2 := BD.out t
          generalize cf xs t = x at *
          generalize cf ys (k - t) = y at *
          obtain ⟨P, hP⟩ : ∃ P, x * y = P := ⟨_, rfl⟩
          rw [hP] at s1 b1
          have HS1 := Lib.hid s1
          generalize S t = s at *
          have m1 : IntKind.i64.wrap (x * y) = P := by rw [hP, IntKind.wrap_i64]; omega
          have m2 : IntKind.i64.wrap (s + P) = s + P := by rw [IntKind.wrap_i64]; omega
          have m3 : IntKind.i64.wrap ((k : Int) - (t : Int)) = (k : Int) - (t : Int) := by rw [IntKind.wrap_i64]; omega
          have i1 : (0 : Int) ≤ (t : Int) := by omega
          have i3 : (0 : Int) ≤ (k : Int) - (t : Int) := by omega
          have i4 : (k : Int) - (t : Int) < (n' : Int) := by omega
          have i5 : ((k : Int) - (t : Int)).toNat = k - t := by omega
          have bb1 := b1.1
          have bb2 := b1.2
          have bb3 := b2.1
          have bb4 := b2.2
          clear hcx hcy hP s1 b1 b2
          go_wp2_with fail
          go_quiet (fail)
          go_wp2_with fail
          go_roundw
          case rel => exact ⟨t + 1, by omega, by omega, by go_num, by rw [HS1.out], _, rfl⟩
          case measure => simp [intOf]; omega
        · have c2 : ¬ (t : Int) < (n : Int) := by omega
          have c3 : decide ((t : Int) < (n : Int)) = false := by simp; omega
          have e := END.out t ht (.inr (by omega))
          go_wp2_with fail
          go_ret
          exact ⟨rfl, _, rfl⟩
      · have c1 : ¬ (t : Int) ≤ (k : Int) := by omega
        have c3 : decide ((t : Int) ≤ (k : Int)) = false := by simp; omega
        have e := END.out t ht (.inl (by omega))
        go_wp2_with fail
        go_ret
        exact ⟨rfl, _, rfl⟩

def Tells (g : Nat) (lb : Array Value) (f : Ser) (n : Nat) (w : World) : Prop :=
  ∀ (W : World) (t : Nat), t < n → Below w.heap.size w W → Calls Tryz.prog g (#[.int .i64 (t : Int)] ++ lb) W fun e w' => e = .returned (.int .i64 (f t)) ∧ Below W.heap.size W w'

set_option maxRecDepth 100000 in
set_option maxHeartbeats 4000000 in
theorem pMade_any (g : Nat) (lb : Array Value) (eg : ∀ args w, (callFunc g args).run Tryz.prog w = .ok (.enter g args) w) (f : Ser) (n : Nat) (p : Int) (w : World) (hp : Md p) (hT : Tells g lb f n w) (hn : n ≤ 35184372088832) :
    Calls Tryz.prog 78 #[.int .i64 (n : Int), .int .i64 p, .func (.func g) #[] lb] w fun e w' => ∃ v, e = .returned v ∧ PolOut p (fst n f) n w v w' := by
  have MD := Lib.hid hp
  obtain ⟨hp1, hp2⟩ := hp
  have HT := Lib.hid hT
  have RED := Lib.hid (fun (a : Int) (w : World) => show Calls Tryz.prog 90 #[.int .i64 a, .int .i64 p] w fun e w' => e = .returned (.int .i64 (a % p)) ∧ w = w' from by
    have := pRed_any a p w (by omega) (by omega)
    rwa [red_pos hp1] at this)
  clear hT
  go_enter Tryz.func78, Tryz.ntmps78
  go_wp2_with (at_make; refine wpList_make_ints _ rfl _ _ rfl _ _ _ _ n rfl rfl rfl rfl (by omega) ?_; intro w3 hk3 hb3; have HK3 := Lib.hid hk3; clear hk3)
  go_loopw [13] (fun i wr => ∃ t : Nat, t ≤ n ∧ i = .int .i64 (t : Int) ∧ ∃ L, IBlk wr w.heap.size L ∧ MdIn p f n t L ∧ Below w.heap.size w wr) (fun i _ => n - (intOf i).toNat)
  case atStart => exact ⟨0, Nat.zero_le _, rfl, _, HK3.out, mdIn_start hp1 f n, hb3⟩
  case round =>
    obtain ⟨t, ht, rfl, L, hL, hIn, hbel⟩ := hrel
    clear HK3 hb3
    by_cases hlt : t < n
    · have c1 := HT.out wr t hlt hbel
      have hst := hIn.step hp1 hlt
      obtain ⟨u, hu⟩ : ∃ u, f t = u := ⟨_, rfl⟩
      rw [hu] at c1 hst
      have r1 := RED.out u
      have hq0 := Int.emod_nonneg u (b := p) (by omega)
      have hq1 := Int.emod_lt_of_pos u (b := p) (by omega)
      obtain ⟨z, hz⟩ : ∃ z, u % p = z := ⟨_, rfl⟩
      rw [hz] at r1 hst hq0 hq1
      have hf1 := hL.frozen t
      have hll := hIn.1
      have HLL := Lib.hid hll
      have HST := Lib.hid hst
      have C1 := Lib.hid c1
      have R1 := Lib.hid r1
      have HL := Lib.hid hL
      have HBB := Lib.hid hbel
      have i2 : (t : Int) < (n : Int) := by omega
      clear c1 hst r1 hu hz hf1 hll hL hIn hbel
      go_wp2_with (first
        | (go_at_fn g; (with_reducible refine C1.out.mono ?_); rintro e w5 ⟨rfl, hb5⟩; have hL5 := HL.out.below hb5; have HL5 := Lib.hid hL5; have hc5 := hL5.cellD t (by rw [HLL.out]; exact hlt); have hf5 := hL5.frozen t; have HB5 := Lib.hid (HBB.out.trans (hb5.mono HBB.out.size)); clear hb5 hL5)
        | (go_at_call 90; (with_reducible refine (R1.out _).mono ?_); rintro e w6 ⟨rfl, rfl⟩))
      go_roundw
      case rel => exact ⟨t + 1, by omega, by go_num, _, HL5.out.set_ t z (by unfold In64; omega), HST.out, HB5.out.setCell (p := ⟨w.heap.size, t, none⟩) (Nat.le_refl _) _⟩
      case measure => simp [intOf]; omega
    · obtain rfl : t = n := by omega
      have hs := hL.sl (by rw [hIn.1]; omega)
      rw [hIn.1] at hs
      have T := pTrim_any _ _ _ _ wr hs
      have EQ := Lib.hid hIn.eq
      have RS := Lib.hid hIn.2.1
      have TT := Lib.hid T
      have HS := Lib.hid hs
      have HBB := Lib.hid hbel
      have HLL := Lib.hid hIn.1
      clear T hs hIn hL hbel
      go_wp2_with (go_at_call 128; refine TT.out.mono ?_; rintro e w5 ⟨j, rfl, hcut, rfl⟩; have HC := Lib.hid hcut; clear hcut)
      go_ret
      have hj : j ≤ t := by have := HC.out.1; rw [HLL.out] at this; exact this
      exact ⟨_, rfl, _, _, _, _, rfl, HS.out.take j hj, HC.out.pol RS.out EQ.out, hj, fun b o s e => by simp only [Option.some.injEq, Addr.mk.injEq] at e; omega, HBB.out⟩
end Go.Proofs.YtnkhhndjbanmnaaGreatDoor

/- cleaverref06.Norm, Add, Sub, Mul, by their contracts. -/
namespace Go.Proofs.YtnkhhndjbanmnaaGreatDoor
open Go.RowKit

end Go.Proofs.YtnkhhndjbanmnaaGreatDoor

/- cleaverref06.Same where both are the same; Monic, Deriv, Eval, by their contracts. -/
namespace Go.Proofs.YtnkhhndjbanmnaaGreatDoor
open Go.RowKit

set_option maxRecDepth 100000 in
set_option maxHeartbeats 1000000 in
theorem polSame (A B : Option Addr) (n c n' c' : Nat) (xs ys : List Int) (w : World) (h : ISl w A n c xs) (h' : ISl w B n' c' ys) (e : xs = ys) :
    Calls Tryz.prog 24 #[.slice A n c, .slice B n' c'] w fun e w' => e = .returned (.bool true) ∧ Below w.heap.size w w' := by
  subst e
  have hnn : n' = n := by rw [h.len, h'.len]
  subst hnn
  have hle := h.le
  have hmx := h.max
  have H := Lib.hid h
  have H' := Lib.hid h'
  clear h h'
  go_enter Tryz.func24, Tryz.ntmps24
  go_wp2
  go_loopw [5] (fun i wr => ∃ k : Nat, k ≤ n' ∧ i = .int .i64 k ∧ Below w.heap.size w wr) (fun i _ => n' - (intOf i).toNat)
  case atStart => exact ⟨0, Nat.zero_le _, rfl, Below.refl _ _⟩
  case round =>
    obtain ⟨k, hk, rfl, hb⟩ := hrel
    by_cases hlt : k < n'
    · obtain ⟨b, o, rfl, hl1, hca⟩ := H.out.cf_ (by omega)
      obtain ⟨b', o', rfl, hl2, hcb⟩ := H'.out.cf_ (by omega)
      have h1 := hca k hlt
      have h2 := hcb k hlt
      rw [← hb.cell (p := ⟨b, o + k, none⟩) hl1] at h1
      rw [← hb.cell (p := ⟨b', o' + k, none⟩) hl2] at h2
      generalize cf xs k = x at *
      have i1 : (0 : Int) ≤ (k : Int) := by omega
      have i2 : (k : Int) < (n' : Int) := by omega
      have HB := Lib.hid hb
      clear hca hcb hb
      go_wp2
      go_quiet (fail)
      go_wp2
      go_roundw
      case rel => exact ⟨k + 1, by omega, by go_num, ibelow_drewN HB.out _⟩
      case measure => simp [intOf]; omega
    · obtain rfl : k = n' := by omega
      go_wp2
      go_ret
      exact ⟨rfl, hb⟩

def IsMon (p : Int) (f g : Ser) : Prop := (Ser.Bd p f 0 ∧ Ser.Bd p g 0) ∨ ∃ m, Ser.Bd p f (m + 1) ∧ f m % p ≠ 0 ∧ Ser.Eq p g (Ser.sc (finv (f m) p) f)
theorem finv_congr {a b p : Int} (h : Pr p) (e : a % p = b % p) : finv a p = finv b p := by
  rcases Classical.em (a % p = 0) with h0 | h0
  · rw [finv_zero h0, finv_zero (by rw [← e]; exact h0)]
  · have hs := finv_spec h h0
    refine (finv_eq h ⟨by omega, hs.2.1, ?_⟩).symm
    rw [Int.mul_emod, ← e, ← Int.mul_emod]
    exact hs.2.2
theorem top_uniq {p : Int} {f f' : Ser} {m m' : Nat} (e : Ser.Eq p f f') (h : Ser.Bd p f (m + 1)) (h2 : f m % p ≠ 0) (k : Ser.Bd p f' (m' + 1)) (k2 : f' m' % p ≠ 0) : m = m' := by
  rcases Nat.lt_trichotomy m m' with hl | hl | hl
  · exact absurd ((e m').symm.trans (h m' (by omega))) k2
  · exact hl
  · exact absurd ((e m).trans (k m (by omega))) h2
theorem IsMon.uniq {p : Int} {f f' g g' : Ser} (hp : Pr p) (e : Ser.Eq p f f') (h : IsMon p f g) (k : IsMon p f' g') : Ser.Eq p g g' := by
  rcases h with ⟨h1, h2⟩ | ⟨m, h1, h2, h3⟩
  · rcases k with ⟨k1, k2⟩ | ⟨m', k1, k2, k3⟩
    · exact fun i => by rw [h2 i (Nat.zero_le _), k2 i (Nat.zero_le _)]
    · exact absurd ((e m').symm.trans (h1 m' (Nat.zero_le _))) k2
  · rcases k with ⟨k1, k2⟩ | ⟨m', k1, k2, k3⟩
    · exact absurd ((e m).trans (k1 m (Nat.zero_le _))) h2
    · obtain rfl := top_uniq e h1 h2 k1 k2
      refine h3.trans (Ser.Eq.trans (Ser.Eq.sc ?_ e) k3.symm)
      rw [finv_congr hp (e m)]

set_option maxRecDepth 100000 in
set_option maxHeartbeats 400000 in
theorem refMonic_not (A : Option Addr) (n c : Nat) (p : Int) (w : World) (h0 : In64 p) (hp : ¬ Pr p) :
    Calls Tryz.prog 43 #[.slice A n c, .int .i64 p] w fun e w' => e = .returned (.tuple #[.slice none 0 0, .int .i64 1]) ∧ w = w' := by
  have C := refCheck_any p w h0.1 h0.2
  rw [chk_no (primB_no hp)] at C
  have CC := Lib.hid C
  clear C hp h0
  go_enter Tryz.func43, Tryz.ntmps43
  go_wp2_with (go_at_call 30; (with_reducible refine CC.out.mono ?_); rintro e w' ⟨rfl, rfl⟩)
  go_ret2
  exact ⟨rfl, rfl⟩

def MonOut (p : Int) (f : Ser) (n : Nat) (w : World) (v : Value) (w' : World) : Prop := ∃ g, IsMon p f g ∧ PolOut p g n w v w'

theorem cf_one (t : Int) : cf [t] = Ser.con t := by
  funext i
  cases i with
  | zero => rw [cf_cons_zero]; rfl
  | succ i => rw [cf_cons_succ, cf_nil]; rfl

set_option maxRecDepth 100000 in
set_option maxHeartbeats 1000000 in
theorem refMonic_any (A : Option Addr) (n c : Nat) (xs : List Int) (p : Int) (w : World) (h : ISl w A n c xs) (hp : Pr p) (hn : n ≤ 400000000000) :
    Calls Tryz.prog 43 #[.slice A n c, .int .i64 p] w fun e w' => ∃ v, e = .returned (.tuple #[v, .int .i64 0]) ∧ MonOut p (cf xs) (n + 1) w v w' := by
  have H := Lib.hid h
  have PR := Lib.hid hp
  have MD := Lib.hid hp.md
  have hp1 := hp.1
  have hp2 := hp.2.1
  have hpos : 1 ≤ p := by omega
  have C := refCheck_any p w (by omega) (by omega)
  rw [chk_yes (primB_yes hp)] at C
  have CC := Lib.hid C
  clear h C hp
  go_enter Tryz.func43, Tryz.ntmps43
  go_wp2_with (go_at_call 30; (with_reducible refine CC.out.mono ?_); rintro e w' ⟨rfl, rfl⟩)
  refine (plain_any A n c xs p w H.out MD.out (by omega)).mono ?_
  rintro e w1 ⟨v1, rfl, X, m', d', fx, rfl, hX, px, hmn', hf1, hb1⟩
  by_cases hm0 : m' = 0
  · subst hm0
    have hnil : fx = [] := List.eq_nil_of_length_eq_zero hX.len.symm
    have hb0 := (px.nought hpos).1 hnil
    have HB := Lib.hid hb1
    have HB0 := Lib.hid hb0
    clear hX px hnil hb0 hb1
    go_wp2_with fail
    go_ret2
    refine ⟨_, rfl, Ser.zer, .inl ⟨HB0.out, fun i _ => by simp [Ser.zer]⟩, none, 0, 0, [], rfl, ⟨rfl, Nat.le_refl _, by decide, fun _ => rfl, IRd.nil _ _⟩, ⟨Pln.nil p, fun i => by rw [cf_nil]; rfl⟩, Nat.zero_le _, (fun b o s e => by cases e), HB.out⟩
  · obtain ⟨m, rfl⟩ : ∃ m, m' = m + 1 := ⟨m' - 1, by omega⟩
    have hT : cf fx m % p ≠ 0 := by
      have := px.1.top (by intro e; have := hX.len; rw [e] at this; simp at this) hpos
      rwa [← hX.len, Nat.add_sub_cancel] at this
    have HT := Lib.hid hT
    have PX := Lib.hid px
    have HXL := Lib.hid hX.len
    have HB := Lib.hid hb1
    have hXle := hX.le
    have hXmx := hX.max
    obtain ⟨b, o, e, hbl, hc⟩ := hX.cf_ (by omega)
    subst e
    have hx := hc m (by omega)
    have INV := Lib.hid (fun w => inverse_any (cf fx m) p w PR.out HT.out)
    have hs := finv_spec PR.out HT.out
    obtain ⟨t, ht⟩ : ∃ t, finv (cf fx m) p = t := ⟨_, rfl⟩
    rw [ht] at hs
    have HTI := Lib.hid ht
    have INV : Hid (∀ w : World, Calls Tryz.prog 73 #[.int .i64 (cf fx m), .int .i64 p] w fun e w' => e = .returned (.int .i64 t) ∧ w = w') := Lib.hid (by
      intro w
      have := INV.out w
      rwa [HTI.out] at this)
    have ht1 := hs.1
    have ht2 := hs.2.1
    have hN := (iblk_list w1 [t] (fi_one (by unfold In64; omega))).sl (by simp)
    have TM := times_any (some ⟨b, o, none⟩) (some ⟨w1.heap.size, 0, none⟩) (m + 1) d' 1 1 fx [t] p (w1.alloc (.cells #[iv t] 3)) (hX.below ((Below.refl _ _).alloc (Nat.le_refl _) _)) hN MD.out (by omega) (by omega)
    have TT := Lib.hid TM
    have hsz := hb1.size
    have HSZ := Lib.hid hsz
    clear hX px hc hs ht hT hN TM hf1 hb1
    go_wp2_with (first
      | (go_at_call 73; (with_reducible refine (INV.out _).mono ?_); rintro e w' ⟨rfl, rfl⟩)
      | (go_at_call 25; (with_reducible refine TT.out.mono ?_); rintro e w5 ⟨v5, rfl, hout⟩))
    go_ret2
    have hbd : Ser.Bd p (cf xs) (m + 1) := Ser.Bd.eq (by rw [HXL.out]; exact bd_len p fx) PX.out.2
    have htop : cf xs m % p ≠ 0 := by rw [← PX.out.2 m]; exact HT.out
    refine ⟨_, rfl, Ser.sc t (cf xs), .inr ⟨m, hbd, htop, ?_⟩, (hout.eq ?_).after (HB.out.trans (((Below.refl _ _).alloc (Nat.le_refl _) _).mono HSZ.out)) (by omega)⟩
    · rw [← finv_congr PR.out (PX.out.2 m), HTI.out]
      exact Ser.Eq.refl p _
    · rw [cf_one, Ser.mul_comm, Ser.con_mul]
      exact Ser.Eq.sc rfl PX.out.2
end Go.Proofs.YtnkhhndjbanmnaaGreatDoor

/- cleaverref06.Deriv and Eval, by their contracts. -/
namespace Go.Proofs.YtnkhhndjbanmnaaGreatDoor
open Go.RowKit

theorem ISl.drew {w : World} {A : Option Addr} {n c : Nat} {xs : List Int} (h : ISl w A n c xs) : ISl w.drew A n c xs := h
theorem quietL {P : Program} {f : FuncId} {args : Array Value} {w : World} {n : Nat} {v : Value}
    (h : Calls P f args (w.drewN n) fun e w' => e = .returned v ∧ w.drewN n = w') : Calls P f args (w.drewN n) fun e w'' => e = .returned v ∧ ∃ m, w'' = w.drewN m :=
  h.mono fun _ _ ⟨he, hm⟩ => ⟨he, n, hm.symm⟩

def Ser.der (f : Ser) : Ser := fun i => ((i : Int) + 1) * f (i + 1)
theorem Ser.Eq.der {p : Int} {f g : Ser} (h : Ser.Eq p f g) : Ser.Eq p (Ser.der f) (Ser.der g) := fun i => by
  show ((i : Int) + 1) * f (i + 1) % p = ((i : Int) + 1) * g (i + 1) % p
  rw [Int.mul_emod, h (i + 1), ← Int.mul_emod]
def derL (p : Int) (X : List Int) (k : Nat) : List Int := (List.range k).map fun (i : Nat) => ((i : Int) + 1) % p * cf X (i + 1) % p
def evL (x : Int) : List Int → Int
  | [] => 0
  | a :: l => a + x * evL x l
noncomputable def evP (x p : Int) (xs : List Int) : Int := if primB p = true then evL x xs % p else 0
end Go.Proofs.YtnkhhndjbanmnaaGreatDoor

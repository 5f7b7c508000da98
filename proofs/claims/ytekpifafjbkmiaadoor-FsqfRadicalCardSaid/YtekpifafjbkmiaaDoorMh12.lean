/- Texts joined, in their order: PrgDiv, PolName, PolDoc. -/
import Derived.Test.YtekpifafjbkmiaaDoorMh8
import Derived.Test.YtekpifafjbkmiaaDoorMh9
import Derived.Test.YtekpifafjbkmiaaDoorMh10
import Derived.Test.YtekpifafjbkmiaaDoorMh11

/- fpoly's overLast, divided, monic, by their contracts. -/
namespace Go.Proofs.YtekpifafjbkmiaaDoor
open Go.RowKit Go.Shelf

/-- The inverse of the last coefficient; 1 of nought. -/
noncomputable def ovl (p : Int) (xs : List Int) : Int := if xs.length = 0 then 1 else finv (cf xs (xs.length - 1)) p
theorem ovl_bd {p : Int} {xs : List Int} (hp : Pr p) (hx : Pln p xs) : 0 ≤ ovl p xs ∧ ovl p xs < p := by
  have h2 := hp.1
  unfold ovl
  split
  · omega
  · rename_i h
    have := finv_spec hp (hx.top (by intro e; rw [e] at h; simp at h) (by omega))
    omega

set_option maxRecDepth 100000 in
set_option maxHeartbeats 1000000 in
theorem pOver_any (A : Option Addr) (n c : Nat) (xs : List Int) (p : Int) (w : World) (hT : TabAt w) (h : ISl w A n c xs) (hp : Pr p) (hx : Pln p xs) :
    Calls Tryd.prog 64 #[.slice A n c, .int .i64 p] w fun e w' => e = .returned (.int .i64 (ovl p xs)) ∧ Below w.heap.size w w' := by
  have hp1 := hp.1
  have hp2 := hp.2.1
  have hcl := h.le
  have hcm := h.max
  by_cases hn : n = 0
  · subst hn
    have e : ovl p xs = 1 := if_pos h.len.symm
    rw [e]
    clear h hx e hT hp
    go_enter Tryd.func64, Tryd.ntmps64
    go_wp2_with fail
    go_ret
    exact ⟨rfl, Below.refl _ _⟩
  · have hl := h.len
    have e : ovl p xs = finv (cf xs (n - 1)) p := by
      unfold ovl
      rw [if_neg (by omega), ← hl]
    have ht := hx.top (by intro e; rw [e] at hl; simp at hl; exact hn hl) (by omega)
    rw [← hl] at ht
    have I := pInv_any (cf xs (n - 1)) p w (by omega) (by omega) hT
    rw [einv_yes (primB_yes hp) ht, ← e] at I
    obtain ⟨b, o, rfl, _, hc⟩ := h.cf_ (by omega)
    have hcell := hc (n - 1) (by omega)
    generalize cf xs (n - 1) = x at *
    generalize ovl p xs = v at *
    have II := Lib.hid I
    have hpos : 0 < n := by omega
    clear I hc ht e hl h hx hT hn hp
    go_enter Tryd.func64, Tryd.ntmps64
    go_wp2_with (go_at_call 80; (with_reducible refine II.out.mono ?_); rintro e w' ⟨rfl, hb⟩; have HB := Lib.hid hb; clear hb)
    go_ret
    exact ⟨rfl, HB.out⟩

theorem dvd_out {p : Int} (hp : Pr p) {K m n b : Nat} {xs ys Q : List Int} {w w5 : World} {v5 : Value} (hx : Pln p xs) (hn : n = xs.length) (hb : Ser.Bd p (cf ys) (m + 1)) (hK : (K = 0 ∧ n ≤ m) ∨ K + m = n)
    (hIn : DvD p K m 0 xs ys Q) (hq : ISl w5 (some ⟨b, 0, none⟩) K K Q) (ho : PolIn p (fst m (lft2 xs Q ys)) m w5 v5) (hbel : Below w.heap.size w w5) :
    DivOut p m (cf xs) (cf ys) n w (.slice (some ⟨b, 0, none⟩) K K) v5 w5 := by
  have hp1 := hp.1
  have hpl := hIn.plain hp hb hx (by omega)
  refine ⟨cf Q, fst m (lft2 xs Q ys), ⟨_, K, K, Q, rfl, hq, Pol.self hpl, by omega⟩, ?_, hIn.isDiv, (bd_len p Q).mono (by rw [hIn.len]; omega), hbel⟩
  obtain ⟨C, k, d, rs, rfl, hs, hpol, hk⟩ := ho
  refine ⟨C, k, d, rs, rfl, hs, hpol, ?_⟩
  rcases hK with ⟨hK, hnm⟩ | hK
  · have hQ : Q = [] := List.eq_nil_of_length_eq_zero (by rw [hIn.len, hK])
    rw [hs.len]
    refine hpol.1.len_le (by omega) (Ser.Bd.eq (f := fst m (lft2 xs Q ys)) ?_ hpol.2.symm)
    intro i hi
    show (if i < m then cf xs i - Ser.mul (cf Q) (cf ys) i else 0) % p = 0
    have e : cf Q = Ser.zer := by rw [hQ]; funext j; exact cf_nil j
    rw [e, Ser.zer_mul, cf_over (by omega)]
    split
    · show (0 - 0 : Int) % p = 0
      simp
    · simp
  · omega

set_option maxRecDepth 100000 in
set_option maxHeartbeats 4000000 in
theorem pDivided_new (A B : Option Addr) (n c n' c' m : Nat) (xs ys : List Int) (p : Int) (w : World) (hT : TabAt w) (h : ISl w A n c xs) (h' : ISl w B n' c' ys) (hp : Pr p) (hx : Pln p xs) (hy : Pln p ys) (hm : n' = m + 1) (hn : n ≤ 1000000000) (hn' : n' ≤ 1000000000) :
    Calls Tryd.prog 41 #[.slice A n c, .slice B n' c', .int .i64 p] w fun e w' => ∃ v1 v2, e = .returned (.tuple #[v1, v2]) ∧ DivOut p m (cf xs) (cf ys) n w v1 v2 w' ∧ FreshV w v1 ∧ FreshV w v2 := by
  have hp1 := hp.1
  have hp2 := hp.2.1
  have hl := h.len
  have hl' := h'.len
  have PR := Lib.hid hp
  have MD := Lib.hid hp.md
  have PX := Lib.hid hx
  have RX := Lib.hid hx.1
  have RY := Lib.hid hy.1
  have YB := Lib.hid (show Ser.Bd p (cf ys) (m + 1) from by rw [← hm, hl']; exact bd_len p ys)
  have YZ := Lib.hid (fun j (hj : m < j) => cf_over (xs := ys) (i := j) (by omega))
  have YT := Lib.hid (show cf ys m % p ≠ 0 from by
    have := hy.top (by intro e; rw [e] at hl'; simp at hl'; omega) (by omega)
    rwa [← hl', hm, Nat.add_sub_cancel] at this)
  have HL := Lib.hid hl
  have OV := pOver_any B n' c' ys p w hT h' hp hy
  have eo : ovl p ys = finv (cf ys m) p := by
    unfold ovl
    rw [if_neg (by omega), ← hl', hm, Nat.add_sub_cancel]
  have bo := ovl_bd hp hy
  have EO := Lib.hid eo
  generalize ovl p ys = u at *
  have OO := Lib.hid OV
  have H1 := Lib.hid h
  have H2 := Lib.hid h'
  have hcl := h.le
  have hcm := h.max
  have hcl' := h'.le
  have hcm' := h'.max
  have MB := Lib.hid (fun (x : Int) (hx : 0 ≤ x ∧ x < p) => mul_bdM hx bo hp2)
  have REDS := Lib.hid (fun (a : Int) (W : World) => pRed_md a p MD.out W)
  clear OV h h' hx hy hl hl' eo hT hp
  have hm1 : (n' : Int) = (m : Int) + 1 := by omega
  have HM1 := Lib.hid hm
  clear hm
  obtain ⟨K, hK0⟩ : ∃ K : Nat, K = n - m := ⟨_, rfl⟩
  have ST : Hid (DvD p K m K xs ys (List.replicate K 0)) := Lib.hid (dvD_start (by omega) xs ys (by rw [← HL.out]; omega))
  have HKK : Hid ((K = 0 ∧ n ≤ m) ∨ K + m = n) := Lib.hid (by omega)
  have KZ : Hid (max ((n : Int) - (m : Int)) 0 = (K : Int)) := Lib.hid (by omega)
  have hK9 : K ≤ 1000000000 := by omega
  clear hK0
  go_enter Tryd.func41, Tryd.ntmps41
  go_wp2_with (first
    | (go_at_call 64; (with_reducible refine OO.out.mono ?_); rintro e w1 ⟨rfl, hb1⟩; have HB1 := Lib.hid hb1; have H3 := Lib.hid (H1.out.below hb1); have H4 := Lib.hid (H2.out.below hb1); clear hb1)
    | (at_make; (refine wpList_make_ints _ rfl _ _ rfl _ _ _ _ K rfl rfl (by first | exact KZ.out | (have := KZ.out; split <;> omega)) (by first | exact KZ.out | (have := KZ.out; split <;> omega)) (by omega) ?_; intro w3 hk3 hb3; have HK3 := Lib.hid hk3; clear hk3)))
  go_loopw [11] (fun i wr => ∃ t : Nat, t ≤ K ∧ i = .int .i64 ((t : Int) - 1) ∧ ∃ Q, IBlk wr w1.heap.size Q ∧ DvD p K m t xs ys Q ∧ Below w1.heap.size w1 wr) (fun i _ => (intOf i + 1).toNat)
  case atStart => exact ⟨K, Nat.le_refl _, rfl, _, HK3.out, ST.out, hb3⟩
  case round =>
    obtain ⟨t, ht, rfl, Q, hQ, hIn, hbel⟩ := hrel
    clear HK3 hb3
    have hq := hQ.sl (by rw [hIn.len]; omega)
    rw [hIn.len] at hq
    by_cases h0 : t = 0
    · subst h0
      have T := pLess_any A (some ⟨w1.heap.size, 0, none⟩) B n c K K n' c' m xs Q ys p wr (H3.out.below hbel) hq (H4.out.below hbel) MD.out RX.out hIn.rs RY.out (by omega) (by omega) (by omega)
      have TT := Lib.hid T
      have HIN := Lib.hid hIn
      have HQ := Lib.hid hq
      have HBB := Lib.hid (HB1.out.trans (hbel.mono HB1.out.size))
      clear T hq hQ hIn hbel
      go_wp2_with (go_at_call 66; (with_reducible refine TT.out.mono ?_); rintro e w5 ⟨v5, rfl, ho⟩; have HF := Lib.hid ho.fresh; have HO := Lib.hid ho.in_; clear ho)
      go_ret2
      exact ⟨_, _, rfl, dvd_out PR.out PX.out HL.out YB.out HKK.out HIN.out (HQ.out.below HO.out.2) HO.out.1 (HBB.out.trans (HO.out.2.mono HBB.out.size)), freshV_of (fun b o s e => by simp only [Option.some.injEq, Addr.mk.injEq] at e; have := HB1.out.size; omega), fun C m d e => (HF.out C m d e).after HBB.out.size⟩
    · obtain ⟨i, rfl⟩ : ∃ i, t = i + 1 := ⟨t - 1, by omega⟩
      have hle : K ≤ n - m ∧ K + m ≤ n := by have := HKK.out; omega
      have hxc := RX.out.at (by omega) (i + m)
      have hqb := mul_bdS hp2 (hIn.rs.at (by omega)) (RY.out.at (by omega)) (n := K) (fun j hj => cf_over (by rw [hIn.len]; exact hj)) (i + m)
      have hstep := fun c hc => hIn.step PR.out YZ.out YT.out (by omega) c hc
      have hlf : lft2 xs Q ys (i + m) = cf xs (i + m) - Ser.mul (cf Q) (cf ys) (i + m) := rfl
      have s0 := fun q => quietD (pSumAt_any (some ⟨w1.heap.size, 0, none⟩) B K K n' c' Q ys (i + m) p (wr.drewN q) (hq.below (pbelow_drewN wr q)) ((H4.out.below hbel).below (pbelow_drewN wr q)) MD.out hIn.rs RY.out (by omega) (by omega) (by omega))
      simp only [Int.natCast_add] at s0
      have S1 := Lib.hid s0
      clear s0
      obtain ⟨b, o, hA, hbl, hcx⟩ := (H3.out.below hbel).cf_ (by omega)
      subst hA
      have hcell := hcx (i + m) (by omega)
      generalize lft2 xs Q ys (i + m) = L at *
      generalize Ser.mul (cf Q) (cf ys) (i + m) = s at *
      generalize cf xs (i + m) = x at *
      have hL : x - s = L := by omega
      have r1 := fun q => REDS.out L (wr.drewN q)
      obtain ⟨z, hz⟩ : ∃ z, L % p = z := ⟨_, rfl⟩
      have z1 : 0 ≤ z ∧ z < p := by rw [← hz]; exact ⟨Int.emod_nonneg _ (by omega), Int.emod_lt_of_pos _ (by omega)⟩
      simp only [hz] at r1
      rw [hz] at hstep
      have mb := MB.out z z1
      obtain ⟨P, hP⟩ : ∃ P, z * u = P := ⟨_, rfl⟩
      rw [hP] at mb
      have r2 := fun q => REDS.out P (wr.drewN q)
      obtain ⟨y, hy⟩ : ∃ y, P % p = y := ⟨_, rfl⟩
      have y1 : 0 ≤ y ∧ y < p := by rw [← hy]; exact ⟨Int.emod_nonneg _ (by omega), Int.emod_lt_of_pos _ (by omega)⟩
      simp only [hy] at r2
      have HS := Lib.hid (hstep y (by rw [← hy, ← hP, EO.out]))
      have e1 : ((i + 1 : Nat) : Int) - 1 = (i : Int) := by omega
      have hQf : Hid (∀ q, (wr.drewN q).frozen? ⟨w1.heap.size, i, none⟩ = false) := Lib.hid (fun q => hQ.frozen i)
      have hQc : Hid (∀ q, (wr.drewN q).cell? ⟨w1.heap.size, i, none⟩ = some (iv (Q.getD i 0))) := Lib.hid (fun q => hQ.cellD i (by rw [hIn.len]; omega))
      have R1 := Lib.hid r1
      have R2 := Lib.hid r2
      have HQQ := Lib.hid hQ
      have HBL := Lib.hid hbel
      have m0 : IntKind.i64.wrap ((i : Int) + (m : Int)) = (i : Int) + (m : Int) := by rw [IntKind.wrap_i64]; omega
      have m1 : IntKind.i64.wrap (x - s) = L := by rw [hL, IntKind.wrap_i64]; omega
      have m2 : IntKind.i64.wrap (z * u) = P := by rw [hP, IntKind.wrap_i64]; omega
      have L1 : -9223372036854775808 ≤ L := by omega
      have L2 : L ≤ 9223372036854775807 := by omega
      have m3 : wrap64 L = L := by unfold wrap64; omega
      have j1 : (0 : Int) ≤ (i : Int) + (m : Int) := by omega
      have j2 : (i : Int) + (m : Int) < (n : Int) := by omega
      have j3 : ((i : Int) + (m : Int)).toNat = i + m := by omega
      have j5 : (0 : Int) ≤ (i : Int) := by omega
      have j6 : (i : Int) < (K : Int) := by omega
      clear hL hcx hstep hlf hqb hz hP hy r1 r2 hIn hQ hq hbel hle
      rw [e1]
      go_wp2_with fail
      go_quiet ((go_at_call 65; with_reducible exact S1.out _))
      go_wp2_with (first
        | (go_at_call 60; (with_reducible refine (R1.out _).mono ?_); rintro e w6 ⟨rfl, rfl⟩)
        | (go_at_call 60; (with_reducible refine (R2.out _).mono ?_); rintro e w6 ⟨rfl, rfl⟩; have cc := hQc.out nq; have cf1 := hQf.out nq))
      go_roundw
      case rel => exact ⟨i, by omega, by go_num, _, HQQ.out.drewN _ |>.set_ i y (by unfold In64; omega), HS.out, (ibelow_drewN HBL.out _).setCell (p := ⟨w1.heap.size, i, none⟩) (Nat.le_refl _) _⟩
      case measure => simp [intOf]

theorem pDivided_any (A B : Option Addr) (n c n' c' m : Nat) (xs ys : List Int) (p : Int) (w : World) (hT : TabAt w) (h : ISl w A n c xs) (h' : ISl w B n' c' ys) (hp : Pr p) (hx : Pln p xs) (hy : Pln p ys) (hm : n' = m + 1) (hn : n ≤ 1000000000) (hn' : n' ≤ 1000000000) :
    Calls Tryd.prog 41 #[.slice A n c, .slice B n' c', .int .i64 p] w fun e w' => ∃ v1 v2, e = .returned (.tuple #[v1, v2]) ∧ DivOut p m (cf xs) (cf ys) n w v1 v2 w' :=
  (pDivided_new A B n c n' c' m xs ys p w hT h h' hp hx hy hm hn hn').mono fun _ _ ⟨v1, v2, e, h, _, _⟩ => ⟨v1, v2, e, h⟩

theorem ovl_mon {p : Int} {xs : List Int} (hp : Pr p) (hx : Pln p xs) : IsMon p (cf xs) (Ser.sc (ovl p xs) (cf xs)) := by
  have h2 := hp.1
  unfold ovl
  by_cases h : xs.length = 0
  · rw [if_pos h]
    obtain rfl : xs = [] := List.eq_nil_of_length_eq_zero h
    refine .inl ⟨fun i _ => by rw [cf_nil]; simp, fun i _ => ?_⟩
    show 1 * cf [] i % p = 0
    rw [cf_nil]; simp
  · rw [if_neg h]
    refine .inr ⟨xs.length - 1, ?_, hx.top (by intro e; rw [e] at h; simp at h) (by omega), Ser.Eq.refl _ _⟩
    rw [show xs.length - 1 + 1 = xs.length from by omega]
    exact bd_len p xs

set_option maxRecDepth 100000 in
set_option maxHeartbeats 1000000 in
theorem pMonic_any (A : Option Addr) (n c : Nat) (xs : List Int) (p : Int) (w : World) (hT : TabAt w) (h : ISl w A n c xs) (hp : Pr p) (hx : Pln p xs) (hn : n ≤ 35184372088832) :
    Calls Tryd.prog 40 #[.slice A n c, .int .i64 p] w fun e w' => ∃ v, e = .returned v ∧ PolOut p (Ser.sc (ovl p xs) (cf xs)) n w v w' := by
  have OO := Lib.hid (pOver_any A n c xs p w hT h hp hx)
  have TM := Lib.hid (fun W (hb : Below w.heap.size w W) => pTimes_any A n c (ovl p xs) xs p W (h.below hb) hp.md (ovl_bd hp hx) hx.1 hn)
  generalize ovl p xs = u at *
  clear h hp hx hT
  go_enter Tryd.func40, Tryd.ntmps40
  go_wp2_with (first
    | (go_at_call 64; (with_reducible refine OO.out.mono ?_); rintro e w1 ⟨rfl, hb1⟩; have HB1 := Lib.hid hb1; clear hb1)
    | (go_at_call 63; (with_reducible refine (TM.out _ HB1.out).mono ?_); rintro e w5 ⟨v, rfl, ho⟩; have HO := Lib.hid ho; clear ho))
  go_ret
  exact ⟨_, rfl, HO.out.after HB1.out (Nat.le_refl _)⟩
end Go.Proofs.YtekpifafjbkmiaaDoor

/- What polynomials' calls answer, named by what they are given: the one row that there is. Mathematics alone. -/
namespace Go.Proofs.YtekpifafjbkmiaaDoor

/-- The one row of which this is so; no row, if there is none. -/
noncomputable def the (P : List Int → Prop) : List Int := @dite _ (∃ ys, P ys) (Classical.propDecidable _) (fun h => Classical.choose h) (fun _ => [])
theorem the_is {P : List Int → Prop} {ys : List Int} (h : P ys) (hu : ∀ zs, P zs → zs = ys) : the P = ys := by
  unfold the
  rw [dif_pos ⟨ys, h⟩]
  exact hu _ (Classical.choose_spec ⟨ys, h⟩)
theorem the_none {P : List Int → Prop} (h : ∀ ys, ¬ P ys) : the P = [] := by
  unfold the
  rw [dif_neg (fun ⟨ys, hy⟩ => h ys hy)]
theorem the_congr {P Q : List Int → Prop} (h : ∀ ys, P ys ↔ Q ys) : the P = the Q := by
  have : P = Q := funext fun ys => propext (h ys)
  rw [this]

noncomputable def polL (p : Int) (f : Ser) : List Int := the fun ys => Pr p ∧ Pol p ys f
theorem polL_is {p : Int} {f : Ser} {ys : List Int} (hp : Pr p) (h : Pol p ys f) : polL p f = ys :=
  the_is ⟨hp, h⟩ fun zs hz => hz.2.uniq h (by have := hp.1; omega) (Ser.Eq.refl _ _)
theorem polL_no {p : Int} {f : Ser} (hp : ¬ Pr p) : polL p f = [] := the_none fun _ h => hp h.1
theorem polL_congr {p : Int} {f g : Ser} (h : Ser.Eq p f g) : polL p f = polL p g := the_congr fun _ => ⟨fun k => ⟨k.1, k.2.eq h⟩, fun k => ⟨k.1, k.2.eq h.symm⟩⟩
theorem pol_ex {p : Int} (hp : 1 ≤ p) (f : Ser) : ∀ N, Ser.Bd p f N → ∃ ys, Pol p ys f := by
  intro N
  induction N with
  | zero => exact fun h => ⟨[], Pln.nil p, fun i => by rw [cf_nil, h i (Nat.zero_le _)]; simp⟩
  | succ N ih =>
    intro h
    by_cases h0 : f N % p = 0
    · refine ih fun i hi => ?_
      rcases Nat.lt_or_ge N i with h1 | h1
      · exact h i h1
      · rw [show i = N by omega]; exact h0
    · have hl : ((List.range (N + 1)).map fun i => f i % p).length = N + 1 := by simp
      have hc : ∀ i, cf ((List.range (N + 1)).map fun i => f i % p) i = if i < N + 1 then f i % p else 0 := by
        intro i
        by_cases hi : i < N + 1
        · rw [if_pos hi, cf_at (by rw [hl]; exact hi)]; simp
        · rw [if_neg hi, cf_over (by rw [hl]; omega)]
      refine ⟨(List.range (N + 1)).map fun i => f i % p, ⟨⟨fun x hx => ?_, .inr ?_⟩, fun i => ?_⟩⟩
      · obtain ⟨i, _, rfl⟩ := List.mem_map.1 hx
        exact ⟨Int.emod_nonneg _ (by omega), Int.emod_lt_of_pos _ (by omega)⟩
      · rw [hl, Nat.add_sub_cancel, hc, if_pos (by omega)]
        exact h0
      · rw [hc]
        by_cases hi : i < N + 1
        · rw [if_pos hi, Int.emod_emod_of_dvd _ (Int.dvd_refl p)]
        · rw [if_neg hi, h i (by omega)]; simp
theorem polL_pol {p : Int} {f : Ser} (hp : Pr p) (hf : Fini p f) : Pol p (polL p f) f := by
  obtain ⟨N, hN⟩ := hf
  obtain ⟨ys, h⟩ := pol_ex (by have := hp.1; omega) f N hN
  rw [polL_is hp h]
  exact h
theorem cf_polL {p : Int} {f : Ser} (hp : Pr p) (hf : Fini p f) : Ser.Eq p (cf (polL p f)) f := (polL_pol hp hf).2

/-- A divisor's last place. -/
def Last (p : Int) (b : Ser) (m : Nat) : Prop := Ser.Bd p b (m + 1) ∧ b m % p ≠ 0
theorem Last.uniq {p : Int} {b : Ser} {m m' : Nat} (h : Last p b m) (k : Last p b m') : m = m' := top_uniq (Ser.Eq.refl p b) h.1 h.2 k.1 k.2
noncomputable def quoL (p : Int) (a b : Ser) : List Int := the fun ys => Pr p ∧ ∃ m q r, Last p b m ∧ Fini p q ∧ IsDiv p m a b q r ∧ Pol p ys q
noncomputable def remL (p : Int) (a b : Ser) : List Int := the fun ys => Pr p ∧ ∃ m r, Last p b m ∧ RestOf p m a b r ∧ Pol p ys r
noncomputable def monL (p : Int) (f : Ser) : List Int := the fun ys => Pr p ∧ ∃ g, IsMon p f g ∧ Pol p ys g
noncomputable def bezG (p : Int) (a b : Ser) : List Int := the fun ys => Pr p ∧ ∃ g s t, IsBez p a b g s t ∧ Pol p ys g
noncomputable def bezS (p : Int) (a b : Ser) : List Int := the fun ys => Pr p ∧ ∃ g s t, IsBez p a b g s t ∧ Pol p ys s
noncomputable def bezT (p : Int) (a b : Ser) : List Int := the fun ys => Pr p ∧ ∃ g s t, IsBez p a b g s t ∧ Pol p ys t
noncomputable def evP' (x p : Int) (xs : List Int) : Int := if primB p = true then evL x xs % p else 0
noncomputable def noB (p : Int) (b : Ser) : Bool := @decide (Ser.Bd p b 0) (Classical.propDecidable _)
noncomputable def ediv (p : Int) (b : Ser) : Int := if primB p = true then (if noB p b = true then 3 else 0) else 1
theorem noB_yes {p : Int} {b : Ser} (h : Ser.Bd p b 0) : noB p b = true := @decide_eq_true _ (Classical.propDecidable _) h
theorem noB_no {p : Int} {b : Ser} (h : ¬ Ser.Bd p b 0) : noB p b = false := @decide_eq_false _ (Classical.propDecidable _) h
theorem ediv_no {p : Int} {b : Ser} (h : ¬ Pr p) : ediv p b = 1 := if_neg (by rw [primB_no h]; decide)
theorem ediv_zero {p : Int} {b : Ser} (h : Pr p) (hb : Ser.Bd p b 0) : ediv p b = 3 := by unfold ediv; rw [if_pos (primB_yes h), if_pos (noB_yes hb)]
theorem ediv_yes {p : Int} {b : Ser} (h : Pr p) (hb : ¬ Ser.Bd p b 0) : ediv p b = 0 := by unfold ediv; rw [if_pos (primB_yes h), noB_no hb]; rfl
theorem last_of {p : Int} {b : Ser} (hb : ¬ Ser.Bd p b 0) (hf : Fini p b) : ∃ m, Last p b m := by
  obtain ⟨N, hN⟩ := hf
  refine Classical.byContradiction fun hn => hb (bd_down (fun j hj => ?_) N hN)
  exact Classical.byContradiction fun hj2 => hn ⟨j, hj, hj2⟩
theorem Last.some {p : Int} {b : Ser} {m : Nat} (h : Last p b m) : ¬ Ser.Bd p b 0 := fun k => h.2 (k m (Nat.zero_le _))

theorem quoL_is {p : Int} {a b q r : Ser} {m : Nat} {ys : List Int} (hp : Pr p) (hl : Last p b m) (hq : Fini p q) (hd : IsDiv p m a b q r) (h : Pol p ys q) : quoL p a b = ys := by
  refine the_is ⟨hp, m, q, r, hl, hq, hd, h⟩ ?_
  rintro zs ⟨_, m', q', r', hl', ⟨N', hq'⟩, hd', h'⟩
  obtain rfl := hl.uniq hl'
  obtain ⟨N, hq⟩ := hq
  exact h'.uniq h (by have := hp.1; omega) (IsDiv.uniq (N := max N' N) hp hl.1 hl.2 (hq'.mono (by omega)) (hq.mono (by omega)) hd' hd).1
theorem remL_is {p : Int} {a b r : Ser} {m : Nat} {ys : List Int} (hp : Pr p) (hl : Last p b m) (hd : RestOf p m a b r) (h : Pol p ys r) : remL p a b = ys := by
  refine the_is ⟨hp, m, r, hl, hd, h⟩ ?_
  rintro zs ⟨_, m', r', hl', hd', h'⟩
  obtain rfl := hl.uniq hl'
  exact h'.uniq h (by have := hp.1; omega) (hd'.uniq hp hl.1 hl.2 hd (Ser.Eq.refl _ _))
theorem monL_is {p : Int} {f g : Ser} {ys : List Int} (hp : Pr p) (hg : IsMon p f g) (h : Pol p ys g) : monL p f = ys :=
  the_is ⟨hp, g, hg, h⟩ fun _ ⟨_, _, hg', h'⟩ => h'.uniq h (by have := hp.1; omega) (hg'.uniq hp (Ser.Eq.refl _ _) hg)
theorem bezG_is {p : Int} {a b g s t : Ser} {ys : List Int} (hp : Pr p) (hb : IsBez p a b g s t) (h : Pol p ys g) : bezG p a b = ys :=
  the_is ⟨hp, g, s, t, hb, h⟩ fun _ ⟨_, _, _, _, hb', h'⟩ => h'.uniq h (by have := hp.1; omega) (hb'.uniq hp hb (Ser.Eq.refl _ _) (Ser.Eq.refl _ _)).1
theorem bezS_is {p : Int} {a b g s t : Ser} {ys : List Int} (hp : Pr p) (hb : IsBez p a b g s t) (h : Pol p ys s) : bezS p a b = ys :=
  the_is ⟨hp, g, s, t, hb, h⟩ fun _ ⟨_, _, _, _, hb', h'⟩ => h'.uniq h (by have := hp.1; omega) (hb'.uniq hp hb (Ser.Eq.refl _ _) (Ser.Eq.refl _ _)).2.1
theorem bezT_is {p : Int} {a b g s t : Ser} {ys : List Int} (hp : Pr p) (hb : IsBez p a b g s t) (h : Pol p ys t) : bezT p a b = ys :=
  the_is ⟨hp, g, s, t, hb, h⟩ fun _ ⟨_, _, _, _, hb', h'⟩ => h'.uniq h (by have := hp.1; omega) (hb'.uniq hp hb (Ser.Eq.refl _ _) (Ser.Eq.refl _ _)).2.2
theorem quoL_no {p : Int} {a b : Ser} (h : ediv p b ≠ 0) : quoL p a b = [] := the_none fun _ ⟨hp, _, _, _, hl, _⟩ => h (ediv_yes hp hl.some)
theorem remL_no {p : Int} {a b : Ser} (h : ediv p b ≠ 0) : remL p a b = [] := the_none fun _ ⟨hp, _, _, hl, _⟩ => h (ediv_yes hp hl.some)
theorem monL_no {p : Int} {f : Ser} (h : ¬ Pr p) : monL p f = [] := the_none fun _ k => h k.1
theorem bezG_no {p : Int} {a b : Ser} (h : ¬ Pr p) : bezG p a b = [] := the_none fun _ k => h k.1
theorem bezS_no {p : Int} {a b : Ser} (h : ¬ Pr p) : bezS p a b = [] := the_none fun _ k => h k.1
theorem bezT_no {p : Int} {a b : Ser} (h : ¬ Pr p) : bezT p a b = [] := the_none fun _ k => h k.1

/-- Powers' rests: zs is the exponent's sign, V its value. -/
noncomputable def epw (p sg : Int) (b : Ser) : Int := if primB p = true ∧ 0 ≤ sg then (if noB p b = true then 3 else 0) else 1
noncomputable def powL (p sg : Int) (V : Nat) (f b : Ser) : List Int := the fun ys => Pr p ∧ 0 ≤ sg ∧ ∃ m r, Last p b m ∧ RestOf p m (Ser.pw f V) b r ∧ Pol p ys r
theorem epw_no {p sg : Int} {b : Ser} (h : ¬ Pr p) : epw p sg b = 1 := if_neg (fun k => by rw [primB_no h] at k; exact absurd k.1 (by decide))
theorem epw_neg {p sg : Int} {b : Ser} (h : sg < 0) : epw p sg b = 1 := if_neg (fun k => by omega)
theorem epw_zero {p sg : Int} {b : Ser} (h : Pr p) (hs : 0 ≤ sg) (hb : Ser.Bd p b 0) : epw p sg b = 3 := by unfold epw; rw [if_pos ⟨primB_yes h, hs⟩, if_pos (noB_yes hb)]
theorem epw_yes {p sg : Int} {b : Ser} (h : Pr p) (hs : 0 ≤ sg) (hb : ¬ Ser.Bd p b 0) : epw p sg b = 0 := by unfold epw; rw [if_pos ⟨primB_yes h, hs⟩, noB_no hb]; rfl
theorem powL_is {p sg : Int} {V : Nat} {f b r : Ser} {m : Nat} {ys : List Int} (hp : Pr p) (hs : 0 ≤ sg) (hl : Last p b m) (hd : RestOf p m (Ser.pw f V) b r) (h : Pol p ys r) : powL p sg V f b = ys := by
  refine the_is ⟨hp, hs, m, r, hl, hd, h⟩ ?_
  rintro zs ⟨_, _, m', r', hl', hd', h'⟩
  obtain rfl := hl.uniq hl'
  exact h'.uniq h (by have := hp.1; omega) (hd'.uniq hp hl.1 hl.2 hd (Ser.Eq.refl _ _))
theorem powL_no {p sg : Int} {V : Nat} {f b : Ser} (h : epw p sg b ≠ 0) : powL p sg V f b = [] := the_none fun _ ⟨hp, hs, _, _, hl, _⟩ => h (epw_yes hp hs hl.some)
end Go.Proofs.YtekpifafjbkmiaaDoor

/- The document's calls of layer 6 in one form: at every modulus; the answer named by what is given; what was there is as it was. -/
namespace Go.Proofs.YtekpifafjbkmiaaDoor
open Go.RowKit

/-- A slice of that row, no longer than N; what was there is as it was. -/
def Got (W : World) (C : Option Addr) (m d : Nat) (L : List Int) (N : Nat) (w' : World) : Prop := ISl w' C m d L ∧ m ≤ N ∧ Below W.heap.size W w'
theorem got_nil {W w' : World} {L : List Int} {N : Nat} (hb : Below W.heap.size W w') (hL : L = []) : Got W none 0 0 L N w' := ⟨by rw [hL]; exact isl_nil w', Nat.zero_le _, hb⟩
theorem polIn_got {p : Int} {f : Ser} {n N : Nat} {W w' : World} {v : Value} {L : List Int} (h : PolIn p f n w' v) (hb : Below W.heap.size W w') (hn : n ≤ N) (hL : ∀ ys, Pol p ys f → L = ys) : ∃ C m d, v = .slice C m d ∧ Got W C m d L N w' := by
  obtain ⟨C, m, d, ys, h1, h2, h3, h4⟩ := h
  exact ⟨C, m, d, h1, by rw [hL ys h3]; exact h2, Nat.le_trans h4 hn, hb⟩
theorem in64_of {p : Int} (h : -9223372036854775808 ≤ p ∧ p ≤ 9223372036854775807) : In64 p := h
theorem below_eq {w w' : World} (h : w = w') : Below w.heap.size w w' := h ▸ Below.refl _ _

theorem rDeriv (A : Option Addr) (n c : Nat) (xs : List Int) (p : Int) (w : World) (h : ISl w A n c xs) (ip : In64 p) (hn : n ≤ 100000000) :
    Calls Tryd.prog 52 #[.slice A n c, .int .i64 p] w fun e w' => ∃ C m d, e = .returned (.tuple #[.slice C m d, .int .i64 (chk p)]) ∧ Got w C m d (polL p (Ser.der (cf xs))) (n) w' := by
  rcases Classical.em (Pr p) with hp | hp
  · rw [chk_yes (primB_yes hp)]
    refine (refDeriv_any A n c xs p w h hp (by omega)).mono ?_
    rintro e w' ⟨v, rfl, ho⟩
    obtain ⟨C, m, d, rfl, hgot⟩ := polIn_got (L := polL p (Ser.der (cf xs))) ho.in_.1 ho.in_.2 (Nat.le_refl _) (fun ys hy => polL_is hp hy)
    exact ⟨C, m, d, rfl, hgot⟩
  · rw [chk_no (primB_no hp)]
    refine (refDeriv_not A n c p w ip hp).mono ?_
    rintro e w' ⟨rfl, hw⟩
    exact ⟨none, 0, 0, rfl, got_nil (below_eq hw) (polL_no hp)⟩
theorem rMonic (A : Option Addr) (n c : Nat) (xs : List Int) (p : Int) (w : World) (h : ISl w A n c xs) (ip : In64 p) (hn : n ≤ 100000000) :
    Calls Tryd.prog 26 #[.slice A n c, .int .i64 p] w fun e w' => ∃ C m d, e = .returned (.tuple #[.slice C m d, .int .i64 (chk p)]) ∧ Got w C m d (monL p (cf xs)) (n + 1) w' := by
  rcases Classical.em (Pr p) with hp | hp
  · rw [chk_yes (primB_yes hp)]
    refine (refMonic_any A n c xs p w h hp (by omega)).mono ?_
    rintro e w' ⟨v, rfl, ho⟩
    obtain ⟨g, hg, ho⟩ := ho
    obtain ⟨C, m, d, rfl, hgot⟩ := polIn_got (L := monL p (cf xs)) ho.in_.1 ho.in_.2 (Nat.le_refl _) (fun ys hy => monL_is hp hg hy)
    exact ⟨C, m, d, rfl, hgot⟩
  · rw [chk_no (primB_no hp)]
    refine (refMonic_not A n c p w ip hp).mono ?_
    rintro e w' ⟨rfl, hw⟩
    exact ⟨none, 0, 0, rfl, got_nil (below_eq hw) (monL_no hp)⟩
theorem rDiv_new (A B : Option Addr) (n c n' c' : Nat) (xs ys : List Int) (p : Int) (w : World) (h : ISl w A n c xs) (h' : ISl w B n' c' ys) (ip : In64 p) (hn : n ≤ 100000000) (hn' : n' ≤ 100000000) :
    Calls Tryd.prog 56 #[.slice A n c, .slice B n' c', .int .i64 p] w fun e w' => ∃ C m d C' m' d', e = .returned (.tuple #[.slice C m d, .slice C' m' d', .int .i64 (ediv p (cf ys))]) ∧ Got w C m d (quoL p (cf xs) (cf ys)) (n + 1) w' ∧ Got w C' m' d' (remL p (cf xs) (cf ys)) n w' ∧ FreshA w C := by
  rcases Classical.em (Pr p) with hp | hp
  · refine (refPDiv_new A B n c n' c' xs ys p w h h' hp (by omega) (by omega)).mono ?_
    rintro e w' ⟨v1, v2, er, rfl, ⟨hb, rfl, rfl, rfl, hw⟩ | ⟨hb, rfl, m, h1, h2, ⟨q, r, hq, hr, hd, hqb, hw⟩, hnw⟩⟩
    · have he : ediv p (cf ys) ≠ 0 := by rw [ediv_zero hp hb]; decide
      rw [ediv_zero hp hb]
      exact ⟨none, 0, 0, none, 0, 0, rfl, got_nil hw (quoL_no he), got_nil hw (remL_no he), freshA_none _⟩
    · rw [ediv_yes hp hb]
      have hl : Last p (cf ys) m := ⟨h1, h2⟩
      obtain ⟨C, m1, d, rfl, g1⟩ := polIn_got (L := quoL p (cf xs) (cf ys)) hq hw (Nat.le_refl _) (fun zs hz => quoL_is hp hl ⟨_, hqb⟩ hd hz)
      obtain ⟨C', m1', d', rfl, g2⟩ := polIn_got (L := remL p (cf xs) (cf ys)) hr hw (Nat.le_refl _) (fun zs hz => remL_is hp hl ⟨q, ⟨_, hqb⟩, hd⟩ hz)
      exact ⟨C, m1, d, C', m1', d', rfl, g1, g2, hnw _ _ _ rfl⟩
  · have he : ediv p (cf ys) ≠ 0 := by rw [ediv_no hp]; decide
    rw [ediv_no hp]
    refine (refPDiv_not A B n c n' c' p w ip hp).mono ?_
    rintro e w' ⟨rfl, hw⟩
    exact ⟨none, 0, 0, none, 0, 0, rfl, got_nil (below_eq hw) (quoL_no he), got_nil (below_eq hw) (remL_no he), freshA_none _⟩
theorem rDiv (A B : Option Addr) (n c n' c' : Nat) (xs ys : List Int) (p : Int) (w : World) (h : ISl w A n c xs) (h' : ISl w B n' c' ys) (ip : In64 p) (hn : n ≤ 100000000) (hn' : n' ≤ 100000000) :
    Calls Tryd.prog 56 #[.slice A n c, .slice B n' c', .int .i64 p] w fun e w' => ∃ C m d C' m' d', e = .returned (.tuple #[.slice C m d, .slice C' m' d', .int .i64 (ediv p (cf ys))]) ∧ Got w C m d (quoL p (cf xs) (cf ys)) (n + 1) w' ∧ Got w C' m' d' (remL p (cf xs) (cf ys)) n w' :=
  (rDiv_new A B n c n' c' xs ys p w h h' ip hn hn').mono fun _ _ ⟨C, m, d, C', m', d', e, g1, g2, _⟩ => ⟨C, m, d, C', m', d', e, g1, g2⟩
end Go.Proofs.YtekpifafjbkmiaaDoor

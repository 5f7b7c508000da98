/- The law FlinLinear, walked. -/
import Derived.Test.YtipdnfdeacdkgaaDoorLinLaw
import Derived.Deep.RegionLaw
namespace Go.Proofs.YtipdnfdeacdkgaaDoor
open Go.RowKit Go.Shelf

theorem mul_abs {p x y : Int} (hx : -p < x ∧ x < p) (hy : -p < y ∧ y < p) (hp : p ≤ 65521) : -4292870400 ≤ x * y ∧ x * y ≤ 4292870400 := by
  have h1 : x.natAbs ≤ 65520 := by omega
  have h2 : y.natAbs ≤ 65520 := by omega
  have h3 : (x * y).natAbs ≤ 65520 * 65520 := by rw [Int.natAbs_mul]; exact Nat.mul_le_mul h1 h2
  omega
theorem dot_lin {p c : Int} {f v u s : Ser} {n : Nat} (h : ∀ j, j < n → s j % p = (v j + c * u j) % p) : dot f s n % p = (dot f v n + c * dot f u n) % p := by
  have e : dot f s n % p = smN (fun j => f j * v j + c * (f j * u j)) n % p := smN_mod fun j hj => by
    rw [Int.mul_emod, h j hj, ← Int.mul_emod, Int.mul_add, Int.mul_left_comm]
  rw [e, smN_add, smN_mul]
  rfl
theorem lin_zero {p c a b x : Int} (h : x % p = (a + c * b) % p) : (a % p + c * (b % p) - x % p) % p = 0 := by
  have e : (a % p + c * (b % p)) % p = (a + c * b) % p := by
    rw [Int.add_emod, Int.emod_emod_of_dvd _ (Int.dvd_refl p), Int.mul_emod c, Int.emod_emod_of_dvd _ (Int.dvd_refl p), ← Int.mul_emod, ← Int.add_emod]
  rw [Int.sub_emod, e, Int.emod_emod_of_dvd _ (Int.dvd_refl p), h, Int.sub_self]
  simp
/-- The sum that the law makes. -/
def sumL (p c : Int) (v u : List Int) (n : Nat) : List Int := (List.range n).map fun j => (cf v j).tmod p + c * (cf u j).tmod p
theorem sumL_len (p c : Int) (v u : List Int) (n : Nat) : (sumL p c v u n).length = n := by simp [sumL]
theorem cf_sumL {p c : Int} {v u : List Int} {n j : Nat} (h : j < n) : cf (sumL p c v u n) j = (cf v j).tmod p + c * (cf u j).tmod p := by
  rw [cf_at (by rw [sumL_len]; exact h)]
  simp [sumL]

set_option maxHeartbeats 2000000 in
theorem linOut (A : Option Addr) (n c : Nat) (M : List (List Int)) (B : Option Addr) (m d : Nat) (v : List Int) (B' : Option Addr) (m' d' : Nat) (u : List Int) (k p : Int) (w : World) (hT : TabAt w) (sm : MatAt w A n c M) (sv : ISl w B m d v) (su : ISl w B' m' d' u) (ip : In64 p)
    (ho : ¬ (AppOk p M v ∧ AppOk p M u ∧ m = m' ∧ m ≤ 64)) :
    Calls Tryd.prog 8 #[.slice A n c, .slice B m d, .slice B' m' d', .int .i64 k, .int .i64 p] w fun e w' => e = .returned (.bool true) ∧ Below w.heap.size w w' := by
  have AW := Lib.hid (awake07 w hT)
  have E1 := Lib.hid (fun W (hb : Below w.heap.size w W) => fApply_any A n c M B m d v p W (hT.below hb) (sm.below hb) (sv.below hb) ip)
  have E2 := Lib.hid (fun W (hb : Below w.heap.size w W) => fApply_any A n c M B' m' d' u p W (hT.below hb) (sm.below hb) (su.below hb) ip)
  generalize appV p M v = V1 at *
  generalize appV p M u = V2 at *
  have h1 := sv.le
  have h2 := sv.max
  have h3 := su.le
  have h4 := su.max
  have HO := Lib.hid ho
  have hcase : ∃ cv cu : Int, codeP (AppOk p M v) = cv ∧ codeP (AppOk p M u) = cu ∧ ((cv = 1 ∧ cu = 0) ∨ (cv = 1 ∧ cu = 1) ∨ (cv = 0 ∧ cu = 1) ∨ (cv = 0 ∧ cu = 0 ∧ (((m : Int) != (m' : Int)) = true ∨ (m = m' ∧ 64 < m)))) := by
    rcases Classical.em (AppOk p M v) with h | h <;> rcases Classical.em (AppOk p M u) with h' | h'
    · refine ⟨0, 0, codeP_yes h, codeP_yes h', .inr (.inr (.inr ⟨rfl, rfl, ?_⟩))⟩
      by_cases e : m = m'
      · exact .inr ⟨e, Classical.byContradiction fun hm => ho ⟨h, h', e, by omega⟩⟩
      · exact .inl (by simp; omega)
    · exact ⟨0, 1, codeP_yes h, codeP_no h', .inr (.inr (.inl ⟨rfl, rfl⟩))⟩
    · exact ⟨1, 0, codeP_no h, codeP_yes h', .inl ⟨rfl, rfl⟩⟩
    · exact ⟨1, 1, codeP_no h, codeP_no h', .inr (.inl ⟨rfl, rfl⟩)⟩
  obtain ⟨cv, cu, e1, e2, hcase⟩ := hcase
  rw [e1] at E1
  rw [e2] at E2
  clear hT sm sv su ho e1 e2
  rcases hcase with ⟨rfl, rfl⟩ | ⟨rfl, rfl⟩ | ⟨rfl, rfl⟩ | ⟨rfl, rfl, hne | ⟨rfl, hgt⟩⟩
  all_goals
    go_enter Tryd.func8, Tryd.ntmps8
    go_wp2_with (first
      | (go_at_call 9; (with_reducible refine AW.out.mono ?_); rintro e w0 ⟨rfl, hb0⟩; have HB0 := Lib.hid hb0; clear hb0)
      | (go_at_call 15; (with_reducible refine (E1.out _ HB0.out).mono ?_); rintro e w1 ⟨A1, m1, c1, rfl, hM1, hb1⟩; have HB1 := hstepL HB0 hb1; clear hM1 hb1 E1)
      | (go_at_call 15; (with_reducible refine (E2.out _ HB1.out).mono ?_); rintro e w2 ⟨A2, m2, c2, rfl, hM2, hb2⟩; have HB2 := hstepL HB1 hb2; clear hM2 hb2))
    go_ret
    exact ⟨rfl, HB2.out⟩

set_option maxRecDepth 100000 in
set_option maxHeartbeats 8000000 in
theorem linMain (A : Option Addr) (n c : Nat) (M : List (List Int)) (B : Option Addr) (m d : Nat) (v : List Int) (B' : Option Addr) (d' : Nat) (u : List Int) (k p : Int) (w : World) (hT : TabAt w) (sm : MatAt w A n c M) (sv : ISl w B m d v) (su : ISl w B' m d' u) (ip : In64 p)
    (hv : AppOk p M v) (hu : AppOk p M u) (hm : m ≤ 64) :
    Calls Tryd.prog 8 #[.slice A n c, .slice B m d, .slice B' m d', .int .i64 k, .int .i64 p] w fun e w' => e = .returned (.bool true) ∧ Below w.heap.size w w' := by
  have hr := hv.1
  have hp1 := hr.1.md.1
  have hp2 := hr.1.md.2
  have AW := Lib.hid (awake07 w hT)
  have E1 := Lib.hid (fun W (hb : Below w.heap.size w W) => fApply_any A n c M B m d v p W (hT.below hb) (sm.below hb) (sv.below hb) ip)
  have E2 := Lib.hid (fun W (hb : Below w.heap.size w W) => fApply_any A n c M B' m d' u p W (hT.below hb) (sm.below hb) (su.below hb) ip)
  have hvl := sv.len
  have hul := su.len
  rw [codeP_yes hv, show appV p M v = appL p M v m from by unfold appV; rw [ansB_yes hv, hvl]] at E1
  rw [codeP_yes hu, show appV p M u = appL p M u m from by unfold appV; rw [ansB_yes hu, hul]] at E2
  obtain ⟨cc, hcc⟩ : ∃ cc, k.tmod p = cc := ⟨_, rfl⟩
  have hcb := tmod_bd k (show 0 < p by omega)
  rw [hcc] at hcb
  obtain ⟨S, hS⟩ : ∃ S, sumL p cc v u m = S := ⟨_, rfl⟩
  have hSl : S.length = m := by rw [← hS, sumL_len]
  have hSc : ∀ j, j < m → cf S j = (cf v j).tmod p + cc * (cf u j).tmod p := fun j hj => by rw [← hS, cf_sumL hj]
  have hsa : AppOk p M S := ⟨hr, fun h => by rw [hv.2 h, hSl, hvl]⟩
  have E3 := Lib.hid (fun W (hb : Below w.heap.size w W) (C : Option Addr) (dd : Nat) (hs : ISl W C m dd S) => (by
    have := fApply_any A n c M C m dd S p W (hT.below hb) (sm.below hb) hs ip
    rw [codeP_yes hsa, show appV p M S = appL p M S m from by unfold appV; rw [ansB_yes hsa, hSl]] at this
    exact this :
      Calls Tryd.prog 15 #[.slice A n c, .slice C m dd, .int .i64 p] W fun e w' => ListOut W (appL p M S m) 0 e w'))
  have hfin : ∀ i, i < M.length → (cf (appL p M v m) i + cc * cf (appL p M u m) i - cf (appL p M S m) i) % p = 0 := fun i hi => by
    rw [appL_take _ _ _ _ _ hi, appL_take _ _ _ _ _ hi, appL_take _ _ _ _ _ hi]
    refine lin_zero (dot_lin fun j hj => ?_)
    rw [hSc j hj, Int.add_emod, tmod_mod, Int.mul_emod, tmod_mod, ← Int.mul_emod, ← Int.add_emod]
  have r1 := appL_rs hr.1.1 M v m
  have r2 := appL_rs hr.1.1 M u m
  have r3 := appL_rs hr.1.1 M S m
  have l1 := appL_len p M v m
  have l2 := appL_len p M u m
  have l3 := appL_len p M S m
  generalize appL p M v m = X1 at *
  generalize appL p M u m = X2 at *
  generalize appL p M S m = X3 at *
  have HF := Lib.hid hfin
  have HR1 := Lib.hid r1
  have HR2 := Lib.hid r2
  have HR3 := Lib.hid r3
  have L1 := Lib.hid (show X1.length = n by rw [l1, sm.len])
  have L2 := Lib.hid (show X2.length = n by rw [l2, sm.len])
  have L3 := Lib.hid (show X3.length = n by rw [l3, sm.len])
  have HNL := Lib.hid sm.len
  have HSL := Lib.hid hSl
  have HSC := Lib.hid hSc
  have SV := Lib.hid (fun W (hb : Below w.heap.size w W) => sv.below hb)
  have SU := Lib.hid (fun W (hb : Below w.heap.size w W) => su.below hb)
  have q1 := sv.le
  have q2 := sv.max
  have q3 := su.le
  have q4 := su.max
  have q5 := sm.le
  have q6 := sm.max
  have hp0 : p ≠ 0 := by omega
  have hcb1 := hcb.1
  have hcb2 := hcb.2
  have hnl64 : n ≤ 64 := by rw [sm.len]; exact hr.2.1
  clear hT sm sv su hv hu hr hvl hul hS hSl hSc hsa hfin r1 r2 r3 l1 l2 l3 hcb ip
  go_enter Tryd.func8, Tryd.ntmps8
  go_wp2_with (first
    | (go_at_call 9; (with_reducible refine AW.out.mono ?_); rintro e w0 ⟨rfl, hb0⟩; have HB0 := Lib.hid hb0; clear hb0)
    | (go_at_call 15; (with_reducible refine (E1.out _ HB0.out).mono ?_); rintro e w1 ⟨A1, m1, c1, rfl, hM1, hb1⟩; have hm1 : m1 = n := (by rw [hM1.len, L1.out]); subst hm1; have HM1 := Lib.hid hM1; have HB1 := hstepL HB0 hb1; clear hM1 hb1 E1)
    | (go_at_call 15; (with_reducible refine (E2.out _ HB1.out).mono ?_); rintro e w2 ⟨A2, m2, c2, rfl, hM2, hb2⟩; have hm2 : m2 = m1 := (by rw [hM2.len, L2.out]); subst hm2; have HM2 := Lib.hid hM2; have HM1 := Lib.hid (HM1.out.below hb2); have HB2 := hstepL HB1 hb2; clear hM2 hb2))
  go_loopw [18, 17] (fun i s wr => ∃ t : Nat, t ≤ m ∧ i = .int .i64 (t : Int) ∧ Hid (IOw wr w2.heap.size s (S.take t)) ∧ Hid (Below w2.heap.size w2 wr)) (fun i _ _ => m - (intOf i).toNat)
  case atStart => exact ⟨0, Nat.zero_le _, rfl, Lib.hid (IOw.nil _ _), Lib.hid (Below.refl _ _)⟩
  case round =>
    obtain ⟨t, ht, rfl, hO, hbel⟩ := hrel
    by_cases hlt : t < m
    · have hbw := HB2.out.trans (hbel.out.mono HB2.out.size)
      have sv := SV.out wr hbw
      have su := SU.out wr hbw
      obtain ⟨b, o, rfl, hbl, hcx⟩ := sv.cfs (by omega)
      obtain ⟨b', o', rfl, hbl', hcy⟩ := su.cfs (by omega)
      have hx := hcx t hlt
      have hy := hcy t hlt
      have hsc := HSC.out t hlt
      have bx := tmod_bd (cf v t) (show 0 < p by omega)
      have by' := tmod_bd (cf u t) (show 0 < p by omega)
      generalize cf v t = x at *
      generalize cf u t = y at *
      obtain ⟨tx, htx⟩ : ∃ tx, x.tmod p = tx := ⟨_, rfl⟩
      obtain ⟨ty, hty⟩ : ∃ ty, y.tmod p = ty := ⟨_, rfl⟩
      rw [htx] at bx hsc
      rw [hty] at by' hsc
      have bm := mul_abs ⟨hcb1, hcb2⟩ by' hp2
      obtain ⟨G, hG⟩ : ∃ G, cc * ty = G := ⟨_, rfl⟩
      rw [hG] at bm hsc
      obtain ⟨z, hz⟩ : ∃ z, cf S t = z := ⟨_, rfl⟩
      have htk := take_cf S t (by rw [HSL.out]; exact hlt)
      rw [hz] at htk
      rw [hz] at hsc
      have bz : In64 z := by unfold In64; omega
      have m1' : IntKind.i64.wrap (cc * ty) = G := by rw [hG, IntKind.wrap_i64]; omega
      have m2' : IntKind.i64.wrap (tx + G) = z := by rw [← hsc, IntKind.wrap_i64]; omega
      have hN1 := (iblk_list wr [z] (fi_one bz))
      have HNa := Lib.hid (show ISl ((wr.alloc (.cells #[.int .i64 z] 3)).drew) (some ⟨wr.heap.size, 0, none⟩) 1 1 [z] from (hN1.drew.sl (by simp)))
      have HNb := Lib.hid (show ISl (wr.drew.alloc (.cells #[.int .i64 z] 3)) (some ⟨wr.heap.size, 0, none⟩) 1 1 [z] from ((iblk_list wr.drew [z] (fi_one bz)).sl (by simp)))
      have HBa := Lib.hid (show Below w2.heap.size w2 ((wr.alloc (.cells #[.int .i64 z] 3)).drew) from (hbel.out.alloc hbel.out.size _).drew)
      have HBb := Lib.hid (show Below w2.heap.size w2 (wr.drew.alloc (.cells #[.int .i64 z] 3)) from (hbel.out.drew.alloc hbel.out.size _))
      have HOa := Lib.hid (show IOw ((wr.alloc (.cells #[.int .i64 z] 3)).drew) w2.heap.size u17 (S.take t) from (hO.out.alloc _).drew)
      have HOb := Lib.hid (show IOw (wr.drew.alloc (.cells #[.int .i64 z] 3)) w2.heap.size u17 (S.take t) from (hO.out.drew.alloc _))
      have HTK := Lib.hid htk
      have hlen : (S.take t).length + 1 ≤ 17592186044416 := by rw [List.length_take]; omega
      have i1 : (0 : Int) ≤ (t : Int) := by omega
      have i2 : (t : Int) < (m : Int) := by omega
      have bm1 := bm.1
      have bm2 := bm.2
      have bx1 := bx.1
      have bx2 := bx.2
      clear hcx hcy sv su hsc bx by' hG bm htk hz hN1 hbw
      go_wp2_with fail
      go_region_law (first
        | (refine istep_app _ (by rfl) (.tmp 81) (.tmp 97) (by rfl) w2.heap.size _ _ (by rfl) HOa.out (some ⟨wr.heap.size, 0, none⟩) 1 1 (by rfl) [z] HNa.out hlen HBa.out.size ?_; intro v9 w9 ho9 hb9; have HB9 := Lib.hid (HBa.out.trans hb9))
        | (refine istep_app _ (by rfl) (.tmp 81) (.tmp 97) (by rfl) w2.heap.size _ _ (by rfl) HOb.out (some ⟨wr.heap.size, 0, none⟩) 1 1 (by rfl) [z] HNb.out hlen HBb.out.size ?_; intro v9 w9 ho9 hb9; have HB9 := Lib.hid (HBb.out.trans hb9))
        | fail)
      all_goals
        rw [← HTK.out] at ho9
        have HO9 := Lib.hid ho9
        clear ho9 hb9
        go_wp2_with fail
        exact ⟨⟨t + 1, by omega, by go_num, HO9, HB9⟩, by simp [intOf]; omega⟩
    · obtain rfl : t = m := by omega
      have hO2 := hO.out
      rw [List.take_of_length_le (by rw [HSL.out]; exact Nat.le_refl _)] at hO2
      obtain ⟨C, dd, rfl, hs, _⟩ := hO2.sl
      rw [HSL.out] at hs ⊢
      have HS := Lib.hid hs
      have HBW := Lib.hid (HB2.out.trans (hbel.out.mono HB2.out.size))
      have hdd1 := hs.le
      have hdd2 := hs.max
      clear hO2 hs
      go_wp2_with (go_at_call 15; (with_reducible refine (E3.out _ HBW.out _ _ HS.out).mono ?_); rintro e w3 ⟨A3, m3, c3, rfl, hM3, hb3⟩; have hm3 : m3 = m2 := (by rw [hM3.len, L3.out]); subst hm3; have HM3 := Lib.hid hM3; have HM2 := Lib.hid ((HM2.out.below hbel.out).below hb3); have HM1 := Lib.hid ((HM1.out.below hbel.out).below hb3); have HB3 := hstepL HBW hb3; clear hM3 hb3)
      go_loopw [21] (fun i wr => ∃ j : Nat, j ≤ m3 ∧ i = .int .i64 (j : Int) ∧ Hid (Below w3.heap.size w3 wr)) (fun i _ => m3 - (intOf i).toNat)
      case atStart => exact ⟨0, Nat.zero_le _, rfl, Lib.hid (Below.refl _ _)⟩
      case round =>
        obtain ⟨j, hj, rfl, hbj⟩ := hrel
        by_cases hjl : j < m3
        · obtain ⟨ba, oa, rfl, hba, hca⟩ := HM1.out.cfs (by omega)
          obtain ⟨bb, ob, rfl, hbb, hcb'⟩ := HM2.out.cfs (by omega)
          obtain ⟨bc, oc, rfl, hbc, hcc'⟩ := HM3.out.cfs (by omega)
          have ha := hca j hjl
          have hb := hcb' j hjl
          have hx := hcc' j hjl
          rw [← hbj.out.cell (p := ⟨ba, oa + j, none⟩) hba] at ha
          rw [← hbj.out.cell (p := ⟨bb, ob + j, none⟩) hbb] at hb
          rw [← hbj.out.cell (p := ⟨bc, oc + j, none⟩) hbc] at hx
          have hz := tmod_zero (HF.out j (by rw [← HNL.out]; exact hjl))
          have b1 := HR1.out.at hp1 j
          have b2 := HR2.out.at hp1 j
          have b3 := HR3.out.at hp1 j
          generalize cf X1 j = x1 at *
          generalize cf X2 j = x2 at *
          generalize cf X3 j = x3 at *
          have bm := mul_abs ⟨hcb1, hcb2⟩ ⟨by omega, b2.2⟩ hp2
          obtain ⟨G, hG⟩ : ∃ G, cc * x2 = G := ⟨_, rfl⟩
          rw [hG] at bm hz
          have m1' : IntKind.i64.wrap (cc * x2) = G := by rw [hG, IntKind.wrap_i64]; omega
          have m2' : IntKind.i64.wrap (x1 + G) = x1 + G := by rw [IntKind.wrap_i64]; omega
          have m3' : IntKind.i64.wrap (x1 + G - x3) = x1 + G - x3 := by rw [IntKind.wrap_i64]; omega
          have i1 : (0 : Int) ≤ (j : Int) := by omega
          have i2 : (j : Int) < (m3 : Int) := by omega
          have bm1 := bm.1
          have bm2 := bm.2
          have b11 := b1.1
          have b12 := b1.2
          have b31 := b3.1
          have b32 := b3.2
          clear hca hcb' hcc' hG bm b1 b2 b3
          go_wp2_with fail
          go_quiet (fail)
          go_wp2_with fail
          exact ⟨⟨j + 1, by omega, by go_num, Lib.hid (ibelow_drewN hbj.out _)⟩, by simp [intOf]; omega⟩
        · obtain rfl : j = m3 := by omega
          go_wp2_with fail
          go_ret
          exact ⟨rfl, HB3.out.trans (hbj.out.mono HB3.out.size)⟩

theorem walkFlinLinear (A : Option Addr) (n c : Nat) (M : List (List Int)) (B : Option Addr) (m d : Nat) (v : List Int) (B' : Option Addr) (m' d' : Nat) (u : List Int) (k p : Int) (w : World) (hT : TabAt w) (sm : MatAt w A n c M) (sv : ISl w B m d v) (_ : m ≤ 17592186044416) (su : ISl w B' m' d' u) (_ : m' ≤ 17592186044416) (_ : (Lit.int .i64 k).wf = true) (wp : (Lit.int .i64 p).wf = true) :
    Calls Tryd.prog 8 #[.slice A n c, .slice B m d, .slice B' m' d', .int .i64 k, .int .i64 p] w fun e w' => e = .returned (.bool true) ∧ Below w.heap.size w w' := by
  rcases Classical.em (AppOk p M v ∧ AppOk p M u ∧ m = m' ∧ m ≤ 64) with ⟨h1, h2, rfl, h3⟩ | h
  · exact linMain A n c M B m d v B' d' u k p w hT sm sv su (int_wf wp) h1 h2 h3
  · exact linOut A n c M B m d v B' m' d' u k p w hT sm sv su (int_wf wp) h
end Go.Proofs.YtipdnfdeacdkgaaDoor

/- flin.less and byFirst, by their contracts: each told place by place. -/
import Derived.Test.YtipdnfdeacdkgaaDoorFlnRow
import Derived.Test.YtipdnfdeacdkgaaDoorPrgInv
import Derived.BigQuiet
namespace Go.Proofs.YtipdnfdeacdkgaaDoor
open Go.RowKit Go.Shelf

set_option maxHeartbeats 4000000 in
theorem tells_less (A : Option Addr) (n c B1 B2 : Nat) (xs : List Int) (R : Option Addr) (m d : Nat) (P : List (Nat × List Int)) (p : Int) (w : World) (h1 : Bx w B1 (.slice A n c)) (h2 : Bx w B2 (.slice R m d)) (h : ISl w A n c xs) (hr : RowsAt w R m d P)
    (hP : ∀ b ∈ P, b.1 < n ∧ b.2.length = n ∧ Rs p b.2) (hx : Rs p xs) (hp : Md p) (hm : m ≤ 64) :
    Tells 40 #[.pointer (some ⟨B1, 0, none⟩), .pointer (some ⟨B2, 0, none⟩)] (fun i => cf xs i - rcS (cf xs) P i) n w := by
  intro W t ht hbel
  show Calls _ _ #[.int .i64 (t : Int), .pointer (some ⟨B1, 0, none⟩), .pointer (some ⟨B2, 0, none⟩)] W fun e w' => e = .returned (.int .i64 (cf xs t - rcS (cf xs) P t)) ∧ Below W.heap.size W w'
  obtain ⟨hp1, hp2⟩ := hp
  have h3 := h.below hbel
  have hcl := h.le
  have hcm := h.max
  have hrl := hr.le
  have hrm := hr.max
  have HR := Lib.hid (hr.below hbel)
  obtain ⟨b, o, rfl, hbl, hc⟩ := h3.cfs (by omega)
  have hB1 := (h1.below hbel).1
  have hc1 := (h1.below hbel).2
  have hB2 := (h2.below hbel).1
  have hc2 := (h2.below hbel).2
  have HC := Lib.hid hc
  have hct := hc t ht
  have BX := Lib.hid (fun i => hx.at hp1 i)
  have bt := hx.at hp1 t
  have HP := Lib.hid hP
  have HML := Lib.hid hr.len
  have BD := Lib.hid (fun q => rcS_bd (P := P.take q) hp2 (fun i => hx.at hp1 i) (fun b hb i => (hP b (List.mem_of_mem_take hb)).2.2.at hp1 i) t)
  have SN := Lib.hid (fun q (hq : q < P.length) => rcS_snoc (f := cf xs) hq t)
  have Z0 := Lib.hid (show rcS (cf xs) (P.take 0) t = 0 by rw [List.take_zero]; rfl)
  have ALL := Lib.hid (show rcS (cf xs) (P.take m) t = rcS (cf xs) P t by rw [List.take_of_length_le (by rw [← HML.out]; exact Nat.le_refl _)])
  generalize rcS (cf xs) P t = S at *
  obtain ⟨s, hs⟩ : ∃ s : Nat → Int, ∀ q, rcS (cf xs) (P.take q) t = s q := ⟨fun q => rcS (cf xs) (P.take q) t, fun _ => rfl⟩
  have BD2 : Hid (∀ q, q ≤ P.length → 0 ≤ s q ∧ s q ≤ 4292870400 * (q : Int)) := Lib.hid (fun q hq => by have := BD.out q; rw [hs, List.length_take, Nat.min_eq_left hq] at this; exact this)
  have SN2 : Hid (∀ q (hq : q < P.length), s (q + 1) = s q + cf xs (P[q]).1 * cf (P[q]).2 t) := Lib.hid (fun q hq => by have := SN.out q hq; rw [hs, hs] at this; exact this)
  have Z1 : Hid (s 0 = 0) := Lib.hid (by rw [← hs]; exact Z0.out)
  have AL2 : Hid (s m = S) := Lib.hid (by rw [← hs]; exact ALL.out)
  clear BD SN Z0 ALL hs
  obtain ⟨y, hy⟩ : ∃ y, cf xs t = y := ⟨_, rfl⟩
  rw [hy] at hct bt ⊢
  clear hy h1 h2 h3 h hr hP hx hc hbel
  go_enter Tryd.func40, Tryd.ntmps40
  go_wp2_with fail
  go_loopw [14, 5] (fun i v wr => ∃ q : Nat, q ≤ m ∧ i = .int .i64 (q : Int) ∧ v = .int .i64 (y - s q) ∧ Below W.heap.size W wr) (fun i _ _ => m - (intOf i).toNat)
  case atStart => exact ⟨0, Nat.zero_le _, rfl, by rw [Z1.out, Int.sub_zero], Below.refl _ _⟩
  case round =>
    obtain ⟨q, hq, rfl, rfl, hbel⟩ := hrel
    by_cases hql : q < m
    · obtain ⟨b6, o6, rfl, hb6, hcr⟩ := HR.out.open_ (by omega)
      obtain ⟨hk1, C, k, dk, hk2, hk3⟩ := hcr q hql
      have hqP : q < P.length := by rw [← HML.out]; exact hql
      have hmP := HP.out _ (List.getElem_mem hqP)
      have hle := hk3.le
      have hmx := hk3.max
      have hkl : k = n := by rw [hk3.len, prow_at hqP]; exact hmP.2.1
      subst hkl
      rw [plc_at hqP] at hk1
      obtain ⟨bC, oC, rfl, hbC, hcC⟩ := hk3.cfs (by omega)
      have hz := hcC t ht
      have hx := HC.out (P[q]).1 hmP.1
      have hsn := SN2.out q hqP
      rw [← prow_at hqP] at hsn
      have bz := hmP.2.2.at hp1 t
      rw [← prow_at hqP] at bz
      have bx := BX.out (P[q]).1
      have hpl := hmP.1
      obtain ⟨f, hf⟩ : ∃ f, (P[q]).1 = f := ⟨_, rfl⟩
      rw [hf] at hk1 hx hsn bx hpl
      generalize cf (prow P q) t = z at *
      generalize cf xs f = x at *
      have bm := mul_bdM bx bz hp2
      obtain ⟨M, hM⟩ : ∃ M, x * z = M := ⟨_, rfl⟩
      rw [hM] at bm hsn
      have bs := BD2.out q (by omega)
      have HSN := Lib.hid hsn
      generalize s q = sq at *
      rw [← hbel.cell (p := ⟨b6, o6 + q * 2, none⟩) hb6] at hk1
      rw [← hbel.cell (p := ⟨b6, o6 + q * 2 + 1, none⟩) hb6] at hk2
      rw [← hbel.cell (p := ⟨bC, oC + t, none⟩) hbC] at hz
      rw [← hbel.cell (p := ⟨b, o + f, none⟩) hbl] at hx
      have hc1' := hc1
      rw [← hbel.cell (p := ⟨B1, 0, none⟩) hB1] at hc1'
      have g6 := Nat.lt_of_lt_of_le hb6 hbel.size
      have gC := Nat.lt_of_lt_of_le hbC hbel.size
      have gb := Nat.lt_of_lt_of_le hbl hbel.size
      have g1 := Nat.lt_of_lt_of_le hB1 hbel.size
      have i1 : (0 : Int) ≤ (q : Int) := by omega
      have i2 : (q : Int) < (m : Int) := by omega
      have i3 : (0 : Int) ≤ (f : Int) := by omega
      have i4 : (f : Int) < (k : Int) := by omega
      have i5 : (0 : Int) ≤ (t : Int) := by omega
      have i6 : (t : Int) < (k : Int) := by omega
      have m1 : IntKind.i64.wrap (x * z) = M := by rw [hM, IntKind.wrap_i64]; omega
      have m2 : IntKind.i64.wrap (y - sq - M) = y - sq - M := by rw [IntKind.wrap_i64]; omega
      have bm1 := bm.1
      have bm2 := bm.2
      have HBB := Lib.hid hbel
      clear hcC hk3 hcr hmP hsn bz bx bs hM bm hf hc1 hc2 hbel hle hmx
      go_wp2_with fail
      go_quiet (fail)
      go_wp2_with fail
      go_roundw
      case rel => exact ⟨q + 1, by omega, by go_num, by rw [HSN.out]; congr 1; omega, ibelow_drewN (HBB.out.alloc (HBB.out.size) _) _⟩
      case measure => simp [intOf]; omega
    · obtain rfl : q = m := by omega
      have e := AL2.out
      rw [e]
      go_wp2_with fail
      go_ret
      exact ⟨rfl, hbel⟩

set_option maxHeartbeats 1000000 in
theorem fLess_any (A : Option Addr) (n c : Nat) (xs : List Int) (R : Option Addr) (m d : Nat) (P : List (Nat × List Int)) (p : Int) (w : World) (h : ISl w A n c xs) (hr : RowsAt w R m d P)
    (hP : ∀ b ∈ P, b.1 < n ∧ b.2.length = n ∧ Rs p b.2) (hx : Rs p xs) (hp : Md p) (hm : m ≤ 64) (hn : n ≤ 1000) :
    Calls Tryd.prog 29 #[.slice A n c, .int .i64 p, .slice R m d] w fun e w' => ∃ v, e = .returned v ∧ NRow w v n (lessA p xs P) w' := by
  have M := fMade_any 40 _ (enters_of Tryd.func40 (by kernel_rfl) rfl) _ n p _ hp
    (tells_less A n c w.heap.size (w.heap.size + 1) xs R m d P p ((w.alloc (.cells #[.slice A n c] 31)).alloc (.cells #[.slice R m d] 38)) ((Bx.new w _ _).alloc _) (by have := Bx.new (w.alloc (.cells #[.slice A n c] 31)) (.slice R m d) 38; simpa using this)
      (isl_al (isl_al h _) _) ((hr.below (below_al _ _)).below (below_al _ _)) hP hx hp hm) (by omega)
  have e : tld p n (fun i => cf xs i - rcS (cf xs) P i) = lessA p xs P := by unfold lessA; rw [h.len]
  rw [e] at M
  have MM := Lib.hid M
  have hcl := h.le
  have hcm := h.max
  have hmf : ∀ (fn : Fn) (first cap : Array Value) (w : World), (Instr.makeFunc fn first cap).run Tryd.prog w = .ok (.func fn first cap) w := fun _ _ _ _ => rfl
  clear M h hp hr hP hx e
  go_enter Tryd.func29, Tryd.ntmps29
  go_wp2_with (go_at_call 39; (with_reducible refine MM.out.mono ?_); rintro e w5 ⟨v, rfl, ho⟩; have HO := Lib.hid ho; clear ho)
  go_ret
  exact ⟨_, rfl, HO.out.after ((below_al _ _).trans ((below_al _ _).mono (by simp)))⟩

set_option maxHeartbeats 1000000 in
theorem tells_by (A : Option Addr) (n c B1 B2 : Nat) (u : Int) (xs : List Int) (p : Int) (w : World) (h1 : Bx w B1 (.int .i64 u)) (h2 : Bx w B2 (.slice A n c)) (h : ISl w A n c xs) (hp : Md p) (hu : 0 ≤ u ∧ u < p) (hx : Rs p xs) :
    Tells 43 #[.pointer (some ⟨B1, 0, none⟩), .pointer (some ⟨B2, 0, none⟩)] (fun i => u * cf xs i) n w := by
  intro W t ht hbel
  show Calls _ _ #[.int .i64 (t : Int), .pointer (some ⟨B1, 0, none⟩), .pointer (some ⟨B2, 0, none⟩)] W fun e w' => e = .returned (.int .i64 (u * cf xs t)) ∧ Below W.heap.size W w'
  have h3 := h.below hbel
  have hcl := h.le
  have hcm := h.max
  obtain ⟨b, o, rfl, hbl, hc⟩ := h3.cfs (by omega)
  have hc1 := (h1.below hbel).2
  have hc2 := (h2.below hbel).2
  have hc3 := hc t ht
  have bm := mul_bdM hu (hx.at hp.1 t) hp.2
  obtain ⟨P, hP⟩ : ∃ P, u * cf xs t = P := ⟨_, rfl⟩
  generalize cf xs t = x at *
  rw [hP] at bm ⊢
  have bm1 := bm.1
  have bm2 := bm.2
  have hm : IntKind.i64.wrap (u * x) = P := by rw [hP, IntKind.wrap_i64]; omega
  have i1 : (0 : Int) ≤ (t : Int) := by omega
  have i2 : (t : Int) < (n : Int) := by omega
  clear hc h3 h hbel h1 h2 hx hP bm hp hu
  go_enter Tryd.func43, Tryd.ntmps43
  go_wp2_with fail
  go_quiet (fail)
  go_wp2_with fail
  go_ret
  exact ⟨rfl, ibelow_drewN (Below.refl _ _) _⟩

set_option maxHeartbeats 2000000 in
theorem fBy_any (A : Option Addr) (n c : Nat) (xs : List Int) (f : Nat) (p : Int) (w : World) (hT : TabAt w) (h : ISl w A n c xs) (hp : Pr p) (hx : Rs p xs) (hf : f < n) (h0 : cf xs f ≠ 0) (hn : n ≤ 1000) :
    Calls Tryd.prog 33 #[.slice A n c, .int .i64 (f : Int), .int .i64 p] w fun e w' => ∃ v, e = .returned v ∧ NRow w v n (sclL p (finv (cf xs f) p) xs xs.length) w' := by
  have hpm := hp.md
  have hp1 := hpm.1
  have hp2 := hpm.2
  have hnz : cf xs f % p ≠ 0 := by rw [hx.emod hp1 f]; exact h0
  have hiv := finv_spec hp hnz
  have hcl := h.le
  have hcm := h.max
  obtain ⟨b, o, rfl, hbl, hc⟩ := h.cfs (by omega)
  have hcx := hc f hf
  obtain ⟨y, hy⟩ : ∃ y, cf xs f = y := ⟨_, rfl⟩
  rw [hy] at hcx hiv hnz ⊢
  have I0 := pInv_any y p (w.alloc (.cells #[.slice (some ⟨b, o, none⟩) n c] 31)) (by omega) (by omega) (hT.below (below_al _ _))
  rw [einv_yes (primB_yes hp) hnz] at I0
  obtain ⟨u, hu⟩ : ∃ u, finv y p = u := ⟨_, rfl⟩
  rw [hu] at I0 hiv ⊢
  have INV := Lib.hid I0
  have MM := Lib.hid (fun (W : World) (hb : Below (w.alloc (.cells #[.slice (some ⟨b, o, none⟩) n c] 31)).heap.size (w.alloc (.cells #[.slice (some ⟨b, o, none⟩) n c] 31)) W) =>
    fMade_any 43 _ (enters_of Tryd.func43 (by kernel_rfl) rfl) _ n p _ hpm
      (tells_by (some ⟨b, o, none⟩) n c W.heap.size w.heap.size u xs p (W.alloc (.cells #[.int .i64 u] 3)) (Bx.new W _ _) (((Bx.new w _ _).below hb).alloc _) (isl_al ((isl_al h _).below hb) _) hpm ⟨by omega, hiv.2.1⟩ hx) (by omega))
  rw [tld_scl (u := u) (r := xs) h.len _ (fun _ => rfl), ← sclL_all (p := p) (x := u) (r := xs) (q := xs.length) (Nat.le_refl _)] at MM
  have hmf : ∀ (fn : Fn) (first cap : Array Value) (w : World), (Instr.makeFunc fn first cap).run Tryd.prog w = .ok (.func fn first cap) w := fun _ _ _ _ => rfl
  have i1 : (0 : Int) ≤ (f : Int) := by omega
  have i2 : (f : Int) < (n : Int) := by omega
  clear I0 hc h hp hx hiv hnz hT h0 hy hu
  go_enter Tryd.func33, Tryd.ntmps33
  go_wp2_with (first
    | (go_at_call 42; (with_reducible refine INV.out.mono ?_); rintro e w5 ⟨rfl, hb5⟩; have HB5 := Lib.hid hb5; have hc5 := (Bx.new w (.slice (some ⟨b, o, none⟩) n c) 31).below hb5; have hc6 := hc5.2; have hc7 := hc5.1; have M5 := Lib.hid (MM.out _ hb5); clear hc5 hb5)
    | (go_at_call 39; (with_reducible refine M5.out.mono ?_); rintro e w6 ⟨v, rfl, ho⟩; have HO := Lib.hid ho; clear ho))
  go_ret
  exact ⟨_, rfl, HO.out.after (((below_al _ _).trans (HB5.out.mono (by simp))).alloc (Nat.le_trans (by simp) HB5.out.size) _)⟩
end Go.Proofs.YtipdnfdeacdkgaaDoor

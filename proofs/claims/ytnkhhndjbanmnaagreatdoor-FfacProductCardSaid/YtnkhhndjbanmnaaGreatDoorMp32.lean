/- Texts joined, in their order: FlnLess, FlnSeek, FlnOut. -/
import Derived.BigQuiet
import Derived.Test.YtnkhhndjbanmnaaGreatDoorMp8
import Derived.Test.YtnkhhndjbanmnaaGreatDoorMp30
import Derived.Test.YtnkhhndjbanmnaaGreatDoorMp31

/- flin.less and byFirst, by their contracts: each told place by place. -/
namespace Go.Proofs.YtnkhhndjbanmnaaGreatDoor
open Go.RowKit Go.Shelf

set_option maxRecDepth 100000 in
set_option maxHeartbeats 4000000 in
theorem tellsL_less (A : Option Addr) (n c B1 B2 : Nat) (xs : List Int) (R : Option Addr) (m d : Nat) (P : List (Nat × List Int)) (p : Int) (w : World) (h1 : BxL w B1 (.slice A n c)) (h2 : BxL w B2 (.slice R m d)) (h : ISl w A n c xs) (hr : RowsAt w R m d P)
    (hP : ∀ b ∈ P, b.1 < n ∧ b.2.length = n ∧ Rs p b.2) (hx : Rs p xs) (hp : Md p) (hm : m ≤ 64) :
    TellsL 180 #[.pointer (some ⟨B1, 0, none⟩), .pointer (some ⟨B2, 0, none⟩)] (fun i => cf xs i - rcS (cf xs) P i) n w := by
  intro W t ht hbel
  show Calls _ _ #[.int .i64 (t : Int), .pointer (some ⟨B1, 0, none⟩), .pointer (some ⟨B2, 0, none⟩)] W fun e w' => e = .returned (.int .i64 (cf xs t - rcS (cf xs) P t)) ∧ Below W.heap.size W w'
  obtain ⟨hp1, hp2⟩ := hp
  have h3 := h.below hbel
  have hcl := h.le
  have hcm := h.max
  have hrl := hr.le
  have hrm := hr.max
  have HR := Lib.hid (hr.below hbel)
  obtain ⟨b, o, rfl, hbl, hc⟩ := h3.cfs (by omega)
  have hB1 := (h1.below hbel).1
  have hc1 := (h1.below hbel).2
  have hB2 := (h2.below hbel).1
  have hc2 := (h2.below hbel).2
  have HC := Lib.hid hc
  have hct := hc t ht
  have BX := Lib.hid (fun i => hx.at hp1 i)
  have bt := hx.at hp1 t
  have HP := Lib.hid hP
  have HML := Lib.hid hr.len
  have BD := Lib.hid (fun q => rcS_bd (P := P.take q) hp2 (fun i => hx.at hp1 i) (fun b hb i => (hP b (List.mem_of_mem_take hb)).2.2.at hp1 i) t)
  have SN := Lib.hid (fun q (hq : q < P.length) => rcS_snoc (f := cf xs) hq t)
  have Z0 := Lib.hid (show rcS (cf xs) (P.take 0) t = 0 by rw [List.take_zero]; rfl)
  have ALL := Lib.hid (show rcS (cf xs) (P.take m) t = rcS (cf xs) P t by rw [List.take_of_length_le (by rw [← HML.out]; exact Nat.le_refl _)])
  generalize rcS (cf xs) P t = S at *
  obtain ⟨s, hs⟩ : ∃ s : Nat → Int, ∀ q, rcS (cf xs) (P.take q) t = s q := ⟨fun q => rcS (cf xs) (P.take q) t, fun _ => rfl⟩
  have BD2 : Hid (∀ q, q ≤ P.length → 0 ≤ s q ∧ s q ≤ 4292870400 * (q : Int)) := Lib.hid (fun q hq => by have := BD.out q; rw [hs, List.length_take, Nat.min_eq_left hq] at this; exact this)
  have SN2 : Hid (∀ q (hq : q < P.length), s (q + 1) = s q + cf xs (P[q]).1 * cf (P[q]).2 t) := Lib.hid (fun q hq => by have := SN.out q hq; rw [hs, hs] at this; exact this)
  have Z1 : Hid (s 0 = 0) := Lib.hid (by rw [← hs]; exact Z0.out)
  have AL2 : Hid (s m = S) := Lib.hid (by rw [← hs]; exact ALL.out)
  clear BD SN Z0 ALL hs
  obtain ⟨y, hy⟩ : ∃ y, cf xs t = y := ⟨_, rfl⟩
  rw [hy] at hct bt ⊢
  clear hy h1 h2 h3 h hr hP hx hc hbel
  go_enter Tryz.func180, Tryz.ntmps180
  go_wp2_with fail
  go_loopw [14, 5] (fun i v wr => ∃ q : Nat, q ≤ m ∧ i = .int .i64 (q : Int) ∧ v = .int .i64 (y - s q) ∧ Below W.heap.size W wr) (fun i _ _ => m - (intOf i).toNat)
  case atStart => exact ⟨0, Nat.zero_le _, rfl, by rw [Z1.out, Int.sub_zero], Below.refl _ _⟩
  case round =>
    obtain ⟨q, hq, rfl, rfl, hbel⟩ := hrel
    by_cases hql : q < m
    · obtain ⟨b6, o6, rfl, hb6, hcr⟩ := HR.out.open_ (by omega)
      obtain ⟨hk1, C, k, dk, hk2, hk3⟩ := hcr q hql
      have hqP : q < P.length := by rw [← HML.out]; exact hql
      have hmP := HP.out _ (List.getElem_mem hqP)
      have hle := hk3.le
      have hmx := hk3.max
      have hkl : k = n := by rw [hk3.len, prow_at hqP]; exact hmP.2.1
      subst hkl
      rw [plc_at hqP] at hk1
      obtain ⟨bC, oC, rfl, hbC, hcC⟩ := hk3.cfs (by omega)
      have hz := hcC t ht
      have hx := HC.out (P[q]).1 hmP.1
      have hsn := SN2.out q hqP
      rw [← prow_at hqP] at hsn
      have bz := hmP.2.2.at hp1 t
      rw [← prow_at hqP] at bz
      have bx := BX.out (P[q]).1
      have hpl := hmP.1
      obtain ⟨f, hf⟩ : ∃ f, (P[q]).1 = f := ⟨_, rfl⟩
      rw [hf] at hk1 hx hsn bx hpl
      generalize cf (prow P q) t = z at *
      generalize cf xs f = x at *
      have bm := mul_bdM bx bz hp2
      obtain ⟨M, hM⟩ : ∃ M, x * z = M := ⟨_, rfl⟩
      rw [hM] at bm hsn
      have bs := BD2.out q (by omega)
      have HSN := Lib.hid hsn
      generalize s q = sq at *
      rw [← hbel.cell (p := ⟨b6, o6 + q * 2, none⟩) hb6] at hk1
      rw [← hbel.cell (p := ⟨b6, o6 + q * 2 + 1, none⟩) hb6] at hk2
      rw [← hbel.cell (p := ⟨bC, oC + t, none⟩) hbC] at hz
      rw [← hbel.cell (p := ⟨b, o + f, none⟩) hbl] at hx
      have hc1' := hc1
      rw [← hbel.cell (p := ⟨B1, 0, none⟩) hB1] at hc1'
      have g6 := Nat.lt_of_lt_of_le hb6 hbel.size
      have gC := Nat.lt_of_lt_of_le hbC hbel.size
      have gb := Nat.lt_of_lt_of_le hbl hbel.size
      have g1 := Nat.lt_of_lt_of_le hB1 hbel.size
      have i1 : (0 : Int) ≤ (q : Int) := by omega
      have i2 : (q : Int) < (m : Int) := by omega
      have i3 : (0 : Int) ≤ (f : Int) := by omega
      have i4 : (f : Int) < (k : Int) := by omega
      have i5 : (0 : Int) ≤ (t : Int) := by omega
      have i6 : (t : Int) < (k : Int) := by omega
      have m1 : IntKind.i64.wrap (x * z) = M := by rw [hM, IntKind.wrap_i64]; omega
      have m2 : IntKind.i64.wrap (y - sq - M) = y - sq - M := by rw [IntKind.wrap_i64]; omega
      have bm1 := bm.1
      have bm2 := bm.2
      have HBB := Lib.hid hbel
      clear hcC hk3 hcr hmP hsn bz bx bs hM bm hf hc1 hc2 hbel hle hmx
      go_wp2_with fail
      go_quiet (fail)
      go_wp2_with fail
      go_roundw
      case rel => exact ⟨q + 1, by omega, by go_num, by rw [HSN.out]; congr 1; omega, ibelow_drewN (HBB.out.alloc (HBB.out.size) _) _⟩
      case measure => simp [intOf]; omega
    · obtain rfl : q = m := by omega
      have e := AL2.out
      rw [e]
      go_wp2_with fail
      go_ret
      exact ⟨rfl, hbel⟩

set_option maxRecDepth 100000 in
set_option maxHeartbeats 1000000 in
theorem fLess_any (A : Option Addr) (n c : Nat) (xs : List Int) (R : Option Addr) (m d : Nat) (P : List (Nat × List Int)) (p : Int) (w : World) (h : ISl w A n c xs) (hr : RowsAt w R m d P)
    (hP : ∀ b ∈ P, b.1 < n ∧ b.2.length = n ∧ Rs p b.2) (hx : Rs p xs) (hp : Md p) (hm : m ≤ 64) (hn : n ≤ 1000) :
    Calls Tryz.prog 147 #[.slice A n c, .int .i64 p, .slice R m d] w fun e w' => ∃ v, e = .returned v ∧ NRow w v n (lessA p xs P) w' := by
  have M := fMade_any 180 _ (enters_of Tryz.func180 (by kernel_rfl) rfl) _ n p _ hp
    (tellsL_less A n c w.heap.size (w.heap.size + 1) xs R m d P p ((w.alloc (.cells #[.slice A n c] 22)).alloc (.cells #[.slice R m d] 106)) ((BxL.new w _ _).alloc _) (by have := BxL.new (w.alloc (.cells #[.slice A n c] 22)) (.slice R m d) 106; simpa using this)
      (islL_al (islL_al h _) _) ((hr.below (belowL_al _ _)).below (belowL_al _ _)) hP hx hp hm) (by omega)
  have e : tld p n (fun i => cf xs i - rcS (cf xs) P i) = lessA p xs P := by unfold lessA; rw [h.len]
  rw [e] at M
  have MM := Lib.hid M
  have hcl := h.le
  have hcm := h.max
  have hmf : ∀ (fn : Fn) (first cap : Array Value) (w : World), (Instr.makeFunc fn first cap).run Tryz.prog w = .ok (.func fn first cap) w := fun _ _ _ _ => rfl
  clear M h hp hr hP hx e
  go_enter Tryz.func147, Tryz.ntmps147
  go_wp2_with (go_at_call 179; (with_reducible refine MM.out.mono ?_); rintro e w5 ⟨v, rfl, ho⟩; have HO := Lib.hid ho; clear ho)
  go_ret
  exact ⟨_, rfl, HO.out.after ((belowL_al _ _).trans ((belowL_al _ _).mono (by simp)))⟩

set_option maxRecDepth 100000 in
set_option maxHeartbeats 1000000 in
theorem tells_by (A : Option Addr) (n c B1 B2 : Nat) (u : Int) (xs : List Int) (p : Int) (w : World) (h1 : BxL w B1 (.int .i64 u)) (h2 : BxL w B2 (.slice A n c)) (h : ISl w A n c xs) (hp : Md p) (hu : 0 ≤ u ∧ u < p) (hx : Rs p xs) :
    TellsL 182 #[.pointer (some ⟨B1, 0, none⟩), .pointer (some ⟨B2, 0, none⟩)] (fun i => u * cf xs i) n w := by
  intro W t ht hbel
  show Calls _ _ #[.int .i64 (t : Int), .pointer (some ⟨B1, 0, none⟩), .pointer (some ⟨B2, 0, none⟩)] W fun e w' => e = .returned (.int .i64 (u * cf xs t)) ∧ Below W.heap.size W w'
  have h3 := h.below hbel
  have hcl := h.le
  have hcm := h.max
  obtain ⟨b, o, rfl, hbl, hc⟩ := h3.cfs (by omega)
  have hc1 := (h1.below hbel).2
  have hc2 := (h2.below hbel).2
  have hc3 := hc t ht
  have bm := mul_bdM hu (hx.at hp.1 t) hp.2
  obtain ⟨P, hP⟩ : ∃ P, u * cf xs t = P := ⟨_, rfl⟩
  generalize cf xs t = x at *
  rw [hP] at bm ⊢
  have bm1 := bm.1
  have bm2 := bm.2
  have hm : IntKind.i64.wrap (u * x) = P := by rw [hP, IntKind.wrap_i64]; omega
  have i1 : (0 : Int) ≤ (t : Int) := by omega
  have i2 : (t : Int) < (n : Int) := by omega
  clear hc h3 h hbel h1 h2 hx hP bm hp hu
  go_enter Tryz.func182, Tryz.ntmps182
  go_wp2_with fail
  go_quiet (fail)
  go_wp2_with fail
  go_ret
  exact ⟨rfl, ibelow_drewN (Below.refl _ _) _⟩

set_option maxRecDepth 100000 in
set_option maxHeartbeats 2000000 in
theorem fBy_any (A : Option Addr) (n c : Nat) (xs : List Int) (f : Nat) (p : Int) (w : World) (hT : TabAt w) (h : ISl w A n c xs) (hp : Pr p) (hx : Rs p xs) (hf : f < n) (h0 : cf xs f ≠ 0) (hn : n ≤ 1000) :
    Calls Tryz.prog 151 #[.slice A n c, .int .i64 (f : Int), .int .i64 p] w fun e w' => ∃ v, e = .returned v ∧ NRow w v n (sclL p (finv (cf xs f) p) xs xs.length) w' := by
  have hpm := hp.md
  have hp1 := hpm.1
  have hp2 := hpm.2
  have hnz : cf xs f % p ≠ 0 := by rw [hx.emod hp1 f]; exact h0
  have hiv := finv_spec hp hnz
  have hcl := h.le
  have hcm := h.max
  obtain ⟨b, o, rfl, hbl, hc⟩ := h.cfs (by omega)
  have hcx := hc f hf
  obtain ⟨y, hy⟩ : ∃ y, cf xs f = y := ⟨_, rfl⟩
  rw [hy] at hcx hiv hnz ⊢
  have I0 := pInv_any y p (w.alloc (.cells #[.slice (some ⟨b, o, none⟩) n c] 22)) (by omega) (by omega) (hT.below (belowL_al _ _))
  rw [einv_yes (primB_yes hp) hnz] at I0
  obtain ⟨u, hu⟩ : ∃ u, finv y p = u := ⟨_, rfl⟩
  rw [hu] at I0 hiv ⊢
  have INV := Lib.hid I0
  have MM := Lib.hid (fun (W : World) (hb : Below (w.alloc (.cells #[.slice (some ⟨b, o, none⟩) n c] 22)).heap.size (w.alloc (.cells #[.slice (some ⟨b, o, none⟩) n c] 22)) W) =>
    fMade_any 182 _ (enters_of Tryz.func182 (by kernel_rfl) rfl) _ n p _ hpm
      (tells_by (some ⟨b, o, none⟩) n c W.heap.size w.heap.size u xs p (W.alloc (.cells #[.int .i64 u] 3)) (BxL.new W _ _) (((BxL.new w _ _).below hb).alloc _) (islL_al ((islL_al h _).below hb) _) hpm ⟨by omega, hiv.2.1⟩ hx) (by omega))
  rw [tld_scl (u := u) (r := xs) h.len _ (fun _ => rfl), ← sclL_all (p := p) (x := u) (r := xs) (q := xs.length) (Nat.le_refl _)] at MM
  have hmf : ∀ (fn : Fn) (first cap : Array Value) (w : World), (Instr.makeFunc fn first cap).run Tryz.prog w = .ok (.func fn first cap) w := fun _ _ _ _ => rfl
  have i1 : (0 : Int) ≤ (f : Int) := by omega
  have i2 : (f : Int) < (n : Int) := by omega
  clear I0 hc h hp hx hiv hnz hT h0 hy hu
  go_enter Tryz.func151, Tryz.ntmps151
  go_wp2_with (first
    | (go_at_call 160; (with_reducible refine INV.out.mono ?_); rintro e w5 ⟨rfl, hb5⟩; have HB5 := Lib.hid hb5; have hc5 := (BxL.new w (.slice (some ⟨b, o, none⟩) n c) 22).below hb5; have hc6 := hc5.2; have hc7 := hc5.1; have M5 := Lib.hid (MM.out _ hb5); clear hc5 hb5)
    | (go_at_call 179; (with_reducible refine M5.out.mono ?_); rintro e w6 ⟨v, rfl, ho⟩; have HO := Lib.hid ho; clear ho))
  go_ret
  exact ⟨_, rfl, HO.out.after (((belowL_al _ _).trans (HB5.out.mono (by simp))).alloc (Nat.le_trans (by simp) HB5.out.size) _)⟩
end Go.Proofs.YtnkhhndjbanmnaaGreatDoor

/- slices.IndexFunc and slices.BinarySearchFunc at flin's rows, and flin.placeOf, by their contracts. -/
namespace Go.Proofs.YtnkhhndjbanmnaaGreatDoor
open Go.RowKit Go.Shelf

set_option maxRecDepth 100000 in
set_option maxHeartbeats 400000 in
theorem fIsNot_any (x : Int) (w : World) : Calls Tryz.prog 150 #[.int .i64 x] w fun e w' => e = .returned (.bool (x != 0)) ∧ w = w' := by
  go_enter Tryz.func150, Tryz.ntmps150
  go_wp2_with fail
  go_ret
  exact ⟨rfl, rfl⟩

set_option maxRecDepth 100000 in
set_option maxHeartbeats 1000000 in
theorem fFirst_any (A : Option Addr) (n c : Nat) (xs : List Int) (w : World) (h : ISl w A n c xs) :
    Calls Tryz.prog 149 #[.slice A n c, .func (.func 150) #[] #[]] w fun e w' => e = .returned (.int .i64 (fsi xs)) ∧ w = w' := by
  have hcl := h.le
  have hcm := h.max
  have H := Lib.hid h
  have IS := Lib.hid (fun k (hk : IsFst xs k) => fsi_is hk)
  have NO := Lib.hid (@fsi_none xs)
  generalize fsi xs = r at *
  clear h
  go_enter Tryz.func149, Tryz.ntmps149
  go_wp2_with fail
  go_loop [8] (fun i => ∃ k : Nat, k ≤ n ∧ i = .int .i64 (k : Int) ∧ Hid (∀ j, j < k → cf xs j = 0)) (fun i => n - (intOf i).toNat)
  case atStart => exact ⟨0, Nat.zero_le _, rfl, Lib.hid (fun j hj => absurd hj (Nat.not_lt_zero _))⟩
  case round =>
    obtain ⟨k, hk, rfl, hz⟩ := hrel
    by_cases hlt : k < n
    · obtain ⟨b, o, rfl, hbl, hc⟩ := H.out.cfs (by omega)
      have hx := hc k hlt
      have hkl : k < xs.length := by rw [← H.out.len]; exact hlt
      have HKL := Lib.hid hkl
      have i1 : (0 : Int) ≤ (k : Int) := by omega
      have i2 : (k : Int) < (n : Int) := by omega
      by_cases h0 : cf xs k = 0
      · have H0 := Lib.hid h0
        rw [h0] at hx
        have CC := Lib.hid (fIsNot_any 0)
        clear hc h0 hkl
        go_wp2_with (go_at_call 150; (with_reducible refine (CC.out _).mono ?_); rintro e w' ⟨rfl, rfl⟩)
        go_round
        case rel => exact ⟨k + 1, by omega, by go_num, Lib.hid (fun j hj => by
          by_cases e : j = k
          · rw [e]; exact H0.out
          · exact hz.out j (by omega))⟩
        case measure => simp [intOf]; omega
      · have e := IS.out k ⟨hkl, h0, hz.out⟩
        subst e
        obtain ⟨y, hy⟩ : ∃ y, cf xs k = y := ⟨_, rfl⟩
        rw [hy] at hx h0
        have h0b : (y != 0) = true := by simpa using h0
        have CC := Lib.hid (fIsNot_any y)
        rw [h0b] at CC
        clear hc hy hkl NO IS h0b
        go_wp2_with (go_at_call 150; (with_reducible refine (CC.out _).mono ?_); rintro e w' ⟨rfl, rfl⟩)
        go_ret
        exact ⟨rfl, rfl⟩
    · obtain rfl : k = n := by omega
      have e := NO.out (fun j hj => hz.out j (by rw [H.out.len]; exact hj))
      subst e
      clear NO IS
      go_wp2_with fail
      go_ret
      exact ⟨rfl, rfl⟩

set_option maxRecDepth 100000 in
set_option maxHeartbeats 400000 in
theorem fCmp_any (a x : Nat) (C : Option Addr) (k d : Nat) (w : World) (ha : a ≤ 1000) (hx : x ≤ 1000) :
    Calls Tryz.prog 186 #[.agg #[.int .i64 (a : Int), .slice C k d], .int .i64 (x : Int)] w fun e w' => e = .returned (.int .i64 ((a : Int) - (x : Int))) ∧ Below w.heap.size w w' := by
  have m1 : IntKind.i64.wrap ((a : Int) - (x : Int)) = (a : Int) - (x : Int) := by rw [IntKind.wrap_i64]; omega
  go_enter Tryz.func186, Tryz.ntmps186
  go_wp2_with fail
  go_ret
  exact ⟨rfl, belowL_al _ _⟩

def PlaceIn (P : List (Nat × List Int)) (x t : Nat) : Prop := t ≤ P.length ∧ (∀ i, i < t → plc P i < x) ∧ (∀ i, t ≤ i → i < P.length → x < plc P i)

set_option maxRecDepth 100000 in
set_option maxHeartbeats 4000000 in
theorem fSearch_any (R : Option Addr) (m d : Nat) (P : List (Nat × List Int)) (x : Nat) (w : World) (hr : RowsAt w R m d P) (hinc : P.Pairwise fun a b => a.1 < b.1) (hne : ∀ i, i < m → plc P i ≠ x) (hb : ∀ i, i < m → plc P i ≤ 1000) (hx : x ≤ 1000) (hm : m ≤ 64) :
    Calls Tryz.prog 185 #[.slice R m d, .int .i64 (x : Int), .func (.func 186) #[] #[]] w fun e w' => ∃ t, e = .returned (.tuple #[.int .i64 (t : Nat), .bool false]) ∧ PlaceIn P x t ∧ Below w.heap.size w w' := by
  have hrl := hr.le
  have hrm := hr.max
  have HR := Lib.hid hr
  have HML := Lib.hid hr.len
  have HNE := Lib.hid hne
  have HPB := Lib.hid hb
  have INC : Hid (∀ i j, i ≤ j → j < m → plc P i ≤ plc P j) := Lib.hid (fun i j hij hj => by
    rcases Nat.lt_or_eq_of_le hij with h | h
    · rw [plc_at (by rw [← HML.out]; omega), plc_at (by rw [← HML.out]; omega)]
      have := List.pairwise_iff_getElem.1 hinc i j (by rw [← HML.out]; omega) (by rw [← HML.out]; omega) h
      omega
    · rw [h]; exact Nat.le_refl _)
  clear hr hinc hne hb
  go_enter Tryz.func185, Tryz.ntmps185
  go_wp2_with fail
  go_loopw [9, 10] (fun i j wr => ∃ lo hi : Nat, i = .int .i64 (lo : Int) ∧ j = .int .i64 (hi : Int) ∧ lo ≤ hi ∧ hi ≤ m ∧ Hid ((∀ i, i < lo → plc P i < x) ∧ (∀ i, hi ≤ i → i < m → x < plc P i)) ∧ Below w.heap.size w wr) (fun i j _ => (intOf j).toNat - (intOf i).toNat)
  case atStart => exact ⟨0, m, rfl, rfl, Nat.zero_le _, Nat.le_refl _, Lib.hid ⟨fun i hi => absurd hi (Nat.not_lt_zero _), fun i h1 h2 => absurd h2 (by omega)⟩, Below.refl _ _⟩
  case round =>
    obtain ⟨lo, hi, rfl, rfl, hlh, hhm, hI, hbel⟩ := hrel
    by_cases hlt : lo < hi
    · obtain ⟨b6, o6, rfl, hb6, hcr⟩ := HR.out.open_ (by omega)
      obtain ⟨q, hq⟩ : ∃ q, (lo + hi) / 2 = q := ⟨_, rfl⟩
      have hqi : ((lo : Int) + (hi : Int)) / 2 = (q : Int) := by omega
      have hqn : q < m := by omega
      have hql : lo ≤ q := by omega
      have hqh : q < hi := by omega
      obtain ⟨hk1, C, k, dk, hk2, _⟩ := hcr q hqn
      rw [← hbel.cell (p := ⟨b6, o6 + q * 2, none⟩) hb6] at hk1
      rw [← hbel.cell (p := ⟨b6, o6 + q * 2 + 1, none⟩) hb6] at hk2
      have pb := HPB.out q hqn
      have pn := HNE.out q hqn
      have L1 := Lib.hid (fun (h : plc P q < x) => (show ∀ i, i < q + 1 → plc P i < x from fun i hi' => Nat.lt_of_le_of_lt (INC.out i q (by omega) hqn) h))
      have L2 := Lib.hid (fun (h : x < plc P q) => (show ∀ i, q ≤ i → i < m → x < plc P i from fun i h1 h2 => Nat.lt_of_lt_of_le h (INC.out q i h1 h2)))
      generalize plc P q = a at *
      have CC := Lib.hid (fun W => fCmp_any a x C k dk W pb hx)
      have HB := Lib.hid hbel
      have m1 : IntKind.i64.wrap ((lo : Int) + (hi : Int)) = (lo : Int) + (hi : Int) := by rw [IntKind.wrap_i64]; omega
      have i1 : (0 : Int) ≤ (q : Int) := by omega
      have i2 : (q : Int) < (m : Int) := by omega
      have HQ := Lib.hid hq
      by_cases hax : a < x
      · have c1 : ((a : Int) - (x : Int)) < 0 := by omega
        have HL := Lib.hid (L1.out hax)
        clear hcr hbel hq
        go_wp2_with (go_at_call 186; (with_reducible refine (CC.out _).mono ?_); rintro e w' ⟨rfl, hb'⟩)
        go_roundw
        case rel => exact ⟨q + 1, hi, by go_num, rfl, by omega, hhm, Lib.hid ⟨HL.out, hI.out.2⟩, HB.out.trans (hb'.mono HB.out.size)⟩
        case measure => simp [intOf]; omega
      · have c1 : ¬ ((a : Int) - (x : Int)) < 0 := by omega
        have HL := Lib.hid (L2.out (by omega))
        clear hcr hbel hq
        go_wp2_with (go_at_call 186; (with_reducible refine (CC.out _).mono ?_); rintro e w' ⟨rfl, hb'⟩)
        go_roundw
        case rel => exact ⟨lo, q, rfl, rfl, by omega, by omega, Lib.hid ⟨hI.out.1, HL.out⟩, HB.out.trans (hb'.mono HB.out.size)⟩
        case measure => simp [intOf]; omega
    · obtain rfl : hi = lo := by omega
      have HP : Hid (PlaceIn P x hi) := Lib.hid ⟨by rw [← HML.out]; exact hhm, hI.out.1, fun i h1 h2 => hI.out.2 i h1 (by rw [HML.out]; exact h2)⟩
      by_cases hm : hi < m
      · obtain ⟨b6, o6, rfl, hb6, hcr⟩ := HR.out.open_ (by omega)
        obtain ⟨hk1, C, k, dk, hk2, _⟩ := hcr hi hm
        rw [← hbel.cell (p := ⟨b6, o6 + hi * 2, none⟩) hb6] at hk1
        rw [← hbel.cell (p := ⟨b6, o6 + hi * 2 + 1, none⟩) hb6] at hk2
        have pb := HPB.out hi hm
        have pn := HNE.out hi hm
        generalize plc P hi = a at *
        have CC := Lib.hid (fun W => fCmp_any a x C k dk W pb hx)
        have HB := Lib.hid hbel
        have c1 : (((a : Int) - (x : Int)) == 0) = false := by simp; omega
        have i1 : (0 : Int) ≤ (hi : Int) := by omega
        have i2 : (hi : Int) < (m : Int) := by omega
        clear hcr hbel
        go_wp2_with (go_at_call 186; (with_reducible refine (CC.out _).mono ?_); rintro e w' ⟨rfl, hb'⟩)
        go_ret2
        exact ⟨hi, rfl, HP.out, HB.out.trans (hb'.mono HB.out.size)⟩
      · have c1 : ¬ (hi : Int) < (m : Int) := by omega
        go_wp2_with fail
        go_ret2
        exact ⟨hi, rfl, HP.out, hbel⟩

set_option maxRecDepth 100000 in
set_option maxHeartbeats 1000000 in
theorem fPlace_any (R : Option Addr) (m d : Nat) (P : List (Nat × List Int)) (x : Nat) (C : Option Addr) (k dk : Nat) (w : World) (hr : RowsAt w R m d P) (hinc : P.Pairwise fun a b => a.1 < b.1) (hne : ∀ i, i < m → plc P i ≠ x) (hb : ∀ i, i < m → plc P i ≤ 1000) (hx : x ≤ 1000) (hm : m ≤ 64) :
    Calls Tryz.prog 153 #[.agg #[.int .i64 (x : Int), .slice C k dk], .slice R m d] w fun e w' => ∃ t, e = .returned (.int .i64 (t : Nat)) ∧ PlaceIn P x t ∧ Below w.heap.size w w' := by
  have SS := Lib.hid (fSearch_any R m d P x (w.alloc (.cells #[.int .i64 (x : Int), .slice C k dk] 136)) (hr.below (belowL_al _ _)) hinc hne hb hx hm)
  clear hr hinc hne hb
  go_enter Tryz.func153, Tryz.ntmps153
  go_wp2_with (go_at_call 185; (with_reducible refine SS.out.mono ?_); rintro e w5 ⟨t, rfl, hp, hb5⟩; have HP := Lib.hid hp; have HB := Lib.hid hb5; clear hp hb5)
  go_ret
  exact ⟨t, rfl, HP.out, (belowL_al _ _).trans (HB.out.mono (by simp))⟩
end Go.Proofs.YtnkhhndjbanmnaaGreatDoor

/- The rows that flin.echelon gathers, as they lie in memory: two cells a row, in a row of the call's own. -/
namespace Go.Proofs.YtnkhhndjbanmnaaGreatDoor
open Go.RowKit Go.Shelf

def ROw (w : World) (B nc : Nat) (v : Value) (vs : List Value) (P : List (Nat × List Int)) : Prop :=
  w.ownsRow B 136 2 v P.length vs ∧ (∀ u ∈ vs, u.oneCell' = true) ∧ ∀ i, i < P.length → vs.getD (i * 2) nilv = .int .i64 (plc P i : Int) ∧ ∃ C d, vs.getD (i * 2 + 1) nilv = .slice C nc d ∧ ISl w C nc d (prow P i) ∧ ApO C (prow P i) v.ownBlock
theorem ROw.nil (w : World) (B nc : Nat) : ROw w B nc (.slice none 0 0) [] [] := ⟨World.ownsRow_nil _ _ _ _, fun _ h => (List.not_mem_nil h).elim, fun _ h => absurd h (Nat.not_lt_zero _)⟩
theorem ownsRow_belowE {w w' : World} {B n : Nat} {T : TypeId} {k : Nat} {v : Value} {xs : List Value} (h : w.ownsRow B T k v n xs) (hb : Below w.heap.size w w') : w'.ownsRow B T k v n xs := by
  obtain ⟨hl, h2⟩ := h
  refine ⟨hl, ?_⟩
  rcases h2 with h2 | ⟨g, cap, cur, e, h3, hh, h4⟩
  · exact .inl h2
  · exact .inr ⟨g, cap, cur, e, h3, (hb.block g (Array.getElem?_eq_some_iff.1 hh).1).trans hh, h4⟩
theorem ROw.below {w w' : World} {B nc : Nat} {v : Value} {vs : List Value} {P : List (Nat × List Int)} (h : ROw w B nc v vs P) (hb : Below w.heap.size w w') : ROw w' B nc v vs P := by
  obtain ⟨h1, h2, h3⟩ := h
  refine ⟨ownsRow_belowE h1 hb, h2, fun i hi => ?_⟩
  obtain ⟨e0, C, d, e, k1, k2⟩ := h3 i hi
  exact ⟨e0, C, d, e, k1.below hb, k2⟩
theorem ROw.len {w : World} {B nc : Nat} {v : Value} {vs : List Value} {P : List (Nat × List Int)} (h : ROw w B nc v vs P) : vs.length = P.length * 2 := h.1.1
theorem getD_some {α : Type} {xs : List α} {i : Nat} {d : α} (h : i < xs.length) : xs[i]? = some (xs.getD i d) := by
  rw [List.getD_eq_getElem?_getD, List.getElem?_eq_getElem h]; rfl
theorem ROw.open_ {w : World} {B nc : Nat} {v : Value} {vs : List Value} {P : List (Nat × List Int)} (h : ROw w B nc v vs P) : ∃ A c, v = .slice A P.length c ∧ RowsAt w A P.length c P ∧
    (0 < P.length → ∃ b, A = some ⟨b, 0, none⟩ ∧ B ≤ b ∧ b < w.heap.size ∧ (∀ i, w.frozen? ⟨b, i, none⟩ = false) ∧ ∀ i, i < P.length → w.cell? ⟨b, i * 2, none⟩ = some (.int .i64 (plc P i : Int)) ∧ ∃ C d, w.cell? ⟨b, i * 2 + 1, none⟩ = some (.slice C nc d) ∧ ISl w C nc d (prow P i) ∧ ApO C (prow P i) (some b)) := by
  obtain ⟨⟨hl, h1⟩, _, h3⟩ := h
  rcases h1 with ⟨e, e0⟩ | ⟨g, cap, cur, e, hB, hh, hn, hc, hs, ht⟩
  · have hP : P = [] := List.eq_nil_of_length_eq_zero e0
    subst hP
    exact ⟨none, 0, e, RowsAt.nil _ _ _ (by decide), fun h => absurd h (by simp)⟩
  · subst e
    have hcell : ∀ j, j < P.length * 2 → w.cell? ⟨g, j, none⟩ = some (vs.getD j nilv) := fun j hj => by
      rw [cell_of_row w g j cur _ (0, 0) hh, ← Array.getElem?_toList]
      have h1 : (cur.toList.take (P.length * 2))[j]? = vs[j]? := by rw [ht]
      rw [List.getElem?_take_of_lt hj] at h1
      rw [h1]
      exact getD_some (by omega)
    have hlt : g < w.heap.size := (Array.getElem?_eq_some_iff.1 hh).1
    refine ⟨some ⟨g, 0, none⟩, cap, rfl, ⟨rfl, hn, by unfold maxLen at hc; omega, .inr ⟨g, 0, rfl, hlt, fun i hi => ?_⟩⟩, fun _ => ⟨g, rfl, hB, hlt, fun i => by simp [World.frozen?, hh], fun i hi => ?_⟩⟩
    · obtain ⟨k0, C, d, k1, k2, _⟩ := h3 i hi
      rw [Nat.zero_add]
      exact ⟨by rw [hcell _ (by omega), k0], C, nc, d, by rw [hcell _ (by omega), k1], k2⟩
    · obtain ⟨k0, C, d, k1, k2, k3⟩ := h3 i hi
      exact ⟨by rw [hcell _ (by omega), k0], C, d, by rw [hcell _ (by omega), k1], k2, k3⟩
theorem ROw.store {w : World} {B nc b n c : Nat} {vs : List Value} {P : List (Nat × List Int)} (h : ROw w B nc (.slice (some ⟨b, 0, none⟩) n c) vs P) (hn : n = P.length) {q : Nat} (hq : q < P.length) {C : Option Addr} {d : Nat} {L : List Int} (hL : ISl w C nc d L) (ha : ApO C L (some b)) :
    ROw (w.setCell ⟨b, q * 2 + 1, none⟩ (.slice C nc d)) B nc (.slice (some ⟨b, 0, none⟩) n c) (vs.set (q * 2 + 1) (.slice C nc d)) (P.set q (plc P q, L)) := by
  obtain ⟨h1, h2, h3⟩ := h
  have hvl := h1.1
  have h4 := h1
  rw [← hn] at h4
  obtain ⟨s1, s2⟩ := h4.stored (q * 2 + 1) (.slice C nc d)
  refine ⟨by rw [List.length_set, ← hn]; exact s1, fun u hu => ?_, fun i hi => ?_⟩
  · rcases List.mem_or_eq_of_mem_set hu with hu | rfl
    · exact h2 u hu
    · rfl
  rw [List.length_set] at hi
  obtain ⟨k0, C', d', k1, k2, k3⟩ := h3 i hi
  by_cases e : i = q
  · subst e
    have hpr : prow (P.set i (plc P i, L)) i = L := by
      unfold prow
      rw [List.getD_eq_getElem?_getD, List.getElem?_set_self hi]; rfl
    have hpl : plc (P.set i (plc P i, L)) i = plc P i := by
      conv => lhs; unfold plc
      rw [List.getD_eq_getElem?_getD, List.getElem?_set_self hi]; rfl
    rw [hpr, hpl]
    refine ⟨?_, C, d, ?_, hL.grownO s2 ha, ha⟩
    · rw [List.getD_eq_getElem?_getD, List.getElem?_set_ne (by omega), ← List.getD_eq_getElem?_getD]; exact k0
    · rw [List.getD_eq_getElem?_getD, List.getElem?_set_self (by omega)]; rfl
  · have hpr : prow (P.set q (plc P q, L)) i = prow P i := by
      unfold prow
      rw [List.getD_eq_getElem?_getD, List.getD_eq_getElem?_getD, List.getElem?_set_ne (by omega)]
    have hpl : plc (P.set q (plc P q, L)) i = plc P i := by
      conv => lhs; unfold plc
      rw [List.getD_eq_getElem?_getD, List.getElem?_set_ne (by omega), ← List.getD_eq_getElem?_getD]; rfl
    rw [hpr, hpl]
    refine ⟨?_, C', d', ?_, k2.grownO s2 k3, k3⟩
    · rw [List.getD_eq_getElem?_getD, List.getElem?_set_ne (by omega), ← List.getD_eq_getElem?_getD]; exact k0
    · rw [List.getD_eq_getElem?_getD, List.getElem?_set_ne (by omega), ← List.getD_eq_getElem?_getD]; exact k1
theorem ROw.ins {w w' : World} {B nc : Nat} {v v' : Value} {vs : List Value} {P : List (Nat × List Int)} {x t : Nat} {nw : List Int} {C : Option Addr} {d : Nat} (h : ROw w B nc v vs P) (ht : t ≤ P.length) (hn : ISl w C nc d nw) (ha : ApO C nw v.ownBlock)
    (k1 : w'.ownsRow B 136 2 v' (P.length + 1) (vs.take (t * 2) ++ [.int .i64 (x : Int), .slice C nc d] ++ vs.drop (t * 2))) (k2 : w.grownBy w' v.ownBlock) (k3 : v'.ownBlock = v.ownBlock ∨ v'.ownBlock = some w.heap.size) :
    ROw w' B nc v' (vs.take (t * 2) ++ [.int .i64 (x : Int), .slice C nc d] ++ vs.drop (t * 2)) (P.take t ++ (x, nw) :: P.drop t) := by
  obtain ⟨h1, h2, h3⟩ := h
  have hvl := h1.1
  have hpl : (P.take t ++ (x, nw) :: P.drop t).length = P.length + 1 := by
    rw [List.length_append, List.length_cons, List.length_take, List.length_drop]; omega
  have hlt : (vs.take (t * 2)).length = t * 2 := by rw [List.length_take]; omega
  refine ⟨by rw [hpl]; exact k1, fun u hu => ?_, fun i hi => ?_⟩
  · rw [List.append_assoc] at hu
    rcases List.mem_append.1 hu with hu | hu
    · exact h2 u (List.mem_of_mem_take hu)
    · rcases List.mem_append.1 hu with hu | hu
      · simp at hu; rcases hu with rfl | rfl <;> rfl
      · exact h2 u (List.mem_of_mem_drop hu)
  · rw [hpl] at hi
    have hg : ∀ j, (vs.take (t * 2) ++ [Value.int .i64 (x : Int), Value.slice C nc d] ++ vs.drop (t * 2)).getD j nilv = if j < t * 2 then vs.getD j nilv else if j = t * 2 then .int .i64 (x : Int) else if j = t * 2 + 1 then .slice C nc d else vs.getD (j - 2) nilv := fun j => by
      rw [List.append_assoc, List.getD_eq_getElem?_getD]
      by_cases c1 : j < t * 2
      · rw [if_pos c1, List.getElem?_append_left (by omega), List.getElem?_take, if_pos c1, List.getD_eq_getElem?_getD]
      · rw [if_neg c1, List.getElem?_append_right (by omega), hlt]
        by_cases c2 : j = t * 2
        · rw [if_pos c2, c2, Nat.sub_self]; rfl
        · rw [if_neg c2]
          by_cases c3 : j = t * 2 + 1
          · rw [if_pos c3, c3, show t * 2 + 1 - t * 2 = 1 by omega]; rfl
          · rw [if_neg c3, List.getElem?_append_right (by simp; omega), List.getElem?_drop, List.getD_eq_getElem?_getD]
            congr 2
            simp; omega
    have hpr : prow (P.take t ++ (x, nw) :: P.drop t) i = if i < t then prow P i else if i = t then nw else prow P (i - 1) := by
      unfold prow
      rw [getD_ins _ _ _ _ _ ht]
      by_cases e1 : i < t
      · rw [if_pos e1, if_pos e1]
      · rw [if_neg e1, if_neg e1]
        by_cases e2 : i = t
        · rw [if_pos e2, if_pos e2]
        · rw [if_neg e2, if_neg e2]
    have hpc : plc (P.take t ++ (x, nw) :: P.drop t) i = if i < t then plc P i else if i = t then x else plc P (i - 1) := by
      unfold plc
      rw [getD_ins _ _ _ _ _ ht]
      by_cases e1 : i < t
      · rw [if_pos e1, if_pos e1]
      · rw [if_neg e1, if_neg e1]
        by_cases e2 : i = t
        · rw [if_pos e2, if_pos e2]
        · rw [if_neg e2, if_neg e2]
    have hg0 := hg (i * 2)
    have hg1 := hg (i * 2 + 1)
    rw [hpr, hpc]
    by_cases e1 : i < t
    · rw [if_pos (show i * 2 < t * 2 by omega)] at hg0
      rw [if_pos (show i * 2 + 1 < t * 2 by omega)] at hg1
      rw [if_pos e1, if_pos e1, hg0, hg1]
      obtain ⟨k0, C', d', j1, j2, j3⟩ := h3 i (by omega)
      exact ⟨k0, C', d', j1, j2.grownO k2 j3, j2.apO j3 k3⟩
    · rw [if_neg (show ¬ i * 2 < t * 2 by omega)] at hg0
      rw [if_neg (show ¬ i * 2 + 1 < t * 2 by omega), if_neg (show ¬ i * 2 + 1 = t * 2 by omega)] at hg1
      rw [if_neg e1, if_neg e1]
      by_cases e2 : i = t
      · rw [if_pos (show i * 2 = t * 2 by omega)] at hg0
        rw [if_pos (show i * 2 + 1 = t * 2 + 1 by omega)] at hg1
        rw [if_pos e2, if_pos e2, hg0, hg1]
        exact ⟨rfl, C, d, rfl, hn.grownO k2 ha, hn.apO ha k3⟩
      · rw [if_neg (show ¬ i * 2 = t * 2 by omega), if_neg (show ¬ i * 2 = t * 2 + 1 by omega), show i * 2 - 2 = (i - 1) * 2 by omega] at hg0
        rw [if_neg (show ¬ i * 2 + 1 = t * 2 + 1 by omega), show i * 2 + 1 - 2 = (i - 1) * 2 + 1 by omega] at hg1
        rw [if_neg e2, if_neg e2, hg0, hg1]
        obtain ⟨k0, C', d', j1, j2, j3⟩ := h3 (i - 1) (by omega)
        exact ⟨k0, C', d', j1, j2.grownO k2 j3, j2.apO j3 k3⟩
theorem NRow.sl {w w' : World} {v : Value} {n : Nat} {L : List Int} (h : NRow w v n L w') (hn : n ≤ 1000) : ∃ g, v = .slice (some ⟨g, 0, none⟩) n n ∧ ISl w' (some ⟨g, 0, none⟩) n n L ∧ IBlk w' g L ∧ w.heap.size ≤ g ∧ g < w'.heap.size := by
  obtain ⟨g, e, hl, h1, h2, h3⟩ := h
  have := h1.sl (by omega)
  rw [← hl] at this
  exact ⟨g, e, this, h1, h2, h1.lt⟩
end Go.Proofs.YtnkhhndjbanmnaaGreatDoor

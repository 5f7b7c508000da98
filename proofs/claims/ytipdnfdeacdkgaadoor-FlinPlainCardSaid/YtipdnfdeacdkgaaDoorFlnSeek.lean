/- slices.IndexFunc and slices.BinarySearchFunc at flin's rows, and flin.placeOf, by their contracts. -/
import Derived.Test.YtipdnfdeacdkgaaDoorFlnLess
namespace Go.Proofs.YtipdnfdeacdkgaaDoor
open Go.RowKit Go.Shelf

set_option maxHeartbeats 400000 in
theorem fIsNot_any (x : Int) (w : World) : Calls Tryd.prog 32 #[.int .i64 x] w fun e w' => e = .returned (.bool (x != 0)) ∧ w = w' := by
  go_enter Tryd.func32, Tryd.ntmps32
  go_wp2_with fail
  go_ret
  exact ⟨rfl, rfl⟩

set_option maxHeartbeats 1000000 in
theorem fFirst_any (A : Option Addr) (n c : Nat) (xs : List Int) (w : World) (h : ISl w A n c xs) :
    Calls Tryd.prog 31 #[.slice A n c, .func (.func 32) #[] #[]] w fun e w' => e = .returned (.int .i64 (fsi xs)) ∧ w = w' := by
  have hcl := h.le
  have hcm := h.max
  have H := Lib.hid h
  have IS := Lib.hid (fun k (hk : IsFst xs k) => fsi_is hk)
  have NO := Lib.hid (@fsi_none xs)
  generalize fsi xs = r at *
  clear h
  go_enter Tryd.func31, Tryd.ntmps31
  go_wp2_with fail
  go_loop [8] (fun i => ∃ k : Nat, k ≤ n ∧ i = .int .i64 (k : Int) ∧ Hid (∀ j, j < k → cf xs j = 0)) (fun i => n - (intOf i).toNat)
  case atStart => exact ⟨0, Nat.zero_le _, rfl, Lib.hid (fun j hj => absurd hj (Nat.not_lt_zero _))⟩
  case round =>
    obtain ⟨k, hk, rfl, hz⟩ := hrel
    by_cases hlt : k < n
    · obtain ⟨b, o, rfl, hbl, hc⟩ := H.out.cfs (by omega)
      have hx := hc k hlt
      have hkl : k < xs.length := by rw [← H.out.len]; exact hlt
      have HKL := Lib.hid hkl
      have i1 : (0 : Int) ≤ (k : Int) := by omega
      have i2 : (k : Int) < (n : Int) := by omega
      by_cases h0 : cf xs k = 0
      · have H0 := Lib.hid h0
        rw [h0] at hx
        have CC := Lib.hid (fIsNot_any 0)
        clear hc h0 hkl
        go_wp2_with (go_at_call 32; (with_reducible refine (CC.out _).mono ?_); rintro e w' ⟨rfl, rfl⟩)
        go_round
        case rel => exact ⟨k + 1, by omega, by go_num, Lib.hid (fun j hj => by
          by_cases e : j = k
          · rw [e]; exact H0.out
          · exact hz.out j (by omega))⟩
        case measure => simp [intOf]; omega
      · have e := IS.out k ⟨hkl, h0, hz.out⟩
        subst e
        obtain ⟨y, hy⟩ : ∃ y, cf xs k = y := ⟨_, rfl⟩
        rw [hy] at hx h0
        have h0b : (y != 0) = true := by simpa using h0
        have CC := Lib.hid (fIsNot_any y)
        rw [h0b] at CC
        clear hc hy hkl NO IS h0b
        go_wp2_with (go_at_call 32; (with_reducible refine (CC.out _).mono ?_); rintro e w' ⟨rfl, rfl⟩)
        go_ret
        exact ⟨rfl, rfl⟩
    · obtain rfl : k = n := by omega
      have e := NO.out (fun j hj => hz.out j (by rw [H.out.len]; exact hj))
      subst e
      clear NO IS
      go_wp2_with fail
      go_ret
      exact ⟨rfl, rfl⟩

set_option maxHeartbeats 400000 in
theorem fCmp_any (a x : Nat) (C : Option Addr) (k d : Nat) (w : World) (ha : a ≤ 1000) (hx : x ≤ 1000) :
    Calls Tryd.prog 47 #[.agg #[.int .i64 (a : Int), .slice C k d], .int .i64 (x : Int)] w fun e w' => e = .returned (.int .i64 ((a : Int) - (x : Int))) ∧ Below w.heap.size w w' := by
  have m1 : IntKind.i64.wrap ((a : Int) - (x : Int)) = (a : Int) - (x : Int) := by rw [IntKind.wrap_i64]; omega
  go_enter Tryd.func47, Tryd.ntmps47
  go_wp2_with fail
  go_ret
  exact ⟨rfl, below_al _ _⟩

/-- Where the place x belongs. -/
def PlaceIn (P : List (Nat × List Int)) (x t : Nat) : Prop := t ≤ P.length ∧ (∀ i, i < t → plc P i < x) ∧ (∀ i, t ≤ i → i < P.length → x < plc P i)

set_option maxHeartbeats 4000000 in
theorem fSearch_any (R : Option Addr) (m d : Nat) (P : List (Nat × List Int)) (x : Nat) (w : World) (hr : RowsAt w R m d P) (hinc : P.Pairwise fun a b => a.1 < b.1) (hne : ∀ i, i < m → plc P i ≠ x) (hb : ∀ i, i < m → plc P i ≤ 1000) (hx : x ≤ 1000) (hm : m ≤ 64) :
    Calls Tryd.prog 46 #[.slice R m d, .int .i64 (x : Int), .func (.func 47) #[] #[]] w fun e w' => ∃ t, e = .returned (.tuple #[.int .i64 (t : Nat), .bool false]) ∧ PlaceIn P x t ∧ Below w.heap.size w w' := by
  have hrl := hr.le
  have hrm := hr.max
  have HR := Lib.hid hr
  have HML := Lib.hid hr.len
  have HNE := Lib.hid hne
  have HPB := Lib.hid hb
  have INC : Hid (∀ i j, i ≤ j → j < m → plc P i ≤ plc P j) := Lib.hid (fun i j hij hj => by
    rcases Nat.lt_or_eq_of_le hij with h | h
    · rw [plc_at (by rw [← HML.out]; omega), plc_at (by rw [← HML.out]; omega)]
      have := List.pairwise_iff_getElem.1 hinc i j (by rw [← HML.out]; omega) (by rw [← HML.out]; omega) h
      omega
    · rw [h]; exact Nat.le_refl _)
  clear hr hinc hne hb
  go_enter Tryd.func46, Tryd.ntmps46
  go_wp2_with fail
  go_loopw [9, 10] (fun i j wr => ∃ lo hi : Nat, i = .int .i64 (lo : Int) ∧ j = .int .i64 (hi : Int) ∧ lo ≤ hi ∧ hi ≤ m ∧ Hid ((∀ i, i < lo → plc P i < x) ∧ (∀ i, hi ≤ i → i < m → x < plc P i)) ∧ Below w.heap.size w wr) (fun i j _ => (intOf j).toNat - (intOf i).toNat)
  case atStart => exact ⟨0, m, rfl, rfl, Nat.zero_le _, Nat.le_refl _, Lib.hid ⟨fun i hi => absurd hi (Nat.not_lt_zero _), fun i h1 h2 => absurd h2 (by omega)⟩, Below.refl _ _⟩
  case round =>
    obtain ⟨lo, hi, rfl, rfl, hlh, hhm, hI, hbel⟩ := hrel
    by_cases hlt : lo < hi
    · obtain ⟨b6, o6, rfl, hb6, hcr⟩ := HR.out.open_ (by omega)
      obtain ⟨q, hq⟩ : ∃ q, (lo + hi) / 2 = q := ⟨_, rfl⟩
      have hqi : ((lo : Int) + (hi : Int)) / 2 = (q : Int) := by omega
      have hqn : q < m := by omega
      have hql : lo ≤ q := by omega
      have hqh : q < hi := by omega
      obtain ⟨hk1, C, k, dk, hk2, _⟩ := hcr q hqn
      rw [← hbel.cell (p := ⟨b6, o6 + q * 2, none⟩) hb6] at hk1
      rw [← hbel.cell (p := ⟨b6, o6 + q * 2 + 1, none⟩) hb6] at hk2
      have pb := HPB.out q hqn
      have pn := HNE.out q hqn
      have L1 := Lib.hid (fun (h : plc P q < x) => (show ∀ i, i < q + 1 → plc P i < x from fun i hi' => Nat.lt_of_le_of_lt (INC.out i q (by omega) hqn) h))
      have L2 := Lib.hid (fun (h : x < plc P q) => (show ∀ i, q ≤ i → i < m → x < plc P i from fun i h1 h2 => Nat.lt_of_lt_of_le h (INC.out q i h1 h2)))
      generalize plc P q = a at *
      have CC := Lib.hid (fun W => fCmp_any a x C k dk W pb hx)
      have HB := Lib.hid hbel
      have m1 : IntKind.i64.wrap ((lo : Int) + (hi : Int)) = (lo : Int) + (hi : Int) := by rw [IntKind.wrap_i64]; omega
      have i1 : (0 : Int) ≤ (q : Int) := by omega
      have i2 : (q : Int) < (m : Int) := by omega
      have HQ := Lib.hid hq
      by_cases hax : a < x
      · have c1 : ((a : Int) - (x : Int)) < 0 := by omega
        have HL := Lib.hid (L1.out hax)
        clear hcr hbel hq
        go_wp2_with (go_at_call 47; (with_reducible refine (CC.out _).mono ?_); rintro e w' ⟨rfl, hb'⟩)
        go_roundw
        case rel => exact ⟨q + 1, hi, by go_num, rfl, by omega, hhm, Lib.hid ⟨HL.out, hI.out.2⟩, HB.out.trans (hb'.mono HB.out.size)⟩
        case measure => simp [intOf]; omega
      · have c1 : ¬ ((a : Int) - (x : Int)) < 0 := by omega
        have HL := Lib.hid (L2.out (by omega))
        clear hcr hbel hq
        go_wp2_with (go_at_call 47; (with_reducible refine (CC.out _).mono ?_); rintro e w' ⟨rfl, hb'⟩)
        go_roundw
        case rel => exact ⟨lo, q, rfl, rfl, by omega, by omega, Lib.hid ⟨hI.out.1, HL.out⟩, HB.out.trans (hb'.mono HB.out.size)⟩
        case measure => simp [intOf]; omega
    · obtain rfl : hi = lo := by omega
      have HP : Hid (PlaceIn P x hi) := Lib.hid ⟨by rw [← HML.out]; exact hhm, hI.out.1, fun i h1 h2 => hI.out.2 i h1 (by rw [HML.out]; exact h2)⟩
      by_cases hm : hi < m
      · obtain ⟨b6, o6, rfl, hb6, hcr⟩ := HR.out.open_ (by omega)
        obtain ⟨hk1, C, k, dk, hk2, _⟩ := hcr hi hm
        rw [← hbel.cell (p := ⟨b6, o6 + hi * 2, none⟩) hb6] at hk1
        rw [← hbel.cell (p := ⟨b6, o6 + hi * 2 + 1, none⟩) hb6] at hk2
        have pb := HPB.out hi hm
        have pn := HNE.out hi hm
        generalize plc P hi = a at *
        have CC := Lib.hid (fun W => fCmp_any a x C k dk W pb hx)
        have HB := Lib.hid hbel
        have c1 : (((a : Int) - (x : Int)) == 0) = false := by simp; omega
        have i1 : (0 : Int) ≤ (hi : Int) := by omega
        have i2 : (hi : Int) < (m : Int) := by omega
        clear hcr hbel
        go_wp2_with (go_at_call 47; (with_reducible refine (CC.out _).mono ?_); rintro e w' ⟨rfl, hb'⟩)
        go_ret2
        exact ⟨hi, rfl, HP.out, HB.out.trans (hb'.mono HB.out.size)⟩
      · have c1 : ¬ (hi : Int) < (m : Int) := by omega
        go_wp2_with fail
        go_ret2
        exact ⟨hi, rfl, HP.out, hbel⟩

set_option maxHeartbeats 1000000 in
theorem fPlace_any (R : Option Addr) (m d : Nat) (P : List (Nat × List Int)) (x : Nat) (C : Option Addr) (k dk : Nat) (w : World) (hr : RowsAt w R m d P) (hinc : P.Pairwise fun a b => a.1 < b.1) (hne : ∀ i, i < m → plc P i ≠ x) (hb : ∀ i, i < m → plc P i ≤ 1000) (hx : x ≤ 1000) (hm : m ≤ 64) :
    Calls Tryd.prog 35 #[.agg #[.int .i64 (x : Int), .slice C k dk], .slice R m d] w fun e w' => ∃ t, e = .returned (.int .i64 (t : Nat)) ∧ PlaceIn P x t ∧ Below w.heap.size w w' := by
  have SS := Lib.hid (fSearch_any R m d P x (w.alloc (.cells #[.int .i64 (x : Int), .slice C k dk] 41)) (hr.below (below_al _ _)) hinc hne hb hx hm)
  clear hr hinc hne hb
  go_enter Tryd.func35, Tryd.ntmps35
  go_wp2_with (go_at_call 46; (with_reducible refine SS.out.mono ?_); rintro e w5 ⟨t, rfl, hp, hb5⟩; have HP := Lib.hid hp; have HB := Lib.hid hb5; clear hp hb5)
  go_ret
  exact ⟨t, rfl, HP.out, (below_al _ _).trans (HB.out.mono (by simp))⟩
end Go.Proofs.YtipdnfdeacdkgaaDoor

/- cleaverref07.Same, by its contract: are two matrices the same? -/
import Derived.Test.YtipdnfdeacdkgaaDoorLinMat
import Derived.StillTailTactics
namespace Go.Proofs.YtipdnfdeacdkgaaDoor
open Go.RowKit

def meqB (M N : List (List Int)) : Bool := decide (M = N)
theorem meqB_self (M : List (List Int)) : meqB M M = true := by simp [meqB]
theorem meqB_yes {M N : List (List Int)} (h : M = N) : meqB M N = true := by simp [meqB, h]
theorem meqB_no {M N : List (List Int)} (h : M ≠ N) : meqB M N = false := by simp [meqB, h]
theorem mat_ext {M N : List (List Int)} (hl : M.length = N.length) (h : ∀ i, i < M.length → M.getD i [] = N.getD i []) : M = N := by
  refine List.ext_getElem hl fun i h1 h2 => ?_
  have := h i h1
  rw [List.getD_eq_getElem?_getD, List.getD_eq_getElem?_getD, List.getElem?_eq_getElem h1, List.getElem?_eq_getElem h2] at this
  exact this
theorem row_ext {a b : List Int} (hl : a.length = b.length) (h : ∀ i, i < a.length → cf a i = cf b i) : a = b := by
  refine List.ext_getElem hl fun i h1 h2 => ?_
  have := h i h1
  rw [cf_at h1, cf_at h2] at this
  exact this

set_option maxHeartbeats 4000000 in
theorem msame_any (A : Option Addr) (n c : Nat) (M : List (List Int)) (B : Option Addr) (m d : Nat) (N : List (List Int)) (w : World) (h : MatAt w A n c M) (h' : MatAt w B m d N) :
    Calls Tryd.prog 12 #[.slice A n c, .slice B m d] w fun e w' => e = .returned (.bool (meqB M N)) ∧ Below w.heap.size w w' := by
  have hcl := h.le
  have hcm := h.max
  have hcl' := h'.le
  have hcm' := h'.max
  have hl := h.len
  have hl' := h'.len
  have YES := Lib.hid (fun (e : n = m) (hr : ∀ i, i < n → M.getD i [] = N.getD i []) => meqB_yes (mat_ext (by rw [← hl, ← hl']; exact e) (fun i hi => hr i (by rw [hl]; exact hi))))
  have NO1 := Lib.hid (fun (e : n ≠ m) => meqB_no (M := M) (N := N) (fun k => e (by rw [hl, hl', k])))
  have NO := Lib.hid (fun i (hr : M.getD i [] ≠ N.getD i []) => meqB_no (M := M) (N := N) (fun k => hr (by rw [k])))
  generalize meqB M N = r at *
  have H := Lib.hid h
  have H' := Lib.hid h'
  clear h h' hl hl'
  by_cases hnm : n = m
  · subst hnm
    go_enter Tryd.func12, Tryd.ntmps12
    go_wp2_with fail
    go_loopw [5] (fun i wr => ∃ k : Nat, k ≤ n ∧ i = .int .i64 (k : Int) ∧ Hid (∀ j, j < k → M.getD j [] = N.getD j []) ∧ Below w.heap.size w wr) (fun i _ => n - (intOf i).toNat)
    case atStart => exact ⟨0, Nat.zero_le _, rfl, Lib.hid (fun j hj => absurd hj (Nat.not_lt_zero _)), Below.refl _ _⟩
    case round =>
      obtain ⟨k, hk, rfl, hz, hbel⟩ := hrel
      by_cases hlt : k < n
      · obtain ⟨b, o, rfl, hbl, hc⟩ := H.out.open_ (by omega)
        obtain ⟨b', o', rfl, hbl', hc'⟩ := H'.out.open_ (by omega)
        obtain ⟨C1, k1, d1, hc1, hi1⟩ := hc k hlt
        obtain ⟨C2, k2, d2, hc2, hi2⟩ := hc' k hlt
        have hw1 := hc1
        have hw2 := hc2
        rw [← hbel.cell (p := ⟨b, o + k, none⟩) hbl] at hc1
        rw [← hbel.cell (p := ⟨b', o' + k, none⟩) hbl'] at hc2
        have NOK := NO.out k
        have HZ1 := Lib.hid (fun (e : M.getD k [] = N.getD k []) => (show ∀ j, j < k + 1 → M.getD j [] = N.getD j [] from fun j hj => by
          by_cases e2 : j = k
          · rw [e2]; exact e
          · exact hz.out j (by omega)))
        obtain ⟨a, ha⟩ : ∃ a, M.getD k [] = a := ⟨_, rfl⟩
        obtain ⟨g, hg⟩ : ∃ g, N.getD k [] = g := ⟨_, rfl⟩
        rw [ha] at hi1 NOK HZ1
        rw [hg] at hi2 NOK HZ1
        have HL1 := Lib.hid hi1.len
        have HL2 := Lib.hid hi2.len
        have hm1 := Nat.le_trans hi1.le hi1.max
        have hm2 := Nat.le_trans hi2.le hi2.max
        have HB := Lib.hid hbel
        have HI1 := Lib.hid hi1
        have HI2 := Lib.hid hi2
        have HNO := Lib.hid NOK
        have i1 : (0 : Int) ≤ (k : Int) := by omega
        have i2 : (k : Int) < (n : Int) := by omega
        have HW1 := Lib.hid hw1
        have HW2 := Lib.hid hw2
        clear hc hc' hi1 hi2 hbel ha hg NOK hw1 hw2
        by_cases he : k1 = k2
        · subst he
          go_wp2_with fail
          go_quiet (fail)
          go_wp2_with fail
          go_loopw [6] (fun i wq => ∃ t : Nat, t ≤ k1 ∧ i = .int .i64 (t : Int) ∧ Hid (∀ j, j < t → cf a j = cf g j) ∧ Below w.heap.size w wq) (fun i _ => k1 - (intOf i).toNat)
          case atStart => exact ⟨0, Nat.zero_le _, rfl, Lib.hid (fun j hj => absurd hj (Nat.not_lt_zero _)), ibelow_drewN HB.out _⟩
          case round =>
            clear hc1 hc2
            obtain ⟨t, ht, rfl, hall, hbel⟩ := hrel
            have hc1 := HW1.out
            have hc2 := HW2.out
            rw [← hbel.cell (p := ⟨b, o + k, none⟩) hbl] at hc1
            rw [← hbel.cell (p := ⟨b', o' + k, none⟩) hbl'] at hc2
            by_cases htl : t < k1
            · obtain ⟨b1, o1, rfl, hb1, he1⟩ := HI1.out.cfs (by omega)
              obtain ⟨b2, o2, rfl, hb2, he2⟩ := HI2.out.cfs (by omega)
              have hx := he1 t htl
              have hy := he2 t htl
              rw [← hbel.cell (p := ⟨b1, o1 + t, none⟩) hb1] at hx
              rw [← hbel.cell (p := ⟨b2, o2 + t, none⟩) hb2] at hy
              have DIF := Lib.hid (fun (e : cf a t ≠ cf g t) => HNO.out (fun k => e (by rw [k])))
              have ALL := Lib.hid (fun (e : cf a t = cf g t) => (show ∀ j, j < t + 1 → cf a j = cf g j from fun j hj => by
                by_cases e2 : j = t
                · rw [e2]; exact e
                · exact hall.out j (by omega)))
              generalize cf a t = x at *
              generalize cf g t = y at *
              have HBQ := Lib.hid hbel
              have i3 : (0 : Int) ≤ (t : Int) := by omega
              have i4 : (t : Int) < (k1 : Int) := by omega
              clear he1 he2 hbel
              by_cases hxy : x = y
              · subst hxy
                have HA := Lib.hid (ALL.out rfl)
                go_wp2_with fail
                go_quiet (fail)
                go_wp2_with fail
                go_roundw
                case rel => exact ⟨t + 1, by omega, by go_num, HA, ibelow_drewN HBQ.out _⟩
                case measure => simp [intOf]; omega
              · have e := DIF.out hxy
                subst e
                have hne : (x != y) = true := by simpa using hxy
                clear hxy
                go_wp2_with fail
                go_quiet (fail)
                go_wp2_with fail
                go_ret
                exact ⟨rfl, ibelow_drewN HBQ.out _⟩
            · obtain rfl : t = k1 := by omega
              have HK := Lib.hid (HZ1.out (row_ext (by rw [← HL1.out, ← HL2.out]) (fun i hi => hall.out i (by rw [HL1.out]; exact hi))))
              have HBQ := Lib.hid hbel
              clear hbel
              go_wp2_with fail
              go_roundw
              case rel => exact ⟨k + 1, by omega, by go_num, HK, HBQ.out⟩
              case measure => simp [intOf]; omega
        · have e := HNO.out (fun k => he (by rw [HL1.out, HL2.out, k]))
          subst e
          have hne : ((k1 : Int) != (k2 : Int)) = true := by simp; omega
          clear he
          go_wp2_with fail
          go_quiet (fail)
          go_wp2_with fail
          go_ret
          exact ⟨rfl, ibelow_drewN HB.out _⟩
      · obtain rfl : k = n := by omega
        have e := YES.out (by trivial) hz.out
        subst e
        go_wp2_with fail
        go_ret
        exact ⟨rfl, hbel⟩
  · have e := NO1.out hnm
    subst e
    have hne : ((n : Int) != (m : Int)) = true := by simp; omega
    clear hnm
    go_enter Tryd.func12, Tryd.ntmps12
    go_wp2_with fail
    go_ret
    exact ⟨rfl, Below.refl _ _⟩
end Go.Proofs.YtipdnfdeacdkgaaDoor

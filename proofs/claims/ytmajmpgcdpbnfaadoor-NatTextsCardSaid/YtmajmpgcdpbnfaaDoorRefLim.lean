/- cleaverref01.limbs, by its contract. Conditions: what it is handed are digits in base 2^32. -/
import Derived.Test.YtmajmpgcdpbnfaaDoorRefDig
namespace Go.Proofs.YtmajmpgcdpbnfaaDoor
open Go.RowKit

set_option maxHeartbeats 2000000 in
theorem limbs_any (A : Option Addr) (n c : Nat) (ds : List Nat) (w : World) (h : Sl w A n c ds) (hf : Fit32 ds) (hmax : n ≤ 8796093022208) :
    Calls Tryd.prog 13 #[.slice A n c] w fun e w' =>
      ∃ B m d, e = .returned (.slice B m d) ∧ Sl w' B m d (nrm (val32 ds)) ∧ Below w.heap.size w w' := by
  have H := Lib.hid h
  have hle := h.le
  have hcm := h.max
  have HF := Lib.hid hf
  clear h hf
  go_enter Tryd.func13, Tryd.ntmps13
  go_wp2_with fail
  go_loopw [4, 3] (fun i v wr => ∃ k : Nat, 2 * k ≤ n + 1 ∧ i = .int .i64 ((2 * k : Nat) : Int) ∧ Ow wr w.heap.size v (pair64 (ds.take (2 * k))) ∧ Below w.heap.size w wr) (fun i _ _ => n + 2 - (intOf i).toNat)
  case atStart => exact ⟨0, by omega, rfl, Ow.nil _ _, Below.refl _ _⟩
  case round =>
    obtain ⟨k, hk, rfl, hown, hbel⟩ := hrel
    have hln : (pair64 (ds.take (2 * k))).length ≤ n := by rw [pair64_length, List.length_take, ← H.out.len]; omega
    by_cases hlt : 2 * k < n
    · obtain ⟨b, o, rfl, hbl, hc⟩ := H.out.at_ (by omega)
      have hx := hc (2 * k) hlt
      rw [← hbel.cell (p := ⟨b, o + 2 * k, none⟩) hbl] at hx
      have hxf := fit32_getD HF.out (2 * k)
      have hkx : 2 * k < ds.length := by rw [← H.out.len]; exact hlt
      have hxg : ds.getD (2 * k) 0 = ds[2 * k] := by rw [List.getD_eq_getElem?_getD, List.getElem?_eq_getElem hkx]; rfl
      have hsz := hbel.size
      obtain ⟨i, hi⟩ : ∃ i, i = 2 * k := ⟨_, rfl⟩
      have i1 : (0 : Int) ≤ (i : Int) := by omega
      have i2 : (i : Int) < (n : Int) := by omega
      by_cases hlt2 : 2 * k + 1 < n
      · have hy := hc (2 * k + 1) hlt2
        rw [← hbel.cell (p := ⟨b, o + (2 * k + 1), none⟩) hbl] at hy
        have hyf := fit32_getD HF.out (2 * k + 1)
        have hky : 2 * k + 1 < ds.length := by rw [← H.out.len]; exact hlt2
        have hyg : ds.getD (2 * k + 1) 0 = ds[2 * k + 1] := by rw [List.getD_eq_getElem?_getD, List.getElem?_eq_getElem hky]; rfl
        have hsn := pair64_snoc ds k hky
        rw [← hxg, ← hyg] at hsn
        generalize ds.getD (2 * k) 0 = x at *
        generalize ds.getD (2 * k + 1) 0 = y at *
        have HSN := Lib.hid hsn
        have HO := Lib.hid hown
        have HB := Lib.hid hbel
        clear hc hxg hyg hsn hown hbel hkx hky
        rw [← hi] at hx hy
        rw [← hi]
        have i3 : (i : Int) + 1 < (n : Int) := by omega
        have hN := (blk_list wr [x + y * 4294967296] (fit_cons (by omega) fit_nil)).sl (by simp)
        have HN := Lib.hid hN
        have HI := Lib.hid hi
        clear hN hi
        go_wp2_with (at_builtin; refine wpList_app _ rfl (.tmp 29) (.tmp 31) rfl w.heap.size _ _ rfl (HO.out.alloc _) (some ⟨wr.heap.size, 0, none⟩) 1 1 rfl [x + y * 4294967296] HN.out (by omega) (by simp; omega) ?_; intro v1 w1 ho1 hb1)
        rw [← HSN.out] at ho1
        have hb2 : Below w.heap.size w w1 := (HB.out.alloc hsz _).trans hb1
        have hi := HI.out
        clear hb1
        go_roundw
        case rel => exact ⟨k + 1, by omega, by go_num, by rw [show 2 * (k + 1) = 2 * k + 2 by omega]; exact ho1, hb2⟩
        case measure => simp [intOf]; omega
      · have hsn := pair64_snoc1 ds k (by rw [← H.out.len]; omega)
        rw [← hxg] at hsn
        generalize ds.getD (2 * k) 0 = x at *
        have hall : ds.take (2 * k + 1) = ds.take (2 * (k + 1)) := by rw [List.take_of_length_le (by rw [← H.out.len]; omega), List.take_of_length_le (by rw [← H.out.len]; omega)]
        rw [hall] at hsn
        have HSN := Lib.hid hsn
        have HO := Lib.hid hown
        have HB := Lib.hid hbel
        clear hc hxg hsn hown hbel hkx hall
        rw [← hi] at hx
        rw [← hi]
        have i3 : ¬ (i : Int) + 1 < (n : Int) := by omega
        have hN := (blk_list wr [x] (fit_cons (by omega) fit_nil)).sl (by simp)
        have HN := Lib.hid hN
        have HI := Lib.hid hi
        clear hN hi
        go_wp2_with (at_builtin; refine wpList_app _ rfl (.tmp 29) (.tmp 31) rfl w.heap.size _ _ rfl (HO.out.alloc _) (some ⟨wr.heap.size, 0, none⟩) 1 1 rfl [x] HN.out (by omega) (by simp; omega) ?_; intro v1 w1 ho1 hb1)
        rw [← HSN.out] at ho1
        have hb2 : Below w.heap.size w w1 := (HB.out.alloc hsz _).trans hb1
        have hi := HI.out
        clear hb1
        go_roundw
        case rel => exact ⟨k + 1, by omega, by go_num, ho1, hb2⟩
        case measure => simp [intOf]; omega
    · obtain ⟨A', d, rfl, hs, _⟩ := hown.sl
      rw [List.take_of_length_le (by rw [← H.out.len]; omega)] at hs hln ⊢
      obtain ⟨m, hm⟩ : ∃ m, m = (pair64 ds).length := ⟨_, rfl⟩
      obtain ⟨i, hi⟩ : ∃ i, i = 2 * k := ⟨_, rfl⟩
      rw [← hm] at hs hln ⊢
      rw [← hi]
      have i2 : ¬ (i : Int) < (n : Int) := by omega
      have T := refNorm_any A' m d _ wr hs (by omega)
      rw [val_pair64] at T
      have TT := Lib.hid T
      clear T hs hm hown hi
      go_wp2_with (go_at_call 22; refine TT.out.mono ?_; rintro e w2 ⟨v2, rfl, ho2, hb2⟩)
      go_ret
      obtain ⟨A2, d2, rfl, hs2, _⟩ := ho2.sl
      exact ⟨A2, _, d2, rfl, hs2, hbel.trans (hb2.mono hbel.size)⟩
end Go.Proofs.YtmajmpgcdpbnfaaDoor

/- flin.Apply, by its contract. -/
import Derived.Test.YtipdnfdeacdkgaaDoorFlnApp
namespace Go.Proofs.YtipdnfdeacdkgaaDoor
open Go.RowKit Go.Shelf

theorem appL_take (p : Int) (M : List (List Int)) (v : List Int) (n k : Nat) (hk : k < M.length) : cf (appL p M v n) k = dot (cf (M.getD k [])) (cf v) n % p := by
  rw [cf_at (by rw [appL_len]; exact hk)]
  simp only [appL, List.getElem_map]
  rw [List.getD_eq_getElem?_getD, List.getElem?_eq_getElem hk]; rfl
theorem codeB_yes : codeB true = 0 := rfl
theorem codeB_no : codeB false = 1 := rfl

set_option maxHeartbeats 4000000 in
theorem fApply_any (A : Option Addr) (n c : Nat) (M : List (List Int)) (B : Option Addr) (m d : Nat) (v : List Int) (p : Int) (w : World) (hT : TabAt w) (h : MatAt w A n c M) (hv : ISl w B m d v) (ip : In64 p) :
    Calls Tryd.prog 15 #[.slice A n c, .slice B m d, .int .i64 p] w fun e w' => ListOut w (appV p M v) (codeP (AppOk p M v)) e w' := by
  have hcl := h.le
  have hcm := h.max
  have hcl' := hv.le
  have hcm' := hv.max
  have hnl := h.len
  have hml := hv.len
  have C := fCheck_any A n c M p w hT h ip
  rcases Classical.em (Right p M) with hr | hr
  · rw [rightB_yes hr, codeB_yes] at C
    have hn64 : n ≤ 64 := by rw [hnl]; exact hr.2.1
    rcases Classical.em (AppOk p M v) with ho | ho
    · have e1 : codeP (AppOk p M v) = 0 := codeP_yes ho
      have e2 : appV p M v = appL p M v m := by unfold appV; rw [ansB_yes ho, hml]
      rw [e1, e2]
      have hlen : ∀ k, k < n → (M.getD k []).length = m := fun k hk => by
        rw [hr.len (by rw [← hnl]; exact hk), ho.2 (by omega), hml]
      have hm64 : 0 < n → m ≤ 64 := fun h0 => by rw [← hlen 0 h0, hr.len (by rw [← hnl]; exact h0)]; exact hr.cols
      have H := Lib.hid h
      have HV := Lib.hid hv
      have MD := Lib.hid hr.1.md
      have HLN := Lib.hid hlen
      have HNL := Lib.hid hnl
      have hp1 := hr.1.md.1
      have DOT := Lib.hid (fun (W : World) (hb : Below w.heap.size w W) (k : Nat) (hk : k < n) (C : Option Addr) (k1 d1 : Nat) (hs : ISl W C k1 d1 (M.getD k [])) => fDot_any C B k1 d1 m d (M.getD k []) v p W hs (hv.below hb) MD.out (by rw [hs.len, hlen k hk]) (by rw [hs.len, hlen k hk]; have := hm64 (by omega); omega))
      have AT := Lib.hid (fun k (hk : k < n) => appL_take p M v m k (by rw [← hnl]; exact hk))
      have HAL := Lib.hid (show (appL p M v m).length = n by rw [appL_len, hnl])
      have HRS := Lib.hid (appL_rs hr.1.1 M v m)
      have CC := Lib.hid C
      generalize appL p M v m = R at *
      clear h hv hnl hml C ho e1 e2 hlen hr hT ip
      by_cases hn0 : 0 < n
      · obtain ⟨b, o, rfl, hbl, hc⟩ := H.out.open_ hn0
        obtain ⟨C0, k0, d0, hc0, hi0⟩ := hc 0 hn0
        have hk0 : k0 = m := by rw [hi0.len]; exact HLN.out 0 hn0
        subst hk0
        rw [Nat.add_zero] at hc0
        have hbl0 := hbl
        have HC := Lib.hid hc
        have CC2 := Lib.hid (fun W (hb : Below w.heap.size w W) => (hb.cell (p := ⟨b, o, none⟩) hbl).trans hc0)
        have i1 : (0 : Int) < (n : Int) := by omega
        clear hc hi0 hc0
        go_enter Tryd.func15, Tryd.ntmps15
        go_wp2_with (first
          | (go_at_call 18; (with_reducible refine CC.out.mono ?_); rintro e w1 ⟨rfl, hb1⟩; have HB1 := Lib.hid hb1; have hc1 := CC2.out w1 hb1; clear hb1)
          | (at_make; refine wpList_make_ints _ rfl _ _ rfl _ _ _ _ n rfl rfl rfl rfl (by omega) ?_; intro w3 hk3 hb3; have HK3 := Lib.hid hk3; have HB3 := Lib.hid hb3; clear hk3 hb3))
        go_loopw [35] (fun i wr => ∃ k : Nat, k ≤ n ∧ i = .int .i64 (k : Int) ∧ ∃ L, Hid (IBlk wr w1.heap.size L) ∧ Hid (L.length = n ∧ ∀ j, j < k → cf L j = cf R j) ∧ Hid (Below w1.heap.size w1 wr)) (fun i _ => n - (intOf i).toNat)
        case atStart => exact ⟨0, Nat.zero_le _, rfl, _, HK3, Lib.hid ⟨by simp, fun j hj => absurd hj (Nat.not_lt_zero _)⟩, HB3⟩
        case round =>
          clear HK3 HB3 hc1
          obtain ⟨k, hk, rfl, L, hL, hI, hbel⟩ := hrel
          by_cases hlt : k < n
          · have hbw : Below w.heap.size w wr := HB1.out.trans (hbel.out.mono HB1.out.size)
            obtain ⟨C1, k1, d1, hc1, hi1⟩ := HC.out k hlt
            have D := DOT.out wr hbw k hlt C1 k1 d1 (hi1.below hbw)
            have hk1 : k1 = k0 := by rw [hi1.len]; exact HLN.out k hlt
            subst hk1
            rw [← AT.out k hlt] at D
            rw [← hbw.cell (p := ⟨b, o + k, none⟩) hbl] at hc1
            have hz := HRS.out.at hp1 k
            obtain ⟨z, hzz⟩ : ∃ z, cf R k = z := ⟨_, rfl⟩
            rw [hzz] at D hz
            have HZ := Lib.hid hzz
            have HD := Lib.hid D
            have i2 : (0 : Int) ≤ (k : Int) := by omega
            have i3 : (k : Int) < (n : Int) := by omega
            have gb := Nat.lt_of_lt_of_le hbl hbw.size
            have hle1 := hi1.le
            have hmx1 := hi1.max
            have hmd := MD.out.2
            clear D hzz hi1 hbw
            go_wp2_with (go_at_call 26; (with_reducible refine HD.out.mono ?_); rintro e w5 ⟨rfl, hb5⟩; have hL5 := hL.out.below hb5; have HL5 := Lib.hid hL5; have hc5 := hL5.cellD k (by rw [hI.out.1]; exact hlt); have hf5 := hL5.frozen k; have HB5 := Lib.hid (hbel.out.trans (hb5.mono hbel.out.size)); clear hb5 hL5)
            go_roundw
            case rel => exact ⟨k + 1, by omega, by go_num, L.set k z, Lib.hid (HL5.out.set_ k z (by unfold In64; omega)), Lib.hid ⟨by rw [List.length_set]; exact hI.out.1, fun j hj => by
              rw [cf_set _ _ (by rw [hI.out.1]; exact hlt)]
              by_cases e : j = k
              · rw [if_pos e, e, HZ.out]
              · rw [if_neg e]; exact hI.out.2 j (by omega)⟩, Lib.hid (HB5.out.setCell (p := ⟨w1.heap.size, k, none⟩) (Nat.le_refl _) _)⟩
            case measure => simp [intOf]; omega
          · obtain rfl : k = n := by omega
            have e : L = R := cf_ext (by rw [hI.out.1, HAL.out]) fun j => by
              by_cases hj : j < k
              · exact hI.out.2 j hj
              · rw [cf_over (by rw [hI.out.1]; omega), cf_over (by rw [HAL.out]; omega)]
            subst e
            have hs := hL.out.sl (by rw [HAL.out]; omega)
            rw [HAL.out] at hs
            have HS := Lib.hid hs
            clear hs
            go_wp2_with fail
            go_ret2
            exact ⟨_, _, _, rfl, HS.out, HB1.out.trans (hbel.out.mono HB1.out.size)⟩
      · obtain rfl : n = 0 := by omega
        have hR : R = [] := List.eq_nil_of_length_eq_zero HAL.out
        subst hR
        go_enter Tryd.func15, Tryd.ntmps15
        go_wp2_with (first
          | (go_at_call 18; (with_reducible refine CC.out.mono ?_); rintro e w1 ⟨rfl, hb1⟩; have HB1 := Lib.hid hb1; clear hb1)
          | (at_make; refine wpList_make_ints _ rfl _ _ rfl _ _ _ _ 0 rfl rfl rfl rfl (by omega) ?_; intro w3 hk3 hb3; have HK3 := Lib.hid hk3; have HB3 := Lib.hid hb3; clear hk3 hb3))
        go_loopw [35] (fun i wr => i = .int .i64 0 ∧ wr = w3) (fun i _ => 0)
        case atStart => exact ⟨rfl, rfl⟩
        case round =>
          obtain ⟨rfl, rfl⟩ := hrel
          go_wp2_with fail
          go_ret2
          exact ⟨_, _, _, rfl, by have := HK3.out.sl (by simp); simpa using this, HB1.out.trans (HB3.out.mono HB1.out.size)⟩
    · have e1 : codeP (AppOk p M v) = 1 := codeP_no ho
      have e2 : appV p M v = [] := by unfold appV; rw [ansB_no ho]
      rw [e1, e2]
      have hn0 : 0 < n := Classical.byContradiction fun hn => ho ⟨hr, fun hM => absurd hM (by omega)⟩
      have hne : cols M ≠ m := fun e => ho ⟨hr, fun _ => by rw [e, hml]⟩
      obtain ⟨b, o, rfl, hbl, hc⟩ := h.open_ hn0
      obtain ⟨C0, k0, d0, hc0, hi0⟩ := hc 0 hn0
      have hk0 : k0 ≠ m := by rw [hi0.len]; exact hne
      rw [Nat.add_zero] at hc0
      have CC2 := Lib.hid (fun W (hb : Below w.heap.size w W) => (hb.cell (p := ⟨b, o, none⟩) hbl).trans hc0)
      have i1 : (0 : Int) < (n : Int) := by omega
      have i2 : ((k0 : Int) != (m : Int)) = true := by simp; omega
      have hm0 := Nat.le_trans hi0.le hi0.max
      have CC := Lib.hid C
      clear hc hi0 hc0 C h hv hT ip hr ho hne hk0 e1 e2 hnl hml
      go_enter Tryd.func15, Tryd.ntmps15
      go_wp2_with (go_at_call 18; (with_reducible refine CC.out.mono ?_); rintro e w1 ⟨rfl, hb1⟩; have HB1 := Lib.hid hb1; have hc1 := CC2.out w1 hb1; clear hb1)
      go_ret2
      exact ⟨_, _, _, rfl, isl_nil _, HB1.out⟩
  · rw [rightB_no hr, codeB_no] at C
    have e1 : codeP (AppOk p M v) = 1 := codeP_no fun k => hr k.1
    have e2 : appV p M v = [] := by unfold appV; rw [ansB_no fun k => hr k.1]
    rw [e1, e2]
    have CC := Lib.hid C
    clear C h hv hT ip hr e1 e2 hnl hml
    go_enter Tryd.func15, Tryd.ntmps15
    go_wp2_with (go_at_call 18; (with_reducible refine CC.out.mono ?_); rintro e w1 ⟨rfl, hb1⟩; have HB1 := Lib.hid hb1; clear hb1)
    go_ret2
    exact ⟨_, _, _, rfl, isl_nil _, HB1.out⟩
end Go.Proofs.YtipdnfdeacdkgaaDoor

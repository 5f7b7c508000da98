/- cleaverref07.Apply, by its contract. -/
import Derived.Test.YtipdnfdeacdkgaaDoorLinAns
import Derived.Test.YtipdnfdeacdkgaaDoorRefFp
import Derived.BigQuiet
import Derived.StillTailTactics
namespace Go.Proofs.YtipdnfdeacdkgaaDoor
open Go.RowKit

theorem quietA {P : Program} {f : FuncId} {args : Array Value} {w : World} {n : Nat} {v : Value} (h : Calls P f args (w.drewN n) fun e w' => e = .returned v ∧ w.drewN n = w') :
    Calls P f args (w.drewN n) fun e w'' => e = .returned v ∧ ∃ m, w'' = w.drewN m := h.mono fun _ _ ⟨he, hw⟩ => ⟨he, n, hw.symm⟩
theorem appL_cf (p : Int) (M : List (List Int)) (v : List Int) (n k : Nat) (hk : k < M.length) : cf (appL p M v n) k = dot (cf (M.getD k [])) (cf v) n % p := by
  rw [cf_at (by rw [appL_len]; exact hk)]
  simp only [appL, List.getElem_map]
  rw [List.getD_eq_getElem?_getD, List.getElem?_eq_getElem hk]; rfl
theorem IOw.belowE {w w' : World} {B : Nat} {v : Value} {xs : List Int} (h : IOw w B v xs) (hb : Below w.heap.size w w') : IOw w' B v xs := by
  obtain ⟨⟨hl, h2⟩, hf⟩ := h
  refine ⟨⟨hl, ?_⟩, hf⟩
  rcases h2 with h2 | ⟨g, cap, cur, e, h3, hh, h4⟩
  · exact .inl h2
  · exact .inr ⟨g, cap, cur, e, h3, (hb.block g (Array.getElem?_eq_some_iff.1 hh).1).trans hh, h4⟩
theorem take_cf (L : List Int) (k : Nat) (hk : k < L.length) : L.take (k + 1) = L.take k ++ [cf L k] := by
  rw [List.take_succ_eq_append_getElem hk, cf_at hk]
theorem dot_step (p : Int) (f g : Ser) (k : Nat) : (dot f g k % p + f k % p * (g k % p)) % p = dot f g (k + 1) % p := by
  show _ = (dot f g k + f k * g k) % p
  rw [Int.add_emod, Int.emod_emod_of_dvd _ (Int.dvd_refl p), ← Int.mul_emod, ← Int.add_emod]

set_option maxHeartbeats 4000000 in
theorem rApply_any (A : Option Addr) (n c : Nat) (M : List (List Int)) (B : Option Addr) (m d : Nat) (v : List Int) (p : Int) (w : World) (h : MatAt w A n c M) (hv : ISl w B m d v) (ip : In64 p) :
    Calls Tryd.prog 16 #[.slice A n c, .slice B m d, .int .i64 p] w fun e w' => ListOut w (appV p M v) (codeP (AppOk p M v)) e w' := by
  have hcl := h.le
  have hcm := h.max
  have hcl' := hv.le
  have hcm' := hv.max
  have hnl := h.len
  have hml := hv.len
  have C := right_any A n c M p w h ip
  rcases Classical.em (Right p M) with hr | hr
  · rw [rightB_yes hr] at C
    have hn64 : n ≤ 64 := by rw [hnl]; exact hr.2.1
    rcases Classical.em (AppOk p M v) with ho | ho
    · have e1 : codeP (AppOk p M v) = 0 := codeP_yes ho
      have e2 : appV p M v = appL p M v m := by unfold appV; rw [ansB_yes ho, hml]
      rw [e1, e2]
      have hlen : ∀ k, k < n → (M.getD k []).length = m := fun k hk => by
        rw [hr.len (by rw [← hnl]; exact hk), ho.2 (by omega), hml]
      have hm64 : 0 < n → m ≤ 64 := fun h0 => by rw [← hlen 0 h0, hr.len (by rw [← hnl]; exact h0)]; exact hr.cols
      have H := Lib.hid h
      have HV := Lib.hid hv
      have MD := Lib.hid hr.1.md
      have HLN := Lib.hid hlen
      have hp1 := hr.1.md.1
      have hp2 := hr.1.md.2
      have RED := Lib.hid (fun (a : Int) (w : World) => show Calls Tryd.prog 21 #[.int .i64 a, .int .i64 p] w fun e w' => e = .returned (.int .i64 (a % p)) ∧ w = w' from by
        have := refRed_any a p w (by omega) (by omega)
        rwa [red_pos hp1] at this)
      have AT := Lib.hid (fun k (hk : k < n) => appL_cf p M v m k (by rw [← hnl]; exact hk))
      have HAL := Lib.hid (show (appL p M v m).length = n by rw [appL_len, hnl])
      have HRS := Lib.hid (appL_rs hr.1.1 M v m)
      have CC := Lib.hid C
      generalize appL p M v m = R at *
      clear h hv hnl hml C ho e1 e2 hlen hr ip
      by_cases hn0 : 0 < n
      · obtain ⟨b, o, rfl, hbl, hc⟩ := H.out.open_ hn0
        obtain ⟨C0, k0, d0, hc0, hi0⟩ := hc 0 hn0
        have hk0 : k0 = m := by rw [hi0.len]; exact HLN.out 0 hn0
        subst hk0
        rw [Nat.add_zero] at hc0
        have HC := Lib.hid hc
        have CC2 := Lib.hid (fun W (hb : Below w.heap.size w W) => (hb.cell (p := ⟨b, o, none⟩) hbl).trans hc0)
        have i1 : (0 : Int) < (n : Int) := by omega
        have hm64' := hm64 hn0
        clear hc hi0 hc0 hm64
        go_enter Tryd.func16, Tryd.ntmps16
        go_wp2_with (go_at_call 20; (with_reducible refine CC.out.mono ?_); rintro e w1 ⟨rfl, hb1⟩; have HB1 := Lib.hid hb1; have hc1 := CC2.out w1 hb1; clear hb1)
        go_loopw [9, 8] (fun i u wr => ∃ k : Nat, k ≤ n ∧ i = .int .i64 (k : Int) ∧ Hid (IOw wr w1.heap.size u (R.take k)) ∧ Hid (Below w1.heap.size w1 wr)) (fun i _ _ => n - (intOf i).toNat)
        case atStart => exact ⟨0, Nat.zero_le _, rfl, Lib.hid (IOw.nil _ _), Lib.hid (Below.refl _ _)⟩
        case round =>
          clear hc1
          obtain ⟨k, hk, rfl, hO, hbel⟩ := hrel
          obtain ⟨wo, rfl⟩ : ∃ wo, wo = wr := ⟨wr, rfl⟩
          by_cases hlt : k < n
          · have hbw : Below w.heap.size w wo := HB1.out.trans (hbel.out.mono HB1.out.size)
            obtain ⟨C1, k1, d1, hc1, hi1⟩ := HC.out k hlt
            have hk1 : k1 = k0 := by rw [hi1.len]; exact HLN.out k hlt
            subst hk1
            rw [← hbw.cell (p := ⟨b, o + k, none⟩) hbl] at hc1
            have HI1 := Lib.hid (hi1.below hbw)
            have HV1 := Lib.hid (HV.out.below hbw)
            have gb := Nat.lt_of_lt_of_le hbl hbw.size
            obtain ⟨f, hf⟩ : ∃ f, M.getD k [] = f := ⟨_, rfl⟩
            have hat := AT.out k hlt
            rw [hf] at HI1 hat
            have HAT := Lib.hid hat
            have i2 : (0 : Int) ≤ (k : Int) := by omega
            have i3 : (k : Int) < (n : Int) := by omega
            have hle1 := hi1.le
            have hmx1 := hi1.max
            have hps := take_cf R k (by rw [HAL.out]; exact hlt)
            have HPS := Lib.hid hps
            have hzr := HRS.out.at hp1 k
            clear hi1 hbw hf hat hps
            go_wp2_with fail
            go_loopw [11, 10] (fun i s wr => ∃ t : Nat, t ≤ k1 ∧ i = .int .i64 (t : Int) ∧ s = .int .i64 (dot (cf f) (cf v) t % p) ∧ Hid (Below wo.heap.size wo wr)) (fun i _ _ => k1 - (intOf i).toNat)
            case atStart => exact ⟨0, Nat.zero_le _, rfl, by rw [show dot (cf f) (cf v) 0 = 0 from rfl]; simp, Lib.hid (Below.refl _ _)⟩
            case round =>
              have hc1q := hc1
              clear hc1
              obtain ⟨t, ht, rfl, rfl, hbq⟩ := hrel
              rw [← hbq.out.cell (p := ⟨b, o + k, none⟩) gb] at hc1q
              by_cases htl : t < k1
              · obtain ⟨bx, ox, rfl, hbx, hcx⟩ := HI1.out.cfs (by omega)
                obtain ⟨bv, ov, rfl, hbv, hcv⟩ := HV1.out.cfs (by omega)
                have hx := hcx t htl
                have hy := hcv t htl
                rw [← hbq.out.cell (p := ⟨bx, ox + t, none⟩) hbx] at hx
                rw [← hbq.out.cell (p := ⟨bv, ov + t, none⟩) hbv] at hy
                have hs := dot_step p (cf f) (cf v) t
                have R1 := RED.out (cf f t)
                have R2 := RED.out (cf v t)
                have b1 : 0 ≤ cf f t % p ∧ cf f t % p < p := ⟨Int.emod_nonneg _ (by omega), Int.emod_lt_of_pos _ (by omega)⟩
                have b2 : 0 ≤ cf v t % p ∧ cf v t % p < p := ⟨Int.emod_nonneg _ (by omega), Int.emod_lt_of_pos _ (by omega)⟩
                have b3 : 0 ≤ dot (cf f) (cf v) t % p ∧ dot (cf f) (cf v) t % p < p := ⟨Int.emod_nonneg _ (by omega), Int.emod_lt_of_pos _ (by omega)⟩
                generalize dot (cf f) (cf v) t % p = s at *
                generalize cf f t % p = u at *
                generalize cf v t % p = y2 at *
                generalize cf f t = x at *
                generalize cf v t = y at *
                have bm : 0 ≤ u * y2 ∧ u * y2 ≤ 4292870400 := by
                  refine ⟨Int.mul_nonneg b1.1 b2.1, ?_⟩
                  have h1 : u * y2 ≤ 65520 * y2 := Int.mul_le_mul_of_nonneg_right (by omega) b2.1
                  omega
                obtain ⟨G, hG⟩ : ∃ G, u * y2 = G := ⟨_, rfl⟩
                rw [hG] at bm hs
                have HR1 := Lib.hid R1
                have HR2 := Lib.hid R2
                obtain ⟨z, hz⟩ : ∃ z, (s + G) % p = z := ⟨_, rfl⟩
                rw [hz] at hs
                have HS := Lib.hid hs
                have m1 : IntKind.i64.wrap (u * y2) = G := by rw [hG, IntKind.wrap_i64]; omega
                have m2 : IntKind.i64.wrap (s + G) = s + G := by rw [IntKind.wrap_i64]; omega
                have m3 : (s + G).tmod p = z := by rw [Int.tmod_eq_emod_of_nonneg (by omega)]; exact hz
                have bz : 0 ≤ z ∧ z < p := by rw [← hz]; exact ⟨Int.emod_nonneg _ (by omega), Int.emod_lt_of_pos _ (by omega)⟩
                have hp0 : p ≠ 0 := by omega
                have i4 : (0 : Int) ≤ (t : Int) := by omega
                have i5 : (t : Int) < (k1 : Int) := by omega
                have bm1 := bm.1
                have bm2 := bm.2
                clear hcx hcv R1 R2 hs hG bm b1 b2 b3 hz
                go_wp2_with fail
                go_quiet (first
                  | (go_at_call 21; with_reducible exact quietA (HR1.out _))
                  | (go_at_call 21; with_reducible exact quietA (HR2.out _)))
                go_wp2_with fail
                go_roundw
                case rel => exact ⟨t + 1, by omega, by go_num, by rw [← HS.out], Lib.hid (ibelow_drewN hbq.out _)⟩
                case measure => simp [intOf]; omega
              · obtain rfl : t = k1 := by omega
                rw [← HAT.out]
                obtain ⟨z, hz⟩ : ∃ z, cf R k = z := ⟨_, rfl⟩
                rw [hz] at HPS hzr ⊢
                have hN := (iblk_list wr [z] (fi_one (by unfold In64; omega))).sl (by simp)
                have HN := Lib.hid hN
                have hOq := hO.out.belowE hbq.out
                have HOq := Lib.hid hOq
                have hlen : (R.take k).length + 1 ≤ 17592186044416 := by rw [List.length_take]; omega
                have hszq := Nat.le_trans hbel.out.size hbq.out.size
                clear hN hOq hz
                go_wp2_with (at_builtin; refine iwpList_app _ rfl (.tmp 62) (.tmp 64) rfl w1.heap.size _ _ rfl (HOq.out.alloc _) (some ⟨wr.heap.size, 0, none⟩) 1 1 rfl [z] HN.out hlen (by simp; omega) ?_; intro v1 w3 ho1 hb3)
                have hb4 : Below w1.heap.size w1 w3 := ((hbel.out.trans (hbq.out.mono hbel.out.size)).alloc hszq _).trans hb3
                rw [← HPS.out] at ho1
                have HO1 := Lib.hid ho1
                have HB4 := Lib.hid hb4
                clear hb3 ho1 hb4
                go_wp2_with fail
                exact ⟨⟨k + 1, by omega, by go_num, HO1, HB4⟩, by simp [intOf]; omega⟩
          · obtain rfl : k = n := by omega
            have e : R.take k = R := List.take_of_length_le (by rw [HAL.out]; exact Nat.le_refl _)
            have hO2 := hO.out
            rw [e] at hO2
            obtain ⟨C, dd, rfl, hs, _⟩ := hO2.sl
            have HS := Lib.hid hs
            clear hs hO2 e
            go_wp2_with fail
            go_ret2
            exact ⟨_, _, _, rfl, HS.out, HB1.out.trans (hbel.out.mono HB1.out.size)⟩
      · obtain rfl : n = 0 := by omega
        have hR : R = [] := List.eq_nil_of_length_eq_zero HAL.out
        subst hR
        clear hm64
        go_enter Tryd.func16, Tryd.ntmps16
        go_wp2_with (go_at_call 20; (with_reducible refine CC.out.mono ?_); rintro e w1 ⟨rfl, hb1⟩; have HB1 := Lib.hid hb1; clear hb1)
        go_loopw [9, 8] (fun i u wr => i = .int .i64 0 ∧ u = .slice none 0 0 ∧ wr = w1) (fun i _ _ => 0)
        case atStart => exact ⟨rfl, rfl, rfl⟩
        case round =>
          obtain ⟨rfl, rfl, rfl⟩ := hrel
          go_wp2_with fail
          go_ret2
          exact ⟨_, _, _, rfl, isl_nil _, HB1.out⟩
    · have e1 : codeP (AppOk p M v) = 1 := codeP_no ho
      have e2 : appV p M v = [] := by unfold appV; rw [ansB_no ho]
      rw [e1, e2]
      have hn0 : 0 < n := Classical.byContradiction fun hn => ho ⟨hr, fun hM => absurd hM (by omega)⟩
      have hne : cols M ≠ m := fun e => ho ⟨hr, fun _ => by rw [e, hml]⟩
      obtain ⟨b, o, rfl, hbl, hc⟩ := h.open_ hn0
      obtain ⟨C0, k0, d0, hc0, hi0⟩ := hc 0 hn0
      have hk0 : k0 ≠ m := by rw [hi0.len]; exact hne
      rw [Nat.add_zero] at hc0
      have CC2 := Lib.hid (fun W (hb : Below w.heap.size w W) => (hb.cell (p := ⟨b, o, none⟩) hbl).trans hc0)
      have i1 : (0 : Int) < (n : Int) := by omega
      have i2 : ((k0 : Int) != (m : Int)) = true := by simp; omega
      have hm0 := Nat.le_trans hi0.le hi0.max
      have CC := Lib.hid C
      clear hc hi0 hc0 C h hv ip hr ho hne hk0 e1 e2 hnl hml
      go_enter Tryd.func16, Tryd.ntmps16
      go_wp2_with (go_at_call 20; (with_reducible refine CC.out.mono ?_); rintro e w1 ⟨rfl, hb1⟩; have HB1 := Lib.hid hb1; have hc1 := CC2.out w1 hb1; clear hb1)
      go_ret2
      exact ⟨_, _, _, rfl, isl_nil _, HB1.out⟩
  · rw [rightB_no hr] at C
    have e1 : codeP (AppOk p M v) = 1 := codeP_no fun k => hr k.1
    have e2 : appV p M v = [] := by unfold appV; rw [ansB_no fun k => hr k.1]
    rw [e1, e2]
    have CC := Lib.hid C
    clear C h hv ip hr e1 e2 hnl hml
    go_enter Tryd.func16, Tryd.ntmps16
    go_wp2_with (go_at_call 20; (with_reducible refine CC.out.mono ?_); rintro e w1 ⟨rfl, hb1⟩; have HB1 := Lib.hid hb1; clear hb1)
    go_ret2
    exact ⟨_, _, _, rfl, isl_nil _, HB1.out⟩
end Go.Proofs.YtipdnfdeacdkgaaDoor

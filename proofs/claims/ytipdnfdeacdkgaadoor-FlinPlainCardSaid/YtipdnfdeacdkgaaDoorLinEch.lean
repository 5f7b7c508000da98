/- cleaverref07.Echelon, by its contract. -/
import Derived.Test.YtipdnfdeacdkgaaDoorLinPut
import Derived.StillTailTactics
namespace Go.Proofs.YtipdnfdeacdkgaaDoor
open Go.RowKit

/-- What Echelon is to answer: the plain rows, in new memory. -/
def EchOut (p : Int) (nc : Nat) (M : List (List Int)) (w : World) (v : Value) (w' : World) : Prop :=
  ∃ P A m c, v = .slice A m c ∧ MatAt w' A m c (rowsOf P) ∧ IsEch p nc M (rowsOf P) ∧ Below w.heap.size w w'

set_option maxHeartbeats 400000 in
theorem refEch_not (A : Option Addr) (n c : Nat) (M : List (List Int)) (p : Int) (w : World) (h : MatAt w A n c M) (ip : In64 p) (hr : ¬ Right p M) :
    Calls Tryd.prog 11 #[.slice A n c, .int .i64 p] w fun e w' => e = .returned (.tuple #[.slice none 0 0, .int .i64 1]) ∧ Below w.heap.size w w' := by
  have C := right_any A n c M p w h ip
  rw [rightB_no hr] at C
  have CC := Lib.hid C
  clear C h ip hr
  go_enter Tryd.func11, Tryd.ntmps11
  go_wp2_with (go_at_call 20; (with_reducible refine CC.out.mono ?_); rintro e w' ⟨rfl, hb⟩)
  go_ret2
  exact ⟨rfl, hb⟩

set_option maxRecDepth 100000 in
set_option maxHeartbeats 8000000 in
theorem refEch_any (A : Option Addr) (n c nc : Nat) (M : List (List Int)) (p : Int) (w : World) (h : MatAt w A n c M) (hr : Right p M) (hnc : ∀ i, i < M.length → (M.getD i []).length = nc) (hc64 : nc ≤ 64) :
    Calls Tryd.prog 11 #[.slice A n c, .int .i64 p] w fun e w' => ∃ v, e = .returned (.tuple #[v, .int .i64 0]) ∧ EchOut p nc M w v w' := by
  have hp := hr.1
  have hp1 := hp.1
  have hp2 := hp.2.1
  have hn64 : n ≤ 64 := by rw [h.len]; exact hr.2.1
  have hcl := h.le
  have hcm := h.max
  have C := right_any A n c M p w h (by unfold In64; omega)
  rw [rightB_yes hr] at C
  have CC := Lib.hid C
  have H := Lib.hid h
  have HNL := Lib.hid h.len
  have PR := Lib.hid hp
  have HNC := Lib.hid hnc
  clear C h hr hp hnc
  go_enter Tryd.func11, Tryd.ntmps11
  go_wp2_with (go_at_call 20; (with_reducible refine CC.out.mono ?_); rintro e w1 ⟨rfl, hb1⟩)
  have HB1 := Lib.hid hb1
  have hsz1 := hb1.size
  clear hb1
  go_loopw [7, 6] (fun i v wr => ∃ (k : Nat) (vs : List Value) (P : List (Nat × List Int)), k ≤ n ∧ i = .int .i64 (k : Int) ∧ P.length ≤ k ∧ Hid (OutAt wr w1.heap.size nc v vs P) ∧ Hid (EchP p nc P) ∧ Hid ((∀ r ∈ rowsOf P, Sp p (M.take k) (cf r)) ∧ (∀ r ∈ M.take k, Sp p (rowsOf P) (cf r))) ∧ Below w1.heap.size w1 wr) (fun i _ _ => n - (intOf i).toNat)
  case atStart => exact ⟨0, [], [], Nat.zero_le _, rfl, Nat.le_refl _, Lib.hid ⟨VOw.nil _ _, rfl, fun i hi => absurd hi (Nat.not_lt_zero _)⟩, Lib.hid (ech_nil p nc), Lib.hid ⟨fun r hr => (List.not_mem_nil hr).elim, fun r hr => by rw [List.take_zero] at hr; exact (List.not_mem_nil hr).elim⟩, Below.refl _ _⟩
  case round =>
    obtain ⟨k, vs, P, hk, rfl, hPl, hout, hE, hsp, hbel⟩ := hrel
    by_cases hlt : k < n
    · have hkM : k < M.length := by rw [← HNL.out]; exact hlt
      obtain ⟨b, o, rfl, hbl, hcm⟩ := H.out.open_ (by omega)
      obtain ⟨Cm, km, dm, hcM, hiM⟩ := hcm k hlt
      have hkm : km = nc := by rw [hiM.len]; exact HNC.out k hkM
      subst hkm
      have HBW : Hid (Below w.heap.size w wr) := Lib.hid (HB1.out.trans (hbel.mono hsz1))
      rw [← HBW.out.cell (p := ⟨b, o + k, none⟩) hbl] at hcM
      have HM := Lib.hid (hiM.below HBW.out)
      obtain ⟨mi, hmi⟩ : ∃ mi, M.getD k [] = mi := ⟨_, rfl⟩
      rw [hmi] at HM
      have HMI := Lib.hid hmi
      have hmle := HM.out.le
      have hmmx := HM.out.max
      have HBR := Lib.hid hbel
      have RED := Lib.hid (fun (a : Int) (w : World) => refRed_any a p w (by omega) (by omega))
      have MD : Hid (Md p) := Lib.hid ⟨by omega, hp2⟩
      have i1 : (0 : Int) ≤ (k : Int) := by omega
      have i2 : (k : Int) < (n : Int) := by omega
      have hblr := Nat.lt_of_lt_of_le hbl HBW.out.size
      have hsz2 := hbel.size
      clear hcm hiM hmi hbel
      obtain ⟨wo, rfl⟩ : ∃ wo, wo = wr := ⟨wr, rfl⟩
      obtain ⟨A6, c6, e6, hc6, hm6, hop⟩ := hout.out.open_
      subst e6
      have HOP := Lib.hid hop
      obtain ⟨lP, hlP⟩ : ∃ l, P.length = l := ⟨_, rfl⟩
      have HLP := Lib.hid hlP
      rw [hlP] at hc6 hPl ⊢
      clear hlP hop
      go_wp2_with fail
      go_loopw [9, 8] (fun i v wq => ∃ j : Nat, j ≤ km ∧ i = .int .i64 (j : Int) ∧ IOw wq wo.heap.size v (rst p (mi.take j)) ∧ Below wo.heap.size wo wq) (fun i _ _ => km - (intOf i).toNat)
      case atStart => exact ⟨0, Nat.zero_le _, rfl, IOw.nil _ _, Below.refl _ _⟩
      case round =>
        obtain ⟨j, hj, rfl, hown, hbel⟩ := hrel
        have hcJ := hcM
        rw [← hbel.cell (p := ⟨b, o + k, none⟩) hblr] at hcJ
        by_cases hjl : j < km
        · obtain ⟨b2, o2, rfl, hbl2, hc2⟩ := HM.out.cfs (by omega)
          have hx := hc2 j hjl
          rw [← hbel.cell (p := ⟨b2, o2 + j, none⟩) hbl2] at hx
          have hsn := rst_snoc p mi j (by rw [← HM.out.len]; exact hjl)
          have hR := RED.out (cf mi j) wr
          rw [red_pos (by omega)] at hR
          have hy0 := Int.emod_nonneg (cf mi j) (b := p) (by omega)
          have hy1 := Int.emod_lt_of_pos (cf mi j) (b := p) (by omega)
          generalize cf mi j % p = y at *
          generalize cf mi j = x at *
          have hl : (rst p (mi.take j)).length = j := by rw [rst_length, List.length_take, ← HM.out.len]; omega
          have hN := (iblk_list wr [y] (fi_one (by unfold In64; omega))).sl (by simp)
          have HN := Lib.hid hN
          have HO := Lib.hid hown
          have HB := Lib.hid hbel
          have HR := Lib.hid hR
          have HS := Lib.hid hsn
          have HL := Lib.hid hl
          have hsz := hbel.size
          have i3 : (0 : Int) ≤ (j : Int) := by omega
          have i4 : (j : Int) < (km : Int) := by omega
          clear hc2 hN hown hbel hR hsn hl
          go_wp2_with (first
            | (go_at_call 21; (with_reducible refine HR.out.mono ?_); rintro e w' ⟨rfl, rfl⟩)
            | (at_builtin; refine iwpList_app _ rfl (.tmp 36) (.tmp 46) rfl wo.heap.size _ _ rfl (HO.out.alloc _) (some ⟨wr.heap.size, 0, none⟩) 1 1 rfl [y] HN.out (by rw [HL.out]; omega) (by simp; omega) ?_; intro v1 w3 ho1 hb3))
          have hb4 : Below wo.heap.size wo w3 := (HB.out.alloc hsz _).trans hb3
          clear hb3
          rw [← HS.out] at ho1
          go_roundw
          case rel => exact ⟨j + 1, by omega, by go_num, ho1, hb4⟩
          case measure => simp [intOf]; omega
        · have ejk : km = j := by omega
          subst ejk
          have hall : mi.take km = mi := List.take_of_length_le (by rw [← HM.out.len]; exact Nat.le_refl _)
          rw [hall] at hown
          obtain ⟨C, d, rfl, hs, hnew⟩ := hown.sl
          have ht := hown.thaw
          have hl : (rst p mi).length = km := by rw [rst_length, ← HM.out.len]
          rw [hl] at hs ⊢
          have hnr : NewRow wo C km d (rst p mi) wr := ⟨hs, ht, hnew, hbel⟩
          have hred : RedIn p km P 0 mi (rst p mi) := ⟨hl, rst_rs p MD.out mi, fun a ha => by rw [List.take_zero] at ha; exact (List.not_mem_nil ha).elim, Sp.eq .zer (fun i => by
            show 0 % p = (cf mi i + -1 * cf (rst p mi) i) % p
            rw [cf_rst, Int.add_emod, Int.mul_emod (-1), Int.emod_emod_of_dvd _ (Int.dvd_refl p), ← Int.mul_emod, ← Int.add_emod, show cf mi i + -1 * cf mi i = 0 from by omega])⟩
          have HNR := Lib.hid hnr
          have HRD := Lib.hid hred
          clear hall hown hs ht hnew hl hbel hnr hred
          generalize rst p mi = r0 at *
          go_wp2_with fail
          clear hcJ
          go_loopw [10, 8] (fun i v wq => ∃ (t : Nat) (C : Option Addr) (d : Nat) (r : List Int), t ≤ lP ∧ i = .int .i64 (t : Int) ∧ v = .slice C km d ∧ Hid (NewRow wo C km d r wq) ∧ Hid (RedIn p km P t mi r)) (fun i _ _ => lP - (intOf i).toNat)
          case atStart => exact ⟨0, C, d, r0, Nat.zero_le _, rfl, rfl, HNR, HRD⟩
          case round =>
            clear HNR HRD
            obtain ⟨t, C, d, r, htl, rfl, rfl, hNR, hRD⟩ := hrel
            by_cases htP : t < lP
            · obtain ⟨b6, o6, ho6, rfl, _, hb6⟩ := HOP.out (by rw [HLP.out]; omega)
              clear ho6
              obtain ⟨_, _, Ct, dt, hct, hit, _⟩ := hout.out.cells (i := t) (by rw [HLP.out]; exact htP)
              have htP' : t < P.length := by rw [HLP.out]; exact htP
              have hfs := hE.out.fst htP'
              have hmP : P[t] ∈ P := List.getElem_mem htP'
              have hstep := hRD.out.step (by omega : 1 ≤ p) hE.out htP'
              rw [← prow_at htP'] at hstep
              have hyR : Rs p (prow P t) := by rw [prow_at htP']; exact hE.out.rs _ hmP
              have hlen2 : (prow P t).length = r.length := by rw [prow_at htP', hE.out.len _ hmP, hRD.out.len]
              have hld := hE.out.lt _ hmP
              obtain ⟨ld, hld0⟩ : ∃ ld, (P[t]).1 = ld := ⟨_, rfl⟩
              rw [hld0] at hfs hstep hld
              have hbW := hNR.out.2.2.2
              have hct2 : wr.cell? ⟨b6, o6 + t, none⟩ = some (.slice Ct km dt) := by rw [hbW.cell (p := ⟨b6, o6 + t, none⟩) hb6]; exact hct
              have HIT := Lib.hid (hit.below hbW)
              obtain ⟨bC, oC, rfl, hbC, hcC⟩ := hNR.out.1.cfs (by omega)
              have hcx := hcC ld hld
              have bx := hRD.out.rs.at (by omega : 1 ≤ p) ld
              obtain ⟨x, hx0⟩ : ∃ x, cf r ld = x := ⟨_, rfl⟩
              rw [hx0] at hcx hstep bx
              have HSTEP := Lib.hid hstep
              have FST := Lib.hid (fun W (hb : Below wr.heap.size wr W) => first_any Ct km dt (prow P t) W (HIT.out.below hb))
              rw [hfs] at FST
              have LESS := Lib.hid (fun W (hb : Below wr.heap.size wr W) => less_any (some ⟨bC, oC, none⟩) Ct km d km dt r (prow P t) x p W (hNR.out.1.below hb) (HIT.out.below hb) hlen2 ⟨by omega, hp2⟩ bx hRD.out.rs hyR (by omega))
              have i5 : (0 : Int) ≤ (t : Int) := by omega
              have i6 : (t : Int) < (lP : Int) := by omega
              have i7 : (0 : Int) ≤ (ld : Int) := by omega
              have i8 : (ld : Int) < (km : Int) := by omega
              have hb6r := Nat.lt_of_lt_of_le hb6 hbW.size
              have HBW2 := Lib.hid hbW
              have hle3 := hNR.out.1.le
              have hmx3 := hNR.out.1.max
              clear hct hit hfs hstep hyR hlen2 hld0 hcC hx0 hbW hmP htP'
              go_wp2_with fail
              go_region_held3 (fun W => W.cell? ⟨b6, o6 + t, none⟩ = some (.slice Ct km dt) ∧ W.cell? ⟨bC, oC + ld, none⟩ = some (iv x) ∧ b6 < W.heap.size ∧ bC < W.heap.size ∧ Below wr.heap.size wr W)
                (first
                  | exact ⟨hct2, hcx, hb6r, hbC, (Below.refl _ _).drew⟩
                  | assumption
                  | exact keepA (by assumption) hb5)
                (first
                  | (go_at_call 23; (with_reducible refine (FST.out _ (keepAb (by assumption))).mono ?_); rintro e w0 ⟨rfl, rfl⟩)
                  | (go_at_call 22; (with_reducible refine (LESS.out _ (keepAb (by assumption))).mono ?_); rintro e w5 ⟨C5, d5, rfl, hnr5⟩; have hb5 := hnr5.2.2.2)
                  | fail)
              have hbw5 : Below wr.heap.size wr w5 := (Below.refl _ _).drew.trans hb5
              have HN5 : Hid (NewRow wo C5 km d5 (lessL p r (prow P t) x) w5) := Lib.hid ⟨hnr5.1, hnr5.2.1, fun b' o' s' e' => Nat.le_trans HBW2.out.size (hnr5.2.2.1 b' o' s' e'), HBW2.out.trans (hbw5.mono HBW2.out.size)⟩
              clear hnr5 hb5 hbw5 hct2 hcx
              go_wp2_with fail
              go_roundw
              case rel => exact ⟨t + 1, C5, d5, _, by omega, by go_num, rfl, HN5, HSTEP⟩
              case measure => simp [intOf]; omega
            · obtain rfl : t = lP := by omega
              have hFR := first_any C km d r
              have hz : ∀ a ∈ P, cf r a.1 = 0 := fun a ha => hRD.out.zero a (by rw [List.take_of_length_le (by rw [HLP.out]; exact Nat.le_refl _)]; exact ha)
              have HZ := Lib.hid hz
              have hbW := hNR.out.2.2.2
              have hle3 := hNR.out.1.le
              have hmx3 := hNR.out.1.max
              have htake : M.take (k + 1) = M.take k ++ [mi] := by
                rw [List.take_succ_eq_append_getElem hkM, ← HMI.out, List.getD_eq_getElem?_getD, List.getElem?_eq_getElem hkM]
                rfl
              have HTK := Lib.hid htake
              rcases fsi_cases r with ⟨x, hx, hfx⟩ | ⟨hx, hzero⟩
              · rw [hx] at hFR
                have FR := Lib.hid (fun W (hb : Below wr.heap.size wr W) => hFR W (hNR.out.1.below hb))
                have HFX := Lib.hid hfx
                have hxk : x < km := by have := hfx.1; rwa [hRD.out.len] at this
                obtain ⟨bC, oC, rfl, hbC, hcC⟩ := hNR.out.1.cfs (by omega)
                have hcx := hcC x hxk
                have bx := hRD.out.rs.at (by omega : 1 ≤ p) x
                have hnz : cf r x % p ≠ 0 := by rw [hRD.out.rs.emod (by omega) x]; exact hfx.2.1
                have hiv := finv_spec PR.out hnz
                have INV := refInv_any (cf r x) p wr (by omega) (by omega)
                rw [einv_yes (primB_yes PR.out) hnz] at INV
                obtain ⟨y, hy⟩ : ∃ y, cf r x = y := ⟨_, rfl⟩
                rw [hy] at hcx bx hnz hiv INV
                obtain ⟨u, hu⟩ : ∃ u, finv y p = u := ⟨_, rfl⟩
                rw [hu] at hiv INV
                have hu1 := hiv.1
                have hu2 := hiv.2.1
                have HIV := Lib.hid hiv
                have HY := Lib.hid hy
                have HIN := Lib.hid INV
                have i7 : (0 : Int) ≤ (x : Int) := by omega
                have i8 : (x : Int) < (km : Int) := by omega
                have hgC : wo.heap.size ≤ bC := hNR.out.2.2.1 bC oC none rfl
                have HBC := Lib.hid hbW
                clear hFR hz htake hx hfx hcC hnz hiv INV hy hu hbW
                go_wp2_with (first
                  | (go_at_call 23; (with_reducible refine (FR.out _ (Below.refl _ _)).mono ?_); rintro e w0 ⟨rfl, rfl⟩)
                  | (go_at_call 24; (with_reducible refine HIN.out.mono ?_); rintro e w0 ⟨rfl, rfl⟩))
                clear hcx FR HIN
                have hX0 : sclL p u r 0 = r := sclL_zero p u r
                have HST : Hid (ISl wr (some ⟨bC, oC, none⟩) km d (sclL p u r 0)) := Lib.hid (by rw [hX0]; exact hNR.out.1)
                clear hX0
                go_loopw [14] (fun i wq => ∃ q : Nat, q ≤ km ∧ i = .int .i64 (q : Int) ∧ Hid (ISl wq (some ⟨bC, oC, none⟩) km d (sclL p u r q)) ∧ Thaw wq (some ⟨bC, oC, none⟩) ∧ Below wo.heap.size wo wq) (fun i _ => km - (intOf i).toNat)
                case atStart => exact ⟨0, Nat.zero_le _, rfl, HST, hNR.out.2.1, HBC.out⟩
                case round =>
                  clear HST
                  obtain ⟨q, hq, rfl, hS, hT, hbel⟩ := hrel
                  by_cases hql : q < km
                  · have hqr : q < r.length := by rw [hRD.out.len]; exact hql
                    obtain ⟨b2, o2, e2, hb2, hc2⟩ := hS.out.cfs (by omega)
                    simp only [Option.some.injEq, Addr.mk.injEq, and_true] at e2
                    obtain ⟨rfl, rfl⟩ := e2
                    have hcq := hc2 q hql
                    rw [cf_sclL hqr] at hcq
                    have bq := hRD.out.rs.at (by omega : 1 ≤ p) q
                    have hset := sclL_set (p := p) (x := u) hqr
                    obtain ⟨y2, hy2⟩ : ∃ y2, cf r q = y2 := ⟨_, rfl⟩
                    rw [hy2] at hcq bq hset
                    have bm := mul_bd bq ⟨by omega, hu2⟩ hp2
                    obtain ⟨G, hG⟩ : ∃ G, y2 * u = G := ⟨_, rfl⟩
                    rw [hG] at bm hset
                    obtain ⟨z, hz⟩ : ∃ z, G % p = z := ⟨_, rfl⟩
                    have bz : 0 ≤ z ∧ z < p := by rw [← hz]; exact ⟨Int.emod_nonneg _ (by omega), Int.emod_lt_of_pos _ (by omega)⟩
                    have hnew := hS.out.setAt q hql z (by unfold In64; omega)
                    rw [← hz, hset, hz] at hnew
                    have HNW := Lib.hid hnew
                    have hfz := hT bC oC none rfl (oC + q)
                    have HTN := Lib.hid (hT.set_ ⟨bC, oC + q, none⟩ (iv z))
                    have HBN := Lib.hid (hbel.setCell (p := ⟨bC, oC + q, none⟩) hgC (iv z))
                    have i3 : (0 : Int) ≤ (q : Int) := by omega
                    have i4 : (q : Int) < (km : Int) := by omega
                    clear hc2 hset hy2 hnew hT hbel
                    go_wp2_with fail
                    exact ⟨⟨q + 1, by omega, by go_num, HNW, HTN.out, HBN.out⟩, by simp [intOf]; omega⟩
                  · have eqk : q = km := by omega
                    subst eqk
                    have hrl : r.length = q := hRD.out.len
                    have hsf := scl_facts hp1 hRD.out.rs HFX.out HY.out HIV.out.2.2
                    rw [hrl] at hsf
                    have HSF := Lib.hid hsf
                    have hnl : (sclL p u r q).length = q := by rw [sclL_len, hrl]
                    have HNWL := Lib.hid hnl
                    have hno : Hid ((∀ j, j < x → cf (sclL p u r q) j = 0) ∧ (∀ a ∈ P, cf (sclL p u r q) a.1 = 0)) := Lib.hid ⟨fun j hj => hsf.2.2.1 j (HFX.out.2.2 j hj), fun a ha => hsf.2.2.1 _ (HZ.out a ha)⟩
                    have HBW3 := Lib.hid (show Below w1.heap.size w1 wr from HBR.out.trans (hbel.mono HBR.out.size))
                    have HOU := Lib.hid (hout.out.below hbel)
                    have hszB := hbel.size
                    clear hsf hnl hrl hbel hT
                    generalize sclL p u r q = nw at *
                    go_wp2_with fail
                    have hst : Hid (OutAt wr w1.heap.size q (.slice A6 t c6) vs (mixP p x nw P 0)) := Lib.hid (by
                      rw [mixP_zero, ← HLP.out]
                      exact HOU.out)
                    go_loopw [16, 15] (fun i nn wq => ∃ (s m : Nat) (vs2 : List Value), s ≤ t ∧ i = .int .i64 (s : Int) ∧ nn = .int .i64 (m : Int) ∧ m ≤ s ∧ Hid ((∀ a ∈ P.take m, a.1 < x) ∧ (∀ a ∈ (P.take s).drop m, x < a.1)) ∧ Hid (OutAt wq w1.heap.size q (.slice A6 t c6) vs2 (mixP p x nw P s)) ∧ Hid (ISl wq (some ⟨bC, oC, none⟩) q d nw) ∧ Below w1.heap.size w1 wq ∧ wo.heap.size ≤ wq.heap.size) (fun i _ _ => t - (intOf i).toNat)
                    case atStart => exact ⟨0, 0, vs, Nat.zero_le _, rfl, rfl, Nat.le_refl _, Lib.hid ⟨fun a ha => by rw [List.take_zero] at ha; exact (List.not_mem_nil ha).elim, fun a ha => by rw [List.take_zero, List.drop_nil] at ha; exact (List.not_mem_nil ha).elim⟩, hst, hS, HBW3.out, hszB⟩
                    case round =>
                      clear hst HOU HBW3
                      obtain ⟨s, m, vs2, hsl, rfl, rfl, hms, hlead, hO, hNS, hbel, hszq⟩ := hrel
                      by_cases hst : s < t
                      · obtain ⟨b6, o6, ho6, rfl, hB6, hb6⟩ := HOP.out (by rw [HLP.out]; omega)
                        have HO6 := Lib.hid ho6
                        have hsP : s < P.length := by rw [HLP.out]; exact hst
                        have hml : (mixP p x nw P s).length = P.length := mixP_len p x nw P s (by omega)
                        obtain ⟨hg6, hfz6, Cs, ds, hcs, his, hap⟩ := hO.out.cells (i := s) (by rw [hml]; exact hsP)
                        rw [mixP_at hsP] at his hap
                        have hmP : P[s] ∈ P := List.getElem_mem hsP
                        have hfl := hE.out.fst_less hp1 HNWL.out HSF.out.2.1 hno.out.1 hno.out.2 hmP
                        rw [← prow_at hsP] at hfl
                        have hxR : Rs p (prow P s) := by rw [prow_at hsP]; exact hE.out.rs _ hmP
                        have hlen2 : nw.length = (prow P s).length := by rw [HNWL.out, prow_at hsP, hE.out.len _ hmP]
                        have hmset := mixP_set (p := p) (x := x) (w := nw) hsP
                        rw [← prow_at hsP] at hmset
                        have hne : Hid ((P[s]).1 ≠ x) := Lib.hid fun e => by
                          have := hno.out.2 _ hmP
                          rw [e, HSF.out.2.1] at this
                          exact absurd this (by decide)
                        obtain ⟨ld, hld0⟩ : ∃ ld, (P[s]).1 = ld := ⟨_, rfl⟩
                        obtain ⟨bs, os, rfl, hbs, hcc⟩ := his.cfs (by omega)
                        have hcx := hcc x hxk
                        have bk := hxR.at (by omega : 1 ≤ p) x
                        have LESS := Lib.hid (fun W (hb : Below wr.heap.size wr W) => less_any (some ⟨bs, os, none⟩) (some ⟨bC, oC, none⟩) q ds q d (prow P s) nw (cf (prow P s) x) p W (his.below hb) (hNS.out.below hb) hlen2 ⟨by omega, hp2⟩ bk hxR HSF.out.1 (by omega))
                        have i5 : (0 : Int) ≤ (s : Int) := by omega
                        have i6 : (s : Int) < (t : Int) := by omega
                        have HML := Lib.hid hml
                        have HFL := Lib.hid hfl
                        have HMS := Lib.hid hmset
                        have HLD := Lib.hid hld0
                        have HSP := Lib.hid hsP
                        have hle4 := his.le
                        have hmx4 := his.max
                        obtain ⟨kk, hkk⟩ : ∃ kk, cf (prow P s) x = kk := ⟨_, rfl⟩
                        rw [hkk] at hcx bk LESS
                        have HKK := Lib.hid hkk
                        clear ho6 hml hfl hxR hlen2 hmset hld0 hcc his hkk hap hmP
                        go_wp2_with fail
                        go_region_law (first
                          | (go_simp; go_at_call 22; (with_reducible refine (LESS.out _ ((Below.refl _ _).drew)).mono ?_); rintro e w5 ⟨C5, d5, rfl, hnr5⟩; have hbw5 : Below wr.heap.size wr w5 := (Below.refl _ _).drew.trans hnr5.2.2.2; have hc5 := (hbw5.cell (p := ⟨b6, o6 + s, none⟩) hg6).trans hcs; have hf5 := (hbw5.frozen (p := ⟨b6, o6 + s, none⟩) hg6).trans hfz6)
                          | fail)
                        all_goals
                          have hfar : ∀ b' o' s', C5 = some ⟨b', o', s'⟩ → some b' ≠ some b6 := fun b' o' s' e' e2 => by
                            have h1 := hnr5.2.2.1 b' o' s' e'
                            have h2 : b' = b6 := by injection e2
                            have h3 : wr.heap.size ≤ b' := h1
                            omega
                          have hO2 : OutAt (w5.setCell ⟨b6, o6 + s, none⟩ (.slice C5 q d5)) w1.heap.size q (.slice (some ⟨b6, o6, none⟩) t c6) (vs2.set s (.slice C5 q d5)) (mixP p x nw P (s + 1)) := by
                            rw [← HMS.out, HKK.out]
                            exact (hO.out.below hbw5).storeO HO6.out (by rw [HML.out, HLP.out]) (by rw [HML.out]; exact HSP.out) hnr5.1 (.inr hfar) _
                          have hNS2 := (hNS.out.below hbw5).farS (p := ⟨b6, o6 + s, none⟩) (show bC ≠ b6 by omega) (.slice C5 q d5)
                          have hB2 : Below w1.heap.size w1 (w5.setCell ⟨b6, o6 + s, none⟩ (.slice C5 q d5)) := (hbel.trans (hbw5.mono hbel.size)).setCell hB6 _
                          have hFS := first_any C5 q d5 _ _ (hnr5.1.grownO (grown_set w5 b6 (o6 + s) (.slice C5 q d5)) (.inr hfar))
                          rw [← HKK.out, HFL.out, HLD.out] at hFS
                          have hcS : (w5.setCell ⟨b6, o6 + s, none⟩ (.slice C5 q d5)).cell? ⟨b6, o6 + s, none⟩ = some (.slice C5 q d5) := World.cell?_setCell_same' w5 _ _ (by rw [hc5]; rfl)
                          have hsz5 : wo.heap.size ≤ (w5.setCell ⟨b6, o6 + s, none⟩ (.slice C5 q d5)).heap.size := Nat.le_trans hszq (by simpa [World.setCell] using hbw5.size)
                          have HFS := Lib.hid hFS
                          have HO2 := Lib.hid hO2
                          have HNS2 := Lib.hid hNS2
                          have HB2 := Lib.hid hB2
                          clear hfar hO2 hNS2 hB2 hFS hc5 hf5 hnr5 hbw5 hcs hfz6 hcx LESS
                          generalize w5.setCell ⟨b6, o6 + s, none⟩ (.slice C5 q d5) = wS at *
                          by_cases hlx : ld < x
                          · have HLX := Lib.hid (lead_yes hE.out.inc HSP.out (by rw [HLD.out]; exact hlx))
                            go_wp2_with (go_at_call 23; (with_reducible refine HFS.out.mono ?_); rintro e w0 ⟨rfl, rfl⟩)
                            exact ⟨⟨s + 1, s + 1, _, by omega, by go_num, by go_num, Nat.le_refl _, HLX, HO2, HNS2, HB2.out, hsz5⟩, by simp [intOf]; omega⟩
                          · have HLX := Lib.hid (lead_no HSP.out hms (by rw [HLD.out]; have := hne.out; rw [HLD.out] at this; omega) hlead.out)
                            go_wp2_with (go_at_call 23; (with_reducible refine HFS.out.mono ?_); rintro e w0 ⟨rfl, rfl⟩)
                            exact ⟨⟨s + 1, m, _, by omega, by go_num, rfl, by omega, HLX, HO2, HNS2, HB2.out, hsz5⟩, by simp [intOf]; omega⟩
                      · have est : t = s := by omega
                        subst est
                        have hlast : Hid ((∀ a ∈ P.take m, a.1 < x) ∧ (∀ a ∈ P.drop m, x < a.1)) := Lib.hid ⟨hlead.out.1, fun a ha => hlead.out.2 a (by rw [List.take_of_length_le (by rw [HLP.out]; exact Nat.le_refl _)]; exact ha)⟩
                        have hOA := hO.out
                        rw [← HLP.out, mixP_all, HLP.out] at hOA
                        have HOA := Lib.hid hOA
                        obtain ⟨A7, c7, e7, hvs, _⟩ := hOA.1.sl
                        have hvl : vs2.length = t := by rw [hOA.2.1, lessP_len, HLP.out]
                        rw [hvl] at e7 hvs
                        simp only [Value.slice.injEq] at e7
                        obtain ⟨rfl, -, rfl⟩ := e7
                        have hblk : ∀ b' o' s', A6 = some ⟨b', o', s'⟩ → o' = 0 ∧ s' = none := by
                          intro b' o' s' e'
                          rcases hOA.1.1.2 with ⟨e8, _⟩ | ⟨g, cap, cur, e8, _⟩
                          · simp only [Value.slice.injEq] at e8
                            rw [e'] at e8; cases e8.1
                          · simp only [Value.slice.injEq] at e8
                            rw [e'] at e8
                            simp only [Option.some.injEq, Addr.mk.injEq] at e8
                            exact ⟨e8.1.2.1, e8.1.2.2⟩
                        have HBL := Lib.hid hblk
                        have HVS := Lib.hid hvs
                        have hA0 := hvs.2.2.2.1
                        clear hOA hlead hO hst hvl hvs hblk
                        go_wp2_with fail
                        rcases A6 with _ | a6
                        · obtain rfl : c6 = 0 := hA0 rfl
                          obtain rfl : t = 0 := by omega
                          obtain rfl : m = 0 := by omega
                          have VT := Lib.hid (HVS.out.takeV 0 (Nat.le_refl _))
                          have VD := Lib.hid (HVS.out.endV (A' := none) (d := 0) (by omega) (fun _ => rfl))
                          have OA := Lib.hid (lit0 wr.drew wr.heap.size wr.heap.size rfl (Nat.le_refl _))
                          have OB := Lib.hid ((lit0 wr.drew wr.heap.size wr.heap.size rfl (Nat.le_refl _)).alloc (.cells #[.slice (some ⟨bC, oC, none⟩) q d] 31))
                          have OC := Lib.hid (lit0 (wr.drew.alloc (.cells #[.slice (some ⟨bC, oC, none⟩) q d] 31)) wr.heap.size (wr.heap.size + 1) (by simp) (by simp))
                          have hlt1 : (vs2.take 0).length + 1 ≤ 4398046511104 := by rw [List.length_take]; omega
                          have RB : Hid (VBlk ((wr.drew.alloc (.cells #[] 31)).alloc (.cells #[.slice (some ⟨bC, oC, none⟩) q d] 31)) (wr.heap.size + 1) [.slice (some ⟨bC, oC, none⟩) q d]) := Lib.hid (by
                            have h1 := vblk_list (wr.drew.alloc (.cells #[] 31)) [.slice (some ⟨bC, oC, none⟩) q d] (sv_one _ _ _)
                            have h2 : (wr.drew.alloc (.cells #[] 31)).heap.size = wr.heap.size + 1 := by simp
                            rw [h2] at h1
                            exact h1)
                          have RC : Hid (VBlk ((wr.drew.alloc (.cells #[.slice (some ⟨bC, oC, none⟩) q d] 31)).alloc (.cells #[] 31)) wr.heap.size [.slice (some ⟨bC, oC, none⟩) q d]) := Lib.hid ((vblk_list wr.drew [.slice (some ⟨bC, oC, none⟩) q d] (sv_one _ _ _)).alloc (.cells #[] 31))
                          go_region_held3 (fun W => Below wr.heap.size wr W)
                            (first
                              | exact (Below.refl _ _).drew
                              | (refine Below.alloc (by assumption) (Below.size (by assumption)) _)
                              | (refine Below.trans (by assumption) hbc)
                              | (refine Below.trans (by assumption) hbb)
                              | (refine Below.trans (by assumption) hba))
                            (first
                              | (refine vstep_app_atO _ (by rfl) (.tmp 131) (.tmp 134) (by rfl) wr.heap.size _ _ (by rfl) OA.out none 0 0 (by rfl) (vs2.take 0) (VT.out.below (by assumption)) (by simp <;> omega) (by simp <;> omega) ?_; intro va wa hoa hga hata; have hba := OA.out.grownBelow hga (by simp <;> omega); have hsa : wr.heap.size ≤ wa.heap.size := Nat.le_trans (by simp <;> omega) hba.size; have hrw : VSl (wa.alloc (.cells #[.slice (some ⟨bC, oC, none⟩) q d] 31)) (some ⟨wa.heap.size, 0, none⟩) 1 1 [.slice (some ⟨bC, oC, none⟩) q d] := (vblk_list wa [.slice (some ⟨bC, oC, none⟩) q d] (sv_one _ _ _)).sl (by simp))
                              | (refine vstep_app_atO _ (by rfl) (.tmp 131) (.tmp 134) (by rfl) wr.heap.size _ _ (by rfl) OB.out none 0 0 (by rfl) (vs2.take 0) (VT.out.below (by assumption)) (by simp <;> omega) (by simp <;> omega) ?_; intro va wa hoa hga hata; have hba := OB.out.grownBelow hga (by simp <;> omega); have hsa : wr.heap.size ≤ wa.heap.size := Nat.le_trans (by simp <;> omega) hba.size; have hrw : VSl (wa.alloc (.cells #[.slice (some ⟨bC, oC, none⟩) q d] 31)) (some ⟨wa.heap.size, 0, none⟩) 1 1 [.slice (some ⟨bC, oC, none⟩) q d] := (vblk_list wa [.slice (some ⟨bC, oC, none⟩) q d] (sv_one _ _ _)).sl (by simp); have hrb := (RB.out.grown (g' := wr.heap.size) hga (by simp)).sl (by simp))
                              | (refine vstep_app_atO _ (by rfl) (.tmp 131) (.tmp 134) (by rfl) wr.heap.size _ _ (by rfl) OC.out none 0 0 (by rfl) (vs2.take 0) (VT.out.below (by assumption)) (by simp <;> omega) (by simp <;> omega) ?_; intro va wa hoa hga hata; have hba := OC.out.grownBelow hga (by simp <;> omega); have hsa : wr.heap.size ≤ wa.heap.size := Nat.le_trans (by simp <;> omega) hba.size; have hrw : VSl (wa.alloc (.cells #[.slice (some ⟨bC, oC, none⟩) q d] 31)) (some ⟨wa.heap.size, 0, none⟩) 1 1 [.slice (some ⟨bC, oC, none⟩) q d] := (vblk_list wa [.slice (some ⟨bC, oC, none⟩) q d] (sv_one _ _ _)).sl (by simp); have hrb := (RC.out.grown (g' := wr.heap.size + 1) hga (by simp)).sl (by simp))
                              | (refine vstep_app_at _ (by rfl) (.tmp 135) (.tmp 137) (by rfl) wr.heap.size _ _ (by rfl) (hoa.alloc (.cells #[.slice (some ⟨bC, oC, none⟩) q d] 31)) ⟨wa.heap.size, 0, none⟩ 1 1 (by rfl) [.slice (some ⟨bC, oC, none⟩) q d] hrw (by rw [List.nil_append]; exact hlt1) (Nat.le_trans hsa (by simp)) ?_; intro vb wb hob hgb hatb; have hbb := (hoa.alloc (.cells #[.slice (some ⟨bC, oC, none⟩) q d] 31)).grownBelow hgb (Nat.le_trans hsa (by simp)); have hsb : wr.heap.size ≤ wb.heap.size := Nat.le_trans (Nat.le_trans hsa (by simp)) hbb.size)
                              | (refine vstep_app_at _ (by rfl) (.tmp 135) (.tmp 137) (by rfl) wr.heap.size _ _ (by rfl) hoa ⟨wr.heap.size + 1, 0, none⟩ 1 1 (by rfl) [.slice (some ⟨bC, oC, none⟩) q d] hrb (by rw [List.nil_append]; exact hlt1) hsa ?_; intro vb wb hob hgb hatb; have hbb := hoa.grownBelow hgb hsa; have hsb : wr.heap.size ≤ wb.heap.size := Nat.le_trans hsa hbb.size)
                              | (refine vstep_app_at _ (by rfl) (.tmp 135) (.tmp 137) (by rfl) wr.heap.size _ _ (by rfl) hoa ⟨wr.heap.size, 0, none⟩ 1 1 (by rfl) [.slice (some ⟨bC, oC, none⟩) q d] hrb (by rw [List.nil_append]; exact hlt1) hsa ?_; intro vb wb hob hgb hatb; have hbb := hoa.grownBelow hgb hsa; have hsb : wr.heap.size ≤ wb.heap.size := Nat.le_trans hsa hbb.size)
                              | (refine vstep_app_atO _ (by rfl) (.tmp 138) (.tmp 141) (by rfl) wr.heap.size _ _ (by rfl) hob none 0 0 (by rfl) (vs2.drop 0) (VD.out.below (by assumption)) (by simp only [List.nil_append, List.length_append, List.length_take, List.length_cons, List.length_nil]; omega) hsb ?_; intro vc wc hoc hgc hatc; have hbc := hob.grownBelow hgc hsb)
                              | fail)
                          all_goals
                            have hbW : Below wr.heap.size wr wc := by assumption
                            have hoc2 : VOw wc wr.heap.size vc (vs2.take 0 ++ .slice (some ⟨bC, oC, none⟩) q d :: vs2.drop 0) := by simpa [List.append_assoc] using hoc
                            have HPUT := Lib.hid (HOA.out.put (by rw [HLP.out]; exact hms) hNS.out hbW hbel.size hoc2)
                            have HE2 := Lib.hid (hE.out.put hp1 (t := 0) hxk HNWL.out HSF.out.1 HSF.out.2.1 hno.out.1 hno.out.2 hlast.out.1 hlast.out.2)
                            have hsp2 := put_sp (x := x) (t := 0) hE.out HNWL.out hsp.out.1 hsp.out.2 hRD.out.sp HSF.out.2.2.2.1 HSF.out.2.2.2.2
                            rw [← HTK.out] at hsp2
                            have HSP2 := Lib.hid hsp2
                            have HB2 : Hid (Below w1.heap.size w1 wc) := Lib.hid (hbel.trans (hbW.mono hbel.size))
                            clear hsp2 hoc2 hbW hoc hob hoa hba hbb hbc hga hgb hgc hata hatb hatc
                            go_wp2_with fail
                            exact ⟨⟨k + 1, _, putP p x nw 0 P, by omega, by go_num, by rw [putP_len, HLP.out]; omega, HPUT, HE2, HSP2, HB2.out⟩, by simp [intOf]; omega⟩
                        · obtain ⟨g6, o6, s6⟩ := a6
                          obtain ⟨rfl, rfl⟩ := HBL.out _ _ _ rfl
                          have VT := Lib.hid (HVS.out.takeV m hms)
                          have i9 : (0 : Int) ≤ (m : Int) := by omega
                          have j1 : (m : Int) ≤ (t : Int) := by omega
                          have j2 : (m : Int) ≤ (c6 : Int) := by omega
                          have j3 : (t : Int) ≤ (c6 : Int) := by omega
                          by_cases j4 : c6 = m
                          · have e1 : m = c6 := j4.symm
                            subst e1
                            have e2 : t = m := by omega
                            subst e2
                            have VD := Lib.hid (HVS.out.endV (A' := some ⟨g6, 0, none⟩) (d := 0) (by omega) (fun e => by cases e))
                            have OA := Lib.hid (lit0 wr.drew wr.heap.size wr.heap.size rfl (Nat.le_refl _))
                            have OB := Lib.hid ((lit0 wr.drew wr.heap.size wr.heap.size rfl (Nat.le_refl _)).alloc (.cells #[.slice (some ⟨bC, oC, none⟩) q d] 31))
                            have OC := Lib.hid (lit0 (wr.drew.alloc (.cells #[.slice (some ⟨bC, oC, none⟩) q d] 31)) wr.heap.size (wr.heap.size + 1) (by simp) (by simp))
                            have hlt1 : (vs2.take t).length + 1 ≤ 4398046511104 := by rw [List.length_take]; omega
                            have RB : Hid (VBlk ((wr.drew.alloc (.cells #[] 31)).alloc (.cells #[.slice (some ⟨bC, oC, none⟩) q d] 31)) (wr.heap.size + 1) [.slice (some ⟨bC, oC, none⟩) q d]) := Lib.hid (by
                              have h1 := vblk_list (wr.drew.alloc (.cells #[] 31)) [.slice (some ⟨bC, oC, none⟩) q d] (sv_one _ _ _)
                              have h2 : (wr.drew.alloc (.cells #[] 31)).heap.size = wr.heap.size + 1 := by simp
                              rw [h2] at h1
                              exact h1)
                            have RC : Hid (VBlk ((wr.drew.alloc (.cells #[.slice (some ⟨bC, oC, none⟩) q d] 31)).alloc (.cells #[] 31)) wr.heap.size [.slice (some ⟨bC, oC, none⟩) q d]) := Lib.hid ((vblk_list wr.drew [.slice (some ⟨bC, oC, none⟩) q d] (sv_one _ _ _)).alloc (.cells #[] 31))
                            go_region_held3 (fun W => Below wr.heap.size wr W)
                              (first
                                | exact (Below.refl _ _).drew
                                | (refine Below.alloc (by assumption) (Below.size (by assumption)) _)
                                | (refine Below.trans (by assumption) hbc)
                                | (refine Below.trans (by assumption) hbb)
                                | (refine Below.trans (by assumption) hba))
                              (first
                                | (refine vstep_app_at _ (by rfl) (.tmp 131) (.tmp 134) (by rfl) wr.heap.size _ _ (by rfl) OA.out ⟨g6, 0, none⟩ t t (by rfl) (vs2.take t) (VT.out.below (by assumption)) (by simp <;> omega) (by simp <;> omega) ?_; intro va wa hoa hga hata; have hba := OA.out.grownBelow hga (by simp <;> omega); have hsa : wr.heap.size ≤ wa.heap.size := Nat.le_trans (by simp <;> omega) hba.size; have hrw : VSl (wa.alloc (.cells #[.slice (some ⟨bC, oC, none⟩) q d] 31)) (some ⟨wa.heap.size, 0, none⟩) 1 1 [.slice (some ⟨bC, oC, none⟩) q d] := (vblk_list wa [.slice (some ⟨bC, oC, none⟩) q d] (sv_one _ _ _)).sl (by simp))
                                | (refine vstep_app_at _ (by rfl) (.tmp 131) (.tmp 134) (by rfl) wr.heap.size _ _ (by rfl) OB.out ⟨g6, 0, none⟩ t t (by rfl) (vs2.take t) (VT.out.below (by assumption)) (by simp <;> omega) (by simp <;> omega) ?_; intro va wa hoa hga hata; have hba := OB.out.grownBelow hga (by simp <;> omega); have hsa : wr.heap.size ≤ wa.heap.size := Nat.le_trans (by simp <;> omega) hba.size; have hrw : VSl (wa.alloc (.cells #[.slice (some ⟨bC, oC, none⟩) q d] 31)) (some ⟨wa.heap.size, 0, none⟩) 1 1 [.slice (some ⟨bC, oC, none⟩) q d] := (vblk_list wa [.slice (some ⟨bC, oC, none⟩) q d] (sv_one _ _ _)).sl (by simp); have hrb := (RB.out.grown (g' := wr.heap.size) hga (by simp)).sl (by simp))
                                | (refine vstep_app_at _ (by rfl) (.tmp 131) (.tmp 134) (by rfl) wr.heap.size _ _ (by rfl) OC.out ⟨g6, 0, none⟩ t t (by rfl) (vs2.take t) (VT.out.below (by assumption)) (by simp <;> omega) (by simp <;> omega) ?_; intro va wa hoa hga hata; have hba := OC.out.grownBelow hga (by simp <;> omega); have hsa : wr.heap.size ≤ wa.heap.size := Nat.le_trans (by simp <;> omega) hba.size; have hrw : VSl (wa.alloc (.cells #[.slice (some ⟨bC, oC, none⟩) q d] 31)) (some ⟨wa.heap.size, 0, none⟩) 1 1 [.slice (some ⟨bC, oC, none⟩) q d] := (vblk_list wa [.slice (some ⟨bC, oC, none⟩) q d] (sv_one _ _ _)).sl (by simp); have hrb := (RC.out.grown (g' := wr.heap.size + 1) hga (by simp)).sl (by simp))
                                | (refine vstep_app_at _ (by rfl) (.tmp 135) (.tmp 137) (by rfl) wr.heap.size _ _ (by rfl) (hoa.alloc (.cells #[.slice (some ⟨bC, oC, none⟩) q d] 31)) ⟨wa.heap.size, 0, none⟩ 1 1 (by rfl) [.slice (some ⟨bC, oC, none⟩) q d] hrw (by rw [List.nil_append]; exact hlt1) (Nat.le_trans hsa (by simp)) ?_; intro vb wb hob hgb hatb; have hbb := (hoa.alloc (.cells #[.slice (some ⟨bC, oC, none⟩) q d] 31)).grownBelow hgb (Nat.le_trans hsa (by simp)); have hsb : wr.heap.size ≤ wb.heap.size := Nat.le_trans (Nat.le_trans hsa (by simp)) hbb.size)
                                | (refine vstep_app_at _ (by rfl) (.tmp 135) (.tmp 137) (by rfl) wr.heap.size _ _ (by rfl) hoa ⟨wr.heap.size + 1, 0, none⟩ 1 1 (by rfl) [.slice (some ⟨bC, oC, none⟩) q d] hrb (by rw [List.nil_append]; exact hlt1) hsa ?_; intro vb wb hob hgb hatb; have hbb := hoa.grownBelow hgb hsa; have hsb : wr.heap.size ≤ wb.heap.size := Nat.le_trans hsa hbb.size)
                                | (refine vstep_app_at _ (by rfl) (.tmp 135) (.tmp 137) (by rfl) wr.heap.size _ _ (by rfl) hoa ⟨wr.heap.size, 0, none⟩ 1 1 (by rfl) [.slice (some ⟨bC, oC, none⟩) q d] hrb (by rw [List.nil_append]; exact hlt1) hsa ?_; intro vb wb hob hgb hatb; have hbb := hoa.grownBelow hgb hsa; have hsb : wr.heap.size ≤ wb.heap.size := Nat.le_trans hsa hbb.size)
                                | (refine vstep_app_at _ (by rfl) (.tmp 138) (.tmp 141) (by rfl) wr.heap.size _ _ (by rfl) hob ⟨g6, 0, none⟩ 0 0 (by rfl) (vs2.drop t) (VD.out.below (by assumption)) (by simp only [List.nil_append, List.length_append, List.length_take, List.length_cons, List.length_nil]; omega) hsb ?_; intro vc wc hoc hgc hatc; have hbc := hob.grownBelow hgc hsb)
                                | fail)
                            all_goals
                              have hbW : Below wr.heap.size wr wc := by assumption
                              have hoc2 : VOw wc wr.heap.size vc (vs2.take t ++ .slice (some ⟨bC, oC, none⟩) q d :: vs2.drop t) := by simpa [List.append_assoc] using hoc
                              have HPUT := Lib.hid (HOA.out.put (by rw [HLP.out]; exact hms) hNS.out hbW hbel.size hoc2)
                              have HE2 := Lib.hid (hE.out.put hp1 (t := t) hxk HNWL.out HSF.out.1 HSF.out.2.1 hno.out.1 hno.out.2 hlast.out.1 hlast.out.2)
                              have hsp2 := put_sp (x := x) (t := t) hE.out HNWL.out hsp.out.1 hsp.out.2 hRD.out.sp HSF.out.2.2.2.1 HSF.out.2.2.2.2
                              rw [← HTK.out] at hsp2
                              have HSP2 := Lib.hid hsp2
                              have HB2 : Hid (Below w1.heap.size w1 wc) := Lib.hid (hbel.trans (hbW.mono hbel.size))
                              clear hsp2 hoc2 hbW hoc hob hoa hba hbb hbc hga hgb hgc hata hatb hatc
                              go_wp2_with fail
                              exact ⟨⟨k + 1, _, putP p x nw t P, by omega, by go_num, by rw [putP_len, HLP.out]; omega, HPUT, HE2, HSP2, HB2.out⟩, by simp [intOf]; omega⟩
                          · have hvd := HVS.out.dropV m hms
                            rw [Nat.zero_add] at hvd
                            have VD := Lib.hid hvd
                            clear hvd
                            have OA := Lib.hid (lit0 wr.drew wr.heap.size wr.heap.size rfl (Nat.le_refl _))
                            have OB := Lib.hid ((lit0 wr.drew wr.heap.size wr.heap.size rfl (Nat.le_refl _)).alloc (.cells #[.slice (some ⟨bC, oC, none⟩) q d] 31))
                            have OC := Lib.hid (lit0 (wr.drew.alloc (.cells #[.slice (some ⟨bC, oC, none⟩) q d] 31)) wr.heap.size (wr.heap.size + 1) (by simp) (by simp))
                            have hlt1 : (vs2.take m).length + 1 ≤ 4398046511104 := by rw [List.length_take]; omega
                            have RB : Hid (VBlk ((wr.drew.alloc (.cells #[] 31)).alloc (.cells #[.slice (some ⟨bC, oC, none⟩) q d] 31)) (wr.heap.size + 1) [.slice (some ⟨bC, oC, none⟩) q d]) := Lib.hid (by
                              have h1 := vblk_list (wr.drew.alloc (.cells #[] 31)) [.slice (some ⟨bC, oC, none⟩) q d] (sv_one _ _ _)
                              have h2 : (wr.drew.alloc (.cells #[] 31)).heap.size = wr.heap.size + 1 := by simp
                              rw [h2] at h1
                              exact h1)
                            have RC : Hid (VBlk ((wr.drew.alloc (.cells #[.slice (some ⟨bC, oC, none⟩) q d] 31)).alloc (.cells #[] 31)) wr.heap.size [.slice (some ⟨bC, oC, none⟩) q d]) := Lib.hid ((vblk_list wr.drew [.slice (some ⟨bC, oC, none⟩) q d] (sv_one _ _ _)).alloc (.cells #[] 31))
                            go_region_held3 (fun W => Below wr.heap.size wr W)
                              (first
                                | exact (Below.refl _ _).drew
                                | (refine Below.alloc (by assumption) (Below.size (by assumption)) _)
                                | (refine Below.trans (by assumption) hbc)
                                | (refine Below.trans (by assumption) hbb)
                                | (refine Below.trans (by assumption) hba))
                              (first
                                | (refine vstep_app_at _ (by rfl) (.tmp 131) (.tmp 134) (by rfl) wr.heap.size _ _ (by rfl) OA.out ⟨g6, 0, none⟩ m c6 (by rfl) (vs2.take m) (VT.out.below (by assumption)) (by simp <;> omega) (by simp <;> omega) ?_; intro va wa hoa hga hata; have hba := OA.out.grownBelow hga (by simp <;> omega); have hsa : wr.heap.size ≤ wa.heap.size := Nat.le_trans (by simp <;> omega) hba.size; have hrw : VSl (wa.alloc (.cells #[.slice (some ⟨bC, oC, none⟩) q d] 31)) (some ⟨wa.heap.size, 0, none⟩) 1 1 [.slice (some ⟨bC, oC, none⟩) q d] := (vblk_list wa [.slice (some ⟨bC, oC, none⟩) q d] (sv_one _ _ _)).sl (by simp))
                                | (refine vstep_app_at _ (by rfl) (.tmp 131) (.tmp 134) (by rfl) wr.heap.size _ _ (by rfl) OB.out ⟨g6, 0, none⟩ m c6 (by rfl) (vs2.take m) (VT.out.below (by assumption)) (by simp <;> omega) (by simp <;> omega) ?_; intro va wa hoa hga hata; have hba := OB.out.grownBelow hga (by simp <;> omega); have hsa : wr.heap.size ≤ wa.heap.size := Nat.le_trans (by simp <;> omega) hba.size; have hrw : VSl (wa.alloc (.cells #[.slice (some ⟨bC, oC, none⟩) q d] 31)) (some ⟨wa.heap.size, 0, none⟩) 1 1 [.slice (some ⟨bC, oC, none⟩) q d] := (vblk_list wa [.slice (some ⟨bC, oC, none⟩) q d] (sv_one _ _ _)).sl (by simp); have hrb := (RB.out.grown (g' := wr.heap.size) hga (by simp)).sl (by simp))
                                | (refine vstep_app_at _ (by rfl) (.tmp 131) (.tmp 134) (by rfl) wr.heap.size _ _ (by rfl) OC.out ⟨g6, 0, none⟩ m c6 (by rfl) (vs2.take m) (VT.out.below (by assumption)) (by simp <;> omega) (by simp <;> omega) ?_; intro va wa hoa hga hata; have hba := OC.out.grownBelow hga (by simp <;> omega); have hsa : wr.heap.size ≤ wa.heap.size := Nat.le_trans (by simp <;> omega) hba.size; have hrw : VSl (wa.alloc (.cells #[.slice (some ⟨bC, oC, none⟩) q d] 31)) (some ⟨wa.heap.size, 0, none⟩) 1 1 [.slice (some ⟨bC, oC, none⟩) q d] := (vblk_list wa [.slice (some ⟨bC, oC, none⟩) q d] (sv_one _ _ _)).sl (by simp); have hrb := (RC.out.grown (g' := wr.heap.size + 1) hga (by simp)).sl (by simp))
                                | (refine vstep_app_at _ (by rfl) (.tmp 135) (.tmp 137) (by rfl) wr.heap.size _ _ (by rfl) (hoa.alloc (.cells #[.slice (some ⟨bC, oC, none⟩) q d] 31)) ⟨wa.heap.size, 0, none⟩ 1 1 (by rfl) [.slice (some ⟨bC, oC, none⟩) q d] hrw (by rw [List.nil_append]; exact hlt1) (Nat.le_trans hsa (by simp)) ?_; intro vb wb hob hgb hatb; have hbb := (hoa.alloc (.cells #[.slice (some ⟨bC, oC, none⟩) q d] 31)).grownBelow hgb (Nat.le_trans hsa (by simp)); have hsb : wr.heap.size ≤ wb.heap.size := Nat.le_trans (Nat.le_trans hsa (by simp)) hbb.size)
                                | (refine vstep_app_at _ (by rfl) (.tmp 135) (.tmp 137) (by rfl) wr.heap.size _ _ (by rfl) hoa ⟨wr.heap.size + 1, 0, none⟩ 1 1 (by rfl) [.slice (some ⟨bC, oC, none⟩) q d] hrb (by rw [List.nil_append]; exact hlt1) hsa ?_; intro vb wb hob hgb hatb; have hbb := hoa.grownBelow hgb hsa; have hsb : wr.heap.size ≤ wb.heap.size := Nat.le_trans hsa hbb.size)
                                | (refine vstep_app_at _ (by rfl) (.tmp 135) (.tmp 137) (by rfl) wr.heap.size _ _ (by rfl) hoa ⟨wr.heap.size, 0, none⟩ 1 1 (by rfl) [.slice (some ⟨bC, oC, none⟩) q d] hrb (by rw [List.nil_append]; exact hlt1) hsa ?_; intro vb wb hob hgb hatb; have hbb := hoa.grownBelow hgb hsa; have hsb : wr.heap.size ≤ wb.heap.size := Nat.le_trans hsa hbb.size)
                                | (refine vstep_app_at _ (by rfl) (.tmp 138) (.tmp 141) (by rfl) wr.heap.size _ _ (by rfl) hob ⟨g6, m, none⟩ (t - m) (c6 - m) (by rfl) (vs2.drop m) (VD.out.below (by assumption)) (by simp only [List.nil_append, List.length_append, List.length_take, List.length_cons, List.length_nil]; omega) hsb ?_; intro vc wc hoc hgc hatc; have hbc := hob.grownBelow hgc hsb)
                                | fail)
                            all_goals
                              have hbW : Below wr.heap.size wr wc := by assumption
                              have hoc2 : VOw wc wr.heap.size vc (vs2.take m ++ .slice (some ⟨bC, oC, none⟩) q d :: vs2.drop m) := by simpa [List.append_assoc] using hoc
                              have HPUT := Lib.hid (HOA.out.put (by rw [HLP.out]; exact hms) hNS.out hbW hbel.size hoc2)
                              have HE2 := Lib.hid (hE.out.put hp1 (t := m) hxk HNWL.out HSF.out.1 HSF.out.2.1 hno.out.1 hno.out.2 hlast.out.1 hlast.out.2)
                              have hsp2 := put_sp (x := x) (t := m) hE.out HNWL.out hsp.out.1 hsp.out.2 hRD.out.sp HSF.out.2.2.2.1 HSF.out.2.2.2.2
                              rw [← HTK.out] at hsp2
                              have HSP2 := Lib.hid hsp2
                              have HB2 : Hid (Below w1.heap.size w1 wc) := Lib.hid (hbel.trans (hbW.mono hbel.size))
                              clear hsp2 hoc2 hbW hoc hob hoa hba hbb hbc hga hgb hgc hata hatb hatc
                              go_wp2_with fail
                              exact ⟨⟨k + 1, _, putP p x nw m P, by omega, by go_num, by rw [putP_len, HLP.out]; omega, HPUT, HE2, HSP2, HB2.out⟩, by simp [intOf]; omega⟩
              · rw [hx] at hFR
                have FR := Lib.hid (fun W (hb : Below wr.heap.size wr W) => hFR W (hNR.out.1.below hb))
                have hps := put_none hsp.out.1 hsp.out.2 hRD.out.sp hzero
                rw [← htake] at hps
                have HPS := Lib.hid hps
                have HOU := Lib.hid (hout.out.below hbW)
                have HBF : Hid (Below w1.heap.size w1 wr) := Lib.hid (HBR.out.trans (hbW.mono HBR.out.size))
                clear hFR hz htake hx hzero hps hbW
                go_wp2_with (go_at_call 23; (with_reducible refine (FR.out _ (Below.refl _ _)).mono ?_); rintro e w0 ⟨rfl, rfl⟩)
                exact ⟨⟨k + 1, vs, P, by omega, by go_num, by rw [HLP.out]; omega, Lib.hid (by have := HOU.out; rw [HLP.out] at this; exact this), hE, HPS, HBF.out⟩, by simp [intOf]; omega⟩
    · obtain rfl : k = n := by omega
      obtain ⟨A', c', e, hs, hnew⟩ := hout.out.1.sl
      rw [hout.out.2.1] at e hs
      have e2 : M.take k = M := List.take_of_length_le (by rw [← HNL.out]; exact Nat.le_refl _)
      have hfin : EchOut p nc M w u6 wr := by
        refine ⟨P, A', P.length, c', e, ⟨vs, hs, by simp [rowsOf], fun i hi => ?_⟩, ⟨P, rfl, hE.out, ?_, ?_⟩, HB1.out.trans (hbel.mono hsz1)⟩
        · obtain ⟨C, d, e3, k1, _⟩ := hout.out.2.2 i hi
          refine ⟨C, nc, d, e3, ?_⟩
          have : (rowsOf P).getD i [] = prow P i := by
            unfold rowsOf prow
            rw [List.getD_eq_getElem?_getD, List.getD_eq_getElem?_getD, List.getElem?_map]
            cases P[i]? <;> rfl
          rw [this]; exact k1
        · rw [← e2]; exact hsp.out.1
        · have := hsp.out.2
          rw [e2] at this
          exact this
      have HF := Lib.hid hfin
      clear hfin hs hnew e e2
      go_wp2_with fail
      go_ret2
      exact ⟨_, rfl, HF.out⟩
end Go.Proofs.YtipdnfdeacdkgaaDoor

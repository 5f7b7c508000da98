/- flin.nullBasis and Null, by their contracts. -/
import Derived.Test.YtipdnfdeacdkgaaDoorFlnTop
import Derived.Deep.RegionLaw
namespace Go.Proofs.YtipdnfdeacdkgaaDoor
open Go.RowKit Go.Shelf

theorem freeB_snoc {P : List (Nat × List Int)} {q : Nat} (hq : q < P.length) (c : Nat) : freeB (P.take (q + 1)) c = (freeB (P.take q) c && (plc P q != c)) := by
  unfold freeB
  rw [List.take_succ_eq_append_getElem hq, List.all_append, plc_at hq]
  simp
/-- Which columns are taken. -/
def TakL (P : List (Nat × List Int)) (n q : Nat) (L : List Bool) : Prop := L.length = n ∧ ∀ j, L.getD j false = (!freeB (P.take q) j && decide (j < n))
theorem tak_zero (P : List (Nat × List Int)) (n : Nat) : TakL P n 0 (List.replicate n false) := ⟨by simp, fun j => by
  rw [List.getD_eq_getElem?_getD, List.getElem?_replicate]
  by_cases h : j < n <;> simp [h, freeB]⟩
theorem TakL.step {P : List (Nat × List Int)} {n q : Nat} {L : List Bool} (h : TakL P n q L) (hq : q < P.length) (hn : plc P q < n) : TakL P n (q + 1) (L.set (plc P q) true) := by
  refine ⟨by rw [List.length_set]; exact h.1, fun j => ?_⟩
  rw [freeB_snoc hq, List.getD_eq_getElem?_getD]
  by_cases e : j = plc P q
  · subst e
    rw [List.getElem?_set_self (by rw [h.1]; exact hn)]
    simp [hn]
  · rw [List.getElem?_set_ne (fun k => e k.symm), ← List.getD_eq_getElem?_getD, h.2 j]
    have : (plc P q != j) = true := by simp; exact fun k => e k.symm
    rw [this, Bool.and_true]
theorem nulV_none (p : Int) (n c : Nat) (P : List (Nat × List Int)) : nulV p n c (P.take 0) = (List.replicate n 0).set c 1 := by
  rw [List.take_zero]; rfl

set_option maxRecDepth 100000 in
set_option maxHeartbeats 8000000 in
theorem fBasis_any (R : Option Addr) (m d : Nat) (P : List (Nat × List Int)) (n : Nat) (p : Int) (w : World) (hR : RowsAt w R m d P) (hE : EchP p n P) (hn : n ≤ 64) (hm : m ≤ 64) (hp : Md p) (hp2' : 2 ≤ p) :
    Calls Tryd.prog 25 #[.slice R m d, .int .i64 (n : Int), .int .i64 p] w fun e w' => ∃ A k c, e = .returned (.slice A k c) ∧ MatAt w' A k c (nulL p n P n) ∧ Below w.heap.size w w' := by
  have hp1 := hp.1
  have hp2 := hp.2
  have hrl := hR.le
  have hrm := hR.max
  have HR := Lib.hid hR
  have HPL := Lib.hid hR.len
  have EE := Lib.hid hE
  have RED := Lib.hid (fun (a : Int) (w : World) => pRed_md a p hp w)
  clear hR hE hp
  go_enter Tryd.func25, Tryd.ntmps25
  go_wp2_with (at_make; refine wpList_make_bools _ rfl _ _ rfl _ _ _ _ n rfl rfl rfl rfl (by omega) ?_; intro w3 hk3 hb3; have HK3 := Lib.hid hk3; have HB3 := Lib.hid hb3; clear hk3 hb3)
  go_loopw [20] (fun i wr => ∃ q : Nat, q ≤ m ∧ i = .int .i64 (q : Int) ∧ ∃ L, Hid (BBk wr w.heap.size L) ∧ Hid (TakL P n q L) ∧ Hid (Below w.heap.size w wr)) (fun i _ => m - (intOf i).toNat)
  case atStart => exact ⟨0, Nat.zero_le _, rfl, _, HK3, Lib.hid (tak_zero P n), HB3⟩
  case round =>
    clear HK3 HB3
    obtain ⟨q, hq, rfl, L, hK, hI, hbel⟩ := hrel
    obtain ⟨gF, hgF⟩ : ∃ g, w.heap.size = g := ⟨_, rfl⟩
    have HGF := Lib.hid hgF
    have hbg := hbel.out
    rw [hgF] at hK hbg ⊢
    have HBG : Hid (Below gF w wr) := Lib.hid (by rw [← hgF]; exact hbel.out)
    have hszg : gF ≤ wr.heap.size := by rw [← hgF]; exact hbel.out.size
    clear hgF hbg
    by_cases hlt : q < m
    · obtain ⟨b6, o6, rfl, hb6, hcr⟩ := HR.out.open_ (by omega)
      obtain ⟨hk1, C, k, dk, hk2, hk3⟩ := hcr q hlt
      rw [← hbel.out.cell (p := ⟨b6, o6 + q * 2, none⟩) hb6] at hk1
      rw [← hbel.out.cell (p := ⟨b6, o6 + q * 2 + 1, none⟩) hb6] at hk2
      have hqP : q < P.length := by rw [← HPL.out]; exact hlt
      have hpn : plc P q < n := by rw [plc_at hqP]; exact EE.out.lt _ (List.getElem_mem hqP)
      have hst := hI.out.step hqP hpn
      generalize plc P q = a at *
      have HST := Lib.hid hst
      have hfc := hK.out.cell a (by rw [hI.out.1]; exact hpn)
      have hff := hK.out.frozen a
      obtain ⟨fb, hfb⟩ : ∃ fb, L.getD a false = fb := ⟨_, rfl⟩
      rw [hfb] at hfc
      have gF' := hK.out.lt
      have i1 : (0 : Int) ≤ (q : Int) := by omega
      have i2 : (q : Int) < (m : Int) := by omega
      have i3 : (0 : Int) ≤ (a : Int) := by omega
      have i4 : (a : Int) < (n : Int) := by omega
      have g6 := Nat.lt_of_lt_of_le hb6 hbel.out.size
      clear hcr hk3 hst hfb
      go_wp2_with fail
      go_roundw
      case rel => exact ⟨q + 1, by omega, by go_num, L.set a true, Lib.hid ((hK.out.set_ a true).below (below_al _ _)), HST, Lib.hid ((HBG.out.setCell (p := ⟨gF, a, none⟩) (Nat.le_refl _) _).alloc (by have := hszg; simpa [World.setCell] using this) _)⟩
      case measure => simp [intOf]; omega
    · obtain rfl : q = m := by omega
      obtain ⟨wB, rfl⟩ : ∃ wB, wB = wr := ⟨wr, rfl⟩
      have hTk := hI.out
      unfold TakL at hTk
      rw [List.take_of_length_le (by rw [← HPL.out]; exact Nat.le_refl _)] at hTk
      have HTK := Lib.hid hTk
      have gF' := hK.out.lt
      clear hTk
      go_wp2_with fail
      go_loopw [31, 10] (fun i u wr => ∃ c : Nat, c ≤ n ∧ i = .int .i64 (c : Int) ∧ Hid (GAt wr wB.heap.size u (nulL p n P c)) ∧ Hid (Below wB.heap.size wB wr)) (fun i _ _ => n - (intOf i).toNat)
      case atStart => exact ⟨0, Nat.zero_le _, rfl, Lib.hid (GAt.nil _ _), Lib.hid (Below.refl _ _)⟩
      case round =>
        obtain ⟨c, hc, rfl, hG, hbc⟩ := hrel
        by_cases hcn : c < n
        · have hfc := (hK.out.below hbc.out).cell c (by rw [HTK.out.1]; exact hcn)
          rw [HTK.out.2 c, show decide (c < n) = true from decide_eq_true hcn, Bool.and_true] at hfc
          have i1 : (0 : Int) ≤ (c : Int) := by omega
          have i2 : (c : Int) < (n : Int) := by omega
          have gF2 := Nat.lt_of_lt_of_le gF' hbc.out.size
          have NY := Lib.hid (fun h => @nulL_yes p n P c h)
          have NN := Lib.hid (fun h => @nulL_no p n P c h)
          have FI := Lib.hid (@freeB_iff P c)
          cases hfr : freeB P c with
          | false =>
            rw [hfr] at hfc
            have hG2 := hG.out
            rw [← NN.out hfr] at hG2
            have HG2 := Lib.hid hG2
            clear hG2 hfr NY NN FI
            go_wp2_with fail
            exact ⟨⟨c + 1, by omega, by go_num, HG2, hbc⟩, by simp [intOf]; omega⟩
          | true =>
            rw [hfr] at hfc
            have hny := NY.out hfr
            have HNY := Lib.hid hny
            have HFI := Lib.hid (FI.out.1 hfr)
            clear hny hfr NY NN FI
            obtain ⟨wo, rfl⟩ : ∃ wo, wo = wr := ⟨wr, rfl⟩
            go_wp2_with (at_make; refine wpList_make_ints _ rfl _ _ rfl _ _ _ _ n rfl rfl rfl rfl (by omega) ?_; intro w5 hk5 hb5; have hc5 := hk5.cellD c (by simp; omega); have hf5 := hk5.frozen c; have HK5 := Lib.hid hk5; have HB5 := Lib.hid hb5; clear hk5 hb5)
            have hV0 := HK5.out.set_ c 1 (by unfold In64; omega)
            rw [← nulV_none p n c P] at hV0
            have HV0 := Lib.hid hV0
            have HBV0 := Lib.hid (HB5.out.setCell (p := ⟨wo.heap.size, c, none⟩) (Nat.le_refl _) (iv 1))
            obtain ⟨gv, hgv⟩ : ∃ g, wo.heap.size = g := ⟨_, rfl⟩
            have HGV := Lib.hid hgv
            rw [hgv] at HV0 HBV0 ⊢
            clear hV0 hgv hc5 hf5 HK5 HB5
            generalize w5.setCell ⟨gv, c, none⟩ (iv 1) = w6 at *
            have hbO := hbel.out.trans (hbc.out.mono hbel.out.size)
            have HBO := Lib.hid hbO
            clear hbO
            have hgo : wo.heap.size ≤ gv := by rw [HGV.out]; exact Nat.le_refl _
            go_loopw [44] (fun i wr => ∃ t : Nat, t ≤ q ∧ i = .int .i64 (t : Int) ∧ Hid (IBlk wr gv (nulV p n c (P.take t))) ∧ Hid (Below wo.heap.size wo wr)) (fun i _ => q - (intOf i).toNat)
            case atStart => exact ⟨0, Nat.zero_le _, rfl, HV0, Lib.hid (by have := HBV0.out; rw [← HGV.out] at this; exact this)⟩
            case round =>
              clear HV0 HBV0
              obtain ⟨t, ht, rfl, hV, hbq⟩ := hrel
              by_cases htl : t < q
              · have hbW := HBO.out.trans (hbq.out.mono HBO.out.size)
                obtain ⟨b6, o6, rfl, hb6, hcr⟩ := HR.out.open_ (by omega)
                obtain ⟨hk1, C, k, dk, hk2, hk3⟩ := hcr t htl
                rw [← hbW.cell (p := ⟨b6, o6 + t * 2, none⟩) hb6] at hk1
                rw [← hbW.cell (p := ⟨b6, o6 + t * 2 + 1, none⟩) hb6] at hk2
                have htP : t < P.length := by rw [← HPL.out]; exact htl
                have hmP := List.getElem_mem htP
                have hpn : plc P t < n := by rw [plc_at htP]; exact EE.out.lt _ hmP
                have hrl' : (prow P t).length = n := by rw [prow_at htP]; exact EE.out.len _ hmP
                have hrs : Rs p (prow P t) := by rw [prow_at htP]; exact EE.out.rs _ hmP
                have hsn := nulV_snoc (p := p) (n := n) (c := c) htP
                rw [if_neg (HFI.out _ hmP), ← plc_at htP, ← prow_at htP] at hsn
                have hkn : k = n := by rw [hk3.len, hrl']
                have hle6 := hk3.le
                have hmx6 := hk3.max
                have hk4 := hk3.below hbW
                obtain ⟨bC, oC, rfl, hbC, hcC⟩ := hk4.cfs (by omega)
                have hx := hcC c (by omega)
                have bx := hrs.at hp1 c
                have R1 := RED.out (-(cf (prow P t) c))
                have bz : 0 ≤ (-(cf (prow P t) c)) % p ∧ (-(cf (prow P t) c)) % p < p := ⟨Int.emod_nonneg _ (by omega), Int.emod_lt_of_pos _ (by omega)⟩
                generalize cf (prow P t) c = x at *
                obtain ⟨z, hz⟩ : ∃ z, (-x) % p = z := ⟨_, rfl⟩
                rw [hz] at R1 hsn bz
                generalize plc P t = a at *
                have HR1 := Lib.hid R1
                have HSN := Lib.hid hsn
                have hvl : (nulV p n c (P.take t)).length = n := nulV_len _ _ _ _
                have hvc := hV.out.cellD a (by rw [hvl]; exact hpn)
                have hvf := hV.out.frozen a
                obtain ⟨y, hy⟩ : ∃ y, (nulV p n c (P.take t)).getD a 0 = y := ⟨_, rfl⟩
                rw [hy] at hvc
                have gvl := hV.out.lt
                have g6 := Nat.lt_of_lt_of_le hb6 hbW.size
                have m1 : IntKind.i64.wrap (-x) = -x := by rw [IntKind.wrap_i64]; omega
                have i3 : (0 : Int) ≤ (t : Int) := by omega
                have i4 : (t : Int) < (q : Int) := by omega
                have i5 : (0 : Int) ≤ (a : Int) := by omega
                have i6 : (a : Int) < (n : Int) := by omega
                have i7 : (c : Int) < (k : Int) := by omega
                have bz1 := bz.1
                have bz2 := bz.2
                have HBQ := Lib.hid hbq.out
                have hszo : wo.heap.size ≤ wr.heap.size := hbq.out.size
                clear hcr hk3 hk4 hcC R1 hsn hz hvl hy hrs hrl' hbW hmP bx hkn hbq
                go_wp2_with fail
                go_region_law (first
                  | (go_simp; go_at_call 37; (with_reducible refine (HR1.out _).mono ?_); rintro e w7 ⟨rfl, rfl⟩)
                  | (go_at_call 37; (with_reducible refine (HR1.out _).mono ?_); rintro e w7 ⟨rfl, rfl⟩)
                  | fail)
                all_goals
                  go_wp2_with fail
                  exact ⟨⟨t + 1, by omega, by go_num, Lib.hid (by rw [HSN.out]; exact ((hV.out.set_ a z (by unfold In64; omega)).alloc _).drew), Lib.hid ((HBQ.out.setCell (p := ⟨gv, a, none⟩) hgo _).alloc (by have := hszo; simpa [World.setCell] using this) _).drew⟩, by simp [intOf]; omega⟩
              · obtain rfl : t = q := by omega
                have hV2 := hV.out
                rw [List.take_of_length_le (by rw [← HPL.out]; exact Nat.le_refl _)] at hV2
                have hvl : (nulV p n c P).length = n := nulV_len _ _ _ _
                have hvs := hV2.sl (by omega)
                rw [hvl] at hvs
                obtain ⟨V, hVV⟩ : ∃ V, nulV p n c P = V := ⟨_, rfl⟩
                rw [hVV] at hvs HNY
                have HVS := Lib.hid (isl_al hvs (.cells #[.slice (some ⟨gv, 0, none⟩) n n] 31))
                have hap : ApO (some ⟨gv, 0, none⟩) V u10.ownBlock := .inr fun b' o' s' e' e2 => by
                  have := (hG.out.lt e2.symm).2
                  simp only [Option.some.injEq, Addr.mk.injEq] at e'
                  omega
                have HAP := Lib.hid hap
                have hszo : wo.heap.size ≤ wr.heap.size := hbq.out.size
                have HG2 := Lib.hid ((hG.out.below hbq.out).below (below_al wr (.cells #[.slice (some ⟨gv, 0, none⟩) n n] 31)))
                have HB2 := Lib.hid ((hbc.out.trans (hbq.out.mono hbc.out.size)).alloc (Nat.le_trans hbc.out.size hszo) (.cells #[.slice (some ⟨gv, 0, none⟩) n n] 31))
                have HVB := Lib.hid (vblk_list wr [.slice (some ⟨gv, 0, none⟩) n n] (sv_one _ _ _))
                have hgl : (nulL p n P c).length ≤ 1000 := by
                  unfold nulL
                  rw [List.length_map]
                  have := List.length_filter_le (freeB P) (List.range c)
                  rw [List.length_range] at this
                  omega
                clear hV2 hvl hvs hVV hap
                go_wp2_with (at_builtin; refine gwpList_app _ rfl (.tmp 61) (.tmp 63) rfl wB.heap.size _ _ rfl HG2.out _ rfl _ _ _ HVB.out V HVS.out HAP.out hgl HB2.out.size ?_; intro v8 w8 hg8 hb8)
                rw [← HNY.out] at hg8
                have HG8 := Lib.hid hg8
                have HB8 := Lib.hid (HB2.out.trans hb8)
                clear hg8 hb8
                go_wp2_with fail
                exact ⟨⟨c + 1, by omega, by go_num, HG8, HB8⟩, by simp [intOf]; omega⟩
        · obtain rfl : c = n := by omega
          obtain ⟨A2, c2, rfl, hmat⟩ := hG.out.mat
          have HMT := Lib.hid hmat
          clear hmat
          go_wp2_with fail
          go_ret
          exact ⟨_, _, _, rfl, HMT.out, hbel.out.trans (hbc.out.mono hbel.out.size)⟩
end Go.Proofs.YtipdnfdeacdkgaaDoor

/- cleaverref07.Echelon and Null, by their contracts. -/
import Derived.Test.YtipdnfdeacdkgaaDoorLinEch
import Derived.Test.YtipdnfdeacdkgaaDoorLinGat
import Derived.BigQuiet
import Derived.Deep.RegionLaw
namespace Go.Proofs.YtipdnfdeacdkgaaDoor
open Go.RowKit

theorem below_alN (w : World) (o : Obj) : Below w.heap.size w (w.alloc o) := (Below.refl _ _).alloc (Nat.le_refl _) _
theorem rEchelon_any (A : Option Addr) (n c : Nat) (M : List (List Int)) (p : Int) (w : World) (h : MatAt w A n c M) (ip : In64 p) :
    Calls Tryd.prog 11 #[.slice A n c, .int .i64 p] w fun e w' => RowsOut w (echV p M) (codeP (Right p M)) e w' := by
  rcases Classical.em (Right p M) with hr | hr
  · rw [codeP_yes hr, show echV p M = rowsOf (echP p (cols M) M) from by unfold echV; rw [ansB_yes hr]]
    refine (refEch_any A n c (cols M) M p w h hr (fun i hi => hr.len hi) hr.cols).mono ?_
    rintro e w' ⟨v, rfl, P, A1, m1, c1, rfl, hM, hI, hb⟩
    obtain ⟨Q, hQ, e⟩ := hI.of
    rw [echP_eq hr.1.1 hQ, ← e]
    exact ⟨_, _, _, rfl, hM, hb⟩
  · rw [codeP_no hr, show echV p M = [] from by unfold echV; rw [ansB_no hr]]
    refine (refEch_not A n c M p w h ip hr).mono ?_
    rintro e w' ⟨rfl, hb⟩
    exact ⟨_, _, _, rfl, mat_nil _, hb⟩

def plcN (P : List (Nat × List Int)) (i : Nat) : Nat := (P.getD i (0, [])).1
theorem plcN_at {P : List (Nat × List Int)} {i : Nat} (h : i < P.length) : plcN P i = (P[i]).1 := by
  unfold plcN
  rw [List.getD_eq_getElem?_getD, List.getElem?_eq_getElem h]
  rfl
theorem freeN_snoc {P : List (Nat × List Int)} {q : Nat} (hq : q < P.length) (c : Nat) : freeB (P.take (q + 1)) c = (freeB (P.take q) c && (plcN P q != c)) := by
  unfold freeB
  rw [List.take_succ_eq_append_getElem hq, List.all_append, plcN_at hq]
  simp
theorem nulN_none (p : Int) (n c : Nat) (P : List (Nat × List Int)) : nulV p n c (P.take 0) = (List.replicate n 0).set c 1 := by
  rw [List.take_zero]; rfl
theorem rowsOf_getD (P : List (Nat × List Int)) (i : Nat) : (rowsOf P).getD i [] = prow P i := by
  unfold rowsOf prow
  rw [List.getD_eq_getElem?_getD, List.getD_eq_getElem?_getD, List.getElem?_map]
  cases P[i]? <;> rfl

set_option maxHeartbeats 2000000 in
theorem rNull_not (A : Option Addr) (m c : Nat) (M : List (List Int)) (n p : Int) (w : World) (h : MatAt w A m c M) (ip : In64 p) (ho : ¬ NulOk p M n) :
    Calls Tryd.prog 14 #[.slice A m c, .int .i64 n, .int .i64 p] w fun e w' => e = .returned (.tuple #[.slice none 0 0, .int .i64 1]) ∧ Below w.heap.size w w' := by
  have hcl := h.le
  have hcm := h.max
  have C := right_any A m c M p w h ip
  rcases Classical.em (Right p M) with hr | hr
  · rw [rightB_yes hr] at C
    have CC := Lib.hid C
    have HNL := Lib.hid h.len
    have H := Lib.hid h
    have HO := Lib.hid ho
    have HR := Lib.hid hr
    clear C h ip ho hr
    by_cases h0 : n < 0
    · go_enter Tryd.func14, Tryd.ntmps14
      go_wp2_with (go_at_call 20; (with_reducible refine CC.out.mono ?_); rintro e w1 ⟨rfl, hb1⟩; have HB1 := Lib.hid hb1; clear hb1)
      go_ret2
      exact ⟨rfl, HB1.out⟩
    · by_cases h64 : 64 < n
      · go_enter Tryd.func14, Tryd.ntmps14
        go_wp2_with (go_at_call 20; (with_reducible refine CC.out.mono ?_); rintro e w1 ⟨rfl, hb1⟩; have HB1 := Lib.hid hb1; clear hb1)
        go_ret2
        exact ⟨rfl, HB1.out⟩
      · have hM : 0 < m ∧ (cols M : Int) ≠ n := by
          refine ⟨Classical.byContradiction fun hm => HO.out ⟨HR.out, by omega, by omega, fun h => absurd h (by rw [← HNL.out]; omega)⟩, fun e => HO.out ⟨HR.out, by omega, by omega, fun _ => e⟩⟩
        obtain ⟨hm0, hne⟩ := hM
        obtain ⟨b, o, rfl, hbl, hc⟩ := H.out.open_ hm0
        obtain ⟨C0, k0, d0, hc0, hi0⟩ := hc 0 hm0
        have hk0 : (k0 : Int) ≠ n := by rw [hi0.len]; exact hne
        rw [Nat.add_zero] at hc0
        have CC2 := Lib.hid (fun W (hb : Below w.heap.size w W) => (hb.cell (p := ⟨b, o, none⟩) hbl).trans hc0)
        have i1 : (0 : Int) < (m : Int) := by omega
        have i2 : ((k0 : Int) != n) = true := by simpa using hk0
        have i3 : (0 : Int) ≤ n := by omega
        have i4 : n ≤ 64 := by omega
        have hmx := Nat.le_trans hi0.le hi0.max
        clear hc hi0 hc0 hne hk0
        go_enter Tryd.func14, Tryd.ntmps14
        go_wp2_with (go_at_call 20; (with_reducible refine CC.out.mono ?_); rintro e w1 ⟨rfl, hb1⟩; have HB1 := Lib.hid hb1; have hc1 := CC2.out w1 hb1; clear hb1)
        go_ret2
        exact ⟨rfl, HB1.out⟩
  · rw [rightB_no hr] at C
    have CC := Lib.hid C
    clear C h ip ho hr
    go_enter Tryd.func14, Tryd.ntmps14
    go_wp2_with (go_at_call 20; (with_reducible refine CC.out.mono ?_); rintro e w1 ⟨rfl, hb1⟩; have HB1 := Lib.hid hb1; clear hb1)
    go_ret2
    exact ⟨rfl, HB1.out⟩

set_option maxRecDepth 100000 in
set_option maxHeartbeats 8000000 in
theorem rNull_yes (A : Option Addr) (m c : Nat) (M : List (List Int)) (n : Nat) (p : Int) (w : World) (h : MatAt w A m c M) (ip : In64 p) (ho : NulOk p M (n : Int)) :
    Calls Tryd.prog 14 #[.slice A m c, .int .i64 (n : Int), .int .i64 p] w fun e w' => ∃ A2 k2 c2, e = .returned (.tuple #[.slice A2 k2 c2, .int .i64 0]) ∧ MatAt w' A2 k2 c2 (nulL p n (echP p n M) n) ∧ Below w.heap.size w w' := by
  have hcl := h.le
  have hcm := h.max
  have C := right_any A m c M p w h ip
  obtain ⟨hr, h0, h64, hcn⟩ := ho
  rw [rightB_yes hr] at C
  have hm64 : m ≤ 64 := by rw [h.len]; exact hr.2.1
  have hp1 := hr.1.md.1
  have hp2 := hr.1.md.2
  have hp3 := hr.1.1
  have hck : 0 < M.length → cols M = n := fun h => by have := hcn h; omega
  have E := Lib.hid (fun W (hb : Below w.heap.size w W) => refEch_any A m c n M p W (h.below hb) hr (fun i hi => by rw [hr.len hi]; exact hck (by omega)) (by omega))
  have UQ := Lib.hid (fun (P : List (Nat × List Int)) (hP : EchOf p n M P) => echP_eq hr.1.1 hP)
  have RED := Lib.hid (fun (a : Int) (w : World) => show Calls Tryd.prog 21 #[.int .i64 a, .int .i64 p] w fun e w' => e = .returned (.int .i64 (a % p)) ∧ w = w' from by
    have := refRed_any a p w (by omega) (by omega)
    rwa [red_pos hp1] at this)
  have HML := Lib.hid h.len
  have CC := Lib.hid C
  have CC2 : Hid (0 < m → ∃ b o d0 C0, A = some ⟨b, o, none⟩ ∧ n ≤ d0 ∧ d0 ≤ 9223372036854775807 ∧ ∀ W, Below w.heap.size w W → W.cell? ⟨b, o, none⟩ = some (.slice C0 n d0)) := Lib.hid fun hm0 => by
    obtain ⟨b, o, rfl, hbl, hc⟩ := h.open_ hm0
    obtain ⟨C0, k0, d0, hc0, hi0⟩ := hc 0 hm0
    have hk0 : k0 = n := by rw [hi0.len]; exact hck (by rw [← HML.out]; exact hm0)
    subst hk0
    rw [Nat.add_zero] at hc0
    exact ⟨b, o, d0, C0, rfl, hi0.le, hi0.max, fun W hb => (hb.cell (p := ⟨b, o, none⟩) hbl).trans hc0⟩
  have hML64 : M.length ≤ 64 := hr.2.1
  have ELEN : Hid (∀ P, EchOf p n M P → P.length ≤ n) := Lib.hid fun P hP => by
    have := nulL_len hP.1
    omega
  generalize echP p n M = R at *
  clear C h ip hr hcn hck
  go_enter Tryd.func14, Tryd.ntmps14
  rcases Nat.eq_zero_or_pos m with hm0 | hm0
  all_goals first
    | (subst hm0
       go_wp2_with (first
         | (go_at_call 20; (with_reducible refine CC.out.mono ?_); rintro e w0 ⟨rfl, hb0⟩; have HB0 := Lib.hid hb0; clear hb0)
         | (go_at_call 11; (with_reducible refine (E.out _ HB0.out).mono ?_); rintro e w1 ⟨v1, rfl, P, A1, m1, c1, rfl, hM1, hI, hb1⟩; have HM1 := Lib.hid hM1; have HI := Lib.hid hI; have HB1 := Lib.hid (HB0.out.trans (hb1.mono HB0.out.size)); clear hM1 hI hb1)))
    | (obtain ⟨b, o, d0, C0, rfl, hd1, hd2, hcell⟩ := CC2.out hm0
       have HCL := Lib.hid hcell
       have i1 : (0 : Int) < (m : Int) := by omega
       clear hcell
       go_wp2_with (first
         | (go_at_call 20; (with_reducible refine CC.out.mono ?_); rintro e w0 ⟨rfl, hb0⟩; have HB0 := Lib.hid hb0; have hc1 := HCL.out w0 hb0; clear hb0)
         | (go_at_call 11; (with_reducible refine (E.out _ HB0.out).mono ?_); rintro e w1 ⟨v1, rfl, P, A1, m1, c1, rfl, hM1, hI, hb1⟩; have HM1 := Lib.hid hM1; have HI := Lib.hid hI; have HB1 := Lib.hid (HB0.out.trans (hb1.mono HB0.out.size)); clear hM1 hI hb1))
       clear hc1 HCL)
  all_goals
    obtain ⟨Q, hQ, eQ⟩ := HI.out.of
    have eR := UQ.out Q hQ
    subst eR
    have hM2 := HM1.out
    rw [eQ] at hM2
    have HMQ := Lib.hid hM2
    have EE := Lib.hid hQ.1
    have hql := ELEN.out _ hQ
    have hm1l : m1 = R.length := by rw [hM2.len]; simp [rowsOf]
    have HPL := Lib.hid hm1l
    have hcl1 := hM2.le
    have hcm1 := hM2.max
    have hm164 : m1 ≤ 64 := by omega
    clear hM2 hQ eQ HM1 HI hm1l E UQ ELEN CC CC2
    obtain ⟨wB, rfl⟩ : ∃ wB, wB = w1 := ⟨w1, rfl⟩
    go_loopw [11, 10] (fun i u wr => ∃ c : Nat, c ≤ n ∧ i = .int .i64 (c : Int) ∧ Hid (GAt wr wB.heap.size u (nulL p n R c)) ∧ Hid (Below wB.heap.size wB wr)) (fun i _ _ => n - (intOf i).toNat)
    case atStart => exact ⟨0, Nat.zero_le _, rfl, Lib.hid (GAt.nil _ _), Lib.hid (Below.refl _ _)⟩
    case round =>
      obtain ⟨k, hk, rfl, hG, hbc⟩ := hrel
      obtain ⟨wo, rfl⟩ : ∃ wo, wo = wr := ⟨wr, rfl⟩
      by_cases hkn : k < n
      · have i1 : (0 : Int) ≤ (k : Int) := by omega
        have i2 : (k : Int) < (n : Int) := by omega
        have NY := Lib.hid (fun h => @nulL_yes p n R k h)
        have NN := Lib.hid (fun h => @nulL_no p n R k h)
        go_wp2_with (at_make; refine wpList_make_ints _ rfl _ _ rfl _ _ _ _ n rfl rfl rfl rfl (by omega) ?_; intro w5 hk5 hb5; have hc5 := hk5.cellD k (by simp; omega); have hf5 := hk5.frozen k; have HK5 := Lib.hid hk5; have HB5 := Lib.hid hb5; clear hk5 hb5)
        have hV0 := HK5.out.set_ k 1 (by unfold In64; omega)
        rw [← nulN_none p n k R] at hV0
        have HV0 := Lib.hid hV0
        have HBV0 := Lib.hid (HB5.out.setCell (p := ⟨wo.heap.size, k, none⟩) (Nat.le_refl _) (iv 1))
        obtain ⟨gv, hgv⟩ : ∃ g, wo.heap.size = g := ⟨_, rfl⟩
        have HGV := Lib.hid hgv
        rw [hgv] at HV0 HBV0 ⊢
        clear hV0 hgv hc5 hf5 HK5 HB5
        generalize w5.setCell ⟨gv, k, none⟩ (iv 1) = w6 at *
        have hgo : wo.heap.size ≤ gv := by rw [HGV.out]; exact Nat.le_refl _
        go_loopw [14, 13] (fun i s wr => ∃ t : Nat, t ≤ m1 ∧ i = .int .i64 (t : Int) ∧ s = .bool (freeB (R.take t) k) ∧ Hid (IBlk wr gv (nulV p n k (R.take t))) ∧ Hid (Below wo.heap.size wo wr)) (fun i _ _ => m1 - (intOf i).toNat)
        case atStart => exact ⟨0, Nat.zero_le _, rfl, rfl, HV0, Lib.hid (by have := HBV0.out; rw [← HGV.out] at this; exact this)⟩
        case round =>
          clear HV0 HBV0
          obtain ⟨t, ht, rfl, rfl, hV, hbq⟩ := hrel
          by_cases htl : t < m1
          · have hbW := hbc.out.trans (hbq.out.mono hbc.out.size)
            obtain ⟨b6, o6, rfl, hb6, hcr⟩ := HMQ.out.open_ (by omega)
            obtain ⟨C, kk, dk, hk2, hk3⟩ := hcr t htl
            rw [rowsOf_getD] at hk3
            rw [← hbW.cell (p := ⟨b6, o6 + t, none⟩) hb6] at hk2
            have htP : t < R.length := by rw [← HPL.out]; exact htl
            have hmP := List.getElem_mem htP
            have hfst := EE.out.fst htP
            have hpn : plcN R t < n := by rw [plcN_at htP]; exact EE.out.lt _ hmP
            rw [← plcN_at htP] at hfst
            have hrl' : (prow R t).length = n := by rw [prow_at htP]; exact EE.out.len _ hmP
            have hrs : Rs p (prow R t) := by rw [prow_at htP]; exact EE.out.rs _ hmP
            have hsn := nulV_snoc (p := p) (n := n) (c := k) htP
            have hfs := freeN_snoc htP k
            rw [← plcN_at htP, ← prow_at htP] at hsn
            have hkn' : kk = n := by rw [hk3.len, hrl']
            have hle6 := hk3.le
            have hmx6 := hk3.max
            have hk4 := hk3.below hbW
            have FST := first_any C kk dk (prow R t)
            rw [hfst] at FST
            have FSh := Lib.hid (fun W (hb : Below wr.heap.size wr W) => FST W (hk4.below hb))
            obtain ⟨bC, oC, rfl, hbC, hcC⟩ := hk4.cfs (by omega)
            have hx := hcC k (by omega)
            have bx := hrs.at hp1 k
            have R1 := RED.out (-(cf (prow R t) k))
            have bz : 0 ≤ (-(cf (prow R t) k)) % p ∧ (-(cf (prow R t) k)) % p < p := ⟨Int.emod_nonneg _ (by omega), Int.emod_lt_of_pos _ (by omega)⟩
            generalize cf (prow R t) k = x at *
            obtain ⟨z, hz⟩ : ∃ z, (-x) % p = z := ⟨_, rfl⟩
            rw [hz] at R1 hsn bz
            have HSN := Lib.hid hsn
            have HFR := Lib.hid hfs
            have g6 := Nat.lt_of_lt_of_le hb6 hbW.size
            have i3 : (0 : Int) ≤ (t : Int) := by omega
            have i4 : (t : Int) < (m1 : Int) := by omega
            have HBQ := Lib.hid hbq.out
            have hszo : wo.heap.size ≤ wr.heap.size := hbq.out.size
            generalize plcN R t = a at *
            by_cases hak : a = k
            · subst hak
              have hsn2 := HSN.out
              rw [if_pos rfl] at hsn2
              have hfs2 := HFR.out
              rw [show (a != a) = false by simp, Bool.and_false] at hfs2
              have HS2 := Lib.hid hsn2
              have HF2 := Lib.hid hfs2
              clear hcr hk3 hk4 hcC R1 hsn hz hrs hrl' hbW hmP bx hkn' hbq hfst FST hfs hsn2 hfs2 HSN HFR
              go_wp2_with (go_at_call 23; (with_reducible refine (FSh.out _ (Below.refl _ _)).mono ?_); rintro e w7 ⟨rfl, rfl⟩)
              exact ⟨⟨t + 1, by omega, by go_num, by rw [HF2.out], Lib.hid (by rw [HS2.out]; exact hV.out), HBQ⟩, by simp [intOf]; omega⟩
            · have i8 : ((a : Int) == (k : Int)) = false := by simp; omega
              have hsn2 := HSN.out
              rw [if_neg hak] at hsn2
              have hfs2 := HFR.out
              rw [show (a != k) = true by simpa using hak, Bool.and_true] at hfs2
              have HS2 := Lib.hid hsn2
              have HF2 := Lib.hid hfs2
              have HR1 := Lib.hid R1
              have hvl : (nulV p n k (R.take t)).length = n := nulV_len _ _ _ _
              have hvc := hV.out.cellD a (by rw [hvl]; exact hpn)
              have hvf := hV.out.frozen a
              obtain ⟨y, hy⟩ : ∃ y, (nulV p n k (R.take t)).getD a 0 = y := ⟨_, rfl⟩
              rw [hy] at hvc
              have gvl := hV.out.lt
              have m1' : IntKind.i64.wrap (-x) = -x := by rw [IntKind.wrap_i64]; omega
              have i5 : (0 : Int) ≤ (a : Int) := by omega
              have i6 : (a : Int) < (n : Int) := by omega
              have i7 : (k : Int) < (kk : Int) := by omega
              have bz1 := bz.1
              have bz2 := bz.2
              clear hcr hk3 hk4 hcC R1 hsn hz hrs hrl' hbW hmP bx hkn' hbq hfst FST hfs hsn2 hfs2 HSN HFR hvl hy
              go_wp2_with (go_at_call 23; (with_reducible refine (FSh.out _ (Below.refl _ _)).mono ?_); rintro e w7 ⟨rfl, rfl⟩)
              go_region_law (first
                | (go_simp; go_at_call 23; (with_reducible refine (FSh.out _ ((Below.refl _ _).drew)).mono ?_); rintro e w7 ⟨rfl, rfl⟩)
                | (go_simp; go_at_call 21; (with_reducible refine (HR1.out _).mono ?_); rintro e w7 ⟨rfl, rfl⟩)
                | fail)
              all_goals
                go_wp2_with fail
                exact ⟨⟨t + 1, by omega, by go_num, by rw [HF2.out], Lib.hid (by rw [HS2.out]; exact (hV.out.set_ a z (by unfold In64; omega)).drew), Lib.hid (HBQ.out.setCell (p := ⟨gv, a, none⟩) hgo _).drew⟩, by simp [intOf]; omega⟩
          · have etm : t = m1 := by omega
            have hV2 := hV.out
            have hall : R.take t = R := List.take_of_length_le (by rw [etm, HPL.out]; exact Nat.le_refl _)
            rw [hall] at hV2
            have hszo : wo.heap.size ≤ wr.heap.size := hbq.out.size
            rw [hall]
            cases hfr : freeB R k with
            | false =>
              have hG2 := hG.out.below hbq.out
              rw [← NN.out hfr] at hG2
              have HG2 := Lib.hid hG2
              have HB2 := Lib.hid (hbc.out.trans (hbq.out.mono hbc.out.size))
              clear hG2 hfr NY NN hV2 hall etm
              go_wp2_with fail
              exact ⟨⟨k + 1, by omega, by go_num, HG2, HB2⟩, by simp [intOf]; omega⟩
            | true =>
              have hny := NY.out hfr
              have hvl : (nulV p n k R).length = n := nulV_len _ _ _ _
              have hvs := hV2.sl (by omega)
              rw [hvl] at hvs
              obtain ⟨V, hVV⟩ : ∃ V, nulV p n k R = V := ⟨_, rfl⟩
              rw [hVV] at hvs hny
              have HNY := Lib.hid hny
              have HVS := Lib.hid (hvs.below (below_alN wr (.cells #[.slice (some ⟨gv, 0, none⟩) n n] 31)))
              have hap : ApO (some ⟨gv, 0, none⟩) V u10.ownBlock := .inr fun b' o' s' e' e2 => by
                have := (hG.out.lt e2.symm).2
                simp only [Option.some.injEq, Addr.mk.injEq] at e'
                omega
              have HAP := Lib.hid hap
              have HG2 := Lib.hid ((hG.out.below hbq.out).below (below_alN wr (.cells #[.slice (some ⟨gv, 0, none⟩) n n] 31)))
              have HB2 := Lib.hid ((hbc.out.trans (hbq.out.mono hbc.out.size)).alloc (Nat.le_trans hbc.out.size hszo) (.cells #[.slice (some ⟨gv, 0, none⟩) n n] 31))
              have HVB := Lib.hid (vblk_list wr [.slice (some ⟨gv, 0, none⟩) n n] (sv_one _ _ _))
              have hgl : (nulL p n R k).length ≤ 1000 := by
                unfold nulL
                rw [List.length_map]
                have := List.length_filter_le (freeB R) (List.range k)
                rw [List.length_range] at this
                omega
              clear hV2 hvl hvs hVV hap hfr NY NN hny hall etm
              go_wp2_with (at_builtin; refine gwpList_app _ rfl (.tmp 87) (.tmp 89) rfl wB.heap.size _ _ rfl HG2.out _ rfl _ _ _ HVB.out V HVS.out HAP.out hgl HB2.out.size ?_; intro v8 w8 hg8 hb8)
              rw [← HNY.out] at hg8
              have HG8 := Lib.hid hg8
              have HB8 := Lib.hid (HB2.out.trans hb8)
              clear hg8 hb8
              go_wp2_with fail
              exact ⟨⟨k + 1, by omega, by go_num, HG8, HB8⟩, by simp [intOf]; omega⟩
      · obtain rfl : k = n := by omega
        obtain ⟨A2, c2, rfl, hmat⟩ := hG.out.mat
        have HMT := Lib.hid hmat
        clear hmat
        go_wp2_with fail
        go_ret2
        exact ⟨_, _, _, rfl, HMT.out, HB1.out.trans (hbc.out.mono HB1.out.size)⟩

theorem rNull_any (A : Option Addr) (m c : Nat) (M : List (List Int)) (n p : Int) (w : World) (h : MatAt w A m c M) (ip : In64 p) :
    Calls Tryd.prog 14 #[.slice A m c, .int .i64 n, .int .i64 p] w fun e w' => RowsOut w (nulV' p M n) (codeP (NulOk p M n)) e w' := by
  rcases Classical.em (NulOk p M n) with ho | ho
  · obtain ⟨k, rfl⟩ : ∃ k : Nat, n = (k : Int) := ⟨n.toNat, by have := ho.2.1; omega⟩
    rw [codeP_yes ho, show nulV' p M (k : Int) = nulL p k (echP p k M) k from by unfold nulV'; rw [ansB_yes ho, show (k : Int).toNat = k from by omega]]
    exact (rNull_yes A m c M k p w h ip ho).mono fun e w' ⟨A2, k2, c2, h1, h2, h3⟩ => ⟨A2, k2, c2, h1, h2, h3⟩
  · rw [codeP_no ho, show nulV' p M n = [] from by unfold nulV'; rw [ansB_no ho]]
    refine (rNull_not A m c M n p w h ip ho).mono ?_
    rintro e w' ⟨rfl, hb⟩
    exact ⟨_, _, _, rfl, mat_nil _, hb⟩
end Go.Proofs.YtipdnfdeacdkgaaDoor

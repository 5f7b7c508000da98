/- Texts joined, in their order: FacV, BerG, FaThe, FaAw. -/
import Derived.Test.YtnkhhndjbanmnaaGreatDoorMp27
import Derived.Test.YtnkhhndjbanmnaaGreatDoorMp39
import Derived.Test.YtnkhhndjbanmnaaGreatDoorMp40

/- ffac.Factors by contract: the call. -/
namespace Go.Proofs.YtnkhhndjbanmnaaGreatDoor
open Go.RowKit Go.Shelf Go.Lib

set_option maxRecDepth 100000 in
set_option maxHeartbeats 1000000 in
theorem gFacsNo (A D : Option Addr) (n c nd cd : Nat) (xs : List Int) (p : Int) (w : World) (hT : TabAt w) (h : ISl w A n c xs) (ip : In64 p) (hn : n ≤ 17592186044416) (h0 : eff p (cf xs) ≠ 0) :
    Calls Tryz.prog 12 #[.slice A n c, .int .i64 p, .slice D nd cd] w fun e w' => e = .returned (.tuple #[nilv, .int .i64 (eff p (cf xs))]) ∧ Below w.heap.size w w' := by
  have CC := Lib.hid (gMon A n c xs p w hT h ip hn)
  have H0 : Hid ((eff p (cf xs) == 0) = false) := Lib.hid (by simpa using h0)
  generalize eff p (cf xs) = u at *
  clear hT h ip hn
  go_enter Tryz.func12, Tryz.ntmps12
  go_wp2_with (go_at_call 31; (with_reducible refine CC.out.mono ?_); rintro e w1 ⟨C, m, d, rfl, hg⟩; have HB := Lib.hid hg.bel; clear hg)
  go_ret2
  exact ⟨rfl, HB.out⟩
theorem sort0F (A : Option Addr) (c : Nat) (w : World) :
    Calls Tryz.prog 34 #[.slice A 0 c, .func (.func 35) #[] #[]] w fun e w' => e = .returned (.tuple #[]) ∧ w' = w :=
  AnyF.slices_SortFunc_none Tryz.sortFac A c _ w
set_option maxRecDepth 100000 in
set_option maxHeartbeats 4000000 in
theorem gFacsOk (A D : Option Addr) (n c nd cd : Nat) (xs ds : List Int) (p : Int) (w : World) (hT : TabAt w) (h : ISl w A n c xs) (hD : ISl w D nd cd ds) (ip : In64 p) (hn : n ≤ 17592186044416) (h0 : eff p (cf xs) = 0) :
    Calls Tryz.prog 12 #[.slice A n c, .int .i64 p, .slice D nd cd] w fun e w' => ∃ A' k c' Z, e = .returned (.tuple #[.slice A' k c', .int .i64 0]) ∧ PRd w' A' k c' Z ∧ FacN p (monL p (cf xs)) (pls Z) ∧ Below w.heap.size w w' := by
  have CC := gMon A n c xs p w hT h ip hn
  obtain ⟨hp, hb, hm, hl⟩ := eff_mn h0
  rw [h0, okL_yes h0] at CC
  have CM := Lib.hid CC
  have HT := Lib.hid hT
  have HD := Lib.hid hD
  have PR := Lib.hid hp
  have HM := Lib.hid hm
  have HL := Lib.hid hl
  have MS := Lib.hid (monL_self hp hm)
  have MZ := Lib.hid hm.nz
  have hcl := hD.le
  have hcm := hD.max
  clear hT h hD ip hn h0 hp hm hl CC hb
  generalize monL p (cf xs) = mo at *
  go_enter Tryz.func12, Tryz.ntmps12
  go_wp2_with (first
    | (go_at_call 31; (with_reducible refine CM.out.mono ?_); rintro e w1 ⟨C, m, d, rfl, hg⟩; have HB := Lib.hid hg.bel; have S2 := Lib.hid (fPartsOk C m d mo p w1 (HT.out.below hg.bel) hg.isl PR.out.md.in64 (by have := hg.isl.len; have := HL.out; omega) PR.out MZ.out); clear hg)
    | (go_at_call 32; (with_reducible refine S2.out.mono ?_); rintro e w2 ⟨Ap, kp, cp, Z, rfl, hr, hpt, hb⟩; rw [MS.out] at hpt; have HR := Lib.hid hr; have HP := Lib.hid hpt; have HB2 := Lib.hid (below_to HB.out hb); clear hr hpt hb)
    | fail)
  have hkl := HR.out.le
  have hkm := HR.out.max
  have HK := Lib.hid HR.out.len
  have FW : Hid (kp ≤ 65) := Lib.hid (by have := HP.out.few PR.out HM.out; rw [pls_length, ← HK.out] at this; have := HL.out; omega)
  have O0 : Hid (OJ p mo w w2 Ap kp cp Z nilv 0 []) := Lib.hid ⟨POw.nil _ _ _, facT_start _ _ _, HR.out, fun z hz => .inr fun b o s _ e => (by cases e), .inr fun b o s _ e => (by cases e), HB2.out, by simp⟩
  go_loopw [12, 34] (fun v i wr => ∃ (j : Nat) (Y : List Pt), j ≤ kp ∧ i = .int .i64 (j : Int) ∧ Hid (OJ p mo w wr Ap kp cp Z v j Y)) (fun _ i _ => kp - (intOf i).toNat)
  case atStart => exact ⟨0, [], Nat.zero_le _, rfl, O0⟩
  case round =>
    obtain ⟨j, Y, hj, rfl, OO⟩ := hrel
    obtain ⟨wo, rfl⟩ : ∃ wo, wo = wr := ⟨wr, rfl⟩
    by_cases hlt : j < kp
    · have hlz : j < Z.length := by rw [← HK.out]; exact hlt
      obtain ⟨b, o, rfl, hbl, hc⟩ := OO.out.rd.open_ (by omega)
      obtain ⟨c0, c1⟩ := hc j hlz
      have zin := OO.out.rd.in_ _ (List.getElem_mem hlz)
      have zap := OO.out.ap _ (List.getElem_mem hlz)
      have epl : (pls Z)[j]'(by rw [pls_length]; exact hlz) = Z[j].pl := by unfold pls; rw [List.getElem_map]
      obtain ⟨o1, o2, _⟩ := HP.out.own (Z[j].pl) (by rw [← epl]; exact List.getElem_mem _)
      have DN := fun (w' : World) (v' : Value) (Y' : List Pt) (Af : Option Addr) (F : List (List Int)) (bp N : Nat) => @IJ.done p mo w w' wo (some ⟨b, o, none⟩) kp cp Z v' u12 j N bp Y' Y Af F PR.out OO.out
      have hlen := own_len PR.out HM.out o1 o2
      have hsq := own_sqf o2
      obtain ⟨z, hz⟩ : ∃ z, Z[j] = z := ⟨_, rfl⟩
      have HZ := Lib.hid hz
      rw [hz] at c0 c1 zin zap o1 o2 hlen hsq
      obtain ⟨zA, zn, zc, zx, zN⟩ := z
      simp only [Pt.sl, Pt.nv] at c0 c1
      have zlen : zn = zx.length := zin.len
      have hz65 : zx.length ≤ 65 := Nat.le_trans hlen HL.out
      have W1 := bel_al wo (.cells #[.slice zA zn zc, .int .i64 (zN : Int)] 58)
      have SP := Lib.hid (gSplit (ox := Value.ownBlock u12) zA D zn zc nd cd zx ds p (wo.alloc (.cells #[.slice zA zn zc, .int .i64 (zN : Int)] 58)) ((HT.out.below OO.out.be).below W1) (isl_alloc zin _) ((HD.out.below OO.out.be).below W1) PR.out o2.1 hsq (by omega) (fun k e => Nat.lt_of_lt_of_le (OO.out.own.1.lt k e).2 W1.size) (zap.apB o2.1.2.1))
      have HW1 := Lib.hid W1
      have DNE := Lib.hid DN
      have FSh := Lib.hid (fun F (hF : Facs p zx F) => facs_short PR.out o2.1 hF)
      have HX65 := Lib.hid hz65
      have i1 : (0 : Int) ≤ (j : Int) := by omega
      have i2 : (j : Int) < (kp : Int) := by omega
      clear hc zin zap epl o1 o2 hlen hsq hz65 W1 DN zlen
      go_wp2_with (first
        | (go_at_call 33; (with_reducible refine SP.out.mono ?_); rintro e w5 ⟨v5, F, bx, rfl, hF, hfr, hfc, hb5⟩; obtain ⟨Af, cf5, rfl, hle5, hmx5, hsa⟩ := hF.sap hfr (fun k e => Nat.lt_of_lt_of_le (OO.out.own.1.lt k e).2 HW1.out.size); have HB5 := Lib.hid hb5; have HSA := Lib.hid hsa; have HFC := Lib.hid hfc; clear hF hfr hb5 hsa hfc)
        | fail)
      obtain ⟨f5, hf5⟩ : ∃ f, F.length = f := ⟨_, rfl⟩
      have HF5 := Lib.hid hf5
      have I0 : Hid (IJ w w5 (some ⟨b, o, none⟩) kp cp Z u12 Y (pls Y) zN Af F wo.heap.size 0) := Lib.hid (OO.out.start (below_to HW1.out HB5.out) HSA.out ((HB5.out.cell (p := ⟨wo.heap.size, 1, none⟩) (by simp)).trans (by simp)) (Nat.lt_of_lt_of_le (by simp) HB5.out.size) (Nat.le_refl _))
      have YL : Hid (Y.length + 65 ≤ 100000) := Lib.hid (by have := OO.out.few; have := FW.out; omega)
      have FL : Hid (f5 ≤ 65) := Lib.hid (by have := (FSh.out F HFC.out).1; rw [← hf5]; exact Nat.le_trans this HX65.out)
      rw [hf5]
      rw [hf5] at hle5
      clear hf5
      go_loopw [12, 44] (fun v i wr => ∃ (t : Nat) (Y' : List Pt), t ≤ f5 ∧ i = .int .i64 (t : Int) ∧ Hid (IJ w wr (some ⟨b, o, none⟩) kp cp Z v Y' (pls Y) zN Af F wo.heap.size t)) (fun _ i _ => f5 - (intOf i).toNat)
      case atStart => exact ⟨0, Y, Nat.zero_le _, rfl, I0⟩
      case round =>
        obtain ⟨t, Y', ht, rfl, II⟩ := hrel
        by_cases hlt2 : t < f5
        · have htf : t < F.length := by rw [HF5.out]; exact hlt2
          obtain ⟨b2, o2, rfl, hb2, -, hr2⟩ := II.out.sa (by omega)
          obtain ⟨C2, k2, d2, hc2, hi2, -, ha2⟩ := hr2 t htf
          have hpb := II.out.pb
          have hpl := II.out.pl
          have ypl : Y'.length ≤ 1000000 := by
            have h1 := congrArg List.length II.out.ys
            rw [pls_length, List.length_append, pls_length, List.length_map, List.length_take] at h1
            have := YL.out
            have := FL.out
            omega
          have YPL := Lib.hid ypl
          have HI2 := Lib.hid hi2
          have HA2 := Lib.hid ha2
          have HTF := Lib.hid htf
          have I2 := Lib.hid (II.out.below (bel_al wr (.cells #[.slice C2 k2 d2, .int .i64 (zN : Int)] 49)))
          have j1 : (0 : Int) ≤ (t : Int) := by omega
          have j2 : (t : Int) < (f5 : Int) := by omega
          clear hr2 hi2 ha2 ypl htf
          go_wp2_with (at_builtin; refine pwpList_g ptyF (wr.alloc (.cells #[.slice C2 k2 d2, .int .i64 (zN : Int)] 49)) rfl (.tmp 48) (.tmp 53) rfl w.heap.size _ _ rfl I2.out.own wr.heap.size 1 rfl ⟨C2, k2, d2, F.getD t [], zN⟩ (two_cell0 ..) (two_cell1 ..) (isl_alloc HI2.out _) (HA2.out.apO _) YPL.out I2.out.be.size ?_; intro v7 w7 ho7 hg7 h57; have I3 := Lib.hid (I2.out.next HTF.out ho7 hg7 h57); clear ho7 hg7 h57)
          go_roundw
          case rel => exact ⟨t + 1, _, by omega, by go_num, I3⟩
          case measure => simp [intOf]; omega
        · obtain rfl : f5 = t := by omega
          have OD := Lib.hid (DNE.out _ _ _ _ F _ zN (by rw [HF5.out]; exact II.out) HP.out hlz (by rw [HZ.out]) (by rw [HZ.out]; exact HFC.out) (by rw [HF5.out]; exact FL.out))
          go_wp2_with fail
          go_roundw
          case rel => exact ⟨j + 1, _, by omega, by go_num, OD⟩
          case measure => simp [intOf]; omega
    · obtain rfl : kp = j := by omega
      have DNF := Lib.hid (fun (K : List Pt) (k : K.Perm Y) (ho : K.Pairwise fun x y => ¬ Ahd y.xs x.xs) => OO.out.ft.done HP.out (K := pls K) (by rw [pls_length, ← HK.out]; exact Nat.le_refl _) (k.map _) (by unfold pls; rw [List.pairwise_map]; exact ho))
      have YF : Hid (Y.length ≤ 100000) := Lib.hid (by have := OO.out.few; have := FW.out; omega)
      obtain ⟨As, cs, rfl, hrd, hAs, hbk⟩ := OO.out.own.rd
      have hrl := hrd.le
      have hrm := hrd.max
      rcases hbk with hnil | ⟨bs, rfl, hlt2, hfz, hcl2⟩
      · subst hnil
        have RD := Lib.hid hrd
        have SC := Lib.hid (sort0F As cs wo)
        have DN0 := Lib.hid (DNF.out [] (List.Perm.refl _) List.Pairwise.nil)
        clear hrd hAs
        simp only [List.length_nil] at *
        go_wp2_with (go_at_call 34; (with_reducible refine SC.out.mono ?_); rintro e w6 ⟨rfl, rfl⟩)
        go_ret2
        exact ⟨As, 0, cs, [], rfl, RD.out, DN0.out, OO.out.be⟩
      · have SC := Lib.hid (gSortFacs bs cs Y wo hlt2 hfz hcl2 (fun z hz => ⟨OO.out.own.in_ z hz, (OO.out.own.2 z hz).2, by
          obtain ⟨a1, _, a3, a4, a5, _⟩ := OO.out.ft.own z.pl (List.mem_map.2 ⟨z, hz, rfl⟩)
          have h1 := irr_len PR.out HM.out a1 a3 (by rw [a5]; exact a4)
          have h2 : z.n = z.xs.length := (OO.out.own.in_ z hz).len
          have h3 : z.pl.1 = z.xs := rfl
          rw [h3] at h1
          have := HL.out
          omega⟩) (by have := YF.out; omega))
        have HAS := Lib.hid hAs
        clear hrd hAs hfz hcl2
        obtain ⟨yl, hyl⟩ : ∃ y, Y.length = y := ⟨_, rfl⟩
        have HYL := Lib.hid hyl
        rw [hyl] at SC hrl ⊢
        clear hyl
        go_wp2_with (go_at_call 34; (with_reducible refine SC.out.mono ?_); rintro e w6 ⟨rfl, hsr⟩; have SR := Lib.hid hsr; clear hsr)
        go_ret2
        obtain ⟨Z2, s1, s2, s3, s4⟩ := SR.out
        refine ⟨_, yl, cs, Z2, rfl, ⟨by rw [s1.length_eq]; exact HYL.out.symm, hrl, hrm, fun z hz => ?_, .inr ⟨bs, 0, rfl, Nat.lt_of_lt_of_le hlt2 s3.size, s4⟩⟩, DNF.out Z2 s1 s2, below_grown OO.out.be (HAS.out _ _ _ rfl) s3⟩
        obtain ⟨k1, k2⟩ := OO.out.own.2 z (s1.mem_iff.1 hz)
        exact k1.grownO s3 k2
end Go.Proofs.YtnkhhndjbanmnaaGreatDoor

/- Factors, and how often: their product; the document's example of layer 9. Mathematics alone. -/
namespace Go.Proofs.YtnkhhndjbanmnaaGreatDoor
open Ser (Bd)

/-! How often all of them, as often as is told, are divided. -/
noncomputable def vn (p : Int) (q : Ser) : PL → Nat
  | [] => 0
  | x :: L => x.2 * V p (cf x.1) q + vn p q L
theorem vn_append (p : Int) (q : Ser) : ∀ L K : PL, vn p q (L ++ K) = vn p q L + vn p q K
  | [], K => by rw [List.nil_append, vn, Nat.zero_add]
  | x :: L, K => by rw [List.cons_append, vn, vn, vn_append p q L K]; omega
theorem vn_none {p : Int} {q : Ser} : ∀ {L : PL}, (∀ x ∈ L, V p (cf x.1) q = 0) → vn p q L = 0
  | [], _ => rfl
  | x :: L, h => by rw [vn, h x (List.mem_cons_self ..), vn_none fun y hy => h y (List.mem_cons_of_mem _ hy)]; rfl
theorem vn_one {p : Int} {q : Ser} : ∀ {L : PL}, (L.Pairwise fun x y => x.1 ≠ y.1) → ∀ {x : List Int × Nat}, x ∈ L → V p (cf x.1) q = 1 → (∀ y ∈ L, y.1 ≠ x.1 → V p (cf y.1) q = 0) → vn p q L = x.2
  | [], _, _, h, _, _ => (List.not_mem_nil h).elim
  | z :: L, hd, x, h, h1, h2 => by
    rw [List.pairwise_cons] at hd
    rw [vn]
    rcases List.mem_cons.1 h with rfl | hx
    · rw [h1, vn_none fun y hy => h2 y (List.mem_cons_of_mem _ hy) (hd.1 y hy).symm]; omega
    · rw [h2 z (List.mem_cons_self ..) (hd.1 x hx), vn_one hd.2 hx h1 fun y hy => h2 y (List.mem_cons_of_mem _ hy)]; omega
theorem V_congrQ {p : Int} {q r f : Ser} {m : Nat} (hp : Pr p) (hq : Irr p q) (hf : Last p f m) (e : Ser.Eq p q r) : V p f q = V p f r := by
  obtain ⟨f0, h1, h2, h3⟩ := V_spec hp hq hf
  exact (V_is hp (hq.eq e) ⟨f0, h1, h2.trans ((e.pw _).mulL f0), fun k => h3 (k.eqL e.symm)⟩).symm
structure Fct (p : Int) (L : PL) : Prop where
  own : ∀ x ∈ L, Mn p x.1 ∧ 2 ≤ x.1.length ∧ Irr p (cf x.1) ∧ 1 ≤ x.2
  up : L.Pairwise fun x y => Ahd x.1 y.1
theorem Fct.dis {p : Int} {L : PL} (h : Fct p L) : L.Pairwise fun x y => x.1 ≠ y.1 := h.up.imp fun k e => by rw [e] at k; exact ahd_irr _ k
theorem Fct.at_ {p : Int} {L : PL} (hp : Pr p) (h : Fct p L) {x : List Int × Nat} (hx : x ∈ L) : vn p (cf x.1) L = x.2 :=
  vn_one h.dis hx (V_self hp (h.own x hx).2.2.1) fun y hy hn => V_other hp (h.own x hx).2.2.1 (h.own y hy).2.2.1 fun e => hn (mn_eq hp (h.own y hy).1 (h.own x hx).1 e)
theorem Fct.pos {p : Int} {L : PL} (hp : Pr p) (h : Fct p L) {q : Ser} (hq : Irr p q) (hv : 1 ≤ vn p q L) : ∃ x ∈ L, Ser.Eq p q (cf x.1) := by
  refine Classical.byContradiction fun hn => ?_
  rw [vn_none fun x hx => V_other hp hq (h.own x hx).2.2.1 fun e => hn ⟨x, hx, e.symm⟩] at hv
  omega
theorem Fct.facN {p : Int} {L : PL} {m : List Int} (hp : Pr p) (h : Fct p L) (hv : ∀ q, Irr p q → vn p q L = V p (cf m) q) : FacN p m L :=
  ⟨fun x hx => ⟨(h.own x hx).1, (h.own x hx).2.1, (h.own x hx).2.2.1, (h.own x hx).2.2.2, by rw [← hv _ (h.own x hx).2.2.1, h.at_ hp hx]⟩, fun q hq k => h.pos hp hq (by rw [hv q hq]; exact k), h.up⟩
theorem FacN.fct {p : Int} {m : List Int} {L : PL} (h : FacN p m L) : Fct p L := ⟨fun x hx => ⟨(h.own x hx).1, (h.own x hx).2.1, (h.own x hx).2.2.1, (h.own x hx).2.2.2.1⟩, h.up⟩
theorem FacN.vn {p : Int} {m : List Int} {L : PL} (hp : Pr p) (hm : Mn p m) (h : FacN p m L) : ∀ q, Irr p q → vn p q L = V p (cf m) q := fun q hq => by
  by_cases e : 1 ≤ V p (cf m) q
  · obtain ⟨x, hx, e2⟩ := h.all q hq e
    obtain ⟨_, _, a3, _, a5⟩ := h.own x hx
    rw [V_congrQ hp hq hm.last e2, a5]
    refine vn_one h.fct.dis hx (by rw [← V_congr e2, V_self hp hq]) fun y hy hn => V_other hp hq (h.own y hy).2.2.1 fun k => hn (mn_eq hp (h.own y hy).1 (h.own x hx).1 (k.trans e2))
  · rw [vn_none fun x hx => V_other hp hq (h.own x hx).2.2.1 fun k => e ?_]
    · omega
    · rw [← V_congrQ hp (h.own x hx).2.2.1 hm.last k, (h.own x hx).2.2.2.2]; exact (h.own x hx).2.2.2.1
theorem fct_prod {p : Int} (hp : Pr p) : ∀ L : PL, (∀ x ∈ L, Mn p x.1 ∧ 2 ≤ x.1.length ∧ 1 ≤ x.2) → ∃ g, Mn p g ∧ L.length + 1 ≤ g.length ∧ ∀ q, Irr p q → V p (cf g) q ≤ vn p q L := by
  intro L
  induction L with
  | nil => exact fun _ => ⟨[1], mn_one hp, by simp, fun q hq => by rw [V_one hp hq]; exact Nat.zero_le _⟩
  | cons x L ih =>
    intro h
    obtain ⟨g, g1, g2, g3⟩ := ih fun f hf => h f (List.mem_cons_of_mem _ hf)
    obtain ⟨f1, f2, f3⟩ := h x (List.mem_cons_self ..)
    obtain ⟨m1, m2, m3⟩ := mn_mul hp f1 g1
    refine ⟨_, m1, by rw [List.length_cons]; omega, fun q hq => ?_⟩
    rw [m3 q hq, Go.Proofs.YtnkhhndjbanmnaaGreatDoor.vn]
    have := g3 q hq
    have := Nat.le_mul_of_pos_left (V p (cf x.1) q) f3
    omega
theorem FacN.few {p : Int} {m : List Int} {L : PL} (hp : Pr p) (hm : Mn p m) (h : FacN p m L) : L.length + 1 ≤ m.length := by
  obtain ⟨g, g1, g2, g3⟩ := fct_prod hp L fun x hx => ⟨(h.own x hx).1, (h.own x hx).2.1, (h.own x hx).2.2.2.1⟩
  have := g1.len_le hp hm fun q hq => by rw [← h.vn hp hm q hq]; exact g3 q hq
  omega
theorem FacN.num {p : Int} {m : List Int} {L : PL} (hp : Pr p) (hm : Mn p m) (h : FacN p m L) {x : List Int × Nat} (hx : x ∈ L) : x.2 + 1 ≤ m.length := by
  obtain ⟨_, _, a3, _, a5⟩ := h.own x hx
  have := V_le_deg hp a3 hm.last
  have := hm.pos
  omega

/-! The document's examples. -/
theorem pr5 : Pr 5 := pr_trial (n := 5) (by decide) (by decide) 3 (by decide) (fun e h2 h3 hd => by
  obtain ⟨k, hk⟩ := hd
  have : e = 2 := by omega
  subst this
  omega)
theorem prr3 : Pr 3 := pr_trial (n := 3) (by decide) (by decide) 2 (by decide) (fun e h2 h3 => by omega)
theorem mn_small {p : Int} {xs : List Int} (hr : xs.all (fun x => decide (0 ≤ x ∧ x < p)) = true) (h1 : 1 < p) (hn : xs ≠ []) (ht : cf xs (xs.length - 1) = 1) : Mn p xs := by
  have hl : xs.length - 1 + 1 = xs.length := by
    cases xs with
    | nil => exact absurd rfl hn
    | cons => simp
  have e1 : (1 : Int) % p = 1 := Int.emod_eq_of_lt (by decide) h1
  refine ⟨⟨fun x hx => ?_, .inr ?_⟩, hn, ?_⟩
  · have := List.all_eq_true.1 hr x hx
    simpa using this
  · rw [ht]; decide
  · refine ⟨?_, by rw [ht]; exact e1⟩
    rw [hl]
    exact bd_len p xs
theorem mn5_w : Mn 5 [1, 0, 1] := mn_small (by decide) (by decide) (by decide) rfl
theorem mn5_a : Mn 5 [2, 1] := mn_small (by decide) (by decide) (by decide) rfl
theorem mn5_b : Mn 5 [3, 1] := mn_small (by decide) (by decide) (by decide) rfl
theorem mn3_w : Mn 3 [1, 0, 1] := mn_small (by decide) (by decide) (by decide) rfl
theorem irr5_a : Irr 5 (cf [2, 1]) := irr_linear pr5 mn5_a.2.2
theorem irr5_b : Irr 5 (cf [3, 1]) := irr_linear pr5 mn5_b.2.2
theorem ex5 : Ser.Eq 5 (cf [1, 0, 1]) (Ser.mul (cf [2, 1]) (cf [3, 1])) := fun i => by
  match i with
  | 0 => rfl
  | 1 => rfl
  | 2 => rfl
  | i + 3 =>
    rw [cf_over (by simp), (Ser.mul_top (p := 5) (bd_len 5 [2, 1]) (bd_len 5 [3, 1])).2 (i + 3) (by simp)]
    rfl
theorem ex5_fac : FacN 5 [1, 0, 1] [([2, 1], 1), ([3, 1], 1)] := by
  refine Fct.facN pr5 ⟨fun x hx => ?_, ?_⟩ fun q hq => ?_
  · simp only [List.mem_cons, List.not_mem_nil, or_false] at hx
    rcases hx with rfl | rfl
    · exact ⟨mn5_a, by decide, irr5_a, by decide⟩
    · exact ⟨mn5_b, by decide, irr5_b, by decide⟩
  · refine List.Pairwise.cons (fun y hy => ?_) (List.Pairwise.cons (fun y hy => (List.not_mem_nil hy).elim) List.Pairwise.nil)
    rw [List.mem_singleton.1 hy]
    show ordI [2, 1] [3, 1] = -1
    decide
  · rw [V_congr ex5, V_mul pr5 hq mn5_a.last mn5_b.last]
    show 1 * V 5 (cf [2, 1]) q + (1 * V 5 (cf [3, 1]) q + 0) = _
    omega
theorem ex3_irr : Irr 3 (cf [1, 0, 1]) := by
  refine ⟨2, by decide, mn3_w.2.2, fun d k hd hm => ?_⟩
  obtain ⟨u, fu, hu⟩ := hm
  obtain ⟨j, hj, e⟩ := last_quo prr3 mn3_w.last hd fu hu
  have e : (2 : Nat) = j + k := e
  rcases Nat.lt_or_ge k 1 with h | h
  · exact .inl (by omega)
  rcases Nat.lt_or_ge k 2 with h2 | h2
  · obtain rfl : k = 1 := by omega
    obtain rfl : j = 1 := by omega
    exfalso
    have a0 := hu 0
    have a1 := hu 1
    have a2 := hu 2
    rw [Ser.mul_zero_at] at a0
    rw [Ser.mul_succ, Ser.mul_zero_at] at a1
    rw [Ser.mul_succ, Ser.mul_succ, Ser.mul_zero_at] at a2
    have d2 := hd.1 2 (by decide)
    have u2 := hj.1 2 (by decide)
    have e0 : cf [1, 0, 1] 0 = 1 := rfl
    have e1 : cf [1, 0, 1] 1 = 0 := rfl
    have e2 : cf [1, 0, 1] 2 = 1 := rfl
    rw [e0] at a0
    rw [e1] at a1
    rw [e2] at a2
    simp only [Ser.tl] at a1 a2
    rw [Int.mul_emod] at a0
    rw [Int.add_emod, Int.mul_emod, Int.mul_emod (u (0 + 1))] at a1
    rw [Int.add_emod, Int.add_emod (u (0 + 1) * _), Int.mul_emod (u 0), Int.mul_emod (u (0 + 1)), Int.mul_emod (u (0 + 1 + 1)), d2, u2] at a2
    simp only [Nat.zero_add] at a1 a2
    have x0 := Int.emod_nonneg (u 0) (b := 3) (by decide)
    have x1 := Int.emod_lt_of_pos (u 0) (b := 3) (by decide)
    have y0 := Int.emod_nonneg (u 1) (b := 3) (by decide)
    have y1 := Int.emod_lt_of_pos (u 1) (b := 3) (by decide)
    have z0 := Int.emod_nonneg (d 0) (b := 3) (by decide)
    have z1 := Int.emod_lt_of_pos (d 0) (b := 3) (by decide)
    have w0 := Int.emod_nonneg (d 1) (b := 3) (by decide)
    have w1 := Int.emod_lt_of_pos (d 1) (b := 3) (by decide)
    generalize u 0 % 3 = x at *
    generalize u 1 % 3 = y at *
    generalize d 0 % 3 = z at *
    generalize d 1 % 3 = t at *
    have cx : x = 0 ∨ x = 1 ∨ x = 2 := by omega
    have cy : y = 0 ∨ y = 1 ∨ y = 2 := by omega
    have cz : z = 0 ∨ z = 1 ∨ z = 2 := by omega
    have ct : t = 0 ∨ t = 1 ∨ t = 2 := by omega
    rcases cx with rfl | rfl | rfl <;> rcases cy with rfl | rfl | rfl <;> rcases cz with rfl | rfl | rfl <;> rcases ct with rfl | rfl | rfl <;> revert a0 a1 a2 <;> decide
  · exact .inr (by omega)
end Go.Proofs.YtnkhhndjbanmnaaGreatDoor

/- The law's own small functions of layer 9 by contract, and ffac's answers named by what it is given. -/
namespace Go.Proofs.YtnkhhndjbanmnaaGreatDoor
open Go.RowKit Go.Shelf Go.Lib

/-! Factors, named. -/
noncomputable def facL (p : Int) (f : Ser) : PL := theP fun L => eff p f = 0 ∧ FacN p (monL p f) L
theorem eff_pr {p : Int} {f : Ser} (h : eff p f = 0) : Pr p := by
  rcases eff_cases p f with ⟨a, _⟩ | ⟨e, _⟩ | ⟨e, _⟩ | ⟨e, _⟩
  · exact a
  all_goals rw [h] at e; exact absurd e (by decide)
theorem facL_is {p : Int} {f : Ser} {L : PL} (h : eff p f = 0) (k : FacN p (monL p f) L) : facL p f = L :=
  theP_is ⟨h, k⟩ fun _ k2 => k2.2.uniq (eff_pr h) k
theorem facL_no {p : Int} {f : Ser} (h : eff p f ≠ 0) : facL p f = [] := theP_none fun _ ⟨h1, _⟩ => h h1
theorem gFacs (A D : Option Addr) (n c nd cd : Nat) (xs ds : List Int) (p : Int) (w : World) (hT : TabAt w) (h : ISl w A n c xs) (hD : ISl w D nd cd ds) (ip : In64 p) (hn : n ≤ 17592186044416) :
    Calls Tryz.prog 12 #[.slice A n c, .int .i64 p, .slice D nd cd] w fun e w' => ∃ A' k c' Z, e = .returned (.tuple #[.slice A' k c', .int .i64 (eff p (cf xs))]) ∧ PRd w' A' k c' Z ∧ pls Z = facL p (cf xs) ∧ (eff p (cf xs) = 0 → FacN p (monL p (cf xs)) (facL p (cf xs))) ∧ k ≤ 100 ∧ Below w.heap.size w w' := by
  by_cases h0 : eff p (cf xs) = 0
  · refine (gFacsOk A D n c nd cd xs ds p w hT h hD ip hn h0).mono ?_
    rintro e w' ⟨A', k, c', Z, rfl, h1, h2, h3⟩
    have e9 := facL_is h0 h2
    obtain ⟨hp, _, hm, hl⟩ := eff_mn h0
    have := h2.few hp hm
    rw [pls_length, ← h1.len] at this
    exact ⟨A', k, c', Z, by rw [h0], h1, e9.symm, fun _ => e9 ▸ h2, by omega, h3⟩
  · refine (gFacsNo A D n c nd cd xs p w hT h ip hn h0).mono ?_
    rintro e w' ⟨rfl, h1⟩
    exact ⟨none, 0, 0, [], rfl, PRd.nil _, (facL_no h0).symm, fun h => absurd h h0, by decide, h1⟩
theorem ptyRF : PTy 36 42 := ⟨Tryz.underlying36, by kernel_rfl⟩

theorem POw.shape {T : TypeId} {w : World} {B n c : Nat} {A : Option Addr} {Z : List Pt} (h : POw T w B (.slice A n c) Z) : A = none ∧ c = 0 ∨ ∃ b, A = some ⟨b, 0, none⟩ := by
  obtain ⟨⟨_, h2⟩, _⟩ := h
  rcases h2 with ⟨e, _⟩ | ⟨g, cap, cur, e, _⟩
  · simp only [Value.slice.injEq] at e
    exact .inl ⟨e.1, e.2.2⟩
  · simp only [Value.slice.injEq] at e
    exact .inr ⟨g, e.1⟩
theorem POw.oldF {T : TypeId} {w wr : World} {v : Value} {Z : List Pt} {A : Option Addr} {n c : Nat} {xs : List Int} (h : POw T wr w.heap.size v Z) (hi : ISl w A n c xs) : ApO A xs v.ownBlock := by
  rcases hi.rd.2 with e | ⟨b, o, rfl, hlt, _⟩
  · exact .inl e
  · exact h.apart fun b' o' s' e => .inr (by
      simp only [Option.some.injEq, Addr.mk.injEq] at e
      omega)

set_option maxRecDepth 100000 in
set_option maxHeartbeats 8000000 in
theorem lTheirsS9 (A : Option Addr) (n c : Nat) (Z : List Pt) (w : World) (h : PRd w A n c Z) (hn : n ≤ 100000) :
    Calls Tryz.prog 19 #[.slice A n c] w fun e w' => ∃ A' c', e = .returned (.slice A' n c') ∧ PRd w' A' n c' Z ∧ Below w.heap.size w w' ∧ (A' = none ∧ c' = 0 ∨ ∃ b, A' = some ⟨b, 0, none⟩) := by
  have hle := h.le
  have hmx := h.max
  have H := Lib.hid h
  have ZL := Lib.hid h.len
  clear h
  go_enter Tryz.func19, Tryz.ntmps19
  go_wp2_with fail
  go_loopw [3, 4] (fun v i wr => ∃ j : Nat, j ≤ n ∧ i = .int .i64 (j : Int) ∧ Hid (POw 42 wr w.heap.size v (Z.take j)) ∧ Hid (Below w.heap.size w wr)) (fun _ i _ => n - (intOf i).toNat)
  case atStart => exact ⟨0, Nat.zero_le _, rfl, Lib.hid (by rw [List.take_zero]; exact POw.nil _ _ _), Lib.hid (Below.refl _ _)⟩
  case round =>
    obtain ⟨j, hj, rfl, hO, hb⟩ := hrel
    by_cases hlt : j < n
    · have hlz : j < Z.length := by rw [← ZL.out]; exact hlt
      obtain ⟨b, o, rfl, hbl, hc⟩ := (H.out.below hb.out).open_ (by omega)
      obtain ⟨c0, c1⟩ := hc j hlz
      have zin0 := H.out.in_ _ (List.getElem_mem hlz)
      have zin := zin0.below hb.out
      have zap := hO.out.oldF zin0
      have TK := Lib.hid (List.take_succ_eq_append_getElem hlz)
      have LT : (Z.take j).length ≤ 1000000 := by rw [List.length_take]; omega
      obtain ⟨z, hz⟩ : ∃ z, Z[j] = z := ⟨_, rfl⟩
      rw [hz] at c0 c1 zin zap TK
      obtain ⟨zA, zn, zc, zx, zN⟩ := z
      simp only [Pt.sl, Pt.nv] at c0 c1
      have hsz := hb.out.size
      have HOa := Lib.hid (show POw 42 ((wr.alloc (.cells #[.slice zA zn zc, .int .i64 (zN : Int)] 42)).drew) w.heap.size u3 (Z.take j) from (hO.out.alloc _).below (Below.drew (Below.refl _ _)))
      have HOb := Lib.hid (show POw 42 (wr.drew.alloc (.cells #[.slice zA zn zc, .int .i64 (zN : Int)] 42)) w.heap.size u3 (Z.take j) from (hO.out.below (Below.drew (Below.refl _ _))).alloc _)
      have HIa := Lib.hid (show ISl ((wr.alloc (.cells #[.slice zA zn zc, .int .i64 (zN : Int)] 42)).drew) zA zn zc zx from (isl_alloc zin _).below (Below.drew (Below.refl _ _)))
      have HIb := Lib.hid (show ISl (wr.drew.alloc (.cells #[.slice zA zn zc, .int .i64 (zN : Int)] 42)) zA zn zc zx from isl_alloc (ISl.below (show ISl wr zA zn zc zx from zin) (Below.drew (Below.refl _ _))) _)
      have HBa := Lib.hid (show Below w.heap.size w ((wr.alloc (.cells #[.slice zA zn zc, .int .i64 (zN : Int)] 42)).drew) from (hb.out.alloc hsz _).drew)
      have HBb := Lib.hid (show Below w.heap.size w (wr.drew.alloc (.cells #[.slice zA zn zc, .int .i64 (zN : Int)] 42)) from (hb.out.drew.alloc hsz _))
      have ZAP := Lib.hid zap
      have i1 : (0 : Int) ≤ (j : Int) := by omega
      have i2 : (j : Int) < (n : Int) := by omega
      clear hc zin zin0 zap hz hlz
      go_wp2_with fail
      go_region_law (first
        | (refine pstep_app ptyRF _ (by rfl) (.tmp 11) (.tmp 23) (by rfl) w.heap.size _ _ (by rfl) HOa.out wr.heap.size 1 (by rfl) ⟨zA, zn, zc, zx, zN⟩ (two_cell0 wr _ _ _) (two_cell1 wr _ _ _) HIa.out ZAP.out LT HBa.out.size ?_; intro v9 w9 ho9 hb9 _; have HB9 := Lib.hid (HBa.out.trans hb9))
        | (refine pstep_app ptyRF _ (by rfl) (.tmp 11) (.tmp 23) (by rfl) w.heap.size _ _ (by rfl) HOb.out wr.heap.size 1 (by rfl) ⟨zA, zn, zc, zx, zN⟩ (two_cell0 wr.drew _ _ _) (two_cell1 wr.drew _ _ _) HIb.out ZAP.out LT HBb.out.size ?_; intro v9 w9 ho9 hb9 _; have HB9 := Lib.hid (HBb.out.trans hb9))
        | fail)
      all_goals
        rw [← TK.out] at ho9
        have HO9 := Lib.hid ho9
        clear ho9 hb9
        go_wp2_with fail
        exact ⟨⟨j + 1, by omega, by go_num, HO9, HB9⟩, by simp [intOf]; omega⟩
    · obtain rfl : j = n := by omega
      have hO2 := hO.out
      rw [List.take_of_length_le (by rw [ZL.out]; exact Nat.le_refl _)] at hO2
      obtain ⟨A', c', rfl, hrd, _⟩ := hO2.rd
      have SH := Lib.hid hO2.shape
      rw [← ZL.out] at hrd ⊢
      have RD := Lib.hid hrd
      clear hO2 hrd
      go_wp2_with fail
      go_ret
      exact ⟨A', c', rfl, RD.out, hb.out, SH.out⟩
theorem lTheirs9 (A : Option Addr) (n c : Nat) (Z : List Pt) (w : World) (h : PRd w A n c Z) (hn : n ≤ 100000) :
    Calls Tryz.prog 19 #[.slice A n c] w fun e w' => ∃ A' c', e = .returned (.slice A' n c') ∧ PRd w' A' n c' Z ∧ Below w.heap.size w w' :=
  (lTheirsS9 A n c Z w h hn).mono fun _ _ ⟨A', c', h1, h2, h3, _⟩ => ⟨A', c', h1, h2, h3⟩

/-! Alike. -/
set_option maxRecDepth 100000 in
set_option maxHeartbeats 2000000 in
theorem rSameQ9 (A B : Option Addr) (n c n' c' : Nat) (xs ys : List Int) (w : World) (h : ISl w A n c xs) (h' : ISl w B n' c' ys) (e : xs = ys) :
    Calls Tryz.prog 24 #[.slice A n c, .slice B n' c'] w fun e w' => e = .returned (.bool true) ∧ ∃ q, w' = w.drewN q := by
  subst e
  have hnn : n' = n := by rw [h.len, h'.len]
  subst hnn
  have hle := h.le
  have hmx := h.max
  have H := Lib.hid h
  have H' := Lib.hid h'
  clear h h'
  go_enter Tryz.func24, Tryz.ntmps24
  go_wp2
  go_loopw [5] (fun i wr => ∃ k q : Nat, k ≤ n' ∧ i = .int .i64 k ∧ wr = w.drewN q) (fun i _ => n' - (intOf i).toNat)
  case atStart => exact ⟨0, 0, Nat.zero_le _, rfl, rfl⟩
  case round =>
    obtain ⟨k, q, hk, rfl, rfl⟩ := hrel
    by_cases hlt : k < n'
    · obtain ⟨b, o, rfl, hl1, hca⟩ := H.out.cf_ (by omega)
      obtain ⟨b', o', rfl, hl2, hcb⟩ := H'.out.cf_ (by omega)
      have h1 := hca k hlt
      have h2 := hcb k hlt
      generalize cf xs k = x at *
      have i1 : (0 : Int) ≤ (k : Int) := by omega
      have i2 : (k : Int) < (n' : Int) := by omega
      clear hca hcb
      go_wp2
      go_quiet (fail)
      go_wp2
      go_roundw
      case rel => exact ⟨k + 1, _, by omega, by go_num, rfl⟩
      case measure => simp [intOf]; omega
    · obtain rfl : k = n' := by omega
      go_wp2
      go_ret
      exact ⟨rfl, q, rfl⟩
set_option maxRecDepth 100000 in
set_option maxHeartbeats 4000000 in
theorem rSame9 (A B : Option Addr) (n c n' c' : Nat) (Z Z' : List Pt) (w : World) (h : PRd w A n c Z) (h' : PRd w B n' c' Z') (e : pls Z = pls Z') :
    Calls Tryz.prog 18 #[.slice A n c, .slice B n' c'] w fun e w' => e = .returned (.bool true) ∧ Below w.heap.size w w' := by
  have hll : Z.length = Z'.length := by rw [← pls_length Z, e, pls_length]
  have hnn : n' = n := by rw [h.len, h'.len, hll]
  subst hnn
  have hle := h.le
  have hmx := h.max
  have hle' := h'.le
  have hmx' := h'.max
  have H := Lib.hid h
  have H' := Lib.hid h'
  have ZL := Lib.hid h.len
  have ZL' := Lib.hid h'.len
  have EE : Hid (∀ k (h1 : k < Z.length) (h2 : k < Z'.length), Z[k].xs = Z'[k].xs ∧ Z[k].N = Z'[k].N) := Lib.hid (fun k h1 h2 => by
    have e1 : (pls Z)[k]? = (pls Z')[k]? := by rw [e]
    unfold pls at e1
    rw [List.getElem?_map, List.getElem?_map, List.getElem?_eq_getElem h1, List.getElem?_eq_getElem h2] at e1
    simp only [Option.map_some, Option.some.injEq, Pt.pl, Prod.mk.injEq] at e1
    exact e1)
  clear h h' e hll
  go_enter Tryz.func18, Tryz.ntmps18
  go_wp2
  go_loopw [5] (fun i wr => ∃ k q : Nat, k ≤ n' ∧ i = .int .i64 k ∧ wr = w.drewN q) (fun i _ => n' - (intOf i).toNat)
  case atStart => exact ⟨0, 0, Nat.zero_le _, rfl, rfl⟩
  case round =>
    obtain ⟨k, q, hk, rfl, hw⟩ := hrel
    have HW := Lib.hid hw
    by_cases hlt : k < n'
    · have k1 : k < Z.length := by rw [← ZL.out]; exact hlt
      have k2 : k < Z'.length := by rw [← ZL'.out]; exact hlt
      obtain ⟨b, o, rfl, hl1, hca⟩ := H.out.open_ (by omega)
      obtain ⟨b', o', rfl, hl2, hcb⟩ := H'.out.open_ (by omega)
      obtain ⟨h1, h3⟩ := hca k k1
      obtain ⟨h2, h4⟩ := hcb k k2
      have z1 := H.out.in_ _ (List.getElem_mem k1)
      have z2 := H'.out.in_ _ (List.getElem_mem k2)
      obtain ⟨e1, e2⟩ := EE.out k k1 k2
      obtain ⟨z, hz⟩ : ∃ z, Z[k] = z := ⟨_, rfl⟩
      obtain ⟨z', hz'⟩ : ∃ z, Z'[k] = z := ⟨_, rfl⟩
      rw [hz] at h1 h3 z1 e1 e2
      rw [hz'] at h2 h4 z2 e1 e2
      obtain ⟨zA, zn, zc, zx, zN⟩ := z
      obtain ⟨yA, yn, yc, yx, yN⟩ := z'
      have e1' : zx = yx := e1
      have e2' : zN = yN := e2
      subst e1' e2'
      simp only [Pt.sl, Pt.nv] at h1 h2 h3 h4
      have g1 : wr.cell? ⟨b, o + k * 2, none⟩ = some (.slice zA zn zc) := by rw [hw]; exact h1
      have g2 : wr.cell? ⟨b', o' + k * 2, none⟩ = some (.slice yA yn yc) := by rw [hw]; exact h2
      have g3 : wr.cell? ⟨b, o + k * 2 + 1, none⟩ = some (.int .i64 (zN : Int)) := by rw [hw]; exact h3
      have g4 : wr.cell? ⟨b', o' + k * 2 + 1, none⟩ = some (.int .i64 (zN : Int)) := by rw [hw]; exact h4
      have hbw : Below w.heap.size w wr := hw ▸ ibelow_drewN (Below.refl _ _) q
      have S1 := Lib.hid (fun r => quietD (rSameQ9 zA yA zn zc yn yc zx zx (wr.drewN r) (ISl.below (show ISl w zA zn zc zx from z1) (ibelow_drewN hbw r)) (ISl.below (show ISl w yA yn yc zx from z2) (ibelow_drewN hbw r)) rfl))
      have i1 : (0 : Int) ≤ (k : Int) := by omega
      have i2 : (k : Int) < (n' : Int) := by omega
      clear hca hcb z1 z2 e1 e2 hz hz' k1 k2 h1 h2 h3 h4 hw hbw
      go_wp2
      go_quiet ((go_at_call 24; with_reducible exact S1.out _))
      go_wp2
      go_roundw
      case rel => exact ⟨k + 1, _, by omega, by go_num, by rw [HW.out, World.drewN_drewN]⟩
      case measure => simp [intOf]; omega
    · obtain rfl : k = n' := by omega
      have HB : Hid (Below w.heap.size w wr) := Lib.hid (by rw [hw]; exact ibelow_drewN (Below.refl _ _) q)
      clear hw
      go_wp2
      go_ret
      exact ⟨rfl, HB.out⟩


theorem isl_lit (w : World) (xs : List Int) (g n : Nat) (hg : g = w.heap.size) (hn : n = xs.length) (hf : Fi xs) (hl : xs.length ≤ 1000) : ISl (w.alloc (.cells (xs.map iv).toArray 3)) (some ⟨g, 0, none⟩) n n xs := by
  subst hg hn
  exact (iblk_list w xs hf).sl (by omega)
set_option maxRecDepth 100000 in
set_option maxHeartbeats 400000 in
theorem lTimes9 (A B : Option Addr) (n c n' c' : Nat) (xs ys : List Int) (p : Int) (w : World) (hT : TabAt w) (h : ISl w A n c xs) (h' : ISl w B n' c' ys) (ip : In64 p) (hn : n ≤ 100000000) (hn' : n' ≤ 100000000) :
    Calls Tryz.prog 28 #[.slice A n c, .slice B n' c', .int .i64 p] w fun e w' => ∃ C m d, e = .returned (.slice C m d) ∧ Got w C m d (polL p (Ser.mul (cf xs) (cf ys))) (n + n') w' := by
  have CC := Lib.hid (cMul A B n c n' c' xs ys p w hT h h' ip hn hn')
  generalize chk p = u at *
  clear h h' ip hn hn' hT
  go_enter Tryz.func28, Tryz.ntmps28
  go_wp2_with (go_at_call 50; (with_reducible refine CC.out.mono ?_); rintro e w' ⟨C, m, d, rfl, hg⟩)
  go_ret
  exact ⟨C, m, d, rfl, hg⟩

end Go.Proofs.YtnkhhndjbanmnaaGreatDoor

/- The document's examples of layer 9 by contract. -/
namespace Go.Proofs.YtnkhhndjbanmnaaGreatDoor
open Go.RowKit Go.Shelf Go.Lib

theorem in64_s {x : Int} (h : -100 ≤ x ∧ x ≤ 100) : In64 x := by unfold In64; omega
theorem fi_s {xs : List Int} (h : xs.all (fun x => decide (0 ≤ x ∧ x < 10)) = true) : Fi xs := fun x hx => by
  have := List.all_eq_true.1 h x hx
  simp only [decide_eq_true_eq] at this
  unfold In64; omega
theorem eff_mnw {p : Int} {xs : List Int} (hp : Pr p) (h : Mn p xs) (hl : xs.length ≤ 65) : eff p (cf xs) = 0 := eff_yes hp h.nz (by rw [monL_self hp h]; exact hl)
theorem aFacs (A : Option Addr) (c : Nat) (w : World) (hT : TabAt w) (h : ISl w A 3 c [1, 0, 1]) :
    Calls Tryz.prog 12 #[.slice A 3 c, .int .i64 5, nilv] w fun e w' => ∃ A' c' Z, e = .returned (.tuple #[.slice A' 2 c', .int .i64 0]) ∧ PRd w' A' 2 c' Z ∧ pls Z = [([2, 1], 1), ([3, 1], 1)] ∧ Below w.heap.size w w' := by
  have e0 := eff_mnw pr5 mn5_w (by decide)
  refine (gFacs A none 3 c 0 0 _ [] 5 w hT h (isl_nil _) (in64_s (by decide)) (by decide)).mono ?_
  rintro e w' ⟨A', k, c', Z, rfl, h1, h2, _, _, h3⟩
  rw [facL_is e0 (by rw [monL_self pr5 mn5_w]; exact ex5_fac)] at h2
  obtain rfl : k = 2 := by rw [h1.len, ← pls_length, h2]; rfl
  exact ⟨A', c', Z, by rw [e0], h1, h2, h3⟩
theorem aIrr (A : Option Addr) (c : Nat) (w : World) (hT : TabAt w) (h : ISl w A 3 c [1, 0, 1]) :
    Calls Tryz.prog 13 #[.slice A 3 c, .int .i64 3] w fun e w' => e = .returned (.tuple #[.bool true, .int .i64 0]) ∧ Below w.heap.size w w' := by
  have e0 := eff_mnw prr3 mn3_w (by decide)
  refine (gIrr A 3 c _ 3 w hT h (in64_s (by decide)) (by decide)).mono ?_
  rintro e w' ⟨rfl, h1⟩
  rw [e0, (irrB_iff e0).2 (by rw [monL_self prr3 mn3_w]; exact ex3_irr)]
  exact ⟨rfl, h1⟩
theorem prd_twoF (w : World) (g1 g2 g : Nat) (hg : g = w.heap.size) (xs ys : List Int) (a b : Nat) (h1 : ISl w (some ⟨g1, 0, none⟩) 2 2 xs) (h2 : ISl w (some ⟨g2, 0, none⟩) 2 2 ys) :
    PRd (w.alloc (.cells #[.slice (some ⟨g1, 0, none⟩) 2 2, .int .i64 (a : Int), .slice (some ⟨g2, 0, none⟩) 2 2, .int .i64 (b : Int)] 42)) (some ⟨g, 0, none⟩) 2 2 [⟨some ⟨g1, 0, none⟩, 2, 2, xs, a⟩, ⟨some ⟨g2, 0, none⟩, 2, 2, ys, b⟩] := by
  subst hg
  refine ⟨rfl, Nat.le_refl _, by decide, fun z hz => ?_, .inr ⟨w.heap.size, 0, rfl, by simp, fun i hi => ?_⟩⟩
  · simp only [List.mem_cons, List.not_mem_nil, or_false] at hz
    rcases hz with rfl | rfl
    · exact isl_alloc h1 _
    · exact isl_alloc h2 _
  · match i, hi with
    | 0, _ => exact ⟨by simp [Pt.sl], by simp [Pt.nv]⟩
    | 1, _ => exact ⟨by simp [Pt.sl], by simp [Pt.nv]⟩

set_option maxRecDepth 100000 in
set_option maxHeartbeats 4000000 in
theorem awake09 (w : World) (hT : TabAt w) : Calls Tryz.prog 10 #[] w fun e w' => e = .returned (.bool true) ∧ Below w.heap.size w w' := by
  have HT := Lib.hid hT
  clear hT
  have hA := Lib.hid (isl_lit w [1, 0, 1] w.heap.size 3 rfl rfl (fi_s (by decide)) (by decide))
  go_enter Tryz.func10, Tryz.ntmps10
  go_wp2_with fail
  refine (aFacs _ 3 _ (HT.out.below (bel_al _ _)) hA.out).mono ?_
  rintro e w1 ⟨A', c', Z, rfl, hrd, hpl, hb1⟩
  have HB1 := Lib.hid (below_to (bel_al w _) hb1)
  have RD := Lib.hid hrd
  have PL := Lib.hid hpl
  clear hA hrd hpl hb1
  have hA := Lib.hid (isl_lit w1 [1, 0, 1] w1.heap.size 3 rfl rfl (fi_s (by decide)) (by decide))
  go_wp2_with fail
  refine (aIrr _ 3 _ (HT.out.below (below_to HB1.out (bel_al _ _))) hA.out).mono ?_
  rintro e w2 ⟨rfl, hb2⟩
  have hb12 := below_to (bel_al w1 _) hb2
  have HB2 := Lib.hid (below_to HB1.out hb12)
  have RD2 := Lib.hid (RD.out.below hb12)
  clear hA hb2 hb12
  go_wp2_with fail
  refine (lTheirs9 A' 2 c' Z w2 RD2.out (by omega)).mono ?_
  rintro e w3 ⟨A3, c3, rfl, hrd3, hb3⟩
  have HB3 := Lib.hid (below_to HB2.out hb3)
  have RD3 := Lib.hid hrd3
  clear hrd3 hb3
  have i1 := isl_lit w3 [2, 1] w3.heap.size 2 rfl rfl (fi_s (by decide)) (by decide)
  have i2 := isl_lit (w3.alloc (.cells #[iv 2, iv 1] 3)) [3, 1] (w3.heap.size + 1) 2 (by simp) rfl (fi_s (by decide)) (by decide)
  have h3 := Lib.hid (prd_twoF ((w3.alloc (.cells #[iv 2, iv 1] 3)).alloc (.cells #[iv 3, iv 1] 3)) w3.heap.size (w3.heap.size + 1) (w3.heap.size + 1 + 1) (by simp) [2, 1] [3, 1] 1 1 (isl_alloc i1 _) i2)
  have hb := Lib.hid (below_to (below_to (bel_al w3 (.cells #[iv 2, iv 1] 3)) (bel_al _ (.cells #[iv 3, iv 1] 3))) (bel_al _ (.cells #[.slice (some ⟨w3.heap.size, 0, none⟩) 2 2, .int .i64 ((1 : Nat) : Int), .slice (some ⟨w3.heap.size + 1, 0, none⟩) 2 2, .int .i64 ((1 : Nat) : Int)] 42)))
  clear i1 i2
  go_wp2_with fail
  refine (rSame9 A3 _ 2 c3 2 2 Z _ _ (RD3.out.below hb.out) h3.out (by rw [PL.out]; rfl)).mono ?_
  rintro e w4 ⟨rfl, hb4⟩
  have HB4 := Lib.hid (below_to HB3.out (below_to hb.out hb4))
  clear h3 hb hb4
  go_wp2_with fail
  go_ret
  exact ⟨rfl, HB4.out⟩
end Go.Proofs.YtnkhhndjbanmnaaGreatDoor

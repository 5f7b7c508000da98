/- The law FfacProduct: its walk and its card. -/
import Derived.Test.YtnkhhndjbanmnaaGreatDoorMp42
import Derived.Test.YtnkhhndjbanmnaaGreatDoorMp46
import Derived.Test.YtnkhhndjbanmnaaGreatDoorTie
import Derived.Test.YtnkhhndjbanmnaaGreatDoorCards
import Derived.ChangeOld
import Derived.ChangeMaps5
import Derived.Lay
import Derived.LaidMore
import Derived.SevenTiedAt
import Derived.Stop.Joined
import Derived.Below

/- The law FfacProduct, walked. -/
namespace Go.Proofs.YtnkhhndjbanmnaaGreatDoor
open Go.RowKit

theorem fct_ahd {L : PL} {Z : List Pt} (h : L.Pairwise fun x y => Ahd x.1 y.1) (e : pls Z = L) {i j : Nat} (hi : i < Z.length) (hj : j < Z.length) (hij : i < j) {z : Pt} (hz : Z[j] = z) : ordI Z[i].xs z.xs < 0 := by
  subst e
  rw [List.pairwise_iff_getElem] at h
  have := h i j (by rw [pls_length]; exact hi) (by rw [pls_length]; exact hj) hij
  unfold pls at this
  rw [List.getElem_map, List.getElem_map, hz] at this
  exact ahd_lt.1 this
theorem mn_top9 {p : Int} {xs : List Int} (h : Mn p xs) : cf xs (xs.length - 1) = 1 := by
  have h1 := h.2.2.2
  have hr := h.1.1 (cf xs (xs.length - 1)) (cf_mem (by have := h.pos; omega))
  rwa [Int.emod_eq_of_lt hr.1 hr.2] at h1
set_option maxRecDepth 100000 in
set_option maxHeartbeats 4000000 in
theorem walkFfacProduct (A : Option Addr) (n c : Nat) (xs : List Int) (p : Int) (B : Option Addr) (n1 c1 : Nat) (ds : List Int) (w : World) (hT : TabAt w) (sm : ISl w A n c xs) (_ : n ≤ 17592186044416) (wp : (Lit.int .i64 p).wf = true) (sm1 : ISl w B n1 c1 ds) (_ : n1 ≤ 17592186044416) :
    Calls Tryz.prog 6 #[.slice A n c, .int .i64 p, .slice B n1 c1] w fun e w' => e = .returned (.bool true) ∧ Below w.heap.size w w' := by
  have ip : In64 p := int_wf wp
  have AW := Lib.hid (awake09 w hT)
  have GR := Lib.hid (fun W (hb : Below w.heap.size w W) => lGreat A n c xs p W (sm.below hb) ip)
  have hle := sm.le
  have hmx := sm.max
  have hle1 := sm1.le
  have hmx1 := sm1.max
  cases hg : grB n (eff p (cf xs)) with
  | true =>
    rw [hg] at GR
    clear sm sm1 hT wp ip hg
    go_enter Tryz.func6, Tryz.ntmps6
    go_wp2_with (first
      | (go_at_call 10; (with_reducible refine AW.out.mono ?_); rintro e w0 ⟨rfl, hb0⟩; have HB := Lib.hid hb0; clear hb0)
      | (go_at_call 26; (with_reducible refine (GR.out _ HB.out).mono ?_); rintro e w1 ⟨rfl, hb1⟩; have HB := hstep9 HB hb1; clear hb1)
      | fail)
    go_ret
    exact ⟨rfl, HB.out⟩
  | false =>
    rw [hg] at GR
    obtain ⟨g1, g2⟩ := grB_no hg
    by_cases h1 : (40 : Int) < (n1 : Int)
    · clear sm sm1 hT wp ip hg
      go_enter Tryz.func6, Tryz.ntmps6
      go_wp2_with (first
        | (go_at_call 10; (with_reducible refine AW.out.mono ?_); rintro e w0 ⟨rfl, hb0⟩; have HB := Lib.hid hb0; clear hb0)
        | (go_at_call 26; (with_reducible refine (GR.out _ HB.out).mono ?_); rintro e w1 ⟨rfl, hb1⟩; have HB := hstep9 HB hb1; clear hb1)
        | fail)
      go_ret
      exact ⟨rfl, HB.out⟩
    have F1 := Lib.hid (fun W (hb : Below w.heap.size w W) => gFacs A B n c n1 c1 xs ds p W (hT.below hb) (sm.below hb) (sm1.below hb) ip (by omega))
    have N1 := Lib.hid (fun W (hb : Below w.heap.size w W) => cNorm A n c xs p W (hT.below hb) (sm.below hb) ip (by omega))
    obtain ⟨hp, hb, hmn, _⟩ := eff_mn g2
    obtain ⟨m, hm, hml, hmc, hc1, hc2⟩ := last_cf9 hp hb
    have hlen : (monL p (cf xs)).length ≤ 17 := by have := (mn_monL hp hb).2.1; have := sm.len; omega
    rw [g2] at F1
    rw [chk_yes (primB_yes hp)] at N1
    have DN := Lib.hid (fun (v : Ser → Nat) (out : List Int) => @Grw.done p v out xs hp m hm (cf (polL p (cf xs)) m) hmc)
    have HT := Lib.hid hT
    have PR := Lib.hid hp
    have HM := Lib.hid hmn
    have HL := Lib.hid hlen
    have HX := Lib.hid hml
    have hm10 : ((m : Int) + 1 == 0) = false := by simp; omega
    have CB := Lib.hid (And.intro hc1 hc2)
    clear sm sm1 hT wp ip hg g1 g2 hp hb hmn hlen hm hml hmc hc1 hc2
    generalize monL p (cf xs) = mo at *
    generalize facL p (cf xs) = L at *
    generalize polL p (cf xs) = X at *
    go_enter Tryz.func6, Tryz.ntmps6
    go_wp2_with (first
      | (go_at_call 10; (with_reducible refine AW.out.mono ?_); rintro e w0 ⟨rfl, hb0⟩; have HB := Lib.hid hb0; clear hb0)
      | (go_at_call 26; (with_reducible refine (GR.out _ HB.out).mono ?_); rintro e w1 ⟨rfl, hb1⟩; have HB := hstep9 HB hb1; clear hb1)
      | (go_at_call 12; with_reducible refine (F1.out _ HB.out).mono ?_; rintro e w2 ⟨A1, k1, d1, Z, rfl, hr1, hp1, hf1, hk1, hb2⟩; have RD1 := Lib.hid hr1; have PL := Lib.hid hp1; have FN := Lib.hid (hf1 (by trivial)); have HB := hstep9 HB hb2; have hdl := hr1.le; have hdm := hr1.max; clear hr1 hp1 hb2 F1 hf1)
      | (go_at_call 27; with_reducible refine (N1.out _ HB.out).mono ?_; rintro e w3 ⟨CX, mx, dx, rfl, hgx⟩; obtain rfl : mx = m + 1 := hgx.isl.len.trans HX.out; have IX := Lib.hid hgx.isl; have RD := Lib.hid (RD1.out.below hgx.bel); have HB := hstep9 HB hgx.bel; have hxl := hgx.isl.le; have hxm := hgx.isl.max; obtain ⟨bx, ox, rfl, hbx, hcx⟩ := hgx.isl.cf_ (by omega); have hcx := hcx m (by omega); clear hgx N1)
      | fail)
    have HZL := Lib.hid RD.out.len
    have CX : Hid (cf X m = cf X m) := Lib.hid rfl
    obtain ⟨cx, hcx0⟩ : ∃ cx, cf X m = cx := ⟨_, rfl⟩
    rw [hcx0] at CB DN hcx ⊢
    have i64c : In64 cx := by have := CB.out; have := PR.out.2.1; unfold In64; omega
    have G0 := Lib.hid (grw_start PR.out CB.out.1 CB.out.2)
    have I0 := Lib.hid (isl_lit w3 [cx] w3.heap.size 1 rfl rfl (fi_one i64c) (by simp))
    have B0 := Lib.hid (bel_al w3 (.cells #[.int .i64 cx] 3))
    have NZ : Hid (cx % p ≠ 0) := Lib.hid (by have := CB.out; rw [Int.emod_eq_of_lt (by omega) this.2]; omega)
    clear CX hcx0 i64c
    go_loopw [12, 13] (fun v i wr => ∃ (j : Nat) (C : Option Addr) (mo' d : Nat) (out : List Int), j ≤ k1 ∧ i = .int .i64 (j : Int) ∧ v = .slice C mo' d ∧ Hid (ISl wr C mo' d out) ∧ Hid (Grw p cx (fun r => vn p r (L.take j)) out) ∧ Hid (Below w3.heap.size w3 wr)) (fun _ i _ => k1 - (intOf i).toNat)
    case atStart => exact ⟨0, _, _, _, [cx], Nat.zero_le _, rfl, rfl, I0, Lib.hid (by simpa [vn] using G0.out), B0⟩
    case round =>
      obtain ⟨j, C, mo', d, out, hj, rfl, rfl, IZo, GO, BO⟩ := hrel
      obtain ⟨wo, rfl⟩ : ∃ wo, wo = wr := ⟨wr, rfl⟩
      have hcx2 := (BO.out.cell (p := ⟨bx, ox + m, none⟩) hbx).trans hcx
      by_cases hlt : j < k1
      · have hlz : j < Z.length := by rw [← HZL.out]; exact hlt
        obtain ⟨b, o, rfl, hbl, hc⟩ := (RD.out.below BO.out).open_ (by omega)
        obtain ⟨c0, c1⟩ := hc j hlz
        have zin := (RD.out.in_ _ (List.getElem_mem hlz)).below BO.out
        have hlL : j < L.length := by rw [← PL.out, pls_length]; exact hlz
        have epl : L[j] = Z[j].pl := by
          have e1 : (pls Z)[j]? = L[j]? := by rw [PL.out]
          unfold pls at e1
          rw [List.getElem?_map, List.getElem?_eq_getElem hlz, List.getElem?_eq_getElem hlL] at e1
          simpa using e1.symm
        obtain ⟨a1, a2, a3, a4, a5⟩ := FN.out.own L[j] (List.getElem_mem hlL)
        have hnum := FN.out.num PR.out HM.out (List.getElem_mem hlL)
        have hvt := fun r => vn_take (p := p) (q := r) hlL
        have hvle := fun r => vn_take_le (p := p) (q := r) L (j + 1)
        rw [epl] at a1 a2 a3 a4 a5 hnum hvt
        obtain ⟨z, hz⟩ : ∃ z, Z[j] = z := ⟨_, rfl⟩
        rw [hz] at c0 c1 zin a1 a2 a3 a4 a5 hnum hvt
        obtain ⟨zA, zn, zc, zx, zN⟩ := z
        simp only [Pt.sl, Pt.nv] at c0 c1
        have zin : ISl wo zA zn zc zx := zin
        have a1 : Mn p zx := a1
        have a2 : 2 ≤ zx.length := a2
        have a3 : Irr p (cf zx) := a3
        have a4 : 1 ≤ zN := a4
        have a5 : V p (cf mo) (cf zx) = zN := a5
        have hvt : ∀ r, vn p r (L.take (j + 1)) = vn p r (L.take j) + zN * V p (cf zx) r := hvt
        have hnum : zN + 1 ≤ mo.length := hnum
        have hzl : zx.length ≤ mo.length := irr_len PR.out HM.out a1 a3 (by rw [a5]; exact a4)
        have hml := HL.out
        have hzn : zn = zx.length := zin.len
        have h2n : 2 ≤ zn := by omega
        have h17 : zn ≤ 17 := by omega
        have hN1 : 1 ≤ zN := a4
        have hN2 : zN ≤ 16 := by omega
        have e0 := eff_mnw PR.out a1 (by omega)
        have IR := gIrr zA zn zc zx p wo (HT.out.below (HB.out.trans (BO.out.mono HB.out.size))) zin PR.out.md.in64 (by omega)
        rw [e0, (irrB_iff e0).2 (by rw [monL_self PR.out a1]; exact a3)] at IR
        have htop := mn_top9 a1
        rw [← hzn] at htop
        obtain ⟨bz, oz, rfl, hbz, hcz⟩ := zin.cf_ (by omega)
        have hcz := hcz (zn - 1) (by omega)
        rw [htop] at hcz
        have n1p : (zn : Int) - 1 = ((zn - 1 : Nat) : Int) := by omega
        have HIR := Lib.hid IR
        have HRD := Lib.hid (Lib.hid hc)
        have HUP := Lib.hid (fun (i : Nat) (hi : i < Z.length) (hij : i < j) => fct_ahd FN.out.up PL.out hi hlz hij hz)
        have ZI := Lib.hid (show ISl wo (some ⟨bz, oz, none⟩) zn zc zx from zin)
        have HVT := Lib.hid (show ∀ r, vn p r (L.take (j + 1)) = vn p r (L.take j) + zN * V p (cf zx) r from hvt)
        have HVE := Lib.hid hvle
        have HZN := Lib.hid hzn
        have HA1 := Lib.hid a1
        have HEP := Lib.hid epl
        clear epl
        have HA5 := Lib.hid a5
        have zcl : zn ≤ zc := zin.le
        have zcm := zin.max
        have i1 : (0 : Int) ≤ (j : Int) := by omega
        have i2 : (j : Int) < (k1 : Int) := by omega
        have hnn1 : ¬ (zN : Int) < 1 := by omega
        have hnn2 : ¬ (20 : Int) < (zN : Int) := by omega
        have hnn3 : ¬ (zn : Int) < 2 := by omega
        clear hc zin a1 a2 a3 a4 a5 hvt hvle hnum hzl hml hzn e0 IR htop hz
        by_cases hj0 : (0 : Int) < (j : Int)
        · have hj1 : j - 1 < Z.length := by omega
          obtain ⟨y0, _⟩ := HRD.out.out (j - 1) hj1
          have yin := (RD.out.in_ _ (List.getElem_mem hj1)).below BO.out
          have hAh : ordI (Z[j - 1]).xs zx < 0 := HUP.out (j - 1) hj1 (by omega)
          have hyl : (Z[j - 1]).xs.length ≤ mo.length := by
            obtain ⟨e1, _, e3, e4, e5⟩ := FN.out.own (Z[j - 1]).pl (by rw [← PL.out]; exact List.mem_map.2 ⟨_, List.getElem_mem hj1, rfl⟩)
            exact irr_len PR.out HM.out e1 e3 (Nat.le_trans e4 (Nat.le_of_eq e5.symm))
          obtain ⟨y, hy⟩ : ∃ y, Z[j - 1] = y := ⟨_, rfl⟩
          rw [hy] at y0 yin hAh hyl
          obtain ⟨yA, yn, yc, yx, yN⟩ := y
          simp only [Pt.sl] at y0
          have yin : ISl wo yA yn yc yx := yin
          have hAh : ordI yx zx < 0 := hAh
          have ycl : yn ≤ yc := yin.le
          have ycm := yin.max
          have YI := Lib.hid yin
          have hyl : yx.length ≤ mo.length := hyl
          have ylen : yn ≤ 17592186044416 := by have := yin.len; have := HL.out; omega
          have YLN := Lib.hid ylen
          have HAH := Lib.hid (decide_eq_true hAh)
          have j1p : (j : Int) - 1 = ((j - 1 : Nat) : Int) := by omega
          have j1a : (0 : Int) ≤ ((j - 1 : Nat) : Int) := by omega
          have j1b : ((j - 1 : Nat) : Int) < (k1 : Int) := by omega
          clear yin hAh hy ylen hyl
          go_wp2_with (first
            | (go_at_call 13; with_reducible refine HIR.out.mono ?_; rintro e w5 ⟨rfl, hb5⟩; have HB5 := Lib.hid hb5; have c05 := (hb5.cell (p := ⟨b, o + j * 2, none⟩) hbl).trans c0; have c15 := (hb5.cell (p := ⟨b, o + j * 2 + 1, none⟩) hbl).trans c1; have cz5 := (hb5.cell (p := ⟨bz, oz + (zn - 1), none⟩) hbz).trans hcz; have hbl5 := Nat.lt_of_lt_of_le hbl hb5.size; have hbz5 := Nat.lt_of_lt_of_le hbz hb5.size; have y05 := (hb5.cell (p := ⟨b, o + (j - 1) * 2, none⟩) hbl).trans y0; have LS := gLess yA (some ⟨bz, oz, none⟩) yn yc zn zc yx zx w5 (YI.out.below hb5) (ZI.out.below hb5) YLN.out; rw [HAH.out] at LS; have LSS := Lib.hid LS; clear LS; clear hb5)
            | (go_at_call 20; with_reducible refine LSS.out.mono ?_; rintro e w6 ⟨rfl, hb6⟩; have HB6 := Lib.hid (below_to HB5.out hb6); clear hb6)
            | fail)
          have BW := Lib.hid (HB6.out)
          have IO5 := Lib.hid (IZo.out.below BW.out)
          have ZI5 := Lib.hid (ZI.out.below BW.out)
          have c16 := (BW.out.cell (p := ⟨b, o + j * 2 + 1, none⟩) hbl).trans c1
          have hbl6 := Nat.lt_of_lt_of_le hbl BW.out.size
          go_loopw [12, 17] (fun v i wr => ∃ (t : Nat) (C' : Option Addr) (m' d' : Nat) (out' : List Int), t ≤ zN ∧ i = .int .i64 (t : Int) ∧ v = .slice C' m' d' ∧ Hid (ISl wr C' m' d' out') ∧ Hid (Grw p cx (fun r => vn p r (L.take j) + t * V p (cf zx) r) out') ∧ Hid (Below w6.heap.size w6 wr)) (fun _ i _ => zN - (intOf i).toNat)
          case atStart => exact ⟨0, _, _, _, out, Nat.zero_le _, rfl, rfl, IO5, Lib.hid (GO.out.congr fun q _ => by simp), Lib.hid (Below.refl _ _)⟩
          case round =>
            obtain ⟨t, C', m', d', out', ht, rfl, rfl, IZo', GO', BO'⟩ := hrel
            have c17 := (BO'.out.cell (p := ⟨b, o + j * 2 + 1, none⟩) hbl6).trans c16
            have hbl7 := Nat.lt_of_lt_of_le hbl6 BO'.out.size
            by_cases hlt2 : t < zN
            · have hlen := GO'.out.len PR.out NZ.out HM.out fun q hq => by
                show vn p q (L.take j) + t * V p (cf zx) q ≤ _
                have h1 : vn p q (L.take j) + zN * V p (cf zx) q ≤ vn p q L := by rw [← HVT.out q]; exact HVE.out q
                have h2 : t * V p (cf zx) q ≤ zN * V p (cf zx) q := Nat.mul_le_mul_right _ ht
                rw [← FN.out.vn PR.out HM.out q hq]
                exact Nat.le_trans (Nat.add_le_add_left h2 _) h1
              have h17' := HL.out
              have il := IZo'.out.len
              have TM := Lib.hid (lTimes9 C' (some ⟨bz, oz, none⟩) m' d' zn zc out' zx p wr (HT.out.below (HB.out.trans ((below_to BO.out (below_to BW.out BO'.out)).mono HB.out.size))) IZo'.out (ZI5.out.below BO'.out) PR.out.md.in64 (by omega) (by omega))
              have NX := Lib.hid (GO'.out.next PR.out HA1.out)
              have hk2 : (t : Int) < (zN : Int) := by omega
              clear hlen h17' il
              go_wp2_with (first
                | (go_at_call 28; with_reducible refine TM.out.mono ?_; rintro e w7 ⟨C7, m7, d7, rfl, hg7⟩; have I7 := Lib.hid hg7.isl; have B7 := Lib.hid (below_to BO'.out hg7.bel); clear hg7)
                | fail)
              go_roundw
              case rel => exact ⟨t + 1, C7, m7, d7, _, by omega, by go_num, rfl, I7, Lib.hid (NX.out.congr fun q _ => by show vn p q (L.take j) + t * V p (cf zx) q + V p (cf zx) q = vn p q (L.take j) + (t + 1) * V p (cf zx) q; rw [Nat.succ_mul]; omega), B7⟩
              case measure => simp [intOf]; omega
            · obtain rfl : t = zN := by omega
              go_wp2_with fail
              go_roundw
              case rel => exact ⟨j + 1, C', m', d', out', by omega, by go_num, rfl, IZo', Lib.hid (GO'.out.congr fun q _ => (HVT.out q).symm), Lib.hid (below_to BO.out (below_to BW.out BO'.out))⟩
              case measure => simp [intOf]; omega
        · go_wp2_with (first
            | (go_at_call 13; with_reducible refine HIR.out.mono ?_; rintro e w5 ⟨rfl, hb5⟩; have HB5 := Lib.hid hb5; have c05 := (hb5.cell (p := ⟨b, o + j * 2, none⟩) hbl).trans c0; have c15 := (hb5.cell (p := ⟨b, o + j * 2 + 1, none⟩) hbl).trans c1; have cz5 := (hb5.cell (p := ⟨bz, oz + (zn - 1), none⟩) hbz).trans hcz; have hbl5 := Nat.lt_of_lt_of_le hbl hb5.size; have hbz5 := Nat.lt_of_lt_of_le hbz hb5.size; clear hb5)
            | fail)
          have BW := Lib.hid (HB5.out)
          have IO5 := Lib.hid (IZo.out.below BW.out)
          have ZI5 := Lib.hid (ZI.out.below BW.out)
          have c16 := (BW.out.cell (p := ⟨b, o + j * 2 + 1, none⟩) hbl).trans c1
          have hbl6 := Nat.lt_of_lt_of_le hbl BW.out.size
          go_loopw [12, 17] (fun v i wr => ∃ (t : Nat) (C' : Option Addr) (m' d' : Nat) (out' : List Int), t ≤ zN ∧ i = .int .i64 (t : Int) ∧ v = .slice C' m' d' ∧ Hid (ISl wr C' m' d' out') ∧ Hid (Grw p cx (fun r => vn p r (L.take j) + t * V p (cf zx) r) out') ∧ Hid (Below w5.heap.size w5 wr)) (fun _ i _ => zN - (intOf i).toNat)
          case atStart => exact ⟨0, _, _, _, out, Nat.zero_le _, rfl, rfl, IO5, Lib.hid (GO.out.congr fun q _ => by simp), Lib.hid (Below.refl _ _)⟩
          case round =>
            obtain ⟨t, C', m', d', out', ht, rfl, rfl, IZo', GO', BO'⟩ := hrel
            have c17 := (BO'.out.cell (p := ⟨b, o + j * 2 + 1, none⟩) hbl6).trans c16
            have hbl7 := Nat.lt_of_lt_of_le hbl6 BO'.out.size
            by_cases hlt2 : t < zN
            · have hlen := GO'.out.len PR.out NZ.out HM.out fun q hq => by
                show vn p q (L.take j) + t * V p (cf zx) q ≤ _
                have h1 : vn p q (L.take j) + zN * V p (cf zx) q ≤ vn p q L := by rw [← HVT.out q]; exact HVE.out q
                have h2 : t * V p (cf zx) q ≤ zN * V p (cf zx) q := Nat.mul_le_mul_right _ ht
                rw [← FN.out.vn PR.out HM.out q hq]
                exact Nat.le_trans (Nat.add_le_add_left h2 _) h1
              have h17' := HL.out
              have il := IZo'.out.len
              have TM := Lib.hid (lTimes9 C' (some ⟨bz, oz, none⟩) m' d' zn zc out' zx p wr (HT.out.below (HB.out.trans ((below_to BO.out (below_to BW.out BO'.out)).mono HB.out.size))) IZo'.out (ZI5.out.below BO'.out) PR.out.md.in64 (by omega) (by omega))
              have NX := Lib.hid (GO'.out.next PR.out HA1.out)
              have hk2 : (t : Int) < (zN : Int) := by omega
              clear hlen h17' il
              go_wp2_with (first
                | (go_at_call 28; with_reducible refine TM.out.mono ?_; rintro e w7 ⟨C7, m7, d7, rfl, hg7⟩; have I7 := Lib.hid hg7.isl; have B7 := Lib.hid (below_to BO'.out hg7.bel); clear hg7)
                | fail)
              go_roundw
              case rel => exact ⟨t + 1, C7, m7, d7, _, by omega, by go_num, rfl, I7, Lib.hid (NX.out.congr fun q _ => by show vn p q (L.take j) + t * V p (cf zx) q + V p (cf zx) q = vn p q (L.take j) + (t + 1) * V p (cf zx) q; rw [Nat.succ_mul]; omega), B7⟩
              case measure => simp [intOf]; omega
            · obtain rfl : t = zN := by omega
              go_wp2_with fail
              go_roundw
              case rel => exact ⟨j + 1, C', m', d', out', by omega, by go_num, rfl, IZo', Lib.hid (GO'.out.congr fun q _ => (HVT.out q).symm), Lib.hid (below_to BO.out (below_to BW.out BO'.out))⟩
              case measure => simp [intOf]; omega
      · obtain rfl : k1 = j := by omega
        have EO := Lib.hid (DN.out _ out GO.out fun q hq => by
          rw [← FN.out.vn PR.out HM.out q hq, List.take_of_length_le (by rw [← PL.out, pls_length, ← HZL.out]; exact Nat.le_refl _)])
        have SM := Lib.hid (polSame C (some ⟨bx, ox, none⟩) mo' d (m + 1) dx _ _ wo IZo.out (IX.out.below BO.out) EO.out)
        go_wp2_with (first
          | (go_at_call 24; with_reducible refine SM.out.mono ?_; rintro e w6 ⟨rfl, hb6⟩; have HB6 := Lib.hid (below_to BO.out hb6); clear hb6)
          | fail)
        go_ret
        exact ⟨rfl, (hstep9 HB HB6.out).out⟩
end Go.Proofs.YtnkhhndjbanmnaaGreatDoor

/- The statement 'FfacProduct', a tied card: for every input the law's function returns true and leaves its arguments as they were; the package-level tables that the row lists are laid as the program's text lays them. No conditions but the form's own. -/
namespace Go.Proofs.YtnkhhndjbanmnaaGreatDoor.lawFfacProductCard
open Go.ChangeShapes Go.WideShapes Go.ChangeAt Go.RowKit Go.ChangeMaps
set_option maxRecDepth 100000 in
theorem lifted (os : Os) (started : os.Started) (H : Type) (enc : TypeId × Value → H) :
    ReturnsInHanded {} Tryz.checked os 6 .any (fun w args => (Rows.ffacProductSpec.pre enc Tryz.prog Tryz.f6 Rows.ffacProductRow.domain false w args ∧ laidMetH Tryz.prog Rows.ffacProductRow.laid w) ∧ sizedMet enc Tryz.prog Tryz.f6 (OpenSpec.ofChange Rows.ffacProductSpec) false w args)
      (Rows.ffacProductSpec.post enc Tryz.prog Tryz.f6 false true false false) := by
  refine returnsInHanded_of_change_and (C := Tryz.checked) (X := fun w _ => laidMetH Tryz.prog Rows.ffacProductRow.laid w) (fun _ _ _ hh h => h.of_heap hh) own0 started (by kernel_rfl) Tryz.func6
    (ChangeSpec.witness_shaped (enc := enc) (C := Tryz.checked) (os := os) (X := fun w _ => laidMetH Tryz.prog Rows.ffacProductRow.laid w) false (World.laidAll Tryz.prog os Rows.ffacProductRow.laid) #[.slice none 0 0, .int .i64 0, .slice none 0 0] 8 (World.laidAll_os _ _ _)
      (World.shaped_of_ZipB (by kernel_rfl) (by kernel_rfl)) (by kernel_rfl) (by kernel_rfl) (by kernel_rfl)
      (by rw [MakeChecks.laidMetH_plain _ _ _ (by kernel_rfl)]; exact laidMet_laidAll _ (by kernel_rfl) (by kernel_rfl))) ?_
  intro W base args ds gs before hval0 hW hcnd hsz0 hL hholds
  have hval : ∀ (j : Nat) t v, Tryz.f6.params[j]? = some t → args[j]? = some v → Value.okWide Tryz.prog W .any base t v := hval0
  have hW' := hW
  obtain ⟨p, q, hA0, hV, rfl, hfz, hnd⟩ := hW
  have hA : DataW.TrodAll enc Tryz.prog W 0 (fun _ => true) true Tryz.f6.params.toList args.toList ds p := hA0
  have hsz : (DataW.weightsEach Tryz.prog (Tryz.f6.params.toList ++ Rows.ffacProductSpec.plain.varTypes Tryz.prog) (ds ++ gs)).all (· ≤ reachBytes) = true := hsz0
  rw [Tryz.params6] at hA hval hsz
  obtain ⟨v0, vs0, d0, ds0, p0, q0, hargs, rfl, rfl, h0, r0⟩ := trodAll_cons hA
  obtain ⟨v1, vs1, d1, ds1, p1, q1, rfl, rfl, rfl, h1, r1⟩ := trodAll_cons r0
  obtain ⟨v2, vs2, d2, ds2, p2, q2, rfl, rfl, rfl, h2, r2⟩ := trodAll_cons r1
  obtain ⟨rfl, rfl, rfl⟩ := trodAll_nil r2
  obtain rfl : args = #[v0, v1, v2] := by cases args; simp_all
  obtain ⟨rfl, rfl⟩ := trodVars_none hV
  obtain ⟨a0, len0, cap0, rfl⟩ := okWide_slice Tryz.underlying22 (hval 0 22 v0 rfl rfl)
  have k0 := h0
  have lt0 : ∀ x ∈ p0, x.block < W.heap.size := by obtain ⟨m, hm⟩ := k0; exact DataW.trod_lt m _ _ _ hm
  obtain ⟨x0, s0, b0⟩ := isl_open h0 hsz 0 rfl rfl
  obtain ⟨a1, rfl, rfl, rfl, w1⟩ := open_int Tryz.underlying3 (hval 1 3 v1 rfl rfl) h1
  obtain ⟨a2, len2, cap2, rfl⟩ := okWide_slice Tryz.underlying22 (hval 2 22 v2 rfl rfl)
  have k2 := h2
  have lt2 : ∀ x ∈ p2, x.block < W.heap.size := by obtain ⟨m, hm⟩ := k2; exact DataW.trod_lt m _ _ _ hm
  obtain ⟨x2, s2, b2⟩ := isl_open h2 hsz 2 rfl rfl
  clear hA0 hval0 hsz0 hsz
  refine (walkFfacProduct a0 len0 cap0 x0 a1 a2 len2 cap2 x2 W (tab_of_laid hL) s0 b0 w1 s2 b2).mono fun e W' ⟨he, bel⟩ => ?_
  subst he
  exact ⟨_, rfl, _, _, _, [], _, [], hW', trodAll_mk1 (shut_bool Tryz.underlying4 _), (trodAll_cons_mk (Below.trod laidOut0 (by kernel_rfl) (of_decide_eq_true (by kernel_rfl)) k0 bel lt0) (trodAll_cons_mk (shut_int Tryz.underlying3 w1) (trodAll_cons_mk (Below.trod laidOut0 (by kernel_rfl) (of_decide_eq_true (by kernel_rfl)) k2 bel lt2) trodAll_mk0))), rfl, bel.frame _, fun h => by cases h⟩
theorem over : Rows.ffacProductRow.holds Tryz.pinned (OpenSpec.ofChange Rows.ffacProductSpec) :=
  OpenClaim.holds_of_wide 6 Tryz.f6 rfl rfl rfl rfl rfl rfl rfl ⟨rfl, rfl, rfl, rfl, rfl⟩ rfl rfl rfl rfl rfl (by kernel_rfl) Tryz.func6 (by kernel_rfl)
    (of_decide_eq_true (by kernel_rfl)) (by unfold Func.isWrapper; first | (rw [if_pos (by decide +kernel)]; kernel_rfl) | (rw [if_neg (by decide +kernel)]; exact ⟨rfl, rfl⟩))
    (fun os started H enc _ => lifted os started H enc)
/-- The statement: the tied card. -/
theorem proved : Rows.FfacProductCardSaid :=
  Claim7.holds_tied_plain_at .later [] [.data] true Rows.ffacProductCard.stood.harness false over (fun _ h => by cases h) (by kernel_rfl) (fun _ h => by cases h) ffacProduct_row_tie rfl ⟨rfl, rfl⟩ (by kernel_rfl) rfl
    (fun f fn hf hfn => by
      obtain rfl : f = 6 := Option.some.inj ((show Tryz.prog.funcNamed "cleaver/cleaverlaw09.FfacProduct" = some 6 by kernel_rfl).symm.trans hf) |>.symm
      obtain rfl : fn = Tryz.f6 := (Option.some.inj (Tryz.func6.symm.trans hfn)).symm
      exact ⟨by kernel_rfl, fun j t ht => by
        rw [Tryz.params6] at ht
        have hm : t ∈ [22, 3, 22] := by simpa using Array.mem_of_getElem? ht
        have hall : ([22, 3, 22].all fun u => !Tryz.prog.wantsStandIn u) = true := by kernel_rfl
        exact (show Tryz.prog.wantsStandIn t = false by simpa using List.all_eq_true.1 hall t hm)⟩)
    (by kernel_rfl)
end Go.Proofs.YtnkhhndjbanmnaaGreatDoor.lawFfacProductCard

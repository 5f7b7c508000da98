/- The law FfacSplits: its walk and its card. -/
import Derived.Test.YtnkhhndjbanmnaaGreatDoorMn48
import Derived.Test.YtnkhhndjbanmnaaGreatDoorMn49
import Derived.Test.YtnkhhndjbanmnaaGreatDoorTie
import Derived.Test.YtnkhhndjbanmnaaGreatDoorCards
import Derived.ChangeOld
import Derived.ChangeMaps5
import Derived.Lay
import Derived.LaidMore
import Derived.SevenTiedAt
import Derived.Stop.Joined
import Derived.Below

/- The law FfacSplits, walked. -/
namespace Go.Proofs.YtnkhhndjbanmnaaGreatDoor
open Go.RowKit

theorem getD_at {L : List (List Int)} {i : Nat} (h : i < L.length) : L.getD i [] = L[i] := by
  rw [List.getD_eq_getElem?_getD, List.getElem?_eq_getElem h]; rfl
set_option maxRecDepth 100000 in
set_option maxHeartbeats 8000000 in
theorem walkFfacSplits (A : Option Addr) (n c : Nat) (xs : List Int) (p : Int) (B : Option Addr) (n1 c1 : Nat) (ds : List Int) (w : World) (hT : TabAt w) (sm : ISl w A n c xs) (_ : n ≤ 17592186044416) (wp : (Lit.int .i64 p).wf = true) (sm1 : ISl w B n1 c1 ds) (_ : n1 ≤ 17592186044416) :
    Calls Tryz.prog 5 #[.slice A n c, .int .i64 p, .slice B n1 c1] w fun e w' => e = .returned (.bool true) ∧ Below w.heap.size w w' := by
  have ip : In64 p := int_wf wp
  have hle := sm.le
  have hmx := sm.max
  have hle1 := sm1.le
  have hmx1 := sm1.max
  have AW := Lib.hid (awake09 w hT)
  have WR := Lib.hid (fun W (hb : Below w.heap.size w W) => rWrong9 A n c xs p W (sm.below hb) ip (by omega))
  by_cases h0 : eff p (cf xs) = 0
  · have hp2 := (eff_mn h0).1.1
    have hp3 := (eff_mn h0).1.2.1
    have CH := Lib.hid (fun W => lCheap A n c p W hp2 hp3)
    rw [h0] at WR
    by_cases hn : n ≤ 30
    · have SF := Lib.hid (fun W (hb : Below w.heap.size w W) => rSqf9 A n c xs p W (sm.below hb) ip (by omega) h0)
      rcases sqf_sqB h0 with ⟨hsq, hs⟩ | ⟨hsq, hes⟩
      · have hL : FacN p (monL p (cf xs)) (facL p (cf xs)) := by
          obtain ⟨e, w', fr, ⟨A', k, c', Z, _, _, _, h4, _, _⟩, _⟩ := gFacs A B n c n1 c1 xs ds p w hT sm sm1 ip (by omega) []
          exact h4 h0
        generalize facL p (cf xs) = L at *
        obtain ⟨hp, hnz, hm, hl65⟩ := eff_mn h0
        obtain ⟨K, hK⟩ : ∃ K, L.length = K := ⟨_, rfl⟩
        obtain ⟨kd, hkd⟩ : ∃ d, (monL p (cf xs)).length = d + 1 := ⟨(monL p (cf xs)).length - 1, by have := hm.pos; omega⟩
        have hplen := plain_len h0
        have SPL := Lib.hid (fun W (hb : Below w.heap.size w W) => (gSplitOk A B n c n1 c1 xs ds p W (hT.below hb) (sm.below hb) (sm1.below hb) ip (by omega) h0 hs).mono (fun e w' ⟨G, A', c', g1, g2, g3, g4⟩ => (show ∃ G A' c', e = Ending.returned (.tuple #[.slice A' K c', .int .i64 0]) ∧ MatAt w' A' K c' G ∧ (G.map fun f => (f, 1)) = L ∧ Below W.heap.size W w' from by
          have e1 := (sfac_facN hp hs g3).uniq hp hL
          have e2 : G.length = K := by rw [← hK, ← e1, List.length_map]
          rw [e2] at g1 g2
          exact ⟨G, A', c', g1, g2, e1, g4⟩)))
        have DGS := Lib.hid (fun W (hb : Below w.heap.size w W) => (gDegOk A n c xs p W (hT.below hb) (sm.below hb) ip (by omega) h0 hs).mono (fun e w' ⟨D, A', c', g1, g2, g3, g4, g5, g6⟩ => (show ∃ D A' c', e = Ending.returned (.tuple #[.slice A' kd c', .int .i64 0]) ∧ MatAt w' A' kd c' D ∧ (∀ j, j < kd → IsDg p (monL p (cf xs)) (j + 1) (D.getD j [])) ∧ Below W.heap.size W w' from by
          have e2 : D.length = kd := by omega
          rw [e2] at g1 g2 g4
          exact ⟨D, A', c', g1, g2, g4, g6⟩)))
        have RFS := Lib.hid (fun W (hb : Below w.heap.size w W) => (rFacs A n c xs p W (sm.below hb) ip (by omega) h0).mono (fun e w' ⟨A', k, c', Z, g1, g2, g3, g4⟩ => (show ∃ A' c' Z, e = Ending.returned (.tuple #[.slice A' K c', .int .i64 0]) ∧ PRd w' A' K c' Z ∧ pls Z = L ∧ Below W.heap.size W w' from by
          have e1 := g3.uniq hp hL
          have e2 : k = K := by rw [g2.len, ← pls_length, e1, hK]
          subst e2
          exact ⟨A', c', Z, g1, g2, e1, g4⟩)))
        have PLN := Lib.hid (fun W (hb : Below w.heap.size w W) => (plain_got A n c xs p W (sm.below hb) hp (by omega)).mono (fun e w' ⟨C, m, d, g1, g2⟩ => (show ∃ C d, e = Ending.returned (.slice C (kd + 1) d) ∧ Below W.heap.size W w' from by
          have e2 : m = kd + 1 := by rw [g2.isl.len, hplen, hkd]
          subst e2
          exact ⟨C, d, g1, g2.bel⟩)))
        rw [hsq] at SF
        have PR := Lib.hid hp
        have HM := Lib.hid hm
        have HL := Lib.hid hL
        have HK := Lib.hid hK
        have M9 := Lib.hid hl65
        have HKD := Lib.hid hkd
        have kd9 : kd ≤ 64 := by omega
        have K9 : K ≤ 64 := by
          have := hL.few hp hm
          omega
        have w1 : IntKind.i64.wrap (kd : Int) = (kd : Int) := by rw [IntKind.wrap_i64]; omega
        clear sm sm1 hT wp ip hp hnz hm hL hK hkd hplen hsq hs h0 hl65 hp2 hp3
        generalize monL p (cf xs) = mo at *
        go_enter Tryz.func5, Tryz.ntmps5
        go_wp2_with (first
          | (go_at_call 10; (with_reducible refine AW.out.mono ?_); rintro e w0 ⟨rfl, hb0⟩; have HB := Lib.hid hb0; clear hb0)
          | (go_at_call 11; (with_reducible refine (WR.out _ HB.out).mono ?_); rintro e w1 ⟨rfl, hb1⟩; have HB := hstep9 HB hb1; clear hb1)
          | (go_at_call 16; (with_reducible refine (CH.out _).mono ?_); rintro e w11 ⟨⟨b11, rfl, -⟩, hb11⟩; have HB := hstep9 HB hb11; clear hb11)
          | (go_at_call 14; (with_reducible refine (SPL.out _ HB.out).mono ?_); rintro e w2 ⟨G, A2, c2, rfl, hm2, hg2, hb2⟩; have MG := Lib.hid hm2; have GL := Lib.hid hg2; have HB := hstep9 HB hb2; have i2 := hm2.le; have j2 := hm2.max; clear hm2 hg2 hb2 SPL)
          | (go_at_call 15; (with_reducible refine (DGS.out _ HB.out).mono ?_); rintro e w3 ⟨D, A3, c3, rfl, hm3, hd3, hb3⟩; have MD := Lib.hid hm3; have DD := Lib.hid hd3; have MG3 := Lib.hid (MG.out.below hb3); have HB := hstep9 HB hb3; have i3 := hm3.le; have j3 := hm3.max; clear hm3 hd3 hb3 DGS)
          | (go_at_call 22; (with_reducible refine (SF.out _ HB.out).mono ?_); rintro e w4 ⟨rfl, hb4⟩; have MG4 := Lib.hid (MG3.out.below hb4); have MD4 := Lib.hid (MD.out.below hb4); have HB := hstep9 HB hb4; clear hb4 SF)
          | (go_at_call 17; (with_reducible refine (RFS.out _ HB.out).mono ?_); rintro e w5 ⟨A5, c5, Z, rfl, hr5, hz5, hb5⟩; have RZ := Lib.hid hr5; have ZL := Lib.hid hz5; have MG5 := Lib.hid (MG4.out.below hb5); have MD5 := Lib.hid (MD4.out.below hb5); have HB := hstep9 HB hb5; have i5 := hr5.le; have j5 := hr5.max; clear hr5 hz5 hb5 RFS)
          | (go_at_call 23; (with_reducible refine (PLN.out _ HB.out).mono ?_); rintro e w6 ⟨C6, d6, rfl, hb6⟩; have RZ6 := Lib.hid (RZ.out.below hb6); have MG6 := Lib.hid (MG5.out.below hb6); have MD6 := Lib.hid (MD5.out.below hb6); have HB := hstep9 HB hb6; clear hb6 PLN)
          | fail)
        · go_ret
          exact ⟨rfl, HB.out⟩
        · have LEN := Lib.hid (show K = Z.length from RZ6.out.len)
          have GLEN := Lib.hid (show K = G.length from MG6.out.len)
          have DLEN := Lib.hid (show kd = D.length from MD6.out.len)
          have EQR := Lib.hid (show ∀ i (h : i < Z.length), Z[i].xs = G.getD i [] ∧ Z[i].N = 1 from fun i h => by
            have e1 : (pls Z)[i]? = (G.map fun f => (f, 1))[i]? := by rw [ZL.out, GL.out]
            have hg : i < G.length := by have := LEN.out; have := GLEN.out; omega
            unfold pls at e1
            rw [List.getElem?_map, List.getElem?_map, List.getElem?_eq_getElem h, List.getElem?_eq_getElem hg] at e1
            simp only [Option.map_some, Option.some.injEq, Pt.pl, Prod.mk.injEq] at e1
            rw [getD_at hg]
            exact e1)
          clear MG MG3 MG4 MG5 MD MD4 MD5 RZ AW WR CH
          go_loopw [15] (fun i wr => ∃ t q : Nat, t ≤ K ∧ i = .int .i64 (t : Int) ∧ wr = w6.drewN q) (fun i _ => K - (intOf i).toNat)
          case atStart => exact ⟨0, 0, Nat.zero_le _, rfl, rfl⟩
          case round =>
            obtain ⟨t, q, ht, rfl, hw⟩ := hrel
            have HW := Lib.hid hw
            by_cases hlt : t < K
            · have k1 : t < Z.length := by rw [← LEN.out]; exact hlt
              obtain ⟨b, o, rfl, hl1, hca⟩ := MG6.out.open_ (by omega)
              obtain ⟨b', o', rfl, hl2, hcb⟩ := RZ6.out.open_ (by omega)
              obtain ⟨C1, n1, d1, h1, z1⟩ := hca t hlt
              obtain ⟨h2, h9⟩ := hcb t k1
              have z2 := RZ6.out.in_ _ (List.getElem_mem k1)
              have e1 := (EQR.out t k1).1
              obtain ⟨z, hz⟩ : ∃ z, Z[t] = z := ⟨_, rfl⟩
              rw [hz] at h2 z2 e1
              obtain ⟨zA, zn, zc, zx, zN⟩ := z
              simp only [Pt.sl] at h2
              have g1 : wr.cell? ⟨b, o + t, none⟩ = some (.slice C1 n1 d1) := by rw [hw]; exact h1
              have g2 : wr.cell? ⟨b', o' + t * 2, none⟩ = some (.slice zA zn zc) := by rw [hw]; exact h2
              have S1 := Lib.hid (fun r => quietD (rSameQ9 C1 zA n1 d1 zn zc (G.getD t []) zx (wr.drewN r) (ISl.below (show ISl w6 C1 n1 d1 (G.getD t []) from z1) (by rw [hw]; exact ibelow_drewN (ibelow_drewN (Below.refl _ _) q) r)) (ISl.below (show ISl w6 zA zn zc zx from z2) (by rw [hw]; exact ibelow_drewN (ibelow_drewN (Below.refl _ _) q) r)) e1.symm))
              have i1 : (0 : Int) ≤ (t : Int) := by omega
              have i2 : (t : Int) < (K : Int) := by omega
              clear hca hcb z1 z2 e1 hz h9 k1 h1 h2 hw
              go_wp2
              go_quiet ((go_at_call 24; with_reducible exact S1.out _))
              go_wp2
              go_roundw
              case rel => exact ⟨t + 1, _, by omega, by go_num, by rw [HW.out, World.drewN_drewN]⟩
              case measure => simp [intOf]; omega
            · obtain rfl : t = K := by omega
              have HB6 : Hid (Below w6.heap.size w6 wr) := Lib.hid (by rw [hw]; exact ibelow_drewN (Below.refl _ _) q)
              clear hw HW
              obtain ⟨wb, rfl⟩ : ∃ wb, wb = wr := ⟨wr, rfl⟩
              have RZB := Lib.hid (RZ6.out.below HB6.out)
              have MDB := Lib.hid (MD6.out.below HB6.out)
              have HBB := Lib.hid (below_to HB.out HB6.out)
              clear RZ6 MD6 MG6 HB6
              go_wp2_with fail
              go_loopw [16] (fun vn wr => ∃ n : Nat, 1 ≤ n ∧ n ≤ kd + 1 ∧ vn = .int .i64 (n : Int) ∧ Hid (Below wb.heap.size wb wr)) (fun vn _ => kd + 2 - (intOf vn).toNat)
              case atStart => exact ⟨1, Nat.le_refl _, by omega, rfl, Lib.hid (Below.refl _ _)⟩
              case round =>
                obtain ⟨m, hm1, hm2, rfl, BR⟩ := hrel
                by_cases hlt2 : m < kd + 1
                · have i7 : (m : Int) < (kd : Int) + 1 := by omega
                  obtain ⟨wm, rfl⟩ : ∃ wm, wm = wr := ⟨wr, rfl⟩
                  go_wp2_with fail
                  have I0 := Lib.hid (isl_lit wm [1] wm.heap.size 1 rfl rfl (fi_one (by unfold In64; decide)) (by decide))
                  go_loopw [17, 18] (fun vm vi wr => ∃ (s : Nat) (C : Option Addr) (k d : Nat) (mr : List Int), vi = .int .i64 (s : Int) ∧ vm = .slice C k d ∧ s ≤ t ∧ Hid (ISl wr C k d mr) ∧ Hid (DgP p m (L.take s) mr) ∧ Hid (Below wb.heap.size wb wr)) (fun _ vi _ => t - (intOf vi).toNat)
                  case atStart => exact ⟨0, _, 1, 1, [1], rfl, rfl, Nat.zero_le _, I0, Lib.hid (by rw [List.take_zero]; exact dgP_start PR.out m), Lib.hid (BR.out.alloc BR.out.size _)⟩
                  case round =>
                    obtain ⟨s, C, k, d, mr, rfl, rfl, hs, IM, DP, BM⟩ := hrel
                    clear I0
                    have ml := IM.out.len
                    have mlen := DP.out.len PR.out HM.out HL.out
                    have m9 := M9.out
                    have k9 : k ≤ 65 := by omega
                    have kle := IM.out.le
                    have kmx := IM.out.max
                    by_cases hlt3 : s < t
                    · have k1 : s < Z.length := by rw [← LEN.out]; exact hlt3
                      have kL : s < L.length := by rw [HK.out]; exact hlt3
                      obtain ⟨b', o', rfl, hl2, hcb⟩ := RZB.out.open_ (by omega)
                      obtain ⟨h2, h9⟩ := hcb s k1
                      have z2 := RZB.out.in_ _ (List.getElem_mem k1)
                      have e1 := (EQR.out s k1).2
                      have eL : L[s] = Z[s].pl := by
                        have h := pls_get (Z := Z) (i := s) (by rw [pls_length]; exact k1)
                        rw [← h]
                        congr 1
                        exact ZL.out.symm
                      have TK := List.take_succ_eq_append_getElem kL
                      have OW := HL.out.own L[s] (List.getElem_mem kL)
                      have LE := irr_len PR.out HM.out OW.1 OW.2.2.1 (by rw [OW.2.2.2.2]; exact OW.2.2.2.1)
                      rw [eL] at TK OW LE
                      obtain ⟨z, hz⟩ : ∃ z, Z[s] = z := ⟨_, rfl⟩
                      rw [hz] at h2 z2 e1 TK OW LE
                      obtain ⟨zA, zn, zc, zx, zN⟩ := z
                      simp only [Pt.sl] at h2
                      have zin := z2.below BM.out
                      have zl : zn = zx.length := z2.len
                      have g2 : wr.cell? ⟨b', o' + s * 2, none⟩ = some (.slice zA zn zc) := (BM.out.cell (p := ⟨b', o' + s * 2, none⟩) hl2).trans h2
                      have i1 : (0 : Int) ≤ (s : Int) := by omega
                      have i2 : (s : Int) < (t : Int) := by omega
                      have zle := z2.le
                      have zmx := z2.max
                      have OO := Lib.hid OW
                      have T9 := Lib.hid TK
                      have e2 : zN = 1 := e1
                      have w2 : IntKind.i64.wrap ((m : Int) + 1) = (m : Int) + 1 := by rw [IntKind.wrap_i64]; omega
                      have zn9 : zn ≤ 65 := by have h : zx.length ≤ mo.length := LE; omega
                      by_cases hd : zn = m + 1
                      · have NX := Lib.hid (DP.out.take_ (x := (zx, zN)) PR.out (by show zx.length = m + 1; omega) OW.1 e2)
                        have TT := Lib.hid (times_got C zA k d zn zc mr zx p wr IM.out zin PR.out (by omega) (by omega))
                        have i3 : ((zn : Int) == (m : Int) + 1) = true := by simp; omega
                        clear hcb h9 h2 z2 e1 eL TK OW LE hz zin k1 kL ml mlen m9 DP zl hd e2
                        go_wp2_with (first
                          | (go_at_call 25; (with_reducible refine TT.out.mono ?_); rintro e w7 ⟨C7, m7, d7, rfl, hg7⟩; have I7 := Lib.hid hg7.isl; have B7 := Lib.hid (below_to BM.out hg7.bel); clear hg7)
                          | fail)
                        go_roundw
                        case rel => exact ⟨s + 1, C7, m7, d7, _, by go_num, rfl, by omega, I7, Lib.hid (by rw [T9.out]; exact NX.out), B7⟩
                        case measure => simp [intOf]; omega
                      · have NX := Lib.hid (DP.out.skip (x := (zx, zN)) (by show zx.length ≠ m + 1; omega))
                        have i3 : ((zn : Int) == (m : Int) + 1) = false := by simp; omega
                        clear hcb h9 h2 z2 e1 eL TK OW LE hz zin k1 kL ml mlen m9 DP zl hd e2
                        go_wp2_with fail
                        go_roundw
                        case rel => exact ⟨s + 1, C, k, d, mr, by go_num, rfl, by omega, IM, Lib.hid (by rw [T9.out]; exact NX.out), BM⟩
                        case measure => simp [intOf]; omega
                    · obtain rfl : s = t := by omega
                      obtain ⟨m', rfl⟩ : ∃ m', m = m' + 1 := ⟨m - 1, by omega⟩
                      have DP2 := DP.out
                      rw [List.take_of_length_le (by rw [HK.out]; exact Nat.le_refl _)] at DP2
                      have EQ := Lib.hid (DP2.done PR.out HM.out HL.out (DD.out m' (by omega)))
                      obtain ⟨b3, o3, rfl, hl3, hc3⟩ := MDB.out.open_ (by omega)
                      obtain ⟨C3, n3, d3, h3, z3⟩ := hc3 m' (by omega)
                      have g3 : wr.cell? ⟨b3, o3 + m', none⟩ = some (.slice C3 n3 d3) := (BM.out.cell (p := ⟨b3, o3 + m', none⟩) hl3).trans h3
                      have S3 := Lib.hid (rSameQ9 C C3 k d n3 d3 mr (D.getD m' []) wr IM.out (z3.below BM.out) EQ.out)
                      have i1 : (0 : Int) ≤ (m' : Int) := by omega
                      have i2 : (m' : Int) < (kd : Int) := by omega
                      have w2 : IntKind.i64.wrap ((m' : Int) + 1 - 1) = (m' : Int) := by rw [show (m' : Int) + 1 - 1 = (m' : Int) by omega, IntKind.wrap_i64]; omega
                      have w3 : IntKind.i64.wrap (m' : Int) = (m' : Int) := by rw [IntKind.wrap_i64]; omega
                      clear hc3 h3 z3 DP2 ml mlen m9
                      go_wp2_with (first
                        | (go_at_call 24; (with_reducible refine S3.out.mono ?_); rintro e w8 ⟨rfl, q8, rfl⟩)
                        | fail)
                      exact ⟨⟨m' + 1 + 1, by omega, by omega, by go_num, Lib.hid (ibelow_drewN BM.out q8)⟩, by simp [intOf]; omega⟩
                · obtain rfl : m = kd + 1 := by omega
                  go_wp2_with fail
                  go_ret
                  exact ⟨rfl, below_to HBB.out BR.out⟩
      · have e1 : esf p (cf xs) ≠ 0 := by rw [hes]; decide
        have SPN := Lib.hid (fun W (hb : Below w.heap.size w W) => gSplitNo A B n c n1 c1 xs p W (hT.below hb) (sm.below hb) ip (by omega) e1)
        have DGN := Lib.hid (fun W (hb : Below w.heap.size w W) => gDegNo A n c xs p W (hT.below hb) (sm.below hb) ip (by omega) e1)
        rw [hes] at SPN DGN
        rw [hsq] at SF
        clear sm sm1 hT wp ip h0 hsq hes e1
        go_enter Tryz.func5, Tryz.ntmps5
        go_wp2_with (first
          | (go_at_call 10; (with_reducible refine AW.out.mono ?_); rintro e w0 ⟨rfl, hb0⟩; have HB := Lib.hid hb0; clear hb0)
          | (go_at_call 11; (with_reducible refine (WR.out _ HB.out).mono ?_); rintro e w1 ⟨rfl, hb1⟩; have HB := hstep9 HB hb1; clear hb1)
          | (go_at_call 16; (with_reducible refine (CH.out _).mono ?_); rintro e w11 ⟨⟨b11, rfl, -⟩, hb11⟩; have HB := hstep9 HB hb11; clear hb11)
          | (go_at_call 14; (with_reducible refine (SPN.out _ HB.out).mono ?_); rintro e w2 ⟨rfl, hb2⟩; have HB := hstep9 HB hb2; clear hb2)
          | (go_at_call 15; (with_reducible refine (DGN.out _ HB.out).mono ?_); rintro e w3 ⟨rfl, hb3⟩; have HB := hstep9 HB hb3; clear hb3)
          | (go_at_call 22; (with_reducible refine (SF.out _ HB.out).mono ?_); rintro e w4 ⟨rfl, hb4⟩; have HB := hstep9 HB hb4; clear hb4)
          | fail)
        all_goals
          go_ret
          exact ⟨rfl, HB.out⟩
    · have CH2 : Hid (∀ W, Calls Tryz.prog 16 #[.slice A n c, .int .i64 p] W fun e w' => e = .returned (.bool false) ∧ Below W.heap.size W w') := Lib.hid fun W => (CH.out W).mono fun e w' ⟨⟨b, h1, h2⟩, h3⟩ => ⟨by
        cases b with
        | false => exact h1
        | true => exact absurd (h2 rfl) hn, h3⟩
      clear sm sm1 hT wp ip h0 CH
      go_enter Tryz.func5, Tryz.ntmps5
      go_wp2_with (first
        | (go_at_call 10; (with_reducible refine AW.out.mono ?_); rintro e w0 ⟨rfl, hb0⟩; have HB := Lib.hid hb0; clear hb0)
        | (go_at_call 11; (with_reducible refine (WR.out _ HB.out).mono ?_); rintro e w1 ⟨rfl, hb1⟩; have HB := hstep9 HB hb1; clear hb1)
        | (go_at_call 16; (with_reducible refine (CH2.out _).mono ?_); rintro e w11 ⟨rfl, hb11⟩; have HB := hstep9 HB hb11; clear hb11)
        | fail)
      go_ret
      exact ⟨rfl, HB.out⟩
  · have hu : ((eff p (cf xs)) != 0) = true := by simpa using h0
    generalize eff p (cf xs) = u at *
    clear sm sm1 hT wp ip
    go_enter Tryz.func5, Tryz.ntmps5
    go_wp2_with (first
      | (go_at_call 10; (with_reducible refine AW.out.mono ?_); rintro e w0 ⟨rfl, hb0⟩; have HB := Lib.hid hb0; clear hb0)
      | (go_at_call 11; (with_reducible refine (WR.out _ HB.out).mono ?_); rintro e w1 ⟨rfl, hb1⟩; have HB := hstep9 HB hb1; clear hb1)
      | fail)
    go_ret
    exact ⟨rfl, HB.out⟩
end Go.Proofs.YtnkhhndjbanmnaaGreatDoor

/- The statement 'FfacSplits', a tied card: for every input the law's function returns true and leaves its arguments as they were; the package-level tables that the row lists are laid as the program's text lays them. No conditions but the form's own. -/
namespace Go.Proofs.YtnkhhndjbanmnaaGreatDoor.lawFfacSplitsCard
open Go.ChangeShapes Go.WideShapes Go.ChangeAt Go.RowKit Go.ChangeMaps
set_option maxRecDepth 100000 in
theorem lifted (os : Os) (started : os.Started) (H : Type) (enc : TypeId × Value → H) :
    ReturnsInHanded {} Tryz.checked os 5 .any (fun w args => (Rows.ffacSplitsSpec.pre enc Tryz.prog Tryz.f5 Rows.ffacSplitsRow.domain false w args ∧ laidMetH Tryz.prog Rows.ffacSplitsRow.laid w) ∧ sizedMet enc Tryz.prog Tryz.f5 (OpenSpec.ofChange Rows.ffacSplitsSpec) false w args)
      (Rows.ffacSplitsSpec.post enc Tryz.prog Tryz.f5 false true false false) := by
  refine returnsInHanded_of_change_and (C := Tryz.checked) (X := fun w _ => laidMetH Tryz.prog Rows.ffacSplitsRow.laid w) (fun _ _ _ hh h => h.of_heap hh) own0 started (by kernel_rfl) Tryz.func5
    (ChangeSpec.witness_shaped (enc := enc) (C := Tryz.checked) (os := os) (X := fun w _ => laidMetH Tryz.prog Rows.ffacSplitsRow.laid w) false (World.laidAll Tryz.prog os Rows.ffacSplitsRow.laid) #[.slice none 0 0, .int .i64 0, .slice none 0 0] 8 (World.laidAll_os _ _ _)
      (World.shaped_of_ZipB (by kernel_rfl) (by kernel_rfl)) (by kernel_rfl) (by kernel_rfl) (by kernel_rfl)
      (by rw [MakeChecks.laidMetH_plain _ _ _ (by kernel_rfl)]; exact laidMet_laidAll _ (by kernel_rfl) (by kernel_rfl))) ?_
  intro W base args ds gs before hval0 hW hcnd hsz0 hL hholds
  have hval : ∀ (j : Nat) t v, Tryz.f5.params[j]? = some t → args[j]? = some v → Value.okWide Tryz.prog W .any base t v := hval0
  have hW' := hW
  obtain ⟨p, q, hA0, hV, rfl, hfz, hnd⟩ := hW
  have hA : DataW.TrodAll enc Tryz.prog W 0 (fun _ => true) true Tryz.f5.params.toList args.toList ds p := hA0
  have hsz : (DataW.weightsEach Tryz.prog (Tryz.f5.params.toList ++ Rows.ffacSplitsSpec.plain.varTypes Tryz.prog) (ds ++ gs)).all (· ≤ reachBytes) = true := hsz0
  rw [Tryz.params5] at hA hval hsz
  obtain ⟨v0, vs0, d0, ds0, p0, q0, hargs, rfl, rfl, h0, r0⟩ := trodAll_cons hA
  obtain ⟨v1, vs1, d1, ds1, p1, q1, rfl, rfl, rfl, h1, r1⟩ := trodAll_cons r0
  obtain ⟨v2, vs2, d2, ds2, p2, q2, rfl, rfl, rfl, h2, r2⟩ := trodAll_cons r1
  obtain ⟨rfl, rfl, rfl⟩ := trodAll_nil r2
  obtain rfl : args = #[v0, v1, v2] := by cases args; simp_all
  obtain ⟨rfl, rfl⟩ := trodVars_none hV
  obtain ⟨a0, len0, cap0, rfl⟩ := okWide_slice Tryz.underlying22 (hval 0 22 v0 rfl rfl)
  have k0 := h0
  have lt0 : ∀ x ∈ p0, x.block < W.heap.size := by obtain ⟨m, hm⟩ := k0; exact DataW.trod_lt m _ _ _ hm
  obtain ⟨x0, s0, b0⟩ := isl_open h0 hsz 0 rfl rfl
  obtain ⟨a1, rfl, rfl, rfl, w1⟩ := open_int Tryz.underlying3 (hval 1 3 v1 rfl rfl) h1
  obtain ⟨a2, len2, cap2, rfl⟩ := okWide_slice Tryz.underlying22 (hval 2 22 v2 rfl rfl)
  have k2 := h2
  have lt2 : ∀ x ∈ p2, x.block < W.heap.size := by obtain ⟨m, hm⟩ := k2; exact DataW.trod_lt m _ _ _ hm
  obtain ⟨x2, s2, b2⟩ := isl_open h2 hsz 2 rfl rfl
  clear hA0 hval0 hsz0 hsz
  refine (walkFfacSplits a0 len0 cap0 x0 a1 a2 len2 cap2 x2 W (tab_of_laid hL) s0 b0 w1 s2 b2).mono fun e W' ⟨he, bel⟩ => ?_
  subst he
  exact ⟨_, rfl, _, _, _, [], _, [], hW', trodAll_mk1 (shut_bool Tryz.underlying4 _), (trodAll_cons_mk (Below.trod laidOut0 (by kernel_rfl) (of_decide_eq_true (by kernel_rfl)) k0 bel lt0) (trodAll_cons_mk (shut_int Tryz.underlying3 w1) (trodAll_cons_mk (Below.trod laidOut0 (by kernel_rfl) (of_decide_eq_true (by kernel_rfl)) k2 bel lt2) trodAll_mk0))), rfl, bel.frame _, fun h => by cases h⟩
theorem over : Rows.ffacSplitsRow.holds Tryz.pinned (OpenSpec.ofChange Rows.ffacSplitsSpec) :=
  OpenClaim.holds_of_wide 5 Tryz.f5 rfl rfl rfl rfl rfl rfl rfl ⟨rfl, rfl, rfl, rfl, rfl⟩ rfl rfl rfl rfl rfl (by kernel_rfl) Tryz.func5 (by kernel_rfl)
    (of_decide_eq_true (by kernel_rfl)) (by unfold Func.isWrapper; first | (rw [if_pos (by decide +kernel)]; kernel_rfl) | (rw [if_neg (by decide +kernel)]; exact ⟨rfl, rfl⟩))
    (fun os started H enc _ => lifted os started H enc)
/-- The statement: the tied card. -/
theorem proved : Rows.FfacSplitsCardSaid :=
  Claim7.holds_tied_plain_at .later [] [.data] true Rows.ffacSplitsCard.stood.harness false over (fun _ h => by cases h) (by kernel_rfl) (fun _ h => by cases h) ffacSplits_row_tie rfl ⟨rfl, rfl⟩ (by kernel_rfl) rfl
    (fun f fn hf hfn => by
      obtain rfl : f = 5 := Option.some.inj ((show Tryz.prog.funcNamed "cleaver/cleaverlaw09.FfacSplits" = some 5 by kernel_rfl).symm.trans hf) |>.symm
      obtain rfl : fn = Tryz.f5 := (Option.some.inj (Tryz.func5.symm.trans hfn)).symm
      exact ⟨by kernel_rfl, fun j t ht => by
        rw [Tryz.params5] at ht
        have hm : t ∈ [22, 3, 22] := by simpa using Array.mem_of_getElem? ht
        have hall : ([22, 3, 22].all fun u => !Tryz.prog.wantsStandIn u) = true := by kernel_rfl
        exact (show Tryz.prog.wantsStandIn t = false by simpa using List.all_eq_true.1 hall t hm)⟩)
    (by kernel_rfl)
end Go.Proofs.YtnkhhndjbanmnaaGreatDoor.lawFfacSplitsCard

/- Texts joined, in their order: PolEu, PolDocE, RefSqS. -/
import Derived.Test.YtekpifafjbkmiaaDoorMh11
import Derived.Test.YtekpifafjbkmiaaDoorMh12
import Derived.Test.YtekpifafjbkmiaaDoorMh23

/- cleaverref06.Bezout, by its contract. -/
namespace Go.Proofs.YtekpifafjbkmiaaDoor
open Go.RowKit

set_option maxRecDepth 100000 in
set_option maxHeartbeats 400000 in
theorem refBezout_not (A B : Option Addr) (n c n' c' : Nat) (p : Int) (w : World) (h0 : In64 p) (hp : ¬ Pr p) :
    Calls Tryd.prog 74 #[.slice A n c, .slice B n' c', .int .i64 p] w fun e w' => e = .returned (.tuple #[.slice none 0 0, .slice none 0 0, .slice none 0 0, .int .i64 1]) ∧ w = w' := by
  have C := refCheck_any p w h0.1 h0.2
  rw [chk_no (primB_no hp)] at C
  have CC := Lib.hid C
  clear C hp h0
  go_enter Tryd.func74, Tryd.ntmps74
  go_wp2_with (go_at_call 48; (with_reducible refine CC.out.mono ?_); rintro e w' ⟨rfl, rfl⟩)
  (try simp only [Exit.inBlock, Exit.then]); refine bodyPost_ret (results_tmp4 rfl _ _ _) rfl ?_
  exact ⟨rfl, rfl⟩

set_option maxRecDepth 100000 in
set_option maxRecDepth 100000 in
set_option maxHeartbeats 4000000 in
theorem refBezout_any (A B : Option Addr) (n c n' c' : Nat) (xs ys : List Int) (p : Int) (w : World) (h : ISl w A n c xs) (h' : ISl w B n' c' ys) (hp : Pr p) (hn : n ≤ 1000) (hn' : n' ≤ 1000) :
    Calls Tryd.prog 74 #[.slice A n c, .slice B n' c', .int .i64 p] w fun e w' => ∃ v1 v2 v3, e = .returned (.tuple #[v1, v2, v3, .int .i64 0]) ∧ BezOut p (cf xs) (cf ys) 2000000 w v1 v2 v3 w' := by
  have H := Lib.hid h
  have H' := Lib.hid h'
  have PR := Lib.hid hp
  have MD := Lib.hid hp.md
  have hp1 := hp.1
  have hp2 := hp.2.1
  have hpos : 1 ≤ p := by omega
  have C := refCheck_any p w (by omega) (by omega)
  rw [chk_yes (primB_yes hp)] at C
  have CC := Lib.hid C
  clear h h' C hp
  go_enter Tryd.func74, Tryd.ntmps74
  go_wp2_with (go_at_call 48; (with_reducible refine CC.out.mono ?_); rintro e w' ⟨rfl, rfl⟩)
  refine (plain_any A n c xs p w H.out MD.out (by omega)).mono ?_
  rintro e w1 ⟨v1, rfl, C1, n1, d1, fx, rfl, hX, px, hn1, -, hb1⟩
  have HX := Lib.hid hX
  have PX := Lib.hid px
  have HB1 := Lib.hid hb1
  clear hX px hb1
  go_wp2_with fail
  have hb1 := HB1.out
  have hba : Below w1.heap.size w1 (w1.alloc (Obj.cells #[Value.int IntKind.i64 1] 3)) := (Below.refl _ _).alloc (Nat.le_refl _) _
  have hk1 := iblk_list w1 [1] (fi_one (by unfold In64; decide))
  have hRX := rowAt_three (w1.alloc (Obj.cells #[Value.int IntKind.i64 1] 3)) (w1.heap.size + 1) (by simp) (F := rowX fx) (N := 1001) (HX.out.below hba) (hk1.sl (by simp)) (isl_nil _) rfl rfl rfl (by omega) (by simp) (by omega)
  have HRX := Lib.hid hRX
  have HBA := Lib.hid (hb1.trans ((hba.alloc (by simp) (Obj.cells #[Value.slice C1 n1 d1, Value.slice (some ⟨w1.heap.size, 0, none⟩) 1 1, Value.slice none 0 0] 22)).mono hb1.size))
  clear hRX hba hk1 hb1
  generalize ((w1.alloc (Obj.cells #[Value.int IntKind.i64 1] 3)).alloc (Obj.cells #[Value.slice C1 n1 d1, Value.slice (some ⟨w1.heap.size, 0, none⟩) 1 1, Value.slice none 0 0] 22)) = w2 at *
  refine (plain_any B n' c' ys p w2 (H'.out.below HBA.out) MD.out (by omega)).mono ?_
  rintro e w3 ⟨v2, rfl, C2, n2, d2, fy, rfl, hY, py, hn2, -, hb3⟩
  have HY := Lib.hid hY
  have PY := Lib.hid py
  have HB3 := Lib.hid hb3
  clear hY py hb3
  go_wp2_with fail
  have hb3 := HB3.out
  have hba : Below w3.heap.size w3 (w3.alloc (Obj.cells #[Value.int IntKind.i64 1] 3)) := (Below.refl _ _).alloc (Nat.le_refl _) _
  have hk1 := iblk_list w3 [1] (fi_one (by unfold In64; decide))
  have hRY := rowAt_three (w3.alloc (Obj.cells #[Value.int IntKind.i64 1] 3)) (w3.heap.size + 1) (by simp) (F := rowY fy) (N := 1001) (HY.out.below hba) (isl_nil _) (hk1.sl (by simp)) rfl rfl rfl (by omega) (by omega) (by simp)
  have HRY := Lib.hid hRY
  have hbz := hb3.trans ((hba.alloc (by simp) (Obj.cells #[Value.slice C2 n2 d2, Value.slice none 0 0, Value.slice (some ⟨w3.heap.size, 0, none⟩) 1 1] 22)).mono hb3.size)
  have HRX4 := Lib.hid (HRX.out.below hbz)
  have HB4 := Lib.hid (HBA.out.trans (hbz.mono HBA.out.size))
  have LX := Lib.hid HX.out.len
  have LY := Lib.hid HY.out.len
  clear hRY hba hk1 hb3 hbz HRX HBA HB3 HX HY HB1
  generalize ((w3.alloc (Obj.cells #[Value.int IntKind.i64 1] 3)).alloc (Obj.cells #[Value.slice C2 n2 d2, Value.slice none 0 0, Value.slice (some ⟨w3.heap.size, 0, none⟩) 1 1] 22)) = w4 at *
  generalize w1.heap.size = s1 at *
  generalize w3.heap.size = s3 at *
  clear w1 w2 w3
  go_loopw [10, 11] (fun x y wr => ∃ (X Y : Nat → List Int) (j : Nat), RowAt wr x X (1001 + j * 1002) ∧ RowAt wr y Y (1001 + j * 1002) ∧ Hid (Pln p (X 0)) ∧ Hid (Pln p (Y 0)) ∧ (X 0).length ≤ 1000 ∧ j + (Y 0).length ≤ 1000 ∧ Hid (∀ o, EuRun p (rowS X) (rowS Y) o → EuRun p (rowS (rowX fx)) (rowS (rowY fy)) o) ∧ Below w4.heap.size w4 wr) (fun _ y wr => headLen y wr)
  case atStart => exact ⟨rowX fx, rowY fy, 0, HRX4.out, HRY.out, Lib.hid PX.out.1, Lib.hid PY.out.1, by show fx.length ≤ 1000; have := LX.out; omega, by show 0 + fy.length ≤ 1000; have := LY.out; omega, Lib.hid (fun _ h => h), Below.refl _ _⟩
  case round =>
    clear HRX4 HRY
    obtain ⟨X, Y, j, hX, hY, hPX, hPY, hlx, hly, hrun, hbel⟩ := hrel
    obtain ⟨bx, ox, cx, LLX, rfl, hcx, hmx, hbx, hCX, hIX⟩ := hX.open_
    obtain ⟨by_, oy, cy, LLY, rfl, hcy, hmy, hby, hCY, hIY⟩ := hY.open_
    have HRY0 := Lib.hid hY
    obtain ⟨Y0, m0, e0, hy0, hiy0, hly0⟩ := hIY 0 (by omega)
    have hc0 := hCY 0 (by omega)
    rw [hy0] at hc0
    have HCX := Lib.hid hCX
    have HCY := Lib.hid hCY
    have HIX := Lib.hid hIX
    have HIY := Lib.hid hIY
    have HY0 := Lib.hid hiy0
    have HBR := Lib.hid hbel
    have HHL : Hid (headLen (.slice (some ⟨by_, oy, none⟩) 3 cy) wr = m0) := Lib.hid (by
      show (match wr.cell? ⟨by_, oy, none⟩ with | some u => slLen u | none => 0) = m0
      rw [show oy = oy + 0 from rfl, hc0]
      rfl)
    have hml : m0 = (Y 0).length := hiy0.len
    rw [Nat.add_zero] at hc0
    have HML := Lib.hid hml
    have hj1 : j ≤ 1000 := by omega
    have HLX := Lib.hid hlx
    have HLY := Lib.hid hly
    have hm1 : m0 ≤ 1000 := by omega
    obtain ⟨X0, k0, d0, hx0, hix0, hlx0⟩ := HIX.out 0 (by omega)
    have hcx0 := HCX.out 0 (by omega)
    rw [hx0, Nat.add_zero] at hcx0
    have HX0 := Lib.hid hix0
    have HKL := Lib.hid hix0.len
    have hk1 : k0 ≤ 1000 := by rw [hix0.len]; exact hlx
    clear hX hY hCX hCY hIX hIY hy0 hiy0 hbel hml hly0 hlx hly hx0 hix0 hlx0
    by_cases hm0 : m0 = 0
    · subst hm0
      by_cases hk0 : k0 = 0
      · subst hk0
        go_wp2_with fail
        (try simp only [Exit.inBlock, Exit.then]); refine bodyPost_ret (results_tmp4 rfl _ _ _) rfl ?_
        have hbw : Below w.heap.size w wr := HB4.out.trans (HBR.out.mono HB4.out.size)
        have hb0 : Ser.Bd p (cf (X 0)) 0 := by
          have := bd_len p (X 0)
          rwa [← HKL.out] at this
        have hby : Ser.Bd p (cf (Y 0)) 0 := by
          have := bd_len p (Y 0)
          rwa [← HML.out] at this
        refine ⟨_, _, _, rfl, Ser.zer, Ser.con 1, Ser.zer, bez_run PR.out PX.out PY.out (hrun.out _ (.stop hby)) (.inl ⟨hb0, fun i _ => by simp [Ser.zer], Ser.Eq.refl _ _, fun i _ => by simp [Ser.zer]⟩), polIn_nil _ _ _, ?_, polIn_nil _ _ _, hbw.alloc hbw.size _⟩
        exact ⟨_, 1, 1, [1], rfl, (iblk_list wr [1] (fi_one (by unfold In64; decide))).sl (by simp), pol_one PR.out, by omega⟩
      · obtain ⟨k, hk⟩ : ∃ k, k0 = k + 1 := ⟨k0 - 1, by omega⟩
        obtain ⟨b0, o0, rfl, hb0, hcf⟩ := HX0.out.cf_ (by omega)
        have hck := hcf k (by omega)
        have hT : cf (X 0) k % p ≠ 0 := by
          have := hPX.out.top (by intro e; have := HKL.out; rw [e] at this; simp at this; omega) hpos
          rwa [← HKL.out, hk, Nat.add_sub_cancel] at this
        have HT := Lib.hid hT
        have INV := Lib.hid (fun w => inverse_any (cf (X 0) k) p w PR.out HT.out)
        have hs := finv_spec PR.out HT.out
        obtain ⟨t, ht⟩ : ∃ t, finv (cf (X 0) k) p = t := ⟨_, rfl⟩
        rw [ht] at hs
        have HTI := Lib.hid ht
        have INV : Hid (∀ w : World, Calls Tryd.prog 51 #[.int .i64 (cf (X 0) k), .int .i64 p] w fun e w' => e = .returned (.int .i64 t) ∧ w = w') := Lib.hid (by
          intro w
          have := INV.out w
          rwa [HTI.out] at this)
        have hw1 : IntKind.i64.wrap ((k0 : Int) - 1) = (k : Int) := by rw [IntKind.wrap_i64]; omega
        have i1 : (0 : Int) ≤ (k : Int) := by omega
        have i2 : (k : Int) < (k0 : Int) := by omega
        have HK := Lib.hid hk
        obtain ⟨xt, hxt⟩ : ∃ xt, cf (X 0) k = xt := ⟨_, rfl⟩
        rw [hxt] at hck INV
        have HXT := Lib.hid hxt
        have ht1 := hs.1
        have ht2 := hs.2.1
        clear hcf hT hs ht hxt hk
        go_wp2_with fail
        go_region_held3 (fun W => W.cell? ⟨bx, ox, none⟩ = some (.slice (some ⟨b0, o0, none⟩) k0 d0) ∧ W.cell? ⟨b0, o0 + k, none⟩ = some (iv xt)) (first | go_keep) (first
          | (go_at_call 51; (with_reducible refine (INV.out _).mono ?_); rintro e w' ⟨rfl, rfl⟩))
        have hS0 : Below wr.heap.size wr (wr.alloc (Obj.cells #[Value.int IntKind.i64 t] 3)).drew := ((Below.refl _ _).alloc (Nat.le_refl _) _).drew
        have hN := ((iblk_list wr [t] (fi_one (by unfold In64; omega))).sl (by simp)).drew
        have HN : Hid (ISl (wr.alloc (Obj.cells #[Value.int IntKind.i64 t] 3)).drew (some ⟨wr.heap.size, 0, none⟩) 1 1 [t]) := Lib.hid hN
        have HS0 := Lib.hid hS0
        have hcx0' := hcx0
        rw [← below_cell hS0 hbx] at hcx0'
        obtain ⟨X1, k1, d1', hx1, hix1, hlx1⟩ := HIX.out 1 (by omega)
        obtain ⟨X2, k2, d2', hx2, hix2, hlx2⟩ := HIX.out 2 (by omega)
        have hcx1 := HCX.out 1 (by omega)
        have hcx2 := HCX.out 2 (by omega)
        rw [hx1, ← below_cell hS0 hbx] at hcx1
        rw [hx2, ← below_cell hS0 hbx] at hcx2
        have HT0 := Lib.hid (HX0.out.below hS0)
        have HT1 := Lib.hid (hix1.below hS0)
        have HT2 := Lib.hid (hix2.below hS0)
        have hbxS := Nat.lt_of_lt_of_le hbx hS0.size
        clear hck hcx0 hx1 hx2 hix1 hix2 hN hS0 hw1 i1 i2 hc0
        generalize (wr.alloc (Obj.cells #[Value.int IntKind.i64 t] 3)).drew = wS at *
        have HBW : Hid (Below w.heap.size w wS) := Lib.hid (HB4.out.trans ((HBR.out.trans (HS0.out.mono HBR.out.size)).mono HB4.out.size))
        generalize wr.heap.size = gS at *
        clear HS0 HCX HCY HIX HIY HX0 HY0 HBR HHL
        clear hbx
        have TM0 := Lib.hid (fun W (hb : Below wS.heap.size wS W) => times_at _ _ _ _ _ _ _ _ p W (HT0.out.below hb) (HN.out.below hb) MD.out (by omega) (by omega))
        have TM1 := Lib.hid (fun W (hb : Below wS.heap.size wS W) => times_at _ _ _ _ _ _ _ _ p W (HT1.out.below hb) (HN.out.below hb) MD.out (by omega) (by omega))
        have TM2 := Lib.hid (fun W (hb : Below wS.heap.size wS W) => times_at _ _ _ _ _ _ _ _ p W (HT2.out.below hb) (HN.out.below hb) MD.out (by omega) (by omega))
        clear HT0 HT1 HT2 HN
        go_wp2_with fail
        go_region_held3 (fun W => W.cell? ⟨bx, ox, none⟩ = some (.slice (some ⟨b0, o0, none⟩) k0 d0) ∧ W.cell? ⟨bx, ox + 1, none⟩ = some (.slice X1 k1 d1') ∧ W.cell? ⟨bx, ox + 2, none⟩ = some (.slice X2 k2 d2') ∧ bx < W.heap.size ∧ Below wS.heap.size wS W)
          (first
            | exact ⟨hcx0', hcx1, hcx2, hbxS, (Below.refl _ _).drew⟩
            | exact keep17 (by assumption) hba
            | exact keep17 (by assumption) hbb
            | exact keep17 (by assumption) hbc)
          (first
            | (go_at_call 50; (with_reducible refine (TM0.out _ (keep17b (by assumption))).mono ?_); rintro e wa ⟨va, rfl, hpa, hba⟩)
            | (go_at_call 50; (with_reducible refine (TM1.out _ (keep17b (by assumption))).mono ?_); rintro e wb ⟨vb, rfl, hpb, hbb⟩)
            | (go_at_call 50; (with_reducible refine (TM2.out _ (keep17b (by assumption))).mono ?_); rintro e wc ⟨vc, rfl, hpc, hbc⟩))
        have hfin : Below wS.heap.size wS wc := below_step (below_step (below_step (Below.refl _ _).drew hba) hbb) hbc
        have ha := Lib.hid ((hpa.below hbb).below hbc)
        have hb := Lib.hid (hpb.below hbc)
        have hc := Lib.hid hpc
        have hfin := Lib.hid hfin
        clear hpa hpb hpc hba hbb hbc hcx0' hcx1 hcx2
        go_wp2_with fail
        (try simp only [Exit.inBlock, Exit.then]); refine bodyPost_ret (results_tmp4 rfl _ _ _) rfl ?_
        have hby : Ser.Bd p (cf (Y 0)) 0 := by
          have := bd_len p (Y 0)
          rwa [← HML.out] at this
        have hbX : Ser.Bd p (cf (X 0)) (k + 1) := by
          have := bd_len p (X 0)
          rwa [← HKL.out, HK.out] at this
        have hm : ∀ f, Ser.Eq p (Ser.mul f (cf [t])) (Ser.sc (finv (cf (X 0) k) p) f) := by
          intro f
          rw [HTI.out, cf_one, Ser.mul_comm, Ser.con_mul]
          exact Ser.Eq.refl p _
        exact ⟨_, _, _, rfl, _, _, _, bez_run PR.out PX.out PY.out (hrun.out _ (.stop hby)) (.inr ⟨k, hbX, HT.out, hm _, hm _, hm _⟩), ha.out.mono (by omega), hb.out.mono (by omega), hc.out.mono (by omega), HBW.out.trans (hfin.out.mono HBW.out.size)⟩
    · have hd : decide ((0 : Int) < (m0 : Int)) = true := decide_eq_true (by omega)
      obtain ⟨m, hm⟩ : ∃ m, m0 = m + 1 := ⟨m0 - 1, by omega⟩
      have hT : cf (Y 0) m % p ≠ 0 := by
        have := hPY.out.top (by intro e; have := HML.out; rw [e] at this; simp at this; omega) hpos
        rwa [← HML.out, hm, Nat.add_sub_cancel] at this
      have hbY : Ser.Bd p (cf (Y 0)) (m + 1) := by
        have := bd_len p (Y 0)
        rwa [← HML.out, hm] at this
      have HT := Lib.hid hT
      have HBY := Lib.hid hbY
      have HM := Lib.hid hm
      have DV := Lib.hid (fun W (hb : Below wr.heap.size wr W) => refPDiv_nz X0 Y0 k0 d0 m0 e0 (X 0) (Y 0) p m W (HX0.out.below hb) (HY0.out.below hb) PR.out (by omega) (by omega) HBY.out HT.out)
      clear hT hbY hm
      go_wp2_with fail
      go_region_held3 (fun W => W.cell? ⟨bx, ox, none⟩ = some (.slice X0 k0 d0) ∧ W.cell? ⟨by_, oy, none⟩ = some (.slice Y0 m0 e0) ∧ bx < W.heap.size ∧ by_ < W.heap.size ∧ Below wr.heap.size wr W)
        (first
          | exact ⟨hcx0, hc0, hbx, hby, (Below.refl _ _).drew⟩
          | exact keep6 (by assumption) hb5)
        (first
          | (go_at_call 56; (with_reducible refine (DV.out _ (keep6b (by assumption))).mono ?_); rintro e w5 ⟨u5, v5, rfl, hdo⟩; have hb5 := divOut_below hdo))
      obtain ⟨q, r, ⟨Cq, nq, dq, fq, rfl, hsq, pq, hnq⟩, ⟨Cr, nr, dr, fr, rfl, -, -, -⟩, hdiv, hbq, -⟩ := hdo
      have hsz5 : wr.heap.size ≤ w5.heap.size := hb5.size
      have HB5 : Hid (Below wr.heap.size wr w5) := Lib.hid (below_step (Below.refl _ _).drew hb5)
      have HSQ := Lib.hid hsq
      have HLE : Hid (Ser.Bd p (less (cf (X 0)) (cf fq) (cf (Y 0))) m) := Lib.hid (by
        refine hdiv.2.eq ((less_of hdiv.1).trans (less_eq (Ser.Eq.refl _ _) pq.2.symm (Ser.Eq.refl _ _)))
      )
      clear hsq pq hdiv hbq hb5 hcx0 hc0 DV
      go_wp2_with fail
      go_loopw [16, 15] (fun i v wq => ∃ (k : Nat) (L : List Value) (Z : Nat → List Int), k ≤ 3 ∧ i = .int .i64 (k : Int) ∧ Hid (L.length = k) ∧ Hid (VOw wq w5.heap.size v L) ∧
          Hid (∀ t, t < k → ∃ C n d, L.getD t nilv = .slice C n d ∧ ISl wq C n d (Z t) ∧ n ≤ 1001 + (j + 1) * 1002 ∧ Pol p (Z t) (less (cf (X t)) (cf fq) (cf (Y t))) ∧ ApO C (Z t) v.ownBlock) ∧ Below w5.heap.size w5 wq) (fun i _ _ => 3 - (intOf i).toNat)
      case atStart => exact ⟨0, [], fun _ => [], by omega, rfl, Lib.hid rfl, Lib.hid (VOw.nil _ _), Lib.hid (fun t ht => absurd ht (Nat.not_lt_zero _)), Below.refl _ _⟩
      case round =>
        obtain ⟨k, L, Z, hk3, rfl, hLl, hown, hZ, hbel⟩ := hrel
        have HBQ := Lib.hid hbel
        have HBRQ := Lib.hid (HB5.out.trans (hbel.mono hsz5))
        have hszq := hbel.size
        clear hbel
        by_cases hlt : k < 3
        · obtain ⟨X1, k1, d1', hx1, hix1, hlx1⟩ := HIX.out k hlt
          obtain ⟨Y1, m1, e1', hy1, hiy1, hly1⟩ := HIY.out k hlt
          have hcx1 := HCX.out k hlt
          have hcy1 := HCY.out k hlt
          have hbx5 := Nat.lt_of_lt_of_le hbx HB5.out.size
          have hby5 := Nat.lt_of_lt_of_le hby HB5.out.size
          rw [hx1, ← below_cell HBRQ.out hbx] at hcx1
          rw [hy1, ← below_cell HBRQ.out hby] at hcy1
          have HXK := Lib.hid (hix1.below HB5.out)
          have HYK := Lib.hid (hiy1.below HB5.out)
          have i1 : (0 : Int) ≤ (k : Int) := by omega
          have i2 : (k : Int) < 3 := by omega
          have TM := Lib.hid (fun W (hb : Below w5.heap.size w5 W) => times_at Cq Y1 nq dq m1 e1' fq (Y k) p W (HSQ.out.below hb) (HYK.out.below hb) MD.out (by omega) (by omega))
          have SM := Lib.hid (fun W (hb : Below w5.heap.size w5 W) (C : Option Addr) (n d : Nat) (f : List Int) (h : ISl W C n d f) (hn : n ≤ 3000000) => sum_any X1 C k1 d1' n d (X k) f (-1) p W (HXK.out.below hb) h MD.out (by omega) (by omega) (by omega))
          have hnb : nq + m1 ≤ 3000000 := by omega
          clear hx1 hy1 hix1 hiy1 hbx hby
          go_wp2_with fail
          go_region_held3 (fun W => W.cell? ⟨bx, ox + k, none⟩ = some (.slice X1 k1 d1') ∧ W.cell? ⟨by_, oy + k, none⟩ = some (.slice Y1 m1 e1') ∧ Below w5.heap.size w5 W)
            (first
              | exact ⟨hcx1, hcy1, HBQ.out.drew⟩
              | exact keep11 hbx5 hby5 (by assumption) hg3
              | exact keep11 hbx5 hby5 (by assumption) ((Below.refl _ _).alloc hsb _)
              | exact keep11 hbx5 hby5 (by assumption) (hbb.mono hsa)
              | exact keep11 hbx5 hby5 (by assumption) (hba.mono hszq))
            (first
              | (go_at_call 50; (with_reducible refine (TM.out _ (keep11b (by assumption))).mono ?_); rintro e wa ⟨va, rfl, ⟨Ct, nt, dt, ft, rfl, hst, pt, hnt⟩, hba⟩; have hsa : w5.heap.size ≤ wa.heap.size := Nat.le_trans hszq hba.size)
              | (go_at_call 75; (with_reducible refine (SM.out _ (keep11b (by assumption)) _ _ _ _ hst (by omega)).mono ?_); rintro e wb ⟨vb, rfl, Cs, ns, ds, fs, rfl, hss, ps, hns, hfr, hbb⟩; have hsb : w5.heap.size ≤ wb.heap.size := Nat.le_trans hsa hbb.size)
              | (refine vstep_app_at _ (by rfl) (.tmp 52) (.tmp 66) (by rfl) w5.heap.size _ _ (by rfl) ((hown.out.drew.below (below_step hba hbb)).alloc _) ⟨wb.heap.size, 0, none⟩ 1 1 (by rfl) [.slice Cs ns ds] ((vblk_list wb [.slice Cs ns ds] (sv_one _ _ _)).sl (by simp)) (by rw [hLl.out]; omega) (Nat.le_trans hsb (by simp)) ?_; intro v3 w3 ho3 hgr3 hat3; have hg3 := ((hown.out.drew.below (below_step hba hbb)).alloc (Obj.cells #[Value.slice Cs ns ds] 22)).grownBelow hgr3 (Nat.le_trans hsb (by simp))))
          have hba' : Below wr.heap.size wr wb := below_step (below_step (Below.refl _ _).drew hba) hbb
          have hbw : Below w5.heap.size w5 w3 := (((HBQ.out.trans (hba'.mono hszq)).alloc hsb (Obj.cells #[Value.slice Cs ns ds] 22))).trans hg3
          have hZ3 : ∀ t, t < k + 1 → ∃ C n d, (L ++ [Value.slice Cs ns ds]).getD t nilv = .slice C n d ∧ ISl w3 C n d (if t = k then fs else Z t) ∧ n ≤ 1001 + (j + 1) * 1002 ∧ Pol p (if t = k then fs else Z t) (less (cf (X t)) (cf fq) (cf (Y t))) ∧ ApO C (if t = k then fs else Z t) v3.ownBlock := by
            intro t ht
            have hal : Below wb.heap.size wb (wb.alloc (Obj.cells #[Value.slice Cs ns ds] 22)) := (Below.refl _ _).alloc (Nat.le_refl _) _
            by_cases e : t = k
            · subst e
              have hap : ApO Cs fs u15.ownBlock := (hown.out.drew.below hba).apart hfr
              refine ⟨Cs, ns, ds, ?_, ?_, by omega, ?_, ?_⟩
              · rw [List.getD_eq_getElem?_getD, List.getElem?_append_right (by rw [hLl.out]; exact Nat.le_refl _), hLl.out, Nat.sub_self]
                rfl
              · rw [if_pos rfl]
                exact (hss.below hal).grownO hgr3 hap
              · rw [if_pos rfl]
                exact ps.eq ((Ser.Eq.refl _ _).add (Ser.Eq.sc rfl pt.2))
              · rw [if_pos rfl]
                exact (hss.below hal).apO hap hat3
            · obtain ⟨C, n, d, z1, z2, z3, z4, z5⟩ := hZ.out t (by omega)
              refine ⟨C, n, d, ?_, ?_, z3, ?_, ?_⟩
              · rw [List.getD_eq_getElem?_getD, List.getElem?_append_left (by rw [hLl.out]; omega), ← List.getD_eq_getElem?_getD]
                exact z1
              · rw [if_neg e]
                exact (((z2.below hba').below hal)).grownO hgr3 z5
              · rw [if_neg e]; exact z4
              · rw [if_neg e]
                exact ((z2.below hba').below hal).apO z5 hat3
          have HZ3 := Lib.hid hZ3
          have HL3 : Hid ((L ++ [Value.slice Cs ns ds]).length = k + 1) := Lib.hid (by rw [List.length_append, hLl.out]; rfl)
          have HO3 := Lib.hid ho3
          clear hZ3 ho3 hgr3 hat3 hg3 hba hbb hba' hst pt hss ps hfr hcx1 hcy1
          go_wp2_with fail
          go_roundw
          case rel => exact ⟨k + 1, _, _, by omega, by go_num, HL3, HO3, HZ3, hbw⟩
          case measure => simp [intOf]; omega
        · obtain rfl : k = 3 := by omega
          obtain ⟨A3, c3, e3, hs3, _⟩ := hown.out.sl
          rw [hLl.out] at e3 hs3
          subst e3
          have HS3 := Lib.hid hs3
          have hrowY : RowAt wr (.slice (some ⟨by_, oy, none⟩) 3 cy) Y (1001 + (j + 1) * 1002) := (HRY0.out.below HBRQ.out).mono (by omega)
          have hrowZ : RowAt wr (.slice A3 3 c3) Z (1001 + (j + 1) * 1002) := by
            refine ⟨A3, c3, L, rfl, HS3.out, fun k hk => ?_⟩
            obtain ⟨C, n, d, z1, z2, z3, _⟩ := hZ.out k hk
            exact ⟨C, n, d, z1, z2, z3⟩
          have pz : ∀ k, k < 3 → Pol p (Z k) (less (cf (X k)) (cf fq) (cf (Y k))) := fun k hk => by
            obtain ⟨C, n, d, z1, z2, z3, z4, _⟩ := hZ.out k hk
            exact z4
          have hzb : Ser.Bd p (cf (Z 0)) m := HLE.out.eq (pz 0 (by omega)).2.symm
          have hzl : (Z 0).length ≤ m := (pz 0 (by omega)).1.len_le hpos hzb
          have hlen : (Y 0).length = m + 1 := by rw [← HML.out, HM.out]
          have hnew : ∀ o, EuRun p (rowS Y) (rowS Z) o → EuRun p (rowS (rowX fx)) (rowS (rowY fy)) o := fun o h =>
            hrun.out o (.step m (cf fq) HBY.out HT.out (fini_cf p fq) hzb ⟨(pz 0 (by omega)).2, (pz 1 (by omega)).2, (pz 2 (by omega)).2⟩ h)
          have HN1 : Hid ((Y 0).length ≤ 1000) := Lib.hid (by have := HLY.out; omega)
          have HN2 : Hid (j + 1 + (Z 0).length ≤ 1000) := Lib.hid (by have := HLY.out; omega)
          have HRY := Lib.hid hrowY
          have HRZ := Lib.hid hrowZ
          have HNW := Lib.hid hnew
          have HPZ := Lib.hid (pz 0 (by omega)).1
          have HB44 := Lib.hid (HBR.out.trans (HBRQ.out.mono HBR.out.size))
          have HMS : Hid (headLen (.slice A3 3 c3) wr < m0) := Lib.hid (by
            obtain ⟨b3, o3, rfl, _, hc3⟩ := HS3.out.at_ (by omega)
            have h0 := hc3 0 (by omega)
            obtain ⟨C, n, d, z1, z2, _⟩ := hZ.out 0 (by omega)
            rw [z1, Nat.add_zero] at h0
            show (match wr.cell? ⟨b3, o3, none⟩ with | some u => slLen u | none => 0) < m0
            rw [h0]
            show n < m0
            rw [z2.len, HM.out]
            omega)
          clear hrowY hrowZ pz hzb hzl hlen hnew hs3
          go_wp2_with fail
          exact ⟨⟨Y, Z, j + 1, HRY.out, HRZ.out, hPY, HPZ, HN1.out, HN2.out, HNW, HB44.out⟩, by rw [HHL.out]; exact HMS.out⟩

set_option maxRecDepth 100000 in
set_option maxHeartbeats 400000 in
theorem refGcd_not (A B : Option Addr) (n c n' c' : Nat) (p : Int) (w : World) (h0 : In64 p) (hp : ¬ Pr p) :
    Calls Tryd.prog 54 #[.slice A n c, .slice B n' c', .int .i64 p] w fun e w' => e = .returned (.tuple #[.slice none 0 0, .int .i64 1]) ∧ w = w' := by
  have CC := Lib.hid (refBezout_not A B n c n' c' p w h0 hp)
  clear h0 hp
  go_enter Tryd.func54, Tryd.ntmps54
  go_wp2_with (go_at_call 74; (with_reducible refine CC.out.mono ?_); rintro e w' ⟨rfl, rfl⟩)
  go_ret2
  exact ⟨rfl, rfl⟩

/-- Gcd's answer. -/
def GcdOut (p : Int) (a b : Ser) (N : Nat) (w : World) (v : Value) (w' : World) : Prop := ∃ g s t, IsBez p a b g s t ∧ PolIn p g N w' v ∧ Below w.heap.size w w'
set_option maxRecDepth 100000 in
set_option maxHeartbeats 400000 in
theorem refGcd_any (A B : Option Addr) (n c n' c' : Nat) (xs ys : List Int) (p : Int) (w : World) (h : ISl w A n c xs) (h' : ISl w B n' c' ys) (hp : Pr p) (hn : n ≤ 1000) (hn' : n' ≤ 1000) :
    Calls Tryd.prog 54 #[.slice A n c, .slice B n' c', .int .i64 p] w fun e w' => ∃ v, e = .returned (.tuple #[v, .int .i64 0]) ∧ GcdOut p (cf xs) (cf ys) 2000000 w v w' := by
  have CC := Lib.hid (refBezout_any A B n c n' c' xs ys p w h h' hp hn hn')
  clear h h' hp hn hn'
  go_enter Tryd.func54, Tryd.ntmps54
  go_wp2_with (go_at_call 74; (with_reducible refine CC.out.mono ?_); rintro e w' ⟨v1, v2, v3, rfl, hout⟩)
  go_ret2
  obtain ⟨g, s, t, hb, hg, _, _, hbb⟩ := hout
  exact ⟨_, rfl, g, s, t, hb, hg, hbb⟩
end Go.Proofs.YtekpifafjbkmiaaDoor

/- The document's Bezout and Gcd in one form. -/
namespace Go.Proofs.YtekpifafjbkmiaaDoor
open Go.RowKit

theorem rBezout (A B : Option Addr) (n c n' c' : Nat) (xs ys : List Int) (p : Int) (w : World) (h : ISl w A n c xs) (h' : ISl w B n' c' ys) (ip : In64 p) (hn : n ≤ 1000) (hn' : n' ≤ 1000) :
    Calls Tryd.prog 74 #[.slice A n c, .slice B n' c', .int .i64 p] w fun e w' => ∃ C1 m1 d1 C2 m2 d2 C3 m3 d3, e = .returned (.tuple #[.slice C1 m1 d1, .slice C2 m2 d2, .slice C3 m3 d3, .int .i64 (chk p)]) ∧ Got w C1 m1 d1 (bezG p (cf xs) (cf ys)) 2000000 w' ∧ Got w C2 m2 d2 (bezS p (cf xs) (cf ys)) 2000000 w' ∧ Got w C3 m3 d3 (bezT p (cf xs) (cf ys)) 2000000 w' := by
  rcases Classical.em (Pr p) with hp | hp
  · rw [chk_yes (primB_yes hp)]
    refine (refBezout_any A B n c n' c' xs ys p w h h' hp (by omega) (by omega)).mono ?_
    rintro e w' ⟨v1, v2, v3, rfl, g, s, t, hb, i1, i2, i3, hw⟩
    obtain ⟨C1, m1, d1, rfl, g1⟩ := polIn_got (L := bezG p (cf xs) (cf ys)) i1 hw (Nat.le_refl _) (fun zs hz => bezG_is hp hb hz)
    obtain ⟨C2, m2, d2, rfl, g2⟩ := polIn_got (L := bezS p (cf xs) (cf ys)) i2 hw (Nat.le_refl _) (fun zs hz => bezS_is hp hb hz)
    obtain ⟨C3, m3, d3, rfl, g3⟩ := polIn_got (L := bezT p (cf xs) (cf ys)) i3 hw (Nat.le_refl _) (fun zs hz => bezT_is hp hb hz)
    exact ⟨C1, m1, d1, C2, m2, d2, C3, m3, d3, rfl, g1, g2, g3⟩
  · rw [chk_no (primB_no hp)]
    refine (refBezout_not A B n c n' c' p w ip hp).mono ?_
    rintro e w' ⟨rfl, hw⟩
    exact ⟨none, 0, 0, none, 0, 0, none, 0, 0, rfl, got_nil (below_eq hw) (bezG_no hp), got_nil (below_eq hw) (bezS_no hp), got_nil (below_eq hw) (bezT_no hp)⟩
theorem rGcd (A B : Option Addr) (n c n' c' : Nat) (xs ys : List Int) (p : Int) (w : World) (h : ISl w A n c xs) (h' : ISl w B n' c' ys) (ip : In64 p) (hn : n ≤ 1000) (hn' : n' ≤ 1000) :
    Calls Tryd.prog 54 #[.slice A n c, .slice B n' c', .int .i64 p] w fun e w' => ∃ C m d, e = .returned (.tuple #[.slice C m d, .int .i64 (chk p)]) ∧ Got w C m d (bezG p (cf xs) (cf ys)) 2000000 w' := by
  rcases Classical.em (Pr p) with hp | hp
  · rw [chk_yes (primB_yes hp)]
    refine (refGcd_any A B n c n' c' xs ys p w h h' hp (by omega) (by omega)).mono ?_
    rintro e w' ⟨v, rfl, g, s, t, hb, i1, hw⟩
    obtain ⟨C1, m1, d1, rfl, g1⟩ := polIn_got (L := bezG p (cf xs) (cf ys)) i1 hw (Nat.le_refl _) (fun zs hz => bezG_is hp hb hz)
    exact ⟨C1, m1, d1, rfl, g1⟩
  · rw [chk_no (primB_no hp)]
    refine (refGcd_not A B n c n' c' p w ip hp).mono ?_
    rintro e w' ⟨rfl, hw⟩
    exact ⟨none, 0, 0, rfl, got_nil (below_eq hw) (bezG_no hp)⟩
end Go.Proofs.YtekpifafjbkmiaaDoor

/- What is monic is its own monic one. Mathematics alone. -/
namespace Go.Proofs.YtekpifafjbkmiaaDoor
open Go.RowKit

theorem monL_self {p : Int} {xs : List Int} (hp : Pr p) (h : Mn p xs) : monL p (cf xs) = xs := by
  obtain ⟨h1, _, _, h4⟩ := mn_mon hp h.last
  exact h1.ext hp h h4
theorem Mn.nz {p : Int} {xs : List Int} (h : Mn p xs) : ¬ Ser.Bd p (cf xs) 0 := h.last.some
end Go.Proofs.YtekpifafjbkmiaaDoor

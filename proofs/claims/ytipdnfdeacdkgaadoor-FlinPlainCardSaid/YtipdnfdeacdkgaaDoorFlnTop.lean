/- flin.Echelon, by its contract. -/
import Derived.Test.YtipdnfdeacdkgaaDoorFlnEch
import Derived.Test.YtipdnfdeacdkgaaDoorFlnApp
import Derived.Test.YtipdnfdeacdkgaaDoorLinGat
namespace Go.Proofs.YtipdnfdeacdkgaaDoor
open Go.RowKit Go.Shelf

theorem rowsOf_take {P : List (Nat × List Int)} {q : Nat} (hq : q < P.length) : (rowsOf P).take (q + 1) = (rowsOf P).take q ++ [prow P q] := by
  unfold rowsOf
  rw [List.take_succ_eq_append_getElem (by simpa using hq), List.getElem_map, prow_at hq]
theorem codeB_t : codeB true = 0 := rfl
theorem codeB_f : codeB false = 1 := rfl
/-- A row that lies in older memory than what is gathered. -/
theorem GAt.apOld {w0 w : World} {v : Value} {G : List (List Int)} (h : GAt w w0.heap.size v G) {C : Option Addr} {k d : Nat} {L : List Int} (hL : ISl w0 C k d L) : ApO C L v.ownBlock := by
  rcases hL.rd.2 with e | ⟨b, o, e, hlt, _⟩
  · exact .inl e
  · refine .inr fun b' o' s' e' e2 => ?_
    rw [e] at e'
    simp only [Option.some.injEq, Addr.mk.injEq] at e'
    have := (h.lt e2.symm).1
    omega

set_option maxHeartbeats 4000000 in
theorem fEchelon_any (A : Option Addr) (n c : Nat) (M : List (List Int)) (p : Int) (w : World) (hT : TabAt w) (h : MatAt w A n c M) (ip : In64 p) :
    Calls Tryd.prog 10 #[.slice A n c, .int .i64 p] w fun e w' => RowsOut w (echV p M) (codeP (Right p M)) e w' := by
  have hcl := h.le
  have hcm := h.max
  have C := fCheck_any A n c M p w hT h ip
  rcases Classical.em (Right p M) with hr | hr
  · rw [rightB_yes hr, codeB_t] at C
    rw [codeP_yes hr, show echV p M = rowsOf (echP p (cols M) M) from by unfold echV; rw [ansB_yes hr]]
    have hn64 : n ≤ 64 := by rw [h.len]; exact hr.2.1
    have E := Lib.hid (fun W (hb : Below w.heap.size w W) => fEch_any A n c (cols M) M p W (hT.below hb) (h.below hb) hr.1 hn64 (fun i hi => hr.len hi) hr.cols)
    have UQ := Lib.hid (fun (P : List (Nat × List Int)) (hP : EchOf p (cols M) M P) => echP_eq hr.1.1 hP)
    have HML := Lib.hid h.len
    have CC := Lib.hid C
    generalize echP p (cols M) M = R at *
    clear C h hT ip hr
    go_enter Tryd.func10, Tryd.ntmps10
    go_wp2_with (first
      | (go_at_call 18; (with_reducible refine CC.out.mono ?_); rintro e w0 ⟨rfl, hb0⟩; have HB0 := Lib.hid hb0; clear hb0)
      | (go_at_call 19; (with_reducible refine (E.out _ HB0.out).mono ?_); rintro e w1 ⟨v1, rfl, P, A1, m, c1, rfl, hP, he1, he2, he3, hm, hb1⟩; have HP := Lib.hid hP; have HE := Lib.hid (UQ.out P ⟨he1, he2, he3⟩); have HB1 := Lib.hid (HB0.out.trans (hb1.mono HB0.out.size)); have HM := Lib.hid hm; clear hP he1 he2 he3 hb1 hm))
    have e := HE.out
    subst e
    have hle1 := HP.out.le
    have hmx1 := HP.out.max
    have hPl := HP.out.len
    have HPL := Lib.hid hPl
    have hm64 : m ≤ 64 := by have := HM.out; rw [← HML.out] at this; omega
    clear hPl HE
    go_loopw [20, 7] (fun i u wr => ∃ q : Nat, q ≤ m ∧ i = .int .i64 (q : Int) ∧ Hid (GAt wr w1.heap.size u ((rowsOf R).take q)) ∧ Hid (Below w1.heap.size w1 wr)) (fun i _ _ => m - (intOf i).toNat)
    case atStart => exact ⟨0, Nat.zero_le _, rfl, Lib.hid (GAt.nil _ _), Lib.hid (Below.refl _ _)⟩
    case round =>
      obtain ⟨q, hq, rfl, hG, hbel⟩ := hrel
      by_cases hlt : q < m
      · obtain ⟨b6, o6, rfl, hb6, hcr⟩ := HP.out.open_ (by omega)
        obtain ⟨hk1, C, k, d, hk2, hk3⟩ := hcr q hlt
        rw [← hbel.out.cell (p := ⟨b6, o6 + q * 2, none⟩) hb6] at hk1
        rw [← hbel.out.cell (p := ⟨b6, o6 + q * 2 + 1, none⟩) hb6] at hk2
        have hqR : q < R.length := by rw [← HPL.out]; exact hlt
        have htk := rowsOf_take hqR
        have hap := hG.out.apOld hk3
        generalize prow R q = r at *
        obtain ⟨a, ha⟩ : ∃ a, plc R q = a := ⟨_, rfl⟩
        rw [ha] at hk1
        have HR := Lib.hid (fun W (hb : Below w1.heap.size w1 W) => hk3.below hb)
        have HAP := Lib.hid hap
        have HTK := Lib.hid htk
        have i1 : (0 : Int) ≤ (q : Int) := by omega
        have i2 : (q : Int) < (m : Int) := by omega
        have hsz := hbel.out.size
        have hgl : ((rowsOf R).take q).length ≤ 1000 := by rw [List.length_take]; omega
        have HB2 : Hid (Below w1.heap.size w1 ((wr.alloc (.cells #[.int .i64 (a : Int), .slice C k d] 41)).alloc (.cells #[.slice C k d] 31))) := Lib.hid ((hbel.out.alloc hsz _).alloc (by simp; omega) _)
        have HG2 : Hid (GAt ((wr.alloc (.cells #[.int .i64 (a : Int), .slice C k d] 41)).alloc (.cells #[.slice C k d] 31)) w1.heap.size u7 ((rowsOf R).take q)) := Lib.hid ((hG.out.below (below_al _ _)).below (below_al _ _))
        have HV : Hid (VBlk ((wr.alloc (.cells #[.int .i64 (a : Int), .slice C k d] 41)).alloc (.cells #[.slice C k d] 31)) (wr.heap.size + 1) [.slice C k d]) := Lib.hid (by
          have := vblk_list (wr.alloc (.cells #[.int .i64 (a : Int), .slice C k d] 41)) [.slice C k d] (sv_one _ _ _)
          simpa using this)
        clear hcr hk3 htk hap ha hbel
        go_wp2_with (at_builtin; refine gwpList_app _ rfl (.tmp 24) (.tmp 27) rfl w1.heap.size _ _ rfl HG2.out _ rfl C k d HV.out r (HR.out _ HB2.out) HAP.out hgl (Nat.le_trans HB2.out.size (Nat.le_refl _)) ?_; intro v3 w3 hg3 hb3)
        rw [← HTK.out] at hg3
        have HG3 := Lib.hid hg3
        have HB3 := Lib.hid (HB2.out.trans hb3)
        clear hg3 hb3
        go_roundw
        case rel => exact ⟨q + 1, by omega, by go_num, HG3, HB3⟩
        case measure => simp [intOf]; omega
      · obtain rfl : q = m := by omega
        have hG2 := hG.out
        rw [List.take_of_length_le (by simp [rowsOf, HPL.out])] at hG2
        obtain ⟨A2, c2, rfl, hmat⟩ := hG2.mat
        have HMT := Lib.hid hmat
        clear hG2 hmat
        go_wp2_with fail
        go_ret2
        exact ⟨_, _, _, rfl, HMT.out, HB1.out.trans (hbel.out.mono HB1.out.size)⟩
  · rw [rightB_no hr, codeB_f] at C
    rw [codeP_no hr, show echV p M = [] from by unfold echV; rw [ansB_no hr]]
    have CC := Lib.hid C
    clear C h hT ip hr
    go_enter Tryd.func10, Tryd.ntmps10
    go_wp2_with (go_at_call 18; (with_reducible refine CC.out.mono ?_); rintro e w1 ⟨rfl, hb1⟩; have HB1 := Lib.hid hb1; clear hb1)
    go_ret2
    exact ⟨_, _, _, rfl, mat_nil _, HB1.out⟩
end Go.Proofs.YtipdnfdeacdkgaaDoor

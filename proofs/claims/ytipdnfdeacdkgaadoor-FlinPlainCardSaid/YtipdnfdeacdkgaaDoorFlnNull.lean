/- flin.Null, by its contract. -/
import Derived.Test.YtipdnfdeacdkgaaDoorFlnNul
namespace Go.Proofs.YtipdnfdeacdkgaaDoor
open Go.RowKit Go.Shelf

set_option maxHeartbeats 2000000 in
theorem fNull_not (A : Option Addr) (m c : Nat) (M : List (List Int)) (n p : Int) (w : World) (hT : TabAt w) (h : MatAt w A m c M) (ip : In64 p) (ho : ¬ NulOk p M n) :
    Calls Tryd.prog 13 #[.slice A m c, .int .i64 n, .int .i64 p] w fun e w' => e = .returned (.tuple #[.slice none 0 0, .int .i64 1]) ∧ Below w.heap.size w w' := by
  have hcl := h.le
  have hcm := h.max
  have C := fCheck_any A m c M p w hT h ip
  rcases Classical.em (Right p M) with hr | hr
  · rw [rightB_yes hr, codeB_t] at C
    have CC := Lib.hid C
    have HNL := Lib.hid h.len
    have H := Lib.hid h
    have HO := Lib.hid ho
    have HR := Lib.hid hr
    clear C h hT ip ho hr
    by_cases h0 : n < 0
    · go_enter Tryd.func13, Tryd.ntmps13
      go_wp2_with (go_at_call 18; (with_reducible refine CC.out.mono ?_); rintro e w1 ⟨rfl, hb1⟩; have HB1 := Lib.hid hb1; clear hb1)
      go_ret2
      exact ⟨rfl, HB1.out⟩
    · by_cases h64 : 64 < n
      · go_enter Tryd.func13, Tryd.ntmps13
        go_wp2_with (go_at_call 18; (with_reducible refine CC.out.mono ?_); rintro e w1 ⟨rfl, hb1⟩; have HB1 := Lib.hid hb1; clear hb1)
        go_ret2
        exact ⟨rfl, HB1.out⟩
      · have hM : 0 < m ∧ (cols M : Int) ≠ n := by
          refine ⟨Classical.byContradiction fun hm => HO.out ⟨HR.out, by omega, by omega, fun h => absurd h (by rw [← HNL.out]; omega)⟩, fun e => HO.out ⟨HR.out, by omega, by omega, fun _ => e⟩⟩
        obtain ⟨hm0, hne⟩ := hM
        obtain ⟨b, o, rfl, hbl, hc⟩ := H.out.open_ hm0
        obtain ⟨C0, k0, d0, hc0, hi0⟩ := hc 0 hm0
        have hk0 : (k0 : Int) ≠ n := by rw [hi0.len]; exact hne
        rw [Nat.add_zero] at hc0
        have CC2 := Lib.hid (fun W (hb : Below w.heap.size w W) => (hb.cell (p := ⟨b, o, none⟩) hbl).trans hc0)
        have i1 : (0 : Int) < (m : Int) := by omega
        have i2 : ((k0 : Int) != n) = true := by simpa using hk0
        have i3 : (0 : Int) ≤ n := by omega
        have i4 : n ≤ 64 := by omega
        have hmx := Nat.le_trans hi0.le hi0.max
        clear hc hi0 hc0 hne hk0
        go_enter Tryd.func13, Tryd.ntmps13
        go_wp2_with (go_at_call 18; (with_reducible refine CC.out.mono ?_); rintro e w1 ⟨rfl, hb1⟩; have HB1 := Lib.hid hb1; have hc1 := CC2.out w1 hb1; clear hb1)
        go_ret2
        exact ⟨rfl, HB1.out⟩
  · rw [rightB_no hr, codeB_f] at C
    have CC := Lib.hid C
    clear C h hT ip ho hr
    go_enter Tryd.func13, Tryd.ntmps13
    go_wp2_with (go_at_call 18; (with_reducible refine CC.out.mono ?_); rintro e w1 ⟨rfl, hb1⟩; have HB1 := Lib.hid hb1; clear hb1)
    go_ret2
    exact ⟨rfl, HB1.out⟩

set_option maxHeartbeats 2000000 in
theorem fNull_any (A : Option Addr) (m c : Nat) (M : List (List Int)) (n p : Int) (w : World) (hT : TabAt w) (h : MatAt w A m c M) (ip : In64 p) :
    Calls Tryd.prog 13 #[.slice A m c, .int .i64 n, .int .i64 p] w fun e w' => RowsOut w (nulV' p M n) (codeP (NulOk p M n)) e w' := by
  rcases Classical.em (NulOk p M n) with ho | ho
  · rw [codeP_yes ho, show nulV' p M n = nulL p n.toNat (echP p n.toNat M) n.toNat from by unfold nulV'; rw [ansB_yes ho]]
    have hcl := h.le
    have hcm := h.max
    have C := fCheck_any A m c M p w hT h ip
    obtain ⟨hr, h0, h64, hcn⟩ := ho
    obtain ⟨k, rfl⟩ : ∃ k : Nat, n = (k : Int) := ⟨n.toNat, by omega⟩
    rw [show (k : Int).toNat = k from by omega]
    rw [rightB_yes hr, codeB_t] at C
    have hm64 : m ≤ 64 := by rw [h.len]; exact hr.2.1
    have hck : 0 < M.length → cols M = k := fun h => by have := hcn h; omega
    have E := Lib.hid (fun W (hb : Below w.heap.size w W) => fEch_any A m c k M p W (hT.below hb) (h.below hb) hr.1 hm64 (fun i hi => by rw [hr.len hi]; exact hck (by omega)) (by omega))
    have UQ := Lib.hid (fun (P : List (Nat × List Int)) (hP : EchOf p k M P) => echP_eq hr.1.1 hP)
    have BS := Lib.hid (fun (W : World) (R : Option Addr) (m d : Nat) (P : List (Nat × List Int)) (hR : RowsAt W R m d P) (hE : EchP p k P) (hm : m ≤ 64) => fBasis_any R m d P k p W hR hE (by omega) hm hr.1.md hr.1.1)
    have HML := Lib.hid h.len
    have CC := Lib.hid C
    generalize echP p k M = R at *
    by_cases hm0 : 0 < m
    · obtain ⟨b, o, rfl, hbl, hc⟩ := h.open_ hm0
      obtain ⟨C0, k0, d0, hc0, hi0⟩ := hc 0 hm0
      have hk0 : k0 = k := by rw [hi0.len]; exact hck (by rw [← HML.out]; exact hm0)
      subst hk0
      rw [Nat.add_zero] at hc0
      have CC2 := Lib.hid (fun W (hb : Below w.heap.size w W) => (hb.cell (p := ⟨b, o, none⟩) hbl).trans hc0)
      have i1 : (0 : Int) < (m : Int) := by omega
      clear hc hi0 hc0 C h hT ip hr hcn hck
      go_enter Tryd.func13, Tryd.ntmps13
      go_wp2_with (first
        | (go_at_call 18; (with_reducible refine CC.out.mono ?_); rintro e w0 ⟨rfl, hb0⟩; have HB0 := Lib.hid hb0; have hc1 := CC2.out w0 hb0; clear hb0)
        | (go_at_call 19; (with_reducible refine (E.out _ HB0.out).mono ?_); rintro e w1 ⟨v1, rfl, P, A1, m1, c1, rfl, hP, he1, he2, he3, hm, hb1⟩; have HP := Lib.hid hP; have HE := Lib.hid (UQ.out P ⟨he1, he2, he3⟩); have HB1 := Lib.hid (HB0.out.trans (hb1.mono HB0.out.size)); have B2 := Lib.hid (BS.out w1 _ _ _ P hP he1 (by rw [← HML.out] at hm; omega)); clear hP he1 he2 he3 hb1 hm)
        | (go_at_call 25; (with_reducible refine B2.out.mono ?_); rintro e w2 ⟨A2, k2, c2, rfl, hM2, hb2⟩; have HM2 := Lib.hid hM2; have HB2 := Lib.hid (HB1.out.trans (hb2.mono HB1.out.size)); clear hM2 hb2))
      go_ret2
      exact ⟨_, _, _, rfl, by rw [HE.out]; exact HM2.out, HB2.out⟩
    · obtain rfl : m = 0 := by omega
      clear C h hT ip hr hcn hck
      go_enter Tryd.func13, Tryd.ntmps13
      go_wp2_with (first
        | (go_at_call 18; (with_reducible refine CC.out.mono ?_); rintro e w0 ⟨rfl, hb0⟩; have HB0 := Lib.hid hb0; clear hb0)
        | (go_at_call 19; (with_reducible refine (E.out _ HB0.out).mono ?_); rintro e w1 ⟨v1, rfl, P, A1, m1, c1, rfl, hP, he1, he2, he3, hm, hb1⟩; have HP := Lib.hid hP; have HE := Lib.hid (UQ.out P ⟨he1, he2, he3⟩); have HB1 := Lib.hid (HB0.out.trans (hb1.mono HB0.out.size)); have B2 := Lib.hid (BS.out w1 _ _ _ P hP he1 (by rw [← HML.out] at hm; omega)); clear hP he1 he2 he3 hb1 hm)
        | (go_at_call 25; (with_reducible refine B2.out.mono ?_); rintro e w2 ⟨A2, k2, c2, rfl, hM2, hb2⟩; have HM2 := Lib.hid hM2; have HB2 := Lib.hid (HB1.out.trans (hb2.mono HB1.out.size)); clear hM2 hb2))
      go_ret2
      exact ⟨_, _, _, rfl, by rw [HE.out]; exact HM2.out, HB2.out⟩
  · rw [codeP_no ho, show nulV' p M n = [] from by unfold nulV'; rw [ansB_no ho]]
    refine (fNull_not A m c M n p w hT h ip ho).mono ?_
    rintro e w' ⟨rfl, hb⟩
    exact ⟨_, _, _, rfl, mat_nil _, hb⟩
end Go.Proofs.YtipdnfdeacdkgaaDoor

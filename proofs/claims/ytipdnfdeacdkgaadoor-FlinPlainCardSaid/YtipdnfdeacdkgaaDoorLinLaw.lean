/- What the laws FlinPlain, FlinCounts and FlinLinear hang on: plain rows there are; what they make nought; rests by the sign. -/
import Derived.Test.YtipdnfdeacdkgaaDoorLinAw
import Derived.Test.YtipdnfdeacdkgaaDoorIntOpen
namespace Go.Proofs.YtipdnfdeacdkgaaDoor
open Go.RowKit Go.Shelf

theorem hstepL {w w1 w2 : World} (h : Hid (Below w.heap.size w w1)) (k : Below w1.heap.size w1 w2) : Hid (Below w.heap.size w w2) := Lib.hid (h.out.trans (k.mono h.out.size))
/-- Plain rows there are, as flin.echelon finds them. -/
theorem ech_ex {A : Option Addr} {n c nc : Nat} {M : List (List Int)} {p : Int} {w : World} (hT : TabAt w) (h : MatAt w A n c M) (hr : Right p M) (hnc : ∀ i, i < M.length → (M.getD i []).length = nc) (hc64 : nc ≤ 64) : EchOf p nc M (echP p nc M) := by
  have hn64 : n ≤ 64 := by rw [h.len]; exact hr.2.1
  obtain ⟨e, w', fr, ⟨v, _, P, A1, m1, c1, _, _, h1, h2, h3, _⟩, _⟩ := fEch_any A n c nc M p w hT h hr.1 hn64 hnc hc64 []
  have e := echP_eq hr.1.1 (⟨h1, h2, h3⟩ : EchOf p nc M P)
  rw [e]
  exact ⟨h1, h2, h3⟩
theorem EchOf.len {p : Int} {nc : Nat} {M : List (List Int)} {P : List (Nat × List Int)} (h : EchOf p nc M P) : P.length ≤ nc := by
  have := nulL_len h.1
  omega
theorem ech_none (p : Int) (hp : 2 ≤ p) (nc : Nat) : echP p nc [] = [] := echP_eq hp ⟨ech_nil p nc, fun _ hr => (List.not_mem_nil hr).elim, fun _ hr => (List.not_mem_nil hr).elim⟩
/-- What Null's vectors are. -/
theorem nulL_mem {p : Int} {n k : Nat} {M : List (List Int)} {P : List (Nat × List Int)} (h : EchOf p n M P) (hk : k ≤ n) {L : List Int} (hL : L ∈ nulL p n P k) : L.length = n ∧ ∀ j, cf (appL p M L n) j = 0 := by
  obtain ⟨c, hc, rfl⟩ := List.mem_map.1 hL
  obtain ⟨hc1, hc2⟩ := List.mem_filter.1 hc
  have hcn : c < n := Nat.lt_of_lt_of_le (List.mem_range.1 hc1) hk
  refine ⟨nulV_len _ _ _ _, fun j => ?_⟩
  by_cases hj : j < M.length
  · rw [cf_at (by rw [appL_len]; exact hj)]
    simp only [appL, List.getElem_map]
    exact Sp.dot0 (nul_row h.1 hcn (freeB_iff.1 hc2)) (h.2.2 _ (List.getElem_mem hj))
  · exact cf_over (by rw [appL_len]; omega)
theorem getD_mem {α : Type} {xs : List α} {i : Nat} {d : α} (h : i < xs.length) : xs.getD i d ∈ xs := by
  rw [List.getD_eq_getElem?_getD, List.getElem?_eq_getElem h]
  exact List.getElem_mem h
theorem tmod_bd (x : Int) {p : Int} (hp : 0 < p) : -p < x.tmod p ∧ x.tmod p < p := ⟨Int.lt_tmod_of_pos x hp, Int.tmod_lt_of_pos x hp⟩
theorem tmod_mod (x p : Int) : x.tmod p % p = x % p := by
  rw [Int.tmod_def, Int.sub_mul_emod_self_left]
theorem tmod_zero {x p : Int} (h : x % p = 0) : x.tmod p = 0 := Int.tmod_eq_zero_of_dvd (Int.dvd_of_emod_eq_zero h)

set_option maxRecDepth 100000 in
set_option maxHeartbeats 4000000 in
theorem walkFlinCounts (A : Option Addr) (m c : Nat) (M : List (List Int)) (n p : Int) (w : World) (hT : TabAt w) (sm : MatAt w A m c M) (_ : (Lit.int .i64 n).wf = true) (wp : (Lit.int .i64 p).wf = true) :
    Calls Tryd.prog 7 #[.slice A m c, .int .i64 n, .int .i64 p] w fun e w' => e = .returned (.bool true) ∧ Below w.heap.size w w' := by
  have ip : In64 p := int_wf wp
  have AW := Lib.hid (awake07 w hT)
  have E1 := Lib.hid (fun W (hb : Below w.heap.size w W) => fNull_any A m c M n p W (hT.below hb) (sm.below hb) ip)
  have E2 := Lib.hid (fun W (hb : Below w.heap.size w W) => fEchelon_any A m c M p W (hT.below hb) (sm.below hb) ip)
  rcases Classical.em (NulOk p M n) with ho | ho
  · have hr := ho.1
    obtain ⟨k, rfl⟩ : ∃ k : Nat, n = (k : Int) := ⟨n.toNat, by have := ho.2.1; omega⟩
    have hk64 : k ≤ 64 := by have := ho.2.2.1; omega
    have hck : 0 < M.length → cols M = k := fun h => by have := ho.2.2.2 h; omega
    have hE : EchOf p k M (echP p k M) := ech_ex hT sm hr (fun i hi => by rw [hr.len hi]; exact hck (by omega)) hk64
    have e1 : nulV' p M (k : Int) = nulL p k (echP p k M) k := by unfold nulV'; rw [ansB_yes ho, show (k : Int).toNat = k from by omega]
    have e2 : (echV p M).length = (echP p k M).length := by
      unfold echV
      rw [ansB_yes hr]
      by_cases hM : 0 < M.length
      · rw [hck hM]; simp [rowsOf]
      · have : M = [] := List.eq_nil_of_length_eq_zero (by omega)
        subst this
        rw [ech_none p hr.1.1, ech_none p hr.1.1]; rfl
    have hlen := nulL_len hE.1
    have HV := Lib.hid (fun L (hL : L ∈ nulL p k (echP p k M) k) => nulL_mem hE (Nat.le_refl _) hL)
    rw [codeP_yes ho, e1] at E1
    rw [codeP_yes hr] at E2
    rw [← e2] at hlen
    generalize nulL p k (echP p k M) k = V at *
    have AP := Lib.hid (fun W (hb : Below w.heap.size w W) (C : Option Addr) (kk dd : Nat) (L : List Int) (hL : L ∈ V) (hs : ISl W C kk dd L) => (by
      have := fApply_any A m c M C kk dd L p W (hT.below hb) (sm.below hb) hs ip
      have ha : AppOk p M L := ⟨hr, fun h => by rw [hck h, (HV.out L hL).1]⟩
      rw [codeP_yes ha, show appV p M L = appL p M L k from by unfold appV; rw [ansB_yes ha, (HV.out L hL).1]] at this
      exact this :
        Calls Tryd.prog 15 #[.slice A m c, .slice C kk dd, .int .i64 p] W fun e w' => ListOut W (appL p M L k) 0 e w'))
    have HML := Lib.hid sm.len
    generalize echV p M = E at *
    have HLEN := Lib.hid hlen
    have hmx := sm.le
    have hmx2 := sm.max
    clear hT sm ho hr hck hE e1 e2 hlen
    go_enter Tryd.func7, Tryd.ntmps7
    go_wp2_with (first
      | (go_at_call 9; (with_reducible refine AW.out.mono ?_); rintro e w0 ⟨rfl, hb0⟩; have HB0 := Lib.hid hb0; clear hb0)
      | (go_at_call 13; (with_reducible refine (E1.out _ HB0.out).mono ?_); rintro e w1 ⟨A1, m1, c1, rfl, hM1, hb1⟩; have HM1 := Lib.hid hM1; have HB1 := hstepL HB0 hb1; clear hM1 hb1)
      | (go_at_call 10; (with_reducible refine (E2.out _ HB1.out).mono ?_); rintro e w2 ⟨A2, m2, c2, rfl, hM2, hb2⟩; have HM2 := Lib.hid hM2.len; have hm2 := hM2.le; have hm3 := hM2.max; have HM3 := Lib.hid (HM1.out.below hb2); have HB2 := hstepL HB1 hb2; clear hM2 hb2))
    have hml := HM3.out.len
    have hle1 := HM3.out.le
    have hmx1 := HM3.out.max
    have HL1 := Lib.hid hml
    clear hml
    go_loopw [12] (fun i wr => ∃ t : Nat, t ≤ m1 ∧ i = .int .i64 (t : Int) ∧ Hid (Below w2.heap.size w2 wr)) (fun i _ => m1 - (intOf i).toNat)
    case atStart => exact ⟨0, Nat.zero_le _, rfl, Lib.hid (Below.refl _ _)⟩
    case round =>
      obtain ⟨t, ht, rfl, hbel⟩ := hrel
      by_cases hlt : t < m1
      · obtain ⟨b, o, rfl, hbl, hc⟩ := HM3.out.open_ (by omega)
        obtain ⟨C, kk, dd, hc1, hs1⟩ := hc t hlt
        have hLm : V.getD t [] ∈ V := getD_mem (by rw [← HL1.out]; exact hlt)
        obtain ⟨hLl, hLz⟩ := HV.out _ hLm
        have hbw := HB2.out.trans (hbel.out.mono HB2.out.size)
        have AP1 := AP.out wr hbw C kk dd _ hLm (hs1.below hbel.out)
        generalize V.getD t [] = L at *
        have hkk : kk = k := by rw [hs1.len, hLl]
        subst hkk
        have hXl := appL_len p M L kk
        generalize appL p M L kk = X at *
        have HX := Lib.hid hXl
        have HZ := Lib.hid hLz
        have AP2 := Lib.hid AP1
        have HC := Lib.hid (fun W (hb : Below w2.heap.size w2 W) => (hb.cell (p := ⟨b, o + t, none⟩) hbl).trans hc1)
        have hc1r := HC.out wr hbel.out
        have i1 : (0 : Int) ≤ (t : Int) := by omega
        have i2 : (t : Int) < (m1 : Int) := by omega
        have hd1 := hs1.le
        have hd2 := hs1.max
        clear hc hs1 hLm hLl hLz AP1 hXl hc1 hbw
        go_wp2_with (go_at_call 15; (with_reducible refine AP2.out.mono ?_); rintro e w5 ⟨A5, m5, c5, rfl, hs5, hb5⟩; have hl5 : m5 = m := (by rw [hs5.len, HX.out, HML.out]); subst hl5; have hle5 := hs5.le; have hmx5 := hs5.max; have HS5 := Lib.hid hs5; have HB5 := Lib.hid (hbel.out.trans (hb5.mono hbel.out.size)); have hc5 := HC.out w5 HB5.out; clear hs5 hb5)
        clear hc1r
        go_loop [15] (fun i => ∃ j : Nat, j ≤ m5 ∧ i = .int .i64 (j : Int)) (fun i => m5 - (intOf i).toNat)
        case atStart => exact ⟨0, Nat.zero_le _, rfl⟩
        case round =>
          obtain ⟨j, hj, rfl⟩ := hrel
          by_cases hjl : j < m5
          · obtain ⟨b5, o5, rfl, hb5, hcf⟩ := HS5.out.cfs (by omega)
            have hz := hcf j hjl
            rw [HZ.out j] at hz
            have i3 : (0 : Int) ≤ (j : Int) := by omega
            have i4 : (j : Int) < (m5 : Int) := by omega
            clear hcf
            go_wp2_with fail
            go_round
            case rel => exact ⟨j + 1, by omega, by go_num⟩
            case measure => simp [intOf]; omega
          · obtain rfl : j = m5 := by omega
            go_wp2_with fail
            exact ⟨⟨t + 1, by omega, by go_num, HB5⟩, by simp [intOf]; omega⟩
      · obtain rfl : t = m1 := by omega
        have hfin : (t : Int) = (k : Int) - (m2 : Int) := by
          have h1 := HLEN.out
          have h2 := HL1.out
          have h3 := HM2.out
          omega
        go_wp2_with fail
        go_ret
        exact ⟨rfl, HB2.out.trans (hbel.out.mono HB2.out.size)⟩
  · rw [codeP_no ho] at E1
    clear hT sm
    generalize codeP (Right p M) = cd at *
    go_enter Tryd.func7, Tryd.ntmps7
    go_wp2_with (first
      | (go_at_call 9; (with_reducible refine AW.out.mono ?_); rintro e w0 ⟨rfl, hb0⟩; have HB0 := Lib.hid hb0; clear hb0)
      | (go_at_call 13; (with_reducible refine (E1.out _ HB0.out).mono ?_); rintro e w1 ⟨A1, m1, c1, rfl, hM1, hb1⟩; have HB1 := hstepL HB0 hb1; clear hM1 hb1)
      | (go_at_call 10; (with_reducible refine (E2.out _ HB1.out).mono ?_); rintro e w2 ⟨A2, m2, c2, rfl, hM2, hb2⟩; have HB2 := hstepL HB1 hb2; clear hM2 hb2))
    go_ret
    exact ⟨rfl, HB2.out⟩
end Go.Proofs.YtipdnfdeacdkgaaDoor

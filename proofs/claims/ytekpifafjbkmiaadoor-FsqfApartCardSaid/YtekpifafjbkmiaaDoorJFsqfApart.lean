/- The law FsqfApart: its walk and its card. -/
import Derived.Test.YtekpifafjbkmiaaDoorMh27
import Derived.Test.YtekpifafjbkmiaaDoorTie
import Derived.Test.YtekpifafjbkmiaaDoorCards
import Derived.ChangeOld
import Derived.ChangeMaps5
import Derived.Lay
import Derived.LaidMore
import Derived.SevenTiedAt
import Derived.Stop.Joined
import Derived.Below

/- The law FsqfApart, walked. -/
namespace Go.Proofs.YtekpifafjbkmiaaDoor
open Go.RowKit

theorem astep8 {w w1 w2 : World} (h : Hid (Below w.heap.size w w1)) (k : Below w1.heap.size w1 w2) : Hid (Below w.heap.size w w2) := Lib.hid (h.out.trans (k.mono h.out.size))
theorem mn_top {p : Int} {xs : List Int} (hp : Pr p) (h : Mn p xs) : cf xs (xs.length - 1) = 1 := by
  have h1 := h.2.2.2
  have hp1 : 1 ≤ p := by have := hp.1; omega
  have h2 := h.1.1.at hp1 (xs.length - 1)
  rwa [Int.emod_eq_of_lt h2.1 h2.2] at h1
theorem sqf_unit {p : Int} {xs : List Int} (hp : Pr p) (h : Mn p xs) (hs : Sqf p xs) : bezG p (cf xs) (cf (polL p (Ser.der (cf xs)))) = [1] :=
  ((mn_gcdD hp h).1.one_iff hp).1 ((sqf_gcd hp h).2 hs)
theorem sqf_B {p : Int} {xs : List Int} (hp : Pr p) (h : Mn p xs) (hs : Sqf p xs) : sqB p (cf xs) = true :=
  sqB_is (esq_yes hp h.last.some) (by rw [mon_self hp h]; exact ⟨fun _ => hs, fun _ => rfl⟩)
theorem apart_one {p : Int} {m : List Int} {L : PL} (hp : Pr p) (hm : Mn p m) (h : IsParts p m L) {x : List Int × Nat} (hx : x ∈ L) :
    Mn p x.1 ∧ 2 ≤ x.1.length ∧ x.1.length ≤ m.length ∧ cf x.1 (x.1.length - 1) = 1 ∧ esq p (cf x.1) = 0 ∧ sqB p (cf x.1) = true ∧ bezG p (cf x.1) (cf (polL p (Ser.der (cf x.1)))) = [1] := by
  obtain ⟨h1, ho, hne⟩ := h.own x hx
  have hs : Sqf p x.1 := fun q hq => by rw [ho.2 q hq]; split <;> omega
  have hl := ho.1.pos
  have hl1 : x.1.length ≠ 1 := fun e => hne ((ho.1.one_iff hp).1 e)
  refine ⟨ho.1, by omega, Mn.len_le hp ho.1 hm fun q hq => ?_, mn_top hp ho.1, esq_yes hp ho.1.last.some, sqf_B hp ho.1 hs, sqf_unit hp ho.1 hs⟩
  rw [ho.2 q hq]
  split <;> omega
theorem apart_two {p : Int} {m : List Int} {L : PL} (hp : Pr p) (h : IsParts p m L) {x y : List Int × Nat} (hx : x ∈ L) (hy : y ∈ L) (hn : x.2 ≠ y.2) : bezG p (cf x.1) (cf y.1) = [1] := by
  obtain ⟨_, ho, _⟩ := h.own x hx
  obtain ⟨_, ho', _⟩ := h.own y hy
  obtain ⟨g1, _, g3⟩ := mn_gcd hp ho.1 ho'.1
  refine g1.one_of hp fun q hq => ?_
  rw [g3 q hq, ho.2 q hq, ho'.2 q hq]
  split <;> split <;> first | omega | (rename_i a b; exact absurd (a.symm.trans b) hn)
theorem parts_ne {p : Int} {m : List Int} {L : PL} (h : IsParts p m L) {i k : Nat} (hi : i < L.length) (hk : k < i) : L[i].2 ≠ (L[k]'(by omega)).2 := by
  have := List.pairwise_iff_getElem.1 h.up k i (by simp; omega) (by simp; omega) hk
  simp at this
  omega
/-- What a part of the row shows. -/
structure ApOne (p : Int) (m xs : List Int) : Prop where
  len : 2 ≤ xs.length
  le : xs.length ≤ m.length
  top : cf xs (xs.length - 1) = 1
  e : esq p (cf xs) = 0
  b : sqB p (cf xs) = true
  g : bezG p (cf xs) (cf (polL p (Ser.der (cf xs)))) = [1]
theorem ap_one {p : Int} {m : List Int} {Z : List Pt} (hp : Pr p) (hm : Mn p m) (h : IsParts p m (pls Z)) {i : Nat} (hi : i < Z.length) : ApOne p m Z[i].xs := by
  have hx : Z[i].pl ∈ pls Z := List.mem_map.2 ⟨_, List.getElem_mem hi, rfl⟩
  obtain ⟨_, a1, a2, a3, a4, a5, a6⟩ := apart_one hp hm h hx
  exact ⟨a1, a2, a3, a4, a5, a6⟩
theorem ap_two {p : Int} {m : List Int} {Z : List Pt} (hp : Pr p) (h : IsParts p m (pls Z)) {i k : Nat} (hi : i < Z.length) (hk : k < i) : bezG p (cf Z[i].xs) (cf (Z[k]'(by omega)).xs) = [1] := by
  have hx : Z[i].pl ∈ pls Z := List.mem_map.2 ⟨_, List.getElem_mem hi, rfl⟩
  have hy : (Z[k]'(by omega)).pl ∈ pls Z := List.mem_map.2 ⟨_, List.getElem_mem (by omega), rfl⟩
  have hn := parts_ne h (i := i) (k := k) (by rw [pls_length]; exact hi) hk
  unfold pls at hn
  rw [List.getElem_map, List.getElem_map] at hn
  exact apart_two hp h hx hy hn

set_option maxRecDepth 100000 in
set_option maxHeartbeats 8000000 in
theorem walkFsqfApart (A : Option Addr) (n c : Nat) (xs : List Int) (p : Int) (w : World) (hT : TabAt w) (sm : ISl w A n c xs) (_ : n ≤ 17592186044416) (wp : (Lit.int .i64 p).wf = true) :
    Calls Tryd.prog 5 #[.slice A n c, .int .i64 p] w fun e w' => e = .returned (.bool true) ∧ Below w.heap.size w w' := by
  have ip : In64 p := int_wf wp
  have AW := Lib.hid (awake08 w hT)
  by_cases hn : n ≤ 60
  · have hn2 : ¬ (60 : Int) < (n : Int) := by omega
    have E0 := Lib.hid (fun W (hb : Below w.heap.size w W) => fPartsTop A n c xs p W (hT.below hb) (sm.below hb) ip (by omega))
    rcases esq_cases p (cf xs) with ⟨hp, hb, he⟩ | he | he
    · have E1 := Lib.hid (fun W (hW : Below w.heap.size w W) => fPartsOk A n c xs p W (hT.below hW) (sm.below hW) ip (by omega) hp hb)
      obtain ⟨m1, m2, _⟩ := mn_monL hp hb
      have HM := Lib.hid m1
      have M9 := Lib.hid (show (monL p (cf xs)).length ≤ 60 by have := sm.len; omega)
      have PR := Lib.hid hp
      have CK := Lib.hid (chk_yes (primB_yes hp))
      have IP := Lib.hid ip
      have HT := Lib.hid hT
      generalize monL p (cf xs) = mo at *
      clear hT sm hb m1 m2 he E0 hp
      go_enter Tryd.func5, Tryd.ntmps5
      go_wp2_with (first
        | (go_at_call 8; (with_reducible refine AW.out.mono ?_); rintro e w0 ⟨rfl, hb0⟩; have HB0 := Lib.hid hb0; clear hb0)
        | (go_at_call 9; (with_reducible refine (E1.out _ HB0.out).mono ?_); rintro e w1 ⟨A1, k1, c1, Z1, rfl, hR1, hP1, hb1⟩; have R1 := Lib.hid hR1; have P1 := Lib.hid hP1; have HB1 := astep8 HB0 hb1; clear hR1 hP1 hb1))
      have kle := R1.out.le
      have kmx := R1.out.max
      have K9 := Lib.hid R1.out.len
      go_loopw [8] (fun vi wr => ∃ (i : Nat), vi = .int .i64 (i : Int) ∧ i ≤ k1 ∧ Hid (Below w1.heap.size w1 wr)) (fun vi _ => k1 - (intOf vi).toNat)
      case atStart => exact ⟨0, rfl, Nat.zero_le _, Lib.hid (Below.refl _ _)⟩
      case round =>
        obtain ⟨i, rfl, hi, BB⟩ := hrel
        by_cases hlt : i < k1
        · have R3 := Lib.hid (R1.out.below BB.out)
          have hiz : i < Z1.length := by rw [← K9.out]; exact hlt
          obtain ⟨b, o, rfl, hbl, hc⟩ := R3.out.open_ (by omega)
          have HC := Lib.hid hc
          obtain ⟨c0, c1'⟩ := hc i hiz
          have zin := R3.out.in_ _ (List.getElem_mem hiz)
          have AP := Lib.hid (ap_one PR.out HM.out P1.out hiz)
          have A2 := Lib.hid (fun k (hk : k < i) => ap_two PR.out P1.out hiz hk)
          obtain ⟨z, hz⟩ : ∃ z, Z1[i] = z := ⟨_, rfl⟩
          rw [hz] at c0 zin AP
          have A3 : Hid (∀ k (hk : k < i), bezG p (cf z.xs) (cf (Z1[k]'(by omega)).xs) = [1]) := Lib.hid (fun k hk => by rw [← hz]; exact A2.out k hk)
          obtain ⟨zA, zn, zc, zx, zN⟩ := z
          simp only [Pt.sl] at c0
          have AP2 : Hid (ApOne p mo zx) := AP
          have A4 : Hid (∀ k (hk : k < i), bezG p (cf zx) (cf (Z1[k]'(by omega)).xs) = [1]) := A3
          have ZIN := Lib.hid (show ISl wr zA zn zc zx from zin)
          obtain ⟨kz, hkz⟩ : ∃ kz, zn = kz + 1 := ⟨zn - 1, by have := AP2.out.len; have := ZIN.out.len; omega⟩
          subst hkz
          have kz1 : 1 ≤ kz := by have := AP2.out.len; have := ZIN.out.len; omega
          have kz9 : kz ≤ 60 := by have := AP2.out.le; have := ZIN.out.len; have := M9.out; omega
          obtain ⟨bz, oz, rfl, hbz, hcz⟩ := ZIN.out.cf_ (by omega)
          have cz := hcz kz (by omega)
          have ez : cf zx kz = 1 := by have h1 := AP2.out.top; have h2 := ZIN.out.len; rwa [show zx.length - 1 = kz by omega] at h1
          rw [ez] at cz
          have CZ := Lib.hid cz
          have HBZ := Lib.hid hbz
          have HBL := Lib.hid hbl
          have i1 : (0 : Int) ≤ (i : Int) := by omega
          have i2 : (i : Int) < (k1 : Int) := by omega
          have HTr := Lib.hid (HT.out.below (below_to HB1.out BB.out))
          have S1 := Lib.hid (fIsTop (some ⟨bz, oz, none⟩) (kz + 1) zc zx p wr HTr.out ZIN.out IP.out (by omega))
          rw [AP2.out.e, AP2.out.b] at S1
          have S2 := Lib.hid (fun W (hW : Below wr.heap.size wr W) => cDeriv (some ⟨bz, oz, none⟩) (kz + 1) zc zx p W (HTr.out.below hW) (ZIN.out.below hW) IP.out (by omega))
          have S3 := Lib.hid (fun W (hW : Below wr.heap.size wr W) C m d ys (h : ISl W C m d ys) (hm : m ≤ 1000) => cGcd (some ⟨bz, oz, none⟩) C (kz + 1) zc m d zx ys p W (HTr.out.below hW) (ZIN.out.below hW) h IP.out (by omega) hm)
          clear hc hcz cz hz zin AP A2 A3 c1' ez hbz hbl
          have hd1 : decide ((kz : Int) + 1 < 2) = false := decide_eq_false (by omega)
          go_wp2_with (first
            | (go_at_call 13; (with_reducible refine S1.out.mono ?_); rintro e w2 ⟨rfl, hb2⟩; have B2 := Lib.hid hb2; clear hb2)
            | (go_at_call 20; (with_reducible refine (S2.out _ B2.out).mono ?_); rintro e w3 ⟨C3, m3, d3, rfl, hg⟩; have B3 := Lib.hid (below_to B2.out hg.bel); have G3 := Lib.hid hg.isl; have m39 : m3 ≤ 1000 := (by have := hg.2.1; omega); clear hg)
            | (go_at_call 21; (with_reducible refine (S3.out _ B3.out _ _ _ _ G3.out m39).mono ?_); rintro e w4 ⟨C4, m4, d4, rfl, hg⟩; have B4 := Lib.hid (below_to B3.out hg.bel); have hi4 := hg.isl; rw [AP2.out.g] at hi4; have G4 := Lib.hid hi4; have d4c : w4.cell? ⟨bz, oz + kz, none⟩ = some (.int .i64 1) := (B4.out.cell (p := ⟨bz, oz + kz, none⟩) HBZ.out).trans CZ.out; have SM := Lib.hid (polSame C4 (some ⟨w4.heap.size, 0, none⟩) m4 d4 1 1 [1] [1] (w4.alloc (.cells #[.int .i64 1] 3)) (G4.out.below (bel_al _ _)) ((iblk_list w4 [1] (fi_one (by unfold In64; omega))).sl (by simp)) rfl); have BA := Lib.hid (bel_al w4 (.cells #[.int .i64 1] 3)); clear hg hi4)
            | (go_at_call 17; (with_reducible refine SM.out.mono ?_); rintro e w5 ⟨rfl, hb5⟩; have B5 := Lib.hid (below_to B4.out (below_to BA.out hb5)); clear hb5))
          go_loopw [16] (fun vk wr => ∃ (k : Nat), vk = .int .i64 (k : Int) ∧ k ≤ i ∧ Hid (Below w5.heap.size w5 wr)) (fun vk _ => i - (intOf vk).toNat)
          case atStart => exact ⟨0, rfl, Nat.zero_le _, Lib.hid (Below.refl _ _)⟩
          case round =>
            obtain ⟨k, rfl, hk, BK⟩ := hrel
            have BX := Lib.hid (below_to B5.out BK.out)
            have BY := Lib.hid (below_to BB.out BX.out)
            by_cases hkl : k < i
            · have hkz : k < Z1.length := by omega
              have R5 := Lib.hid (R1.out.below BY.out)
              have zin5 := R5.out.in_ _ (List.getElem_mem hkz)
              obtain ⟨y0, _⟩ := HC.out k hkz
              have d0 := (BX.out.cell (p := ⟨b, o + k * 2, none⟩) HBL.out).trans y0
              have A5 := A4.out k hkl
              have L5 := (ap_one PR.out HM.out P1.out hkz).le
              obtain ⟨z5, hz5⟩ : ∃ z, Z1[k] = z := ⟨_, rfl⟩
              rw [hz5] at d0 zin5 A5 L5
              obtain ⟨yA, yn, yc, yx, yN⟩ := z5
              simp only [Pt.sl] at d0
              have YIN := Lib.hid (show ISl wr yA yn yc yx from zin5)
              have yn9 : yn ≤ 60 := by have h1 : yx.length ≤ mo.length := L5; have := YIN.out.len; have := M9.out; omega
              have A6 := Lib.hid (show bezG p (cf zx) (cf yx) = [1] from A5)
              have j1 : (0 : Int) ≤ (k : Int) := by omega
              have j2 : (k : Int) < (k1 : Int) := by omega
              have j3 : (k : Int) < (i : Int) := by omega
              have S6 := Lib.hid (cGcd (some ⟨bz, oz, none⟩) yA (kz + 1) zc yn yc zx yx p wr (HTr.out.below BX.out) (ZIN.out.below BX.out) YIN.out IP.out (by omega) (by omega))
              rw [A6.out] at S6
              clear y0 A5 L5 hz5 zin5
              go_wp2_with (first
                | (go_at_call 21; (with_reducible refine S6.out.mono ?_); rintro e w6 ⟨C6, m6, d6, rfl, hg⟩; have B6 := Lib.hid (below_to BK.out hg.bel); have G6 := Lib.hid hg.isl; have SM6 := Lib.hid (polSame C6 (some ⟨w6.heap.size, 0, none⟩) m6 d6 1 1 [1] [1] (w6.alloc (.cells #[.int .i64 1] 3)) (G6.out.below (bel_al _ _)) ((iblk_list w6 [1] (fi_one (by unfold In64; omega))).sl (by simp)) rfl); have BA6 := Lib.hid (bel_al w6 (.cells #[.int .i64 1] 3)); clear hg)
                | (go_at_call 17; (with_reducible refine SM6.out.mono ?_); rintro e w7 ⟨rfl, hb7⟩; have B7 := Lib.hid (below_to B6.out (below_to BA6.out hb7)); clear hb7))
              go_roundw
              case rel => exact ⟨k + 1, by go_num, by omega, B7⟩
              case measure => simp [intOf]; omega
            · have j3 : ¬ (k : Int) < (i : Int) := by omega
              go_wp2_with fail
              go_roundw
              case rel => exact ⟨i + 1, by go_num, by omega, BY⟩
              case measure => simp [intOf]; omega
        · have i2 : ¬ (i : Int) < (k1 : Int) := by omega
          have HBR := Lib.hid (show Below w.heap.size w wr from below_to HB1.out BB.out)
          go_wp2_with fail
          go_ret
          exact ⟨rfl, HBR.out⟩
    · rw [he] at E0
      clear hT sm
      go_enter Tryd.func5, Tryd.ntmps5
      go_wp2_with (first
        | (go_at_call 8; (with_reducible refine AW.out.mono ?_); rintro e w0 ⟨rfl, hb0⟩; have HB0 := Lib.hid hb0; clear hb0)
        | (go_at_call 9; (with_reducible refine (E0.out _ HB0.out).mono ?_); rintro e w1 ⟨A1, k1, c1, Z1, rfl, hR1, -, hb1⟩; have HB1 := astep8 HB0 hb1; clear hR1 hb1))
      go_ret
      exact ⟨rfl, HB1.out⟩
    · rw [he] at E0
      clear hT sm
      go_enter Tryd.func5, Tryd.ntmps5
      go_wp2_with (first
        | (go_at_call 8; (with_reducible refine AW.out.mono ?_); rintro e w0 ⟨rfl, hb0⟩; have HB0 := Lib.hid hb0; clear hb0)
        | (go_at_call 9; (with_reducible refine (E0.out _ HB0.out).mono ?_); rintro e w1 ⟨A1, k1, c1, Z1, rfl, hR1, -, hb1⟩; have HB1 := astep8 HB0 hb1; clear hR1 hb1))
      go_ret
      exact ⟨rfl, HB1.out⟩
  · have hn2 : (60 : Int) < (n : Int) := by omega
    clear hT sm
    go_enter Tryd.func5, Tryd.ntmps5
    go_wp2_with (go_at_call 8; (with_reducible refine AW.out.mono ?_); rintro e w0 ⟨rfl, hb0⟩; have HB0 := Lib.hid hb0; clear hb0)
    go_ret
    exact ⟨rfl, HB0.out⟩
end Go.Proofs.YtekpifafjbkmiaaDoor

/- The statement 'FsqfApart', a tied card: for every input the law's function returns true and leaves its arguments as they were; the package-level tables that the row lists are laid as the program's text lays them. No conditions but the form's own. -/
namespace Go.Proofs.YtekpifafjbkmiaaDoor.lawFsqfApartCard
open Go.ChangeShapes Go.WideShapes Go.ChangeAt Go.RowKit Go.ChangeMaps
set_option maxRecDepth 100000 in
theorem lifted (os : Os) (started : os.Started) (H : Type) (enc : TypeId × Value → H) :
    ReturnsInHanded {} Tryd.checked os 5 .any (fun w args => (Rows.fsqfApartSpec.pre enc Tryd.prog Tryd.f5 Rows.fsqfApartRow.domain false w args ∧ laidMetH Tryd.prog Rows.fsqfApartRow.laid w) ∧ sizedMet enc Tryd.prog Tryd.f5 (OpenSpec.ofChange Rows.fsqfApartSpec) false w args)
      (Rows.fsqfApartSpec.post enc Tryd.prog Tryd.f5 false true false false) := by
  refine returnsInHanded_of_change_and (C := Tryd.checked) (X := fun w _ => laidMetH Tryd.prog Rows.fsqfApartRow.laid w) (fun _ _ _ hh h => h.of_heap hh) own0 started (by kernel_rfl) Tryd.func5
    (ChangeSpec.witness_shaped (enc := enc) (C := Tryd.checked) (os := os) (X := fun w _ => laidMetH Tryd.prog Rows.fsqfApartRow.laid w) false (World.laidAll Tryd.prog os Rows.fsqfApartRow.laid) #[.slice none 0 0, .int .i64 0] 8 (World.laidAll_os _ _ _)
      (World.shaped_of_ZipB (by kernel_rfl) (by kernel_rfl)) (by kernel_rfl) (by kernel_rfl) (by kernel_rfl)
      (by rw [MakeChecks.laidMetH_plain _ _ _ (by kernel_rfl)]; exact laidMet_laidAll _ (by kernel_rfl) (by kernel_rfl))) ?_
  intro W base args ds gs before hval0 hW hcnd hsz0 hL hholds
  have hval : ∀ (j : Nat) t v, Tryd.f5.params[j]? = some t → args[j]? = some v → Value.okWide Tryd.prog W .any base t v := hval0
  have hW' := hW
  obtain ⟨p, q, hA0, hV, rfl, hfz, hnd⟩ := hW
  have hA : DataW.TrodAll enc Tryd.prog W 0 (fun _ => true) true Tryd.f5.params.toList args.toList ds p := hA0
  have hsz : (DataW.weightsEach Tryd.prog (Tryd.f5.params.toList ++ Rows.fsqfApartSpec.plain.varTypes Tryd.prog) (ds ++ gs)).all (· ≤ reachBytes) = true := hsz0
  rw [Tryd.params5] at hA hval hsz
  obtain ⟨v0, vs0, d0, ds0, p0, q0, hargs, rfl, rfl, h0, r0⟩ := trodAll_cons hA
  obtain ⟨v1, vs1, d1, ds1, p1, q1, rfl, rfl, rfl, h1, r1⟩ := trodAll_cons r0
  obtain ⟨rfl, rfl, rfl⟩ := trodAll_nil r1
  obtain rfl : args = #[v0, v1] := by cases args; simp_all
  obtain ⟨rfl, rfl⟩ := trodVars_none hV
  obtain ⟨a0, len0, cap0, rfl⟩ := okWide_slice Tryd.underlying22 (hval 0 22 v0 rfl rfl)
  have k0 := h0
  have lt0 : ∀ x ∈ p0, x.block < W.heap.size := by obtain ⟨m, hm⟩ := k0; exact DataW.trod_lt m _ _ _ hm
  obtain ⟨x0, s0, b0⟩ := isl_open h0 hsz 0 rfl rfl
  obtain ⟨a1, rfl, rfl, rfl, w1⟩ := open_int Tryd.underlying3 (hval 1 3 v1 rfl rfl) h1
  clear hA0 hval0 hsz0 hsz
  refine (walkFsqfApart a0 len0 cap0 x0 a1 W (tab_of_laid hL) s0 b0 w1).mono fun e W' ⟨he, bel⟩ => ?_
  subst he
  exact ⟨_, rfl, _, _, _, [], _, [], hW', trodAll_mk1 (shut_bool Tryd.underlying4 _), (trodAll_cons_mk (Below.trod laidOut0 (by kernel_rfl) (of_decide_eq_true (by kernel_rfl)) k0 bel lt0) (trodAll_cons_mk (shut_int Tryd.underlying3 w1) trodAll_mk0)), rfl, bel.frame _, fun h => by cases h⟩
theorem over : Rows.fsqfApartRow.holds Tryd.pinned (OpenSpec.ofChange Rows.fsqfApartSpec) :=
  OpenClaim.holds_of_wide 5 Tryd.f5 rfl rfl rfl rfl rfl rfl rfl ⟨rfl, rfl, rfl, rfl, rfl⟩ rfl rfl rfl rfl rfl (by kernel_rfl) Tryd.func5 (by kernel_rfl)
    (of_decide_eq_true (by kernel_rfl)) (by unfold Func.isWrapper; first | (rw [if_pos (by decide +kernel)]; kernel_rfl) | (rw [if_neg (by decide +kernel)]; exact ⟨rfl, rfl⟩))
    (fun os started H enc _ => lifted os started H enc)
/-- The statement: the tied card. -/
theorem proved : Rows.FsqfApartCardSaid :=
  Claim7.holds_tied_plain_at .later [] [.data] true Rows.fsqfApartCard.stood.harness false over (fun _ h => by cases h) (by kernel_rfl) (fun _ h => by cases h) fsqfApart_row_tie rfl ⟨rfl, rfl⟩ (by kernel_rfl) rfl
    (fun f fn hf hfn => by
      obtain rfl : f = 5 := Option.some.inj ((show Tryd.prog.funcNamed "cleaver/cleaverlaw08.FsqfApart" = some 5 by kernel_rfl).symm.trans hf) |>.symm
      obtain rfl : fn = Tryd.f5 := (Option.some.inj (Tryd.func5.symm.trans hfn)).symm
      exact ⟨by kernel_rfl, fun j t ht => by
        rw [Tryd.params5] at ht
        have hm : t ∈ [22, 3] := by simpa using Array.mem_of_getElem? ht
        have hall : ([22, 3].all fun u => !Tryd.prog.wantsStandIn u) = true := by kernel_rfl
        exact (show Tryd.prog.wantsStandIn t = false by simpa using List.all_eq_true.1 hall t hm)⟩)
    (by kernel_rfl)
end Go.Proofs.YtekpifafjbkmiaaDoor.lawFsqfApartCard

/- Texts joined, in their order: FacSp, FacSo. -/
import Derived.WalkMore
import Derived.Test.YtnkhhndjbanmnaaGreatDoorSortRow
import Derived.Test.YtnkhhndjbanmnaaGreatDoorSortFac
import Derived.Test.YtnkhhndjbanmnaaGreatDoorMp28
import Derived.Test.YtnkhhndjbanmnaaGreatDoorMp36

/- ffac.drawn and ffac.split by contract. -/
namespace Go.Proofs.YtnkhhndjbanmnaaGreatDoor
open Go.RowKit Go.Shelf
variable {ox : Option Nat}

set_option maxRecDepth 100000 in
set_option maxHeartbeats 400000 in
theorem gDrawn (D : Option Addr) (n c i : Nat) (ds : List Int) (p : Int) (w : World) (h : ISl w D n c ds) (hp : Pr p) :
    Calls Tryz.prog 60 #[.slice D n c, .int .i64 (i : Int), .int .i64 p] w fun e w' => ∃ s : Nat, e = .returned (.int .i64 (s : Int)) ∧ s ≤ 65521 ∧ w = w' := by
  have hcl := h.le
  have hcm := h.max
  have j0 : (0 : Int) ≤ (i : Int) := by omega
  have hp1 := hp.1
  have hp2 := hp.2.1
  by_cases hlt : i < n
  · obtain ⟨b, o, rfl, hb, hc⟩ := h.at_ (by omega)
    have hc1 := hc i hlt
    have RD := Lib.hid (pRed_md (ds.getD i 0) p hp.md w)
    have hz : 0 ≤ ds.getD i 0 % p ∧ ds.getD i 0 % p < p := ⟨Int.emod_nonneg _ (by omega), Int.emod_lt_of_pos _ (by omega)⟩
    generalize ds.getD i 0 = x at *
    have j1 : (i : Int) < (n : Int) := by omega
    have j2 : ¬ ((i : Int) ≥ (n : Int)) := by omega
    have HZ := Lib.hid hz
    clear h hc hp hz
    go_enter Tryz.func60, Tryz.ntmps60
    go_wp2_with (go_at_call 90; (with_reducible refine RD.out.mono ?_); rintro e w1 ⟨rfl, rfl⟩)
    go_ret
    have hz := HZ.out
    refine ⟨(x % p).toNat, ?_, by omega, rfl⟩
    rw [Int.toNat_of_nonneg hz.1]; rfl
  · have j1 : (i : Int) ≥ (n : Int) := by omega
    clear h hp
    go_enter Tryz.func60, Tryz.ntmps60
    go_wp2_with fail
    go_ret
    exact ⟨0, rfl, by omega, rfl⟩

theorem own_mem {p : Int} {xs : List Int} {d : Nat} (hp : Pr p) (hl : Last p (cf xs) d) (hP : EchOf p d (ownM p xs d) (ownP p xs d)) {b : List Int} (hb : b ∈ ownL p xs d) : Mult p (cf xs) (frobS p (cf b)) ∧ b.length = d := by
  obtain ⟨c, hc, rfl⟩ := List.mem_map.1 (show b ∈ (freeL (ownP p xs d) d).map fun c => nulV p d c (ownP p xs d) from hb)
  obtain ⟨hcn, hcf⟩ := freeL_mem.1 hc
  refine ⟨?_, nulV_len _ _ _ _⟩
  exact (own_null hp hl (fun i hi => by rw [cf_over (by rw [nulV_len]; exact hi)]; simp)).1 fun r hr => Sp.dot0 (fun r' hr' => nul_row hP.1 hcn (freeB_iff.1 hcf) r' hr') (hP.2.2 r hr)
structure SpM (ox : Option Nat) (w w2 wr : World) (bx : Nat) (v : Value) (F : List (List Int)) : Prop where
  be : Below w2.heap.size w2 wr
  cx : wr.cell? ⟨bx, 0, none⟩ = some v
  fz : wr.frozen? ⟨bx, 0, none⟩ = false
  fa : FacAt ox wr bx v F
  lt : bx < wr.heap.size
  ge : w2.heap.size ≤ bx
  fr : FreshV w v
theorem SpM.part {w w2 wr w' : World} {bx : Nat} {v v' : Value} {F F' : List (List Int)} (h : SpM ox w w2 wr bx v F) (hw : w.heap.size ≤ w2.heap.size) (cx : w'.cell? ⟨bx, 0, none⟩ = some v') (fa : FacAt ox w' bx v' F') (hg : wr.grownBy w' (some bx)) (fz : w'.frozen? ⟨bx, 0, none⟩ = false) (fr : FreshV wr v') : SpM ox w w2 w' bx v' F' :=
  ⟨h.be.grown hg h.be.size fun k e => by simp only [Option.some.injEq] at e; have := h.ge; omega, cx, fz, fa, Nat.lt_of_lt_of_le h.lt hg.size, h.ge, fun C m d e => (fr C m d e).after (Nat.le_trans hw h.be.size)⟩
theorem spl_len {p : Int} {w : List Int} {F : List (List Int)} (hp : Pr p) (hw : Mn p w) (h : Spl p w F) : ∀ f ∈ F, f.length ≤ w.length := fun f hf => (h.mn f hf).1.len_le hp hw fun _ hq => h.le hf hq

theorem facAt_nil (w : World) (bx : Nat) : FacAt ox w bx (.slice none 0 0) [] :=
  ⟨none, 0, [], rfl, ⟨rfl, Nat.le_refl _, by decide, fun _ => rfl, VRd.nil _ _⟩, fun _ _ _ e => (by cases e), fun h => absurd h (by decide), fun _ hi => absurd hi (Nat.not_lt_zero _)⟩
theorem freshV_nil (w : World) : FreshV w (.slice none 0 0) := fun C m d e b o s e2 => by
  simp only [Value.slice.injEq] at e
  rw [← e.1] at e2; cases e2
theorem frozen_new (w : World) (a : Array Value) (T : TypeId) (g : Nat) (hg : g = w.heap.size) (i : Nat) : (w.alloc (.cells a T)).frozen? ⟨g, i, none⟩ = false := by
  subst hg
  have := heap_alloc_new w (.cells a T)
  simp only [World.frozen?]
  rw [this]
  simp

set_option maxRecDepth 100000 in
set_option maxHeartbeats 4000000 in
theorem gSplit (A D : Option Addr) (n c nd cd : Nat) (xs ds : List Int) (p : Int) (w : World) (hT : TabAt w) (h : ISl w A n c xs) (hD : ISl w D nd cd ds) (hp : Pr p) (hx : Mn p xs) (hs : Sqf p xs) (hn : n ≤ 65) (hox : ∀ k, ox = some k → k < w.heap.size) (hA : ApB A ox) :
    Calls Tryz.prog 33 #[.slice A n c, .int .i64 p, .slice D nd cd] w fun e w' => ∃ v F bx, e = .returned v ∧ FacAt ox w' bx v F ∧ FreshV w v ∧ Facs p xs F ∧ Below w.heap.size w w' := by
  have hcl := h.le
  have hcm := h.max
  have hcl' := hD.le
  have hcm' := hD.max
  by_cases h1 : n ≤ 1
  · have T4 := gConst A n c (w.alloc (.cells #[.int .i64 p] 3))
    rw [lowB_yes h1] at T4
    have TT4 := Lib.hid T4
    have FA : Hid (Facs p xs []) := Lib.hid ⟨fun f hf => (List.not_mem_nil hf).elim, fun q hq => by
      rw [vs, (hx.len_one hp).1 (by have := hx.pos; have := h.len; omega) q hq]⟩
    clear T4 h hD hT hp hx hs
    go_enter Tryz.func33, Tryz.ntmps33
    go_wp2_with fail
    go_step3
    go_wp2_with (go_at_call 55; (with_reducible refine TT4.out.mono ?_); rintro e w1 ⟨rfl, rfl⟩)
    try rw [Exit.noGoto_ret]
    go_ret
    exact ⟨_, [], 0, rfl, facAt_nil _ _, freshV_nil _, FA.out, below_al _ _⟩
  · obtain ⟨d, rfl⟩ : ∃ d, n = d + 1 := ⟨n - 1, by omega⟩
    obtain ⟨w1, hw1⟩ : ∃ w1, w.alloc (.cells #[.int .i64 p] 3) = w1 := ⟨_, rfl⟩
    have b1 : Below w.heap.size w w1 := by rw [← hw1]; exact below_al _ _
    have T4 := gConst A (d + 1) c w1
    rw [lowB_no h1] at T4
    have OW := gOwn A c d xs p w1 (hT.below b1) (h.below b1) hp hx (by omega)
    rw [← hw1] at T4 OW
    have TT4 := Lib.hid T4
    have OWN := Lib.hid OW
    have HB1 := Lib.hid b1
    have HW1 := Lib.hid hw1
    have HT := Lib.hid hT
    have H := Lib.hid h
    have HD := Lib.hid hD
    have PR := Lib.hid hp
    have HX := Lib.hid hx
    have HS := Lib.hid hs
    have HOX := Lib.hid hox
    have HAX := Lib.hid hA
    clear hox hA
    clear T4 OW h hD hT hp hx hs b1 hw1
    go_enter Tryz.func33, Tryz.ntmps33
    go_wp2_with fail
    go_step3
    go_wp2_with (first
      | (go_at_call 55; (with_reducible refine TT4.out.mono ?_); rintro e w2 ⟨rfl, rfl⟩)
      | (go_at_call 38; (with_reducible refine OWN.out.mono ?_); rintro e w2 ⟨Ao, ko, co, rfl, hm, he, hb⟩; have HM := Lib.hid hm; have HE := Lib.hid he; have HB2 := Lib.hid hb; clear hm he hb)
      | fail)
    have cpw : w2.cell? ⟨w.heap.size, 0, none⟩ = some (.int .i64 p) := (HB2.out.cell (p := ⟨w.heap.size, 0, none⟩) (by simp)).trans (by simp)
    have hsz : w.heap.size < w2.heap.size := Nat.lt_of_lt_of_le (by simp) HB2.out.size
    have BW2 : Hid (Below w.heap.size w w2) := Lib.hid (below_to (below_al w _) HB2.out)
    have SM : SpM ox w w2 ((w2.alloc (.cells #[.slice A (d + 1) c] 22)).alloc (.cells #[.slice (some ⟨w2.heap.size, 0, none⟩) 1 1] 31)) (w2.heap.size + 1) (.slice (some ⟨w2.heap.size, 0, none⟩) 1 1) [xs] := by
      have b2 : Below w2.heap.size w2 (w2.alloc (.cells #[.slice A (d + 1) c] 22)) := below_al _ _
      have b3 := b2.alloc b2.size (.cells #[.slice (some ⟨w2.heap.size, 0, none⟩) 1 1] 31)
      have s2 : (w2.alloc (.cells #[.slice A (d + 1) c] 22)).heap.size = w2.heap.size + 1 := by simp
      have hk := (vblk_list w2 [.slice A (d + 1) c] (sv_one _ _ _)).alloc (.cells #[.slice (some ⟨w2.heap.size, 0, none⟩) 1 1] 31)
      have hne : xs ≠ [] := HX.out.2.1
      have hbl := H.out.blt hne
      refine ⟨b3, ?_, ?_, ⟨_, 1, [.slice A (d + 1) c], rfl, hk.sl (by simp), fun b o s e e2 => ?_, fun _ b o s e i => ?_, fun i hi => ?_⟩, by simp, by omega, fun C m d' e b o s e2 => ?_⟩
      · rw [← s2]; simp
      · exact frozen_new _ _ _ _ s2.symm _
      · simp only [Option.some.injEq, Addr.mk.injEq] at e e2; omega
      · simp only [Option.some.injEq, Addr.mk.injEq] at e
        obtain ⟨rfl, _, _⟩ := e
        exact hk.frozen i
      · obtain rfl : i = 0 := by simpa using hi
        refine ⟨A, d + 1, c, rfl, (H.out.below BW2.out).below b3, ⟨hne, HAX.out⟩, fun b o s e e2 => ?_, fun b o s e e2 => ?_⟩
        · have := hbl b o s e
          simp only [Option.some.injEq] at e2; omega
        · have := hbl b o s e
          simp only [Value.ownBlock, Option.some.injEq] at e2; omega
      · simp only [Value.slice.injEq] at e
        rw [← e.1] at e2
        simp only [Option.some.injEq, Addr.mk.injEq] at e2
        omega
    have HSM := Lib.hid SM
    have hlast : Last p (cf xs) d := by have := HX.out.last; rwa [← H.out.len, Nat.add_sub_cancel] at this
    have HL := Lib.hid hlast
    have HLN := Lib.hid H.out.len
    have OWNS := Lib.hid (fun b (hb : b ∈ ownL p xs d) => own_mem PR.out hlast HE.out hb)
    have FULL := Lib.hid (fun (F : List (List Int)) (hF : Spl p xs F) (hk : F.length = (ownL p xs d).length) => hF.full PR.out HX.out hlast HS.out HE.out hk)
    have FACS := Lib.hid (fun (F : List (List Int)) (hF : Spl p xs F) (hk : ∀ j, j < (ownL p xs d).length → ∀ f ∈ F, Con p f (cf ((ownL p xs d).getD j []))) => hF.facs PR.out HX.out hlast HS.out HE.out hk)
    have SP0 : Hid (Spl p xs [xs]) := Lib.hid (spl_start HX.out (by have := H.out.len; omega))
    have HKO := Lib.hid HM.out.len
    have CPW := Lib.hid cpw
    have hkl := HM.out.le
    have hkm := HM.out.max
    generalize ownL p xs d = B at *
    generalize (w2.alloc (.cells #[.slice A (d + 1) c] 22)).alloc (.cells #[.slice (some ⟨w2.heap.size, 0, none⟩) 1 1] 31) = w4 at *
    generalize (Value.slice (some ⟨w2.heap.size, 0, none⟩) 1 1) = v4 at *
    obtain ⟨bx, hbx⟩ : ∃ bx, w2.heap.size + 1 = bx := ⟨_, rfl⟩
    rw [hbx] at HSM ⊢
    clear SM hlast cpw hbx HE TT4 OWN
    go_step3
    go_wp2_with fail
    go_loopw [23] (fun i wr => ∃ (t : Nat) (F : List (List Int)) (v : Value), t ≤ ko ∧ i = .int .i64 (t : Int) ∧ Hid (SpM ox w w2 wr bx v F) ∧ Hid (Spl p xs F) ∧ Hid (∀ j, j < t → ∀ f ∈ F, Con p f (cf (B.getD j [])))) (fun i _ => ko - (intOf i).toNat)
    case atStart => exact ⟨0, _, _, Nat.zero_le _, rfl, HSM, SP0, Lib.hid fun j hj => absurd hj (Nat.not_lt_zero _)⟩
    case round =>
      clear HSM SP0
      obtain ⟨i, F, v, hi, rfl, HSM, HSP, HCN⟩ := hrel
      obtain ⟨wo, rfl⟩ : ∃ wo, wo = wr := ⟨wr, rfl⟩
      have hm := HSM.out
      by_cases hlt : i < ko
      · obtain ⟨bo, oo, rfl, hbo, hrow⟩ := HM.out.open_ (by omega)
        obtain ⟨Ci, ki, di, hc1, hi1⟩ := hrow i hlt
        have hc2 := (hm.be.cell (p := ⟨bo, oo + i, none⟩) hbo).trans hc1
        have hbr := Nat.lt_of_lt_of_le hbo hm.be.size
        have hcp := (hm.be.cell (p := ⟨w.heap.size, 0, none⟩) hsz).trans CPW.out
        have hpr := Nat.lt_of_lt_of_le hsz hm.be.size
        have hbel := below_to BW2.out hm.be
        have DR := Lib.hid (gDrawn D nd cd i ds p wo (HD.out.below hbel) PR.out)
        have hmb : B.getD i [] ∈ B := getD_memL (by have := HKO.out; omega)
        obtain ⟨o1, o2⟩ := OWNS.out _ hmb
        have HO1 := Lib.hid o1
        have hki : ki ≤ 64 := by have := hi1.len; omega
        have HI1 := Lib.hid hi1
        have j1 : (0 : Int) ≤ (i : Int) := by omega
        have j2 : (i : Int) < (ko : Int) := by omega
        have hdi := hi1.le
        have hdm := hi1.max
        clear hm hrow hc1 hbel hmb o1 o2 hi1
        go_wp2_with (go_at_call 60; (with_reducible refine DR.out.mono ?_); rintro e w5 ⟨s0, rfl, hs0, rfl⟩)
        have ST : Hid (SplAt p xs B i (s0 : Int) 0 F) := Lib.hid (splAt_start HSP.out HCN.out s0)
        go_loopw [12] (fun sv wr => ∃ (t : Nat) (F : List (List Int)) (v : Value) (sh : Int), t ≤ p.toNat ∧ sv = .int .i64 sh ∧ Hid (sh = (s0 : Int) + (t : Int)) ∧ Hid (SpM ox w w2 wr bx v F) ∧ Hid (SplAt p xs B i (s0 : Int) t F)) (fun sv _ => p.toNat + s0 - (intOf sv).toNat)
        case atStart => exact ⟨0, F, v, _, Nat.zero_le _, rfl, Lib.hid (by simp), HSM, ST⟩
        case round =>
          clear HSM HSP HCN ST hc2 hbr hcp hpr
          obtain ⟨t, F2, v2, sh, ht, rfl, HSH, HM2, HS2⟩ := hrel
          have hm := HM2.out
          have hpn : p.toNat ≤ 65521 := by have := PR.out.2.1; omega
          have hspl := HS2.out.spl
          have hsh := HSH.out
          have GP := gPart Ci ki di (B.getD i []) sh p bx w.heap.size v2 F2 wr (HT.out.below (below_to BW2.out hm.be)) (HI1.out.below hm.be) PR.out hki (by unfold In64; omega) hm.lt (Nat.lt_of_lt_of_le hsz hm.be.size) hm.cx ((hm.be.cell (p := ⟨w.heap.size, 0, none⟩) hsz).trans CPW.out) hm.fz hm.fa (fun f hf => ⟨(hspl.mn f hf).1, (hspl.mn f hf).2, by have := spl_len PR.out HX.out hspl f hf; have := HLN.out; omega⟩) (by have := hspl.sum_le PR.out HX.out; have := HLN.out; omega) (fun k hk => Nat.lt_of_lt_of_le (HOX.out k hk) (below_to BW2.out hm.be).size)
          have nx := HS2.out.next PR.out HS.out
          rw [← hsh] at nx
          have NX := Lib.hid nx
          have LT := Lib.hid (fun hb => HS2.out.lt PR.out HX.out HS.out HO1.out hb)
          have DN := Lib.hid (fun hb => HS2.out.done PR.out hb)
          have hw : IntKind.i64.wrap (sh + 1) = sh + 1 := by rw [IntKind.wrap_i64]; omega
          cases hb : F2.any (mixF p (B.getD i [])) with
          | false =>
            rw [hb] at GP
            have GPP := Lib.hid GP
            have DNB := Lib.hid (DN.out hb)
            have HSPL := Lib.hid hspl
            clear GP hm hspl hb LT NX nx DN HS2 hsh hw
            go_wp2_with (go_at_call 56; (with_reducible refine GPP.out.mono ?_); rintro e w6 ⟨rfl, v6, cx6, fa6, hg6, fz6, fr6⟩; rw [DNB.out.2] at fa6; have HM6 := Lib.hid (HM2.out.part (Nat.le_of_lt hsz) cx6 fa6 hg6 fz6 fr6); clear cx6 fa6 hg6 fz6 fr6)
            exact ⟨⟨i + 1, F2, v6, by omega, by go_num, HM6, HSPL, Lib.hid DNB.out.1⟩, by simp [intOf]; omega⟩
          | true =>
            rw [hb] at GP
            have hlt2 := LT.out hb
            have HW := Lib.hid hw
            obtain ⟨F6, hF6⟩ : ∃ F6, partAll p (B.getD i []) sh F2 = F6 := ⟨_, rfl⟩
            rw [hF6] at GP nx
            obtain ⟨k6, hk6⟩ : ∃ k, F6.length = k := ⟨_, rfl⟩
            have NX2 := Lib.hid nx
            have GPP := Lib.hid GP
            have HK6 := Lib.hid hk6
            clear GP hm hspl hb LT DN HS2 nx hsh hF6 hk6 NX
            by_cases hk : k6 = ko
            · have hke : ((k6 : Int) == (ko : Int)) = true := by simp; omega
              go_wp2_with (go_at_call 56; (with_reducible refine GPP.out.mono ?_); rintro e w6 ⟨rfl, v6, cx6, fa6, hg6, fz6, fr6⟩; obtain ⟨A6, c6, e6, _⟩ := fa6.open_; rw [HK6.out] at e6; subst e6; have hb6 : bx < w6.heap.size := Nat.lt_of_lt_of_le HM2.out.lt hg6.size; have HM6 := Lib.hid (HM2.out.part (Nat.le_of_lt hsz) cx6 fa6 hg6 fz6 fr6); clear fa6 hg6 fz6 fr6)
              rw [Exit.noGoto_ret]
              go_ret
              have hm6 := HM6.out
              rw [hk] at hm6
              exact ⟨_, F6, bx, rfl, hm6.fa, hm6.fr, FULL.out F6 NX2.out.spl (by rw [HK6.out, hk]; exact HKO.out), below_to BW2.out hm6.be⟩
            · have hke : ((k6 : Int) == (ko : Int)) = false := by simp; omega
              go_wp2_with (go_at_call 56; (with_reducible refine GPP.out.mono ?_); rintro e w6 ⟨rfl, v6, cx6, fa6, hg6, fz6, fr6⟩; obtain ⟨A6, c6, e6, _⟩ := fa6.open_; rw [HK6.out] at e6; subst e6; have hb6 : bx < w6.heap.size := Nat.lt_of_lt_of_le HM2.out.lt hg6.size; have HM6 := Lib.hid (HM2.out.part (Nat.le_of_lt hsz) cx6 fa6 hg6 fz6 fr6); clear fa6 hg6 fz6 fr6)
              exact ⟨⟨t + 1, F6, _, sh + 1, by omega, by simp, Lib.hid (by have := HSH.out; omega), HM6, NX2⟩, by have := HSH.out; simp [intOf]; omega⟩
      · obtain rfl : ko = i := by omega
        obtain ⟨A6, c6, rfl, _⟩ := hm.fa.open_
        have cx6 := hm.cx
        have hb6 := hm.lt
        clear hm
        go_wp2_with fail
        rw [Exit.noGoto_ret]
        go_ret
        have hm6 := HSM.out
        exact ⟨_, F, bx, rfl, hm6.fa, hm6.fr, FACS.out F HSP.out (by rw [← HKO.out]; exact HCN.out), below_to BW2.out hm6.be⟩
end Go.Proofs.YtnkhhndjbanmnaaGreatDoor

/- slices.SortFunc at polynomials and at factors, in Order: what the rows hold behind it. -/
namespace Go.Proofs.YtnkhhndjbanmnaaGreatDoor
open Go.RowKit Go.Shelf Go.Lib

structure Rw where
  A : Option Addr
  n : Nat
  c : Nat
  xs : List Int
def Rw.v (z : Rw) : Value := .slice z.A z.n z.c
def RwOk (w : World) (b : Nat) (z : Rw) : Prop := ISl w z.A z.n z.c z.xs ∧ ApO z.A z.xs (some b) ∧ z.n ≤ 1000
abbrev Rwt (w : World) (b : Nat) : Type := { z : Rw // RwOk w b z }
instance (w : World) (b : Nat) : Inhabited (Rwt w b) := ⟨⟨⟨none, 0, 0, []⟩, ⟨rfl, Nat.le_refl _, by decide, fun _ => rfl, IRd.nil _ _⟩, .inl rfl, by decide⟩⟩
def rwEnc {w : World} {b : Nat} (x : Rwt w b) : Value := x.1.v
def rwCf {w : World} {b : Nat} (x y : Rwt w b) : Int := ordI x.1.xs y.1.xs
instance (a b : List Int) : Decidable (Ahd a b) := inferInstanceAs (Decidable (ordI a b = -1))
theorem ltOf_ord {α : Type} (k : α → List Int) (x y : α) : ltOf (fun x y => ordI (k x) (k y)) x y = decide (Ahd (k x) (k y)) := by
  unfold ltOf
  by_cases h : Ahd (k x) (k y)
  · rw [decide_eq_true h, decide_eq_true (ahd_lt.1 h)]
  · rw [decide_eq_false h, decide_eq_false fun e => h (ahd_lt.2 e)]
theorem ord_swo {α : Type} (k : α → List Int) : Sort.SWO (ltOf fun x y => ordI (k x) (k y)) where
  irrefl x := by rw [ltOf_ord]; exact decide_eq_false (ahd_irr _)
  trans x y z h1 h2 := by
    rw [ltOf_ord] at *
    exact decide_eq_true (ordI_trans (of_decide_eq_true h1) (of_decide_eq_true h2))
  ntrans x y z h1 h2 := by
    rw [ltOf_ord] at *
    have h1 := of_decide_eq_false h1
    have h2 := of_decide_eq_false h2
    refine decide_eq_false fun h3 => ?_
    rcases ahd_tri (k x) (k y) with h | h | h
    · exact h1 h
    · rw [h] at h3; exact h2 h3
    · rcases ahd_tri (k y) (k z) with g | g | g
      · exact h2 g
      · rw [← g] at h3; exact ahd_not h h3
      · exact ahd_not (ordI_trans g h) h3
/-! At factors. -/
def PtOk (w : World) (b : Nat) (z : Pt) : Prop := ISl w z.A z.n z.c z.xs ∧ ApO z.A z.xs (some b) ∧ z.n ≤ 1000
abbrev Ptt (w : World) (b : Nat) : Type := { z : Pt // PtOk w b z }
instance (w : World) (b : Nat) : Inhabited (Ptt w b) := ⟨⟨⟨none, 0, 0, [], 0⟩, ⟨rfl, Nat.le_refl _, by decide, fun _ => rfl, IRd.nil _ _⟩, .inl rfl, by decide⟩⟩
def ptEnc {w : World} {b : Nat} (x : Ptt w b) : List Value := x.1.enc
def ptCf {w : World} {b : Nat} (x y : Ptt w b) : Int := ordI x.1.xs y.1.xs
set_option maxRecDepth 100000 in
set_option maxHeartbeats 1000000 in
theorem gFacCmp (x y : Pt) (W : World) (hx : ISl W x.A x.n x.c x.xs) (hy : ISl W y.A y.n y.c y.xs) (hn : x.n ≤ 1000) :
    Calls Tryz.prog 35 #[.agg #[x.sl, x.nv], .agg #[y.sl, y.nv]] W fun e w' => e = .returned (.int .i64 (ordI x.xs y.xs)) ∧ Below W.heap.size W w' ∧ W.drawn ≤ w'.drawn := by
  have C := Lib.hid (fun (W2 : World) (hb : Below W.heap.size W W2) => gOrder x.A y.A x.n x.c y.n y.c x.xs y.xs W2 (hx.below hb) (hy.below hb) (by omega))
  unfold Pt.sl Pt.nv
  generalize ordI x.xs y.xs = r at *
  clear hx hy
  go_enter Tryz.func35, Tryz.ntmps35
  go_wp2_with (go_at_call 36; refine Calls.mono (C.out _ ((below_al W _).alloc (by simp) _)) ?_; rintro e w1 ⟨rfl, hb, hd⟩; have HB := Lib.hid hb; have HD := Lib.hid hd; clear hb hd)
  go_ret
  exact ⟨rfl, below_to ((below_al W _).alloc (by simp) _) HB.out, HD.out⟩
theorem facs_hold {w : World} {b : Nat} {Z : List Pt} {Z' : List (Ptt w b)} (e : Z'.map (·.1) = Z) (hf : ∀ i, w.frozen? ⟨b, i, none⟩ = false) (hc : ∀ i, i < Z.length * 2 → w.cell? ⟨b, i, none⟩ = (pvals Z)[i]?) : Sort.HoldsK (ptEnc (w := w) (b := b)) 2 w b 0 Z'.toArray := by
  have hl : Z'.length = Z.length := by rw [← e, List.length_map]
  intro j hj
  have hj2 : j < Z.length * 2 := by rw [← hl]; simpa using hj
  refine ⟨?_, by rw [Nat.zero_add]; exact hf j⟩
  rw [Nat.zero_add, hc j hj2, pvals_get Z j hj2, Sort.get_flatK _ _ _ _ (by simpa using hj)]
  have e2 : Z.toArray[j / 2]! = (Z'.toArray[j / 2]!).1 := by
    rw [getElem!_pos Z.toArray (j / 2) (by simp; omega), getElem!_pos Z'.toArray (j / 2) (by simp; omega)]
    simp only [List.getElem_toArray]
    subst e
    rw [List.getElem_map]
  rw [e2]; rfl
def SFRow (w : World) (b : Nat) (Z : List Pt) (w' : World) : Prop :=
  ∃ Z2 : List Pt, Z2.Perm Z ∧ (Z2.Pairwise fun x y => ¬ Ahd y.xs x.xs) ∧ w.grownBy w' (some b) ∧ ∀ i (h : i < Z2.length), w'.cell? ⟨b, 0 + i * 2, none⟩ = some Z2[i].sl ∧ w'.cell? ⟨b, 0 + i * 2 + 1, none⟩ = some Z2[i].nv
set_option maxRecDepth 100000 in
set_option maxHeartbeats 1000000 in
theorem gSortFacs (b c : Nat) (Z : List Pt) (w : World) (hb : b < w.heap.size) (hf : ∀ i, w.frozen? ⟨b, i, none⟩ = false) (hc : ∀ i, i < Z.length * 2 → w.cell? ⟨b, i, none⟩ = (pvals Z)[i]?) (hZ : ∀ z ∈ Z, PtOk w b z) (hn : Z.length ≤ 1000000) :
    Calls Tryz.prog 34 #[.slice (some ⟨b, 0, none⟩) Z.length c, .func (.func 35) #[] #[]] w fun e w' => e = .returned (.tuple #[]) ∧ SFRow w b Z w' := by
  obtain ⟨Z', hZ'⟩ : ∃ Z' : List (Ptt w b), Z'.map (·.1) = Z := ⟨Z.attach.map fun z => ⟨z.1, hZ z.1 z.2⟩, by rw [List.map_map]; exact List.attach_map_subtype_val Z⟩
  have hl : Z'.length = Z.length := by rw [← hZ', List.length_map]
  have eg : ∀ args w, (callFunc 35 args).run Tryz.prog w = .ok (.enter 35 args) w := enters_of Tryz.func35 (by kernel_rfl) rfl
  have hH := facs_hold hZ' hf hc
  have hcmp : CmpLays Tryz.prog 35 #[] ptEnc 2 (ptCf (w := w) (b := b)) b 0 Z'.toArray.size w := fun m os dk _ x y => by
    have hg : w.grownBy (sortWorldK (ptEnc (w := w) (b := b)) 2 w b 0 m dk os) (some b) := by
      refine ⟨rfl, rfl, rfl, size_sortWorldK_c ptEnc 2 w b 0 m dk os, fun k hk hne => ?_⟩
      have hkb : b ≠ k := fun e => hne (by rw [e])
      show (Array.modify w.heap b _ ++ os)[k]? = w.heap[k]?
      rw [Array.getElem?_append_left (by simpa using hk), Array.getElem?_modify, if_neg hkb]
    obtain ⟨x1, x2, x3⟩ := x.2
    obtain ⟨y1, y2, y3⟩ := y.2
    refine (gFacCmp x.1 y.1 _ (x1.grownO hg x2) (y1.grownO hg y2) x3).mono ?_
    rintro e w' ⟨rfl, hb, hd⟩
    exact ⟨rfl, grow_of hb hd⟩
  have h := AnyQ.slices_SortFunc Tryz.sortFac 2 Tryz.isAgg49 Tryz.sizeOf49 (ptEnc (w := w) (b := b)) (fun _ => rfl) (fun x v hv => by simp [ptEnc, Pt.enc] at hv; rcases hv with rfl | rfl <;> rfl) ptCf (ord_swo fun x : Ptt w b => x.1.xs) 35 #[] b 0 c Z'.toArray w eg hcmp hH hb (by simp; omega)
  rw [show Z'.toArray.size = Z.length by simpa using hl] at h
  refine Calls.mono h ?_
  rintro e w' ⟨rfl, d', n, os, hp, hs, rfl⟩
  have hsz : d'.size = Z'.length := by simpa using hp.1.trans (by simp [hl])
  have hperm : d'.toList.Perm Z' := by
    have := hp.2.2
    rw [Array.extract_eq_self_of_le (by omega), Array.extract_eq_self_of_le (by simp; omega)] at this
    simpa using this
  have hH' := holdsK_sortWorldK_c ptEnc 2 w b 0 Z'.toArray d' n os hH hb (by simpa using hsz)
  refine ⟨rfl, d'.toList.map (·.1), ?_, ?_, ?_, fun i hi => ?_⟩
  · rw [← hZ']; exact hperm.map _
  · rw [List.pairwise_map, List.pairwise_iff_getElem]
    intro i j hi hj hij
    have hi2 : i < d'.size := by simpa using hi
    have hj2 : j < d'.size := by simpa using hj
    have := hs i j (Nat.zero_le _) hij (by omega)
    rw [show (ptCf (w := w) (b := b)) = fun x y => ordI x.1.xs y.1.xs from rfl, ltOf_ord (fun x : Ptt w b => x.1.xs), getElem!_pos d' j hj2, getElem!_pos d' i hi2] at this
    simpa using of_decide_eq_false this
  · refine ⟨rfl, rfl, rfl, size_sortWorldK_c ptEnc 2 w b 0 n d' os, fun k hk hne => ?_⟩
    have hkb : b ≠ k := fun e => hne (by rw [e])
    show (Array.modify w.heap b _ ++ os)[k]? = w.heap[k]?
    rw [Array.getElem?_append_left (by simpa using hk), Array.getElem?_modify, if_neg hkb]
  · have hi2 : i < d'.size := by simpa using hi
    have c0 := (hH'.cell hi2 (show 0 < 2 by decide)).1
    have c1 := (hH'.cell hi2 (show 1 < 2 by decide)).1
    rw [getElem!_pos d' i hi2] at c0 c1
    simp only [List.getElem_map, Array.getElem_toList]
    exact ⟨c0, c1⟩
end Go.Proofs.YtnkhhndjbanmnaaGreatDoor

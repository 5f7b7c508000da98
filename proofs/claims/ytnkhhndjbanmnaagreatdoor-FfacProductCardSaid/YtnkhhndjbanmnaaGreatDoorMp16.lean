/- Texts joined, in their order: PrgLast, PrgBez. -/
import Derived.Deep.QuietTactic
import Derived.BigQuiet
import Derived.Test.YtnkhhndjbanmnaaGreatDoorMp15

/- fpoly's Euclid: the last row, its walk. -/
namespace Go.Proofs.YtnkhhndjbanmnaaGreatDoor
open Go.RowKit Go.Shelf

set_option maxRecDepth 100000 in
set_option maxRecDepth 100000 in
set_option maxHeartbeats 16000000 in
theorem pLast_any (X Y : Nat → SV) (F G : Nat → List Int) (p : Int) (w : World) (hT : TabAt w) (hX : RowP w X F p 1000) (hY : RowP w Y G p 1000) (hp : Pr p) (hF : (F 0).length ≤ 1000) (hG : (G 0).length ≤ 1000) :
    Calls Tryz.prog 157 #[.agg #[sv (X 0), sv (X 1), sv (X 2)], .agg #[sv (Y 0), sv (Y 1), sv (Y 2)], .int .i64 p] w fun e w' => ∃ Z H, e = .returned (.agg #[sv (Z 0), sv (Z 1), sv (Z 2)]) ∧ LrO p F G w Z H w' := by
  have PR := Lib.hid hp
  have HT := Lib.hid hT
  have hb3 : Below w.heap.size w (((w.alloc (.cells #[sv (X 0), sv (X 1), sv (X 2)] 145)).alloc (.cells #[sv (Y 0), sv (Y 1), sv (Y 2)] 145)).alloc (.cells #[sv nilS, sv nilS, sv nilS] 145)) := (((Below.refl _ _).alloc (Nat.le_refl _) _).alloc (by simp) _).alloc (by simp; omega) _
  have a3 : ABlk (((w.alloc (.cells #[sv (X 0), sv (X 1), sv (X 2)] 145)).alloc (.cells #[sv (Y 0), sv (Y 1), sv (Y 2)] 145)).alloc (.cells #[sv nilS, sv nilS, sv nilS] 145)) w.heap.size X := ((ABlk.new w X).below (below_al _ _)).below (below_al _ _)
  have a4 : ABlk (((w.alloc (.cells #[sv (X 0), sv (X 1), sv (X 2)] 145)).alloc (.cells #[sv (Y 0), sv (Y 1), sv (Y 2)] 145)).alloc (.cells #[sv nilS, sv nilS, sv nilS] 145)) (w.heap.size + 1) Y := by
    have h := (ABlk.new (w.alloc (.cells #[sv (X 0), sv (X 1), sv (X 2)] 145)) Y).below (below_al _ (.cells #[sv nilS, sv nilS, sv nilS] 145))
    rwa [World.size_alloc] at h
  have a6 : ABlk (((w.alloc (.cells #[sv (X 0), sv (X 1), sv (X 2)] 145)).alloc (.cells #[sv (Y 0), sv (Y 1), sv (Y 2)] 145)).alloc (.cells #[sv nilS, sv nilS, sv nilS] 145)) (w.heap.size + 1 + 1) (fun _ => nilS) := by
    have h := ABlk.new ((w.alloc (.cells #[sv (X 0), sv (X 1), sv (X 2)] 145)).alloc (.cells #[sv (Y 0), sv (Y 1), sv (Y 2)] 145)) (fun _ => nilS)
    rwa [World.size_alloc, World.size_alloc] at h
  have IN0 := Lib.hid (show LrIn w.heap.size p F G w (((w.alloc (.cells #[sv (X 0), sv (X 1), sv (X 2)] 145)).alloc (.cells #[sv (Y 0), sv (Y 1), sv (Y 2)] 145)).alloc (.cells #[sv nilS, sv nilS, sv nilS] 145)) 1000 X Y F G from ⟨a3, a4, a6, hX.below hb3, hY.below hb3, hF, hG, by omega, fun _ h => h, hb3⟩)
  clear hT hX hY hp hF hG hb3 a3 a4 a6
  go_enter Tryz.func157, Tryz.ntmps157
  go_wp2_with fail
  have IN1 : Hid (LrIn w.heap.size p F G w (((w.alloc (.cells #[sv (X 0), sv (X 1), sv (X 2)] 145)).alloc (.cells #[sv (Y 0), sv (Y 1), sv (Y 2)] 145)).alloc (.cells #[.slice none 0 0, .slice none 0 0, .slice none 0 0] 145)) 1000 X Y F G) := IN0
  clear IN0
  generalize (((w.alloc (.cells #[sv (X 0), sv (X 1), sv (X 2)] 145)).alloc (.cells #[sv (Y 0), sv (Y 1), sv (Y 2)] 145)).alloc (.cells #[.slice none 0 0, .slice none 0 0, .slice none 0 0] 145)) = w3 at *
  go_loopw [] (fun wr => ∃ (N : Nat) (X' Y' : Nat → SV) (F' G' : Nat → List Int), Hid (LrIn w.heap.size p F G w wr N X' Y' F' G')) (fun wr => headL (w.heap.size + 1) wr)
  case atStart => exact ⟨_, _, _, _, _, IN1⟩
  case round =>
    clear IN1
    obtain ⟨N, X', Y', F', G', hin⟩ := hrel
    obtain ⟨g3, g4, g6, gx, gy, l1, l2, l3, run, gb⟩ := hin.out
    obtain ⟨D0, m0, d0, hY0⟩ : ∃ C n c, Y' 0 = (C, n, c) := ⟨(Y' 0).1, (Y' 0).2.1, (Y' 0).2.2, rfl⟩
    have gy0 := gy.one 0 (by omega) hY0
    have hm0 := gy0.1.len
    have k40' := g4.cell 0 (by omega)
    have hH := headL_at g4
    rw [hY0] at k40' hH
    by_cases h0 : m0 = 0
    · subst h0
      have k30 := g3.cell 0 (by omega)
      have k31 := g3.cell 1 (by omega)
      have k32 := g3.cell 2 (by omega)
      have k60 := g6.cell 0 (by omega)
      have k61 := g6.cell 1 (by omega)
      have k62 := g6.cell 2 (by omega)
      have l60 := g6.frozen 0
      have l61 := g6.frozen 1
      have l62 := g6.frozen 2
      have RUN := Lib.hid (run _ (.stop (x := rowS F') (y := rowS G') (by
        have := bd_len p (G' 0)
        rw [← hm0] at this
        exact this)))
      have GX := Lib.hid gx
      have G6 := Lib.hid g6
      have GB := Lib.hid gb
      have HNN := Lib.hid (show N ≤ 2000000 by omega)
      clear g3 g4 g6 gx gy run gb hin gy0 hm0 hY0 hH l3
      simp only [sv] at k30 k31 k32 k60 k61 k62 k40'
      go_wp2_with fail
      have r0 := ((G6.out.set_ 0 (by omega) (X' 0)).set_ 1 (by omega) (X' 1)).set_ 2 (by omega) (X' 2)
      have q0 := r0.cell 0 (by omega)
      have q1 := r0.cell 1 (by omega)
      have q2 := r0.cell 2 (by omega)
      simp only [putR, if_true, sv] at q0 q1 q2
      exact bodyPost_ret (v := .agg #[sv (X' 0), sv (X' 1), sv (X' 2)]) (by simp [results, Tryz.results157, go_sem, q0, q1, q2, sv]) rfl ⟨X', F', rfl, (((GX.out.mono HNN.out).far G6.out 0 _).far (G6.out.set_ 0 (by omega) (X' 0)) 1 _).far ((G6.out.set_ 0 (by omega) (X' 0)).set_ 1 (by omega) (X' 1)) 2 _, RUN.out,
        ((GB.out.setCell (p := ⟨w.heap.size + 1 + 1, 0, none⟩) (show w.heap.size ≤ w.heap.size + 1 + 1 by omega) _).setCell (p := ⟨w.heap.size + 1 + 1, 1, none⟩) (show w.heap.size ≤ w.heap.size + 1 + 1 by omega) _).setCell (p := ⟨w.heap.size + 1 + 1, 2, none⟩) (show w.heap.size ≤ w.heap.size + 1 + 1 by omega) _⟩
    · obtain ⟨m, rfl⟩ : ∃ m, m0 = m + 1 := ⟨m0 - 1, by omega⟩
      have k30 := g3.cell 0 (by omega)
      have k31 := g3.cell 1 (by omega)
      have k32 := g3.cell 2 (by omega)
      have k41 := g4.cell 1 (by omega)
      have k42 := g4.cell 2 (by omega)
      have AF := Lib.hid (show ∀ W', Below wr.heap.size wr W' → Calls Tryz.prog 188 #[.agg #[sv (X' 0), sv (X' 1), sv (X' 2)], .agg #[.slice D0 (m + 1) d0, sv (Y' 1), sv (Y' 2)], .int .i64 p] W' (fun e w' => ∃ Z H, e = .returned (.agg #[sv (Z 0), sv (Z 1), sv (Z 2)]) ∧ AfO p m (N + (F' 0).length + 1) F' G' W' Z H w') from fun W' hb => by
        have h := pAfter_any X' Y' F' G' m N p W' ((HT.out.below gb).below hb) (gx.below hb) (gy.below hb) PR.out (by omega) (by omega) (by omega) (by omega)
        rw [hY0] at h
        exact h)
      have HM := Lib.hid (show (G' 0).length = m + 1 from hm0.symm)
      have HH := Lib.hid hH
      have HY := Lib.hid hY0
      have G3 := Lib.hid g3
      have G4 := Lib.hid g4
      clear g3 g4 g6 gx gy run gb gy0 hm0 hH h0 hY0 l1 l2 l3
      have hpos : (0 : Int) < (m : Int) + 1 := by omega
      simp only [sv] at k40'
      go_wp2_with fail
      refine region_held (fun _ => True) (by kernel_rfl) ?_
      have hS : True := trivial
      refine wpAnyH_take (i := 3) (v := .int .i64 p) rfl (by kernel_rfl) (by kernel_rfl) (by kernel_rfl) (fun c a w h => onlyN_q c w h) (.inl ⟨by rfl, fun W' _ => ?_⟩) hS ?_
      · go_simp
      simp only [Act.put, List.setIfInBounds_toArray]
      refine wpAnyH_ready (rs := [0, 1, 2]) (by kernel_rfl) (by simp) (AllReadyH.cons rfl (fun K hK => ?_) (AllReadyH.cons rfl (fun K hK => ?_) (AllReadyH.cons rfl (fun K hK => ?_) AllReadyH.nil)))
      · go_simp
        refine hK.out _ _ hS (fun hS => ?_)
        clear hK K
        refine wpAnyH_ready (rs := [1, 2]) (by kernel_rfl) (by simp) (AllReadyH.cons rfl (fun K hK => ?_) (AllReadyH.cons rfl (fun K hK => ?_) AllReadyH.nil))
        · go_simp
          refine hK.out _ _ hS (fun hS => ?_)
          clear hK K
          refine wpAnyH_ready (rs := [2]) (by kernel_rfl) (by simp) (AllReadyH.cons rfl (fun K hK => ?_) AllReadyH.nil)
          go_simp
          refine hK.out _ _ hS (fun hS => ?_)
          clear hK K
          refine wpAnyH_ready (rs := [4]) (by kernel_rfl) (by simp) (AllReadyH.cons rfl (fun K hK => ?_) AllReadyH.nil)
          go_simp
          refine (AF.out _ (Below.refl _ _).drew).mono ?_
          rintro e6 w6 ⟨Z, H, rfl, ha'⟩
          have hb6 : Below wr.heap.size wr w6 := ((Below.refl _ _).drew).trans ha'.2.2.2
          have HA := Lib.hid (show AfO p m (N + (F' 0).length + 1) F' G' wr Z H w6 from ⟨ha'.1, ha'.2.1, ha'.2.2.1, hb6⟩)
          refine hK.out _ _ trivial (fun hS => ?_)
          clear hK K ha'
          have A3 := Lib.hid (G3.out.below hb6)
          have A4 := Lib.hid (G4.out.below hb6)
          have c30 := A3.out.cell 0 (by omega)
          have c31 := A3.out.cell 1 (by omega)
          have c32 := A3.out.cell 2 (by omega)
          have c40 := A4.out.cell 0 (by omega)
          rw [HY.out] at c40
          simp only [sv] at c40
          have c41 := A4.out.cell 1 (by omega)
          have c42 := A4.out.cell 2 (by omega)
          have f30 := A3.out.frozen 0
          have f31 := A3.out.frozen 1
          have f32 := A3.out.frozen 2
          have f40 := A4.out.frozen 0
          have f41 := A4.out.frozen 1
          have f42 := A4.out.frozen 2
          clear hb6
          refine wpAnyH_ready (rs := [5]) (by kernel_rfl) (by simp) (AllReadyH.cons rfl (fun K hK => ?_) AllReadyH.nil)
          simp only [sv] at *
          go_simp
          refine hK.out _ _ trivial (fun hS => ?_)
          clear hK K
          refine wpAnyH_ready (rs := [6]) (by kernel_rfl) (by simp) (AllReadyH.cons rfl (fun K hK => ?_) AllReadyH.nil)
          go_simp
          refine hK.out _ _ trivial (fun _ => wpAnyH_done (by kernel_rfl) ⟨rfl, ?_⟩ _)
          clear hK hS
          go_wp2_with fail
          have NX := lr_next PR.out hin.out HM.out HA.out rfl
          simp only [HY.out, sv] at NX
          refine ⟨⟨_, _, _, _, _, _, _, _, _, ⟨_, _, _, _, _, Lib.hid NX⟩, rfl⟩, ?_⟩
          rw [headL_at NX.2.1, HH.out]
          have hz := (HA.out.1 0 (by omega)).1.len
          have hl := HA.out.2.2.1
          omega
        · go_simp
          refine hK.out _ _ hS (fun hS => ?_)
          clear hK K
          refine wpAnyH_ready (rs := [1]) (by kernel_rfl) (by simp) (AllReadyH.cons rfl (fun K hK => ?_) AllReadyH.nil)
          go_simp
          refine hK.out _ _ hS (fun hS => ?_)
          clear hK K
          refine wpAnyH_ready (rs := [4]) (by kernel_rfl) (by simp) (AllReadyH.cons rfl (fun K hK => ?_) AllReadyH.nil)
          go_simp
          refine (AF.out _ (Below.refl _ _).drew).mono ?_
          rintro e6 w6 ⟨Z, H, rfl, ha'⟩
          have hb6 : Below wr.heap.size wr w6 := ((Below.refl _ _).drew).trans ha'.2.2.2
          have HA := Lib.hid (show AfO p m (N + (F' 0).length + 1) F' G' wr Z H w6 from ⟨ha'.1, ha'.2.1, ha'.2.2.1, hb6⟩)
          refine hK.out _ _ trivial (fun hS => ?_)
          clear hK K ha'
          have A3 := Lib.hid (G3.out.below hb6)
          have A4 := Lib.hid (G4.out.below hb6)
          have c30 := A3.out.cell 0 (by omega)
          have c31 := A3.out.cell 1 (by omega)
          have c32 := A3.out.cell 2 (by omega)
          have c40 := A4.out.cell 0 (by omega)
          rw [HY.out] at c40
          simp only [sv] at c40
          have c41 := A4.out.cell 1 (by omega)
          have c42 := A4.out.cell 2 (by omega)
          have f30 := A3.out.frozen 0
          have f31 := A3.out.frozen 1
          have f32 := A3.out.frozen 2
          have f40 := A4.out.frozen 0
          have f41 := A4.out.frozen 1
          have f42 := A4.out.frozen 2
          clear hb6
          refine wpAnyH_ready (rs := [5]) (by kernel_rfl) (by simp) (AllReadyH.cons rfl (fun K hK => ?_) AllReadyH.nil)
          simp only [sv] at *
          go_simp
          refine hK.out _ _ trivial (fun hS => ?_)
          clear hK K
          refine wpAnyH_ready (rs := [6]) (by kernel_rfl) (by simp) (AllReadyH.cons rfl (fun K hK => ?_) AllReadyH.nil)
          go_simp
          refine hK.out _ _ trivial (fun _ => wpAnyH_done (by kernel_rfl) ⟨rfl, ?_⟩ _)
          clear hK hS
          go_wp2_with fail
          have NX := lr_next PR.out hin.out HM.out HA.out rfl
          simp only [HY.out, sv] at NX
          refine ⟨⟨_, _, _, _, _, _, _, _, _, ⟨_, _, _, _, _, Lib.hid NX⟩, rfl⟩, ?_⟩
          rw [headL_at NX.2.1, HH.out]
          have hz := (HA.out.1 0 (by omega)).1.len
          have hl := HA.out.2.2.1
          omega
      · go_simp
        refine hK.out _ _ hS (fun hS => ?_)
        clear hK K
        refine wpAnyH_ready (rs := [0, 2]) (by kernel_rfl) (by simp) (AllReadyH.cons rfl (fun K hK => ?_) (AllReadyH.cons rfl (fun K hK => ?_) AllReadyH.nil))
        · go_simp
          refine hK.out _ _ hS (fun hS => ?_)
          clear hK K
          refine wpAnyH_ready (rs := [2]) (by kernel_rfl) (by simp) (AllReadyH.cons rfl (fun K hK => ?_) AllReadyH.nil)
          go_simp
          refine hK.out _ _ hS (fun hS => ?_)
          clear hK K
          refine wpAnyH_ready (rs := [4]) (by kernel_rfl) (by simp) (AllReadyH.cons rfl (fun K hK => ?_) AllReadyH.nil)
          go_simp
          refine (AF.out _ (Below.refl _ _).drew).mono ?_
          rintro e6 w6 ⟨Z, H, rfl, ha'⟩
          have hb6 : Below wr.heap.size wr w6 := ((Below.refl _ _).drew).trans ha'.2.2.2
          have HA := Lib.hid (show AfO p m (N + (F' 0).length + 1) F' G' wr Z H w6 from ⟨ha'.1, ha'.2.1, ha'.2.2.1, hb6⟩)
          refine hK.out _ _ trivial (fun hS => ?_)
          clear hK K ha'
          have A3 := Lib.hid (G3.out.below hb6)
          have A4 := Lib.hid (G4.out.below hb6)
          have c30 := A3.out.cell 0 (by omega)
          have c31 := A3.out.cell 1 (by omega)
          have c32 := A3.out.cell 2 (by omega)
          have c40 := A4.out.cell 0 (by omega)
          rw [HY.out] at c40
          simp only [sv] at c40
          have c41 := A4.out.cell 1 (by omega)
          have c42 := A4.out.cell 2 (by omega)
          have f30 := A3.out.frozen 0
          have f31 := A3.out.frozen 1
          have f32 := A3.out.frozen 2
          have f40 := A4.out.frozen 0
          have f41 := A4.out.frozen 1
          have f42 := A4.out.frozen 2
          clear hb6
          refine wpAnyH_ready (rs := [5]) (by kernel_rfl) (by simp) (AllReadyH.cons rfl (fun K hK => ?_) AllReadyH.nil)
          simp only [sv] at *
          go_simp
          refine hK.out _ _ trivial (fun hS => ?_)
          clear hK K
          refine wpAnyH_ready (rs := [6]) (by kernel_rfl) (by simp) (AllReadyH.cons rfl (fun K hK => ?_) AllReadyH.nil)
          go_simp
          refine hK.out _ _ trivial (fun _ => wpAnyH_done (by kernel_rfl) ⟨rfl, ?_⟩ _)
          clear hK hS
          go_wp2_with fail
          have NX := lr_next PR.out hin.out HM.out HA.out rfl
          simp only [HY.out, sv] at NX
          refine ⟨⟨_, _, _, _, _, _, _, _, _, ⟨_, _, _, _, _, Lib.hid NX⟩, rfl⟩, ?_⟩
          rw [headL_at NX.2.1, HH.out]
          have hz := (HA.out.1 0 (by omega)).1.len
          have hl := HA.out.2.2.1
          omega
        · go_simp
          refine hK.out _ _ hS (fun hS => ?_)
          clear hK K
          refine wpAnyH_ready (rs := [0, 4]) (by kernel_rfl) (by simp) (AllReadyH.cons rfl (fun K hK => ?_) (AllReadyH.cons rfl (fun K hK => ?_) AllReadyH.nil))
          · go_simp
            refine hK.out _ _ hS (fun hS => ?_)
            clear hK K
            refine wpAnyH_ready (rs := [4]) (by kernel_rfl) (by simp) (AllReadyH.cons rfl (fun K hK => ?_) AllReadyH.nil)
            go_simp
            refine (AF.out _ (Below.refl _ _).drew).mono ?_
            rintro e6 w6 ⟨Z, H, rfl, ha'⟩
            have hb6 : Below wr.heap.size wr w6 := ((Below.refl _ _).drew).trans ha'.2.2.2
            have HA := Lib.hid (show AfO p m (N + (F' 0).length + 1) F' G' wr Z H w6 from ⟨ha'.1, ha'.2.1, ha'.2.2.1, hb6⟩)
            refine hK.out _ _ trivial (fun hS => ?_)
            clear hK K ha'
            have A3 := Lib.hid (G3.out.below hb6)
            have A4 := Lib.hid (G4.out.below hb6)
            have c30 := A3.out.cell 0 (by omega)
            have c31 := A3.out.cell 1 (by omega)
            have c32 := A3.out.cell 2 (by omega)
            have c40 := A4.out.cell 0 (by omega)
            rw [HY.out] at c40
            simp only [sv] at c40
            have c41 := A4.out.cell 1 (by omega)
            have c42 := A4.out.cell 2 (by omega)
            have f30 := A3.out.frozen 0
            have f31 := A3.out.frozen 1
            have f32 := A3.out.frozen 2
            have f40 := A4.out.frozen 0
            have f41 := A4.out.frozen 1
            have f42 := A4.out.frozen 2
            clear hb6
            refine wpAnyH_ready (rs := [5]) (by kernel_rfl) (by simp) (AllReadyH.cons rfl (fun K hK => ?_) AllReadyH.nil)
            simp only [sv] at *
            go_simp
            refine hK.out _ _ trivial (fun hS => ?_)
            clear hK K
            refine wpAnyH_ready (rs := [6]) (by kernel_rfl) (by simp) (AllReadyH.cons rfl (fun K hK => ?_) AllReadyH.nil)
            go_simp
            refine hK.out _ _ trivial (fun _ => wpAnyH_done (by kernel_rfl) ⟨rfl, ?_⟩ _)
            clear hK hS
            go_wp2_with fail
            have NX := lr_next PR.out hin.out HM.out HA.out rfl
            simp only [HY.out, sv] at NX
            refine ⟨⟨_, _, _, _, _, _, _, _, _, ⟨_, _, _, _, _, Lib.hid NX⟩, rfl⟩, ?_⟩
            rw [headL_at NX.2.1, HH.out]
            have hz := (HA.out.1 0 (by omega)).1.len
            have hl := HA.out.2.2.1
            omega
          · go_simp
            refine (AF.out _ (Below.refl _ _).drew).mono ?_
            rintro e6 w6 ⟨Z, H, rfl, ha'⟩
            have hb6 : Below wr.heap.size wr w6 := ((Below.refl _ _).drew).trans ha'.2.2.2
            have HA := Lib.hid (show AfO p m (N + (F' 0).length + 1) F' G' wr Z H w6 from ⟨ha'.1, ha'.2.1, ha'.2.2.1, hb6⟩)
            refine hK.out _ _ trivial (fun hS => ?_)
            clear hK K ha'
            have A3 := Lib.hid (G3.out.below hb6)
            have A4 := Lib.hid (G4.out.below hb6)
            have c30 := A3.out.cell 0 (by omega)
            have c31 := A3.out.cell 1 (by omega)
            have c32 := A3.out.cell 2 (by omega)
            have c40 := A4.out.cell 0 (by omega)
            rw [HY.out] at c40
            simp only [sv] at c40
            have c41 := A4.out.cell 1 (by omega)
            have c42 := A4.out.cell 2 (by omega)
            have f30 := A3.out.frozen 0
            have f31 := A3.out.frozen 1
            have f32 := A3.out.frozen 2
            have f40 := A4.out.frozen 0
            have f41 := A4.out.frozen 1
            have f42 := A4.out.frozen 2
            clear hb6
            refine wpAnyH_ready (rs := [0]) (by kernel_rfl) (by simp) (AllReadyH.cons rfl (fun K hK => ?_) AllReadyH.nil)
            go_simp
            refine hK.out _ _ hS (fun hS => ?_)
            clear hK K
            refine wpAnyH_ready (rs := [5]) (by kernel_rfl) (by simp) (AllReadyH.cons rfl (fun K hK => ?_) AllReadyH.nil)
            simp only [sv] at *
            go_simp
            refine hK.out _ _ trivial (fun hS => ?_)
            clear hK K
            refine wpAnyH_ready (rs := [6]) (by kernel_rfl) (by simp) (AllReadyH.cons rfl (fun K hK => ?_) AllReadyH.nil)
            go_simp
            refine hK.out _ _ trivial (fun _ => wpAnyH_done (by kernel_rfl) ⟨rfl, ?_⟩ _)
            clear hK hS
            go_wp2_with fail
            have NX := lr_next PR.out hin.out HM.out HA.out rfl
            simp only [HY.out, sv] at NX
            refine ⟨⟨_, _, _, _, _, _, _, _, _, ⟨_, _, _, _, _, Lib.hid NX⟩, rfl⟩, ?_⟩
            rw [headL_at NX.2.1, HH.out]
            have hz := (HA.out.1 0 (by omega)).1.len
            have hl := HA.out.2.2.1
            omega
      · go_simp
        refine hK.out _ _ hS (fun hS => ?_)
        clear hK K
        refine wpAnyH_ready (rs := [0, 1]) (by kernel_rfl) (by simp) (AllReadyH.cons rfl (fun K hK => ?_) (AllReadyH.cons rfl (fun K hK => ?_) AllReadyH.nil))
        · go_simp
          refine hK.out _ _ hS (fun hS => ?_)
          clear hK K
          refine wpAnyH_ready (rs := [1]) (by kernel_rfl) (by simp) (AllReadyH.cons rfl (fun K hK => ?_) AllReadyH.nil)
          go_simp
          refine hK.out _ _ hS (fun hS => ?_)
          clear hK K
          refine wpAnyH_ready (rs := [4]) (by kernel_rfl) (by simp) (AllReadyH.cons rfl (fun K hK => ?_) AllReadyH.nil)
          go_simp
          refine (AF.out _ (Below.refl _ _).drew).mono ?_
          rintro e6 w6 ⟨Z, H, rfl, ha'⟩
          have hb6 : Below wr.heap.size wr w6 := ((Below.refl _ _).drew).trans ha'.2.2.2
          have HA := Lib.hid (show AfO p m (N + (F' 0).length + 1) F' G' wr Z H w6 from ⟨ha'.1, ha'.2.1, ha'.2.2.1, hb6⟩)
          refine hK.out _ _ trivial (fun hS => ?_)
          clear hK K ha'
          have A3 := Lib.hid (G3.out.below hb6)
          have A4 := Lib.hid (G4.out.below hb6)
          have c30 := A3.out.cell 0 (by omega)
          have c31 := A3.out.cell 1 (by omega)
          have c32 := A3.out.cell 2 (by omega)
          have c40 := A4.out.cell 0 (by omega)
          rw [HY.out] at c40
          simp only [sv] at c40
          have c41 := A4.out.cell 1 (by omega)
          have c42 := A4.out.cell 2 (by omega)
          have f30 := A3.out.frozen 0
          have f31 := A3.out.frozen 1
          have f32 := A3.out.frozen 2
          have f40 := A4.out.frozen 0
          have f41 := A4.out.frozen 1
          have f42 := A4.out.frozen 2
          clear hb6
          refine wpAnyH_ready (rs := [5]) (by kernel_rfl) (by simp) (AllReadyH.cons rfl (fun K hK => ?_) AllReadyH.nil)
          simp only [sv] at *
          go_simp
          refine hK.out _ _ trivial (fun hS => ?_)
          clear hK K
          refine wpAnyH_ready (rs := [6]) (by kernel_rfl) (by simp) (AllReadyH.cons rfl (fun K hK => ?_) AllReadyH.nil)
          go_simp
          refine hK.out _ _ trivial (fun _ => wpAnyH_done (by kernel_rfl) ⟨rfl, ?_⟩ _)
          clear hK hS
          go_wp2_with fail
          have NX := lr_next PR.out hin.out HM.out HA.out rfl
          simp only [HY.out, sv] at NX
          refine ⟨⟨_, _, _, _, _, _, _, _, _, ⟨_, _, _, _, _, Lib.hid NX⟩, rfl⟩, ?_⟩
          rw [headL_at NX.2.1, HH.out]
          have hz := (HA.out.1 0 (by omega)).1.len
          have hl := HA.out.2.2.1
          omega
        · go_simp
          refine hK.out _ _ hS (fun hS => ?_)
          clear hK K
          refine wpAnyH_ready (rs := [0, 4]) (by kernel_rfl) (by simp) (AllReadyH.cons rfl (fun K hK => ?_) (AllReadyH.cons rfl (fun K hK => ?_) AllReadyH.nil))
          · go_simp
            refine hK.out _ _ hS (fun hS => ?_)
            clear hK K
            refine wpAnyH_ready (rs := [4]) (by kernel_rfl) (by simp) (AllReadyH.cons rfl (fun K hK => ?_) AllReadyH.nil)
            go_simp
            refine (AF.out _ (Below.refl _ _).drew).mono ?_
            rintro e6 w6 ⟨Z, H, rfl, ha'⟩
            have hb6 : Below wr.heap.size wr w6 := ((Below.refl _ _).drew).trans ha'.2.2.2
            have HA := Lib.hid (show AfO p m (N + (F' 0).length + 1) F' G' wr Z H w6 from ⟨ha'.1, ha'.2.1, ha'.2.2.1, hb6⟩)
            refine hK.out _ _ trivial (fun hS => ?_)
            clear hK K ha'
            have A3 := Lib.hid (G3.out.below hb6)
            have A4 := Lib.hid (G4.out.below hb6)
            have c30 := A3.out.cell 0 (by omega)
            have c31 := A3.out.cell 1 (by omega)
            have c32 := A3.out.cell 2 (by omega)
            have c40 := A4.out.cell 0 (by omega)
            rw [HY.out] at c40
            simp only [sv] at c40
            have c41 := A4.out.cell 1 (by omega)
            have c42 := A4.out.cell 2 (by omega)
            have f30 := A3.out.frozen 0
            have f31 := A3.out.frozen 1
            have f32 := A3.out.frozen 2
            have f40 := A4.out.frozen 0
            have f41 := A4.out.frozen 1
            have f42 := A4.out.frozen 2
            clear hb6
            refine wpAnyH_ready (rs := [5]) (by kernel_rfl) (by simp) (AllReadyH.cons rfl (fun K hK => ?_) AllReadyH.nil)
            simp only [sv] at *
            go_simp
            refine hK.out _ _ trivial (fun hS => ?_)
            clear hK K
            refine wpAnyH_ready (rs := [6]) (by kernel_rfl) (by simp) (AllReadyH.cons rfl (fun K hK => ?_) AllReadyH.nil)
            go_simp
            refine hK.out _ _ trivial (fun _ => wpAnyH_done (by kernel_rfl) ⟨rfl, ?_⟩ _)
            clear hK hS
            go_wp2_with fail
            have NX := lr_next PR.out hin.out HM.out HA.out rfl
            simp only [HY.out, sv] at NX
            refine ⟨⟨_, _, _, _, _, _, _, _, _, ⟨_, _, _, _, _, Lib.hid NX⟩, rfl⟩, ?_⟩
            rw [headL_at NX.2.1, HH.out]
            have hz := (HA.out.1 0 (by omega)).1.len
            have hl := HA.out.2.2.1
            omega
          · go_simp
            refine (AF.out _ (Below.refl _ _).drew).mono ?_
            rintro e6 w6 ⟨Z, H, rfl, ha'⟩
            have hb6 : Below wr.heap.size wr w6 := ((Below.refl _ _).drew).trans ha'.2.2.2
            have HA := Lib.hid (show AfO p m (N + (F' 0).length + 1) F' G' wr Z H w6 from ⟨ha'.1, ha'.2.1, ha'.2.2.1, hb6⟩)
            refine hK.out _ _ trivial (fun hS => ?_)
            clear hK K ha'
            have A3 := Lib.hid (G3.out.below hb6)
            have A4 := Lib.hid (G4.out.below hb6)
            have c30 := A3.out.cell 0 (by omega)
            have c31 := A3.out.cell 1 (by omega)
            have c32 := A3.out.cell 2 (by omega)
            have c40 := A4.out.cell 0 (by omega)
            rw [HY.out] at c40
            simp only [sv] at c40
            have c41 := A4.out.cell 1 (by omega)
            have c42 := A4.out.cell 2 (by omega)
            have f30 := A3.out.frozen 0
            have f31 := A3.out.frozen 1
            have f32 := A3.out.frozen 2
            have f40 := A4.out.frozen 0
            have f41 := A4.out.frozen 1
            have f42 := A4.out.frozen 2
            clear hb6
            refine wpAnyH_ready (rs := [0]) (by kernel_rfl) (by simp) (AllReadyH.cons rfl (fun K hK => ?_) AllReadyH.nil)
            go_simp
            refine hK.out _ _ hS (fun hS => ?_)
            clear hK K
            refine wpAnyH_ready (rs := [5]) (by kernel_rfl) (by simp) (AllReadyH.cons rfl (fun K hK => ?_) AllReadyH.nil)
            simp only [sv] at *
            go_simp
            refine hK.out _ _ trivial (fun hS => ?_)
            clear hK K
            refine wpAnyH_ready (rs := [6]) (by kernel_rfl) (by simp) (AllReadyH.cons rfl (fun K hK => ?_) AllReadyH.nil)
            go_simp
            refine hK.out _ _ trivial (fun _ => wpAnyH_done (by kernel_rfl) ⟨rfl, ?_⟩ _)
            clear hK hS
            go_wp2_with fail
            have NX := lr_next PR.out hin.out HM.out HA.out rfl
            simp only [HY.out, sv] at NX
            refine ⟨⟨_, _, _, _, _, _, _, _, _, ⟨_, _, _, _, _, Lib.hid NX⟩, rfl⟩, ?_⟩
            rw [headL_at NX.2.1, HH.out]
            have hz := (HA.out.1 0 (by omega)).1.len
            have hl := HA.out.2.2.1
            omega
end Go.Proofs.YtnkhhndjbanmnaaGreatDoor

/- fpoly's Gcd and Bezout, by their contracts. -/
namespace Go.Proofs.YtnkhhndjbanmnaaGreatDoor
open Go.RowKit Go.Shelf

def rowG (f : List Int) : Nat → List Int := fun k => if k = 0 then f else []
def rowG_ (C : SV) : Nat → SV := fun k => if k = 0 then C else nilS
theorem rowP_G {w : World} {C : Option Addr} {n d : Nat} {fx : List Int} {p : Int} {N : Nat} (h : ISl w C n d fx) (hx : Pln p fx) (hn : n ≤ N) : RowP w (rowG_ (C, n, d)) (rowG fx) p N := by
  intro k hk
  match k, hk with
  | 0, _ => exact ⟨h, hx, hn⟩
  | 1, _ => exact ⟨isl_nil w, Pln.nil p, Nat.zero_le _⟩
  | 2, _ => exact ⟨isl_nil w, Pln.nil p, Nat.zero_le _⟩

theorem EuRun.heads {p : Int} {x y o : ERow} (h : EuRun p x y o) : ∀ {x' y' : ERow}, Ser.Eq p x.g x'.g → Ser.Eq p y.g y'.g → ∃ o', EuRun p x' y' o' ∧ Ser.Eq p o.g o'.g := by
  induction h with
  | @stop x y hb => exact fun hx hy => ⟨_, .stop (hb.eq hy), hx⟩
  | @step x y z o m q h1 h2 h3 h4 h5 _ ih =>
    intro x' y' hx hy
    have hz : Ser.Eq p z.g (x'.less q y').g := h5.1.trans (less_eq hx (Ser.Eq.refl _ _) hy)
    obtain ⟨o', r, e⟩ := ih hy hz
    exact ⟨o', .step m q (h1.eq hy) (by rw [← hy m]; exact h2) h3 (h4.eq hz) (ERow.Same.refl p _) r, e⟩
theorem EuRun.nought {p : Int} {x y o : ERow} (h : EuRun p x y o) (h0 : Ser.Bd p o.g 0) : o = x := by
  induction h with
  | stop _ => rfl
  | @step x y z o m q h1 h2 h3 h4 h5 _ ih =>
    have := ih h0
    subst this
    exact absurd (h0 m (Nat.zero_le _)) h2
theorem pln_end {p : Int} {xs : List Int} (hp : Pr p) (hx : Pln p xs) : (xs = [] ∧ ovl p xs = 1) ∨ ∃ m, Ser.Bd p (cf xs) (m + 1) ∧ cf xs m % p ≠ 0 ∧ ovl p xs = finv (cf xs m) p := by
  by_cases h0 : xs.length = 0
  · exact .inl ⟨List.eq_nil_of_length_eq_zero h0, by unfold ovl; rw [if_pos h0]⟩
  · obtain ⟨m, hm⟩ : ∃ m, xs.length = m + 1 := ⟨xs.length - 1, by omega⟩
    have h2 := hp.1
    have ht := hx.top (by intro e; rw [e] at hm; simp at hm) (by omega)
    rw [hm, Nat.add_sub_cancel] at ht
    refine .inr ⟨m, ?_, ht, ?_⟩
    · rw [← hm]; exact bd_len p xs
    · unfold ovl
      rw [if_neg h0, hm, Nat.add_sub_cancel]
theorem bez_gcd {p : Int} (hp : Pr p) {fx fy xs ys : List Int} {H : Nat → List Int} (px : Pol p fx (cf xs)) (py : Pol p fy (cf ys)) (h : EuRun p (rowS (rowG fx)) (rowS (rowG fy)) (rowS H)) (hx : Pln p (H 0)) :
    ∃ s t, IsBez p (cf xs) (cf ys) (Ser.sc (ovl p (H 0)) (cf (H 0))) s t := by
  obtain ⟨o, r, e⟩ := h.heads (x' := ⟨cf xs, Ser.con 1, Ser.zer⟩) (y' := ⟨cf ys, Ser.zer, Ser.con 1⟩) px.2 py.2
  have e0 : Ser.Eq p (cf (H 0)) o.g := e
  rcases pln_end hp hx with ⟨h0, h1⟩ | ⟨m, h1, h2, h3⟩
  · have hb : Ser.Bd p (cf (H 0)) 0 := by have := bd_len p (H 0); rwa [h0] at this ⊢
    refine ⟨Ser.con 1, Ser.zer, o, r, .inl ⟨hb.eq e0, ?_, Ser.Eq.refl _ _, fun i _ => by simp [Ser.zer]⟩⟩
    intro i _
    rw [h1, h0]
    show 1 * cf [] i % p = 0
    rw [cf_nil]; simp
  · refine ⟨Ser.sc (finv (o.g m) p) o.s, Ser.sc (finv (o.g m) p) o.t, o, r, .inr ⟨m, h1.eq e0, by rw [← e0 m]; exact h2, ?_, Ser.Eq.refl _ _, Ser.Eq.refl _ _⟩⟩
    rw [h3, ← finv_congr hp (e0 m)]
    exact Ser.Eq.sc rfl e0
set_option maxRecDepth 100000 in
set_option maxRecDepth 100000 in
set_option maxHeartbeats 4000000 in
theorem cGcd_new (A B : Option Addr) (n c n' c' : Nat) (xs ys : List Int) (p : Int) (w : World) (hT : TabAt w) (h : ISl w A n c xs) (h' : ISl w B n' c' ys) (ip : In64 p) (hn : n ≤ 1000) (hn' : n' ≤ 1000) :
    Calls Tryz.prog 118 #[.slice A n c, .slice B n' c', .int .i64 p] w fun e w' => ∃ C m d, e = .returned (.tuple #[.slice C m d, .int .i64 (chk p)]) ∧ Got w C m d (bezG p (cf xs) (cf ys)) 2000000 w' ∧ FreshA w C := by
  have C := pCheck_any p w ip.1 ip.2 hT
  rcases Classical.em (Pr p) with hp | hp
  · rw [chk_yes (primB_yes hp)] at C ⊢
    have CC := Lib.hid C
    have PR := Lib.hid hp
    have HT := Lib.hid hT
    have P1 := Lib.hid (fun W (hb : Below w.heap.size w W) => pPlain_any A n c xs p W (h.below hb) hp.md (by omega))
    have P2 := Lib.hid (fun W (hb : Below w.heap.size w W) => pPlain_any B n' c' ys p W (h'.below hb) hp.md (by omega))
    clear C h h' hT hp
    go_enter Tryz.func118, Tryz.ntmps118
    go_wp2_with (go_at_call 48; (with_reducible refine CC.out.mono ?_); rintro e w1 ⟨rfl, rfl⟩)
    refine (P1.out _ (Below.refl _ _)).mono ?_
    rintro e w2 ⟨v1, rfl, X, m1, d1, fx, rfl, hX, px, hm1, -, hb2⟩
    have L1 := Lib.hid hX.len
    have HX := Lib.hid hX
    have PX := Lib.hid px
    have HB2 := Lib.hid hb2
    clear hX px hb2 CC P1
    go_wp2_with fail
    refine (P2.out _ HB2.out).mono ?_
    rintro e w3 ⟨v2, rfl, Y, m2, d2, fy, rfl, hY, py, hm2, -, hb3⟩
    have L2 := Lib.hid hY.len
    have PY := Lib.hid py
    have HB3 := Lib.hid (HB2.out.trans (hb3.mono HB2.out.size))
    have LL := Lib.hid (show Calls Tryz.prog 157 #[.agg #[.slice X m1 d1, .slice none 0 0, .slice none 0 0], .agg #[.slice Y m2 d2, .slice none 0 0, .slice none 0 0], .int .i64 p] w3 (fun e w' => ∃ Z H, e = .returned (.agg #[sv (Z 0), sv (Z 1), sv (Z 2)]) ∧ LrO p (rowG fx) (rowG fy) w3 Z H w') from
      pLast_any (rowG_ (X, m1, d1)) (rowG_ (Y, m2, d2)) (rowG fx) (rowG fy) p w3 (HT.out.below HB3.out) (rowP_G (HX.out.below hb3) PX.out.1 (by omega)) (rowP_G hY py.1 (by omega)) PR.out (show fx.length ≤ 1000 by rw [← L1.out]; omega) (show fy.length ≤ 1000 by rw [← L2.out]; omega))
    clear hY py hb3 P2 HX HB2
    go_wp2_with fail
    refine LL.out.mono ?_
    rintro e w4 ⟨Z, H, rfl, hz, run, hb4⟩
    obtain ⟨Z0, k0, d0, hZ0⟩ : ∃ C n c, Z 0 = (C, n, c) := ⟨(Z 0).1, (Z 0).2.1, (Z 0).2.2, rfl⟩
    obtain ⟨z1, z2, z3⟩ := hz.one 0 (by omega) hZ0
    have HB4 := Lib.hid (HB3.out.trans (hb4.mono HB3.out.size))
    have MM := Lib.hid (fun W (hb : Below w4.heap.size w4 W) => pMonic_any Z0 k0 d0 (H 0) p W ((HT.out.below HB4.out).below hb) (z1.below hb) PR.out z2 (by omega))
    obtain ⟨s, t, hbz⟩ := bez_gcd PR.out PX.out PY.out run z2
    have BZ := Lib.hid hbz
    have K9 := Lib.hid z3
    clear hz run hb4 z1 z2 LL HB3 PX PY hbz
    simp only [hZ0, sv]
    go_wp2_with fail
    refine (MM.out _ (below_al _ _)).mono ?_
    rintro e w5 ⟨v, rfl, ho⟩
    have HO := Lib.hid ho
    clear ho MM
    go_wp2_with fail
    go_ret2
    have hb5 := HB4.out.trans ((below_al w4 (.cells #[.slice Z0 k0 d0, .slice (Z 1).1 (Z 1).2.1 (Z 1).2.2, .slice (Z 2).1 (Z 2).2.1 (Z 2).2.2] 145)).mono HB4.out.size)
    obtain ⟨C, k, d, rfl, hg⟩ := polIn_got (L := bezG p (cf xs) (cf ys)) HO.out.in_.1 (hb5.trans (HO.out.in_.2.mono hb5.size)) K9.out (fun zs hz => bezG_is PR.out BZ.out hz)
    exact ⟨C, k, d, rfl, hg, (HO.out.fresh _ _ _ rfl).after hb5.size⟩
  · rw [chk_no (primB_no hp)] at C ⊢
    have CC := Lib.hid C
    have NO := Lib.hid hp
    clear C h h' ip hT hp
    go_enter Tryz.func118, Tryz.ntmps118
    go_wp2_with (go_at_call 48; (with_reducible refine CC.out.mono ?_); rintro e w1 ⟨rfl, rfl⟩)
    go_ret2
    exact ⟨none, 0, 0, rfl, got_nil (Below.refl _ _) (bezG_no NO.out), freshA_none _⟩

def rowX_ (C D : SV) : Nat → SV := fun k => if k = 0 then C else if k = 1 then D else nilS
def rowY_ (C D : SV) : Nat → SV := fun k => if k = 0 then C else if k = 1 then nilS else D
def BzIn (B : Nat) (p ov : Int) (N : Nat) (H : Nat → List Int) (t : Nat) (X' : Nat → SV) (F' : Nat → List Int) (w wr : World) : Prop :=
  ABlk wr B X' ∧ RowP wr X' F' p N ∧ (∀ k, k < t → Ser.Eq p (cf (F' k)) (Ser.sc ov (cf (H k)))) ∧ (∀ k, t ≤ k → k < 3 → F' k = H k) ∧ Below w.heap.size w wr
theorem BzIn.below {B : Nat} {p ov : Int} {N : Nat} {H : Nat → List Int} {t : Nat} {X' : Nat → SV} {F' : Nat → List Int} {w wr w' : World} (h : BzIn B p ov N H t X' F' w wr) (hb : Below wr.heap.size wr w') : BzIn B p ov N H t X' F' w w' := by
  obtain ⟨a, b, c, e, g⟩ := h
  exact ⟨a.below hb, b.below hb, c, e, g.trans (hb.mono g.size)⟩

end Go.Proofs.YtnkhhndjbanmnaaGreatDoor

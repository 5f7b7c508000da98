/- Texts joined, in their order: PrgLast. -/
import Derived.Test.YtekpifafjbkmiaaDoorMh14

/- fpoly's Euclid: the last row, its walk. -/
namespace Go.Proofs.YtekpifafjbkmiaaDoor
open Go.RowKit Go.Shelf

set_option maxRecDepth 100000 in
set_option maxRecDepth 100000 in
set_option maxHeartbeats 16000000 in
theorem pLast_any (X Y : Nat → SV) (F G : Nat → List Int) (p : Int) (w : World) (hT : TabAt w) (hX : RowP w X F p 1000) (hY : RowP w Y G p 1000) (hp : Pr p) (hF : (F 0).length ≤ 1000) (hG : (G 0).length ≤ 1000) :
    Calls Tryd.prog 39 #[.agg #[sv (X 0), sv (X 1), sv (X 2)], .agg #[sv (Y 0), sv (Y 1), sv (Y 2)], .int .i64 p] w fun e w' => ∃ Z H, e = .returned (.agg #[sv (Z 0), sv (Z 1), sv (Z 2)]) ∧ LrO p F G w Z H w' := by
  have PR := Lib.hid hp
  have HT := Lib.hid hT
  have hb3 : Below w.heap.size w (((w.alloc (.cells #[sv (X 0), sv (X 1), sv (X 2)] 57)).alloc (.cells #[sv (Y 0), sv (Y 1), sv (Y 2)] 57)).alloc (.cells #[sv nilS, sv nilS, sv nilS] 57)) := (((Below.refl _ _).alloc (Nat.le_refl _) _).alloc (by simp) _).alloc (by simp; omega) _
  have a3 : ABlk (((w.alloc (.cells #[sv (X 0), sv (X 1), sv (X 2)] 57)).alloc (.cells #[sv (Y 0), sv (Y 1), sv (Y 2)] 57)).alloc (.cells #[sv nilS, sv nilS, sv nilS] 57)) w.heap.size X := ((ABlk.new w X).below (below_al _ _)).below (below_al _ _)
  have a4 : ABlk (((w.alloc (.cells #[sv (X 0), sv (X 1), sv (X 2)] 57)).alloc (.cells #[sv (Y 0), sv (Y 1), sv (Y 2)] 57)).alloc (.cells #[sv nilS, sv nilS, sv nilS] 57)) (w.heap.size + 1) Y := by
    have h := (ABlk.new (w.alloc (.cells #[sv (X 0), sv (X 1), sv (X 2)] 57)) Y).below (below_al _ (.cells #[sv nilS, sv nilS, sv nilS] 57))
    rwa [World.size_alloc] at h
  have a6 : ABlk (((w.alloc (.cells #[sv (X 0), sv (X 1), sv (X 2)] 57)).alloc (.cells #[sv (Y 0), sv (Y 1), sv (Y 2)] 57)).alloc (.cells #[sv nilS, sv nilS, sv nilS] 57)) (w.heap.size + 1 + 1) (fun _ => nilS) := by
    have h := ABlk.new ((w.alloc (.cells #[sv (X 0), sv (X 1), sv (X 2)] 57)).alloc (.cells #[sv (Y 0), sv (Y 1), sv (Y 2)] 57)) (fun _ => nilS)
    rwa [World.size_alloc, World.size_alloc] at h
  have IN0 := Lib.hid (show LrIn w.heap.size p F G w (((w.alloc (.cells #[sv (X 0), sv (X 1), sv (X 2)] 57)).alloc (.cells #[sv (Y 0), sv (Y 1), sv (Y 2)] 57)).alloc (.cells #[sv nilS, sv nilS, sv nilS] 57)) 1000 X Y F G from ⟨a3, a4, a6, hX.below hb3, hY.below hb3, hF, hG, by omega, fun _ h => h, hb3⟩)
  clear hT hX hY hp hF hG hb3 a3 a4 a6
  go_enter Tryd.func39, Tryd.ntmps39
  go_wp2_with fail
  have IN1 : Hid (LrIn w.heap.size p F G w (((w.alloc (.cells #[sv (X 0), sv (X 1), sv (X 2)] 57)).alloc (.cells #[sv (Y 0), sv (Y 1), sv (Y 2)] 57)).alloc (.cells #[.slice none 0 0, .slice none 0 0, .slice none 0 0] 57)) 1000 X Y F G) := IN0
  clear IN0
  generalize (((w.alloc (.cells #[sv (X 0), sv (X 1), sv (X 2)] 57)).alloc (.cells #[sv (Y 0), sv (Y 1), sv (Y 2)] 57)).alloc (.cells #[.slice none 0 0, .slice none 0 0, .slice none 0 0] 57)) = w3 at *
  go_loopw [] (fun wr => ∃ (N : Nat) (X' Y' : Nat → SV) (F' G' : Nat → List Int), Hid (LrIn w.heap.size p F G w wr N X' Y' F' G')) (fun wr => headL (w.heap.size + 1) wr)
  case atStart => exact ⟨_, _, _, _, _, IN1⟩
  case round =>
    clear IN1
    obtain ⟨N, X', Y', F', G', hin⟩ := hrel
    obtain ⟨g3, g4, g6, gx, gy, l1, l2, l3, run, gb⟩ := hin.out
    obtain ⟨D0, m0, d0, hY0⟩ : ∃ C n c, Y' 0 = (C, n, c) := ⟨(Y' 0).1, (Y' 0).2.1, (Y' 0).2.2, rfl⟩
    have gy0 := gy.one 0 (by omega) hY0
    have hm0 := gy0.1.len
    have k40' := g4.cell 0 (by omega)
    have hH := headL_at g4
    rw [hY0] at k40' hH
    by_cases h0 : m0 = 0
    · subst h0
      have k30 := g3.cell 0 (by omega)
      have k31 := g3.cell 1 (by omega)
      have k32 := g3.cell 2 (by omega)
      have k60 := g6.cell 0 (by omega)
      have k61 := g6.cell 1 (by omega)
      have k62 := g6.cell 2 (by omega)
      have l60 := g6.frozen 0
      have l61 := g6.frozen 1
      have l62 := g6.frozen 2
      have RUN := Lib.hid (run _ (.stop (x := rowS F') (y := rowS G') (by
        have := bd_len p (G' 0)
        rw [← hm0] at this
        exact this)))
      have GX := Lib.hid gx
      have G6 := Lib.hid g6
      have GB := Lib.hid gb
      have HNN := Lib.hid (show N ≤ 2000000 by omega)
      clear g3 g4 g6 gx gy run gb hin gy0 hm0 hY0 hH l3
      simp only [sv] at k30 k31 k32 k60 k61 k62 k40'
      go_wp2_with fail
      have r0 := ((G6.out.set_ 0 (by omega) (X' 0)).set_ 1 (by omega) (X' 1)).set_ 2 (by omega) (X' 2)
      have q0 := r0.cell 0 (by omega)
      have q1 := r0.cell 1 (by omega)
      have q2 := r0.cell 2 (by omega)
      simp only [putR, if_true, sv] at q0 q1 q2
      exact bodyPost_ret (v := .agg #[sv (X' 0), sv (X' 1), sv (X' 2)]) (by simp [results, Tryd.results39, go_sem, q0, q1, q2, sv]) rfl ⟨X', F', rfl, (((GX.out.mono HNN.out).far G6.out 0 _).far (G6.out.set_ 0 (by omega) (X' 0)) 1 _).far ((G6.out.set_ 0 (by omega) (X' 0)).set_ 1 (by omega) (X' 1)) 2 _, RUN.out,
        ((GB.out.setCell (p := ⟨w.heap.size + 1 + 1, 0, none⟩) (show w.heap.size ≤ w.heap.size + 1 + 1 by omega) _).setCell (p := ⟨w.heap.size + 1 + 1, 1, none⟩) (show w.heap.size ≤ w.heap.size + 1 + 1 by omega) _).setCell (p := ⟨w.heap.size + 1 + 1, 2, none⟩) (show w.heap.size ≤ w.heap.size + 1 + 1 by omega) _⟩
    · obtain ⟨m, rfl⟩ : ∃ m, m0 = m + 1 := ⟨m0 - 1, by omega⟩
      have k30 := g3.cell 0 (by omega)
      have k31 := g3.cell 1 (by omega)
      have k32 := g3.cell 2 (by omega)
      have k41 := g4.cell 1 (by omega)
      have k42 := g4.cell 2 (by omega)
      have AF := Lib.hid (show ∀ W', Below wr.heap.size wr W' → Calls Tryd.prog 62 #[.agg #[sv (X' 0), sv (X' 1), sv (X' 2)], .agg #[.slice D0 (m + 1) d0, sv (Y' 1), sv (Y' 2)], .int .i64 p] W' (fun e w' => ∃ Z H, e = .returned (.agg #[sv (Z 0), sv (Z 1), sv (Z 2)]) ∧ AfO p m (N + (F' 0).length + 1) F' G' W' Z H w') from fun W' hb => by
        have h := pAfter_any X' Y' F' G' m N p W' ((HT.out.below gb).below hb) (gx.below hb) (gy.below hb) PR.out (by omega) (by omega) (by omega) (by omega)
        rw [hY0] at h
        exact h)
      have HM := Lib.hid (show (G' 0).length = m + 1 from hm0.symm)
      have HH := Lib.hid hH
      have HY := Lib.hid hY0
      have G3 := Lib.hid g3
      have G4 := Lib.hid g4
      clear g3 g4 g6 gx gy run gb gy0 hm0 hH h0 hY0 l1 l2 l3
      have hpos : (0 : Int) < (m : Int) + 1 := by omega
      simp only [sv] at k40'
      go_wp2_with fail
      refine region_held (fun _ => True) (by kernel_rfl) ?_
      have hS : True := trivial
      refine wpAnyH_take (i := 3) (v := .int .i64 p) rfl (by kernel_rfl) (by kernel_rfl) (by kernel_rfl) (fun c a w h => onlyN_q c w h) (.inl ⟨by rfl, fun W' _ => ?_⟩) hS ?_
      · go_simp
      simp only [Act.put, List.setIfInBounds_toArray]
      refine wpAnyH_ready (rs := [0, 1, 2]) (by kernel_rfl) (by simp) (AllReadyH.cons rfl (fun K hK => ?_) (AllReadyH.cons rfl (fun K hK => ?_) (AllReadyH.cons rfl (fun K hK => ?_) AllReadyH.nil)))
      · go_simp
        refine hK.out _ _ hS (fun hS => ?_)
        clear hK K
        refine wpAnyH_ready (rs := [1, 2]) (by kernel_rfl) (by simp) (AllReadyH.cons rfl (fun K hK => ?_) (AllReadyH.cons rfl (fun K hK => ?_) AllReadyH.nil))
        · go_simp
          refine hK.out _ _ hS (fun hS => ?_)
          clear hK K
          refine wpAnyH_ready (rs := [2]) (by kernel_rfl) (by simp) (AllReadyH.cons rfl (fun K hK => ?_) AllReadyH.nil)
          go_simp
          refine hK.out _ _ hS (fun hS => ?_)
          clear hK K
          refine wpAnyH_ready (rs := [4]) (by kernel_rfl) (by simp) (AllReadyH.cons rfl (fun K hK => ?_) AllReadyH.nil)
          go_simp
          refine (AF.out _ (Below.refl _ _).drew).mono ?_
          rintro e6 w6 ⟨Z, H, rfl, ha'⟩
          have hb6 : Below wr.heap.size wr w6 := ((Below.refl _ _).drew).trans ha'.2.2.2
          have HA := Lib.hid (show AfO p m (N + (F' 0).length + 1) F' G' wr Z H w6 from ⟨ha'.1, ha'.2.1, ha'.2.2.1, hb6⟩)
          refine hK.out _ _ trivial (fun hS => ?_)
          clear hK K ha'
          have A3 := Lib.hid (G3.out.below hb6)
          have A4 := Lib.hid (G4.out.below hb6)
          have c30 := A3.out.cell 0 (by omega)
          have c31 := A3.out.cell 1 (by omega)
          have c32 := A3.out.cell 2 (by omega)
          have c40 := A4.out.cell 0 (by omega)
          rw [HY.out] at c40
          simp only [sv] at c40
          have c41 := A4.out.cell 1 (by omega)
          have c42 := A4.out.cell 2 (by omega)
          have f30 := A3.out.frozen 0
          have f31 := A3.out.frozen 1
          have f32 := A3.out.frozen 2
          have f40 := A4.out.frozen 0
          have f41 := A4.out.frozen 1
          have f42 := A4.out.frozen 2
          clear hb6
          refine wpAnyH_ready (rs := [5]) (by kernel_rfl) (by simp) (AllReadyH.cons rfl (fun K hK => ?_) AllReadyH.nil)
          simp only [sv] at *
          go_simp
          refine hK.out _ _ trivial (fun hS => ?_)
          clear hK K
          refine wpAnyH_ready (rs := [6]) (by kernel_rfl) (by simp) (AllReadyH.cons rfl (fun K hK => ?_) AllReadyH.nil)
          go_simp
          refine hK.out _ _ trivial (fun _ => wpAnyH_done (by kernel_rfl) ⟨rfl, ?_⟩ _)
          clear hK hS
          go_wp2_with fail
          have NX := lr_next PR.out hin.out HM.out HA.out rfl
          simp only [HY.out, sv] at NX
          refine ⟨⟨_, _, _, _, _, _, _, _, _, ⟨_, _, _, _, _, Lib.hid NX⟩, rfl⟩, ?_⟩
          rw [headL_at NX.2.1, HH.out]
          have hz := (HA.out.1 0 (by omega)).1.len
          have hl := HA.out.2.2.1
          omega
        · go_simp
          refine hK.out _ _ hS (fun hS => ?_)
          clear hK K
          refine wpAnyH_ready (rs := [1]) (by kernel_rfl) (by simp) (AllReadyH.cons rfl (fun K hK => ?_) AllReadyH.nil)
          go_simp
          refine hK.out _ _ hS (fun hS => ?_)
          clear hK K
          refine wpAnyH_ready (rs := [4]) (by kernel_rfl) (by simp) (AllReadyH.cons rfl (fun K hK => ?_) AllReadyH.nil)
          go_simp
          refine (AF.out _ (Below.refl _ _).drew).mono ?_
          rintro e6 w6 ⟨Z, H, rfl, ha'⟩
          have hb6 : Below wr.heap.size wr w6 := ((Below.refl _ _).drew).trans ha'.2.2.2
          have HA := Lib.hid (show AfO p m (N + (F' 0).length + 1) F' G' wr Z H w6 from ⟨ha'.1, ha'.2.1, ha'.2.2.1, hb6⟩)
          refine hK.out _ _ trivial (fun hS => ?_)
          clear hK K ha'
          have A3 := Lib.hid (G3.out.below hb6)
          have A4 := Lib.hid (G4.out.below hb6)
          have c30 := A3.out.cell 0 (by omega)
          have c31 := A3.out.cell 1 (by omega)
          have c32 := A3.out.cell 2 (by omega)
          have c40 := A4.out.cell 0 (by omega)
          rw [HY.out] at c40
          simp only [sv] at c40
          have c41 := A4.out.cell 1 (by omega)
          have c42 := A4.out.cell 2 (by omega)
          have f30 := A3.out.frozen 0
          have f31 := A3.out.frozen 1
          have f32 := A3.out.frozen 2
          have f40 := A4.out.frozen 0
          have f41 := A4.out.frozen 1
          have f42 := A4.out.frozen 2
          clear hb6
          refine wpAnyH_ready (rs := [5]) (by kernel_rfl) (by simp) (AllReadyH.cons rfl (fun K hK => ?_) AllReadyH.nil)
          simp only [sv] at *
          go_simp
          refine hK.out _ _ trivial (fun hS => ?_)
          clear hK K
          refine wpAnyH_ready (rs := [6]) (by kernel_rfl) (by simp) (AllReadyH.cons rfl (fun K hK => ?_) AllReadyH.nil)
          go_simp
          refine hK.out _ _ trivial (fun _ => wpAnyH_done (by kernel_rfl) ⟨rfl, ?_⟩ _)
          clear hK hS
          go_wp2_with fail
          have NX := lr_next PR.out hin.out HM.out HA.out rfl
          simp only [HY.out, sv] at NX
          refine ⟨⟨_, _, _, _, _, _, _, _, _, ⟨_, _, _, _, _, Lib.hid NX⟩, rfl⟩, ?_⟩
          rw [headL_at NX.2.1, HH.out]
          have hz := (HA.out.1 0 (by omega)).1.len
          have hl := HA.out.2.2.1
          omega
      · go_simp
        refine hK.out _ _ hS (fun hS => ?_)
        clear hK K
        refine wpAnyH_ready (rs := [0, 2]) (by kernel_rfl) (by simp) (AllReadyH.cons rfl (fun K hK => ?_) (AllReadyH.cons rfl (fun K hK => ?_) AllReadyH.nil))
        · go_simp
          refine hK.out _ _ hS (fun hS => ?_)
          clear hK K
          refine wpAnyH_ready (rs := [2]) (by kernel_rfl) (by simp) (AllReadyH.cons rfl (fun K hK => ?_) AllReadyH.nil)
          go_simp
          refine hK.out _ _ hS (fun hS => ?_)
          clear hK K
          refine wpAnyH_ready (rs := [4]) (by kernel_rfl) (by simp) (AllReadyH.cons rfl (fun K hK => ?_) AllReadyH.nil)
          go_simp
          refine (AF.out _ (Below.refl _ _).drew).mono ?_
          rintro e6 w6 ⟨Z, H, rfl, ha'⟩
          have hb6 : Below wr.heap.size wr w6 := ((Below.refl _ _).drew).trans ha'.2.2.2
          have HA := Lib.hid (show AfO p m (N + (F' 0).length + 1) F' G' wr Z H w6 from ⟨ha'.1, ha'.2.1, ha'.2.2.1, hb6⟩)
          refine hK.out _ _ trivial (fun hS => ?_)
          clear hK K ha'
          have A3 := Lib.hid (G3.out.below hb6)
          have A4 := Lib.hid (G4.out.below hb6)
          have c30 := A3.out.cell 0 (by omega)
          have c31 := A3.out.cell 1 (by omega)
          have c32 := A3.out.cell 2 (by omega)
          have c40 := A4.out.cell 0 (by omega)
          rw [HY.out] at c40
          simp only [sv] at c40
          have c41 := A4.out.cell 1 (by omega)
          have c42 := A4.out.cell 2 (by omega)
          have f30 := A3.out.frozen 0
          have f31 := A3.out.frozen 1
          have f32 := A3.out.frozen 2
          have f40 := A4.out.frozen 0
          have f41 := A4.out.frozen 1
          have f42 := A4.out.frozen 2
          clear hb6
          refine wpAnyH_ready (rs := [5]) (by kernel_rfl) (by simp) (AllReadyH.cons rfl (fun K hK => ?_) AllReadyH.nil)
          simp only [sv] at *
          go_simp
          refine hK.out _ _ trivial (fun hS => ?_)
          clear hK K
          refine wpAnyH_ready (rs := [6]) (by kernel_rfl) (by simp) (AllReadyH.cons rfl (fun K hK => ?_) AllReadyH.nil)
          go_simp
          refine hK.out _ _ trivial (fun _ => wpAnyH_done (by kernel_rfl) ⟨rfl, ?_⟩ _)
          clear hK hS
          go_wp2_with fail
          have NX := lr_next PR.out hin.out HM.out HA.out rfl
          simp only [HY.out, sv] at NX
          refine ⟨⟨_, _, _, _, _, _, _, _, _, ⟨_, _, _, _, _, Lib.hid NX⟩, rfl⟩, ?_⟩
          rw [headL_at NX.2.1, HH.out]
          have hz := (HA.out.1 0 (by omega)).1.len
          have hl := HA.out.2.2.1
          omega
        · go_simp
          refine hK.out _ _ hS (fun hS => ?_)
          clear hK K
          refine wpAnyH_ready (rs := [0, 4]) (by kernel_rfl) (by simp) (AllReadyH.cons rfl (fun K hK => ?_) (AllReadyH.cons rfl (fun K hK => ?_) AllReadyH.nil))
          · go_simp
            refine hK.out _ _ hS (fun hS => ?_)
            clear hK K
            refine wpAnyH_ready (rs := [4]) (by kernel_rfl) (by simp) (AllReadyH.cons rfl (fun K hK => ?_) AllReadyH.nil)
            go_simp
            refine (AF.out _ (Below.refl _ _).drew).mono ?_
            rintro e6 w6 ⟨Z, H, rfl, ha'⟩
            have hb6 : Below wr.heap.size wr w6 := ((Below.refl _ _).drew).trans ha'.2.2.2
            have HA := Lib.hid (show AfO p m (N + (F' 0).length + 1) F' G' wr Z H w6 from ⟨ha'.1, ha'.2.1, ha'.2.2.1, hb6⟩)
            refine hK.out _ _ trivial (fun hS => ?_)
            clear hK K ha'
            have A3 := Lib.hid (G3.out.below hb6)
            have A4 := Lib.hid (G4.out.below hb6)
            have c30 := A3.out.cell 0 (by omega)
            have c31 := A3.out.cell 1 (by omega)
            have c32 := A3.out.cell 2 (by omega)
            have c40 := A4.out.cell 0 (by omega)
            rw [HY.out] at c40
            simp only [sv] at c40
            have c41 := A4.out.cell 1 (by omega)
            have c42 := A4.out.cell 2 (by omega)
            have f30 := A3.out.frozen 0
            have f31 := A3.out.frozen 1
            have f32 := A3.out.frozen 2
            have f40 := A4.out.frozen 0
            have f41 := A4.out.frozen 1
            have f42 := A4.out.frozen 2
            clear hb6
            refine wpAnyH_ready (rs := [5]) (by kernel_rfl) (by simp) (AllReadyH.cons rfl (fun K hK => ?_) AllReadyH.nil)
            simp only [sv] at *
            go_simp
            refine hK.out _ _ trivial (fun hS => ?_)
            clear hK K
            refine wpAnyH_ready (rs := [6]) (by kernel_rfl) (by simp) (AllReadyH.cons rfl (fun K hK => ?_) AllReadyH.nil)
            go_simp
            refine hK.out _ _ trivial (fun _ => wpAnyH_done (by kernel_rfl) ⟨rfl, ?_⟩ _)
            clear hK hS
            go_wp2_with fail
            have NX := lr_next PR.out hin.out HM.out HA.out rfl
            simp only [HY.out, sv] at NX
            refine ⟨⟨_, _, _, _, _, _, _, _, _, ⟨_, _, _, _, _, Lib.hid NX⟩, rfl⟩, ?_⟩
            rw [headL_at NX.2.1, HH.out]
            have hz := (HA.out.1 0 (by omega)).1.len
            have hl := HA.out.2.2.1
            omega
          · go_simp
            refine (AF.out _ (Below.refl _ _).drew).mono ?_
            rintro e6 w6 ⟨Z, H, rfl, ha'⟩
            have hb6 : Below wr.heap.size wr w6 := ((Below.refl _ _).drew).trans ha'.2.2.2
            have HA := Lib.hid (show AfO p m (N + (F' 0).length + 1) F' G' wr Z H w6 from ⟨ha'.1, ha'.2.1, ha'.2.2.1, hb6⟩)
            refine hK.out _ _ trivial (fun hS => ?_)
            clear hK K ha'
            have A3 := Lib.hid (G3.out.below hb6)
            have A4 := Lib.hid (G4.out.below hb6)
            have c30 := A3.out.cell 0 (by omega)
            have c31 := A3.out.cell 1 (by omega)
            have c32 := A3.out.cell 2 (by omega)
            have c40 := A4.out.cell 0 (by omega)
            rw [HY.out] at c40
            simp only [sv] at c40
            have c41 := A4.out.cell 1 (by omega)
            have c42 := A4.out.cell 2 (by omega)
            have f30 := A3.out.frozen 0
            have f31 := A3.out.frozen 1
            have f32 := A3.out.frozen 2
            have f40 := A4.out.frozen 0
            have f41 := A4.out.frozen 1
            have f42 := A4.out.frozen 2
            clear hb6
            refine wpAnyH_ready (rs := [0]) (by kernel_rfl) (by simp) (AllReadyH.cons rfl (fun K hK => ?_) AllReadyH.nil)
            go_simp
            refine hK.out _ _ hS (fun hS => ?_)
            clear hK K
            refine wpAnyH_ready (rs := [5]) (by kernel_rfl) (by simp) (AllReadyH.cons rfl (fun K hK => ?_) AllReadyH.nil)
            simp only [sv] at *
            go_simp
            refine hK.out _ _ trivial (fun hS => ?_)
            clear hK K
            refine wpAnyH_ready (rs := [6]) (by kernel_rfl) (by simp) (AllReadyH.cons rfl (fun K hK => ?_) AllReadyH.nil)
            go_simp
            refine hK.out _ _ trivial (fun _ => wpAnyH_done (by kernel_rfl) ⟨rfl, ?_⟩ _)
            clear hK hS
            go_wp2_with fail
            have NX := lr_next PR.out hin.out HM.out HA.out rfl
            simp only [HY.out, sv] at NX
            refine ⟨⟨_, _, _, _, _, _, _, _, _, ⟨_, _, _, _, _, Lib.hid NX⟩, rfl⟩, ?_⟩
            rw [headL_at NX.2.1, HH.out]
            have hz := (HA.out.1 0 (by omega)).1.len
            have hl := HA.out.2.2.1
            omega
      · go_simp
        refine hK.out _ _ hS (fun hS => ?_)
        clear hK K
        refine wpAnyH_ready (rs := [0, 1]) (by kernel_rfl) (by simp) (AllReadyH.cons rfl (fun K hK => ?_) (AllReadyH.cons rfl (fun K hK => ?_) AllReadyH.nil))
        · go_simp
          refine hK.out _ _ hS (fun hS => ?_)
          clear hK K
          refine wpAnyH_ready (rs := [1]) (by kernel_rfl) (by simp) (AllReadyH.cons rfl (fun K hK => ?_) AllReadyH.nil)
          go_simp
          refine hK.out _ _ hS (fun hS => ?_)
          clear hK K
          refine wpAnyH_ready (rs := [4]) (by kernel_rfl) (by simp) (AllReadyH.cons rfl (fun K hK => ?_) AllReadyH.nil)
          go_simp
          refine (AF.out _ (Below.refl _ _).drew).mono ?_
          rintro e6 w6 ⟨Z, H, rfl, ha'⟩
          have hb6 : Below wr.heap.size wr w6 := ((Below.refl _ _).drew).trans ha'.2.2.2
          have HA := Lib.hid (show AfO p m (N + (F' 0).length + 1) F' G' wr Z H w6 from ⟨ha'.1, ha'.2.1, ha'.2.2.1, hb6⟩)
          refine hK.out _ _ trivial (fun hS => ?_)
          clear hK K ha'
          have A3 := Lib.hid (G3.out.below hb6)
          have A4 := Lib.hid (G4.out.below hb6)
          have c30 := A3.out.cell 0 (by omega)
          have c31 := A3.out.cell 1 (by omega)
          have c32 := A3.out.cell 2 (by omega)
          have c40 := A4.out.cell 0 (by omega)
          rw [HY.out] at c40
          simp only [sv] at c40
          have c41 := A4.out.cell 1 (by omega)
          have c42 := A4.out.cell 2 (by omega)
          have f30 := A3.out.frozen 0
          have f31 := A3.out.frozen 1
          have f32 := A3.out.frozen 2
          have f40 := A4.out.frozen 0
          have f41 := A4.out.frozen 1
          have f42 := A4.out.frozen 2
          clear hb6
          refine wpAnyH_ready (rs := [5]) (by kernel_rfl) (by simp) (AllReadyH.cons rfl (fun K hK => ?_) AllReadyH.nil)
          simp only [sv] at *
          go_simp
          refine hK.out _ _ trivial (fun hS => ?_)
          clear hK K
          refine wpAnyH_ready (rs := [6]) (by kernel_rfl) (by simp) (AllReadyH.cons rfl (fun K hK => ?_) AllReadyH.nil)
          go_simp
          refine hK.out _ _ trivial (fun _ => wpAnyH_done (by kernel_rfl) ⟨rfl, ?_⟩ _)
          clear hK hS
          go_wp2_with fail
          have NX := lr_next PR.out hin.out HM.out HA.out rfl
          simp only [HY.out, sv] at NX
          refine ⟨⟨_, _, _, _, _, _, _, _, _, ⟨_, _, _, _, _, Lib.hid NX⟩, rfl⟩, ?_⟩
          rw [headL_at NX.2.1, HH.out]
          have hz := (HA.out.1 0 (by omega)).1.len
          have hl := HA.out.2.2.1
          omega
        · go_simp
          refine hK.out _ _ hS (fun hS => ?_)
          clear hK K
          refine wpAnyH_ready (rs := [0, 4]) (by kernel_rfl) (by simp) (AllReadyH.cons rfl (fun K hK => ?_) (AllReadyH.cons rfl (fun K hK => ?_) AllReadyH.nil))
          · go_simp
            refine hK.out _ _ hS (fun hS => ?_)
            clear hK K
            refine wpAnyH_ready (rs := [4]) (by kernel_rfl) (by simp) (AllReadyH.cons rfl (fun K hK => ?_) AllReadyH.nil)
            go_simp
            refine (AF.out _ (Below.refl _ _).drew).mono ?_
            rintro e6 w6 ⟨Z, H, rfl, ha'⟩
            have hb6 : Below wr.heap.size wr w6 := ((Below.refl _ _).drew).trans ha'.2.2.2
            have HA := Lib.hid (show AfO p m (N + (F' 0).length + 1) F' G' wr Z H w6 from ⟨ha'.1, ha'.2.1, ha'.2.2.1, hb6⟩)
            refine hK.out _ _ trivial (fun hS => ?_)
            clear hK K ha'
            have A3 := Lib.hid (G3.out.below hb6)
            have A4 := Lib.hid (G4.out.below hb6)
            have c30 := A3.out.cell 0 (by omega)
            have c31 := A3.out.cell 1 (by omega)
            have c32 := A3.out.cell 2 (by omega)
            have c40 := A4.out.cell 0 (by omega)
            rw [HY.out] at c40
            simp only [sv] at c40
            have c41 := A4.out.cell 1 (by omega)
            have c42 := A4.out.cell 2 (by omega)
            have f30 := A3.out.frozen 0
            have f31 := A3.out.frozen 1
            have f32 := A3.out.frozen 2
            have f40 := A4.out.frozen 0
            have f41 := A4.out.frozen 1
            have f42 := A4.out.frozen 2
            clear hb6
            refine wpAnyH_ready (rs := [5]) (by kernel_rfl) (by simp) (AllReadyH.cons rfl (fun K hK => ?_) AllReadyH.nil)
            simp only [sv] at *
            go_simp
            refine hK.out _ _ trivial (fun hS => ?_)
            clear hK K
            refine wpAnyH_ready (rs := [6]) (by kernel_rfl) (by simp) (AllReadyH.cons rfl (fun K hK => ?_) AllReadyH.nil)
            go_simp
            refine hK.out _ _ trivial (fun _ => wpAnyH_done (by kernel_rfl) ⟨rfl, ?_⟩ _)
            clear hK hS
            go_wp2_with fail
            have NX := lr_next PR.out hin.out HM.out HA.out rfl
            simp only [HY.out, sv] at NX
            refine ⟨⟨_, _, _, _, _, _, _, _, _, ⟨_, _, _, _, _, Lib.hid NX⟩, rfl⟩, ?_⟩
            rw [headL_at NX.2.1, HH.out]
            have hz := (HA.out.1 0 (by omega)).1.len
            have hl := HA.out.2.2.1
            omega
          · go_simp
            refine (AF.out _ (Below.refl _ _).drew).mono ?_
            rintro e6 w6 ⟨Z, H, rfl, ha'⟩
            have hb6 : Below wr.heap.size wr w6 := ((Below.refl _ _).drew).trans ha'.2.2.2
            have HA := Lib.hid (show AfO p m (N + (F' 0).length + 1) F' G' wr Z H w6 from ⟨ha'.1, ha'.2.1, ha'.2.2.1, hb6⟩)
            refine hK.out _ _ trivial (fun hS => ?_)
            clear hK K ha'
            have A3 := Lib.hid (G3.out.below hb6)
            have A4 := Lib.hid (G4.out.below hb6)
            have c30 := A3.out.cell 0 (by omega)
            have c31 := A3.out.cell 1 (by omega)
            have c32 := A3.out.cell 2 (by omega)
            have c40 := A4.out.cell 0 (by omega)
            rw [HY.out] at c40
            simp only [sv] at c40
            have c41 := A4.out.cell 1 (by omega)
            have c42 := A4.out.cell 2 (by omega)
            have f30 := A3.out.frozen 0
            have f31 := A3.out.frozen 1
            have f32 := A3.out.frozen 2
            have f40 := A4.out.frozen 0
            have f41 := A4.out.frozen 1
            have f42 := A4.out.frozen 2
            clear hb6
            refine wpAnyH_ready (rs := [0]) (by kernel_rfl) (by simp) (AllReadyH.cons rfl (fun K hK => ?_) AllReadyH.nil)
            go_simp
            refine hK.out _ _ hS (fun hS => ?_)
            clear hK K
            refine wpAnyH_ready (rs := [5]) (by kernel_rfl) (by simp) (AllReadyH.cons rfl (fun K hK => ?_) AllReadyH.nil)
            simp only [sv] at *
            go_simp
            refine hK.out _ _ trivial (fun hS => ?_)
            clear hK K
            refine wpAnyH_ready (rs := [6]) (by kernel_rfl) (by simp) (AllReadyH.cons rfl (fun K hK => ?_) AllReadyH.nil)
            go_simp
            refine hK.out _ _ trivial (fun _ => wpAnyH_done (by kernel_rfl) ⟨rfl, ?_⟩ _)
            clear hK hS
            go_wp2_with fail
            have NX := lr_next PR.out hin.out HM.out HA.out rfl
            simp only [HY.out, sv] at NX
            refine ⟨⟨_, _, _, _, _, _, _, _, _, ⟨_, _, _, _, _, Lib.hid NX⟩, rfl⟩, ?_⟩
            rw [headL_at NX.2.1, HH.out]
            have hz := (HA.out.1 0 (by omega)).1.len
            have hl := HA.out.2.2.1
            omega
end Go.Proofs.YtekpifafjbkmiaaDoor

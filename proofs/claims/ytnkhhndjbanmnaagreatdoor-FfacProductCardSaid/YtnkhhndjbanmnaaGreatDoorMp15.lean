/- Texts joined, in their order: PrgEu, PrgLr. -/
import Derived.Test.YtnkhhndjbanmnaaGreatDoorMp14

/- fpoly's Euclid: a step of the rows, the last row, by their contracts. -/
namespace Go.Proofs.YtnkhhndjbanmnaaGreatDoor
open Go.RowKit Go.Shelf

def nilS : SV := (none, 0, 0)
def AfO (p : Int) (m N : Nat) (F G : Nat → List Int) (w : World) (Z : Nat → SV) (H : Nat → List Int) (w' : World) : Prop :=
  RowP w' Z H p N ∧ StepOf p m F G H ∧ (H 0).length ≤ m ∧ Below w.heap.size w w'
theorem region_held {P : Program} {id : Nat} {ops : Array Oper} {Q : Exit → Act → World → Prop} {a : Act} {w : World} (S : World → Prop) (hm : P.follows .mixedOrders = true)
    (h : wpAnyH P .any ops (OnlyN Q) S ops.size (Array.replicate ops.size false) a w.drew) : (Code.region id ops true).wp P Q a w :=
  Code.wp_mono onlyN_up (wp_region_held hm h)

def EuIn (h : Nat) (p : Int) (t N M : Nat) (Y : Nat → SV) (F G : Nat → List Int) (Q : Option Addr) (kq dq : Nat) (qs rs : List Int) (X' : Nat → SV) (F' : Nat → List Int) (w wr : World) : Prop :=
  ABlk wr h X' ∧ ABlk wr (h + 1) Y ∧ ABlk wr (h + 1 + 1) (fun _ => nilS) ∧ RowP wr X' F' p M ∧ F' 0 = rs ∧ (∀ k, 1 ≤ k → k < t → Ser.Eq p (cf (F' k)) (less (cf (F k)) (cf qs) (cf (G k)))) ∧
    (∀ k, t ≤ k → k < 3 → F' k = F k ∧ (X' k).2.1 ≤ N) ∧ ISl wr Q kq dq qs ∧ Below h w wr
theorem eu_next {h : Nat} {p : Int} {t N M K : Nat} {Y : Nat → SV} {F G : Nat → List Int} {Q : Option Addr} {kq dq : Nat} {qs rs : List Int} {X' : Nat → SV} {F' : Nat → List Int} {w wr w6 : World} {E : Option Addr} {ke de ni mi : Nat} {hs : List Int} {f : Ser}
    (hlt : t < 3) (ht1 : 1 ≤ t) (grest : ∀ k, t ≤ k → k < 3 → F' k = F k ∧ (X' k).2.1 ≤ N) (gf0 : F' 0 = rs) (geq : ∀ k, 1 ≤ k → k < t → Ser.Eq p (cf (F' k)) (less (cf (F k)) (cf qs) (cf (G k))))
    (hE : ISl w6 E ke de hs) (pE : Pol p hs f) (hK1 : ni ≤ K ∧ kq + mi ≤ K ∧ K ≤ M) (hke : ke ≤ K) (eqt : Ser.Eq p f (less (cf (F' t)) (cf qs) (cf (G t)))) (gr1 : F' t = F t)
    (grow : RowP wr X' F' p M) (g4 : ABlk wr (h + 1) Y) (g6 : ABlk wr (h + 1 + 1) (fun _ => nilS)) (gq : ISl wr Q kq dq qs) (gb : Below h w wr) (hb6 : Below wr.heap.size wr w6) (h3 : ABlk w6 h X') :
    EuIn h p (t + 1) N M Y F G Q kq dq qs rs (putR X' t (E, ke, de)) (putF F' t hs) w (w6.setCell ⟨h, t, none⟩ (.slice E ke de)) := by
  have hlt6 := g6.lt
  refine ⟨h3.set_ t hlt (E, ke, de), (g4.below hb6).far (by simp) _, (g6.below hb6).far (by simp <;> omega) _, ((grow.below hb6).far h3 t _).put t (hE.far (isl_arr hE h3) t _) pE.1 (by omega), ?_, ?_, ?_, (gq.below hb6).far (isl_arr (gq.below hb6) h3) t _, ?_⟩
  · rw [putF_ne _ _ (by omega)]; exact gf0
  · intro k h1 h2
    by_cases e : k = t
    · subst e
      rw [putF_at, ← gr1]
      exact pE.2.trans eqt
    · rw [putF_ne _ _ e]; exact geq k h1 (by omega)
  · intro k h1 h2
    rw [putF_ne _ _ (by omega), putR_ne _ _ (by omega)]
    exact grest k (by omega) h2
  · exact (gb.trans (hb6.mono (by omega))).setCell (p := ⟨h, t, none⟩) (Nat.le_refl _) _
theorem eu_end {h : Nat} {p : Int} {m N M : Nat} {Y : Nat → SV} {F G : Nat → List Int} {Q : Option Addr} {kq dq : Nat} {qs rs : List Int} {X' : Nat → SV} {F' : Nat → List Int} {w wr : World} {q : Ser} (hp : Pr p) (hd : IsDiv p m (cf (F 0)) (cf (G 0)) (cf qs) (cf rs)) (hrs : Pln p rs) (_ : Pol p qs q)
    (hin : EuIn h p 3 N M Y F G Q kq dq qs rs X' F' w wr) : StepOf p m F G F' ∧ (F' 0).length ≤ m := by
  have h2 := hp.1
  obtain ⟨-, -, -, -, gf0, geq, -, -, -⟩ := hin
  refine ⟨⟨cf qs, fini_cf p qs, by rw [gf0]; exact hd.2, ?_, ?_, ?_⟩, by rw [gf0]; exact hrs.len_le (by omega) hd.2⟩
  · show Ser.Eq p (cf (F' 0)) (less (cf (F 0)) (cf qs) (cf (G 0)))
    rw [gf0]
    exact less_of hd.1
  · exact geq 1 (by omega) (by omega)
  · exact geq 2 (by omega) (by omega)
set_option maxRecDepth 100000 in
set_option maxRecDepth 100000 in
set_option maxHeartbeats 8000000 in
theorem pAfter_any (X Y : Nat → SV) (F G : Nat → List Int) (m N : Nat) (p : Int) (w : World) (hT : TabAt w) (hX : RowP w X F p N) (hY : RowP w Y G p N) (hp : Pr p) (hm : (G 0).length = m + 1) (hF : (F 0).length ≤ 10000) (hG : m ≤ 10000) (hN : N ≤ 10000000) :
    Calls Tryz.prog 188 #[.agg #[sv (X 0), sv (X 1), sv (X 2)], .agg #[sv (Y 0), sv (Y 1), sv (Y 2)], .int .i64 p] w fun e w' => ∃ Z H, e = .returned (.agg #[sv (Z 0), sv (Z 1), sv (Z 2)]) ∧ AfO p m (N + (F 0).length + 1) F G w Z H w' := by
  have hp1 := hp.1
  have hp2 := hp.2.1
  have PR := Lib.hid hp
  have MD := Lib.hid hp.md
  obtain ⟨w3, hw3⟩ : ∃ w3, w3 = (((w.alloc (.cells #[sv (X 0), sv (X 1), sv (X 2)] 145)).alloc (.cells #[sv (Y 0), sv (Y 1), sv (Y 2)] 145)).alloc (.cells #[sv nilS, sv nilS, sv nilS] 145)) := ⟨_, rfl⟩
  have hb3 : Below w.heap.size w w3 := by rw [hw3]; exact (((Below.refl _ _).alloc (Nat.le_refl _) _).alloc (by simp) _).alloc (by simp; omega) _
  have hs3 : w3.heap.size = w.heap.size + 3 := by rw [hw3]; simp
  have a3 : ABlk w3 w.heap.size X := by rw [hw3]; exact ((ABlk.new w X).below (below_al _ _)).below (below_al _ _)
  have a4 : ABlk w3 (w.heap.size + 1) Y := by
    have h := (ABlk.new (w.alloc (.cells #[sv (X 0), sv (X 1), sv (X 2)] 145)) Y).below (below_al _ (.cells #[sv nilS, sv nilS, sv nilS] 145))
    rw [World.size_alloc] at h
    rw [hw3]; exact h
  have a6 : ABlk w3 (w.heap.size + 1 + 1) (fun _ => nilS) := by
    have h := ABlk.new ((w.alloc (.cells #[sv (X 0), sv (X 1), sv (X 2)] 145)).alloc (.cells #[sv (Y 0), sv (Y 1), sv (Y 2)] 145)) (fun _ => nilS)
    rw [World.size_alloc, World.size_alloc] at h
    rw [hw3]; exact h
  obtain ⟨C0, n0, c0, hX0⟩ : ∃ C n c, X 0 = (C, n, c) := ⟨(X 0).1, (X 0).2.1, (X 0).2.2, rfl⟩
  obtain ⟨D0, m0, d0, hY0⟩ : ∃ C n c, Y 0 = (C, n, c) := ⟨(Y 0).1, (Y 0).2.1, (Y 0).2.2, rfl⟩
  have x0 := hX.one 0 (by omega) hX0
  have y0 := hY.one 0 (by omega) hY0
  have hn0 : n0 = (F 0).length := x0.1.len
  have hm0 : m0 = m + 1 := by rw [← hm]; exact y0.1.len
  have ex0 : sv (X 0) = .slice C0 n0 c0 := by rw [hX0]; rfl
  have ey0 : sv (Y 0) = .slice D0 m0 d0 := by rw [hY0]; rfl
  have dv := pDivided_any C0 D0 n0 c0 m0 d0 m (F 0) (G 0) p w3 (hT.below hb3) (x0.1.below hb3) (y0.1.below hb3) hp x0.2.1 y0.2.1 hm0 (by omega) (by omega)
  rw [← ex0, ← ey0, hw3] at dv
  have DV := Lib.hid dv
  have HMN : Hid (m + 1 ≤ N) := Lib.hid (by have := y0.2.2; omega)
  have A3 := Lib.hid a3
  have A4 := Lib.hid a4
  have A6 := Lib.hid a6
  have HW3X := Lib.hid hw3
  have HB3 := Lib.hid hb3
  have HS3 := Lib.hid hs3
  have HX := Lib.hid hX
  have HY := Lib.hid hY
  have HN0 := Lib.hid hn0
  have HX0 := Lib.hid hX0
  have HY0 := Lib.hid hY0
  clear hT hX hY hp x0 y0 a3 a4 a6 hb3 hn0 hX0 hY0 hm0 ex0 ey0 dv hs3
  go_enter Tryz.func188, Tryz.ntmps188
  go_wp2_with fail
  refine DV.out.mono ?_
  rw [← hw3]
  rintro e1 w4 ⟨v1, v2, rfl, q, r, ⟨Q, kq, dq, qs, rfl, hq, pq, hkq⟩, ⟨R, kr, dr, rs, rfl, hr, pr, _⟩, hd, hqb, hb4⟩
  have hd2 := Lib.hid (isDiv_rows hd pq pr)
  have hmN : m + 1 ≤ N := HMN.out
  have hkr : kr ≤ m := by rw [hr.len]; exact pr.1.len_le (by omega) (hd.2.eq pr.2.symm)
  have b3 := A3.out.below hb4
  have b4 := A4.out.below hb4
  have b6 := A6.out.below hb4
  have q30 := b3.cell 0 (by omega)
  have f30 := b3.frozen 0
  have HB4 := Lib.hid (HB3.out.trans (hb4.mono HB3.out.size))
  have hs4 : w.heap.size + 3 ≤ w4.heap.size := by rw [← HS3.out]; exact hb4.size
  have B3 := Lib.hid b3
  have B4 := Lib.hid b4
  have B6 := Lib.hid b6
  have HQ := Lib.hid hq
  have PQ := Lib.hid pq
  have HR := Lib.hid hr
  have PRr := Lib.hid pr
  have hkq2 : kq ≤ (F 0).length + 1 := by rw [← HN0.out]; exact hkq
  have HKQ := Lib.hid hkq2
  have HQL := Lib.hid hq.len
  clear hw3 hd hqb hb4 b3 b4 b6 hq pq hr pr hkq hkq2 DV A3 A4 A6 HB3 HS3 HW3X
  go_wp2_with fail
  have e5 : (Value.slice R kr dr : Value) = sv (R, kr, dr) := rfl
  have c3 : ABlk (w4.setCell ⟨w.heap.size, 0, none⟩ (.slice R kr dr)) w.heap.size (putR X 0 (R, kr, dr)) := B3.out.set_ 0 (by omega) (R, kr, dr)
  have c4 : ABlk (w4.setCell ⟨w.heap.size, 0, none⟩ (.slice R kr dr)) (w.heap.size + 1) Y := B4.out.far (by simp) _
  have c6 : ABlk (w4.setCell ⟨w.heap.size, 0, none⟩ (.slice R kr dr)) (w.heap.size + 1 + 1) (fun _ => nilS) := B6.out.far (by simp <;> omega) _
  have hrow : RowP (w4.setCell ⟨w.heap.size, 0, none⟩ (.slice R kr dr)) (putR X 0 (R, kr, dr)) (putF F 0 rs) p (N + (F 0).length + 1) :=
    (((HX.out.below HB4.out).far B3.out 0 _).mono (by omega)).put 0 (HR.out.far (isl_arr HR.out B3.out) 0 _) PRr.out.1 (by omega)
  have hq5 := HQ.out.far (isl_arr HQ.out B3.out) 0 (.slice R kr dr)
  have HB5 := HB4.out.setCell (p := ⟨w.heap.size, 0, none⟩) (Nat.le_refl _) (.slice R kr dr)
  have IN0 := Lib.hid (show EuIn w.heap.size p 1 N (N + (F 0).length + 1) Y F G Q kq dq qs rs (putR X 0 (R, kr, dr)) (putF F 0 rs) w (w4.setCell ⟨w.heap.size, 0, none⟩ (.slice R kr dr)) from
    ⟨c3, c4, c6, hrow, putF_at _ _ _, fun k h1 h2 => absurd h2 (by omega), fun k h1 h2 => ⟨putF_ne _ _ (by omega), by rw [putR_ne _ _ (by omega)]; exact (HX.out k h2).2.2⟩, hq5, HB5⟩)
  clear c3 c4 c6 hrow hq5 HB5 q30 f30 e5 B3 B4 B6 HQ HR HB4 hs4
  generalize w4.setCell ⟨w.heap.size, 0, none⟩ (.slice R kr dr) = w5 at *
  go_loopw [9] (fun i wr => ∃ (t : Nat) (X' : Nat → SV) (F' : Nat → List Int), 1 ≤ t ∧ t ≤ 3 ∧ i = .int .i64 (t : Int) ∧ Hid (EuIn w.heap.size p t N (N + (F 0).length + 1) Y F G Q kq dq qs rs X' F' w wr)) (fun i _ => 3 - (intOf i).toNat)
  case atStart => exact ⟨1, _, _, Nat.le_refl _, by omega, rfl, IN0⟩
  case round =>
    obtain ⟨t, X', F', ht1, ht3, rfl, hin⟩ := hrel
    obtain ⟨g3, g4, g6, grow, gf0, geq, grest, gq, gb⟩ := hin.out
    clear IN0
    by_cases hlt : t < 3
    · obtain ⟨Ci, ni, ci, hXt⟩ : ∃ C n c, X' t = (C, n, c) := ⟨(X' t).1, (X' t).2.1, (X' t).2.2, rfl⟩
      obtain ⟨Di, mi, di, hYt⟩ : ∃ C n c, Y t = (C, n, c) := ⟨(Y t).1, (Y t).2.1, (Y t).2.2, rfl⟩
      have gx := grow.one t hlt hXt
      have gy := (HY.out.below gb).one t hlt hYt
      have gr := grest t (Nat.le_refl _) hlt
      rw [hXt] at gr
      have hniN : ni ≤ N := gr.2
      have hmiN : mi ≤ N := gy.2.2
      have hkq9 : kq ≤ 10001 := by have := HKQ.out; omega
      obtain ⟨K, hK⟩ : ∃ K : Nat, (K : Int) = max (ni : Int) ((kq : Int) + (mi : Int)) := ⟨max ni (kq + mi), by omega⟩
      have hK1 : ni ≤ K ∧ kq + mi ≤ K ∧ K ≤ N + (F 0).length + 1 := by have := HKQ.out; omega
      have hc3 := g3.cell t hlt
      rw [hXt] at hc3
      have hc4 := g4.cell t hlt
      rw [hYt] at hc4
      have hc3' : wr.drew.cell? ⟨w.heap.size, t, none⟩ = some (.slice Ci ni ci) := hc3
      have hc4' : wr.drew.cell? ⟨w.heap.size + 1, t, none⟩ = some (.slice Di mi di) := hc4
      have LS := fun W' (hb : Below wr.heap.size wr W') => pLess_any Ci Q Di ni ci kq dq mi di K (F' t) qs (G t) p W' (gx.1.below hb) (gq.below hb) (gy.1.below hb) MD.out gx.2.1.1 PQ.out.1.1 gy.2.1.1 (by omega) (by omega) (by omega)
      simp only [hK] at LS
      have LSS := Lib.hid LS
      have G3 := Lib.hid g3
      have G4 := Lib.hid g4
      have G6 := Lib.hid g6
      have GROW := Lib.hid grow
      have GF0 := Lib.hid gf0
      have GEQ := Lib.hid geq
      have GREST := Lib.hid grest
      have GQ := Lib.hid gq
      have GB := Lib.hid gb
      have EQT := Lib.hid (less_fst (p := p) (N := K) (xs := F' t) (qs := qs) (ys := G t) (by rw [← gx.1.len]; omega) (by rw [← gq.len, ← gy.1.len]; omega))
      have GR1 := Lib.hid gr.1
      have HXT := Lib.hid hXt
      have GC4 := Lib.hid hc4
      have hz4 := g4.lt
      have i1 : (0 : Int) ≤ (t : Int) := by omega
      have i2 : (t : Int) < 3 := by omega
      have m2 : IntKind.i64.wrap ((kq : Int) + (mi : Int)) = (kq : Int) + (mi : Int) := by rw [IntKind.wrap_i64]; omega
      have m3 : wrap64 ((kq : Int) + (mi : Int)) = (kq : Int) + (mi : Int) := by unfold wrap64; omega
      have HKK := Lib.hid hK
      clear LS g3 g4 g6 grow gf0 geq grest gq gb gx gy gr hXt hYt hc3 hc4 hin hK
      go_wp2_with fail
      refine region_held (fun W' => W'.cell? ⟨w.heap.size + 1, t, none⟩ = some (.slice Di mi di)) (by kernel_rfl) ?_
      have hS : wr.drew.cell? ⟨w.heap.size + 1, t, none⟩ = some (.slice Di mi di) := hc4'
      refine wpAnyH_take (i := 0) (v := .int .i64 (t : Int)) rfl (by kernel_rfl) (by kernel_rfl) (by kernel_rfl) (fun c a w h => onlyN_q c w h) (.inl ⟨by rfl, fun W' hS' => ?_⟩) hS ?_
      · go_simp
      simp only [Act.put, List.setIfInBounds_toArray]
      refine wpAnyH_take (i := 1) (v := .int .i64 (t : Int)) rfl (by kernel_rfl) (by kernel_rfl) (by kernel_rfl) (fun c a w h => onlyN_q c w h) (.inl ⟨by rfl, fun W' hS' => ?_⟩) hS ?_
      · go_simp
      simp only [Act.put]
      refine wpAnyH_take (i := 2) (v := .pointer (some ⟨w.heap.size, t, none⟩)) rfl (by kernel_rfl) (by kernel_rfl) (by kernel_rfl) (fun c a w h => onlyN_q c w h) (.inl ⟨by rfl, fun W' hS' => ?_⟩) hS ?_
      · go_simp
      simp only [Act.put]
      refine wpAnyH_take (i := 5) (v := .slice Q kq dq) rfl (by kernel_rfl) (by kernel_rfl) (by kernel_rfl) (fun c a w h => onlyN_q c w h) (.inl ⟨by rfl, fun W' hS' => ?_⟩) hS ?_
      · go_simp
      simp only [Act.put]
      refine wpAnyH_take (i := 6) (v := .int .i64 (kq : Int)) rfl (by kernel_rfl) (by kernel_rfl) (by kernel_rfl) (fun c a w h => onlyN_q c w h) (.inl ⟨by rfl, fun W' hS' => ?_⟩) hS ?_
      · go_simp
      simp only [Act.put]
      refine wpAnyH_take (i := 7) (v := .int .i64 (t : Int)) rfl (by kernel_rfl) (by kernel_rfl) (by kernel_rfl) (fun c a w h => onlyN_q c w h) (.inl ⟨by rfl, fun W' hS' => ?_⟩) hS ?_
      · go_simp
      simp only [Act.put]
      refine wpAnyH_take (i := 8) (v := .pointer (some ⟨w.heap.size + 1, t, none⟩)) rfl (by kernel_rfl) (by kernel_rfl) (by kernel_rfl) (fun c a w h => onlyN_q c w h) (.inl ⟨by rfl, fun W' hS' => ?_⟩) hS ?_
      · go_simp
      simp only [Act.put]
      refine wpAnyH_take (i := 9) (v := .slice Di mi di) rfl (by kernel_rfl) (by kernel_rfl) (by kernel_rfl) (fun c a w h => onlyN_q c w h) (.inl ⟨by rfl, fun W' hS' => ?_⟩) hS ?_
      · go_simp
      simp only [Act.put]
      refine wpAnyH_take (i := 10) (v := .int .i64 (mi : Int)) rfl (by kernel_rfl) (by kernel_rfl) (by kernel_rfl) (fun c a w h => onlyN_q c w h) (.inl ⟨by rfl, fun W' hS' => ?_⟩) hS ?_
      · go_simp
      simp only [Act.put]
      refine wpAnyH_take (i := 11) (v := .int .i64 ((kq : Int) + (mi : Int))) rfl (by kernel_rfl) (by kernel_rfl) (by kernel_rfl) (fun c a w h => onlyN_q c w h) (.inl ⟨by rfl, fun W' hS' => ?_⟩) hS ?_
      · go_simp
      simp only [Act.put]
      refine wpAnyH_take (i := 13) (v := .int .i64 (t : Int)) rfl (by kernel_rfl) (by kernel_rfl) (by kernel_rfl) (fun c a w h => onlyN_q c w h) (.inl ⟨by rfl, fun W' hS' => ?_⟩) hS ?_
      · go_simp
      simp only [Act.put]
      refine wpAnyH_take (i := 14) (v := .pointer (some ⟨w.heap.size, t, none⟩)) rfl (by kernel_rfl) (by kernel_rfl) (by kernel_rfl) (fun c a w h => onlyN_q c w h) (.inl ⟨by rfl, fun W' hS' => ?_⟩) hS ?_
      · go_simp
      simp only [Act.put]
      refine wpAnyH_take (i := 16) (v := .slice Q kq dq) rfl (by kernel_rfl) (by kernel_rfl) (by kernel_rfl) (fun c a w h => onlyN_q c w h) (.inl ⟨by rfl, fun W' hS' => ?_⟩) hS ?_
      · go_simp
      simp only [Act.put]
      refine wpAnyH_take (i := 17) (v := .int .i64 (t : Int)) rfl (by kernel_rfl) (by kernel_rfl) (by kernel_rfl) (fun c a w h => onlyN_q c w h) (.inl ⟨by rfl, fun W' hS' => ?_⟩) hS ?_
      · go_simp
      simp only [Act.put]
      refine wpAnyH_take (i := 18) (v := .pointer (some ⟨w.heap.size + 1, t, none⟩)) rfl (by kernel_rfl) (by kernel_rfl) (by kernel_rfl) (fun c a w h => onlyN_q c w h) (.inl ⟨by rfl, fun W' hS' => ?_⟩) hS ?_
      · go_simp
      simp only [Act.put]
      refine wpAnyH_take (i := 19) (v := .slice Di mi di) rfl (by kernel_rfl) (by kernel_rfl) (by kernel_rfl) (fun c a w h => onlyN_q c w h) (.inl ⟨by rfl, fun W' hS' => ?_⟩) hS ?_
      · go_simp
      simp only [Act.put]
      refine wpAnyH_take (i := 20) (v := .int .i64 p) rfl (by kernel_rfl) (by kernel_rfl) (by kernel_rfl) (fun c a w h => onlyN_q c w h) (.inl ⟨by rfl, fun W' hS' => ?_⟩) hS ?_
      · go_simp
      simp only [Act.put]
      refine wpAnyH_ready (rs := [3, 15]) (by kernel_rfl) (by simp) (AllReadyH.cons rfl (fun K hK => ?_) (AllReadyH.cons rfl (fun K hK => ?_) AllReadyH.nil))
      · go_simp
        refine hK.out _ _ hS (fun hS => ?_)
        clear hK K
        refine wpAnyH_take (i := 4) (v := .int .i64 (ni : Int)) rfl (by kernel_rfl) (by kernel_rfl) (by kernel_rfl) (fun c a w h => onlyN_q c w h) (.inl ⟨by rfl, fun W' hS' => ?_⟩) hS ?_
        · go_simp
        simp only [Act.put]
        refine wpAnyH_take (i := 12) (v := .int .i64 (max (ni : Int) ((kq : Int) + (mi : Int)))) rfl (by kernel_rfl) (by kernel_rfl) (by kernel_rfl) (fun c a w h => onlyN_q c w h) (.inl ⟨by rfl, fun W' hS' => ?_⟩) hS ?_
        · go_simp
        simp only [Act.put]
        refine wpAnyH_ready (rs := [15]) (by kernel_rfl) (by simp) (AllReadyH.cons rfl (fun K hK => ?_) AllReadyH.nil)
        go_simp
        refine hK.out _ _ hS (fun hS => ?_)
        clear hK K
        refine wpAnyH_ready (rs := [21]) (by kernel_rfl) (by simp) (AllReadyH.cons rfl (fun K hK => ?_) AllReadyH.nil)
        go_simp
        refine (LSS.out _ (Below.refl _ _).drew).mono ?_
        rintro e6 w6 ⟨v6, rfl, E, ke, de, hs, rfl, hE, pE, hke, -, hb6'⟩
        have hb6 : Below wr.heap.size wr w6 := ((Below.refl _ _).drew).trans hb6'
        have hS6 : w6.cell? ⟨w.heap.size + 1, t, none⟩ = some (.slice Di mi di) := (hb6.cell (p := ⟨w.heap.size + 1, t, none⟩) hz4).trans GC4.out
        refine hK.out _ _ hS6 (fun hS => ?_)
        clear hK K hb6'
        have h3 := G3.out.below hb6
        have hcz := h3.cell t hlt
        rw [HXT.out] at hcz
        have hcz' : w6.cell? ⟨w.heap.size, t, none⟩ = some (.slice Ci ni ci) := hcz
        have hfz := h3.frozen t
        refine wpAnyH_take (i := 22) (v := .pointer (some ⟨w.heap.size, t, none⟩)) rfl (by kernel_rfl) (by kernel_rfl) (by kernel_rfl) (fun c a w h => onlyN_q c w h) (.inl ⟨by rfl, fun W' hS' => ?_⟩) hS ?_
        · go_simp
        simp only [Act.put]
        refine wpAnyH_ready (rs := [23]) (by kernel_rfl) (by simp) (AllReadyH.cons rfl (fun K hK => ?_) AllReadyH.nil)
        go_simp
        refine hK.out _ _ (sc_far (by simp) hS6) (fun _ => wpAnyH_done (by kernel_rfl) ⟨rfl, ?_⟩ _)
        clear hK hS
        have NXT := Lib.hid (eu_next hlt ht1 GREST.out GF0.out GEQ.out hE pE hK1 hke EQT.out GR1.out GROW.out G4.out G6.out GQ.out GB.out hb6 h3)
        clear hcz hcz' hfz h3 hE pE hb6 hS6
        go_wp2_with fail
        go_roundw
        case rel => exact ⟨t + 1, _, _, by omega, by omega, by go_num, NXT⟩
        case measure => simp [intOf]; omega
      · go_simp
        refine hK.out _ _ hS (fun hS => ?_)
        clear hK K
        refine wpAnyH_ready (rs := [3]) (by kernel_rfl) (by simp) (AllReadyH.cons rfl (fun K hK => ?_) AllReadyH.nil)
        go_simp
        refine hK.out _ _ hS (fun hS => ?_)
        clear hK K
        refine wpAnyH_take (i := 4) (v := .int .i64 (ni : Int)) rfl (by kernel_rfl) (by kernel_rfl) (by kernel_rfl) (fun c a w h => onlyN_q c w h) (.inl ⟨by rfl, fun W' hS' => ?_⟩) hS ?_
        · go_simp
        simp only [Act.put]
        refine wpAnyH_take (i := 12) (v := .int .i64 (max (ni : Int) ((kq : Int) + (mi : Int)))) rfl (by kernel_rfl) (by kernel_rfl) (by kernel_rfl) (fun c a w h => onlyN_q c w h) (.inl ⟨by rfl, fun W' hS' => ?_⟩) hS ?_
        · go_simp
        simp only [Act.put]
        refine wpAnyH_ready (rs := [21]) (by kernel_rfl) (by simp) (AllReadyH.cons rfl (fun K hK => ?_) AllReadyH.nil)
        go_simp
        refine (LSS.out _ (Below.refl _ _).drew).mono ?_
        rintro e6 w6 ⟨v6, rfl, E, ke, de, hs, rfl, hE, pE, hke, -, hb6'⟩
        have hb6 : Below wr.heap.size wr w6 := ((Below.refl _ _).drew).trans hb6'
        have hS6 : w6.cell? ⟨w.heap.size + 1, t, none⟩ = some (.slice Di mi di) := (hb6.cell (p := ⟨w.heap.size + 1, t, none⟩) hz4).trans GC4.out
        refine hK.out _ _ hS6 (fun hS => ?_)
        clear hK K hb6'
        have h3 := G3.out.below hb6
        have hcz := h3.cell t hlt
        rw [HXT.out] at hcz
        have hcz' : w6.cell? ⟨w.heap.size, t, none⟩ = some (.slice Ci ni ci) := hcz
        have hfz := h3.frozen t
        refine wpAnyH_take (i := 22) (v := .pointer (some ⟨w.heap.size, t, none⟩)) rfl (by kernel_rfl) (by kernel_rfl) (by kernel_rfl) (fun c a w h => onlyN_q c w h) (.inl ⟨by rfl, fun W' hS' => ?_⟩) hS ?_
        · go_simp
        simp only [Act.put]
        refine wpAnyH_ready (rs := [23]) (by kernel_rfl) (by simp) (AllReadyH.cons rfl (fun K hK => ?_) AllReadyH.nil)
        go_simp
        refine hK.out _ _ (sc_far (by simp) hS6) (fun _ => wpAnyH_done (by kernel_rfl) ⟨rfl, ?_⟩ _)
        clear hK hS
        have NXT := Lib.hid (eu_next hlt ht1 GREST.out GF0.out GEQ.out hE pE hK1 hke EQT.out GR1.out GROW.out G4.out G6.out GQ.out GB.out hb6 h3)
        clear hcz hcz' hfz h3 hE pE hb6 hS6
        go_wp2_with fail
        go_roundw
        case rel => exact ⟨t + 1, _, _, by omega, by omega, by go_num, NXT⟩
        case measure => simp [intOf]; omega
    · obtain rfl : t = 3 := by omega
      have k30 := g3.cell 0 (by omega)
      have k31 := g3.cell 1 (by omega)
      have k32 := g3.cell 2 (by omega)
      have k60 := g6.cell 0 (by omega)
      have k61 := g6.cell 1 (by omega)
      have k62 := g6.cell 2 (by omega)
      have l60 := g6.frozen 0
      have l61 := g6.frozen 1
      have l62 := g6.frozen 2
      have FIN := Lib.hid (eu_end PR.out hd2.out PRr.out.1 PQ.out hin.out)
      have GROW := Lib.hid grow
      have G6 := Lib.hid g6
      have GB := Lib.hid gb
      clear g3 g4 g6 grow gf0 geq grest gq gb hin
      simp only [sv] at k30 k31 k32 k60 k61 k62
      go_wp2_with fail
      have r0 := ((G6.out.set_ 0 (by omega) (X' 0)).set_ 1 (by omega) (X' 1)).set_ 2 (by omega) (X' 2)
      have q0 := r0.cell 0 (by omega)
      have q1 := r0.cell 1 (by omega)
      have q2 := r0.cell 2 (by omega)
      simp only [putR, if_true, sv] at q0 q1 q2
      exact bodyPost_ret (v := .agg #[sv (X' 0), sv (X' 1), sv (X' 2)]) (by simp [results, Tryz.results188, go_sem, q0, q1, q2, sv]) rfl ⟨X', F', rfl, ((GROW.out.far G6.out 0 _).far (G6.out.set_ 0 (by omega) (X' 0)) 1 _).far ((G6.out.set_ 0 (by omega) (X' 0)).set_ 1 (by omega) (X' 1)) 2 _, FIN.out.1, FIN.out.2,
        ((GB.out.setCell (p := ⟨w.heap.size + 1 + 1, 0, none⟩) (show w.heap.size ≤ w.heap.size + 1 + 1 by omega) _).setCell (p := ⟨w.heap.size + 1 + 1, 1, none⟩) (show w.heap.size ≤ w.heap.size + 1 + 1 by omega) _).setCell (p := ⟨w.heap.size + 1 + 1, 2, none⟩) (show w.heap.size ≤ w.heap.size + 1 + 1 by omega) _⟩
end Go.Proofs.YtnkhhndjbanmnaaGreatDoor

/- fpoly's Euclid: the last row, by its contracts. -/
namespace Go.Proofs.YtnkhhndjbanmnaaGreatDoor
open Go.RowKit Go.Shelf

def LrIn (h : Nat) (p : Int) (F G : Nat → List Int) (w wr : World) (N : Nat) (X' Y' : Nat → SV) (F' G' : Nat → List Int) : Prop :=
  ABlk wr h X' ∧ ABlk wr (h + 1) Y' ∧ ABlk wr (h + 1 + 1) (fun _ => nilS) ∧ RowP wr X' F' p N ∧ RowP wr Y' G' p N ∧ (F' 0).length ≤ 1000 ∧ (G' 0).length ≤ 1000 ∧ N + 1001 * (G' 0).length ≤ 2000000 ∧ (∀ o, EuRun p (rowS F') (rowS G') o → EuRun p (rowS F) (rowS G) o) ∧ Below h w wr
theorem lr_next {h : Nat} {p : Int} {F G : Nat → List Int} {w wr w6 : World} {N m : Nat} {X' Y' Z : Nat → SV} {F' G' H : Nat → List Int} (hp : Pr p) (hin : LrIn h p F G w wr N X' Y' F' G') (hm : (G' 0).length = m + 1) (ha : AfO p m (N + (F' 0).length + 1) F' G' wr Z H w6) (hh : w.heap.size = h) :
    LrIn h p F G w ((((((w6.setCell ⟨h, 0, none⟩ (sv (Y' 0))).setCell ⟨h, 1, none⟩ (sv (Y' 1))).setCell ⟨h, 2, none⟩ (sv (Y' 2))).setCell ⟨h + 1, 0, none⟩ (sv (Z 0))).setCell ⟨h + 1, 1, none⟩ (sv (Z 1))).setCell ⟨h + 1, 2, none⟩ (sv (Z 2))) (N + (F' 0).length + 1) Y' Z G' H := by
  obtain ⟨g3, g4, g6, gx, gy, l1, l2, l3, run, gb⟩ := hin
  obtain ⟨hz, ⟨q, hq, hbd, hs⟩, hl, hb6⟩ := ha
  have h2 := hp.1
  have hsz : h ≤ wr.heap.size := by rw [← hh]; exact gb.size
  have a3 := g3.below hb6
  have a4 := g4.below hb6
  have a6 := g6.below hb6
  have b1 := a3.set_ 0 (by omega) (Y' 0)
  have b2 := b1.set_ 1 (by omega) (Y' 1)
  have b3 := b2.set_ 2 (by omega) (Y' 2)
  have d3 := ((a4.far (p := ⟨h, 0, none⟩) (by simp) (sv (Y' 0))).far (p := ⟨h, 1, none⟩) (by simp) (sv (Y' 1))).far (p := ⟨h, 2, none⟩) (by simp) (sv (Y' 2))
  have d4 := d3.set_ 0 (by omega) (Z 0)
  have d5 := d4.set_ 1 (by omega) (Z 1)
  have d6 := d5.set_ 2 (by omega) (Z 2)
  have e6 := (((((a6.far (p := ⟨h, 0, none⟩) (by simp <;> omega) (sv (Y' 0))).far (p := ⟨h, 1, none⟩) (by simp <;> omega) (sv (Y' 1))).far (p := ⟨h, 2, none⟩) (by simp <;> omega) (sv (Y' 2))).far (p := ⟨h + 1, 0, none⟩) (by simp) (sv (Z 0))).far (p := ⟨h + 1, 1, none⟩) (by simp) (sv (Z 1))).far (p := ⟨h + 1, 2, none⟩) (by simp) (sv (Z 2))
  have FAR : ∀ {X : Nat → SV} {F : Nat → List Int} {M : Nat}, RowP w6 X F p M → RowP ((((((w6.setCell ⟨h, 0, none⟩ (sv (Y' 0))).setCell ⟨h, 1, none⟩ (sv (Y' 1))).setCell ⟨h, 2, none⟩ (sv (Y' 2))).setCell ⟨h + 1, 0, none⟩ (sv (Z 0))).setCell ⟨h + 1, 1, none⟩ (sv (Z 1))).setCell ⟨h + 1, 2, none⟩ (sv (Z 2))) X F p M :=
    fun r => (((((r.far a3 0 _).far b1 1 _).far b2 2 _).far d3 0 _).far d4 1 _).far d5 2 _
  have ht := (gy 0 (by omega)).2.1.top (by intro e; rw [e] at hm; simp at hm) (by omega)
  rw [hm, Nat.add_sub_cancel] at ht
  refine ⟨?_, ?_, e6, FAR ((gy.below hb6).mono (by omega)), FAR hz, l2, by omega, by omega, ?_, ?_⟩
  · have f3 := ((b3.far (p := ⟨h + 1, 0, none⟩) (by simp) (sv (Z 0))).far (p := ⟨h + 1, 1, none⟩) (by simp) (sv (Z 1))).far (p := ⟨h + 1, 2, none⟩) (by simp) (sv (Z 2))
    exact f3.congr (fun k hk => by match k, hk with | 0, _ => rfl | 1, _ => rfl | 2, _ => rfl)
  · exact d6.congr (fun k hk => by match k, hk with | 0, _ => rfl | 1, _ => rfl | 2, _ => rfl)
  · intro o ho
    exact run o (.step m q (by have := bd_len p (G' 0); rw [hm] at this; exact this) ht hq hbd hs ho)
  · have hb : Below h w w6 := gb.trans (hb6.mono hsz)
    exact (((((hb.setCell (p := ⟨h, 0, none⟩) (Nat.le_refl _) _).setCell (p := ⟨h, 1, none⟩) (Nat.le_refl _) _).setCell (p := ⟨h, 2, none⟩) (Nat.le_refl _) _).setCell (p := ⟨h + 1, 0, none⟩) (Nat.le_succ _) _).setCell (p := ⟨h + 1, 1, none⟩) (Nat.le_succ _) _).setCell (p := ⟨h + 1, 2, none⟩) (Nat.le_succ _) _
def headL (h : Nat) (w : World) : Nat := match w.cell? ⟨h, 0, none⟩ with
  | some (.slice _ n _) => n
  | _ => 0
theorem headL_at {h : Nat} {w : World} {X : Nat → SV} (hb : ABlk w h X) : headL h w = (X 0).2.1 := by
  unfold headL
  rw [hb.cell 0 (by omega)]
  rfl
def LrO (p : Int) (F G : Nat → List Int) (w : World) (Z : Nat → SV) (H : Nat → List Int) (w' : World) : Prop :=
  RowP w' Z H p 2000000 ∧ EuRun p (rowS F) (rowS G) (rowS H) ∧ Below w.heap.size w w'

end Go.Proofs.YtnkhhndjbanmnaaGreatDoor

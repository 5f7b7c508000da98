/- fpoly's Gcd and Bezout, by their contracts. -/
import Derived.Test.YtbipbpakbanacaaDoorPrgLast
import Derived.Deep.QuietTactic
import Derived.BigQuiet
namespace Go.Proofs.YtbipbpakbanacaaDoor
open Go.RowKit Go.Shelf

def rowG (f : List Int) : Nat → List Int := fun k => if k = 0 then f else []
def rowG_ (C : SV) : Nat → SV := fun k => if k = 0 then C else nilS
theorem rowP_G {w : World} {C : Option Addr} {n d : Nat} {fx : List Int} {p : Int} {N : Nat} (h : ISl w C n d fx) (hx : Pln p fx) (hn : n ≤ N) : RowP w (rowG_ (C, n, d)) (rowG fx) p N := by
  intro k hk
  match k, hk with
  | 0, _ => exact ⟨h, hx, hn⟩
  | 1, _ => exact ⟨isl_nil w, Pln.nil p, Nat.zero_le _⟩
  | 2, _ => exact ⟨isl_nil w, Pln.nil p, Nat.zero_le _⟩

theorem EuRun.heads {p : Int} {x y o : ERow} (h : EuRun p x y o) : ∀ {x' y' : ERow}, Ser.Eq p x.g x'.g → Ser.Eq p y.g y'.g → ∃ o', EuRun p x' y' o' ∧ Ser.Eq p o.g o'.g := by
  induction h with
  | @stop x y hb => exact fun hx hy => ⟨_, .stop (hb.eq hy), hx⟩
  | @step x y z o m q h1 h2 h3 h4 h5 _ ih =>
    intro x' y' hx hy
    have hz : Ser.Eq p z.g (x'.less q y').g := h5.1.trans (less_eq hx (Ser.Eq.refl _ _) hy)
    obtain ⟨o', r, e⟩ := ih hy hz
    exact ⟨o', .step m q (h1.eq hy) (by rw [← hy m]; exact h2) h3 (h4.eq hz) (ERow.Same.refl p _) r, e⟩
theorem EuRun.nought {p : Int} {x y o : ERow} (h : EuRun p x y o) (h0 : Ser.Bd p o.g 0) : o = x := by
  induction h with
  | stop _ => rfl
  | @step x y z o m q h1 h2 h3 h4 h5 _ ih =>
    have := ih h0
    subst this
    exact absurd (h0 m (Nat.zero_le _)) h2
theorem pln_end {p : Int} {xs : List Int} (hp : Pr p) (hx : Pln p xs) : (xs = [] ∧ ovl p xs = 1) ∨ ∃ m, Ser.Bd p (cf xs) (m + 1) ∧ cf xs m % p ≠ 0 ∧ ovl p xs = finv (cf xs m) p := by
  by_cases h0 : xs.length = 0
  · exact .inl ⟨List.eq_nil_of_length_eq_zero h0, by unfold ovl; rw [if_pos h0]⟩
  · obtain ⟨m, hm⟩ : ∃ m, xs.length = m + 1 := ⟨xs.length - 1, by omega⟩
    have h2 := hp.1
    have ht := hx.top (by intro e; rw [e] at hm; simp at hm) (by omega)
    rw [hm, Nat.add_sub_cancel] at ht
    refine .inr ⟨m, ?_, ht, ?_⟩
    · rw [← hm]; exact bd_len p xs
    · unfold ovl
      rw [if_neg h0, hm, Nat.add_sub_cancel]
theorem bez_gcd {p : Int} (hp : Pr p) {fx fy xs ys : List Int} {H : Nat → List Int} (px : Pol p fx (cf xs)) (py : Pol p fy (cf ys)) (h : EuRun p (rowS (rowG fx)) (rowS (rowG fy)) (rowS H)) (hx : Pln p (H 0)) :
    ∃ s t, IsBez p (cf xs) (cf ys) (Ser.sc (ovl p (H 0)) (cf (H 0))) s t := by
  obtain ⟨o, r, e⟩ := h.heads (x' := ⟨cf xs, Ser.con 1, Ser.zer⟩) (y' := ⟨cf ys, Ser.zer, Ser.con 1⟩) px.2 py.2
  have e0 : Ser.Eq p (cf (H 0)) o.g := e
  rcases pln_end hp hx with ⟨h0, h1⟩ | ⟨m, h1, h2, h3⟩
  · have hb : Ser.Bd p (cf (H 0)) 0 := by have := bd_len p (H 0); rwa [h0] at this ⊢
    refine ⟨Ser.con 1, Ser.zer, o, r, .inl ⟨hb.eq e0, ?_, Ser.Eq.refl _ _, fun i _ => by simp [Ser.zer]⟩⟩
    intro i _
    rw [h1, h0]
    show 1 * cf [] i % p = 0
    rw [cf_nil]; simp
  · refine ⟨Ser.sc (finv (o.g m) p) o.s, Ser.sc (finv (o.g m) p) o.t, o, r, .inr ⟨m, h1.eq e0, by rw [← e0 m]; exact h2, ?_, Ser.Eq.refl _ _, Ser.Eq.refl _ _⟩⟩
    rw [h3, ← finv_congr hp (e0 m)]
    exact Ser.Eq.sc rfl e0
theorem bez_all {p : Int} (hp : Pr p) {fx fy xs ys : List Int} {H : Nat → List Int} (px : Pol p fx (cf xs)) (py : Pol p fy (cf ys)) (h : EuRun p (rowS (rowX fx)) (rowS (rowY fy)) (rowS H)) (hx : Pln p (H 0)) :
    IsBez p (cf xs) (cf ys) (Ser.sc (ovl p (H 0)) (cf (H 0))) (Ser.sc (ovl p (H 0)) (cf (H 1))) (Ser.sc (ovl p (H 0)) (cf (H 2))) := by
  refine bez_run hp px py h ?_
  rcases pln_end hp hx with ⟨h0, h1⟩ | ⟨m, h1, h2, h3⟩
  · have hb : Ser.Bd p (cf (H 0)) 0 := by have := bd_len p (H 0); rwa [h0] at this ⊢
    have hh := h.nought hb
    have h2 : cf (H 1) = cf [1] := congrArg ERow.s hh
    have h3 : cf (H 2) = cf [] := congrArg ERow.t hh
    refine .inl ⟨hb, ?_, ?_, ?_⟩
    · intro i _
      rw [h1, h0]
      show 1 * cf [] i % p = 0
      rw [cf_nil]; simp
    · rw [h1, h2, cf_one]
      exact Ser.Eq.of (by funext i; show 1 * Ser.con 1 i = _; omega)
    · intro i _
      rw [h1, h3]
      show 1 * cf [] i % p = 0
      rw [cf_nil]; simp
  · rw [h3]
    exact .inr ⟨m, h1, h2, Ser.Eq.refl _ _, Ser.Eq.refl _ _, Ser.Eq.refl _ _⟩

set_option maxRecDepth 100000 in
set_option maxHeartbeats 4000000 in
theorem cGcd (A B : Option Addr) (n c n' c' : Nat) (xs ys : List Int) (p : Int) (w : World) (hT : TabAt w) (h : ISl w A n c xs) (h' : ISl w B n' c' ys) (ip : In64 p) (hn : n ≤ 1000) (hn' : n' ≤ 1000) :
    Calls Tryd.prog 33 #[.slice A n c, .slice B n' c', .int .i64 p] w fun e w' => ∃ C m d, e = .returned (.tuple #[.slice C m d, .int .i64 (chk p)]) ∧ Got w C m d (bezG p (cf xs) (cf ys)) 2000000 w' := by
  have C := pCheck_any p w ip.1 ip.2 hT
  rcases Classical.em (Pr p) with hp | hp
  · rw [chk_yes (primB_yes hp)] at C ⊢
    have CC := Lib.hid C
    have PR := Lib.hid hp
    have HT := Lib.hid hT
    have P1 := Lib.hid (fun W (hb : Below w.heap.size w W) => pPlain_any A n c xs p W (h.below hb) hp.md (by omega))
    have P2 := Lib.hid (fun W (hb : Below w.heap.size w W) => pPlain_any B n' c' ys p W (h'.below hb) hp.md (by omega))
    clear C h h' hT hp
    go_enter Tryd.func33, Tryd.ntmps33
    go_wp2_with (go_at_call 36; (with_reducible refine CC.out.mono ?_); rintro e w1 ⟨rfl, rfl⟩)
    refine (P1.out _ (Below.refl _ _)).mono ?_
    rintro e w2 ⟨v1, rfl, X, m1, d1, fx, rfl, hX, px, hm1, -, hb2⟩
    have L1 := Lib.hid hX.len
    have HX := Lib.hid hX
    have PX := Lib.hid px
    have HB2 := Lib.hid hb2
    clear hX px hb2 CC P1
    go_wp2_with fail
    refine (P2.out _ HB2.out).mono ?_
    rintro e w3 ⟨v2, rfl, Y, m2, d2, fy, rfl, hY, py, hm2, -, hb3⟩
    have L2 := Lib.hid hY.len
    have PY := Lib.hid py
    have HB3 := Lib.hid (HB2.out.trans (hb3.mono HB2.out.size))
    have LL := Lib.hid (show Calls Tryd.prog 59 #[.agg #[.slice X m1 d1, .slice none 0 0, .slice none 0 0], .agg #[.slice Y m2 d2, .slice none 0 0, .slice none 0 0], .int .i64 p] w3 (fun e w' => ∃ Z H, e = .returned (.agg #[sv (Z 0), sv (Z 1), sv (Z 2)]) ∧ LrO p (rowG fx) (rowG fy) w3 Z H w') from
      pLast_any (rowG_ (X, m1, d1)) (rowG_ (Y, m2, d2)) (rowG fx) (rowG fy) p w3 (HT.out.below HB3.out) (rowP_G (HX.out.below hb3) PX.out.1 (by omega)) (rowP_G hY py.1 (by omega)) PR.out (show fx.length ≤ 1000 by rw [← L1.out]; omega) (show fy.length ≤ 1000 by rw [← L2.out]; omega))
    clear hY py hb3 P2 HX HB2
    go_wp2_with fail
    refine LL.out.mono ?_
    rintro e w4 ⟨Z, H, rfl, hz, run, hb4⟩
    obtain ⟨Z0, k0, d0, hZ0⟩ : ∃ C n c, Z 0 = (C, n, c) := ⟨(Z 0).1, (Z 0).2.1, (Z 0).2.2, rfl⟩
    obtain ⟨z1, z2, z3⟩ := hz.one 0 (by omega) hZ0
    have HB4 := Lib.hid (HB3.out.trans (hb4.mono HB3.out.size))
    have MM := Lib.hid (fun W (hb : Below w4.heap.size w4 W) => pMonic_any Z0 k0 d0 (H 0) p W ((HT.out.below HB4.out).below hb) (z1.below hb) PR.out z2 (by omega))
    obtain ⟨s, t, hbz⟩ := bez_gcd PR.out PX.out PY.out run z2
    have BZ := Lib.hid hbz
    have K9 := Lib.hid z3
    clear hz run hb4 z1 z2 LL HB3 PX PY hbz
    simp only [hZ0, sv]
    go_wp2_with fail
    refine (MM.out _ (below_al _ _)).mono ?_
    rintro e w5 ⟨v, rfl, ho⟩
    have HO := Lib.hid ho
    clear ho MM
    go_wp2_with fail
    go_ret2
    have hb5 := HB4.out.trans ((below_al w4 (.cells #[.slice Z0 k0 d0, .slice (Z 1).1 (Z 1).2.1 (Z 1).2.2, .slice (Z 2).1 (Z 2).2.1 (Z 2).2.2] 63)).mono HB4.out.size)
    obtain ⟨C, k, d, rfl, hg⟩ := polIn_got (L := bezG p (cf xs) (cf ys)) HO.out.in_.1 (hb5.trans (HO.out.in_.2.mono hb5.size)) K9.out (fun zs hz => bezG_is PR.out BZ.out hz)
    exact ⟨C, k, d, rfl, hg⟩
  · rw [chk_no (primB_no hp)] at C ⊢
    have CC := Lib.hid C
    have NO := Lib.hid hp
    clear C h h' ip hT hp
    go_enter Tryd.func33, Tryd.ntmps33
    go_wp2_with (go_at_call 36; (with_reducible refine CC.out.mono ?_); rintro e w1 ⟨rfl, rfl⟩)
    go_ret2
    exact ⟨none, 0, 0, rfl, got_nil (Below.refl _ _) (bezG_no NO.out)⟩

def rowX_ (C D : SV) : Nat → SV := fun k => if k = 0 then C else if k = 1 then D else nilS
def rowY_ (C D : SV) : Nat → SV := fun k => if k = 0 then C else if k = 1 then nilS else D
theorem rowP_X {w : World} {C E : Option Addr} {n d : Nat} {fx : List Int} {p : Int} {N : Nat} (hp : Pr p) (h : ISl w C n d fx) (hx : Pln p fx) (hn : n ≤ N) (h1 : ISl w E 1 1 [1]) (hN : 1 ≤ N) : RowP w (rowX_ (C, n, d) (E, 1, 1)) (rowX fx) p N := by
  intro k hk
  match k, hk with
  | 0, _ => exact ⟨h, hx, hn⟩
  | 1, _ => exact ⟨h1, (pol_one hp).1, hN⟩
  | 2, _ => exact ⟨isl_nil w, Pln.nil p, Nat.zero_le _⟩
theorem rowP_Y {w : World} {C E : Option Addr} {n d : Nat} {fx : List Int} {p : Int} {N : Nat} (hp : Pr p) (h : ISl w C n d fx) (hx : Pln p fx) (hn : n ≤ N) (h1 : ISl w E 1 1 [1]) (hN : 1 ≤ N) : RowP w (rowY_ (C, n, d) (E, 1, 1)) (rowY fx) p N := by
  intro k hk
  match k, hk with
  | 0, _ => exact ⟨h, hx, hn⟩
  | 1, _ => exact ⟨isl_nil w, Pln.nil p, Nat.zero_le _⟩
  | 2, _ => exact ⟨h1, (pol_one hp).1, hN⟩
/-- So many of Bezout's three are made. -/
def BzIn (B : Nat) (p ov : Int) (N : Nat) (H : Nat → List Int) (t : Nat) (X' : Nat → SV) (F' : Nat → List Int) (w wr : World) : Prop :=
  ABlk wr B X' ∧ RowP wr X' F' p N ∧ (∀ k, k < t → Ser.Eq p (cf (F' k)) (Ser.sc ov (cf (H k)))) ∧ (∀ k, t ≤ k → k < 3 → F' k = H k) ∧ Below w.heap.size w wr
theorem bz_next {B : Nat} {p ov : Int} {N : Nat} {H : Nat → List Int} {t : Nat} {X' : Nat → SV} {F' : Nat → List Int} {w wr w6 : World} {C : Option Addr} {m d : Nat} {zs : List Int} (ht : t < 3) (hin : BzIn B p ov N H t X' F' w wr) (hI : ISl w6 C m d zs) (hP : Pol p zs (Ser.sc ov (cf (F' t)))) (hm : m ≤ N) (hb6 : Below wr.heap.size wr w6) (hB : w.heap.size ≤ B) :
    BzIn B p ov N H (t + 1) (putR X' t (C, m, d)) (putF F' t zs) w (w6.setCell ⟨B, t, none⟩ (.slice C m d)) := by
  obtain ⟨a, b, c, e, g⟩ := hin
  have h3 := a.below hb6
  refine ⟨h3.set_ t ht (C, m, d), ((b.below hb6).far h3 t _).put t (hI.far (isl_arr hI h3) t _) hP.1 hm, ?_, ?_, ?_⟩
  · intro k hk
    by_cases hkt : k = t
    · subst hkt
      rw [putF_at, ← e k (Nat.le_refl _) ht]
      exact hP.2.symm.symm
    · rw [putF_ne _ _ hkt]; exact c k (by omega)
  · intro k h1 h2
    rw [putF_ne _ _ (by omega)]; exact e k (by omega) h2
  · exact (g.trans (hb6.mono g.size)).setCell (p := ⟨B, t, none⟩) hB _
theorem got_drewN {W w' : World} {C : Option Addr} {m d : Nat} {L : List Int} {N : Nat} (h : Got W C m d L N w') (k : Nat) : Got W C m d L N (w'.drewN k) :=
  ⟨h.1.below (ibelow_drewN (Below.refl _ _) k), h.2.1, ibelow_drewN h.2.2 k⟩
theorem BzIn.below {B : Nat} {p ov : Int} {N : Nat} {H : Nat → List Int} {t : Nat} {X' : Nat → SV} {F' : Nat → List Int} {w wr w' : World} (h : BzIn B p ov N H t X' F' w wr) (hb : Below wr.heap.size wr w') : BzIn B p ov N H t X' F' w w' := by
  obtain ⟨a, b, c, e, g⟩ := h
  exact ⟨a.below hb, b.below hb, c, e, g.trans (hb.mono g.size)⟩

set_option maxRecDepth 100000 in
set_option maxHeartbeats 8000000 in
theorem cBezout (A B : Option Addr) (n c n' c' : Nat) (xs ys : List Int) (p : Int) (w : World) (hT : TabAt w) (h : ISl w A n c xs) (h' : ISl w B n' c' ys) (ip : In64 p) (hn : n ≤ 1000) (hn' : n' ≤ 1000) :
    Calls Tryd.prog 31 #[.slice A n c, .slice B n' c', .int .i64 p] w fun e w' => ∃ C1 m1 d1 C2 m2 d2 C3 m3 d3, e = .returned (.tuple #[.slice C1 m1 d1, .slice C2 m2 d2, .slice C3 m3 d3, .int .i64 (chk p)]) ∧ Got w C1 m1 d1 (bezG p (cf xs) (cf ys)) 2000000 w' ∧ Got w C2 m2 d2 (bezS p (cf xs) (cf ys)) 2000000 w' ∧ Got w C3 m3 d3 (bezT p (cf xs) (cf ys)) 2000000 w' := by
  have C := pCheck_any p w ip.1 ip.2 hT
  rcases Classical.em (Pr p) with hp | hp
  · rw [chk_yes (primB_yes hp)] at C ⊢
    have CC := Lib.hid C
    have PR := Lib.hid hp
    have HT := Lib.hid hT
    have P1 := Lib.hid (fun W (hb : Below w.heap.size w W) => pPlain_any A n c xs p W (h.below hb) hp.md (by omega))
    have P2 := Lib.hid (fun W (hb : Below w.heap.size w W) => pPlain_any B n' c' ys p W (h'.below hb) hp.md (by omega))
    clear C h h' hT hp
    go_enter Tryd.func31, Tryd.ntmps31
    go_wp2_with (go_at_call 36; (with_reducible refine CC.out.mono ?_); rintro e w1 ⟨rfl, rfl⟩)
    refine (P1.out _ (Below.refl _ _)).mono ?_
    rintro e w2 ⟨v1, rfl, X, m1, d1, fx, rfl, hX, px, hm1, -, hb2⟩
    have L1 := Lib.hid hX.len
    have PX := Lib.hid px
    have hba := below_al w2 (Obj.cells #[Value.int IntKind.i64 1] 3)
    have HB2 := Lib.hid (hb2.trans (hba.mono hb2.size))
    have HX := Lib.hid (hX.below hba)
    have HK := Lib.hid ((iblk_list w2 [1] (fi_one (by unfold In64; decide))).sl (by simp))
    clear hX px hb2 CC P1 hba
    go_wp2_with fail
    refine (P2.out _ HB2.out).mono ?_
    rintro e w3 ⟨v2, rfl, Y, m2, d2, fy, rfl, hY, py, hm2, -, hb3⟩
    have L2 := Lib.hid hY.len
    have PY := Lib.hid py
    have hba := below_al w3 (Obj.cells #[Value.int IntKind.i64 1] 3)
    have hb3' := hb3.trans (hba.mono hb3.size)
    have HB3 := Lib.hid (HB2.out.trans (hb3'.mono HB2.out.size))
    have hk3 := (iblk_list w3 [1] (fi_one (by unfold In64; decide))).sl (by simp)
    have LL := Lib.hid (show Calls Tryd.prog 59 #[.agg #[.slice X m1 d1, .slice (some ⟨w2.heap.size, 0, none⟩) 1 1, .slice none 0 0], .agg #[.slice Y m2 d2, .slice none 0 0, .slice (some ⟨w3.heap.size, 0, none⟩) 1 1], .int .i64 p] (w3.alloc (Obj.cells #[Value.int IntKind.i64 1] 3)) (fun e w' => ∃ Z H, e = .returned (.agg #[sv (Z 0), sv (Z 1), sv (Z 2)]) ∧ LrO p (rowX fx) (rowY fy) (w3.alloc (Obj.cells #[Value.int IntKind.i64 1] 3)) Z H w') from
      pLast_any (rowX_ (X, m1, d1) (some ⟨w2.heap.size, 0, none⟩, 1, 1)) (rowY_ (Y, m2, d2) (some ⟨w3.heap.size, 0, none⟩, 1, 1)) (rowX fx) (rowY fy) p _ (HT.out.below HB3.out) (rowP_X PR.out (HX.out.below hb3') PX.out.1 (by omega) (HK.out.below hb3') (by omega)) (rowP_Y PR.out (hY.below hba) py.1 (by omega) hk3 (by omega)) PR.out (show fx.length ≤ 1000 by rw [← L1.out]; omega) (show fy.length ≤ 1000 by rw [← L2.out]; omega))
    clear hY py hb3 P2 HX HB2 hba hb3' hk3 HK
    go_wp2_with fail
    refine LL.out.mono ?_
    rintro e w4 ⟨Z, H, rfl, hz, run, hb4⟩
    obtain ⟨Z0, k0, d0, hZ0⟩ : ∃ C n c, Z 0 = (C, n, c) := ⟨(Z 0).1, (Z 0).2.1, (Z 0).2.2, rfl⟩
    obtain ⟨z1, z2, z3⟩ := hz.one 0 (by omega) hZ0
    have HB4 := Lib.hid (HB3.out.trans (hb4.mono HB3.out.size))
    have hba := below_al w4 (.cells #[sv (Z 0), sv (Z 1), sv (Z 2)] 63)
    have HB5 := Lib.hid (HB4.out.trans (hba.mono HB4.out.size))
    have OV := Lib.hid (pOver_any Z0 k0 d0 (H 0) p (w4.alloc (.cells #[sv (Z 0), sv (Z 1), sv (Z 2)] 63)) (HT.out.below HB5.out) (z1.below hba) PR.out z2)
    have BD := Lib.hid (ovl_bd PR.out z2)
    have BZ := Lib.hid (bez_all PR.out PX.out PY.out run z2)
    have IN0 := Lib.hid (show BzIn w4.heap.size p (ovl p (H 0)) 2000000 H 0 Z H w (w4.alloc (.cells #[sv (Z 0), sv (Z 1), sv (Z 2)] 63)) from ⟨ABlk.new w4 Z, hz.below hba, fun k hk => absurd hk (Nat.not_lt_zero _), fun _ _ _ => rfl, HB5.out⟩)
    have SZ := Lib.hid (show w.heap.size ≤ w4.heap.size from HB4.out.size)
    clear hz run hb4 z1 z2 z3 LL HB3 PX PY hba HB4
    simp only [hZ0, sv] at OV IN0 ⊢
    generalize ovl p (H 0) = ov at *
    go_wp2_with fail
    generalize w4.alloc (Obj.cells #[Value.slice Z0 k0 d0, Value.slice (Z 1).fst (Z 1).snd.fst (Z 1).snd.snd, Value.slice (Z 2).fst (Z 2).snd.fst (Z 2).snd.snd] 63) = w5 at *
    generalize w4.heap.size = b at *
    clear L1 L2 hZ0
    refine OV.out.mono ?_
    rintro e w6 ⟨rfl, hb6⟩
    have IN1 := Lib.hid (IN0.out.below hb6)
    clear IN0 hb6 OV
    go_wp2_with fail
    go_loopw [35] (fun i wr => ∃ (t : Nat) (X' : Nat → SV) (F' : Nat → List Int), t ≤ 3 ∧ i = .int .i64 (t : Int) ∧ Hid (BzIn b p ov 2000000 H t X' F' w wr)) (fun i _ => 3 - (intOf i).toNat)
    case atStart => exact ⟨0, _, _, by omega, rfl, IN1⟩
    case round =>
      clear IN1
      obtain ⟨t, X', F', ht3, rfl, hin⟩ := hrel
      by_cases hlt : t < 3
      · obtain ⟨g3, gx, gd, gr, gb⟩ := hin.out
        obtain ⟨Ci, ni, ci, hXt⟩ : ∃ C n c, X' t = (C, n, c) := ⟨(X' t).1, (X' t).2.1, (X' t).2.2, rfl⟩
        obtain ⟨x1, x2, x3⟩ := gx.one t hlt hXt
        have hc3 := g3.cell t hlt
        rw [hXt] at hc3
        simp only [sv] at hc3
        have TM := Lib.hid (pTimes_any Ci ni ci ov (F' t) p wr x1 PR.out.md BD.out x2.1 (by omega))
        have G3 := Lib.hid g3
        have X3 := Lib.hid x3
        have i1 : (0 : Int) ≤ (t : Int) := by omega
        have i2 : (t : Int) < 3 := by omega
        clear g3 gx gd gr gb x1 x2 x3 hXt
        go_wp2_with fail
        refine TM.out.mono ?_
        rintro e w7 ⟨v, rfl, C, m, d, zs, rfl, hz, pz, hm, -, hb7⟩
        have A3 := Lib.hid (G3.out.below hb7)
        have c3 := A3.out.cell t hlt
        have f3 := A3.out.frozen t
        have NX := Lib.hid (bz_next hlt hin.out hz pz (Nat.le_trans hm X3.out) hb7 SZ.out)
        clear hz pz hm hb7 TM G3
        simp only [sv] at c3
        go_wp2_with fail
        exact ⟨⟨t + 1, _, _, by omega, by go_num, NX⟩, by simp [intOf]; omega⟩
      · obtain rfl : t = 3 := by omega
        obtain ⟨g3, gx, gd, gr, gb⟩ := hin.out
        have k30 := g3.cell 0 (by omega)
        have k31 := g3.cell 1 (by omega)
        have k32 := g3.cell 2 (by omega)
        have GX := Lib.hid gx
        have GD := Lib.hid gd
        have GB := Lib.hid gb
        clear g3 gx gd gr gb hin
        simp only [sv] at k30 k31 k32
        go_wp2_with fail
        go_quiet (fail)
        go_wp2_with fail
        (try simp only [Exit.inBlock, Exit.then]); refine bodyPost_ret (results_tmp4 rfl _ _ _) rfl ?_
        have one : ∀ k, k < 3 → PolIn p (Ser.sc ov (cf (H k))) 2000000 wr (.slice (X' k).1 (X' k).2.1 (X' k).2.2) := fun k hk => ⟨_, _, _, F' k, rfl, (GX.out k hk).1, ⟨(GX.out k hk).2.1, GD.out k hk⟩, (GX.out k hk).2.2⟩
        obtain ⟨C1, m1, d1, e1, g1⟩ := polIn_got (L := bezG p (cf xs) (cf ys)) (one 0 (by omega)) GB.out (Nat.le_refl _) (fun zs hz => bezG_is PR.out BZ.out hz)
        obtain ⟨C2, m2, d2, e2, g2⟩ := polIn_got (L := bezS p (cf xs) (cf ys)) (one 1 (by omega)) GB.out (Nat.le_refl _) (fun zs hz => bezS_is PR.out BZ.out hz)
        obtain ⟨C3, m3, d3, e3, g3⟩ := polIn_got (L := bezT p (cf xs) (cf ys)) (one 2 (by omega)) GB.out (Nat.le_refl _) (fun zs hz => bezT_is PR.out BZ.out hz)
        exact ⟨C1, m1, d1, C2, m2, d2, C3, m3, d3, by rw [← e1, ← e2, ← e3] <;> rfl, got_drewN g1 _, got_drewN g2 _, got_drewN g3 _⟩
  · rw [chk_no (primB_no hp)] at C ⊢
    have CC := Lib.hid C
    have NO := Lib.hid hp
    clear C h h' ip hT hp
    go_enter Tryd.func31, Tryd.ntmps31
    go_wp2_with (go_at_call 36; (with_reducible refine CC.out.mono ?_); rintro e w1 ⟨rfl, rfl⟩)
    (try simp only [Exit.inBlock, Exit.then]); refine bodyPost_ret (results_tmp4 rfl _ _ _) rfl ?_
    exact ⟨none, 0, 0, none, 0, 0, none, 0, 0, rfl, got_nil (Below.refl _ _) (bezG_no NO.out), got_nil (Below.refl _ _) (bezS_no NO.out), got_nil (Below.refl _ _) (bezT_no NO.out)⟩
end Go.Proofs.YtbipbpakbanacaaDoor

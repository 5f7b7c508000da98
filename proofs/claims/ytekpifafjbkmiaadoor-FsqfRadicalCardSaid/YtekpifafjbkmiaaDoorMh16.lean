/- Texts joined, in their order: PrgBez, PolEqs, PolEx. -/
import Derived.Deep.QuietTactic
import Derived.BigQuiet
import Derived.Test.YtekpifafjbkmiaaDoorMh12
import Derived.Test.YtekpifafjbkmiaaDoorMh15

/- fpoly's Gcd and Bezout, by their contracts. -/
namespace Go.Proofs.YtekpifafjbkmiaaDoor
open Go.RowKit Go.Shelf

def rowG (f : List Int) : Nat → List Int := fun k => if k = 0 then f else []
def rowG_ (C : SV) : Nat → SV := fun k => if k = 0 then C else nilS
theorem rowP_G {w : World} {C : Option Addr} {n d : Nat} {fx : List Int} {p : Int} {N : Nat} (h : ISl w C n d fx) (hx : Pln p fx) (hn : n ≤ N) : RowP w (rowG_ (C, n, d)) (rowG fx) p N := by
  intro k hk
  match k, hk with
  | 0, _ => exact ⟨h, hx, hn⟩
  | 1, _ => exact ⟨isl_nil w, Pln.nil p, Nat.zero_le _⟩
  | 2, _ => exact ⟨isl_nil w, Pln.nil p, Nat.zero_le _⟩

theorem EuRun.heads {p : Int} {x y o : ERow} (h : EuRun p x y o) : ∀ {x' y' : ERow}, Ser.Eq p x.g x'.g → Ser.Eq p y.g y'.g → ∃ o', EuRun p x' y' o' ∧ Ser.Eq p o.g o'.g := by
  induction h with
  | @stop x y hb => exact fun hx hy => ⟨_, .stop (hb.eq hy), hx⟩
  | @step x y z o m q h1 h2 h3 h4 h5 _ ih =>
    intro x' y' hx hy
    have hz : Ser.Eq p z.g (x'.less q y').g := h5.1.trans (less_eq hx (Ser.Eq.refl _ _) hy)
    obtain ⟨o', r, e⟩ := ih hy hz
    exact ⟨o', .step m q (h1.eq hy) (by rw [← hy m]; exact h2) h3 (h4.eq hz) (ERow.Same.refl p _) r, e⟩
theorem EuRun.nought {p : Int} {x y o : ERow} (h : EuRun p x y o) (h0 : Ser.Bd p o.g 0) : o = x := by
  induction h with
  | stop _ => rfl
  | @step x y z o m q h1 h2 h3 h4 h5 _ ih =>
    have := ih h0
    subst this
    exact absurd (h0 m (Nat.zero_le _)) h2
theorem pln_end {p : Int} {xs : List Int} (hp : Pr p) (hx : Pln p xs) : (xs = [] ∧ ovl p xs = 1) ∨ ∃ m, Ser.Bd p (cf xs) (m + 1) ∧ cf xs m % p ≠ 0 ∧ ovl p xs = finv (cf xs m) p := by
  by_cases h0 : xs.length = 0
  · exact .inl ⟨List.eq_nil_of_length_eq_zero h0, by unfold ovl; rw [if_pos h0]⟩
  · obtain ⟨m, hm⟩ : ∃ m, xs.length = m + 1 := ⟨xs.length - 1, by omega⟩
    have h2 := hp.1
    have ht := hx.top (by intro e; rw [e] at hm; simp at hm) (by omega)
    rw [hm, Nat.add_sub_cancel] at ht
    refine .inr ⟨m, ?_, ht, ?_⟩
    · rw [← hm]; exact bd_len p xs
    · unfold ovl
      rw [if_neg h0, hm, Nat.add_sub_cancel]
theorem bez_gcd {p : Int} (hp : Pr p) {fx fy xs ys : List Int} {H : Nat → List Int} (px : Pol p fx (cf xs)) (py : Pol p fy (cf ys)) (h : EuRun p (rowS (rowG fx)) (rowS (rowG fy)) (rowS H)) (hx : Pln p (H 0)) :
    ∃ s t, IsBez p (cf xs) (cf ys) (Ser.sc (ovl p (H 0)) (cf (H 0))) s t := by
  obtain ⟨o, r, e⟩ := h.heads (x' := ⟨cf xs, Ser.con 1, Ser.zer⟩) (y' := ⟨cf ys, Ser.zer, Ser.con 1⟩) px.2 py.2
  have e0 : Ser.Eq p (cf (H 0)) o.g := e
  rcases pln_end hp hx with ⟨h0, h1⟩ | ⟨m, h1, h2, h3⟩
  · have hb : Ser.Bd p (cf (H 0)) 0 := by have := bd_len p (H 0); rwa [h0] at this ⊢
    refine ⟨Ser.con 1, Ser.zer, o, r, .inl ⟨hb.eq e0, ?_, Ser.Eq.refl _ _, fun i _ => by simp [Ser.zer]⟩⟩
    intro i _
    rw [h1, h0]
    show 1 * cf [] i % p = 0
    rw [cf_nil]; simp
  · refine ⟨Ser.sc (finv (o.g m) p) o.s, Ser.sc (finv (o.g m) p) o.t, o, r, .inr ⟨m, h1.eq e0, by rw [← e0 m]; exact h2, ?_, Ser.Eq.refl _ _, Ser.Eq.refl _ _⟩⟩
    rw [h3, ← finv_congr hp (e0 m)]
    exact Ser.Eq.sc rfl e0
theorem bez_all {p : Int} (hp : Pr p) {fx fy xs ys : List Int} {H : Nat → List Int} (px : Pol p fx (cf xs)) (py : Pol p fy (cf ys)) (h : EuRun p (rowS (rowX fx)) (rowS (rowY fy)) (rowS H)) (hx : Pln p (H 0)) :
    IsBez p (cf xs) (cf ys) (Ser.sc (ovl p (H 0)) (cf (H 0))) (Ser.sc (ovl p (H 0)) (cf (H 1))) (Ser.sc (ovl p (H 0)) (cf (H 2))) := by
  refine bez_run hp px py h ?_
  rcases pln_end hp hx with ⟨h0, h1⟩ | ⟨m, h1, h2, h3⟩
  · have hb : Ser.Bd p (cf (H 0)) 0 := by have := bd_len p (H 0); rwa [h0] at this ⊢
    have hh := h.nought hb
    have h2 : cf (H 1) = cf [1] := congrArg ERow.s hh
    have h3 : cf (H 2) = cf [] := congrArg ERow.t hh
    refine .inl ⟨hb, ?_, ?_, ?_⟩
    · intro i _
      rw [h1, h0]
      show 1 * cf [] i % p = 0
      rw [cf_nil]; simp
    · rw [h1, h2, cf_one]
      exact Ser.Eq.of (by funext i; show 1 * Ser.con 1 i = _; omega)
    · intro i _
      rw [h1, h3]
      show 1 * cf [] i % p = 0
      rw [cf_nil]; simp
  · rw [h3]
    exact .inr ⟨m, h1, h2, Ser.Eq.refl _ _, Ser.Eq.refl _ _, Ser.Eq.refl _ _⟩

set_option maxRecDepth 100000 in
set_option maxRecDepth 100000 in
set_option maxHeartbeats 4000000 in
theorem cGcd_new (A B : Option Addr) (n c n' c' : Nat) (xs ys : List Int) (p : Int) (w : World) (hT : TabAt w) (h : ISl w A n c xs) (h' : ISl w B n' c' ys) (ip : In64 p) (hn : n ≤ 1000) (hn' : n' ≤ 1000) :
    Calls Tryd.prog 21 #[.slice A n c, .slice B n' c', .int .i64 p] w fun e w' => ∃ C m d, e = .returned (.tuple #[.slice C m d, .int .i64 (chk p)]) ∧ Got w C m d (bezG p (cf xs) (cf ys)) 2000000 w' ∧ FreshA w C := by
  have C := pCheck_any p w ip.1 ip.2 hT
  rcases Classical.em (Pr p) with hp | hp
  · rw [chk_yes (primB_yes hp)] at C ⊢
    have CC := Lib.hid C
    have PR := Lib.hid hp
    have HT := Lib.hid hT
    have P1 := Lib.hid (fun W (hb : Below w.heap.size w W) => pPlain_any A n c xs p W (h.below hb) hp.md (by omega))
    have P2 := Lib.hid (fun W (hb : Below w.heap.size w W) => pPlain_any B n' c' ys p W (h'.below hb) hp.md (by omega))
    clear C h h' hT hp
    go_enter Tryd.func21, Tryd.ntmps21
    go_wp2_with (go_at_call 33; (with_reducible refine CC.out.mono ?_); rintro e w1 ⟨rfl, rfl⟩)
    refine (P1.out _ (Below.refl _ _)).mono ?_
    rintro e w2 ⟨v1, rfl, X, m1, d1, fx, rfl, hX, px, hm1, -, hb2⟩
    have L1 := Lib.hid hX.len
    have HX := Lib.hid hX
    have PX := Lib.hid px
    have HB2 := Lib.hid hb2
    clear hX px hb2 CC P1
    go_wp2_with fail
    refine (P2.out _ HB2.out).mono ?_
    rintro e w3 ⟨v2, rfl, Y, m2, d2, fy, rfl, hY, py, hm2, -, hb3⟩
    have L2 := Lib.hid hY.len
    have PY := Lib.hid py
    have HB3 := Lib.hid (HB2.out.trans (hb3.mono HB2.out.size))
    have LL := Lib.hid (show Calls Tryd.prog 39 #[.agg #[.slice X m1 d1, .slice none 0 0, .slice none 0 0], .agg #[.slice Y m2 d2, .slice none 0 0, .slice none 0 0], .int .i64 p] w3 (fun e w' => ∃ Z H, e = .returned (.agg #[sv (Z 0), sv (Z 1), sv (Z 2)]) ∧ LrO p (rowG fx) (rowG fy) w3 Z H w') from
      pLast_any (rowG_ (X, m1, d1)) (rowG_ (Y, m2, d2)) (rowG fx) (rowG fy) p w3 (HT.out.below HB3.out) (rowP_G (HX.out.below hb3) PX.out.1 (by omega)) (rowP_G hY py.1 (by omega)) PR.out (show fx.length ≤ 1000 by rw [← L1.out]; omega) (show fy.length ≤ 1000 by rw [← L2.out]; omega))
    clear hY py hb3 P2 HX HB2
    go_wp2_with fail
    refine LL.out.mono ?_
    rintro e w4 ⟨Z, H, rfl, hz, run, hb4⟩
    obtain ⟨Z0, k0, d0, hZ0⟩ : ∃ C n c, Z 0 = (C, n, c) := ⟨(Z 0).1, (Z 0).2.1, (Z 0).2.2, rfl⟩
    obtain ⟨z1, z2, z3⟩ := hz.one 0 (by omega) hZ0
    have HB4 := Lib.hid (HB3.out.trans (hb4.mono HB3.out.size))
    have MM := Lib.hid (fun W (hb : Below w4.heap.size w4 W) => pMonic_any Z0 k0 d0 (H 0) p W ((HT.out.below HB4.out).below hb) (z1.below hb) PR.out z2 (by omega))
    obtain ⟨s, t, hbz⟩ := bez_gcd PR.out PX.out PY.out run z2
    have BZ := Lib.hid hbz
    have K9 := Lib.hid z3
    clear hz run hb4 z1 z2 LL HB3 PX PY hbz
    simp only [hZ0, sv]
    go_wp2_with fail
    refine (MM.out _ (below_al _ _)).mono ?_
    rintro e w5 ⟨v, rfl, ho⟩
    have HO := Lib.hid ho
    clear ho MM
    go_wp2_with fail
    go_ret2
    have hb5 := HB4.out.trans ((below_al w4 (.cells #[.slice Z0 k0 d0, .slice (Z 1).1 (Z 1).2.1 (Z 1).2.2, .slice (Z 2).1 (Z 2).2.1 (Z 2).2.2] 57)).mono HB4.out.size)
    obtain ⟨C, k, d, rfl, hg⟩ := polIn_got (L := bezG p (cf xs) (cf ys)) HO.out.in_.1 (hb5.trans (HO.out.in_.2.mono hb5.size)) K9.out (fun zs hz => bezG_is PR.out BZ.out hz)
    exact ⟨C, k, d, rfl, hg, (HO.out.fresh _ _ _ rfl).after hb5.size⟩
  · rw [chk_no (primB_no hp)] at C ⊢
    have CC := Lib.hid C
    have NO := Lib.hid hp
    clear C h h' ip hT hp
    go_enter Tryd.func21, Tryd.ntmps21
    go_wp2_with (go_at_call 33; (with_reducible refine CC.out.mono ?_); rintro e w1 ⟨rfl, rfl⟩)
    go_ret2
    exact ⟨none, 0, 0, rfl, got_nil (Below.refl _ _) (bezG_no NO.out), freshA_none _⟩

theorem cGcd (A B : Option Addr) (n c n' c' : Nat) (xs ys : List Int) (p : Int) (w : World) (hT : TabAt w) (h : ISl w A n c xs) (h' : ISl w B n' c' ys) (ip : In64 p) (hn : n ≤ 1000) (hn' : n' ≤ 1000) :
    Calls Tryd.prog 21 #[.slice A n c, .slice B n' c', .int .i64 p] w fun e w' => ∃ C m d, e = .returned (.tuple #[.slice C m d, .int .i64 (chk p)]) ∧ Got w C m d (bezG p (cf xs) (cf ys)) 2000000 w' :=
  (cGcd_new A B n c n' c' xs ys p w hT h h' ip hn hn').mono fun _ _ ⟨C, m, d, e, g, _⟩ => ⟨C, m, d, e, g⟩

def rowX_ (C D : SV) : Nat → SV := fun k => if k = 0 then C else if k = 1 then D else nilS
def rowY_ (C D : SV) : Nat → SV := fun k => if k = 0 then C else if k = 1 then nilS else D
theorem rowP_X {w : World} {C E : Option Addr} {n d : Nat} {fx : List Int} {p : Int} {N : Nat} (hp : Pr p) (h : ISl w C n d fx) (hx : Pln p fx) (hn : n ≤ N) (h1 : ISl w E 1 1 [1]) (hN : 1 ≤ N) : RowP w (rowX_ (C, n, d) (E, 1, 1)) (rowX fx) p N := by
  intro k hk
  match k, hk with
  | 0, _ => exact ⟨h, hx, hn⟩
  | 1, _ => exact ⟨h1, (pol_one hp).1, hN⟩
  | 2, _ => exact ⟨isl_nil w, Pln.nil p, Nat.zero_le _⟩
theorem rowP_Y {w : World} {C E : Option Addr} {n d : Nat} {fx : List Int} {p : Int} {N : Nat} (hp : Pr p) (h : ISl w C n d fx) (hx : Pln p fx) (hn : n ≤ N) (h1 : ISl w E 1 1 [1]) (hN : 1 ≤ N) : RowP w (rowY_ (C, n, d) (E, 1, 1)) (rowY fx) p N := by
  intro k hk
  match k, hk with
  | 0, _ => exact ⟨h, hx, hn⟩
  | 1, _ => exact ⟨isl_nil w, Pln.nil p, Nat.zero_le _⟩
  | 2, _ => exact ⟨h1, (pol_one hp).1, hN⟩
/-- So many of Bezout's three are made. -/
def BzIn (B : Nat) (p ov : Int) (N : Nat) (H : Nat → List Int) (t : Nat) (X' : Nat → SV) (F' : Nat → List Int) (w wr : World) : Prop :=
  ABlk wr B X' ∧ RowP wr X' F' p N ∧ (∀ k, k < t → Ser.Eq p (cf (F' k)) (Ser.sc ov (cf (H k)))) ∧ (∀ k, t ≤ k → k < 3 → F' k = H k) ∧ Below w.heap.size w wr
theorem bz_next {B : Nat} {p ov : Int} {N : Nat} {H : Nat → List Int} {t : Nat} {X' : Nat → SV} {F' : Nat → List Int} {w wr w6 : World} {C : Option Addr} {m d : Nat} {zs : List Int} (ht : t < 3) (hin : BzIn B p ov N H t X' F' w wr) (hI : ISl w6 C m d zs) (hP : Pol p zs (Ser.sc ov (cf (F' t)))) (hm : m ≤ N) (hb6 : Below wr.heap.size wr w6) (hB : w.heap.size ≤ B) :
    BzIn B p ov N H (t + 1) (putR X' t (C, m, d)) (putF F' t zs) w (w6.setCell ⟨B, t, none⟩ (.slice C m d)) := by
  obtain ⟨a, b, c, e, g⟩ := hin
  have h3 := a.below hb6
  refine ⟨h3.set_ t ht (C, m, d), ((b.below hb6).far h3 t _).put t (hI.far (isl_arr hI h3) t _) hP.1 hm, ?_, ?_, ?_⟩
  · intro k hk
    by_cases hkt : k = t
    · subst hkt
      rw [putF_at, ← e k (Nat.le_refl _) ht]
      exact hP.2.symm.symm
    · rw [putF_ne _ _ hkt]; exact c k (by omega)
  · intro k h1 h2
    rw [putF_ne _ _ (by omega)]; exact e k (by omega) h2
  · exact (g.trans (hb6.mono g.size)).setCell (p := ⟨B, t, none⟩) hB _
theorem got_drewN {W w' : World} {C : Option Addr} {m d : Nat} {L : List Int} {N : Nat} (h : Got W C m d L N w') (k : Nat) : Got W C m d L N (w'.drewN k) :=
  ⟨h.1.below (ibelow_drewN (Below.refl _ _) k), h.2.1, ibelow_drewN h.2.2 k⟩
theorem BzIn.below {B : Nat} {p ov : Int} {N : Nat} {H : Nat → List Int} {t : Nat} {X' : Nat → SV} {F' : Nat → List Int} {w wr w' : World} (h : BzIn B p ov N H t X' F' w wr) (hb : Below wr.heap.size wr w') : BzIn B p ov N H t X' F' w w' := by
  obtain ⟨a, b, c, e, g⟩ := h
  exact ⟨a.below hb, b.below hb, c, e, g.trans (hb.mono g.size)⟩

end Go.Proofs.YtekpifafjbkmiaaDoor

/- The equalities and lengths that layer 6's laws without the document's answers want. Mathematics alone. -/
namespace Go.Proofs.YtekpifafjbkmiaaDoor

theorem pol_len {p : Int} {ys : List Int} {f : Ser} {k : Nat} (hp : 1 ≤ p) (h : Pol p ys f) (hb : Ser.Bd p f (k + 1)) (ht : f k % p ≠ 0) : ys.length = k + 1 := by
  have h1 := h.1.len_le hp (hb.eq h.2.symm)
  rcases Nat.lt_or_ge k ys.length with h2 | h2
  · omega
  · exact absurd (by rw [← h.2 k, cf_over h2]; simp) ht
theorem pol_last {p : Int} {ys : List Int} {f : Ser} (hp : 1 ≤ p) (h : Pol p ys f) (hn : ys ≠ []) : Last p f (ys.length - 1) := by
  have hl : 0 < ys.length := List.length_pos_iff.2 hn
  refine ⟨Ser.Bd.eq ?_ h.2, ?_⟩
  · rw [Nat.sub_add_cancel hl]
    exact bd_len p ys
  · rw [← h.2]
    exact h.1.top hn hp
theorem polL_nil {p : Int} {f : Ser} (h : Ser.Bd p f 0) : polL p f = [] := by
  rcases Classical.em (Pr p) with hp | hp
  · exact polL_is hp ⟨Pln.nil p, fun i => by rw [cf_nil, h i (Nat.zero_le _)]; simp⟩
  · exact polL_no hp
theorem polL_zero {p : Int} {f : Ser} (hp : Pr p) (hf : Fini p f) : polL p f = [] ↔ Ser.Bd p f 0 := (polL_pol hp hf).nought (by have := hp.1; omega)
theorem len_mul {p : Int} (hp : Pr p) {f g : Ser} (hf : Fini p f) (hg : Fini p g) :
    ((polL p f).length = 0 ∧ (polL p (Ser.mul f g)).length = 0) ∨ ((polL p f).length ≠ 0 ∧ (polL p g).length = 0 ∧ (polL p (Ser.mul f g)).length = 0) ∨
      ((polL p f).length ≠ 0 ∧ (polL p g).length ≠ 0 ∧ (polL p (Ser.mul f g)).length + 1 = (polL p f).length + (polL p g).length) := by
  have h1 : 1 ≤ p := by have := hp.1; omega
  by_cases hx : polL p f = []
  · refine .inl ⟨by rw [hx]; rfl, ?_⟩
    rw [polL_nil (fun i _ => Ser.mul_nought g ((polL_zero hp hf).1 hx) i)]; rfl
  · by_cases hy : polL p g = []
    · refine .inr (.inl ⟨fun e => hx (List.eq_nil_of_length_eq_zero e), by rw [hy]; rfl, ?_⟩)
      rw [polL_nil (fun i _ => by rw [Ser.mul_comm]; exact Ser.mul_nought f ((polL_zero hp hg).1 hy) i)]; rfl
    · have l1 := pol_last h1 (polL_pol hp hf) hx
      have l2 := pol_last h1 (polL_pol hp hg) hy
      have ht := Ser.mul_top l1.1 l2.1
      have hl := pol_len h1 (polL_pol hp (hf.mul hg)) ht.2 (by rw [ht.1]; exact mul_nz hp l1.2 l2.2)
      have p1 : 0 < (polL p f).length := List.length_pos_iff.2 hx
      have p2 : 0 < (polL p g).length := List.length_pos_iff.2 hy
      exact .inr (.inr ⟨by omega, by omega, by omega⟩)

theorem sc_one (f : Ser) : Ser.sc 1 f = f := funext fun _ => Int.one_mul _
theorem eq_swap (p : Int) (f g : Ser) : polL p (Ser.add f (Ser.sc 1 g)) = polL p (Ser.add g (Ser.sc 1 f)) := by rw [sc_one, sc_one, Ser.add_comm]
theorem eq_turn (p : Int) (f g : Ser) : polL p (Ser.mul f g) = polL p (Ser.mul g f) := by rw [Ser.mul_comm]
theorem fini_add1 {p : Int} {f g : Ser} (hf : Fini p f) (hg : Fini p g) : Fini p (Ser.add f (Ser.sc 1 g)) := hf.add hg.sc
theorem eq_assoc {p : Int} (hp : Pr p) {f g h : Ser} (hf : Fini p f) (hg : Fini p g) (hh : Fini p h) :
    polL p (Ser.add (cf (polL p (Ser.add f (Ser.sc 1 g)))) (Ser.sc 1 h)) = polL p (Ser.add f (Ser.sc 1 (cf (polL p (Ser.add g (Ser.sc 1 h)))))) := by
  have e1 := cf_polL hp (fini_add1 hf hg)
  have e2 := cf_polL hp (fini_add1 hg hh)
  simp only [sc_one] at e1 e2 ⊢
  exact polL_congr ((e1.add (Ser.Eq.refl _ _)).trans ((Ser.Eq.of (Ser.add_assoc f g h)).trans ((Ser.Eq.refl _ _).add e2.symm)))
theorem eq_massoc {p : Int} (hp : Pr p) {f g h : Ser} (hf : Fini p f) (hg : Fini p g) (hh : Fini p h) :
    polL p (Ser.mul (cf (polL p (Ser.mul f g))) h) = polL p (Ser.mul f (cf (polL p (Ser.mul g h)))) := by
  have e1 := cf_polL hp (hf.mul hg)
  have e2 := cf_polL hp (hg.mul hh)
  exact polL_congr ((e1.mulL h).trans ((Ser.Eq.of (Ser.mul_assoc f g h)).trans ((Ser.Eq.refl _ _).mul e2.symm)))
theorem eq_distr {p : Int} (hp : Pr p) {f g h : Ser} (hf : Fini p f) (hg : Fini p g) (hh : Fini p h) :
    polL p (Ser.mul f (cf (polL p (Ser.add g (Ser.sc 1 h))))) = polL p (Ser.add (cf (polL p (Ser.mul f g))) (Ser.sc 1 (cf (polL p (Ser.mul f h))))) := by
  have e1 := cf_polL hp (fini_add1 hg hh)
  have e2 := cf_polL hp (hf.mul hg)
  have e3 := cf_polL hp (hf.mul hh)
  simp only [sc_one] at e1 ⊢
  exact polL_congr (((Ser.Eq.refl _ _).mul e1).trans ((Ser.Eq.of (Ser.mul_add f g h)).trans (e2.symm.add e3.symm)))
theorem eq_back {p : Int} (hp : Pr p) {f g : Ser} (hf : Fini p f) (hg : Fini p g) : polL p (Ser.add (cf (polL p (Ser.add f (Ser.sc 1 g)))) (Ser.sc (-1) g)) = polL p f := by
  refine polL_congr (((cf_polL hp (fini_add1 hf hg)).add (Ser.Eq.refl _ _)).trans (Ser.Eq.of ?_))
  funext i
  show f i + 1 * g i + -1 * g i = f i
  omega
end Go.Proofs.YtekpifafjbkmiaaDoor

/- Quotients, rests, common divisors, powers' rests of polynomials by a prime: that there are such, so that the names stand for them; what layer 6's laws say of them. Mathematics alone. -/
namespace Go.Proofs.YtekpifafjbkmiaaDoor

theorem div_ex {p : Int} {b : Ser} {m : Nat} (hp : Pr p) (hl : Last p b m) : ∀ (N : Nat) (a : Ser), Ser.Bd p a N → ∃ q r, Fini p q ∧ IsDiv p m a b q r := by
  intro N
  induction N with
  | zero =>
    intro a ha
    refine ⟨Ser.zer, a, ⟨0, fun i _ => by simp [Ser.zer]⟩, ?_, ha.mono (Nat.zero_le _)⟩
    rw [Ser.zer_mul, Ser.zer_add]
    exact Ser.Eq.refl _ _
  | succ N ih =>
    intro a ha
    by_cases hN : N + 1 ≤ m
    · refine ⟨Ser.zer, a, ⟨0, fun i _ => by simp [Ser.zer]⟩, ?_, ha.mono hN⟩
      rw [Ser.zer_mul, Ser.zer_add]
      exact Ser.Eq.refl _ _
    · have hs := finv_spec hp hl.2
      obtain ⟨q, r, ⟨M, hq⟩, h1, h2⟩ := ih (less a (Ser.mono (a N * finv (b m) p) (N - m)) b) (by
        intro i hi
        show (a i + -1 * Ser.mul (Ser.mono (a N * finv (b m) p) (N - m)) b i) % p = 0
        rw [Ser.mono_mul_at, if_pos (by omega)]
        by_cases e : i = N
        · subst e
          rw [show i - (i - m) = m from by omega]
          generalize a i = A at *
          generalize b m = B at *
          generalize finv B p = B' at *
          have e1 : A * B' * B % p = A % p := by
            rw [Int.mul_assoc, Int.mul_comm B' B, Int.mul_emod, hs.2.2, Int.mul_one, Int.emod_emod_of_dvd _ (Int.dvd_refl p)]
          have e2 := Int.emod_eq_emod_iff_emod_sub_eq_zero.1 e1.symm
          rw [show A + -1 * (A * B' * B) = A - A * B' * B from by omega]
          exact e2
        · rw [Int.add_emod, ha i (by omega), Int.mul_emod (-1), Int.mul_emod (a N * finv (b m) p), hl.1 (i - (N - m)) (by omega)]
          simp)
      refine ⟨Ser.add (Ser.mono (a N * finv (b m) p) (N - m)) q, r, ⟨max (N + 1) M, ?_⟩, ?_, h2⟩
      · refine Ser.Bd.add (fun i hi => ?_) (hq.mono (by omega))
        show (if i = N - m then _ else (0 : Int)) % p = 0
        rw [if_neg (by omega)]; simp
      · rw [Ser.add_mul, Ser.add_assoc]
        refine (Ser.Eq.of (less_back a (Ser.mono (a N * finv (b m) p) (N - m)) b)).trans ?_
        exact (Ser.Eq.refl _ _).add h1
/-- What the names of quotient and rest stand for. -/
theorem quo_rem {p : Int} {a b : Ser} {m : Nat} (hp : Pr p) (hl : Last p b m) (ha : Fini p a) : ∃ q r, Fini p q ∧ IsDiv p m a b q r ∧ Pol p (quoL p a b) q ∧ Pol p (remL p a b) r := by
  obtain ⟨N, hN⟩ := ha
  obtain ⟨q, r, hq, hd⟩ := div_ex hp hl N a hN
  have h1 := polL_pol hp hq
  have h2 := polL_pol (f := r) hp ⟨m, hd.2⟩
  refine ⟨q, r, hq, hd, ?_, ?_⟩
  · rw [quoL_is hp hl hq hd h1]; exact h1
  · rw [remL_is hp hl ⟨q, hq, hd⟩ h2]; exact h2
theorem rest_back {p : Int} {a b : Ser} {m : Nat} (hp : Pr p) (hl : Last p b m) (ha : Fini p a) (hb : Fini p b) :
    polL p (Ser.add (cf (polL p (Ser.mul (cf (quoL p a b)) b))) (Ser.sc 1 (cf (remL p a b)))) = polL p a := by
  obtain ⟨q, r, hq, hd, h1, h2⟩ := quo_rem hp hl ha
  have e1 := cf_polL (f := Ser.mul (cf (quoL p a b)) b) hp ((fini_cf p _).mul hb)
  rw [sc_one]
  exact polL_congr ((e1.add (Ser.Eq.refl _ _)).trans (((h1.2.mulL b).add h2.2).trans hd.1.symm))
theorem rest_len {p : Int} {a b : Ser} {m : Nat} (hp : Pr p) (hl : Last p b m) (ha : Fini p a) (hb : Fini p b) : (remL p a b).length < (polL p b).length := by
  have h1 : 1 ≤ p := by have := hp.1; omega
  obtain ⟨q, r, hq, hd, _, h2⟩ := quo_rem hp hl ha
  have := h2.1.len_le h1 (hd.2.eq h2.2.symm)
  rw [pol_len h1 (polL_pol hp hb) hl.1 hl.2]
  omega
theorem quo_of_mul {p : Int} {a b : Ser} {m : Nat} (hp : Pr p) (hl : Last p b m) (ha : Fini p a) (hb : Fini p b) :
    quoL p (cf (polL p (Ser.mul a b))) b = polL p a ∧ remL p (cf (polL p (Ser.mul a b))) b = [] := by
  have e := cf_polL (f := Ser.mul a b) hp (ha.mul hb)
  have hd : IsDiv p m (cf (polL p (Ser.mul a b))) b a Ser.zer := ⟨by rw [Ser.add_zer]; exact e, fun i _ => by simp [Ser.zer]⟩
  exact ⟨quoL_is hp hl ha hd (polL_pol hp ha), remL_is hp hl ⟨a, ha, hd⟩ ⟨Pln.nil p, fun i => by rw [cf_nil]; rfl⟩⟩
/-- What is a multiple leaves no rest. -/
theorem rem_mult {p : Int} {a b : Ser} {m : Nat} (hp : Pr p) (hl : Last p b m) (h : Mult p b a) : remL p a b = [] := by
  obtain ⟨u, hu, he⟩ := h
  have hd : IsDiv p m a b u Ser.zer := ⟨by rw [Ser.add_zer]; exact he, fun i _ => by simp [Ser.zer]⟩
  exact remL_is hp hl ⟨u, hu, hd⟩ ⟨Pln.nil p, fun i => by rw [cf_nil]; rfl⟩

def ERow.Fin (p : Int) (x : ERow) : Prop := Fini p x.g ∧ Fini p x.s ∧ Fini p x.t
theorem fini_less {p : Int} {f q g : Ser} (hf : Fini p f) (hq : Fini p q) (hg : Fini p g) : Fini p (less f q g) := hf.add (hq.mul hg).sc
theorem eu_ex {p : Int} (hp : Pr p) : ∀ (N : Nat) (x y : ERow), x.Fin p → y.Fin p → Ser.Bd p y.g N → ∃ o, EuRun p x y o ∧ o.Fin p := by
  intro N
  induction N using Nat.strongRecOn with
  | ind N ih =>
    intro x y hx hy hb
    rcases Classical.em (Ser.Bd p y.g 0) with h0 | h0
    · exact ⟨x, .stop h0, hx⟩
    · obtain ⟨m, hl⟩ := last_of h0 hy.1
      have hm : m < N := by
        rcases Nat.lt_or_ge m N with h | h
        · exact h
        · exact absurd (hb m h) hl.2
      obtain ⟨K, hK⟩ := hx.1
      obtain ⟨q, r, hq, hd⟩ := div_ex hp hl K x.g hK
      have hz : Ser.Bd p (x.less q y).g m := hd.2.eq (less_of hd.1)
      obtain ⟨o, ho, hf⟩ := ih m hm y (x.less q y) hy ⟨fini_less hx.1 hq hy.1, fini_less hx.2.1 hq hy.2.1, fini_less hx.2.2 hq hy.2.2⟩ hz
      exact ⟨o, .step m q hl.1 hl.2 hq hz (ERow.Same.refl _ _) ho, hf⟩
theorem fini_con (p c : Int) : Fini p (Ser.con c) := ⟨1, fun i hi => by show (if i = 0 then c else 0) % p = 0; rw [if_neg (by omega)]; simp⟩
theorem fini_zer (p : Int) : Fini p Ser.zer := ⟨0, fun i _ => by simp [Ser.zer]⟩
theorem bez_ex {p : Int} (hp : Pr p) {a b : Ser} (ha : Fini p a) (hb : Fini p b) : ∃ g s t, IsBez p a b g s t ∧ Pol p (bezG p a b) g ∧ Pol p (bezS p a b) s ∧ Pol p (bezT p a b) t ∧ Fini p g := by
  obtain ⟨N, hN⟩ := hb
  obtain ⟨o, ho, hf⟩ := eu_ex hp N ⟨a, Ser.con 1, Ser.zer⟩ ⟨b, Ser.zer, Ser.con 1⟩ ⟨ha, fini_con p 1, fini_zer p⟩ ⟨⟨N, hN⟩, fini_zer p, fini_con p 1⟩ hN
  have key : ∀ g s t, IsBez p a b g s t → Fini p g → Fini p s → Fini p t → ∃ g s t, IsBez p a b g s t ∧ Pol p (bezG p a b) g ∧ Pol p (bezS p a b) s ∧ Pol p (bezT p a b) t ∧ Fini p g := by
    intro g s t h fg fs ft
    have h1 := polL_pol hp fg
    have h2 := polL_pol hp fs
    have h3 := polL_pol hp ft
    exact ⟨g, s, t, h, by rw [bezG_is hp h h1]; exact h1, by rw [bezS_is hp h h2]; exact h2, by rw [bezT_is hp h h3]; exact h3, fg⟩
  rcases Classical.em (Ser.Bd p o.g 0) with h0 | h0
  · exact key Ser.zer (Ser.con 1) Ser.zer ⟨o, ho, .inl ⟨h0, fun i _ => by simp [Ser.zer], Ser.Eq.refl _ _, fun i _ => by simp [Ser.zer]⟩⟩ (fini_zer p) (fini_con p 1) (fini_zer p)
  · obtain ⟨m, hl⟩ := last_of h0 hf.1
    exact key _ _ _ ⟨o, ho, .inr ⟨m, hl.1, hl.2, Ser.Eq.refl _ _, Ser.Eq.refl _ _, Ser.Eq.refl _ _⟩⟩ hf.1.sc hf.2.1.sc hf.2.2.sc
/-- Bezout's row is made of both. -/
theorem bez_made {p : Int} (hp : Pr p) {a b : Ser} (ha : Fini p a) (hb : Fini p b) :
    polL p (Ser.add (cf (polL p (Ser.mul (cf (bezS p a b)) a))) (Ser.sc 1 (cf (polL p (Ser.mul (cf (bezT p a b)) b))))) = bezG p a b := by
  obtain ⟨g, s, t, h, h1, h2, h3, hf⟩ := bez_ex hp ha hb
  have e1 := cf_polL (f := Ser.mul (cf (bezS p a b)) a) hp ((fini_cf p _).mul ha)
  have e2 := cf_polL (f := Ser.mul (cf (bezT p a b)) b) hp ((fini_cf p _).mul hb)
  rw [sc_one]
  refine polL_is hp (h1.eq ?_)
  exact (((e1.trans (h2.2.mulL a)).add (e2.trans (h3.2.mulL b))).trans h.made).symm
theorem bez_zero {p : Int} (hp : Pr p) {a b : Ser} (ha : Fini p a) (hb : Fini p b) (h0 : bezG p a b = []) : polL p a = [] ∧ polL p b = [] := by
  obtain ⟨g, s, t, h, h1, _⟩ := bez_ex hp ha hb
  have := (h1.nought (by have := hp.1; omega)).1 h0
  have := (h.nought hp).1 this
  exact ⟨polL_nil this.1, polL_nil this.2⟩
theorem bez_some {p : Int} (hp : Pr p) {a b : Ser} (ha : Fini p a) (hb : Fini p b) (h0 : bezG p a b ≠ []) :
    cf (bezG p a b) ((bezG p a b).length - 1) = 1 ∧ Last p (cf (bezG p a b)) ((bezG p a b).length - 1) ∧ remL p a (cf (bezG p a b)) = [] ∧ remL p b (cf (bezG p a b)) = [] := by
  have hp1 : 1 ≤ p := by have := hp.1; omega
  obtain ⟨g, s, t, h, h1, _⟩ := bez_ex hp ha hb
  have hn : ¬ Ser.Bd p g 0 := fun k => h0 ((h1.nought hp1).2 k)
  obtain ⟨m, hm, ht⟩ := h.monic hp hn
  have hlen := pol_len hp1 h1 hm (by rw [ht]; decide)
  have hl : Last p (cf (bezG p a b)) ((bezG p a b).length - 1) := pol_last hp1 (Pol.self h1.1) h0
  have hd := h.divides hp
  have hm' : ∀ f, Mult p g f → Mult p (cf (bezG p a b)) f := by
    rintro f ⟨u, fu, hu⟩
    exact ⟨u, fu, hu.trans ((Ser.Eq.refl _ _).mul h1.2.symm)⟩
  refine ⟨?_, hl, rem_mult hp hl (hm' _ hd.1), rem_mult hp hl (hm' _ hd.2)⟩
  have e := h1.2 m
  rw [ht, h1.1.1.emod hp1] at e
  rw [hlen, Nat.add_sub_cancel]
  exact e
theorem bez_more {p : Int} (hp : Pr p) {a b c : Ser} (ha : Fini p a) (hb : Fini p b) (hc : Fini p c) :
    bezG p (cf (polL p (Ser.mul a c))) (cf (polL p (Ser.mul b c))) = monL p (cf (polL p (Ser.mul (cf (bezG p a b)) c))) := by
  have hp1 : 1 ≤ p := by have := hp.1; omega
  obtain ⟨g, s, t, h, h1, _⟩ := bez_ex hp ha hb
  obtain ⟨g', s', t', h', h1', _⟩ := bez_ex (a := cf (polL p (Ser.mul a c))) (b := cf (polL p (Ser.mul b c))) hp (fini_cf p _) (fini_cf p _)
  obtain ⟨g2, s2, t2, k, k1, k2, k3, _⟩ := bez_ex (a := Ser.mul a c) (b := Ser.mul b c) hp (ha.mul hc) (hb.mul hc)
  have e := h'.uniq hp k (cf_polL hp (ha.mul hc)) (cf_polL hp (hb.mul hc))
  have hm : IsMon p (Ser.mul g c) g' := h.more hp hc (s' := s2) (t' := t2) (by
    obtain ⟨o, r, w⟩ := k
    refine ⟨o, r, ?_⟩
    rcases w with ⟨w1, w2, w3, w4⟩ | ⟨m, w1, w2, w3, w4, w5⟩
    · exact .inl ⟨w1, w2.eq e.1.symm, w3, w4⟩
    · exact .inr ⟨m, w1, w2, e.1.trans w3, w4, w5⟩)
  have e2 : Ser.Eq p (cf (polL p (Ser.mul (cf (bezG p a b)) c))) (Ser.mul g c) := (cf_polL hp ((fini_cf p _).mul hc)).trans (h1.2.mulL c)
  have hm2 : ∃ g3, IsMon p (cf (polL p (Ser.mul (cf (bezG p a b)) c))) g3 ∧ Ser.Eq p g3 g' := by
    rcases hm with ⟨m1, m2⟩ | ⟨m, m1, m2, m3⟩
    · exact ⟨g', .inl ⟨m1.eq e2.symm, m2⟩, Ser.Eq.refl _ _⟩
    · exact ⟨g', .inr ⟨m, m1.eq e2.symm, by rw [e2 m]; exact m2, by rw [finv_congr hp (e2 m)]; exact m3.trans (Ser.Eq.sc rfl e2.symm)⟩, Ser.Eq.refl _ _⟩
  obtain ⟨g3, m3, e3⟩ := hm2
  exact (monL_is hp m3 (h1'.eq e3.symm)).symm
end Go.Proofs.YtekpifafjbkmiaaDoor

/- Texts joined, in their order: PrgOne, PrgTwo, Arr, RoundReg. -/
import Derived.Deep.RegionHeld3
import Derived.RangeFuncCalls
import Derived.OwnWalkIn
import Derived.TacticsInMore
import Derived.WalkKit
import Derived.Test.YtekpifafjbkmiaaDoorMh7
import Derived.Test.YtekpifafjbkmiaaDoorMh10
import Derived.Test.YtekpifafjbkmiaaDoorMh12

/- fpoly's Norm, Add, Sub, Mul, Monic, in the one form that the laws' walks take. -/
namespace Go.Proofs.YtekpifafjbkmiaaDoor
open Go.RowKit Go.Shelf

theorem IsMon.eqL {p : Int} {f f' g : Ser} (h : IsMon p f g) (e : Ser.Eq p f f') (hp : Pr p) : IsMon p f' g := by
  rcases h with ⟨h1, h2⟩ | ⟨m, h1, h2, h3⟩
  · exact .inl ⟨h1.eq e, h2⟩
  · refine .inr ⟨m, h1.eq e, by rw [← e m]; exact h2, h3.trans ?_⟩
    rw [finv_congr hp (e m)]
    exact Ser.Eq.sc rfl e
set_option maxRecDepth 100000 in
set_option maxHeartbeats 1000000 in
theorem cNorm (A : Option Addr) (n c : Nat) (xs : List Int) (p : Int) (w : World) (hT : TabAt w) (h : ISl w A n c xs) (ip : In64 p) (hn : n ≤ 17592186044416) :
    Calls Tryd.prog 18 #[.slice A n c, .int .i64 p] w fun e w' => ∃ C m d, e = .returned (.tuple #[.slice C m d, .int .i64 (chk p)]) ∧ Got w C m d (polL p (cf xs)) (n) w' := by
  have C := pCheck_any p w ip.1 ip.2 hT
  rcases Classical.em (Pr p) with hp | hp
  · rw [chk_yes (primB_yes hp)] at C ⊢
    have CC := Lib.hid C
    have PR := Lib.hid hp
    have MM := Lib.hid (pPlain_any A n c xs p w h hp.md (by omega))
    clear C h ip hT hp
    go_enter Tryd.func18, Tryd.ntmps18
    go_wp2_with (first
      | (go_at_call 33; (with_reducible refine CC.out.mono ?_); rintro e w1 ⟨rfl, rfl⟩)
      | (go_at_call 34; (refine Calls.mono (MM.out) ?_); rintro e w5 ⟨v, rfl, ho⟩; have HO := Lib.hid ho; clear ho))
    go_ret2
    obtain ⟨C, m, d, rfl, hgot⟩ := polIn_got (L := polL p (cf xs)) HO.out.in_.1 HO.out.in_.2 (Nat.le_refl _) (fun ys hy => polL_is PR.out hy)
    exact ⟨C, m, d, rfl, hgot⟩
  · rw [chk_no (primB_no hp)] at C ⊢
    have CC := Lib.hid C
    have NO := Lib.hid hp
    clear C h ip hT hp
    go_enter Tryd.func18, Tryd.ntmps18
    go_wp2_with (go_at_call 33; (with_reducible refine CC.out.mono ?_); rintro e w1 ⟨rfl, rfl⟩)
    go_ret2
    exact ⟨none, 0, 0, rfl, got_nil (Below.refl _ _) (polL_no NO.out)⟩
set_option maxRecDepth 100000 in
set_option maxHeartbeats 1000000 in
theorem cMonic (A : Option Addr) (n c : Nat) (xs : List Int) (p : Int) (w : World) (hT : TabAt w) (h : ISl w A n c xs) (ip : In64 p) (hn : n ≤ 100000000) :
    Calls Tryd.prog 42 #[.slice A n c, .int .i64 p] w fun e w' => ∃ C m d, e = .returned (.tuple #[.slice C m d, .int .i64 (chk p)]) ∧ Got w C m d (monL p (cf xs)) (n + 1) w' := by
  have C := pCheck_any p w ip.1 ip.2 hT
  rcases Classical.em (Pr p) with hp | hp
  · rw [chk_yes (primB_yes hp)] at C ⊢
    have CC := Lib.hid C
    have PR := Lib.hid hp
    have P1 := Lib.hid (fun W (hb : Below w.heap.size w W) => pPlain_any A n c xs p W (h.below hb) hp.md (by omega))
    have HT := Lib.hid hT
    have TM := Lib.hid (fun (X : Option Addr) (m1 d1 : Nat) (fx : List Int) (W : World) (hX : ISl W X m1 d1 fx) (hx : Pln p fx) (hT : TabAt W) (hm : m1 ≤ 35184372088832) => pMonic_any X m1 d1 fx p W hT hX hp hx hm)
    clear C h ip hT hp
    go_enter Tryd.func42, Tryd.ntmps42
    go_wp2_with (first
      | (go_at_call 33; (with_reducible refine CC.out.mono ?_); rintro e w1 ⟨rfl, rfl⟩)
      | (go_at_call 34; (with_reducible refine Calls.mono (P1.out _ (Below.refl _ _)) ?_); rintro e w2 ⟨v1, rfl, X, m1, d1, fx, rfl, hX, px, hm1, hnew1, hb1⟩; have HX := Lib.hid hX; have PX := Lib.hid px; have HM1 := Lib.hid hm1; have HB1 := Lib.hid hb1; have SZ1 := Lib.hid hb1.size; clear hX px hm1 hnew1 hb1)
      | (go_at_call 40; (refine Calls.mono (TM.out _ _ _ _ _ HX.out PX.out.1 (HT.out.below HB1.out) (Nat.le_trans HM1.out (by omega))) ?_); rintro e w5 ⟨v, rfl, ho⟩; have HO := Lib.hid ho; clear ho))
    go_ret2
    have mo := ovl_mon PR.out PX.out.1
    obtain ⟨C, m, d, rfl, hgot⟩ := polIn_got (L := monL p (cf xs)) HO.out.in_.1 (HB1.out.trans (HO.out.in_.2.mono SZ1.out)) (Nat.le_trans HM1.out (Nat.le_succ _)) (fun ys hy => monL_is PR.out (mo.eqL PX.out.2 PR.out) hy)
    exact ⟨C, m, d, rfl, hgot⟩
  · rw [chk_no (primB_no hp)] at C ⊢
    have CC := Lib.hid C
    have NO := Lib.hid hp
    clear C h ip hT hp
    go_enter Tryd.func42, Tryd.ntmps42
    go_wp2_with (go_at_call 33; (with_reducible refine CC.out.mono ?_); rintro e w1 ⟨rfl, rfl⟩)
    go_ret2
    exact ⟨none, 0, 0, rfl, got_nil (Below.refl _ _) (monL_no NO.out)⟩
set_option maxRecDepth 100000 in
set_option maxHeartbeats 1000000 in
theorem cMul (A B : Option Addr) (n c n' c' : Nat) (xs ys : List Int) (p : Int) (w : World) (hT : TabAt w) (h : ISl w A n c xs) (h' : ISl w B n' c' ys) (ip : In64 p) (hn : n ≤ 100000000) (hn' : n' ≤ 100000000) :
    Calls Tryd.prog 35 #[.slice A n c, .slice B n' c', .int .i64 p] w fun e w' => ∃ C m d, e = .returned (.tuple #[.slice C m d, .int .i64 (chk p)]) ∧ Got w C m d (polL p (Ser.mul (cf xs) (cf ys))) (n + n') w' := by
  have C := pCheck_any p w ip.1 ip.2 hT
  rcases Classical.em (Pr p) with hp | hp
  · rw [chk_yes (primB_yes hp)] at C ⊢
    have CC := Lib.hid C
    have PR := Lib.hid hp
    have P1 := Lib.hid (fun W (hb : Below w.heap.size w W) => pPlain_any A n c xs p W (h.below hb) hp.md (by omega))
    have P2 := Lib.hid (fun W (hb : Below w.heap.size w W) => pPlain_any B n' c' ys p W (h'.below hb) hp.md (by omega))
    have TM := Lib.hid (fun (X Y : Option Addr) (m1 d1 m2 d2 : Nat) (fx fy : List Int) (W : World) (hX : ISl W X m1 d1 fx) (hY : ISl W Y m2 d2 fy) (hx : Rs p fx) (hy : Rs p fy) (hm1 : m1 ≤ 100000000) (hm2 : m2 ≤ 100000000) => pProd_any X Y m1 d1 m2 d2 fx fy p W hX hY hp.md hx hy hm1 hm2)
    clear C h ip hT hp h'
    go_enter Tryd.func35, Tryd.ntmps35
    go_wp2_with (first
      | (go_at_call 33; (with_reducible refine CC.out.mono ?_); rintro e w1 ⟨rfl, rfl⟩)
      | (go_at_call 34; (with_reducible refine Calls.mono (P1.out _ (Below.refl _ _)) ?_); rintro e w2 ⟨v1, rfl, X, m1, d1, fx, rfl, hX, px, hm1, hnew1, hb1⟩; have HX := Lib.hid hX; have PX := Lib.hid px; have HM1 := Lib.hid hm1; have HB1 := Lib.hid hb1; have SZ1 := Lib.hid hb1.size; clear hX px hm1 hnew1 hb1)
      | (go_at_call 34; (with_reducible refine Calls.mono (P2.out _ HB1.out) ?_); rintro e w3 ⟨v2, rfl, Y, m2, d2, fy, rfl, hY, py, hm2, hnew2, hb2⟩; have HY := Lib.hid hY; have PY := Lib.hid py; have HM2 := Lib.hid hm2; have HX2 := Lib.hid (HX.out.below hb2); have HB2 := Lib.hid (HB1.out.trans (hb2.mono HB1.out.size)); clear hY py hm2 hnew2 hb2)
      | (go_at_call 59; (refine Calls.mono (TM.out _ _ _ _ _ _ _ _ _ HX2.out HY.out PX.out.rs PY.out.rs (Nat.le_trans HM1.out (by omega)) (Nat.le_trans HM2.out (by omega))) ?_); rintro e w5 ⟨v, rfl, ho⟩; have HO := Lib.hid ho; clear ho))
    go_ret2
    obtain ⟨C, m, d, rfl, hgot⟩ := polIn_got (L := polL p (Ser.mul (cf xs) (cf ys))) HO.out.in_.1 (HB2.out.trans (HO.out.in_.2.mono HB2.out.size)) (Nat.add_le_add HM1.out HM2.out) (fun ys hy => polL_is PR.out (hy.eq (PX.out.2.mul PY.out.2)))
    exact ⟨C, m, d, rfl, hgot⟩
  · rw [chk_no (primB_no hp)] at C ⊢
    have CC := Lib.hid C
    have NO := Lib.hid hp
    clear C h ip hT hp h'
    go_enter Tryd.func35, Tryd.ntmps35
    go_wp2_with (go_at_call 33; (with_reducible refine CC.out.mono ?_); rintro e w1 ⟨rfl, rfl⟩)
    go_ret2
    exact ⟨none, 0, 0, rfl, got_nil (Below.refl _ _) (polL_no NO.out)⟩
end Go.Proofs.YtekpifafjbkmiaaDoor

/- fpoly's Div and Deriv, in the one form that the laws' walks take. -/
namespace Go.Proofs.YtekpifafjbkmiaaDoor
open Go.RowKit Go.Shelf

theorem last_plain {p : Int} {ys fy : List Int} (hp : Pr p) (hpol : Pol p fy (cf ys)) {m : Nat} (hm : fy.length = m + 1) : Last p (cf ys) m := by
  have h2 := hp.1
  have ht := hpol.1.top (by intro e; rw [e] at hm; simp at hm) (by omega)
  rw [hm, Nat.add_sub_cancel, hpol.2 m] at ht
  refine ⟨?_, ht⟩
  rw [← hm]
  exact (bd_len p fy).eq hpol.2
theorem IsDiv.eqs {p : Int} {m : Nat} {a a' b b' q r : Ser} (h : IsDiv p m a b q r) (ea : Ser.Eq p a a') (eb : Ser.Eq p b b') : IsDiv p m a' b' q r :=
  ⟨ea.symm.trans (h.1.trans (((Ser.Eq.refl p q).mul eb).add (Ser.Eq.refl p r))), h.2⟩

set_option maxRecDepth 100000 in
set_option maxHeartbeats 2000000 in
theorem cDiv_new (A B : Option Addr) (n c n' c' : Nat) (xs ys : List Int) (p : Int) (w : World) (hT : TabAt w) (h : ISl w A n c xs) (h' : ISl w B n' c' ys) (ip : In64 p) (hn : n ≤ 100000000) (hn' : n' ≤ 100000000) :
    Calls Tryd.prog 22 #[.slice A n c, .slice B n' c', .int .i64 p] w fun e w' => ∃ C m d C' m' d', e = .returned (.tuple #[.slice C m d, .slice C' m' d', .int .i64 (ediv p (cf ys))]) ∧ Got w C m d (quoL p (cf xs) (cf ys)) (n + 1) w' ∧ Got w C' m' d' (remL p (cf xs) (cf ys)) n w' ∧ FreshA w C ∧ FreshA w C' := by
  have C := pCheck_any p w ip.1 ip.2 hT
  rcases Classical.em (Pr p) with hp | hp
  · rw [chk_yes (primB_yes hp)] at C
    have CC := Lib.hid C
    have PR := Lib.hid hp
    have H1 := Lib.hid h
    have HT := Lib.hid hT
    have P2 := pPlain_any B n' c' ys p w h' hp.md (by omega)
    have PP2 := Lib.hid P2
    have P1 := Lib.hid (fun W (hb : Below w.heap.size w W) => pPlain_any A n c xs p W (h.below hb) hp.md (by omega))
    have HL' := Lib.hid h'.len
    clear C h h' hT hp ip P2
    go_enter Tryd.func22, Tryd.ntmps22
    go_wp2_with (go_at_call 33; (with_reducible refine CC.out.mono ?_); rintro e w1 ⟨rfl, rfl⟩)
    refine PP2.out.mono ?_
    rintro e w2 ⟨v2, rfl, Y, m2, d2, fy, rfl, hY, py, hm2, -, hb2⟩
    have hY9 := hY.le
    have hY8 := hY.max
    have PY := Lib.hid py
    have HY := Lib.hid hY
    have HB2 := Lib.hid hb2
    have HYL := Lib.hid hY.len
    clear hY py hb2 PP2 CC
    by_cases h0 : m2 = 0
    · subst h0
      have hz : Ser.Bd p (cf ys) 0 := ((PY.out).nought (by have := PR.out.1; omega)).1 (List.eq_nil_of_length_eq_zero HYL.out.symm)
      have EZ := Lib.hid (ediv_zero PR.out hz)
      have he : ediv p (cf ys) ≠ 0 := by rw [ediv_zero PR.out hz]; decide
      have E1 := Lib.hid (quoL_no (a := cf xs) he)
      have E2 := Lib.hid (remL_no (a := cf xs) he)
      clear hz he
      go_wp2_with fail
      go_ret3
      exact ⟨none, 0, 0, none, 0, 0, (by rw [EZ.out] <;> rfl), got_nil HB2.out E1.out, got_nil HB2.out E2.out, freshA_none _, freshA_none _⟩
    · obtain ⟨m, rfl⟩ : ∃ m, m2 = m + 1 := ⟨m2 - 1, by omega⟩
      have hl := last_plain PR.out PY.out HYL.out.symm
      have EZ := Lib.hid (ediv_yes PR.out hl.some)
      have LA := Lib.hid hl
      have TM := Lib.hid (fun (X : Option Addr) (m1 d1 : Nat) (fx : List Int) (W : World) (hX : ISl W X m1 d1 fx) (hx : Pln p fx) (hb : Below w.heap.size w W) (hY : ISl W Y (m + 1) d2 fy) (hm : m1 ≤ 1000000000) => pDivided_new X Y m1 d1 (m + 1) d2 m fx fy p W (HT.out.below hb) hX hY PR.out hx PY.out.1 rfl hm (by omega))
      have hpos : ((m : Int) + 1 == 0) = false := by simp; omega
      clear hl h0
      go_wp2_with (first
        | (go_at_call 34; (with_reducible refine (P1.out _ HB2.out).mono ?_); rintro e w3 ⟨v1, rfl, X, m1, d1, fx, rfl, hX, px, hm1, hnew1, hb1⟩; have HX := Lib.hid hX; have PX := Lib.hid px; have HM1 := Lib.hid hm1; have HB3 := Lib.hid (HB2.out.trans (hb1.mono HB2.out.size)); have HY3 := Lib.hid (HY.out.below hb1); clear hX px hm1 hnew1 hb1)
        | (go_at_call 41; (refine Calls.mono (TM.out _ _ _ _ _ HX.out PX.out.1 HB3.out HY3.out (Nat.le_trans HM1.out (by omega))) ?_); rintro e w5 ⟨v3, v4, rfl, ho⟩; have HO := Lib.hid ho; clear ho))
      go_ret3
      obtain ⟨⟨q, r, hq, hr, hd, hqb, hb⟩, hnw, hnw2⟩ := HO.out
      have hbb := HB3.out.trans (hb.mono HB3.out.size)
      have hd2 := hd.eqs PX.out.2 PY.out.2
      have hm1 := HM1.out
      obtain ⟨C, k1, d, rfl, g1⟩ := polIn_got (L := quoL p (cf xs) (cf ys)) hq hbb (Nat.succ_le_succ hm1) (fun zs hz => quoL_is PR.out LA.out ⟨_, hqb⟩ hd2 hz)
      obtain ⟨C', k1', d', rfl, g2⟩ := polIn_got (L := remL p (cf xs) (cf ys)) hr hbb hm1 (fun zs hz => remL_is PR.out LA.out ⟨q, ⟨_, hqb⟩, hd2⟩ hz)
      exact ⟨C, k1, d, C', k1', d', (by rw [EZ.out] <;> rfl), g1, g2, (hnw _ _ _ rfl).after HB3.out.size, (hnw2 _ _ _ rfl).after HB3.out.size⟩
  · have he : ediv p (cf ys) ≠ 0 := by rw [ediv_no hp]; decide
    rw [chk_no (primB_no hp)] at C
    rw [ediv_no hp]
    have CC := Lib.hid C
    have E1 := Lib.hid (quoL_no (a := cf xs) he)
    have E2 := Lib.hid (remL_no (a := cf xs) he)
    clear C h h' ip hT hp he
    go_enter Tryd.func22, Tryd.ntmps22
    go_wp2_with (go_at_call 33; (with_reducible refine CC.out.mono ?_); rintro e w1 ⟨rfl, rfl⟩)
    go_ret3
    exact ⟨none, 0, 0, none, 0, 0, rfl, got_nil (Below.refl _ _) E1.out, got_nil (Below.refl _ _) E2.out, freshA_none _, freshA_none _⟩

theorem cDiv (A B : Option Addr) (n c n' c' : Nat) (xs ys : List Int) (p : Int) (w : World) (hT : TabAt w) (h : ISl w A n c xs) (h' : ISl w B n' c' ys) (ip : In64 p) (hn : n ≤ 100000000) (hn' : n' ≤ 100000000) :
    Calls Tryd.prog 22 #[.slice A n c, .slice B n' c', .int .i64 p] w fun e w' => ∃ C m d C' m' d', e = .returned (.tuple #[.slice C m d, .slice C' m' d', .int .i64 (ediv p (cf ys))]) ∧ Got w C m d (quoL p (cf xs) (cf ys)) (n + 1) w' ∧ Got w C' m' d' (remL p (cf xs) (cf ys)) n w' :=
  (cDiv_new A B n c n' c' xs ys p w hT h h' ip hn hn').mono fun _ _ ⟨C, m, d, C', m', d', e, g1, g2, _, _⟩ => ⟨C, m, d, C', m', d', e, g1, g2⟩

set_option maxRecDepth 100000 in
set_option maxHeartbeats 2000000 in
theorem cDeriv (A : Option Addr) (n c : Nat) (xs : List Int) (p : Int) (w : World) (hT : TabAt w) (h : ISl w A n c xs) (ip : In64 p) (hn : n ≤ 100000000) :
    Calls Tryd.prog 20 #[.slice A n c, .int .i64 p] w fun e w' => ∃ C m d, e = .returned (.tuple #[.slice C m d, .int .i64 (chk p)]) ∧ Got w C m d (polL p (Ser.der (cf xs))) (n) w' := by
  have C := pCheck_any p w ip.1 ip.2 hT
  rcases Classical.em (Pr p) with hp | hp
  · rw [chk_yes (primB_yes hp)] at C ⊢
    have CC := Lib.hid C
    have PR := Lib.hid hp
    have MD := Lib.hid hp.md
    have PP := Lib.hid (pPlain_any A n c xs p w h hp.md (by omega))
    have hmf : ∀ (fn : Fn) (first cap : Array Value) (w : World), (Instr.makeFunc fn first cap).run Tryd.prog w = .ok (.func fn first cap) w := fun _ _ _ _ => rfl
    clear C h hT hp ip
    go_enter Tryd.func20, Tryd.ntmps20
    go_wp2_with (go_at_call 33; (with_reducible refine CC.out.mono ?_); rintro e w1 ⟨rfl, rfl⟩)
    refine PP.out.mono ?_
    rintro e w2 ⟨v2, rfl, X, m, d, fx, rfl, hX, px, hm, -, hb2⟩
    have hXle := hX.le
    have hXmx := hX.max
    have PX := Lib.hid px
    have HX := Lib.hid hX
    have HB2 := Lib.hid hb2
    have HM := Lib.hid hm
    have EQ := Lib.hid (fst_bd (p := p) (f := Ser.der (cf fx)) (n := m) (by
      intro i hi
      show ((i : Int) + 1) * cf fx (i + 1) % p = 0
      rw [cf_over (by rw [← hX.len]; omega)]; simp))
    have TM := Lib.hid (fun (W : World) (hB : Bx W w2.heap.size (.slice X m d)) (hb : Below w2.heap.size w2 W) => pMade_any 37 _ (enters_of Tryd.func37 (by kernel_rfl) rfl) (Ser.der (cf fx)) m p W MD.out (tells_der X m d w2.heap.size fx p W hB (HX.out.below hb) MD.out PX.out.rs (by omega)) (by omega))
    clear hX px hb2 PP CC hm
    go_wp2_with (go_at_call 36; (refine Calls.mono (TM.out _ (Bx.new _ _ _) (below_al _ _)) ?_); rintro e w5 ⟨v, rfl, ho⟩; have HO := Lib.hid ho; clear ho)
    go_ret2
    have hbb := HB2.out.trans ((below_al w2 (.cells #[.slice X m d] 22)).mono HB2.out.size)
    obtain ⟨C, k, dd, rfl, hgot⟩ := polIn_got (L := polL p (Ser.der (cf xs))) HO.out.in_.1 (hbb.trans (HO.out.in_.2.mono hbb.size)) HM.out (fun ys hy => polL_is PR.out (hy.eq (EQ.out.trans PX.out.2.der)))
    exact ⟨C, k, dd, rfl, hgot⟩
  · rw [chk_no (primB_no hp)] at C ⊢
    have CC := Lib.hid C
    have NO := Lib.hid hp
    clear C h ip hT hp
    go_enter Tryd.func20, Tryd.ntmps20
    go_wp2_with (go_at_call 33; (with_reducible refine CC.out.mono ?_); rintro e w1 ⟨rfl, rfl⟩)
    go_ret2
    exact ⟨none, 0, 0, rfl, got_nil (Below.refl _ _) (polL_no NO.out)⟩
end Go.Proofs.YtekpifafjbkmiaaDoor

/- Rows of three polynomials, as arrays in memory. -/
namespace Go.Proofs.YtekpifafjbkmiaaDoor
open Go.RowKit

/-- A slice's words. -/
abbrev SV := Option Addr × Nat × Nat
def sv (x : SV) : Value := .slice x.1 x.2.1 x.2.2
/-- Block g holds just a row. -/
def ABlk (w : World) (g : Nat) (X : Nat → SV) : Prop := w.heap[g]? = some (.cells #[sv (X 0), sv (X 1), sv (X 2)] 57 (0, 0))
theorem ABlk.lt {w : World} {g : Nat} {X : Nat → SV} (h : ABlk w g X) : g < w.heap.size := (Array.getElem?_eq_some_iff.1 h).1
theorem ABlk.cell {w : World} {g : Nat} {X : Nat → SV} (h : ABlk w g X) (k : Nat) (hk : k < 3) : w.cell? ⟨g, k, none⟩ = some (sv (X k)) := by
  rw [cell_of_row w g k _ _ (0, 0) h]
  match k, hk with
  | 0, _ => rfl
  | 1, _ => rfl
  | 2, _ => rfl
theorem ABlk.frozen {w : World} {g : Nat} {X : Nat → SV} (h : ABlk w g X) (k : Nat) : w.frozen? ⟨g, k, none⟩ = false := by
  simp [World.frozen?, show w.heap[g]? = _ from h]
theorem ABlk.below {w w' : World} {g : Nat} {X : Nat → SV} (h : ABlk w g X) (hb : Below w.heap.size w w') : ABlk w' g X := (hb.block g h.lt).trans h
theorem ABlk.far {w : World} {g : Nat} {X : Nat → SV} (h : ABlk w g X) {p : Addr} (hp : g ≠ p.block) (u : Value) : ABlk (w.setCell p u) g X := (Below.heap_setCell w p u g hp).trans h
theorem ABlk.new (w : World) (X : Nat → SV) : ABlk (w.alloc (.cells #[sv (X 0), sv (X 1), sv (X 2)] 57)) w.heap.size X := heap_alloc_new w _
theorem ABlk.congr {w : World} {g : Nat} {X Y : Nat → SV} (h : ABlk w g X) (e : ∀ k, k < 3 → X k = Y k) : ABlk w g Y := by
  unfold ABlk at *
  rw [h, e 0 (by omega), e 1 (by omega), e 2 (by omega)]
/-- One place told anew. -/
def putR (X : Nat → SV) (k : Nat) (y : SV) : Nat → SV := fun j => if j = k then y else X j
theorem putR_at (X : Nat → SV) (k : Nat) (y : SV) : putR X k y k = y := if_pos rfl
theorem putR_ne (X : Nat → SV) {k j : Nat} (y : SV) (h : j ≠ k) : putR X k y j = X j := if_neg h
theorem ABlk.set_ {w : World} {g : Nat} {X : Nat → SV} (h : ABlk w g X) (k : Nat) (hk : k < 3) (y : SV) : ABlk (w.setCell ⟨g, k, none⟩ (sv y)) g (putR X k y) := by
  have h1 := show w.heap[g]? = _ from h
  unfold ABlk
  match k, hk with
  | 0, _ => simp [World.setCell, Array.getElem?_modify, h1, putR]
  | 1, _ => simp [World.setCell, Array.getElem?_modify, h1, putR]
  | 2, _ => simp [World.setCell, Array.getElem?_modify, h1, putR]
/-- A slice of ints lies in no row's block. -/
theorem isl_arr {W : World} {A : Option Addr} {n c g : Nat} {xs : List Int} {X : Nat → SV} (h : ISl W A n c xs) (hb : ABlk W g X) : IApart A xs g := by
  rcases h.rd.2 with h0 | ⟨b, o, rfl, hlt, hc⟩
  · exact .inl h0
  · cases xs with
    | nil => exact .inl rfl
    | cons x xs =>
      refine .inr fun b' o' s' e => ?_
      simp only [Option.some.injEq, Addr.mk.injEq] at e
      obtain ⟨rfl, _, _⟩ := e
      intro hbg
      subst hbg
      have h1 := hc 0 (by simp)
      rw [cell_of_row W b (o + 0) _ _ (0, 0) hb] at h1
      match o with
      | 0 => simp [sv] at h1
      | 1 => simp [sv] at h1
      | 2 => simp [sv] at h1
      | o + 3 => simp at h1
/-- The polynomials of a row, each plain, no longer than N. -/
def RowP (w : World) (X : Nat → SV) (F : Nat → List Int) (p : Int) (N : Nat) : Prop := ∀ k, k < 3 → ISl w (X k).1 (X k).2.1 (X k).2.2 (F k) ∧ Pln p (F k) ∧ (X k).2.1 ≤ N
theorem RowP.below {w w' : World} {X : Nat → SV} {F : Nat → List Int} {p : Int} {N : Nat} (h : RowP w X F p N) (hb : Below w.heap.size w w') : RowP w' X F p N := fun k hk => ⟨(h k hk).1.below hb, (h k hk).2⟩
theorem RowP.mono {w : World} {X : Nat → SV} {F : Nat → List Int} {p : Int} {N M : Nat} (h : RowP w X F p N) (hn : N ≤ M) : RowP w X F p M := fun k hk => ⟨(h k hk).1, (h k hk).2.1, Nat.le_trans (h k hk).2.2 hn⟩
theorem RowP.far {w : World} {X Y : Nat → SV} {F : Nat → List Int} {p : Int} {N g : Nat} (h : RowP w X F p N) (hb : ABlk w g Y) (i : Nat) (u : Value) : RowP (w.setCell ⟨g, i, none⟩ u) X F p N := fun k hk => ⟨(h k hk).1.far (isl_arr (h k hk).1 hb) i u, (h k hk).2⟩
def putF (F : Nat → List Int) (k : Nat) (y : List Int) : Nat → List Int := fun j => if j = k then y else F j
theorem putF_at (X : Nat → List Int) (k : Nat) (y : List Int) : putF X k y k = y := if_pos rfl
theorem putF_ne (X : Nat → List Int) {k j : Nat} (y : List Int) (h : j ≠ k) : putF X k y j = X j := if_neg h
theorem RowP.put {w : World} {X : Nat → SV} {F : Nat → List Int} {p : Int} {N : Nat} (h : RowP w X F p N) (k : Nat) {C : Option Addr} {n c : Nat} {xs : List Int} (h1 : ISl w C n c xs) (h2 : Pln p xs) (h3 : n ≤ N) : RowP w (putR X k (C, n, c)) (putF F k xs) p N := by
  intro j hj
  by_cases e : j = k
  · subst e; rw [putR_at, putF_at]; exact ⟨h1, h2, h3⟩
  · rw [putR_ne _ _ e, putF_ne _ _ e]; exact h j hj
theorem RowP.one {w : World} {X : Nat → SV} {F : Nat → List Int} {p : Int} {N : Nat} (h : RowP w X F p N) (k : Nat) (hk : k < 3) {C : Option Addr} {n c : Nat} (e : X k = (C, n, c)) : ISl w C n c (F k) ∧ Pln p (F k) ∧ n ≤ N := by
  have := h k hk
  rw [e] at this
  exact this

/-- A step of Euclid's way. -/
def StepOf (p : Int) (m : Nat) (F G H : Nat → List Int) : Prop := ∃ q, Fini p q ∧ Ser.Bd p (cf (H 0)) m ∧ (rowS H).Same p ((rowS F).less q (rowS G))
theorem isDiv_rows {p : Int} {m : Nat} {a b q r : Ser} {qs rs : List Int} (hd : IsDiv p m a b q r) (hq : Pol p qs q) (hr : Pol p rs r) : IsDiv p m a b (cf qs) (cf rs) :=
  ⟨hd.1.trans (((hq.2.symm).mul (Ser.Eq.refl p b)).add hr.2.symm), hd.2.eq hr.2.symm⟩
theorem less_fst {p : Int} {N : Nat} {xs qs ys : List Int} (h1 : xs.length ≤ N) (h2 : qs.length + ys.length ≤ N) : Ser.Eq p (fst N (fun i => cf xs i - Ser.mul (cf qs) (cf ys) i)) (less (cf xs) (cf qs) (cf ys)) := by
  refine Ser.Eq.trans (fst_bd (fun i hi => ?_)) (Ser.Eq.of ?_)
  · show (cf xs i - Ser.mul (cf qs) (cf ys) i) % p = 0
    rw [cf_over (by omega), Int.sub_emod, bd_mulcf p qs ys i (by omega)]
    simp
  · funext i
    show cf xs i - Ser.mul (cf qs) (cf ys) i = cf xs i + -1 * Ser.mul (cf qs) (cf ys) i
    omega
end Go.Proofs.YtekpifafjbkmiaaDoor

/- A region that draws its order, in a round of a loop over a function: by the plain moves with a condition on the world. -/
namespace Go.Proofs.YtekpifafjbkmiaaDoor
open Go.RowKit

/-- Q, and no other way out than the plain one. -/
def OnlyN (Q : Exit → Act → World → Prop) : Exit → Act → World → Prop := fun e a w => e = .normal ∧ Q .normal a w
theorem onlyN_out {Q : Exit → Act → World → Prop} : ¬ LetsOut (OnlyN Q) := fun ⟨_, _, h⟩ => by have h2 := h.1; cases h2
theorem onlyN_up {Q : Exit → Act → World → Prop} : ∀ e a w, OnlyN Q e a w → Q e a w := fun _ _ _ h => h.1 ▸ h.2
theorem onlyN_q {Q : Exit → Act → World → Prop} {a a' : Act} : ∀ c w, OnlyN Q (.panic c) a' w → OnlyN Q (.panic c) a w := fun _ _ h => by have h2 := h.1; cases h2

theorem op_round {P : Program} {l n : Nat} {o : Oper} {a : Act} {w : World} {K : Act → World → Prop} {Q : Exit → Act → World → Prop} (hd : ∀ c, o.op ≠ .defer c) (h : o.wp P a w K (OnlyN Q)) : o.wpIn (Fence.wide.inRound l) n P a w K (OnlyN Q) := by
  refine ⟨fun _ _ => trivial, ?_⟩
  rw [Oper.semAt_eq _ _ _ hd]
  unfold Oper.wp at h
  generalize (execOp a.eval o).run P w = r at *
  cases r with
  | ok x w' =>
    cases x
    case enter f args => exact And.intro (fun hs => by cases hs) (CallsIn.inRound l (callsIn_wide.2 h))
    case row row args =>
      refine And.intro (fun hs => by cases hs) (fun c cs _ => ?_)
      obtain ⟨v, w'', r, s⟩ := h c cs
      exact ⟨v, w'', r, stepsIn_wide.2 s⟩
    all_goals first | exact h | exact h.elim
  | halt x w' => cases x <;> first | exact h | exact h.elim

section
variable {P : Program} {l n : Nat} {ops : Array Oper} {Q : Exit → Act → World → Prop}
theorem opAt_round {i : Nat} {a : Act} {w : World} {K K' : Act → World → Prop} (hd : ∀ (j : Nat) (o : Oper) (c : Call), ops[j]? = some o → o.op ≠ .defer c) (hK : ∀ a w, K a w → K' a w) (h : wpOp P ops (OnlyN Q) i K a w) :
    wpOpIn (Fence.wide.inRound l) n P ops (OnlyN Q) i K' a w := by
  unfold wpOp at h
  unfold wpOpIn
  cases ho : ops[i]? with
  | none => simp only [ho] at h; exact hK _ _ h
  | some o =>
    simp only [ho] at h
    simp only
    split
    · rename_i hw
      rw [if_pos hw] at h
      rcases h with h | h
      · exact Oper.wpIn_mono hK (op_round (fun c => hd i o c ho) h)
      · exact absurd h.2 onlyN_out
    · rename_i hw
      rw [if_neg hw] at h
      exact ⟨fun _ _ => trivial, hK _ _ h⟩
theorem any_round {md : Region.Mode} (hd : ∀ (j : Nat) (o : Oper) (c : Call), ops[j]? = some o → o.op ≠ .defer c) : ∀ (fuel : Nat) (listed : Array Bool) (a : Act) (w : World), wpAny P md ops (OnlyN Q) fuel listed a w → wpAnyIn (Fence.wide.inRound l) n P md ops (OnlyN Q) fuel listed a w
  | 0, _, _, _, h => h
  | fuel + 1, _, _, _, h => ⟨h.1, fun i hi => opAt_round hd (any_round hd fuel _) (h.2 i hi)⟩
/-- No operation is a defer statement. -/
def noDefer (ops : Array Oper) : Bool := ops.all fun o => match o.op with | .defer _ => false | _ => true
theorem noDefer_spec (h : noDefer ops = true) : ∀ (j : Nat) (o : Oper) (c : Call), ops[j]? = some o → o.op ≠ .defer c := by
  intro j o c ho e
  have h1 := Array.all_eq_true'.1 h o (Array.mem_of_getElem? ho)
  rw [e] at h1
  cases h1
theorem region_round {id : Nat} {a : Act} {w : World} (S : World → Prop) (hm : P.follows .mixedOrders = true) (hd : noDefer ops = true)
    (h : wpAnyH P .any ops (OnlyN Q) S ops.size (Array.replicate ops.size false) a w.drew) : (Code.region id ops true).wpIn (Fence.wide.inRound l) n P Q a w :=
  wpIn_mono (wpIn_region_any hm (any_round (noDefer_spec hd) _ _ _ _ (wpAny_of_held _ _ _ _ h))) onlyN_up
end
end Go.Proofs.YtekpifafjbkmiaaDoor

/- Texts joined, in their order: PrgPow. -/
import Derived.Test.YtnkhhndjbanmnaaGreatDoorMp13
import Derived.Test.YtnkhhndjbanmnaaGreatDoorMp14
import Derived.Test.YtnkhhndjbanmnaaGreatDoorMp21
import Derived.Test.YtnkhhndjbanmnaaGreatDoorMp22

/- fpoly.power, by its contract: a range over a function, whose rounds square and multiply. -/
namespace Go.Proofs.YtnkhhndjbanmnaaGreatDoor
open Go.RowKit Go.Shelf
attribute [local go_sem] Oper.semAt_some

theorem sc_farP {W : World} {a b : Addr} {v u : Value} (h : a ≠ b) (hc : W.cell? b = some u) : (W.setCell a v).cell? b = some u := by
  rw [World.cell?_setCell_other]
  · exact hc
  · exact h
def en64 (x : Nat) : Value := .int .u64 ((x % 18446744073709551616 : Nat) : Int)

set_option maxRecDepth 100000 in
set_option maxRecDepth 100000 in
set_option maxHeartbeats 8000000 in
theorem pPower_any (A B E : Option Addr) (n c n' c' k e m : Nat) (xs ys : List Int) (es : List Nat) (p : Int) (w : World) (hT : TabAt w) (h : ISl w A n c xs) (h' : ISl w B n' c' ys) (hE : Sl w E k e es) (hp : Pr p) (hx : Pln p xs) (hy : Pln p ys) (hm : n' = m + 1)
    (hn : n ≤ 100000000) (hn' : n' ≤ 100000000) (hk : k ≤ 100000000) :
    Calls Tryz.prog 171 #[.slice A n c, .slice E k e, .slice B n' c', .int .i64 p] w fun e w' => ∃ v, e = .returned v ∧ RestIn p m (Ser.pw (cf xs) (val es)) (cf ys) w' v ∧ Below w.heap.size w w' := by
  have hp1 := hp.1
  have hp2 := hp.2.1
  have H1 := Lib.hid h
  have H2 := Lib.hid h'
  have H3 := Lib.hid hE
  have HT := Lib.hid hT
  have PR := Lib.hid hp
  have MD := Lib.hid hp.md
  have PX := Lib.hid hx
  have PY := Lib.hid hy
  have HM := Lib.hid hm
  have DV := Lib.hid (fun (X : Option Addr) (a d : Nat) (fx : List Int) (W : World) (hX : ISl W X a d fx) (hx : Pln p fx) (hb : Below w.heap.size w W) (ha : a ≤ 1000000000) => pDivided_any X B a d n' c' m fx ys p W (hT.below hb) hX (h'.below hb) hp hx hy hm ha (by omega))
  have hone : Pln p [1] := ⟨fun x hx => by simp at hx; subst hx; omega, .inr (by simp [cf])⟩
  have ONE := Lib.hid hone
  clear h h' hE hT hp hx hy hone hm
  refine (callsIn_wide (n := 3)).1 ?_
  refine callsIn_of_wp_marks Tryz.func171 rfl trivial ?_ rfl
  simp only [Tryz.ntmps171, List.size_toArray, List.length_cons, List.length_nil, Nat.reduceAdd, Nat.reduceSub, Array.replicate_succ, Array.replicate_zero, List.push_toArray, List.append_toArray, List.nil_append, List.cons_append]
  have hb0 : Below w.heap.size w ((w.alloc (.cells #[.slice B n' c'] 22)).alloc (.cells #[.int .i64 p] 3)) := ((Below.refl _ _).alloc (Nat.le_refl _) _).alloc (by simp) _
  have HB0 := Lib.hid hb0
  have c6 : ((w.alloc (.cells #[.slice B n' c'] 22)).alloc (.cells #[.int .i64 p] 3)).cell? ⟨w.heap.size, 0, none⟩ = some (.slice B n' c') := by simp
  have c7 : ((w.alloc (.cells #[.slice B n' c'] 22)).alloc (.cells #[.int .i64 p] 3)).cell? ⟨w.heap.size + 1, 0, none⟩ = some (.int .i64 p) := by simp
  have s0 : ((w.alloc (.cells #[.slice B n' c'] 22)).alloc (.cells #[.int .i64 p] 3)).heap.size = w.heap.size + 2 := by simp
  have C6 := Lib.hid c6
  have C7 := Lib.hid c7
  have S0 := Lib.hid s0
  clear hb0 c6 c7 s0
  gi_wp2
  refine ⟨trivial, ?_⟩
  refine CallsIn.mono (callsIn_wide.2 (DV.out A n c xs ((w.alloc (.cells #[.slice B n' c'] 22)).alloc (.cells #[.int .i64 p] 3)) (H1.out.below HB0.out) PX.out HB0.out (by omega))) ?_
  rintro e1 w1 ⟨v1, v2, rfl, hdo⟩
  obtain ⟨O, k0, d0, os, rfl, hso, hpo, hro, hk0⟩ := divOut_rest PR.out hdo
  have hb1 : Below ((w.alloc (.cells #[.slice B n' c'] 22)).alloc (.cells #[.int .i64 p] 3)).heap.size ((w.alloc (.cells #[.slice B n' c'] 22)).alloc (.cells #[.int .i64 p] 3)) w1 := by obtain ⟨_, _, _, _, _, _, hbb⟩ := hdo; exact hbb
  have c6' : w1.cell? ⟨w.heap.size, 0, none⟩ = some (.slice B n' c') := (hb1.cell (p := ⟨w.heap.size, 0, none⟩) (by rw [S0.out]; show w.heap.size < _; omega)).trans C6.out
  have c7' : w1.cell? ⟨w.heap.size + 1, 0, none⟩ = some (.int .i64 p) := (hb1.cell (p := ⟨w.heap.size + 1, 0, none⟩) (by rw [S0.out]; show w.heap.size + 1 < _; omega)).trans C7.out
  have hb01 := HB0.out.trans (hb1.mono HB0.out.size)
  have hs1 : w.heap.size + 2 ≤ w1.heap.size := by rw [← S0.out]; exact hb1.size
  have HB01 := Lib.hid hb01
  have SO := Lib.hid hso
  have PO := Lib.hid hpo
  have RO := Lib.hid hro
  clear hdo hb1 hb01 hso hpo hro C6 C7 S0 HB0
  have hw12 : Below w1.heap.size w1 ((w1.alloc (.cells #[.slice O k0 d0] 22)).alloc (.cells #[.int .i64 1] 3)) := ((Below.refl _ _).alloc (Nat.le_refl _) _).alloc (by simp) _
  have hi1 := (iblk_list (w1.alloc (.cells #[.slice O k0 d0] 22)) [1] (fi_one (by unfold In64; decide))).sl (by simp)
  have hi2 : ISl ((w1.alloc (.cells #[.slice O k0 d0] 22)).alloc (.cells #[.int .i64 1] 3)) (some ⟨w1.heap.size + 1, 0, none⟩) 1 1 [1] := by
    have e1 : (w1.alloc (.cells #[.slice O k0 d0] 22)).heap.size = w1.heap.size + 1 := by simp
    rw [e1] at hi1
    exact hi1
  have c6 : ((w1.alloc (.cells #[.slice O k0 d0] 22)).alloc (.cells #[.int .i64 1] 3)).cell? ⟨w.heap.size, 0, none⟩ = some (.slice B n' c') := (hw12.cell (p := ⟨w.heap.size, 0, none⟩) (by show w.heap.size < _; omega)).trans c6'
  have c7 : ((w1.alloc (.cells #[.slice O k0 d0] 22)).alloc (.cells #[.int .i64 1] 3)).cell? ⟨w.heap.size + 1, 0, none⟩ = some (.int .i64 p) := (hw12.cell (p := ⟨w.heap.size + 1, 0, none⟩) (by show w.heap.size + 1 < _; omega)).trans c7'
  have c10 : ((w1.alloc (.cells #[.slice O k0 d0] 22)).alloc (.cells #[.int .i64 1] 3)).cell? ⟨w1.heap.size, 0, none⟩ = some (.slice O k0 d0) := by simp
  have HW := Lib.hid hw12
  have HI := Lib.hid hi2
  have C10 := Lib.hid c10
  have C6 := Lib.hid c6
  have C7 := Lib.hid c7
  have s2 : ((w1.alloc (.cells #[.slice O k0 d0] 22)).alloc (.cells #[.int .i64 1] 3)).heap.size = w1.heap.size + 2 := by simp
  have S2 := Lib.hid s2
  clear hw12 hi1 hi2 c10 s2 c6' c7'
  gi_wp2
  refine ⟨trivial, ?_⟩
  refine CallsIn.mono (callsIn_wide.2 (DV.out (some ⟨w1.heap.size + 1, 0, none⟩) 1 1 [1] ((w1.alloc (.cells #[.slice O k0 d0] 22)).alloc (.cells #[.int .i64 1] 3)) HI.out ONE.out (HB01.out.trans (HW.out.mono HB01.out.size)) (by omega))) ?_
  rintro e2 w2 ⟨v3, v4, rfl, hdo⟩
  obtain ⟨C, k1, d1, rs, rfl, hs, hpl, hro, hk1⟩ := divOut_rest PR.out hdo
  have hb2 : Below ((w1.alloc (.cells #[.slice O k0 d0] 22)).alloc (.cells #[.int .i64 1] 3)).heap.size ((w1.alloc (.cells #[.slice O k0 d0] 22)).alloc (.cells #[.int .i64 1] 3)) w2 := by obtain ⟨_, _, _, _, _, _, hbb⟩ := hdo; exact hbb
  have c6'' : w2.cell? ⟨w.heap.size, 0, none⟩ = some (.slice B n' c') := (hb2.cell (p := ⟨w.heap.size, 0, none⟩) (by rw [S2.out]; show w.heap.size < _; omega)).trans C6.out
  have c7'' : w2.cell? ⟨w.heap.size + 1, 0, none⟩ = some (.int .i64 p) := (hb2.cell (p := ⟨w.heap.size + 1, 0, none⟩) (by rw [S2.out]; show w.heap.size + 1 < _; omega)).trans C7.out
  have c10'' : w2.cell? ⟨w1.heap.size, 0, none⟩ = some (.slice O k0 d0) := (hb2.cell (p := ⟨w1.heap.size, 0, none⟩) (by rw [S2.out]; show w1.heap.size < _; omega)).trans C10.out
  have hs2 : w1.heap.size + 2 ≤ w2.heap.size := by rw [← S2.out]; exact hb2.size
  have hb12 : Below w1.heap.size w1 w2 := HW.out.trans (hb2.mono (by rw [S2.out]; omega))
  have SO2 := Lib.hid (SO.out.below hb12)
  have HB02 := Lib.hid (HB01.out.trans (hb12.mono HB01.out.size))
  have HS := Lib.hid hs
  have HPL := Lib.hid hpl
  have HRO := Lib.hid hro
  clear hdo hb2 hb12 hs hpl hro C6 C7 C10 S2 HI HW SO c6 c7
  gi_wp2_with (first
    | (refine ⟨trivial, ?_⟩; gi_at_call 195; refine (backU_in Fence.wide _ trivial rfl _ _ _ _).mono ?_; rintro e w3 ⟨rfl, rfl⟩))
  have hb4 : Below w2.heap.size w2 ((w2.alloc (.cells #[.slice C k1 d1] 22)).alloc (.cells #[.slice E k e] 123)) := ((Below.refl _ _).alloc (Nat.le_refl _) _).alloc (by simp) _
  have bz : Boxed ((w2.alloc (.cells #[.slice C k1 d1] 22)).alloc (.cells #[.slice E k e] 123)) w2.heap.size 22 (.slice C k1 d1) := (Boxed.new w2 _ _).alloc _
  have bs : Boxed ((w2.alloc (.cells #[.slice C k1 d1] 22)).alloc (.cells #[.slice E k e] 123)) (w2.heap.size + 1) 123 (.slice E k e) := by
    have h := Boxed.new (w2.alloc (.cells #[.slice C k1 d1] 22)) 123 (.slice E k e)
    rwa [World.size_alloc] at h
  have s4 : ((w2.alloc (.cells #[.slice C k1 d1] 22)).alloc (.cells #[.slice E k e] 123)).heap.size = w2.heap.size + 2 := by simp
  have i0 : PwIn w.heap.size (w.heap.size + 1) w1.heap.size w2.heap.size 22 B n' c' O k0 d0 os p m (cf ys) (Ser.pw (cf xs) (ev [])) ((w2.alloc (.cells #[.slice C k1 d1] 22)).alloc (.cells #[.slice E k e] 123)) := ⟨(hb4.cell (p := ⟨w.heap.size, 0, none⟩) (by show w.heap.size < _; omega)).trans c6'', (hb4.cell (p := ⟨w.heap.size + 1, 0, none⟩) (by show w.heap.size + 1 < _; omega)).trans c7'', (hb4.cell (p := ⟨w1.heap.size, 0, none⟩) (by show w1.heap.size < _; omega)).trans c10'', SO2.out.below hb4,
    C, k1, d1, rs, bz, HS.out.below hb4, HPL.out, by rw [show ev [] = 0 from rfl, Ser.pw_zero, ← cf_one]; exact HRO.out, hk1⟩
  have hB0 : Below w.heap.size w ((w2.alloc (.cells #[.slice C k1 d1] 22)).alloc (.cells #[.slice E k e] 123)) := HB02.out.trans (hb4.mono HB02.out.size)
  have hI : k = 0 ∨ ∃ b off, E = some ⟨b, off, none⟩ ∧ b < w.heap.size ∧ ∀ j, j < k → ((w2.alloc (.cells #[.slice C k1 d1] 22)).alloc (.cells #[.slice E k e] 123)).cell? ⟨b, off + j, none⟩ = some (en64 (es.getD j 0)) := by
    rcases Nat.eq_zero_or_pos k with h0 | h0
    · exact .inl h0
    · obtain ⟨b, o, rfl, hbl, hc⟩ := H3.out.at_ h0
      refine .inr ⟨b, o, rfl, hbl, fun j hj => ?_⟩
      rw [(hB0.cell (p := ⟨b, o + j, none⟩) hbl).trans (hc j hj)]
      unfold en64
      rw [Nat.mod_eq_of_lt (fit_getD H3.out.fit j)]
  have HBS := Lib.hid bs.cell
  have HI0 := Lib.hid i0
  have HS12 := Lib.hid (And.intro hs1 hs2)
  generalize ((w2.alloc (.cells #[.slice C k1 d1] 22)).alloc (.cells #[.slice E k e] 123)) = W4 at *
  clear hb4 bz bs i0 HS HPL HRO SO2 c6'' c7'' c10'' HB02
  refine wpIn_rangeFunc_ownG rfl (by omega) (gf := 200) (lb := #[.pointer (some ⟨w2.heap.size + 1, 0, none⟩)]) rfl trivial (enters_of Tryz.func200 (by kernel_rfl) rfl)
    (backU_stops en64 (fun j => es.getD j 0) Fence.wide _ trivial rfl (by omega) (w2.heap.size + 1) w.heap.size k e E (by omega) W4 (by omega) (by omega) HBS.out hI) KpB.trans (KpB.put (w := W4) (by omega) (by omega)) (Below.refl _ _) (fun _ => rfl)
    (fun pre W => (PwIn w.heap.size (w.heap.size + 1) w1.heap.size w2.heap.size 22 B n' c' O k0 d0 os p m (cf ys) (Ser.pw (cf xs) (ev pre)) W ∧ Below w.heap.size w W) ∧ w2.heap.size + 2 ≤ W.heap.size)
    (fun _ _ _ => False)
    (OwnFrom.and (OwnFrom.and (Own.from (PwIn.own (fun pre => Ser.pw (cf xs) (ev pre))) _) (ownFrom_below (Nat.le_refl _) (by omega))) (fun _ _ _ _ hs hg _ => Nat.le_trans hs hg.size))
    (fun _ _ _ _ _ hs _ _ => hs)
    ⟨⟨HI0.out, hB0⟩, by omega⟩
    (fun y => { tmps := #[Value.slice A n c, Value.slice E k e, Value.slice B n' c', Value.int IntKind.i64 p, undef, undef, .pointer (some ⟨w.heap.size, 0, none⟩), .pointer (some ⟨w.heap.size + 1, 0, none⟩), .slice none 0 0, v1, .pointer (some ⟨w1.heap.size, 0, none⟩), v3, .pointer (some ⟨w2.heap.size, 0, none⟩), undef, en64 y.2, undef, .tuple #[v1, .slice O k0 d0], .slice A n c, .slice B n' c', .int .i64 p, .tuple #[v1, .slice O k0 d0], v1, .slice O k0 d0, .tuple #[v3, .slice C k1 d1], .slice (some ⟨w1.heap.size + 1, 0, none⟩) 1 1, .slice B n' c', .int .i64 p, .tuple #[v3, .slice C k1 d1], v3, .slice C k1 d1, .slice E k e, .func (.func 200) #[] #[.pointer (some ⟨w2.heap.size + 1, 0, none⟩)], .int .i64 (y.1 : Int), en64 y.2, undef, undef, undef, undef, undef, undef, undef, undef, undef, undef, undef, undef, undef, undef, undef, undef, undef, undef, undef, undef, undef, undef, undef, undef, undef, undef, undef, undef, undef, undef], defers := [] }) ?assign ?body ?done ?stop
  case assign =>
    intro l x W K hK
    gi_wp2
    exact hK
  case body =>
    rintro l pre y W ⟨⟨hst, hB⟩, hz4⟩ _
    have hd : 1 ≤ 3 - 1 - 1 := by omega
    have hmx : Tryz.prog.follows .mixedOrders = true := by kernel_rfl
    obtain ⟨y0, y1⟩ := y
    obtain ⟨x, hx0⟩ : ∃ x, x = y1 % 18446744073709551616 := ⟨_, rfl⟩
    have hx1 : x < 18446744073709551616 := by rw [hx0]; exact Nat.mod_lt _ (by decide)
    have hev : ev (pre ++ [(y0, y1)]) = ev pre * 18446744073709551616 + x := by rw [ev_snoc, hx0]
    have hy : en64 y1 = .int .u64 (x : Int) := by unfold en64; rw [← hx0]
    rw [hy]
    obtain ⟨V, hV⟩ : ∃ V, ev pre * 18446744073709551616 + x = V := ⟨_, rfl⟩
    have hV64 : ev pre = V / 2 ^ 64 := by rw [← hV]; exact (ev_top _ _ hx1).symm
    have VB := Lib.hid (fun i (hi : i < 64) => show V / 2 ^ i % 2 = x / 2 ^ i % 2 from by rw [← hV]; exact ev_bit _ _ _ hi)
    rw [hV] at hev
    rw [hV64] at hst
    have HEV := Lib.hid hev
    have HST := Lib.hid hst
    have HBB := Lib.hid hB
    have HSZ := Lib.hid hB.size
    clear hev hy hV hV64 hst hB hx0 hI HBS HI0 hB0
    gi_wp2
    gi_loopw [15] (fun bit wr => ∃ t : Nat, t ≤ 64 ∧ bit = .int .i64 ((t : Int) - 1) ∧ Hid (PwIn w.heap.size (w.heap.size + 1) w1.heap.size w2.heap.size 22 B n' c' O k0 d0 os p m (cf ys) (Ser.pw (cf xs) (V / 2 ^ t)) wr) ∧ Hid (KeepsFrom W4.heap.size W wr) ∧ Hid (KpB w.heap.size (w2.heap.size + 1) W wr) ∧ Hid (Below w.heap.size w wr) ∧ w2.heap.size + 2 ≤ wr.heap.size) (fun bit _ => (intOf bit + 1).toNat)
    case atStart => exact ⟨64, Nat.le_refl _, rfl, HST, Lib.hid (KeepsFrom.refl _ _), Lib.hid (KpB.refl _ _ _), HBB, hz4⟩
    case round =>
      obtain ⟨t, ht, rfl, hP, KFa, KBa, hBW, hz4a⟩ := hrel
      clear HST HBB
      by_cases h0 : t = 0
      · subst h0
        gi_wp2
        have h1 := hP.out
        rw [Nat.pow_zero, Nat.div_one] at h1
        exact ⟨KFa.out, KBa.out, ⟨by rw [HEV.out]; exact h1, hBW.out⟩, hz4a⟩
      · obtain ⟨i, rfl⟩ : ∃ i, t = i + 1 := ⟨t - 1, by omega⟩
        have e1 : ((i + 1 : Nat) : Int) - 1 = (i : Int) := by omega
        rw [e1]
        clear e1 h0
        obtain ⟨c6, c7, c10, so, C, k, d, rs, hbx, hi, hp, hro, hk⟩ := hP.out
        have hz2 : w2.heap.size < wr.heap.size := by omega
        have hs12 := HS12.out
        have HWSZ : w.heap.size + 2 ≤ wr.heap.size := by omega
        have hm8 : m ≤ 100000000 := by have := HM.out; omega
        have hcz0 := hbx.cell
        have c6d : wr.drew.cell? ⟨w.heap.size, 0, none⟩ = some (.slice B n' c') := c6
        have c7d : wr.drew.cell? ⟨w.heap.size + 1, 0, none⟩ = some (.int .i64 p) := c7
        have HZa := Lib.hid hbx
        have HIa := Lib.hid hi
        have HPa := Lib.hid hp
        have HROa := Lib.hid hro
        have HSOa := Lib.hid so
        have HC10a := Lib.hid c10
        have HC6a := Lib.hid c6
        have HC7a := Lib.hid c7
        have HBWa : Hid (Below w.heap.size w wr) := hBW
        have PDa := Lib.hid (fun W' (hb : Below wr.heap.size wr W') => pProd_any C C k d k d rs rs p W' (HIa.out.below hb) (HIa.out.below hb) MD.out HPa.out.1 HPa.out.1 (by omega) (by omega))
        have STa := Lib.hid (fun W' (hb : Below wr.heap.size wr W') => show W'.cell? ⟨w.heap.size, 0, none⟩ = some (.slice B n' c') ∧ W'.cell? ⟨w.heap.size + 1, 0, none⟩ = some (.int .i64 p) from ⟨(hb.cell (p := ⟨w.heap.size, 0, none⟩) (show w.heap.size < wr.heap.size by omega)).trans HC6a.out, (hb.cell (p := ⟨w.heap.size + 1, 0, none⟩) (show w.heap.size + 1 < wr.heap.size by omega)).trans HC7a.out⟩)
        have STSa := Lib.hid (fun W' (hb : Below wr.heap.size wr W') (u : Value) => show (W'.setCell ⟨w2.heap.size, 0, none⟩ u).cell? ⟨w.heap.size, 0, none⟩ = some (.slice B n' c') ∧ (W'.setCell ⟨w2.heap.size, 0, none⟩ u).cell? ⟨w.heap.size + 1, 0, none⟩ = some (.int .i64 p) from ⟨sc_farP (by simp <;> omega) (STa.out W' hb).1, sc_farP (by simp <;> omega) (STa.out W' hb).2⟩)
        have PB := Lib.hid (pw_bit (cf xs) V i)
        have VBi := VB.out i (by omega)
        clear hbx hi hp hro so c10 hP
        gi_wp2
        refine region_round (fun W' => W'.cell? ⟨w.heap.size, 0, none⟩ = some (.slice B n' c') ∧ W'.cell? ⟨w.heap.size + 1, 0, none⟩ = some (.int .i64 p)) (by kernel_rfl) (by kernel_rfl) ?_
        have hS : wr.drew.cell? ⟨w.heap.size, 0, none⟩ = some (.slice B n' c') ∧ wr.drew.cell? ⟨w.heap.size + 1, 0, none⟩ = some (.int .i64 p) := ⟨c6d, c7d⟩
        refine wpAnyH_take (i := 2) (v := .int .i64 p) rfl (by kernel_rfl) (by kernel_rfl) (by kernel_rfl) (fun c a w h => onlyN_q c w h) (.inl ⟨by rfl, fun W' hS' => ?_⟩) hS ?_
        · obtain ⟨s1, s2⟩ := hS'
          go_simp
        simp only [Act.put, List.setIfInBounds_toArray]
        refine wpAnyH_take (i := 4) (v := .slice B n' c') rfl (by kernel_rfl) (by kernel_rfl) (by kernel_rfl) (fun c a w h => onlyN_q c w h) (.inl ⟨by rfl, fun W' hS' => ?_⟩) hS ?_
        · obtain ⟨s1, s2⟩ := hS'
          go_simp
        simp only [Act.put]
        refine wpAnyH_take (i := 5) (v := .int .i64 p) rfl (by kernel_rfl) (by kernel_rfl) (by kernel_rfl) (fun c a w h => onlyN_q c w h) (.inl ⟨by rfl, fun W' hS' => ?_⟩) hS ?_
        · obtain ⟨s1, s2⟩ := hS'
          go_simp
        simp only [Act.put]
        refine wpAnyH_ready (rs := [0, 1]) (by kernel_rfl) (by simp) (AllReadyH.cons rfl (fun K hK => ?_) (AllReadyH.cons rfl (fun K hK => ?_) AllReadyH.nil))
        · go_simp
          refine hK.out _ _ hS (fun hS => ?_)
          clear hK K
          refine wpAnyH_ready (rs := [1]) (by kernel_rfl) (by simp) (AllReadyH.cons rfl (fun K hK => ?_) AllReadyH.nil)
          go_simp
          refine hK.out _ _ hS (fun hS => ?_)
          clear hK K
          refine wpAnyH_ready (rs := [3]) (by kernel_rfl) (by simp) (AllReadyH.cons rfl (fun K hK => ?_) AllReadyH.nil)
          go_simp
          refine (PDa.out _ (Below.refl _ _).drew).mono ?_
          rintro e5 w5 ⟨v5, rfl, Xa, m3a, d3a, f3a, rfl, hsxa, hpxa, hm3a, -, hb5'a⟩
          have hb5a : Below wr.heap.size wr w5 := ((Below.refl _ _).drew).trans hb5'a
          refine hK.out _ _ (STa.out _ hb5a) (fun hS => ?_)
          clear hK K hb5'a
          refine wpAnyH_ready (rs := [6]) (by kernel_rfl) (by simp) (AllReadyH.cons rfl (fun K hK => ?_) AllReadyH.nil)
          go_simp
          refine (DV.out Xa m3a d3a f3a w5 hsxa hpxa.1 (HBWa.out.trans (hb5a.mono HBWa.out.size)) (by omega)).mono ?_
          rintro e6 w6 ⟨v6, v7, rfl, hdoa⟩
          obtain ⟨C7a, k7a, d7a, r7a, rfl, hs7a, hp7a, hro7a, hk7a⟩ := divOut_rest PR.out hdoa
          have hb6a : Below w5.heap.size w5 w6 := by obtain ⟨_, _, _, _, _, _, hbb⟩ := hdoa; exact hbb
          have hb57a : Below wr.heap.size wr w6 := hb5a.trans (hb6a.mono hb5a.size)
          refine hK.out _ _ (STa.out _ hb57a) (fun hS => ?_)
          clear hK K hdoa hb6a
          refine wpAnyH_take (i := 7) (v := .tuple #[v6, .slice C7a k7a d7a]) rfl (by kernel_rfl) (by kernel_rfl) (by kernel_rfl) (fun c a w h => onlyN_q c w h) (.inl ⟨by rfl, fun W' hS' => ?_⟩) hS ?_
          · obtain ⟨s1, s2⟩ := hS'
            go_simp
          simp only [Act.put]
          refine wpAnyH_take (i := 8) (v := v6) rfl (by kernel_rfl) (by kernel_rfl) (by kernel_rfl) (fun c a w h => onlyN_q c w h) (.inl ⟨by rfl, fun W' hS' => ?_⟩) hS ?_
          · obtain ⟨s1, s2⟩ := hS'
            go_simp
          simp only [Act.put]
          refine wpAnyH_take (i := 9) (v := .slice C7a k7a d7a) rfl (by kernel_rfl) (by kernel_rfl) (by kernel_rfl) (fun c a w h => onlyN_q c w h) (.inl ⟨by rfl, fun W' hS' => ?_⟩) hS ?_
          · obtain ⟨s1, s2⟩ := hS'
            go_simp
          simp only [Act.put]
          have hbza : Boxed w6 w2.heap.size 22 (.slice C k d) := (hb57a.block w2.heap.size (show w2.heap.size < wr.heap.size by omega)).trans HZa.out
          have hcza := hbza.cell
          have hfza := hbza.frozen
          refine wpAnyH_ready (rs := [10]) (by kernel_rfl) (by simp) (AllReadyH.cons rfl (fun K hK => ?_) AllReadyH.nil)
          go_simp
          refine hK.out _ _ (STSa.out _ hb57a _) (fun _ => wpAnyH_done (by kernel_rfl) ⟨rfl, ?_⟩ _)
          clear hK K hS
          have hz6a : wr.heap.size ≤ w6.heap.size := hb57a.size
          have HZb : Hid (Boxed (w6.setCell ⟨w2.heap.size, 0, none⟩ (.slice C7a k7a d7a)) w2.heap.size 22 (.slice C7a k7a d7a)) := Lib.hid (hbza.set _)
          have HIb : Hid (ISl (w6.setCell ⟨w2.heap.size, 0, none⟩ (.slice C7a k7a d7a)) C7a k7a d7a r7a) := Lib.hid (hs7a.far (isl_box hs7a hbza) 0 _)
          have HSOb : Hid (ISl (w6.setCell ⟨w2.heap.size, 0, none⟩ (.slice C7a k7a d7a)) O k0 d0 os) := Lib.hid ((HSOa.out.below hb57a).far (isl_box (HSOa.out.below hb57a) hbza) 0 _)
          have c6b : (w6.setCell ⟨w2.heap.size, 0, none⟩ (.slice C7a k7a d7a)).cell? ⟨w.heap.size, 0, none⟩ = some (.slice B n' c') := sc_farP (by simp <;> omega) ((hb57a.cell (p := ⟨w.heap.size, 0, none⟩) (show w.heap.size < wr.heap.size by omega)).trans HC6a.out)
          have c7b : (w6.setCell ⟨w2.heap.size, 0, none⟩ (.slice C7a k7a d7a)).cell? ⟨w.heap.size + 1, 0, none⟩ = some (.int .i64 p) := sc_farP (by simp <;> omega) ((hb57a.cell (p := ⟨w.heap.size + 1, 0, none⟩) (show w.heap.size + 1 < wr.heap.size by omega)).trans HC7a.out)
          have c10b : (w6.setCell ⟨w2.heap.size, 0, none⟩ (.slice C7a k7a d7a)).cell? ⟨w1.heap.size, 0, none⟩ = some (.slice O k0 d0) := sc_farP (by simp <;> omega) ((hb57a.cell (p := ⟨w1.heap.size, 0, none⟩) (show w1.heap.size < wr.heap.size by omega)).trans HC10a.out)
          have KFb : Hid (KeepsFrom W4.heap.size W (w6.setCell ⟨w2.heap.size, 0, none⟩ (.slice C7a k7a d7a))) := Lib.hid (KFa.out.trans ((keepsFrom_of_below hb57a).trans ((KeepsOthers.setCell _ _ _).from _)))
          have KBb : Hid (KpB w.heap.size (w2.heap.size + 1) W (w6.setCell ⟨w2.heap.size, 0, none⟩ (.slice C7a k7a d7a))) := Lib.hid (KBa.out.trans ((show KpB w.heap.size (w2.heap.size + 1) wr w6 from ⟨hb57a.mono (by omega), hb57a.block _ (by omega)⟩).set ⟨w2.heap.size, 0, none⟩ (show w.heap.size ≤ w2.heap.size by omega) (show w2.heap.size + 1 ≠ w2.heap.size by omega) _))
          have HBWb : Hid (Below w.heap.size w (w6.setCell ⟨w2.heap.size, 0, none⟩ (.slice C7a k7a d7a))) := Lib.hid ((HBWa.out.trans (hb57a.mono (by omega))).setCell (p := ⟨w2.heap.size, 0, none⟩) (show w.heap.size ≤ w2.heap.size by omega) _)
          have hz7b : w2.heap.size + 2 ≤ (w6.setCell ⟨w2.heap.size, 0, none⟩ (.slice C7a k7a d7a)).heap.size := by simp only [World.setCell, Array.size_modify]; omega
          have HSQ : Hid (RestOf p m (Ser.mul (Ser.pw (cf xs) (V / 2 ^ (i + 1))) (Ser.pw (cf xs) (V / 2 ^ (i + 1)))) (cf ys) (cf r7a)) := Lib.hid (RestOf.sq HROa.out (fini_pw (fini_cf p xs) _) (hro7a.eq hpxa.2))
          clear hb5a hb57a hz6a hsxa hpxa hs7a hro7a hbza hcza hfza hcz0 c6d c7d c6 c7
          generalize w6.setCell ⟨w2.heap.size, 0, none⟩ (.slice C7a k7a d7a) = w7 at *
          have hcz7b := HZb.out.cell
          have HC6b := Lib.hid c6b
          have HC7b := Lib.hid c7b
          have HC10b := Lib.hid c10b
          by_cases hbt : V / 2 ^ i % 2 = 1
          · have hband : bits .and .u64 ((x : Int) / 2 ^ i) 1 = 1 := by
              have := bit_and64 x i hx1
              rw [Nat.mod_eq_of_lt (show i < 64 by omega), ← VBi, hbt] at this
              exact this
            have hi4 : min i 64 = i := by omega
            have c6e : w7.drew.cell? ⟨w.heap.size, 0, none⟩ = some (.slice B n' c') := c6b
            have c7e : w7.drew.cell? ⟨w.heap.size + 1, 0, none⟩ = some (.int .i64 p) := c7b
            have c10e : w7.drew.cell? ⟨w1.heap.size, 0, none⟩ = some (.slice O k0 d0) := c10b
            have HPB : Hid (Ser.pw (cf xs) (V / 2 ^ i) = Ser.mul (Ser.mul (Ser.pw (cf xs) (V / 2 ^ (i + 1))) (Ser.pw (cf xs) (V / 2 ^ (i + 1)))) (cf xs)) := Lib.hid (by rw [PB.out, if_pos hbt])
            have PDb := Lib.hid (fun W' (hb : Below w7.heap.size w7 W') => pProd_any C7a O k7a d7a k0 d0 r7a os p W' (HIb.out.below hb) (HSOb.out.below hb) MD.out hp7a.1 PO.out.1 (by omega) (by omega))
            have STb := Lib.hid (fun W' (hb : Below w7.heap.size w7 W') => show W'.cell? ⟨w.heap.size, 0, none⟩ = some (.slice B n' c') ∧ W'.cell? ⟨w.heap.size + 1, 0, none⟩ = some (.int .i64 p) ∧ W'.cell? ⟨w1.heap.size, 0, none⟩ = some (.slice O k0 d0) from ⟨(hb.cell (p := ⟨w.heap.size, 0, none⟩) (show w.heap.size < w7.heap.size by omega)).trans HC6b.out, (hb.cell (p := ⟨w.heap.size + 1, 0, none⟩) (show w.heap.size + 1 < w7.heap.size by omega)).trans HC7b.out, (hb.cell (p := ⟨w1.heap.size, 0, none⟩) (show w1.heap.size < w7.heap.size by omega)).trans HC10b.out⟩)
            have STSb := Lib.hid (fun W' (hb : Below w7.heap.size w7 W') (u : Value) => show (W'.setCell ⟨w2.heap.size, 0, none⟩ u).cell? ⟨w.heap.size, 0, none⟩ = some (.slice B n' c') ∧ (W'.setCell ⟨w2.heap.size, 0, none⟩ u).cell? ⟨w.heap.size + 1, 0, none⟩ = some (.int .i64 p) ∧ (W'.setCell ⟨w2.heap.size, 0, none⟩ u).cell? ⟨w1.heap.size, 0, none⟩ = some (.slice O k0 d0) from ⟨sc_farP (by simp <;> omega) (STb.out W' hb).1, sc_farP (by simp <;> omega) (STb.out W' hb).2.1, sc_farP (by simp <;> omega) (STb.out W' hb).2.2⟩)
            clear hbt VBi c6b c7b c10b
            gi_wp2
            refine region_round (fun W' => W'.cell? ⟨w.heap.size, 0, none⟩ = some (.slice B n' c') ∧ W'.cell? ⟨w.heap.size + 1, 0, none⟩ = some (.int .i64 p) ∧ W'.cell? ⟨w1.heap.size, 0, none⟩ = some (.slice O k0 d0)) (by kernel_rfl) (by kernel_rfl) ?_
            have hS : w7.drew.cell? ⟨w.heap.size, 0, none⟩ = some (.slice B n' c') ∧ w7.drew.cell? ⟨w.heap.size + 1, 0, none⟩ = some (.int .i64 p) ∧ w7.drew.cell? ⟨w1.heap.size, 0, none⟩ = some (.slice O k0 d0) := ⟨c6e, c7e, c10e⟩
            refine wpAnyH_take (i := 1) (v := .slice O k0 d0) rfl (by kernel_rfl) (by kernel_rfl) (by kernel_rfl) (fun c a w h => onlyN_q c w h) (.inl ⟨by rfl, fun W' hS' => ?_⟩) hS ?_
            · obtain ⟨s1, s2, s3⟩ := hS'
              go_simp
            simp only [Act.put, List.setIfInBounds_toArray]
            refine wpAnyH_take (i := 2) (v := .int .i64 p) rfl (by kernel_rfl) (by kernel_rfl) (by kernel_rfl) (fun c a w h => onlyN_q c w h) (.inl ⟨by rfl, fun W' hS' => ?_⟩) hS ?_
            · obtain ⟨s1, s2, s3⟩ := hS'
              go_simp
            simp only [Act.put]
            refine wpAnyH_take (i := 4) (v := .slice B n' c') rfl (by kernel_rfl) (by kernel_rfl) (by kernel_rfl) (fun c a w h => onlyN_q c w h) (.inl ⟨by rfl, fun W' hS' => ?_⟩) hS ?_
            · obtain ⟨s1, s2, s3⟩ := hS'
              go_simp
            simp only [Act.put]
            refine wpAnyH_take (i := 5) (v := .int .i64 p) rfl (by kernel_rfl) (by kernel_rfl) (by kernel_rfl) (fun c a w h => onlyN_q c w h) (.inl ⟨by rfl, fun W' hS' => ?_⟩) hS ?_
            · obtain ⟨s1, s2, s3⟩ := hS'
              go_simp
            simp only [Act.put]
            refine wpAnyH_ready (rs := [0]) (by kernel_rfl) (by simp) (AllReadyH.cons rfl (fun K hK => ?_) AllReadyH.nil)
            go_simp
            refine hK.out _ _ hS (fun hS => ?_)
            clear hK K
            refine wpAnyH_ready (rs := [3]) (by kernel_rfl) (by simp) (AllReadyH.cons rfl (fun K hK => ?_) AllReadyH.nil)
            go_simp
            refine (PDb.out _ (Below.refl _ _).drew).mono ?_
            rintro e5 w5 ⟨v5, rfl, Xb, m3b, d3b, f3b, rfl, hsxb, hpxb, hm3b, -, hb5'b⟩
            have hb5b : Below w7.heap.size w7 w5 := ((Below.refl _ _).drew).trans hb5'b
            refine hK.out _ _ (STb.out _ hb5b) (fun hS => ?_)
            clear hK K hb5'b
            refine wpAnyH_ready (rs := [6]) (by kernel_rfl) (by simp) (AllReadyH.cons rfl (fun K hK => ?_) AllReadyH.nil)
            go_simp
            refine (DV.out Xb m3b d3b f3b w5 hsxb hpxb.1 (HBWb.out.trans (hb5b.mono HBWb.out.size)) (by omega)).mono ?_
            rintro e6 w6 ⟨v6, v7, rfl, hdob⟩
            obtain ⟨C7b, k7b, d7b, r7b, rfl, hs7b, hp7b, hro7b, hk7b⟩ := divOut_rest PR.out hdob
            have hb6b : Below w5.heap.size w5 w6 := by obtain ⟨_, _, _, _, _, _, hbb⟩ := hdob; exact hbb
            have hb57b : Below w7.heap.size w7 w6 := hb5b.trans (hb6b.mono hb5b.size)
            refine hK.out _ _ (STb.out _ hb57b) (fun hS => ?_)
            clear hK K hdob hb6b
            refine wpAnyH_take (i := 7) (v := .tuple #[v6, .slice C7b k7b d7b]) rfl (by kernel_rfl) (by kernel_rfl) (by kernel_rfl) (fun c a w h => onlyN_q c w h) (.inl ⟨by rfl, fun W' hS' => ?_⟩) hS ?_
            · obtain ⟨s1, s2, s3⟩ := hS'
              go_simp
            simp only [Act.put]
            refine wpAnyH_take (i := 8) (v := v6) rfl (by kernel_rfl) (by kernel_rfl) (by kernel_rfl) (fun c a w h => onlyN_q c w h) (.inl ⟨by rfl, fun W' hS' => ?_⟩) hS ?_
            · obtain ⟨s1, s2, s3⟩ := hS'
              go_simp
            simp only [Act.put]
            refine wpAnyH_take (i := 9) (v := .slice C7b k7b d7b) rfl (by kernel_rfl) (by kernel_rfl) (by kernel_rfl) (fun c a w h => onlyN_q c w h) (.inl ⟨by rfl, fun W' hS' => ?_⟩) hS ?_
            · obtain ⟨s1, s2, s3⟩ := hS'
              go_simp
            simp only [Act.put]
            have hbzb : Boxed w6 w2.heap.size 22 (.slice C7a k7a d7a) := (hb57b.block w2.heap.size (show w2.heap.size < w7.heap.size by omega)).trans HZb.out
            have hczb := hbzb.cell
            have hfzb := hbzb.frozen
            refine wpAnyH_ready (rs := [10]) (by kernel_rfl) (by simp) (AllReadyH.cons rfl (fun K hK => ?_) AllReadyH.nil)
            go_simp
            refine hK.out _ _ (STSb.out _ hb57b _) (fun _ => wpAnyH_done (by kernel_rfl) ⟨rfl, ?_⟩ _)
            clear hK K hS
            have hz6b : w7.heap.size ≤ w6.heap.size := hb57b.size
            have HZc : Hid (Boxed (w6.setCell ⟨w2.heap.size, 0, none⟩ (.slice C7b k7b d7b)) w2.heap.size 22 (.slice C7b k7b d7b)) := Lib.hid (hbzb.set _)
            have HIc : Hid (ISl (w6.setCell ⟨w2.heap.size, 0, none⟩ (.slice C7b k7b d7b)) C7b k7b d7b r7b) := Lib.hid (hs7b.far (isl_box hs7b hbzb) 0 _)
            have HSOc : Hid (ISl (w6.setCell ⟨w2.heap.size, 0, none⟩ (.slice C7b k7b d7b)) O k0 d0 os) := Lib.hid ((HSOb.out.below hb57b).far (isl_box (HSOb.out.below hb57b) hbzb) 0 _)
            have c6c : (w6.setCell ⟨w2.heap.size, 0, none⟩ (.slice C7b k7b d7b)).cell? ⟨w.heap.size, 0, none⟩ = some (.slice B n' c') := sc_farP (by simp <;> omega) ((hb57b.cell (p := ⟨w.heap.size, 0, none⟩) (show w.heap.size < w7.heap.size by omega)).trans HC6b.out)
            have c7c : (w6.setCell ⟨w2.heap.size, 0, none⟩ (.slice C7b k7b d7b)).cell? ⟨w.heap.size + 1, 0, none⟩ = some (.int .i64 p) := sc_farP (by simp <;> omega) ((hb57b.cell (p := ⟨w.heap.size + 1, 0, none⟩) (show w.heap.size + 1 < w7.heap.size by omega)).trans HC7b.out)
            have c10c : (w6.setCell ⟨w2.heap.size, 0, none⟩ (.slice C7b k7b d7b)).cell? ⟨w1.heap.size, 0, none⟩ = some (.slice O k0 d0) := sc_farP (by simp <;> omega) ((hb57b.cell (p := ⟨w1.heap.size, 0, none⟩) (show w1.heap.size < w7.heap.size by omega)).trans HC10b.out)
            have KFc : Hid (KeepsFrom W4.heap.size W (w6.setCell ⟨w2.heap.size, 0, none⟩ (.slice C7b k7b d7b))) := Lib.hid (KFb.out.trans ((keepsFrom_of_below hb57b).trans ((KeepsOthers.setCell _ _ _).from _)))
            have KBc : Hid (KpB w.heap.size (w2.heap.size + 1) W (w6.setCell ⟨w2.heap.size, 0, none⟩ (.slice C7b k7b d7b))) := Lib.hid (KBb.out.trans ((show KpB w.heap.size (w2.heap.size + 1) w7 w6 from ⟨hb57b.mono (by omega), hb57b.block _ (by omega)⟩).set ⟨w2.heap.size, 0, none⟩ (show w.heap.size ≤ w2.heap.size by omega) (show w2.heap.size + 1 ≠ w2.heap.size by omega) _))
            have HBWc : Hid (Below w.heap.size w (w6.setCell ⟨w2.heap.size, 0, none⟩ (.slice C7b k7b d7b))) := Lib.hid ((HBWb.out.trans (hb57b.mono (by omega))).setCell (p := ⟨w2.heap.size, 0, none⟩) (show w.heap.size ≤ w2.heap.size by omega) _)
            have hz7c : w2.heap.size + 2 ≤ (w6.setCell ⟨w2.heap.size, 0, none⟩ (.slice C7b k7b d7b)).heap.size := by simp only [World.setCell, Array.size_modify]; omega
            have HRR : Hid (RestOf p m (Ser.pw (cf xs) (V / 2 ^ i)) (cf ys) (cf r7b)) := Lib.hid (by
              rw [HPB.out]
              exact RestOf.both HSQ.out RO.out ((fini_pw (fini_cf p xs) _).mul (fini_pw (fini_cf p xs) _)) (fini_cf p os) (hro7b.eq hpxb.2))
            clear hb5b hb57b hz6b hsxb hpxb hs7b hro7b hbzb hczb hfzb
            generalize w6.setCell ⟨w2.heap.size, 0, none⟩ (.slice C7b k7b d7b) = w8 at *
            have hcz7c := HZc.out.cell
            have HC6c := Lib.hid c6c
            have HC7c := Lib.hid c7c
            have HC10c := Lib.hid c10c
            clear c6c c7c c10c
            gi_wp2
            go_roundw
            case rel => exact ⟨i, by omega, rfl, Lib.hid ⟨HC6c.out, HC7c.out, HC10c.out, HSOc.out, C7b, k7b, d7b, r7b, HZc.out, HIc.out, hp7b, HRR.out, hk7b⟩, KFc, KBc, HBWc, hz7c⟩
            case measure => simp [intOf]
          · have hband : bits .and .u64 ((x : Int) / 2 ^ i) 1 = 0 := by
              have := bit_and64 x i hx1
              rw [Nat.mod_eq_of_lt (show i < 64 by omega), ← VBi, show V / 2 ^ i % 2 = 0 by omega] at this
              exact this
            have hi4 : min i 64 = i := by omega
            have HRR : Hid (RestOf p m (Ser.pw (cf xs) (V / 2 ^ i)) (cf ys) (cf r7a)) := Lib.hid (by
              rw [PB.out, if_neg hbt]
              exact HSQ.out)
            clear hbt VBi c6b c7b c10b
            gi_wp2
            go_roundw
            case rel => exact ⟨i, by omega, rfl, Lib.hid ⟨HC6b.out, HC7b.out, HC10b.out, HSOb.out, C7a, k7a, d7a, r7a, HZb.out, HIb.out, hp7a, HRR.out, hk7a⟩, KFb, KBb, HBWb, hz7b⟩
            case measure => simp [intOf]
        · go_simp
          refine hK.out _ _ hS (fun hS => ?_)
          clear hK K
          refine wpAnyH_ready (rs := [0]) (by kernel_rfl) (by simp) (AllReadyH.cons rfl (fun K hK => ?_) AllReadyH.nil)
          go_simp
          refine hK.out _ _ hS (fun hS => ?_)
          clear hK K
          refine wpAnyH_ready (rs := [3]) (by kernel_rfl) (by simp) (AllReadyH.cons rfl (fun K hK => ?_) AllReadyH.nil)
          go_simp
          refine (PDa.out _ (Below.refl _ _).drew).mono ?_
          rintro e5 w5 ⟨v5, rfl, Xa, m3a, d3a, f3a, rfl, hsxa, hpxa, hm3a, -, hb5'a⟩
          have hb5a : Below wr.heap.size wr w5 := ((Below.refl _ _).drew).trans hb5'a
          refine hK.out _ _ (STa.out _ hb5a) (fun hS => ?_)
          clear hK K hb5'a
          refine wpAnyH_ready (rs := [6]) (by kernel_rfl) (by simp) (AllReadyH.cons rfl (fun K hK => ?_) AllReadyH.nil)
          go_simp
          refine (DV.out Xa m3a d3a f3a w5 hsxa hpxa.1 (HBWa.out.trans (hb5a.mono HBWa.out.size)) (by omega)).mono ?_
          rintro e6 w6 ⟨v6, v7, rfl, hdoa⟩
          obtain ⟨C7a, k7a, d7a, r7a, rfl, hs7a, hp7a, hro7a, hk7a⟩ := divOut_rest PR.out hdoa
          have hb6a : Below w5.heap.size w5 w6 := by obtain ⟨_, _, _, _, _, _, hbb⟩ := hdoa; exact hbb
          have hb57a : Below wr.heap.size wr w6 := hb5a.trans (hb6a.mono hb5a.size)
          refine hK.out _ _ (STa.out _ hb57a) (fun hS => ?_)
          clear hK K hdoa hb6a
          refine wpAnyH_take (i := 7) (v := .tuple #[v6, .slice C7a k7a d7a]) rfl (by kernel_rfl) (by kernel_rfl) (by kernel_rfl) (fun c a w h => onlyN_q c w h) (.inl ⟨by rfl, fun W' hS' => ?_⟩) hS ?_
          · obtain ⟨s1, s2⟩ := hS'
            go_simp
          simp only [Act.put]
          refine wpAnyH_take (i := 8) (v := v6) rfl (by kernel_rfl) (by kernel_rfl) (by kernel_rfl) (fun c a w h => onlyN_q c w h) (.inl ⟨by rfl, fun W' hS' => ?_⟩) hS ?_
          · obtain ⟨s1, s2⟩ := hS'
            go_simp
          simp only [Act.put]
          refine wpAnyH_take (i := 9) (v := .slice C7a k7a d7a) rfl (by kernel_rfl) (by kernel_rfl) (by kernel_rfl) (fun c a w h => onlyN_q c w h) (.inl ⟨by rfl, fun W' hS' => ?_⟩) hS ?_
          · obtain ⟨s1, s2⟩ := hS'
            go_simp
          simp only [Act.put]
          have hbza : Boxed w6 w2.heap.size 22 (.slice C k d) := (hb57a.block w2.heap.size (show w2.heap.size < wr.heap.size by omega)).trans HZa.out
          have hcza := hbza.cell
          have hfza := hbza.frozen
          refine wpAnyH_ready (rs := [10]) (by kernel_rfl) (by simp) (AllReadyH.cons rfl (fun K hK => ?_) AllReadyH.nil)
          go_simp
          refine hK.out _ _ (STSa.out _ hb57a _) (fun _ => wpAnyH_done (by kernel_rfl) ⟨rfl, ?_⟩ _)
          clear hK K hS
          have hz6a : wr.heap.size ≤ w6.heap.size := hb57a.size
          have HZb : Hid (Boxed (w6.setCell ⟨w2.heap.size, 0, none⟩ (.slice C7a k7a d7a)) w2.heap.size 22 (.slice C7a k7a d7a)) := Lib.hid (hbza.set _)
          have HIb : Hid (ISl (w6.setCell ⟨w2.heap.size, 0, none⟩ (.slice C7a k7a d7a)) C7a k7a d7a r7a) := Lib.hid (hs7a.far (isl_box hs7a hbza) 0 _)
          have HSOb : Hid (ISl (w6.setCell ⟨w2.heap.size, 0, none⟩ (.slice C7a k7a d7a)) O k0 d0 os) := Lib.hid ((HSOa.out.below hb57a).far (isl_box (HSOa.out.below hb57a) hbza) 0 _)
          have c6b : (w6.setCell ⟨w2.heap.size, 0, none⟩ (.slice C7a k7a d7a)).cell? ⟨w.heap.size, 0, none⟩ = some (.slice B n' c') := sc_farP (by simp <;> omega) ((hb57a.cell (p := ⟨w.heap.size, 0, none⟩) (show w.heap.size < wr.heap.size by omega)).trans HC6a.out)
          have c7b : (w6.setCell ⟨w2.heap.size, 0, none⟩ (.slice C7a k7a d7a)).cell? ⟨w.heap.size + 1, 0, none⟩ = some (.int .i64 p) := sc_farP (by simp <;> omega) ((hb57a.cell (p := ⟨w.heap.size + 1, 0, none⟩) (show w.heap.size + 1 < wr.heap.size by omega)).trans HC7a.out)
          have c10b : (w6.setCell ⟨w2.heap.size, 0, none⟩ (.slice C7a k7a d7a)).cell? ⟨w1.heap.size, 0, none⟩ = some (.slice O k0 d0) := sc_farP (by simp <;> omega) ((hb57a.cell (p := ⟨w1.heap.size, 0, none⟩) (show w1.heap.size < wr.heap.size by omega)).trans HC10a.out)
          have KFb : Hid (KeepsFrom W4.heap.size W (w6.setCell ⟨w2.heap.size, 0, none⟩ (.slice C7a k7a d7a))) := Lib.hid (KFa.out.trans ((keepsFrom_of_below hb57a).trans ((KeepsOthers.setCell _ _ _).from _)))
          have KBb : Hid (KpB w.heap.size (w2.heap.size + 1) W (w6.setCell ⟨w2.heap.size, 0, none⟩ (.slice C7a k7a d7a))) := Lib.hid (KBa.out.trans ((show KpB w.heap.size (w2.heap.size + 1) wr w6 from ⟨hb57a.mono (by omega), hb57a.block _ (by omega)⟩).set ⟨w2.heap.size, 0, none⟩ (show w.heap.size ≤ w2.heap.size by omega) (show w2.heap.size + 1 ≠ w2.heap.size by omega) _))
          have HBWb : Hid (Below w.heap.size w (w6.setCell ⟨w2.heap.size, 0, none⟩ (.slice C7a k7a d7a))) := Lib.hid ((HBWa.out.trans (hb57a.mono (by omega))).setCell (p := ⟨w2.heap.size, 0, none⟩) (show w.heap.size ≤ w2.heap.size by omega) _)
          have hz7b : w2.heap.size + 2 ≤ (w6.setCell ⟨w2.heap.size, 0, none⟩ (.slice C7a k7a d7a)).heap.size := by simp only [World.setCell, Array.size_modify]; omega
          have HSQ : Hid (RestOf p m (Ser.mul (Ser.pw (cf xs) (V / 2 ^ (i + 1))) (Ser.pw (cf xs) (V / 2 ^ (i + 1)))) (cf ys) (cf r7a)) := Lib.hid (RestOf.sq HROa.out (fini_pw (fini_cf p xs) _) (hro7a.eq hpxa.2))
          clear hb5a hb57a hz6a hsxa hpxa hs7a hro7a hbza hcza hfza hcz0 c6d c7d c6 c7
          generalize w6.setCell ⟨w2.heap.size, 0, none⟩ (.slice C7a k7a d7a) = w7 at *
          have hcz7b := HZb.out.cell
          have HC6b := Lib.hid c6b
          have HC7b := Lib.hid c7b
          have HC10b := Lib.hid c10b
          by_cases hbt : V / 2 ^ i % 2 = 1
          · have hband : bits .and .u64 ((x : Int) / 2 ^ i) 1 = 1 := by
              have := bit_and64 x i hx1
              rw [Nat.mod_eq_of_lt (show i < 64 by omega), ← VBi, hbt] at this
              exact this
            have hi4 : min i 64 = i := by omega
            have c6e : w7.drew.cell? ⟨w.heap.size, 0, none⟩ = some (.slice B n' c') := c6b
            have c7e : w7.drew.cell? ⟨w.heap.size + 1, 0, none⟩ = some (.int .i64 p) := c7b
            have c10e : w7.drew.cell? ⟨w1.heap.size, 0, none⟩ = some (.slice O k0 d0) := c10b
            have HPB : Hid (Ser.pw (cf xs) (V / 2 ^ i) = Ser.mul (Ser.mul (Ser.pw (cf xs) (V / 2 ^ (i + 1))) (Ser.pw (cf xs) (V / 2 ^ (i + 1)))) (cf xs)) := Lib.hid (by rw [PB.out, if_pos hbt])
            have PDb := Lib.hid (fun W' (hb : Below w7.heap.size w7 W') => pProd_any C7a O k7a d7a k0 d0 r7a os p W' (HIb.out.below hb) (HSOb.out.below hb) MD.out hp7a.1 PO.out.1 (by omega) (by omega))
            have STb := Lib.hid (fun W' (hb : Below w7.heap.size w7 W') => show W'.cell? ⟨w.heap.size, 0, none⟩ = some (.slice B n' c') ∧ W'.cell? ⟨w.heap.size + 1, 0, none⟩ = some (.int .i64 p) ∧ W'.cell? ⟨w1.heap.size, 0, none⟩ = some (.slice O k0 d0) from ⟨(hb.cell (p := ⟨w.heap.size, 0, none⟩) (show w.heap.size < w7.heap.size by omega)).trans HC6b.out, (hb.cell (p := ⟨w.heap.size + 1, 0, none⟩) (show w.heap.size + 1 < w7.heap.size by omega)).trans HC7b.out, (hb.cell (p := ⟨w1.heap.size, 0, none⟩) (show w1.heap.size < w7.heap.size by omega)).trans HC10b.out⟩)
            have STSb := Lib.hid (fun W' (hb : Below w7.heap.size w7 W') (u : Value) => show (W'.setCell ⟨w2.heap.size, 0, none⟩ u).cell? ⟨w.heap.size, 0, none⟩ = some (.slice B n' c') ∧ (W'.setCell ⟨w2.heap.size, 0, none⟩ u).cell? ⟨w.heap.size + 1, 0, none⟩ = some (.int .i64 p) ∧ (W'.setCell ⟨w2.heap.size, 0, none⟩ u).cell? ⟨w1.heap.size, 0, none⟩ = some (.slice O k0 d0) from ⟨sc_farP (by simp <;> omega) (STb.out W' hb).1, sc_farP (by simp <;> omega) (STb.out W' hb).2.1, sc_farP (by simp <;> omega) (STb.out W' hb).2.2⟩)
            clear hbt VBi c6b c7b c10b
            gi_wp2
            refine region_round (fun W' => W'.cell? ⟨w.heap.size, 0, none⟩ = some (.slice B n' c') ∧ W'.cell? ⟨w.heap.size + 1, 0, none⟩ = some (.int .i64 p) ∧ W'.cell? ⟨w1.heap.size, 0, none⟩ = some (.slice O k0 d0)) (by kernel_rfl) (by kernel_rfl) ?_
            have hS : w7.drew.cell? ⟨w.heap.size, 0, none⟩ = some (.slice B n' c') ∧ w7.drew.cell? ⟨w.heap.size + 1, 0, none⟩ = some (.int .i64 p) ∧ w7.drew.cell? ⟨w1.heap.size, 0, none⟩ = some (.slice O k0 d0) := ⟨c6e, c7e, c10e⟩
            refine wpAnyH_take (i := 1) (v := .slice O k0 d0) rfl (by kernel_rfl) (by kernel_rfl) (by kernel_rfl) (fun c a w h => onlyN_q c w h) (.inl ⟨by rfl, fun W' hS' => ?_⟩) hS ?_
            · obtain ⟨s1, s2, s3⟩ := hS'
              go_simp
            simp only [Act.put, List.setIfInBounds_toArray]
            refine wpAnyH_take (i := 2) (v := .int .i64 p) rfl (by kernel_rfl) (by kernel_rfl) (by kernel_rfl) (fun c a w h => onlyN_q c w h) (.inl ⟨by rfl, fun W' hS' => ?_⟩) hS ?_
            · obtain ⟨s1, s2, s3⟩ := hS'
              go_simp
            simp only [Act.put]
            refine wpAnyH_take (i := 4) (v := .slice B n' c') rfl (by kernel_rfl) (by kernel_rfl) (by kernel_rfl) (fun c a w h => onlyN_q c w h) (.inl ⟨by rfl, fun W' hS' => ?_⟩) hS ?_
            · obtain ⟨s1, s2, s3⟩ := hS'
              go_simp
            simp only [Act.put]
            refine wpAnyH_take (i := 5) (v := .int .i64 p) rfl (by kernel_rfl) (by kernel_rfl) (by kernel_rfl) (fun c a w h => onlyN_q c w h) (.inl ⟨by rfl, fun W' hS' => ?_⟩) hS ?_
            · obtain ⟨s1, s2, s3⟩ := hS'
              go_simp
            simp only [Act.put]
            refine wpAnyH_ready (rs := [0]) (by kernel_rfl) (by simp) (AllReadyH.cons rfl (fun K hK => ?_) AllReadyH.nil)
            go_simp
            refine hK.out _ _ hS (fun hS => ?_)
            clear hK K
            refine wpAnyH_ready (rs := [3]) (by kernel_rfl) (by simp) (AllReadyH.cons rfl (fun K hK => ?_) AllReadyH.nil)
            go_simp
            refine (PDb.out _ (Below.refl _ _).drew).mono ?_
            rintro e5 w5 ⟨v5, rfl, Xb, m3b, d3b, f3b, rfl, hsxb, hpxb, hm3b, -, hb5'b⟩
            have hb5b : Below w7.heap.size w7 w5 := ((Below.refl _ _).drew).trans hb5'b
            refine hK.out _ _ (STb.out _ hb5b) (fun hS => ?_)
            clear hK K hb5'b
            refine wpAnyH_ready (rs := [6]) (by kernel_rfl) (by simp) (AllReadyH.cons rfl (fun K hK => ?_) AllReadyH.nil)
            go_simp
            refine (DV.out Xb m3b d3b f3b w5 hsxb hpxb.1 (HBWb.out.trans (hb5b.mono HBWb.out.size)) (by omega)).mono ?_
            rintro e6 w6 ⟨v6, v7, rfl, hdob⟩
            obtain ⟨C7b, k7b, d7b, r7b, rfl, hs7b, hp7b, hro7b, hk7b⟩ := divOut_rest PR.out hdob
            have hb6b : Below w5.heap.size w5 w6 := by obtain ⟨_, _, _, _, _, _, hbb⟩ := hdob; exact hbb
            have hb57b : Below w7.heap.size w7 w6 := hb5b.trans (hb6b.mono hb5b.size)
            refine hK.out _ _ (STb.out _ hb57b) (fun hS => ?_)
            clear hK K hdob hb6b
            refine wpAnyH_take (i := 7) (v := .tuple #[v6, .slice C7b k7b d7b]) rfl (by kernel_rfl) (by kernel_rfl) (by kernel_rfl) (fun c a w h => onlyN_q c w h) (.inl ⟨by rfl, fun W' hS' => ?_⟩) hS ?_
            · obtain ⟨s1, s2, s3⟩ := hS'
              go_simp
            simp only [Act.put]
            refine wpAnyH_take (i := 8) (v := v6) rfl (by kernel_rfl) (by kernel_rfl) (by kernel_rfl) (fun c a w h => onlyN_q c w h) (.inl ⟨by rfl, fun W' hS' => ?_⟩) hS ?_
            · obtain ⟨s1, s2, s3⟩ := hS'
              go_simp
            simp only [Act.put]
            refine wpAnyH_take (i := 9) (v := .slice C7b k7b d7b) rfl (by kernel_rfl) (by kernel_rfl) (by kernel_rfl) (fun c a w h => onlyN_q c w h) (.inl ⟨by rfl, fun W' hS' => ?_⟩) hS ?_
            · obtain ⟨s1, s2, s3⟩ := hS'
              go_simp
            simp only [Act.put]
            have hbzb : Boxed w6 w2.heap.size 22 (.slice C7a k7a d7a) := (hb57b.block w2.heap.size (show w2.heap.size < w7.heap.size by omega)).trans HZb.out
            have hczb := hbzb.cell
            have hfzb := hbzb.frozen
            refine wpAnyH_ready (rs := [10]) (by kernel_rfl) (by simp) (AllReadyH.cons rfl (fun K hK => ?_) AllReadyH.nil)
            go_simp
            refine hK.out _ _ (STSb.out _ hb57b _) (fun _ => wpAnyH_done (by kernel_rfl) ⟨rfl, ?_⟩ _)
            clear hK K hS
            have hz6b : w7.heap.size ≤ w6.heap.size := hb57b.size
            have HZc : Hid (Boxed (w6.setCell ⟨w2.heap.size, 0, none⟩ (.slice C7b k7b d7b)) w2.heap.size 22 (.slice C7b k7b d7b)) := Lib.hid (hbzb.set _)
            have HIc : Hid (ISl (w6.setCell ⟨w2.heap.size, 0, none⟩ (.slice C7b k7b d7b)) C7b k7b d7b r7b) := Lib.hid (hs7b.far (isl_box hs7b hbzb) 0 _)
            have HSOc : Hid (ISl (w6.setCell ⟨w2.heap.size, 0, none⟩ (.slice C7b k7b d7b)) O k0 d0 os) := Lib.hid ((HSOb.out.below hb57b).far (isl_box (HSOb.out.below hb57b) hbzb) 0 _)
            have c6c : (w6.setCell ⟨w2.heap.size, 0, none⟩ (.slice C7b k7b d7b)).cell? ⟨w.heap.size, 0, none⟩ = some (.slice B n' c') := sc_farP (by simp <;> omega) ((hb57b.cell (p := ⟨w.heap.size, 0, none⟩) (show w.heap.size < w7.heap.size by omega)).trans HC6b.out)
            have c7c : (w6.setCell ⟨w2.heap.size, 0, none⟩ (.slice C7b k7b d7b)).cell? ⟨w.heap.size + 1, 0, none⟩ = some (.int .i64 p) := sc_farP (by simp <;> omega) ((hb57b.cell (p := ⟨w.heap.size + 1, 0, none⟩) (show w.heap.size + 1 < w7.heap.size by omega)).trans HC7b.out)
            have c10c : (w6.setCell ⟨w2.heap.size, 0, none⟩ (.slice C7b k7b d7b)).cell? ⟨w1.heap.size, 0, none⟩ = some (.slice O k0 d0) := sc_farP (by simp <;> omega) ((hb57b.cell (p := ⟨w1.heap.size, 0, none⟩) (show w1.heap.size < w7.heap.size by omega)).trans HC10b.out)
            have KFc : Hid (KeepsFrom W4.heap.size W (w6.setCell ⟨w2.heap.size, 0, none⟩ (.slice C7b k7b d7b))) := Lib.hid (KFb.out.trans ((keepsFrom_of_below hb57b).trans ((KeepsOthers.setCell _ _ _).from _)))
            have KBc : Hid (KpB w.heap.size (w2.heap.size + 1) W (w6.setCell ⟨w2.heap.size, 0, none⟩ (.slice C7b k7b d7b))) := Lib.hid (KBb.out.trans ((show KpB w.heap.size (w2.heap.size + 1) w7 w6 from ⟨hb57b.mono (by omega), hb57b.block _ (by omega)⟩).set ⟨w2.heap.size, 0, none⟩ (show w.heap.size ≤ w2.heap.size by omega) (show w2.heap.size + 1 ≠ w2.heap.size by omega) _))
            have HBWc : Hid (Below w.heap.size w (w6.setCell ⟨w2.heap.size, 0, none⟩ (.slice C7b k7b d7b))) := Lib.hid ((HBWb.out.trans (hb57b.mono (by omega))).setCell (p := ⟨w2.heap.size, 0, none⟩) (show w.heap.size ≤ w2.heap.size by omega) _)
            have hz7c : w2.heap.size + 2 ≤ (w6.setCell ⟨w2.heap.size, 0, none⟩ (.slice C7b k7b d7b)).heap.size := by simp only [World.setCell, Array.size_modify]; omega
            have HRR : Hid (RestOf p m (Ser.pw (cf xs) (V / 2 ^ i)) (cf ys) (cf r7b)) := Lib.hid (by
              rw [HPB.out]
              exact RestOf.both HSQ.out RO.out ((fini_pw (fini_cf p xs) _).mul (fini_pw (fini_cf p xs) _)) (fini_cf p os) (hro7b.eq hpxb.2))
            clear hb5b hb57b hz6b hsxb hpxb hs7b hro7b hbzb hczb hfzb
            generalize w6.setCell ⟨w2.heap.size, 0, none⟩ (.slice C7b k7b d7b) = w8 at *
            have hcz7c := HZc.out.cell
            have HC6c := Lib.hid c6c
            have HC7c := Lib.hid c7c
            have HC10c := Lib.hid c10c
            clear c6c c7c c10c
            gi_wp2
            go_roundw
            case rel => exact ⟨i, by omega, rfl, Lib.hid ⟨HC6c.out, HC7c.out, HC10c.out, HSOc.out, C7b, k7b, d7b, r7b, HZc.out, HIc.out, hp7b, HRR.out, hk7b⟩, KFc, KBc, HBWc, hz7c⟩
            case measure => simp [intOf]
          · have hband : bits .and .u64 ((x : Int) / 2 ^ i) 1 = 0 := by
              have := bit_and64 x i hx1
              rw [Nat.mod_eq_of_lt (show i < 64 by omega), ← VBi, show V / 2 ^ i % 2 = 0 by omega] at this
              exact this
            have hi4 : min i 64 = i := by omega
            have HRR : Hid (RestOf p m (Ser.pw (cf xs) (V / 2 ^ i)) (cf ys) (cf r7a)) := Lib.hid (by
              rw [PB.out, if_neg hbt]
              exact HSQ.out)
            clear hbt VBi c6b c7b c10b
            gi_wp2
            go_roundw
            case rel => exact ⟨i, by omega, rfl, Lib.hid ⟨HC6b.out, HC7b.out, HC10b.out, HSOb.out, C7a, k7a, d7a, r7a, HZb.out, HIb.out, hp7a, HRR.out, hk7a⟩, KFb, KBb, HBWb, hz7b⟩
            case measure => simp [intOf]
  case done =>
    rintro D ls W hD rfl ⟨⟨hst, hB⟩, _⟩ hK
    obtain ⟨c6, c7, c10, so, C, k1, d1, rs, hb, hi, hp, hro, hk⟩ := hst
    have hfin : ev (upto (downs (fun j => es.getD j 0) k) k) = val es := by
      rw [H3.out.len, ev_upto H3.out.fit _ (Nat.le_refl _), Nat.sub_self, List.drop_zero]
    rw [hfin] at hro
    have hcz := hb.cell
    gi_wp2
    refine ⟨by simp, .inl ⟨_, _, rfl, run_takeDeferred hK, ?_⟩⟩
    have hg := grownBy_putObj' W D (.deferred none)
    have hr : ∀ r, some D = some r → ∃ o : Obj, W.heap[r]? = some o ∧ o.isCells = false := fun r e => by cases e; exact ⟨_, hK, rfl⟩
    exact ⟨_, results_tmp rfl _ _ _, _, rfl, ⟨C, k1, d1, rs, rfl, isl_own hi hg hr, hp, hro, hk⟩, hB.trans (belowK_b (w := w) (Nat.le_refl _) W D _ _ (by omega) hK rfl rfl)⟩
  case stop =>
    rintro D c pre W _ _ h _
    exact h.elim
end Go.Proofs.YtnkhhndjbanmnaaGreatDoor

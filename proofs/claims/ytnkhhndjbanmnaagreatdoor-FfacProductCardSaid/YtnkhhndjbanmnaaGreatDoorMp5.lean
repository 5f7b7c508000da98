/- Texts joined, in their order: PolDiv, PrimeTab, PrgIs, RefFp, AndOnes. -/
import Derived.Below
import Derived.Lib.Hide
import Derived.WalkMore
import Derived.WalkKit
import Derived.Laws.Bits64b
import Derived.Test.YtnkhhndjbanmnaaGreatDoorMp1
import Derived.Test.YtnkhhndjbanmnaaGreatDoorMp4

/- cleaverref06.inverse and Div, by their contracts. -/
namespace Go.Proofs.YtnkhhndjbanmnaaGreatDoor
open Go.RowKit

theorem fermat1 {a p : Int} (h : Pr p) (ha : a % p ≠ 0) : a ^ (p.toNat - 1) % p = 1 := by
  have h2 := h.1
  have e : a ^ p.toNat = a ^ (p.toNat - 1) * a := by rw [← Int.pow_succ]; congr 1; omega
  have hf := fermatZ h a
  rw [e] at hf
  have hz : (a ^ (p.toNat - 1) - 1) * a % p = 0 := by
    rw [Int.sub_mul, Int.one_mul]
    exact Int.emod_eq_emod_iff_emod_sub_eq_zero.1 hf
  rcases Classical.em ((a ^ (p.toNat - 1) - 1) % p = 0) with h0 | h0
  · have := Int.emod_eq_emod_iff_emod_sub_eq_zero.2 h0
    rw [this]
    exact Int.emod_eq_of_lt (by omega) (by omega)
  · exact absurd hz (mul_nz h h0 ha)
theorem finv_pow {a p : Int} (h : Pr p) (ha : a % p ≠ 0) : finv a p = fpow a (p - 2) p := by
  have h2 := h.1
  have e := fpow_yes (a := a) (p - 2).toNat (primB_yes h)
  rw [Int.toNat_of_nonneg (by omega)] at e
  rw [e]
  have b0 := Int.emod_nonneg (a ^ (p - 2).toNat) (b := p) (by omega)
  have b1 := Int.emod_lt_of_pos (a ^ (p - 2).toNat) (b := p) (by omega)
  refine finv_eq h ⟨b0, b1, ?_⟩
  have h1 := fermat1 h ha
  rw [Int.mul_emod, Int.emod_emod_of_dvd _ (Int.dvd_refl p), ← Int.mul_emod, Int.mul_comm, ← Int.pow_succ, show (p - 2).toNat.succ = p.toNat - 1 from by omega]
  exact h1

set_option maxRecDepth 100000 in
set_option maxHeartbeats 1000000 in
theorem inverse_any (a p : Int) (w : World) (h : Pr p) (ha : a % p ≠ 0) :
    Calls Tryz.prog 73 #[.int .i64 a, .int .i64 p] w fun e w' => e = .returned (.int .i64 (finv a p)) ∧ w = w' := by
  have h2 := h.1
  have h3 := h.2.1
  have T := refPow_any a (p - 2) p w (by omega) (by omega) (by omega)
  rw [← finv_pow h ha, epow_yes (primB_yes h) (by omega)] at T
  have hf : p = 2 → finv a p = 1 := by
    intro e
    subst e
    have := finv_spec h ha
    omega
  by_cases e2 : p = 2
  · subst e2
    have h1 := hf rfl
    have T0 := refPow_any a 0 2 w (by omega) (by omega) (by omega)
    have e0 := fpow_yes (a := a) 0 (primB_yes h)
    rw [show ((0 : Nat) : Int) = 0 from rfl] at e0
    rw [e0, Int.pow_zero, epow_yes (primB_yes h) (by omega)] at T0
    have T1 : Calls Tryz.prog 120 #[.int .i64 a, .int .i64 0, .int .i64 2] w fun e w' => e = .returned (.tuple #[.int .i64 1, .int .i64 0]) ∧ w = w' := T0
    rw [h1]
    have TT := Lib.hid T1
    clear T T0 T1 e0 h1 hf h ha
    go_enter Tryz.func73, Tryz.ntmps73
    go_wp2_with (go_at_call 120; (with_reducible refine TT.out.mono ?_); rintro e w' ⟨rfl, rfl⟩)
    go_ret
    exact ⟨rfl, rfl⟩
  · have e3 : (p == 2) = false := by simpa using e2
    generalize finv a p = v at *
    have TT := Lib.hid T
    clear hf e2 T h ha
    go_enter Tryz.func73, Tryz.ntmps73
    go_wp2_with (go_at_call 120; (with_reducible refine TT.out.mono ?_); rintro e w' ⟨rfl, rfl⟩)
    go_ret
    exact ⟨rfl, rfl⟩

def IApart (A : Option Addr) (ys : List Int) (g : Nat) : Prop := ys = [] ∨ ∀ b o s, A = some ⟨b, o, s⟩ → b ≠ g
theorem ISl.apart {w : World} {A : Option Addr} {n c : Nat} {xs : List Int} (h : ISl w A n c xs) {g : Nat} (hg : w.heap.size ≤ g) : IApart A xs g := by
  rcases h.rd.2 with h | ⟨b, o, rfl, hlt, _⟩
  · exact .inl h
  · refine .inr fun b' o' s' e => ?_
    simp only [Option.some.injEq, Addr.mk.injEq] at e
    omega
theorem ISl.far {w : World} {A : Option Addr} {n c : Nat} {xs : List Int} (h : ISl w A n c xs) {g : Nat} (ha : IApart A xs g) (i : Nat) (u : Value) : ISl (w.setCell ⟨g, i, none⟩ u) A n c xs := by
  refine ⟨h.1, h.2.1, h.2.2.1, h.2.2.2.1, h.rd.1, ?_⟩
  rcases h.rd.2 with h0 | ⟨b, o, rfl, hlt, hc⟩
  · exact .inl h0
  · rcases ha with h0 | hne
    · exact .inl h0
    · refine .inr ⟨b, o, rfl, by simpa [World.setCell] using hlt, fun j hj => ?_⟩
      have hb : b ≠ g := hne b o none rfl
      exact (World.cell?_of_block (w := w) (Below.heap_setCell w ⟨g, i, none⟩ u b hb)).trans (hc j hj)

structure DvIn (p : Int) (K : Nat) (a b : Ser) (m : Nat) (Q r : List Int) : Prop where
  len : Q.length = K
  rs : Rs p Q
  plain : Pln p r
  eq : Ser.Eq p a (Ser.add (Ser.mul (cf Q) b) (cf r))
  free : ∀ i, i + (m + 1) ≤ r.length → cf Q i = 0
  fits : r.length < K

def partL (n : Nat) (c p : Int) (Y : List Int) (u : Nat) : List Int := List.replicate n 0 ++ (Y.take u).map fun y => y * c % p
theorem partL_length (n : Nat) (c p : Int) (Y : List Int) (u : Nat) (hu : u ≤ Y.length) : (partL n c p Y u).length = n + u := by
  simp only [partL, List.length_append, List.length_replicate, List.length_map, List.length_take]; omega
theorem partL_zero (n : Nat) (c p : Int) (Y : List Int) : partL n c p Y 0 = List.replicate n 0 := by simp [partL]
theorem partL_snoc (n : Nat) (c p : Int) (Y : List Int) (u : Nat) (hu : u < Y.length) : partL n c p Y (u + 1) = partL n c p Y u ++ [cf Y u * c % p] := by
  unfold partL
  rw [List.take_succ_eq_append_getElem hu, List.map_append, ← List.append_assoc, cf_at hu]
  rfl
theorem cf_partL (n : Nat) (c p : Int) (Y : List Int) : Ser.Eq p (cf (partL n c p Y Y.length)) (Ser.mul (Ser.mono c n) (cf Y)) := by
  intro i
  rw [Ser.mono_mul_at, partL, cf_append, List.length_replicate, List.take_length]
  by_cases h : i < n
  · rw [if_pos h, if_neg (by omega), cf_replicate]
  · rw [if_neg h, if_pos (by omega), cf_map (fun y => y * c % p) (by simp), Int.emod_emod_of_dvd _ (Int.dvd_refl p), Int.mul_comm]

theorem dv_step {p : Int} {K m : Nat} {a : Ser} {Q r r' Y : List Int} (hp : Pr p) (hY : Pln p Y) (hYl : Y.length = m + 1) (h : DvIn p K a (cf Y) m Q r) (hr : m + 1 ≤ r.length)
    (c : Int) (hc : c = cf r (r.length - 1) * finv (cf Y m) p % p)
    (h' : Pol p r' (Ser.add (cf r) (Ser.sc (-1) (Ser.mul (Ser.mono c (r.length - (m + 1))) (cf Y))))) :
    DvIn p K a (cf Y) m (Q.set (r.length - (m + 1)) c) r' ∧ r'.length < r.length := by
  have h2 := hp.1
  have hYt : cf Y m % p ≠ 0 := by
    have := hY.top (by intro e; rw [e] at hYl; simp at hYl) (by omega)
    rwa [hYl, Nat.add_sub_cancel] at this
  have hc0 : 0 ≤ c ∧ c < p := by rw [hc]; exact ⟨Int.emod_nonneg _ (by omega), Int.emod_lt_of_pos _ (by omega)⟩
  have hfr : cf Q (r.length - (m + 1)) = 0 := h.free _ (by omega)
  have hlt : r'.length < r.length := by
    have : r'.length ≤ r.length - 1 := by
      refine h'.1.len_le (by omega) ((Ser.Bd.eq (f := Ser.add (cf r) (Ser.sc (-1) (Ser.mul (Ser.mono c (r.length - (m + 1))) (cf Y)))) ?_ h'.2.symm))
      intro i hi
      show (cf r i + -1 * Ser.mul (Ser.mono c (r.length - (m + 1))) (cf Y) i) % p = 0
      rw [Ser.mono_mul_at, if_pos (by omega)]
      by_cases e : i = r.length - 1
      · rw [e, show r.length - 1 - (r.length - (m + 1)) = m from by omega, hc]
        have hs := (finv_spec hp hYt).2.2
        generalize cf r (r.length - 1) = R at *
        generalize cf Y m = T at *
        have e1 : R * finv T p % p * T % p = R % p := by
          rw [Int.mul_emod, Int.emod_emod_of_dvd _ (Int.dvd_refl p), ← Int.mul_emod, Int.mul_assoc, Int.mul_comm (finv T p) T, Int.mul_emod, hs, Int.mul_one, Int.emod_emod_of_dvd _ (Int.dvd_refl p)]
        have e2 := Int.emod_eq_emod_iff_emod_sub_eq_zero.1 e1.symm
        rw [show R + -1 * (R * finv T p % p * T) = R - R * finv T p % p * T from by omega]
        exact e2
      · rw [cf_over (by omega), cf_over (xs := Y) (by omega)]
        simp
    omega
  refine ⟨⟨by rw [List.length_set, h.len], h.rs.set _ hc0, h'.1, ?_, fun i hi => ?_, by have := h.fits; omega⟩, hlt⟩
  · refine h.eq.trans ?_
    have e1 : cf (Q.set (r.length - (m + 1)) c) = Ser.add (cf Q) (Ser.mono c (r.length - (m + 1))) := by
      funext i
      rw [cf_set _ _ (by rw [h.len]; have := h.fits; omega)]
      show _ = cf Q i + if i = r.length - (m + 1) then c else 0
      by_cases e : i = r.length - (m + 1)
      · rw [if_pos e, if_pos e, e, hfr, Int.zero_add]
      · rw [if_neg e, if_neg e, Int.add_zero]
    rw [e1, Ser.add_mul]
    intro i
    have h4 := h'.2 i
    show (Ser.mul (cf Q) (cf Y) i + cf r i) % p = (Ser.mul (cf Q) (cf Y) i + Ser.mul (Ser.mono c (r.length - (m + 1))) (cf Y) i + cf r' i) % p
    rw [Int.add_emod _ (cf r' i), h4, ← Int.add_emod]
    show _ = (_ + (cf r i + -1 * Ser.mul (Ser.mono c (r.length - (m + 1))) (cf Y) i)) % p
    congr 1
    omega
  · rw [cf_set _ _ (by rw [h.len]; have := h.fits; omega), if_neg (by omega)]
    exact h.free i (by omega)

def PolIn (p : Int) (f : Ser) (n : Nat) (w : World) (v : Value) : Prop := ∃ C m d ys, v = .slice C m d ∧ ISl w C m d ys ∧ Pol p ys f ∧ m ≤ n

set_option maxRecDepth 100000 in
set_option maxHeartbeats 400000 in
theorem refPDiv_not (A B : Option Addr) (n c n' c' : Nat) (p : Int) (w : World) (h0 : In64 p) (hp : ¬ Pr p) :
    Calls Tryz.prog 44 #[.slice A n c, .slice B n' c', .int .i64 p] w fun e w' => e = .returned (.tuple #[.slice none 0 0, .slice none 0 0, .int .i64 1]) ∧ w = w' := by
  have C := refCheck_any p w h0.1 h0.2
  rw [chk_no (primB_no hp)] at C
  have CC := Lib.hid C
  clear C hp h0
  go_enter Tryz.func44, Tryz.ntmps44
  go_wp2_with (go_at_call 30; (with_reducible refine CC.out.mono ?_); rintro e w' ⟨rfl, rfl⟩)
  go_ret3
  exact ⟨rfl, rfl⟩

def slLen : Value → Nat
  | .slice _ n _ => n
  | _ => 0

def FreshA (w : World) (C : Option Addr) : Prop := ∀ b o s, C = some ⟨b, o, s⟩ → w.heap.size ≤ b
def FreshV (w : World) (v : Value) : Prop := ∀ C m d, v = .slice C m d → FreshA w C
theorem freshA_none (w : World) : FreshA w none := fun _ _ _ e => by cases e
theorem FreshA.after {w w1 : World} {C : Option Addr} (h : FreshA w1 C) (hl : w.heap.size ≤ w1.heap.size) : FreshA w C := fun b o s e => Nat.le_trans hl (h b o s e)
theorem freshV_of {w : World} {C : Option Addr} {m d : Nat} (h : FreshA w C) : FreshV w (.slice C m d) := fun C' m' d' e => by
  simp only [Value.slice.injEq] at e
  exact e.1 ▸ h
def DivOut (p : Int) (m : Nat) (a b : Ser) (n : Nat) (w : World) (v1 v2 : Value) (w' : World) : Prop :=
  ∃ q r, PolIn p q (n + 1) w' v1 ∧ PolIn p r n w' v2 ∧ IsDiv p m a b q r ∧ Ser.Bd p q (n + 1) ∧ Below w.heap.size w w'

set_option maxRecDepth 100000 in
set_option maxHeartbeats 4000000 in
theorem refPDiv_new (A B : Option Addr) (n c n' c' : Nat) (xs ys : List Int) (p : Int) (w : World) (h : ISl w A n c xs) (h' : ISl w B n' c' ys) (hp : Pr p) (hn : n ≤ 1000000000) (hn' : n' ≤ 1000000000) :
    Calls Tryz.prog 44 #[.slice A n c, .slice B n' c', .int .i64 p] w fun e w' =>
      ∃ v1 v2 er, e = .returned (.tuple #[v1, v2, .int .i64 er]) ∧
        ((Ser.Bd p (cf ys) 0 ∧ er = 3 ∧ v1 = .slice none 0 0 ∧ v2 = .slice none 0 0 ∧ Below w.heap.size w w') ∨
         (¬ Ser.Bd p (cf ys) 0 ∧ er = 0 ∧ ∃ m, Ser.Bd p (cf ys) (m + 1) ∧ cf ys m % p ≠ 0 ∧ DivOut p m (cf xs) (cf ys) n w v1 v2 w' ∧ FreshV w v1)) := by
  have H := Lib.hid h
  have H' := Lib.hid h'
  have PR := Lib.hid hp
  have MD := Lib.hid hp.md
  have hp1 := hp.1
  have hp2 := hp.2.1
  have C := refCheck_any p w (by omega) (by omega)
  rw [chk_yes (primB_yes hp)] at C
  have CC := Lib.hid C
  clear h h' C hp
  go_enter Tryz.func44, Tryz.ntmps44
  go_wp2_with (go_at_call 30; (with_reducible refine CC.out.mono ?_); rintro e w' ⟨rfl, rfl⟩)
  refine (plain_any B n' c' ys p w H'.out MD.out (by omega)).mono ?_
  rintro e w1 ⟨v1, rfl, Y, m', d', fy, rfl, hY, py, hmn', -, hb1⟩
  have hpos : 1 ≤ p := by omega
  have PYN := Lib.hid (py.nought hpos)
  by_cases hm0 : m' = 0
  · subst hm0
    have hnil : fy = [] := List.eq_nil_of_length_eq_zero hY.len.symm
    have hb0 := PYN.out.1 hnil
    have HB := Lib.hid hb1
    have HB0 := Lib.hid hb0
    clear hY py hnil hb0 hb1
    go_wp2_with fail
    go_ret3
    exact ⟨_, _, 3, rfl, .inl ⟨HB0.out, rfl, rfl, rfl, HB.out⟩⟩
  · obtain ⟨m, rfl⟩ : ∃ m, m' = m + 1 := ⟨m' - 1, by omega⟩
    have HT : Hid (cf fy m % p ≠ 0) := Lib.hid (by
      have := py.1.top (by intro e; have := hY.len; rw [e] at this; simp at this) hpos
      rwa [← hY.len, Nat.add_sub_cancel] at this)
    have HNB : Hid (¬ Ser.Bd p (cf ys) 0) := Lib.hid (by
      intro hb
      have e := PYN.out.2 hb
      have := hY.len
      rw [e] at this; simp at this)
    have PY := Lib.hid py
    have RY := Lib.hid py.rs
    have HYL := Lib.hid hY.len
    go_wp2_with fail
    refine (plain_any A n c xs p w1 (H.out.below hb1) MD.out (by omega)).mono ?_
    rintro e w2 ⟨v2, rfl, R0, mr0, dr0, fr0, rfl, hR, pr0, hmr0, -, hb2⟩
    have hY2 := hY.below hb2
    have hb12 : Below w.heap.size w w2 := hb1.trans (hb2.mono hb1.size)
    have HB := Lib.hid hb12
    have hszw := hb12.size
    have HY2 := Lib.hid hY2
    have HR2 := Lib.hid hR
    have PR0 := Lib.hid pr0
    have hRle := hR.le
    have hRmx := hR.max
    have hYle := hY.le
    have hYmx := hY.max
    obtain ⟨N, hNe⟩ : ∃ N, N = mr0 + 1 := ⟨_, rfl⟩
    have hN1 : mr0 + 1 ≤ N := by omega
    have hN2 : N ≤ mr0 + 1 := by omega
    have HNE := Lib.hid hNe
    have INV := Lib.hid (fun (w : World) => inverse_any (cf fy m) p w PR.out HT.out)
    have hfi := finv_spec PR.out HT.out
    have HFI := Lib.hid (show finv (cf fy m) p = finv (cf fy m) p from rfl)
    have STEP := Lib.hid (fun Q r r' => @dv_step p N m (cf xs) Q r r' fy PR.out PY.out.1 HYL.out.symm)
    obtain ⟨ti, hti⟩ : ∃ ti, finv (cf fy m) p = ti := ⟨_, rfl⟩
    rw [hti] at hfi
    have HTI := Lib.hid hti
    have INV : Hid (∀ w : World, Calls Tryz.prog 73 #[.int .i64 (cf fy m), .int .i64 p] w fun e w' => e = .returned (.int .i64 ti) ∧ w = w') := Lib.hid (by
      intro w
      have := INV.out w
      rwa [HTI.out] at this)
    have hti1 := hfi.1
    have hti2 := hfi.2.1
    clear hY hY2 hR pr0 py hb1 hb2 hb12 hNe hfi hti
    go_wp2_with (first
      | (at_make; refine wpList_make_ints _ rfl _ _ rfl _ _ _ _ N rfl rfl (by rw [HNE.out]; omega) (by rw [HNE.out]; omega) (by omega) ?_; intro w3 hk3 hb3; obtain ⟨b, o, rfl, hbl, hcy⟩ := HY2.out.cf_ (by omega); have hx := hcy m (by omega); rw [← hb3.cell (p := ⟨b, o + m, none⟩) hbl] at hx; have HK3 := Lib.hid hk3; have HB3 := Lib.hid hb3; clear hcy hk3 hb3)
      | (go_at_call 73; (with_reducible refine (INV.out _).mono ?_); rintro e w' ⟨rfl, rfl⟩))
    go_loopw [10] (fun v wr => ∃ C mr dr fr Q, v = .slice C mr dr ∧ ISl wr C mr dr fr ∧ IBlk wr w2.heap.size Q ∧ DvIn p N (cf xs) (cf fy) m Q fr ∧ IApart C fr w2.heap.size ∧ mr ≤ mr0 ∧ Below w2.heap.size w2 wr) (fun v _ => slLen v)
    case atStart => exact ⟨R0, mr0, dr0, fr0, _, rfl, HR2.out.below HB3.out, HK3.out, ⟨by simp, Rs.zeros _ hpos, PR0.out.1, (PR0.out.2.symm.trans (Ser.Eq.of (by
      have e : cf (List.replicate N 0) = Ser.zer := by funext i; exact cf_replicate N i
      rw [e, Ser.zer_mul, Ser.zer_add]))), fun i _ => cf_replicate N i, by rw [← HR2.out.len]; omega⟩, HR2.out.apart (Nat.le_refl _), Nat.le_refl _, HB3.out⟩
    case round =>
      obtain ⟨C, mr, dr, fr, Q, rfl, hR, hQ, hD, hA, hmle, hbel⟩ := hrel
      clear HK3 HB3 hx
      by_cases hge : m + 1 ≤ mr
      · obtain ⟨nn, rfl⟩ : ∃ nn, mr = nn + (m + 1) := ⟨mr - (m + 1), by omega⟩
        obtain ⟨b1, o1, rfl, hbl1, hcr⟩ := hR.cf_ (by omega)
        have hx := hcr (nn + m) (by omega)
        have hxb := hD.plain.1.at hpos (nn + m)
        have hnK : nn < Q.length := by rw [hD.len]; omega
        have hq1 := hQ.cellD nn hnK
        have hq2 := hQ.frozen nn
        have hxx : cf fr (fr.length - 1) = cf fr (nn + m) := by rw [← hR.len]; congr 1
        obtain ⟨x, hx0⟩ : ∃ x, cf fr (nn + m) = x := ⟨_, rfl⟩
        rw [hx0] at hx hxb hxx
        have bm := mul_bd hxb ⟨by omega, hti2⟩ hp2
        obtain ⟨P, hP⟩ : ∃ P, x * ti = P := ⟨_, rfl⟩
        rw [hP] at bm
        obtain ⟨cc, hcc⟩ : ∃ cc, P % p = cc := ⟨_, rfl⟩
        have hcb : 0 ≤ cc ∧ cc < p := by rw [← hcc]; exact ⟨Int.emod_nonneg _ (by omega), Int.emod_lt_of_pos _ (by omega)⟩
        have hset := hQ.set_ nn cc (by unfold In64; omega)
        have HCC : Hid (cc = cf fr (fr.length - 1) * finv (cf fy m) p % p) := Lib.hid (by rw [hxx, HTI.out, hP, hcc])
        have HFL := Lib.hid hR.len
        have HSE := Lib.hid hset
        have HYS := Lib.hid (((HY2.out.below hbel).far ((HY2.out).apart (Nat.le_refl _)) nn (iv cc)))
        have HRS := Lib.hid (hR.far hA nn (iv cc))
        have HBS := Lib.hid (hbel.setCell (p := ⟨w2.heap.size, nn, none⟩) (Nat.le_refl _) (iv cc))
        have HD := Lib.hid hD
        have hszg : w2.heap.size < wr.heap.size := hQ.lt
        clear hcr hset hxx hx0 hR hQ hD hA hbel hnK hxb
        go_wp2_with fail
        rw [hcc, show decide ((m : Int) + 1 ≤ (nn : Int) + ((m : Int) + 1)) = true from decide_eq_true (by omega), show o1 + (nn + (m + 1) - 1) = o1 + (nn + m) from by omega]
        clear hcc
        have hszg2 : w2.heap.size < (wr.setCell ⟨w2.heap.size, nn, none⟩ (iv cc)).heap.size := by simpa [World.setCell] using hszg
        clear hx hq1 hq2 hszg
        generalize wr.setCell ⟨w2.heap.size, nn, none⟩ (iv cc) = wS at *
        go_loopw [16, 15] (fun i v wq => ∃ t : Nat, t ≤ nn ∧ i = .int .i64 (t : Int) ∧ IOw wq wS.heap.size v (List.replicate t 0) ∧ Below wS.heap.size wS wq) (fun i _ _ => nn - (intOf i).toNat)
        case atStart => exact ⟨0, Nat.zero_le _, rfl, IOw.nil _ _, Below.refl _ _⟩
        case round =>
          obtain ⟨t, ht, rfl, hown, hbel⟩ := hrel
          by_cases hlt : t < nn
          · have hsn : List.replicate (t + 1) (0 : Int) = List.replicate t 0 ++ [0] := by rw [List.replicate_succ']
            have hN := (iblk_list wr [0] (fi_one (by unfold In64; decide))).sl (by simp)
            have HN := Lib.hid hN
            have HO := Lib.hid hown
            have HBB := Lib.hid hbel
            have HS := Lib.hid hsn
            have HL : Hid ((List.replicate t (0 : Int)).length = t) := Lib.hid (by simp)
            have hsz := hbel.size
            clear hN hown hbel hsn
            go_wp2_with (at_builtin; refine iwpList_app _ rfl (.tmp 71) (.tmp 72) rfl wS.heap.size _ _ rfl (HO.out.alloc _) (some ⟨wr.heap.size, 0, none⟩) 1 1 rfl [0] HN.out (by rw [HL.out]; omega) (by simp; omega) ?_; intro v1 w7 ho1 hb3)
            have hb4 : Below wS.heap.size wS w7 := (HBB.out.alloc hsz _).trans hb3
            clear hb3
            rw [← HS.out] at ho1
            go_roundw
            case rel => exact ⟨t + 1, by omega, by go_num, ho1, hb4⟩
            case measure => simp [intOf]; omega
          · obtain rfl : t = nn := by omega
            have HO := Lib.hid hown
            have HBB := Lib.hid hbel
            clear hown hbel
            go_wp2_with fail
            go_loopw [17, 15] (fun i v wq => ∃ u : Nat, u ≤ m + 1 ∧ i = .int .i64 (u : Int) ∧ IOw wq wS.heap.size v (partL t cc p fy u) ∧ Below wS.heap.size wS wq) (fun i _ _ => (m + 1) - (intOf i).toNat)
            case atStart => exact ⟨0, Nat.zero_le _, rfl, by rw [partL_zero]; exact HO.out, HBB.out⟩
            case round =>
              obtain ⟨u, hu, rfl, hown, hbel⟩ := hrel
              clear HO HBB
              by_cases hlt2 : u < m + 1
              · obtain ⟨b3, o3, e3, hbl3, hcy⟩ := HYS.out.cf_ (by omega)
                obtain ⟨rfl, rfl⟩ : b3 = b ∧ o3 = o := by
                  simp only [Option.some.injEq, Addr.mk.injEq, and_true] at e3
                  exact ⟨e3.1.symm, e3.2.symm⟩
                have hy := hcy u hlt2
                rw [← hbel.cell (p := ⟨b3, o3 + u, none⟩) hbl3] at hy
                have hsn := partL_snoc t cc p fy u (by rw [← HYL.out]; exact hlt2)
                have hl := partL_length t cc p fy u (by rw [← HYL.out]; exact hu)
                have yb := RY.out.at hpos u
                obtain ⟨y, hy0⟩ : ∃ y, cf fy u = y := ⟨_, rfl⟩
                rw [hy0] at hy hsn yb
                have bm2 := mul_bd yb hcb hp2
                obtain ⟨P2, hP2⟩ : ∃ P2, y * cc = P2 := ⟨_, rfl⟩
                rw [hP2] at bm2 hsn
                obtain ⟨z, hz⟩ : ∃ z, P2 % p = z := ⟨_, rfl⟩
                have hzb : 0 ≤ z ∧ z < p := by rw [← hz]; exact ⟨Int.emod_nonneg _ (by omega), Int.emod_lt_of_pos _ (by omega)⟩
                rw [hz] at hsn
                have hN := (iblk_list wr [z] (fi_one (by unfold In64; omega))).sl (by simp)
                have HN := Lib.hid hN
                have HO := Lib.hid hown
                have HBB := Lib.hid hbel
                have HS := Lib.hid hsn
                have HL := Lib.hid hl
                have hsz := hbel.size
                clear hN hown hbel hsn hl hcy hy0 e3
                go_wp2_with (at_builtin; refine iwpList_app _ rfl (.tmp 80) (.tmp 89) rfl wS.heap.size _ _ rfl (HO.out.alloc _) (some ⟨wr.heap.size, 0, none⟩) 1 1 rfl [z] HN.out (by rw [HL.out]; omega) (by simp; omega) ?_; intro v1 w7 ho1 hb3)
                have hb4 : Below wS.heap.size wS w7 := (HBB.out.alloc hsz _).trans hb3
                clear hb3
                rw [← HS.out] at ho1
                go_roundw
                case rel => exact ⟨u + 1, by omega, by go_num, ho1, hb4⟩
                case measure => simp [intOf]; omega
              · obtain rfl : u = m + 1 := by omega
                obtain ⟨A', d2, rfl, hs, _⟩ := hown.sl
                have hl := partL_length t cc p fy (m + 1) (by rw [← HYL.out]; exact Nat.le_refl _)
                have hcfp := cf_partL t cc p fy
                rw [← HYL.out] at hcfp
                have T := sum_any (some ⟨b1, o1, none⟩) A' (t + (m + 1)) dr _ d2 fr _ (-1) p wr (HRS.out.below hbel) hs MD.out (by omega) (by omega) (by rw [hl]; omega)
                rw [hl] at T
                rw [hl]
                have TT := Lib.hid T
                have HBB := Lib.hid hbel
                have HCF := Lib.hid hcfp
                have hsz := hbel.size
                clear T hs hown hl hbel hcfp
                go_wp2_with (go_at_call 74; refine TT.out.mono ?_; rintro e w8 ⟨v8, rfl, C8, m8, d8, f8, rfl, hs8, hp8, hm8, hf8, hb8⟩)
                have hst := STEP.out Q fr f8 HD.out (by rw [← HFL.out]; omega) cc HCC.out (by
                  rw [← HFL.out, show t + (m + 1) - (m + 1) = t from by omega]
                  exact hp8.eq ((Ser.Eq.refl p _).add (Ser.Eq.sc rfl HCF.out)))
                rw [← HFL.out, show t + (m + 1) - (m + 1) = t from by omega, ← hs8.len] at hst
                have HST := Lib.hid hst
                clear hst
                go_roundw
                case rel => exact ⟨C8, m8, d8, f8, Q.set t cc, rfl, hs8, (HSE.out.below HBB.out).below hb8, HST.out.1, .inr fun b o s e => by have := hf8 b o s e; omega, by omega, (HBS.out.trans (HBB.out.mono (by omega))).trans (hb8.mono (by omega))⟩
                case measure => simp [slLen]; exact HST.out.2
      · have hQs := hQ.sl (by rw [hD.len]; omega)
        have T := plain_any _ _ _ _ p wr hQs MD.out (by rw [hD.len]; omega)
        rw [hD.len] at T
        have TT := Lib.hid T
        have HD := Lib.hid hD
        have HRS := Lib.hid hR
        have HBB := Lib.hid hbel
        clear T hQs hR hQ hD hA hbel
        go_wp2_with (go_at_call 23; refine TT.out.mono ?_; rintro e w8 ⟨v8, rfl, C8, m8, d8, f8, rfl, hs8, hp8, hm8, hf8, hb8⟩)
        have HF8 := Lib.hid hf8
        clear hf8
        go_ret3
        have hmul := PY.out.2.mulL (cf Q)
        rw [Ser.mul_comm, Ser.mul_comm (cf ys)] at hmul
        refine ⟨_, _, 0, rfl, .inr ⟨HNB.out, rfl, m, ?_, ?_, ⟨cf Q, cf fr, ⟨C8, m8, d8, f8, rfl, hs8, hp8, by omega⟩, ⟨C, mr, dr, fr, rfl, HRS.out.below hb8, Pol.self HD.out.plain, by omega⟩, ⟨HD.out.eq.trans (hmul.add (Ser.Eq.refl p _)), ?_⟩, ?_, ?_⟩, freshV_of (FreshA.after HF8.out (Nat.le_trans hszw HBB.out.size))⟩⟩
        · exact (Ser.Bd.eq (by rw [HYL.out]; exact bd_len p fy) PY.out.2)
        · rw [← PY.out.2 m]; exact HT.out
        · intro i hi
          rw [cf_over (by rw [← HRS.out.len]; omega)]; simp
        · exact (bd_len p Q).mono (by rw [HD.out.len]; omega)
        · exact (HB.out.trans (HBB.out.mono hszw)).trans (hb8.mono (Nat.le_trans hszw HBB.out.size))
end Go.Proofs.YtnkhhndjbanmnaaGreatDoor

/- The table of small primes that prime.Is goes through: what it holds, and what a number is that none of them divides. -/
namespace Go.Proofs.YtnkhhndjbanmnaaGreatDoor
open Go.RowKit

def tblL : List Nat := [2, 3, 5, 7, 11, 13, 17, 19, 23, 29, 31, 37, 41, 43, 47, 53, 59, 61, 67, 71, 73, 79, 83, 89, 97, 101, 103, 107, 109, 113, 127, 131, 137, 139, 149, 151, 157, 163, 167, 173, 179, 181, 191, 193, 197, 199, 211, 223, 227, 229, 233, 239, 241, 251]
def tbl (i : Nat) : Nat := tblL.getD i 0
theorem tbl_cover : (List.range 256).all (fun e => decide (e < 2) || (List.range 54).any (fun j => e % tbl j == 0 && decide (tbl j ≤ e))) = true := by decide +kernel
theorem tbl_sort : (List.range 54).all (fun i => decide (2 ≤ tbl i) && decide (tbl i ≤ 251) && (List.range i).all (fun j => decide (tbl j < tbl i))) = true := by decide +kernel
theorem tbl_bd {i : Nat} (h : i < 54) : 2 ≤ tbl i ∧ tbl i ≤ 251 := by
  have := List.all_eq_true.1 tbl_sort i (List.mem_range.2 h)
  simp only [Bool.and_eq_true, decide_eq_true_eq] at this
  exact this.1
theorem tbl_lt {i j : Nat} (h : i < 54) (hj : j < i) : tbl j < tbl i := by
  have := List.all_eq_true.1 tbl_sort i (List.mem_range.2 h)
  simp only [Bool.and_eq_true, decide_eq_true_eq] at this
  have := List.all_eq_true.1 this.2 j (List.mem_range.2 hj)
  simpa using this
theorem tbl_div {e : Nat} (h2 : 2 ≤ e) (h9 : e < 256) : ∃ j, j < 54 ∧ tbl j ∣ e ∧ tbl j ≤ e := by
  have := List.all_eq_true.1 tbl_cover e (List.mem_range.2 h9)
  simp only [Bool.or_eq_true, decide_eq_true_eq, List.any_eq_true, List.mem_range, Bool.and_eq_true, beq_iff_eq] at this
  rcases this with h | ⟨j, hj, hd, hle⟩
  · omega
  · exact ⟨j, hj, Nat.dvd_of_mod_eq_zero hd, hle⟩
theorem tbl_yes {m i : Nat} (hm2 : 2 ≤ m) (hm9 : m ≤ 65521) (hi : i ≤ 54) (hsq : i < 54 → m < tbl i * tbl i) (hall : ∀ j, j < i → ¬ tbl j ∣ m) : Pr (m : Int) := by
  obtain ⟨d, hd, hd9, hdd⟩ : ∃ d, m < d * d ∧ d ≤ 256 ∧ ∀ j, j < 54 → tbl j < d → j < i := by
    rcases Nat.lt_or_ge i 54 with h | h
    · refine ⟨tbl i, hsq h, by have := tbl_bd h; omega, fun j hj hlt => ?_⟩
      rcases Nat.lt_or_ge j i with k | k
      · exact k
      · rcases Nat.lt_or_ge i j with k2 | k2
        · have := tbl_lt hj k2; omega
        · have : i = j := by omega
          rw [this] at hlt; omega
    · exact ⟨256, by omega, Nat.le_refl _, fun j hj _ => by omega⟩
  refine pr_trial hm2 hm9 d hd (fun e h2 h3 h4 => ?_)
  obtain ⟨j, hj, k1, k2⟩ := tbl_div h2 (by omega)
  exact hall j (hdd j hj (by omega)) (Nat.dvd_trans k1 h4)
theorem tbl_no {m i : Nat} (hi : i < 54) (hle : tbl i * tbl i ≤ m) (hd : m % tbl i = 0) : ¬ Pr (m : Int) := pr_not (tbl_bd hi).1 hle hd

def TabAt (w : World) : Prop := 0 < w.heap.size ∧ ∀ i, i < 54 → w.cell? ⟨0, i, none⟩ = some (.int .u8 (tbl i : Int))
theorem TabAt.below {w w' : World} (h : TabAt w) (hb : Below w.heap.size w w') : TabAt w' :=
  ⟨Nat.lt_of_lt_of_le h.1 hb.size, fun i hi => (hb.cell (p := ⟨0, i, none⟩) h.1).trans (h.2 i hi)⟩
end Go.Proofs.YtnkhhndjbanmnaaGreatDoor

/- prime.Is and fp.Check, by their contracts. -/
namespace Go.Proofs.YtnkhhndjbanmnaaGreatDoor
open Go.RowKit

set_option maxRecDepth 100000 in
set_option maxHeartbeats 4000000 in
theorem pLeast_any (m : Nat) (w : World) (hm2 : 2 ≤ m) (hm9 : m ≤ 65521) (hT : TabAt w) :
    Calls Tryz.prog 127 #[.int .i64 (m : Int), .int .i64 (m : Int)] w fun e w' => e = .returned (.int .i64 (if primB (m : Int) = true then (m : Int) else 0)) ∧ w = w' := by
  have PYES := Lib.hid (fun h : Pr (m : Int) => show (if primB (m : Int) = true then (m : Int) else 0) = (m : Int) by rw [if_pos (primB_yes h)])
  have PNO := Lib.hid (fun h : ¬ Pr (m : Int) => show (if primB (m : Int) = true then (m : Int) else 0) = 0 by rw [primB_no h]; rfl)
  generalize (if primB (m : Int) = true then (m : Int) else 0) = r at *
  have HT := Lib.hid hT
  clear hT
  go_enter Tryz.func127, Tryz.ntmps127
  go_wp2_with fail
  go_step3
  go_wp2_with fail
  go_step3
  go_wp2_with fail
  go_loop [5] (fun n => ∃ k : Nat, n = .int .i64 (k : Int) ∧ (k = m ∨ (k = m + 1 ∧ r = 0))) (fun n => (m + 1 - intOf n).toNat)
  case atStart => exact ⟨m, rfl, .inl rfl⟩
  case round =>
    obtain ⟨k, rfl, hk⟩ := hrel
    rcases hk with rfl | ⟨rfl, rfl⟩
    · go_wp2_with fail
      go_loop [14] (fun i => ∃ j : Nat, i = .int .i64 (j : Int) ∧ j ≤ 54 ∧ Hid (∀ t, t < j → ¬ tbl t ∣ k)) (fun i => (54 - intOf i).toNat)
      case atStart => exact ⟨0, rfl, by omega, Lib.hid fun t ht => absurd ht (Nat.not_lt_zero _)⟩
      case round =>
        obtain ⟨j, rfl, hj, hall⟩ := hrel
        by_cases hlt : j < 54
        · have hc := HT.out.2 j hlt
          have hb := tbl_bd hlt
          have YES := Lib.hid (fun h : k < tbl j * tbl j => tbl_yes hm2 hm9 hj (fun _ => h) hall.out)
          have NO := Lib.hid (fun (h : tbl j * tbl j ≤ k) (h2 : k % tbl j = 0) => tbl_no hlt h h2)
          have ND := Lib.hid (fun (h : ¬ tbl j ∣ k) => (show ∀ t, t < j + 1 → ¬ tbl t ∣ k from fun t ht => by
            rcases Nat.lt_or_ge t j with h1 | h1
            · exact hall.out t h1
            · obtain rfl : t = j := by omega
              exact h))
          obtain ⟨d, hd⟩ : ∃ d, tbl j = d := ⟨_, rfl⟩
          rw [hd] at hc hb YES NO ND
          obtain ⟨D, hD⟩ : ∃ D, D = d * d := ⟨_, rfl⟩
          rw [← hD] at YES NO
          have hDi : (d : Int) * (d : Int) = (D : Int) := by rw [hD]; exact (Int.natCast_mul d d).symm
          have hD9 : D ≤ 63001 := by rw [hD]; exact Nat.mul_le_mul hb.2 hb.2
          have i1 : (0 : Int) ≤ (j : Int) := by omega
          have i2 : (j : Int) < 54 := by omega
          clear hd hD
          by_cases hgt : k < D
          · have e := PYES.out (YES.out hgt)
            subst e
            go_wp2_with fail
            go_ret
            exact ⟨rfl, rfl⟩
          · by_cases hz : k % d = 0
            · have e := PNO.out (NO.out (by omega) hz)
              have hzz : (((k : Int) % (d : Int)) == 0) = true := by simp; omega
              subst e
              clear hz
              go_wp2_with fail
              go_round
              case rel => exact ⟨k + 1, by go_num, .inr ⟨rfl, by trivial⟩⟩
              case measure => simp [intOf]
            · have hzz : (((k : Int) % (d : Int)) == 0) = false := by simp; omega
              have HN := Lib.hid (ND.out fun h => hz (Nat.mod_eq_zero_of_dvd h))
              clear hz
              go_wp2_with fail
              go_round
              case rel => exact ⟨j + 1, by go_num, by omega, HN⟩
              case measure => simp [intOf]; omega
        · obtain rfl : j = 54 := by omega
          have e := PYES.out (tbl_yes hm2 hm9 (Nat.le_refl _) (fun h => absurd h (by decide)) hall.out)
          subst e
          go_wp2_with fail
          go_ret
          exact ⟨rfl, rfl⟩
    · go_wp2_with fail
      go_ret
      exact ⟨rfl, rfl⟩

set_option maxRecDepth 100000 in
set_option maxHeartbeats 1000000 in
theorem pIs_any (n : Int) (w : World) (h0 : -9223372036854775808 ≤ n) (h1 : n ≤ 9223372036854775807) (hT : TabAt w) :
    Calls Tryz.prog 77 #[.int .i64 n] w fun e w' => e = .returned (.bool (primB n)) ∧ w = w' := by
  by_cases hlo : n < 2
  · have hp := primB_no (p := n) (fun h => by have := h.1; omega)
    have HP := Lib.hid hp
    clear hp hT
    go_enter Tryz.func77, Tryz.ntmps77
    go_wp2_with fail
    go_ret
    exact ⟨by rw [HP.out]; rfl, rfl⟩
  by_cases hhi : 65521 < n
  · have hp := primB_no (p := n) (fun h => by have := h.2.1; omega)
    have HP := Lib.hid hp
    clear hp hT
    go_enter Tryz.func77, Tryz.ntmps77
    go_wp2_with fail
    go_ret
    exact ⟨by rw [HP.out]; rfl, rfl⟩
  obtain ⟨m, rfl⟩ : ∃ m : Nat, n = (m : Int) := ⟨n.toNat, by omega⟩
  have L := pLeast_any m w (by omega) (by omega) hT
  clear hT
  rcases primB_or (m : Int) with ⟨hb, -⟩ | ⟨hb, -⟩
  · rw [if_pos hb] at L
    have HB := Lib.hid hb
    have LL := Lib.hid L
    clear L hb
    go_enter Tryz.func77, Tryz.ntmps77
    go_wp2_with (go_at_call 127; refine LL.out.mono ?_; rintro e w' ⟨rfl, rfl⟩)
    go_ret
    exact ⟨by rw [HB.out]; rfl, rfl⟩
  · rw [hb, if_neg (by decide)] at L
    have HB := Lib.hid hb
    have LL := Lib.hid L
    have hm0 : (0 == (m : Int)) = false := by simp; omega
    clear L hb
    go_enter Tryz.func77, Tryz.ntmps77
    go_wp2_with (go_at_call 127; refine LL.out.mono ?_; rintro e w' ⟨rfl, rfl⟩)
    go_ret
    exact ⟨by rw [HB.out]; rfl, rfl⟩

theorem pCheck_any (p : Int) (w : World) (h0 : -9223372036854775808 ≤ p) (h1 : p ≤ 9223372036854775807) (hT : TabAt w) :
    Calls Tryz.prog 48 #[.int .i64 p] w fun e w' => e = .returned (.int .i64 (chk p)) ∧ w = w' := by
  have T := pIs_any p w h0 h1 hT
  clear hT
  have hy : primB p = true → chk p = 0 := chk_yes
  have hn : primB p = false → chk p = 1 := chk_no
  generalize primB p = b at *
  generalize chk p = c at *
  have TT := Lib.hid T
  clear T
  rcases b with _ | _
  · have hc := hn rfl
    clear hy hn
    subst hc
    go_enter Tryz.func48, Tryz.ntmps48
    go_wp2_with (go_at_call 77; refine TT.out.mono ?_; rintro e w' ⟨rfl, rfl⟩)
    go_ret
    exact ⟨rfl, rfl⟩
  · have hc := hy rfl
    clear hy hn
    subst hc
    go_enter Tryz.func48, Tryz.ntmps48
    go_wp2_with (go_at_call 77; refine TT.out.mono ?_; rintro e w' ⟨rfl, rfl⟩)
    go_ret
    exact ⟨rfl, rfl⟩
end Go.Proofs.YtnkhhndjbanmnaaGreatDoor

/- cleaverref05.Add, Sub, Mul, Inv, Div, Pow, by their contracts. -/
namespace Go.Proofs.YtnkhhndjbanmnaaGreatDoor
open Go.RowKit

end Go.Proofs.YtnkhhndjbanmnaaGreatDoor

/- An int and a row of ones, also below 0: the rest by a power of two. Mathematics alone. -/
namespace Go.Proofs.YtnkhhndjbanmnaaGreatDoor

end Go.Proofs.YtnkhhndjbanmnaaGreatDoor

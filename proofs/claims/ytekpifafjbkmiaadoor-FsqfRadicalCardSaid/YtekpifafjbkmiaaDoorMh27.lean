/- Texts joined, in their order: SqfEx, SqfAw, SqfProd, IntOpen, LstOpen, TabOpen. -/
import Derived.Test.YtekpifafjbkmiaaDoorRows
import Derived.ProofKit
import Derived.OpenShut
import Derived.SizedLaws
import Derived.WalkKit
import Derived.Lib.Hide
import Derived.Lib.LaidTab
import Derived.MakeChecks
import Derived.Test.YtekpifafjbkmiaaDoorMh2
import Derived.Test.YtekpifafjbkmiaaDoorMh6
import Derived.Test.YtekpifafjbkmiaaDoorMh23
import Derived.Test.YtekpifafjbkmiaaDoorMh26

/- The document's example of layer 8, by 3: x^4 + x^3. Mathematics alone. -/
namespace Go.Proofs.YtekpifafjbkmiaaDoor
open Ser (Bd)

theorem pr3 : Pr 3 := pr_trial (n := 3) (by decide) (by decide) 2 (by decide) (fun e h2 h3 => by omega)
theorem mn_lit3 {xs : List Int} (hr : xs.all (fun x => decide (0 ≤ x ∧ x < 3)) = true) (hn : xs ≠ []) (ht : cf xs (xs.length - 1) = 1) : Mn 3 xs := by
  have hl : xs.length - 1 + 1 = xs.length := by
    cases xs with
    | nil => exact absurd rfl hn
    | cons => simp
  refine ⟨⟨fun x hx => ?_, .inr ?_⟩, hn, ?_⟩
  · have := List.all_eq_true.1 hr x hx
    simpa using this
  · rw [ht]; decide
  · refine ⟨?_, by rw [ht]; rfl⟩
    rw [hl]
    exact bd_len 3 xs
theorem IsV.congrQ {p : Int} {q q' f : Ser} {n : Nat} (e : Ser.Eq p q q') (h : IsV p q f n) : IsV p q' f n := by
  obtain ⟨f0, h1, h2, h3⟩ := h
  exact ⟨f0, h1, h2.trans ((e.pw n).mulL f0), fun k => h3 (k.eqL e.symm)⟩
theorem irr_deg1 {p : Int} {q : Ser} (hp : Pr p) (h : Mo p q 1) : Irr p q :=
  ⟨1, Nat.le_refl _, h, fun d k hd hm => by have := mult_le hp h.last hd hm; omega⟩
theorem cf_x : cf [0, 1] = Ser.mono 1 1 := by
  funext i
  match i with
  | 0 => rfl
  | 1 => rfl
  | i + 2 => rw [cf_over (by simp)]; show (0 : Int) = if i + 2 = 1 then 1 else 0; rw [if_neg (by omega)]
theorem ex_whole : cf [0, 0, 0, 1, 1] = Ser.mul (Ser.pw (cf [0, 1]) 3) (cf [1, 1]) := by
  rw [cf_x, pw_mono]
  funext i
  rw [Ser.mono_mul_at]
  match i with
  | 0 => rfl
  | 1 => rfl
  | 2 => rfl
  | 3 => rfl
  | 4 => rfl
  | i + 5 =>
    rw [cf_over (by simp), if_pos (by omega), cf_over (by simp)]; rfl
theorem ex_rad : cf [0, 1, 1] = Ser.mul (cf [0, 1]) (cf [1, 1]) := by
  rw [cf_x]
  funext i
  rw [Ser.mono_mul_at]
  match i with
  | 0 => rfl
  | 1 => rfl
  | 2 => rfl
  | i + 3 =>
    rw [cf_over (by simp), if_pos (by omega), cf_over (by simp)]; rfl
theorem mn_m : Mn 3 [0, 0, 0, 1, 1] := mn_lit3 (by decide) (by decide) rfl
theorem mn_a : Mn 3 [0, 1] := mn_lit3 (by decide) (by decide) rfl
theorem mn_b : Mn 3 [1, 1] := mn_lit3 (by decide) (by decide) rfl
theorem mn_r : Mn 3 [0, 1, 1] := mn_lit3 (by decide) (by decide) rfl
/-- How often x and x + 1 are divided: not both. -/
theorem ex_ab {q : Ser} (hq : Irr 3 q) : V 3 (cf [0, 1]) q ≤ 1 ∧ V 3 (cf [1, 1]) q ≤ 1 ∧ V 3 (cf [0, 1]) q + V 3 (cf [1, 1]) q ≤ 1 := by
  have h1 := V_le_deg pr3 hq mn_a.last
  have h2 := V_le_deg pr3 hq mn_b.last
  refine ⟨h1, h2, ?_⟩
  have h1' : V 3 (cf [0, 1]) q ≤ 1 := h1
  have h2' : V 3 (cf [1, 1]) q ≤ 1 := h2
  refine Nat.le_of_not_lt fun hc => ?_
  have d1 := (V_pos pr3 hq mn_a.last).2 (by omega)
  have d2 := (V_pos pr3 hq mn_b.last).2 (by omega)
  have d3 := d2.add (d1.sc (c := -1))
  refine hq.not_unit pr3 (last_one pr3) (d3.eqR (Ser.Eq.of ?_))
  funext i
  show cf [1, 1] i + -1 * cf [0, 1] i = if i = 0 then 1 else 0
  match i with
  | 0 => rfl
  | 1 => rfl
  | i + 2 => rw [cf_over (by simp), cf_over (by simp), if_neg (by omega)]; rfl
theorem ex_V {q : Ser} (hq : Irr 3 q) : V 3 (cf [0, 0, 0, 1, 1]) q = 3 * V 3 (cf [0, 1]) q + V 3 (cf [1, 1]) q := by
  rw [ex_whole, V_mul pr3 hq (last_pw pr3 mn_a.last 3) mn_b.last, V_pw pr3 hq mn_a.last]
theorem ex_Vr {q : Ser} (hq : Irr 3 q) : V 3 (cf [0, 1, 1]) q = V 3 (cf [0, 1]) q + V 3 (cf [1, 1]) q := by
  rw [ex_rad, V_mul pr3 hq mn_a.last mn_b.last]
theorem ex_parts : IsParts 3 [0, 0, 0, 1, 1] [([1, 1], 1), ([0, 1], 3)] := by
  refine ⟨by simp, fun x hx => ?_, fun q hq h1 => ?_⟩
  · simp only [List.mem_cons, List.not_mem_nil, or_false] at hx
    rcases hx with rfl | rfl
    · refine ⟨Nat.le_refl _, ⟨mn_b, fun q hq => ?_⟩, by decide⟩
      have := ex_ab hq
      show V 3 (cf [1, 1]) q = if V 3 (cf [0, 0, 0, 1, 1]) q = 1 then 1 else 0
      rw [ex_V hq]
      split <;> omega
    · refine ⟨by decide, ⟨mn_a, fun q hq => ?_⟩, by decide⟩
      have := ex_ab hq
      show V 3 (cf [0, 1]) q = if V 3 (cf [0, 0, 0, 1, 1]) q = 3 then 1 else 0
      rw [ex_V hq]
      split <;> omega
  · have := ex_ab hq
    rw [ex_V hq] at h1 ⊢
    by_cases e : V 3 (cf [0, 1]) q = 0
    · exact ⟨([1, 1], 1), by simp, show 1 = _ by omega⟩
    · exact ⟨([0, 1], 3), by simp, show 3 = _ by omega⟩
theorem ex_israd : IsRad 3 [0, 0, 0, 1, 1] [0, 1, 1] := ⟨mn_r, fun q hq => by
  have := ex_ab hq
  rw [ex_V hq, ex_Vr hq]
  omega⟩
theorem mon_self {p : Int} {xs : List Int} (hp : Pr p) (h : Mn p xs) : monL p (cf xs) = xs := by
  obtain ⟨h1, _, _, h4⟩ := mn_mon hp h.last
  exact h1.ext hp h h4
theorem ex_esq : esq 3 (cf [0, 0, 0, 1, 1]) = 0 := esq_yes pr3 mn_m.last.some
theorem ex_partsL : partsL 3 (cf [0, 0, 0, 1, 1]) = [([1, 1], 1), ([0, 1], 3)] := partsL_is pr3 mn_m.last.some (by rw [mon_self pr3 mn_m]; exact ex_parts)
theorem ex_radL : radL 3 (cf [0, 0, 0, 1, 1]) = [0, 1, 1] := radL_is pr3 mn_m.last.some (by rw [mon_self pr3 mn_m]; exact ex_israd)
end Go.Proofs.YtekpifafjbkmiaaDoor

/- The document's example of layer 8, and the law's products, by contract. -/
namespace Go.Proofs.YtekpifafjbkmiaaDoor
open Go.RowKit

theorem in64_3 : In64 3 := by unfold In64; decide
theorem fi_small {xs : List Int} (h : xs.all (fun x => decide (0 ≤ x ∧ x < 3)) = true) : Fi xs := fun x hx => by
  have := List.all_eq_true.1 h x hx
  simp only [decide_eq_true_eq] at this
  unfold In64; omega
theorem isl_lit (w : World) (xs : List Int) (g n : Nat) (hg : g = w.heap.size) (hn : n = xs.length) (hf : Fi xs) (hl : xs.length ≤ 1000) : ISl (w.alloc (.cells (xs.map iv).toArray 3)) (some ⟨g, 0, none⟩) n n xs := by
  subst hg hn
  exact (iblk_list w xs hf).sl (by omega)
set_option maxRecDepth 100000 in
set_option maxHeartbeats 400000 in
theorem lTimes8 (A B : Option Addr) (n c n' c' : Nat) (xs ys : List Int) (p : Int) (w : World) (hT : TabAt w) (h : ISl w A n c xs) (h' : ISl w B n' c' ys) (ip : In64 p) (hn : n ≤ 100000000) (hn' : n' ≤ 100000000) :
    Calls Tryd.prog 19 #[.slice A n c, .slice B n' c', .int .i64 p] w fun e w' => ∃ C m d, e = .returned (.slice C m d) ∧ Got w C m d (polL p (Ser.mul (cf xs) (cf ys))) (n + n') w' := by
  have CC := Lib.hid (cMul A B n c n' c' xs ys p w hT h h' ip hn hn')
  generalize chk p = u at *
  clear h h' ip hn hn' hT
  go_enter Tryd.func19, Tryd.ntmps19
  go_wp2_with (go_at_call 35; (with_reducible refine CC.out.mono ?_); rintro e w' ⟨C, m, d, rfl, hg⟩)
  go_ret
  exact ⟨C, m, d, rfl, hg⟩

theorem aParts (A : Option Addr) (c : Nat) (w : World) (hT : TabAt w) (h : ISl w A 5 c [0, 0, 0, 1, 1]) :
    Calls Tryd.prog 9 #[.slice A 5 c, .int .i64 3] w fun e w' => ∃ A' c' Z, e = .returned (.tuple #[.slice A' 2 c', .int .i64 0]) ∧ PRd w' A' 2 c' Z ∧ pls Z = [([1, 1], 1), ([0, 1], 3)] ∧ Below w.heap.size w w' := by
  refine (fPartsTop A 5 c _ 3 w hT h in64_3 (by decide)).mono ?_
  rintro e w' ⟨A', k, c', Z, rfl, h1, h2, h3⟩
  rw [ex_partsL] at h2
  obtain rfl : k = 2 := by rw [h1.len, ← pls_length, h2]; rfl
  exact ⟨A', c', Z, by rw [ex_esq], h1, h2, h3⟩
theorem aRad (A : Option Addr) (c : Nat) (w : World) (hT : TabAt w) (h : ISl w A 5 c [0, 0, 0, 1, 1]) :
    Calls Tryd.prog 11 #[.slice A 5 c, .int .i64 3] w fun e w' => ∃ C d, e = .returned (.tuple #[.slice C 3 d, .int .i64 0]) ∧ ISl w' C 3 d [0, 1, 1] ∧ Below w.heap.size w w' := by
  refine (fRadTop A 5 c _ 3 w hT h in64_3 (by decide)).mono ?_
  rintro e w' ⟨C, m, d, rfl, h1, h2⟩
  rw [ex_radL] at h1
  obtain rfl : m = 3 := h1.len
  exact ⟨C, d, by rw [ex_esq], h1, h2⟩
theorem prd_two (w : World) (g1 g2 g : Nat) (hg : g = w.heap.size) (xs ys : List Int) (a b : Nat) (h1 : ISl w (some ⟨g1, 0, none⟩) 2 2 xs) (h2 : ISl w (some ⟨g2, 0, none⟩) 2 2 ys) :
    PRd (w.alloc (.cells #[.slice (some ⟨g1, 0, none⟩) 2 2, .int .i64 (a : Int), .slice (some ⟨g2, 0, none⟩) 2 2, .int .i64 (b : Int)] 47)) (some ⟨g, 0, none⟩) 2 2 [⟨some ⟨g1, 0, none⟩, 2, 2, xs, a⟩, ⟨some ⟨g2, 0, none⟩, 2, 2, ys, b⟩] := by
  subst hg
  refine ⟨rfl, Nat.le_refl _, by decide, fun z hz => ?_, .inr ⟨w.heap.size, 0, rfl, by simp, fun i hi => ?_⟩⟩
  · simp only [List.mem_cons, List.not_mem_nil, or_false] at hz
    rcases hz with rfl | rfl
    · exact isl_alloc h1 _
    · exact isl_alloc h2 _
  · match i, hi with
    | 0, _ => exact ⟨by simp [Pt.sl], by simp [Pt.nv]⟩
    | 1, _ => exact ⟨by simp [Pt.sl], by simp [Pt.nv]⟩

set_option maxRecDepth 100000 in
set_option maxHeartbeats 4000000 in
theorem awake08 (w : World) (hT : TabAt w) : Calls Tryd.prog 8 #[] w fun e w' => e = .returned (.bool true) ∧ Below w.heap.size w w' := by
  have HT := Lib.hid hT
  clear hT
  have hA := Lib.hid (isl_lit w [0, 0, 0, 1, 1] w.heap.size 5 rfl rfl (fi_small (by decide)) (by decide))
  go_enter Tryd.func8, Tryd.ntmps8
  go_wp2_with fail
  refine (aParts _ 5 _ (HT.out.below (bel_al _ _)) hA.out).mono ?_
  rintro e w1 ⟨A', c', Z, rfl, hrd, hpl, hb1⟩
  have HB1 := Lib.hid (below_to (bel_al w _) hb1)
  have RD := Lib.hid hrd
  have PL := Lib.hid hpl
  clear hA hrd hpl hb1
  have hA := Lib.hid (isl_lit w1 [0, 0, 0, 1, 1] w1.heap.size 5 rfl rfl (fi_small (by decide)) (by decide))
  go_wp2_with fail
  refine (aRad _ 5 _ (HT.out.below (below_to HB1.out (bel_al _ _))) hA.out).mono ?_
  rintro e w2 ⟨C, d, rfl, hr, hb2⟩
  have hb12 := below_to (bel_al w1 _) hb2
  have HB2 := Lib.hid (below_to HB1.out hb12)
  have RD2 := Lib.hid (RD.out.below hb12)
  have RI := Lib.hid hr
  clear hA hr hb2 hb12
  go_wp2_with fail
  refine (lTheirs A' 2 c' Z w2 RD2.out (by omega)).mono ?_
  rintro e w3 ⟨A3, c3, rfl, hrd3, hb3⟩
  have HB3 := Lib.hid (below_to HB2.out hb3)
  have RD3 := Lib.hid hrd3
  have RI3 := Lib.hid (RI.out.below hb3)
  clear hrd3 hb3
  have i1 := isl_lit w3 [1, 1] w3.heap.size 2 rfl rfl (fi_small (by decide)) (by decide)
  have i2 := isl_lit (w3.alloc (.cells #[iv 1, iv 1] 3)) [0, 1] (w3.heap.size + 1) 2 (by simp) rfl (fi_small (by decide)) (by decide)
  have h3 := Lib.hid (prd_two ((w3.alloc (.cells #[iv 1, iv 1] 3)).alloc (.cells #[iv 0, iv 1] 3)) w3.heap.size (w3.heap.size + 1) (w3.heap.size + 1 + 1) (by simp) [1, 1] [0, 1] 1 3 (isl_alloc i1 _) i2)
  have hb := Lib.hid (below_to (below_to (bel_al w3 (.cells #[iv 1, iv 1] 3)) (bel_al _ (.cells #[iv 0, iv 1] 3))) (bel_al _ (.cells #[.slice (some ⟨w3.heap.size, 0, none⟩) 2 2, .int .i64 ((1 : Nat) : Int), .slice (some ⟨w3.heap.size + 1, 0, none⟩) 2 2, .int .i64 ((3 : Nat) : Int)] 47)))
  clear i1 i2
  go_wp2_with fail
  refine (rSamePts A3 _ 2 c3 2 2 Z _ _ (RD3.out.below hb.out) h3.out (by rw [PL.out]; rfl)).mono ?_
  rintro e w4 ⟨rfl, hb4⟩
  have HB4 := Lib.hid (below_to HB3.out (below_to hb.out hb4))
  have RI4 := Lib.hid ((RI3.out.below hb.out).below hb4)
  clear h3 hb hb4
  have i4 := Lib.hid (isl_lit w4 [0, 1, 1] w4.heap.size 3 rfl rfl (fi_small (by decide)) (by decide))
  go_wp2_with fail
  refine (polSame C _ 3 d 3 3 _ _ _ (isl_alloc RI4.out _) i4.out rfl).mono ?_
  rintro e w5 ⟨rfl, hb5⟩
  have HB5 := Lib.hid (below_to HB4.out (below_to (bel_al _ _) hb5))
  clear i4 hb5
  go_wp2_with fail
  go_ret
  exact ⟨rfl, HB5.out⟩
end Go.Proofs.YtekpifafjbkmiaaDoor

/- A polynomial is its last coefficient times its parts, each as often as is told. Mathematics alone. -/
namespace Go.Proofs.YtekpifafjbkmiaaDoor
open Ser (Bd)

/-- How often the parts' product is divided by a factor whose number is v. -/
def cntW (v : Nat) : PL → Nat
  | [] => 0
  | x :: L => (if v = x.2 then v else 0) + cntW v L
theorem cntW_eq (v : Nat) : ∀ L : PL, cntW v L = v * cntN v L
  | [] => rfl
  | x :: L => by
    rw [cntW, cntN, cntW_eq v L, Nat.mul_add]
    congr 1
    split <;> simp
theorem cntW_append (v : Nat) (L K : PL) : cntW v (L ++ K) = cntW v L + cntW v K := by
  rw [cntW_eq, cntW_eq, cntW_eq, cntN_append, Nat.mul_add]
theorem cntW_parts {p : Int} {m : List Int} {L : PL} (h : IsParts p m L) {q : Ser} (hq : Irr p q) : cntW (V p (cf m) q) L = V p (cf m) q := by
  rw [cntW_eq, cntN_parts h hq]
  rcases Nat.eq_zero_or_pos (V p (cf m) q) with e | e
  · rw [e]; rfl
  · rw [show min 1 (V p (cf m) q) = 1 by omega, Nat.mul_one]
/-- The product so far: of the first i parts, and t times the next one, by a number. -/
structure WP (p : Int) (m : List Int) (L : PL) (lc : Int) (i t N : Nat) (out : List Int) : Prop where
  ex : ∃ r, Mn p r ∧ Pol p out (Ser.sc lc (cf r)) ∧ out.length = r.length ∧ ∀ q, Irr p q → V p (cf r) q = cntW (V p (cf m) q) (L.take i) + if V p (cf m) q = N then t else 0
theorem pln_num {p lc : Int} (h0 : 0 < lc) (h1 : lc < p) : Pln p [lc] :=
  ⟨fun x hx => by rw [List.mem_singleton.1 hx]; omega, .inr (by show cf [lc] 0 ≠ 0; rw [cf_cons_zero]; omega)⟩
theorem pol_num {p lc : Int} (h0 : 0 < lc) (h1 : lc < p) : Pol p [lc] (Ser.sc lc (cf [1])) := by
  refine ⟨pln_num h0 h1, Ser.Eq.of ?_⟩
  rw [cf_one, cf_one]
  funext i
  show (if i = 0 then lc else 0) = lc * (if i = 0 then 1 else 0)
  split <;> simp
theorem wp_start {p lc : Int} (hp : Pr p) (m : List Int) (L : PL) (N : Nat) (h0 : 0 < lc) (h1 : lc < p) : WP p m L lc 0 0 N [lc] :=
  ⟨[1], mn_one hp, pol_num h0 h1, rfl, fun q hq => by rw [V_one hp hq, List.take_zero]; split <;> rfl⟩
theorem WP.zero {p : Int} {m : List Int} {L : PL} {lc : Int} {i N N' : Nat} {out : List Int} (h : WP p m L lc i 0 N out) : WP p m L lc i 0 N' out := by
  obtain ⟨r, h1, h2, h3, h4⟩ := h.ex
  refine ⟨r, h1, h2, h3, fun q hq => ?_⟩
  rw [h4 q hq]
  split <;> split <;> rfl
theorem WP.le {p : Int} {m : List Int} {L : PL} {lc : Int} {i t : Nat} {out : List Int} (hp : Pr p) (hm : Mn p m) (hL : IsParts p m L) (hi : i < L.length) (ht : t ≤ L[i].2) (h : WP p m L lc i t L[i].2 out) : out.length ≤ m.length := by
  obtain ⟨r, h1, h2, h3, h4⟩ := h.ex
  rw [h3]
  refine h1.len_le hp hm fun q hq => ?_
  rw [h4 q hq]
  have hw := cntW_parts hL hq
  have e : L = L.take i ++ L.drop i := (List.take_append_drop i L).symm
  have e2 : L.drop i = L[i] :: L.drop (i + 1) := List.drop_eq_getElem_cons hi
  conv at hw => lhs; rw [e, cntW_append, e2, cntW]
  split
  · rename_i hv
    rw [if_pos hv] at hw
    omega
  · omega
theorem WP.mul {p : Int} {m : List Int} {L : PL} {lc : Int} {i t : Nat} {out : List Int} (hp : Pr p) (hL : IsParts p m L) (hi : i < L.length) (hlc : 0 < lc ∧ lc < p) (h : WP p m L lc i t L[i].2 out) : WP p m L lc i (t + 1) L[i].2 (polL p (Ser.mul (cf out) (cf L[i].1))) := by
  obtain ⟨r, h1, h2, h3, h4⟩ := h.ex
  obtain ⟨_, ho, _⟩ := hL.own L[i] (List.getElem_mem hi)
  obtain ⟨m1, m2, m3⟩ := mn_mul hp h1 ho.1
  have hP := polL_pol (f := Ser.mul (cf out) (cf L[i].1)) hp ((fini_cf p _).mul (fini_cf p _))
  have hQ := polL_pol (f := Ser.mul (cf r) (cf L[i].1)) hp ((fini_cf p _).mul (fini_cf p _))
  have e : Ser.Eq p (Ser.mul (cf out) (cf L[i].1)) (Ser.sc lc (cf (polL p (Ser.mul (cf r) (cf L[i].1))))) := by
    refine (h2.2.mulL _).trans ?_
    rw [Ser.sc_mul]
    exact Ser.Eq.sc rfl hQ.2.symm
  have hlcp : lc % p ≠ 0 := by rw [Int.emod_eq_of_lt (by omega) hlc.2]; omega
  have hl : Last p (Ser.mul (cf out) (cf L[i].1)) ((polL p (Ser.mul (cf r) (cf L[i].1))).length - 1) := by
    have h5 := (last_con hlcp).mul hp m1.last
    rw [Nat.zero_add, Ser.con_mul] at h5
    exact h5.eq e.symm
  refine ⟨_, m1, hP.eq e, ?_, fun q hq => ?_⟩
  · rw [pol_len (by have := hp.1; omega) hP hl.1 hl.2]
    have := m1.pos
    omega
  · rw [m3 q hq, h4 q hq, ho.2 q hq]
    split <;> omega
theorem WP.next {p : Int} {m : List Int} {L : PL} {lc : Int} {i t N : Nat} {out : List Int} (hi : i < L.length) (ht : t = L[i].2) (h : WP p m L lc i t L[i].2 out) : WP p m L lc (i + 1) 0 N out := by
  obtain ⟨r, h1, h2, h3, h4⟩ := h.ex
  refine ⟨r, h1, h2, h3, fun q hq => ?_⟩
  rw [h4 q hq, List.take_succ_eq_append_getElem hi, cntW_append, cntW, cntW, Nat.add_zero, ← ht]
  have : (if V p (cf m) q = N then 0 else 0) = 0 := by split <;> rfl
  rw [this, Nat.add_zero]
  split
  · rename_i hv; rw [hv]
  · rfl
theorem WP.done {p : Int} {m : List Int} {L : PL} {lc : Int} {i N : Nat} {out : List Int} (hp : Pr p) (hm : Mn p m) (hL : IsParts p m L) (hi : L.length ≤ i) (h : WP p m L lc i 0 N out) : Pol p out (Ser.sc lc (cf m)) := by
  obtain ⟨r, h1, h2, h3, h4⟩ := h.ex
  have e : r = m := h1.ext hp hm fun q hq => by
    rw [h4 q hq, List.take_of_length_le hi, cntW_parts hL hq]
    split <;> rfl
  rw [← e]; exact h2
/-- The last coefficient of a plain polynomial, and what it is by it. -/
theorem lead_back {p : Int} {xs : List Int} (hp : Pr p) (hb : ¬ Bd p (cf xs) 0) :
    ∃ k, (polL p (cf xs)).length = k + 1 ∧ 0 < cf (polL p (cf xs)) k ∧ cf (polL p (cf xs)) k < p ∧ ∀ ys, Pol p ys (Ser.sc (cf (polL p (cf xs)) k) (cf (monL p (cf xs)))) → ys = polL p (cf xs) := by
  obtain ⟨k, hk⟩ := last_of hb (fini_cf p xs)
  have hP := polL_pol hp (fini_cf p xs)
  have hp1 : 1 ≤ p := by have := hp.1; omega
  have hl := pol_len hp1 hP hk.1 hk.2
  obtain ⟨_, _, m3, _⟩ := mn_mon hp hk
  have ht := hP.1.1.at hp1 k
  have he := hP.2 k
  have hne : cf (polL p (cf xs)) k ≠ 0 := fun e => by
    rw [e] at he
    exact hk.2 (by rw [← he]; simp)
  refine ⟨k, hl, by omega, ht.2, fun ys hy => hy.uniq hP hp1 ?_⟩
  have e1 : Ser.Eq p (Ser.sc (cf (polL p (cf xs)) k) (cf (monL p (cf xs)))) (Ser.sc (cf xs k) (Ser.sc (finv (cf xs k) p) (cf xs))) := Ser.Eq.sc he m3
  refine e1.trans fun i => ?_
  show cf xs k * (finv (cf xs k) p * cf xs i) % p = cf xs i % p
  rw [← Int.mul_assoc, Int.mul_emod, (finv_spec hp hk.2).2.2, Int.one_mul, Int.emod_emod_of_dvd _ (Int.dvd_refl p)]
end Go.Proofs.YtekpifafjbkmiaaDoor

/- What every law's frame wants at a seat: the knob, the layout; an int's bounds. -/
namespace Go.Proofs.YtekpifafjbkmiaaDoor
open Go.ChangeShapes Go.WideShapes Go.ChangeAt Go.RowKit

theorem own0 : ownKnob Tryd.prog.godebug = none := by kernel_rfl
theorem laidOut0 : laidOutB Tryd.prog = true := by kernel_rfl
theorem int_wf {k : Int} (hk : (Lit.int .i64 k).wf = true) : -9223372036854775808 ≤ k ∧ k ≤ 9223372036854775807 := by
  have h2 : IntKind.i64.min = -9223372036854775808 := rfl
  have h3 : IntKind.i64.max = 9223372036854775807 := rfl
  simp only [Lit.wf, Bool.and_eq_true, decide_eq_true_eq] at hk
  omega
end Go.Proofs.YtekpifafjbkmiaaDoor

/- An argument that is a slice of ints, opened: it reads as ints, and is no longer than memory. -/
namespace Go.Proofs.YtekpifafjbkmiaaDoor
open Go.ChangeShapes Go.WideShapes Go.ChangeAt Go.RowKit

theorem bytesI : Tryd.prog.bytesOf 3 = 8 := by kernel_rfl
theorem cellsI : Tryd.prog.cellsOf 3 = 1 := by kernel_rfl

theorem isl_open {H : Type} {enc : TypeId × Value → H} {W : World} {a : Option Addr} {len cap : Nat} {d : DataW H} {p : List MemPlace} {ts : List TypeId} {ds : List (DataW H)}
    (h : DataW.Trod enc Tryd.prog W 0 (fun _ => true) true 22 (.slice a len cap) d p) (hsz : (DataW.weightsEach Tryd.prog ts ds).all (· ≤ reachBytes) = true) (j : Nat) (ht : ts[j]? = some 22) (hd : ds[j]? = some d) :
    ∃ xs, ISl W a len cap xs ∧ len ≤ 17592186044416 := by
  obtain ⟨fuel, hf⟩ := h
  rcases open_ints Tryd.underlying22 Tryd.underlying3 cellsI hf with ⟨hcs, _⟩ | ⟨x, l, c, zs, hcs, _, hl, hm, hz, hx, hcell, hwz⟩
  · simp [Value.cells] at hcs
    obtain ⟨rfl, rfl, rfl⟩ := hcs
    exact ⟨[], ⟨rfl, Nat.le_refl _, by decide, fun _ => rfl, IRd.nil _ _⟩, by decide⟩
  · simp [Value.cells] at hcs
    obtain ⟨rfl, rfl, rfl⟩ := hcs
    have hz' : zs.length = cap := by simpa using hz
    have hdd : d = .slice (lits .i64 (zs.take len)) (lits .i64 (zs.drop len)) := by
      have := congrArg Prod.fst hx
      simpa using this
    have hs := sized_slice hsz (j := j) (t := 22) (e := 3) ht (by rw [hd, hdd]) Tryd.underlying22
    rw [bytesI] at hs
    simp only [lits, List.length_map, List.length_take, List.length_drop, reachBytes] at hs
    have hwf : ∀ n ∈ zs, In64 n := by
      intro n hn
      have h1 := hwz n hn
      have h2 : IntKind.i64.min = -9223372036854775808 := rfl
      have h3 : IntKind.i64.max = 9223372036854775807 := rfl
      simp only [Lit.wf, Bool.and_eq_true, decide_eq_true_eq] at h1
      unfold In64; omega
    have hfit : Fi (zs.take len) := fun y hy => hwf y (List.mem_of_mem_take hy)
    have hlen : (zs.take len).length = len := by simp; omega
    refine ⟨zs.take len, ⟨hlen.symm, hl, by unfold maxLen at hm; omega, (fun e => by cases e), hfit, ?_⟩, by omega⟩
    by_cases h0 : len = 0
    · left
      apply List.eq_nil_of_length_eq_zero
      rw [hlen, h0]
    · right
      obtain ⟨b, off, spot⟩ := x
      have hc := hcell 0 (by omega)
      have hspot : spot = none := by simpa [Addr.add] using World.cell?_spot hc
      subst hspot
      refine ⟨b, off, rfl, World.block_lt_of_cell? W _ (by simpa [Addr.add] using hc), fun k hk => ?_⟩
      rw [hlen] at hk
      have h1 := hcell k (by omega)
      rw [iadd_add _ k b off rfl] at h1
      rw [h1]
      have e : zs.getD k 0 = zs[k] := by rw [List.getD_eq_getElem?_getD, List.getElem?_eq_getElem (by omega)]; rfl
      rw [e]
      simp only [List.getElem_take]
end Go.Proofs.YtekpifafjbkmiaaDoor

/- From the row's condition on the table of small primes to the words that the walks use. -/
namespace Go.Proofs.YtekpifafjbkmiaaDoor
open Go.RowKit

theorem tab_is : (Rows.laid_cleaver_prime_divisors : DataW Unit) = Lib.tabData .u8 (tblL.map fun n : Nat => (n : Int)) := rfl
theorem tab_of_laid {W : World} (h : laidMetH Tryd.prog [("cleaver/prime.divisors", Rows.laid_cleaver_prime_divisors)] W) : TabAt W := by
  rw [MakeChecks.laidMetH_plain _ _ _ (by kernel_rfl), tab_is] at h
  have hg : Tryd.prog.globalNamed "cleaver/prime.divisors" = some 0 := by kernel_rfl
  have hT := Lib.tabIs_of_head hg (t := 94) (e := 5) (n := 54) (by kernel_rfl) (by kernel_rfl) (by kernel_rfl) (by kernel_rfl) (by kernel_rfl) h
  have hc : ∀ i, i < 54 → W.cell? ⟨0, i, none⟩ = some (.int .u8 (tbl i : Int)) := fun i hi => by
    rw [hT.cell hg i (by simpa [tblL] using hi)]
    unfold tbl
    rw [List.getD_eq_getElem?_getD, List.getD_eq_getElem?_getD, List.getElem?_map]
    cases tblL[i]? <;> rfl
  refine ⟨?_, hc⟩
  have h0 := hc 0 (by decide)
  refine Classical.byContradiction fun hn => ?_
  simp only [World.cell?] at h0
  rw [Array.getElem?_eq_none (by omega)] at h0
  simp at h0
end Go.Proofs.YtekpifafjbkmiaaDoor

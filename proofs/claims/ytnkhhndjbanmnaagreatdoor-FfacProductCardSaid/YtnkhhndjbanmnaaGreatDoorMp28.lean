/- Texts joined, in their order: FacC, FacOr. -/
import Derived.Test.YtnkhhndjbanmnaaGreatDoorMp3
import Derived.Test.YtnkhhndjbanmnaaGreatDoorMp20
import Derived.Test.YtnkhhndjbanmnaaGreatDoorMp21
import Derived.Test.YtnkhhndjbanmnaaGreatDoorMp22
import Derived.Test.YtnkhhndjbanmnaaGreatDoorMp24
import Derived.Test.YtnkhhndjbanmnaaGreatDoorMp27

/- ffac's small calls by contract: what it takes from fpoly, and whether a polynomial is constant. -/
namespace Go.Proofs.YtnkhhndjbanmnaaGreatDoor
open Go.RowKit

theorem powL_sg {p sg : Int} (h : 0 ≤ sg) (V : Nat) (f b : Ser) : powL p sg V f b = powL p 1 V f b :=
  the_congr fun _ => ⟨fun ⟨a, _, c⟩ => ⟨a, by decide, c⟩, fun ⟨a, _, c⟩ => ⟨a, h, c⟩⟩
theorem zsg_pos (v : Nat) : 0 ≤ zsg false v := by
  unfold zsg
  split
  · decide
  · rw [if_neg (by decide)]; decide

def lowB (n : Nat) : Bool := decide ((n : Int) ≤ 1)
theorem lowB_yes {n : Nat} (h : n ≤ 1) : lowB n = true := decide_eq_true (by omega)
theorem lowB_no {n : Nat} (h : ¬ n ≤ 1) : lowB n = false := decide_eq_false (by omega)
set_option maxRecDepth 100000 in
set_option maxHeartbeats 400000 in
theorem gConst (A : Option Addr) (n c : Nat) (w : World) :
    Calls Tryz.prog 55 #[.slice A n c] w fun e w' => e = .returned (.bool (lowB n)) ∧ w = w' := by
  unfold lowB
  go_enter Tryz.func55, Tryz.ntmps55
  go_wp2_with fail
  go_ret
  exact ⟨rfl, rfl⟩
set_option maxRecDepth 100000 in
set_option maxHeartbeats 400000 in
theorem gGcd (A B : Option Addr) (n c n' c' : Nat) (xs ys : List Int) (p : Int) (w : World) (hT : TabAt w) (h : ISl w A n c xs) (h' : ISl w B n' c' ys) (ip : In64 p) (hn : n ≤ 1000) (hn' : n' ≤ 1000) :
    Calls Tryz.prog 70 #[.slice A n c, .slice B n' c', .int .i64 p] w fun e w' => ∃ C m d, e = .returned (.slice C m d) ∧ Got w C m d (bezG p (cf xs) (cf ys)) 2000000 w' ∧ FreshA w C := by
  have CC := Lib.hid (cGcd_new A B n c n' c' xs ys p w hT h h' ip hn hn')
  generalize chk p = u at *
  clear h h' ip hn hn' hT
  go_enter Tryz.func70, Tryz.ntmps70
  go_wp2_with (go_at_call 118; (with_reducible refine CC.out.mono ?_); rintro e w' ⟨C, m, d, rfl, hg, hf⟩)
  go_ret
  exact ⟨C, m, d, rfl, hg, hf⟩
set_option maxRecDepth 100000 in
set_option maxHeartbeats 400000 in
theorem gQuo (A B : Option Addr) (n c n' c' : Nat) (xs ys : List Int) (p : Int) (w : World) (hT : TabAt w) (h : ISl w A n c xs) (h' : ISl w B n' c' ys) (ip : In64 p) (hn : n ≤ 1000) (hn' : n' ≤ 1000) :
    Calls Tryz.prog 72 #[.slice A n c, .slice B n' c', .int .i64 p] w fun e w' => ∃ C m d, e = .returned (.slice C m d) ∧ Got w C m d (quoL p (cf xs) (cf ys)) (n + 1) w' ∧ FreshA w C := by
  have CC := Lib.hid (cDiv_new A B n c n' c' xs ys p w hT h h' ip (by omega) (by omega))
  generalize ediv p (cf ys) = u at *
  clear h h' ip hn hn' hT
  go_enter Tryz.func72, Tryz.ntmps72
  go_wp2_with (go_at_call 87; (with_reducible refine CC.out.mono ?_); rintro e w' ⟨C, m, d, C', m', d', rfl, hg, -, hf, -⟩)
  go_ret
  exact ⟨C, m, d, rfl, hg, hf⟩
set_option maxRecDepth 100000 in
set_option maxHeartbeats 400000 in
theorem gRest (A B : Option Addr) (n c n' c' : Nat) (xs ys : List Int) (p : Int) (w : World) (hT : TabAt w) (h : ISl w A n c xs) (h' : ISl w B n' c' ys) (ip : In64 p) (hn : n ≤ 1000) (hn' : n' ≤ 1000) :
    Calls Tryz.prog 57 #[.slice A n c, .slice B n' c', .int .i64 p] w fun e w' => ∃ C m d, e = .returned (.slice C m d) ∧ Got w C m d (remL p (cf xs) (cf ys)) n w' ∧ FreshA w C := by
  have CC := Lib.hid (cDiv_new A B n c n' c' xs ys p w hT h h' ip (by omega) (by omega))
  generalize ediv p (cf ys) = u at *
  clear h h' ip hn hn' hT
  go_enter Tryz.func57, Tryz.ntmps57
  go_wp2_with (go_at_call 87; (with_reducible refine CC.out.mono ?_); rintro e w' ⟨C, m, d, C', m', d', rfl, -, hg, -, hf⟩)
  go_ret
  exact ⟨C', m', d', rfl, hg, hf⟩
set_option maxRecDepth 100000 in
set_option maxHeartbeats 400000 in
theorem gTimes (A B : Option Addr) (n c n' c' : Nat) (xs ys : List Int) (p : Int) (w : World) (hT : TabAt w) (h : ISl w A n c xs) (h' : ISl w B n' c' ys) (ip : In64 p) (hn : n ≤ 1000) (hn' : n' ≤ 1000) :
    Calls Tryz.prog 105 #[.slice A n c, .slice B n' c', .int .i64 p] w fun e w' => ∃ C m d, e = .returned (.slice C m d) ∧ Got w C m d (polL p (Ser.mul (cf xs) (cf ys))) (n + n') w' := by
  have CC := Lib.hid (cMul A B n c n' c' xs ys p w hT h h' ip (by omega) (by omega))
  generalize chk p = u at *
  clear h h' ip hn hn' hT
  go_enter Tryz.func105, Tryz.ntmps105
  go_wp2_with (go_at_call 50; (with_reducible refine CC.out.mono ?_); rintro e w' ⟨C, m, d, rfl, hg⟩)
  go_ret
  exact ⟨C, m, d, rfl, hg⟩
set_option maxRecDepth 100000 in
set_option maxHeartbeats 400000 in
theorem gPlus (A B : Option Addr) (n c n' c' : Nat) (xs ys : List Int) (p : Int) (w : World) (hT : TabAt w) (h : ISl w A n c xs) (h' : ISl w B n' c' ys) (ip : In64 p) (hn : n ≤ 1000) (hn' : n' ≤ 1000) :
    Calls Tryz.prog 59 #[.slice A n c, .slice B n' c', .int .i64 p] w fun e w' => ∃ C m d, e = .returned (.slice C m d) ∧ Got w C m d (polL p (Ser.add (cf xs) (Ser.sc 1 (cf ys)))) (max n n') w' := by
  have CC := Lib.hid (cAdd A B n c n' c' xs ys p w hT h h' ip (by omega) (by omega))
  generalize chk p = u at *
  clear h h' ip hn hn' hT
  go_enter Tryz.func59, Tryz.ntmps59
  go_wp2_with (go_at_call 89; (with_reducible refine CC.out.mono ?_); rintro e w' ⟨C, m, d, rfl, hg⟩)
  go_ret
  exact ⟨C, m, d, rfl, hg⟩
set_option maxRecDepth 100000 in
set_option maxHeartbeats 400000 in
theorem gMinus (A B : Option Addr) (n c n' c' : Nat) (xs ys : List Int) (p : Int) (w : World) (hT : TabAt w) (h : ISl w A n c xs) (h' : ISl w B n' c' ys) (ip : In64 p) (hn : n ≤ 1000) (hn' : n' ≤ 1000) :
    Calls Tryz.prog 71 #[.slice A n c, .slice B n' c', .int .i64 p] w fun e w' => ∃ C m d, e = .returned (.slice C m d) ∧ Got w C m d (polL p (Ser.add (cf xs) (Ser.sc (-1) (cf ys)))) (max n n') w' := by
  have CC := Lib.hid (cSub A B n c n' c' xs ys p w hT h h' ip (by omega) (by omega))
  generalize chk p = u at *
  clear h h' ip hn hn' hT
  go_enter Tryz.func71, Tryz.ntmps71
  go_wp2_with (go_at_call 119; (with_reducible refine CC.out.mono ?_); rintro e w' ⟨C, m, d, rfl, hg⟩)
  go_ret
  exact ⟨C, m, d, rfl, hg⟩
set_option maxRecDepth 100000 in
set_option maxHeartbeats 1000000 in
theorem gPower (A B : Option Addr) (n c n' c' k : Nat) (xs ys : List Int) (p : Int) (w : World) (hT : TabAt w) (h : ISl w A n c xs) (h' : ISl w B n' c' ys) (ip : In64 p) (hn : n ≤ 1000) (hn' : n' ≤ 1000) (hk : k ≤ 1000000) :
    Calls Tryz.prog 88 #[.slice A n c, .int .i64 (k : Int), .slice B n' c', .int .i64 p] w fun e w' => ∃ C m d, e = .returned (.slice C m d) ∧ Got w C m d (powL p 1 k (cf xs) (cf ys)) n' w' := by
  have ZC := Lib.hid (zOf k (by omega) w)
  have PC := Lib.hid (fun (E : Option Addr) (m d : Nat) (es : List Nat) (W : World) (hb : Below w.heap.size w W) (hE : Sl W E m d es) (hm : m ≤ 1) => cPowMod A B E n c n' c' m d xs ys false es p W (hT.below hb) (h.below hb) (h'.below hb) hE ip (by omega) (by omega) (by omega))
  have PS := Lib.hid (fun (f b : Ser) => powL_sg (p := p) (zsg_pos k) k f b)
  clear h h' ip hn hn' hT hk
  go_enter Tryz.func88, Tryz.ntmps88
  go_wp2_with (first
    | (go_at_call 137; (with_reducible refine ZC.out.mono ?_); rintro e w1 ⟨E, m, d, es, rfl, hE, hv, hm, hb⟩; have HB := Lib.hid hb; have HV := Lib.hid hv; have C2 := Lib.hid (PC.out E m d es w1 hb hE hm); clear hE hv hm hb)
    | (go_at_call 136; (with_reducible refine C2.out.mono ?_); rintro e w2 ⟨C, m2, d2, rfl, hg⟩; have HG := Lib.hid hg; clear hg))
  go_ret
  refine ⟨C, m2, d2, rfl, ?_⟩
  have hg := HG.out
  rw [HV.out, PS.out] at hg
  exact ⟨hg.1, hg.2.1, below_to HB.out hg.2.2⟩

noncomputable def eff (p : Int) (f : Ser) : Int := if primB p = true then (if noB p f = true then 8 else if (monL p f).length ≤ 65 then 0 else 6) else 1
theorem eff_no {p : Int} {f : Ser} (h : ¬ Pr p) : eff p f = 1 := if_neg (by rw [primB_no h]; decide)
theorem eff_zero {p : Int} {f : Ser} (h : Pr p) (hb : Ser.Bd p f 0) : eff p f = 8 := by unfold eff; rw [if_pos (primB_yes h), if_pos (noB_yes hb)]
theorem eff_great {p : Int} {f : Ser} (h : Pr p) (hb : ¬ Ser.Bd p f 0) (hl : ¬ (monL p f).length ≤ 65) : eff p f = 6 := by unfold eff; rw [if_pos (primB_yes h), noB_no hb, if_neg (by decide), if_neg hl]
theorem eff_yes {p : Int} {f : Ser} (h : Pr p) (hb : ¬ Ser.Bd p f 0) (hl : (monL p f).length ≤ 65) : eff p f = 0 := by unfold eff; rw [if_pos (primB_yes h), noB_no hb, if_neg (by decide), if_pos hl]
theorem eff_cases (p : Int) (f : Ser) : (Pr p ∧ ¬ Ser.Bd p f 0 ∧ (monL p f).length ≤ 65 ∧ eff p f = 0) ∨ (eff p f = 1 ∧ ¬ Pr p) ∨ (eff p f = 8 ∧ Pr p ∧ Ser.Bd p f 0) ∨ (eff p f = 6 ∧ Pr p ∧ ¬ Ser.Bd p f 0 ∧ ¬ (monL p f).length ≤ 65) := by
  rcases Classical.em (Pr p) with hp | hp
  · rcases Classical.em (Ser.Bd p f 0) with hb | hb
    · exact .inr (.inr (.inl ⟨eff_zero hp hb, hp, hb⟩))
    · rcases Nat.lt_or_ge 65 (monL p f).length with hl | hl
      · exact .inr (.inr (.inr ⟨eff_great hp hb (by omega), hp, hb, by omega⟩))
      · exact .inl ⟨hp, hb, hl, eff_yes hp hb hl⟩
  · exact .inr (.inl ⟨eff_no hp, hp⟩)
noncomputable def okL (p : Int) (f : Ser) : List Int := if eff p f = 0 then monL p f else []
theorem okL_yes {p : Int} {f : Ser} (h : eff p f = 0) : okL p f = monL p f := if_pos h
theorem okL_no {p : Int} {f : Ser} (h : eff p f ≠ 0) : okL p f = [] := if_neg h

set_option maxRecDepth 100000 in
set_option maxHeartbeats 1000000 in
theorem gMon (A : Option Addr) (n c : Nat) (xs : List Int) (p : Int) (w : World) (hT : TabAt w) (h : ISl w A n c xs) (ip : In64 p) (hn : n ≤ 17592186044416) :
    Calls Tryz.prog 31 #[.slice A n c, .int .i64 p] w fun e w' => ∃ C m d, e = .returned (.tuple #[.slice C m d, .int .i64 (eff p (cf xs))]) ∧ Got w C m d (okL p (cf xs)) 65 w' := by
  have CM := cMonic_big A n c xs p w hT h ip hn
  rcases eff_cases p (cf xs) with ⟨hp, hb, hl, he⟩ | ⟨he, hp⟩ | ⟨he, hp, hb⟩ | ⟨he, hp, hb, hl⟩
  · rw [chk_yes (primB_yes hp)] at CM
    have CC := Lib.hid CM
    obtain ⟨m1, _, _⟩ := mn_monL hp hb
    have E := Lib.hid m1.pos
    have HL := Lib.hid hl
    have HE := Lib.hid (okL_yes he)
    rw [he]
    clear CM h ip hT hp hb m1 hl he
    go_enter Tryz.func31, Tryz.ntmps31
    go_wp2_with (go_at_call 52; (with_reducible refine CC.out.mono ?_); rintro e w' ⟨C, m, d, rfl, hg⟩; have hm : ((m : Int) == 0) = false := by { have := hg.isl.len; have := E.out; simp; omega }; have hm1 : ¬ ((m : Int) - 1 > 64) := by { have := hg.isl.len; have := HL.out; omega }; have hm2 : IntKind.i64.wrap ((m : Int) - 1) = (m : Int) - 1 := by { have := hg.isl.len; have := E.out; have := HL.out; simp [IntKind.wrap, IntKind.bits, IntKind.signed]; omega }; have HG := Lib.hid hg; clear hg)
    go_ret2
    have hg := HG.out
    exact ⟨C, m, d, rfl, by rw [HE.out]; exact hg.1, by have := hg.isl.len; have := HL.out; omega, hg.2.2⟩
  · rw [chk_no (primB_no hp)] at CM
    have CC := Lib.hid CM
    have E := Lib.hid (okL_no (p := p) (f := cf xs) (by rw [he]; decide))
    rw [he]
    clear CM h ip hT hp he
    go_enter Tryz.func31, Tryz.ntmps31
    go_wp2_with (go_at_call 52; (with_reducible refine CC.out.mono ?_); rintro e w' ⟨C, m, d, rfl, hg⟩; have HB := Lib.hid hg.bel; clear hg)
    go_ret2
    exact ⟨none, 0, 0, rfl, got_nil HB.out E.out⟩
  · rw [chk_yes (primB_yes hp)] at CM
    have CC := Lib.hid CM
    have E0 := Lib.hid (monL_zero hp hb)
    have E := Lib.hid (okL_no (p := p) (f := cf xs) (by rw [he]; decide))
    rw [he]
    clear CM h ip hT hp hb he
    go_enter Tryz.func31, Tryz.ntmps31
    go_wp2_with (go_at_call 52; (with_reducible refine CC.out.mono ?_); rintro e w' ⟨C, m, d, rfl, hg⟩; obtain rfl : m = 0 := by { have := hg.isl.len; rw [E0.out] at this; exact this }; have HB := Lib.hid hg.bel; clear hg)
    go_ret2
    exact ⟨none, 0, 0, rfl, got_nil HB.out E.out⟩
  · rw [chk_yes (primB_yes hp)] at CM
    have CC := Lib.hid CM
    have HL := Lib.hid hl
    have E := Lib.hid (okL_no (p := p) (f := cf xs) (by rw [he]; decide))
    rw [he]
    have HN := Lib.hid h.len
    clear CM h ip hT hp hb he hl
    go_enter Tryz.func31, Tryz.ntmps31
    go_wp2_with (go_at_call 52; (with_reducible refine CC.out.mono ?_); rintro e w' ⟨C, m, d, rfl, hg⟩; have hm : ((m : Int) == 0) = false := by { have := hg.isl.len; have := HL.out; simp; omega }; have hm1 : (m : Int) - 1 > 64 := by { have := hg.isl.len; have := HL.out; omega }; have hm2 : IntKind.i64.wrap ((m : Int) - 1) = (m : Int) - 1 := by { have := hg.isl.len; have := HL.out; have := hg.2.1; simp [IntKind.wrap, IntKind.bits, IntKind.signed]; omega }; have HB := Lib.hid hg.bel; clear hg)
    go_ret2
    exact ⟨none, 0, 0, rfl, got_nil HB.out E.out⟩
end Go.Proofs.YtnkhhndjbanmnaaGreatDoor

/- ffac.order by contract. -/
namespace Go.Proofs.YtnkhhndjbanmnaaGreatDoor
open Go.RowKit Go.Shelf
attribute [local go_sem] Oper.semAt_some

theorem cmpZ_lib (x y : Int) : Lib.compareInt x y = cmpZ x y := by
  unfold Lib.compareInt cmpZ
  rfl

theorem results_order (tmps : Array Value) (w : World) {b : Nat} {v : Value} (hp : tmps[4]?.getD undef = .pointer (some ⟨b, 0, none⟩)) (hc : w.cell? ⟨b, 0, none⟩ = some v) : (results Tryz.f36 tmps).run Tryz.prog w = .ok v w := by
  simp [results, Tryz.results36, go_sem, hp, hc]

theorem ordN_at {xs ys : List Int} {i : Nat} : ∀ n, i < n → (∀ j, i < j → j < n → cf xs j = cf ys j) → cf xs i ≠ cf ys i → ordN xs ys n = cmpZ (cf xs i) (cf ys i) := by
  intro n
  induction n with
  | zero => intro h; omega
  | succ n ih =>
    intro h he hn
    by_cases e : i = n
    · subst e; exact ordN_diff hn
    · rw [ordN_same (he n (by omega) (by omega))]
      exact ih (by omega) (fun j h1 h2 => he j h1 (by omega)) hn
theorem ordN_all {xs ys : List Int} {n : Nat} (h : ∀ j, j < n → cf xs j = cf ys j) : ordN xs ys n = 0 := by
  rcases ordN_cases xs ys n with h1 | ⟨h1, _⟩ | ⟨h1, _⟩
  · exact h1.1
  · exfalso
    have : ∀ n, (∀ j, j < n → cf xs j = cf ys j) → ordN xs ys n = 0 := fun n => by
      induction n with
      | zero => exact fun _ => rfl
      | succ n ih => exact fun h => by rw [ordN_same (h n (by omega))]; exact ih fun j hj => h j (by omega)
    rw [this n h] at h1
    omega
  · exfalso
    have : ∀ n, (∀ j, j < n → cf xs j = cf ys j) → ordN xs ys n = 0 := fun n => by
      induction n with
      | zero => exact fun _ => rfl
      | succ n ih => exact fun h => by rw [ordN_same (h n (by omega))]; exact ih fun j hj => h j (by omega)
    rw [this n h] at h1
    omega
theorem turns_eq {β : Type} (B : Nat) (p : β → Prop) : Turns B fun s (_ : World) => p s := ⟨fun _ _ _ h => h, fun _ _ _ _ _ h _ _ _ => h⟩

set_option maxRecDepth 100000 in
set_option maxHeartbeats 4000000 in
theorem gOrder (A B : Option Addr) (n c m d : Nat) (xs ys : List Int) (w : World) (h : ISl w A n c xs) (h' : ISl w B m d ys) (hn : n ≤ 17592186044416) :
    Calls Tryz.prog 36 #[.slice A n c, .slice B m d] w fun e w' => e = .returned (.int .i64 (ordI xs ys)) ∧ Below w.heap.size w w' ∧ w.drawn ≤ w'.drawn := by
  have hcl := h.le
  have hcm := h.max
  have hcl' := h'.le
  have hcm' := h'.max
  have CM := Lib.hid (fun (x y : Int) (W : World) => fCmpInt x y W)
  have H := Lib.hid h
  have H' := Lib.hid h'
  clear h h'
  by_cases hnm : n = m
  · subst hnm
    have hne : ((n : Int) != (n : Int)) = false := by simp
    have EO : Hid (ordI xs ys = ordN xs ys n) := Lib.hid (by
      unfold ordI
      rw [if_pos (by rw [← H.out.len, ← H'.out.len]), ← H.out.len])
    refine (callsIn_wide (n := 3)).1 ?_
    refine callsIn_of_wp_marks Tryz.func36 rfl trivial ?_ rfl
    simp only [Tryz.ntmps36, List.size_toArray, List.length_cons, List.length_nil, Nat.reduceAdd, Nat.reduceSub, Array.replicate_succ, Array.replicate_zero, List.push_toArray, List.append_toArray, List.nil_append, List.cons_append]
    gi_wp2_with (first
      | (refine ⟨trivial, ?_⟩; gi_at_call 64; refine (backI_in Fence.wide _ trivial rfl _ _ _ _).mono ?_; rintro e w1 ⟨rfl, rfl⟩))
    have bx := ((Boxed.new w 22 (.slice B n d)).alloc (.cells #[.int .i64 0] 3)).alloc (.cells #[.slice A n c] 22)
    have br := (Boxed.new (w.alloc (.cells #[.slice B n d] 22)) 3 (.int .i64 0)).alloc (.cells #[.slice A n c] 22)
    have bs := Boxed.new ((w.alloc (.cells #[.slice B n d] 22)).alloc (.cells #[.int .i64 0] 3)) 22 (.slice A n c)
    simp only [World.size_alloc] at br bs
    have hB0 : Below w.heap.size w (((w.alloc (.cells #[.slice B n d] 22)).alloc (.cells #[.int .i64 0] 3)).alloc (.cells #[.slice A n c] 22)) := (((Below.refl _ w).alloc (Nat.le_refl _) _).alloc (by simp) _).alloc (by simp; omega) _
    have hsz : (((w.alloc (.cells #[.slice B n d] 22)).alloc (.cells #[.int .i64 0] 3)).alloc (.cells #[.slice A n c] 22)).heap.size = w.heap.size + 3 := by simp
    have hdr : w.drawn ≤ (((w.alloc (.cells #[.slice B n d] 22)).alloc (.cells #[.int .i64 0] 3)).alloc (.cells #[.slice A n c] 22)).drawn := Nat.le_refl _
    generalize (((w.alloc (.cells #[.slice B n d] 22)).alloc (.cells #[.int .i64 0] 3)).alloc (.cells #[.slice A n c] 22)) = W3 at *
    have hI : n = 0 ∨ ∃ b off, A = some ⟨b, off, none⟩ ∧ b < w.heap.size ∧ ∀ j, j < n → W3.cell? ⟨b, off + j, none⟩ = some (.int .i64 (cf xs j)) := by
      rcases Nat.eq_zero_or_pos n with h0 | h0
      · exact .inl h0
      · obtain ⟨b, o, rfl, hbl, hc⟩ := H.out.cf_ h0
        exact .inr ⟨b, o, rfl, hbl, fun j hj => (hB0.cell (p := ⟨b, o + j, none⟩) hbl).trans (hc j hj)⟩
    refine wpIn_rangeFunc_turns rfl (by omega) (gf := 102) (lb := #[.pointer (some ⟨w.heap.size + 1 + 1, 0, none⟩)]) rfl trivial (enters_of Tryz.func102 (by kernel_rfl) rfl)
      (encs := downE xs n) (N := n) (fun l J Jx W hW hY h0 => back_down xs Fence.wide _ trivial rfl (by omega) (w.heap.size + 1 + 1) w.heap.size n c A hn W3 (by omega) (by omega) bs.cell hI l J Jx W hW hY h0) KpB.trans (KpB.put (w := W3) (by omega) (by omega)) (fun _ => rfl)
      (fun k W => ((W.cell? ⟨w.heap.size + 1, 0, none⟩ = some (.int .i64 0) ∧ W.frozen? ⟨w.heap.size + 1, 0, none⟩ = false) ∧ W.cell? ⟨w.heap.size, 0, none⟩ = some (.slice B n d)) ∧ (Below w.heap.size w W ∧ (w.drawn ≤ W.drawn ∧ ∀ j, n - k ≤ j → j < n → cf xs j = cf ys j)))
      (fun _ W => W.cell? ⟨w.heap.size + 1, 0, none⟩ = some (.int .i64 (ordN xs ys n)) ∧ (Below w.heap.size w W ∧ w.drawn ≤ W.drawn))
      (.and (OwnFrom.turns (Own.from (fun s A B row hs hg hr => ⟨⟨cell_kept hs.1.1 hg hr, (frozen_kept hs.1.1 hg hr).trans hs.1.2⟩, cell_kept hs.2 hg hr⟩) _)) (.and (OwnFrom.turns (ownFrom_below (Nat.le_refl _) (by omega))) (.and (turns_drawn _ _) (turns_eq _ _))))
      (.and (OwnFrom.turns (Own.from (fun s A B row hs hg hr => cell_kept hs hg hr) _)) (.and (OwnFrom.turns (ownFrom_below (Nat.le_refl _) (by omega))) (turns_drawn _ _)))
      ⟨⟨⟨br.cell, br.frozen⟩, bx.cell⟩, hB0, hdr, fun j h1 h2 => by omega⟩
      (fun k => { tmps := #[.slice A n c, .slice B n d, undef, .pointer (some ⟨w.heap.size, 0, none⟩), .pointer (some ⟨w.heap.size + 1, 0, none⟩), .int .i64 ((n - 1 - k : Nat) : Int), .int .i64 (cf xs (n - 1 - k)), .slice A n c, .int .i64 n, .slice B n d, .int .i64 n, .bool false, undef, undef, undef, undef, undef, .slice A n c, .func (.func 102) #[] #[.pointer (some ⟨w.heap.size + 1 + 1, 0, none⟩)], .int .i64 ((n - 1 - k : Nat) : Int), .int .i64 (cf xs (n - 1 - k)), undef, undef, undef, undef, undef, undef, undef, undef, undef, undef, undef, undef], defers := [] }) ?assign ?body ?done ?stop
    case assign =>
      intro l x W K hK
      unfold downE
      gi_wp2
      exact hK
    case body =>
      rintro l k W ⟨⟨⟨hc, hf⟩, hb⟩, hB, hd, he⟩ hk
      have hd3 : 1 ≤ 3 - 1 - 1 := by omega
      have hmx : Tryz.prog.follows .mixedOrders = true := by kernel_rfl
      obtain ⟨bB, oB, rfl, hbB, hcB⟩ := H'.out.cf_ (by omega)
      obtain ⟨i, hi⟩ : ∃ i, n - 1 - k = i := ⟨_, rfl⟩
      rw [hi]
      have hci := (hB.cell (p := ⟨bB, oB + i, none⟩) hbB).trans (hcB i (by omega))
      have i1 : (0 : Int) ≤ (i : Int) := by omega
      have i2 : (i : Int) < (n : Int) := by omega
      have AT := Lib.hid (fun hn : cf xs i ≠ cf ys i => ordN_at n (by omega) (fun j h1 h2 => he j (by omega) h2) hn)
      have HE := Lib.hid he
      have HI := Lib.hid hi
      have hbBr := Nat.lt_of_lt_of_le hbB hB.size
      by_cases hxy : cf xs i = cf ys i
      · have hne2 : (cf xs i != cf ys i) = false := by simp [hxy]
        have HXY := Lib.hid (fun j (e : j = i) => (show cf xs j = cf ys j by rw [e]; exact hxy))
        generalize cf ys i = y at *
        generalize cf xs i = x at *
        clear he hi hI hcB AT hxy bs bx br
        gi_wp2
        exact ⟨(KeepsOthers.refl W).from _, KpB.refl _ _ W, ⟨⟨hc, hf⟩, hb⟩, hB, hd, fun j h1 h2 => by
          have := HI.out
          by_cases e : j = i
          · exact HXY.out j e
          · exact HE.out j (by omega) h2⟩
      · have hne2 : (cf xs i != cf ys i) = true := by simp [hxy]
        have EQ := AT.out hxy
        rw [← cmpZ_lib] at EQ
        have HEQ := Lib.hid EQ
        have CC := Lib.hid (fun W => CM.out (cf xs i) (cf ys i) W)
        generalize cf ys i = y at *
        generalize cf xs i = x at *
        generalize Lib.compareInt x y = r at *
        clear he hi hI hcB AT EQ hxy CM bs bx br
        gi_wp2_with (first
          | (refine ⟨trivial, ?_⟩; gi_at_call 63; refine (CallsIn.inRound l (callsIn_wide.2 (CC.out _))).mono ?_; rintro e w1 ⟨rfl, rfl⟩))
        exact ⟨(KeepsOthers.setCell _ _ _).from _, by rw [HEQ.out]; exact World.cell?_setCell_same' _ _ _ (by rw [hc]; rfl), hB.setCell (p := ⟨w.heap.size + 1, 0, none⟩) (Nat.le_succ _) _, hd⟩
    case done =>
      rintro D W hD ⟨⟨⟨hc, hf⟩, hb⟩, hB, hd, he⟩ hK
      have E0 := Lib.hid (ordN_all (xs := xs) (ys := ys) (n := n) fun j hj => he j (by omega) hj)
      clear he
      gi_wp2
      have hK2 := (KeepsOthers.setCell W ⟨w.heap.size + 1, 0, none⟩ (.int .i64 0)).same D _ hK rfl
      refine ⟨by simp, .inl ⟨_, _, rfl, run_takeDeferred hK2, ?_⟩⟩
      refine ⟨_, results_order _ _ rfl (cell_kept (World.cell?_setCell_same' _ _ _ (by rw [hc]; rfl)) (grownBy_putObj' _ D (.deferred none)) (fun r e => by cases e; exact ⟨_, hK2, rfl⟩)), by rw [EO.out, E0.out], ?_, hd⟩
      exact (hB.setCell (p := ⟨w.heap.size + 1, 0, none⟩) (Nat.le_succ _) _).trans (belowK_b (w := w) (Nat.le_refl _) _ D _ _ (by omega) hK2 rfl rfl)
    case stop =>
      rintro D k W hD ⟨hc, hB, hd⟩ hK
      gi_wp2
      refine ⟨by simp, .inl ⟨_, _, rfl, run_takeDeferred hK, ?_⟩⟩
      refine ⟨_, results_order _ _ rfl (cell_kept hc (grownBy_putObj' _ D (.deferred none)) (fun r e => by cases e; exact ⟨_, hK, rfl⟩)), by rw [EO.out], ?_, hd⟩
      exact hB.trans (belowK_b (w := w) (Nat.le_refl _) _ D _ _ (by omega) hK rfl rfl)
  · have hne : ((n : Int) != (m : Int)) = true := by simp; omega
    have EO : Hid (ordI xs ys = cmpZ (n : Int) (m : Int)) := Lib.hid (by
      unfold ordI
      rw [if_neg (by rw [← H.out.len, ← H'.out.len]; exact hnm), ← H.out.len, ← H'.out.len])
    refine (callsIn_wide (n := 3)).1 ?_
    refine callsIn_of_wp_marks Tryz.func36 rfl trivial ?_ rfl
    simp only [Tryz.ntmps36, List.size_toArray, List.length_cons, List.length_nil, Nat.reduceAdd, Nat.reduceSub, Array.replicate_succ, Array.replicate_zero, List.push_toArray, List.append_toArray, List.nil_append, List.cons_append]
    gi_wp2_with (first
      | (refine ⟨trivial, ?_⟩; gi_at_call 63; refine CallsIn.mono (callsIn_wide.2 (CM.out _ _ _)) ?_; rintro e w1 ⟨rfl, rfl⟩))
    exact ⟨_, results_order _ _ rfl (by simp; rfl), by rw [EO.out, cmpZ_lib], ((Below.refl _ _).alloc (Nat.le_refl _) _).alloc (by simp) _, Nat.le_refl _⟩
end Go.Proofs.YtnkhhndjbanmnaaGreatDoor

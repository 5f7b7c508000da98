/- Texts joined, in their order: FaThe, FaAw, FaRef, FaGr, BerH. -/
import Derived.StillTailTactics
import Derived.Handy
import Derived.Test.YtnkhhndjbanmnaaGreatDoorMn40
import Derived.Test.YtnkhhndjbanmnaaGreatDoorMn41

/- The law's own small functions of layer 9 by contract, and ffac's answers named by what it is given. -/
namespace Go.Proofs.YtnkhhndjbanmnaaGreatDoor
open Go.RowKit Go.Shelf Go.Lib

/-! Factors, named. -/
noncomputable def facL (p : Int) (f : Ser) : PL := theP fun L => eff p f = 0 ∧ FacN p (monL p f) L
theorem eff_pr {p : Int} {f : Ser} (h : eff p f = 0) : Pr p := by
  rcases eff_cases p f with ⟨a, _⟩ | ⟨e, _⟩ | ⟨e, _⟩ | ⟨e, _⟩
  · exact a
  all_goals rw [h] at e; exact absurd e (by decide)
theorem facL_is {p : Int} {f : Ser} {L : PL} (h : eff p f = 0) (k : FacN p (monL p f) L) : facL p f = L :=
  theP_is ⟨h, k⟩ fun _ k2 => k2.2.uniq (eff_pr h) k
theorem facL_no {p : Int} {f : Ser} (h : eff p f ≠ 0) : facL p f = [] := theP_none fun _ ⟨h1, _⟩ => h h1
theorem gFacs (A D : Option Addr) (n c nd cd : Nat) (xs ds : List Int) (p : Int) (w : World) (hT : TabAt w) (h : ISl w A n c xs) (hD : ISl w D nd cd ds) (ip : In64 p) (hn : n ≤ 17592186044416) :
    Calls Tryz.prog 12 #[.slice A n c, .int .i64 p, .slice D nd cd] w fun e w' => ∃ A' k c' Z, e = .returned (.tuple #[.slice A' k c', .int .i64 (eff p (cf xs))]) ∧ PRd w' A' k c' Z ∧ pls Z = facL p (cf xs) ∧ (eff p (cf xs) = 0 → FacN p (monL p (cf xs)) (facL p (cf xs))) ∧ k ≤ 100 ∧ Below w.heap.size w w' := by
  by_cases h0 : eff p (cf xs) = 0
  · refine (gFacsOk A D n c nd cd xs ds p w hT h hD ip hn h0).mono ?_
    rintro e w' ⟨A', k, c', Z, rfl, h1, h2, h3⟩
    have e9 := facL_is h0 h2
    obtain ⟨hp, _, hm, hl⟩ := eff_mn h0
    have := h2.few hp hm
    rw [pls_length, ← h1.len] at this
    exact ⟨A', k, c', Z, by rw [h0], h1, e9.symm, fun _ => e9 ▸ h2, by omega, h3⟩
  · refine (gFacsNo A D n c nd cd xs p w hT h ip hn h0).mono ?_
    rintro e w' ⟨rfl, h1⟩
    exact ⟨none, 0, 0, [], rfl, PRd.nil _, (facL_no h0).symm, fun h => absurd h h0, by decide, h1⟩
theorem ptyRF : PTy 36 42 := ⟨Tryz.underlying36, by kernel_rfl⟩

theorem POw.oldF {T : TypeId} {w wr : World} {v : Value} {Z : List Pt} {A : Option Addr} {n c : Nat} {xs : List Int} (h : POw T wr w.heap.size v Z) (hi : ISl w A n c xs) : ApO A xs v.ownBlock := by
  rcases hi.rd.2 with e | ⟨b, o, rfl, hlt, _⟩
  · exact .inl e
  · exact h.apart fun b' o' s' e => .inr (by
      simp only [Option.some.injEq, Addr.mk.injEq] at e
      omega)

set_option maxRecDepth 100000 in
set_option maxHeartbeats 8000000 in
theorem lTheirs9 (A : Option Addr) (n c : Nat) (Z : List Pt) (w : World) (h : PRd w A n c Z) (hn : n ≤ 100000) :
    Calls Tryz.prog 19 #[.slice A n c] w fun e w' => ∃ A' c', e = .returned (.slice A' n c') ∧ PRd w' A' n c' Z ∧ Below w.heap.size w w' := by
  have hle := h.le
  have hmx := h.max
  have H := Lib.hid h
  have ZL := Lib.hid h.len
  clear h
  go_enter Tryz.func19, Tryz.ntmps19
  go_wp2_with fail
  go_loopw [3, 4] (fun v i wr => ∃ j : Nat, j ≤ n ∧ i = .int .i64 (j : Int) ∧ Hid (POw 42 wr w.heap.size v (Z.take j)) ∧ Hid (Below w.heap.size w wr)) (fun _ i _ => n - (intOf i).toNat)
  case atStart => exact ⟨0, Nat.zero_le _, rfl, Lib.hid (by rw [List.take_zero]; exact POw.nil _ _ _), Lib.hid (Below.refl _ _)⟩
  case round =>
    obtain ⟨j, hj, rfl, hO, hb⟩ := hrel
    by_cases hlt : j < n
    · have hlz : j < Z.length := by rw [← ZL.out]; exact hlt
      obtain ⟨b, o, rfl, hbl, hc⟩ := (H.out.below hb.out).open_ (by omega)
      obtain ⟨c0, c1⟩ := hc j hlz
      have zin0 := H.out.in_ _ (List.getElem_mem hlz)
      have zin := zin0.below hb.out
      have zap := hO.out.oldF zin0
      have TK := Lib.hid (List.take_succ_eq_append_getElem hlz)
      have LT : (Z.take j).length ≤ 1000000 := by rw [List.length_take]; omega
      obtain ⟨z, hz⟩ : ∃ z, Z[j] = z := ⟨_, rfl⟩
      rw [hz] at c0 c1 zin zap TK
      obtain ⟨zA, zn, zc, zx, zN⟩ := z
      simp only [Pt.sl, Pt.nv] at c0 c1
      have hsz := hb.out.size
      have HOa := Lib.hid (show POw 42 ((wr.alloc (.cells #[.slice zA zn zc, .int .i64 (zN : Int)] 42)).drew) w.heap.size u3 (Z.take j) from (hO.out.alloc _).below (Below.drew (Below.refl _ _)))
      have HOb := Lib.hid (show POw 42 (wr.drew.alloc (.cells #[.slice zA zn zc, .int .i64 (zN : Int)] 42)) w.heap.size u3 (Z.take j) from (hO.out.below (Below.drew (Below.refl _ _))).alloc _)
      have HIa := Lib.hid (show ISl ((wr.alloc (.cells #[.slice zA zn zc, .int .i64 (zN : Int)] 42)).drew) zA zn zc zx from (isl_alloc zin _).below (Below.drew (Below.refl _ _)))
      have HIb := Lib.hid (show ISl (wr.drew.alloc (.cells #[.slice zA zn zc, .int .i64 (zN : Int)] 42)) zA zn zc zx from isl_alloc (ISl.below (show ISl wr zA zn zc zx from zin) (Below.drew (Below.refl _ _))) _)
      have HBa := Lib.hid (show Below w.heap.size w ((wr.alloc (.cells #[.slice zA zn zc, .int .i64 (zN : Int)] 42)).drew) from (hb.out.alloc hsz _).drew)
      have HBb := Lib.hid (show Below w.heap.size w (wr.drew.alloc (.cells #[.slice zA zn zc, .int .i64 (zN : Int)] 42)) from (hb.out.drew.alloc hsz _))
      have ZAP := Lib.hid zap
      have i1 : (0 : Int) ≤ (j : Int) := by omega
      have i2 : (j : Int) < (n : Int) := by omega
      clear hc zin zin0 zap hz hlz
      go_wp2_with fail
      go_region_law (first
        | (refine pstep_app ptyRF _ (by rfl) (.tmp 11) (.tmp 23) (by rfl) w.heap.size _ _ (by rfl) HOa.out wr.heap.size 1 (by rfl) ⟨zA, zn, zc, zx, zN⟩ (two_cell0 wr _ _ _) (two_cell1 wr _ _ _) HIa.out ZAP.out LT HBa.out.size ?_; intro v9 w9 ho9 hb9 _; have HB9 := Lib.hid (HBa.out.trans hb9))
        | (refine pstep_app ptyRF _ (by rfl) (.tmp 11) (.tmp 23) (by rfl) w.heap.size _ _ (by rfl) HOb.out wr.heap.size 1 (by rfl) ⟨zA, zn, zc, zx, zN⟩ (two_cell0 wr.drew _ _ _) (two_cell1 wr.drew _ _ _) HIb.out ZAP.out LT HBb.out.size ?_; intro v9 w9 ho9 hb9 _; have HB9 := Lib.hid (HBb.out.trans hb9))
        | fail)
      all_goals
        rw [← TK.out] at ho9
        have HO9 := Lib.hid ho9
        clear ho9 hb9
        go_wp2_with fail
        exact ⟨⟨j + 1, by omega, by go_num, HO9, HB9⟩, by simp [intOf]; omega⟩
    · obtain rfl : j = n := by omega
      have hO2 := hO.out
      rw [List.take_of_length_le (by rw [ZL.out]; exact Nat.le_refl _)] at hO2
      obtain ⟨A', c', rfl, hrd, _⟩ := hO2.rd
      rw [← ZL.out] at hrd ⊢
      have RD := Lib.hid hrd
      clear hO2 hrd
      go_wp2_with fail
      go_ret
      exact ⟨A', c', rfl, RD.out, hb.out⟩

/-! Alike. -/
set_option maxRecDepth 100000 in
set_option maxHeartbeats 2000000 in
theorem rSameQ9 (A B : Option Addr) (n c n' c' : Nat) (xs ys : List Int) (w : World) (h : ISl w A n c xs) (h' : ISl w B n' c' ys) (e : xs = ys) :
    Calls Tryz.prog 24 #[.slice A n c, .slice B n' c'] w fun e w' => e = .returned (.bool true) ∧ ∃ q, w' = w.drewN q := by
  subst e
  have hnn : n' = n := by rw [h.len, h'.len]
  subst hnn
  have hle := h.le
  have hmx := h.max
  have H := Lib.hid h
  have H' := Lib.hid h'
  clear h h'
  go_enter Tryz.func24, Tryz.ntmps24
  go_wp2
  go_loopw [5] (fun i wr => ∃ k q : Nat, k ≤ n' ∧ i = .int .i64 k ∧ wr = w.drewN q) (fun i _ => n' - (intOf i).toNat)
  case atStart => exact ⟨0, 0, Nat.zero_le _, rfl, rfl⟩
  case round =>
    obtain ⟨k, q, hk, rfl, rfl⟩ := hrel
    by_cases hlt : k < n'
    · obtain ⟨b, o, rfl, hl1, hca⟩ := H.out.cf_ (by omega)
      obtain ⟨b', o', rfl, hl2, hcb⟩ := H'.out.cf_ (by omega)
      have h1 := hca k hlt
      have h2 := hcb k hlt
      generalize cf xs k = x at *
      have i1 : (0 : Int) ≤ (k : Int) := by omega
      have i2 : (k : Int) < (n' : Int) := by omega
      clear hca hcb
      go_wp2
      go_quiet (fail)
      go_wp2
      go_roundw
      case rel => exact ⟨k + 1, _, by omega, by go_num, rfl⟩
      case measure => simp [intOf]; omega
    · obtain rfl : k = n' := by omega
      go_wp2
      go_ret
      exact ⟨rfl, q, rfl⟩
theorem PIn.drewN9 {w : World} {Z : List Pt} (h : PIn w Z) (n : Nat) : PIn (w.drewN n) Z := fun z hz => (h z hz).below (ibelow_drewN (Below.refl _ _) n)
set_option maxRecDepth 100000 in
set_option maxHeartbeats 4000000 in
theorem rSame9 (A B : Option Addr) (n c n' c' : Nat) (Z Z' : List Pt) (w : World) (h : PRd w A n c Z) (h' : PRd w B n' c' Z') (e : pls Z = pls Z') :
    Calls Tryz.prog 18 #[.slice A n c, .slice B n' c'] w fun e w' => e = .returned (.bool true) ∧ Below w.heap.size w w' := by
  have hll : Z.length = Z'.length := by rw [← pls_length Z, e, pls_length]
  have hnn : n' = n := by rw [h.len, h'.len, hll]
  subst hnn
  have hle := h.le
  have hmx := h.max
  have hle' := h'.le
  have hmx' := h'.max
  have H := Lib.hid h
  have H' := Lib.hid h'
  have ZL := Lib.hid h.len
  have ZL' := Lib.hid h'.len
  have EE : Hid (∀ k (h1 : k < Z.length) (h2 : k < Z'.length), Z[k].xs = Z'[k].xs ∧ Z[k].N = Z'[k].N) := Lib.hid (fun k h1 h2 => by
    have e1 : (pls Z)[k]? = (pls Z')[k]? := by rw [e]
    unfold pls at e1
    rw [List.getElem?_map, List.getElem?_map, List.getElem?_eq_getElem h1, List.getElem?_eq_getElem h2] at e1
    simp only [Option.map_some, Option.some.injEq, Pt.pl, Prod.mk.injEq] at e1
    exact e1)
  clear h h' e hll
  go_enter Tryz.func18, Tryz.ntmps18
  go_wp2
  go_loopw [5] (fun i wr => ∃ k q : Nat, k ≤ n' ∧ i = .int .i64 k ∧ wr = w.drewN q) (fun i _ => n' - (intOf i).toNat)
  case atStart => exact ⟨0, 0, Nat.zero_le _, rfl, rfl⟩
  case round =>
    obtain ⟨k, q, hk, rfl, hw⟩ := hrel
    have HW := Lib.hid hw
    by_cases hlt : k < n'
    · have k1 : k < Z.length := by rw [← ZL.out]; exact hlt
      have k2 : k < Z'.length := by rw [← ZL'.out]; exact hlt
      obtain ⟨b, o, rfl, hl1, hca⟩ := H.out.open_ (by omega)
      obtain ⟨b', o', rfl, hl2, hcb⟩ := H'.out.open_ (by omega)
      obtain ⟨h1, h3⟩ := hca k k1
      obtain ⟨h2, h4⟩ := hcb k k2
      have z1 := H.out.in_ _ (List.getElem_mem k1)
      have z2 := H'.out.in_ _ (List.getElem_mem k2)
      obtain ⟨e1, e2⟩ := EE.out k k1 k2
      obtain ⟨z, hz⟩ : ∃ z, Z[k] = z := ⟨_, rfl⟩
      obtain ⟨z', hz'⟩ : ∃ z, Z'[k] = z := ⟨_, rfl⟩
      rw [hz] at h1 h3 z1 e1 e2
      rw [hz'] at h2 h4 z2 e1 e2
      obtain ⟨zA, zn, zc, zx, zN⟩ := z
      obtain ⟨yA, yn, yc, yx, yN⟩ := z'
      have e1' : zx = yx := e1
      have e2' : zN = yN := e2
      subst e1' e2'
      simp only [Pt.sl, Pt.nv] at h1 h2 h3 h4
      have g1 : wr.cell? ⟨b, o + k * 2, none⟩ = some (.slice zA zn zc) := by rw [hw]; exact h1
      have g2 : wr.cell? ⟨b', o' + k * 2, none⟩ = some (.slice yA yn yc) := by rw [hw]; exact h2
      have g3 : wr.cell? ⟨b, o + k * 2 + 1, none⟩ = some (.int .i64 (zN : Int)) := by rw [hw]; exact h3
      have g4 : wr.cell? ⟨b', o' + k * 2 + 1, none⟩ = some (.int .i64 (zN : Int)) := by rw [hw]; exact h4
      have hbw : Below w.heap.size w wr := hw ▸ ibelow_drewN (Below.refl _ _) q
      have S1 := Lib.hid (fun r => quietD (rSameQ9 zA yA zn zc yn yc zx zx (wr.drewN r) (ISl.below (show ISl w zA zn zc zx from z1) (ibelow_drewN hbw r)) (ISl.below (show ISl w yA yn yc zx from z2) (ibelow_drewN hbw r)) rfl))
      have i1 : (0 : Int) ≤ (k : Int) := by omega
      have i2 : (k : Int) < (n' : Int) := by omega
      clear hca hcb z1 z2 e1 e2 hz hz' k1 k2 h1 h2 h3 h4 hw hbw
      go_wp2
      go_quiet ((go_at_call 24; with_reducible exact S1.out _))
      go_wp2
      go_roundw
      case rel => exact ⟨k + 1, _, by omega, by go_num, by rw [HW.out, World.drewN_drewN]⟩
      case measure => simp [intOf]; omega
    · obtain rfl : k = n' := by omega
      have HB : Hid (Below w.heap.size w wr) := Lib.hid (by rw [hw]; exact ibelow_drewN (Below.refl _ _) q)
      clear hw
      go_wp2
      go_ret
      exact ⟨rfl, HB.out⟩


theorem isl_lit (w : World) (xs : List Int) (g n : Nat) (hg : g = w.heap.size) (hn : n = xs.length) (hf : Fi xs) (hl : xs.length ≤ 1000) : ISl (w.alloc (.cells (xs.map iv).toArray 3)) (some ⟨g, 0, none⟩) n n xs := by
  subst hg hn
  exact (iblk_list w xs hf).sl (by omega)
set_option maxRecDepth 100000 in
set_option maxHeartbeats 400000 in
theorem lTimes9 (A B : Option Addr) (n c n' c' : Nat) (xs ys : List Int) (p : Int) (w : World) (hT : TabAt w) (h : ISl w A n c xs) (h' : ISl w B n' c' ys) (ip : In64 p) (hn : n ≤ 100000000) (hn' : n' ≤ 100000000) :
    Calls Tryz.prog 28 #[.slice A n c, .slice B n' c', .int .i64 p] w fun e w' => ∃ C m d, e = .returned (.slice C m d) ∧ Got w C m d (polL p (Ser.mul (cf xs) (cf ys))) (n + n') w' := by
  have CC := Lib.hid (cMul A B n c n' c' xs ys p w hT h h' ip hn hn')
  generalize chk p = u at *
  clear h h' ip hn hn' hT
  go_enter Tryz.func28, Tryz.ntmps28
  go_wp2_with (go_at_call 50; (with_reducible refine CC.out.mono ?_); rintro e w' ⟨C, m, d, rfl, hg⟩)
  go_ret
  exact ⟨C, m, d, rfl, hg⟩

end Go.Proofs.YtnkhhndjbanmnaaGreatDoor

/- The document's examples of layer 9 by contract. -/
namespace Go.Proofs.YtnkhhndjbanmnaaGreatDoor
open Go.RowKit Go.Shelf Go.Lib

theorem in64_s {x : Int} (h : -100 ≤ x ∧ x ≤ 100) : In64 x := by unfold In64; omega
theorem fi_s {xs : List Int} (h : xs.all (fun x => decide (0 ≤ x ∧ x < 10)) = true) : Fi xs := fun x hx => by
  have := List.all_eq_true.1 h x hx
  simp only [decide_eq_true_eq] at this
  unfold In64; omega
theorem eff_mnw {p : Int} {xs : List Int} (hp : Pr p) (h : Mn p xs) (hl : xs.length ≤ 65) : eff p (cf xs) = 0 := eff_yes hp h.nz (by rw [monL_self hp h]; exact hl)
theorem aFacs (A : Option Addr) (c : Nat) (w : World) (hT : TabAt w) (h : ISl w A 3 c [1, 0, 1]) :
    Calls Tryz.prog 12 #[.slice A 3 c, .int .i64 5, nilv] w fun e w' => ∃ A' c' Z, e = .returned (.tuple #[.slice A' 2 c', .int .i64 0]) ∧ PRd w' A' 2 c' Z ∧ pls Z = [([2, 1], 1), ([3, 1], 1)] ∧ Below w.heap.size w w' := by
  have e0 := eff_mnw pr5 mn5_w (by decide)
  refine (gFacs A none 3 c 0 0 _ [] 5 w hT h (isl_nil _) (in64_s (by decide)) (by decide)).mono ?_
  rintro e w' ⟨A', k, c', Z, rfl, h1, h2, _, _, h3⟩
  rw [facL_is e0 (by rw [monL_self pr5 mn5_w]; exact ex5_fac)] at h2
  obtain rfl : k = 2 := by rw [h1.len, ← pls_length, h2]; rfl
  exact ⟨A', c', Z, by rw [e0], h1, h2, h3⟩
theorem aIrr (A : Option Addr) (c : Nat) (w : World) (hT : TabAt w) (h : ISl w A 3 c [1, 0, 1]) :
    Calls Tryz.prog 13 #[.slice A 3 c, .int .i64 3] w fun e w' => e = .returned (.tuple #[.bool true, .int .i64 0]) ∧ Below w.heap.size w w' := by
  have e0 := eff_mnw prr3 mn3_w (by decide)
  refine (gIrr A 3 c _ 3 w hT h (in64_s (by decide)) (by decide)).mono ?_
  rintro e w' ⟨rfl, h1⟩
  rw [e0, (irrB_iff e0).2 (by rw [monL_self prr3 mn3_w]; exact ex3_irr)]
  exact ⟨rfl, h1⟩
theorem prd_twoF (w : World) (g1 g2 g : Nat) (hg : g = w.heap.size) (xs ys : List Int) (a b : Nat) (h1 : ISl w (some ⟨g1, 0, none⟩) 2 2 xs) (h2 : ISl w (some ⟨g2, 0, none⟩) 2 2 ys) :
    PRd (w.alloc (.cells #[.slice (some ⟨g1, 0, none⟩) 2 2, .int .i64 (a : Int), .slice (some ⟨g2, 0, none⟩) 2 2, .int .i64 (b : Int)] 42)) (some ⟨g, 0, none⟩) 2 2 [⟨some ⟨g1, 0, none⟩, 2, 2, xs, a⟩, ⟨some ⟨g2, 0, none⟩, 2, 2, ys, b⟩] := by
  subst hg
  refine ⟨rfl, Nat.le_refl _, by decide, fun z hz => ?_, .inr ⟨w.heap.size, 0, rfl, by simp, fun i hi => ?_⟩⟩
  · simp only [List.mem_cons, List.not_mem_nil, or_false] at hz
    rcases hz with rfl | rfl
    · exact isl_alloc h1 _
    · exact isl_alloc h2 _
  · match i, hi with
    | 0, _ => exact ⟨by simp [Pt.sl], by simp [Pt.nv]⟩
    | 1, _ => exact ⟨by simp [Pt.sl], by simp [Pt.nv]⟩

set_option maxRecDepth 100000 in
set_option maxHeartbeats 4000000 in
theorem awake09 (w : World) (hT : TabAt w) : Calls Tryz.prog 10 #[] w fun e w' => e = .returned (.bool true) ∧ Below w.heap.size w w' := by
  have HT := Lib.hid hT
  clear hT
  have hA := Lib.hid (isl_lit w [1, 0, 1] w.heap.size 3 rfl rfl (fi_s (by decide)) (by decide))
  go_enter Tryz.func10, Tryz.ntmps10
  go_wp2_with fail
  refine (aFacs _ 3 _ (HT.out.below (bel_al _ _)) hA.out).mono ?_
  rintro e w1 ⟨A', c', Z, rfl, hrd, hpl, hb1⟩
  have HB1 := Lib.hid (below_to (bel_al w _) hb1)
  have RD := Lib.hid hrd
  have PL := Lib.hid hpl
  clear hA hrd hpl hb1
  have hA := Lib.hid (isl_lit w1 [1, 0, 1] w1.heap.size 3 rfl rfl (fi_s (by decide)) (by decide))
  go_wp2_with fail
  refine (aIrr _ 3 _ (HT.out.below (below_to HB1.out (bel_al _ _))) hA.out).mono ?_
  rintro e w2 ⟨rfl, hb2⟩
  have hb12 := below_to (bel_al w1 _) hb2
  have HB2 := Lib.hid (below_to HB1.out hb12)
  have RD2 := Lib.hid (RD.out.below hb12)
  clear hA hb2 hb12
  go_wp2_with fail
  refine (lTheirs9 A' 2 c' Z w2 RD2.out (by omega)).mono ?_
  rintro e w3 ⟨A3, c3, rfl, hrd3, hb3⟩
  have HB3 := Lib.hid (below_to HB2.out hb3)
  have RD3 := Lib.hid hrd3
  clear hrd3 hb3
  have i1 := isl_lit w3 [2, 1] w3.heap.size 2 rfl rfl (fi_s (by decide)) (by decide)
  have i2 := isl_lit (w3.alloc (.cells #[iv 2, iv 1] 3)) [3, 1] (w3.heap.size + 1) 2 (by simp) rfl (fi_s (by decide)) (by decide)
  have h3 := Lib.hid (prd_twoF ((w3.alloc (.cells #[iv 2, iv 1] 3)).alloc (.cells #[iv 3, iv 1] 3)) w3.heap.size (w3.heap.size + 1) (w3.heap.size + 1 + 1) (by simp) [2, 1] [3, 1] 1 1 (isl_alloc i1 _) i2)
  have hb := Lib.hid (below_to (below_to (bel_al w3 (.cells #[iv 2, iv 1] 3)) (bel_al _ (.cells #[iv 3, iv 1] 3))) (bel_al _ (.cells #[.slice (some ⟨w3.heap.size, 0, none⟩) 2 2, .int .i64 ((1 : Nat) : Int), .slice (some ⟨w3.heap.size + 1, 0, none⟩) 2 2, .int .i64 ((1 : Nat) : Int)] 42)))
  clear i1 i2
  go_wp2_with fail
  refine (rSame9 A3 _ 2 c3 2 2 Z _ _ (RD3.out.below hb.out) h3.out (by rw [PL.out]; rfl)).mono ?_
  rintro e w4 ⟨rfl, hb4⟩
  have HB4 := Lib.hid (below_to HB3.out (below_to hb.out hb4))
  clear h3 hb hb4
  go_wp2_with fail
  go_ret
  exact ⟨rfl, HB4.out⟩
end Go.Proofs.YtnkhhndjbanmnaaGreatDoor

/- The document's small functions of layer 9 by contract: Less, Wrong. -/
namespace Go.Proofs.YtnkhhndjbanmnaaGreatDoor
open Go.RowKit Go.Shelf Go.Lib

def ltB (xs ys : List Int) : Bool := decide (ordI xs ys < 0)
theorem ltB_iff {xs ys : List Int} : ltB xs ys = true ↔ Ahd xs ys := by
  unfold ltB
  rw [decide_eq_true_iff]
  exact ahd_lt.symm
theorem ltB_len {xs ys : List Int} (h : xs.length ≠ ys.length) : ltB xs ys = decide (xs.length < ys.length) := by
  unfold ltB ordI
  rw [if_neg h]
  have := cmpZ_cases (xs.length : Int) (ys.length : Int)
  by_cases e : xs.length < ys.length
  · rw [decide_eq_true e, decide_eq_true (by omega)]
  · rw [decide_eq_false e, decide_eq_false (by omega)]
theorem ltB_at {xs ys : List Int} (h : xs.length = ys.length) {i : Nat} (hi : i < xs.length) (he : ∀ j, i < j → j < xs.length → cf xs j = cf ys j) (hne : cf xs i ≠ cf ys i) : ltB xs ys = decide (cf xs i < cf ys i) := by
  unfold ltB ordI
  rw [if_pos h, ordN_at xs.length hi he hne]
  have := cmpZ_cases (cf xs i) (cf ys i)
  by_cases e : cf xs i < cf ys i
  · rw [decide_eq_true e, decide_eq_true (by omega)]
  · rw [decide_eq_false e, decide_eq_false (by omega)]
theorem ltB_same {xs ys : List Int} (h : xs.length = ys.length) (he : ∀ j, j < xs.length → cf xs j = cf ys j) : ltB xs ys = false := by
  unfold ltB ordI
  rw [if_pos h, ordN_all he]
  decide
set_option maxRecDepth 100000 in
set_option maxHeartbeats 1000000 in
theorem rLess9 (A B : Option Addr) (n c n' c' : Nat) (xs ys : List Int) (w : World) (h : ISl w A n c xs) (h' : ISl w B n' c' ys) (hn : n ≤ 17592186044416) :
    Calls Tryz.prog 21 #[.slice A n c, .slice B n' c'] w fun e w' => e = .returned (.bool (ltB xs ys)) ∧ Below w.heap.size w w' := by
  have hle := h.le
  have hmx := h.max
  have hle' := h'.le
  have hmx' := h'.max
  have H := Lib.hid h
  have H' := Lib.hid h'
  have LX := Lib.hid h.len
  have LY := Lib.hid h'.len
  clear h h'
  by_cases hnm : n = n'
  · subst hnm
    have hne : ((n : Int) != (n : Int)) = false := by simp
    go_enter Tryz.func21, Tryz.ntmps21
    go_wp2
    go_loopw [5] (fun i wr => ∃ k q : Nat, k ≤ n ∧ i = .int .i64 ((k : Int) - 1) ∧ wr = w.drewN q ∧ Hid (∀ j, k ≤ j → j < n → cf xs j = cf ys j)) (fun i _ => (intOf i + 1).toNat)
    case atStart => exact ⟨n, 0, Nat.le_refl _, rfl, rfl, Lib.hid fun j h1 h2 => by omega⟩
    case round =>
      obtain ⟨k, q, hk, rfl, rfl, HE⟩ := hrel
      rcases Nat.eq_zero_or_pos k with rfl | hk0
      · have E0 := Lib.hid (ltB_same (xs := xs) (ys := ys) (by rw [← LX.out, ← LY.out]) fun j hj => HE.out j (Nat.zero_le _) (by rw [LX.out]; exact hj))
        rw [show ((0 : Nat) : Int) - 1 = -1 by decide]
        go_wp2
        go_ret
        exact ⟨by rw [E0.out]; rfl, ibelow_drewN (Below.refl _ _) q⟩
      · obtain ⟨t, rfl⟩ : ∃ t, k = t + 1 := ⟨k - 1, by omega⟩
        obtain ⟨b, o, rfl, hl1, hca⟩ := H.out.cf_ (by omega)
        obtain ⟨b', o', rfl, hl2, hcb⟩ := H'.out.cf_ (by omega)
        have h1 := hca t (by omega)
        have h2 := hcb t (by omega)
        rw [show ((t + 1 : Nat) : Int) - 1 = (t : Int) by omega]
        have i1 : (0 : Int) ≤ (t : Int) := by omega
        have i2 : (t : Int) < (n : Int) := by omega
        have AT := Lib.hid (fun hne => ltB_at (xs := xs) (ys := ys) (i := t) (by rw [← LX.out, ← LY.out]) (by rw [← LX.out]; omega) (fun j h3 h4 => HE.out j (by omega) (by rw [LX.out]; exact h4)) hne)
        have HJ := Lib.hid (fun e j (e2 : j = t) => (show cf xs j = cf ys j by rw [e2]; exact e))
        by_cases hxy : cf xs t = cf ys t
        · have HJ2 := Lib.hid (HJ.out hxy)
          have hne2 : (cf xs t != cf ys t) = false := by simp [hxy]
          clear AT HJ hxy hca hcb
          generalize cf xs t = x at *
          generalize cf ys t = y at *
          go_wp2
          go_quiet (fail)
          go_wp2
          go_roundw
          case rel => exact ⟨t, _, by omega, by go_num, rfl, Lib.hid fun j h3 h4 => by
            by_cases e : j = t
            · exact HJ2.out j e
            · exact HE.out j (by omega) h4⟩
          case measure => simp [intOf]
        · have E1 := Lib.hid (AT.out hxy)
          have hne2 : (cf xs t != cf ys t) = true := by simp [hxy]
          clear AT HJ hxy hca hcb
          generalize cf xs t = x at *
          generalize cf ys t = y at *
          go_wp2
          go_quiet (fail)
          go_wp2
          go_quiet (fail)
          go_wp2
          go_ret
          exact ⟨by rw [E1.out]; rfl, ibelow_drewN (ibelow_drewN (ibelow_drewN (Below.refl _ _) _) _) _⟩
  · have hne : ((n : Int) != (n' : Int)) = true := by simp; omega
    have E := Lib.hid (ltB_len (xs := xs) (ys := ys) (by rw [← LX.out, ← LY.out]; exact hnm))
    rw [E.out, ← LX.out, ← LY.out]
    clear E LX LY
    go_enter Tryz.func21, Tryz.ntmps21
    go_wp2
    go_ret
    exact ⟨rfl, Below.refl _ _⟩

theorem pol_mon_len {p : Int} {xs ys : List Int} (hp : Pr p) (hb : ¬ Ser.Bd p (cf xs) 0) (h : Pol p ys (cf xs)) : ys.length = (monL p (cf xs)).length ∧ 1 ≤ ys.length := by
  obtain ⟨m, hm⟩ := last_of hb (fini_cf p xs)
  have h1 := (mn_mon hp hm).2.1
  have h2 := pol_len (by have := hp.1; omega) h hm.1 hm.2
  omega
set_option maxRecDepth 100000 in
set_option maxHeartbeats 1000000 in
theorem rWrong9 (A : Option Addr) (n c : Nat) (xs : List Int) (p : Int) (w : World) (h : ISl w A n c xs) (ip : In64 p) (hn : n ≤ 17592186044416) :
    Calls Tryz.prog 11 #[.slice A n c, .int .i64 p] w fun e w' => e = .returned (.int .i64 (eff p (cf xs))) ∧ Below w.heap.size w w' := by
  have C := refCheck_any p w ip.1 ip.2
  rcases eff_cases p (cf xs) with ⟨hp, hb, hl, he⟩ | ⟨he, hp⟩ | ⟨he, hp, hb⟩ | ⟨he, hp, hb, hl⟩
  · rw [chk_yes (primB_yes hp)] at C
    have CC := Lib.hid C
    have PL := Lib.hid (plain_big A n c xs p w h hp.md (by omega))
    have NZ := Lib.hid (fun ys (k : Pol p ys (cf xs)) => (show ys.length ≠ 0 ∧ ys.length ≤ 65 by have := pol_mon_len hp hb k; omega))
    rw [he]
    clear C h ip hp hb hl he
    go_enter Tryz.func11, Tryz.ntmps11
    go_wp2_with (first
      | (go_at_call 30; (with_reducible refine CC.out.mono ?_); rintro e w1 ⟨rfl, rfl⟩)
      | (go_at_call 23; (with_reducible refine PL.out.mono ?_); rintro e w2 ⟨v, rfl, C2, m2, d2, ys, rfl, hi, hpl, -, -, hb2⟩; have hm : ((m2 : Int) == 0) = false := (by { have h1 := hi.len; have h2 := (NZ.out ys hpl).1; simp; omega }); have hm2 : ¬ (65 : Int) < (m2 : Int) := (by { have h1 := hi.len; have h2 := (NZ.out ys hpl).2; omega }); have HB := Lib.hid hb2; clear hi hpl hb2))
    go_ret
    exact ⟨rfl, HB.out⟩
  · rw [chk_no (primB_no hp)] at C
    have CC := Lib.hid C
    rw [he]
    clear C h ip hp he
    go_enter Tryz.func11, Tryz.ntmps11
    go_wp2_with (go_at_call 30; (with_reducible refine CC.out.mono ?_); rintro e w1 ⟨rfl, rfl⟩)
    go_ret
    exact ⟨rfl, Below.refl _ _⟩
  · rw [chk_yes (primB_yes hp)] at C
    have CC := Lib.hid C
    have PL := Lib.hid (plain_big A n c xs p w h hp.md (by omega))
    have NZ := Lib.hid (fun ys (k : Pol p ys (cf xs)) => (k.nought (by have := hp.1; omega)).2 hb)
    rw [he]
    clear C h ip hp hb he
    go_enter Tryz.func11, Tryz.ntmps11
    go_wp2_with (first
      | (go_at_call 30; (with_reducible refine CC.out.mono ?_); rintro e w1 ⟨rfl, rfl⟩)
      | (go_at_call 23; (with_reducible refine PL.out.mono ?_); rintro e w2 ⟨v, rfl, C2, m2, d2, ys, rfl, hi, hpl, -, -, hb2⟩; obtain rfl : m2 = 0 := by { have := hi.len; rw [NZ.out ys hpl] at this; exact this }; have HB := Lib.hid hb2; clear hi hpl hb2))
    go_ret
    exact ⟨rfl, HB.out⟩
  · rw [chk_yes (primB_yes hp)] at C
    have CC := Lib.hid C
    have PL := Lib.hid (plain_big A n c xs p w h hp.md (by omega))
    have NZ := Lib.hid (fun ys (k : Pol p ys (cf xs)) => (show ¬ ys.length ≤ 65 by have := pol_mon_len hp hb k; omega))
    rw [he]
    clear C h ip hp hb hl he
    go_enter Tryz.func11, Tryz.ntmps11
    go_wp2_with (first
      | (go_at_call 30; (with_reducible refine CC.out.mono ?_); rintro e w1 ⟨rfl, rfl⟩)
      | (go_at_call 23; (with_reducible refine PL.out.mono ?_); rintro e w2 ⟨v, rfl, C2, m2, d2, ys, rfl, hi, hpl, -, -, hb2⟩; have hm : ((m2 : Int) == 0) = false := (by { have h1 := hi.len; have h2 := NZ.out ys hpl; simp; omega }); have hm2 : (65 : Int) < (m2 : Int) := (by { have h1 := hi.len; have h2 := NZ.out ys hpl; omega }); have HB := Lib.hid hb2; clear hi hpl hb2))
    go_ret
    exact ⟨rfl, HB.out⟩
end Go.Proofs.YtnkhhndjbanmnaaGreatDoor

/- The law's own great of layer 9 by contract. -/
namespace Go.Proofs.YtnkhhndjbanmnaaGreatDoor
open Go.RowKit Go.Shelf Go.Lib

theorem hstep9 {w w1 w2 : World} (h : Hid (Below w.heap.size w w1)) (k : Below w1.heap.size w1 w2) : Hid (Below w.heap.size w w2) := Lib.hid (h.out.trans (k.mono h.out.size))
def grB (n : Nat) (e : Int) : Bool := decide (17 < n) || e != 0
theorem grB_no {n : Nat} {e : Int} (h : grB n e = false) : n ≤ 17 ∧ e = 0 := by
  unfold grB at h
  rw [Bool.or_eq_false_iff] at h
  refine ⟨by have := of_decide_eq_false h.1; omega, ?_⟩
  have := h.2
  simpa using this
set_option maxRecDepth 100000 in
set_option maxHeartbeats 1000000 in
theorem lGreat (A : Option Addr) (n c : Nat) (xs : List Int) (p : Int) (w : World) (h : ISl w A n c xs) (ip : In64 p) :
    Calls Tryz.prog 26 #[.slice A n c, .int .i64 p] w fun e w' => e = .returned (.bool (grB n (eff p (cf xs)))) ∧ Below w.heap.size w w' := by
  have hle := h.le
  have hmx := h.max
  by_cases hn : n ≤ 17
  · have CC := Lib.hid (rWrong9 A n c xs p w h ip (by omega))
    have e0 : grB n (eff p (cf xs)) = (eff p (cf xs) != 0) := by
      unfold grB
      rw [decide_eq_false (by omega)]; rfl
    rw [e0]
    have hn2 : ¬ (17 : Int) < (n : Int) := by omega
    generalize eff p (cf xs) = u at *
    clear h ip e0
    go_enter Tryz.func26, Tryz.ntmps26
    go_wp2_with (go_at_call 11; (with_reducible refine CC.out.mono ?_); rintro e w' ⟨rfl, hb⟩; have HB := Lib.hid hb; clear hb)
    go_ret
    exact ⟨rfl, HB.out⟩
  · have e0 : grB n (eff p (cf xs)) = true := by
      unfold grB
      rw [decide_eq_true (by omega)]; rfl
    rw [e0]
    have hn2 : (17 : Int) < (n : Int) := by omega
    clear h ip e0
    go_enter Tryz.func26, Tryz.ntmps26
    go_wp2_with fail
    go_ret
    exact ⟨rfl, Below.refl _ _⟩
end Go.Proofs.YtnkhhndjbanmnaaGreatDoor

/- x to the p-th less x: all that are x less a residue, each once. Mathematics alone. -/
namespace Go.Proofs.YtnkhhndjbanmnaaGreatDoor
open Ser (Bd)

theorem prs {P : Nat} (h : P ∈ [2, 3, 5, 7, 11, 13, 31, 61]) : Pr (P : Int) := by
  simp only [List.mem_cons, List.not_mem_nil, or_false] at h
  rcases h with rfl | rfl | rfl | rfl | rfl | rfl | rfl | rfl
  · exact pr_trial (n := 2) (by decide) (by decide) 2 (by decide) (fun e h2 h3 => (by decide : ∀ e, e < 2 → 2 ≤ e → ¬ e ∣ 2) e h3 h2)
  · exact pr_trial (n := 3) (by decide) (by decide) 2 (by decide) (fun e h2 h3 => (by decide : ∀ e, e < 2 → 2 ≤ e → ¬ e ∣ 3) e h3 h2)
  · exact pr_trial (n := 5) (by decide) (by decide) 3 (by decide) (fun e h2 h3 => (by decide : ∀ e, e < 3 → 2 ≤ e → ¬ e ∣ 5) e h3 h2)
  · exact pr_trial (n := 7) (by decide) (by decide) 3 (by decide) (fun e h2 h3 => (by decide : ∀ e, e < 3 → 2 ≤ e → ¬ e ∣ 7) e h3 h2)
  · exact pr_trial (n := 11) (by decide) (by decide) 4 (by decide) (fun e h2 h3 => (by decide : ∀ e, e < 4 → 2 ≤ e → ¬ e ∣ 11) e h3 h2)
  · exact pr_trial (n := 13) (by decide) (by decide) 4 (by decide) (fun e h2 h3 => (by decide : ∀ e, e < 4 → 2 ≤ e → ¬ e ∣ 13) e h3 h2)
  · exact pr_trial (n := 31) (by decide) (by decide) 6 (by decide) (fun e h2 h3 => (by decide : ∀ e, e < 6 → 2 ≤ e → ¬ e ∣ 31) e h3 h2)
  · exact pr_trial (n := 61) (by decide) (by decide) 8 (by decide) (fun e h2 h3 => (by decide : ∀ e, e < 8 → 2 ≤ e → ¬ e ∣ 61) e h3 h2)

/-- As the law makes it. -/
def fldL (P : Nat) : List Int := ((List.replicate (P + 1) 0).set 1 (-1)).set P 1
theorem fldL_len (P : Nat) : (fldL P).length = P + 1 := by simp [fldL]
theorem cf_fldL {P : Nat} (h2 : 2 ≤ P) (i : Nat) : cf (fldL P) i = if i = P then 1 else if i = 1 then -1 else 0 := by
  unfold fldL cf
  rw [List.getD_eq_getElem?_getD, List.getElem?_set, List.getElem?_set, List.getElem?_replicate]
  by_cases h : P = i
  · subst h; simp
  · rw [if_neg h, if_neg (Ne.symm h)]
    by_cases k : 1 = i
    · subst k
      have h3 : 0 < P := by omega
      simp [h3]
    · rw [if_neg k, if_neg (Ne.symm k)]
      split <;> simp
theorem fld_frob {P : Nat} (h2 : 2 ≤ P) : cf (fldL P) = frobS (P : Int) Xs := by
  funext i
  rw [cf_fldL h2]
  unfold frobS
  rw [show (P : Int).toNat = P from rfl, Xs, pw_mono]
  show _ = (if i = P then (1 : Int) else 0) + -1 * (if i = 1 then (1 : Int) else 0)
  by_cases h : i = P
  · rw [if_pos h, if_pos h, if_neg (by omega)]; rfl
  · rw [if_neg h, if_neg h]
    by_cases k : i = 1
    · rw [if_pos k, if_pos k]; rfl
    · rw [if_neg k, if_neg k]; rfl
theorem fld_last {P : Nat} (hp : Pr (P : Int)) (h2 : 2 ≤ P) : Last (P : Int) (cf (fldL P)) P := by
  refine ⟨?_, ?_⟩
  · have := bd_len (P : Int) (fldL P)
    rwa [fldL_len] at this
  · rw [cf_fldL h2, if_pos rfl, pr_one hp]; decide
theorem lin_cf (c : Int) : cf [c, 1] = lin Xs (-c) := by
  funext i
  show _ = (if i = 1 then (1 : Int) else 0) + (if i = 0 then -(-c) else 0)
  match i with
  | 0 => show c = _; simp
  | 1 => rfl
  | i + 2 => rw [cf_over (by simp), if_neg (by omega), if_neg (by omega)]; rfl
theorem V_prodX {p : Int} (hp : Pr p) {q : Ser} (hq : Irr p q) : ∀ n, 1 ≤ V p (prodS Xs n) q → ∃ j : Nat, j < n ∧ Ser.Eq p q (lin Xs j) := by
  intro n
  induction n with
  | zero =>
    intro h
    have : V p (prodS Xs 0) q = 0 := V_unit hp hq (mo_one hp).last
    omega
  | succ n ih =>
    intro h
    have e : V p (prodS Xs (n + 1)) q = V p (prodS Xs n) q + V p (lin Xs n) q := V_mul hp hq (mo_prodX hp n).last (mo_linX hp n).last
    by_cases k : 1 ≤ V p (lin Xs n) q
    · exact ⟨n, by omega, irr_dvd hp hq (irr_linX hp n) ((V_pos hp hq (mo_linX hp n).last).2 k)⟩
    · obtain ⟨j, h1, h2⟩ := ih (by omega)
      exact ⟨j, by omega, h2⟩
theorem lin_sameX {p : Int} {c d : Int} (h : c % p = d % p) : Ser.Eq p (lin Xs c) (lin Xs d) := fun i => by
  show ((if i = 1 then (1 : Int) else 0) + (if i = 0 then -c else 0)) % p = ((if i = 1 then (1 : Int) else 0) + (if i = 0 then -d else 0)) % p
  by_cases k : i = 0
  · rw [if_pos k, if_pos k, if_neg (by omega), Int.zero_add, Int.zero_add]
    rw [← Int.zero_sub, ← Int.zero_sub d, Int.sub_emod, h, ← Int.sub_emod]
  · rw [if_neg k, if_neg k]
theorem V_prodX_one {p : Int} (hp : Pr p) (c : Nat) (hc : (c : Int) < p) : ∀ n : Nat, (n : Int) ≤ p → V p (prodS Xs n) (lin Xs c) = if c < n then 1 else 0 := by
  intro n
  induction n with
  | zero => exact fun _ => V_unit hp (irr_linX hp c) (mo_one hp).last
  | succ n ih =>
    intro hn
    have e : V p (prodS Xs (n + 1)) (lin Xs c) = V p (prodS Xs n) (lin Xs c) + V p (lin Xs n) (lin Xs c) := V_mul hp (irr_linX hp c) (mo_prodX hp n).last (mo_linX hp n).last
    rw [e, ih (by omega)]
    by_cases k : c = n
    · subst k
      rw [V_self hp (irr_linX hp c), if_neg (by omega), if_pos (by omega)]
    · rw [V_other hp (irr_linX hp c) (irr_linX hp n) fun e2 => k ?_]
      · by_cases k2 : c < n
        · rw [if_pos k2, if_pos (by omega)]
        · rw [if_neg k2, if_neg (by omega)]
      · have := linX_apart hp ((Mult.refl p _).eqR e2)
        rw [Int.emod_eq_of_lt (a := (n : Int)) (by omega) (by omega), Int.emod_eq_of_lt (by omega) hc] at this
        omega
/-- All that are x less a residue, in order. -/
def linsL (P : Nat) : PL := (List.range P).map fun (i : Nat) => ([(i : Int), 1], 1)
theorem linsL_len (P : Nat) : (linsL P).length = P := by simp [linsL]
theorem linsL_at {P i : Nat} (h : i < (linsL P).length) : (linsL P)[i] = ([(i : Int), 1], 1) := by simp [linsL]
theorem lin_res {P : Nat} (hp : Pr (P : Int)) (j : Nat) (hj : j < P) : ∃ i : Nat, i < P ∧ (-(i : Int)) % P = (j : Int) % P ∧ ∀ k : Nat, k < P → (-(k : Int)) % P = (j : Int) % P → k = i := by
  have h2 := hp.1
  have hP : 0 < P := by omega
  rcases Nat.eq_zero_or_pos j with rfl | h0
  · refine ⟨0, hP, by simp, fun k hk h => ?_⟩
    rcases Nat.eq_zero_or_pos k with k0 | k0
    · exact k0
    · exfalso
      have e : (-(k : Int)) % P = (P : Int) - k := by
        rw [show (-(k : Int)) = ((P : Int) - k) + (P : Int) * (-1) by omega, Int.add_mul_emod_self_left, Int.emod_eq_of_lt (by omega) (by omega)]
      rw [e] at h
      simp at h
      omega
  · have e : ∀ k : Nat, 0 < k → k < P → (-(k : Int)) % P = (P : Int) - k := fun k k0 hk => by
      rw [show (-(k : Int)) = ((P : Int) - k) + (P : Int) * (-1) by omega, Int.add_mul_emod_self_left, Int.emod_eq_of_lt (by omega) (by omega)]
    have ej : (j : Int) % P = j := Int.emod_eq_of_lt (by omega) (by omega)
    refine ⟨P - j, by omega, by rw [e (P - j) (by omega) (by omega), ej]; omega, fun k hk h => ?_⟩
    rcases Nat.eq_zero_or_pos k with rfl | k0
    · exfalso
      rw [ej] at h
      simp at h
      omega
    · rw [e k k0 hk, ej] at h
      omega
theorem neg_res {P : Nat} (hp : Pr (P : Int)) (i : Nat) : ∃ j : Nat, j < P ∧ (-(i : Int)) % P = (j : Int) % P := by
  have h2 := hp.1
  have h0 := Int.emod_nonneg (-(i : Int)) (b := (P : Int)) (by omega)
  have h1 := Int.emod_lt_of_pos (-(i : Int)) (b := (P : Int)) (by omega)
  refine ⟨((-(i : Int)) % P).toNat, by omega, ?_⟩
  rw [Int.toNat_of_nonneg h0, Int.emod_emod_of_dvd _ (Int.dvd_refl _)]
theorem fld_facs {P : Nat} (hp : Pr (P : Int)) : FacN P (monL P (cf (fldL P))) (linsL P) := by
  have h2 : 2 ≤ P := by have := hp.1; omega
  have hl := fld_last hp h2
  obtain ⟨m1, _, _, m4⟩ := mn_mon hp hl
  have eV : ∀ q, Irr (P : Int) q → V P (cf (monL P (cf (fldL P)))) q = V P (prodS Xs P) q := fun q hq => by
    rw [m4 q hq, fld_frob h2]
    exact V_congr (frobX_prod hp)
  have mo : ∀ i : Nat, Mo (P : Int) (cf [(i : Int), 1]) 1 := fun i => by rw [lin_cf]; exact mo_linX hp _
  have ir : ∀ i : Nat, Irr (P : Int) (cf [(i : Int), 1]) := fun i => irr_linear hp (mo i)
  refine ⟨fun x hx => ?_, fun q hq hv => ?_, ?_⟩
  · obtain ⟨i, hi, rfl⟩ := List.mem_map.1 hx
    have hi := List.mem_range.1 hi
    refine ⟨⟨⟨fun y hy => ?_, .inr (by show (1 : Int) ≠ 0; decide)⟩, by simp, mo i⟩, by simp, ir i, Nat.le_refl _, ?_⟩
    · simp only [List.mem_cons, List.not_mem_nil, or_false] at hy
      have := hp.1
      rcases hy with rfl | rfl <;> omega
    · rw [eV _ (ir i)]
      obtain ⟨j, hj, e⟩ := neg_res hp i
      show V P (prodS Xs P) (cf [(i : Int), 1]) = 1
      rw [V_congrQ hp (ir i) (mo_prodX hp P).last (r := lin Xs j) (by rw [lin_cf]; exact lin_sameX e), V_prodX_one hp j (by omega) P (Int.le_refl _), if_pos hj]
  · rw [eV q hq] at hv
    obtain ⟨j, hj, e⟩ := V_prodX hp hq P hv
    obtain ⟨i, hi, e2, _⟩ := lin_res hp j hj
    refine ⟨_, List.mem_map.2 ⟨i, List.mem_range.2 hi, rfl⟩, ?_⟩
    rw [show cf ([(i : Int), 1], 1).1 = lin Xs (-i) from lin_cf _]
    exact e.trans (lin_sameX e2.symm)
  · unfold linsL
    rw [List.pairwise_map]
    refine List.Pairwise.imp_of_mem (R := (· < ·)) (fun {a b} _ _ h => ?_) List.pairwise_lt_range
    show ordI [(a : Int), 1] [(b : Int), 1] = -1
    unfold ordI
    rw [if_pos (show [(a : Int), 1].length = [(b : Int), 1].length from rfl)]
    show ordN [(a : Int), 1] [(b : Int), 1] 2 = -1
    rw [ordN_same (show cf [(a : Int), 1] 1 = cf [(b : Int), 1] 1 from rfl), ordN_diff (show cf [(a : Int), 1] 0 ≠ cf [(b : Int), 1] 0 by show (a : Int) ≠ b; omega)]
    have := cmpZ_cases (a : Int) (b : Int)
    show cmpZ (a : Int) (b : Int) = -1
    omega
end Go.Proofs.YtnkhhndjbanmnaaGreatDoor

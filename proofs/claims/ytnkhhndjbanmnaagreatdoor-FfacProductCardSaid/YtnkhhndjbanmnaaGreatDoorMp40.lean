/- Texts joined, in their order: RefSqS, FacT, FacU. -/
import Derived.Test.YtnkhhndjbanmnaaGreatDoorMp37
import Derived.Test.YtnkhhndjbanmnaaGreatDoorMp39

/- What is monic is its own monic one. Mathematics alone. -/
namespace Go.Proofs.YtnkhhndjbanmnaaGreatDoor
open Go.RowKit

theorem monL_self {p : Int} {xs : List Int} (hp : Pr p) (h : Mn p xs) : monL p (cf xs) = xs := by
  obtain ⟨h1, _, _, h4⟩ := mn_mon hp h.last
  exact h1.ext hp h h4
theorem Mn.nz {p : Int} {xs : List Int} (h : Mn p xs) : ¬ Ser.Bd p (cf xs) 0 := h.last.some
end Go.Proofs.YtnkhhndjbanmnaaGreatDoor

/- ffac's calls by contract: Less, Irreducible, Split. -/
namespace Go.Proofs.YtnkhhndjbanmnaaGreatDoor
open Go.RowKit Go.Shelf Go.Lib

set_option maxRecDepth 100000 in
set_option maxHeartbeats 400000 in
theorem gLess (A B : Option Addr) (n c n' c' : Nat) (xs ys : List Int) (w : World) (h : ISl w A n c xs) (h' : ISl w B n' c' ys) (hn : n ≤ 17592186044416) :
    Calls Tryz.prog 20 #[.slice A n c, .slice B n' c'] w fun e w' => e = .returned (.bool (decide (ordI xs ys < 0))) ∧ Below w.heap.size w w' := by
  have CC := Lib.hid (gOrder A B n c n' c' xs ys w h h' hn)
  generalize ordI xs ys = r at *
  clear h h' hn
  go_enter Tryz.func20, Tryz.ntmps20
  go_wp2_with (go_at_call 36; (with_reducible refine CC.out.mono ?_); rintro e w' ⟨rfl, hb, _⟩)
  go_ret
  exact ⟨rfl, hb⟩

set_option maxRecDepth 100000 in
set_option maxHeartbeats 400000 in
theorem gIsSq (A : Option Addr) (n c : Nat) (xs : List Int) (p : Int) (w : World) (hT : TabAt w) (h : ISl w A n c xs) (ip : In64 p) (hn : n ≤ 800) :
    Calls Tryz.prog 37 #[.slice A n c, .int .i64 p] w fun e w' => e = .returned (.bool (sqB p (cf xs))) ∧ Below w.heap.size w w' := by
  have CC := Lib.hid (fIsTop A n c xs p w hT h ip hn)
  generalize sqB p (cf xs) = r at *
  generalize esq p (cf xs) = u at *
  clear hT h ip hn
  go_enter Tryz.func37, Tryz.ntmps37
  go_wp2_with (go_at_call 65; (with_reducible refine CC.out.mono ?_); rintro e w' ⟨rfl, hb⟩)
  go_ret
  exact ⟨rfl, hb⟩

theorem sqB_mn {p : Int} {xs : List Int} (hp : Pr p) (h : Mn p xs) : sqB p (cf xs) = true ↔ Sqf p xs := by
  unfold sqB
  rw [@decide_eq_true_iff _ (Classical.propDecidable _), monL_self hp h]
  exact ⟨fun k => k.2, fun k => ⟨esq_yes hp h.nz, k⟩⟩
noncomputable def irrB (p : Int) (f : Ser) : Bool := @decide (eff p f = 0 ∧ Irr p (cf (monL p f))) (Classical.propDecidable _)
theorem irrB_no {p : Int} {f : Ser} (h : eff p f ≠ 0) : irrB p f = false := @decide_eq_false _ (Classical.propDecidable _) fun k => h k.1
theorem irrB_iff {p : Int} {f : Ser} (h : eff p f = 0) : irrB p f = true ↔ Irr p (cf (monL p f)) := by
  unfold irrB
  rw [@decide_eq_true_iff _ (Classical.propDecidable _)]
  exact ⟨fun k => k.2, fun k => ⟨h, k⟩⟩
theorem irr_sqf {p : Int} {xs : List Int} (hp : Pr p) (h : Irr p (cf xs)) : Sqf p xs := fun q hq => by
  by_cases e : Ser.Eq p q (cf xs)
  · rw [← V_congr e, V_self hp hq]; exact Nat.le_refl _
  · have : V p (cf xs) q = 0 := V_other hp hq h fun k => e k.symm
    omega
theorem own_irr_len {p : Int} {xs : List Int} {d : Nat} (hp : Pr p) (h : Mn p xs) (hn : xs.length = d + 1) (hs : Sqf p xs) (hP : EchOf p d (ownM p xs d) (ownP p xs d)) : (ownL p xs d).length = 1 ↔ Irr p (cf xs) := by
  rcases Nat.eq_zero_or_pos d with rfl | hd
  · refine ⟨fun k => absurd (show (0 : Nat) = 1 from k) (by decide), fun k => ?_⟩
    have := (h.len_one hp).1 (by omega) _ k
    rw [V_self hp k] at this
    exact absurd this (by decide)
  · exact own_one hp h hn hd hs hP
set_option maxRecDepth 100000 in
set_option maxHeartbeats 2000000 in
theorem gIrr (A : Option Addr) (n c : Nat) (xs : List Int) (p : Int) (w : World) (hT : TabAt w) (h : ISl w A n c xs) (ip : In64 p) (hn : n ≤ 17592186044416) :
    Calls Tryz.prog 13 #[.slice A n c, .int .i64 p] w fun e w' => e = .returned (.tuple #[.bool (irrB p (cf xs)), .int .i64 (eff p (cf xs))]) ∧ Below w.heap.size w w' := by
  have CM := gMon A n c xs p w hT h ip hn
  by_cases h0 : eff p (cf xs) = 0
  · obtain ⟨hp, hb, hl, _⟩ : Pr p ∧ ¬ Ser.Bd p (cf xs) 0 ∧ (monL p (cf xs)).length ≤ 65 ∧ True := by
      rcases eff_cases p (cf xs) with ⟨a, b, d, _⟩ | ⟨e, _⟩ | ⟨e, _⟩ | ⟨e, _⟩
      · exact ⟨a, b, d, trivial⟩
      all_goals rw [h0] at e; exact absurd e (by decide)
    have mn := (mn_monL hp hb).1
    have II := irrB_iff h0
    rw [okL_yes h0, h0] at CM
    rw [h0]
    have CC := Lib.hid CM
    have HM := Lib.hid mn
    have HT := Lib.hid hT
    have PR := Lib.hid hp
    have HL := Lib.hid hl
    obtain ⟨b, hbb⟩ : ∃ b, irrB p (cf xs) = b := ⟨_, rfl⟩
    rw [hbb] at II ⊢
    clear CM hT h ip hn h0 hp hb hl mn hbb
    generalize monL p (cf xs) = mo at *
    have SQ := Lib.hid (sqB_mn PR.out HM.out)
    obtain ⟨s, hs⟩ : ∃ s, sqB p (cf mo) = s := ⟨_, rfl⟩
    rw [hs] at SQ
    have HS := Lib.hid hs
    clear hs
    have S1 := Lib.hid (fun (C : Option Addr) (m d : Nat) (W : World) (hb : Below w.heap.size w W) (hi : ISl W C m d mo) => gIsSq C m d mo p W (HT.out.below hb) hi PR.out.md.in64 (by have := hi.len; have := HL.out; omega))
    rw [HS.out] at S1
    have II2 := Lib.hid II
    clear II
    cases s with
    | false =>
      have e : b = false := by
        cases b with
        | false => rfl
        | true => exact absurd (SQ.out.2 (irr_sqf PR.out (II2.out.1 rfl))) (by decide)
      subst e
      go_enter Tryz.func13, Tryz.ntmps13
      go_wp2_with (first
        | (go_at_call 31; (with_reducible refine CC.out.mono ?_); rintro e w1 ⟨C, m, d, rfl, hg⟩; have HB := Lib.hid hg.bel; have S2 := Lib.hid (S1.out C m d w1 hg.bel hg.isl); clear hg)
        | (go_at_call 37; (with_reducible refine S2.out.mono ?_); rintro e w2 ⟨rfl, hb2⟩; have HB2 := Lib.hid (below_to HB.out hb2); clear hb2)
        | fail)
      go_ret2
      exact ⟨rfl, HB2.out⟩
    | true =>
      have ss := SQ.out.1 rfl
      obtain ⟨d, hd⟩ : ∃ d, mo.length = d + 1 := ⟨mo.length - 1, by have := HM.out.pos; omega⟩
      have OI := Lib.hid (fun he => (own_irr_len PR.out HM.out hd ss he).trans II2.out.symm)
      have OW := Lib.hid (fun (C : Option Addr) (c : Nat) (W : World) (hb : Below w.heap.size w W) (hi : ISl W C (d + 1) c mo) => gOwn C c d mo p W (HT.out.below hb) hi PR.out HM.out (by have := HL.out; omega))
      have HD := Lib.hid hd
      generalize ownL p mo d = B at *
      clear ss hd II2 SQ
      go_enter Tryz.func13, Tryz.ntmps13
      go_wp2_with (first
        | (go_at_call 31; (with_reducible refine CC.out.mono ?_); rintro e w1 ⟨C, m, c1, rfl, hg⟩; have HB := Lib.hid hg.bel; obtain rfl : m = d + 1 := hg.isl.len.trans HD.out; have HI := Lib.hid hg.isl; have S2 := Lib.hid (S1.out C _ c1 w1 hg.bel hg.isl); clear hg)
        | (go_at_call 37; (with_reducible refine S2.out.mono ?_); rintro e w2 ⟨rfl, hb2⟩; have HB2 := Lib.hid (below_to HB.out hb2); have O2 := Lib.hid (OW.out C c1 w2 HB2.out (HI.out.below hb2)); clear hb2)
        | (go_at_call 38; (with_reducible refine O2.out.mono ?_); rintro e w3 ⟨Ao, ko, co, rfl, hm, he, hb3⟩; have HB3 := Lib.hid (below_to HB2.out hb3); have HK := Lib.hid hm.len; have HO := Lib.hid (OI.out he); clear hm he hb3)
        | fail)
      go_ret2
      refine ⟨?_, HB3.out⟩
      have := HO.out
      rw [← HK.out] at this
      have e9 : ((ko : Int) == 1) = b := by
        cases b with
        | true => have := this.2 rfl; simp; omega
        | false =>
          have h9 : ¬ ko = 1 := fun k => absurd (this.1 k) (by decide)
          simp; omega
      rw [← e9]; rfl
  · rw [okL_no h0] at CM
    have E := Lib.hid (irrB_no h0)
    have H0 : Hid ((eff p (cf xs) == 0) = false) := Lib.hid (by simpa using h0)
    have CC := Lib.hid CM
    rw [E.out]
    obtain ⟨u, hu⟩ : ∃ u, eff p (cf xs) = u := ⟨_, rfl⟩
    rw [hu] at CC H0 h0 ⊢
    clear CM hT h ip hn hu E
    go_enter Tryz.func13, Tryz.ntmps13
    go_wp2_with (go_at_call 31; (with_reducible refine CC.out.mono ?_); rintro e w1 ⟨C, m, d, rfl, hg⟩; have HB := Lib.hid hg.bel; clear hg)
    go_ret2
    exact ⟨rfl, HB.out⟩

/-! Of a squarefree one. -/
noncomputable def esf (p : Int) (f : Ser) : Int := if eff p f = 0 then (if sqB p (cf (monL p f)) = true then 0 else 1) else eff p f
theorem esf_no {p : Int} {f : Ser} (h : eff p f ≠ 0) : esf p f = eff p f := if_neg h
theorem esf_bad {p : Int} {f : Ser} (h : eff p f = 0) (hs : sqB p (cf (monL p f)) = false) : esf p f = 1 := by unfold esf; rw [if_pos h, if_neg (by rw [hs]; decide)]
theorem esf_yes {p : Int} {f : Ser} (h : eff p f = 0) (hs : sqB p (cf (monL p f)) = true) : esf p f = 0 := by unfold esf; rw [if_pos h, if_pos hs]
theorem esf_ne {p : Int} {f : Ser} (h : eff p f ≠ 0) : esf p f ≠ 0 := by rw [esf_no h]; exact h
theorem eff_mn {p : Int} {xs : List Int} (h : eff p (cf xs) = 0) : Pr p ∧ ¬ Ser.Bd p (cf xs) 0 ∧ Mn p (monL p (cf xs)) ∧ (monL p (cf xs)).length ≤ 65 := by
  rcases eff_cases p (cf xs) with ⟨a, b, d, _⟩ | ⟨e, _⟩ | ⟨e, _⟩ | ⟨e, _⟩
  · exact ⟨a, b, (mn_monL a b).1, d⟩
  all_goals rw [h] at e; exact absurd e (by decide)
inductive SqSt (p : Int) (f : Ser) : Prop where
  | no (h : eff p f ≠ 0) (h2 : esf p f = eff p f)
  | bad (h : eff p f = 0) (h2 : esf p f = 1) (h3 : ¬ Sqf p (monL p f))
  | yes (h : eff p f = 0) (h2 : esf p f = 0) (h3 : Sqf p (monL p f))
theorem sqSt (p : Int) (xs : List Int) : SqSt p (cf xs) := by
  by_cases h : eff p (cf xs) = 0
  · obtain ⟨hp, _, hm, _⟩ := eff_mn h
    cases hs : sqB p (cf (monL p (cf xs))) with
    | true => exact .yes h (esf_yes h hs) ((sqB_mn hp hm).1 hs)
    | false => exact .bad h (esf_bad h hs) fun k => by rw [(sqB_mn hp hm).2 k] at hs; cases hs
  · exact .no h (esf_no h)
set_option maxRecDepth 100000 in
set_option maxHeartbeats 1000000 in
theorem gSqNo (A : Option Addr) (n c : Nat) (xs : List Int) (p : Int) (w : World) (hT : TabAt w) (h : ISl w A n c xs) (ip : In64 p) (hn : n ≤ 17592186044416) (h0 : esf p (cf xs) ≠ 0) :
    Calls Tryz.prog 39 #[.slice A n c, .int .i64 p] w fun e w' => e = .returned (.tuple #[nilv, .int .i64 (esf p (cf xs))]) ∧ Below w.heap.size w w' := by
  have CM := gMon A n c xs p w hT h ip hn
  rcases sqSt p xs with ⟨h1, h2⟩ | ⟨h1, h2, h3⟩ | ⟨h1, h2, h3⟩
  · rw [h2]
    have H0 : Hid ((eff p (cf xs) == 0) = false) := Lib.hid (by simpa using h1)
    have CC := Lib.hid CM
    generalize eff p (cf xs) = u at *
    clear CM hT h ip hn h2
    go_enter Tryz.func39, Tryz.ntmps39
    go_wp2_with (go_at_call 31; (with_reducible refine CC.out.mono ?_); rintro e w1 ⟨C, m, d, rfl, hg⟩; have HB := Lib.hid hg.bel; clear hg)
    go_ret2
    exact ⟨rfl, HB.out⟩
  · obtain ⟨hp, _, hm, hl⟩ := eff_mn h1
    rw [okL_yes h1, h1] at CM
    rw [h2]
    have CC := Lib.hid CM
    have HT := Lib.hid hT
    have SS : Hid (sqB p (cf (monL p (cf xs))) = false) := Lib.hid (by
      cases hs : sqB p (cf (monL p (cf xs))) with
      | true => exact absurd ((sqB_mn hp hm).1 hs) h3
      | false => rfl)
    have IP := Lib.hid ip
    have HL := Lib.hid hl
    clear CM hT h ip hn h2 h3 hp hm hl h1 h0
    generalize monL p (cf xs) = mo at *
    have S1 := Lib.hid (fun (C : Option Addr) (m d : Nat) (W : World) (hb : Below w.heap.size w W) (hi : ISl W C m d mo) => gIsSq C m d mo p W (HT.out.below hb) hi IP.out (by have := hi.len; have := HL.out; omega))
    rw [SS.out] at S1
    go_enter Tryz.func39, Tryz.ntmps39
    go_wp2_with (first
      | (go_at_call 31; (with_reducible refine CC.out.mono ?_); rintro e w1 ⟨C, m, d, rfl, hg⟩; have HB := Lib.hid hg.bel; have S2 := Lib.hid (S1.out C m d w1 hg.bel hg.isl); clear hg)
      | (go_at_call 37; (with_reducible refine S2.out.mono ?_); rintro e w2 ⟨rfl, hb2⟩; have HB2 := Lib.hid (below_to HB.out hb2); clear hb2)
      | fail)
    go_ret2
    exact ⟨rfl, HB2.out⟩
  · exact absurd h2 h0
theorem below_grown {w0 w w' : World} {b : Nat} (h : Below w0.heap.size w0 w) (hb : w0.heap.size ≤ b) (hg : w.grownBy w' (some b)) : Below w0.heap.size w0 w' :=
  h.grown hg h.size fun k e => by simp only [Option.some.injEq] at e; omega
theorem facs_short {p : Int} {xs : List Int} {F : List (List Int)} (hp : Pr p) (hx : Mn p xs) (h : Facs p xs F) : F.length ≤ xs.length ∧ ∀ f ∈ F, f.length ≤ xs.length := by
  have hs : Spl p xs F := ⟨fun f hf => ⟨(h.irr f hf).1, (h.irr f hf).2.1⟩, h.v⟩
  exact ⟨by have := hs.sum_le hp hx; omega, spl_len hp hx hs⟩
set_option maxRecDepth 100000 in
set_option maxHeartbeats 1000000 in
theorem gSplitNo (A D : Option Addr) (n c nd cd : Nat) (xs : List Int) (p : Int) (w : World) (hT : TabAt w) (h : ISl w A n c xs) (ip : In64 p) (hn : n ≤ 17592186044416) (h0 : esf p (cf xs) ≠ 0) :
    Calls Tryz.prog 14 #[.slice A n c, .int .i64 p, .slice D nd cd] w fun e w' => e = .returned (.tuple #[nilv, .int .i64 (esf p (cf xs))]) ∧ Below w.heap.size w w' := by
  have CC := Lib.hid (gSqNo A n c xs p w hT h ip hn h0)
  have H0 : Hid ((esf p (cf xs) == 0) = false) := Lib.hid (by simpa using h0)
  generalize esf p (cf xs) = u at *
  clear hT h ip hn
  go_enter Tryz.func14, Tryz.ntmps14
  go_wp2_with (go_at_call 39; (with_reducible refine CC.out.mono ?_); rintro e w1 ⟨rfl, hb⟩; have HB := Lib.hid hb; clear hb)
  go_ret2
  exact ⟨rfl, HB.out⟩
end Go.Proofs.YtnkhhndjbanmnaaGreatDoor

/- ffac.Factors by contract. -/
namespace Go.Proofs.YtnkhhndjbanmnaaGreatDoor
open Go.RowKit Go.Shelf Go.Lib

theorem IsParts.few {p : Int} {m : List Int} {L : PL} (hp : Pr p) (hm : Mn p m) (hL : IsParts p m L) : L.length ≤ m.length := by
  have h1 := nodup_le m.length _ (hL.up.imp fun hij => Nat.ne_of_lt hij) (fun x hx => by
    obtain ⟨y, hy, rfl⟩ := List.mem_map.1 hx
    obtain ⟨_, ho, hne⟩ := hL.own y hy
    obtain ⟨q, hq, hv⟩ := own_some hp ho hne
    have := hm.V_lt hp hq
    omega)
  rwa [List.length_map] at h1
theorem own_len {p : Int} {m P : List Int} {N : Nat} (hp : Pr p) (hm : Mn p m) (hN : 1 ≤ N) (h : IsOwn p m N P) : P.length ≤ m.length := h.1.len_le hp hm fun q hq => by
  rw [h.2 q hq]; split <;> omega
theorem irr_len {p : Int} {m f : List Int} (hp : Pr p) (hm : Mn p m) (hf : Mn p f) (hi : Irr p (cf f)) (hv : 1 ≤ V p (cf m) (cf f)) : f.length ≤ m.length := hf.len_le hp hm fun _ hq => V_le hp hq hf.last hm.last ((V_pos hp hi hm.last).2 hv)
theorem ptyF : PTy 26 49 := ⟨Tryz.underlying26, by kernel_rfl⟩

/-! Append, told by what it leaves. -/
theorem prun_app_g {S T : TypeId} (ht : PTy S T) (w : World) (ty : TypeId) (B : Nat) (v : Value) (Z : List Pt) (hown : POw T w B v Z) (g c : Nat) (z : Pt) (h0 : w.cell? ⟨g, 0, none⟩ = some z.sl) (h1 : w.cell? ⟨g, 1, none⟩ = some z.nv)
    (hL : ISl w z.A z.n z.c z.xs) (ha : ApO z.A z.xs v.ownBlock) (hmax : Z.length ≤ 1000000) (hB : B ≤ w.heap.size) :
    ∃ v' w', (Builtin.append_ #[S, S] ty #[v, .slice (some ⟨g, 0, none⟩) 1 c]).run Tryz.prog w = .ok v' w' ∧ POw T w' B v' (Z ++ [z]) ∧ w.grownBy w' v.ownBlock ∧ (v'.ownBlock = v.ownBlock ∨ v'.ownBlock = some w.heap.size) := by
  obtain ⟨i0, hi, hz0, hz1, hz2⟩ := info_parts ht.i
  have hcells : ∀ j u, (z.enc)[j]? = some u → w.cell? ((⟨g, 0, none⟩ : Addr).add j) = some u := by
    intro j u hj
    rw [iadd_add ⟨g, 0, none⟩ j g 0 rfl, Nat.zero_add]
    match j, hj with
    | 0, hj => simp only [Pt.enc, List.getElem?_cons_zero] at hj; rw [h0, hj]
    | 1, hj => simp only [Pt.enc, List.getElem?_cons_succ, List.getElem?_cons_zero] at hj; rw [h1, hj]
    | k + 2, hj => simp [Pt.enc] at hj
  obtain ⟨v', w', hrun, h2, h3, _, h5⟩ := run_append_own_at (P := Tryz.prog) w B S ty T i0 _ 2 32 ht.u hi hz0 hz1 hz2 rfl (by decide) v Z.length (pvals Z) hown.1 ⟨g, 0, none⟩ 1 c z.enc
    rfl hcells (by intro u hu; simp only [Pt.enc, List.mem_cons, List.not_mem_nil, or_false] at hu; rcases hu with rfl | rfl <;> rfl) (by unfold maxLen; omega) (by omega) hB
  refine ⟨v', w', hrun, ⟨?_, fun y hy => ?_⟩, h3, h5⟩
  · rw [List.length_append, pvals_append]
    exact h2
  · rcases List.mem_append.1 hy with hy | hy
    · obtain ⟨k1, k2⟩ := hown.2 y hy
      exact ⟨k1.grownO h3 k2, k1.apO k2 h5⟩
    · rw [List.mem_singleton.1 hy]
      exact ⟨hL.grownO h3 ha, hL.apO ha h5⟩
theorem pwpList_g {S T : TypeId} (ht : PTy S T) {ops : Array Oper} {rest : List Oper} {o : Oper} {a : Act} {Q : Exit → Act → World → Prop} (w : World) (hgd : o.guard = none) (s x : Operand) (ho : o.op = .call { callee := .builtin .append, args := #[s, x], argTypes := #[S, S] })
    (B : Nat) (v : Value) (Z : List Pt) (hs : a.eval s = v) (hown : POw T w B v Z) (g c : Nat) (hx : a.eval x = .slice (some ⟨g, 0, none⟩) 1 c) (z : Pt) (h0 : w.cell? ⟨g, 0, none⟩ = some z.sl) (h1 : w.cell? ⟨g, 1, none⟩ = some z.nv)
    (hL : ISl w z.A z.n z.c z.xs) (ha : ApO z.A z.xs v.ownBlock) (hmax : Z.length ≤ 1000000) (hB : B ≤ w.heap.size)
    (h : ∀ v' w', POw T w' B v' (Z ++ [z]) → w.grownBy w' v.ownBlock → (v'.ownBlock = v.ownBlock ∨ v'.ownBlock = some w.heap.size) → wpList Tryz.prog ops Q rest (a.put o.dst v') w') : wpList Tryz.prog ops Q (o :: rest) a w :=
  wpList_plain hgd fun _ hK => by
    obtain ⟨v', w', hrun, h2, h3, h4⟩ := prun_app_g ht w o.type B v Z hown g c z h0 h1 hL ha hmax hB
    have hk := hK _ _ (h v' w' h2 h3 h4)
    unfold Oper.wp execOp
    simp only [ho, resolve, invoke, builtin, Sem.run_bind, Sem.run_pure, Result.andThen_ok, List.map_toArray, List.map_cons, List.map_nil, hs, hx, hrun]
    exact hk

def SAp (w : World) (A : Option Addr) (M : List (List Int)) (row : Option Nat) : Prop :=
  0 < M.length → ∃ b o, A = some ⟨b, o, none⟩ ∧ b < w.heap.size ∧ some b ≠ row ∧ ∀ i, i < M.length → ∃ C k d, w.cell? ⟨b, o + i, none⟩ = some (.slice C k d) ∧ ISl w C k d (M.getD i []) ∧ M.getD i [] ≠ [] ∧ ApB C row
theorem SAp.below {w w' : World} {A : Option Addr} {M : List (List Int)} {row : Option Nat} (h : SAp w A M row) (hb : Below w.heap.size w w') : SAp w' A M row := fun h0 => by
  obtain ⟨b, o, e, hlt, hne, hr⟩ := h h0
  refine ⟨b, o, e, Nat.lt_of_lt_of_le hlt hb.size, hne, fun i hi => ?_⟩
  obtain ⟨C, k, d, e1, e2, e3⟩ := hr i hi
  exact ⟨C, k, d, (hb.cell (p := ⟨b, o + i, none⟩) hlt).trans e1, e2.below hb, e3⟩
theorem SAp.step {w w' : World} {A : Option Addr} {M : List (List Int)} {row row' : Option Nat} (h : SAp w A M row) (hg : w.grownBy w' row) (h5 : row' = row ∨ row' = some w.heap.size) : SAp w' A M row' := fun h0 => by
  obtain ⟨b, o, e, hlt, hne, hr⟩ := h h0
  refine ⟨b, o, e, Nat.lt_of_lt_of_le hlt hg.size, ?_, fun i hi => ?_⟩
  · rcases h5 with rfl | rfl
    · exact hne
    · intro e2; simp only [Option.some.injEq] at e2; omega
  · obtain ⟨C, k, d, e1, e2, e3, e4⟩ := hr i hi
    exact ⟨C, k, d, (World.cell?_of_block (w := w) (hg.block b hlt hne)).trans e1, e2.grownO hg (e4.apO _), e3, e4.step e2 e3 h5⟩
theorem FacAt.sap {w0 w : World} {bx : Nat} {ox : Option Nat} {v : Value} {F : List (List Int)} (h : FacAt ox w bx v F) (hf : FreshV w0 v) (hox : ∀ k, ox = some k → k < w0.heap.size) : ∃ A c, v = .slice A F.length c ∧ F.length ≤ c ∧ c ≤ 9223372036854775807 ∧ SAp w A F ox := by
  obtain ⟨A, c, e, h1, h2, h3⟩ := h.open_
  refine ⟨A, c, e, h1, h2, fun h0 => ?_⟩
  obtain ⟨b, o, e2, hlt, _, _, hr⟩ := h3 h0
  refine ⟨b, o, e2, hlt, fun e3 => ?_, fun i hi => ?_⟩
  · have h4 := hf _ _ _ e b o none e2
    have h5 := hox b e3.symm
    omega
  · obtain ⟨C, k, d, e4, e5, e6, _⟩ := hr i hi
    exact ⟨C, k, d, e4, e5, e6.1, e6.2⟩

structure OJ (p : Int) (mo : List Int) (w wr : World) (A : Option Addr) (n c : Nat) (Z : List Pt) (v : Value) (j : Nat) (Y : List Pt) : Prop where
  own : POw 49 wr w.heap.size v Y
  ft : FacT p mo (pls Z) j (pls Y)
  rd : PRd wr A n c Z
  ap : ∀ z ∈ Z, ApO z.A z.xs v.ownBlock
  apA : Z = [] ∨ ApB A v.ownBlock
  be : Below w.heap.size w wr
  few : Y.length ≤ 65 * j
structure IJ (w wr : World) (A : Option Addr) (n c : Nat) (Z : List Pt) (v : Value) (Y : List Pt) (L : PL) (N : Nat) (Af : Option Addr) (F : List (List Int)) (bp t : Nat) : Prop where
  own : POw 49 wr w.heap.size v Y
  ys : pls Y = L ++ (F.take t).map fun f => (f, N)
  rd : PRd wr A n c Z
  ap : ∀ z ∈ Z, ApO z.A z.xs v.ownBlock
  apA : Z = [] ∨ ApB A v.ownBlock
  be : Below w.heap.size w wr
  sa : SAp wr Af F v.ownBlock
  pb : wr.cell? ⟨bp, 1, none⟩ = some (.int .i64 (N : Int))
  pl : bp < wr.heap.size
  pn : some bp ≠ v.ownBlock
theorem IJ.next {w wr w' : World} {A : Option Addr} {n c : Nat} {Z : List Pt} {v v' : Value} {Y : List Pt} {L : PL} {N : Nat} {Af : Option Addr} {F : List (List Int)} {bp t : Nat} (h : IJ w wr A n c Z v Y L N Af F bp t) (ht : t < F.length) {C : Option Addr} {k d : Nat} (ho : POw 49 w' w.heap.size v' (Y ++ [⟨C, k, d, F.getD t [], N⟩])) (hg : wr.grownBy w' v.ownBlock) (h5 : v'.ownBlock = v.ownBlock ∨ v'.ownBlock = some wr.heap.size) : IJ w w' A n c Z v' (Y ++ [⟨C, k, d, F.getD t [], N⟩]) L N Af F bp (t + 1) := by
  have hz : Z = [] → PRd w' A n c Z ∧ (∀ z ∈ Z, ApO z.A z.xs v'.ownBlock) ∧ (Z = [] ∨ ApB A v'.ownBlock) := fun e => by
    subst e
    exact ⟨⟨h.rd.1, h.rd.2.1, h.rd.2.2.1, fun z hz => (List.not_mem_nil hz).elim, .inl rfl⟩, fun z hz => (List.not_mem_nil hz).elim, .inl rfl⟩
  obtain ⟨a1, a2, a3⟩ := h.apA.elim hz fun ha => keep_prd hg h5 h.rd h.ap ha
  refine ⟨ho, ?_, a1, a2, a3, ?_, h.sa.step hg h5, (World.cell?_of_block (w := wr) (hg.block bp h.pl h.pn)).trans h.pb, Nat.lt_of_lt_of_le h.pl hg.size, ?_⟩
  · rw [pls_append, h.ys, take_snocL ht, List.map_append, List.append_assoc]; rfl
  · exact h.be.grown hg h.be.size h.own.lt
  · rcases h5 with e | e
    · rw [e]; exact h.pn
    · rw [e]; intro e2; have := h.pl; simp only [Option.some.injEq] at e2; omega
theorem IJ.below {w wr w' : World} {A : Option Addr} {n c : Nat} {Z : List Pt} {v : Value} {Y : List Pt} {L : PL} {N : Nat} {Af : Option Addr} {F : List (List Int)} {bp t : Nat} (h : IJ w wr A n c Z v Y L N Af F bp t) (hb : Below wr.heap.size wr w') : IJ w w' A n c Z v Y L N Af F bp t :=
  ⟨h.own.below hb, h.ys, h.rd.below hb, h.ap, h.apA, below_to h.be hb, h.sa.below hb, (hb.cell (p := ⟨bp, 1, none⟩) h.pl).trans h.pb, Nat.lt_of_lt_of_le h.pl hb.size, h.pn⟩
theorem ApO.apB {A : Option Addr} {xs : List Int} {row : Option Nat} (h : ApO A xs row) (hx : xs ≠ []) : ApB A row := h.elim (fun e => absurd e hx) id
theorem OJ.start {p : Int} {mo : List Int} {w wr w' : World} {A : Option Addr} {n c : Nat} {Z : List Pt} {v : Value} {j : Nat} {Y : List Pt} (h : OJ p mo w wr A n c Z v j Y) (hb : Below wr.heap.size wr w') {N bp : Nat} {Af : Option Addr} {F : List (List Int)} (sa : SAp w' Af F v.ownBlock) (pb : w'.cell? ⟨bp, 1, none⟩ = some (.int .i64 (N : Int))) (pl : bp < w'.heap.size) (hbp : wr.heap.size ≤ bp) : IJ w w' A n c Z v Y (pls Y) N Af F bp 0 :=
  ⟨h.own.below hb, by simp, h.rd.below hb, h.ap, h.apA, below_to h.be hb, sa, pb, pl, fun e => by have := (h.own.1.lt bp e.symm).2; omega⟩
theorem IJ.done {p : Int} {mo : List Int} {w wr wr0 : World} {A : Option Addr} {n c : Nat} {Z : List Pt} {v v0 : Value} {j N bp : Nat} {Y Y0 : List Pt} {Af : Option Addr} {F : List (List Int)} (hp : Pr p) (h0 : OJ p mo w wr0 A n c Z v0 j Y0) (h : IJ w wr A n c Z v Y (pls Y0) N Af F bp F.length) (hL : IsParts p mo (pls Z)) (hj : j < Z.length) (hN : Z[j].N = N) (hF : Facs p Z[j].xs F) (hl : F.length ≤ 65) : OJ p mo w wr A n c Z v (j + 1) Y := by
  have e : (pls Z)[j]'(by rw [pls_length]; exact hj) = Z[j].pl := by unfold pls; rw [List.getElem_map]
  have hy := h.ys
  rw [List.take_length] at hy
  refine ⟨h.own, ?_, h.rd, h.ap, h.apA, h.be, ?_⟩
  · rw [hy]
    have := h0.ft.next hp hL (by rw [pls_length]; exact hj) (F := F) (by rw [e]; exact hF)
    rw [e] at this
    rw [← hN]
    exact this
  · have := congrArg List.length hy
    rw [pls_length, List.length_append, pls_length, List.length_map] at this
    have := h0.few
    omega
end Go.Proofs.YtnkhhndjbanmnaaGreatDoor

/- Texts joined, in their order: RefSq, FacT. -/
import Derived.Test.YtnkhhndjbanmnaaGreatDoorMn37
import Derived.Test.YtnkhhndjbanmnaaGreatDoorMn39

/- The document's radical by contract: what is wrong, quotients, what is left without common factors, the radical. -/
namespace Go.Proofs.YtnkhhndjbanmnaaGreatDoor
open Go.RowKit

theorem monL_self {p : Int} {xs : List Int} (hp : Pr p) (h : Mn p xs) : monL p (cf xs) = xs := by
  obtain ⟨h1, _, _, h4⟩ := mn_mon hp h.last
  exact h1.ext hp h h4
theorem Mn.nz {p : Int} {xs : List Int} (h : Mn p xs) : ¬ Ser.Bd p (cf xs) 0 := h.last.some

set_option maxRecDepth 100000 in
set_option maxRecDepth 100000 in
set_option maxHeartbeats 1000000 in
theorem rWrong (A : Option Addr) (n c : Nat) (xs : List Int) (p : Int) (w : World) (h : ISl w A n c xs) (ip : In64 p) (hn : n ≤ 1000) :
    Calls Tryz.prog 75 #[.slice A n c, .int .i64 p] w fun e w' => e = .returned (.int .i64 (esq p (cf xs))) ∧ Below w.heap.size w w' := by
  have C := refCheck_any p w ip.1 ip.2
  rcases Classical.em (Pr p) with hp | hp
  · rw [chk_yes (primB_yes hp)] at C
    have CC := Lib.hid C
    have PL := Lib.hid (plain_any A n c xs p w h hp.md (by omega))
    rcases Classical.em (Ser.Bd p (cf xs) 0) with hb | hb
    · rw [esq_zero hp hb]
      have NZ := Lib.hid (fun ys (k : Pol p ys (cf xs)) => (k.nought (by have := hp.1; omega)).2 hb)
      clear C h ip hp hb
      go_enter Tryz.func75, Tryz.ntmps75
      go_wp2_with (first
        | (go_at_call 30; (with_reducible refine CC.out.mono ?_); rintro e w1 ⟨rfl, rfl⟩)
        | (go_at_call 23; (with_reducible refine PL.out.mono ?_); rintro e w2 ⟨v, rfl, C2, m2, d2, ys, rfl, hi, hpl, -, -, hb2⟩; obtain rfl : m2 = 0 := by { have := hi.len; rw [NZ.out ys hpl] at this; exact this }; have HB := Lib.hid hb2; clear hi hpl hb2))
      go_ret
      exact ⟨rfl, HB.out⟩
    · rw [esq_yes hp hb]
      have NZ := Lib.hid (fun ys (k : Pol p ys (cf xs)) => fun e => hb ((k.nought (by have := hp.1; omega)).1 e))
      clear C h ip hp hb
      go_enter Tryz.func75, Tryz.ntmps75
      go_wp2_with (first
        | (go_at_call 30; (with_reducible refine CC.out.mono ?_); rintro e w1 ⟨rfl, rfl⟩)
        | (go_at_call 23; (with_reducible refine PL.out.mono ?_); rintro e w2 ⟨v, rfl, C2, m2, d2, ys, rfl, hi, hpl, -, -, hb2⟩; have hm : ((m2 : Int) == 0) = false := by { have h1 := hi.len; have h2 := NZ.out ys hpl; have h3 : ys.length ≠ 0 := fun e => h2 (List.eq_nil_of_length_eq_zero e); simp; omega }; have HB := Lib.hid hb2; clear hi hpl hb2))
      go_ret
      exact ⟨rfl, HB.out⟩
  · rw [chk_no (primB_no hp)] at C
    have CC := Lib.hid C
    rw [esq_no hp]
    clear C h ip hp
    go_enter Tryz.func75, Tryz.ntmps75
    go_wp2_with (go_at_call 30; (with_reducible refine CC.out.mono ?_); rintro e w1 ⟨rfl, rfl⟩)
    go_ret
    exact ⟨rfl, Below.refl _ _⟩
set_option maxRecDepth 100000 in
set_option maxRecDepth 100000 in
set_option maxHeartbeats 400000 in
theorem rBy (A B : Option Addr) (n c n' c' : Nat) (xs ys : List Int) (p : Int) (w : World) (h : ISl w A n c xs) (h' : ISl w B n' c' ys) (ip : In64 p) (hn : n ≤ 1000) (hn' : n' ≤ 1000) :
    Calls Tryz.prog 125 #[.slice A n c, .slice B n' c', .int .i64 p] w fun e w' => ∃ C m d, e = .returned (.slice C m d) ∧ Got w C m d (quoL p (cf xs) (cf ys)) (n + 1) w' ∧ FreshA w C := by
  have CC := Lib.hid (rDiv_new A B n c n' c' xs ys p w h h' ip (by omega) (by omega))
  generalize ediv p (cf ys) = u at *
  clear h h' ip hn hn'
  go_enter Tryz.func125, Tryz.ntmps125
  go_wp2_with (go_at_call 44; (with_reducible refine CC.out.mono ?_); rintro e w' ⟨C, m, d, C', m', d', rfl, hg, -, hf⟩)
  go_ret
  exact ⟨C, m, d, rfl, hg, hf⟩
set_option maxRecDepth 100000 in
set_option maxRecDepth 100000 in
set_option maxHeartbeats 2000000 in
theorem rWithout (A B : Option Addr) (n c n' c' : Nat) (xs ys : List Int) (p : Int) (w : World) (h : ISl w A n c xs) (h' : ISl w B n' c' ys) (ip : In64 p) (hp : Pr p) (hx : Mn p xs) (hy : Mn p ys) (hn : n ≤ 900) (hn' : n' ≤ 900) :
    Calls Tryz.prog 126 #[.slice A n c, .slice B n' c', .int .i64 p] w fun e w' => ∃ C m d, e = .returned (.slice C m d) ∧ ∃ u, ISl w' C m d u ∧ Mn p u ∧ u.length ≤ xs.length ∧ (∀ q, Irr p q → V p (cf u) q = if V p (cf ys) q = 0 then V p (cf xs) q else 0) ∧ Below w.heap.size w w' := by
  have G1 := Lib.hid (rGcd A B n c n' c' xs ys p w h h' ip (by omega) (by omega))
  generalize chk p = u at *
  have H := Lib.hid h
  have H' := Lib.hid h'
  have IP := Lib.hid ip
  have PR := Lib.hid hp
  have HX := Lib.hid hx
  have HY := Lib.hid hy
  have XL := Lib.hid h.len
  have GC := Lib.hid (fun (C : Option Addr) (m d : Nat) (zs : List Int) (W : World) (hz : ISl W C m d zs) (hb : Below w.heap.size w W) (hm : m ≤ 900) => rGcd C B m d n' c' zs ys p W hz (h'.below hb) ip (by omega) (by omega))
  clear h h' ip hp hx hy
  go_enter Tryz.func126, Tryz.ntmps126
  go_wp2_with (go_at_call 124; (with_reducible refine G1.out.mono ?_); rintro e w1 ⟨Cg, mg, dg, rfl, hg⟩; have GI := Lib.hid hg.isl; have GB := Lib.hid hg.bel; clear hg)
  go_loopw [0, 7] (fun va vg wr => ∃ (Ca : Option Addr) (na ca : Nat) (cur : List Int) (Cg : Option Addr) (mg dg : Nat), va = .slice Ca na ca ∧ vg = .slice Cg mg dg ∧ Hid (WO p xs ys cur) ∧ Hid (ISl wr Ca na ca cur) ∧ Hid (ISl wr Cg mg dg (bezG p (cf cur) (cf ys))) ∧ Hid (Below w.heap.size w wr)) (fun va _ _ => slLen va)
  case atStart => exact ⟨A, n, c, xs, Cg, mg, dg, rfl, rfl, Lib.hid (wo_start HX.out), Lib.hid (H.out.below GB.out), GI, GB⟩
  case round =>
    obtain ⟨Ca, na, ca, cur, Cg', mg', dg', rfl, rfl, WW, IA, IG, BB⟩ := hrel
    clear GI GB
    obtain ⟨g1, g2, _⟩ := mn_gcd PR.out WW.out.mn HY.out
    have gp := g1.pos
    have gl := IG.out.len
    have al := IA.out.len
    have na9 : na ≤ 900 := by have := WW.out.l; have := XL.out; omega
    have mg9 : mg' ≤ 900 := by omega
    by_cases h1 : mg' = 1
    · have DN := Lib.hid (WW.out.done PR.out HY.out (by rw [← gl]; exact h1))
      have i1 : ¬ (1 : Int) < (mg' : Int) := by omega
      clear g1 g2 gp gl al
      go_wp2_with fail
      go_ret
      exact ⟨Ca, na, ca, rfl, cur, IA.out, WW.out.mn, WW.out.l, DN.out, BB.out⟩
    · have i1 : (1 : Int) < (mg' : Int) := by omega
      have BY1 := Lib.hid (rBy Ca Cg' na ca mg' dg' cur _ p wr IA.out IG.out IP.out (by omega) (by omega))
      obtain ⟨n1, n2⟩ := WW.out.next PR.out HY.out
      have N1 := Lib.hid n1
      have N2 := Lib.hid (n2 (by rw [← gl]; exact h1))
      have AL := Lib.hid al
      clear g1 g2 gp gl n1 n2 h1 al
      go_wp2_with (first
        | (go_at_call 125; (with_reducible refine BY1.out.mono ?_); rintro e w3 ⟨Cq, mq, dq, rfl, hg, -⟩; have QI := Lib.hid hg.isl; have QB := Lib.hid (below_to BB.out hg.bel); have lq : mq < na := (by have := N2.out; have := AL.out; have := hg.isl.len; omega); have GQ := Lib.hid (GC.out Cq mq dq _ w3 hg.isl QB.out (by omega)); clear hg)
        | (go_at_call 124; (with_reducible refine GQ.out.mono ?_); rintro e w4 ⟨C4, m4, d4, rfl, hg⟩; have I4 := Lib.hid hg.isl; have Q4 := Lib.hid (QI.out.below hg.bel); have B4 := Lib.hid (below_to QB.out hg.bel); clear hg))
      go_roundw
      case rel => exact ⟨Cq, mq, dq, _, C4, m4, d4, rfl, rfl, N1, Q4, I4, B4⟩
      case measure => simp [slLen]; omega

/-- What radical answers, in memory. -/
structure RadO (p : Int) (f : Ser) (w : World) (C : Option Addr) (m d : Nat) (w' : World) : Prop where
  r : ∃ r, IsRad p (monL p f) r ∧ ISl w' C m d r
  be : Below w.heap.size w w'
theorem times_got (A B : Option Addr) (n c n' c' : Nat) (xs ys : List Int) (p : Int) (w : World) (h : ISl w A n c xs) (h' : ISl w B n' c' ys) (hp : Pr p) (hn : n ≤ 1000) (hn' : n' ≤ 1000) :
    Calls Tryz.prog 25 #[.slice A n c, .slice B n' c', .int .i64 p] w fun e w' => ∃ C m d, e = .returned (.slice C m d) ∧ Got w C m d (polL p (Ser.mul (cf xs) (cf ys))) (n + n') w' := by
  refine (times_any A B n c n' c' xs ys p w h h' hp.md (by omega) (by omega)).mono ?_
  rintro e w' ⟨v, rfl, ho⟩
  obtain ⟨C, m, d, rfl, hg⟩ := polIn_got (L := polL p (Ser.mul (cf xs) (cf ys))) ho.in_.1 ho.in_.2 (Nat.le_refl _) (fun ys hy => polL_is hp hy)
  exact ⟨C, m, d, rfl, hg⟩

set_option maxRecDepth 100000 in
set_option maxRecDepth 100000 in
set_option maxHeartbeats 4000000 in
theorem rRad : ∀ (N : Nat) (A : Option Addr) (n c : Nat) (xs : List Int) (p : Int) (w : World), ISl w A n c xs → In64 p → Pr p → ¬ Ser.Bd p (cf xs) 0 → n ≤ 800 → (monL p (cf xs)).length ≤ N →
    Calls Tryz.prog 76 #[.slice A n c, .int .i64 p] w fun e w' => ∃ C m d, e = .returned (.slice C m d) ∧ RadO p (cf xs) w C m d w' := by
  intro N
  induction N with
  | zero =>
    intro A n c xs p w h ip hp hb hn hN
    have := (mn_monL hp hb).1.pos
    omega
  | succ N ih =>
    intro A n c xs p w h ip hp hb hn hN
    have CM := rMonic A n c xs p w h ip (by omega)
    rw [chk_yes (primB_yes hp)] at CM
    have CC := Lib.hid CM
    obtain ⟨m1, m2, m3⟩ := mn_monL hp hb
    have XL := h.len
    have l9 : (monL p (cf xs)).length ≤ 800 := by omega
    have E0 := Lib.hid (show RadO p (cf xs) = RadO p (cf xs) from rfl)
    have RO := Lib.hid (fun (w : World) (C : Option Addr) (m d : Nat) (w' : World) (r : List Int) (h1 : IsRad p (monL p (cf xs)) r) (h2 : ISl w' C m d r) (h3 : Below w.heap.size w w') => (⟨⟨r, h1, h2⟩, h3⟩ : RadO p (cf xs) w C m d w'))
    generalize RadO p (cf xs) = RR at *
    generalize monL p (cf xs) = mo at *
    have HM := Lib.hid m1
    have IP := Lib.hid ip
    have PR := Lib.hid hp
    have M9 := Lib.hid l9
    have DV := Lib.hid (fun (C : Option Addr) (m d : Nat) (W : World) (hi : ISl W C m d mo) (hm : m ≤ 800) => rDeriv C m d mo p W hi ip (by omega))
    have c1 := chk_yes (primB_yes hp)
    rw [c1] at DV
    have GC := Lib.hid (fun (A B : Option Addr) (n c n' c' : Nat) (xs ys : List Int) (W : World) (h : ISl W A n c xs) (h' : ISl W B n' c' ys) (hn : n ≤ 1000) (hn' : n' ≤ 1000) => rGcd A B n c n' c' xs ys p W h h' ip hn hn')
    rw [c1] at GC
    have IH := Lib.hid (fun (C : Option Addr) (m d : Nat) (zs : List Int) (W : World) (hi : ISl W C m d zs) (hz : Mn p zs) (hm : m ≤ 800) (hl : zs.length ≤ N) => ih C m d zs p W hi ip hp hz.nz hm (by rw [monL_self hp hz]; exact hl))
    clear CM h ip hp hb m1 m2 m3 XL l9 ih c1 E0
    have hN2 := Lib.hid hN
    clear hN
    by_cases h1 : mo.length = 1
    · have RC := Lib.hid (rad_const PR.out HM.out h1)
      go_enter Tryz.func76, Tryz.ntmps76
      go_wp2_with (go_at_call 43; (with_reducible refine CC.out.mono ?_); rintro e w1 ⟨C, m, d, rfl, hg⟩; obtain rfl : m = 1 := (by have := hg.isl.len; omega); have HB := Lib.hid hg.bel; clear hg)
      go_ret
      exact ⟨_, _, _, rfl, RO.out _ _ _ _ _ [1] RC.out ((iblk_list w1 [1] (fi_one (by unfold In64; decide))).sl (by simp)) (HB.out.alloc HB.out.size _)⟩
    · have H1 := Lib.hid h1
      clear h1
      by_cases hd : polL p (Ser.der (cf mo)) = []
      · obtain ⟨r1, r2⟩ := root_lt PR.out HM.out H1.out hd
        have R1 := Lib.hid r1
        have R2 := Lib.hid r2
        have RRT := Lib.hid (fun r => rad_root (r := r) PR.out HM.out hd)
        have HD := Lib.hid hd
        clear r1 r2 hd
        go_enter Tryz.func76, Tryz.ntmps76
        go_wp2_with (first
          | (go_at_call 43; (with_reducible refine CC.out.mono ?_); rintro e w1 ⟨C, m, d, rfl, hg⟩; have ml := hg.isl.len; have hm1 : ¬ (m : Int) ≤ 1 := (by have := H1.out; have := HM.out.pos; omega); have m9 : m ≤ 800 := (by have := M9.out; omega); have HI := Lib.hid hg.isl; have HB := Lib.hid hg.bel; have C2 := Lib.hid (DV.out C m d w1 HI.out m9); clear hg ml)
          | (go_at_call 122; (with_reducible refine C2.out.mono ?_); rintro e w2 ⟨C3, m3, d3, rfl, hg⟩; obtain rfl : m3 = 0 := (by have := hg.isl.len; rw [HD.out] at this; exact this); have HB2 := Lib.hid (below_to HB.out hg.bel); have C3_ := Lib.hid (rRoot C m d mo p w2 (HI.out.below hg.bel) PR.out (by omega)); clear hg)
          | (go_at_call 123; (with_reducible refine C3_.out.mono ?_); rintro e w3 ⟨C4, m4, d4, rfl, hi, hb⟩; have HB3 := Lib.hid (below_to HB2.out hb); have C4_ := Lib.hid (IH.out C4 m4 d4 _ w3 hi R1.out (by have := hi.len; have := R2.out; have := M9.out; omega) (by have := R2.out; have := hN2.out; omega)); clear hi hb)
          | (go_at_call 76; (with_reducible refine C4_.out.mono ?_); rintro e w4 ⟨C5, m5, d5, rfl, ho⟩; have OO := Lib.hid ho; clear ho))
        go_ret
        obtain ⟨⟨r, hr, hi⟩, hb⟩ := OO.out
        rw [monL_self PR.out R1.out] at hr
        exact ⟨_, _, _, rfl, RO.out _ _ _ _ _ r (RRT.out r hr) hi (below_to HB3.out hb)⟩
      · have HD := Lib.hid hd
        have ts := ts_start PR.out HM.out
        have TS1 := Lib.hid ts
        have RM := Lib.hid (fun u r (hr : IsRad p u r) => rad_more PR.out HM.out hr)
        have RSH := Lib.hid (fun u (hu : Mn p u) => rad_short PR.out HM.out hu)
        have QL := Lib.hid (mn_quo PR.out HM.out ts.m2 (fun q hq => by
          rw [(mn_gcdD PR.out HM.out).2.2 q hq]; split <;> omega)).2.1
        clear hd ts
        go_enter Tryz.func76, Tryz.ntmps76
        go_wp2_with (first
          | (go_at_call 43; (with_reducible refine CC.out.mono ?_); rintro e w1 ⟨C, m, d, rfl, hg⟩; have ml := hg.isl.len; have hm1 : ¬ (m : Int) ≤ 1 := (by have := H1.out; have := HM.out.pos; omega); have m9 : m ≤ 800 := (by have := M9.out; omega); have HI := Lib.hid hg.isl; have HB := Lib.hid hg.bel; have C2 := Lib.hid (DV.out C m d w1 HI.out m9); clear hg ml)
          | (go_at_call 122; (with_reducible refine C2.out.mono ?_); rintro e w2 ⟨C3, m3, d3, rfl, hg⟩; have hm3 : ((m3 : Int) == 0) = false := (by have h5 := hg.isl.len; have h6 : (polL p (Ser.der (cf mo))).length ≠ 0 := fun e => HD.out (List.eq_nil_of_length_eq_zero e); simp; omega); have HB2 := Lib.hid (below_to HB.out hg.bel); have I2 := Lib.hid (HI.out.below hg.bel); have C3_ := Lib.hid (GC.out C C3 m d m3 d3 mo _ w2 I2.out hg.isl (by omega) (by have := hg.2.1; omega)); clear hg)
          | (go_at_call 124; (with_reducible refine C3_.out.mono ?_); rintro e w3 ⟨C4, m4, d4, rfl, hg⟩; have m49 : m4 ≤ 800 := (by have := hg.isl.len; have := TS1.out.l2; have := M9.out; omega); have HB3 := Lib.hid (below_to HB2.out hg.bel); have I3 := Lib.hid (I2.out.below hg.bel); have G3 := Lib.hid hg.isl; have C4_ := Lib.hid (rBy C C4 m d m4 d4 mo _ p w3 I3.out G3.out IP.out (by omega) (by omega)); clear hg)
          | (go_at_call 125; (with_reducible refine C4_.out.mono ?_); rintro e w4 ⟨C5, m5, d5, rfl, hg, -⟩; have m59 : m5 ≤ 800 := (by have := hg.isl.len; have := TS1.out.l1; have := M9.out; omega); have HB4 := Lib.hid (below_to HB3.out hg.bel); have W4 := Lib.hid hg.isl; have G4 := Lib.hid (G3.out.below hg.bel); have C5_ := Lib.hid (rWithout C4 C5 m4 d4 m5 d5 _ _ p w4 G4.out W4.out IP.out PR.out TS1.out.m2 TS1.out.m1 (by omega) (by omega)); clear hg)
          | (go_at_call 126; (with_reducible refine C5_.out.mono ?_); rintro e w5 ⟨C6, m6, d6, rfl, u, hi, hu, hul, huv, hb⟩; have HU := Lib.hid hu; have UV := Lib.hid huv; have m69 : m6 ≤ 800 := (by have := hi.len; have := TS1.out.l2; have := M9.out; omega); have HB5 := Lib.hid (below_to HB4.out hb); have W5 := Lib.hid (W4.out.below hb); have C6_ := Lib.hid (IH.out C6 m6 d6 u w5 hi hu m69 (by have h7 := RSH.out u hu huv HD.out; have := hN2.out; omega)); clear hi hu hul huv hb)
          | (go_at_call 76; (with_reducible refine C6_.out.mono ?_); rintro e w6 ⟨C7, m7, d7, rfl, ho⟩; obtain ⟨⟨r, hr, hi⟩, hb⟩ := ho; have HR := Lib.hid (show IsRad p u r by { rw [monL_self PR.out HU.out] at hr; exact hr }); have m79 : m7 ≤ 800 := (by have h8 := Mn.len_le PR.out HR.out.1 HU.out (fun q hq => by rw [HR.out.2 q hq]; omega); have := hi.len; have h9 := rad_short PR.out HM.out HU.out UV.out HD.out; have := M9.out; omega); have HB6 := Lib.hid (below_to HB5.out hb); have C7_ := Lib.hid (times_got C5 C7 m5 d5 m7 d7 _ _ p w6 (W5.out.below hb) hi PR.out (by omega) (by omega)); clear hr hi hb)
          | (go_at_call 25; (with_reducible refine C7_.out.mono ?_); rintro e w7 ⟨C8, m8, d8, rfl, hg⟩; have G8 := Lib.hid hg; clear hg))
        go_ret
        exact ⟨_, _, _, rfl, RO.out _ _ _ _ _ _ (RM.out u r HR.out UV.out) G8.out.isl (below_to HB6.out G8.out.bel)⟩
end Go.Proofs.YtnkhhndjbanmnaaGreatDoor

/- ffac's calls by contract: Less, Irreducible, Split. -/
namespace Go.Proofs.YtnkhhndjbanmnaaGreatDoor
open Go.RowKit Go.Shelf Go.Lib

set_option maxRecDepth 100000 in
set_option maxHeartbeats 400000 in
theorem gLess (A B : Option Addr) (n c n' c' : Nat) (xs ys : List Int) (w : World) (h : ISl w A n c xs) (h' : ISl w B n' c' ys) (hn : n ≤ 17592186044416) :
    Calls Tryz.prog 20 #[.slice A n c, .slice B n' c'] w fun e w' => e = .returned (.bool (decide (ordI xs ys < 0))) ∧ Below w.heap.size w w' := by
  have CC := Lib.hid (gOrder A B n c n' c' xs ys w h h' hn)
  generalize ordI xs ys = r at *
  clear h h' hn
  go_enter Tryz.func20, Tryz.ntmps20
  go_wp2_with (go_at_call 36; (with_reducible refine CC.out.mono ?_); rintro e w' ⟨rfl, hb, _⟩)
  go_ret
  exact ⟨rfl, hb⟩

set_option maxRecDepth 100000 in
set_option maxHeartbeats 400000 in
theorem gIsSq (A : Option Addr) (n c : Nat) (xs : List Int) (p : Int) (w : World) (hT : TabAt w) (h : ISl w A n c xs) (ip : In64 p) (hn : n ≤ 800) :
    Calls Tryz.prog 37 #[.slice A n c, .int .i64 p] w fun e w' => e = .returned (.bool (sqB p (cf xs))) ∧ Below w.heap.size w w' := by
  have CC := Lib.hid (fIsTop A n c xs p w hT h ip hn)
  generalize sqB p (cf xs) = r at *
  generalize esq p (cf xs) = u at *
  clear hT h ip hn
  go_enter Tryz.func37, Tryz.ntmps37
  go_wp2_with (go_at_call 65; (with_reducible refine CC.out.mono ?_); rintro e w' ⟨rfl, hb⟩)
  go_ret
  exact ⟨rfl, hb⟩

theorem sqB_mn {p : Int} {xs : List Int} (hp : Pr p) (h : Mn p xs) : sqB p (cf xs) = true ↔ Sqf p xs := by
  unfold sqB
  rw [@decide_eq_true_iff _ (Classical.propDecidable _), monL_self hp h]
  exact ⟨fun k => k.2, fun k => ⟨esq_yes hp h.nz, k⟩⟩
/-- Can it not be parted? -/
noncomputable def irrB (p : Int) (f : Ser) : Bool := @decide (eff p f = 0 ∧ Irr p (cf (monL p f))) (Classical.propDecidable _)
theorem irrB_no {p : Int} {f : Ser} (h : eff p f ≠ 0) : irrB p f = false := @decide_eq_false _ (Classical.propDecidable _) fun k => h k.1
theorem irrB_iff {p : Int} {f : Ser} (h : eff p f = 0) : irrB p f = true ↔ Irr p (cf (monL p f)) := by
  unfold irrB
  rw [@decide_eq_true_iff _ (Classical.propDecidable _)]
  exact ⟨fun k => k.2, fun k => ⟨h, k⟩⟩
theorem irrB_is {p : Int} {f : Ser} (h : eff p f = 0) {b : Bool} (hb : b = true ↔ Irr p (cf (monL p f))) : irrB p f = b := by
  cases b with
  | true => exact (irrB_iff h).2 (hb.1 rfl)
  | false =>
    cases e : irrB p f with
    | false => rfl
    | true => exact absurd (hb.2 ((irrB_iff h).1 e)) (by decide)
theorem irr_sqf {p : Int} {xs : List Int} (hp : Pr p) (h : Irr p (cf xs)) : Sqf p xs := fun q hq => by
  by_cases e : Ser.Eq p q (cf xs)
  · rw [← V_congr e, V_self hp hq]; exact Nat.le_refl _
  · have : V p (cf xs) q = 0 := V_other hp hq h fun k => e k.symm
    omega
theorem own_irr_len {p : Int} {xs : List Int} {d : Nat} (hp : Pr p) (h : Mn p xs) (hn : xs.length = d + 1) (hs : Sqf p xs) (hP : EchOf p d (ownM p xs d) (ownP p xs d)) : (ownL p xs d).length = 1 ↔ Irr p (cf xs) := by
  rcases Nat.eq_zero_or_pos d with rfl | hd
  · refine ⟨fun k => absurd (show (0 : Nat) = 1 from k) (by decide), fun k => ?_⟩
    have := (h.len_one hp).1 (by omega) _ k
    rw [V_self hp k] at this
    exact absurd this (by decide)
  · exact own_one hp h hn hd hs hP
set_option maxRecDepth 100000 in
set_option maxHeartbeats 2000000 in
theorem gIrr (A : Option Addr) (n c : Nat) (xs : List Int) (p : Int) (w : World) (hT : TabAt w) (h : ISl w A n c xs) (ip : In64 p) (hn : n ≤ 17592186044416) :
    Calls Tryz.prog 13 #[.slice A n c, .int .i64 p] w fun e w' => e = .returned (.tuple #[.bool (irrB p (cf xs)), .int .i64 (eff p (cf xs))]) ∧ Below w.heap.size w w' := by
  have CM := gMon A n c xs p w hT h ip hn
  by_cases h0 : eff p (cf xs) = 0
  · obtain ⟨hp, hb, hl, _⟩ : Pr p ∧ ¬ Ser.Bd p (cf xs) 0 ∧ (monL p (cf xs)).length ≤ 65 ∧ True := by
      rcases eff_cases p (cf xs) with ⟨a, b, d, _⟩ | ⟨e, _⟩ | ⟨e, _⟩ | ⟨e, _⟩
      · exact ⟨a, b, d, trivial⟩
      all_goals rw [h0] at e; exact absurd e (by decide)
    have mn := (mn_monL hp hb).1
    have II := irrB_iff h0
    rw [okL_yes h0, h0] at CM
    rw [h0]
    have CC := Lib.hid CM
    have HM := Lib.hid mn
    have HT := Lib.hid hT
    have PR := Lib.hid hp
    have HL := Lib.hid hl
    obtain ⟨b, hbb⟩ : ∃ b, irrB p (cf xs) = b := ⟨_, rfl⟩
    rw [hbb] at II ⊢
    clear CM hT h ip hn h0 hp hb hl mn hbb
    generalize monL p (cf xs) = mo at *
    have SQ := Lib.hid (sqB_mn PR.out HM.out)
    obtain ⟨s, hs⟩ : ∃ s, sqB p (cf mo) = s := ⟨_, rfl⟩
    rw [hs] at SQ
    have HS := Lib.hid hs
    clear hs
    have S1 := Lib.hid (fun (C : Option Addr) (m d : Nat) (W : World) (hb : Below w.heap.size w W) (hi : ISl W C m d mo) => gIsSq C m d mo p W (HT.out.below hb) hi PR.out.md.in64 (by have := hi.len; have := HL.out; omega))
    rw [HS.out] at S1
    have II2 := Lib.hid II
    clear II
    cases s with
    | false =>
      have e : b = false := by
        cases b with
        | false => rfl
        | true => exact absurd (SQ.out.2 (irr_sqf PR.out (II2.out.1 rfl))) (by decide)
      subst e
      go_enter Tryz.func13, Tryz.ntmps13
      go_wp2_with (first
        | (go_at_call 31; (with_reducible refine CC.out.mono ?_); rintro e w1 ⟨C, m, d, rfl, hg⟩; have HB := Lib.hid hg.bel; have S2 := Lib.hid (S1.out C m d w1 hg.bel hg.isl); clear hg)
        | (go_at_call 37; (with_reducible refine S2.out.mono ?_); rintro e w2 ⟨rfl, hb2⟩; have HB2 := Lib.hid (below_to HB.out hb2); clear hb2)
        | fail)
      go_ret2
      exact ⟨rfl, HB2.out⟩
    | true =>
      have ss := SQ.out.1 rfl
      obtain ⟨d, hd⟩ : ∃ d, mo.length = d + 1 := ⟨mo.length - 1, by have := HM.out.pos; omega⟩
      have OI := Lib.hid (fun he => (own_irr_len PR.out HM.out hd ss he).trans II2.out.symm)
      have OW := Lib.hid (fun (C : Option Addr) (c : Nat) (W : World) (hb : Below w.heap.size w W) (hi : ISl W C (d + 1) c mo) => gOwn C c d mo p W (HT.out.below hb) hi PR.out HM.out (by have := HL.out; omega))
      have HD := Lib.hid hd
      generalize ownL p mo d = B at *
      clear ss hd II2 SQ
      go_enter Tryz.func13, Tryz.ntmps13
      go_wp2_with (first
        | (go_at_call 31; (with_reducible refine CC.out.mono ?_); rintro e w1 ⟨C, m, c1, rfl, hg⟩; have HB := Lib.hid hg.bel; obtain rfl : m = d + 1 := hg.isl.len.trans HD.out; have HI := Lib.hid hg.isl; have S2 := Lib.hid (S1.out C _ c1 w1 hg.bel hg.isl); clear hg)
        | (go_at_call 37; (with_reducible refine S2.out.mono ?_); rintro e w2 ⟨rfl, hb2⟩; have HB2 := Lib.hid (below_to HB.out hb2); have O2 := Lib.hid (OW.out C c1 w2 HB2.out (HI.out.below hb2)); clear hb2)
        | (go_at_call 38; (with_reducible refine O2.out.mono ?_); rintro e w3 ⟨Ao, ko, co, rfl, hm, he, hb3⟩; have HB3 := Lib.hid (below_to HB2.out hb3); have HK := Lib.hid hm.len; have HO := Lib.hid (OI.out he); clear hm he hb3)
        | fail)
      go_ret2
      refine ⟨?_, HB3.out⟩
      have := HO.out
      rw [← HK.out] at this
      have e9 : ((ko : Int) == 1) = b := by
        cases b with
        | true => have := this.2 rfl; simp; omega
        | false =>
          have h9 : ¬ ko = 1 := fun k => absurd (this.1 k) (by decide)
          simp; omega
      rw [← e9]; rfl
  · rw [okL_no h0] at CM
    have E := Lib.hid (irrB_no h0)
    have H0 : Hid ((eff p (cf xs) == 0) = false) := Lib.hid (by simpa using h0)
    have CC := Lib.hid CM
    rw [E.out]
    obtain ⟨u, hu⟩ : ∃ u, eff p (cf xs) = u := ⟨_, rfl⟩
    rw [hu] at CC H0 h0 ⊢
    clear CM hT h ip hn hu E
    go_enter Tryz.func13, Tryz.ntmps13
    go_wp2_with (go_at_call 31; (with_reducible refine CC.out.mono ?_); rintro e w1 ⟨C, m, d, rfl, hg⟩; have HB := Lib.hid hg.bel; clear hg)
    go_ret2
    exact ⟨rfl, HB.out⟩

/-! Of a squarefree one. -/
noncomputable def esf (p : Int) (f : Ser) : Int := if eff p f = 0 then (if sqB p (cf (monL p f)) = true then 0 else 1) else eff p f
theorem esf_no {p : Int} {f : Ser} (h : eff p f ≠ 0) : esf p f = eff p f := if_neg h
theorem esf_bad {p : Int} {f : Ser} (h : eff p f = 0) (hs : sqB p (cf (monL p f)) = false) : esf p f = 1 := by unfold esf; rw [if_pos h, if_neg (by rw [hs]; decide)]
theorem esf_yes {p : Int} {f : Ser} (h : eff p f = 0) (hs : sqB p (cf (monL p f)) = true) : esf p f = 0 := by unfold esf; rw [if_pos h, if_pos hs]
theorem esf_ne {p : Int} {f : Ser} (h : eff p f ≠ 0) : esf p f ≠ 0 := by rw [esf_no h]; exact h
theorem eff_mn {p : Int} {xs : List Int} (h : eff p (cf xs) = 0) : Pr p ∧ ¬ Ser.Bd p (cf xs) 0 ∧ Mn p (monL p (cf xs)) ∧ (monL p (cf xs)).length ≤ 65 := by
  rcases eff_cases p (cf xs) with ⟨a, b, d, _⟩ | ⟨e, _⟩ | ⟨e, _⟩ | ⟨e, _⟩
  · exact ⟨a, b, (mn_monL a b).1, d⟩
  all_goals rw [h] at e; exact absurd e (by decide)
/-- What it tells. -/
inductive SqSt (p : Int) (f : Ser) : Prop where
  | no (h : eff p f ≠ 0) (h2 : esf p f = eff p f)
  | bad (h : eff p f = 0) (h2 : esf p f = 1) (h3 : ¬ Sqf p (monL p f))
  | yes (h : eff p f = 0) (h2 : esf p f = 0) (h3 : Sqf p (monL p f))
theorem sqSt (p : Int) (xs : List Int) : SqSt p (cf xs) := by
  by_cases h : eff p (cf xs) = 0
  · obtain ⟨hp, _, hm, _⟩ := eff_mn h
    cases hs : sqB p (cf (monL p (cf xs))) with
    | true => exact .yes h (esf_yes h hs) ((sqB_mn hp hm).1 hs)
    | false => exact .bad h (esf_bad h hs) fun k => by rw [(sqB_mn hp hm).2 k] at hs; cases hs
  · exact .no h (esf_no h)
set_option maxRecDepth 100000 in
set_option maxHeartbeats 1000000 in
theorem gSqNo (A : Option Addr) (n c : Nat) (xs : List Int) (p : Int) (w : World) (hT : TabAt w) (h : ISl w A n c xs) (ip : In64 p) (hn : n ≤ 17592186044416) (h0 : esf p (cf xs) ≠ 0) :
    Calls Tryz.prog 39 #[.slice A n c, .int .i64 p] w fun e w' => e = .returned (.tuple #[nilv, .int .i64 (esf p (cf xs))]) ∧ Below w.heap.size w w' := by
  have CM := gMon A n c xs p w hT h ip hn
  rcases sqSt p xs with ⟨h1, h2⟩ | ⟨h1, h2, h3⟩ | ⟨h1, h2, h3⟩
  · rw [h2]
    have H0 : Hid ((eff p (cf xs) == 0) = false) := Lib.hid (by simpa using h1)
    have CC := Lib.hid CM
    generalize eff p (cf xs) = u at *
    clear CM hT h ip hn h2
    go_enter Tryz.func39, Tryz.ntmps39
    go_wp2_with (go_at_call 31; (with_reducible refine CC.out.mono ?_); rintro e w1 ⟨C, m, d, rfl, hg⟩; have HB := Lib.hid hg.bel; clear hg)
    go_ret2
    exact ⟨rfl, HB.out⟩
  · obtain ⟨hp, _, hm, hl⟩ := eff_mn h1
    rw [okL_yes h1, h1] at CM
    rw [h2]
    have CC := Lib.hid CM
    have HT := Lib.hid hT
    have SS : Hid (sqB p (cf (monL p (cf xs))) = false) := Lib.hid (by
      cases hs : sqB p (cf (monL p (cf xs))) with
      | true => exact absurd ((sqB_mn hp hm).1 hs) h3
      | false => rfl)
    have IP := Lib.hid ip
    have HL := Lib.hid hl
    clear CM hT h ip hn h2 h3 hp hm hl h1 h0
    generalize monL p (cf xs) = mo at *
    have S1 := Lib.hid (fun (C : Option Addr) (m d : Nat) (W : World) (hb : Below w.heap.size w W) (hi : ISl W C m d mo) => gIsSq C m d mo p W (HT.out.below hb) hi IP.out (by have := hi.len; have := HL.out; omega))
    rw [SS.out] at S1
    go_enter Tryz.func39, Tryz.ntmps39
    go_wp2_with (first
      | (go_at_call 31; (with_reducible refine CC.out.mono ?_); rintro e w1 ⟨C, m, d, rfl, hg⟩; have HB := Lib.hid hg.bel; have S2 := Lib.hid (S1.out C m d w1 hg.bel hg.isl); clear hg)
      | (go_at_call 37; (with_reducible refine S2.out.mono ?_); rintro e w2 ⟨rfl, hb2⟩; have HB2 := Lib.hid (below_to HB.out hb2); clear hb2)
      | fail)
    go_ret2
    exact ⟨rfl, HB2.out⟩
  · exact absurd h2 h0
set_option maxRecDepth 100000 in
set_option maxHeartbeats 1000000 in
theorem gSqOk (A : Option Addr) (n c : Nat) (xs : List Int) (p : Int) (w : World) (hT : TabAt w) (h : ISl w A n c xs) (ip : In64 p) (hn : n ≤ 17592186044416) (h0 : eff p (cf xs) = 0) (hs : Sqf p (monL p (cf xs))) :
    Calls Tryz.prog 39 #[.slice A n c, .int .i64 p] w fun e w' => ∃ C m d, e = .returned (.tuple #[.slice C m d, .int .i64 0]) ∧ ISl w' C m d (monL p (cf xs)) ∧ Below w.heap.size w w' := by
  have CM := gMon A n c xs p w hT h ip hn
  obtain ⟨hp, _, hm, hl⟩ := eff_mn h0
  rw [okL_yes h0, h0] at CM
  have CC := Lib.hid CM
  have HT := Lib.hid hT
  have SS := Lib.hid ((sqB_mn hp hm).2 hs)
  have IP := Lib.hid ip
  have HL := Lib.hid hl
  clear CM hT h ip hn hp hm hl h0 hs
  generalize monL p (cf xs) = mo at *
  have S1 := Lib.hid (fun (C : Option Addr) (m d : Nat) (W : World) (hb : Below w.heap.size w W) (hi : ISl W C m d mo) => gIsSq C m d mo p W (HT.out.below hb) hi IP.out (by have := hi.len; have := HL.out; omega))
  rw [SS.out] at S1
  go_enter Tryz.func39, Tryz.ntmps39
  go_wp2_with (first
    | (go_at_call 31; (with_reducible refine CC.out.mono ?_); rintro e w1 ⟨C, m, d, rfl, hg⟩; have HB := Lib.hid hg.bel; have HI := Lib.hid hg.isl; have S2 := Lib.hid (S1.out C m d w1 hg.bel hg.isl); clear hg)
    | (go_at_call 37; (with_reducible refine S2.out.mono ?_); rintro e w2 ⟨rfl, hb2⟩; have HB2 := Lib.hid (below_to HB.out hb2); have HI2 := Lib.hid (HI.out.below hb2); clear hb2)
    | fail)
  go_ret2
  exact ⟨C, m, d, rfl, HI2.out, HB2.out⟩
theorem gSortRow0 (A : Option Addr) (c : Nat) (w : World) :
    Calls Tryz.prog 40 #[.slice A 0 c, .func (.func 36) #[] #[]] w fun e w' => e = .returned (.tuple #[]) ∧ w' = w :=
  AnyF.slices_SortFunc_none { Tryz.sortRow with } A c _ w
theorem below_grown {w0 w w' : World} {b : Nat} (h : Below w0.heap.size w0 w) (hb : w0.heap.size ≤ b) (hg : w.grownBy w' (some b)) : Below w0.heap.size w0 w' :=
  h.grown hg h.size fun k e => by simp only [Option.some.injEq] at e; omega
theorem facs_short {p : Int} {xs : List Int} {F : List (List Int)} (hp : Pr p) (hx : Mn p xs) (h : Facs p xs F) : F.length ≤ xs.length ∧ ∀ f ∈ F, f.length ≤ xs.length := by
  have hs : Spl p xs F := ⟨fun f hf => ⟨(h.irr f hf).1, (h.irr f hf).2.1⟩, h.v⟩
  exact ⟨by have := hs.sum_le hp hx; omega, spl_len hp hx hs⟩
/-- Sorted, where they lie. -/
theorem gSorted (w0 w : World) (bx : Nat) (v : Value) (F : List (List Int)) (xs : List Int) (p : Int) (hF : FacAt none w bx v F) (hfr : FreshV w0 v) (hb : Below w0.heap.size w0 w) (hp : Pr p) (hx : Mn p xs) (hs : Sqf p xs) (h65 : xs.length ≤ 65) (h : Facs p xs F) :
    Calls Tryz.prog 40 #[v, .func (.func 36) #[] #[]] w fun e w' => e = .returned (.tuple #[]) ∧ ∃ G A c, v = .slice A G.length c ∧ MatAt w' A G.length c G ∧ SFac p xs G ∧ Below w0.heap.size w0 w' := by
  obtain ⟨A, c, vs, rfl, h1, h2, h3, h4⟩ := hF
  obtain ⟨l1, l2⟩ := facs_short hp hx h
  rcases Nat.eq_zero_or_pos F.length with h0 | h0
  · have e0 := List.eq_nil_of_length_eq_zero h0
    subst e0
    refine (gSortRow0 A c w).mono ?_
    rintro e w' ⟨rfl, rfl⟩
    exact ⟨rfl, [], A, c, rfl, ⟨vs, h1, rfl, fun i hi => absurd hi (Nat.not_lt_zero _)⟩, ⟨h, List.Pairwise.nil⟩, hb⟩
  · obtain ⟨b, o, rfl, hlt, hc⟩ := h1.at_ h0
    have hfz := h3 h0 b o none rfl
    have hfb := hfr _ _ _ rfl b o none rfl
    refine (gSortRows b o c F w hlt hfz (fun i hi => ?_) (by omega)).mono ?_
    · obtain ⟨C, k, d, e1, e2, _, _, e5⟩ := h4 i hi
      exact ⟨C, k, d, by rw [hc i hi, e1], e2, e5, by have := l2 _ (getD_memL hi); omega⟩
    · rintro e w' ⟨rfl, G, g1, g2, g3, g4⟩
      have hl := g1.length_eq
      refine ⟨rfl, G, _, c, by rw [hl], ?_, facs_sort hp hs h g1 g2, below_grown hb hfb g3⟩
      refine ⟨(List.range G.length).map fun i => (w'.cell? ⟨b, o + i, none⟩).getD nilv, ?_, rfl, fun i hi => ?_⟩
      · refine ⟨by simp, by rw [hl]; exact h1.le, h1.max, fun e => (by cases e), fun u hu => ?_, .inr ⟨b, o, rfl, Nat.lt_of_lt_of_le hlt g3.size, fun j hj => ?_⟩⟩
        · obtain ⟨i, hi, rfl⟩ := List.mem_map.1 hu
          obtain ⟨C, k, d, k1, _⟩ := g4 i (List.mem_range.1 hi)
          rw [k1]
          exact ⟨_, _, _, rfl⟩
        · rw [List.length_map, List.length_range] at hj
          obtain ⟨C, k, d, k1, _⟩ := g4 j hj
          rw [List.getElem_map, List.getElem_range, k1]; rfl
      · obtain ⟨C, k, d, k1, k2⟩ := g4 i hi
        refine ⟨C, k, d, ?_, k2⟩
        rw [List.getD_eq_getElem?_getD, List.getElem?_map, List.getElem?_range hi]
        simp [k1]
set_option maxRecDepth 100000 in
set_option maxHeartbeats 1000000 in
theorem gSplitNo (A D : Option Addr) (n c nd cd : Nat) (xs : List Int) (p : Int) (w : World) (hT : TabAt w) (h : ISl w A n c xs) (ip : In64 p) (hn : n ≤ 17592186044416) (h0 : esf p (cf xs) ≠ 0) :
    Calls Tryz.prog 14 #[.slice A n c, .int .i64 p, .slice D nd cd] w fun e w' => e = .returned (.tuple #[nilv, .int .i64 (esf p (cf xs))]) ∧ Below w.heap.size w w' := by
  have CC := Lib.hid (gSqNo A n c xs p w hT h ip hn h0)
  have H0 : Hid ((esf p (cf xs) == 0) = false) := Lib.hid (by simpa using h0)
  generalize esf p (cf xs) = u at *
  clear hT h ip hn
  go_enter Tryz.func14, Tryz.ntmps14
  go_wp2_with (go_at_call 39; (with_reducible refine CC.out.mono ?_); rintro e w1 ⟨rfl, hb⟩; have HB := Lib.hid hb; clear hb)
  go_ret2
  exact ⟨rfl, HB.out⟩
set_option maxRecDepth 100000 in
set_option maxHeartbeats 1000000 in
theorem gSplitOk (A D : Option Addr) (n c nd cd : Nat) (xs ds : List Int) (p : Int) (w : World) (hT : TabAt w) (h : ISl w A n c xs) (hD : ISl w D nd cd ds) (ip : In64 p) (hn : n ≤ 17592186044416) (h0 : eff p (cf xs) = 0) (hs : Sqf p (monL p (cf xs))) :
    Calls Tryz.prog 14 #[.slice A n c, .int .i64 p, .slice D nd cd] w fun e w' => ∃ G A' c', e = .returned (.tuple #[.slice A' G.length c', .int .i64 0]) ∧ MatAt w' A' G.length c' G ∧ SFac p (monL p (cf xs)) G ∧ Below w.heap.size w w' := by
  have CC := Lib.hid (gSqOk A n c xs p w hT h ip hn h0 hs)
  obtain ⟨hp, _, hm, hl⟩ := eff_mn h0
  have HT := Lib.hid hT
  have HD := Lib.hid hD
  have PR := Lib.hid hp
  have HM := Lib.hid hm
  have HL := Lib.hid hl
  have HS := Lib.hid hs
  have hcl := hD.le
  have hcm := hD.max
  clear hT h hD ip hn h0 hs hp hm hl
  generalize monL p (cf xs) = mo at *
  go_enter Tryz.func14, Tryz.ntmps14
  go_wp2_with (first
    | (go_at_call 39; (with_reducible refine CC.out.mono ?_); rintro e w1 ⟨C, m, d, rfl, hi, hb⟩; have HB := Lib.hid hb; have S2 := Lib.hid (gSplit (ox := none) C D m d nd cd mo ds p w1 (HT.out.below hb) hi (HD.out.below hb) PR.out HM.out HS.out (by have := hi.len; have := HL.out; omega) (fun k e => (by cases e)) (fun _ _ _ _ e => (by cases e))); clear hb hi)
    | (go_at_call 33; (with_reducible refine S2.out.mono ?_); rintro e w2 ⟨v, F, bx, rfl, hF, hfr, hfc, hb⟩; obtain ⟨A2, c2, e2, -⟩ := hF.open_; subst e2; have S3 := Lib.hid (gSorted w w2 bx _ F mo p hF (fun C m d e => (hfr C m d e).after HB.out.size) (below_to HB.out hb) PR.out HM.out HS.out HL.out hfc); clear hF hfr hfc hb)
    | (go_at_call 40; (with_reducible refine S3.out.mono ?_); rintro e w3 ⟨rfl, G, A3, c3, e3, hm3, hs3, hb3⟩; have HM3 := Lib.hid hm3; have HS3 := Lib.hid hs3; have HB3 := Lib.hid hb3; clear hm3 hs3 hb3)
    | fail)
  go_ret2
  simp only [Value.slice.injEq] at e3
  obtain ⟨rfl, e4, rfl⟩ := e3
  exact ⟨G, _, _, rfl, HM3.out, HS3.out, HB3.out⟩
end Go.Proofs.YtnkhhndjbanmnaaGreatDoor

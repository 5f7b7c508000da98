/- Texts joined, in their order: RefSq, RefSqP, FaSpl. -/
import Derived.Test.YtnkhhndjbanmnaaGreatDoorMn40
import Derived.Test.YtnkhhndjbanmnaaGreatDoorMn45
import Derived.Test.YtnkhhndjbanmnaaGreatDoorMn47

/- The document's radical by contract: what is wrong, quotients, what is left without common factors, the radical. -/
namespace Go.Proofs.YtnkhhndjbanmnaaGreatDoor
open Go.RowKit

set_option maxRecDepth 100000 in
set_option maxRecDepth 100000 in
set_option maxHeartbeats 1000000 in
theorem rWrong (A : Option Addr) (n c : Nat) (xs : List Int) (p : Int) (w : World) (h : ISl w A n c xs) (ip : In64 p) (hn : n ≤ 1000) :
    Calls Tryz.prog 75 #[.slice A n c, .int .i64 p] w fun e w' => e = .returned (.int .i64 (esq p (cf xs))) ∧ Below w.heap.size w w' := by
  have C := refCheck_any p w ip.1 ip.2
  rcases Classical.em (Pr p) with hp | hp
  · rw [chk_yes (primB_yes hp)] at C
    have CC := Lib.hid C
    have PL := Lib.hid (plain_any A n c xs p w h hp.md (by omega))
    rcases Classical.em (Ser.Bd p (cf xs) 0) with hb | hb
    · rw [esq_zero hp hb]
      have NZ := Lib.hid (fun ys (k : Pol p ys (cf xs)) => (k.nought (by have := hp.1; omega)).2 hb)
      clear C h ip hp hb
      go_enter Tryz.func75, Tryz.ntmps75
      go_wp2_with (first
        | (go_at_call 30; (with_reducible refine CC.out.mono ?_); rintro e w1 ⟨rfl, rfl⟩)
        | (go_at_call 23; (with_reducible refine PL.out.mono ?_); rintro e w2 ⟨v, rfl, C2, m2, d2, ys, rfl, hi, hpl, -, -, hb2⟩; obtain rfl : m2 = 0 := by { have := hi.len; rw [NZ.out ys hpl] at this; exact this }; have HB := Lib.hid hb2; clear hi hpl hb2))
      go_ret
      exact ⟨rfl, HB.out⟩
    · rw [esq_yes hp hb]
      have NZ := Lib.hid (fun ys (k : Pol p ys (cf xs)) => fun e => hb ((k.nought (by have := hp.1; omega)).1 e))
      clear C h ip hp hb
      go_enter Tryz.func75, Tryz.ntmps75
      go_wp2_with (first
        | (go_at_call 30; (with_reducible refine CC.out.mono ?_); rintro e w1 ⟨rfl, rfl⟩)
        | (go_at_call 23; (with_reducible refine PL.out.mono ?_); rintro e w2 ⟨v, rfl, C2, m2, d2, ys, rfl, hi, hpl, -, -, hb2⟩; have hm : ((m2 : Int) == 0) = false := by { have h1 := hi.len; have h2 := NZ.out ys hpl; have h3 : ys.length ≠ 0 := fun e => h2 (List.eq_nil_of_length_eq_zero e); simp; omega }; have HB := Lib.hid hb2; clear hi hpl hb2))
      go_ret
      exact ⟨rfl, HB.out⟩
  · rw [chk_no (primB_no hp)] at C
    have CC := Lib.hid C
    rw [esq_no hp]
    clear C h ip hp
    go_enter Tryz.func75, Tryz.ntmps75
    go_wp2_with (go_at_call 30; (with_reducible refine CC.out.mono ?_); rintro e w1 ⟨rfl, rfl⟩)
    go_ret
    exact ⟨rfl, Below.refl _ _⟩
set_option maxRecDepth 100000 in
set_option maxRecDepth 100000 in
set_option maxHeartbeats 400000 in
theorem rBy (A B : Option Addr) (n c n' c' : Nat) (xs ys : List Int) (p : Int) (w : World) (h : ISl w A n c xs) (h' : ISl w B n' c' ys) (ip : In64 p) (hn : n ≤ 1000) (hn' : n' ≤ 1000) :
    Calls Tryz.prog 125 #[.slice A n c, .slice B n' c', .int .i64 p] w fun e w' => ∃ C m d, e = .returned (.slice C m d) ∧ Got w C m d (quoL p (cf xs) (cf ys)) (n + 1) w' ∧ FreshA w C := by
  have CC := Lib.hid (rDiv_new A B n c n' c' xs ys p w h h' ip (by omega) (by omega))
  generalize ediv p (cf ys) = u at *
  clear h h' ip hn hn'
  go_enter Tryz.func125, Tryz.ntmps125
  go_wp2_with (go_at_call 44; (with_reducible refine CC.out.mono ?_); rintro e w' ⟨C, m, d, C', m', d', rfl, hg, -, hf⟩)
  go_ret
  exact ⟨C, m, d, rfl, hg, hf⟩
set_option maxRecDepth 100000 in
set_option maxRecDepth 100000 in
set_option maxHeartbeats 2000000 in
theorem rWithout (A B : Option Addr) (n c n' c' : Nat) (xs ys : List Int) (p : Int) (w : World) (h : ISl w A n c xs) (h' : ISl w B n' c' ys) (ip : In64 p) (hp : Pr p) (hx : Mn p xs) (hy : Mn p ys) (hn : n ≤ 900) (hn' : n' ≤ 900) :
    Calls Tryz.prog 126 #[.slice A n c, .slice B n' c', .int .i64 p] w fun e w' => ∃ C m d, e = .returned (.slice C m d) ∧ ∃ u, ISl w' C m d u ∧ Mn p u ∧ u.length ≤ xs.length ∧ (∀ q, Irr p q → V p (cf u) q = if V p (cf ys) q = 0 then V p (cf xs) q else 0) ∧ Below w.heap.size w w' := by
  have G1 := Lib.hid (rGcd A B n c n' c' xs ys p w h h' ip (by omega) (by omega))
  generalize chk p = u at *
  have H := Lib.hid h
  have H' := Lib.hid h'
  have IP := Lib.hid ip
  have PR := Lib.hid hp
  have HX := Lib.hid hx
  have HY := Lib.hid hy
  have XL := Lib.hid h.len
  have GC := Lib.hid (fun (C : Option Addr) (m d : Nat) (zs : List Int) (W : World) (hz : ISl W C m d zs) (hb : Below w.heap.size w W) (hm : m ≤ 900) => rGcd C B m d n' c' zs ys p W hz (h'.below hb) ip (by omega) (by omega))
  clear h h' ip hp hx hy
  go_enter Tryz.func126, Tryz.ntmps126
  go_wp2_with (go_at_call 124; (with_reducible refine G1.out.mono ?_); rintro e w1 ⟨Cg, mg, dg, rfl, hg⟩; have GI := Lib.hid hg.isl; have GB := Lib.hid hg.bel; clear hg)
  go_loopw [0, 7] (fun va vg wr => ∃ (Ca : Option Addr) (na ca : Nat) (cur : List Int) (Cg : Option Addr) (mg dg : Nat), va = .slice Ca na ca ∧ vg = .slice Cg mg dg ∧ Hid (WO p xs ys cur) ∧ Hid (ISl wr Ca na ca cur) ∧ Hid (ISl wr Cg mg dg (bezG p (cf cur) (cf ys))) ∧ Hid (Below w.heap.size w wr)) (fun va _ _ => slLen va)
  case atStart => exact ⟨A, n, c, xs, Cg, mg, dg, rfl, rfl, Lib.hid (wo_start HX.out), Lib.hid (H.out.below GB.out), GI, GB⟩
  case round =>
    obtain ⟨Ca, na, ca, cur, Cg', mg', dg', rfl, rfl, WW, IA, IG, BB⟩ := hrel
    clear GI GB
    obtain ⟨g1, g2, _⟩ := mn_gcd PR.out WW.out.mn HY.out
    have gp := g1.pos
    have gl := IG.out.len
    have al := IA.out.len
    have na9 : na ≤ 900 := by have := WW.out.l; have := XL.out; omega
    have mg9 : mg' ≤ 900 := by omega
    by_cases h1 : mg' = 1
    · have DN := Lib.hid (WW.out.done PR.out HY.out (by rw [← gl]; exact h1))
      have i1 : ¬ (1 : Int) < (mg' : Int) := by omega
      clear g1 g2 gp gl al
      go_wp2_with fail
      go_ret
      exact ⟨Ca, na, ca, rfl, cur, IA.out, WW.out.mn, WW.out.l, DN.out, BB.out⟩
    · have i1 : (1 : Int) < (mg' : Int) := by omega
      have BY1 := Lib.hid (rBy Ca Cg' na ca mg' dg' cur _ p wr IA.out IG.out IP.out (by omega) (by omega))
      obtain ⟨n1, n2⟩ := WW.out.next PR.out HY.out
      have N1 := Lib.hid n1
      have N2 := Lib.hid (n2 (by rw [← gl]; exact h1))
      have AL := Lib.hid al
      clear g1 g2 gp gl n1 n2 h1 al
      go_wp2_with (first
        | (go_at_call 125; (with_reducible refine BY1.out.mono ?_); rintro e w3 ⟨Cq, mq, dq, rfl, hg, -⟩; have QI := Lib.hid hg.isl; have QB := Lib.hid (below_to BB.out hg.bel); have lq : mq < na := (by have := N2.out; have := AL.out; have := hg.isl.len; omega); have GQ := Lib.hid (GC.out Cq mq dq _ w3 hg.isl QB.out (by omega)); clear hg)
        | (go_at_call 124; (with_reducible refine GQ.out.mono ?_); rintro e w4 ⟨C4, m4, d4, rfl, hg⟩; have I4 := Lib.hid hg.isl; have Q4 := Lib.hid (QI.out.below hg.bel); have B4 := Lib.hid (below_to QB.out hg.bel); clear hg))
      go_roundw
      case rel => exact ⟨Cq, mq, dq, _, C4, m4, d4, rfl, rfl, N1, Q4, I4, B4⟩
      case measure => simp [slLen]; omega

structure RadO (p : Int) (f : Ser) (w : World) (C : Option Addr) (m d : Nat) (w' : World) : Prop where
  r : ∃ r, IsRad p (monL p f) r ∧ ISl w' C m d r
  be : Below w.heap.size w w'
theorem times_got (A B : Option Addr) (n c n' c' : Nat) (xs ys : List Int) (p : Int) (w : World) (h : ISl w A n c xs) (h' : ISl w B n' c' ys) (hp : Pr p) (hn : n ≤ 1000) (hn' : n' ≤ 1000) :
    Calls Tryz.prog 25 #[.slice A n c, .slice B n' c', .int .i64 p] w fun e w' => ∃ C m d, e = .returned (.slice C m d) ∧ Got w C m d (polL p (Ser.mul (cf xs) (cf ys))) (n + n') w' := by
  refine (times_any A B n c n' c' xs ys p w h h' hp.md (by omega) (by omega)).mono ?_
  rintro e w' ⟨v, rfl, ho⟩
  obtain ⟨C, m, d, rfl, hg⟩ := polIn_got (L := polL p (Ser.mul (cf xs) (cf ys))) ho.in_.1 ho.in_.2 (Nat.le_refl _) (fun ys hy => polL_is hp hy)
  exact ⟨C, m, d, rfl, hg⟩

set_option maxRecDepth 100000 in
set_option maxRecDepth 100000 in
set_option maxHeartbeats 4000000 in
theorem rRad : ∀ (N : Nat) (A : Option Addr) (n c : Nat) (xs : List Int) (p : Int) (w : World), ISl w A n c xs → In64 p → Pr p → ¬ Ser.Bd p (cf xs) 0 → n ≤ 800 → (monL p (cf xs)).length ≤ N →
    Calls Tryz.prog 76 #[.slice A n c, .int .i64 p] w fun e w' => ∃ C m d, e = .returned (.slice C m d) ∧ RadO p (cf xs) w C m d w' := by
  intro N
  induction N with
  | zero =>
    intro A n c xs p w h ip hp hb hn hN
    have := (mn_monL hp hb).1.pos
    omega
  | succ N ih =>
    intro A n c xs p w h ip hp hb hn hN
    have CM := rMonic A n c xs p w h ip (by omega)
    rw [chk_yes (primB_yes hp)] at CM
    have CC := Lib.hid CM
    obtain ⟨m1, m2, m3⟩ := mn_monL hp hb
    have XL := h.len
    have l9 : (monL p (cf xs)).length ≤ 800 := by omega
    have E0 := Lib.hid (show RadO p (cf xs) = RadO p (cf xs) from rfl)
    have RO := Lib.hid (fun (w : World) (C : Option Addr) (m d : Nat) (w' : World) (r : List Int) (h1 : IsRad p (monL p (cf xs)) r) (h2 : ISl w' C m d r) (h3 : Below w.heap.size w w') => (⟨⟨r, h1, h2⟩, h3⟩ : RadO p (cf xs) w C m d w'))
    generalize RadO p (cf xs) = RR at *
    generalize monL p (cf xs) = mo at *
    have HM := Lib.hid m1
    have IP := Lib.hid ip
    have PR := Lib.hid hp
    have M9 := Lib.hid l9
    have DV := Lib.hid (fun (C : Option Addr) (m d : Nat) (W : World) (hi : ISl W C m d mo) (hm : m ≤ 800) => rDeriv C m d mo p W hi ip (by omega))
    have c1 := chk_yes (primB_yes hp)
    rw [c1] at DV
    have GC := Lib.hid (fun (A B : Option Addr) (n c n' c' : Nat) (xs ys : List Int) (W : World) (h : ISl W A n c xs) (h' : ISl W B n' c' ys) (hn : n ≤ 1000) (hn' : n' ≤ 1000) => rGcd A B n c n' c' xs ys p W h h' ip hn hn')
    rw [c1] at GC
    have IH := Lib.hid (fun (C : Option Addr) (m d : Nat) (zs : List Int) (W : World) (hi : ISl W C m d zs) (hz : Mn p zs) (hm : m ≤ 800) (hl : zs.length ≤ N) => ih C m d zs p W hi ip hp hz.nz hm (by rw [monL_self hp hz]; exact hl))
    clear CM h ip hp hb m1 m2 m3 XL l9 ih c1 E0
    have hN2 := Lib.hid hN
    clear hN
    by_cases h1 : mo.length = 1
    · have RC := Lib.hid (rad_const PR.out HM.out h1)
      go_enter Tryz.func76, Tryz.ntmps76
      go_wp2_with (go_at_call 43; (with_reducible refine CC.out.mono ?_); rintro e w1 ⟨C, m, d, rfl, hg⟩; obtain rfl : m = 1 := (by have := hg.isl.len; omega); have HB := Lib.hid hg.bel; clear hg)
      go_ret
      exact ⟨_, _, _, rfl, RO.out _ _ _ _ _ [1] RC.out ((iblk_list w1 [1] (fi_one (by unfold In64; decide))).sl (by simp)) (HB.out.alloc HB.out.size _)⟩
    · have H1 := Lib.hid h1
      clear h1
      by_cases hd : polL p (Ser.der (cf mo)) = []
      · obtain ⟨r1, r2⟩ := root_lt PR.out HM.out H1.out hd
        have R1 := Lib.hid r1
        have R2 := Lib.hid r2
        have RRT := Lib.hid (fun r => rad_root (r := r) PR.out HM.out hd)
        have HD := Lib.hid hd
        clear r1 r2 hd
        go_enter Tryz.func76, Tryz.ntmps76
        go_wp2_with (first
          | (go_at_call 43; (with_reducible refine CC.out.mono ?_); rintro e w1 ⟨C, m, d, rfl, hg⟩; have ml := hg.isl.len; have hm1 : ¬ (m : Int) ≤ 1 := (by have := H1.out; have := HM.out.pos; omega); have m9 : m ≤ 800 := (by have := M9.out; omega); have HI := Lib.hid hg.isl; have HB := Lib.hid hg.bel; have C2 := Lib.hid (DV.out C m d w1 HI.out m9); clear hg ml)
          | (go_at_call 122; (with_reducible refine C2.out.mono ?_); rintro e w2 ⟨C3, m3, d3, rfl, hg⟩; obtain rfl : m3 = 0 := (by have := hg.isl.len; rw [HD.out] at this; exact this); have HB2 := Lib.hid (below_to HB.out hg.bel); have C3_ := Lib.hid (rRoot C m d mo p w2 (HI.out.below hg.bel) PR.out (by omega)); clear hg)
          | (go_at_call 123; (with_reducible refine C3_.out.mono ?_); rintro e w3 ⟨C4, m4, d4, rfl, hi, hb⟩; have HB3 := Lib.hid (below_to HB2.out hb); have C4_ := Lib.hid (IH.out C4 m4 d4 _ w3 hi R1.out (by have := hi.len; have := R2.out; have := M9.out; omega) (by have := R2.out; have := hN2.out; omega)); clear hi hb)
          | (go_at_call 76; (with_reducible refine C4_.out.mono ?_); rintro e w4 ⟨C5, m5, d5, rfl, ho⟩; have OO := Lib.hid ho; clear ho))
        go_ret
        obtain ⟨⟨r, hr, hi⟩, hb⟩ := OO.out
        rw [monL_self PR.out R1.out] at hr
        exact ⟨_, _, _, rfl, RO.out _ _ _ _ _ r (RRT.out r hr) hi (below_to HB3.out hb)⟩
      · have HD := Lib.hid hd
        have ts := ts_start PR.out HM.out
        have TS1 := Lib.hid ts
        have RM := Lib.hid (fun u r (hr : IsRad p u r) => rad_more PR.out HM.out hr)
        have RSH := Lib.hid (fun u (hu : Mn p u) => rad_short PR.out HM.out hu)
        have QL := Lib.hid (mn_quo PR.out HM.out ts.m2 (fun q hq => by
          rw [(mn_gcdD PR.out HM.out).2.2 q hq]; split <;> omega)).2.1
        clear hd ts
        go_enter Tryz.func76, Tryz.ntmps76
        go_wp2_with (first
          | (go_at_call 43; (with_reducible refine CC.out.mono ?_); rintro e w1 ⟨C, m, d, rfl, hg⟩; have ml := hg.isl.len; have hm1 : ¬ (m : Int) ≤ 1 := (by have := H1.out; have := HM.out.pos; omega); have m9 : m ≤ 800 := (by have := M9.out; omega); have HI := Lib.hid hg.isl; have HB := Lib.hid hg.bel; have C2 := Lib.hid (DV.out C m d w1 HI.out m9); clear hg ml)
          | (go_at_call 122; (with_reducible refine C2.out.mono ?_); rintro e w2 ⟨C3, m3, d3, rfl, hg⟩; have hm3 : ((m3 : Int) == 0) = false := (by have h5 := hg.isl.len; have h6 : (polL p (Ser.der (cf mo))).length ≠ 0 := fun e => HD.out (List.eq_nil_of_length_eq_zero e); simp; omega); have HB2 := Lib.hid (below_to HB.out hg.bel); have I2 := Lib.hid (HI.out.below hg.bel); have C3_ := Lib.hid (GC.out C C3 m d m3 d3 mo _ w2 I2.out hg.isl (by omega) (by have := hg.2.1; omega)); clear hg)
          | (go_at_call 124; (with_reducible refine C3_.out.mono ?_); rintro e w3 ⟨C4, m4, d4, rfl, hg⟩; have m49 : m4 ≤ 800 := (by have := hg.isl.len; have := TS1.out.l2; have := M9.out; omega); have HB3 := Lib.hid (below_to HB2.out hg.bel); have I3 := Lib.hid (I2.out.below hg.bel); have G3 := Lib.hid hg.isl; have C4_ := Lib.hid (rBy C C4 m d m4 d4 mo _ p w3 I3.out G3.out IP.out (by omega) (by omega)); clear hg)
          | (go_at_call 125; (with_reducible refine C4_.out.mono ?_); rintro e w4 ⟨C5, m5, d5, rfl, hg, -⟩; have m59 : m5 ≤ 800 := (by have := hg.isl.len; have := TS1.out.l1; have := M9.out; omega); have HB4 := Lib.hid (below_to HB3.out hg.bel); have W4 := Lib.hid hg.isl; have G4 := Lib.hid (G3.out.below hg.bel); have C5_ := Lib.hid (rWithout C4 C5 m4 d4 m5 d5 _ _ p w4 G4.out W4.out IP.out PR.out TS1.out.m2 TS1.out.m1 (by omega) (by omega)); clear hg)
          | (go_at_call 126; (with_reducible refine C5_.out.mono ?_); rintro e w5 ⟨C6, m6, d6, rfl, u, hi, hu, hul, huv, hb⟩; have HU := Lib.hid hu; have UV := Lib.hid huv; have m69 : m6 ≤ 800 := (by have := hi.len; have := TS1.out.l2; have := M9.out; omega); have HB5 := Lib.hid (below_to HB4.out hb); have W5 := Lib.hid (W4.out.below hb); have C6_ := Lib.hid (IH.out C6 m6 d6 u w5 hi hu m69 (by have h7 := RSH.out u hu huv HD.out; have := hN2.out; omega)); clear hi hu hul huv hb)
          | (go_at_call 76; (with_reducible refine C6_.out.mono ?_); rintro e w6 ⟨C7, m7, d7, rfl, ho⟩; obtain ⟨⟨r, hr, hi⟩, hb⟩ := ho; have HR := Lib.hid (show IsRad p u r by { rw [monL_self PR.out HU.out] at hr; exact hr }); have m79 : m7 ≤ 800 := (by have h8 := Mn.len_le PR.out HR.out.1 HU.out (fun q hq => by rw [HR.out.2 q hq]; omega); have := hi.len; have h9 := rad_short PR.out HM.out HU.out UV.out HD.out; have := M9.out; omega); have HB6 := Lib.hid (below_to HB5.out hb); have C7_ := Lib.hid (times_got C5 C7 m5 d5 m7 d7 _ _ p w6 (W5.out.below hb) hi PR.out (by omega) (by omega)); clear hr hi hb)
          | (go_at_call 25; (with_reducible refine C7_.out.mono ?_); rintro e w7 ⟨C8, m8, d8, rfl, hg⟩; have G8 := Lib.hid hg; clear hg))
        go_ret
        exact ⟨_, _, _, rfl, RO.out _ _ _ _ _ _ (RM.out u r HR.out UV.out) G8.out.isl (below_to HB6.out G8.out.bel)⟩
end Go.Proofs.YtnkhhndjbanmnaaGreatDoor

/- The document's calls of layer 8 by contract, named as the program's are; whether polynomials, and parts, are the same; the program's parts as the document's. -/
namespace Go.Proofs.YtnkhhndjbanmnaaGreatDoor
open Go.RowKit

theorem cf_inj {xs ys : List Int} (hl : xs.length = ys.length) (h : ∀ j, j < xs.length → cf xs j = cf ys j) : xs = ys := by
  refine cf_ext hl fun i => ?_
  rcases Nat.lt_or_ge i xs.length with hi | hi
  · exact h i hi
  · rw [cf_over hi, cf_over (by omega)]
set_option maxRecDepth 100000 in
set_option maxRecDepth 100000 in
set_option maxHeartbeats 2000000 in
theorem rSame (A B : Option Addr) (n c n' c' : Nat) (xs ys : List Int) (w : World) (h : ISl w A n c xs) (h' : ISl w B n' c' ys) :
    Calls Tryz.prog 24 #[.slice A n c, .slice B n' c'] w fun e w' => e = .returned (.bool (decide (xs = ys))) ∧ Below w.heap.size w w' := by
  have hle := h.le
  have hmx := h.max
  have hle' := h'.le
  have hmx' := h'.max
  have H := Lib.hid h
  have H' := Lib.hid h'
  have XL := Lib.hid h.len
  have YL := Lib.hid h'.len
  by_cases hn : n = n'
  · subst hn
    have EQ := Lib.hid (fun (hj : ∀ j, j < n → cf xs j = cf ys j) => decide_eq_true (p := xs = ys) (cf_inj (by rw [← XL.out, ← YL.out]) (fun j hj2 => hj j (by rw [XL.out]; exact hj2))))
    have NE := Lib.hid (fun (k : Nat) (hk : cf xs k ≠ cf ys k) => decide_eq_false (p := xs = ys) (fun e => hk (by rw [e])))
    generalize decide (xs = ys) = bb at *
    clear h h'
    go_enter Tryz.func24, Tryz.ntmps24
    go_wp2
    go_loopw [5] (fun i wr => ∃ k : Nat, k ≤ n ∧ i = .int .i64 k ∧ Hid (∀ j, j < k → cf xs j = cf ys j) ∧ Below w.heap.size w wr) (fun i _ => n - (intOf i).toNat)
    case atStart => exact ⟨0, Nat.zero_le _, rfl, Lib.hid (fun j hj => absurd hj (Nat.not_lt_zero _)), Below.refl _ _⟩
    case round =>
      obtain ⟨k, hk, rfl, hz, hb⟩ := hrel
      by_cases hlt : k < n
      · obtain ⟨b, o, rfl, hl1, hca⟩ := H.out.cf_ (by omega)
        obtain ⟨b', o', rfl, hl2, hcb⟩ := H'.out.cf_ (by omega)
        have h1 := hca k hlt
        have h2 := hcb k hlt
        rw [← hb.cell (p := ⟨b, o + k, none⟩) hl1] at h1
        rw [← hb.cell (p := ⟨b', o' + k, none⟩) hl2] at h2
        by_cases he : cf xs k = cf ys k
        · have HE := Lib.hid he
          rw [← he] at h2
          clear he
          obtain ⟨x, hx⟩ : ∃ x, cf xs k = x := ⟨_, rfl⟩
          rw [hx] at h1 h2
          have i1 : (0 : Int) ≤ (k : Int) := by omega
          have i2 : (k : Int) < (n : Int) := by omega
          have HB := Lib.hid hb
          clear hca hcb hb hx
          go_wp2
          go_quiet (fail)
          go_wp2
          go_roundw
          case rel => exact ⟨k + 1, by omega, by go_num, Lib.hid (fun j hj => by
            by_cases e : j = k
            · rw [e]; exact HE.out
            · exact hz.out j (by omega)), ibelow_drewN HB.out _⟩
          case measure => simp [intOf]; omega
        · have HF := Lib.hid (NE.out k he)
          obtain ⟨x, hx⟩ : ∃ x, cf xs k = x := ⟨_, rfl⟩
          obtain ⟨y, hy⟩ : ∃ y, cf ys k = y := ⟨_, rfl⟩
          rw [hx] at h1 he
          rw [hy] at h2 he
          have i1 : (0 : Int) ≤ (k : Int) := by omega
          have i2 : (k : Int) < (n : Int) := by omega
          have hxy : (x == y) = false := by simpa using he
          have hxn : (x != y) = true := by simpa using he
          have HB := Lib.hid hb
          clear hca hcb hb hx hy
          go_wp2
          go_quiet (fail)
          go_wp2
          go_ret
          exact ⟨by rw [HF.out]; rfl, ibelow_drewN HB.out _⟩
      · obtain rfl : k = n := by omega
        have HT := Lib.hid (EQ.out hz.out)
        go_wp2
        go_ret
        exact ⟨by rw [HT.out]; rfl, hb⟩
  · have NE : decide (xs = ys) = false := decide_eq_false (fun e => hn (by rw [XL.out, YL.out, e]))
    rw [NE]
    have hnn : ((n : Int) == (n' : Int)) = false := by simp; omega
    have hnx : ((n : Int) != (n' : Int)) = true := by simp; omega
    clear h h'
    go_enter Tryz.func24, Tryz.ntmps24
    go_wp2
    go_ret
    exact ⟨rfl, Below.refl _ _⟩

theorem PIn.drewN {w : World} {Z : List Pt} (h : PIn w Z) (n : Nat) : PIn (w.drewN n) Z := fun z hz => (h z hz).below (ibelow_drewN (Below.refl _ _) n)

set_option maxRecDepth 100000 in
set_option maxRecDepth 100000 in
set_option maxHeartbeats 1000000 in
theorem rIsTop (A : Option Addr) (n c : Nat) (xs : List Int) (p : Int) (w : World) (h : ISl w A n c xs) (ip : In64 p) (hn : n ≤ 800) :
    Calls Tryz.prog 46 #[.slice A n c, .int .i64 p] w fun e w' => e = .returned (.tuple #[.bool (sqB p (cf xs)), .int .i64 (esq p (cf xs))]) ∧ Below w.heap.size w w' := by
  have CM := rWrong A n c xs p w h ip (by omega)
  rcases esq_cases p (cf xs) with ⟨hp, hb, he⟩ | he | he
  · have CC := Lib.hid CM
    have SQ := Lib.hid (fun r (hr : IsRad p (monL p (cf xs)) r) => sqB_is (b := decide (monL p (cf xs) = r)) he (by
      rw [decide_eq_true_iff]
      exact sqf_rad hp (mn_monL hp hb).1 hr))
    have MO := Lib.hid (fun (W : World) (hW : Below w.heap.size w W) => rMonic A n c xs p W (h.below hW) ip (by omega))
    rw [chk_yes (primB_yes hp)] at MO
    have RD := Lib.hid (fun (W : World) (hW : Below w.heap.size w W) => rRad _ A n c xs p W (h.below hW) ip hp hb hn (Nat.le_refl _))
    rw [he] at CC ⊢
    clear CM h ip hp hb he
    go_enter Tryz.func46, Tryz.ntmps46
    go_wp2_with (first
      | (go_at_call 75; (with_reducible refine CC.out.mono ?_); rintro e w1 ⟨rfl, hb⟩; have HB := Lib.hid hb; clear hb)
      | (go_at_call 43; (with_reducible refine (MO.out _ HB.out).mono ?_); rintro e w2 ⟨C, m, d, rfl, hg⟩; have GI := Lib.hid hg.isl; have HB2 := Lib.hid (below_to HB.out hg.bel); clear hg)
      | (go_at_call 76; (with_reducible refine (RD.out _ HB2.out).mono ?_); rintro e w3 ⟨C3, m3, d3, rfl, ho⟩; obtain ⟨⟨r, hr, hi⟩, hb⟩ := ho; have HB3 := Lib.hid (below_to HB2.out hb); have S1 := Lib.hid (SQ.out r hr); have SM := Lib.hid (rSame C C3 m d m3 d3 _ r w3 (GI.out.below hb) hi); rw [← S1.out] at SM; clear hr hi hb)
      | (go_at_call 24; (with_reducible refine SM.out.mono ?_); rintro e w4 ⟨rfl, hb⟩; have HB4 := Lib.hid (below_to HB3.out hb); clear hb))
    go_ret2
    exact ⟨rfl, HB4.out⟩
  · have CC := Lib.hid CM
    have E := Lib.hid (sqB_no (f := cf xs) (p := p) (by rw [he]; decide))
    rw [he] at CC ⊢
    rw [E.out]
    clear CM h ip he
    go_enter Tryz.func46, Tryz.ntmps46
    go_wp2_with (go_at_call 75; (with_reducible refine CC.out.mono ?_); rintro e w1 ⟨rfl, hb⟩; have HB := Lib.hid hb; clear hb)
    go_ret2
    exact ⟨rfl, HB.out⟩
  · have CC := Lib.hid CM
    have E := Lib.hid (sqB_no (f := cf xs) (p := p) (by rw [he]; decide))
    rw [he] at CC ⊢
    rw [E.out]
    clear CM h ip he
    go_enter Tryz.func46, Tryz.ntmps46
    go_wp2_with (go_at_call 75; (with_reducible refine CC.out.mono ?_); rintro e w1 ⟨rfl, hb⟩; have HB := Lib.hid hb; clear hb)
    go_ret2
    exact ⟨rfl, HB.out⟩

end Go.Proofs.YtnkhhndjbanmnaaGreatDoor

/- What the law FfacSplits is of: the document's Squarefree by contract; parted ones as factors; the product of each degree, as the law takes it. -/
namespace Go.Proofs.YtnkhhndjbanmnaaGreatDoor
open Go.RowKit

set_option maxRecDepth 100000 in
set_option maxHeartbeats 1000000 in
theorem rSqf9 (A : Option Addr) (n c : Nat) (xs : List Int) (p : Int) (w : World) (h : ISl w A n c xs) (ip : In64 p) (hn : n ≤ 800) (h0 : eff p (cf xs) = 0) :
    Calls Tryz.prog 22 #[.slice A n c, .int .i64 p] w fun e w' => e = .returned (.bool (sqB p (cf xs))) ∧ Below w.heap.size w w' := by
  obtain ⟨hp, hb, _, _⟩ := eff_mn h0
  have C := rIsTop A n c xs p w h ip hn
  rw [esq_yes hp hb] at C
  have CC := Lib.hid C
  generalize sqB p (cf xs) = b at *
  clear C h ip hn h0 hp hb
  go_enter Tryz.func22, Tryz.ntmps22
  go_wp2_with (first
    | (go_at_call 46; (with_reducible refine CC.out.mono ?_); rintro e w1 ⟨rfl, hb⟩; have HB := Lib.hid hb; clear hb)
    | fail)
  go_ret
  exact ⟨rfl, HB.out⟩
theorem plain_got (A : Option Addr) (n c : Nat) (xs : List Int) (p : Int) (w : World) (h : ISl w A n c xs) (hp : Pr p) (hn : n ≤ 1000) :
    Calls Tryz.prog 23 #[.slice A n c, .int .i64 p] w fun e w' => ∃ C m d, e = .returned (.slice C m d) ∧ Got w C m d (polL p (cf xs)) n w' := by
  refine (plain_big A n c xs p w h hp.md (by omega)).mono ?_
  rintro e w' ⟨v, rfl, ho⟩
  obtain ⟨C, m, d, rfl, hg⟩ := polIn_got (L := polL p (cf xs)) ho.in_.1 ho.in_.2 (Nat.le_refl _) (fun ys hy => polL_is hp hy)
  exact ⟨C, m, d, rfl, hg⟩
theorem sfac_facN {p : Int} {m : List Int} {G : List (List Int)} (hp : Pr p) (hs : Sqf p m) (h : SFac p m G) : FacN p m (G.map fun f => (f, 1)) := by
  refine ⟨fun x hx => ?_, fun q hq hv => ?_, ?_⟩
  · obtain ⟨f, hf, rfl⟩ := List.mem_map.1 hx
    obtain ⟨a1, a2, a3⟩ := h.1.irr f hf
    exact ⟨a1, a2, a3, Nat.le_refl _, facs_one hp hs h.1 hf⟩
  · obtain ⟨f, hf, e⟩ := facs_all hp h.1 hq hv
    exact ⟨(f, 1), List.mem_map.2 ⟨f, hf, rfl⟩, e⟩
  · rw [List.pairwise_map]; exact h.2
theorem sqf_sqB {p : Int} {xs : List Int} (h0 : eff p (cf xs) = 0) : (sqB p (cf xs) = true ∧ Sqf p (monL p (cf xs))) ∨ (sqB p (cf xs) = false ∧ esf p (cf xs) = 1) := by
  obtain ⟨hp, hb, hm, _⟩ := eff_mn h0
  have e := esq_yes hp hb
  by_cases hs : Sqf p (monL p (cf xs))
  · exact .inl ⟨sqB_is e ⟨fun _ => hs, fun _ => rfl⟩, hs⟩
  · refine .inr ⟨sqB_is e ⟨fun k => (by cases k), fun k => absurd k hs⟩, esf_bad h0 ?_⟩
    cases hb : sqB p (cf (monL p (cf xs))) with
    | false => rfl
    | true => exact absurd ((sqB_mn hp hm).1 hb) hs
def degL (n : Nat) (L : PL) : PL := L.filter fun x => x.1.length == n + 1
theorem vn_deg {p : Int} {q : Ser} {n k : Nat} : ∀ L : PL, (∀ x ∈ L, x.1.length = k + 1 ∨ V p (cf x.1) q = 0) → vn p q (degL n L) = if k = n then vn p q L else 0
  | [], _ => by split <;> rfl
  | x :: L, h => by
    have ih := vn_deg (n := n) L fun y hy => h y (List.mem_cons_of_mem _ hy)
    have hx := h x (List.mem_cons_self ..)
    unfold degL at *
    rw [List.filter_cons]
    by_cases e : x.1.length = n + 1
    · rw [if_pos (by simpa using e), vn, vn, ih]
      by_cases hk : k = n
      · rw [if_pos hk, if_pos hk]
      · rw [if_neg hk, if_neg hk]
        rcases hx with hx | hx
        · omega
        · rw [hx]; omega
    · rw [if_neg (by simpa using e), vn, ih]
      by_cases hk : k = n
      · rw [if_pos hk, if_pos hk]
        rcases hx with hx | hx
        · omega
        · rw [hx]; omega
      · rw [if_neg hk, if_neg hk]
structure DgP (p : Int) (n : Nat) (L : PL) (m : List Int) : Prop where
  mn : Mn p m
  v : ∀ q, Irr p q → V p (cf m) q = vn p q (degL n L)
theorem dgP_start {p : Int} (hp : Pr p) (n : Nat) : DgP p n [] [1] := ⟨mn_one hp, fun _ hq => V_one hp hq⟩
theorem degL_snoc (n : Nat) (L : PL) (x : List Int × Nat) : degL n (L ++ [x]) = if x.1.length = n + 1 then degL n L ++ [x] else degL n L := by
  unfold degL
  rw [List.filter_append, List.filter_cons, List.filter_nil]
  by_cases e : x.1.length = n + 1
  · rw [if_pos (by simpa using e), if_pos e]
  · rw [if_neg (by simpa using e), if_neg e, List.append_nil]
theorem DgP.skip {p : Int} {n : Nat} {L : PL} {m : List Int} {x : List Int × Nat} (h : DgP p n L m) (e : x.1.length ≠ n + 1) : DgP p n (L ++ [x]) m := by
  refine ⟨h.mn, ?_⟩
  rw [degL_snoc, if_neg e]
  exact h.v
theorem DgP.take_ {p : Int} {n : Nat} {L : PL} {m : List Int} {x : List Int × Nat} (hp : Pr p) (h : DgP p n L m) (e : x.1.length = n + 1) (hx : Mn p x.1) (h1 : x.2 = 1) : DgP p n (L ++ [x]) (polL p (Ser.mul (cf m) (cf x.1))) := by
  obtain ⟨m1, _, m3⟩ := mn_mul hp h.mn hx
  refine ⟨m1, fun q hq => ?_⟩
  rw [m3 q hq, h.v q hq, degL_snoc, if_pos e, vn_append, vn_cons, h1]
  show _ = _ + (1 * _ + 0)
  omega
theorem vn_degL_le {p : Int} {q : Ser} {n : Nat} : ∀ L : PL, vn p q (degL n L) ≤ vn p q L
  | [] => Nat.le_refl _
  | x :: L => by
    have ih := vn_degL_le (p := p) (q := q) (n := n) L
    unfold degL at *
    rw [List.filter_cons]
    split
    · rw [vn, vn]; omega
    · rw [vn]; omega
theorem DgP.len {p : Int} {n t : Nat} {L : PL} {m mo : List Int} (hp : Pr p) (hm : Mn p mo) (hL : FacN p mo L) (h : DgP p n (L.take t) m) : m.length ≤ mo.length :=
  h.mn.len_le hp hm fun q hq => by
    rw [h.v q hq, ← hL.vn hp hm q hq]
    exact Nat.le_trans (vn_degL_le _) (vn_take_le L t)
theorem DgP.done {p : Int} {n : Nat} {L : PL} {m mo ys : List Int} (hp : Pr p) (hm : Mn p mo) (hL : FacN p mo L) (h : DgP p n L m) (hd : IsDg p mo n ys) : m = ys :=
  h.mn.ext hp hd.mn fun q hq => by
    obtain ⟨k, _, hk⟩ := irr_mo hq
    rw [h.v q hq, hd.v q k hq hk, vn_deg (k := k) L fun x hx => ?_, hL.vn hp hm q hq]
    obtain ⟨a1, a2, a3, _, _⟩ := hL.own x hx
    by_cases e : Ser.Eq p q (cf x.1)
    · left
      have := mo_uniq (hk.eq e) a1.2.2
      omega
    · right
      exact V_other hp hq a3 fun k => e k.symm
theorem plain_len {p : Int} {xs : List Int} (h0 : eff p (cf xs) = 0) : (polL p (cf xs)).length = (monL p (cf xs)).length := by
  obtain ⟨hp, hb, _, _⟩ := eff_mn h0
  exact (pol_mon_len hp hb (polL_pol hp (fini_cf p xs))).1
end Go.Proofs.YtnkhhndjbanmnaaGreatDoor

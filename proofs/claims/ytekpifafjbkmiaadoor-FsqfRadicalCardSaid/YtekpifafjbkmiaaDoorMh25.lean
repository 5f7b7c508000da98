/- Texts joined, in their order: RefSq. -/
import Derived.Test.YtekpifafjbkmiaaDoorMh24

/- The document's radical by contract: what is wrong, quotients, what is left without common factors, the radical. -/
namespace Go.Proofs.YtekpifafjbkmiaaDoor
open Go.RowKit

set_option maxRecDepth 100000 in
set_option maxHeartbeats 1000000 in
theorem rWrong (A : Option Addr) (n c : Nat) (xs : List Int) (p : Int) (w : World) (h : ISl w A n c xs) (ip : In64 p) (hn : n ≤ 1000) :
    Calls Tryd.prog 25 #[.slice A n c, .int .i64 p] w fun e w' => e = .returned (.int .i64 (esq p (cf xs))) ∧ Below w.heap.size w w' := by
  have C := refCheck_any p w ip.1 ip.2
  rcases Classical.em (Pr p) with hp | hp
  · rw [chk_yes (primB_yes hp)] at C
    have CC := Lib.hid C
    have PL := Lib.hid (plain_any A n c xs p w h hp.md (by omega))
    rcases Classical.em (Ser.Bd p (cf xs) 0) with hb | hb
    · rw [esq_zero hp hb]
      have NZ := Lib.hid (fun ys (k : Pol p ys (cf xs)) => (k.nought (by have := hp.1; omega)).2 hb)
      clear C h ip hp hb
      go_enter Tryd.func25, Tryd.ntmps25
      go_wp2_with (first
        | (go_at_call 48; (with_reducible refine CC.out.mono ?_); rintro e w1 ⟨rfl, rfl⟩)
        | (go_at_call 49; (with_reducible refine PL.out.mono ?_); rintro e w2 ⟨v, rfl, C2, m2, d2, ys, rfl, hi, hpl, -, -, hb2⟩; obtain rfl : m2 = 0 := by { have := hi.len; rw [NZ.out ys hpl] at this; exact this }; have HB := Lib.hid hb2; clear hi hpl hb2))
      go_ret
      exact ⟨rfl, HB.out⟩
    · rw [esq_yes hp hb]
      have NZ := Lib.hid (fun ys (k : Pol p ys (cf xs)) => fun e => hb ((k.nought (by have := hp.1; omega)).1 e))
      clear C h ip hp hb
      go_enter Tryd.func25, Tryd.ntmps25
      go_wp2_with (first
        | (go_at_call 48; (with_reducible refine CC.out.mono ?_); rintro e w1 ⟨rfl, rfl⟩)
        | (go_at_call 49; (with_reducible refine PL.out.mono ?_); rintro e w2 ⟨v, rfl, C2, m2, d2, ys, rfl, hi, hpl, -, -, hb2⟩; have hm : ((m2 : Int) == 0) = false := by { have h1 := hi.len; have h2 := NZ.out ys hpl; have h3 : ys.length ≠ 0 := fun e => h2 (List.eq_nil_of_length_eq_zero e); simp; omega }; have HB := Lib.hid hb2; clear hi hpl hb2))
      go_ret
      exact ⟨rfl, HB.out⟩
  · rw [chk_no (primB_no hp)] at C
    have CC := Lib.hid C
    rw [esq_no hp]
    clear C h ip hp
    go_enter Tryd.func25, Tryd.ntmps25
    go_wp2_with (go_at_call 48; (with_reducible refine CC.out.mono ?_); rintro e w1 ⟨rfl, rfl⟩)
    go_ret
    exact ⟨rfl, Below.refl _ _⟩
set_option maxRecDepth 100000 in
set_option maxHeartbeats 400000 in
theorem rBy (A B : Option Addr) (n c n' c' : Nat) (xs ys : List Int) (p : Int) (w : World) (h : ISl w A n c xs) (h' : ISl w B n' c' ys) (ip : In64 p) (hn : n ≤ 1000) (hn' : n' ≤ 1000) :
    Calls Tryd.prog 28 #[.slice A n c, .slice B n' c', .int .i64 p] w fun e w' => ∃ C m d, e = .returned (.slice C m d) ∧ Got w C m d (quoL p (cf xs) (cf ys)) (n + 1) w' ∧ FreshA w C := by
  have CC := Lib.hid (rDiv_new A B n c n' c' xs ys p w h h' ip (by omega) (by omega))
  generalize ediv p (cf ys) = u at *
  clear h h' ip hn hn'
  go_enter Tryd.func28, Tryd.ntmps28
  go_wp2_with (go_at_call 56; (with_reducible refine CC.out.mono ?_); rintro e w' ⟨C, m, d, C', m', d', rfl, hg, -, hf⟩)
  go_ret
  exact ⟨C, m, d, rfl, hg, hf⟩
set_option maxRecDepth 100000 in
set_option maxHeartbeats 2000000 in
theorem rWithout (A B : Option Addr) (n c n' c' : Nat) (xs ys : List Int) (p : Int) (w : World) (h : ISl w A n c xs) (h' : ISl w B n' c' ys) (ip : In64 p) (hp : Pr p) (hx : Mn p xs) (hy : Mn p ys) (hn : n ≤ 900) (hn' : n' ≤ 900) :
    Calls Tryd.prog 55 #[.slice A n c, .slice B n' c', .int .i64 p] w fun e w' => ∃ C m d, e = .returned (.slice C m d) ∧ ∃ u, ISl w' C m d u ∧ Mn p u ∧ u.length ≤ xs.length ∧ (∀ q, Irr p q → V p (cf u) q = if V p (cf ys) q = 0 then V p (cf xs) q else 0) ∧ Below w.heap.size w w' := by
  have G1 := Lib.hid (rGcd A B n c n' c' xs ys p w h h' ip (by omega) (by omega))
  generalize chk p = u at *
  have H := Lib.hid h
  have H' := Lib.hid h'
  have IP := Lib.hid ip
  have PR := Lib.hid hp
  have HX := Lib.hid hx
  have HY := Lib.hid hy
  have XL := Lib.hid h.len
  have GC := Lib.hid (fun (C : Option Addr) (m d : Nat) (zs : List Int) (W : World) (hz : ISl W C m d zs) (hb : Below w.heap.size w W) (hm : m ≤ 900) => rGcd C B m d n' c' zs ys p W hz (h'.below hb) ip (by omega) (by omega))
  clear h h' ip hp hx hy
  go_enter Tryd.func55, Tryd.ntmps55
  go_wp2_with (go_at_call 54; (with_reducible refine G1.out.mono ?_); rintro e w1 ⟨Cg, mg, dg, rfl, hg⟩; have GI := Lib.hid hg.isl; have GB := Lib.hid hg.bel; clear hg)
  go_loopw [0, 7] (fun va vg wr => ∃ (Ca : Option Addr) (na ca : Nat) (cur : List Int) (Cg : Option Addr) (mg dg : Nat), va = .slice Ca na ca ∧ vg = .slice Cg mg dg ∧ Hid (WO p xs ys cur) ∧ Hid (ISl wr Ca na ca cur) ∧ Hid (ISl wr Cg mg dg (bezG p (cf cur) (cf ys))) ∧ Hid (Below w.heap.size w wr)) (fun va _ _ => slLen va)
  case atStart => exact ⟨A, n, c, xs, Cg, mg, dg, rfl, rfl, Lib.hid (wo_start HX.out), Lib.hid (H.out.below GB.out), GI, GB⟩
  case round =>
    obtain ⟨Ca, na, ca, cur, Cg', mg', dg', rfl, rfl, WW, IA, IG, BB⟩ := hrel
    clear GI GB
    obtain ⟨g1, g2, _⟩ := mn_gcd PR.out WW.out.mn HY.out
    have gp := g1.pos
    have gl := IG.out.len
    have al := IA.out.len
    have na9 : na ≤ 900 := by have := WW.out.l; have := XL.out; omega
    have mg9 : mg' ≤ 900 := by omega
    by_cases h1 : mg' = 1
    · have DN := Lib.hid (WW.out.done PR.out HY.out (by rw [← gl]; exact h1))
      have i1 : ¬ (1 : Int) < (mg' : Int) := by omega
      clear g1 g2 gp gl al
      go_wp2_with fail
      go_ret
      exact ⟨Ca, na, ca, rfl, cur, IA.out, WW.out.mn, WW.out.l, DN.out, BB.out⟩
    · have i1 : (1 : Int) < (mg' : Int) := by omega
      have BY1 := Lib.hid (rBy Ca Cg' na ca mg' dg' cur _ p wr IA.out IG.out IP.out (by omega) (by omega))
      obtain ⟨n1, n2⟩ := WW.out.next PR.out HY.out
      have N1 := Lib.hid n1
      have N2 := Lib.hid (n2 (by rw [← gl]; exact h1))
      have AL := Lib.hid al
      clear g1 g2 gp gl n1 n2 h1 al
      go_wp2_with (first
        | (go_at_call 28; (with_reducible refine BY1.out.mono ?_); rintro e w3 ⟨Cq, mq, dq, rfl, hg, -⟩; have QI := Lib.hid hg.isl; have QB := Lib.hid (below_to BB.out hg.bel); have lq : mq < na := (by have := N2.out; have := AL.out; have := hg.isl.len; omega); have GQ := Lib.hid (GC.out Cq mq dq _ w3 hg.isl QB.out (by omega)); clear hg)
        | (go_at_call 54; (with_reducible refine GQ.out.mono ?_); rintro e w4 ⟨C4, m4, d4, rfl, hg⟩; have I4 := Lib.hid hg.isl; have Q4 := Lib.hid (QI.out.below hg.bel); have B4 := Lib.hid (below_to QB.out hg.bel); clear hg))
      go_roundw
      case rel => exact ⟨Cq, mq, dq, _, C4, m4, d4, rfl, rfl, N1, Q4, I4, B4⟩
      case measure => simp [slLen]; omega

/-- What radical answers, in memory. -/
structure RadO (p : Int) (f : Ser) (w : World) (C : Option Addr) (m d : Nat) (w' : World) : Prop where
  r : ∃ r, IsRad p (monL p f) r ∧ ISl w' C m d r
  be : Below w.heap.size w w'
theorem times_got (A B : Option Addr) (n c n' c' : Nat) (xs ys : List Int) (p : Int) (w : World) (h : ISl w A n c xs) (h' : ISl w B n' c' ys) (hp : Pr p) (hn : n ≤ 1000) (hn' : n' ≤ 1000) :
    Calls Tryd.prog 50 #[.slice A n c, .slice B n' c', .int .i64 p] w fun e w' => ∃ C m d, e = .returned (.slice C m d) ∧ Got w C m d (polL p (Ser.mul (cf xs) (cf ys))) (n + n') w' := by
  refine (times_any A B n c n' c' xs ys p w h h' hp.md (by omega) (by omega)).mono ?_
  rintro e w' ⟨v, rfl, ho⟩
  obtain ⟨C, m, d, rfl, hg⟩ := polIn_got (L := polL p (Ser.mul (cf xs) (cf ys))) ho.in_.1 ho.in_.2 (Nat.le_refl _) (fun ys hy => polL_is hp hy)
  exact ⟨C, m, d, rfl, hg⟩

set_option maxRecDepth 100000 in
set_option maxHeartbeats 4000000 in
theorem rRad : ∀ (N : Nat) (A : Option Addr) (n c : Nat) (xs : List Int) (p : Int) (w : World), ISl w A n c xs → In64 p → Pr p → ¬ Ser.Bd p (cf xs) 0 → n ≤ 800 → (monL p (cf xs)).length ≤ N →
    Calls Tryd.prog 27 #[.slice A n c, .int .i64 p] w fun e w' => ∃ C m d, e = .returned (.slice C m d) ∧ RadO p (cf xs) w C m d w' := by
  intro N
  induction N with
  | zero =>
    intro A n c xs p w h ip hp hb hn hN
    have := (mn_monL hp hb).1.pos
    omega
  | succ N ih =>
    intro A n c xs p w h ip hp hb hn hN
    have CM := rMonic A n c xs p w h ip (by omega)
    rw [chk_yes (primB_yes hp)] at CM
    have CC := Lib.hid CM
    obtain ⟨m1, m2, m3⟩ := mn_monL hp hb
    have XL := h.len
    have l9 : (monL p (cf xs)).length ≤ 800 := by omega
    have E0 := Lib.hid (show RadO p (cf xs) = RadO p (cf xs) from rfl)
    have RO := Lib.hid (fun (w : World) (C : Option Addr) (m d : Nat) (w' : World) (r : List Int) (h1 : IsRad p (monL p (cf xs)) r) (h2 : ISl w' C m d r) (h3 : Below w.heap.size w w') => (⟨⟨r, h1, h2⟩, h3⟩ : RadO p (cf xs) w C m d w'))
    generalize RadO p (cf xs) = RR at *
    generalize monL p (cf xs) = mo at *
    have HM := Lib.hid m1
    have IP := Lib.hid ip
    have PR := Lib.hid hp
    have M9 := Lib.hid l9
    have DV := Lib.hid (fun (C : Option Addr) (m d : Nat) (W : World) (hi : ISl W C m d mo) (hm : m ≤ 800) => rDeriv C m d mo p W hi ip (by omega))
    have c1 := chk_yes (primB_yes hp)
    rw [c1] at DV
    have GC := Lib.hid (fun (A B : Option Addr) (n c n' c' : Nat) (xs ys : List Int) (W : World) (h : ISl W A n c xs) (h' : ISl W B n' c' ys) (hn : n ≤ 1000) (hn' : n' ≤ 1000) => rGcd A B n c n' c' xs ys p W h h' ip hn hn')
    rw [c1] at GC
    have IH := Lib.hid (fun (C : Option Addr) (m d : Nat) (zs : List Int) (W : World) (hi : ISl W C m d zs) (hz : Mn p zs) (hm : m ≤ 800) (hl : zs.length ≤ N) => ih C m d zs p W hi ip hp hz.nz hm (by rw [monL_self hp hz]; exact hl))
    clear CM h ip hp hb m1 m2 m3 XL l9 ih c1 E0
    have hN2 := Lib.hid hN
    clear hN
    by_cases h1 : mo.length = 1
    · have RC := Lib.hid (rad_const PR.out HM.out h1)
      go_enter Tryd.func27, Tryd.ntmps27
      go_wp2_with (go_at_call 26; (with_reducible refine CC.out.mono ?_); rintro e w1 ⟨C, m, d, rfl, hg⟩; obtain rfl : m = 1 := (by have := hg.isl.len; omega); have HB := Lib.hid hg.bel; clear hg)
      go_ret
      exact ⟨_, _, _, rfl, RO.out _ _ _ _ _ [1] RC.out ((iblk_list w1 [1] (fi_one (by unfold In64; decide))).sl (by simp)) (HB.out.alloc HB.out.size _)⟩
    · have H1 := Lib.hid h1
      clear h1
      by_cases hd : polL p (Ser.der (cf mo)) = []
      · obtain ⟨r1, r2⟩ := root_lt PR.out HM.out H1.out hd
        have R1 := Lib.hid r1
        have R2 := Lib.hid r2
        have RRT := Lib.hid (fun r => rad_root (r := r) PR.out HM.out hd)
        have HD := Lib.hid hd
        clear r1 r2 hd
        go_enter Tryd.func27, Tryd.ntmps27
        go_wp2_with (first
          | (go_at_call 26; (with_reducible refine CC.out.mono ?_); rintro e w1 ⟨C, m, d, rfl, hg⟩; have ml := hg.isl.len; have hm1 : ¬ (m : Int) ≤ 1 := (by have := H1.out; have := HM.out.pos; omega); have m9 : m ≤ 800 := (by have := M9.out; omega); have HI := Lib.hid hg.isl; have HB := Lib.hid hg.bel; have C2 := Lib.hid (DV.out C m d w1 HI.out m9); clear hg ml)
          | (go_at_call 52; (with_reducible refine C2.out.mono ?_); rintro e w2 ⟨C3, m3, d3, rfl, hg⟩; obtain rfl : m3 = 0 := (by have := hg.isl.len; rw [HD.out] at this; exact this); have HB2 := Lib.hid (below_to HB.out hg.bel); have C3_ := Lib.hid (rRoot C m d mo p w2 (HI.out.below hg.bel) PR.out (by omega)); clear hg)
          | (go_at_call 53; (with_reducible refine C3_.out.mono ?_); rintro e w3 ⟨C4, m4, d4, rfl, hi, hb⟩; have HB3 := Lib.hid (below_to HB2.out hb); have C4_ := Lib.hid (IH.out C4 m4 d4 _ w3 hi R1.out (by have := hi.len; have := R2.out; have := M9.out; omega) (by have := R2.out; have := hN2.out; omega)); clear hi hb)
          | (go_at_call 27; (with_reducible refine C4_.out.mono ?_); rintro e w4 ⟨C5, m5, d5, rfl, ho⟩; have OO := Lib.hid ho; clear ho))
        go_ret
        obtain ⟨⟨r, hr, hi⟩, hb⟩ := OO.out
        rw [monL_self PR.out R1.out] at hr
        exact ⟨_, _, _, rfl, RO.out _ _ _ _ _ r (RRT.out r hr) hi (below_to HB3.out hb)⟩
      · have HD := Lib.hid hd
        have ts := ts_start PR.out HM.out
        have TS1 := Lib.hid ts
        have RM := Lib.hid (fun u r (hr : IsRad p u r) => rad_more PR.out HM.out hr)
        have RSH := Lib.hid (fun u (hu : Mn p u) => rad_short PR.out HM.out hu)
        have QL := Lib.hid (mn_quo PR.out HM.out ts.m2 (fun q hq => by
          rw [(mn_gcdD PR.out HM.out).2.2 q hq]; split <;> omega)).2.1
        clear hd ts
        go_enter Tryd.func27, Tryd.ntmps27
        go_wp2_with (first
          | (go_at_call 26; (with_reducible refine CC.out.mono ?_); rintro e w1 ⟨C, m, d, rfl, hg⟩; have ml := hg.isl.len; have hm1 : ¬ (m : Int) ≤ 1 := (by have := H1.out; have := HM.out.pos; omega); have m9 : m ≤ 800 := (by have := M9.out; omega); have HI := Lib.hid hg.isl; have HB := Lib.hid hg.bel; have C2 := Lib.hid (DV.out C m d w1 HI.out m9); clear hg ml)
          | (go_at_call 52; (with_reducible refine C2.out.mono ?_); rintro e w2 ⟨C3, m3, d3, rfl, hg⟩; have hm3 : ((m3 : Int) == 0) = false := (by have h5 := hg.isl.len; have h6 : (polL p (Ser.der (cf mo))).length ≠ 0 := fun e => HD.out (List.eq_nil_of_length_eq_zero e); simp; omega); have HB2 := Lib.hid (below_to HB.out hg.bel); have I2 := Lib.hid (HI.out.below hg.bel); have C3_ := Lib.hid (GC.out C C3 m d m3 d3 mo _ w2 I2.out hg.isl (by omega) (by have := hg.2.1; omega)); clear hg)
          | (go_at_call 54; (with_reducible refine C3_.out.mono ?_); rintro e w3 ⟨C4, m4, d4, rfl, hg⟩; have m49 : m4 ≤ 800 := (by have := hg.isl.len; have := TS1.out.l2; have := M9.out; omega); have HB3 := Lib.hid (below_to HB2.out hg.bel); have I3 := Lib.hid (I2.out.below hg.bel); have G3 := Lib.hid hg.isl; have C4_ := Lib.hid (rBy C C4 m d m4 d4 mo _ p w3 I3.out G3.out IP.out (by omega) (by omega)); clear hg)
          | (go_at_call 28; (with_reducible refine C4_.out.mono ?_); rintro e w4 ⟨C5, m5, d5, rfl, hg, -⟩; have m59 : m5 ≤ 800 := (by have := hg.isl.len; have := TS1.out.l1; have := M9.out; omega); have HB4 := Lib.hid (below_to HB3.out hg.bel); have W4 := Lib.hid hg.isl; have G4 := Lib.hid (G3.out.below hg.bel); have C5_ := Lib.hid (rWithout C4 C5 m4 d4 m5 d5 _ _ p w4 G4.out W4.out IP.out PR.out TS1.out.m2 TS1.out.m1 (by omega) (by omega)); clear hg)
          | (go_at_call 55; (with_reducible refine C5_.out.mono ?_); rintro e w5 ⟨C6, m6, d6, rfl, u, hi, hu, hul, huv, hb⟩; have HU := Lib.hid hu; have UV := Lib.hid huv; have m69 : m6 ≤ 800 := (by have := hi.len; have := TS1.out.l2; have := M9.out; omega); have HB5 := Lib.hid (below_to HB4.out hb); have W5 := Lib.hid (W4.out.below hb); have C6_ := Lib.hid (IH.out C6 m6 d6 u w5 hi hu m69 (by have h7 := RSH.out u hu huv HD.out; have := hN2.out; omega)); clear hi hu hul huv hb)
          | (go_at_call 27; (with_reducible refine C6_.out.mono ?_); rintro e w6 ⟨C7, m7, d7, rfl, ho⟩; obtain ⟨⟨r, hr, hi⟩, hb⟩ := ho; have HR := Lib.hid (show IsRad p u r by { rw [monL_self PR.out HU.out] at hr; exact hr }); have m79 : m7 ≤ 800 := (by have h8 := Mn.len_le PR.out HR.out.1 HU.out (fun q hq => by rw [HR.out.2 q hq]; omega); have := hi.len; have h9 := rad_short PR.out HM.out HU.out UV.out HD.out; have := M9.out; omega); have HB6 := Lib.hid (below_to HB5.out hb); have C7_ := Lib.hid (times_got C5 C7 m5 d5 m7 d7 _ _ p w6 (W5.out.below hb) hi PR.out (by omega) (by omega)); clear hr hi hb)
          | (go_at_call 50; (with_reducible refine C7_.out.mono ?_); rintro e w7 ⟨C8, m8, d8, rfl, hg⟩; have G8 := Lib.hid hg; clear hg))
        go_ret
        exact ⟨_, _, _, rfl, RO.out _ _ _ _ _ _ (RM.out u r HR.out UV.out) G8.out.isl (below_to HB6.out G8.out.bel)⟩
end Go.Proofs.YtekpifafjbkmiaaDoor

/- Texts joined, in their order: FsqTold, FsqRoot, FsqSort. -/
import Derived.Test.YtekpifafjbkmiaaDoorSortLay
import Derived.Shelf.SlSortCmp.NoneTotal
import Derived.Test.YtekpifafjbkmiaaDoorMh20

/- fsqf.partsTold by contract: the parts whose numbers p does not divide, and what is left. -/
namespace Go.Proofs.YtekpifafjbkmiaaDoor
open Go.RowKit

/-- What partsTold's loop goes with, in memory. -/
structure TI (p : Int) (a : List Int) (w wr : World) (k : Nat) (vf : Value) (Z : List Pt) (Co : Option Addr) (mo do_ : Nat) (once : List Int) (Cl : Option Addr) (ml dl : Nat) (left : List Int) : Prop where
  ts : TS p a k once left
  told : Told p a k (pls Z)
  own : POw 40 wr w.heap.size vf Z
  io : ISl wr Co mo do_ once
  il : ISl wr Cl ml dl left
  al : ApO Cl left vf.ownBlock
  lf : FreshA w Cl
  fr : ∀ z ∈ Z, FreshA w z.A
  k1 : 1 ≤ k
  zl : Z.length ≤ k
  be : Below w.heap.size w wr
/-- What partsTold answers, in memory. -/
structure TO (p : Int) (a : List Int) (w : World) (A : Option Addr) (k c : Nat) (Z : List Pt) (C : Option Addr) (m d : Nat) (left : List Int) (w' : World) : Prop where
  all : ToldAll p a (pls Z) left
  rd : PRd w' A k c Z
  il : ISl w' C m d left
  fr : ∀ z ∈ Z, FreshA w z.A
  lf : FreshA w C
  rf : FreshA w A
  be : Below w.heap.size w w'
theorem ApO.fresh {w : World} {T : TypeId} {B : Nat} {v : Value} {Z : List Pt} {A : Option Addr} {xs : List Int} (h : POw T w B v Z) (hf : FreshA w A) : ApO A xs v.ownBlock := h.apart fun b o s e => .inl (hf b o s e)
theorem ti_part {p : Int} {a : List Int} {w wr w3 w4 : World} {k : Nat} {vf v' : Value} {Z : List Pt} {Co : Option Addr} {mo do_ : Nat} {once : List Int} {Cl : Option Addr} {ml dl : Nat} {left : List Int} {C Cq Cr : Option Addr} {m d mq dq mr dr : Nat}
    (hp : Pr p) (h : TI p a w wr k vf Z Co mo do_ once Cl ml dl left) (hl : (bezG p (cf once) (cf left)).length < once.length)
    (hg : ISl w3 C m d (bezG p (cf once) (cf left))) (hf : FreshA w Cq) (hb3 : Below w.heap.size w w3)
    (ho : POw 40 w3 w.heap.size v' (Z ++ [⟨Cq, mq, dq, quoL p (cf once) (cf (bezG p (cf once) (cf left))), k⟩]))
    (hr : ISl w4 Cr mr dr (quoL p (cf left) (cf (bezG p (cf once) (cf left))))) (hfr : FreshA w3 Cr) (hb4 : Below w3.heap.size w3 w4) :
    TI p a w w4 (k + 1) v' (Z ++ [⟨Cq, mq, dq, quoL p (cf once) (cf (bezG p (cf once) (cf left))), k⟩]) C m d (bezG p (cf once) (cf left)) Cr mr dr (quoL p (cf left) (cf (bezG p (cf once) (cf left)))) := by
  obtain ⟨t1, t2, t3, _⟩ := h.ts.part hp hl
  refine ⟨h.ts.next hp, ?_, ho.below hb4, hg.below hb4, hr, ApO.fresh ho hfr, hfr.after hb3.size, fun z hz => ?_, by have := h.k1; omega, by have := h.zl; simp; omega, hb3.trans (hb4.mono hb3.size)⟩
  · rw [pls_append]
    exact h.told.snoc h.k1 t3 t1 t2
  · rcases List.mem_append.1 hz with hz | hz
    · exact h.fr z hz
    · rw [List.mem_singleton.1 hz]; exact hf
theorem ti_none {p : Int} {a : List Int} {w wr w2 w4 : World} {k : Nat} {vf : Value} {Z : List Pt} {Co : Option Addr} {mo do_ : Nat} {once : List Int} {Cl : Option Addr} {ml dl : Nat} {left : List Int} {C Cr : Option Addr} {m d mr dr : Nat}
    (hp : Pr p) (h : TI p a w wr k vf Z Co mo do_ once Cl ml dl left) (hl : ¬ (bezG p (cf once) (cf left)).length < once.length)
    (hg : ISl w2 C m d (bezG p (cf once) (cf left))) (hb : Below wr.heap.size wr w2)
    (hr : ISl w4 Cr mr dr (quoL p (cf left) (cf (bezG p (cf once) (cf left))))) (hfr : FreshA w2 Cr) (hb4 : Below w2.heap.size w2 w4) :
    TI p a w w4 (k + 1) vf Z C m d (bezG p (cf once) (cf left)) Cr mr dr (quoL p (cf left) (cf (bezG p (cf once) (cf left)))) :=
  ⟨h.ts.next hp, h.told.skip (h.ts.none hp hl), (h.own.below hb).below hb4, hg.below hb4, hr, ApO.fresh (h.own.below hb) hfr, hfr.after (below_to h.be hb).size, h.fr, by have := h.k1; omega, by have := h.zl; omega, below_to h.be (below_to hb hb4)⟩

set_option maxRecDepth 100000 in
set_option maxHeartbeats 4000000 in
theorem fTold (A : Option Addr) (n c : Nat) (xs : List Int) (p : Int) (w : World) (hT : TabAt w) (h : ISl w A n c xs) (ip : In64 p) (hp : Pr p) (hx : Mn p xs) (hn : n ≤ 900) :
    Calls Tryd.prog 43 #[.slice A n c, .int .i64 p] w fun e w' => ∃ A' k c' Z C m d left, e = .returned (.tuple #[.slice A' k c', .slice C m d]) ∧ TO p xs w A' k c' Z C m d left w' := by
  have HL := Lib.hid h.len
  have H := Lib.hid h
  have HT := Lib.hid hT
  have PR := Lib.hid hp
  have HX := Lib.hid hx
  have IP := Lib.hid ip
  have D1 := Lib.hid (fDer A n c xs p w hT h ip (by omega))
  have S0 := Lib.hid (ts_start hp hx)
  clear h hT hp hx ip
  go_enter Tryd.func43, Tryd.ntmps43
  go_wp2_with (first
    | (go_at_call 32; (with_reducible refine D1.out.mono ?_); rintro e w1 ⟨Cd, md, dd, rfl, hg1⟩; have HB1 := Lib.hid hg1.bel; have G1 := Lib.hid hg1.isl; have M1 := Lib.hid hg1.2.1; have D2 := Lib.hid (fGcd A Cd n c md dd xs _ p w1 (HT.out.below HB1.out) (H.out.below HB1.out) G1.out IP.out (by omega) (by have := M1.out; omega)); clear hg1)
    | (go_at_call 31; (with_reducible refine D2.out.mono ?_); rintro e w2 ⟨Cg, mg, dg, rfl, hg2, hf2⟩; have F2 := Lib.hid (FreshA.after hf2 HB1.out.size); clear hf2; have HB2 := Lib.hid (below_to HB1.out hg2.bel); have G2 := Lib.hid hg2.isl; have L2 := Lib.hid (show mg ≤ n by have := S0.out.l2; have := G2.out.len; have := HL.out; omega); have D3 := Lib.hid (fQuo A Cg n c mg dg xs _ p w2 (HT.out.below HB2.out) (H.out.below HB2.out) G2.out IP.out (by omega) (by have := L2.out; omega)); clear hg2)
    | (go_at_call 67; (with_reducible refine D3.out.mono ?_); rintro e w3 ⟨Cq, mq, dq, rfl, hg3, -⟩; have HB3 := Lib.hid (below_to HB2.out hg3.bel); have G3 := Lib.hid hg3.isl; have G4 := Lib.hid (G2.out.below hg3.bel); clear hg3))
  go_loopw [6, 7, 8, 9] (fun vf vl vo vn wr => ∃ (k : Nat) (Z : List Pt) (Co : Option Addr) (mo do_ : Nat) (once : List Int) (Cl : Option Addr) (ml dl : Nat) (left : List Int), vn = .int .i64 (k : Int) ∧ vo = .slice Co mo do_ ∧ vl = .slice Cl ml dl ∧ Hid (TI p xs w wr k vf Z Co mo do_ once Cl ml dl left)) (fun _ _ _ i _ => xs.length - (intOf i).toNat)
  case atStart => exact ⟨1, [], _, _, _, _, _, _, _, _, rfl, rfl, rfl, Lib.hid ⟨S0.out, told_start p xs, POw.nil _ _ _, G3.out, G4.out, .inr (fun _ _ _ _ e => by cases e), F2.out, fun _ h => (List.not_mem_nil h).elim, Nat.le_refl _, Nat.zero_le _, HB3.out⟩⟩
  case round =>
    obtain ⟨k, Z, Co, mo, do_, once, Cl, ml, dl, left, rfl, rfl, rfl, TT⟩ := hrel
    have C1 := Lib.hid (fConst Co mo do_ wr)
    by_cases h1 : mo = 1
    · obtain ⟨A', c', rfl, hrd, hrf, _⟩ := TT.out.own.rd
      have RF := Lib.hid hrf
      have RD := Lib.hid hrd
      have ob := oneB_yes h1
      have E1 := Lib.hid h1
      clear h1 hrd hrf
      go_wp2_with (go_at_call 30; (with_reducible refine C1.out.mono ?_); rintro e w4 ⟨rfl, rfl⟩)
      go_ret2
      exact ⟨A', Z.length, c', Z, Cl, ml, dl, left, rfl, ⟨TT.out.ts.told PR.out HX.out TT.out.told (by rw [← TT.out.io.len]; exact E1.out), RD.out, TT.out.il, TT.out.fr, TT.out.lf, RF.out, TT.out.be⟩⟩
    · have ob := oneB_no h1
      have lo := TT.out.io.len
      have ll := TT.out.il.len
      have hk := TT.out.ts.lt PR.out HX.out (by rw [← lo]; exact h1)
      have o9 : mo ≤ 900 := by have := TT.out.ts.l1; have := HL.out; omega
      have l9 : ml ≤ 900 := by have := TT.out.ts.l2; have := HL.out; omega
      have x9 : xs.length ≤ 900 := by have := HL.out; omega
      have LO := Lib.hid lo
      have LL := Lib.hid ll
      have HK := Lib.hid hk
      have G1 := Lib.hid (fGcd Co Cl mo do_ ml dl once left p wr (HT.out.below TT.out.be) TT.out.io TT.out.il IP.out (by omega) (by omega))
      have k9 : (k : Int) ≤ 900 := by omega
      have GL := Lib.hid (TT.out.ts.more PR.out).2.1
      clear h1 lo ll hk
      by_cases hl : (bezG p (cf once) (cf left)).length < once.length
      · have HLT := Lib.hid hl
        clear hl
        go_wp2_with (first
          | (go_at_call 30; (with_reducible refine C1.out.mono ?_); rintro e w4 ⟨rfl, rfl⟩)
          | (go_at_call 31; (with_reducible refine G1.out.mono ?_); rintro e w5 ⟨Cm, mm, dm, rfl, hg5, hf5⟩; have FM := Lib.hid hf5; clear hf5; have GM := Lib.hid hg5.isl; have BM := Lib.hid hg5.bel; have lt : (mm : Int) < (mo : Int) := by { have := GM.out.len; have := LO.out; have := HLT.out; omega }; have m9 : mm ≤ 900 := by { omega }; have Q1 := Lib.hid (fQuo Co Cm mo do_ mm dm once _ p w5 (HT.out.below (below_to TT.out.be BM.out)) (TT.out.io.below BM.out) GM.out IP.out (by omega) (by omega)); clear hg5)
          | (go_at_call 67; (with_reducible refine Q1.out.mono ?_); rintro e w6 ⟨Cq, mq, dq, rfl, hg6, hf6⟩; have GQ := Lib.hid hg6.isl; have BQ := Lib.hid hg6.bel; have FQ := Lib.hid hf6; clear hg6 hf6)
          | (at_builtin; refine pwpList_new ptyP w6 w6.heap.size rfl 40 ⟨Cq, mq, dq, _, k⟩ rfl (.tmp 35) (.tmp 42) rfl w.heap.size _ Z rfl ((TT.out.own.below BM.out).below BQ.out) rfl GQ.out (ApO.fresh (TT.out.own.below BM.out) FQ.out) (by have := TT.out.zl; omega) (below_to TT.out.be (below_to BM.out BQ.out)).size ?_; intro v7 w7 ho7 hb7 hk7; have OW := Lib.hid ho7; have B7 := Lib.hid ((below_to TT.out.be (below_to BM.out BQ.out)).trans hb7); have M7 := Lib.hid (hk7.isl _ _ _ _ (GM.out.below BQ.out) (ApO.fresh TT.out.own FM.out)).1; have L7 := Lib.hid (hk7.isl _ _ _ _ ((TT.out.il.below BM.out).below BQ.out) TT.out.al).1; have Q2 := Lib.hid (fQuo Cl Cm ml dl mm dm left _ p w7 (HT.out.below B7.out) L7.out M7.out IP.out (by omega) (by omega)); clear ho7 hb7 hk7)
          | (go_at_call 67; (with_reducible refine Q2.out.mono ?_); rintro e w8 ⟨Cr, mr, dr, rfl, hg8, hf8⟩; have GR := Lib.hid hg8.isl; have BR := Lib.hid hg8.bel; have FR := Lib.hid hf8; clear hg8 hf8))
        go_roundw
        case rel => exact ⟨k + 1, _, _, _, _, _, _, _, _, _, by go_num, rfl, rfl, Lib.hid (ti_part PR.out TT.out HLT.out M7.out (FQ.out.after (below_to TT.out.be BM.out).size) B7.out OW.out GR.out FR.out BR.out)⟩
        case measure => simp [intOf]; have := HK.out; omega
      · have HLT := Lib.hid hl
        clear hl
        go_wp2_with (first
          | (go_at_call 30; (with_reducible refine C1.out.mono ?_); rintro e w4 ⟨rfl, rfl⟩)
          | (go_at_call 31; (with_reducible refine G1.out.mono ?_); rintro e w5 ⟨Cm, mm, dm, rfl, hg5, -⟩; have GM := Lib.hid hg5.isl; have BM := Lib.hid hg5.bel; have lt : ¬ (mm : Int) < (mo : Int) := by { have := GM.out.len; have := LO.out; have := HLT.out; omega }; have m9 : mm ≤ 900 := by { have := GM.out.len; have := LO.out; have := GL.out; omega }; have Q1 := Lib.hid (fQuo Cl Cm ml dl mm dm left _ p w5 (HT.out.below (below_to TT.out.be BM.out)) (TT.out.il.below BM.out) GM.out IP.out (by omega) (by omega)); clear hg5)
          | (go_at_call 67; (with_reducible refine Q1.out.mono ?_); rintro e w6 ⟨Cr, mr, dr, rfl, hg6, hf6⟩; have GR := Lib.hid hg6.isl; have BR := Lib.hid hg6.bel; have FR := Lib.hid hf6; clear hg6 hf6))
        go_roundw
        case rel => exact ⟨k + 1, _, _, _, _, _, _, _, _, _, by go_num, rfl, rfl, Lib.hid (ti_none PR.out TT.out HLT.out GM.out BM.out GR.out FR.out BR.out)⟩
        case measure => simp [intOf]; have := HK.out; omega
end Go.Proofs.YtekpifafjbkmiaaDoor

/- Each p-th coefficient: fsqf.root and the document's root, by contract. -/
namespace Go.Proofs.YtekpifafjbkmiaaDoor
open Go.RowKit

def rtk (P : Nat) (xs : List Int) (t : Nat) : List Int := (List.range t).map fun j => cf xs (j * P)
theorem rtk_length (P : Nat) (xs : List Int) (t : Nat) : (rtk P xs t).length = t := by simp [rtk]
theorem rtk_snoc (P : Nat) (xs : List Int) (t : Nat) : rtk P xs (t + 1) = rtk P xs t ++ [cf xs (t * P)] := by simp [rtk, List.range_succ]
theorem rtk_end {P : Nat} {xs : List Int} {t : Nat} (hP : 1 ≤ P) (h1 : xs.length ≤ t * P) (h2 : t * P < xs.length + P) : rtk P xs t = rootL P xs := by
  unfold rootL rtk
  have : (xs.length + P - 1) / P = t := Nat.div_eq_of_lt_le (by omega) (by rw [Nat.succ_mul]; omega)
  rw [this]

set_option maxRecDepth 100000 in
set_option maxHeartbeats 2000000 in
theorem fRoot (A : Option Addr) (n c : Nat) (xs : List Int) (p : Int) (w : World) (h : ISl w A n c xs) (hp : Pr p) (hn : n ≤ 1000) :
    Calls Tryd.prog 44 #[.slice A n c, .int .i64 p] w fun e w' => ∃ C m d, e = .returned (.slice C m d) ∧ ISl w' C m d (rootL p.toNat xs) ∧ Below w.heap.size w w' := by
  have h2 := hp.1
  have h3 := hp.2.1
  obtain ⟨P, hP⟩ : ∃ P : Nat, p = (P : Int) := ⟨p.toNat, by omega⟩
  subst hP
  rw [Int.toNat_natCast]
  have hcl := h.le
  have hcm := h.max
  have H := Lib.hid h
  have HL := Lib.hid h.len
  clear h hp
  go_enter Tryd.func44, Tryd.ntmps44
  go_wp2_with fail
  go_loopw [5, 6] (fun v i wr => ∃ t s : Nat, Hid (s = t * P) ∧ i = .int .i64 (s : Int) ∧ s < n + P ∧ Hid (IOw wr w.heap.size v (rtk P xs t)) ∧ Hid (t ≤ s + 1) ∧ Hid (Below w.heap.size w wr)) (fun _ i _ => n + P - (intOf i).toNat)
  case atStart => exact ⟨0, 0, Lib.hid (by simp), rfl, by omega, Lib.hid (IOw.nil _ _), Lib.hid (by omega), Lib.hid (Below.refl _ _)⟩
  case round =>
    obtain ⟨t, s, hs, rfl, hlt, ho, hts, hb⟩ := hrel
    by_cases hsn : s < n
    · obtain ⟨b, o, rfl, hbl, hc⟩ := H.out.cf_ (by omega)
      have hx := hc s hsn
      rw [← hb.out.cell (p := ⟨b, o + s, none⟩) hbl] at hx
      have hxf : In64 (cf xs s) := by rw [show cf xs s = xs.getD s 0 from rfl]; exact fi_getD H.out.fit s
      have hsnoc : Hid (rtk P xs (t + 1) = rtk P xs t ++ [cf xs s]) := Lib.hid (by rw [rtk_snoc, ← hs.out])
      generalize cf xs s = x at *
      have hN := (iblk_list wr [x] (fi_one hxf)).sl (by simp)
      have HN := Lib.hid hN
      have i1 : (0 : Int) ≤ (s : Int) := by omega
      have i2 : (s : Int) < (n : Int) := by omega
      have HRL := Lib.hid (rtk_length P xs t)
      have hsz := hb.out.size
      clear hc hN hxf
      go_wp2_with (at_builtin; refine iwpList_app _ rfl (.tmp 14) (.tmp 19) rfl w.heap.size _ _ rfl (ho.out.alloc _) (some ⟨wr.heap.size, 0, none⟩) 1 1 rfl [x] HN.out (by rw [HRL.out]; have := hts.out; omega) (by simp; omega) ?_; intro v1 w3 ho1 hb3; have HO1 := Lib.hid ho1; have HB1 := Lib.hid ((hb.out.alloc hsz _).trans hb3); clear ho1 hb3)
      go_roundw
      case rel => exact ⟨t + 1, s + P, Lib.hid (by rw [Nat.succ_mul, ← hs.out]), by go_num, by omega, Lib.hid (by rw [hsnoc.out]; exact HO1.out), Lib.hid (by have := hts.out; omega), HB1⟩
      case measure => simp [intOf]; omega
    · obtain ⟨A', c', rfl, hsl, _⟩ := ho.out.sl
      have HS := Lib.hid hsl
      have HE := Lib.hid (rtk_end (P := P) (xs := xs) (t := t) (by omega) (by rw [← hs.out, ← HL.out]; omega) (by rw [← hs.out, ← HL.out]; omega))
      clear hsl
      go_wp2_with fail
      go_ret
      exact ⟨A', _, c', rfl, by rw [← HE.out]; exact HS.out, hb.out⟩
set_option maxRecDepth 100000 in
set_option maxHeartbeats 2000000 in
theorem rRoot (A : Option Addr) (n c : Nat) (xs : List Int) (p : Int) (w : World) (h : ISl w A n c xs) (hp : Pr p) (hn : n ≤ 1000) :
    Calls Tryd.prog 53 #[.slice A n c, .int .i64 p] w fun e w' => ∃ C m d, e = .returned (.slice C m d) ∧ ISl w' C m d (rootL p.toNat xs) ∧ Below w.heap.size w w' := by
  have h2 := hp.1
  have h3 := hp.2.1
  obtain ⟨P, hP⟩ : ∃ P : Nat, p = (P : Int) := ⟨p.toNat, by omega⟩
  subst hP
  rw [Int.toNat_natCast]
  have hcl := h.le
  have hcm := h.max
  have H := Lib.hid h
  have HL := Lib.hid h.len
  clear h hp
  go_enter Tryd.func53, Tryd.ntmps53
  go_wp2_with fail
  go_loopw [5, 6] (fun v i wr => ∃ t s : Nat, Hid (s = t * P) ∧ i = .int .i64 (s : Int) ∧ s < n + P ∧ Hid (IOw wr w.heap.size v (rtk P xs t)) ∧ Hid (t ≤ s + 1) ∧ Hid (Below w.heap.size w wr)) (fun _ i _ => n + P - (intOf i).toNat)
  case atStart => exact ⟨0, 0, Lib.hid (by simp), rfl, by omega, Lib.hid (IOw.nil _ _), Lib.hid (by omega), Lib.hid (Below.refl _ _)⟩
  case round =>
    obtain ⟨t, s, hs, rfl, hlt, ho, hts, hb⟩ := hrel
    by_cases hsn : s < n
    · obtain ⟨b, o, rfl, hbl, hc⟩ := H.out.cf_ (by omega)
      have hx := hc s hsn
      rw [← hb.out.cell (p := ⟨b, o + s, none⟩) hbl] at hx
      have hxf : In64 (cf xs s) := by rw [show cf xs s = xs.getD s 0 from rfl]; exact fi_getD H.out.fit s
      have hsnoc : Hid (rtk P xs (t + 1) = rtk P xs t ++ [cf xs s]) := Lib.hid (by rw [rtk_snoc, ← hs.out])
      generalize cf xs s = x at *
      have hN := (iblk_list wr [x] (fi_one hxf)).sl (by simp)
      have HN := Lib.hid hN
      have i1 : (0 : Int) ≤ (s : Int) := by omega
      have i2 : (s : Int) < (n : Int) := by omega
      have HRL := Lib.hid (rtk_length P xs t)
      have hsz := hb.out.size
      clear hc hN hxf
      go_wp2_with (at_builtin; refine iwpList_app _ rfl (.tmp 14) (.tmp 19) rfl w.heap.size _ _ rfl (ho.out.alloc _) (some ⟨wr.heap.size, 0, none⟩) 1 1 rfl [x] HN.out (by rw [HRL.out]; have := hts.out; omega) (by simp; omega) ?_; intro v1 w3 ho1 hb3; have HO1 := Lib.hid ho1; have HB1 := Lib.hid ((hb.out.alloc hsz _).trans hb3); clear ho1 hb3)
      go_roundw
      case rel => exact ⟨t + 1, s + P, Lib.hid (by rw [Nat.succ_mul, ← hs.out]), by go_num, by omega, Lib.hid (by rw [hsnoc.out]; exact HO1.out), Lib.hid (by have := hts.out; omega), HB1⟩
      case measure => simp [intOf]; omega
    · obtain ⟨A', c', rfl, hsl, _⟩ := ho.out.sl
      have HS := Lib.hid hsl
      have HE := Lib.hid (rtk_end (P := P) (xs := xs) (t := t) (by omega) (by rw [← hs.out, ← HL.out]; omega) (by rw [← hs.out, ← HL.out]; omega))
      clear hsl
      go_wp2_with fail
      go_ret
      exact ⟨A', _, c', rfl, by rw [← HE.out]; exact HS.out, hb.out⟩
end Go.Proofs.YtekpifafjbkmiaaDoor

/- slices.SortFunc at fsqf's parts, by how often: the closure, and what the row holds behind it. -/
namespace Go.Proofs.YtekpifafjbkmiaaDoor
open Go.RowKit Go.Shelf Go.Lib

set_option maxRecDepth 100000 in
set_option maxHeartbeats 1000000 in
theorem fNaN (x : Int) (w : World) : Calls Tryd.prog 70 #[.int .i64 x] w fun e w' => e = .returned (.bool false) ∧ w = w' := by
  go_enter Tryd.func70, Tryd.ntmps70
  go_wp2_with fail
  go_ret
  exact ⟨by simp, rfl⟩
set_option maxRecDepth 100000 in
set_option maxHeartbeats 1000000 in
theorem fCmpInt (x y : Int) (w : World) : Calls Tryd.prog 47 #[.int .i64 x, .int .i64 y] w fun e w' => e = .returned (.int .i64 (Lib.compareInt x y)) ∧ w = w' := by
  have N1 := Lib.hid (fun x => fNaN x w)
  unfold Lib.compareInt
  by_cases h1 : x < y
  · rw [if_pos h1]
    go_enter Tryd.func47, Tryd.ntmps47
    go_wp2_with (go_at_call 70; (with_reducible refine (N1.out _).mono ?_); rintro e w1 ⟨rfl, rfl⟩)
    go_ret
    exact ⟨rfl, rfl⟩
  · rw [if_neg h1]
    by_cases h2 : x > y
    · rw [if_pos h2]
      have h3 : y < x := h2
      go_enter Tryd.func47, Tryd.ntmps47
      go_wp2_with (go_at_call 70; (with_reducible refine (N1.out _).mono ?_); rintro e w1 ⟨rfl, rfl⟩)
      go_ret
      exact ⟨rfl, rfl⟩
    · rw [if_neg h2]
      have h3 : ¬ y < x := h2
      go_enter Tryd.func47, Tryd.ntmps47
      go_wp2_with (go_at_call 70; (with_reducible refine (N1.out _).mono ?_); rintro e w1 ⟨rfl, rfl⟩)
      go_ret
      exact ⟨rfl, rfl⟩

/-- By how often. -/
def byN (x y : Pt) : Int := Lib.compareInt (x.N : Int) (y.N : Int)
theorem byN_lt (x y : Pt) : ltOf byN x y = decide (x.N < y.N) := by
  unfold ltOf byN Lib.compareInt
  by_cases h1 : (x.N : Int) < (y.N : Int)
  · rw [if_pos h1]
    rw [decide_eq_true (show x.N < y.N by omega)]; rfl
  · rw [if_neg h1, decide_eq_false (show ¬ x.N < y.N by omega)]
    split <;> rfl
theorem byN_swo : Sort.SWO (ltOf byN) where
  irrefl x := by rw [byN_lt]; simp
  trans x y z h1 h2 := by rw [byN_lt] at *; simp at *; omega
  ntrans x y z h1 h2 := by rw [byN_lt] at *; simp at *; omega

set_option maxRecDepth 100000 in
set_option maxHeartbeats 1000000 in
theorem fByN (x y : Pt) (W : World) : Calls Tryd.prog 46 #[.agg #[x.sl, x.nv], .agg #[y.sl, y.nv]] W fun e w' => e = .returned (.int .i64 (byN x y)) ∧ ∃ q os', w' = Sort.grow (W.drewN q) os' := by
  have C := Lib.hid (fun W => fCmpInt (x.N : Int) (y.N : Int) W)
  unfold byN Pt.sl Pt.nv
  generalize Lib.compareInt (x.N : Int) (y.N : Int) = r at *
  go_enter Tryd.func46, Tryd.ntmps46
  go_wp2_with (go_at_call 47; (with_reducible refine (C.out _).mono ?_); rintro e w1 ⟨rfl, rfl⟩)
  go_ret
  exact ⟨rfl, 0, _, by rw [Sort.alloc_eq_grow, Sort.alloc_eq_grow, Sort.grow_grow]; rfl⟩

theorem pvals_get (Z : List Pt) (t : Nat) (ht : t < Z.length * 2) : (pvals Z)[t]? = some (Pt.enc (Z.toArray[t / 2]!))[t % 2]! := by
  obtain ⟨k1, k2⟩ := pvals_at Z (t / 2) (by omega)
  have e : Z.toArray[t / 2]! = Z[t / 2]'(by omega) := by
    rw [getElem!_pos Z.toArray (t / 2) (by simp; omega)]
    simp
  rw [e]
  rcases Nat.mod_two_eq_zero_or_one t with h | h
  · rw [h]
    have : t = t / 2 * 2 := by omega
    rw [show (pvals Z)[t]? = (pvals Z)[t / 2 * 2]? by rw [← this]]
    exact k1
  · rw [h]
    have : t = t / 2 * 2 + 1 := by omega
    rw [show (pvals Z)[t]? = (pvals Z)[t / 2 * 2 + 1]? by rw [← this]]
    exact k2
theorem holds_parts {w : World} {b : Nat} {Z : List Pt} (hf : ∀ i, w.frozen? ⟨b, i, none⟩ = false) (hc : ∀ i, i < Z.length * 2 → w.cell? ⟨b, i, none⟩ = (pvals Z)[i]?) : Sort.HoldsK Pt.enc 2 w b 0 Z.toArray := by
  intro j hj
  have hj2 : j < Z.length * 2 := by simpa using hj
  refine ⟨?_, by rw [Nat.zero_add]; exact hf j⟩
  rw [Nat.zero_add, hc j hj2, pvals_get Z j hj2, Sort.get_flatK _ _ _ _ (by simpa using hj2)]
  rfl
theorem sort_grown (w : World) (b n : Nat) (d : Array Pt) (os : Array Obj) : w.grownBy (sortWorldK Pt.enc 2 w b 0 n d os) (some b) := by
  refine ⟨rfl, rfl, rfl, ?_, fun k hk hne => ?_⟩
  · exact size_sortWorldK_c Pt.enc 2 w b 0 n d os
  · have hkb : b ≠ k := fun e => hne (by rw [e])
    show (Array.modify w.heap b _ ++ os)[k]? = w.heap[k]?
    rw [Array.getElem?_append_left (by simpa using hk), Array.getElem?_modify, if_neg hkb]
/-- What the row holds behind the sort. -/
def SRow (w : World) (b : Nat) (Z : List Pt) (w' : World) : Prop :=
  ∃ Z' : List Pt, Z'.Perm Z ∧ (Z'.map (·.N)).Pairwise (· ≤ ·) ∧ w.grownBy w' (some b) ∧ ∀ i (h : i < Z'.length), w'.cell? ⟨b, 0 + i * 2, none⟩ = some Z'[i].sl ∧ w'.cell? ⟨b, 0 + i * 2 + 1, none⟩ = some Z'[i].nv
theorem fSort (b c : Nat) (Z : List Pt) (w : World) (hb : b < w.heap.size) (hf : ∀ i, w.frozen? ⟨b, i, none⟩ = false) (hc : ∀ i, i < Z.length * 2 → w.cell? ⟨b, i, none⟩ = (pvals Z)[i]?) (hn : Z.length ≤ 1000000) :
    Calls Tryd.prog 45 #[.slice (some ⟨b, 0, none⟩) Z.length c, .func (.func 46) #[] #[]] w fun e w' => e = .returned (.tuple #[]) ∧ SRow w b Z w' := by
  have eg : ∀ args w, (callFunc 46 args).run Tryd.prog w = .ok (.enter 46 args) w := enters_of Tryd.func46 (by kernel_rfl) rfl
  have hH := holds_parts hf hc
  have hcon := AnyQ.slices_SortFunc Tryd.sortPart 2 Tryd.isAgg40 Tryd.sizeOf40 Pt.enc (fun _ => rfl) (fun x v hv => by simp [Pt.enc] at hv; rcases hv with rfl | rfl <;> rfl) byN byN_swo 46 #[] b 0 c Z.toArray w eg (fun _ _ _ _ x y => fByN x y _) hH hb (by simp; omega)
  refine Calls.mono hcon ?_
  rintro e w' ⟨rfl, d', n, os, hp, hs, rfl⟩
  have hsz : d'.size = Z.length := by simpa using hp.1
  have hperm : d'.toList.Perm Z := by
    have := hp.2.2
    rw [Array.extract_eq_self_of_le (by simp; omega), Array.extract_eq_self_of_le (by simp)] at this
    simpa using this
  have hH' := holdsK_sortWorldK_c Pt.enc 2 w b 0 Z.toArray d' n os hH hb (by simpa using hp.1)
  refine ⟨rfl, d'.toList, hperm, ?_, sort_grown w b n d' os, fun i hi => ?_⟩
  · rw [List.pairwise_map, List.pairwise_iff_getElem]
    intro i j hi hj hij
    have hi2 : i < d'.size := by simpa using hi
    have hj2 : j < d'.size := by simpa using hj
    have := hs i j (Nat.zero_le _) hij (by simp; omega)
    rw [byN_lt, getElem!_pos d' j hj2, getElem!_pos d' i hi2] at this
    have h2 := of_decide_eq_false this
    simp only [Array.getElem_toList]
    omega
  · have hi2 : i < d'.size := by simpa using hi
    have c0 := (hH'.cell hi2 (show 0 < 2 by decide)).1
    have c1 := (hH'.cell hi2 (show 1 < 2 by decide)).1
    rw [getElem!_pos d' i hi2] at c0 c1
    simp only [Array.getElem_toList]
    exact ⟨c0, c1⟩
theorem fSort0 (A : Option Addr) (c : Nat) (w : World) :
    Calls Tryd.prog 45 #[.slice A 0 c, .func (.func 46) #[] #[]] w fun e w' => e = .returned (.tuple #[]) ∧ w' = w :=
  AnyF.slices_SortFunc_none Tryd.sortPart A c _ w
theorem srow_rd {w wr w' : World} {b zl c : Nat} {Z : List Pt} (ho : POw 40 wr w.heap.size (.slice (some ⟨b, 0, none⟩) zl c) Z) (hr : PRd wr (some ⟨b, 0, none⟩) zl c Z) (hb : w.heap.size ≤ b) (hlt : b < wr.heap.size) (hw : Below w.heap.size w wr) (h : SRow wr b Z w') :
    ∃ Zs : List Pt, Zs.Perm Z ∧ (Zs.map (·.N)).Pairwise (· ≤ ·) ∧ PRd w' (some ⟨b, 0, none⟩) zl c Zs ∧ Below w.heap.size w w' := by
  obtain ⟨Zs, h1, h2, h3, h4⟩ := h
  refine ⟨Zs, h1, h2, ⟨by rw [h1.length_eq]; exact hr.len, hr.le, hr.max, fun z hz => ?_, .inr ⟨b, 0, rfl, Nat.lt_of_lt_of_le hlt h3.size, h4⟩⟩, hw.grown h3 hw.size (fun k e => by simp only [Option.some.injEq] at e; omega)⟩
  obtain ⟨k1, k2⟩ := ho.2 z (h1.mem_iff.1 hz)
  exact k1.grownO h3 k2
end Go.Proofs.YtekpifafjbkmiaaDoor

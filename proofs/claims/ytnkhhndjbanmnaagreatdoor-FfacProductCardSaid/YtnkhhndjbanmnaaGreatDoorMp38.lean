/- Texts joined, in their order: FsqTold, FsqRoot, FsqParts. -/
import Derived.WalkMore
import Derived.ScopeJumps
import Derived.Test.YtnkhhndjbanmnaaGreatDoorMp20
import Derived.Test.YtnkhhndjbanmnaaGreatDoorMp21

/- fsqf.partsTold by contract: the parts whose numbers p does not divide, and what is left. -/
namespace Go.Proofs.YtnkhhndjbanmnaaGreatDoor
open Go.RowKit

structure TI (p : Int) (a : List Int) (w wr : World) (k : Nat) (vf : Value) (Z : List Pt) (Co : Option Addr) (mo do_ : Nat) (once : List Int) (Cl : Option Addr) (ml dl : Nat) (left : List Int) : Prop where
  ts : TS p a k once left
  told : Told p a k (pls Z)
  own : POw 58 wr w.heap.size vf Z
  io : ISl wr Co mo do_ once
  il : ISl wr Cl ml dl left
  al : ApO Cl left vf.ownBlock
  lf : FreshA w Cl
  fr : ∀ z ∈ Z, FreshA w z.A
  k1 : 1 ≤ k
  zl : Z.length ≤ k
  be : Below w.heap.size w wr
structure TO (p : Int) (a : List Int) (w : World) (A : Option Addr) (k c : Nat) (Z : List Pt) (C : Option Addr) (m d : Nat) (left : List Int) (w' : World) : Prop where
  all : ToldAll p a (pls Z) left
  rd : PRd w' A k c Z
  il : ISl w' C m d left
  fr : ∀ z ∈ Z, FreshA w z.A
  lf : FreshA w C
  rf : FreshA w A
  be : Below w.heap.size w w'
theorem ApO.fresh {w : World} {T : TypeId} {B : Nat} {v : Value} {Z : List Pt} {A : Option Addr} {xs : List Int} (h : POw T w B v Z) (hf : FreshA w A) : ApO A xs v.ownBlock := h.apart fun b o s e => .inl (hf b o s e)
theorem ti_part {p : Int} {a : List Int} {w wr w3 w4 : World} {k : Nat} {vf v' : Value} {Z : List Pt} {Co : Option Addr} {mo do_ : Nat} {once : List Int} {Cl : Option Addr} {ml dl : Nat} {left : List Int} {C Cq Cr : Option Addr} {m d mq dq mr dr : Nat}
    (hp : Pr p) (h : TI p a w wr k vf Z Co mo do_ once Cl ml dl left) (hl : (bezG p (cf once) (cf left)).length < once.length)
    (hg : ISl w3 C m d (bezG p (cf once) (cf left))) (hf : FreshA w Cq) (hb3 : Below w.heap.size w w3)
    (ho : POw 58 w3 w.heap.size v' (Z ++ [⟨Cq, mq, dq, quoL p (cf once) (cf (bezG p (cf once) (cf left))), k⟩]))
    (hr : ISl w4 Cr mr dr (quoL p (cf left) (cf (bezG p (cf once) (cf left))))) (hfr : FreshA w3 Cr) (hb4 : Below w3.heap.size w3 w4) :
    TI p a w w4 (k + 1) v' (Z ++ [⟨Cq, mq, dq, quoL p (cf once) (cf (bezG p (cf once) (cf left))), k⟩]) C m d (bezG p (cf once) (cf left)) Cr mr dr (quoL p (cf left) (cf (bezG p (cf once) (cf left)))) := by
  obtain ⟨t1, t2, t3, _⟩ := h.ts.part hp hl
  refine ⟨h.ts.next hp, ?_, ho.below hb4, hg.below hb4, hr, ApO.fresh ho hfr, hfr.after hb3.size, fun z hz => ?_, by have := h.k1; omega, by have := h.zl; simp; omega, hb3.trans (hb4.mono hb3.size)⟩
  · rw [pls_append]
    exact h.told.snoc h.k1 t3 t1 t2
  · rcases List.mem_append.1 hz with hz | hz
    · exact h.fr z hz
    · rw [List.mem_singleton.1 hz]; exact hf
theorem ti_none {p : Int} {a : List Int} {w wr w2 w4 : World} {k : Nat} {vf : Value} {Z : List Pt} {Co : Option Addr} {mo do_ : Nat} {once : List Int} {Cl : Option Addr} {ml dl : Nat} {left : List Int} {C Cr : Option Addr} {m d mr dr : Nat}
    (hp : Pr p) (h : TI p a w wr k vf Z Co mo do_ once Cl ml dl left) (hl : ¬ (bezG p (cf once) (cf left)).length < once.length)
    (hg : ISl w2 C m d (bezG p (cf once) (cf left))) (hb : Below wr.heap.size wr w2)
    (hr : ISl w4 Cr mr dr (quoL p (cf left) (cf (bezG p (cf once) (cf left))))) (hfr : FreshA w2 Cr) (hb4 : Below w2.heap.size w2 w4) :
    TI p a w w4 (k + 1) vf Z C m d (bezG p (cf once) (cf left)) Cr mr dr (quoL p (cf left) (cf (bezG p (cf once) (cf left)))) :=
  ⟨h.ts.next hp, h.told.skip (h.ts.none hp hl), (h.own.below hb).below hb4, hg.below hb4, hr, ApO.fresh (h.own.below hb) hfr, hfr.after (below_to h.be hb).size, h.fr, by have := h.k1; omega, by have := h.zl; omega, below_to h.be (below_to hb hb4)⟩

set_option maxRecDepth 100000 in
set_option maxRecDepth 100000 in
set_option maxHeartbeats 4000000 in
theorem fTold (A : Option Addr) (n c : Nat) (xs : List Int) (p : Int) (w : World) (hT : TabAt w) (h : ISl w A n c xs) (ip : In64 p) (hp : Pr p) (hx : Mn p xs) (hn : n ≤ 900) :
    Calls Tryz.prog 82 #[.slice A n c, .int .i64 p] w fun e w' => ∃ A' k c' Z C m d left, e = .returned (.tuple #[.slice A' k c', .slice C m d]) ∧ TO p xs w A' k c' Z C m d left w' := by
  have HL := Lib.hid h.len
  have H := Lib.hid h
  have HT := Lib.hid hT
  have PR := Lib.hid hp
  have HX := Lib.hid hx
  have IP := Lib.hid ip
  have D1 := Lib.hid (fDer A n c xs p w hT h ip (by omega))
  have S0 := Lib.hid (ts_start hp hx)
  clear h hT hp hx ip
  go_enter Tryz.func82, Tryz.ntmps82
  go_wp2_with (first
    | (go_at_call 104; (with_reducible refine D1.out.mono ?_); rintro e w1 ⟨Cd, md, dd, rfl, hg1⟩; have HB1 := Lib.hid hg1.bel; have G1 := Lib.hid hg1.isl; have M1 := Lib.hid hg1.2.1; have D2 := Lib.hid (fGcd A Cd n c md dd xs _ p w1 (HT.out.below HB1.out) (H.out.below HB1.out) G1.out IP.out (by omega) (by have := M1.out; omega)); clear hg1)
    | (go_at_call 103; (with_reducible refine D2.out.mono ?_); rintro e w2 ⟨Cg, mg, dg, rfl, hg2, hf2⟩; have F2 := Lib.hid (FreshA.after hf2 HB1.out.size); clear hf2; have HB2 := Lib.hid (below_to HB1.out hg2.bel); have G2 := Lib.hid hg2.isl; have L2 := Lib.hid (show mg ≤ n by have := S0.out.l2; have := G2.out.len; have := HL.out; omega); have D3 := Lib.hid (fQuo A Cg n c mg dg xs _ p w2 (HT.out.below HB2.out) (H.out.below HB2.out) G2.out IP.out (by omega) (by have := L2.out; omega)); clear hg2)
    | (go_at_call 133; (with_reducible refine D3.out.mono ?_); rintro e w3 ⟨Cq, mq, dq, rfl, hg3, -⟩; have HB3 := Lib.hid (below_to HB2.out hg3.bel); have G3 := Lib.hid hg3.isl; have G4 := Lib.hid (G2.out.below hg3.bel); clear hg3))
  go_loopw [6, 7, 8, 9] (fun vf vl vo vn wr => ∃ (k : Nat) (Z : List Pt) (Co : Option Addr) (mo do_ : Nat) (once : List Int) (Cl : Option Addr) (ml dl : Nat) (left : List Int), vn = .int .i64 (k : Int) ∧ vo = .slice Co mo do_ ∧ vl = .slice Cl ml dl ∧ Hid (TI p xs w wr k vf Z Co mo do_ once Cl ml dl left)) (fun _ _ _ i _ => xs.length - (intOf i).toNat)
  case atStart => exact ⟨1, [], _, _, _, _, _, _, _, _, rfl, rfl, rfl, Lib.hid ⟨S0.out, told_start p xs, POw.nil _ _ _, G3.out, G4.out, .inr (fun _ _ _ _ e => by cases e), F2.out, fun _ h => (List.not_mem_nil h).elim, Nat.le_refl _, Nat.zero_le _, HB3.out⟩⟩
  case round =>
    obtain ⟨k, Z, Co, mo, do_, once, Cl, ml, dl, left, rfl, rfl, rfl, TT⟩ := hrel
    have C1 := Lib.hid (fConst Co mo do_ wr)
    by_cases h1 : mo = 1
    · obtain ⟨A', c', rfl, hrd, hrf, _⟩ := TT.out.own.rd
      have RF := Lib.hid hrf
      have RD := Lib.hid hrd
      have ob := oneB_yes h1
      have E1 := Lib.hid h1
      clear h1 hrd hrf
      go_wp2_with (go_at_call 83; (with_reducible refine C1.out.mono ?_); rintro e w4 ⟨rfl, rfl⟩)
      go_ret2
      exact ⟨A', Z.length, c', Z, Cl, ml, dl, left, rfl, ⟨TT.out.ts.told PR.out HX.out TT.out.told (by rw [← TT.out.io.len]; exact E1.out), RD.out, TT.out.il, TT.out.fr, TT.out.lf, RF.out, TT.out.be⟩⟩
    · have ob := oneB_no h1
      have lo := TT.out.io.len
      have ll := TT.out.il.len
      have hk := TT.out.ts.lt PR.out HX.out (by rw [← lo]; exact h1)
      have o9 : mo ≤ 900 := by have := TT.out.ts.l1; have := HL.out; omega
      have l9 : ml ≤ 900 := by have := TT.out.ts.l2; have := HL.out; omega
      have x9 : xs.length ≤ 900 := by have := HL.out; omega
      have LO := Lib.hid lo
      have LL := Lib.hid ll
      have HK := Lib.hid hk
      have G1 := Lib.hid (fGcd Co Cl mo do_ ml dl once left p wr (HT.out.below TT.out.be) TT.out.io TT.out.il IP.out (by omega) (by omega))
      have k9 : (k : Int) ≤ 900 := by omega
      have GL := Lib.hid (TT.out.ts.more PR.out).2.1
      clear h1 lo ll hk
      by_cases hl : (bezG p (cf once) (cf left)).length < once.length
      · have HLT := Lib.hid hl
        clear hl
        go_wp2_with (first
          | (go_at_call 83; (with_reducible refine C1.out.mono ?_); rintro e w4 ⟨rfl, rfl⟩)
          | (go_at_call 103; (with_reducible refine G1.out.mono ?_); rintro e w5 ⟨Cm, mm, dm, rfl, hg5, hf5⟩; have FM := Lib.hid hf5; clear hf5; have GM := Lib.hid hg5.isl; have BM := Lib.hid hg5.bel; have lt : (mm : Int) < (mo : Int) := by { have := GM.out.len; have := LO.out; have := HLT.out; omega }; have m9 : mm ≤ 900 := by { omega }; have Q1 := Lib.hid (fQuo Co Cm mo do_ mm dm once _ p w5 (HT.out.below (below_to TT.out.be BM.out)) (TT.out.io.below BM.out) GM.out IP.out (by omega) (by omega)); clear hg5)
          | (go_at_call 133; (with_reducible refine Q1.out.mono ?_); rintro e w6 ⟨Cq, mq, dq, rfl, hg6, hf6⟩; have GQ := Lib.hid hg6.isl; have BQ := Lib.hid hg6.bel; have FQ := Lib.hid hf6; clear hg6 hf6)
          | (at_builtin; refine pwpList_new ptyP w6 w6.heap.size rfl 58 ⟨Cq, mq, dq, _, k⟩ rfl (.tmp 35) (.tmp 42) rfl w.heap.size _ Z rfl ((TT.out.own.below BM.out).below BQ.out) rfl GQ.out (ApO.fresh (TT.out.own.below BM.out) FQ.out) (by have := TT.out.zl; omega) (below_to TT.out.be (below_to BM.out BQ.out)).size ?_; intro v7 w7 ho7 hb7 hk7; have OW := Lib.hid ho7; have B7 := Lib.hid ((below_to TT.out.be (below_to BM.out BQ.out)).trans hb7); have M7 := Lib.hid (hk7.isl _ _ _ _ (GM.out.below BQ.out) (ApO.fresh TT.out.own FM.out)).1; have L7 := Lib.hid (hk7.isl _ _ _ _ ((TT.out.il.below BM.out).below BQ.out) TT.out.al).1; have Q2 := Lib.hid (fQuo Cl Cm ml dl mm dm left _ p w7 (HT.out.below B7.out) L7.out M7.out IP.out (by omega) (by omega)); clear ho7 hb7 hk7)
          | (go_at_call 133; (with_reducible refine Q2.out.mono ?_); rintro e w8 ⟨Cr, mr, dr, rfl, hg8, hf8⟩; have GR := Lib.hid hg8.isl; have BR := Lib.hid hg8.bel; have FR := Lib.hid hf8; clear hg8 hf8))
        go_roundw
        case rel => exact ⟨k + 1, _, _, _, _, _, _, _, _, _, by go_num, rfl, rfl, Lib.hid (ti_part PR.out TT.out HLT.out M7.out (FQ.out.after (below_to TT.out.be BM.out).size) B7.out OW.out GR.out FR.out BR.out)⟩
        case measure => simp [intOf]; have := HK.out; omega
      · have HLT := Lib.hid hl
        clear hl
        go_wp2_with (first
          | (go_at_call 83; (with_reducible refine C1.out.mono ?_); rintro e w4 ⟨rfl, rfl⟩)
          | (go_at_call 103; (with_reducible refine G1.out.mono ?_); rintro e w5 ⟨Cm, mm, dm, rfl, hg5, -⟩; have GM := Lib.hid hg5.isl; have BM := Lib.hid hg5.bel; have lt : ¬ (mm : Int) < (mo : Int) := by { have := GM.out.len; have := LO.out; have := HLT.out; omega }; have m9 : mm ≤ 900 := by { have := GM.out.len; have := LO.out; have := GL.out; omega }; have Q1 := Lib.hid (fQuo Cl Cm ml dl mm dm left _ p w5 (HT.out.below (below_to TT.out.be BM.out)) (TT.out.il.below BM.out) GM.out IP.out (by omega) (by omega)); clear hg5)
          | (go_at_call 133; (with_reducible refine Q1.out.mono ?_); rintro e w6 ⟨Cr, mr, dr, rfl, hg6, hf6⟩; have GR := Lib.hid hg6.isl; have BR := Lib.hid hg6.bel; have FR := Lib.hid hf6; clear hg6 hf6))
        go_roundw
        case rel => exact ⟨k + 1, _, _, _, _, _, _, _, _, _, by go_num, rfl, rfl, Lib.hid (ti_none PR.out TT.out HLT.out GM.out BM.out GR.out FR.out BR.out)⟩
        case measure => simp [intOf]; have := HK.out; omega
end Go.Proofs.YtnkhhndjbanmnaaGreatDoor

/- Each p-th coefficient: fsqf.root and the document's root, by contract. -/
namespace Go.Proofs.YtnkhhndjbanmnaaGreatDoor
open Go.RowKit

def rtk (P : Nat) (xs : List Int) (t : Nat) : List Int := (List.range t).map fun j => cf xs (j * P)
theorem rtk_length (P : Nat) (xs : List Int) (t : Nat) : (rtk P xs t).length = t := by simp [rtk]
theorem rtk_snoc (P : Nat) (xs : List Int) (t : Nat) : rtk P xs (t + 1) = rtk P xs t ++ [cf xs (t * P)] := by simp [rtk, List.range_succ]
theorem rtk_end {P : Nat} {xs : List Int} {t : Nat} (hP : 1 ≤ P) (h1 : xs.length ≤ t * P) (h2 : t * P < xs.length + P) : rtk P xs t = rootL P xs := by
  unfold rootL rtk
  have : (xs.length + P - 1) / P = t := Nat.div_eq_of_lt_le (by omega) (by rw [Nat.succ_mul]; omega)
  rw [this]

set_option maxRecDepth 100000 in
set_option maxRecDepth 100000 in
set_option maxHeartbeats 2000000 in
theorem fRoot (A : Option Addr) (n c : Nat) (xs : List Int) (p : Int) (w : World) (h : ISl w A n c xs) (hp : Pr p) (hn : n ≤ 1000) :
    Calls Tryz.prog 84 #[.slice A n c, .int .i64 p] w fun e w' => ∃ C m d, e = .returned (.slice C m d) ∧ ISl w' C m d (rootL p.toNat xs) ∧ Below w.heap.size w w' := by
  have h2 := hp.1
  have h3 := hp.2.1
  obtain ⟨P, hP⟩ : ∃ P : Nat, p = (P : Int) := ⟨p.toNat, by omega⟩
  subst hP
  rw [Int.toNat_natCast]
  have hcl := h.le
  have hcm := h.max
  have H := Lib.hid h
  have HL := Lib.hid h.len
  clear h hp
  go_enter Tryz.func84, Tryz.ntmps84
  go_wp2_with fail
  go_loopw [5, 6] (fun v i wr => ∃ t s : Nat, Hid (s = t * P) ∧ i = .int .i64 (s : Int) ∧ s < n + P ∧ Hid (IOw wr w.heap.size v (rtk P xs t)) ∧ Hid (t ≤ s + 1) ∧ Hid (Below w.heap.size w wr)) (fun _ i _ => n + P - (intOf i).toNat)
  case atStart => exact ⟨0, 0, Lib.hid (by simp), rfl, by omega, Lib.hid (IOw.nil _ _), Lib.hid (by omega), Lib.hid (Below.refl _ _)⟩
  case round =>
    obtain ⟨t, s, hs, rfl, hlt, ho, hts, hb⟩ := hrel
    by_cases hsn : s < n
    · obtain ⟨b, o, rfl, hbl, hc⟩ := H.out.cf_ (by omega)
      have hx := hc s hsn
      rw [← hb.out.cell (p := ⟨b, o + s, none⟩) hbl] at hx
      have hxf : In64 (cf xs s) := by rw [show cf xs s = xs.getD s 0 from rfl]; exact fi_getD H.out.fit s
      have hsnoc : Hid (rtk P xs (t + 1) = rtk P xs t ++ [cf xs s]) := Lib.hid (by rw [rtk_snoc, ← hs.out])
      generalize cf xs s = x at *
      have hN := (iblk_list wr [x] (fi_one hxf)).sl (by simp)
      have HN := Lib.hid hN
      have i1 : (0 : Int) ≤ (s : Int) := by omega
      have i2 : (s : Int) < (n : Int) := by omega
      have HRL := Lib.hid (rtk_length P xs t)
      have hsz := hb.out.size
      clear hc hN hxf
      go_wp2_with (at_builtin; refine iwpList_app _ rfl (.tmp 14) (.tmp 19) rfl w.heap.size _ _ rfl (ho.out.alloc _) (some ⟨wr.heap.size, 0, none⟩) 1 1 rfl [x] HN.out (by rw [HRL.out]; have := hts.out; omega) (by simp; omega) ?_; intro v1 w3 ho1 hb3; have HO1 := Lib.hid ho1; have HB1 := Lib.hid ((hb.out.alloc hsz _).trans hb3); clear ho1 hb3)
      go_roundw
      case rel => exact ⟨t + 1, s + P, Lib.hid (by rw [Nat.succ_mul, ← hs.out]), by go_num, by omega, Lib.hid (by rw [hsnoc.out]; exact HO1.out), Lib.hid (by have := hts.out; omega), HB1⟩
      case measure => simp [intOf]; omega
    · obtain ⟨A', c', rfl, hsl, _⟩ := ho.out.sl
      have HS := Lib.hid hsl
      have HE := Lib.hid (rtk_end (P := P) (xs := xs) (t := t) (by omega) (by rw [← hs.out, ← HL.out]; omega) (by rw [← hs.out, ← HL.out]; omega))
      clear hsl
      go_wp2_with fail
      go_ret
      exact ⟨A', _, c', rfl, by rw [← HE.out]; exact HS.out, hb.out⟩
end Go.Proofs.YtnkhhndjbanmnaaGreatDoor

/- fsqf.parts by contract: from power to power, and sorted. -/
namespace Go.Proofs.YtnkhhndjbanmnaaGreatDoor
open Go.RowKit

theorem wp_scope_one {P : Program} {a : Act} {w : World} {Q : Exit → Act → World → Prop} {c rest : Code} (l : Nat) (J : Act → World → Prop) (μ : Act → World → Nat) (hf : findLabel c l = some (Code.seq Code.skip rest))
    (first : ∀ K : Exit → Act → World → Prop, (∀ a w, J a w → rest.wp P K a w) → c.wp P K a w)
    (pass : ∀ a w, J a w → rest.wp P (Exit.jump l (fun a' w' => J a' w' ∧ μ a' w' < μ a w) Q) a w) : (Code.scope c).wp P Q a w :=
  wp_scope_jumps l J μ hf (first _ fun a w h b k cs => by
    obtain ⟨e, a1, w1, hq, harr⟩ := pass a w h b k cs
    refine ⟨e, a1, w1, ?_, harr⟩
    cases e with
    | goto l' => exact ⟨hq.1, hq.2.1⟩
    | normal => exact hq
    | exit id => exact hq
    | ret => exact hq
    | panic ch => exact hq
    | outgrown => exact hq) fun a w h => wp_seq (wp_skip (pass a w h))

theorem nodup_le : ∀ (M : Nat) (L : List Nat), L.Nodup → (∀ x ∈ L, x < M) → L.length ≤ M
  | 0, L, _, h => by
    cases L with
    | nil => simp
    | cons x xs => exact absurd (h x (List.mem_cons_self ..)) (Nat.not_lt_zero _)
  | M + 1, L, hd, h => by
    by_cases hm : M ∈ L
    · have h1 := nodup_le M (L.erase M) (hd.erase M) (fun x hx => by
        obtain ⟨h2, h3⟩ := (hd.mem_erase_iff).1 hx
        have := h x h3
        omega)
      rw [List.length_erase_of_mem hm] at h1
      omega
    · have := nodup_le M L hd (fun x hx => by
        have := h x hx
        have : x ≠ M := fun e => hm (e ▸ hx)
        omega)
      omega
theorem Upto.few {p : Int} {m : List Int} {k : Nat} {A : PL} (h : Upto p m k A) : A.length ≤ m.length := by
  have := nodup_le m.length _ h.nd (fun x hx => by
    obtain ⟨y, hy, rfl⟩ := List.mem_map.1 hx
    exact (h.own y hy).2.1)
  rwa [List.length_map] at this
theorem ToldAll.few {p : Int} {a : List Int} {F : PL} {left : List Int} (h : ToldAll p a F left) : F.length ≤ a.length := by
  have := nodup_le a.length _ (h.up.imp fun hij => Nat.ne_of_lt hij) (fun x hx => by
    obtain ⟨y, hy, rfl⟩ := List.mem_map.1 hx
    exact (h.own y hy).2.1)
  rwa [List.length_map] at this
def liftPt (K : Nat) (z : Pt) : Pt := ⟨z.A, z.n, z.c, z.xs, z.N * K⟩
theorem pls_lift (K : Nat) (Z : List Pt) : pls (Z.map (liftPt K)) = (pls Z).map (lift K) := by
  unfold pls
  rw [List.map_map, List.map_map]
  rfl
structure PI (p : Int) (m : List Int) (w wr : World) (k K : Nat) (a : List Int) (A : Option Addr) (n c : Nat) (va : Value) (Z : List Pt) : Prop where
  lv : LV p m k a
  up : Upto p m k (pls Z)
  pw : K = p.toNat ^ k
  isl : ISl wr A n c a
  own : POw 58 wr w.heap.size va Z
  la : a.length ≤ m.length
  be : Below w.heap.size w wr
structure LJ (w wj : World) (K : Nat) (Z Z' : List Pt) (A' : Option Addr) (k' c' : Nat) (C : Option Addr) (m d : Nat) (left : List Int) (va : Value) (j : Nat) : Prop where
  own : POw 58 wj w.heap.size va (Z ++ (Z'.take j).map (liftPt K))
  rd : PRd wj A' k' c' Z'
  ap : ∀ z ∈ Z', ApO z.A z.xs va.ownBlock
  ab : Z' = [] ∨ ApB A' va.ownBlock
  il : ISl wj C m d left
  al : ApO C left va.ownBlock
  be : Below w.heap.size w wj
theorem lj_start {p : Int} {xs cur : List Int} {w wr w' : World} {k K : Nat} {A : Option Addr} {n c : Nat} {va : Value} {Z Z' : List Pt} {A' : Option Addr} {k' c' : Nat} {C : Option Addr} {m d : Nat} {left : List Int}
    (h : PI p xs w wr k K cur A n c va Z) (t : TO p cur wr A' k' c' Z' C m d left w') : LJ w w' K Z Z' A' k' c' C m d left va 0 := by
  have hapB : ApB A' va.ownBlock := fun b o s e e2 => by
    have h1 := (h.own.1.lt b e2.symm).2
    have h2 := t.rf b o s e
    omega
  exact ⟨by simpa using h.own.below t.be, t.rd, fun z hz => h.own.apart fun b o s e => .inl (t.fr z hz b o s e), .inr hapB, t.il, h.own.apart fun b o s e => .inl (t.lf b o s e), below_to h.be t.be⟩
theorem take_lift (K : Nat) (Z Z' : List Pt) (j : Nat) (hj : j < Z'.length) : Z ++ (Z'.take (j + 1)).map (liftPt K) = Z ++ (Z'.take j).map (liftPt K) ++ [liftPt K Z'[j]] := by
  rw [List.take_succ_eq_append_getElem hj, List.map_append, ← List.append_assoc]
  rfl
theorem lj_next {w wj w' : World} {K : Nat} {Z Z' : List Pt} {A' : Option Addr} {k' c' : Nat} {C : Option Addr} {m d : Nat} {left : List Int} {va v' : Value} {j : Nat} (h : LJ w wj K Z Z' A' k' c' C m d left va j) (hj : j < Z'.length)
    (ho : POw 58 w' w.heap.size v' (Z ++ (Z'.take j).map (liftPt K) ++ [liftPt K Z'[j]])) (hk : Keep wj va w' v') (hb : Below w.heap.size w w') : LJ w w' K Z Z' A' k' c' C m d left v' (j + 1) := by
  have hab : ApB A' va.ownBlock := h.ab.elim (fun e => by rw [e] at hj; exact absurd hj (by simp)) id
  obtain ⟨k1, k2, k3⟩ := hk.prd _ _ _ _ h.rd h.ap hab
  obtain ⟨i1, i2⟩ := hk.isl _ _ _ _ h.il h.al
  exact ⟨by rw [take_lift K Z Z' j hj]; exact ho, k1, k2, k3, i1, i2, hb⟩
theorem lj_end {w wj : World} {K : Nat} {Z Z' : List Pt} {A' : Option Addr} {k' c' : Nat} {C : Option Addr} {m d : Nat} {left : List Int} {va : Value} {j : Nat} (h : LJ w wj K Z Z' A' k' c' C m d left va j) (hj : Z'.length ≤ j) :
    POw 58 wj w.heap.size va (Z ++ Z'.map (liftPt K)) := by
  have := h.own
  rwa [List.take_of_length_le hj] at this
theorem pi_next {p : Int} {xs cur : List Int} {w wr wj w' w3 : World} {k K : Nat} {A : Option Addr} {n c : Nat} {va va' : Value} {Z Z' : List Pt} {A' : Option Addr} {k' c' : Nat} {C Cr : Option Addr} {m d mr dr : Nat} {left : List Int}
    (hp : Pr p) (hx : Mn p xs) (h : PI p xs w wr k K cur A n c va Z) (t : TO p cur wr A' k' c' Z' C m d left w') (ho : POw 58 wj w.heap.size va' (Z ++ Z'.map (liftPt K))) (hb : Below w.heap.size w wj)
    (hr : ISl w3 Cr mr dr (rootL p.toNat left)) (hb3 : Below wj.heap.size wj w3) (h1 : left.length ≠ 1) :
    PI p xs w w3 (k + 1) (K * p.toNat) (rootL p.toNat left) Cr mr dr va' (Z ++ Z'.map (liftPt K)) ∧ (rootL p.toNat left).length < cur.length := by
  have h2 := hp.1
  obtain ⟨l1, l2⟩ := h.lv.next hp t.all
  have p1 := t.all.m2.pos
  have p2 := l1.mn.pos
  have l3 := t.all.l2
  have hlt : (rootL p.toNat left).length < left.length := by
    have : 2 * ((rootL p.toNat left).length - 1) ≤ p.toNat * ((rootL p.toNat left).length - 1) := Nat.mul_le_mul_right _ (by omega)
    omega
  have hK : K * p.toNat = p.toNat ^ (k + 1) := by rw [h.pw, Nat.pow_succ]
  refine ⟨⟨l1, ?_, hK, hr, ho.below hb3, by have := h.la; omega, below_to hb hb3⟩, by omega⟩
  rw [pls_append, pls_lift, h.pw]
  exact Upto.step hp hx h.lv t.all h.up
theorem pi_bd {p : Int} {xs cur : List Int} {w wr w' : World} {k K : Nat} {A : Option Addr} {n c : Nat} {va : Value} {Z Z' : List Pt} {A' : Option Addr} {k' c' : Nat} {C : Option Addr} {m d : Nat} {left : List Int}
    (hp : Pr p) (h : PI p xs w wr k K cur A n c va Z) (t : TO p cur wr A' k' c' Z' C m d left w') (h1 : left.length ≠ 1) : K * p.toNat ≤ xs.length := by
  have h2 := hp.1
  obtain ⟨l1, l2⟩ := h.lv.next hp t.all
  have p1 := t.all.m2.pos
  have hK : K * p.toNat = p.toNat ^ (k + 1) := by rw [h.pw, Nat.pow_succ]
  have := l1.l
  rw [← hK] at this
  have h9 : 1 ≤ (rootL p.toNat left).length - 1 := by
    rcases Nat.eq_zero_or_pos ((rootL p.toNat left).length - 1) with e | e
    · rw [e, Nat.mul_zero] at l2; omega
    · exact e
  have := Nat.mul_le_mul_right (K * p.toNat) h9
  omega
theorem pi_whole {p : Int} {xs cur : List Int} {w wr w' : World} {k K : Nat} {A : Option Addr} {n c : Nat} {va : Value} {Z Z' Zs : List Pt} {A' : Option Addr} {k' c' : Nat} {C : Option Addr} {m d : Nat} {left : List Int}
    (hp : Pr p) (hx : Mn p xs) (h : PI p xs w wr k K cur A n c va Z) (t : TO p cur wr A' k' c' Z' C m d left w') (h1 : left.length = 1) (hperm : Zs.Perm (Z ++ Z'.map (liftPt K))) (hs : (Zs.map (·.N)).Pairwise (· ≤ ·)) : IsParts p xs (pls Zs) := by
  have hu := Upto.step hp hx h.lv t.all h.up
  rw [← h.pw, ← pls_lift, ← pls_append] at hu
  refine Upto.whole hp h.lv t.all hu h1 (hperm.map _) ?_
  unfold pls
  rw [List.map_map]
  exact hs
def PJ (p : Int) (xs : List Int) (w : World) (a : Act) (wr : World) : Prop := ∃ (k K : Nat) (Ca : Option Addr) (na ca : Nat) (cur : List Int) (vall : Value) (Z : List Pt) (u7 u8 u9 u10 u11 u12 u13 u14 u15 u16 u17 u18 u19 u20 u21 u22 u23 u24 u25 u26 u27 u28 u29 u30 u31 u32 u33 u34 u35 u36 u37 u38 u39 u40 u41 u42 u43 u44 u45 : Value),
  a = { tmps := #[.slice Ca na ca, .int .i64 p, undef, undef, .slice none 0 0, vall, .int .i64 (K : Int), u7, u8, u9, u10, u11, u12, u13, u14, u15, u16, u17, u18, u19, u20, u21, u22, u23, u24, u25, u26, u27, u28, u29, u30, u31, u32, u33, u34, u35, u36, u37, u38, u39, u40, u41, u42, u43, u44, u45], defers := [] } ∧ Hid (PI p xs w wr k K cur Ca na ca vall Z)

set_option maxRecDepth 100000 in
set_option maxRecDepth 100000 in
set_option maxHeartbeats 8000000 in
theorem fParts (A : Option Addr) (n c : Nat) (xs : List Int) (p : Int) (w : World) (hT : TabAt w) (h : ISl w A n c xs) (ip : In64 p) (hp : Pr p) (hx : Mn p xs) (hn : n ≤ 900) :
    Calls Tryz.prog 54 #[.slice A n c, .int .i64 p] w fun e w' => ∃ A' k c' Z, e = .returned (.slice A' k c') ∧ PRd w' A' k c' Z ∧ IsParts p xs (pls Z) ∧ Below w.heap.size w w' := by
  have HL := Lib.hid h.len
  have H := Lib.hid h
  have HT := Lib.hid hT
  have PR := Lib.hid hp
  have HX := Lib.hid hx
  have IP := Lib.hid ip
  have hp2 := hp.2.1
  have hp1 := hp.1
  clear h hT hp hx ip
  go_enter Tryz.func54, Tryz.ntmps54
  go_wp2_with fail
  refine wp_scope_one 0 (PJ p xs w) (fun a _ => slLen (a.tmps.getD 0 undef)) rfl ?_ ?_
  · intro KK hKK
    go_wp2_with fail
    go_step3
    rename_i K2 hk2
    refine hk2 _ _ (hKK _ _ ?_)
    exact ⟨0, 1, A, n, c, xs, _, [], _, _, _, _, _, _, _, _, _, _, _, _, _, _, _, _, _, _, _, _, _, _, _, _, _, _, _, _, _, _, _, _, _, _, _, _, _, _, _, rfl, Lib.hid ⟨lv_start HX.out, upto_start p xs, by simp, H.out, POw.nil _ _ _, Nat.le_refl _, Below.refl _ _⟩⟩
  · rintro a wP ⟨k, K, Ca, na, ca, cur, vall, Z, u7, u8, u9, u10, u11, u12, u13, u14, u15, u16, u17, u18, u19, u20, u21, u22, u23, u24, u25, u26, u27, u28, u29, u30, u31, u32, u33, u34, u35, u36, u37, u38, u39, u40, u41, u42, u43, u44, u45, rfl, PP⟩
    have TC := Lib.hid (fTold Ca na ca cur p wP (HT.out.below PP.out.be) PP.out.isl IP.out PR.out PP.out.lv.mn (by have := PP.out.isl.len; have := PP.out.la; have := HL.out; omega))
    go_wp2_with (go_at_call 82; (with_reducible refine TC.out.mono ?_); rintro e w1 ⟨A', k', c', Z', C, m, d, left, rfl, hto⟩; have TT := Lib.hid hto; clear hto)
    have nz := TT.out.all.m2.pos
    have lm := TT.out.il.len
    have kl := TT.out.rd.len
    have kle := TT.out.rd.le
    have kmx := TT.out.rd.max
    have LJ0 := Lib.hid (lj_start PP.out TT.out)
    have K9 : Hid (∀ j (hj : j < Z'.length), ∃ q : Nat, (Z'[j].N : Int) * (K : Int) = (q : Int) ∧ q ≤ 900 ∧ Z'[j].N * K = q) := Lib.hid (fun j hj => by
      have ho := (TT.out.all.own (Pt.pl Z'[j]) (List.mem_map.2 ⟨_, List.getElem_mem hj, rfl⟩)).2.1
      have := PP.out.lv.num HX.out.pos ho
      rw [← PP.out.pw] at this
      have := HL.out
      refine ⟨Z'[j].N * K, by simp, ?_, rfl⟩
      show Z'[j].N * K ≤ 900
      have h1 : (Pt.pl Z'[j]).2 * K < xs.length := by assumption
      have h2 : (Pt.pl Z'[j]).2 = Z'[j].N := rfl
      rw [h2] at h1
      omega)
    have ZL : Hid (Z.length + Z'.length ≤ 2000) := Lib.hid (by
      have h1 := PP.out.up.few
      have h2 := TT.out.all.few
      rw [pls_length] at h1 h2
      have := PP.out.la
      have := HL.out
      omega)
    have KL := Lib.hid kl
    have LM := Lib.hid lm
    clear nz lm kl
    go_loopw [5, 19] (fun va i wj => ∃ j : Nat, j ≤ k' ∧ i = .int .i64 (j : Int) ∧ Hid (LJ w wj K Z Z' A' k' c' C m d left va j)) (fun _ i _ => k' - (intOf i).toNat)
    case atStart => exact ⟨0, Nat.zero_le _, rfl, LJ0⟩
    case round =>
      obtain ⟨j, hj, rfl, LL⟩ := hrel
      by_cases hlt : j < k'
      · have hlz : j < Z'.length := by rw [← KL.out]; exact hlt
        obtain ⟨b, o, rfl, hbl, hc⟩ := LL.out.rd.open_ (by omega)
        obtain ⟨c0, c1⟩ := hc j hlz
        obtain ⟨q, q1, q2, q3⟩ := K9.out j hlz
        have zin := LL.out.rd.in_ _ (List.getElem_mem hlz)
        have zap := LL.out.ap _ (List.getElem_mem hlz)
        have nxt := fun (w' : World) (v' : Value) => @lj_next w wr w' K Z Z' (some ⟨b, o, none⟩) k' c' C m d left u5 v' j LL.out hlz
        have LTAKE : Hid ((Z ++ (Z'.take j).map (liftPt K)).length ≤ 2000) := Lib.hid (by
          have := ZL.out
          rw [List.length_append, List.length_map, List.length_take]
          omega)
        obtain ⟨z, hz⟩ : ∃ z, Z'[j] = z := ⟨_, rfl⟩
        rw [hz] at c0 c1 zin zap q1 q3 nxt
        obtain ⟨zA, zn, zc, zx, zN⟩ := z
        have e9 : liftPt K ⟨zA, zn, zc, zx, zN⟩ = ⟨zA, zn, zc, zx, q⟩ := by
          rw [← q3]; rfl
        rw [e9] at nxt
        simp only [Pt.sl, Pt.nv] at c0 c1
        have ZIN := Lib.hid zin
        have ZAP := Lib.hid zap
        have NXT := Lib.hid nxt
        have i1 : (0 : Int) ≤ (j : Int) := by omega
        have i2 : (j : Int) < (k' : Int) := by omega
        have q4 : IntKind.i64.wrap (q : Int) = (q : Int) := by rw [IntKind.wrap_i64]; omega
        have hsz := LL.out.be.size
        clear hc hlz zin zap nxt q3 e9 hz
        have HBX := Lib.hid (bel_al wr (.cells #[.slice zA zn zc, .int .i64 (zN : Int)] 58))
        have OWX := Lib.hid (LL.out.own.alloc (.cells #[.slice zA zn zc, .int .i64 (zN : Int)] 58))
        go_wp2_with (at_builtin; refine pwpList_new ptyP (wr.alloc (.cells #[.slice zA zn zc, .int .i64 (zN : Int)] 58)) (wr.heap.size + 1) (by simp) 58 ⟨zA, zn, zc, zx, q⟩ rfl (.tmp 23) (.tmp 31) rfl w.heap.size _ _ rfl OWX.out rfl (isl_alloc ZIN.out _) ZAP.out (by have := LTAKE.out; omega) (Nat.le_trans hsz HBX.out.size) ?_; intro v7 w7 ho7 hb7 hk7; have OW := Lib.hid ho7; have B7 := Lib.hid hb7; have KP := Lib.hid hk7; clear ho7 hb7 hk7)
        go_roundw
        case rel => exact ⟨j + 1, by omega, by go_num, Lib.hid (NXT.out _ _ OW.out ⟨fun A n c xs k1 k2 => KP.out.isl A n c xs (isl_alloc k1 _) k2, fun A n c Z k1 k2 k3 => KP.out.prd A n c Z (k1.below HBX.out) k2 k3⟩ ((below_to LL.out.be HBX.out).trans B7.out))⟩
        case measure => simp [intOf]; omega
      · have LE := Lib.hid (lj_end LL.out (by rw [← KL.out]; omega))
        have C1 := Lib.hid (fConst C m d wr)
        by_cases h1 : m = 1
        · have ob := oneB_yes h1
          have E1 := Lib.hid h1
          obtain ⟨As, cs, rfl, hrd, hAs, hbk⟩ := LE.out.rd
          rcases hbk with hnil | ⟨b, rfl, hlt2, hfz, hcl⟩
          · have RD := Lib.hid hrd
            have SC := Lib.hid (fSort0 As cs wr)
            have PW : Hid (IsParts p xs (pls [])) := Lib.hid (pi_whole PR.out HX.out PP.out TT.out (by rw [← LM.out]; exact E1.out) (List.Perm.of_eq hnil.symm) List.Pairwise.nil)

            rw [hnil] at RD
            simp only [hnil, List.length_nil] at *
            clear h1
            go_wp2_with (first
              | (go_at_call 83; (with_reducible refine C1.out.mono ?_); rintro e w4 ⟨rfl, rfl⟩)
              | (go_at_call 85; (with_reducible refine SC.out.mono ?_); rintro e w5 ⟨rfl, rfl⟩))
            simp only [Exit.jump]
            go_ret
            exact ⟨As, 0, cs, [], rfl, RD.out, PW.out, LL.out.be⟩
          · have HLT := Lib.hid hlt2
            have SC := Lib.hid (fSort b cs _ wr hlt2 hfz hcl (by have := ZL.out; rw [List.length_append, List.length_map]; omega))
            have RD := Lib.hid hrd
            have HAS := Lib.hid hAs
            clear hrd hAs hlt2 hfz hcl h1
            generalize (Z ++ Z'.map (liftPt K)).length = zl at *
            go_wp2_with (first
              | (go_at_call 83; (with_reducible refine C1.out.mono ?_); rintro e w4 ⟨rfl, rfl⟩)
              | (go_at_call 85; (with_reducible refine SC.out.mono ?_); rintro e w5 ⟨rfl, hsr⟩; have SR := Lib.hid hsr; clear hsr))
            simp only [Exit.jump]
            go_ret
            obtain ⟨Zs, s1, s2, s3, s4⟩ := srow_rd LE.out RD.out (HAS.out _ _ _ rfl) HLT.out LL.out.be SR.out
            exact ⟨_, zl, cs, Zs, rfl, s3, pi_whole PR.out HX.out PP.out TT.out (by rw [← LM.out]; exact E1.out) s1 s2, s4⟩
        · have ob := oneB_no h1
          have hleft : left.length ≠ 1 := by rw [← LM.out]; exact h1
          have E1 := Lib.hid hleft
          have m9 : m ≤ 900 := by have := LM.out; have := TT.out.all.l2; have := PP.out.la; have := HL.out; omega
          have RT := Lib.hid (fRoot C m d left p wr LL.out.il PR.out (by omega))
          have bd := pi_bd PR.out PP.out TT.out hleft
          have x9 := HL.out
          obtain ⟨q, hq⟩ : ∃ q : Nat, K * p.toNat = q := ⟨_, rfl⟩
          rw [hq] at bd
          have hq2 : (K : Int) * p = (q : Int) := by rw [← hq, Int.natCast_mul, Int.toNat_of_nonneg (by omega)]
          have q9 : q ≤ 900 := by omega
          have q4 : IntKind.i64.wrap (q : Int) = (q : Int) := by rw [IntKind.wrap_i64]; omega
          have HQ := Lib.hid hq
          clear h1 hleft bd x9 hq
          go_wp2_with (first
            | (go_at_call 83; (with_reducible refine C1.out.mono ?_); rintro e w4 ⟨rfl, rfl⟩)
            | (go_at_call 84; (with_reducible refine RT.out.mono ?_); rintro e w5 ⟨Cr, mr, dr, rfl, hir, hbr⟩; have IR := Lib.hid hir; have BR := Lib.hid hbr; clear hir hbr))
          go_step3
          obtain ⟨pn, plt⟩ := pi_next PR.out HX.out PP.out TT.out LE.out LL.out.be IR.out BR.out E1.out
          rw [HQ.out] at pn
          refine ⟨rfl, ⟨k + 1, q, Cr, mr, dr, _, _, _, _, _, _, _, _, _, _, _, _, _, _, _, _, _, _, _, _, _, _, _, _, _, _, _, _, _, _, _, _, _, _, _, _, _, _, _, _, _, _, rfl, Lib.hid pn⟩, ?_⟩
          show mr < na
          rw [IR.out.len, PP.out.isl.len]
          exact plt
end Go.Proofs.YtnkhhndjbanmnaaGreatDoor

/- Texts joined, in their order: LinGat, FlnTop, FlnNul, FlnNull, FlnApl. -/
import Derived.Deep.RegionLaw
import Derived.Test.YtnkhhndjbanmnaaGreatDoorMp26
import Derived.Test.YtnkhhndjbanmnaaGreatDoorMp29
import Derived.Test.YtnkhhndjbanmnaaGreatDoorMp33

/- Rows gathered by append, as they lie in memory; a block of bools. -/
namespace Go.Proofs.YtnkhhndjbanmnaaGreatDoor
open Go.RowKit

def GAt (w : World) (B : Nat) (v : Value) (G : List (List Int)) : Prop :=
  ∃ vs, VOw w B v vs ∧ vs.length = G.length ∧ ∀ i, i < G.length → ∃ C k d, vs.getD i nilv = .slice C k d ∧ ISl w C k d (G.getD i []) ∧ ApO C (G.getD i []) v.ownBlock
set_option maxRecDepth 100000 in
theorem GAt.nil (w : World) (B : Nat) : GAt w B (.slice none 0 0) [] := ⟨[], VOw.nil _ _, rfl, fun _ h => absurd h (Nat.not_lt_zero _)⟩
set_option maxRecDepth 100000 in
theorem GAt.below {w w' : World} {B : Nat} {v : Value} {G : List (List Int)} (h : GAt w B v G) (hb : Below w.heap.size w w') : GAt w' B v G := by
  obtain ⟨vs, h1, h2, h3⟩ := h
  refine ⟨vs, h1.belowE hb, h2, fun i hi => ?_⟩
  obtain ⟨C, k, d, e, k1, k2⟩ := h3 i hi
  exact ⟨C, k, d, e, k1.below hb, k2⟩
set_option maxRecDepth 100000 in
theorem GAt.mat {w : World} {B : Nat} {v : Value} {G : List (List Int)} (h : GAt w B v G) : ∃ A c, v = .slice A G.length c ∧ MatAt w A G.length c G := by
  obtain ⟨vs, h1, h2, h3⟩ := h
  obtain ⟨A, c, e, hs, _⟩ := h1.sl
  rw [h2] at e hs
  refine ⟨A, c, e, vs, hs, rfl, fun i hi => ?_⟩
  obtain ⟨C, k, d, e, k1, _⟩ := h3 i hi
  exact ⟨C, k, d, e, k1⟩
set_option maxRecDepth 100000 in
theorem GAt.lt {w : World} {B : Nat} {v : Value} {G : List (List Int)} (h : GAt w B v G) {k : Nat} (hk : v.ownBlock = some k) : B ≤ k ∧ k < w.heap.size := by
  obtain ⟨vs, h1, _⟩ := h
  exact h1.1.lt k hk
set_option maxRecDepth 100000 in
theorem GAt.snoc {w w' : World} {B : Nat} {v v' : Value} {G : List (List Int)} {vs : List Value} {C : Option Addr} {k d : Nat} {L : List Int} (h2 : vs.length = G.length) (h3 : ∀ i, i < G.length → ∃ C k d, vs.getD i nilv = .slice C k d ∧ ISl w C k d (G.getD i []) ∧ ApO C (G.getD i []) v.ownBlock)
    (hL : ISl w C k d L) (ha : ApO C L v.ownBlock) (j1 : VOw w' B v' (vs ++ [.slice C k d])) (j2 : w.grownBy w' v.ownBlock) (j3 : v'.ownBlock = v.ownBlock ∨ v'.ownBlock = some w.heap.size) : GAt w' B v' (G ++ [L]) := by
  refine ⟨_, j1, by simp [h2], fun i hi => ?_⟩
  rw [List.length_append] at hi
  simp only [List.length_cons, List.length_nil] at hi
  by_cases e : i < G.length
  · obtain ⟨C', k', d', e1, e2, e3⟩ := h3 i e
    have g1 : (vs ++ [Value.slice C k d]).getD i nilv = vs.getD i nilv := by rw [List.getD_eq_getElem?_getD, List.getElem?_append_left (by omega), ← List.getD_eq_getElem?_getD]
    have g2 : (G ++ [L]).getD i [] = G.getD i [] := by rw [List.getD_eq_getElem?_getD, List.getElem?_append_left e, ← List.getD_eq_getElem?_getD]
    rw [g1, g2]
    exact ⟨C', k', d', e1, e2.grownO j2 e3, e2.apO e3 j3⟩
  · obtain rfl : i = G.length := by omega
    have g1 : (vs ++ [Value.slice C k d]).getD G.length nilv = .slice C k d := by rw [List.getD_eq_getElem?_getD, ← h2, List.getElem?_append_right (Nat.le_refl _), Nat.sub_self]; rfl
    have g2 : (G ++ [L]).getD G.length [] = L := by rw [List.getD_eq_getElem?_getD, List.getElem?_append_right (Nat.le_refl _), Nat.sub_self]; rfl
    rw [g1, g2]
    exact ⟨C, k, d, rfl, hL.grownO j2 ha, hL.apO ha j3⟩
set_option maxRecDepth 100000 in
theorem gwpList_app {ops : Array Oper} {rest : List Oper} {o : Oper} {a : Act} {Q : Exit → Act → World → Prop} (w : World) (hgd : o.guard = none) (s x : Operand) (ho : o.op = .call { callee := .builtin .append, args := #[s, x], argTypes := #[31, 31] })
    (B : Nat) (v : Value) (G : List (List Int)) (hs : a.eval s = v) (hown : GAt w B v G) (g : Nat) (hx : a.eval x = .slice (some ⟨g, 0, none⟩) 1 1) (C : Option Addr) (k d : Nat) (hR : VBlk w g [.slice C k d]) (L : List Int) (hL : ISl w C k d L) (ha : ApO C L v.ownBlock) (hmax : G.length ≤ 1000) (hB : B ≤ w.heap.size)
    (h : ∀ v' w', GAt w' B v' (G ++ [L]) → Below B w w' → wpList Tryz.prog ops Q rest (a.put o.dst v') w') : wpList Tryz.prog ops Q (o :: rest) a w :=
  wpList_plain hgd fun _ hK => by
    obtain ⟨vs, h1, h2, h3⟩ := hown
    obtain ⟨v', w', hrun, j1, j2, j3⟩ := vrun_app_at w o.type B v vs h1 ⟨g, 0, none⟩ 1 1 [.slice C k d] (hR.sl (by simp)) (by omega) hB
    have hk := hK _ _ (h v' w' (GAt.snoc h2 h3 hL ha j1 j2 j3) (h1.grownBelow j2 hB))
    unfold Oper.wp execOp
    simp only [ho, resolve, invoke, builtin, Sem.run_bind, Sem.run_pure, Result.andThen_ok, List.map_toArray, List.map_cons, List.map_nil, hs, hx, hrun]
    exact hk

def BBk (w : World) (g : Nat) (L : List Bool) : Prop := w.heap[g]? = some (.cells (L.map Value.bool).toArray 4 (0, 0))
set_option maxRecDepth 100000 in
theorem BBk.lt {w : World} {g : Nat} {L : List Bool} (h : BBk w g L) : g < w.heap.size := (Array.getElem?_eq_some_iff.1 h).1
set_option maxRecDepth 100000 in
theorem BBk.cell {w : World} {g : Nat} {L : List Bool} (h : BBk w g L) (i : Nat) (hi : i < L.length) : w.cell? ⟨g, i, none⟩ = some (.bool (L.getD i false)) := by
  rw [cell_of_row w g i _ _ (0, 0) h, List.getD_eq_getElem?_getD, List.getElem?_eq_getElem hi]
  simp [hi]
set_option maxRecDepth 100000 in
theorem BBk.frozen {w : World} {g : Nat} {L : List Bool} (h : BBk w g L) (i : Nat) : w.frozen? ⟨g, i, none⟩ = false := by
  have := show w.heap[g]? = _ from h
  simp [World.frozen?, this]
set_option maxRecDepth 100000 in
theorem BBk.below {w w' : World} {g : Nat} {L : List Bool} (h : BBk w g L) (hb : Below w.heap.size w w') : BBk w' g L := (hb.block g h.lt).trans h
set_option maxRecDepth 100000 in
theorem BBk.set_ {w : World} {g : Nat} {L : List Bool} (h : BBk w g L) (i : Nat) (u : Bool) : BBk (w.setCell ⟨g, i, none⟩ (.bool u)) g (L.set i u) := by
  have := show w.heap[g]? = _ from h
  unfold BBk
  simp [World.setCell, Array.getElem?_modify, this]
set_option maxRecDepth 100000 in
theorem infoB : (Tryz.prog.info? 4).map (fun i => (i.zero, i.size, i.bytes)) = some (some (.bool false), 1, 1) := by kernel_rfl
set_option maxRecDepth 100000 in
theorem wpList_make_bools {ops : Array Oper} {rest : List Oper} {o : Oper} {a : Act} {Q : Exit → Act → World → Prop} (w : World)
    (hg : o.guard = none) (l c : Operand) (hop : o.op = Op.makeSlice 134 l c) (kl kc : IntKind) (L C : Int) (n : Nat) (hl : a.eval l = .int kl L) (hc : a.eval c = .int kc C) (hL : L = (n : Int)) (hC : C = (n : Int)) (hn : n ≤ 35184372088832)
    (hK : ∀ w', BBk w' w.heap.size (List.replicate n false) → Below w.heap.size w w' → wpList Tryz.prog ops Q rest (a.put o.dst (.slice (some ⟨w.heap.size, 0, none⟩) n n)) w') :
    wpList Tryz.prog ops Q (o :: rest) a w := by
  obtain ⟨i0, hi, hz0, hz1, hz2⟩ := info_parts infoB
  refine wpList_make_full w hg l c 134 hop w.heap.size 4 i0 _ 1 Tryz.underlying134 hi hz0 hz1 kl kc L C n hl hc hL hC (by rw [hz2]; omega) (by unfold maxLen; omega) (Nat.le_refl _) ?_
  intro w' ho hgr
  have hbel : Below w.heap.size w w' := (Below.refl _ _).grown hgr (Nat.le_refl _) (fun k e => by cases e)
  refine hK w' ?_ hbel
  obtain ⟨h1, ⟨h2, _⟩ | ⟨g, cap, cur, hv, hb, hh, hn1, hn2, hs, ht⟩⟩ := ho
  · cases h2
  · simp only [Value.slice.injEq, Option.some.injEq, Addr.mk.injEq, and_true, true_and] at hv
    obtain ⟨rfl, rfl⟩ := hv
    have e1 : cur.toList = (List.replicate n false).map Value.bool := by
      rw [List.take_of_length_le (by simp [hs])] at ht
      rw [ht, show (Value.bool false).cells = #[Value.bool false] from rfl, toList_madeCells_one]
      simp
    unfold BBk
    rw [hh]
    congr 2
    rw [← e1]
end Go.Proofs.YtnkhhndjbanmnaaGreatDoor

/- flin.Echelon, by its contract. -/
namespace Go.Proofs.YtnkhhndjbanmnaaGreatDoor
open Go.RowKit Go.Shelf

theorem codeB_t : codeB true = 0 := rfl
theorem codeB_f : codeB false = 1 := rfl
end Go.Proofs.YtnkhhndjbanmnaaGreatDoor

/- flin.nullBasis and Null, by their contracts. -/
namespace Go.Proofs.YtnkhhndjbanmnaaGreatDoor
open Go.RowKit Go.Shelf

theorem freeB_snoc {P : List (Nat × List Int)} {q : Nat} (hq : q < P.length) (c : Nat) : freeB (P.take (q + 1)) c = (freeB (P.take q) c && (plc P q != c)) := by
  unfold freeB
  rw [List.take_succ_eq_append_getElem hq, List.all_append, plc_at hq]
  simp
def TakL (P : List (Nat × List Int)) (n q : Nat) (L : List Bool) : Prop := L.length = n ∧ ∀ j, L.getD j false = (!freeB (P.take q) j && decide (j < n))
theorem tak_zero (P : List (Nat × List Int)) (n : Nat) : TakL P n 0 (List.replicate n false) := ⟨by simp, fun j => by
  rw [List.getD_eq_getElem?_getD, List.getElem?_replicate]
  by_cases h : j < n <;> simp [h, freeB]⟩
theorem TakL.step {P : List (Nat × List Int)} {n q : Nat} {L : List Bool} (h : TakL P n q L) (hq : q < P.length) (hn : plc P q < n) : TakL P n (q + 1) (L.set (plc P q) true) := by
  refine ⟨by rw [List.length_set]; exact h.1, fun j => ?_⟩
  rw [freeB_snoc hq, List.getD_eq_getElem?_getD]
  by_cases e : j = plc P q
  · subst e
    rw [List.getElem?_set_self (by rw [h.1]; exact hn)]
    simp [hn]
  · rw [List.getElem?_set_ne (fun k => e k.symm), ← List.getD_eq_getElem?_getD, h.2 j]
    have : (plc P q != j) = true := by simp; exact fun k => e k.symm
    rw [this, Bool.and_true]
theorem nulV_none (p : Int) (n c : Nat) (P : List (Nat × List Int)) : nulV p n c (P.take 0) = (List.replicate n 0).set c 1 := by
  rw [List.take_zero]; rfl

set_option maxRecDepth 100000 in
set_option maxRecDepth 100000 in
set_option maxHeartbeats 8000000 in
theorem fBasis_any (R : Option Addr) (m d : Nat) (P : List (Nat × List Int)) (n : Nat) (p : Int) (w : World) (hR : RowsAt w R m d P) (hE : EchP p n P) (hn : n ≤ 64) (hm : m ≤ 64) (hp : Md p) (hp2' : 2 ≤ p) :
    Calls Tryz.prog 107 #[.slice R m d, .int .i64 (n : Int), .int .i64 p] w fun e w' => ∃ A k c, e = .returned (.slice A k c) ∧ MatAt w' A k c (nulL p n P n) ∧ Below w.heap.size w w' := by
  have hp1 := hp.1
  have hp2 := hp.2
  have hrl := hR.le
  have hrm := hR.max
  have HR := Lib.hid hR
  have HPL := Lib.hid hR.len
  have EE := Lib.hid hE
  have RED := Lib.hid (fun (a : Int) (w : World) => pRedL_md a p hp w)
  clear hR hE hp
  go_enter Tryz.func107, Tryz.ntmps107
  go_wp2_with (at_make; refine wpList_make_bools _ rfl _ _ rfl _ _ _ _ n rfl rfl rfl rfl (by omega) ?_; intro w3 hk3 hb3; have HK3 := Lib.hid hk3; have HB3 := Lib.hid hb3; clear hk3 hb3)
  go_loopw [20] (fun i wr => ∃ q : Nat, q ≤ m ∧ i = .int .i64 (q : Int) ∧ ∃ L, Hid (BBk wr w.heap.size L) ∧ Hid (TakL P n q L) ∧ Hid (Below w.heap.size w wr)) (fun i _ => m - (intOf i).toNat)
  case atStart => exact ⟨0, Nat.zero_le _, rfl, _, HK3, Lib.hid (tak_zero P n), HB3⟩
  case round =>
    clear HK3 HB3
    obtain ⟨q, hq, rfl, L, hK, hI, hbel⟩ := hrel
    obtain ⟨gF, hgF⟩ : ∃ g, w.heap.size = g := ⟨_, rfl⟩
    have HGF := Lib.hid hgF
    have hbg := hbel.out
    rw [hgF] at hK hbg ⊢
    have HBG : Hid (Below gF w wr) := Lib.hid (by rw [← hgF]; exact hbel.out)
    have hszg : gF ≤ wr.heap.size := by rw [← hgF]; exact hbel.out.size
    clear hgF hbg
    by_cases hlt : q < m
    · obtain ⟨b6, o6, rfl, hb6, hcr⟩ := HR.out.open_ (by omega)
      obtain ⟨hk1, C, k, dk, hk2, hk3⟩ := hcr q hlt
      rw [← hbel.out.cell (p := ⟨b6, o6 + q * 2, none⟩) hb6] at hk1
      rw [← hbel.out.cell (p := ⟨b6, o6 + q * 2 + 1, none⟩) hb6] at hk2
      have hqP : q < P.length := by rw [← HPL.out]; exact hlt
      have hpn : plc P q < n := by rw [plc_at hqP]; exact EE.out.lt _ (List.getElem_mem hqP)
      have hst := hI.out.step hqP hpn
      generalize plc P q = a at *
      have HST := Lib.hid hst
      have hfc := hK.out.cell a (by rw [hI.out.1]; exact hpn)
      have hff := hK.out.frozen a
      obtain ⟨fb, hfb⟩ : ∃ fb, L.getD a false = fb := ⟨_, rfl⟩
      rw [hfb] at hfc
      have gF' := hK.out.lt
      have i1 : (0 : Int) ≤ (q : Int) := by omega
      have i2 : (q : Int) < (m : Int) := by omega
      have i3 : (0 : Int) ≤ (a : Int) := by omega
      have i4 : (a : Int) < (n : Int) := by omega
      have g6 := Nat.lt_of_lt_of_le hb6 hbel.out.size
      clear hcr hk3 hst hfb
      go_wp2_with fail
      go_roundw
      case rel => exact ⟨q + 1, by omega, by go_num, L.set a true, Lib.hid ((hK.out.set_ a true).below (belowL_al _ _)), HST, Lib.hid ((HBG.out.setCell (p := ⟨gF, a, none⟩) (Nat.le_refl _) _).alloc (by have := hszg; simpa [World.setCell] using this) _)⟩
      case measure => simp [intOf]; omega
    · obtain rfl : q = m := by omega
      obtain ⟨wB, rfl⟩ : ∃ wB, wB = wr := ⟨wr, rfl⟩
      have hTk := hI.out
      unfold TakL at hTk
      rw [List.take_of_length_le (by rw [← HPL.out]; exact Nat.le_refl _)] at hTk
      have HTK := Lib.hid hTk
      have gF' := hK.out.lt
      clear hTk
      go_wp2_with fail
      go_loopw [31, 10] (fun i u wr => ∃ c : Nat, c ≤ n ∧ i = .int .i64 (c : Int) ∧ Hid (GAt wr wB.heap.size u (nulL p n P c)) ∧ Hid (Below wB.heap.size wB wr)) (fun i _ _ => n - (intOf i).toNat)
      case atStart => exact ⟨0, Nat.zero_le _, rfl, Lib.hid (GAt.nil _ _), Lib.hid (Below.refl _ _)⟩
      case round =>
        obtain ⟨c, hc, rfl, hG, hbc⟩ := hrel
        by_cases hcn : c < n
        · have hfc := (hK.out.below hbc.out).cell c (by rw [HTK.out.1]; exact hcn)
          rw [HTK.out.2 c, show decide (c < n) = true from decide_eq_true hcn, Bool.and_true] at hfc
          have i1 : (0 : Int) ≤ (c : Int) := by omega
          have i2 : (c : Int) < (n : Int) := by omega
          have gF2 := Nat.lt_of_lt_of_le gF' hbc.out.size
          have NY := Lib.hid (fun h => @nulL_yes p n P c h)
          have NN := Lib.hid (fun h => @nulL_no p n P c h)
          have FI := Lib.hid (@freeB_iff P c)
          cases hfr : freeB P c with
          | false =>
            rw [hfr] at hfc
            have hG2 := hG.out
            rw [← NN.out hfr] at hG2
            have HG2 := Lib.hid hG2
            clear hG2 hfr NY NN FI
            go_wp2_with fail
            exact ⟨⟨c + 1, by omega, by go_num, HG2, hbc⟩, by simp [intOf]; omega⟩
          | true =>
            rw [hfr] at hfc
            have hny := NY.out hfr
            have HNY := Lib.hid hny
            have HFI := Lib.hid (FI.out.1 hfr)
            clear hny hfr NY NN FI
            obtain ⟨wo, rfl⟩ : ∃ wo, wo = wr := ⟨wr, rfl⟩
            go_wp2_with (at_make; refine wpList_make_ints _ rfl _ _ rfl _ _ _ _ n rfl rfl rfl rfl (by omega) ?_; intro w5 hk5 hb5; have hc5 := hk5.cellD c (by simp; omega); have hf5 := hk5.frozen c; have HK5 := Lib.hid hk5; have HB5 := Lib.hid hb5; clear hk5 hb5)
            have hV0 := HK5.out.set_ c 1 (by unfold In64; omega)
            rw [← nulV_none p n c P] at hV0
            have HV0 := Lib.hid hV0
            have HBV0 := Lib.hid (HB5.out.setCell (p := ⟨wo.heap.size, c, none⟩) (Nat.le_refl _) (iv 1))
            obtain ⟨gv, hgv⟩ : ∃ g, wo.heap.size = g := ⟨_, rfl⟩
            have HGV := Lib.hid hgv
            rw [hgv] at HV0 HBV0 ⊢
            clear hV0 hgv hc5 hf5 HK5 HB5
            generalize w5.setCell ⟨gv, c, none⟩ (iv 1) = w6 at *
            have hbO := hbel.out.trans (hbc.out.mono hbel.out.size)
            have HBO := Lib.hid hbO
            clear hbO
            have hgo : wo.heap.size ≤ gv := by rw [HGV.out]; exact Nat.le_refl _
            go_loopw [44] (fun i wr => ∃ t : Nat, t ≤ q ∧ i = .int .i64 (t : Int) ∧ Hid (IBlk wr gv (nulV p n c (P.take t))) ∧ Hid (Below wo.heap.size wo wr)) (fun i _ => q - (intOf i).toNat)
            case atStart => exact ⟨0, Nat.zero_le _, rfl, HV0, Lib.hid (by have := HBV0.out; rw [← HGV.out] at this; exact this)⟩
            case round =>
              clear HV0 HBV0
              obtain ⟨t, ht, rfl, hV, hbq⟩ := hrel
              by_cases htl : t < q
              · have hbW := HBO.out.trans (hbq.out.mono HBO.out.size)
                obtain ⟨b6, o6, rfl, hb6, hcr⟩ := HR.out.open_ (by omega)
                obtain ⟨hk1, C, k, dk, hk2, hk3⟩ := hcr t htl
                rw [← hbW.cell (p := ⟨b6, o6 + t * 2, none⟩) hb6] at hk1
                rw [← hbW.cell (p := ⟨b6, o6 + t * 2 + 1, none⟩) hb6] at hk2
                have htP : t < P.length := by rw [← HPL.out]; exact htl
                have hmP := List.getElem_mem htP
                have hpn : plc P t < n := by rw [plc_at htP]; exact EE.out.lt _ hmP
                have hrl' : (prow P t).length = n := by rw [prow_at htP]; exact EE.out.len _ hmP
                have hrs : Rs p (prow P t) := by rw [prow_at htP]; exact EE.out.rs _ hmP
                have hsn := nulV_snoc (p := p) (n := n) (c := c) htP
                rw [if_neg (HFI.out _ hmP), ← plc_at htP, ← prow_at htP] at hsn
                have hkn : k = n := by rw [hk3.len, hrl']
                have hle6 := hk3.le
                have hmx6 := hk3.max
                have hk4 := hk3.below hbW
                obtain ⟨bC, oC, rfl, hbC, hcC⟩ := hk4.cfs (by omega)
                have hx := hcC c (by omega)
                have bx := hrs.at hp1 c
                have R1 := RED.out (-(cf (prow P t) c))
                have bz : 0 ≤ (-(cf (prow P t) c)) % p ∧ (-(cf (prow P t) c)) % p < p := ⟨Int.emod_nonneg _ (by omega), Int.emod_lt_of_pos _ (by omega)⟩
                generalize cf (prow P t) c = x at *
                obtain ⟨z, hz⟩ : ∃ z, (-x) % p = z := ⟨_, rfl⟩
                rw [hz] at R1 hsn bz
                generalize plc P t = a at *
                have HR1 := Lib.hid R1
                have HSN := Lib.hid hsn
                have hvl : (nulV p n c (P.take t)).length = n := nulV_len _ _ _ _
                have hvc := hV.out.cellD a (by rw [hvl]; exact hpn)
                have hvf := hV.out.frozen a
                obtain ⟨y, hy⟩ : ∃ y, (nulV p n c (P.take t)).getD a 0 = y := ⟨_, rfl⟩
                rw [hy] at hvc
                have gvl := hV.out.lt
                have g6 := Nat.lt_of_lt_of_le hb6 hbW.size
                have m1 : IntKind.i64.wrap (-x) = -x := by rw [IntKind.wrap_i64]; omega
                have i3 : (0 : Int) ≤ (t : Int) := by omega
                have i4 : (t : Int) < (q : Int) := by omega
                have i5 : (0 : Int) ≤ (a : Int) := by omega
                have i6 : (a : Int) < (n : Int) := by omega
                have i7 : (c : Int) < (k : Int) := by omega
                have bz1 := bz.1
                have bz2 := bz.2
                have HBQ := Lib.hid hbq.out
                have hszo : wo.heap.size ≤ wr.heap.size := hbq.out.size
                clear hcr hk3 hk4 hcC R1 hsn hz hvl hy hrs hrl' hbW hmP bx hkn hbq
                go_wp2_with fail
                go_region_law (first
                  | (go_simp; go_at_call 90; (with_reducible refine (HR1.out _).mono ?_); rintro e w7 ⟨rfl, rfl⟩)
                  | (go_at_call 90; (with_reducible refine (HR1.out _).mono ?_); rintro e w7 ⟨rfl, rfl⟩)
                  | fail)
                all_goals
                  go_wp2_with fail
                  exact ⟨⟨t + 1, by omega, by go_num, Lib.hid (by rw [HSN.out]; exact ((hV.out.set_ a z (by unfold In64; omega)).alloc _).drew), Lib.hid ((HBQ.out.setCell (p := ⟨gv, a, none⟩) hgo _).alloc (by have := hszo; simpa [World.setCell] using this) _).drew⟩, by simp [intOf]; omega⟩
              · obtain rfl : t = q := by omega
                have hV2 := hV.out
                rw [List.take_of_length_le (by rw [← HPL.out]; exact Nat.le_refl _)] at hV2
                have hvl : (nulV p n c P).length = n := nulV_len _ _ _ _
                have hvs := hV2.sl (by omega)
                rw [hvl] at hvs
                obtain ⟨V, hVV⟩ : ∃ V, nulV p n c P = V := ⟨_, rfl⟩
                rw [hVV] at hvs HNY
                have HVS := Lib.hid (islL_al hvs (.cells #[.slice (some ⟨gv, 0, none⟩) n n] 22))
                have hap : ApO (some ⟨gv, 0, none⟩) V u10.ownBlock := .inr fun b' o' s' e' e2 => by
                  have := (hG.out.lt e2.symm).2
                  simp only [Option.some.injEq, Addr.mk.injEq] at e'
                  omega
                have HAP := Lib.hid hap
                have hszo : wo.heap.size ≤ wr.heap.size := hbq.out.size
                have HG2 := Lib.hid ((hG.out.below hbq.out).below (belowL_al wr (.cells #[.slice (some ⟨gv, 0, none⟩) n n] 22)))
                have HB2 := Lib.hid ((hbc.out.trans (hbq.out.mono hbc.out.size)).alloc (Nat.le_trans hbc.out.size hszo) (.cells #[.slice (some ⟨gv, 0, none⟩) n n] 22))
                have HVB := Lib.hid (vblk_list wr [.slice (some ⟨gv, 0, none⟩) n n] (sv_one _ _ _))
                have hgl : (nulL p n P c).length ≤ 1000 := by
                  unfold nulL
                  rw [List.length_map]
                  have := List.length_filter_le (freeB P) (List.range c)
                  rw [List.length_range] at this
                  omega
                clear hV2 hvl hvs hVV hap
                go_wp2_with (at_builtin; refine gwpList_app _ rfl (.tmp 61) (.tmp 63) rfl wB.heap.size _ _ rfl HG2.out _ rfl _ _ _ HVB.out V HVS.out HAP.out hgl HB2.out.size ?_; intro v8 w8 hg8 hb8)
                rw [← HNY.out] at hg8
                have HG8 := Lib.hid hg8
                have HB8 := Lib.hid (HB2.out.trans hb8)
                clear hg8 hb8
                go_wp2_with fail
                exact ⟨⟨c + 1, by omega, by go_num, HG8, HB8⟩, by simp [intOf]; omega⟩
        · obtain rfl : c = n := by omega
          obtain ⟨A2, c2, rfl, hmat⟩ := hG.out.mat
          have HMT := Lib.hid hmat
          clear hmat
          go_wp2_with fail
          go_ret
          exact ⟨_, _, _, rfl, HMT.out, hbel.out.trans (hbc.out.mono hbel.out.size)⟩
end Go.Proofs.YtnkhhndjbanmnaaGreatDoor

/- flin.Null, by its contract. -/
namespace Go.Proofs.YtnkhhndjbanmnaaGreatDoor
open Go.RowKit Go.Shelf

set_option maxRecDepth 100000 in
set_option maxHeartbeats 2000000 in
theorem fNull_not (A : Option Addr) (m c : Nat) (M : List (List Int)) (n p : Int) (w : World) (hT : TabAt w) (h : MatAt w A m c M) (ip : In64 p) (ho : ¬ NulOk p M n) :
    Calls Tryz.prog 67 #[.slice A m c, .int .i64 n, .int .i64 p] w fun e w' => e = .returned (.tuple #[.slice none 0 0, .int .i64 1]) ∧ Below w.heap.size w w' := by
  have hcl := h.le
  have hcm := h.max
  have C := fCheck_any A m c M p w hT h ip
  rcases Classical.em (Right p M) with hr | hr
  · rw [rightB_yes hr, codeB_t] at C
    have CC := Lib.hid C
    have HNL := Lib.hid h.len
    have H := Lib.hid h
    have HO := Lib.hid ho
    have HR := Lib.hid hr
    clear C h hT ip ho hr
    by_cases h0 : n < 0
    · go_enter Tryz.func67, Tryz.ntmps67
      go_wp2_with (go_at_call 106; (with_reducible refine CC.out.mono ?_); rintro e w1 ⟨rfl, hb1⟩; have HB1 := Lib.hid hb1; clear hb1)
      go_ret2
      exact ⟨rfl, HB1.out⟩
    · by_cases h64 : 64 < n
      · go_enter Tryz.func67, Tryz.ntmps67
        go_wp2_with (go_at_call 106; (with_reducible refine CC.out.mono ?_); rintro e w1 ⟨rfl, hb1⟩; have HB1 := Lib.hid hb1; clear hb1)
        go_ret2
        exact ⟨rfl, HB1.out⟩
      · have hM : 0 < m ∧ (cols M : Int) ≠ n := by
          refine ⟨Classical.byContradiction fun hm => HO.out ⟨HR.out, by omega, by omega, fun h => absurd h (by rw [← HNL.out]; omega)⟩, fun e => HO.out ⟨HR.out, by omega, by omega, fun _ => e⟩⟩
        obtain ⟨hm0, hne⟩ := hM
        obtain ⟨b, o, rfl, hbl, hc⟩ := H.out.open_ hm0
        obtain ⟨C0, k0, d0, hc0, hi0⟩ := hc 0 hm0
        have hk0 : (k0 : Int) ≠ n := by rw [hi0.len]; exact hne
        rw [Nat.add_zero] at hc0
        have CC2 := Lib.hid (fun W (hb : Below w.heap.size w W) => (hb.cell (p := ⟨b, o, none⟩) hbl).trans hc0)
        have i1 : (0 : Int) < (m : Int) := by omega
        have i2 : ((k0 : Int) != n) = true := by simpa using hk0
        have i3 : (0 : Int) ≤ n := by omega
        have i4 : n ≤ 64 := by omega
        have hmx := Nat.le_trans hi0.le hi0.max
        clear hc hi0 hc0 hne hk0
        go_enter Tryz.func67, Tryz.ntmps67
        go_wp2_with (go_at_call 106; (with_reducible refine CC.out.mono ?_); rintro e w1 ⟨rfl, hb1⟩; have HB1 := Lib.hid hb1; have hc1 := CC2.out w1 hb1; clear hb1)
        go_ret2
        exact ⟨rfl, HB1.out⟩
  · rw [rightB_no hr, codeB_f] at C
    have CC := Lib.hid C
    clear C h hT ip ho hr
    go_enter Tryz.func67, Tryz.ntmps67
    go_wp2_with (go_at_call 106; (with_reducible refine CC.out.mono ?_); rintro e w1 ⟨rfl, hb1⟩; have HB1 := Lib.hid hb1; clear hb1)
    go_ret2
    exact ⟨rfl, HB1.out⟩

set_option maxRecDepth 100000 in
set_option maxHeartbeats 2000000 in
theorem fNull_any (A : Option Addr) (m c : Nat) (M : List (List Int)) (n p : Int) (w : World) (hT : TabAt w) (h : MatAt w A m c M) (ip : In64 p) :
    Calls Tryz.prog 67 #[.slice A m c, .int .i64 n, .int .i64 p] w fun e w' => RowsOut w (nulV' p M n) (codeP (NulOk p M n)) e w' := by
  rcases Classical.em (NulOk p M n) with ho | ho
  · rw [codeP_yes ho, show nulV' p M n = nulL p n.toNat (echP p n.toNat M) n.toNat from by unfold nulV'; rw [ansB_yes ho]]
    have hcl := h.le
    have hcm := h.max
    have C := fCheck_any A m c M p w hT h ip
    obtain ⟨hr, h0, h64, hcn⟩ := ho
    obtain ⟨k, rfl⟩ : ∃ k : Nat, n = (k : Int) := ⟨n.toNat, by omega⟩
    rw [show (k : Int).toNat = k from by omega]
    rw [rightB_yes hr, codeB_t] at C
    have hm64 : m ≤ 64 := by rw [h.len]; exact hr.2.1
    have hck : 0 < M.length → cols M = k := fun h => by have := hcn h; omega
    have E := Lib.hid (fun W (hb : Below w.heap.size w W) => fEch_any A m c k M p W (hT.below hb) (h.below hb) hr.1 hm64 (fun i hi => by rw [hr.len hi]; exact hck (by omega)) (by omega))
    have UQ := Lib.hid (fun (P : List (Nat × List Int)) (hP : EchOf p k M P) => echP_eq hr.1.1 hP)
    have BS := Lib.hid (fun (W : World) (R : Option Addr) (m d : Nat) (P : List (Nat × List Int)) (hR : RowsAt W R m d P) (hE : EchP p k P) (hm : m ≤ 64) => fBasis_any R m d P k p W hR hE (by omega) hm hr.1.md hr.1.1)
    have HML := Lib.hid h.len
    have CC := Lib.hid C
    generalize echP p k M = R at *
    by_cases hm0 : 0 < m
    · obtain ⟨b, o, rfl, hbl, hc⟩ := h.open_ hm0
      obtain ⟨C0, k0, d0, hc0, hi0⟩ := hc 0 hm0
      have hk0 : k0 = k := by rw [hi0.len]; exact hck (by rw [← HML.out]; exact hm0)
      subst hk0
      rw [Nat.add_zero] at hc0
      have CC2 := Lib.hid (fun W (hb : Below w.heap.size w W) => (hb.cell (p := ⟨b, o, none⟩) hbl).trans hc0)
      have i1 : (0 : Int) < (m : Int) := by omega
      clear hc hi0 hc0 C h hT ip hr hcn hck
      go_enter Tryz.func67, Tryz.ntmps67
      go_wp2_with (first
        | (go_at_call 106; (with_reducible refine CC.out.mono ?_); rintro e w0 ⟨rfl, hb0⟩; have HB0 := Lib.hid hb0; have hc1 := CC2.out w0 hb0; clear hb0)
        | (go_at_call 108; (with_reducible refine (E.out _ HB0.out).mono ?_); rintro e w1 ⟨v1, rfl, P, A1, m1, c1, rfl, hP, he1, he2, he3, hm, hb1⟩; have HP := Lib.hid hP; have HE := Lib.hid (UQ.out P ⟨he1, he2, he3⟩); have HB1 := Lib.hid (HB0.out.trans (hb1.mono HB0.out.size)); have B2 := Lib.hid (BS.out w1 _ _ _ P hP he1 (by rw [← HML.out] at hm; omega)); clear hP he1 he2 he3 hb1 hm)
        | (go_at_call 107; (with_reducible refine B2.out.mono ?_); rintro e w2 ⟨A2, k2, c2, rfl, hM2, hb2⟩; have HM2 := Lib.hid hM2; have HB2 := Lib.hid (HB1.out.trans (hb2.mono HB1.out.size)); clear hM2 hb2))
      go_ret2
      exact ⟨_, _, _, rfl, by rw [HE.out]; exact HM2.out, HB2.out⟩
    · obtain rfl : m = 0 := by omega
      clear C h hT ip hr hcn hck
      go_enter Tryz.func67, Tryz.ntmps67
      go_wp2_with (first
        | (go_at_call 106; (with_reducible refine CC.out.mono ?_); rintro e w0 ⟨rfl, hb0⟩; have HB0 := Lib.hid hb0; clear hb0)
        | (go_at_call 108; (with_reducible refine (E.out _ HB0.out).mono ?_); rintro e w1 ⟨v1, rfl, P, A1, m1, c1, rfl, hP, he1, he2, he3, hm, hb1⟩; have HP := Lib.hid hP; have HE := Lib.hid (UQ.out P ⟨he1, he2, he3⟩); have HB1 := Lib.hid (HB0.out.trans (hb1.mono HB0.out.size)); have B2 := Lib.hid (BS.out w1 _ _ _ P hP he1 (by rw [← HML.out] at hm; omega)); clear hP he1 he2 he3 hb1 hm)
        | (go_at_call 107; (with_reducible refine B2.out.mono ?_); rintro e w2 ⟨A2, k2, c2, rfl, hM2, hb2⟩; have HM2 := Lib.hid hM2; have HB2 := Lib.hid (HB1.out.trans (hb2.mono HB1.out.size)); clear hM2 hb2))
      go_ret2
      exact ⟨_, _, _, rfl, by rw [HE.out]; exact HM2.out, HB2.out⟩
  · rw [codeP_no ho, show nulV' p M n = [] from by unfold nulV'; rw [ansB_no ho]]
    refine (fNull_not A m c M n p w hT h ip ho).mono ?_
    rintro e w' ⟨rfl, hb⟩
    exact ⟨_, _, _, rfl, mat_nil _, hb⟩
end Go.Proofs.YtnkhhndjbanmnaaGreatDoor

/- flin.Apply, by its contract. -/
namespace Go.Proofs.YtnkhhndjbanmnaaGreatDoor
open Go.RowKit Go.Shelf

end Go.Proofs.YtnkhhndjbanmnaaGreatDoor

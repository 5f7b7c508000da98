/- Texts joined, in their order: FlnEch, FlnApp. -/
import Derived.Deep.RegionHeld3
import Derived.BigQuiet
import Derived.Test.YtnkhhndjbanmnaaGreatDoorMp26
import Derived.Test.YtnkhhndjbanmnaaGreatDoorMp30
import Derived.Test.YtnkhhndjbanmnaaGreatDoorMp32

/- flin.echelon, by its contract. -/
namespace Go.Proofs.YtnkhhndjbanmnaaGreatDoor
open Go.RowKit Go.Shelf

def FEch (p : Int) (nc : Nat) (M : List (List Int)) (w : World) (v : Value) (w' : World) : Prop :=
  ∃ P A m c, v = .slice A m c ∧ RowsAt w' A m c P ∧ EchP p nc P ∧ (∀ r ∈ rowsOf P, Sp p M (cf r)) ∧ (∀ r ∈ M, Sp p (rowsOf P) (cf r)) ∧ m ≤ M.length ∧ Below w.heap.size w w'
theorem lessP_plc (p : Int) (x : Nat) (w : List Int) (P : List (Nat × List Int)) (i : Nat) : plc (lessP p x w P) i = plc P i := by
  unfold plc lessP
  rw [List.getD_eq_getElem?_getD, List.getD_eq_getElem?_getD, List.getElem?_map]
  cases P[i]? <;> rfl
theorem mixP_plc {p : Int} {x : Nat} {w : List Int} {P : List (Nat × List Int)} {q : Nat} (hq : q < P.length) : plc (mixP p x w P q) q = plc P q := by
  unfold plc mixP
  rw [List.getD_eq_getElem?_getD, List.getD_eq_getElem?_getD, List.getElem?_append_right (by simp [lessP]; omega), List.length_take, lessP_len, Nat.min_eq_left (Nat.le_of_lt hq), Nat.sub_self, List.getElem?_drop]
  simp
theorem place_lead {p : Int} {x t : Nat} {w : List Int} {P : List (Nat × List Int)} (h : PlaceIn (lessP p x w P) x t) : t ≤ P.length ∧ (∀ a ∈ P.take t, a.1 < x) ∧ (∀ a ∈ P.drop t, x < a.1) := by
  obtain ⟨h0, h1, h2⟩ := h
  rw [lessP_len] at h0 h2
  refine ⟨h0, fun a ha => ?_, fun a ha => ?_⟩
  · obtain ⟨i, hi, rfl⟩ := List.getElem_of_mem ha
    rw [List.length_take] at hi
    have := h1 i (by omega)
    rw [lessP_plc, plc_at (by omega)] at this
    rw [List.getElem_take]; exact this
  · obtain ⟨i, hi, rfl⟩ := List.getElem_of_mem ha
    rw [List.length_drop] at hi
    have := h2 (t + i) (by omega) (by omega)
    rw [lessP_plc, plc_at (by omega)] at this
    rw [List.getElem_drop]; exact this
theorem lessP_inc {p : Int} {x : Nat} {w : List Int} {P : List (Nat × List Int)} (h : P.Pairwise fun a b => a.1 < b.1) : (lessP p x w P).Pairwise fun a b => a.1 < b.1 := by
  unfold lessP
  rw [List.pairwise_map]; exact h

theorem ech_ins {w wr wI w6 : World} {km q c6 t g3 x : Nat} {p : Int} {A6 : Option Addr} {vs2 : List Value} {P : List (Nat × List Int)} {nw : List Int} {v6 : Value} (hO : ROw wr w.heap.size km (.slice A6 q c6) vs2 (lessP p x nw P)) (hb : Below w.heap.size w wr) (hq : P.length = q) (hN : ISl wr (some ⟨g3, 0, none⟩) km km nw)
    (hap : ApO (some ⟨g3, 0, none⟩) nw (Value.slice A6 q c6).ownBlock) (ht : t ≤ P.length) (hI : Below wr.heap.size wr wI) (k1 : w6.ownsRow w.heap.size 136 2 v6 (q + 1) (vs2.take (t * 2) ++ [.int .i64 (x : Int), .slice (some ⟨g3, 0, none⟩) km km] ++ vs2.drop (t * 2)))
    (k2 : wI.grownBy w6 (Value.slice A6 q c6).ownBlock) (k3 : v6.ownBlock = (Value.slice A6 q c6).ownBlock ∨ v6.ownBlock = some wI.heap.size) :
    ROw w6 w.heap.size km v6 (vs2.take (t * 2) ++ [.int .i64 (x : Int), .slice (some ⟨g3, 0, none⟩) km km] ++ vs2.drop (t * 2)) (putP p x nw t P) ∧ Below w.heap.size w w6 :=
  ⟨(hO.below hI).ins (by rw [lessP_len]; exact ht) (hN.below hI) hap (by rw [lessP_len, hq]; exact k1) k2 k3,
   (hb.trans (hI.mono hb.size)).grown k2 (Nat.le_trans hb.size hI.size) (fun k hk => (hO.1.lt k hk).1)⟩
set_option maxRecDepth 100000 in
set_option maxRecDepth 100000 in
set_option maxHeartbeats 8000000 in
theorem fEch_any (A : Option Addr) (n c nc : Nat) (M : List (List Int)) (p : Int) (w : World) (hT : TabAt w) (h : MatAt w A n c M) (hp : Pr p) (hn64 : n ≤ 64) (hnc : ∀ i, i < M.length → (M.getD i []).length = nc) (hc64 : nc ≤ 64) :
    Calls Tryz.prog 108 #[.slice A n c, .int .i64 p] w fun e w' => ∃ v, e = .returned v ∧ FEch p nc M w v w' := by
  have hpm := hp.md
  have hp1 := hpm.1
  have hp2 := hpm.2
  have hp3 := hp.1
  have hcl := h.le
  have hcm := h.max
  have H := Lib.hid h
  have HNL := Lib.hid h.len
  have PR := Lib.hid hp
  have HNC := Lib.hid hnc
  have HT := Lib.hid hT
  have MD := Lib.hid hpm
  clear h hp hnc hT hpm
  go_enter Tryz.func108, Tryz.ntmps108
  go_wp2_with fail
  go_loopw [15, 5] (fun i v wr => ∃ (k : Nat) (vs : List Value) (P : List (Nat × List Int)), k ≤ n ∧ i = .int .i64 (k : Int) ∧ P.length ≤ k ∧ Hid (ROw wr w.heap.size nc v vs P) ∧ Hid (EchP p nc P) ∧ Hid ((∀ r ∈ rowsOf P, Sp p (M.take k) (cf r)) ∧ (∀ r ∈ M.take k, Sp p (rowsOf P) (cf r))) ∧ Below w.heap.size w wr) (fun i _ _ => n - (intOf i).toNat)
  case atStart => exact ⟨0, [], [], Nat.zero_le _, rfl, Nat.le_refl _, Lib.hid (ROw.nil _ _ _), Lib.hid (ech_nil p nc), Lib.hid ⟨fun r hr => (List.not_mem_nil hr).elim, fun r hr => by rw [List.take_zero] at hr; exact (List.not_mem_nil hr).elim⟩, Below.refl _ _⟩
  case round =>
    obtain ⟨k, vs, P, hk, rfl, hPl, hout, hE, hsp, hbel⟩ := hrel
    obtain ⟨wo, rfl⟩ : ∃ wo, wo = wr := ⟨wr, rfl⟩
    obtain ⟨A6, c6, e6, hrw, hop⟩ := hout.out.open_
    subst e6
    obtain ⟨lP, hlP⟩ : ∃ l, P.length = l := ⟨_, rfl⟩
    have HLP := Lib.hid hlP
    rw [hlP] at hPl hrw hop ⊢
    have hou := hout.out
    rw [hlP] at hou
    have HOU := Lib.hid hou
    clear hlP hou hout
    have HOP := Lib.hid hop
    have HRW := Lib.hid hrw
    have hrl := hrw.le
    have hrm := hrw.max
    have hsz := hbel.size
    have HBR := Lib.hid hbel
    clear hop hrw
    by_cases hlt : k < n
    · have hkM : k < M.length := by rw [← HNL.out]; exact hlt
      obtain ⟨b, o, rfl, hbl, hcm'⟩ := H.out.open_ (by omega)
      obtain ⟨Cm, km, dm, hcM, hiM⟩ := hcm' k hlt
      have hkm : km = nc := by rw [hiM.len]; exact HNC.out k hkM
      subst hkm
      rw [← hbel.cell (p := ⟨b, o + k, none⟩) hbl] at hcM
      have HM := Lib.hid (hiM.below hbel)
      obtain ⟨mi, hmi⟩ : ∃ mi, M.getD k [] = mi := ⟨_, rfl⟩
      rw [hmi] at HM
      have hmle := HM.out.le
      have hmmx := HM.out.max
      have i1 : (0 : Int) ≤ (k : Int) := by omega
      have i2 : (k : Int) < (n : Int) := by omega
      have hblr := Nat.lt_of_lt_of_le hbl hbel.size
      have htake : M.take (k + 1) = M.take k ++ [mi] := by
        rw [List.take_succ_eq_append_getElem hkM, ← hmi, List.getD_eq_getElem?_getD, List.getElem?_eq_getElem hkM]
        rfl
      have HTK := Lib.hid htake
      have PL := Lib.hid (fPlain_any Cm km dm mi p wo HM.out MD.out (by omega))
      have hall := RedIn.all (m := mi) hp1 hE.out HM.out.len.symm
      have LS := Lib.hid (fun (W : World) (hb : Below wo.heap.size wo W) (g : Nat) (hs : ISl W (some ⟨g, 0, none⟩) km km (rst p mi)) => fLess_any (some ⟨g, 0, none⟩) km km (rst p mi) A6 lP c6 P p W hs (HRW.out.below hb) (fun b hb => ⟨hE.out.lt b hb, hE.out.len b hb, hE.out.rs b hb⟩) (rst_rs p MD.out mi) MD.out (by omega) (by omega))
      obtain ⟨r0, hr0⟩ : ∃ r0, rst p mi = r0 := ⟨_, rfl⟩
      rw [hr0] at PL hall LS
      obtain ⟨r, hr⟩ : ∃ r, lessA p r0 P = r := ⟨_, rfl⟩
      rw [hr] at hall LS
      have HRD := Lib.hid hall
      clear hcm' hiM hmi htake hall hr0 hr hbel
      have FF := Lib.hid (fun (W : World) (g : Nat) (hs : ISl W (some ⟨g, 0, none⟩) km km r) => fFirst_any (some ⟨g, 0, none⟩) km km r W hs)
      rcases fsi_cases r with ⟨x, hx, hfx⟩ | ⟨hx, hzero⟩
      · rw [hx] at FF
        have hxk : x < km := by have := hfx.1; rwa [HRD.out.len] at this
        have BY := Lib.hid (fun (W : World) (hb : Below w.heap.size w W) (g : Nat) (hs : ISl W (some ⟨g, 0, none⟩) km km r) => fBy_any (some ⟨g, 0, none⟩) km km r x p W (HT.out.below hb) hs PR.out HRD.out.rs hxk hfx.2.1 (by omega))
        have hnz : cf r x % p ≠ 0 := by rw [HRD.out.rs.emod (by omega) x]; exact hfx.2.1
        have hiv := finv_spec PR.out hnz
        obtain ⟨y, hy⟩ : ∃ y, cf r x = y := ⟨_, rfl⟩
        rw [hy] at BY hiv
        obtain ⟨u, hu⟩ : ∃ u, finv y p = u := ⟨_, rfl⟩
        rw [hu] at BY hiv
        have hsf := scl_facts (u := u) hp3 HRD.out.rs hfx hy hiv.2.2
        obtain ⟨nw, hnw⟩ : ∃ nw, sclL p u r r.length = nw := ⟨_, rfl⟩
        have hnwl : nw.length = km := by rw [← hnw, sclL_len, HRD.out.len]
        rw [hnw] at BY hsf
        have HNWL := Lib.hid hnwl
        have HSF := Lib.hid hsf
        have hno : (∀ j, j < x → cf nw j = 0) ∧ (∀ a ∈ P, cf nw a.1 = 0) := ⟨fun j hj => hsf.2.2.1 j (hfx.2.2 j hj), fun a ha => hsf.2.2.1 _ (HRD.out.zero a (by rw [List.take_of_length_le (Nat.le_refl _)]; exact ha))⟩
        have HNO := Lib.hid hno
        have i7 : (0 : Int) ≤ (x : Int) := by omega
        have i8 : (x : Int) < (km : Int) := by omega
        clear hfx hnz hiv hy hu hsf hnw hnwl hno hx
        go_wp2_with (first
          | (go_at_call 148; (with_reducible refine PL.out.mono ?_); rintro e w1 ⟨v1, rfl, ho1⟩; have hb1 := ho1.bel; obtain ⟨g1, rfl, hs1, _, hg1, _⟩ := ho1.sl (by omega); have HS1 := Lib.hid hs1; have HB1 := Lib.hid hb1; clear ho1 hs1 hb1)
          | (go_at_call 147; (with_reducible refine (LS.out _ HB1.out _ HS1.out).mono ?_); rintro e w2 ⟨v2, rfl, ho2⟩; have hb2 := ho2.bel; obtain ⟨g2, rfl, hs2, _, hg2, _⟩ := ho2.sl (by omega); have HS2 := Lib.hid hs2; have HB2 := Lib.hid (HB1.out.trans (hb2.mono HB1.out.size)); clear ho2 hs2 hb2)
          | (go_at_call 149; (with_reducible refine (FF.out _ _ HS2.out).mono ?_); rintro e w0 ⟨rfl, rfl⟩)
          | (go_at_call 151; (with_reducible refine (BY.out _ (HBR.out.trans (HB2.out.mono HBR.out.size)) _ HS2.out).mono ?_); rintro e w3 ⟨v3, rfl, ho3⟩; have hb3 := ho3.bel; obtain ⟨g3, rfl, hs3, hk3, hg3, hgl3⟩ := ho3.sl (by omega); have HK3 := Lib.hid hk3; have HB3 := Lib.hid (HB2.out.trans (hb3.mono HB2.out.size)); have hle3 : wo.heap.size ≤ g3 := Nat.le_trans HB2.out.size hg3; clear ho3 hs3 hb3 hk3))
        have hw4 : Below wo.heap.size wo (w3.alloc (.cells #[.int .i64 (x : Int), .slice (some ⟨g3, 0, none⟩) km km] 136)) := HB3.out.alloc HB3.out.size _
        have hx4 : (w3.alloc (.cells #[.int .i64 (x : Int), .slice (some ⟨g3, 0, none⟩) km km] 136)).heap[w3.heap.size]? = some (.cells #[.int .i64 (x : Int), .slice (some ⟨g3, 0, none⟩) km km] 136 (0, 0)) := heap_alloc_new w3 _
        have hn4 := HK3.out.alloc (.cells #[.int .i64 (x : Int), .slice (some ⟨g3, 0, none⟩) km km] 136)
        have ho4 := HOU.out.below hw4
        have hb4 : Below w.heap.size w (w3.alloc (.cells #[.int .i64 (x : Int), .slice (some ⟨g3, 0, none⟩) km km] 136)) := HBR.out.trans (hw4.mono HBR.out.size)
        have HX4 := Lib.hid hx4
        have HN4 := Lib.hid hn4
        have HO4 := Lib.hid ho4
        have HB4 := Lib.hid hb4
        have hge := HB3.out.size
        obtain ⟨gx, hgx⟩ : ∃ gx, w3.heap.size = gx := ⟨_, rfl⟩
        rw [hgx] at HX4 hge ⊢
        have hgl : wo.heap.size ≤ gx := hge
        generalize (w3.alloc (.cells #[.int .i64 (x : Int), .slice (some ⟨g3, 0, none⟩) km km] 136)) = w4 at *
        clear hw4 hx4 hn4 ho4 hb4 HB3 HB2 HB1 HK3 HS1 HS2 BY FF LS PL hgx hge
        go_loopw [37] (fun i wr => ∃ (q : Nat) (vs2 : List Value), q ≤ lP ∧ i = .int .i64 (q : Int) ∧ Hid (ROw wr w.heap.size km (.slice A6 lP c6) vs2 (mixP p x nw P q)) ∧ Hid (wr.heap[gx]? = some (.cells #[.int .i64 (x : Int), .slice (some ⟨g3, 0, none⟩) km km] 136 (0, 0))) ∧ Hid (IBlk wr g3 nw) ∧ Below w.heap.size w wr) (fun i _ => lP - (intOf i).toNat)
        case atStart => exact ⟨0, vs, Nat.zero_le _, rfl, Lib.hid (by rw [mixP_zero]; exact HO4.out), HX4, HN4, HB4.out⟩
        case round =>
          clear HX4 HN4 HO4 HB4
          obtain ⟨q, vs2, hq, rfl, hO, hX, hN, hbq⟩ := hrel
          have hlX : gx < wr.heap.size := (Array.getElem?_eq_some_iff.1 hX.out).1
          have HX := Lib.hid hX.out
          by_cases hql : q < lP
          · obtain ⟨b6, rfl, hB6, hb6, _, _⟩ := HOP.out (by omega)
            have hqP : q < P.length := by rw [HLP.out]; exact hql
            have hml := mixP_len p x nw P q (Nat.le_of_lt hqP)
            obtain ⟨A7, c7, e7, hrw7, hop7⟩ := hO.out.open_
            rw [hml, HLP.out] at e7 hop7
            simp only [Value.slice.injEq] at e7
            obtain ⟨rfl, -, rfl⟩ := e7
            obtain ⟨b7, e7, _, hb7, hfz, hcc⟩ := hop7 (by omega)
            simp only [Option.some.injEq, Addr.mk.injEq, and_true] at e7
            subst e7
            obtain ⟨hc1, C, d, hc2, hc3, hap⟩ := hcc q hql
            have hap2 : ∀ b' o' s', C = some ⟨b', o', s'⟩ → True := fun _ _ _ _ => trivial
            rw [mixP_plc hqP] at hc1
            rw [mixP_at hqP] at hc3 hap
            have hmP : P[q] ∈ P := List.getElem_mem hqP
            have hpl64 : plc P q < km := by rw [plc_at hqP]; exact hE.out.lt _ hmP
            have hms := mixP_set (p := p) (x := x) (w := nw) hqP
            rw [← prow_at hqP, ← plc_at hqP] at hms
            have hrs : Rs p (prow P q) := by rw [prow_at hqP]; exact hE.out.rs _ hmP
            have hfzq := hfz (q * 2 + 1)
            have hg3l := hN.out.lt
            have hN1 := hN.out.sl (by rw [HNWL.out]; omega)
            rw [HNWL.out] at hN1
            obtain ⟨pq, hpq⟩ : ∃ pq, plc P q = pq := ⟨_, rfl⟩
            obtain ⟨rq, hrq⟩ : ∃ rq, prow P q = rq := ⟨_, rfl⟩
            rw [hpq] at hc1 hpl64 hms
            rw [hrq] at hc3 hap hms hrs
            have o1 : Obj := .cells #[.int .i64 (pq : Int), .slice C km d] 136
            have LS := fLess_any C km d rq (some ⟨wr.heap.size + 1, 0, none⟩) 1 1 [(x, nw)] p ((wr.alloc (.cells #[.int .i64 (pq : Int), .slice C km d] 136)).alloc (.cells #[.int .i64 (x : Int), .slice (some ⟨g3, 0, none⟩) km km] 136))
              (islL_al (islL_al hc3 _) _) (by have := RowsAt.one (wr.alloc (.cells #[.int .i64 (pq : Int), .slice C km d] 136)) x (some ⟨g3, 0, none⟩) km km nw (islL_al hN1 _); simpa using this)
              (fun b hb => by simp at hb; subst hb; exact ⟨hxk, HNWL.out, HSF.out.1⟩) hrs MD.out (by omega) (by omega)
            rw [lessA_one] at LS
            have hcX0 : wr.cell? ⟨gx, 0, none⟩ = some (.int .i64 (x : Int)) := by rw [cell_of_row wr gx 0 _ _ (0, 0) HX.out]; rfl
            have hcX1 : wr.cell? ⟨gx, 1, none⟩ = some (.slice (some ⟨g3, 0, none⟩) km km) := by rw [cell_of_row wr gx 1 _ _ (0, 0) HX.out]; rfl
            obtain ⟨L, hL⟩ : ∃ L, lessL p rq nw (cf rq x) = L := ⟨_, rfl⟩
            rw [hL] at LS hms
            have HLS := Lib.hid LS
            have HMS := Lib.hid hms
            have HPQ := Lib.hid hpq
            have HML := Lib.hid hml
            have HC2 := Lib.hid hc2
            have HFZ := Lib.hid hfz
            have hne6 : g3 ≠ b6 := by omega
            have hne7 : gx ≠ b6 := by omega
            have i5 : (0 : Int) ≤ (q : Int) := by omega
            have i6 : (q : Int) < (lP : Int) := by omega
            have hle7 := hc3.le
            have hmx7 := hc3.max
            have hbw : Below wr.heap.size wr ((wr.alloc (.cells #[.int .i64 (pq : Int), .slice C km d] 136)).alloc (.cells #[.int .i64 (x : Int), .slice (some ⟨g3, 0, none⟩) km km] 136)) := (belowL_al _ _).trans ((belowL_al _ _).mono (by simp))
            have HBW := Lib.hid hbw
            have HBQ := Lib.hid hbq
            clear o1 hap2 hap hc3 hms hrs hfz hcc hop7 hrw7 hN1 LS hX hpq hrq hL hmP hml hbw hbq
            go_wp2_with (go_at_call 147; (with_reducible refine HLS.out.mono ?_); rintro e w5 ⟨v5, rfl, ho5⟩; have hb5 := HBW.out.trans (ho5.bel.mono HBW.out.size); obtain ⟨g5, rfl, hs5, _, hg5, hgl5⟩ := ho5.sl (by omega); have HS5 := Lib.hid hs5; have HB5 := Lib.hid hb5; have hc5 := (hb5.cell (p := ⟨b6, q * 2 + 1, none⟩) hb7).trans HC2.out; have hf5 := (hb5.frozen (p := ⟨b6, q * 2 + 1, none⟩) hb7).trans (HFZ.out _); have hge5 : wr.heap.size ≤ g5 := Nat.le_trans HBW.out.size hg5; clear ho5 hs5 hb5)
            refine ⟨⟨q + 1, vs2.set (q * 2 + 1) (.slice (some ⟨g5, 0, none⟩) km km), by omega, by go_num, Lib.hid ?_, Lib.hid ((Below.heap_setCell w5 _ _ gx hne7).trans ((HB5.out.block gx hlX).trans HX.out)), Lib.hid ((hN.out.below HB5.out).far (p := ⟨b6, q * 2 + 1, none⟩) hne6 _), (HBQ.out.trans (HB5.out.mono HBQ.out.size)).setCell (p := ⟨b6, q * 2 + 1, none⟩) hB6 _⟩, by simp [intOf]; omega⟩
            · have := (hO.out.below HB5.out).store (by rw [HML.out, HLP.out]) (by rw [HML.out]; exact hqP) HS5.out (.inr fun b' o' s' e' e2 => by
                simp only [Option.some.injEq, Addr.mk.injEq] at e' e2
                omega)
              rw [mixP_plc hqP, HPQ.out, HMS.out] at this
              exact this
          · obtain rfl : q = lP := by omega
            have hOA := hO.out
            rw [show q = P.length from HLP.out.symm, mixP_all] at hOA
            rw [show P.length = q from HLP.out] at hOA
            have hll : (lessP p x nw P).length = q := by rw [lessP_len, HLP.out]
            have hrw8 := hOA.open_
            obtain ⟨A8, c8, e8, hrw8, _⟩ := hrw8
            rw [hll] at e8 hrw8
            simp only [Value.slice.injEq] at e8
            obtain ⟨rfl, -, rfl⟩ := e8
            have PLC := Lib.hid (fun (W : World) (hb : Below wr.heap.size wr W) => fPlace_any A6 q c6 (lessP p x nw P) x (some ⟨g3, 0, none⟩) km km W (hrw8.below hb) (lessP_inc hE.out.inc)
              (fun i hi e => by
                have hiP : i < P.length := by rw [HLP.out]; exact hi
                rw [lessP_plc, plc_at hiP] at e
                have h1 := HNO.out.2 _ (List.getElem_mem hiP)
                rw [e, HSF.out.2.1] at h1
                exact absurd h1 (by decide))
              (fun i hi => by
                have hiP : i < P.length := by rw [HLP.out]; exact hi
                rw [lessP_plc, plc_at hiP]
                have := hE.out.lt _ (List.getElem_mem hiP)
                omega) (by omega) (by omega))
            have hN1 := hN.out.sl (by rw [HNWL.out]; omega)
            rw [HNWL.out] at hN1
            have hown := hOA.1
            rw [hll] at hown
            have INS := Lib.hid (fun (W : World) (hb : Below wr.heap.size wr W) (gv : Nat) (hv : wr.heap.size ≤ gv) (hy : W.heap[gv]? = some (.cells #[.int .i64 (x : Int), .slice (some ⟨g3, 0, none⟩) km km] 136 (0, 0))) (t : Nat) (ht : t ≤ q) =>
              rIns_any W w.heap.size q gv t (.slice A6 q c6) vs2 (.int .i64 (x : Int)) (.slice (some ⟨g3, 0, none⟩) km km) (ownsRow_belowE hown hb) hy (fun e => by have := (hown.lt gv e).2; omega) rfl rfl hOA.2.1 (by omega) ht (Nat.le_trans hbq.size hb.size))
            have hcX0 : wr.cell? ⟨gx, 0, none⟩ = some (.int .i64 (x : Int)) := by rw [cell_of_row wr gx 0 _ _ (0, 0) HX.out]; rfl
            have hcX1 : wr.cell? ⟨gx, 1, none⟩ = some (.slice (some ⟨g3, 0, none⟩) km km) := by rw [cell_of_row wr gx 1 _ _ (0, 0) HX.out]; rfl
            have HOA := Lib.hid hOA
            have HN1 := Lib.hid hN1
            have HBQ := Lib.hid hbq
            have HAP : Hid (ApO (some ⟨g3, 0, none⟩) nw (Value.slice A6 q c6).ownBlock) := Lib.hid (.inr fun b' o' s' e' e2 => by
              have := (HOU.out.1.lt b' e2.symm).2
              simp only [Option.some.injEq, Addr.mk.injEq] at e'
              omega)
            clear hown hrw8 hX hOA hN1 hbq hll
            have HWA : Hid (Below wr.heap.size wr (wr.alloc (.cells #[.int .i64 (x : Int), .slice (some ⟨g3, 0, none⟩) km km] 136)).drew) := Lib.hid ((Below.refl wr.heap.size wr).alloc (Nat.le_refl _) _).drew
            go_wp2_with fail
            go_region_law (first
              | (go_simp; go_at_call 153; (with_reducible refine (PLC.out _ (Below.refl _ _).drew).mono ?_); rintro e w5 ⟨t, rfl, hpl, hb5⟩; have hbw5 : Below wr.heap.size wr w5 := (Below.refl _ _).drew.trans hb5; have hc5 := (hbw5.cell (p := ⟨gx, 0, none⟩) hlX).trans hcX0; have hc6 := (hbw5.cell (p := ⟨gx, 1, none⟩) hlX).trans hcX1)
              | (go_simp; go_at_call 153; (with_reducible refine (PLC.out _ HWA.out).mono ?_); rintro e w5 ⟨t, rfl, hpl, hb5⟩; have hbw5 : Below wr.heap.size wr w5 := HWA.out.trans (hb5.mono HWA.out.size); have hv5 : w5.heap[wr.heap.size]? = some (.cells #[.int .i64 (x : Int), .slice (some ⟨g3, 0, none⟩) km km] 136 (0, 0)) := (hb5.block wr.heap.size (by simp)).trans (heap_alloc_new wr _))
              | (go_simp; go_at_call 152; (with_reducible refine (INS.out _ (hbw5.alloc hbw5.size _) w5.heap.size hbw5.size (heap_alloc_new w5 _) t (by have := (place_lead hpl).1; rw [HLP.out] at this; exact this)).mono ?_); rintro e w6 ⟨v6, rfl, k1, k2, k3⟩; have HF := Lib.hid (ech_ins HOA.out HBQ.out HLP.out HN1.out HAP.out (place_lead hpl).1 (hbw5.alloc hbw5.size _) k1 k2 k3))
              | (go_simp; go_at_call 152; (with_reducible refine (INS.out _ hbw5 wr.heap.size (Nat.le_refl _) hv5 t (by have := (place_lead hpl).1; rw [HLP.out] at this; exact this)).mono ?_); rintro e w6 ⟨v6, rfl, k1, k2, k3⟩; have HF := Lib.hid (ech_ins HOA.out HBQ.out HLP.out HN1.out HAP.out (place_lead hpl).1 hbw5 k1 k2 k3))
              | fail)
            all_goals
              have hl := place_lead hpl
              have HE2 := Lib.hid (hE.out.put hp3 (t := t) hxk HNWL.out HSF.out.1 HSF.out.2.1 HNO.out.1 HNO.out.2 hl.2.1 hl.2.2)
              have hsp2 := put_sp (x := x) (t := t) hE.out HNWL.out hsp.out.1 hsp.out.2 HRD.out.sp HSF.out.2.2.2.1 HSF.out.2.2.2.2
              rw [← HTK.out] at hsp2
              have HSP2 := Lib.hid hsp2
              clear hl hsp2 hpl hb5 hbw5 k1 k2 k3
              go_wp2_with fail
              exact ⟨⟨k + 1, _, putP p x nw t P, by omega, by go_num, by rw [putP_len, HLP.out]; omega, Lib.hid HF.out.1, HE2, HSP2, HF.out.2⟩, by simp [intOf]; omega⟩
      · rw [hx] at FF
        have hps := put_none hsp.out.1 hsp.out.2 HRD.out.sp hzero
        rw [← HTK.out] at hps
        have HPS := Lib.hid hps
        clear hps hzero hx
        go_wp2_with (first
          | (go_at_call 148; (with_reducible refine PL.out.mono ?_); rintro e w1 ⟨v1, rfl, ho1⟩; have hb1 := ho1.bel; obtain ⟨g1, rfl, hs1, _, hg1, _⟩ := ho1.sl (by omega); have HS1 := Lib.hid hs1; have HB1 := Lib.hid hb1; clear ho1 hs1 hb1)
          | (go_at_call 147; (with_reducible refine (LS.out _ HB1.out _ HS1.out).mono ?_); rintro e w2 ⟨v2, rfl, ho2⟩; have hb2 := ho2.bel; obtain ⟨g2, rfl, hs2, _, hg2, _⟩ := ho2.sl (by omega); have HS2 := Lib.hid hs2; have HB2 := Lib.hid (HB1.out.trans (hb2.mono HB1.out.size)); clear ho2 hs2 hb2)
          | (go_at_call 149; (with_reducible refine (FF.out _ _ HS2.out).mono ?_); rintro e w0 ⟨rfl, rfl⟩))
        exact ⟨⟨k + 1, vs, P, by omega, by go_num, by rw [HLP.out]; omega, Lib.hid (HOU.out.below HB2.out), hE, HPS, HBR.out.trans (HB2.out.mono HBR.out.size)⟩, by simp [intOf]; omega⟩
    · obtain rfl : k = n := by omega
      have e2 : M.take k = M := List.take_of_length_le (by rw [← HNL.out]; exact Nat.le_refl _)
      have hfin : FEch p nc M w (.slice A6 lP c6) wo := by
        refine ⟨P, A6, lP, c6, rfl, HRW.out, hE.out, ?_, ?_, by rw [← HNL.out]; exact hPl, hbel⟩
        · rw [← e2]; exact hsp.out.1
        · have := hsp.out.2
          rw [e2] at this
          exact this
      have HF := Lib.hid hfin
      clear hfin e2
      go_wp2_with fail
      go_ret
      exact ⟨_, rfl, HF.out⟩
end Go.Proofs.YtnkhhndjbanmnaaGreatDoor

/- flin.isMatrix, check, sumOfProducts and Apply, by their contracts. -/
namespace Go.Proofs.YtnkhhndjbanmnaaGreatDoor
open Go.RowKit Go.Shelf

def IsM (M : List (List Int)) : Prop := M.length ≤ 64 ∧ ∀ i, i < M.length → (M.getD i []).length ≤ 64 ∧ (M.getD i []).length = (M.getD 0 []).length
noncomputable def ismB (M : List (List Int)) : Bool := @decide (IsM M) (Classical.propDecidable _)
theorem ismB_yes {M : List (List Int)} (h : IsM M) : ismB M = true := @decide_eq_true _ (Classical.propDecidable _) h
theorem ismB_no {M : List (List Int)} (h : ¬ IsM M) : ismB M = false := @decide_eq_false _ (Classical.propDecidable _) h

set_option maxRecDepth 100000 in
set_option maxHeartbeats 2000000 in
theorem fIsM_any (A : Option Addr) (n c : Nat) (M : List (List Int)) (w : World) (h : MatAt w A n c M) :
    Calls Tryz.prog 146 #[.slice A n c] w fun e w' => e = .returned (.bool (ismB M)) ∧ Below w.heap.size w w' := by
  have hcl := h.le
  have hcm := h.max
  have hnl := h.len
  by_cases h64 : n ≤ 64
  · have H := Lib.hid h
    have HNL := Lib.hid hnl
    have YES := Lib.hid (fun hr : (∀ i, i < M.length → (M.getD i []).length ≤ 64 ∧ (M.getD i []).length = (M.getD 0 []).length) => ismB_yes (M := M) ⟨by omega, hr⟩)
    have NO := Lib.hid (fun i (hi : i < M.length) (hr : ¬ ((M.getD i []).length ≤ 64 ∧ (M.getD i []).length = (M.getD 0 []).length)) => ismB_no (M := M) (fun k => hr (k.2 i hi)))
    generalize ismB M = r at *
    clear h hnl
    go_enter Tryz.func146, Tryz.ntmps146
    go_wp2_with fail
    go_loopw [10] (fun i wr => ∃ k : Nat, k ≤ n ∧ i = .int .i64 (k : Int) ∧ Hid (∀ j, j < k → (M.getD j []).length ≤ 64 ∧ (M.getD j []).length = (M.getD 0 []).length) ∧ Below w.heap.size w wr) (fun i _ => n - (intOf i).toNat)
    case atStart => exact ⟨0, Nat.zero_le _, rfl, Lib.hid (fun j hj => absurd hj (Nat.not_lt_zero _)), Below.refl _ _⟩
    case round =>
      obtain ⟨k, hk, rfl, hz, hbel⟩ := hrel
      by_cases hlt : k < n
      · obtain ⟨b, o, rfl, hbl, hc⟩ := H.out.open_ (by omega)
        obtain ⟨C0, k0, d0, hc0, hi0⟩ := hc 0 (by omega)
        obtain ⟨C1, k1, d1, hc1, hi1⟩ := hc k hlt
        rw [Nat.add_zero, ← hbel.cell (p := ⟨b, o, none⟩) hbl] at hc0
        rw [← hbel.cell (p := ⟨b, o + k, none⟩) hbl] at hc1
        have HL0 := Lib.hid hi0.len
        have HL1 := Lib.hid hi1.len
        have hm0 := Nat.le_trans hi0.le hi0.max
        have hm1 := Nat.le_trans hi1.le hi1.max
        have HB := Lib.hid hbel
        have i1 : (0 : Int) ≤ (k : Int) := by omega
        have i2 : (k : Int) < (n : Int) := by omega
        have i3 : 0 < n := by omega
        clear hc hi0 hi1 hbel
        by_cases hk1 : k1 ≤ 64
        · have j1 : ¬ (64 : Int) < (k1 : Int) := by omega
          by_cases he : k1 = k0
          · subst he
            go_wp2_with fail
            go_roundw
            case rel => exact ⟨k + 1, by omega, by go_num, Lib.hid (fun j hj => by
              by_cases e : j = k
              · rw [e, ← HL1.out, ← HL0.out]; exact ⟨hk1, rfl⟩
              · exact hz.out j (by omega)), HB.out⟩
            case measure => simp [intOf]; omega
          · have e := NO.out k (by rw [← HNL.out]; exact hlt) (by rw [← HL1.out, ← HL0.out]; omega)
            subst e
            have j2 : ((k1 : Int) != (k0 : Int)) = true := by simp; omega
            clear he
            go_wp2_with fail
            go_ret
            exact ⟨rfl, HB.out⟩
        · have e := NO.out k (by rw [← HNL.out]; exact hlt) (by rw [← HL1.out]; omega)
          subst e
          have j1 : (64 : Int) < (k1 : Int) := by omega
          go_wp2_with fail
          go_ret
          exact ⟨rfl, HB.out⟩
      · obtain rfl : k = n := by omega
        have e := YES.out (fun j hj => hz.out j (by rw [HNL.out]; exact hj))
        subst e
        go_wp2_with fail
        go_ret
        exact ⟨rfl, hbel⟩
  · rw [ismB_no (fun k => h64 (by rw [hnl]; exact k.1))]
    clear h hnl
    go_enter Tryz.func146, Tryz.ntmps146
    go_wp2_with fail
    go_ret
    exact ⟨rfl, Below.refl _ _⟩

set_option maxRecDepth 100000 in
set_option maxHeartbeats 1000000 in
theorem fCheck_any (A : Option Addr) (n c : Nat) (M : List (List Int)) (p : Int) (w : World) (hT : TabAt w) (h : MatAt w A n c M) (ip : In64 p) :
    Calls Tryz.prog 106 #[.slice A n c, .int .i64 p] w fun e w' => e = .returned (.int .i64 (codeB (rightB p M))) ∧ Below w.heap.size w w' := by
  have C := pCheck_any p w ip.1 ip.2 hT
  have D := fIsM_any A n c M w h
  rcases Classical.em (Pr p) with hp | hp
  · rw [chk_yes (primB_yes hp)] at C
    rcases Classical.em (IsM M) with hm | hm
    · rw [ismB_yes hm] at D
      have e : codeB (rightB p M) = 0 := by rw [rightB_yes ⟨hp, hm.1, hm.2⟩]; rfl
      rw [e]
      have CC := Lib.hid C
      have DD := Lib.hid D
      clear C D h ip hp hm hT e
      go_enter Tryz.func106, Tryz.ntmps106
      go_wp2_with (first
        | (go_at_call 48; (with_reducible refine CC.out.mono ?_); rintro e w' ⟨rfl, rfl⟩)
        | (go_at_call 146; (with_reducible refine DD.out.mono ?_); rintro e w' ⟨rfl, hb⟩))
      go_ret
      exact ⟨rfl, hb⟩
    · rw [ismB_no hm] at D
      have e : codeB (rightB p M) = 1 := by rw [rightB_no (fun k => hm ⟨k.2.1, k.2.2⟩)]; rfl
      rw [e]
      have CC := Lib.hid C
      have DD := Lib.hid D
      clear C D h ip hp hm hT e
      go_enter Tryz.func106, Tryz.ntmps106
      go_wp2_with (first
        | (go_at_call 48; (with_reducible refine CC.out.mono ?_); rintro e w' ⟨rfl, rfl⟩)
        | (go_at_call 146; (with_reducible refine DD.out.mono ?_); rintro e w' ⟨rfl, hb⟩))
      go_ret
      exact ⟨rfl, hb⟩
  · rw [chk_no (primB_no hp)] at C
    have e : codeB (rightB p M) = 1 := by rw [rightB_no (fun k => hp k.1)]; rfl
    rw [e]
    have CC := Lib.hid C
    clear C D h ip hp hT e
    go_enter Tryz.func106, Tryz.ntmps106
    go_wp2_with (go_at_call 48; (with_reducible refine CC.out.mono ?_); rintro e w' ⟨rfl, rfl⟩)
    go_ret
    exact ⟨rfl, Below.refl _ _⟩

def rdot (p : Int) (a b : List Int) : Nat → Int := smN fun j => cf a j % p * (cf b j % p)
end Go.Proofs.YtnkhhndjbanmnaaGreatDoor

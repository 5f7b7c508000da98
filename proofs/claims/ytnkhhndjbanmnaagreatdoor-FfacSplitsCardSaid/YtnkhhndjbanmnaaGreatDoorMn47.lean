/- Texts joined, in their order: FacDe. -/
import Derived.StillTailTactics
import Derived.Test.YtnkhhndjbanmnaaGreatDoorMn40
import Derived.Test.YtnkhhndjbanmnaaGreatDoorMn45
import Derived.Test.YtnkhhndjbanmnaaGreatDoorMn46

/- ffac.degrees by contract: the product of the irreducible factors of each degree. -/
namespace Go.Proofs.YtnkhhndjbanmnaaGreatDoor
open Go.RowKit Go.Shelf Go.Lib

set_option maxRecDepth 100000 in
theorem wpList_copy_ints {ops : Array Oper} {rest : List Oper} {o : Oper} {a : Act} {Q : Exit → Act → World → Prop} (w : World) (hgd : o.guard = none) (d s : Operand)
    (ho : o.op = .call { callee := .builtin .copy, args := #[d, s], argTypes := #[22, 22] }) (g dLen dCap : Nat) (A : Option Addr) (n c : Nat)
    (hd : a.eval d = .slice (some ⟨g, 0, none⟩) dLen dCap) (hs : a.eval s = .slice A n c) (L xs : List Int) (hB : IBlk w g L) (hR : ISl w A n c xs) (hfit : n ≤ dLen) (hL : n ≤ L.length)
    (h : ∀ w', IBlk w' g (xs ++ L.drop n) → w.grownBy w' (some g) → wpList Tryz.prog ops Q rest (a.put o.dst (goInt n)) w') : wpList Tryz.prog ops Q (o :: rest) a w := by
  have hn := hR.len
  have hI : (Tryz.prog.info? 3).map (·.size) = some 1 := by kernel_rfl
  by_cases h0 : xs = []
  · have hn0 : n = 0 := by rw [hn, h0]; rfl
    subst hn0
    refine wpList_copy_nothing hgd d s _ _ ho 3 Tryz.underlying22 hI _ _ _ _ _ _ hd hs (by simp) ?_
    refine h w ?_ (World.grownBy.refl w _)
    simpa [h0] using hB
  · obtain ⟨hf, h1 | ⟨b, oo, rfl, hlt, hc⟩⟩ := hR.rd
    · exact absurd h1 h0
    · have hmin : n = Nat.min n dLen := (Nat.min_eq_left hfit).symm
      have hlen : (xs.map iv).length = n := by rw [List.length_map, hn]
      refine wpList_copy_own hgd d s _ _ ho 3 Tryz.underlying22 hI g 0 dLen dCap ⟨b, oo, none⟩ _ _ hd hs _ 3 hB.1 (xs.map iv) (by rw [hlen]; exact hmin) ?_ (by rw [hlen]; simpa using hL) (by intro v hv; obtain ⟨x, _, rfl⟩ := List.mem_map.1 hv; rfl) ?_
      · intro j v hj
        rw [List.getElem?_map] at hj
        obtain ⟨x, hx, rfl⟩ := Option.map_eq_some_iff.1 hj
        obtain ⟨hj', rfl⟩ := List.getElem?_eq_some_iff.1 hx
        rw [iadd_add ⟨b, oo, none⟩ j b oo rfl]
        exact hc j hj'
      · rw [hlen]
        refine h _ ⟨?_, ?_⟩ ?_
        · rw [setRow_heap w g _ _ _ _ hB.1]
          congr 2
          simp [List.map_drop]
        · exact fi_append hf (fi_drop hB.2 _)
        · exact ⟨rfl, rfl, rfl, by simp, fun k _ hne => setRow_other w g k _ (fun e => hne (by rw [e]))⟩
theorem make_run (w : World) (n : Nat) (hn : n ≤ 35184372088832) : ∃ w', (Instr.makeSlice 22 (.int .i64 (n : Int)) (.int .i64 (n : Int))).run Tryz.prog w = .ok (.slice (some ⟨w.heap.size, 0, none⟩) n n) w' ∧ IBlk w' w.heap.size (List.replicate n 0) ∧ Below w.heap.size w w' := by
  obtain ⟨i0, hi, hz0, hz1, hz2⟩ := info_parts infoI
  obtain ⟨w', hrun, ho, hgr⟩ := run_make_full (P := Tryz.prog) w w.heap.size 22 3 i0 _ 1 Tryz.underlying22 hi hz0 hz1 .i64 .i64 n (by rw [hz2]; omega) (by unfold maxLen; omega) (Nat.le_refl _)
  refine ⟨w', hrun, ⟨?_, fun x hx => ?_⟩, (Below.refl _ _).grown hgr (Nat.le_refl _) (fun k e => by cases e)⟩
  · obtain ⟨h1, ⟨h2, _⟩ | ⟨g, cap, cur, hv, hb, hh, hn1, hn2, hs, ht⟩⟩ := ho
    · cases h2
    · simp only [Value.slice.injEq, Option.some.injEq, Addr.mk.injEq, and_true, true_and] at hv
      obtain ⟨rfl, rfl⟩ := hv
      have e1 : cur.toList = (List.replicate n 0).map iv := by
        rw [List.take_of_length_le (by simp [hs])] at ht
        rw [ht, show (Value.int IntKind.i64 0).cells = #[Value.int IntKind.i64 0] from rfl, toList_madeCells_one]
        simp
      rw [hh, show ((List.replicate n 0).map iv).toArray = cur from by rw [← e1]]
  · rw [List.eq_of_mem_replicate hx]
    unfold In64; decide
theorem cf_pad (xs : List Int) (k : Nat) : cf (xs ++ List.replicate k 0) = cf xs := funext fun i => by
  unfold cf
  rw [List.getD_eq_getElem?_getD, List.getD_eq_getElem?_getD]
  by_cases h : i < xs.length
  · rw [List.getElem?_append_left h]
  · rw [List.getElem?_append_right (by omega), List.getElem?_eq_none (by omega : xs.length ≤ i)]
    by_cases h2 : i - xs.length < k
    · rw [List.getElem?_eq_getElem (by simpa using h2)]; simp
    · rw [List.getElem?_eq_none (by simp; omega)]
theorem cf_01 : cf [0, 1] = Xs := cf_x
theorem rasM_len (p : Int) (xs : List Int) (d : Nat) : (rasM p xs d).length = d := by simp [rasM]
theorem rasM_row (p : Int) (xs : List Int) (d : Nat) {i : Nat} (hi : i < d) : ((rasM p xs d).getD i []).length = d := by
  unfold rasM
  rw [List.getD_eq_getElem?_getD, List.getElem?_eq_getElem (by simpa using hi)]
  simp
theorem rasM_ok {p : Int} (hp : Pr p) (xs v : List Int) {d : Nat} (hd : d ≤ 64) (hv : v.length = d) : AppOk p (rasM p xs d) v := by
  have hr : Right p (rasM p xs d) := ⟨hp, by rw [rasM_len]; exact hd, fun i hi => by
    rw [rasM_len] at hi
    rw [rasM_row p xs d hi, rasM_row p xs d (by omega)]
    exact ⟨hd, rfl⟩⟩
  refine ⟨hr, fun h0 => ?_⟩
  rw [rasM_len] at h0
  rw [← hr.len (i := 0) (by rw [rasM_len]; exact h0), rasM_row p xs d h0, hv]
theorem gwpList_appG {ops : Array Oper} {rest : List Oper} {o : Oper} {a : Act} {Q : Exit → Act → World → Prop} (w : World) (hgd : o.guard = none) (s x : Operand) (ho : o.op = .call { callee := .builtin .append, args := #[s, x], argTypes := #[31, 31] })
    (B : Nat) (v : Value) (G : List (List Int)) (hs : a.eval s = v) (hown : GAt w B v G) (g : Nat) (hx : a.eval x = .slice (some ⟨g, 0, none⟩) 1 1) (C : Option Addr) (k d : Nat) (hR : VBlk w g [.slice C k d]) (L : List Int) (hL : ISl w C k d L) (ha : ApO C L v.ownBlock) (hmax : G.length ≤ 1000) (hB : B ≤ w.heap.size)
    (h : ∀ v' w', GAt w' B v' (G ++ [L]) → Below B w w' → w.grownBy w' v.ownBlock → wpList Tryz.prog ops Q rest (a.put o.dst v') w') : wpList Tryz.prog ops Q (o :: rest) a w :=
  wpList_plain hgd fun _ hK => by
    obtain ⟨vs, h1, h2, h3⟩ := hown
    obtain ⟨v', w', hrun, j1, j2, j3⟩ := vrun_app_at w o.type B v vs h1 ⟨g, 0, none⟩ 1 1 [.slice C k d] (hR.sl (by simp)) (by omega) hB
    have hk := hK _ _ (h v' w' (GAt.snoc h2 h3 hL ha j1 j2 j3) (h1.grownBelow j2 hB) j2)
    unfold Oper.wp execOp
    simp only [ho, resolve, invoke, builtin, Sem.run_bind, Sem.run_pure, Result.andThen_ok, List.map_toArray, List.map_cons, List.map_nil, hs, hx, hrun]
    exact hk
theorem apo_new {wr w : World} {C : Option Addr} {xs : List Int} {B : Nat} {v : Value} {G : List (List Int)} (h : GAt wr B v G) (hw : wr.heap.size ≤ w.heap.size) (hf : FreshA w C) : ApO C xs v.ownBlock := .inr fun b o s e e2 => by
  have h1 := hf b o s e
  have h2 := (h.lt e2.symm).2
  omega
set_option maxRecDepth 100000 in
set_option maxHeartbeats 4000000 in
theorem fApplyNew (A : Option Addr) (n c : Nat) (M : List (List Int)) (B : Option Addr) (m d : Nat) (v : List Int) (p : Int) (w : World) (hT : TabAt w) (h : MatAt w A n c M) (hv : ISl w B m d v) (ip : In64 p) (ho : AppOk p M v) (hn0 : 0 < n) :
    Calls Tryz.prog 69 #[.slice A n c, .slice B m d, .int .i64 p] w fun e w' => ∃ g, w.heap.size ≤ g ∧ e = .returned (.tuple #[.slice (some ⟨g, 0, none⟩) n n, .int .i64 0]) ∧ ISl w' (some ⟨g, 0, none⟩) n n (appL p M v m) ∧ Below w.heap.size w w' := by
  have hcl := h.le
  have hcm := h.max
  have hcl' := hv.le
  have hcm' := hv.max
  have hnl := h.len
  have hml := hv.len
  have C := fCheck_any A n c M p w hT h ip
  have hr := ho.1
  rw [rightB_yes hr, codeB_yes] at C
  have hn64 : n ≤ 64 := by rw [hnl]; exact hr.2.1
  have hlen : ∀ k, k < n → (M.getD k []).length = m := fun k hk => by
    rw [hr.len (by rw [← hnl]; exact hk), ho.2 (by omega), hml]
  have hm64 : 0 < n → m ≤ 64 := fun h0 => by rw [← hlen 0 h0, hr.len (by rw [← hnl]; exact h0)]; exact hr.cols
  have H := Lib.hid h
  have HV := Lib.hid hv
  have MD := Lib.hid hr.1.md
  have HLN := Lib.hid hlen
  have HNL := Lib.hid hnl
  have hp1 := hr.1.md.1
  have DOT := Lib.hid (fun (W : World) (hb : Below w.heap.size w W) (k : Nat) (hk : k < n) (C : Option Addr) (k1 d1 : Nat) (hs : ISl W C k1 d1 (M.getD k [])) => fDot_any C B k1 d1 m d (M.getD k []) v p W hs (hv.below hb) MD.out (by rw [hs.len, hlen k hk]) (by rw [hs.len, hlen k hk]; have := hm64 (by omega); omega))
  have AT := Lib.hid (fun k (hk : k < n) => appL_take p M v m k (by rw [← hnl]; exact hk))
  have HAL := Lib.hid (show (appL p M v m).length = n by rw [appL_len, hnl])
  have HRS := Lib.hid (appL_rs hr.1.1 M v m)
  have CC := Lib.hid C
  generalize appL p M v m = R at *
  clear h hv hnl hml C ho hlen hr hT ip
  obtain ⟨b, o, rfl, hbl, hc⟩ := H.out.open_ hn0
  obtain ⟨C0, k0, d0, hc0, hi0⟩ := hc 0 hn0
  have hk0 : k0 = m := by rw [hi0.len]; exact HLN.out 0 hn0
  subst hk0
  rw [Nat.add_zero] at hc0
  have hbl0 := hbl
  have HC := Lib.hid hc
  have CC2 := Lib.hid (fun W (hb : Below w.heap.size w W) => (hb.cell (p := ⟨b, o, none⟩) hbl).trans hc0)
  have i1 : (0 : Int) < (n : Int) := by omega
  clear hc hi0 hc0
  go_enter Tryz.func69, Tryz.ntmps69
  go_wp2_with (first
    | (go_at_call 106; (with_reducible refine CC.out.mono ?_); rintro e w1 ⟨rfl, hb1⟩; have HB1 := Lib.hid hb1; have hc1 := CC2.out w1 hb1; clear hb1)
    | (at_make; refine wpList_make_ints _ rfl _ _ rfl _ _ _ _ n rfl rfl rfl rfl (by omega) ?_; intro w3 hk3 hb3; have HK3 := Lib.hid hk3; have HB3 := Lib.hid hb3; clear hk3 hb3))
  go_loopw [35] (fun i wr => ∃ k : Nat, k ≤ n ∧ i = .int .i64 (k : Int) ∧ ∃ L, Hid (IBlk wr w1.heap.size L) ∧ Hid (L.length = n ∧ ∀ j, j < k → cf L j = cf R j) ∧ Hid (Below w1.heap.size w1 wr)) (fun i _ => n - (intOf i).toNat)
  case atStart => exact ⟨0, Nat.zero_le _, rfl, _, HK3, Lib.hid ⟨by simp, fun j hj => absurd hj (Nat.not_lt_zero _)⟩, HB3⟩
  case round =>
    clear HK3 HB3 hc1
    obtain ⟨k, hk, rfl, L, hL, hI, hbel⟩ := hrel
    by_cases hlt : k < n
    · have hbw : Below w.heap.size w wr := HB1.out.trans (hbel.out.mono HB1.out.size)
      obtain ⟨C1, k1, d1, hc1, hi1⟩ := HC.out k hlt
      have D := DOT.out wr hbw k hlt C1 k1 d1 (hi1.below hbw)
      have hk1 : k1 = k0 := by rw [hi1.len]; exact HLN.out k hlt
      subst hk1
      rw [← AT.out k hlt] at D
      rw [← hbw.cell (p := ⟨b, o + k, none⟩) hbl] at hc1
      have hz := HRS.out.at hp1 k
      obtain ⟨z, hzz⟩ : ∃ z, cf R k = z := ⟨_, rfl⟩
      rw [hzz] at D hz
      have HZ := Lib.hid hzz
      have HD := Lib.hid D
      have i2 : (0 : Int) ≤ (k : Int) := by omega
      have i3 : (k : Int) < (n : Int) := by omega
      have gb := Nat.lt_of_lt_of_le hbl hbw.size
      have hle1 := hi1.le
      have hmx1 := hi1.max
      have hmd := MD.out.2
      clear D hzz hi1 hbw
      go_wp2_with (go_at_call 117; (with_reducible refine HD.out.mono ?_); rintro e w5 ⟨rfl, hb5⟩; have hL5 := hL.out.below hb5; have HL5 := Lib.hid hL5; have hc5 := hL5.cellD k (by rw [hI.out.1]; exact hlt); have hf5 := hL5.frozen k; have HB5 := Lib.hid (hbel.out.trans (hb5.mono hbel.out.size)); clear hb5 hL5)
      go_roundw
      case rel => exact ⟨k + 1, by omega, by go_num, L.set k z, Lib.hid (HL5.out.set_ k z (by unfold In64; omega)), Lib.hid ⟨by rw [List.length_set]; exact hI.out.1, fun j hj => by
        rw [cf_set _ _ (by rw [hI.out.1]; exact hlt)]
        by_cases e : j = k
        · rw [if_pos e, e, HZ.out]
        · rw [if_neg e]; exact hI.out.2 j (by omega)⟩, Lib.hid (HB5.out.setCell (p := ⟨w1.heap.size, k, none⟩) (Nat.le_refl _) _)⟩
      case measure => simp [intOf]; omega
    · obtain rfl : k = n := by omega
      have e : L = R := cf_ext (by rw [hI.out.1, HAL.out]) fun j => by
        by_cases hj : j < k
        · exact hI.out.2 j hj
        · rw [cf_over (by rw [hI.out.1]; omega), cf_over (by rw [HAL.out]; omega)]
      subst e
      have hs := hL.out.sl (by rw [HAL.out]; omega)
      rw [HAL.out] at hs
      have HS := Lib.hid hs
      clear hs
      go_wp2_with fail
      go_ret2
      exact ⟨w1.heap.size, HB1.out.size, rfl, HS.out, HB1.out.trans (hbel.out.mono HB1.out.size)⟩
theorem RBk.grownF {w w' : World} {B gm d r g : Nat} {bs : Nat → Nat} {F : Nat → Nat → Int} (h : RBk w B gm d r bs F) (hg : w.grownBy w' (some g)) (h1 : g ≠ gm) (h2 : ∀ i, i < r → g ≠ bs i) : RBk w' B gm d r bs F :=
  ⟨h.top.grown hg h1.symm, h.ge, h.gt, h.inj, fun i hi => (h.row i hi).grown hg (h2 i hi).symm⟩
theorem ras_mat {p : Int} {w : World} {B gm d : Nat} {xs : List Int} {bs : Nat → Nat} (h : RBk w B gm d d bs fun i j => cf (colL p xs j) i) (hd : d ≤ 1000000) : MatAt w (some ⟨gm, 0, none⟩) d d (rasM p xs d) := h.mat hd
theorem drop_rep (k m : Nat) : (List.replicate k (0 : Int)).drop m = List.replicate (k - m) 0 := by simp
theorem DgL.len {p : Int} {m left : List Int} {t : Nat} (hp : Pr p) (hm : Mn p m) (h : DgL p m t left) : left.length ≤ m.length := h.mn.len_le hp hm fun q hq => by
  obtain ⟨k, _, hk⟩ := irr_mo hq
  rw [h.v q k hq hk]
  split
  · exact Nat.le_refl _
  · exact Nat.zero_le _
theorem dg_snoc {P : Nat → List Int → Prop} {D : List (List Int)} {ys : List Int} (h : ∀ j, j < D.length → P (j + 1) (D.getD j [])) (k : P (D.length + 1) ys) : ∀ j, j < (D ++ [ys]).length → P (j + 1) ((D ++ [ys]).getD j []) := fun j hj => by
  rw [List.length_append] at hj
  by_cases e : j < D.length
  · rw [show (D ++ [ys]).getD j [] = D.getD j [] by rw [List.getD_eq_getElem?_getD, List.getElem?_append_left e, ← List.getD_eq_getElem?_getD]]
    exact h j e
  · obtain rfl : j = D.length := by simp at hj; omega
    rw [show (D ++ [ys]).getD D.length [] = ys by rw [List.getD_eq_getElem?_getD, List.getElem?_append_right (Nat.le_refl _), Nat.sub_self]; rfl]
    exact k
structure DgM (p : Int) (m : List Int) (n : Nat) (w wr : World) (t : Nat) (R : Option Addr) (cr : Nat) (r : List Int) (L : Option Addr) (nl cl : Nat) (left : List Int) (v : Value) (D : List (List Int)) : Prop where
  ir : ISl wr R n cr r
  il : ISl wr L nl cl left
  la : ApO L left v.ownBlock
  rr : DgR p m n t r
  ll : DgL p m t left
  gt : GAt wr w.heap.size v D
  dl : D.length = t
  dg : ∀ j, j < D.length → IsDg p m (j + 1) (D.getD j [])
  sh : ∀ j, j < D.length → (D.getD j []).length ≤ 65
  be : Below w.heap.size w wr
set_option maxRecDepth 100000 in
set_option maxHeartbeats 8000000 in
theorem gDegs (A : Option Addr) (c d : Nat) (xs : List Int) (p : Int) (w : World) (hT : TabAt w) (h : ISl w A (d + 1) c xs) (hp : Pr p) (hx : Mn p xs) (hs : Sqf p xs) (hd : d ≤ 64) :
    Calls Tryz.prog 41 #[.slice A (d + 1) c, .int .i64 p] w fun e w' => ∃ D A' c', e = .returned (.slice A' D.length c') ∧ MatAt w' A' D.length c' D ∧ D.length = d ∧ (∀ j, j < D.length → IsDg p xs (j + 1) (D.getD j [])) ∧ (∀ j, j < D.length → (D.getD j []).length ≤ 65) ∧ Below w.heap.size w w' := by
  have hcl := h.le
  have hcm := h.max
  have ip : In64 p := by have := hp.1; have := hp.2.1; unfold In64; omega
  have hl : Last p (cf xs) d := by have := hx.last; rwa [← h.len, Nat.add_sub_cancel] at this
  have H := Lib.hid h
  have HT := Lib.hid hT
  have PR := Lib.hid hp
  have HX := Lib.hid hx
  have HL := Lib.hid hl
  have HS := Lib.hid hs
  have IP := Lib.hid ip
  have RS := Lib.hid (fun W (hb : Below w.heap.size w W) => gRaising A c d xs p W (hT.below hb) (h.below hb) hp hx hd)
  clear h hT hp hx hl hs ip
  go_enter Tryz.func41, Tryz.ntmps41
  go_wp2_with fail
  have hw : IntKind.i64.wrap (d : Int) = (d : Int) := by rw [IntKind.wrap_i64]; omega
  have WB := Lib.hid (show Below w.heap.size w (w.alloc (.cells #[.int .i64 0, .int .i64 1] 3)).drew from ((Below.refl w.heap.size w).alloc (Nat.le_refl _) _).drew)
  have X0 := Lib.hid (show IBlk (w.alloc (.cells #[.int .i64 0, .int .i64 1] 3)).drew w.heap.size [0, 1] from (iblk_list w [0, 1] (fi_append (fi_one (by unfold In64; decide)) (fi_one (by unfold In64; decide)))).drew)
  obtain ⟨w6, hmk6, hk6, hb6⟩ := make_run (w.alloc (.cells #[.int .i64 0, .int .i64 1] 3)).drew d (by omega)
  have eg : (w.alloc (.cells #[.int .i64 0, .int .i64 1] 3)).drew.heap.size = w.heap.size + 1 := by simp
  have HB6 := Lib.hid (below_to WB.out hb6)
  have X6 := Lib.hid (X0.out.below hb6)
  rw [eg] at hk6
  have HK6 := Lib.hid hk6
  clear hk6 hb6 eg
  go_region_law (first
    | (go_simp; go_at_call 66; (with_reducible refine (RS.out w6 HB6.out).mono ?_); rintro e w5 ⟨gm, bs, rfl, hrb, hb5⟩; have HNE := Lib.hid (show w.heap.size + 1 ≠ gm ∧ ∀ i, i < d → w.heap.size + 1 ≠ bs i from by { have h1 := HK6.out.lt; have h2 := hrb.ge; exact ⟨by omega, fun i hi => by have := hrb.gt i hi; omega⟩ }); have HGE := Lib.hid (show w.heap.size < w.heap.size + 1 by omega); have HRB := Lib.hid hrb; have HKF := Lib.hid (HK6.out.below hb5); have HBF := Lib.hid (below_to HB6.out hb5); have HXF := Lib.hid (X6.out.below hb5); obtain ⟨g7, hg7⟩ : ∃ g, w.heap.size + 1 = g := ⟨_, rfl⟩; rw [hg7] at HNE HGE HKF ⊢; clear hrb hb5 hg7)
    | (go_simp; go_at_call 66; (with_reducible refine (RS.out _ WB.out).mono ?_); rintro e w4 ⟨gm, bs, rfl, hrb, hb5⟩; obtain ⟨w5, hmk5, hk5, hb7⟩ := make_run w4 d (by omega); have HNE := Lib.hid (show w4.heap.size ≠ gm ∧ ∀ i, i < d → w4.heap.size ≠ bs i from by { have h1 := hrb.gmlt; exact ⟨by omega, fun i hi => by have := hrb.rlt hi; omega⟩ }); have HGE := Lib.hid (show w.heap.size < w4.heap.size from (X0.out.below hb5).lt); have HRB := Lib.hid (hrb.below hb7); have HKF := Lib.hid hk5; have HBF := Lib.hid (below_to (below_to WB.out hb5) hb7); have HXF := Lib.hid ((X0.out.below hb5).below hb7); obtain ⟨g7, hg7⟩ : ∃ g, w4.heap.size = g := ⟨_, rfl⟩; rw [hg7] at HNE HGE HKF hmk5; clear hrb hb5 hk5 hb7 hg7)
    | fail)
  all_goals
    have RL := Lib.hid (rem_pol (a := Xs) PR.out HL.out (xs_fini p))
    have RE := Lib.hid (gRest (some ⟨w.heap.size, 0, none⟩) A 2 2 (d + 1) c [0, 1] xs p w5 (HT.out.below HBF.out) (HXF.out.sl (by decide)) (H.out.below HBF.out) IP.out (by omega) (by omega))
    rw [cf_01] at RE
    clear RS WB X0 HB6 X6 HK6 hmk6
    go_wp2_with (first
      | (go_at_call 57; (with_reducible refine RE.out.mono ?_); rintro e w8 ⟨C8, m8, d8, rfl, hg8, -⟩; have hm8 : m8 ≤ d := (by have := hg8.isl.len; have := RL.out.2; omega); have IR8 := Lib.hid hg8.isl; have K8 := Lib.hid (HKF.out.below hg8.bel); have M8 := Lib.hid (HRB.out.below hg8.bel); have B8 := Lib.hid (below_to HBF.out hg8.bel); have X8 := Lib.hid (HXF.out.below hg8.bel); clear hg8)
      | ((with_reducible refine wpList_copy_ints _ rfl (.tmp 20) (.tmp 24) rfl g7 d d C8 m8 d8 rfl rfl (List.replicate d 0) _ K8.out IR8.out hm8 (by simp; exact hm8) ?_); intro w9 hk9 hg9; have K9 := Lib.hid hk9; have M9 := Lib.hid (M8.out.grownF hg9 HNE.out.1 HNE.out.2); have B9 := Lib.hid (below_grown B8.out (Nat.le_of_lt HGE.out) hg9); have X9 := Lib.hid (X8.out.grown hg9 (Nat.ne_of_lt HGE.out)); clear hk9 hg9)
      | fail)
    have hkl : (remL p Xs (cf xs) ++ (List.replicate d 0).drop m8).length = d := by
      have := IR8.out.len
      rw [List.length_append, ← this]
      simp; omega
    have IS9 := Lib.hid (show ISl w9 (some ⟨g7, 0, none⟩) d d (remL p Xs (cf xs) ++ (List.replicate d 0).drop m8) from by have := K9.out.sl (by rw [hkl]; omega); rwa [hkl] at this)
    have DR9 := Lib.hid (dgR_start (r := remL p Xs (cf xs) ++ (List.replicate d 0).drop m8) PR.out HL.out (by rw [drop_rep, cf_pad]; exact Ser.Eq.refl _ _))
    generalize remL p Xs (cf xs) ++ (List.replicate d 0).drop m8 = R0 at *
    have MAT := Lib.hid (ras_mat M9.out (by omega))
    have H9 := Lib.hid (H.out.below B9.out)
    have T9 := Lib.hid (HT.out.below B9.out)
    have XX := Lib.hid (fun W (hb : Below w9.heap.size w9 W) => (show ISl W (some ⟨w.heap.size, 0, none⟩) 2 2 [0, 1] from (X9.out.sl (by decide)).below hb))
    have AP := Lib.hid (fun W (hb : Below w9.heap.size w9 W) (R : Option Addr) (cr : Nat) (r : List Int) (hi : ISl W R d cr r) (h0 : 0 < d) => fApplyNew (some ⟨gm, 0, none⟩) d d (rasM p xs d) R d cr r p W (T9.out.below hb) (MAT.out.below hb) hi IP.out (rasM_ok PR.out xs r hd hi.len.symm) h0)
    clear K9 hkl HNE HGE HRB HKF HBF HXF RE RL M9 M8 K8 X8 B8 X9 IR8 MAT
    go_loopw [5, 7, 9, 28] (fun vp vl vr vi wr => ∃ (t : Nat) (R : Option Addr) (cr : Nat) (r : List Int) (L : Option Addr) (nl cl : Nat) (left : List Int) (D : List (List Int)), vi = .int .i64 (t : Int) ∧ vr = .slice R d cr ∧ vl = .slice L nl cl ∧ t ≤ d ∧ Hid (DgM p xs d w9 wr t R cr r L nl cl left vp D)) (fun _ _ _ vi _ => d - (intOf vi).toNat)
    case atStart => exact ⟨0, _, d, R0, A, d + 1, c, xs, [], rfl, rfl, rfl, Nat.zero_le _, Lib.hid ⟨IS9.out, H9.out, .inr fun b o s e e2 => (by cases e2), DR9.out, dgL_start HX.out, GAt.nil _ _, rfl, fun j hj => absurd hj (Nat.not_lt_zero _), fun j hj => absurd hj (Nat.not_lt_zero _), Below.refl _ _⟩⟩
    case round =>
      obtain ⟨t, R, cr, r, L, nl, cl, left, D, rfl, rfl, rfl, ht, TT⟩ := hrel
      obtain ⟨wo, rfl⟩ : ∃ wo, wo = wr := ⟨wr, rfl⟩
      clear IS9 DR9
      by_cases hlt : t < d
      · have nl9 : nl ≤ 65 := by
          have h1 := TT.out.il.len
          have h2 := TT.out.ll.len PR.out HX.out
          have h3 := H.out.len
          omega
        have A1 := Lib.hid (AP.out wo TT.out.be R cr r TT.out.ir (by omega))
        have DR1 := Lib.hid (TT.out.rr.next PR.out HL.out)
        obtain ⟨r1, hr1⟩ : ∃ r1, appL p (rasM p xs d) r d = r1 := ⟨_, rfl⟩
        rw [hr1] at A1 DR1
        have RND := Lib.hid (dg_round PR.out HX.out HS.out DR1.out TT.out.ll)
        obtain ⟨pr, hpr⟩ : ∃ pr, bezG p (cf (polL p (dif (cf r1) Xs))) (cf left) = pr := ⟨_, rfl⟩
        have HPR := Lib.hid hpr
        rw [hpr] at RND
        have i1 : (t : Int) < (d : Int) := by omega
        have D9 : D.length ≤ 64 := by have := TT.out.dl; omega
        clear hr1 hpr
        go_wp2_with (first
          | (go_at_call 69; (with_reducible refine A1.out.mono ?_); rintro e w10 ⟨g10, hg10, rfl, hi10, hb10⟩; have G10 := Lib.hid hg10; have I10 := Lib.hid hi10; have B10 := Lib.hid hb10; have BW10 := Lib.hid (below_to TT.out.be hb10); have MN := Lib.hid (gMinus (some ⟨g10, 0, none⟩) (some ⟨w.heap.size, 0, none⟩) d d 2 2 r1 [0, 1] p w10 (T9.out.below BW10.out) I10.out (XX.out w10 BW10.out) IP.out (by omega) (by omega)); clear hg10 hi10 hb10)
          | (go_at_call 71; (with_reducible refine MN.out.mono ?_); rintro e w11 ⟨C11, m11, d11, rfl, hg11⟩; have I11 := Lib.hid (show ISl w11 C11 m11 d11 (polL p (dif (cf r1) Xs)) from by { have h := hg11.isl; rw [cf_01] at h; exact h }); have m119 : m11 ≤ 1000 := (by have := hg11.2.1; omega); have B11 := Lib.hid (below_to B10.out hg11.bel); have BW11 := Lib.hid (below_to BW10.out hg11.bel); have GC := Lib.hid (gGcd C11 L m11 d11 nl cl (polL p (dif (cf r1) Xs)) left p w11 (T9.out.below BW11.out) I11.out (TT.out.il.below B11.out) IP.out m119 (by omega)); have I101 := Lib.hid (I10.out.below hg11.bel); clear hg11)
          | (go_at_call 70; (with_reducible refine GC.out.mono ?_); rintro e w12 ⟨C12, m12, d12, rfl, hg12, hf12⟩; have I12 := Lib.hid (show ISl w12 C12 m12 d12 pr from by { have h := hg12.isl; rw [HPR.out] at h; exact h }); have F12 := Lib.hid hf12; have B12 := Lib.hid (below_to B11.out hg12.bel); have BW12 := Lib.hid (below_to BW11.out hg12.bel); have I102 := Lib.hid (I101.out.below hg12.bel); have L12 := Lib.hid (TT.out.il.below B12.out); have A12 := Lib.hid (apo_new (xs := pr) TT.out.gt B11.out.size F12.out); have A10 := Lib.hid (apo_new (C := some ⟨g10, 0, none⟩) (xs := r1) TT.out.gt (Nat.le_refl _) (fun b o s e => by { simp only [Option.some.injEq, Addr.mk.injEq] at e; have := G10.out; omega })); clear hg12 hf12)
          | (at_builtin; refine gwpList_appG _ rfl (.tmp 44) (.tmp 46) rfl w9.heap.size _ D rfl ((TT.out.gt.below B12.out).below (bel_al w12 _)) w12.heap.size rfl C12 m12 d12 (vblk_list w12 [.slice C12 m12 d12] (fun v hv => by { rw [List.mem_singleton.1 hv]; exact ⟨_, _, _, rfl⟩ })) pr (isl_alloc I12.out _) A12.out (by omega) (Nat.le_trans BW12.out.size (bel_al w12 _).size) ?_; intro v13 w13 hgt13 hb13 hgr13; have GT13 := Lib.hid hgt13; have I13 := Lib.hid ((isl_alloc I102.out _).grownO hgr13 A10.out); have L13 := Lib.hid ((isl_alloc L12.out _).grownO hgr13 TT.out.la); have C13 := Lib.hid ((isl_alloc I12.out _).grownO hgr13 A12.out); have BW13 := Lib.hid ((BW12.out.alloc BW12.out.size _).trans hb13); have QU := Lib.hid (gQuo L C12 nl cl m12 d12 left pr p w13 (T9.out.below BW13.out) L13.out C13.out IP.out (by omega) (by have h1 := RND.out.2.2; have h2 := C13.out.len; have h3 := TT.out.il.len; omega)); clear hgt13 hb13 hgr13)
          | (go_at_call 72; (with_reducible refine QU.out.mono ?_); rintro e w14 ⟨C14, m14, d14, rfl, hg14, hf14⟩; have Q14 := Lib.hid hg14.isl; have B14 := Lib.hid hg14.bel; have F14 := Lib.hid hf14; clear hg14 hf14)
          | fail)
        have DL := TT.out.dl
        exact ⟨⟨t + 1, _, d, r1, C14, m14, d14, _, D ++ [pr], by go_num, rfl, rfl, by omega, Lib.hid ⟨I13.out.below B14.out, Q14.out, apo_new GT13.out (Nat.le_refl _) F14.out, DR1.out, RND.out.2.1, GT13.out.below B14.out, by rw [List.length_append, DL]; rfl, dg_snoc TT.out.dg (by rw [DL]; exact RND.out.1), dg_snoc (P := fun _ ys => ys.length ≤ 65) TT.out.sh (by have h1 := RND.out.2.2; have h3 := TT.out.il.len; omega), below_to BW13.out B14.out⟩⟩, by simp [intOf]; omega⟩
      · obtain rfl : t = d := by omega
        obtain ⟨A5, c5, rfl, hm5⟩ := TT.out.gt.mat
        have M5 := Lib.hid hm5
        clear hm5
        go_wp2_with fail
        go_ret
        exact ⟨D, A5, c5, rfl, M5.out, TT.out.dl, TT.out.dg, TT.out.sh, below_to B9.out TT.out.be⟩
set_option maxRecDepth 100000 in
set_option maxHeartbeats 1000000 in
theorem gDegOk (A : Option Addr) (n c : Nat) (xs : List Int) (p : Int) (w : World) (hT : TabAt w) (h : ISl w A n c xs) (ip : In64 p) (hn : n ≤ 17592186044416) (h0 : eff p (cf xs) = 0) (hs : Sqf p (monL p (cf xs))) :
    Calls Tryz.prog 15 #[.slice A n c, .int .i64 p] w fun e w' => ∃ D A' c', e = .returned (.tuple #[.slice A' D.length c', .int .i64 0]) ∧ MatAt w' A' D.length c' D ∧ D.length + 1 = (monL p (cf xs)).length ∧ (∀ j, j < D.length → IsDg p (monL p (cf xs)) (j + 1) (D.getD j [])) ∧ (∀ j, j < D.length → (D.getD j []).length ≤ 65) ∧ Below w.heap.size w w' := by
  have CC := Lib.hid (gSqOk A n c xs p w hT h ip hn h0 hs)
  obtain ⟨hp, _, hm, hl⟩ := eff_mn h0
  have HT := Lib.hid hT
  have PR := Lib.hid hp
  have HM := Lib.hid hm
  have HL := Lib.hid hl
  have HS := Lib.hid hs
  clear hT h ip hn h0 hs hp hm hl
  generalize monL p (cf xs) = mo at *
  obtain ⟨d, hd⟩ : ∃ d, mo.length = d + 1 := ⟨mo.length - 1, by have := HM.out.pos; omega⟩
  have HD := Lib.hid hd
  clear hd
  go_enter Tryz.func15, Tryz.ntmps15
  go_wp2_with (first
    | (go_at_call 39; (with_reducible refine CC.out.mono ?_); rintro e w1 ⟨C, m, d1, rfl, hi, hb⟩; obtain rfl : m = d + 1 := (by rw [hi.len, HD.out]); have HB := Lib.hid hb; have S2 := Lib.hid (gDegs C d1 d mo p w1 (HT.out.below hb) hi PR.out HM.out HS.out (by have h1 := HD.out; have h2 := HL.out; omega)); clear hb hi)
    | (go_at_call 41; (with_reducible refine S2.out.mono ?_); rintro e w2 ⟨D, A2, c2, rfl, hm2, hl2, hd2, hs2, hb2⟩; have HM2 := Lib.hid hm2; have HL2 := Lib.hid hl2; have HD2 := Lib.hid hd2; have HS2 := Lib.hid hs2; have HB2 := Lib.hid (below_to HB.out hb2); clear hm2 hl2 hd2 hs2 hb2)
    | fail)
  go_ret2
  exact ⟨D, A2, c2, rfl, HM2.out, by rw [HL2.out, HD.out], HD2.out, HS2.out, HB2.out⟩
end Go.Proofs.YtnkhhndjbanmnaaGreatDoor

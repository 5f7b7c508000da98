/- Texts joined, in their order: FacU, FacV, BerG. -/
import Derived.Test.YtnkhhndjbanmnaaGreatDoorMn27
import Derived.Test.YtnkhhndjbanmnaaGreatDoorMn39
import Derived.Test.YtnkhhndjbanmnaaGreatDoorMn40

/- ffac.Factors by contract. -/
namespace Go.Proofs.YtnkhhndjbanmnaaGreatDoor
open Go.RowKit Go.Shelf Go.Lib

theorem IsParts.few {p : Int} {m : List Int} {L : PL} (hp : Pr p) (hm : Mn p m) (hL : IsParts p m L) : L.length ≤ m.length := by
  have h1 := nodup_le m.length _ (hL.up.imp fun hij => Nat.ne_of_lt hij) (fun x hx => by
    obtain ⟨y, hy, rfl⟩ := List.mem_map.1 hx
    obtain ⟨_, ho, hne⟩ := hL.own y hy
    obtain ⟨q, hq, hv⟩ := own_some hp ho hne
    have := hm.V_lt hp hq
    omega)
  rwa [List.length_map] at h1
theorem own_len {p : Int} {m P : List Int} {N : Nat} (hp : Pr p) (hm : Mn p m) (hN : 1 ≤ N) (h : IsOwn p m N P) : P.length ≤ m.length := h.1.len_le hp hm fun q hq => by
  rw [h.2 q hq]; split <;> omega
theorem irr_len {p : Int} {m f : List Int} (hp : Pr p) (hm : Mn p m) (hf : Mn p f) (hi : Irr p (cf f)) (hv : 1 ≤ V p (cf m) (cf f)) : f.length ≤ m.length := hf.len_le hp hm fun _ hq => V_le hp hq hf.last hm.last ((V_pos hp hi hm.last).2 hv)
theorem ptyF : PTy 26 49 := ⟨Tryz.underlying26, by kernel_rfl⟩

/-! Append, told by what it leaves. -/
theorem prun_app_g {S T : TypeId} (ht : PTy S T) (w : World) (ty : TypeId) (B : Nat) (v : Value) (Z : List Pt) (hown : POw T w B v Z) (g c : Nat) (z : Pt) (h0 : w.cell? ⟨g, 0, none⟩ = some z.sl) (h1 : w.cell? ⟨g, 1, none⟩ = some z.nv)
    (hL : ISl w z.A z.n z.c z.xs) (ha : ApO z.A z.xs v.ownBlock) (hmax : Z.length ≤ 1000000) (hB : B ≤ w.heap.size) :
    ∃ v' w', (Builtin.append_ #[S, S] ty #[v, .slice (some ⟨g, 0, none⟩) 1 c]).run Tryz.prog w = .ok v' w' ∧ POw T w' B v' (Z ++ [z]) ∧ w.grownBy w' v.ownBlock ∧ (v'.ownBlock = v.ownBlock ∨ v'.ownBlock = some w.heap.size) := by
  obtain ⟨i0, hi, hz0, hz1, hz2⟩ := info_parts ht.i
  have hcells : ∀ j u, (z.enc)[j]? = some u → w.cell? ((⟨g, 0, none⟩ : Addr).add j) = some u := by
    intro j u hj
    rw [iadd_add ⟨g, 0, none⟩ j g 0 rfl, Nat.zero_add]
    match j, hj with
    | 0, hj => simp only [Pt.enc, List.getElem?_cons_zero] at hj; rw [h0, hj]
    | 1, hj => simp only [Pt.enc, List.getElem?_cons_succ, List.getElem?_cons_zero] at hj; rw [h1, hj]
    | k + 2, hj => simp [Pt.enc] at hj
  obtain ⟨v', w', hrun, h2, h3, _, h5⟩ := run_append_own_at (P := Tryz.prog) w B S ty T i0 _ 2 32 ht.u hi hz0 hz1 hz2 rfl (by decide) v Z.length (pvals Z) hown.1 ⟨g, 0, none⟩ 1 c z.enc
    rfl hcells (by intro u hu; simp only [Pt.enc, List.mem_cons, List.not_mem_nil, or_false] at hu; rcases hu with rfl | rfl <;> rfl) (by unfold maxLen; omega) (by omega) hB
  refine ⟨v', w', hrun, ⟨?_, fun y hy => ?_⟩, h3, h5⟩
  · rw [List.length_append, pvals_append]
    exact h2
  · rcases List.mem_append.1 hy with hy | hy
    · obtain ⟨k1, k2⟩ := hown.2 y hy
      exact ⟨k1.grownO h3 k2, k1.apO k2 h5⟩
    · rw [List.mem_singleton.1 hy]
      exact ⟨hL.grownO h3 ha, hL.apO ha h5⟩
theorem pwpList_g {S T : TypeId} (ht : PTy S T) {ops : Array Oper} {rest : List Oper} {o : Oper} {a : Act} {Q : Exit → Act → World → Prop} (w : World) (hgd : o.guard = none) (s x : Operand) (ho : o.op = .call { callee := .builtin .append, args := #[s, x], argTypes := #[S, S] })
    (B : Nat) (v : Value) (Z : List Pt) (hs : a.eval s = v) (hown : POw T w B v Z) (g c : Nat) (hx : a.eval x = .slice (some ⟨g, 0, none⟩) 1 c) (z : Pt) (h0 : w.cell? ⟨g, 0, none⟩ = some z.sl) (h1 : w.cell? ⟨g, 1, none⟩ = some z.nv)
    (hL : ISl w z.A z.n z.c z.xs) (ha : ApO z.A z.xs v.ownBlock) (hmax : Z.length ≤ 1000000) (hB : B ≤ w.heap.size)
    (h : ∀ v' w', POw T w' B v' (Z ++ [z]) → w.grownBy w' v.ownBlock → (v'.ownBlock = v.ownBlock ∨ v'.ownBlock = some w.heap.size) → wpList Tryz.prog ops Q rest (a.put o.dst v') w') : wpList Tryz.prog ops Q (o :: rest) a w :=
  wpList_plain hgd fun _ hK => by
    obtain ⟨v', w', hrun, h2, h3, h4⟩ := prun_app_g ht w o.type B v Z hown g c z h0 h1 hL ha hmax hB
    have hk := hK _ _ (h v' w' h2 h3 h4)
    unfold Oper.wp execOp
    simp only [ho, resolve, invoke, builtin, Sem.run_bind, Sem.run_pure, Result.andThen_ok, List.map_toArray, List.map_cons, List.map_nil, hs, hx, hrun]
    exact hk

/-- Rows that are read, apart from another row. -/
def SAp (w : World) (A : Option Addr) (M : List (List Int)) (row : Option Nat) : Prop :=
  0 < M.length → ∃ b o, A = some ⟨b, o, none⟩ ∧ b < w.heap.size ∧ some b ≠ row ∧ ∀ i, i < M.length → ∃ C k d, w.cell? ⟨b, o + i, none⟩ = some (.slice C k d) ∧ ISl w C k d (M.getD i []) ∧ M.getD i [] ≠ [] ∧ ApB C row
theorem SAp.below {w w' : World} {A : Option Addr} {M : List (List Int)} {row : Option Nat} (h : SAp w A M row) (hb : Below w.heap.size w w') : SAp w' A M row := fun h0 => by
  obtain ⟨b, o, e, hlt, hne, hr⟩ := h h0
  refine ⟨b, o, e, Nat.lt_of_lt_of_le hlt hb.size, hne, fun i hi => ?_⟩
  obtain ⟨C, k, d, e1, e2, e3⟩ := hr i hi
  exact ⟨C, k, d, (hb.cell (p := ⟨b, o + i, none⟩) hlt).trans e1, e2.below hb, e3⟩
theorem SAp.step {w w' : World} {A : Option Addr} {M : List (List Int)} {row row' : Option Nat} (h : SAp w A M row) (hg : w.grownBy w' row) (h5 : row' = row ∨ row' = some w.heap.size) : SAp w' A M row' := fun h0 => by
  obtain ⟨b, o, e, hlt, hne, hr⟩ := h h0
  refine ⟨b, o, e, Nat.lt_of_lt_of_le hlt hg.size, ?_, fun i hi => ?_⟩
  · rcases h5 with rfl | rfl
    · exact hne
    · intro e2; simp only [Option.some.injEq] at e2; omega
  · obtain ⟨C, k, d, e1, e2, e3, e4⟩ := hr i hi
    exact ⟨C, k, d, (World.cell?_of_block (w := w) (hg.block b hlt hne)).trans e1, e2.grownO hg (e4.apO _), e3, e4.step e2 e3 h5⟩
theorem FacAt.sap {w0 w : World} {bx : Nat} {ox : Option Nat} {v : Value} {F : List (List Int)} (h : FacAt ox w bx v F) (hf : FreshV w0 v) (hox : ∀ k, ox = some k → k < w0.heap.size) : ∃ A c, v = .slice A F.length c ∧ F.length ≤ c ∧ c ≤ 9223372036854775807 ∧ SAp w A F ox := by
  obtain ⟨A, c, e, h1, h2, h3⟩ := h.open_
  refine ⟨A, c, e, h1, h2, fun h0 => ?_⟩
  obtain ⟨b, o, e2, hlt, _, _, hr⟩ := h3 h0
  refine ⟨b, o, e2, hlt, fun e3 => ?_, fun i hi => ?_⟩
  · have h4 := hf _ _ _ e b o none e2
    have h5 := hox b e3.symm
    omega
  · obtain ⟨C, k, d, e4, e5, e6, _⟩ := hr i hi
    exact ⟨C, k, d, e4, e5, e6.1, e6.2⟩

/-- Between two parts. -/
structure OJ (p : Int) (mo : List Int) (w wr : World) (A : Option Addr) (n c : Nat) (Z : List Pt) (v : Value) (j : Nat) (Y : List Pt) : Prop where
  own : POw 49 wr w.heap.size v Y
  ft : FacT p mo (pls Z) j (pls Y)
  rd : PRd wr A n c Z
  ap : ∀ z ∈ Z, ApO z.A z.xs v.ownBlock
  apA : Z = [] ∨ ApB A v.ownBlock
  be : Below w.heap.size w wr
  few : Y.length ≤ 65 * j
/-- Between two factors of a part. -/
structure IJ (w wr : World) (A : Option Addr) (n c : Nat) (Z : List Pt) (v : Value) (Y : List Pt) (L : PL) (N : Nat) (Af : Option Addr) (F : List (List Int)) (bp t : Nat) : Prop where
  own : POw 49 wr w.heap.size v Y
  ys : pls Y = L ++ (F.take t).map fun f => (f, N)
  rd : PRd wr A n c Z
  ap : ∀ z ∈ Z, ApO z.A z.xs v.ownBlock
  apA : Z = [] ∨ ApB A v.ownBlock
  be : Below w.heap.size w wr
  sa : SAp wr Af F v.ownBlock
  pb : wr.cell? ⟨bp, 1, none⟩ = some (.int .i64 (N : Int))
  pl : bp < wr.heap.size
  pn : some bp ≠ v.ownBlock
theorem IJ.next {w wr w' : World} {A : Option Addr} {n c : Nat} {Z : List Pt} {v v' : Value} {Y : List Pt} {L : PL} {N : Nat} {Af : Option Addr} {F : List (List Int)} {bp t : Nat} (h : IJ w wr A n c Z v Y L N Af F bp t) (ht : t < F.length) {C : Option Addr} {k d : Nat} (ho : POw 49 w' w.heap.size v' (Y ++ [⟨C, k, d, F.getD t [], N⟩])) (hg : wr.grownBy w' v.ownBlock) (h5 : v'.ownBlock = v.ownBlock ∨ v'.ownBlock = some wr.heap.size) : IJ w w' A n c Z v' (Y ++ [⟨C, k, d, F.getD t [], N⟩]) L N Af F bp (t + 1) := by
  have hz : Z = [] → PRd w' A n c Z ∧ (∀ z ∈ Z, ApO z.A z.xs v'.ownBlock) ∧ (Z = [] ∨ ApB A v'.ownBlock) := fun e => by
    subst e
    exact ⟨⟨h.rd.1, h.rd.2.1, h.rd.2.2.1, fun z hz => (List.not_mem_nil hz).elim, .inl rfl⟩, fun z hz => (List.not_mem_nil hz).elim, .inl rfl⟩
  obtain ⟨a1, a2, a3⟩ := h.apA.elim hz fun ha => keep_prd hg h5 h.rd h.ap ha
  refine ⟨ho, ?_, a1, a2, a3, ?_, h.sa.step hg h5, (World.cell?_of_block (w := wr) (hg.block bp h.pl h.pn)).trans h.pb, Nat.lt_of_lt_of_le h.pl hg.size, ?_⟩
  · rw [pls_append, h.ys, take_snocL ht, List.map_append, List.append_assoc]; rfl
  · exact h.be.grown hg h.be.size h.own.lt
  · rcases h5 with e | e
    · rw [e]; exact h.pn
    · rw [e]; intro e2; have := h.pl; simp only [Option.some.injEq] at e2; omega
theorem IJ.below {w wr w' : World} {A : Option Addr} {n c : Nat} {Z : List Pt} {v : Value} {Y : List Pt} {L : PL} {N : Nat} {Af : Option Addr} {F : List (List Int)} {bp t : Nat} (h : IJ w wr A n c Z v Y L N Af F bp t) (hb : Below wr.heap.size wr w') : IJ w w' A n c Z v Y L N Af F bp t :=
  ⟨h.own.below hb, h.ys, h.rd.below hb, h.ap, h.apA, below_to h.be hb, h.sa.below hb, (hb.cell (p := ⟨bp, 1, none⟩) h.pl).trans h.pb, Nat.lt_of_lt_of_le h.pl hb.size, h.pn⟩
theorem ApO.apB {A : Option Addr} {xs : List Int} {row : Option Nat} (h : ApO A xs row) (hx : xs ≠ []) : ApB A row := h.elim (fun e => absurd e hx) id
theorem OJ.start {p : Int} {mo : List Int} {w wr w' : World} {A : Option Addr} {n c : Nat} {Z : List Pt} {v : Value} {j : Nat} {Y : List Pt} (h : OJ p mo w wr A n c Z v j Y) (hb : Below wr.heap.size wr w') {N bp : Nat} {Af : Option Addr} {F : List (List Int)} (sa : SAp w' Af F v.ownBlock) (pb : w'.cell? ⟨bp, 1, none⟩ = some (.int .i64 (N : Int))) (pl : bp < w'.heap.size) (hbp : wr.heap.size ≤ bp) : IJ w w' A n c Z v Y (pls Y) N Af F bp 0 :=
  ⟨h.own.below hb, by simp, h.rd.below hb, h.ap, h.apA, below_to h.be hb, sa, pb, pl, fun e => by have := (h.own.1.lt bp e.symm).2; omega⟩
theorem IJ.done {p : Int} {mo : List Int} {w wr wr0 : World} {A : Option Addr} {n c : Nat} {Z : List Pt} {v v0 : Value} {j N bp : Nat} {Y Y0 : List Pt} {Af : Option Addr} {F : List (List Int)} (hp : Pr p) (h0 : OJ p mo w wr0 A n c Z v0 j Y0) (h : IJ w wr A n c Z v Y (pls Y0) N Af F bp F.length) (hL : IsParts p mo (pls Z)) (hj : j < Z.length) (hN : Z[j].N = N) (hF : Facs p Z[j].xs F) (hl : F.length ≤ 65) : OJ p mo w wr A n c Z v (j + 1) Y := by
  have e : (pls Z)[j]'(by rw [pls_length]; exact hj) = Z[j].pl := by unfold pls; rw [List.getElem_map]
  have hy := h.ys
  rw [List.take_length] at hy
  refine ⟨h.own, ?_, h.rd, h.ap, h.apA, h.be, ?_⟩
  · rw [hy]
    have := h0.ft.next hp hL (by rw [pls_length]; exact hj) (F := F) (by rw [e]; exact hF)
    rw [e] at this
    rw [← hN]
    exact this
  · have := congrArg List.length hy
    rw [pls_length, List.length_append, pls_length, List.length_map] at this
    have := h0.few
    omega
end Go.Proofs.YtnkhhndjbanmnaaGreatDoor

/- ffac.Factors by contract: the call. -/
namespace Go.Proofs.YtnkhhndjbanmnaaGreatDoor
open Go.RowKit Go.Shelf Go.Lib

set_option maxRecDepth 100000 in
set_option maxHeartbeats 1000000 in
theorem gFacsNo (A D : Option Addr) (n c nd cd : Nat) (xs : List Int) (p : Int) (w : World) (hT : TabAt w) (h : ISl w A n c xs) (ip : In64 p) (hn : n ≤ 17592186044416) (h0 : eff p (cf xs) ≠ 0) :
    Calls Tryz.prog 12 #[.slice A n c, .int .i64 p, .slice D nd cd] w fun e w' => e = .returned (.tuple #[nilv, .int .i64 (eff p (cf xs))]) ∧ Below w.heap.size w w' := by
  have CC := Lib.hid (gMon A n c xs p w hT h ip hn)
  have H0 : Hid ((eff p (cf xs) == 0) = false) := Lib.hid (by simpa using h0)
  generalize eff p (cf xs) = u at *
  clear hT h ip hn
  go_enter Tryz.func12, Tryz.ntmps12
  go_wp2_with (go_at_call 31; (with_reducible refine CC.out.mono ?_); rintro e w1 ⟨C, m, d, rfl, hg⟩; have HB := Lib.hid hg.bel; clear hg)
  go_ret2
  exact ⟨rfl, HB.out⟩
theorem sort0F (A : Option Addr) (c : Nat) (w : World) :
    Calls Tryz.prog 34 #[.slice A 0 c, .func (.func 35) #[] #[]] w fun e w' => e = .returned (.tuple #[]) ∧ w' = w :=
  AnyF.slices_SortFunc_none Tryz.sortFac A c _ w
set_option maxRecDepth 100000 in
set_option maxHeartbeats 4000000 in
theorem gFacsOk (A D : Option Addr) (n c nd cd : Nat) (xs ds : List Int) (p : Int) (w : World) (hT : TabAt w) (h : ISl w A n c xs) (hD : ISl w D nd cd ds) (ip : In64 p) (hn : n ≤ 17592186044416) (h0 : eff p (cf xs) = 0) :
    Calls Tryz.prog 12 #[.slice A n c, .int .i64 p, .slice D nd cd] w fun e w' => ∃ A' k c' Z, e = .returned (.tuple #[.slice A' k c', .int .i64 0]) ∧ PRd w' A' k c' Z ∧ FacN p (monL p (cf xs)) (pls Z) ∧ Below w.heap.size w w' := by
  have CC := gMon A n c xs p w hT h ip hn
  obtain ⟨hp, hb, hm, hl⟩ := eff_mn h0
  rw [h0, okL_yes h0] at CC
  have CM := Lib.hid CC
  have HT := Lib.hid hT
  have HD := Lib.hid hD
  have PR := Lib.hid hp
  have HM := Lib.hid hm
  have HL := Lib.hid hl
  have MS := Lib.hid (monL_self hp hm)
  have MZ := Lib.hid hm.nz
  have hcl := hD.le
  have hcm := hD.max
  clear hT h hD ip hn h0 hp hm hl CC hb
  generalize monL p (cf xs) = mo at *
  go_enter Tryz.func12, Tryz.ntmps12
  go_wp2_with (first
    | (go_at_call 31; (with_reducible refine CM.out.mono ?_); rintro e w1 ⟨C, m, d, rfl, hg⟩; have HB := Lib.hid hg.bel; have S2 := Lib.hid (fPartsOk C m d mo p w1 (HT.out.below hg.bel) hg.isl PR.out.md.in64 (by have := hg.isl.len; have := HL.out; omega) PR.out MZ.out); clear hg)
    | (go_at_call 32; (with_reducible refine S2.out.mono ?_); rintro e w2 ⟨Ap, kp, cp, Z, rfl, hr, hpt, hb⟩; rw [MS.out] at hpt; have HR := Lib.hid hr; have HP := Lib.hid hpt; have HB2 := Lib.hid (below_to HB.out hb); clear hr hpt hb)
    | fail)
  have hkl := HR.out.le
  have hkm := HR.out.max
  have HK := Lib.hid HR.out.len
  have FW : Hid (kp ≤ 65) := Lib.hid (by have := HP.out.few PR.out HM.out; rw [pls_length, ← HK.out] at this; have := HL.out; omega)
  have O0 : Hid (OJ p mo w w2 Ap kp cp Z nilv 0 []) := Lib.hid ⟨POw.nil _ _ _, facT_start _ _ _, HR.out, fun z hz => .inr fun b o s _ e => (by cases e), .inr fun b o s _ e => (by cases e), HB2.out, by simp⟩
  go_loopw [12, 34] (fun v i wr => ∃ (j : Nat) (Y : List Pt), j ≤ kp ∧ i = .int .i64 (j : Int) ∧ Hid (OJ p mo w wr Ap kp cp Z v j Y)) (fun _ i _ => kp - (intOf i).toNat)
  case atStart => exact ⟨0, [], Nat.zero_le _, rfl, O0⟩
  case round =>
    obtain ⟨j, Y, hj, rfl, OO⟩ := hrel
    obtain ⟨wo, rfl⟩ : ∃ wo, wo = wr := ⟨wr, rfl⟩
    by_cases hlt : j < kp
    · have hlz : j < Z.length := by rw [← HK.out]; exact hlt
      obtain ⟨b, o, rfl, hbl, hc⟩ := OO.out.rd.open_ (by omega)
      obtain ⟨c0, c1⟩ := hc j hlz
      have zin := OO.out.rd.in_ _ (List.getElem_mem hlz)
      have zap := OO.out.ap _ (List.getElem_mem hlz)
      have epl : (pls Z)[j]'(by rw [pls_length]; exact hlz) = Z[j].pl := by unfold pls; rw [List.getElem_map]
      obtain ⟨o1, o2, _⟩ := HP.out.own (Z[j].pl) (by rw [← epl]; exact List.getElem_mem _)
      have DN := fun (w' : World) (v' : Value) (Y' : List Pt) (Af : Option Addr) (F : List (List Int)) (bp N : Nat) => @IJ.done p mo w w' wo (some ⟨b, o, none⟩) kp cp Z v' u12 j N bp Y' Y Af F PR.out OO.out
      have hlen := own_len PR.out HM.out o1 o2
      have hsq := own_sqf o2
      obtain ⟨z, hz⟩ : ∃ z, Z[j] = z := ⟨_, rfl⟩
      have HZ := Lib.hid hz
      rw [hz] at c0 c1 zin zap o1 o2 hlen hsq
      obtain ⟨zA, zn, zc, zx, zN⟩ := z
      simp only [Pt.sl, Pt.nv] at c0 c1
      have zlen : zn = zx.length := zin.len
      have hz65 : zx.length ≤ 65 := Nat.le_trans hlen HL.out
      have W1 := bel_al wo (.cells #[.slice zA zn zc, .int .i64 (zN : Int)] 58)
      have SP := Lib.hid (gSplit (ox := Value.ownBlock u12) zA D zn zc nd cd zx ds p (wo.alloc (.cells #[.slice zA zn zc, .int .i64 (zN : Int)] 58)) ((HT.out.below OO.out.be).below W1) (isl_alloc zin _) ((HD.out.below OO.out.be).below W1) PR.out o2.1 hsq (by omega) (fun k e => Nat.lt_of_lt_of_le (OO.out.own.1.lt k e).2 W1.size) (zap.apB o2.1.2.1))
      have HW1 := Lib.hid W1
      have DNE := Lib.hid DN
      have FS := Lib.hid (fun F (hF : Facs p zx F) => facs_short PR.out o2.1 hF)
      have HX65 := Lib.hid hz65
      have i1 : (0 : Int) ≤ (j : Int) := by omega
      have i2 : (j : Int) < (kp : Int) := by omega
      clear hc zin zap epl o1 o2 hlen hsq hz65 W1 DN zlen
      go_wp2_with (first
        | (go_at_call 33; (with_reducible refine SP.out.mono ?_); rintro e w5 ⟨v5, F, bx, rfl, hF, hfr, hfc, hb5⟩; obtain ⟨Af, cf5, rfl, hle5, hmx5, hsa⟩ := hF.sap hfr (fun k e => Nat.lt_of_lt_of_le (OO.out.own.1.lt k e).2 HW1.out.size); have HB5 := Lib.hid hb5; have HSA := Lib.hid hsa; have HFC := Lib.hid hfc; clear hF hfr hb5 hsa hfc)
        | fail)
      obtain ⟨f5, hf5⟩ : ∃ f, F.length = f := ⟨_, rfl⟩
      have HF5 := Lib.hid hf5
      have I0 : Hid (IJ w w5 (some ⟨b, o, none⟩) kp cp Z u12 Y (pls Y) zN Af F wo.heap.size 0) := Lib.hid (OO.out.start (below_to HW1.out HB5.out) HSA.out ((HB5.out.cell (p := ⟨wo.heap.size, 1, none⟩) (by simp)).trans (by simp)) (Nat.lt_of_lt_of_le (by simp) HB5.out.size) (Nat.le_refl _))
      have YL : Hid (Y.length + 65 ≤ 100000) := Lib.hid (by have := OO.out.few; have := FW.out; omega)
      have FL : Hid (f5 ≤ 65) := Lib.hid (by have := (FS.out F HFC.out).1; rw [← hf5]; exact Nat.le_trans this HX65.out)
      rw [hf5]
      rw [hf5] at hle5
      clear hf5
      go_loopw [12, 44] (fun v i wr => ∃ (t : Nat) (Y' : List Pt), t ≤ f5 ∧ i = .int .i64 (t : Int) ∧ Hid (IJ w wr (some ⟨b, o, none⟩) kp cp Z v Y' (pls Y) zN Af F wo.heap.size t)) (fun _ i _ => f5 - (intOf i).toNat)
      case atStart => exact ⟨0, Y, Nat.zero_le _, rfl, I0⟩
      case round =>
        obtain ⟨t, Y', ht, rfl, II⟩ := hrel
        by_cases hlt2 : t < f5
        · have htf : t < F.length := by rw [HF5.out]; exact hlt2
          obtain ⟨b2, o2, rfl, hb2, -, hr2⟩ := II.out.sa (by omega)
          obtain ⟨C2, k2, d2, hc2, hi2, -, ha2⟩ := hr2 t htf
          have hpb := II.out.pb
          have hpl := II.out.pl
          have ypl : Y'.length ≤ 1000000 := by
            have h1 := congrArg List.length II.out.ys
            rw [pls_length, List.length_append, pls_length, List.length_map, List.length_take] at h1
            have := YL.out
            have := FL.out
            omega
          have YPL := Lib.hid ypl
          have HI2 := Lib.hid hi2
          have HA2 := Lib.hid ha2
          have HTF := Lib.hid htf
          have I2 := Lib.hid (II.out.below (bel_al wr (.cells #[.slice C2 k2 d2, .int .i64 (zN : Int)] 49)))
          have j1 : (0 : Int) ≤ (t : Int) := by omega
          have j2 : (t : Int) < (f5 : Int) := by omega
          clear hr2 hi2 ha2 ypl htf
          go_wp2_with (at_builtin; refine pwpList_g ptyF (wr.alloc (.cells #[.slice C2 k2 d2, .int .i64 (zN : Int)] 49)) rfl (.tmp 48) (.tmp 53) rfl w.heap.size _ _ rfl I2.out.own wr.heap.size 1 rfl ⟨C2, k2, d2, F.getD t [], zN⟩ (two_cell0 ..) (two_cell1 ..) (isl_alloc HI2.out _) (HA2.out.apO _) YPL.out I2.out.be.size ?_; intro v7 w7 ho7 hg7 h57; have I3 := Lib.hid (I2.out.next HTF.out ho7 hg7 h57); clear ho7 hg7 h57)
          go_roundw
          case rel => exact ⟨t + 1, _, by omega, by go_num, I3⟩
          case measure => simp [intOf]; omega
        · obtain rfl : f5 = t := by omega
          have OD := Lib.hid (DNE.out _ _ _ _ F _ zN (by rw [HF5.out]; exact II.out) HP.out hlz (by rw [HZ.out]) (by rw [HZ.out]; exact HFC.out) (by rw [HF5.out]; exact FL.out))
          go_wp2_with fail
          go_roundw
          case rel => exact ⟨j + 1, _, by omega, by go_num, OD⟩
          case measure => simp [intOf]; omega
    · obtain rfl : kp = j := by omega
      have DNF := Lib.hid (fun (K : List Pt) (k : K.Perm Y) (ho : K.Pairwise fun x y => ¬ Ahd y.xs x.xs) => OO.out.ft.done HP.out (K := pls K) (by rw [pls_length, ← HK.out]; exact Nat.le_refl _) (k.map _) (by unfold pls; rw [List.pairwise_map]; exact ho))
      have YF : Hid (Y.length ≤ 100000) := Lib.hid (by have := OO.out.few; have := FW.out; omega)
      obtain ⟨As, cs, rfl, hrd, hAs, hbk⟩ := OO.out.own.rd
      have hrl := hrd.le
      have hrm := hrd.max
      rcases hbk with hnil | ⟨bs, rfl, hlt2, hfz, hcl2⟩
      · subst hnil
        have RD := Lib.hid hrd
        have SC := Lib.hid (sort0F As cs wo)
        have DN0 := Lib.hid (DNF.out [] (List.Perm.refl _) List.Pairwise.nil)
        clear hrd hAs
        simp only [List.length_nil] at *
        go_wp2_with (go_at_call 34; (with_reducible refine SC.out.mono ?_); rintro e w6 ⟨rfl, rfl⟩)
        go_ret2
        exact ⟨As, 0, cs, [], rfl, RD.out, DN0.out, OO.out.be⟩
      · have SC := Lib.hid (gSortFacs bs cs Y wo hlt2 hfz hcl2 (fun z hz => ⟨OO.out.own.in_ z hz, (OO.out.own.2 z hz).2, by
          obtain ⟨a1, _, a3, a4, a5, _⟩ := OO.out.ft.own z.pl (List.mem_map.2 ⟨z, hz, rfl⟩)
          have h1 := irr_len PR.out HM.out a1 a3 (by rw [a5]; exact a4)
          have h2 : z.n = z.xs.length := (OO.out.own.in_ z hz).len
          have h3 : z.pl.1 = z.xs := rfl
          rw [h3] at h1
          have := HL.out
          omega⟩) (by have := YF.out; omega))
        have HAS := Lib.hid hAs
        clear hrd hAs hfz hcl2
        obtain ⟨yl, hyl⟩ : ∃ y, Y.length = y := ⟨_, rfl⟩
        have HYL := Lib.hid hyl
        rw [hyl] at SC hrl ⊢
        clear hyl
        go_wp2_with (go_at_call 34; (with_reducible refine SC.out.mono ?_); rintro e w6 ⟨rfl, hsr⟩; have SR := Lib.hid hsr; clear hsr)
        go_ret2
        obtain ⟨Z2, s1, s2, s3, s4⟩ := SR.out
        refine ⟨_, yl, cs, Z2, rfl, ⟨by rw [s1.length_eq]; exact HYL.out.symm, hrl, hrm, fun z hz => ?_, .inr ⟨bs, 0, rfl, Nat.lt_of_lt_of_le hlt2 s3.size, s4⟩⟩, DNF.out Z2 s1 s2, below_grown OO.out.be (HAS.out _ _ _ rfl) s3⟩
        obtain ⟨k1, k2⟩ := OO.out.own.2 z (s1.mem_iff.1 hz)
        exact k1.grownO s3 k2
end Go.Proofs.YtnkhhndjbanmnaaGreatDoor

/- Factors, and how often: their product; the document's example of layer 9. Mathematics alone. -/
namespace Go.Proofs.YtnkhhndjbanmnaaGreatDoor
open Ser (Bd)

/-! How often all of them, as often as is told, are divided. -/
noncomputable def vn (p : Int) (q : Ser) : PL → Nat
  | [] => 0
  | x :: L => x.2 * V p (cf x.1) q + vn p q L
theorem vn_append (p : Int) (q : Ser) : ∀ L K : PL, vn p q (L ++ K) = vn p q L + vn p q K
  | [], K => by rw [List.nil_append, vn, Nat.zero_add]
  | x :: L, K => by rw [List.cons_append, vn, vn, vn_append p q L K]; omega
theorem vn_none {p : Int} {q : Ser} : ∀ {L : PL}, (∀ x ∈ L, V p (cf x.1) q = 0) → vn p q L = 0
  | [], _ => rfl
  | x :: L, h => by rw [vn, h x (List.mem_cons_self ..), vn_none fun y hy => h y (List.mem_cons_of_mem _ hy)]; rfl
theorem vn_one {p : Int} {q : Ser} : ∀ {L : PL}, (L.Pairwise fun x y => x.1 ≠ y.1) → ∀ {x : List Int × Nat}, x ∈ L → V p (cf x.1) q = 1 → (∀ y ∈ L, y.1 ≠ x.1 → V p (cf y.1) q = 0) → vn p q L = x.2
  | [], _, _, h, _, _ => (List.not_mem_nil h).elim
  | z :: L, hd, x, h, h1, h2 => by
    rw [List.pairwise_cons] at hd
    rw [vn]
    rcases List.mem_cons.1 h with rfl | hx
    · rw [h1, vn_none fun y hy => h2 y (List.mem_cons_of_mem _ hy) (hd.1 y hy).symm]; omega
    · rw [h2 z (List.mem_cons_self ..) (hd.1 x hx), vn_one hd.2 hx h1 fun y hy => h2 y (List.mem_cons_of_mem _ hy)]; omega
theorem V_congrQ {p : Int} {q r f : Ser} {m : Nat} (hp : Pr p) (hq : Irr p q) (hf : Last p f m) (e : Ser.Eq p q r) : V p f q = V p f r := by
  obtain ⟨f0, h1, h2, h3⟩ := V_spec hp hq hf
  exact (V_is hp (hq.eq e) ⟨f0, h1, h2.trans ((e.pw _).mulL f0), fun k => h3 (k.eqL e.symm)⟩).symm
/-- Irreducible ones in order, each told once, and how often. -/
structure Fct (p : Int) (L : PL) : Prop where
  own : ∀ x ∈ L, Mn p x.1 ∧ 2 ≤ x.1.length ∧ Irr p (cf x.1) ∧ 1 ≤ x.2
  up : L.Pairwise fun x y => Ahd x.1 y.1
theorem Fct.dis {p : Int} {L : PL} (h : Fct p L) : L.Pairwise fun x y => x.1 ≠ y.1 := h.up.imp fun k e => by rw [e] at k; exact ahd_irr _ k
theorem Fct.at_ {p : Int} {L : PL} (hp : Pr p) (h : Fct p L) {x : List Int × Nat} (hx : x ∈ L) : vn p (cf x.1) L = x.2 :=
  vn_one h.dis hx (V_self hp (h.own x hx).2.2.1) fun y hy hn => V_other hp (h.own x hx).2.2.1 (h.own y hy).2.2.1 fun e => hn (mn_eq hp (h.own y hy).1 (h.own x hx).1 e)
theorem Fct.pos {p : Int} {L : PL} (hp : Pr p) (h : Fct p L) {q : Ser} (hq : Irr p q) (hv : 1 ≤ vn p q L) : ∃ x ∈ L, Ser.Eq p q (cf x.1) := by
  refine Classical.byContradiction fun hn => ?_
  rw [vn_none fun x hx => V_other hp hq (h.own x hx).2.2.1 fun e => hn ⟨x, hx, e.symm⟩] at hv
  omega
theorem Fct.facN {p : Int} {L : PL} {m : List Int} (hp : Pr p) (h : Fct p L) (hv : ∀ q, Irr p q → vn p q L = V p (cf m) q) : FacN p m L :=
  ⟨fun x hx => ⟨(h.own x hx).1, (h.own x hx).2.1, (h.own x hx).2.2.1, (h.own x hx).2.2.2, by rw [← hv _ (h.own x hx).2.2.1, h.at_ hp hx]⟩, fun q hq k => h.pos hp hq (by rw [hv q hq]; exact k), h.up⟩
theorem FacN.fct {p : Int} {m : List Int} {L : PL} (h : FacN p m L) : Fct p L := ⟨fun x hx => ⟨(h.own x hx).1, (h.own x hx).2.1, (h.own x hx).2.2.1, (h.own x hx).2.2.2.1⟩, h.up⟩
theorem FacN.vn {p : Int} {m : List Int} {L : PL} (hp : Pr p) (hm : Mn p m) (h : FacN p m L) : ∀ q, Irr p q → vn p q L = V p (cf m) q := fun q hq => by
  by_cases e : 1 ≤ V p (cf m) q
  · obtain ⟨x, hx, e2⟩ := h.all q hq e
    obtain ⟨_, _, a3, _, a5⟩ := h.own x hx
    rw [V_congrQ hp hq hm.last e2, a5]
    refine vn_one h.fct.dis hx (by rw [← V_congr e2, V_self hp hq]) fun y hy hn => V_other hp hq (h.own y hy).2.2.1 fun k => hn (mn_eq hp (h.own y hy).1 (h.own x hx).1 (k.trans e2))
  · rw [vn_none fun x hx => V_other hp hq (h.own x hx).2.2.1 fun k => e ?_]
    · omega
    · rw [← V_congrQ hp (h.own x hx).2.2.1 hm.last k, (h.own x hx).2.2.2.2]; exact (h.own x hx).2.2.2.1
/-- Their product, and how long it is. -/
theorem fct_prod {p : Int} (hp : Pr p) : ∀ L : PL, (∀ x ∈ L, Mn p x.1 ∧ 2 ≤ x.1.length ∧ 1 ≤ x.2) → ∃ g, Mn p g ∧ L.length + 1 ≤ g.length ∧ ∀ q, Irr p q → V p (cf g) q ≤ vn p q L := by
  intro L
  induction L with
  | nil => exact fun _ => ⟨[1], mn_one hp, by simp, fun q hq => by rw [V_one hp hq]; exact Nat.zero_le _⟩
  | cons x L ih =>
    intro h
    obtain ⟨g, g1, g2, g3⟩ := ih fun f hf => h f (List.mem_cons_of_mem _ hf)
    obtain ⟨f1, f2, f3⟩ := h x (List.mem_cons_self ..)
    obtain ⟨m1, m2, m3⟩ := mn_mul hp f1 g1
    refine ⟨_, m1, by rw [List.length_cons]; omega, fun q hq => ?_⟩
    rw [m3 q hq, Go.Proofs.YtnkhhndjbanmnaaGreatDoor.vn]
    have := g3 q hq
    have := Nat.le_mul_of_pos_left (V p (cf x.1) q) f3
    omega
theorem FacN.few {p : Int} {m : List Int} {L : PL} (hp : Pr p) (hm : Mn p m) (h : FacN p m L) : L.length + 1 ≤ m.length := by
  obtain ⟨g, g1, g2, g3⟩ := fct_prod hp L fun x hx => ⟨(h.own x hx).1, (h.own x hx).2.1, (h.own x hx).2.2.2.1⟩
  have := g1.len_le hp hm fun q hq => by rw [← h.vn hp hm q hq]; exact g3 q hq
  omega
theorem FacN.num {p : Int} {m : List Int} {L : PL} (hp : Pr p) (hm : Mn p m) (h : FacN p m L) {x : List Int × Nat} (hx : x ∈ L) : x.2 + 1 ≤ m.length := by
  obtain ⟨_, _, a3, _, a5⟩ := h.own x hx
  have := V_le_deg hp a3 hm.last
  have := hm.pos
  omega

/-! The document's examples. -/
theorem pr5 : Pr 5 := pr_trial (n := 5) (by decide) (by decide) 3 (by decide) (fun e h2 h3 hd => by
  obtain ⟨k, hk⟩ := hd
  have : e = 2 := by omega
  subst this
  omega)
theorem prr3 : Pr 3 := pr_trial (n := 3) (by decide) (by decide) 2 (by decide) (fun e h2 h3 => by omega)
theorem mn_small {p : Int} {xs : List Int} (hr : xs.all (fun x => decide (0 ≤ x ∧ x < p)) = true) (h1 : 1 < p) (hn : xs ≠ []) (ht : cf xs (xs.length - 1) = 1) : Mn p xs := by
  have hl : xs.length - 1 + 1 = xs.length := by
    cases xs with
    | nil => exact absurd rfl hn
    | cons => simp
  have e1 : (1 : Int) % p = 1 := Int.emod_eq_of_lt (by decide) h1
  refine ⟨⟨fun x hx => ?_, .inr ?_⟩, hn, ?_⟩
  · have := List.all_eq_true.1 hr x hx
    simpa using this
  · rw [ht]; decide
  · refine ⟨?_, by rw [ht]; exact e1⟩
    rw [hl]
    exact bd_len p xs
theorem mn5_w : Mn 5 [1, 0, 1] := mn_small (by decide) (by decide) (by decide) rfl
theorem mn5_a : Mn 5 [2, 1] := mn_small (by decide) (by decide) (by decide) rfl
theorem mn5_b : Mn 5 [3, 1] := mn_small (by decide) (by decide) (by decide) rfl
theorem mn3_w : Mn 3 [1, 0, 1] := mn_small (by decide) (by decide) (by decide) rfl
theorem irr5_a : Irr 5 (cf [2, 1]) := irr_linear pr5 mn5_a.2.2
theorem irr5_b : Irr 5 (cf [3, 1]) := irr_linear pr5 mn5_b.2.2
theorem ex5 : Ser.Eq 5 (cf [1, 0, 1]) (Ser.mul (cf [2, 1]) (cf [3, 1])) := fun i => by
  match i with
  | 0 => rfl
  | 1 => rfl
  | 2 => rfl
  | i + 3 =>
    rw [cf_over (by simp), (Ser.mul_top (p := 5) (bd_len 5 [2, 1]) (bd_len 5 [3, 1])).2 (i + 3) (by simp)]
    rfl
theorem ex5_fac : FacN 5 [1, 0, 1] [([2, 1], 1), ([3, 1], 1)] := by
  refine Fct.facN pr5 ⟨fun x hx => ?_, ?_⟩ fun q hq => ?_
  · simp only [List.mem_cons, List.not_mem_nil, or_false] at hx
    rcases hx with rfl | rfl
    · exact ⟨mn5_a, by decide, irr5_a, by decide⟩
    · exact ⟨mn5_b, by decide, irr5_b, by decide⟩
  · refine List.Pairwise.cons (fun y hy => ?_) (List.Pairwise.cons (fun y hy => (List.not_mem_nil hy).elim) List.Pairwise.nil)
    rw [List.mem_singleton.1 hy]
    show ordI [2, 1] [3, 1] = -1
    decide
  · rw [V_congr ex5, V_mul pr5 hq mn5_a.last mn5_b.last]
    show 1 * V 5 (cf [2, 1]) q + (1 * V 5 (cf [3, 1]) q + 0) = _
    omega
theorem ex3_irr : Irr 3 (cf [1, 0, 1]) := by
  refine ⟨2, by decide, mn3_w.2.2, fun d k hd hm => ?_⟩
  obtain ⟨u, fu, hu⟩ := hm
  obtain ⟨j, hj, e⟩ := last_quo prr3 mn3_w.last hd fu hu
  have e : (2 : Nat) = j + k := e
  rcases Nat.lt_or_ge k 1 with h | h
  · exact .inl (by omega)
  rcases Nat.lt_or_ge k 2 with h2 | h2
  · obtain rfl : k = 1 := by omega
    obtain rfl : j = 1 := by omega
    exfalso
    have a0 := hu 0
    have a1 := hu 1
    have a2 := hu 2
    rw [Ser.mul_zero_at] at a0
    rw [Ser.mul_succ, Ser.mul_zero_at] at a1
    rw [Ser.mul_succ, Ser.mul_succ, Ser.mul_zero_at] at a2
    have d2 := hd.1 2 (by decide)
    have u2 := hj.1 2 (by decide)
    have e0 : cf [1, 0, 1] 0 = 1 := rfl
    have e1 : cf [1, 0, 1] 1 = 0 := rfl
    have e2 : cf [1, 0, 1] 2 = 1 := rfl
    rw [e0] at a0
    rw [e1] at a1
    rw [e2] at a2
    simp only [Ser.tl] at a1 a2
    rw [Int.mul_emod] at a0
    rw [Int.add_emod, Int.mul_emod, Int.mul_emod (u (0 + 1))] at a1
    rw [Int.add_emod, Int.add_emod (u (0 + 1) * _), Int.mul_emod (u 0), Int.mul_emod (u (0 + 1)), Int.mul_emod (u (0 + 1 + 1)), d2, u2] at a2
    simp only [Nat.zero_add] at a1 a2
    have x0 := Int.emod_nonneg (u 0) (b := 3) (by decide)
    have x1 := Int.emod_lt_of_pos (u 0) (b := 3) (by decide)
    have y0 := Int.emod_nonneg (u 1) (b := 3) (by decide)
    have y1 := Int.emod_lt_of_pos (u 1) (b := 3) (by decide)
    have z0 := Int.emod_nonneg (d 0) (b := 3) (by decide)
    have z1 := Int.emod_lt_of_pos (d 0) (b := 3) (by decide)
    have w0 := Int.emod_nonneg (d 1) (b := 3) (by decide)
    have w1 := Int.emod_lt_of_pos (d 1) (b := 3) (by decide)
    generalize u 0 % 3 = x at *
    generalize u 1 % 3 = y at *
    generalize d 0 % 3 = z at *
    generalize d 1 % 3 = t at *
    have cx : x = 0 ∨ x = 1 ∨ x = 2 := by omega
    have cy : y = 0 ∨ y = 1 ∨ y = 2 := by omega
    have cz : z = 0 ∨ z = 1 ∨ z = 2 := by omega
    have ct : t = 0 ∨ t = 1 ∨ t = 2 := by omega
    rcases cx with rfl | rfl | rfl <;> rcases cy with rfl | rfl | rfl <;> rcases cz with rfl | rfl | rfl <;> rcases ct with rfl | rfl | rfl <;> revert a0 a1 a2 <;> decide
  · exact .inr (by omega)
end Go.Proofs.YtnkhhndjbanmnaaGreatDoor

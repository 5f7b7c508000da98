/- Texts joined, in their order: FsqParts. -/
import Derived.WalkMore
import Derived.ScopeJumps
import Derived.Test.YtekpifafjbkmiaaDoorMh21

/- fsqf.parts by contract: from power to power, and sorted. -/
namespace Go.Proofs.YtekpifafjbkmiaaDoor
open Go.RowKit

/-- A scope that the run comes to its one label in, and jumps back to it: the code behind the label is walked but once. -/
theorem wp_scope_one {P : Program} {a : Act} {w : World} {Q : Exit → Act → World → Prop} {c rest : Code} (l : Nat) (J : Act → World → Prop) (μ : Act → World → Nat) (hf : findLabel c l = some (Code.seq Code.skip rest))
    (first : ∀ K : Exit → Act → World → Prop, (∀ a w, J a w → rest.wp P K a w) → c.wp P K a w)
    (pass : ∀ a w, J a w → rest.wp P (Exit.jump l (fun a' w' => J a' w' ∧ μ a' w' < μ a w) Q) a w) : (Code.scope c).wp P Q a w :=
  wp_scope_jumps l J μ hf (first _ fun a w h b k cs => by
    obtain ⟨e, a1, w1, hq, harr⟩ := pass a w h b k cs
    refine ⟨e, a1, w1, ?_, harr⟩
    cases e with
    | goto l' => exact ⟨hq.1, hq.2.1⟩
    | normal => exact hq
    | exit id => exact hq
    | ret => exact hq
    | panic ch => exact hq
    | outgrown => exact hq) fun a w h => wp_seq (wp_skip (pass a w h))

theorem nodup_le : ∀ (M : Nat) (L : List Nat), L.Nodup → (∀ x ∈ L, x < M) → L.length ≤ M
  | 0, L, _, h => by
    cases L with
    | nil => simp
    | cons x xs => exact absurd (h x (List.mem_cons_self ..)) (Nat.not_lt_zero _)
  | M + 1, L, hd, h => by
    by_cases hm : M ∈ L
    · have h1 := nodup_le M (L.erase M) (hd.erase M) (fun x hx => by
        obtain ⟨h2, h3⟩ := (hd.mem_erase_iff).1 hx
        have := h x h3
        omega)
      rw [List.length_erase_of_mem hm] at h1
      omega
    · have := nodup_le M L hd (fun x hx => by
        have := h x hx
        have : x ≠ M := fun e => hm (e ▸ hx)
        omega)
      omega
theorem Upto.few {p : Int} {m : List Int} {k : Nat} {A : PL} (h : Upto p m k A) : A.length ≤ m.length := by
  have := nodup_le m.length _ h.nd (fun x hx => by
    obtain ⟨y, hy, rfl⟩ := List.mem_map.1 hx
    exact (h.own y hy).2.1)
  rwa [List.length_map] at this
theorem ToldAll.few {p : Int} {a : List Int} {F : PL} {left : List Int} (h : ToldAll p a F left) : F.length ≤ a.length := by
  have := nodup_le a.length _ (h.up.imp fun hij => Nat.ne_of_lt hij) (fun x hx => by
    obtain ⟨y, hy, rfl⟩ := List.mem_map.1 hx
    exact (h.own y hy).2.1)
  rwa [List.length_map] at this
def liftPt (K : Nat) (z : Pt) : Pt := ⟨z.A, z.n, z.c, z.xs, z.N * K⟩
theorem pls_lift (K : Nat) (Z : List Pt) : pls (Z.map (liftPt K)) = (pls Z).map (lift K) := by
  unfold pls
  rw [List.map_map, List.map_map]
  rfl
/-- What each power begins with, in memory. -/
structure PI (p : Int) (m : List Int) (w wr : World) (k K : Nat) (a : List Int) (A : Option Addr) (n c : Nat) (va : Value) (Z : List Pt) : Prop where
  lv : LV p m k a
  up : Upto p m k (pls Z)
  pw : K = p.toNat ^ k
  isl : ISl wr A n c a
  own : POw 40 wr w.heap.size va Z
  la : a.length ≤ m.length
  be : Below w.heap.size w wr
/-- While the parts found are laid to the others. -/
structure LJ (w wj : World) (K : Nat) (Z Z' : List Pt) (A' : Option Addr) (k' c' : Nat) (C : Option Addr) (m d : Nat) (left : List Int) (va : Value) (j : Nat) : Prop where
  own : POw 40 wj w.heap.size va (Z ++ (Z'.take j).map (liftPt K))
  rd : PRd wj A' k' c' Z'
  ap : ∀ z ∈ Z', ApO z.A z.xs va.ownBlock
  ab : Z' = [] ∨ ApB A' va.ownBlock
  il : ISl wj C m d left
  al : ApO C left va.ownBlock
  be : Below w.heap.size w wj
theorem lj_start {p : Int} {xs cur : List Int} {w wr w' : World} {k K : Nat} {A : Option Addr} {n c : Nat} {va : Value} {Z Z' : List Pt} {A' : Option Addr} {k' c' : Nat} {C : Option Addr} {m d : Nat} {left : List Int}
    (h : PI p xs w wr k K cur A n c va Z) (t : TO p cur wr A' k' c' Z' C m d left w') : LJ w w' K Z Z' A' k' c' C m d left va 0 := by
  have hapB : ApB A' va.ownBlock := fun b o s e e2 => by
    have h1 := (h.own.1.lt b e2.symm).2
    have h2 := t.rf b o s e
    omega
  exact ⟨by simpa using h.own.below t.be, t.rd, fun z hz => h.own.apart fun b o s e => .inl (t.fr z hz b o s e), .inr hapB, t.il, h.own.apart fun b o s e => .inl (t.lf b o s e), below_to h.be t.be⟩
theorem take_lift (K : Nat) (Z Z' : List Pt) (j : Nat) (hj : j < Z'.length) : Z ++ (Z'.take (j + 1)).map (liftPt K) = Z ++ (Z'.take j).map (liftPt K) ++ [liftPt K Z'[j]] := by
  rw [List.take_succ_eq_append_getElem hj, List.map_append, ← List.append_assoc]
  rfl
theorem lj_next {w wj w' : World} {K : Nat} {Z Z' : List Pt} {A' : Option Addr} {k' c' : Nat} {C : Option Addr} {m d : Nat} {left : List Int} {va v' : Value} {j : Nat} (h : LJ w wj K Z Z' A' k' c' C m d left va j) (hj : j < Z'.length)
    (ho : POw 40 w' w.heap.size v' (Z ++ (Z'.take j).map (liftPt K) ++ [liftPt K Z'[j]])) (hk : Keep wj va w' v') (hb : Below w.heap.size w w') : LJ w w' K Z Z' A' k' c' C m d left v' (j + 1) := by
  have hab : ApB A' va.ownBlock := h.ab.elim (fun e => by rw [e] at hj; exact absurd hj (by simp)) id
  obtain ⟨k1, k2, k3⟩ := hk.prd _ _ _ _ h.rd h.ap hab
  obtain ⟨i1, i2⟩ := hk.isl _ _ _ _ h.il h.al
  exact ⟨by rw [take_lift K Z Z' j hj]; exact ho, k1, k2, k3, i1, i2, hb⟩
theorem lj_end {w wj : World} {K : Nat} {Z Z' : List Pt} {A' : Option Addr} {k' c' : Nat} {C : Option Addr} {m d : Nat} {left : List Int} {va : Value} {j : Nat} (h : LJ w wj K Z Z' A' k' c' C m d left va j) (hj : Z'.length ≤ j) :
    POw 40 wj w.heap.size va (Z ++ Z'.map (liftPt K)) := by
  have := h.own
  rwa [List.take_of_length_le hj] at this
theorem pi_next {p : Int} {xs cur : List Int} {w wr wj w' w3 : World} {k K : Nat} {A : Option Addr} {n c : Nat} {va va' : Value} {Z Z' : List Pt} {A' : Option Addr} {k' c' : Nat} {C Cr : Option Addr} {m d mr dr : Nat} {left : List Int}
    (hp : Pr p) (hx : Mn p xs) (h : PI p xs w wr k K cur A n c va Z) (t : TO p cur wr A' k' c' Z' C m d left w') (ho : POw 40 wj w.heap.size va' (Z ++ Z'.map (liftPt K))) (hb : Below w.heap.size w wj)
    (hr : ISl w3 Cr mr dr (rootL p.toNat left)) (hb3 : Below wj.heap.size wj w3) (h1 : left.length ≠ 1) :
    PI p xs w w3 (k + 1) (K * p.toNat) (rootL p.toNat left) Cr mr dr va' (Z ++ Z'.map (liftPt K)) ∧ (rootL p.toNat left).length < cur.length := by
  have h2 := hp.1
  obtain ⟨l1, l2⟩ := h.lv.next hp t.all
  have p1 := t.all.m2.pos
  have p2 := l1.mn.pos
  have l3 := t.all.l2
  have hlt : (rootL p.toNat left).length < left.length := by
    have : 2 * ((rootL p.toNat left).length - 1) ≤ p.toNat * ((rootL p.toNat left).length - 1) := Nat.mul_le_mul_right _ (by omega)
    omega
  have hK : K * p.toNat = p.toNat ^ (k + 1) := by rw [h.pw, Nat.pow_succ]
  refine ⟨⟨l1, ?_, hK, hr, ho.below hb3, by have := h.la; omega, below_to hb hb3⟩, by omega⟩
  rw [pls_append, pls_lift, h.pw]
  exact Upto.step hp hx h.lv t.all h.up
theorem pi_bd {p : Int} {xs cur : List Int} {w wr w' : World} {k K : Nat} {A : Option Addr} {n c : Nat} {va : Value} {Z Z' : List Pt} {A' : Option Addr} {k' c' : Nat} {C : Option Addr} {m d : Nat} {left : List Int}
    (hp : Pr p) (h : PI p xs w wr k K cur A n c va Z) (t : TO p cur wr A' k' c' Z' C m d left w') (h1 : left.length ≠ 1) : K * p.toNat ≤ xs.length := by
  have h2 := hp.1
  obtain ⟨l1, l2⟩ := h.lv.next hp t.all
  have p1 := t.all.m2.pos
  have hK : K * p.toNat = p.toNat ^ (k + 1) := by rw [h.pw, Nat.pow_succ]
  have := l1.l
  rw [← hK] at this
  have h9 : 1 ≤ (rootL p.toNat left).length - 1 := by
    rcases Nat.eq_zero_or_pos ((rootL p.toNat left).length - 1) with e | e
    · rw [e, Nat.mul_zero] at l2; omega
    · exact e
  have := Nat.mul_le_mul_right (K * p.toNat) h9
  omega
theorem pi_whole {p : Int} {xs cur : List Int} {w wr w' : World} {k K : Nat} {A : Option Addr} {n c : Nat} {va : Value} {Z Z' Zs : List Pt} {A' : Option Addr} {k' c' : Nat} {C : Option Addr} {m d : Nat} {left : List Int}
    (hp : Pr p) (hx : Mn p xs) (h : PI p xs w wr k K cur A n c va Z) (t : TO p cur wr A' k' c' Z' C m d left w') (h1 : left.length = 1) (hperm : Zs.Perm (Z ++ Z'.map (liftPt K))) (hs : (Zs.map (·.N)).Pairwise (· ≤ ·)) : IsParts p xs (pls Zs) := by
  have hu := Upto.step hp hx h.lv t.all h.up
  rw [← h.pw, ← pls_lift, ← pls_append] at hu
  refine Upto.whole hp h.lv t.all hu h1 (hperm.map _) ?_
  unfold pls
  rw [List.map_map]
  exact hs
/-- The frame at the label. -/
def PJ (p : Int) (xs : List Int) (w : World) (a : Act) (wr : World) : Prop := ∃ (k K : Nat) (Ca : Option Addr) (na ca : Nat) (cur : List Int) (vall : Value) (Z : List Pt) (u7 u8 u9 u10 u11 u12 u13 u14 u15 u16 u17 u18 u19 u20 u21 u22 u23 u24 u25 u26 u27 u28 u29 u30 u31 u32 u33 u34 u35 u36 u37 u38 u39 u40 u41 u42 u43 u44 u45 : Value),
  a = { tmps := #[.slice Ca na ca, .int .i64 p, undef, undef, .slice none 0 0, vall, .int .i64 (K : Int), u7, u8, u9, u10, u11, u12, u13, u14, u15, u16, u17, u18, u19, u20, u21, u22, u23, u24, u25, u26, u27, u28, u29, u30, u31, u32, u33, u34, u35, u36, u37, u38, u39, u40, u41, u42, u43, u44, u45], defers := [] } ∧ Hid (PI p xs w wr k K cur Ca na ca vall Z)

set_option maxRecDepth 100000 in
set_option maxHeartbeats 8000000 in
theorem fParts (A : Option Addr) (n c : Nat) (xs : List Int) (p : Int) (w : World) (hT : TabAt w) (h : ISl w A n c xs) (ip : In64 p) (hp : Pr p) (hx : Mn p xs) (hn : n ≤ 900) :
    Calls Tryd.prog 24 #[.slice A n c, .int .i64 p] w fun e w' => ∃ A' k c' Z, e = .returned (.slice A' k c') ∧ PRd w' A' k c' Z ∧ IsParts p xs (pls Z) ∧ Below w.heap.size w w' := by
  have HL := Lib.hid h.len
  have H := Lib.hid h
  have HT := Lib.hid hT
  have PR := Lib.hid hp
  have HX := Lib.hid hx
  have IP := Lib.hid ip
  have hp2 := hp.2.1
  have hp1 := hp.1
  clear h hT hp hx ip
  go_enter Tryd.func24, Tryd.ntmps24
  go_wp2_with fail
  refine wp_scope_one 0 (PJ p xs w) (fun a _ => slLen (a.tmps.getD 0 undef)) rfl ?_ ?_
  · intro KK hKK
    go_wp2_with fail
    go_step3
    rename_i K2 hk2
    refine hk2 _ _ (hKK _ _ ?_)
    exact ⟨0, 1, A, n, c, xs, _, [], _, _, _, _, _, _, _, _, _, _, _, _, _, _, _, _, _, _, _, _, _, _, _, _, _, _, _, _, _, _, _, _, _, _, _, _, _, _, _, rfl, Lib.hid ⟨lv_start HX.out, upto_start p xs, by simp, H.out, POw.nil _ _ _, Nat.le_refl _, Below.refl _ _⟩⟩
  · rintro a wP ⟨k, K, Ca, na, ca, cur, vall, Z, u7, u8, u9, u10, u11, u12, u13, u14, u15, u16, u17, u18, u19, u20, u21, u22, u23, u24, u25, u26, u27, u28, u29, u30, u31, u32, u33, u34, u35, u36, u37, u38, u39, u40, u41, u42, u43, u44, u45, rfl, PP⟩
    have TC := Lib.hid (fTold Ca na ca cur p wP (HT.out.below PP.out.be) PP.out.isl IP.out PR.out PP.out.lv.mn (by have := PP.out.isl.len; have := PP.out.la; have := HL.out; omega))
    go_wp2_with (go_at_call 43; (with_reducible refine TC.out.mono ?_); rintro e w1 ⟨A', k', c', Z', C, m, d, left, rfl, hto⟩; have TT := Lib.hid hto; clear hto)
    have nz := TT.out.all.m2.pos
    have lm := TT.out.il.len
    have kl := TT.out.rd.len
    have kle := TT.out.rd.le
    have kmx := TT.out.rd.max
    have LJ0 := Lib.hid (lj_start PP.out TT.out)
    have K9 : Hid (∀ j (hj : j < Z'.length), ∃ q : Nat, (Z'[j].N : Int) * (K : Int) = (q : Int) ∧ q ≤ 900 ∧ Z'[j].N * K = q) := Lib.hid (fun j hj => by
      have ho := (TT.out.all.own (Pt.pl Z'[j]) (List.mem_map.2 ⟨_, List.getElem_mem hj, rfl⟩)).2.1
      have := PP.out.lv.num HX.out.pos ho
      rw [← PP.out.pw] at this
      have := HL.out
      refine ⟨Z'[j].N * K, by simp, ?_, rfl⟩
      show Z'[j].N * K ≤ 900
      have h1 : (Pt.pl Z'[j]).2 * K < xs.length := by assumption
      have h2 : (Pt.pl Z'[j]).2 = Z'[j].N := rfl
      rw [h2] at h1
      omega)
    have ZL : Hid (Z.length + Z'.length ≤ 2000) := Lib.hid (by
      have h1 := PP.out.up.few
      have h2 := TT.out.all.few
      rw [pls_length] at h1 h2
      have := PP.out.la
      have := HL.out
      omega)
    have KL := Lib.hid kl
    have LM := Lib.hid lm
    clear nz lm kl
    go_loopw [5, 19] (fun va i wj => ∃ j : Nat, j ≤ k' ∧ i = .int .i64 (j : Int) ∧ Hid (LJ w wj K Z Z' A' k' c' C m d left va j)) (fun _ i _ => k' - (intOf i).toNat)
    case atStart => exact ⟨0, Nat.zero_le _, rfl, LJ0⟩
    case round =>
      obtain ⟨j, hj, rfl, LL⟩ := hrel
      by_cases hlt : j < k'
      · have hlz : j < Z'.length := by rw [← KL.out]; exact hlt
        obtain ⟨b, o, rfl, hbl, hc⟩ := LL.out.rd.open_ (by omega)
        obtain ⟨c0, c1⟩ := hc j hlz
        obtain ⟨q, q1, q2, q3⟩ := K9.out j hlz
        have zin := LL.out.rd.in_ _ (List.getElem_mem hlz)
        have zap := LL.out.ap _ (List.getElem_mem hlz)
        have nxt := fun (w' : World) (v' : Value) => @lj_next w wr w' K Z Z' (some ⟨b, o, none⟩) k' c' C m d left u5 v' j LL.out hlz
        have LTAKE : Hid ((Z ++ (Z'.take j).map (liftPt K)).length ≤ 2000) := Lib.hid (by
          have := ZL.out
          rw [List.length_append, List.length_map, List.length_take]
          omega)
        obtain ⟨z, hz⟩ : ∃ z, Z'[j] = z := ⟨_, rfl⟩
        rw [hz] at c0 c1 zin zap q1 q3 nxt
        obtain ⟨zA, zn, zc, zx, zN⟩ := z
        have e9 : liftPt K ⟨zA, zn, zc, zx, zN⟩ = ⟨zA, zn, zc, zx, q⟩ := by
          rw [← q3]; rfl
        rw [e9] at nxt
        simp only [Pt.sl, Pt.nv] at c0 c1
        have ZIN := Lib.hid zin
        have ZAP := Lib.hid zap
        have NXT := Lib.hid nxt
        have i1 : (0 : Int) ≤ (j : Int) := by omega
        have i2 : (j : Int) < (k' : Int) := by omega
        have q4 : IntKind.i64.wrap (q : Int) = (q : Int) := by rw [IntKind.wrap_i64]; omega
        have hsz := LL.out.be.size
        clear hc hlz zin zap nxt q3 e9 hz
        have HBX := Lib.hid (bel_al wr (.cells #[.slice zA zn zc, .int .i64 (zN : Int)] 40))
        have OWX := Lib.hid (LL.out.own.alloc (.cells #[.slice zA zn zc, .int .i64 (zN : Int)] 40))
        go_wp2_with (at_builtin; refine pwpList_new ptyP (wr.alloc (.cells #[.slice zA zn zc, .int .i64 (zN : Int)] 40)) (wr.heap.size + 1) (by simp) 40 ⟨zA, zn, zc, zx, q⟩ rfl (.tmp 23) (.tmp 31) rfl w.heap.size _ _ rfl OWX.out rfl (isl_alloc ZIN.out _) ZAP.out (by have := LTAKE.out; omega) (Nat.le_trans hsz HBX.out.size) ?_; intro v7 w7 ho7 hb7 hk7; have OW := Lib.hid ho7; have B7 := Lib.hid hb7; have KP := Lib.hid hk7; clear ho7 hb7 hk7)
        go_roundw
        case rel => exact ⟨j + 1, by omega, by go_num, Lib.hid (NXT.out _ _ OW.out ⟨fun A n c xs k1 k2 => KP.out.isl A n c xs (isl_alloc k1 _) k2, fun A n c Z k1 k2 k3 => KP.out.prd A n c Z (k1.below HBX.out) k2 k3⟩ ((below_to LL.out.be HBX.out).trans B7.out))⟩
        case measure => simp [intOf]; omega
      · have LE := Lib.hid (lj_end LL.out (by rw [← KL.out]; omega))
        have C1 := Lib.hid (fConst C m d wr)
        by_cases h1 : m = 1
        · have ob := oneB_yes h1
          have E1 := Lib.hid h1
          obtain ⟨As, cs, rfl, hrd, hAs, hbk⟩ := LE.out.rd
          rcases hbk with hnil | ⟨b, rfl, hlt2, hfz, hcl⟩
          · have RD := Lib.hid hrd
            have SC := Lib.hid (fSort0 As cs wr)
            have PW : Hid (IsParts p xs (pls [])) := Lib.hid (pi_whole PR.out HX.out PP.out TT.out (by rw [← LM.out]; exact E1.out) (List.Perm.of_eq hnil.symm) List.Pairwise.nil)

            rw [hnil] at RD
            simp only [hnil, List.length_nil] at *
            clear h1
            go_wp2_with (first
              | (go_at_call 30; (with_reducible refine C1.out.mono ?_); rintro e w4 ⟨rfl, rfl⟩)
              | (go_at_call 45; (with_reducible refine SC.out.mono ?_); rintro e w5 ⟨rfl, rfl⟩))
            simp only [Exit.jump]
            go_ret
            exact ⟨As, 0, cs, [], rfl, RD.out, PW.out, LL.out.be⟩
          · have HLT := Lib.hid hlt2
            have SC := Lib.hid (fSort b cs _ wr hlt2 hfz hcl (by have := ZL.out; rw [List.length_append, List.length_map]; omega))
            have RD := Lib.hid hrd
            have HAS := Lib.hid hAs
            clear hrd hAs hlt2 hfz hcl h1
            generalize (Z ++ Z'.map (liftPt K)).length = zl at *
            go_wp2_with (first
              | (go_at_call 30; (with_reducible refine C1.out.mono ?_); rintro e w4 ⟨rfl, rfl⟩)
              | (go_at_call 45; (with_reducible refine SC.out.mono ?_); rintro e w5 ⟨rfl, hsr⟩; have SR := Lib.hid hsr; clear hsr))
            simp only [Exit.jump]
            go_ret
            obtain ⟨Zs, s1, s2, s3, s4⟩ := srow_rd LE.out RD.out (HAS.out _ _ _ rfl) HLT.out LL.out.be SR.out
            exact ⟨_, zl, cs, Zs, rfl, s3, pi_whole PR.out HX.out PP.out TT.out (by rw [← LM.out]; exact E1.out) s1 s2, s4⟩
        · have ob := oneB_no h1
          have hleft : left.length ≠ 1 := by rw [← LM.out]; exact h1
          have E1 := Lib.hid hleft
          have m9 : m ≤ 900 := by have := LM.out; have := TT.out.all.l2; have := PP.out.la; have := HL.out; omega
          have RT := Lib.hid (fRoot C m d left p wr LL.out.il PR.out (by omega))
          have bd := pi_bd PR.out PP.out TT.out hleft
          have x9 := HL.out
          obtain ⟨q, hq⟩ : ∃ q : Nat, K * p.toNat = q := ⟨_, rfl⟩
          rw [hq] at bd
          have hq2 : (K : Int) * p = (q : Int) := by rw [← hq, Int.natCast_mul, Int.toNat_of_nonneg (by omega)]
          have q9 : q ≤ 900 := by omega
          have q4 : IntKind.i64.wrap (q : Int) = (q : Int) := by rw [IntKind.wrap_i64]; omega
          have HQ := Lib.hid hq
          clear h1 hleft bd x9 hq
          go_wp2_with (first
            | (go_at_call 30; (with_reducible refine C1.out.mono ?_); rintro e w4 ⟨rfl, rfl⟩)
            | (go_at_call 44; (with_reducible refine RT.out.mono ?_); rintro e w5 ⟨Cr, mr, dr, rfl, hir, hbr⟩; have IR := Lib.hid hir; have BR := Lib.hid hbr; clear hir hbr))
          go_step3
          obtain ⟨pn, plt⟩ := pi_next PR.out HX.out PP.out TT.out LE.out LL.out.be IR.out BR.out E1.out
          rw [HQ.out] at pn
          refine ⟨rfl, ⟨k + 1, q, Cr, mr, dr, _, _, _, _, _, _, _, _, _, _, _, _, _, _, _, _, _, _, _, _, _, _, _, _, _, _, _, _, _, _, _, _, _, _, _, _, _, _, _, _, _, _, rfl, Lib.hid pn⟩, ?_⟩
          show mr < na
          rw [IR.out.len, PP.out.isl.len]
          exact plt
end Go.Proofs.YtekpifafjbkmiaaDoor

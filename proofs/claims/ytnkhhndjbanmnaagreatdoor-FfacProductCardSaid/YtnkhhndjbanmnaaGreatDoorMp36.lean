/- Texts joined, in their order: FacH, FacG, FacPt. -/
import Derived.Test.YtnkhhndjbanmnaaGreatDoorMp21
import Derived.Test.YtnkhhndjbanmnaaGreatDoorMp35

/- ffac.halves by contract. -/
namespace Go.Proofs.YtnkhhndjbanmnaaGreatDoor
open Go.RowKit Go.Shelf

def HOut (w w' : World) (A : Option Addr) (v : Value) (G : List (List Int)) : Prop :=
  ∃ ad c vs, v = .slice (some ad) G.length c ∧ VSl w' (some ad) G.length c vs ∧ (∀ i, i < G.length → ∃ C k d, vs.getD i nilv = .slice C k d ∧ ISl w' C k d (G.getD i []) ∧ (C = A ∨ FreshA w C)) ∧ Below w.heap.size w w'
theorem hexp_le {p : Int} (hp : Pr p) : hexp p ≤ 1000000 := by
  have := hp.2.1
  have := hp.1
  unfold hexp
  omega
theorem hexp_int {p : Int} (hp : Pr p) : max 1 ((p - 1) / 2) = (hexp p : Int) := by
  have := hp.1
  unfold hexp
  omega

theorem isl_inD {w : World} {A : Option Addr} {n c : Nat} {xs : List Int} {vs : List Value} {G : List (List Int)} (hv : vs = [.slice A n c]) (hG : G = [xs]) (h : ISl w A n c xs) {A0 : Option Addr} {w0 : World} (ha : A = A0 ∨ FreshA w0 A) : ∀ i, i < G.length → ∃ C k d, vs.getD i nilv = .slice C k d ∧ ISl w C k d (G.getD i []) ∧ (C = A0 ∨ FreshA w0 C) := by
  subst hv hG
  intro i hi
  obtain rfl : i = 0 := by simpa using hi
  exact ⟨A, n, c, rfl, h, ha⟩
theorem hout_one {w w' : World} {A : Option Addr} {n c : Nat} {fs : List Int} (h : ISl w' A n c fs) (hb : Below w.heap.size w w') (g : Nat) (hg : g = w'.heap.size) {G : List (List Int)} (hG : G = [fs]) :
    HOut w (w'.alloc (.cells #[.slice A n c] 22)) A (.slice (some ⟨g, 0, none⟩) 1 1) G := by
  subst hg hG
  have hk := vblk_list w' [.slice A n c] (sv_one _ _ _)
  exact ⟨_, 1, _, rfl, hk.sl (by simp), isl_inD rfl rfl (h.below (below_al _ _)) (.inl rfl), below_to hb (below_al _ _)⟩
theorem hout_two {w w' : World} {A C D : Option Addr} {n c n' c' : Nat} {fs gs : List Int} (h : ISl w' C n c fs) (k : ISl w' D n' c' gs) (hf : FreshA w C) (kf : FreshA w D) (hb : Below w.heap.size w w') (g : Nat) (hg : g = w'.heap.size) {G : List (List Int)} (hG : G = [fs, gs]) :
    HOut w (w'.alloc (.cells #[.slice C n c, .slice D n' c'] 22)) A (.slice (some ⟨g, 0, none⟩) 2 2) G := by
  subst hg hG
  have hk := vblk_list w' [.slice C n c, .slice D n' c'] (sv_cons (sv_one _ _ _))
  refine ⟨_, 2, _, rfl, hk.sl (by simp), fun i hi => ?_, below_to hb (below_al _ _)⟩
  have hi : i < 2 := by simpa using hi
  match i, hi with
  | 0, _ => exact ⟨C, n, c, rfl, h.below (below_al _ _), .inr hf⟩
  | 1, _ => exact ⟨D, n', c', rfl, k.below (below_al _ _), .inr kf⟩

set_option maxRecDepth 100000 in
set_option maxHeartbeats 2000000 in
theorem gHalves (A B : Option Addr) (n c m c' : Nat) (fs rs : List Int) (p : Int) (w : World) (hT : TabAt w) (h : ISl w A n c fs) (h' : ISl w B m c' rs) (hp : Pr p) (hf : Mn p fs) (hn : n ≤ 65) (hm : m ≤ 100) :
    Calls Tryz.prog 58 #[.slice A n c, .slice B m c', .int .i64 p] w fun e w' => ∃ v, e = .returned v ∧ HOut w w' A v (halvesL p fs rs) := by
  have hcl := h.le
  have hcm := h.max
  have p1 := gPower B A m c' n c (hexp p) rs fs p w hT h' h hp.md.in64 (by omega) (by omega) (hexp_le hp)
  rw [← hexp_int hp] at p1
  have P1 := Lib.hid p1
  have P2 := Lib.hid (fun (C B2 : Option Addr) (m1 d1 m2 d2 : Nat) (L1 L2 : List Int) (W : World) (hb : Below w.heap.size w W) (h1 : ISl W C m1 d1 L1) (h2 : ISl W B2 m2 d2 L2) (k1 : m1 ≤ 1000) (k2 : m2 ≤ 1000) => gMinus C B2 m1 d1 m2 d2 L1 L2 p W (hT.below hb) h1 h2 hp.md.in64 k1 k2)
  have P3 := Lib.hid (fun (C : Option Addr) (m1 d1 : Nat) (L1 : List Int) (W : World) (hb : Below w.heap.size w W) (h1 : ISl W C m1 d1 L1) (k1 : m1 ≤ 1000) => gGcd A C n c m1 d1 fs L1 p W (hT.below hb) (h.below hb) h1 hp.md.in64 (by omega) k1)
  have P4 := Lib.hid (fun (C : Option Addr) (m1 d1 : Nat) (L1 : List Int) (W : World) (hb : Below w.heap.size w W) (h1 : ISl W C m1 d1 L1) (k1 : m1 ≤ 1000) => gQuo A C n c m1 d1 fs L1 p W (hT.below hb) (h.below hb) h1 hp.md.in64 (by omega) k1)
  have HL := Lib.hid h.len
  have H := Lib.hid h
  have hp1 := hp.1
  have hp2 := hp.2.1
  have SQ := Lib.hid (sq_mn hp hf rs).2.1
  have hw : IntKind.i64.wrap (p - 1) = p - 1 := by rw [IntKind.wrap_i64]; omega
  have CS : ∃ bl be : Bool, Hid (lowB (sqL p fs rs).length = bl) ∧ Hid ((((sqL p fs rs).length : Int) == (n : Int)) = be) ∧ ((bl = true ∧ Hid (halvesL p fs rs = [fs])) ∨ (bl = false ∧ be = true ∧ Hid (halvesL p fs rs = [fs])) ∨ (bl = false ∧ be = false ∧ Hid (halvesL p fs rs = [sqL p fs rs, quoL p (cf fs) (cf (sqL p fs rs))]))) := by
    refine ⟨_, _, Lib.hid rfl, Lib.hid rfl, ?_⟩
    have hnl := h.len
    by_cases h1 : (sqL p fs rs).length ≤ 1
    · exact .inl ⟨lowB_yes h1, Lib.hid (if_pos (.inl h1))⟩
    · by_cases h2 : (sqL p fs rs).length = fs.length
      · exact .inr (.inl ⟨lowB_no h1, by simp; omega, Lib.hid (if_pos (.inr h2))⟩)
      · exact .inr (.inr ⟨lowB_no h1, by simp; omega, Lib.hid (if_neg fun k => k.elim h1 h2)⟩)
  obtain ⟨bl, be, LB, EB, CS⟩ := CS
  clear h h' hT hp hf p1
  rcases CS with ⟨rfl, HV⟩ | ⟨rfl, rfl, HV⟩ | ⟨rfl, rfl, HV⟩
  all_goals
    go_enter Tryz.func58, Tryz.ntmps58
    go_wp2_with (first
      | (go_at_call 88; (with_reducible refine P1.out.mono ?_); rintro e w1 ⟨C1, m1, d1, rfl, hg⟩; have HG1 := Lib.hid hg.bel; have M1 := Lib.hid hg.2.1; have T2 := Lib.hid (P2.out C1 (some ⟨w1.heap.size, 0, none⟩) m1 d1 1 1 _ [1] (w1.alloc (.cells #[.int .i64 1] 3)) (below_to hg.bel (below_al _ _)) (hg.isl.below (below_al _ _)) ((iblk_list w1 [1] (fi_one (by unfold In64; omega))).sl (by decide)) (by have := hg.2.1; omega) (by decide)); clear hg)
      | (go_at_call 71; (with_reducible refine T2.out.mono ?_); rintro e w2 ⟨C2, m2, d2, rfl, hg⟩; have HB2 := Lib.hid (below_to (below_to HG1.out (below_al _ _)) hg.bel); have T3 := Lib.hid (P3.out C2 m2 d2 _ w2 HB2.out hg.isl (by have := hg.2.1; have := M1.out; omega)); clear hg)
      | (go_at_call 70; (with_reducible refine T3.out.mono ?_); rintro e w3 ⟨C3, m3, d3, rfl, hg, hf⟩; have HB3 := Lib.hid (below_to HB2.out hg.bel); have G3 : Hid (ISl w3 C3 m3 d3 (sqL p fs rs)) := Lib.hid hg.isl; have F3 := Lib.hid (hf.after HB2.out.size); have hm3 : m3 = (sqL p fs rs).length := hg.isl.len; have T4 := gConst C3 m3 d3 w3; have hlb := LB.out; rw [← hm3] at hlb; rw [hlb] at T4; have hmn := EB.out; rw [← hm3] at hmn; have m3b : Hid (m3 ≤ 65) := Lib.hid (by have := SQ.out; have := HL.out; omega); have T5 := Lib.hid (P4.out C3 m3 d3 _ w3 HB3.out G3.out (by have := m3b.out; omega)); have TT4 := Lib.hid T4; clear hg hf hm3 T4 hlb)
      | (go_at_call 55; (with_reducible refine TT4.out.mono ?_); rintro e w4 ⟨rfl, rfl⟩)
      | (go_at_call 72; (with_reducible refine T5.out.mono ?_); rintro e w5 ⟨C5, m5, d5, rfl, hg, hf⟩; have HB5 := Lib.hid (below_to HB3.out hg.bel); have G5 := Lib.hid hg.isl; have F5 := Lib.hid (hf.after HB3.out.size); have G35 := Lib.hid (G3.out.below hg.bel); clear hg hf)
      | fail)
    go_ret
  · exact ⟨_, rfl, hout_one (H.out.below HB3.out) HB3.out _ rfl HV.out⟩
  · exact ⟨_, rfl, hout_one (H.out.below HB3.out) HB3.out _ rfl HV.out⟩
  · exact ⟨_, rfl, hout_two G35.out G5.out F3.out F5.out HB5.out _ rfl HV.out⟩
end Go.Proofs.YtnkhhndjbanmnaaGreatDoor

/- The factors so far, as they lie in memory: rows gathered by append that keep off one cell. -/
namespace Go.Proofs.YtnkhhndjbanmnaaGreatDoor
open Go.RowKit Go.Shelf
variable {ox : Option Nat}

theorem ISl.blt {w : World} {C : Option Addr} {k d : Nat} {L : List Int} (h : ISl w C k d L) (hL : L ≠ []) : ∀ b o s, C = some ⟨b, o, s⟩ → b < w.heap.size := fun b o s e => by
  have hl := h.len
  obtain ⟨b', o', e2, hlt, _⟩ := h.at_ (by
    rcases Nat.eq_zero_or_pos k with k0 | k0
    · exact absurd (List.eq_nil_of_length_eq_zero (by omega)) hL
    · exact k0)
  rw [e2] at e
  simp only [Option.some.injEq, Addr.mk.injEq] at e
  omega
theorem ApB.apO {A : Option Addr} {row : Option Nat} (h : ApB A row) (xs : List Int) : ApO A xs row := .inr h
def NE (ox : Option Nat) (C : Option Addr) (L : List Int) : Prop := L ≠ [] ∧ ApB C ox
def GX (ox : Option Nat) (w : World) (B bx : Nat) (v : Value) (G : List (List Int)) : Prop :=
  ∃ vs, VOw w B v vs ∧ vs.length = G.length ∧ ∀ i, i < G.length → ∃ C k d, vs.getD i nilv = .slice C k d ∧ ISl w C k d (G.getD i []) ∧ NE ox C (G.getD i []) ∧ ApB C v.ownBlock ∧ ApB C (some bx)
theorem GX.nil (w : World) (B bx : Nat) : GX ox w B bx (.slice none 0 0) [] := ⟨[], VOw.nil _ _, rfl, fun _ h => absurd h (Nat.not_lt_zero _)⟩
theorem GX.below {w w' : World} {B bx : Nat} {v : Value} {G : List (List Int)} (h : GX ox w B bx v G) (hb : Below w.heap.size w w') : GX ox w' B bx v G := by
  obtain ⟨vs, h1, h2, h3⟩ := h
  refine ⟨vs, h1.belowE hb, h2, fun i hi => ?_⟩
  obtain ⟨C, k, d, e, k1, k2⟩ := h3 i hi
  exact ⟨C, k, d, e, k1.below hb, k2⟩
theorem GX.lt {w : World} {B bx : Nat} {v : Value} {G : List (List Int)} (h : GX ox w B bx v G) {k : Nat} (hk : v.ownBlock = some k) : B ≤ k ∧ k < w.heap.size := by
  obtain ⟨vs, h1, _⟩ := h
  exact h1.1.lt k hk
def NewRows (ox : Option Nat) (w : World) (v : Value) (bx : Nat) (ad : Addr) (m c : Nat) (K : List (List Int)) : Prop :=
  ∃ vs, VSl w (some ad) m c vs ∧ m = K.length ∧ ∀ i, i < m → ∃ C k d, vs.getD i nilv = .slice C k d ∧ ISl w C k d (K.getD i []) ∧ NE ox C (K.getD i []) ∧ ApB C v.ownBlock ∧ ApB C (some bx)
theorem HOut.news {w0 w : World} {A : Option Addr} {vx v : Value} {bx : Nat} {K : List (List Int)} (h : HOut w0 w A vx K) (hK : ∀ i, i < K.length → K.getD i [] ≠ []) (h1 : ApB A v.ownBlock) (h2 : ApB A (some bx)) (h3 : ∀ k, v.ownBlock = some k → k < w0.heap.size) (h4 : bx < w0.heap.size) (h5 : ApB A ox) (h6 : ∀ k, ox = some k → k < w0.heap.size) :
    ∃ ad c, vx = .slice (some ad) K.length c ∧ NewRows ox w v bx ad K.length c K := by
  obtain ⟨ad, c, vs, e, hv, hr, _⟩ := h
  refine ⟨ad, c, e, vs, hv, rfl, fun i hi => ?_⟩
  obtain ⟨C, k, d, e1, e2, e3⟩ := hr i hi
  refine ⟨C, k, d, e1, e2, ⟨hK i hi, ?_⟩, ?_, ?_⟩
  · rcases e3 with rfl | e3
    · exact h5
    · intro b o s e e5
      have := e3 b o s e
      have := h6 b e5.symm
      omega
  · rcases e3 with rfl | e3
    · exact h1
    · intro b o s e e5
      have := e3 b o s e
      have := h3 b e5.symm
      omega
  · rcases e3 with rfl | e3
    · exact h2
    · intro b o s e e5
      have := e3 b o s e
      simp only [Option.some.injEq] at e5
      omega
theorem ApB.step {w : World} {C : Option Addr} {k d : Nat} {L : List Int} (h : ISl w C k d L) (hL : L ≠ []) {row row' : Option Nat} (ha : ApB C row) (hr : row' = row ∨ row' = some w.heap.size) : ApB C row' := by
  rcases hr with rfl | rfl
  · exact ha
  · intro b o s e e2
    have := h.blt hL b o s e
    simp only [Option.some.injEq] at e2
    omega
theorem gx_run (w : World) (ty : TypeId) (B bx : Nat) (v : Value) (G K : List (List Int)) (h : GX ox w B bx v G) (ad : Addr) (m c : Nat) (hN : NewRows ox w v bx ad m c K) (hmax : G.length + m ≤ 1000) (hB : B ≤ w.heap.size) :
    ∃ v' w', (Builtin.append_ #[31, 31] ty #[v, .slice (some ad) m c]).run Tryz.prog w = .ok v' w' ∧ GX ox w' B bx v' (G ++ K) ∧ Below B w w' := by
  obtain ⟨vs, h1, h2, h3⟩ := h
  obtain ⟨ns, n1, n2, n3⟩ := hN
  obtain ⟨v', w', hrun, j1, j2, j3⟩ := vrun_app_at w ty B v vs h1 ad m c ns n1 (by omega) hB
  refine ⟨v', w', hrun, ⟨_, j1, by rw [List.length_append, List.length_append, h2, ← n1.len, n2], fun i hi => ?_⟩, h1.grownBelow j2 hB⟩
  rw [List.length_append] at hi
  by_cases e : i < G.length
  · obtain ⟨C, k, d, e1, e2, e3, e4, e5⟩ := h3 i e
    have g1 : (vs ++ ns).getD i nilv = vs.getD i nilv := by rw [List.getD_eq_getElem?_getD, List.getElem?_append_left (by omega), ← List.getD_eq_getElem?_getD]
    have g2 : (G ++ K).getD i [] = G.getD i [] := by rw [List.getD_eq_getElem?_getD, List.getElem?_append_left e, ← List.getD_eq_getElem?_getD]
    rw [g1, g2]
    exact ⟨C, k, d, e1, e2.grownO j2 (e4.apO _), e3, e4.step e2 e3.1 j3, e5⟩
  · obtain ⟨C, k, d, e1, e2, e3, e4, e5⟩ := n3 (i - G.length) (by omega)
    have g1 : (vs ++ ns).getD i nilv = ns.getD (i - G.length) nilv := by rw [List.getD_eq_getElem?_getD, List.getElem?_append_right (by omega), h2, ← List.getD_eq_getElem?_getD]
    have g2 : (G ++ K).getD i [] = K.getD (i - G.length) [] := by rw [List.getD_eq_getElem?_getD, List.getElem?_append_right (by omega), ← List.getD_eq_getElem?_getD]
    rw [g1, g2]
    exact ⟨C, k, d, e1, e2.grownO j2 (e4.apO _), e3, e4.step e2 e3.1 j3, e5⟩
theorem gxwpList_app {ops : Array Oper} {rest : List Oper} {o : Oper} {a : Act} {Q : Exit → Act → World → Prop} (w : World) (hgd : o.guard = none) (s x : Operand) (ho : o.op = .call { callee := .builtin .append, args := #[s, x], argTypes := #[31, 31] })
    (B bx : Nat) (v : Value) (G K : List (List Int)) (hs : a.eval s = v) (hown : GX ox w B bx v G) (ad : Addr) (m c : Nat) (hx : a.eval x = .slice (some ad) m c) (hN : NewRows ox w v bx ad m c K) (hmax : G.length + m ≤ 1000) (hB : B ≤ w.heap.size)
    (h : ∀ v' w', GX ox w' B bx v' (G ++ K) → Below B w w' → wpList Tryz.prog ops Q rest (a.put o.dst v') w') : wpList Tryz.prog ops Q (o :: rest) a w :=
  wpList_plain hgd fun _ hK => by
    obtain ⟨v', w', hrun, j1, j2⟩ := gx_run w o.type B bx v G K hown ad m c hN hmax hB
    have hk := hK _ _ (h v' w' j1 j2)
    unfold Oper.wp execOp
    simp only [ho, resolve, invoke, builtin, Sem.run_bind, Sem.run_pure, Result.andThen_ok, List.map_toArray, List.map_cons, List.map_nil, hs, hx, hrun]
    exact hk
theorem gxstep_app {ops : Array Oper} {o : Oper} {a : Act} {K9 : Act → World → Prop} {Q : Exit → Act → World → Prop} {E : Prop} (w : World) (hgd : o.guard = none) (s x : Operand) (ho : o.op = .call { callee := .builtin .append, args := #[s, x], argTypes := #[31, 31] })
    (B bx : Nat) (v : Value) (G K : List (List Int)) (hs : a.eval s = v) (hown : GX ox w B bx v G) (ad : Addr) (m c : Nat) (hx : a.eval x = .slice (some ad) m c) (hN : NewRows ox w v bx ad m c K) (hmax : G.length + m ≤ 1000) (hB : B ≤ w.heap.size)
    (h : ∀ v' w', GX ox w' B bx v' (G ++ K) → Below B w w' → K9 (a.put o.dst v') w') : if Region.wanted o (yielded ops a.tmps) = true then Oper.wp Tryz.prog o a w K9 Q else E := by
  have hw : Region.wanted o (yielded ops a.tmps) = true := by simp [Region.wanted, hgd]
  rw [if_pos hw]
  obtain ⟨v', w', hrun, j1, j2⟩ := gx_run w o.type B bx v G K hown ad m c hN hmax hB
  unfold Oper.wp execOp
  simp only [ho, resolve, invoke, builtin, Sem.run_bind, Sem.run_pure, Result.andThen_ok, List.map_toArray, List.map_cons, List.map_nil, hs, hx, hrun]
  exact h v' w' j1 j2

def FacAt (ox : Option Nat) (w : World) (bx : Nat) (v : Value) (F : List (List Int)) : Prop :=
  ∃ A c vs, v = .slice A F.length c ∧ VSl w A F.length c vs ∧ ApB A (some bx) ∧ (0 < F.length → Thaw w A) ∧ ∀ i, i < F.length → ∃ C k d, vs.getD i nilv = .slice C k d ∧ ISl w C k d (F.getD i []) ∧ NE ox C (F.getD i []) ∧ ApB C (some bx) ∧ ApB C v.ownBlock
theorem VSl.bltV {w : World} {A : Option Addr} {n c : Nat} {vs : List Value} (h : VSl w A n c vs) (hn : 0 < n) : ∀ b o s, A = some ⟨b, o, s⟩ → b < w.heap.size := fun b o s e => by
  obtain ⟨b', o', e2, hlt, _⟩ := h.at_ hn
  rw [e2] at e
  simp only [Option.some.injEq, Addr.mk.injEq] at e
  omega
theorem FacAt.below {w w' : World} {bx : Nat} {v : Value} {F : List (List Int)} (h : FacAt ox w bx v F) (hb : Below w.heap.size w w') : FacAt ox w' bx v F := by
  obtain ⟨A, c, vs, e, h1, h2, h4, h3⟩ := h
  refine ⟨A, c, vs, e, h1.below hb, h2, fun h0 b o s e2 i => ?_, fun i hi => ?_⟩
  · rw [hb.frozen (p := ⟨b, i, none⟩) (h1.bltV h0 b o s e2)]; exact h4 h0 b o s e2 i
  · obtain ⟨C, k, d, e1, e2, e3⟩ := h3 i hi
    exact ⟨C, k, d, e1, e2.below hb, e3⟩
theorem VSl.grownB {w w' : World} {A : Option Addr} {n c g : Nat} {vs : List Value} (h : VSl w A n c vs) (hg : w.grownBy w' (some g)) (ha : ApB A (some g)) : VSl w' A n c vs :=
  ⟨h.1, h.2.1, h.2.2.1, h.2.2.2.1, h.rd.grown hg fun b o s e e2 => ha b o s e (by rw [e2])⟩
theorem FacAt.grown {w w' : World} {bx : Nat} {v : Value} {F : List (List Int)} (h : FacAt ox w bx v F) (hg : w.grownBy w' (some bx)) : FacAt ox w' bx v F := by
  obtain ⟨A, c, vs, e, h1, h2, h5, h3⟩ := h
  refine ⟨A, c, vs, e, h1.grownB hg h2, h2, fun h0 b o s e2 i => ?_, fun i hi => ?_⟩
  · rw [World.frozen?_of_block (w := w) (hg.block b (h1.bltV h0 b o s e2) (h2 b o s e2))]; exact h5 h0 b o s e2 i
  · obtain ⟨C, k, d, e1, e2, e3, e4, e5⟩ := h3 i hi
    exact ⟨C, k, d, e1, e2.grownO hg (e4.apO _), e3, e4, e5⟩
theorem VOw.thawV {w : World} {B : Nat} {A : Option Addr} {n c : Nat} {vs : List Value} (h : VOw w B (.slice A n c) vs) : Thaw w A := by
  intro b o s e i
  obtain ⟨⟨_, h2⟩, _⟩ := h
  rcases h2 with ⟨h3, _⟩ | ⟨g, cap, cur, e2, _, hh, _⟩
  · simp only [Value.slice.injEq] at h3
    rw [h3.1] at e; cases e
  · simp only [Value.slice.injEq] at e2
    rw [e2.1] at e
    simp only [Option.some.injEq, Addr.mk.injEq] at e
    obtain ⟨rfl, _, _⟩ := e
    simp [World.frozen?, hh]
theorem GX.fac {w : World} {B bx : Nat} {v : Value} {G : List (List Int)} (h : GX ox w B bx v G) (hB : bx < B) : FacAt ox w bx v G := by
  obtain ⟨vs, h1, h2, h3⟩ := h
  obtain ⟨A, c, e, hs, hb⟩ := h1.sl
  rw [h2] at e hs
  refine ⟨A, c, vs, e, hs, fun b o s e1 e2 => ?_, fun _ => ?_, fun i hi => ?_⟩
  · have := hb b o s e1
    simp only [Option.some.injEq] at e2
    omega
  · rw [e] at h1; exact h1.thawV
  · obtain ⟨C, k, d, e1, e2, e3, e4, e5⟩ := h3 i hi
    exact ⟨C, k, d, e1, e2, e3, e5, e4⟩
theorem GX.fresh {w w0 : World} {bx : Nat} {v : Value} {G : List (List Int)} (h : GX ox w w0.heap.size bx v G) : FreshV w0 v := by
  obtain ⟨vs, h1, h2, h3⟩ := h
  obtain ⟨A, c, e, hs, hb⟩ := h1.sl
  intro C m d e2 b o s e3
  rw [e] at e2
  simp only [Value.slice.injEq] at e2
  exact hb b o s (e2.1.trans e3)
theorem FacAt.mat {w : World} {bx : Nat} {v : Value} {F : List (List Int)} (h : FacAt ox w bx v F) : ∃ A c, v = .slice A F.length c ∧ MatAt w A F.length c F := by
  obtain ⟨A, c, vs, e, h1, _, _, h3⟩ := h
  refine ⟨A, c, e, vs, h1, rfl, fun i hi => ?_⟩
  obtain ⟨C, k, d, e1, e2, _⟩ := h3 i hi
  exact ⟨C, k, d, e1, e2⟩
theorem FacAt.open_ {w : World} {bx : Nat} {v : Value} {F : List (List Int)} (h : FacAt ox w bx v F) : ∃ A c, v = .slice A F.length c ∧ F.length ≤ c ∧ c ≤ 9223372036854775807 ∧
    (0 < F.length → ∃ b o, A = some ⟨b, o, none⟩ ∧ b < w.heap.size ∧ b ≠ bx ∧ (∀ i, w.frozen? ⟨b, i, none⟩ = false) ∧ ∀ i, i < F.length → ∃ C k d, w.cell? ⟨b, o + i, none⟩ = some (.slice C k d) ∧ ISl w C k d (F.getD i []) ∧ NE ox C (F.getD i []) ∧ ApB C (some bx) ∧ ApB C (some b)) := by
  obtain ⟨A, c, vs, e, h1, h2, h4, h3⟩ := h
  refine ⟨A, c, e, h1.le, h1.max, fun h0 => ?_⟩
  obtain ⟨b, o, rfl, hlt, hc⟩ := h1.at_ h0
  refine ⟨b, o, rfl, hlt, fun e => h2 b o none rfl (by rw [e]), h4 h0 b o none rfl, fun i hi => ?_⟩
  obtain ⟨C, k, d, e1, e2, e3, e4, e5⟩ := h3 i hi
  rw [e] at e5
  exact ⟨C, k, d, by rw [hc i hi, e1], e2, e3, e4, e5⟩
end Go.Proofs.YtnkhhndjbanmnaaGreatDoor

/- ffac.split's closure by contract: one shift. -/
namespace Go.Proofs.YtnkhhndjbanmnaaGreatDoor
open Go.RowKit Go.Shelf
variable {ox : Option Nat}

theorem halvesL_ne {p : Int} (hp : Pr p) {f : List Int} (hf : Mn p f) (r : List Int) : ∀ g ∈ halvesL p f r, g ≠ [] := by
  obtain ⟨s1, _, s3, _, _⟩ := sq_mn hp hf r
  intro g hg
  unfold halvesL at hg
  split at hg
  · rw [List.mem_singleton.1 hg]; exact hf.2.1
  · simp only [List.mem_cons, List.not_mem_nil, or_false] at hg
    rcases hg with rfl | rfl
    · exact s1.2.1
    · exact (mn_quo hp hf s1 fun q hq => V_le hp hq s1.last hf.last s3).1.2.1
theorem halvesL_len (p : Int) (f r : List Int) : (halvesL p f r).length ≤ 2 := by
  unfold halvesL
  split <;> simp
theorem partF_len (p : Int) (y : List Int) (s : Int) (f : List Int) : (partF p y s f).length ≤ 2 := by
  unfold partF
  split
  · simp
  · exact halvesL_len ..
theorem partAll_len (p : Int) (y : List Int) (s : Int) : ∀ F, (partAll p y s F).length ≤ 2 * F.length
  | [] => by simp [partAll]
  | f :: F => by
    have h1 := partF_len p y s f
    have h2 := partAll_len p y s F
    show (partF p y s f ++ partAll p y s F).length ≤ _
    rw [List.length_append, List.length_cons]; omega
theorem getD_memL {F : List (List Int)} {i : Nat} (h : i < F.length) : F.getD i [] ∈ F := by
  rw [List.getD_eq_getElem?_getD, List.getElem?_eq_getElem h]
  exact List.getElem_mem h
theorem take_snocL {F : List (List Int)} {i : Nat} (h : i < F.length) : F.take (i + 1) = F.take i ++ [F.getD i []] := by
  rw [List.take_succ_eq_append_getElem h, List.getD_eq_getElem?_getD, List.getElem?_eq_getElem h]; rfl
theorem mem_getD {K : List (List Int)} (h : ∀ g ∈ K, g ≠ []) : ∀ i, i < K.length → K.getD i [] ≠ [] := fun _ hi => h _ (getD_memL hi)
theorem keepPtA {w0 W : World} {bp : Nat} {u : Value} (hlt : bp < w0.heap.size) (h : W.cell? ⟨bp, 0, none⟩ = some u ∧ Below w0.heap.size w0 W) (o : Obj) : (W.alloc o).cell? ⟨bp, 0, none⟩ = some u ∧ Below w0.heap.size w0 (W.alloc o) :=
  ⟨((below_al W o).cell (p := ⟨bp, 0, none⟩) (Nat.lt_of_lt_of_le hlt h.2.size)).trans h.1, h.2.alloc h.2.size o⟩
theorem keepPtC {w0 W W' : World} {bp : Nat} {u : Value} (hlt : bp < w0.heap.size) (h : W.cell? ⟨bp, 0, none⟩ = some u ∧ Below w0.heap.size w0 W) (hb : Below W.heap.size W W') : W'.cell? ⟨bp, 0, none⟩ = some u ∧ Below w0.heap.size w0 W' :=
  ⟨(hb.cell (p := ⟨bp, 0, none⟩) (Nat.lt_of_lt_of_le hlt h.2.size)).trans h.1, below_to h.2 hb⟩
theorem keepPt {w0 W W' : World} {bp : Nat} {u : Value} (hlt : bp < w0.heap.size) (h : W.cell? ⟨bp, 0, none⟩ = some u ∧ Below w0.heap.size w0 W) (hb : Below w0.heap.size W W') : W'.cell? ⟨bp, 0, none⟩ = some u ∧ Below w0.heap.size w0 W' :=
  ⟨(hb.cell (p := ⟨bp, 0, none⟩) hlt).trans h.1, h.2.trans hb⟩

theorem grown_store {w wo : World} (hb : Below w.heap.size w wo) (bx o : Nat) (u : Value) : w.grownBy (wo.setCell ⟨bx, o, none⟩ u) (some bx) :=
  ⟨hb.os, hb.tape, hb.output, by simpa [World.setCell] using hb.size, fun k hk hne => ((grown_set wo bx o u).block k (Nat.lt_of_lt_of_le hk hb.size) hne).trans (hb.block k hk)⟩

set_option maxRecDepth 100000 in
set_option maxHeartbeats 4000000 in
theorem gPart (Ab : Option Addr) (nb cb : Nat) (ys : List Int) (s p : Int) (bx bp : Nat) (vF : Value) (F : List (List Int)) (w : World) (hT : TabAt w) (h : ISl w Ab nb cb ys) (hp : Pr p) (hn : nb ≤ 64) (hs : In64 s)
    (hbx : bx < w.heap.size) (hbp : bp < w.heap.size) (cx : w.cell? ⟨bx, 0, none⟩ = some vF) (cp : w.cell? ⟨bp, 0, none⟩ = some (.int .i64 p)) (fz : w.frozen? ⟨bx, 0, none⟩ = false)
    (hF : FacAt ox w bx vF F) (hM : ∀ f ∈ F, Mn p f ∧ 2 ≤ f.length ∧ f.length ≤ 65) (hl : F.length ≤ 64) (hox : ∀ k, ox = some k → k < w.heap.size) :
    Calls Tryz.prog 56 #[.slice Ab nb cb, .int .i64 s, .pointer (some ⟨bx, 0, none⟩), .pointer (some ⟨bp, 0, none⟩)] w fun e w' => e = .returned (.bool (F.any (mixF p ys))) ∧ ∃ v', w'.cell? ⟨bx, 0, none⟩ = some v' ∧ FacAt ox w' bx v' (partAll p ys s F) ∧ w.grownBy w' (some bx) ∧ w'.frozen? ⟨bx, 0, none⟩ = false ∧ FreshV w v' := by
  obtain ⟨A, c, rfl, hle, hmx, hrd⟩ := hF.open_
  have HRD := Lib.hid hrd
  have HT := Lib.hid hT
  have H := Lib.hid h
  have hcl := h.le
  have hcm := h.max
  have PR := Lib.hid hp
  have HM := Lib.hid hM
  have HS := Lib.hid hs
  obtain ⟨k, hk⟩ : ∃ k, F.length = k := ⟨_, rfl⟩
  rw [hk] at cx hl hle
  have HK := Lib.hid hk
  have CX := Lib.hid cx
  have CP := Lib.hid cp
  have FZ := Lib.hid fz
  have HOX := Lib.hid hox
  clear hrd hT h hp hM hs hk hF hox
  go_enter Tryz.func56, Tryz.ntmps56
  go_wp2_with fail
  clear cx cp fz
  go_loopw [14, 7, 8] (fun i v mx wr => ∃ t : Nat, t ≤ k ∧ i = .int .i64 (t : Int) ∧ mx = .bool ((F.take t).any (mixF p ys)) ∧ Hid (GX ox wr w.heap.size bx v (partAll p ys s (F.take t))) ∧ Hid (Below w.heap.size w wr)) (fun i _ _ _ => k - (intOf i).toNat)
  case atStart => exact ⟨0, Nat.zero_le _, rfl, rfl, Lib.hid (GX.nil _ _ _), Lib.hid (Below.refl _ _)⟩
  case round =>
    obtain ⟨t, ht, rfl, rfl, HG, HB⟩ := hrel
    obtain ⟨wo, rfl⟩ : ∃ wo, wo = wr := ⟨wr, rfl⟩
    obtain ⟨bo, hbo⟩ : ∃ b : Bool, (F.take t).any (mixF p ys) = b := ⟨_, rfl⟩
    have HBO := Lib.hid hbo
    rw [hbo]
    clear hbo
    by_cases hlt : t < k
    · obtain ⟨b, o, rfl, hb, hbne, -, hrow⟩ := HRD.out (by rw [HK.out]; omega)
      obtain ⟨Cf, nf, df, hc1, hi1, hne1, hap1, -⟩ := hrow t (by rw [HK.out]; omega)
      have hbel := HB.out
      have hmem := getD_memL (F := F) (i := t) (by rw [HK.out]; omega)
      obtain ⟨hmn, hl2, hl65⟩ := HM.out _ hmem
      have hsn := take_snocL (F := F) (i := t) (by rw [HK.out]; omega)
      obtain ⟨f, hf⟩ : ∃ f, F.getD t [] = f := ⟨_, rfl⟩
      rw [hf] at hi1 hne1 hmn hl2 hl65 hsn
      have hc2 := (hbel.cell (p := ⟨b, o + t, none⟩) hb).trans hc1
      have hcp := (hbel.cell (p := ⟨bp, 0, none⟩) hbp).trans CP.out
      have hbr := Nat.lt_of_lt_of_le hb hbel.size
      have hbpr := Nat.lt_of_lt_of_le hbp hbel.size
      have hi2 := hi1.below hbel
      have hnf := hi1.len
      have hdf := hi1.le
      have hdm := hi1.max
      have j1 : (0 : Int) ≤ (t : Int) := by omega
      have j2 : (t : Int) < (k : Int) := by omega
      have R1 := Lib.hid (gRest Ab Cf nb cb nf df ys f p wo (HT.out.below hbel) (H.out.below hbel) hi2 PR.out.md.in64 (by omega) (by omega))
      have HI2 := Lib.hid hi2
      have HMN := Lib.hid hmn
      have HSN := Lib.hid hsn
      have HAP := Lib.hid hap1
      have HL65 := Lib.hid (show nf ≤ 65 by omega)
      have HNE := Lib.hid hne1
      have HLT := Lib.hid (hi1.blt hne1.1)
      have hfl : Hid ((partAll p ys s (F.take t)).length ≤ 128) := Lib.hid (by
        have h1 := partAll_len p ys s (F.take t)
        have h2 := List.length_take_le t F
        omega)
      clear hi1 hi2 hmn hsn hap1 hne1 hrow hc1 hf hmem hnf hl2 hl65 hbel
      by_cases hco : (resL p ys f).length ≤ 1
      · have hmf : mixF p ys f = false := decide_eq_false (by omega)
        have hpf : partF p ys s f = [f] := partF_con s hmf
        have HMF := Lib.hid hmf
        have HPF := Lib.hid hpf
        have HCO := Lib.hid hco
        clear hmf hpf hco
        go_wp2_with (first
          | (go_at_call 57; (with_reducible refine R1.out.mono ?_); rintro e w1 ⟨Cr, mr, dr, rfl, hg, -⟩; have HB1 := Lib.hid hg.bel; have T4 := gConst Cr mr dr w1; rw [lowB_yes (by rw [hg.isl.len]; exact HCO.out)] at T4; have TT4 := Lib.hid T4; clear hg T4)
          | (go_at_call 55; (with_reducible refine TT4.out.mono ?_); rintro e w2 ⟨rfl, rfl⟩)
          | (at_builtin; refine gxwpList_app _ rfl (.tmp 24) (.tmp 26) rfl w.heap.size bx _ _ [f] rfl ((HG.out.below HB1.out).below (below_al w1 (.cells #[.slice Cf nf df] 22))) ⟨w1.heap.size, 0, none⟩ 1 1 rfl ⟨_, (vblk_list w1 [.slice Cf nf df] (sv_one _ _ _)).sl (by simp), rfl, fun i hi => (by obtain rfl : i = 0 := (by omega); exact ⟨Cf, nf, df, rfl, (HI2.out.below HB1.out).below (below_al _ _), HNE.out, fun b o s e e2 => (by have := (HG.out.lt e2.symm).1; have := HLT.out b o s e; omega), HAP.out⟩)⟩ (by have := hfl.out; omega) (Nat.le_trans (below_to HB.out HB1.out).size (by simp)) ?_; intro v8 w8 hg8 hb8; have HG8 := Lib.hid hg8; have HB8 := Lib.hid hb8; clear hg8 hb8)
          | fail)
        refine ⟨⟨t + 1, by omega, by go_num, ?_, Lib.hid ?_, Lib.hid ?_⟩, by simp [intOf]; omega⟩
        · rw [HSN.out, List.any_append, HBO.out]
          simp [HMF.out]
        · rw [HSN.out, partAll_snoc, HPF.out]; exact HG8.out
        · exact ((below_to HB.out HB1.out).alloc (below_to HB.out HB1.out).size _).trans HB8.out
      · have hmf : mixF p ys f = true := decide_eq_true (by omega)
        have HMF := Lib.hid hmf
        have HPF : Hid (partF p ys s f = halvesL p f (shfL p (resL p ys f) s)) := Lib.hid (if_neg hco)
        have HCO := Lib.hid hco
        clear hmf hco
        go_wp2_with (first
          | (go_at_call 57; (with_reducible refine R1.out.mono ?_); rintro e w1 ⟨Cr, mr, dr, rfl, hg, -⟩; have HB1 := Lib.hid hg.bel; have HR1 : Hid (ISl w1 Cr mr dr (resL p ys f)) := Lib.hid hg.isl; have HMR := Lib.hid hg.2.1; have T4 := gConst Cr mr dr w1; rw [lowB_no (by rw [hg.isl.len]; exact HCO.out)] at T4; have TT4 := Lib.hid T4; clear hg T4)
          | (go_at_call 55; (with_reducible refine TT4.out.mono ?_); rintro e w2 ⟨rfl, rfl⟩)
          | fail)
        have BW1 := Lib.hid (below_to HB.out HB1.out)
        have bdr : Below w1.heap.size w1 (w1.alloc (.cells #[.int .i64 s] 3)).drew := (below_al w1 _).drew
        have BDR := Lib.hid bdr
        have PLU := Lib.hid (gPlus Cr (some ⟨w1.heap.size, 0, none⟩) mr dr 1 1 (resL p ys f) [s] p (w1.alloc (.cells #[.int .i64 s] 3)).drew (HT.out.below (below_to BW1.out bdr)) (HR1.out.below bdr) ((iblk_list w1 [s] (fi_one HS.out)).drew.sl (by simp)) PR.out.md.in64 (by have := HMR.out; omega) (by decide))
        have HAL := Lib.hid (fun (Cp : Option Addr) (mp dp : Nat) (W : World) (hb : Below w1.heap.size w1 W) (hi : ISl W Cp mp dp (shfL p (resL p ys f) s)) (hm : mp ≤ 100) => gHalves Cf Cp nf df mp dp f _ p W (HT.out.below (below_to BW1.out hb)) ((HI2.out.below HB1.out).below hb) hi PR.out HMN.out HL65.out hm)
        have hcp1 : w1.cell? ⟨bp, 0, none⟩ = some (.int .i64 p) := (BW1.out.cell (p := ⟨bp, 0, none⟩) hbp).trans CP.out
        have GAB := Lib.hid (fun b o s (e : Cf = some ⟨b, o, s⟩) => fun (e2 : some b = u7.ownBlock) => (show False by have := (HG.out.lt e2.symm).1; have := HLT.out b o s e; omega))
        have GNE := Lib.hid (mem_getD (halvesL_ne PR.out HMN.out (shfL p (resL p ys f) s)))
        have GLN := Lib.hid (halvesL_len p f (shfL p (resL p ys f) s))
        clear bdr
        go_region_held3 (fun W => W.cell? ⟨bp, 0, none⟩ = some (.int .i64 p) ∧ Below w.heap.size w W)
          (first
            | exact ⟨hcp1, BW1.out.drew⟩
            | exact keepPtA hbp (by assumption) _
            | exact keepPt hbp (by assumption) hb7
            | exact keepPtC hbp (by assumption) hb6
            | exact keepPtC hbp (by assumption) hb5)
          (first
            | (go_at_call 59; (with_reducible refine PLU.out.mono ?_); rintro e w5 ⟨C5, m5, d5, rfl, hg5⟩; have hb5 := hg5.bel; have HB5 := Lib.hid (below_to BDR.out hb5); have H6 := Lib.hid (HAL.out C5 m5 d5 w5 HB5.out hg5.isl (Nat.le_trans hg5.2.1 (by have := HMR.out; omega))); clear hg5)
            | (go_at_call 58; (with_reducible refine H6.out.mono ?_); rintro e w6 ⟨v6, rfl, ho⟩; have hb6 : Below w5.heap.size w5 w6 := (by obtain ⟨_, _, _, _, _, _, hb⟩ := ho; exact hb); obtain ⟨ad, c6, rfl, hN⟩ := ho.news (v := u7) (bx := bx) GNE.out GAB.out HAP.out (fun k hk => Nat.lt_of_lt_of_le (HG.out.lt hk).2 (below_to HB1.out HB5.out).size) (Nat.lt_of_lt_of_le hbx (below_to BW1.out HB5.out).size) HNE.out.2 (fun k hk => Nat.lt_of_lt_of_le (HOX.out k hk) (below_to BW1.out HB5.out).size); have HB6 := Lib.hid (below_to HB5.out hb6); have HN := Lib.hid hN; clear hN ho)
            | (refine gxstep_app _ (by rfl) (.tmp 28) (.tmp 36) (by rfl) w.heap.size bx _ _ _ (by rfl) ((HG.out.below HB1.out).below HB6.out) ad _ c6 (by rfl) HN.out (by have := hfl.out; have := GLN.out; omega) (below_to BW1.out HB6.out).size ?_; intro v7 w7 hg7 hb7)
            | fail)
        have HG8 := Lib.hid hg7
        have HB8 := Lib.hid ((below_to BW1.out HB6.out).trans hb7)
        clear hg7 hb7 hb5 hb6
        go_wp2_with fail
        refine ⟨⟨t + 1, by omega, by go_num, ?_, Lib.hid ?_, HB8⟩, by simp [intOf]; omega⟩
        · rw [HSN.out, List.any_append, HBO.out]
          simp [HMF.out]
        · rw [HSN.out, partAll_snoc, HPF.out]; exact HG8.out
    · obtain rfl : k = t := by omega
      have hbel := HB.out
      have hcx := (hbel.cell (p := ⟨bx, 0, none⟩) hbx).trans CX.out
      have hfz : wo.frozen? ⟨bx, 0, none⟩ = false := (hbel.frozen (p := ⟨bx, 0, none⟩) hbx).trans FZ.out
      have hbr := Nat.lt_of_lt_of_le hbx hbel.size
      have hG2 := HG.out
      rw [List.take_of_length_le (by rw [HK.out]; exact Nat.le_refl _)] at hG2
      have HG2 := Lib.hid hG2
      obtain ⟨A7, c7, rfl, _⟩ := (hG2.fac hbx).open_
      have hbo : F.any (mixF p ys) = bo := by
        have := HBO.out
        rwa [List.take_of_length_le (by rw [HK.out]; exact Nat.le_refl _)] at this
      have HBO2 := Lib.hid hbo
      clear hbel hG2 hbo HG
      go_wp2_with fail
      go_ret
      refine ⟨by rw [HBO2.out]; rfl, _, by apply World.cell?_setCell_same; exact hcx, (HG2.out.fac hbx).grown (grown_set _ _ _ _), grown_store HB.out _ _ _, by rw [World.frozen?_setCell]; exact hfz, HG2.out.fresh⟩
end Go.Proofs.YtnkhhndjbanmnaaGreatDoor

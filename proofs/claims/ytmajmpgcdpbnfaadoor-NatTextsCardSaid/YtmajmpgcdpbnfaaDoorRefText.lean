/- cleaverref01.Text, by its contract. -/
import Derived.Test.YtmajmpgcdpbnfaaDoorTxtOw
namespace Go.Proofs.YtmajmpgcdpbnfaaDoor
open Go.RowKit

theorem Ow.under {w w' : World} {B S g n c : Nat} {xs : List Nat} (h : Ow w B (.slice (some ⟨g, 0, none⟩) n c) xs) (hb : Below S w w') (hg : g < S) : Ow w' B (.slice (some ⟨g, 0, none⟩) n c) xs := by
  obtain ⟨⟨hl, h2⟩, hf⟩ := h
  refine ⟨⟨hl, ?_⟩, hf⟩
  rcases h2 with ⟨e, h0⟩ | ⟨g', cap, cur, e, hb', hh, r⟩
  · exact .inl ⟨e, h0⟩
  · simp only [Value.slice.injEq, Option.some.injEq, Addr.mk.injEq, and_true] at e
    obtain ⟨rfl, rfl, rfl⟩ := e
    exact .inr ⟨g, c, cur, rfl, hb', (hb.block g hg).trans hh, r⟩
theorem OwB.far {w : World} {S g k : Nat} {v : Value} {L : List UInt8} (h : OwB w S v L) (hg : g < S) (u : Value) : OwB (w.setCell ⟨g, k, none⟩ u) S v L := by
  obtain ⟨hl, h2⟩ := h
  refine ⟨hl, ?_⟩
  rcases h2 with ⟨e, h0⟩ | ⟨g', cap, cur, e, hb, hh, r⟩
  · exact .inl ⟨e, h0⟩
  · exact .inr ⟨g', cap, cur, e, hb, (heap_setCell_other w ⟨g, k, none⟩ g' u (by intro e; simp only at e; omega)).trans hh, r⟩
theorem OwB.alloc {w : World} {S : Nat} {v : Value} {L : List UInt8} (h : OwB w S v L) (o : Obj) : OwB (w.alloc o) S v L := World.ownsRow.alloc h o
theorem OwB.lenOf {w : World} {S : Nat} {v : Value} {L : List UInt8} (h : OwB w S v L) : sliceLen v = L.length := by
  obtain ⟨hl, ⟨rfl, e⟩ | ⟨g, cap, cur, rfl, r⟩⟩ := h
  · exact e.symm
  · rfl
theorem OwB.form {w : World} {S : Nat} {v : Value} {L : List UInt8} (h : OwB w S v L) (h0 : 0 < L.length) : ∃ g c, v = .slice (some ⟨g, 0, none⟩) L.length c := by
  obtain ⟨hl, ⟨rfl, e⟩ | ⟨g, cap, cur, rfl, r⟩⟩ := h
  · omega
  · exact ⟨g, cap, rfl⟩

theorem run_appB (w : World) (ty : TypeId) (B : Nat) (v : Value) (L : List UInt8) (hown : OwB w B v L) (v2 : Value) (M : List UInt8) (h2 : OwB w B v2 M) (hmax : L.length + M.length ≤ 17592186044416) (hB : B ≤ w.heap.size) :
    ∃ v' w', (Builtin.append_ #[35, 35] ty #[v, v2]).run Tryd.prog w = .ok v' w' ∧ OwB w' B v' (L ++ M) ∧ Below B w w' := by
  obtain ⟨i0, hi, hz0, hz1, hz2⟩ := info_parts infoB
  obtain ⟨hl2, ⟨rfl, e⟩ | ⟨g, cap, cur, rfl, hb, hh, hn, hc, hs, ht⟩⟩ := h2
  · have hM : M = [] := List.eq_nil_of_length_eq_zero e
    subst hM
    refine ⟨v, w, run_append_owned_none (P := Tryd.prog) (w := w) B 35 ty 5 i0 1 Tryd.underlying35 hi v L.length (L.map u8v) hown, ?_, Below.refl _ _⟩
    simpa using hown
  · have hcells : ∀ j u, (M.map u8v)[j]? = some u → w.cell? ((⟨g, 0, none⟩ : Addr).add j) = some u := by
      intro j u hj
      have hj' : j < M.length := by
        have := (List.getElem?_eq_some_iff.1 hj).1
        simpa using this
      rw [add_add ⟨g, 0, none⟩ j g 0 rfl, Nat.zero_add, cell_of_row w g j cur _ (0, 0) hh]
      rw [← ht, List.getElem?_take_of_lt (by omega)] at hj
      simpa using hj
    obtain ⟨v', w', hrun, h2, h3, _⟩ := run_append_own (P := Tryd.prog) w B 35 ty 5 i0 _ 1 1 Tryd.underlying35 hi hz0 hz1 hz2 rfl (by decide) v L.length (L.map u8v) hown ⟨g, 0, none⟩ M.length cap (M.map u8v)
      (by rw [List.length_map]; omega) hcells (by intro u hu; obtain ⟨x, _, rfl⟩ := List.mem_map.1 hu; rfl) (by unfold maxLen; omega) (by omega) hB
    refine ⟨v', w', hrun, ?_, (Below.refl B w).grown h3 hB (fun k hk => (World.ownsRow.lt hown k hk).1)⟩
    unfold OwB
    rw [List.length_append, List.map_append]
    exact h2

theorem wpList_appB {ops : Array Oper} {rest : List Oper} {o : Oper} {a : Act} {Q : Exit → Act → World → Prop} (w : World) (hgd : o.guard = none) (s x : Operand) (ho : o.op = .call { callee := .builtin .append, args := #[s, x], argTypes := #[35, 35] })
    (B : Nat) (v : Value) (L : List UInt8) (hs : a.eval s = v) (hown : OwB w B v L) (v2 : Value) (M : List UInt8) (hx : a.eval x = v2) (h2 : OwB w B v2 M) (hmax : L.length + M.length ≤ 17592186044416) (hB : B ≤ w.heap.size)
    (h : ∀ v' w', OwB w' B v' (L ++ M) → Below B w w' → wpList Tryd.prog ops Q rest (a.put o.dst v') w') : wpList Tryd.prog ops Q (o :: rest) a w :=
  wpList_plain hgd fun _ hK => by
    obtain ⟨v', w', hrun, h3, h4⟩ := run_appB w o.type B v L hown v2 M h2 hmax hB
    unfold Oper.wp execOp
    simp only [ho, resolve, invoke, builtin, Sem.run_bind, Sem.run_pure, Result.andThen_ok, List.map_toArray, List.map_cons, List.map_nil, hs, hx, hrun]
    exact hK _ _ (h v' w' h3 h4)

theorem d32_dig (v : Nat) : d32 v = dig32 (d32 v).length v := by
  have h := dig32_val (fit32_d32 v)
  rw [val32_d32] at h
  exact h.symm
theorem d32_len_zero {v : Nat} (h : (d32 v).length = 0) : v = 0 := by
  have := val32_d32 v
  rw [List.eq_nil_of_length_eq_zero h] at this
  exact this.symm

theorem digits_more (V j : Nat) : decN (j + 1) V = [UInt8.ofNat (48 + V / 10 ^ j % 10)] ++ decN j V := by
  rw [Nat.add_comm, decN_add]
  simp [decN]

theorem step10 (rr x : Nat) (h1 : rr < 10) (h2 : x < 4294967296) : ∃ sv q r2 : Nat, rr * 4294967296 + x = sv ∧ sv / 10 = q ∧ sv % 10 = r2 ∧ q < 18446744073709551616 ∧ IntKind.u64.wrap ((rr : Int) * 4294967296) = (rr : Int) * 4294967296 ∧ IntKind.u64.wrap ((rr : Int) * 4294967296 + (x : Int)) = (sv : Int) ∧ (sv : Int) / 10 = (q : Int) ∧ (sv : Int) % 10 = (r2 : Int) := by
  refine ⟨_, _, _, rfl, rfl, rfl, by omega, ?_, ?_, by omega, by omega⟩
  · rw [IntKind.wrap_u64]; omega
  · rw [IntKind.wrap_u64]; omega

set_option maxHeartbeats 4000000 in
theorem refText_at (A : Option Addr) (n c : Nat) (xs : List Nat) (w : World) (h : Sl w A n c xs) (hn : n ≤ 4096) :
    Calls Tryd.prog 9 #[.slice A n c] w fun e w' => e = .returned (.string ⟨(txt (val xs)).toArray⟩) ∧ Below w.heap.size w w' := by
  have hxl := val_lt h.fit
  rw [← h.len] at hxl
  have TD := Lib.hid (fun W (hb : Below w.heap.size w W) => digits_any A n c xs W (h.below hb) (by omega))
  obtain ⟨V, hV⟩ : ∃ V, V = val xs := ⟨_, rfl⟩
  rw [← hV] at TD hxl ⊢
  have HVL := Lib.hid hxl
  clear h hV hxl
  go_enter Tryd.func9, Tryd.ntmps9
  go_wp2_with fail
  have hal : Below w.heap.size w (w.alloc (.cells #[] 32)) := (Below.refl _ _).alloc (Nat.le_refl _) _
  have hnew : Ow (w.alloc (.cells #[] 32)) w.heap.size (.slice (some ⟨w.heap.size, 0, none⟩) 0 0) [] :=
    ⟨World.ownsRow_made w #[] 0 (Nat.le_refl _) (by unfold maxLen; omega) rfl, fit_nil⟩
  refine (TD.out _ hal).mono ?_
  rintro e w1 ⟨B, m, d, rfl, hsd, hm2, hb1⟩
  have ho0 := hnew.under hb1 (by simp)
  have hbw1 := hal.trans (hb1.mono hal.size)
  have hsw1 := hbw1.size
  clear hnew hb1 hal TD
  go_wp2_with (at_builtin; refine wpList_app _ rfl (.tmp 8) (.tmp 10) rfl w.heap.size _ [] rfl ho0 B m d rfl (d32 V) hsd (by simp; omega) (by omega) ?_; intro v1 w2 ho1 hb2)
  rw [List.nil_append] at ho1
  have hlen1 := ho1.lenOf
  have hbw2 := hbw1.trans hb2
  have hstart : ∃ A1 k c1, v1 = .slice A1 k c1 ∧ k = (d32 V).length ∧ (∀ g, A1 = some ⟨g, 0, none⟩ → g < w2.heap.size) := by
    by_cases h0 : 0 < (d32 V).length
    · obtain ⟨g, c1, hv, _, hgl, _, _⟩ := ho1.posAddr h0
      exact ⟨_, _, c1, hv, rfl, fun g' e => by simp only [Option.some.injEq, Addr.mk.injEq, and_true] at e; omega⟩
    · obtain ⟨A1, c1, hv, hs, _⟩ := ho1.sl
      rcases A1 with _ | ad
      · exact ⟨none, _, c1, hv, rfl, fun g e => by cases e⟩
      · obtain ⟨⟨hl, h2⟩, hf⟩ := ho1
        rcases h2 with ⟨e, _⟩ | ⟨g, cap, cur, e, hb, hh, r⟩
        · rw [hv] at e; cases e
        · exact ⟨_, _, cap, e, rfl, fun g' e' => by simp only [Option.some.injEq, Addr.mk.injEq, and_true] at e'; rw [← e']; exact (Array.getElem?_eq_some_iff.1 hh).1⟩
  obtain ⟨A1, k0, c1, rfl, hk0, hg0⟩ := hstart
  have HSW := Lib.hid hbw2.size
  have HO1 := Lib.hid ho1
  have HBW2 := Lib.hid hbw2
  have HK0 := Lib.hid hk0
  have HG0 := Lib.hid hg0
  clear ho1 hb2 hbw1 hbw2 hk0 hg0 hlen1 ho0 hsd hsw1
  go_wp2_with fail
  go_loopw [3, 4] (fun xv ov wr => ∃ (j : Nat) (A1 : Option Addr) (k c1 : Nat), xv = .slice A1 k c1 ∧ k = (d32 (V / 10 ^ j)).length ∧ Ow wr w.heap.size (.slice A1 k c1) (d32 (V / 10 ^ j)) ∧ (∀ g, A1 = some ⟨g, 0, none⟩ → g < w2.heap.size) ∧ OwB wr w2.heap.size ov (decN j V) ∧ (j = 0 ∨ 10 ^ (j - 1) ≤ V) ∧ Below w.heap.size w wr ∧ w2.heap.size ≤ wr.heap.size) (fun _ ov _ => 20 * n + 1 - sliceLen ov)
  case atStart => exact ⟨0, A1, k0, c1, rfl, by rw [Nat.pow_zero, Nat.div_one]; exact HK0.out, by rw [Nat.pow_zero, Nat.div_one]; exact HO1.out, HG0.out, OwB.nil _ _, .inl rfl, HBW2.out, Nat.le_refl _⟩
  case round =>
    obtain ⟨j, A1, k, c1, rfl, hk, hown, hgS, hout, hj, hbw, hsz⟩ := hrel
    clear HO1 HBW2 HK0 HG0
    obtain ⟨X, hX⟩ : ∃ X, X = V / 10 ^ j := ⟨_, rfl⟩
    rw [← hX] at hk hown
    have hlo := hout.lenOf
    rw [decN_length] at hlo
    by_cases hk0 : 0 < k
    · obtain ⟨g, c', hge, hgB, hgl, hcc, hcm⟩ := hown.posAddr (by omega)
      obtain ⟨rfl, -, rfl⟩ : A1 = some ⟨g, 0, none⟩ ∧ k = (d32 X).length ∧ c1 = c' := by simpa using hge
      have hgS' := hgS g rfl
      have hX0 : X ≠ 0 := by
        intro e
        rw [e, d32_zero] at hk
        simp at hk
        omega
      have hdg := d32_dig X
      rw [← hk] at hdg
      rw [hdg] at hown
      have hXb : X < 4294967296 ^ k := by
        have := val32_lt (fit32_d32 X)
        rw [val32_d32, ← hk] at this
        exact this
      have hVj : 10 ^ j ≤ V := by
        rcases Nat.lt_or_ge V (10 ^ j) with h | h
        · exact absurd (by rw [hX]; exact Nat.div_eq_of_lt h) hX0
        · exact h
      have hjn : j < 20 * n := by
        have h1 := HVL.out
        have h2 : 18446744073709551616 ^ n ≤ (10 ^ 20) ^ n := Nat.pow_le_pow_left (by decide) _
        rw [← Nat.pow_mul] at h2
        exact (Nat.pow_lt_pow_iff_right (by decide : 1 < 10)).1 (by omega)
      have hstart : dlW X 10 k = X := by
        unfold dlW
        rw [Nat.div_eq_of_lt hXb, Nat.zero_div, Nat.zero_mul, Nat.zero_add, Nat.mod_eq_of_lt hXb]
      have hkc : k ≤ c1 := by omega
      rw [← hstart] at hown
      have HOWN := Lib.hid hown
      have HOUT := Lib.hid hout
      have HBW := Lib.hid hbw
      have HX := Lib.hid hX
      have HXB := Lib.hid hXb
      have HVJ := Lib.hid hVj
      have HK := Lib.hid hk
      have HLO := Lib.hid hlo
      have k1 : (0 : Int) < (k : Int) := by omega
      have hsz' := hsz
      clear hown hout hbw hX hXb hVj hk hlo hdg hstart hge hgS hcc hj hX0
      go_wp2_with fail
      go_loopw [6, 5] (fun iv rv wq => ∃ t rr : Nat, t ≤ k ∧ iv = .int .i64 ((t : Int) - 1) ∧ rv = .int .u64 (rr : Int) ∧ rr = X / 4294967296 ^ t % 10 ∧ Ow wq w.heap.size (.slice (some ⟨g, 0, none⟩) k c1) (dig32 k (dlW X 10 t)) ∧ OwB wq w2.heap.size u4 (decN j V) ∧ Below w.heap.size w wq ∧ w2.heap.size ≤ wq.heap.size) (fun iv _ _ => (intOf iv + 1).toNat)
      case atStart => exact ⟨k, 0, Nat.le_refl _, rfl, rfl, by rw [Nat.div_eq_of_lt HXB.out, Nat.zero_mod], HOWN.out, HOUT.out, HBW.out, hsz⟩
      case round =>
        obtain ⟨t, rr, ht, rfl, rfl, hrr, hown, hout, hbw, hsz2⟩ := hrel
        clear HOWN HOUT HBW hsz hsz'
        by_cases ht0 : 0 < t
        · obtain ⟨i, rfl⟩ : ∃ i, t = i + 1 := ⟨t - 1, by omega⟩
          have hii : (((i + 1 : Nat) : Int) - 1) = (i : Int) := by omega
          rw [hii]
          have hlen := dig32_length k (dlW X 10 (i + 1))
          have hc := hown.cellD hlen.symm i (by rw [hlen]; omega)
          rw [dig32_getD _ _ _ (by omega), dlW_limb] at hc
          have hf := hown.frozenAt hlen.symm i
          obtain ⟨x, hx⟩ : ∃ x, x = X / 4294967296 ^ i % 4294967296 := ⟨_, rfl⟩
          rw [← hx] at hc
          have hxb : x < 4294967296 := by rw [hx]; exact Nat.mod_lt _ (by decide)
          have hrb : rr < 10 := by rw [hrr]; exact Nat.mod_lt _ (by decide)
          obtain ⟨s1, s2, s3⟩ := dlW_step X 10 i x _ rr (by decide) hx rfl hrr
          have hds := dig32_set k (dlW X 10 (i + 1)) (dlW X 10 i) i (by omega) (by rw [dlW_mod _ _ _ _ (Nat.le_refl _), dlW_mod _ _ _ _ (Nat.le_succ _)]) s3
          rw [s1] at hds
          obtain ⟨sv, q, r2, hsv, hq, hr2, hqb, f1, f2, f3, f4⟩ := step10 rr x hrb hxb
          rw [hsv, hq] at hds
          rw [hsv, hr2] at s2
          have hset := hown.stored hlen.symm i q hqb
          rw [hds] at hset
          have hout2 := hout.far (k := i) hgS' (u64v q)
          have hbw2 := hbw.setCell (p := ⟨g, i, none⟩) hgB (u64v q)
          have i1 : (0 : Int) ≤ (i : Int) := by omega
          have i2 : (i : Int) < (k : Int) := by omega
          have HSET := Lib.hid hset
          have HOUT := Lib.hid hout2
          have HBW := Lib.hid hbw2
          have HS2 := Lib.hid s2
          have hin : i < k := by omega
          clear hset hout2 hbw2 s1 s2 s3 hds hown hout hbw hlen hx hrr hii hsv hq hr2 ht0
          go_wp2_with fail
          go_roundw
          case rel => exact ⟨i, r2, by omega, rfl, by rw [f4], HS2.out.symm, HSET.out, HOUT.out, HBW.out, by simpa using hsz2⟩
          case measure => simp [intOf]
        · obtain rfl : t = 0 := by omega
          rw [Nat.pow_zero, Nat.div_one] at hrr
          have e0 : dlW X 10 0 = X / 10 := by unfold dlW; rw [Nat.pow_zero, Nat.div_one, Nat.mul_one, Nat.mod_one, Nat.add_zero]
          rw [e0] at hown
          have hX1 : X / 10 = V / 10 ^ (j + 1) := by rw [HX.out, Nat.div_div_eq_div_mul, ← Nat.pow_succ]
          have hXl : X / 10 < 4294967296 ^ k := Nat.lt_of_le_of_lt (Nat.div_le_self _ _) HXB.out
          obtain ⟨A', c', he, hs, _⟩ := hown.sl
          rw [dig32_length] at he hs
          obtain ⟨rfl, rfl⟩ : (some ⟨g, 0, none⟩ : Option Addr) = A' ∧ c1 = c' := by simpa using he
          have T := cut_any _ k c1 _ wr hs
          have hle := nrm_length_le hs.fit
          have eN : nrm (val (dig32 k (X / 10))) = d32 (X / 10) := by rw [nrm_val_eq_tz hs.fit, tz_eq_d32 (fit32_dig32 _ _), val32_dig32_of_lt hXl]
          rw [eN] at T hle
          rw [dig32_length] at hle
          obtain ⟨k2, hk2⟩ : ∃ k2, k2 = (d32 (X / 10)).length := ⟨_, rfl⟩
          rw [← hk2] at T hle
          have hcut := hown.cutTo (dig32_length k (X / 10)).symm k2 hle
          have eD : (dig32 k (X / 10)).take k2 = d32 (X / 10) := by rw [dig32_take _ _ _ hle, d32_dig (X / 10), ← hk2]
          rw [eD, hX1] at hcut
          rw [hX1] at hk2
          have hrb : rr < 10 := by rw [hrr]; exact Nat.mod_lt _ (by decide)
          have hmore := digits_more V j
          rw [← HX.out, ← hrr] at hmore
          have g1 : IntKind.u64.wrap (48 + (rr : Int)) = 48 + (rr : Int) := by rw [IntKind.wrap_u64]; omega
          have g2 : IntKind.u8.wrap (48 + (rr : Int)) = 48 + (rr : Int) := by rw [IntKind.wrap_u8]; omega
          have hlit : OwB (wr.alloc (.cells #[.int .u8 (48 + (rr : Int))] 5)) w2.heap.size (.slice (some ⟨wr.heap.size, 0, none⟩) 1 1) [UInt8.ofNat (48 + rr)] := by
            have h := OwB.lit wr w2.heap.size [UInt8.ofNat (48 + rr)] hsz2 (by simp)
            simp only [List.map_cons, List.map_nil, List.length_singleton] at h
            unfold u8v at h
            rw [dig_toNat rr hrb] at h
            exact h
          have TT := Lib.hid T
          have HCUT := Lib.hid (hcut.under (Below.refl w2.heap.size wr) hgS')
          have HALL := Lib.hid ((Below.refl w2.heap.size wr).alloc hsz2 (.cells #[.int .u8 (48 + (rr : Int))] 5))
          have HOUT := Lib.hid (hout.alloc (.cells #[.int .u8 (48 + (rr : Int))] 5))
          have HLIT := Lib.hid hlit
          have HBW := Lib.hid hbw
          have HK2 := Lib.hid hk2
          have HMORE := Lib.hid hmore
          clear T hcut hout hlit hbw hk2 hmore hown eD eN hs he hrr e0 hX1 hXl ht0
          go_wp2_with (first
            | (go_at_call 20; refine TT.out.mono ?_; rintro e w' ⟨rfl, rfl⟩)
            | (at_builtin; refine wpList_appB _ rfl (.tmp 41) (.tmp 42) rfl w2.heap.size _ [UInt8.ofNat (48 + rr)] rfl HLIT.out u4 (decN j V) rfl HOUT.out (by rw [decN_length]; simp; omega) (by simp; omega) ?_; intro v3 w3 ho3 hb3))
          rw [← HMORE.out] at ho3
          have hl3 := ho3.lenOf
          rw [decN_length] at hl3
          have hb4 := HALL.out.trans hb3
          have hown3 := HCUT.out.under hb4 hgS'
          have hbw3 := HBW.out.trans (hb4.mono (Nat.le_trans HSW.out (Nat.le_refl _)))
          go_roundw
          case rel => exact ⟨j + 1, some ⟨g, 0, none⟩, k2, c1, rfl, HK2.out, hown3, (fun g' e => by simp only [Option.some.injEq, Addr.mk.injEq, and_true] at e; omega), ho3, .inr HVJ.out, hbw3, Nat.le_trans hsz2 hb4.size⟩
          case measure => rw [hl3, HLO.out]; omega
    · have hX0 : X = 0 := d32_len_zero (by omega)
      have hVj : V < 10 ^ j := by
        rcases Nat.lt_or_ge V (10 ^ j) with h | h
        · exact h
        · have : 1 ≤ V / 10 ^ j := (Nat.le_div_iff_mul_le (Nat.pow_pos (by decide))).2 (by omega)
          omega
      obtain rfl : k = 0 := by omega
      have HBW := Lib.hid hbw
      rcases Nat.eq_zero_or_pos j with rfl | hj0
      · have hV0 : V = 0 := by simpa using hVj
        subst hV0
        obtain ⟨hl, ⟨rfl, e⟩ | ⟨go, cap, cur, rfl, r⟩⟩ := hout
        · clear hl e hown hgS hX hk hbw hj hVj
          go_wp2_with fail
          go_ret
          exact ⟨rfl, HBW.out⟩
        · clear hl r hown hgS hX hk hbw hj hVj
          have e0 : (decN 0 0).length = 0 := rfl
          rw [e0]
          go_wp2_with fail
          go_ret
          exact ⟨rfl, HBW.out⟩
      · obtain ⟨go, co, rfl⟩ := hout.form (by rw [decN_length]; exact hj0)
        have hstr := hout.str rfl
        rw [decN_length] at hstr ⊢
        have htop : decN j V = txt V := by
          obtain ⟨j', rfl⟩ : ∃ j', j = j' + 1 := ⟨j - 1, by omega⟩
          refine txt_top j' V ?_ hVj
          rcases hj with h | h
          · omega
          · simpa using h
        rw [htop] at hstr
        have hjn : ((j : Int) == 0) = false := by simp; omega
        clear hown hgS hX hk hbw hj hVj htop hout
        go_wp2_with fail
        go_ret
        exact ⟨rfl, HBW.out⟩
end Go.Proofs.YtmajmpgcdpbnfaaDoor

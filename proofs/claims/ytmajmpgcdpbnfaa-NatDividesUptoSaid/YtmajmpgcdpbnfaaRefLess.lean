/- cleaverref01.less, Sub, Cmp, Bits, by their contracts. -/
import Derived.Test.YtmajmpgcdpbnfaaRefSum
namespace Go.Proofs.Ytmajmpgcdpbnfaa
open Go.RowKit

/-- The relation of less' loop: what is left, and whether one must still be taken. -/
def LessIn (xs ys L : List Nat) (k c : Nat) : Prop := L.length = k ∧ Fit32 L ∧ c ≤ 1 ∧ val32 (xs.take k) + 4294967296 ^ k * c = val32 L + val32 (ys.take k)
theorem lessIn_step {xs ys L : List Nat} {k c : Nat} (h : LessIn xs ys L k c) (hx : Fit32 xs) (hy : Fit32 ys) :
    LessIn xs ys (L ++ [(xs.getD k 0 + 4294967296 - ys.getD k 0 - c) % 4294967296]) (k + 1) (1 - (xs.getD k 0 + 4294967296 - ys.getD k 0 - c) / 4294967296) := by
  obtain ⟨h1, h2, h3, h4⟩ := h
  have f1 := fit32_getD hx k
  have f2 := fit32_getD hy k
  refine ⟨by simp [h1], fit32_snoc h2 (Nat.mod_lt _ (by decide)), by omega, ?_⟩
  rw [val32_snoc, h1, val32_take_getD, val32_take_getD, Nat.pow_succ]
  generalize xs.getD k 0 = x at *
  generalize ys.getD k 0 = y at *
  have hd : x + 4294967296 * (1 - (x + 4294967296 - y - c) / 4294967296) = (x + 4294967296 - y - c) % 4294967296 + y + c := by omega
  generalize (x + 4294967296 - y - c) % 4294967296 = r at *
  generalize 1 - (x + 4294967296 - y - c) / 4294967296 = q at *
  generalize 4294967296 ^ k = p at *
  have e : p * (x + 4294967296 * q) = p * (r + y + c) := by rw [hd]
  grind
theorem lessIn_end {xs ys L : List Nat} {c : Nat} (h : LessIn xs ys L xs.length c) (hl : ys.length ≤ xs.length) (hle : val32 ys ≤ val32 xs) : val32 L = val32 xs - val32 ys := by
  obtain ⟨h1, hf, hc, hv⟩ := h
  rw [List.take_of_length_le (Nat.le_refl _), List.take_of_length_le hl] at hv
  have a1 := val32_lt hf
  rw [h1] at a1
  generalize 4294967296 ^ xs.length = p at *
  rcases Nat.lt_or_ge c 1 with h | h
  · have h0 : c = 0 := by omega
    rw [h0, Nat.mul_zero, Nat.add_zero] at hv
    omega
  · have h1 : c = 1 := by omega
    rw [h1, Nat.mul_one] at hv
    omega

theorem d32_lt (v : Nat) : v < 4294967296 ^ (d32 v).length := by
  have := val32_lt (fit32_d32 v)
  rwa [val32_d32] at this
theorem d32_ge (v : Nat) (h : v ≠ 0) : 4294967296 ^ ((d32 v).length - 1) ≤ v := by
  induction v using Nat.strongRecOn with
  | ind v ih =>
    rw [d32_pos v h, List.length_cons, Nat.add_sub_cancel]
    by_cases h0 : v / 4294967296 = 0
    · rw [h0, d32_zero]; simp; omega
    · have h1 := ih (v / 4294967296) (by omega) h0
      have hp : 0 < (d32 (v / 4294967296)).length := by rw [d32_pos _ h0]; simp
      have e : 4294967296 ^ (d32 (v / 4294967296)).length = 4294967296 ^ ((d32 (v / 4294967296)).length - 1) * 4294967296 := by rw [← Nat.pow_succ]; congr 1; omega
      rw [e]
      have := Nat.mul_le_mul_right 4294967296 h1
      omega
theorem d32_len_le {u v : Nat} (h : u ≤ v) : (d32 u).length ≤ (d32 v).length := by
  rcases Nat.lt_or_ge (d32 v).length (d32 u).length with h1 | h1
  · have hu : u ≠ 0 := by intro e; rw [e, d32_zero] at h1; simp at h1
    have h2 := d32_ge u hu
    have h3 := d32_lt v
    have h4 : 4294967296 ^ (d32 v).length ≤ 4294967296 ^ ((d32 u).length - 1) := Nat.pow_le_pow_right (by decide) (by omega)
    omega
  · exact h1

set_option maxHeartbeats 2000000 in
theorem less_any (A B : Option Addr) (n c n' c' : Nat) (xs ys : List Nat) (w : World) (h : Sl w A n c xs) (h' : Sl w B n' c' ys) (hx : Fit32 xs) (hy : Fit32 ys) (hn : n ≤ 4398046511104) (hl : n' ≤ n) (hle : val32 ys ≤ val32 xs) :
    Calls Try.prog 34 #[.slice A n c, .slice B n' c'] w fun e w' =>
      ∃ C m d, e = .returned (.slice C m d) ∧ Sl w' C m d (d32 (val32 xs - val32 ys)) ∧ m ≤ n ∧ (∀ b o s, C = some ⟨b, o, s⟩ → w.heap.size ≤ b) ∧ Below w.heap.size w w' := by
  have HX := Lib.hid h
  have HY := Lib.hid h'
  have HFX := Lib.hid hx
  have HFY := Lib.hid hy
  have HLE := Lib.hid hle
  have hcl := h.le
  have hcm := h.max
  clear h h' hx hy hle
  go_enter Try.func34, Try.ntmps34
  go_wp2_with fail
  go_loopw [7, 5, 6] (fun i v cr wr => ∃ k cc : Nat, k ≤ n ∧ i = .int .i64 k ∧ cr = u64v cc ∧ ∃ L, Ow wr w.heap.size v L ∧ LessIn xs ys L k cc ∧ Below w.heap.size w wr) (fun i _ _ _ => n - (intOf i).toNat)
  case atStart => exact ⟨0, 0, Nat.zero_le _, rfl, rfl, [], Ow.nil _ _, ⟨rfl, fit32_nil, by decide, by simp [val32]⟩, Below.refl _ _⟩
  case round =>
    obtain ⟨k, cc, hk, rfl, rfl, L, hL, hIn, hbel⟩ := hrel
    by_cases hlt : k < n
    · have c1 := at_any A n c xs k wr (HX.out.below hbel)
      have c2 := at_any B n' c' ys k wr (HY.out.below hbel)
      have hst := lessIn_step hIn HFX.out HFY.out
      have f1 := fit32_getD HFX.out k
      have f2 := fit32_getD HFY.out k
      have f3 := hIn.2.2.1
      have hll : L.length = k := hIn.1
      generalize xs.getD k 0 = x at *
      generalize ys.getD k 0 = y at *
      obtain ⟨D, hD⟩ : ∃ D, D = x + 4294967296 - y - cc := ⟨_, rfl⟩
      rw [← hD] at hst
      have e1 : IntKind.u64.wrap ((x : Int) + 4294967296) = (x : Int) + 4294967296 := by rw [IntKind.wrap_u64]; omega
      have e2 : IntKind.u64.wrap ((x : Int) + 4294967296 - (y : Int)) = (x : Int) + 4294967296 - (y : Int) := by rw [IntKind.wrap_u64]; omega
      have e3 : IntKind.u64.wrap ((x : Int) + 4294967296 - (y : Int) - (cc : Int)) = (D : Int) := by rw [IntKind.wrap_u64]; omega
      have e4 : (x : Int) + 4294967296 - (y : Int) - (cc : Int) = (D : Int) := by omega
      have hD2 : D < 8589934592 := by omega
      have hand := and32 D (by omega)
      have hN := (blk_list wr [D % 4294967296] (fit_cons (by omega) fit_nil)).sl (by simp)
      have HN := Lib.hid hN
      have HO := Lib.hid hL
      have HST := Lib.hid hst
      have C1 := Lib.hid c1
      have C2 := Lib.hid c2
      have HB := Lib.hid hbel
      have hsz2 := hbel.size
      have HLL := Lib.hid hll
      have E3 := Lib.hid e3
      have E4 := Lib.hid e4
      clear hN hL hst c1 c2 hbel hIn hll hD
      clear e1 e2 e3
      go_wp2_with (first
        | (go_at_call 37; (with_reducible refine C1.out.mono ?_); rintro e w' ⟨rfl, rfl⟩)
        | (go_at_call 37; (with_reducible refine C2.out.mono ?_); rintro e w' ⟨rfl, rfl⟩)
        | (at_builtin; refine wpList_app _ rfl (.tmp 25) (.tmp 28) rfl w.heap.size _ _ rfl (HO.out.alloc _) (some ⟨wr.heap.size, 0, none⟩) 1 1 rfl [D % 4294967296] HN.out (by rw [HLL.out]; omega) (by simp; omega) ?_; intro v1 w3 ho1 hb3))
      have hb4 : Below w.heap.size w w3 := (HB.out.alloc hsz2 _).trans hb3
      clear hb3
      go_roundw
      case rel => exact ⟨k + 1, 1 - D / 4294967296, by omega, by go_num, by show Value.int .u64 _ = Value.int .u64 _; congr 1; omega, _, ho1, HST.out, hb4⟩
      case measure => simp [intOf]; omega
    · obtain rfl : k = n := by omega
      have hnx := HX.out.len
      have hv := lessIn_end (by rw [← hnx]; exact hIn) (by rw [← hnx, ← HY.out.len]; exact hl) HLE.out
      obtain ⟨A', d, rfl, hs, hap⟩ := hL.sl
      have HAP := Lib.hid hap
      clear hap
      have T := cut_any A' _ d L wr hs
      have hpl := hs.plain
      have hle2 := nrm_length_le hs.fit
      have e1 : nrm (val L) = d32 (val32 xs - val32 ys) := by rw [nrm_val_eq_tz hs.fit, tz_eq_d32 hIn.2.1, hv]
      rw [hIn.1] at hle2
      rw [e1] at T hpl hle2
      rw [hIn.1] at T ⊢
      generalize (d32 (val32 xs - val32 ys)).length = m at *
      have TT := Lib.hid T
      have HS := Lib.hid hpl
      clear T hpl hs e1 hL hIn hv hnx
      go_wp2_with (go_at_call 44; refine TT.out.mono ?_; rintro e w' ⟨rfl, rfl⟩)
      go_ret
      exact ⟨A', m, d, rfl, HS.out, hle2, HAP.out, hbel⟩

theorem cmpN_eq (a b : Nat) : cmpN a b = -1 ∧ a < b ∨ 0 ≤ cmpN a b ∧ b ≤ a := by
  unfold cmpN
  split
  · exact .inl ⟨rfl, by assumption⟩
  · refine .inr ⟨?_, by omega⟩
    split <;> omega

set_option maxHeartbeats 1000000 in
theorem refCmp_any (A B : Option Addr) (n c n' c' : Nat) (xs ys : List Nat) (w : World) (h : Sl w A n c xs) (h' : Sl w B n' c' ys) (hn : n ≤ 1099511627776) (hn' : n' ≤ 1099511627776) :
    Calls Try.prog 16 #[.slice A n c, .slice B n' c'] w fun e w' => e = .returned (.int .i64 (cmpN (val xs) (val ys))) ∧ Below w.heap.size w w' := by
  have H := Lib.hid h
  have H' := Lib.hid h'
  clear h h'
  go_enter Try.func16, Try.ntmps16
  go_wp2_with fail
  refine (digits_any A n c xs w H.out (by omega)).mono ?_
  rintro e w1 ⟨X, p, d1, rfl, hX, hp, hb1⟩
  go_wp2_with fail
  refine (digits_any B n' c' ys w1 (H'.out.below hb1) (by omega)).mono ?_
  rintro e w2 ⟨Y, q, d2, rfl, hY, hq, hb2⟩
  have hX2 := hX.below hb2
  have hb12 : Below w.heap.size w w2 := hb1.trans (hb2.mono hb1.size)
  have T := compare_any X Y p d1 q d2 _ _ w2 hX2 hY (fit32_d32 _) (fit32_d32 _)
  rw [val32_d32, val32_d32] at T
  clear hX hb1 hb2
  go_wp2_with fail
  refine T.mono ?_
  rintro e w' ⟨rfl, rfl⟩
  clear T
  go_wp2_with fail
  go_ret
  exact ⟨rfl, hb12⟩

/-- What Sub answers: the limbs, the error. -/
def subL (u v : Nat) : List Nat := if u < v then [] else nrm (u - v)
def subE (u v : Nat) : Int := if u < v then 1 else 0
theorem subL_lt {u v : Nat} (h : u < v) : subL u v = [] := if_pos h
theorem subL_ge {u v : Nat} (h : v ≤ u) : subL u v = nrm (u - v) := if_neg (by omega)
theorem subE_lt {u v : Nat} (h : u < v) : subE u v = 1 := if_pos h
theorem subE_ge {u v : Nat} (h : v ≤ u) : subE u v = 0 := if_neg (by omega)

set_option maxHeartbeats 1000000 in
theorem refSub_any (A B : Option Addr) (n c n' c' : Nat) (xs ys : List Nat) (w : World) (h : Sl w A n c xs) (h' : Sl w B n' c' ys) (hn : n ≤ 1099511627776) (hn' : n' ≤ 1099511627776) :
    Calls Try.prog 11 #[.slice A n c, .slice B n' c'] w fun e w' =>
      ∃ C m d er, e = .returned (.tuple #[.slice C m d, .int .i64 er]) ∧ Sl w' C m d (subL (val xs) (val ys)) ∧ er = subE (val xs) (val ys) ∧ Below w.heap.size w w' := by
  have H := Lib.hid h
  have H' := Lib.hid h'
  clear h h'
  go_enter Try.func11, Try.ntmps11
  go_wp2_with fail
  refine (digits_any A n c xs w H.out (by omega)).mono ?_
  rintro e w1 ⟨X, p, d1, rfl, hX, hp, hb1⟩
  go_wp2_with fail
  refine (digits_any B n' c' ys w1 (H'.out.below hb1) (by omega)).mono ?_
  rintro e w2 ⟨Y, q, d2, rfl, hY, hq, hb2⟩
  have hX2 := hX.below hb2
  have hb12 : Below w.heap.size w w2 := hb1.trans (hb2.mono hb1.size)
  have T := compare_any X Y p d1 q d2 _ _ w2 hX2 hY (fit32_d32 _) (fit32_d32 _)
  rw [val32_d32, val32_d32] at T
  have hcase := cmpN_eq (val xs) (val ys)
  generalize cmpN (val xs) (val ys) = r at *
  have TT := Lib.hid T
  have HX := Lib.hid hX2
  have HY := Lib.hid hY
  have HB := Lib.hid hb12
  have hszw := hb12.size
  clear hX hX2 hY hb1 hb2 hb12 T
  rcases hcase with ⟨hr, hlt⟩ | ⟨hr, hle⟩
  · subst hr
    have HLT := Lib.hid hlt
    clear hlt
    go_wp2_with (go_at_call 32; refine TT.out.mono ?_; rintro e w' ⟨rfl, rfl⟩)
    go_ret2
    exact ⟨none, 0, 0, 1, rfl, by rw [subL_lt HLT.out]; exact ⟨rfl, Nat.le_refl _, by decide, fun _ => rfl, Rd.nil _ _⟩, by rw [subE_lt HLT.out], HB.out⟩
  · have T2 := less_any X Y p d1 q d2 _ _ w2 HX.out HY.out (fit32_d32 _) (fit32_d32 _) (by omega) (by rw [HX.out.len, HY.out.len]; exact d32_len_le hle) (by rw [val32_d32, val32_d32]; exact hle)
    rw [val32_d32, val32_d32] at T2
    have HLE := Lib.hid hle
    have TT2 := Lib.hid T2
    clear hle T2
    go_wp2_with (first
      | (go_at_call 32; refine TT.out.mono ?_; rintro e w' ⟨rfl, rfl⟩)
      | (go_at_call 34; refine TT2.out.mono ?_; rintro e w3 ⟨C, m, d, rfl, hs, hm, -, hb3⟩)
      | (go_at_call 33; refine (limbs_any C m d _ w3 hs (fit32_d32 _) (by omega)).mono ?_; rintro e w4 ⟨C2, m2, d2', rfl, hs2, hb4⟩))
    go_ret2
    rw [val32_d32] at hs2
    exact ⟨C2, m2, d2', 0, rfl, by rw [subL_ge HLE.out]; exact hs2, by rw [subE_ge HLE.out], HB.out.trans ((hb3.trans (hb4.mono hb3.size)).mono hszw)⟩
end Go.Proofs.Ytmajmpgcdpbnfaa

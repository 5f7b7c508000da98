/- cleaverref01.Add, less, Sub, Cmp, by their contracts. -/
import Derived.Test.YtmajmpgcdpbnfaaRefAdd
namespace Go.Proofs.Ytmajmpgcdpbnfaa
open Go.RowKit

theorem fit32_snoc {L : List Nat} {u : Nat} (h : Fit32 L) (hu : u < 4294967296) : Fit32 (L ++ [u]) := fit32_append h (fit32_cons hu fit32_nil)
theorem val32_snoc (L : List Nat) (u : Nat) : val32 (L ++ [u]) = val32 L + 4294967296 ^ L.length * u := by rw [val32_append, val32_cons, val32_nil]; simp

/-- The relation of Add's loop. -/
def SumIn (xs ys L : List Nat) (k c : Nat) : Prop := L.length = k ∧ Fit32 L ∧ c ≤ 1 ∧ val32 L + 4294967296 ^ k * c = val32 (xs.take k) + val32 (ys.take k)
theorem sumIn_step {xs ys L : List Nat} {k c : Nat} (h : SumIn xs ys L k c) (hx : Fit32 xs) (hy : Fit32 ys) :
    SumIn xs ys (L ++ [(xs.getD k 0 + ys.getD k 0 + c) % 4294967296]) (k + 1) ((xs.getD k 0 + ys.getD k 0 + c) / 4294967296) := by
  obtain ⟨h1, h2, h3, h4⟩ := h
  have f1 := fit32_getD hx k
  have f2 := fit32_getD hy k
  refine ⟨by simp [h1], fit32_snoc h2 (Nat.mod_lt _ (by decide)), by omega, ?_⟩
  rw [val32_snoc, h1, val32_take_getD, val32_take_getD, Nat.pow_succ]
  generalize xs.getD k 0 = x at *
  generalize ys.getD k 0 = y at *
  have hdm : (x + y + c) % 4294967296 + 4294967296 * ((x + y + c) / 4294967296) = x + y + c := Nat.mod_add_div _ _
  generalize (x + y + c) % 4294967296 = r at *
  generalize (x + y + c) / 4294967296 = q at *
  generalize 4294967296 ^ k = p at *
  have e : p * (r + 4294967296 * q) = p * (x + y + c) := by rw [hdm]
  grind
theorem sumIn_end {xs ys L : List Nat} {K c : Nat} (h : SumIn xs ys L K c) (hx : Fit32 xs) (hy : Fit32 ys) (h1 : xs.length < K) (h2 : ys.length < K) : val32 L = val32 xs + val32 ys := by
  obtain ⟨_, hf, hc, hv⟩ := h
  rw [List.take_of_length_le (by omega), List.take_of_length_le (by omega)] at hv
  have a1 := val32_lt hx
  have a2 := val32_lt hy
  have b1 : 4294967296 ^ xs.length ≤ 4294967296 ^ (K - 1) := Nat.pow_le_pow_right (by decide) (by omega)
  have b2 : 4294967296 ^ ys.length ≤ 4294967296 ^ (K - 1) := Nat.pow_le_pow_right (by decide) (by omega)
  have e : 4294967296 ^ K = 4294967296 ^ (K - 1) * 4294967296 := by rw [← Nat.pow_succ]; congr 1; omega
  rw [e] at hv
  generalize 4294967296 ^ (K - 1) = p at *
  have hc0 : c = 0 := by
    rcases Nat.lt_or_ge c 1 with h | h
    · omega
    · have h1 : c = 1 := by omega
      rw [h1, Nat.mul_one] at hv
      omega
  rw [hc0, Nat.mul_zero, Nat.add_zero] at hv
  exact hv

set_option maxHeartbeats 2000000 in
theorem refAdd_any (A B : Option Addr) (n c n' c' : Nat) (xs ys : List Nat) (w : World) (h : Sl w A n c xs) (h' : Sl w B n' c' ys) (hn : n ≤ 1099511627776) (hn' : n' ≤ 1099511627776) :
    Calls Try.prog 14 #[.slice A n c, .slice B n' c'] w fun e w' =>
      ∃ C m d, e = .returned (.slice C m d) ∧ Sl w' C m d (nrm (val xs + val ys)) ∧ Below w.heap.size w w' := by
  have H := Lib.hid h
  have H' := Lib.hid h'
  clear h h'
  go_enter Try.func14, Try.ntmps14
  go_wp2_with fail
  refine (digits_any A n c xs w H.out (by omega)).mono ?_
  rintro e w1 ⟨X, p, d1, rfl, hX, hp, hb1⟩
  go_wp2_with fail
  refine (digits_any B n' c' ys w1 (H'.out.below hb1) (by omega)).mono ?_
  rintro e w2 ⟨Y, q, d2, rfl, hY, hq, hb2⟩
  have hX2 := hX.below hb2
  have hb12 : Below w.heap.size w w2 := hb1.trans (hb2.mono hb1.size)
  have hfx := fit32_d32 (val xs)
  have hfy := fit32_d32 (val ys)
  have hvx := val32_d32 (val xs)
  have hvy := val32_d32 (val ys)
  generalize d32 (val xs) = dx at *
  generalize d32 (val ys) = dy at *
  have HVX := Lib.hid hvx
  have HVY := Lib.hid hvy
  have HX := Lib.hid hX2
  have HY := Lib.hid hY
  have HFX := Lib.hid hfx
  have HFY := Lib.hid hfy
  have hszw := hb12.size
  clear hX hX2 hY hfx hfy hvx hvy hb1 hb2
  obtain ⟨K, hK⟩ : ∃ K, K = max p q := ⟨_, rfl⟩
  have hmax : max (p : Int) (q : Int) = (K : Int) := by omega
  have hK1 : p ≤ K := by omega
  have hK2 : q ≤ K := by omega
  have hK3 : K ≤ 4398046511104 := by omega
  clear hK
  go_wp2_with fail
  go_loopw [9, 7, 8] (fun i v cr wr => ∃ k cc : Nat, k ≤ K + 1 ∧ i = .int .i64 k ∧ cr = u64v cc ∧ ∃ L, Ow wr w2.heap.size v L ∧ SumIn dx dy L k cc ∧ Below w2.heap.size w2 wr) (fun i _ _ _ => K + 1 - (intOf i).toNat)
  case atStart => exact ⟨0, 0, Nat.zero_le _, rfl, rfl, [], Ow.nil _ _, ⟨rfl, fit32_nil, by decide, by simp [val32]⟩, Below.refl _ _⟩
  case round =>
    obtain ⟨k, cc, hk, rfl, rfl, L, hL, hIn, hbel⟩ := hrel
    by_cases hlt : k < K + 1
    · have c1 := at_any X p d1 dx k wr (HX.out.below hbel)
      have c2 := at_any Y q d2 dy k wr (HY.out.below hbel)
      have hst := sumIn_step hIn HFX.out HFY.out
      have f1 := fit32_getD HFX.out k
      have f2 := fit32_getD HFY.out k
      have f3 := hIn.2.2.1
      have hll : L.length = k := hIn.1
      generalize dx.getD k 0 = x at *
      generalize dy.getD k 0 = y at *
      have hand : bits .and .u64 ((x : Int) + (y : Int) + (cc : Int)) 4294967295 = (((x + y + cc) % 4294967296 : Nat) : Int) := by
        have := and32 (x + y + cc) (by omega)
        rw [← this]; rfl
      have hN := (blk_list wr [(x + y + cc) % 4294967296] (fit_cons (by omega) fit_nil)).sl (by simp)
      have HN := Lib.hid hN
      have HO := Lib.hid hL
      have HST := Lib.hid hst
      have C1 := Lib.hid c1
      have C2 := Lib.hid c2
      have HB := Lib.hid hbel
      have hsz2 := hbel.size
      have HLL := Lib.hid hll
      clear hN hL hst c1 c2 hbel hIn hll
      go_wp2_with (first
        | (go_at_call 37; (with_reducible refine C1.out.mono ?_); rintro e w' ⟨rfl, rfl⟩)
        | (go_at_call 37; (with_reducible refine C2.out.mono ?_); rintro e w' ⟨rfl, rfl⟩)
        | (at_builtin; refine wpList_app _ rfl (.tmp 34) (.tmp 37) rfl w2.heap.size _ _ rfl (HO.out.alloc _) (some ⟨wr.heap.size, 0, none⟩) 1 1 rfl [(x + y + cc) % 4294967296] HN.out (by rw [HLL.out]; omega) (by simp; omega) ?_; intro v1 w3 ho1 hb3))
      have hb4 : Below w2.heap.size w2 w3 := (HB.out.alloc hsz2 _).trans hb3
      clear hb3
      go_roundw
      case rel => exact ⟨k + 1, (x + y + cc) / 4294967296, by omega, by go_num, rfl, _, ho1, HST.out, hb4⟩
      case measure => simp [intOf]; omega
    · obtain rfl : k = K + 1 := by omega
      have hv := sumIn_end hIn HFX.out HFY.out (by rw [← HX.out.len]; omega) (by rw [← HY.out.len]; omega)
      rw [HVX.out, HVY.out] at hv
      obtain ⟨A', d, rfl, hs, _⟩ := hL.sl
      have T := limbs_any A' _ d L wr hs hIn.2.1 (by rw [hIn.1]; omega)
      rw [hv] at T
      generalize L.length = ll at *
      have TT := Lib.hid T
      clear T hs hv hL hIn
      go_wp2_with (go_at_call 33; refine TT.out.mono ?_; rintro e w5 ⟨C, m, d, rfl, hs, hb⟩)
      go_ret
      exact ⟨C, m, d, rfl, hs, hb12.trans ((hbel.mono hszw).trans (hb.mono (Nat.le_trans hszw hbel.size)))⟩
end Go.Proofs.Ytmajmpgcdpbnfaa

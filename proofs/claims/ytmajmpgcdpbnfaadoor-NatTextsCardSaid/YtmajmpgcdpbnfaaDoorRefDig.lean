/- cleaverref01.Norm at every slice, digits and limbs, by their contracts. -/
import Derived.Test.YtmajmpgcdpbnfaaDoorRefCut
import Derived.Laws.MathBits
namespace Go.Proofs.YtmajmpgcdpbnfaaDoor
open Go.RowKit

set_option maxHeartbeats 1000000 in
theorem refNorm_any (A : Option Addr) (n c : Nat) (xs : List Nat) (w : World) (h : Sl w A n c xs) (hmax : n ≤ 17592186044416) :
    Calls Tryd.prog 22 #[.slice A n c] w fun e w' => ∃ v, e = .returned v ∧ Ow w' w.heap.size v (nrm (val xs)) ∧ Below w.heap.size w w' := by
  by_cases h0 : n = 0
  · have hx : xs = [] := List.eq_nil_of_length_eq_zero (by rw [← h.len]; exact h0)
    subst h0
    subst hx
    have hnew : Ow (w.alloc (.cells #[] 32)) w.heap.size (.slice (some ⟨w.heap.size, 0, none⟩) 0 0) [] :=
      ⟨World.ownsRow_made w #[] 0 (Nat.le_refl _) (by unfold maxLen; omega) rfl, fit_nil⟩
    have HS := Lib.hid (h.below ((Below.refl _ _).alloc (Nat.le_refl _) (.cells #[] 32)))
    have hA := h.2.2.2.1
    clear h
    rcases A with _ | a
    · obtain rfl := hA rfl
      go_enter Tryd.func22, Tryd.ntmps22
      go_wp2
      refine wp_loop_rounds 1 ?_
      rw [rounds_succ]
      go_wp2_with (at_builtin; refine wpList_app _ rfl (.tmp 18) (.tmp 21) rfl w.heap.size _ [] rfl hnew none 0 0 rfl _ HS.out (by simp) (by simp) ?_; intro v1 w1 ho1 hb1)
      go_ret
      exact ⟨v1, rfl, ho1, ((Below.refl _ _).alloc (Nat.le_refl _) _).trans hb1⟩
    · clear hA
      go_enter Tryd.func22, Tryd.ntmps22
      go_wp2
      refine wp_loop_rounds 1 ?_
      rw [rounds_succ]
      go_wp2_with (at_builtin; refine wpList_app _ rfl (.tmp 18) (.tmp 21) rfl w.heap.size _ [] rfl hnew (some a) 0 c rfl _ HS.out (by simp) (by simp) ?_; intro v1 w1 ho1 hb1)
      go_ret
      exact ⟨v1, rfl, ho1, ((Below.refl _ _).alloc (Nat.le_refl _) _).trans hb1⟩
  · obtain ⟨b, o, rfl, _, hc⟩ := h.at_ (by omega)
    exact refNorm_some b o c xs w n h hmax hc

theorem and32 (x : Nat) (hx : x < 18446744073709551616) : bits .and .u64 (x : Int) 4294967295 = ((x % 4294967296 : Nat) : Int) := by
  rw [and_low32 x (by omega) (by omega)]
  omega

set_option maxHeartbeats 1000000 in
theorem digits_any (A : Option Addr) (n c : Nat) (xs : List Nat) (w : World) (h : Sl w A n c xs) (hmax : n ≤ 4398046511104) :
    Calls Tryd.prog 19 #[.slice A n c] w fun e w' =>
      ∃ B m d, e = .returned (.slice B m d) ∧ Sl w' B m d (d32 (val xs)) ∧ m ≤ 2 * n ∧ Below w.heap.size w w' := by
  have H := Lib.hid h
  have hle := h.le
  have hcm := h.max
  clear h
  go_enter Tryd.func19, Tryd.ntmps19
  go_wp2_with fail
  go_loopw [4, 3] (fun i v wr => ∃ k : Nat, k ≤ n ∧ i = .int .i64 k ∧ Ow wr w.heap.size v (halvesOf (xs.take k)) ∧ Below w.heap.size w wr) (fun i _ _ => n - (intOf i).toNat)
  case atStart => exact ⟨0, Nat.zero_le _, rfl, Ow.nil _ _, Below.refl _ _⟩
  case round =>
    obtain ⟨k, hk, rfl, hown, hbel⟩ := hrel
    by_cases hlt : k < n
    · obtain ⟨b, o, rfl, hbl, hc⟩ := H.out.at_ (by omega)
      have hkx : k < xs.length := by rw [← H.out.len]; exact hlt
      have hx := hc k hlt
      have hxg : xs.getD k 0 = xs[k] := by rw [List.getD_eq_getElem?_getD, List.getElem?_eq_getElem hkx]; rfl
      rw [← hbel.cell (p := ⟨b, o + k, none⟩) hbl] at hx
      have hxf := fit_getD H.out.fit k
      have hsn := halves_snoc xs k hkx
      rw [← hxg] at hsn
      have hln : (halvesOf (xs.take k)).length ≤ 2 * n := by rw [halvesOf_length, List.length_take]; omega
      generalize xs.getD k 0 = x at *
      have hand := and32 x hxf
      have HSN := Lib.hid hsn
      have HO := Lib.hid hown
      have HB := Lib.hid hbel
      have hsz := hbel.size
      clear hc hxg hsn hown hbel
      have i1 : (0 : Int) ≤ (k : Int) := by omega
      have i2 : (k : Int) < (n : Int) := by omega
      have hN := (blk_list wr [x % 4294967296, x / 4294967296] (fit_cons (by omega) (fit_cons (by omega) fit_nil))).sl (by simp)
      have HN := Lib.hid hN
      clear hN
      go_wp2_with fail
      go_region_held3 (fun W => W.cell? ⟨b, o + k, none⟩ = some (u64v x))
        (first
          | go_keep
          | (rw [hb1.cell (by exact hbl)]; first | assumption | go_keep))
        ((refine step_app _ (by rfl) (.tmp 11) (.tmp 22) (by rfl) w.heap.size _ _ (by rfl) (HO.out.alloc _).drew (some ⟨wr.heap.size, 0, none⟩) 2 2 (by rfl) [x % 4294967296, x / 4294967296] HN.out.drew (by omega) (by simp; omega) ?_; intro v1 w1 ho1 hb1))
      rw [← HSN.out] at ho1
      have hb2 : Below w.heap.size w w1 := (HB.out.alloc hsz _).drew.trans hb1
      clear hb1
      go_wp2_with fail
      go_roundw
      case rel => exact ⟨k + 1, by omega, by go_num, ho1, hb2⟩
      case measure => simp [intOf]; omega
    · obtain rfl : k = n := by omega
      obtain ⟨A', d, rfl, hs, _⟩ := hown.sl
      rw [List.take_of_length_le (by rw [← H.out.len]; exact Nat.le_refl _)] at hs
      have hl : (halvesOf xs).length = 2 * k := by rw [halvesOf_length, H.out.len]
      rw [List.take_of_length_le (by rw [← H.out.len]; exact Nat.le_refl _)]
      have T := cut_any A' _ d _ wr hs
      have hpl := hs.plain
      have hle2 := nrm_length_le hs.fit
      have e1 : nrm (val (halvesOf xs)) = d32 (val xs) := by rw [nrm_val_eq_tz hs.fit, tz_eq_d32 (fit32_halves H.out.fit), val32_halves]
      rw [hl] at hle2
      rw [e1] at T hpl hle2
      rw [hl] at T ⊢
      generalize (d32 (val xs)).length = m at *
      have TT := Lib.hid T
      have HS := Lib.hid hpl
      clear T hpl hs hl e1 hown
      go_wp2_with (go_at_call 20; refine TT.out.mono ?_; rintro e w' ⟨rfl, rfl⟩)
      go_ret
      exact ⟨A', m, d, rfl, HS.out, hle2, hbel⟩
end Go.Proofs.YtmajmpgcdpbnfaaDoor

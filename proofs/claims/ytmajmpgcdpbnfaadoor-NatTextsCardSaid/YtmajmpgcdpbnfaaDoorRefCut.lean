/- cleaverref01.cut and Norm, by their contracts. -/
import Derived.Test.YtmajmpgcdpbnfaaDoorRefOw
import Derived.Test.YtmajmpgcdpbnfaaDoorRefMath
namespace Go.Proofs.YtmajmpgcdpbnfaaDoor
open Go.RowKit

set_option maxHeartbeats 400000 in
theorem cut_some (b o c : Nat) (xs : List Nat) (w : World) (n : Nat) (hn : n = xs.length) (hf : Fit xs) (hle : n ≤ c) (hc : c ≤ 9223372036854775807)
    (hcell : ∀ j (h : j < xs.length), w.cell? ⟨b, o + j, none⟩ = some (u64v xs[j])) :
    Calls Tryd.prog 20 #[.slice (some ⟨b, o, none⟩) n c] w fun e w' => e = .returned (.slice (some ⟨b, o, none⟩) (nrm (val xs)).length c) ∧ w = w' := by
  have HN : Hid (n = xs.length) := hn
  have hcl : ∀ j, j < n → w.cell? ⟨b, o + j, none⟩ = some (u64v (xs.getD j 0)) := by
    intro j hj
    rw [hcell j (by omega), List.getD_eq_getElem?_getD, List.getElem?_eq_getElem (by omega)]
    rfl
  have HC := Lib.hid hcl
  clear hn hcell hcl
  go_enter Tryd.func20, Tryd.ntmps20
  go_wp2
  go_loop [3] (fun t => ∃ k : Nat, k ≤ n ∧ t = .int .i64 k ∧ val (xs.take k) = val xs) (fun t => (intOf t).toNat)
  case atStart => exact ⟨n, Nat.le_refl _, rfl, by rw [HN.out]; simp⟩
  case round =>
    obtain ⟨k, hk, rfl, hv⟩ := hrel
    have HV := Lib.hid hv
    clear hv
    by_cases hk0 : 0 < k
    · have hcell := HC.out (k - 1) (by omega)
      go_wp2
      · have hz : (((xs[k - 1]?.getD 0 : Nat) : Int) == 0) = true := by assumption
        have hlt : k - 1 < xs.length := by rw [← HN.out]; omega
        have hz' : xs[k - 1] = 0 := by rw [getD_of_lt hlt] at hz; simpa using hz
        go_round
        case rel =>
          refine ⟨k - 1, by omega, by go_num, ?_⟩
          rw [val_take_zero_last xs (k - 1) hlt hz', show k - 1 + 1 = k by omega]
          exact HV.out
        case measure => simp [intOf]; omega
      · have hz : (((xs[k - 1]?.getD 0 : Nat) : Int) == 0) = false := by assumption
        have hlt : k - 1 < xs.length := by rw [← HN.out]; omega
        have hz' : xs[k - 1] ≠ 0 := by rw [getD_of_lt hlt] at hz; simpa using hz
        have hd := trim_done hf k (by rw [← HN.out]; exact hk) HV.out (.inr ⟨hlt, hz'⟩)
        go_ret
        exact ⟨by rw [hd]; rfl, rfl⟩
    · have : k = 0 := by omega
      subst this
      have hd := trim_done hf 0 (Nat.zero_le _) HV.out (.inl rfl)
      have HD := Lib.hid hd
      clear hd
      go_wp2
      go_ret
      exact ⟨by rw [HD.out]; rfl, rfl⟩

set_option maxHeartbeats 400000 in
theorem cut_empty (A : Option Addr) (c : Nat) (w : World) (hA : A = none → c = 0) :
    Calls Tryd.prog 20 #[.slice A 0 c] w fun e w' => e = .returned (.slice A 0 c) ∧ w = w' := by
  rcases A with _ | a
  · obtain rfl := hA rfl
    go_enter Tryd.func20, Tryd.ntmps20
    go_wp2
    refine wp_loop_rounds 1 ?_
    rw [rounds_succ]
    go_wp2
    go_ret
    exact ⟨rfl, rfl⟩
  · clear hA
    go_enter Tryd.func20, Tryd.ntmps20
    go_wp2
    refine wp_loop_rounds 1 ?_
    rw [rounds_succ]
    go_wp2
    go_ret
    exact ⟨rfl, rfl⟩

theorem cut_any (A : Option Addr) (n c : Nat) (xs : List Nat) (w : World) (h : Sl w A n c xs) :
    Calls Tryd.prog 20 #[.slice A n c] w fun e w' => e = .returned (.slice A (nrm (val xs)).length c) ∧ w = w' := by
  obtain ⟨hn, hle, hc, hA, hf, rfl | ⟨b, o, rfl, _, hcell⟩⟩ := h
  · subst hn
    exact cut_empty A c w hA
  · exact cut_some b o c xs w n hn hf hle hc hcell

/-- cleaverref01.Norm: a new slice of the plain limbs. -/
theorem pos_of {xs : List Nat} {w : World} {A : Option Addr} {n c : Nat} (h : Sl w A n c xs) : xs.length = n := h.len.symm

set_option maxHeartbeats 1000000 in
theorem refNorm_some (b o c : Nat) (xs : List Nat) (w : World) (n : Nat) (hs : Sl w (some ⟨b, o, none⟩) n c xs) (hmax : n ≤ 17592186044416)
    (hcell : ∀ j, j < n → w.cell? ⟨b, o + j, none⟩ = some (u64v (xs.getD j 0))) :
    Calls Tryd.prog 22 #[.slice (some ⟨b, o, none⟩) n c] w fun e w' => ∃ v, e = .returned v ∧ Ow w' w.heap.size v (nrm (val xs)) ∧ Below w.heap.size w w' := by
  have hn := hs.len
  have hf := hs.fit
  have hle := hs.le
  have hc := hs.max
  have HN : Hid (n = xs.length) := hn
  have HC := Lib.hid hcell
  have HS := Lib.hid hs
  clear hn hcell hs
  go_enter Tryd.func22, Tryd.ntmps22
  go_wp2
  go_loop [3] (fun t => ∃ k : Nat, k ≤ n ∧ t = .int .i64 k ∧ val (xs.take k) = val xs) (fun t => (intOf t).toNat)
  case atStart => exact ⟨n, Nat.le_refl _, rfl, by rw [HN.out]; simp⟩
  case round =>
    obtain ⟨k, hk, rfl, hv⟩ := hrel
    have HV := Lib.hid hv
    clear hv
    by_cases hgo : 0 < k ∧ xs.getD (k - 1) 0 = 0
    · obtain ⟨hk0, hz⟩ := hgo
      have hcell := HC.out (k - 1) (by omega)
      have hlt : k - 1 < xs.length := by rw [← HN.out]; omega
      have hz' : xs[k - 1] = 0 := by rw [← getD_of_lt hlt, ← List.getD_eq_getElem?_getD]; exact hz
      rw [hz] at hcell
      clear hz
      go_wp2
      go_round
      case rel =>
        refine ⟨k - 1, by omega, by go_num, ?_⟩
        rw [val_take_zero_last xs (k - 1) hlt hz', show k - 1 + 1 = k by omega]
        exact HV.out
      case measure => simp [intOf]; omega
    · have hd : (nrm (val xs)).length = k := by
        refine trim_done hf k (by rw [← HN.out]; exact hk) HV.out ?_
        by_cases h0 : k = 0
        · exact .inl h0
        · have hlt : k - 1 < xs.length := by rw [← HN.out]; omega
          exact .inr ⟨hlt, fun e => hgo ⟨by omega, by rw [List.getD_eq_getElem?_getD, getD_of_lt hlt]; exact e⟩⟩
      have hpl := HS.out.plain
      rw [hd] at hpl
      have HPL := Lib.hid hpl
      clear hpl
      have HD := Lib.hid hd
      clear hd
      have hnew : Ow (w.alloc (.cells #[] 32)) w.heap.size (.slice (some ⟨w.heap.size, 0, none⟩) 0 0) [] :=
        ⟨World.ownsRow_made w #[] 0 (Nat.le_refl _) (by unfold maxLen; omega) rfl, fit_nil⟩
      by_cases hk0 : 0 < k
      · have hcell := HC.out (k - 1) (by omega)
        have hne : ((xs.getD (k - 1) 0 : Nat) : Int) ≠ 0 := fun e => hgo ⟨hk0, by omega⟩
        generalize xs.getD (k - 1) 0 = y at *
        have hb : ((y : Int) == 0) = false := by simpa using hne
        clear hgo hne
        go_wp2_with (at_builtin; refine wpList_app _ rfl (.tmp 18) (.tmp 21) rfl w.heap.size _ [] rfl hnew (some ⟨b, o, none⟩) k c rfl _ (HPL.out.below ((Below.refl _ _).alloc (Nat.le_refl _) _)) (by simp; omega) (by simp) ?_; intro v1 w1 ho1 hb1)
        go_ret
        exact ⟨v1, rfl, ho1, ((Below.refl _ _).alloc (Nat.le_refl _) _).trans hb1⟩
      · obtain rfl : k = 0 := by omega
        clear hgo
        go_wp2_with (at_builtin; refine wpList_app _ rfl (.tmp 18) (.tmp 21) rfl w.heap.size _ [] rfl hnew (some ⟨b, o, none⟩) 0 c rfl _ (HPL.out.below ((Below.refl _ _).alloc (Nat.le_refl _) _)) (by simp) (by simp) ?_; intro v1 w1 ho1 hb1)
        go_ret
        exact ⟨v1, rfl, ho1, ((Below.refl _ _).alloc (Nat.le_refl _) _).trans hb1⟩
end Go.Proofs.YtmajmpgcdpbnfaaDoor

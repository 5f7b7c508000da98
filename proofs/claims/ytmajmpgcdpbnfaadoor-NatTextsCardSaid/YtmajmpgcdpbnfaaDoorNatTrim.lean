/- nat.trim, by its contract: it cuts the noughts at the end off, and turns nothing in memory. Conditions: the slice reads as limbs. -/
import Derived.Test.YtmajmpgcdpbnfaaDoorNatWords
import Derived.Test.YtmajmpgcdpbnfaaDoorChecked
namespace Go.Proofs.YtmajmpgcdpbnfaaDoor
open Go.RowKit

theorem getD_of_lt {xs : List Nat} {j : Nat} (h : j < xs.length) : xs[j]?.getD 0 = xs[j] := by rw [List.getElem?_eq_getElem h]; rfl

set_option maxHeartbeats 400000 in
theorem trim_some (b o c : Nat) (xs : List Nat) (w : World) (n : Nat) (hn : n = xs.length) (hf : Fit xs) (hle : n ≤ c) (hc : c ≤ 9223372036854775807)
    (hcell : ∀ j (h : j < xs.length), w.cell? ⟨b, o + j, none⟩ = some (u64v xs[j])) :
    Calls Tryd.prog 16 #[.slice (some ⟨b, o, none⟩) n c] w fun e w' => e = .returned (.slice (some ⟨b, o, none⟩) (nrm (val xs)).length c) ∧ w = w' := by
  have HN : Hid (n = xs.length) := hn
  have hcl : ∀ j, j < n → w.cell? ⟨b, o + j, none⟩ = some (u64v (xs.getD j 0)) := by
    intro j hj
    rw [hcell j (by omega), List.getD_eq_getElem?_getD, List.getElem?_eq_getElem (by omega)]
    rfl
  have HC := Lib.hid hcl
  clear hn hcell hcl
  go_enter Tryd.func16, Tryd.ntmps16
  go_wp2
  go_loop [3] (fun t => ∃ k : Nat, k ≤ n ∧ t = .int .i64 k ∧ val (xs.take k) = val xs) (fun t => (intOf t).toNat)
  case atStart => exact ⟨n, Nat.le_refl _, rfl, by rw [HN.out]; simp⟩
  case round =>
    obtain ⟨k, hk, rfl, hv⟩ := hrel
    have HV := Lib.hid hv
    clear hv
    by_cases hk0 : 0 < k
    · have hcell := HC.out (k - 1) (by omega)
      go_wp2
      · have hz : (((xs[k - 1]?.getD 0 : Nat) : Int) == 0) = true := by assumption
        have hlt : k - 1 < xs.length := by rw [← HN.out]; omega
        have hz' : xs[k - 1] = 0 := by rw [getD_of_lt hlt] at hz; simpa using hz
        go_round
        case rel =>
          refine ⟨k - 1, by omega, by go_num, ?_⟩
          rw [val_take_zero_last xs (k - 1) hlt hz', show k - 1 + 1 = k by omega]
          exact HV.out
        case measure => simp [intOf]; omega
      · have hz : (((xs[k - 1]?.getD 0 : Nat) : Int) == 0) = false := by assumption
        have hlt : k - 1 < xs.length := by rw [← HN.out]; omega
        have hz' : xs[k - 1] ≠ 0 := by rw [getD_of_lt hlt] at hz; simpa using hz
        have hd := trim_done hf k (by rw [← HN.out]; exact hk) HV.out (.inr ⟨hlt, hz'⟩)
        go_ret
        exact ⟨by rw [hd]; rfl, rfl⟩
    · have : k = 0 := by omega
      subst this
      have hd := trim_done hf 0 (Nat.zero_le _) HV.out (.inl rfl)
      have HD := Lib.hid hd
      clear hd
      go_wp2
      go_ret
      exact ⟨by rw [HD.out]; rfl, rfl⟩

set_option maxHeartbeats 400000 in
theorem trim_empty (A : Option Addr) (c : Nat) (w : World) (hA : A = none → c = 0) :
    Calls Tryd.prog 16 #[.slice A 0 c] w fun e w' => e = .returned (.slice A 0 c) ∧ w = w' := by
  rcases A with _ | a
  · obtain rfl := hA rfl
    go_enter Tryd.func16, Tryd.ntmps16
    go_wp2
    refine wp_loop_rounds 1 ?_
    rw [rounds_succ]
    go_wp2
    go_ret
    exact ⟨rfl, rfl⟩
  · clear hA
    go_enter Tryd.func16, Tryd.ntmps16
    go_wp2
    refine wp_loop_rounds 1 ?_
    rw [rounds_succ]
    go_wp2
    go_ret
    exact ⟨rfl, rfl⟩

/-- What is asked of a slice of limbs. -/
def Sl (w : World) (A : Option Addr) (n c : Nat) (xs : List Nat) : Prop := n = xs.length ∧ n ≤ c ∧ c ≤ 9223372036854775807 ∧ (A = none → c = 0) ∧ Rd w A xs

theorem Sl.len {w : World} {A : Option Addr} {n c : Nat} {xs : List Nat} (h : Sl w A n c xs) : n = xs.length := h.1
theorem Sl.le {w : World} {A : Option Addr} {n c : Nat} {xs : List Nat} (h : Sl w A n c xs) : n ≤ c := h.2.1
theorem Sl.max {w : World} {A : Option Addr} {n c : Nat} {xs : List Nat} (h : Sl w A n c xs) : c ≤ 9223372036854775807 := h.2.2.1
theorem Sl.rd {w : World} {A : Option Addr} {n c : Nat} {xs : List Nat} (h : Sl w A n c xs) : Rd w A xs := h.2.2.2.2
theorem Sl.fit {w : World} {A : Option Addr} {n c : Nat} {xs : List Nat} (h : Sl w A n c xs) : Fit xs := h.2.2.2.2.1

/-- What the slice reads lies in another block than g. -/
def Apart (A : Option Addr) (ys : List Nat) (g : Nat) : Prop := ys = [] ∨ ∀ b o s, A = some ⟨b, o, s⟩ → b ≠ g
theorem Rd.apart {w : World} {A : Option Addr} {xs : List Nat} (h : Rd w A xs) {g : Nat} (hg : w.heap.size ≤ g) : Apart A xs g := by
  rcases h.2 with h | ⟨b, o, rfl, hlt, _⟩
  · exact .inl h
  · refine .inr fun b' o' s' e => ?_
    simp only [Option.some.injEq, Addr.mk.injEq] at e
    omega
theorem Sl.apart {w : World} {A : Option Addr} {n c : Nat} {xs : List Nat} (h : Sl w A n c xs) {g : Nat} (hg : w.heap.size ≤ g) : Apart A xs g := h.rd.apart hg
theorem apart_of_ne {g' : Nat} {o : Nat} {s : Option Nat} {xs : List Nat} {g : Nat} (h : g' ≠ g) : Apart (some ⟨g', o, s⟩) xs g := by
  refine .inr fun b' o' s' e => ?_
  simp only [Option.some.injEq, Addr.mk.injEq] at e
  omega

theorem Sl.below {w w' : World} {A : Option Addr} {n c : Nat} {xs : List Nat} (h : Sl w A n c xs) (hb : Below w.heap.size w w') : Sl w' A n c xs := ⟨h.1, h.2.1, h.2.2.1, h.2.2.2.1, h.2.2.2.2.below hb⟩
theorem Sl.plain {w : World} {A : Option Addr} {n c : Nat} {xs : List Nat} (h : Sl w A n c xs) : Sl w A (nrm (val xs)).length c (nrm (val xs)) :=
  ⟨rfl, by have := nrm_length_le h.2.2.2.2.1; have := h.1; have := h.2.1; omega, h.2.2.1, h.2.2.2.1, h.2.2.2.2.plain⟩

theorem trim_any (A : Option Addr) (n c : Nat) (xs : List Nat) (w : World) (h : Sl w A n c xs) :
    Calls Tryd.prog 16 #[.slice A n c] w fun e w' => e = .returned (.slice A (nrm (val xs)).length c) ∧ w = w' := by
  obtain ⟨hn, hle, hc, hA, hf, rfl | ⟨b, o, rfl, _, hcell⟩⟩ := h
  · subst hn
    exact trim_empty A c w hA
  · exact trim_some b o c xs w n hn hf hle hc hcell
end Go.Proofs.YtmajmpgcdpbnfaaDoor

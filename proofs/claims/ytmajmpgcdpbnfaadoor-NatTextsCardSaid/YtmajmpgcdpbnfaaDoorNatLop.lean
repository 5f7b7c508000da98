/- nat.lopsidedProduct, by its contract: given that smaller products are as they should be. -/
import Derived.Test.YtmajmpgcdpbnfaaDoorNatRow
import Derived.Deep.RegionWith
import Derived.StillTailTactics
import Derived.Deep.RegionHeld3
namespace Go.Proofs.YtmajmpgcdpbnfaaDoor
open Go.RowKit

theorem add_add (a : Addr) (k : Nat) (b o : Nat) (h : a = ⟨b, o, none⟩) : a.add k = ⟨b, o + k, none⟩ := by
  subst h
  unfold Addr.add
  by_cases hk : k = 0 <;> simp [hk]

theorem Sl.drew {w : World} {A : Option Addr} {n c : Nat} {xs : List Nat} (h : Sl w A n c xs) : Sl w.drew A n c xs := h

theorem Sl.cutL {w : World} {A : Option Addr} {n c : Nat} {xs : List Nat} (h : Sl w A n c xs) (k : Nat) (hk : k ≤ n) : Sl w A k c (xs.take k) := by
  refine ⟨by rw [List.length_take, ← h.len]; omega, by have := h.le; omega, h.max, h.2.2.2.1, h.rd.take k⟩
theorem Sl.cutR {w : World} {b o n c : Nat} {xs : List Nat} (h : Sl w (some ⟨b, o, none⟩) n c xs) (k : Nat) (hk : k < n) : Sl w (some ⟨b, o + k, none⟩) (n - k) (c - k) (xs.drop k) := by
  have hl := h.len
  have hle := h.le
  have hm := h.max
  refine ⟨by rw [List.length_drop, ← hl], by omega, by omega, (fun e => by cases e), fit_drop h.fit k, ?_⟩
  rcases h.rd.2 with e | ⟨b', o', e, hlt, hc⟩
  · exfalso; rw [e] at hl; simp at hl; omega
  · simp only [Option.some.injEq, Addr.mk.injEq] at e
    obtain ⟨rfl, rfl, -⟩ := e
    refine .inr ⟨b, o + k, rfl, hlt, fun j hj => ?_⟩
    have hj' : k + j < xs.length := by rw [List.length_drop] at hj; omega
    rw [List.getElem_drop, Nat.add_assoc]
    exact hc (k + j) hj'

theorem val_halves (xs : List Nat) (k : Nat) (hk : k ≤ xs.length) : val xs = val (xs.take k) + 18446744073709551616 ^ k * val (xs.drop k) := by
  conv => lhs; rw [← List.take_append_drop k xs]
  rw [val_append, List.length_take, Nat.min_eq_left hk]
theorem part_lt {V P o n K : Nat} (hK : o + n = K) (h : V + 18446744073709551616 ^ o * P < 18446744073709551616 ^ K) : val (dig n (V / 18446744073709551616 ^ o)) + P < 18446744073709551616 ^ n := by
  have hp : 0 < 18446744073709551616 ^ o := Nat.pow_pos (by decide)
  have hd : (V + 18446744073709551616 ^ o * P) / 18446744073709551616 ^ o = V / 18446744073709551616 ^ o + P := Nat.add_mul_div_left _ _ hp
  have h2 : (V + 18446744073709551616 ^ o * P) / 18446744073709551616 ^ o < 18446744073709551616 ^ n := by
    apply Nat.div_lt_of_lt_mul
    rw [← Nat.pow_add, hK]
    exact h
  rw [hd] at h2
  rw [val_dig_of_lt (by omega)]
  exact h2

end Go.Proofs.YtmajmpgcdpbnfaaDoor

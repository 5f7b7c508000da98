/- nat.Cmp, nat.Sub, nat.Bits, by their contracts. -/
import Derived.Test.YtmajmpgcdpbnfaaDoorNatSum
import Derived.Deep.QuietTactic
import Derived.BigQuiet
import Derived.Laws.MathBits
namespace Go.Proofs.YtmajmpgcdpbnfaaDoor
open Go.RowKit

theorem nrm_ge (v : Nat) (h : v ≠ 0) : 18446744073709551616 ^ ((nrm v).length - 1) ≤ v := by
  induction v using Nat.strongRecOn with
  | ind v ih =>
    rw [nrm_pos v h, List.length_cons, Nat.add_sub_cancel]
    by_cases h0 : v / 18446744073709551616 = 0
    · rw [h0, nrm_zero]; simp; omega
    · have h1 := ih (v / 18446744073709551616) (by omega) h0
      have hp : 0 < (nrm (v / 18446744073709551616)).length := by rw [nrm_pos _ h0]; simp
      have e : 18446744073709551616 ^ (nrm (v / 18446744073709551616)).length = 18446744073709551616 ^ ((nrm (v / 18446744073709551616)).length - 1) * 18446744073709551616 := by rw [← Nat.pow_succ]; congr 1; omega
      rw [e]
      have := Nat.mul_le_mul_right 18446744073709551616 h1
      omega
theorem nrm_lt (v : Nat) : v < 18446744073709551616 ^ (nrm v).length := by
  have := val_lt (fit_nrm v)
  rwa [val_nrm] at this
theorem lt_of_len {u v : Nat} (h : (nrm u).length < (nrm v).length) : u < v := by
  have hv : v ≠ 0 := by intro e; rw [e, nrm_zero] at h; simp at h
  have h1 := nrm_lt u
  have h2 := nrm_ge v hv
  have h3 : 18446744073709551616 ^ (nrm u).length ≤ 18446744073709551616 ^ ((nrm v).length - 1) := Nat.pow_le_pow_right (by decide) (by omega)
  omega
theorem cmp_len {u v : Nat} (h : (nrm u).length ≠ (nrm v).length) : cmpN (nrm u).length (nrm v).length = cmpN u v := by
  unfold cmpN
  rcases Nat.lt_or_gt_of_ne h with h1 | h1
  · have := lt_of_len h1
    rw [if_pos h1, if_pos this]
  · have := lt_of_len h1
    rw [if_neg (by omega), if_pos h1, if_neg (by omega), if_pos this]
theorem val_split (xs : List Nat) (k : Nat) (hk : k < xs.length) : val xs = val (xs.take k) + 18446744073709551616 ^ k * (xs[k] + 18446744073709551616 * val (xs.drop (k + 1))) := by
  conv => lhs; rw [← List.take_append_drop k xs]
  rw [val_append, List.drop_eq_getElem_cons hk, val_cons, List.length_take, Nat.min_eq_left (by omega)]
theorem lt_at {ps qs : List Nat} (hp : Fit ps) (k : Nat) (h1 : k < ps.length) (h2 : k < qs.length) (hd : ps.drop (k + 1) = qs.drop (k + 1)) (h : ps[k] < qs[k]) : val ps < val qs := by
  rw [val_split ps k h1, val_split qs k h2, hd]
  have a := val_lt (fit_take hp k)
  rw [List.length_take, Nat.min_eq_left (by omega)] at a
  have b : 18446744073709551616 ^ k * (ps[k] + 18446744073709551616 * val (qs.drop (k + 1)) + 1) ≤ 18446744073709551616 ^ k * (qs[k] + 18446744073709551616 * val (qs.drop (k + 1))) := Nat.mul_le_mul_left _ (by omega)
  rw [Nat.mul_add, Nat.mul_one] at b
  omega
theorem cmp_at {ps qs : List Nat} (hp : Fit ps) (hq : Fit qs) (k : Nat) (h1 : k < ps.length) (h2 : k < qs.length) (hd : ps.drop (k + 1) = qs.drop (k + 1)) (h : ps[k] ≠ qs[k]) : cmpN ps[k] qs[k] = cmpN (val ps) (val qs) := by
  unfold cmpN
  rcases Nat.lt_or_gt_of_ne h with h3 | h3
  · rw [if_pos h3, if_pos (lt_at hp k h1 h2 hd h3)]
  · have := lt_at hq k h2 h1 hd.symm h3
    rw [if_neg (by omega), if_pos h3, if_neg (by omega), if_pos this]
theorem drop_step {ps qs : List Nat} (k : Nat) (h1 : k < ps.length) (h2 : k < qs.length) (hd : ps.drop (k + 1) = qs.drop (k + 1)) (h : ps[k] = qs[k]) : ps.drop k = qs.drop k := by
  rw [List.drop_eq_getElem_cons h1, List.drop_eq_getElem_cons h2, hd, h]

/-- The cells of a slice that isn't empty. -/
theorem Sl.at_ {w : World} {A : Option Addr} {n c : Nat} {xs : List Nat} (h : Sl w A n c xs) (hn : 0 < n) : ∃ b o, A = some ⟨b, o, none⟩ ∧ b < w.heap.size ∧ ∀ j, j < n → w.cell? ⟨b, o + j, none⟩ = some (u64v (xs.getD j 0)) := by
  rcases h.rd.2 with e | ⟨b, o, rfl, hlt, hc⟩
  · rw [h.len, e] at hn; exact absurd hn (by simp)
  · refine ⟨b, o, rfl, hlt, fun j hj => ?_⟩
    have hj' : j < xs.length := by rw [← h.len]; exact hj
    rw [hc j hj', List.getD_eq_getElem?_getD, List.getElem?_eq_getElem hj']
    rfl

theorem quiet_add_same' {P : Program} {f : FuncId} {args : Array Value} {w : World} {a n : Nat} {v : Value}
    (h : Calls P f args (w.drewN (a + n)) fun e w' => e = .returned v ∧ w.drewN (a + n) = w') :
    Calls P f args (w.drewN (a + n)) fun e w'' => e = .returned v ∧ ∃ m, w'' = w.drewN (a + m) :=
  h.mono fun _ _ ⟨he, hm⟩ => ⟨he, n, hm.symm⟩

/-- nat.Bits: how many bits a number has. -/
theorem bitLen_split (x v : Nat) (k : Nat) (hx : x ≠ 0) (hv : v < 18446744073709551616 ^ k) : bitLen (v + 18446744073709551616 ^ k * x) = 64 * k + bitLen x := by
  have e : 18446744073709551616 ^ k = 2 ^ (64 * k) := by rw [Nat.pow_mul]
  rw [e] at hv ⊢
  have hd : (v + 2 ^ (64 * k) * x) / 2 ^ (64 * k) = x := by rw [Nat.add_mul_div_left _ _ (Nat.pow_pos (by decide)), Nat.div_eq_of_lt hv, Nat.zero_add]
  have := bitLen_shift (v + 2 ^ (64 * k) * x) (64 * k) (by rw [hd]; exact hx)
  rw [this, hd]
end Go.Proofs.YtmajmpgcdpbnfaaDoor

/- What a block holds, said by its value alone: so many limbs of a number. -/
import Derived.Test.YtmajmpgcdpbnfaaDoorNatMem
namespace Go.Proofs.YtmajmpgcdpbnfaaDoor
open Go.RowKit

theorem val_mid (L new : List Nat) (o n : Nat) (h : o + n ≤ L.length) (hn : new.length = n) : val (mid L o n new) + 18446744073709551616 ^ o * val ((L.drop o).take n) = val L + 18446744073709551616 ^ o * val new := by
  have e : L = L.take o ++ ((L.drop o).take n ++ L.drop (o + n)) := by
    rw [← List.drop_drop, List.take_append_drop, List.take_append_drop]
  have h2 : val L = val (L.take o) + 18446744073709551616 ^ o * (val ((L.drop o).take n) + 18446744073709551616 ^ n * val (L.drop (o + n))) := by
    conv => lhs; rw [e]
    rw [val_append, val_append, List.length_take, List.length_take, List.length_drop, Nat.min_eq_left (by omega), Nat.min_eq_left (by omega)]
  have h1 : val (mid L o n new) = val (L.take o) + 18446744073709551616 ^ o * (val new + 18446744073709551616 ^ n * val (L.drop (o + n))) := by
    unfold mid
    rw [List.append_assoc, val_append, val_append, List.length_take, Nat.min_eq_left (by omega), hn]
  rw [h1, h2]
  grind
theorem fit_mid {L new : List Nat} (hL : Fit L) (hn : Fit new) (o n : Nat) : Fit (mid L o n new) := fit_append (fit_append (fit_take hL _) hn) (fit_drop hL _)
theorem dig_of {xs : List Nat} (h : Fit xs) (n v : Nat) (hn : xs.length = n) (hv : val xs = v) : xs = dig n v := by rw [← hn, ← hv, dig_val h]
theorem mid_dig (L new : List Nat) (o n v : Nat) (hL : Fit L) (hn' : Fit new) (h : o + n ≤ L.length) (hn : new.length = n) (hv : v + 18446744073709551616 ^ o * val ((L.drop o).take n) = val L + 18446744073709551616 ^ o * val new) : mid L o n new = dig L.length v := by
  refine dig_of (fit_mid hL hn' o n) _ _ (mid_length L o n new h hn) ?_
  have := val_mid L new o n h hn
  omega
theorem dig_zero (n : Nat) : dig n 0 = List.replicate n 0 := by
  induction n with
  | zero => rfl
  | succ n ih => rw [dig, List.replicate_succ, ← ih]

/-- Front and rear parts of a number's limbs. -/
theorem dig_take (n k v : Nat) (h : k ≤ n) : (dig n v).take k = dig k v := by
  induction n generalizing k v with
  | zero =>
    have : k = 0 := by omega
    subst this; rfl
  | succ n ih =>
    cases k with
    | zero => rfl
    | succ k => rw [dig, List.take_succ_cons, ih k _ (by omega), dig]
theorem dig_drop (n k v : Nat) : (dig n v).drop k = dig (n - k) (v / 18446744073709551616 ^ k) := by
  induction n generalizing k v with
  | zero => simp [dig]
  | succ n ih =>
    cases k with
    | zero => simp
    | succ k => rw [dig, List.drop_succ_cons, ih, Nat.div_div_eq_div_mul, Nat.pow_succ, Nat.mul_comm 18446744073709551616]; congr 1; omega
theorem dig_part (n o k v : Nat) (h : o + k ≤ n) : ((dig n v).drop o).take k = dig k (v / 18446744073709551616 ^ o) := by rw [dig_drop, dig_take _ _ _ (by omega)]

theorem Blk.sl' {w : World} {g K V : Nat} (h : Blk w g (dig K V)) (hm : K ≤ 9223372036854775807) : Sl w (some ⟨g, 0, none⟩) K K (dig K V) := by
  have := h.sl (by rw [dig_length]; exact hm)
  rwa [dig_length] at this

theorem addTimes_val (g o n c K V : Nat) (A : Option Addr) (ny cy : Nat) (ys : List Nat) (m : Nat) (w : World)
    (hB : Blk w g (dig K V)) (hn : o + n ≤ K) (hmax : n ≤ 9223372036854775807) (hy : Sl w A ny cy ys) (hyn : ny ≤ n) (hne : Apart A ys g) (hm : m < 18446744073709551616) (hV : V < 18446744073709551616 ^ K)
    (hT : val (dig n (V / 18446744073709551616 ^ o)) + m * val ys < 18446744073709551616 ^ n) :
    Calls Tryd.prog 21 #[.slice (some ⟨g, o, none⟩) n c, .slice A ny cy, .int .u64 (m : Int)] w fun e w' =>
      e = .returned (u64v 0) ∧ Blk w' g (dig K (V + 18446744073709551616 ^ o * (m * val ys))) ∧ w.grownBy w' (some g) := by
  refine (addTimes_any g o n c _ A ny cy ys m w hB (by rw [dig_length]; exact hn) hmax hy hyn hne hm).mono fun e w' ⟨he, hb, hg⟩ => ?_
  have hyl : ys.length ≤ n := by rw [← hy.len]; exact hyn
  have eT : addT ((dig K V).drop o) ys m n = val (dig n (V / 18446744073709551616 ^ o)) + m * val ys := by
    unfold addT
    rw [dig_part K o n V hn, List.take_of_length_le hyl]
  rw [eT, Nat.div_eq_of_lt hT] at he
  rw [eT] at hb
  refine ⟨he, ?_, hg⟩
  have e := mid_dig (dig K V) (dig n (val (dig n (V / 18446744073709551616 ^ o)) + m * val ys)) o n (V + 18446744073709551616 ^ o * (m * val ys)) (fit_dig _ _) (fit_dig _ _) (by rw [dig_length]; exact hn) (dig_length _ _) (by
    rw [dig_part K o n V hn, val_dig_of_lt hT, val_dig_of_lt hV]
    grind)
  rw [dig_length] at e
  rwa [e] at hb

/-- The same where the factor is the number 1. -/
theorem addTimes_val1 (g o n c K V : Nat) (A : Option Addr) (ny cy : Nat) (ys : List Nat) (w : World)
    (hB : Blk w g (dig K V)) (hn : o + n ≤ K) (hmax : n ≤ 9223372036854775807) (hy : Sl w A ny cy ys) (hyn : ny ≤ n) (hne : Apart A ys g) (hV : V < 18446744073709551616 ^ K)
    (hT : val (dig n (V / 18446744073709551616 ^ o)) + val ys < 18446744073709551616 ^ n) :
    Calls Tryd.prog 21 #[.slice (some ⟨g, o, none⟩) n c, .slice A ny cy, .int .u64 1] w fun e w' =>
      e = .returned (u64v 0) ∧ Blk w' g (dig K (V + 18446744073709551616 ^ o * val ys)) ∧ w.grownBy w' (some g) := by
  have := addTimes_val g o n c K V A ny cy ys 1 w hB hn hmax hy hyn hne (by decide) hV (by rw [Nat.one_mul]; exact hT)
  rw [Nat.one_mul] at this
  exact this

theorem wpList_make_val {ops : Array Oper} {rest : List Oper} {o : Oper} {a : Act} {Q : Exit → Act → World → Prop} (w : World)
    (hg : o.guard = none) (l c : Operand) (hop : o.op = Op.makeSlice 22 l c) (kl kc : IntKind) (L C : Int) (n : Nat) (hl : a.eval l = .int kl L) (hc : a.eval c = .int kc C) (hL : L = (n : Int)) (hC : C = (n : Int)) (hn : n ≤ 35184372088832)
    (hK : ∀ w', Blk w' w.heap.size (dig n 0) → Below w.heap.size w w' → wpList Tryd.prog ops Q rest (a.put o.dst (.slice (some ⟨w.heap.size, 0, none⟩) n n)) w') :
    wpList Tryd.prog ops Q (o :: rest) a w :=
  wpList_make_limbs w hg l c hop kl kc L C n hl hc hL hC hn fun w' hb hbel => hK w' (by rw [dig_zero]; exact hb) hbel

theorem wpList_copy_val {ops : Array Oper} {rest : List Oper} {o : Oper} {a : Act} {Q : Exit → Act → World → Prop} (w : World) (hgd : o.guard = none) (d s : Operand)
    (ho : o.op = .call { callee := .builtin .copy, args := #[d, s], argTypes := #[22, 22] }) (g off dLen dCap : Nat) (A : Option Addr) (n c : Nat)
    (hd : a.eval d = .slice (some ⟨g, off, none⟩) dLen dCap) (hs : a.eval s = .slice A n c) (K V : Nat) (xs : List Nat) (hB : Blk w g (dig K V)) (hR : Sl w A n c xs) (hfit : n ≤ dLen) (hL : off + n ≤ K)
    (hV : V < 18446744073709551616 ^ off)
    (h : ∀ w', Blk w' g (dig K (V + 18446744073709551616 ^ off * val xs)) → w.grownBy w' (some g) → wpList Tryd.prog ops Q rest (a.put o.dst (goInt n)) w') : wpList Tryd.prog ops Q (o :: rest) a w := by
  refine wpList_copy_limbs w hgd d s ho g off dLen dCap A n c hd hs (dig K V) xs hB hR.rd hR.len hfit (by rw [dig_length]; exact hL) fun w' hb hg => h w' ?_ hg
  have hVK : V < 18446744073709551616 ^ K := Nat.lt_of_lt_of_le hV (Nat.pow_le_pow_right (by decide) (by omega))
  have e := mid_dig (dig K V) xs off n (V + 18446744073709551616 ^ off * val xs) (fit_dig _ _) hR.fit (by rw [dig_length]; exact hL) hR.len.symm (by
    rw [dig_part K off n V hL, val_dig_of_lt hVK, Nat.div_eq_of_lt hV, val_dig]
    simp)
  rw [dig_length] at e
  rwa [e] at hb
/-- A block of so many limbs, cut to the plain ones, is a new slice of its value. -/
theorem new_of_blk {w : World} {g K V B : Nat} (h : Blk w g (dig K V)) (hm : K ≤ 9223372036854775807) (hV : V < 18446744073709551616 ^ K) (hB : B ≤ g) :
    New w B (.slice (some ⟨g, 0, none⟩) (nrm (val (dig K V))).length K) (nrm V) := by
  have hs := (h.sl' hm).plain
  rw [val_dig_of_lt hV] at hs ⊢
  exact ⟨g, K, rfl, hB, h.lt, hs⟩
end Go.Proofs.YtmajmpgcdpbnfaaDoor

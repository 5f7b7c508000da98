/- Texts joined, in their order: NatRow, NatLop, NatAt, NatHalf, NatMul, RefSame, RefOw, RefMath, RefCut, RefDig, RefLim, RefMul, RefAdd, RefSum, RefLess, RefBits. -/
import Derived.Deep.RegionWith
import Derived.StillTailTactics
import Derived.Deep.RegionHeld3
import Derived.Laws.AppendOwnNone
import Derived.Deep.RegionLaw
import Derived.Laws.MathBits
import Derived.Test.YtnkhhndjbanmnaaGreatDoorMn8
import Derived.Test.YtnkhhndjbanmnaaGreatDoorMn10

/- nat.rowProduct, by its contract: as many limbs as both factors have, of the product. -/
namespace Go.Proofs.YtnkhhndjbanmnaaGreatDoor
open Go.RowKit

theorem row_bound (xs ys : List Nat) (n k : Nat) (hx : Fit xs) (hy : Fit ys) (hn : xs.length = n) : val xs * val (ys.take k) / 18446744073709551616 ^ k < 18446744073709551616 ^ n := by
  have h1 := val_lt hx
  rw [hn] at h1
  have h2 := val_lt (fit_take hy k)
  have h3 : 18446744073709551616 ^ (ys.take k).length ≤ 18446744073709551616 ^ k := Nat.pow_le_pow_right (by decide) (by rw [List.length_take]; omega)
  apply Nat.div_lt_of_lt_mul
  rw [Nat.mul_comm (18446744073709551616 ^ k)]
  rcases Nat.eq_zero_or_pos (val xs) with h0 | h0
  · rw [h0, Nat.zero_mul]; exact Nat.mul_pos (Nat.pow_pos (by decide)) (Nat.pow_pos (by decide))
  · exact Nat.lt_of_lt_of_le (Nat.mul_lt_mul_of_pos_left (Nat.lt_of_lt_of_le h2 h3) h0) (Nat.mul_le_mul_right _ (Nat.le_of_lt h1))
theorem row_all (xs ys : List Nat) (n k K : Nat) (hx : Fit xs) (hy : Fit ys) (hn : xs.length = n) (hK : n + k ≤ K) : val xs * val (ys.take k) < 18446744073709551616 ^ K := by
  have h := row_bound xs ys n k hx hy hn
  rw [Nat.div_lt_iff_lt_mul (Nat.pow_pos (by decide)), ← Nat.pow_add] at h
  exact Nat.lt_of_lt_of_le h (Nat.pow_le_pow_right (by decide) hK)
theorem row_limb (xs : List Nat) (n m Q : Nat) (hx : Fit xs) (hn : xs.length = n) (hQ : Q < 18446744073709551616 ^ n) (hm : m < 18446744073709551616) : val (dig (n + 1) Q) + m * val xs < 18446744073709551616 ^ (n + 1) := by
  have h1 := val_lt hx
  rw [hn] at h1
  have e : 18446744073709551616 ^ (n + 1) = 18446744073709551616 ^ n * 18446744073709551616 := Nat.pow_succ ..
  rw [val_dig_of_lt (by omega), e]
  have h2 : m * val xs ≤ 18446744073709551615 * (18446744073709551616 ^ n - 1) := Nat.mul_le_mul (by omega) (by omega)
  omega

end Go.Proofs.YtnkhhndjbanmnaaGreatDoor

/- nat.lopsidedProduct, by its contract: given that smaller products are as they should be. -/
namespace Go.Proofs.YtnkhhndjbanmnaaGreatDoor
open Go.RowKit

theorem add_add (a : Addr) (k : Nat) (b o : Nat) (h : a = ⟨b, o, none⟩) : a.add k = ⟨b, o + k, none⟩ := by
  subst h
  unfold Addr.add
  by_cases hk : k = 0 <;> simp [hk]

theorem Sl.drew {w : World} {A : Option Addr} {n c : Nat} {xs : List Nat} (h : Sl w A n c xs) : Sl w.drew A n c xs := h

theorem Sl.cutL {w : World} {A : Option Addr} {n c : Nat} {xs : List Nat} (h : Sl w A n c xs) (k : Nat) (hk : k ≤ n) : Sl w A k c (xs.take k) := by
  refine ⟨by rw [List.length_take, ← h.len]; omega, by have := h.le; omega, h.max, h.2.2.2.1, h.rd.take k⟩
theorem Sl.cutR {w : World} {b o n c : Nat} {xs : List Nat} (h : Sl w (some ⟨b, o, none⟩) n c xs) (k : Nat) (hk : k < n) : Sl w (some ⟨b, o + k, none⟩) (n - k) (c - k) (xs.drop k) := by
  have hl := h.len
  have hle := h.le
  have hm := h.max
  refine ⟨by rw [List.length_drop, ← hl], by omega, by omega, (fun e => by cases e), fit_drop h.fit k, ?_⟩
  rcases h.rd.2 with e | ⟨b', o', e, hlt, hc⟩
  · exfalso; rw [e] at hl; simp at hl; omega
  · simp only [Option.some.injEq, Addr.mk.injEq] at e
    obtain ⟨rfl, rfl, -⟩ := e
    refine .inr ⟨b, o + k, rfl, hlt, fun j hj => ?_⟩
    have hj' : k + j < xs.length := by rw [List.length_drop] at hj; omega
    rw [List.getElem_drop, Nat.add_assoc]
    exact hc (k + j) hj'

theorem val_halves (xs : List Nat) (k : Nat) (hk : k ≤ xs.length) : val xs = val (xs.take k) + 18446744073709551616 ^ k * val (xs.drop k) := by
  conv => lhs; rw [← List.take_append_drop k xs]
  rw [val_append, List.length_take, Nat.min_eq_left hk]
theorem part_lt {V P o n K : Nat} (hK : o + n = K) (h : V + 18446744073709551616 ^ o * P < 18446744073709551616 ^ K) : val (dig n (V / 18446744073709551616 ^ o)) + P < 18446744073709551616 ^ n := by
  have hp : 0 < 18446744073709551616 ^ o := Nat.pow_pos (by decide)
  have hd : (V + 18446744073709551616 ^ o * P) / 18446744073709551616 ^ o = V / 18446744073709551616 ^ o + P := Nat.add_mul_div_left _ _ hp
  have h2 : (V + 18446744073709551616 ^ o * P) / 18446744073709551616 ^ o < 18446744073709551616 ^ n := by
    apply Nat.div_lt_of_lt_mul
    rw [← Nat.pow_add, hK]
    exact h
  rw [hd] at h2
  rw [val_dig_of_lt (by omega)]
  exact h2

end Go.Proofs.YtnkhhndjbanmnaaGreatDoor

/- The contracts once more, their results' lengths under names of their own. -/
namespace Go.Proofs.YtnkhhndjbanmnaaGreatDoor
open Go.RowKit

theorem nrm_len_le {v k : Nat} (h : v < 18446744073709551616 ^ k) : (nrm v).length ≤ k := by
  have := nrm_length_le (fit_dig k v)
  rwa [val_dig_of_lt h, dig_length] at this

theorem trim_at (A : Option Addr) (n c : Nat) (xs : List Nat) (w : World) (h : Sl w A n c xs) :
    Calls Tryz.prog 196 #[.slice A n c] w fun e w' => ∃ m, e = .returned (.slice A m c) ∧ Sl w A m c (nrm (val xs)) ∧ m ≤ n ∧ w = w' :=
  (trim_any A n c xs w h).mono fun e w' ⟨he, hw⟩ => ⟨_, he, h.plain, by rw [h.len]; exact nrm_length_le h.fit, hw⟩

theorem norm_at (A : Option Addr) (n c : Nat) (xs : List Nat) (w : World) (h : Sl w A n c xs) (hn : n ≤ 17592186044416) :
    Calls Tryz.prog 174 #[.slice A n c] w fun e w' => ∃ g m, e = .returned (.slice (some ⟨g, 0, none⟩) m m) ∧ w.heap.size ≤ g ∧ Sl w' (some ⟨g, 0, none⟩) m m (nrm (val xs)) ∧ m ≤ n ∧ Below w.heap.size w w' :=
  (norm_any A n c xs w h hn).mono fun e w' ⟨he, hb, hbel⟩ => by
    have hle : (nrm (val xs)).length ≤ n := by rw [h.len]; exact nrm_length_le h.fit
    exact ⟨_, _, he, Nat.le_refl _, hb.sl (by omega), hle, hbel⟩

end Go.Proofs.YtnkhhndjbanmnaaGreatDoor

/- nat.halvesProduct, by its contract: given that smaller products are as they should be. -/
namespace Go.Proofs.YtnkhhndjbanmnaaGreatDoor
open Go.RowKit

theorem mul_all (xs ys : List Nat) (hx : Fit xs) (hy : Fit ys) (n n' : Nat) (hn : xs.length = n) (hn' : ys.length = n') : val xs * val ys < 18446744073709551616 ^ (n + n') := by
  have := row_all xs ys n n' (n + n') hx hy hn (Nat.le_refl _)
  rwa [List.take_of_length_le (by omega)] at this

theorem below_step {w2 W W' : World} (h : Below w2.heap.size w2 W) (k : Below W.heap.size W W') : Below w2.heap.size w2 W' := h.trans (k.mono h.size)

end Go.Proofs.YtnkhhndjbanmnaaGreatDoor

/- nat.product by induction on the limbs, and nat.Mul: a new slice of the product's plain limbs. Conditions: both together have fewer than 2^42 limbs. -/
namespace Go.Proofs.YtnkhhndjbanmnaaGreatDoor
open Go.RowKit

end Go.Proofs.YtnkhhndjbanmnaaGreatDoor

/- cleaverref01.Same and cleaverlaw01.same, by their contracts, where both lists are the same. -/
namespace Go.Proofs.YtnkhhndjbanmnaaGreatDoor
open Go.RowKit

end Go.Proofs.YtnkhhndjbanmnaaGreatDoor

/- A row of limbs that grows by append, in memory of the call's own. -/
namespace Go.Proofs.YtnkhhndjbanmnaaGreatDoor
open Go.RowKit

/-- The slice value v owns the limbs xs, in blocks from B on. -/
def Ow (w : World) (B : Nat) (v : Value) (xs : List Nat) : Prop := w.ownsRow B 102 1 v xs.length (xs.map u64v) ∧ Fit xs

theorem Ow.nil (w : World) (B : Nat) : Ow w B (.slice none 0 0) [] := ⟨World.ownsRow_nil _ _ _ _, fit_nil⟩
theorem Ow.fit {w : World} {B : Nat} {v : Value} {xs : List Nat} (h : Ow w B v xs) : Fit xs := h.2
theorem Ow.alloc {w : World} {B : Nat} {v : Value} {xs : List Nat} (h : Ow w B v xs) (o : Obj) : Ow (w.alloc o) B v xs := ⟨h.1.alloc o, h.2⟩
theorem Ow.drew {w : World} {B : Nat} {v : Value} {xs : List Nat} (h : Ow w B v xs) : Ow w.drew B v xs := h
theorem Ow.sl {w : World} {B : Nat} {v : Value} {xs : List Nat} (h : Ow w B v xs) : ∃ A c, v = .slice A xs.length c ∧ Sl w A xs.length c xs ∧ (∀ b o s, A = some ⟨b, o, s⟩ → B ≤ b) := by
  obtain ⟨⟨hl, h2⟩, hf⟩ := h
  rcases h2 with ⟨rfl, h0⟩ | ⟨g, cap, cur, rfl, hb, hh, hn, hc, hs, ht⟩
  · refine ⟨none, 0, by rw [h0], ⟨rfl, by omega, by decide, fun _ => rfl, hf, .inl (List.eq_nil_of_length_eq_zero h0)⟩, fun b o s e => by cases e⟩
  · refine ⟨some ⟨g, 0, none⟩, cap, rfl, ⟨rfl, hn, by unfold maxLen at hc; omega, (fun e => by cases e), hf, .inr ⟨g, 0, rfl, (Array.getElem?_eq_some_iff.1 hh).1, fun j hj => ?_⟩⟩, fun b o s e => ?_⟩
    · rw [cell_of_row w g (0 + j) cur _ (0, 0) hh, Nat.zero_add]
      have h1 : (cur.toList.take (xs.length * 1))[j]? = (xs.map u64v)[j]? := by rw [ht]
      rw [List.getElem?_take_of_lt (by omega), List.getElem?_map, List.getElem?_eq_getElem hj] at h1
      simpa using h1
    · simp only [Option.some.injEq, Addr.mk.injEq] at e
      omega
theorem Ow.lt {w : World} {B : Nat} {v : Value} {xs : List Nat} (h : Ow w B v xs) : ∀ k, v.ownBlock = some k → B ≤ k := fun k hk => (h.1.lt k hk).1

theorem run_app (w : World) (ty : TypeId) (B : Nat) (v : Value) (xs : List Nat) (hown : Ow w B v xs) (A : Option Addr) (m c : Nat) (news : List Nat) (hR : Sl w A m c news) (hmax : xs.length + m ≤ 17592186044416) (hB : B ≤ w.heap.size) :
    ∃ v' w', (Builtin.append_ #[123, 123] ty #[v, .slice A m c]).run Tryz.prog w = .ok v' w' ∧ Ow w' B v' (xs ++ news) ∧ Below B w w' := by
  obtain ⟨i0, hi, hz0, hz1, hz2⟩ := info_parts infoU
  have hl : (xs ++ news).length = xs.length + m := by rw [List.length_append, hR.len]
  have hfit : Fit (xs ++ news) := fit_append hown.2 hR.fit
  rcases A with _ | ad
  · have h0 : c = 0 := hR.2.2.2.1 rfl
    have hm : m = 0 := by have := hR.le; omega
    subst h0; subst hm
    have hn : news = [] := List.eq_nil_of_length_eq_zero hR.len.symm
    subst hn
    refine ⟨v, w, run_append_owned_none (P := Tryz.prog) (w := w) B 123 ty 102 i0 1 Tryz.underlying123 hi v xs.length (xs.map u64v) hown.1, ?_, Below.refl _ _⟩
    simpa using hown
  · have hcells : ∀ j u, (news.map u64v)[j]? = some u → w.cell? (ad.add j) = some u := by
      intro j u hj
      rw [List.getElem?_map] at hj
      obtain ⟨x, hx, rfl⟩ := Option.map_eq_some_iff.1 hj
      obtain ⟨hj', rfl⟩ := List.getElem?_eq_some_iff.1 hx
      rcases hR.rd.2 with e | ⟨b, o, e, hlt, hc⟩
      · rw [e] at hj'; exact absurd hj' (by simp)
      · simp only [Option.some.injEq] at e
        rw [add_add ad j b o e]
        exact hc j hj'
    obtain ⟨v', w', hrun, h2, h3, _⟩ := run_append_own (P := Tryz.prog) w B 123 ty 102 i0 _ 1 8 Tryz.underlying123 hi hz0 hz1 hz2 rfl (by decide) v xs.length (xs.map u64v) hown.1 ad m c (news.map u64v)
      (by rw [List.length_map, hR.len]; omega) hcells (by intro u hu; obtain ⟨x, _, rfl⟩ := List.mem_map.1 hu; rfl) (by unfold maxLen; omega) (by omega) hB
    refine ⟨v', w', hrun, ⟨?_, hfit⟩, (Below.refl B w).grown h3 hB (hown.lt)⟩
    rw [hl, List.map_append]
    exact h2

theorem wp_app {o : Oper} {a : Act} {K : Act → World → Prop} {Q : Exit → Act → World → Prop} (w : World) (s x : Operand) (ho : o.op = .call { callee := .builtin .append, args := #[s, x], argTypes := #[123, 123] })
    (B : Nat) (v : Value) (xs : List Nat) (hs : a.eval s = v) (hown : Ow w B v xs) (A : Option Addr) (m c : Nat) (hx : a.eval x = .slice A m c) (news : List Nat) (hR : Sl w A m c news) (hmax : xs.length + m ≤ 17592186044416) (hB : B ≤ w.heap.size)
    (h : ∀ v' w', Ow w' B v' (xs ++ news) → Below B w w' → K (a.put o.dst v') w') : o.wp Tryz.prog a w K Q := by
  obtain ⟨v', w', hrun, h2, h3⟩ := run_app w o.type B v xs hown A m c news hR hmax hB
  unfold Oper.wp execOp
  simp only [ho, resolve, invoke, builtin, Sem.run_bind, Sem.run_pure, Result.andThen_ok, List.map_toArray, List.map_cons, List.map_nil, hs, hx, hrun]
  exact h v' w' h2 h3

theorem wpList_app {ops : Array Oper} {rest : List Oper} {o : Oper} {a : Act} {Q : Exit → Act → World → Prop} (w : World) (hgd : o.guard = none) (s x : Operand) (ho : o.op = .call { callee := .builtin .append, args := #[s, x], argTypes := #[123, 123] })
    (B : Nat) (v : Value) (xs : List Nat) (hs : a.eval s = v) (hown : Ow w B v xs) (A : Option Addr) (m c : Nat) (hx : a.eval x = .slice A m c) (news : List Nat) (hR : Sl w A m c news) (hmax : xs.length + m ≤ 17592186044416) (hB : B ≤ w.heap.size)
    (h : ∀ v' w', Ow w' B v' (xs ++ news) → Below B w w' → wpList Tryz.prog ops Q rest (a.put o.dst v') w') : wpList Tryz.prog ops Q (o :: rest) a w :=
  wpList_plain hgd fun _ hK => wp_app w s x ho B v xs hs hown A m c hx news hR hmax hB fun v' w' h2 h3 => hK _ _ (h v' w' h2 h3)

theorem step_app {ops : Array Oper} {o : Oper} {a : Act} {K : Act → World → Prop} {Q : Exit → Act → World → Prop} {E : Prop} (w : World) (hgd : o.guard = none) (s x : Operand) (ho : o.op = .call { callee := .builtin .append, args := #[s, x], argTypes := #[123, 123] })
    (B : Nat) (v : Value) (xs : List Nat) (hs : a.eval s = v) (hown : Ow w B v xs) (A : Option Addr) (m c : Nat) (hx : a.eval x = .slice A m c) (news : List Nat) (hR : Sl w A m c news) (hmax : xs.length + m ≤ 17592186044416) (hB : B ≤ w.heap.size)
    (h : ∀ v' w', Ow w' B v' (xs ++ news) → Below B w w' → K (a.put o.dst v') w') : if Region.wanted o (yielded ops a.tmps) = true then Oper.wp Tryz.prog o a w K Q else E := by
  have hw : Region.wanted o (yielded ops a.tmps) = true := by simp [Region.wanted, hgd]
  rw [if_pos hw]
  exact wp_app w s x ho B v xs hs hown A m c hx news hR hmax hB h

theorem blk_list (w : World) (xs : List Nat) (hf : Fit xs) : Blk (w.alloc (.cells (xs.map u64v).toArray 102)) w.heap.size xs := ⟨heap_alloc_new w _, hf⟩
end Go.Proofs.YtnkhhndjbanmnaaGreatDoor

/- Plain mathematics for the slow answers: digits in base 2^32. No program text. -/
namespace Go.Proofs.YtnkhhndjbanmnaaGreatDoor

/-- The number that digits in base 2^32 are, the lowest first. -/
def val32 : List Nat → Nat
  | [] => 0
  | x :: xs => x + 4294967296 * val32 xs
def Fit32 (xs : List Nat) : Prop := ∀ x ∈ xs, x < 4294967296
theorem Fit32.fit {xs : List Nat} (h : Fit32 xs) : Fit xs := fun x hx => by have := h x hx; omega
theorem fit32_nil : Fit32 [] := fun _ h => by cases h
theorem fit32_cons {x : Nat} {xs : List Nat} (hx : x < 4294967296) (h : Fit32 xs) : Fit32 (x :: xs) := by
  intro y hy
  rcases List.mem_cons.1 hy with rfl | hy
  · exact hx
  · exact h _ hy
theorem fit32_head {x : Nat} {xs : List Nat} (h : Fit32 (x :: xs)) : x < 4294967296 := h x (by simp)
theorem fit32_tail {x : Nat} {xs : List Nat} (h : Fit32 (x :: xs)) : Fit32 xs := fun y hy => h y (by simp [hy])
theorem fit32_append {xs ys : List Nat} (h : Fit32 xs) (k : Fit32 ys) : Fit32 (xs ++ ys) := fun y hy => by
  rcases List.mem_append.1 hy with hy | hy
  · exact h _ hy
  · exact k _ hy
theorem fit32_take {xs : List Nat} (h : Fit32 xs) (k : Nat) : Fit32 (xs.take k) := fun y hy => h y (List.mem_of_mem_take hy)
theorem fit32_drop {xs : List Nat} (h : Fit32 xs) (k : Nat) : Fit32 (xs.drop k) := fun y hy => h y (List.mem_of_mem_drop hy)
theorem fit32_getD {xs : List Nat} (h : Fit32 xs) (j : Nat) : xs.getD j 0 < 4294967296 := by
  rw [List.getD_eq_getElem?_getD]
  by_cases hj : j < xs.length
  · rw [List.getElem?_eq_getElem hj]; exact h _ (List.getElem_mem hj)
  · rw [List.getElem?_eq_none (by omega)]; decide
theorem val32_nil : val32 [] = 0 := rfl
theorem val32_cons (x : Nat) (xs : List Nat) : val32 (x :: xs) = x + 4294967296 * val32 xs := rfl
theorem val32_append (xs ys : List Nat) : val32 (xs ++ ys) = val32 xs + 4294967296 ^ xs.length * val32 ys := by
  induction xs with
  | nil => simp [val32]
  | cons x xs ih =>
    simp only [List.cons_append, val32_cons, ih, List.length_cons, Nat.pow_succ]
    grind
theorem val32_lt {xs : List Nat} (h : Fit32 xs) : val32 xs < 4294967296 ^ xs.length := by
  induction xs with
  | nil => simp [val32]
  | cons x xs ih =>
    have h1 := ih (fit32_tail h)
    have h2 := fit32_head h
    rw [val32_cons, List.length_cons, Nat.pow_succ, Nat.mul_comm _ 4294967296]
    have : 4294967296 * (val32 xs + 1) ≤ 4294967296 * 4294967296 ^ xs.length := Nat.mul_le_mul_left _ h1
    omega

/-- The list without noughts at the end. -/
def tz : List Nat → List Nat
  | [] => []
  | x :: xs => match tz xs with
    | [] => if x = 0 then [] else [x]
    | y :: ys => x :: y :: ys
theorem tz_cons (x : Nat) (xs : List Nat) : tz (x :: xs) = if tz xs = [] then (if x = 0 then [] else [x]) else x :: tz xs := by
  rw [tz]
  split
  · rename_i h; rw [if_pos h]
  · rename_i y ys h; rw [h, if_neg (by simp)]
theorem val_tz (xs : List Nat) : val (tz xs) = val xs := by
  induction xs with
  | nil => rfl
  | cons x xs ih =>
    rw [tz_cons]
    by_cases h : tz xs = []
    · rw [if_pos h]
      rw [h] at ih
      rw [val_cons, ← ih]
      by_cases hx : x = 0
      · subst hx; simp [val]
      · rw [if_neg hx]; simp [val]
    · rw [if_neg h, val_cons, val_cons, ih]
theorem val32_tz (xs : List Nat) : val32 (tz xs) = val32 xs := by
  induction xs with
  | nil => rfl
  | cons x xs ih =>
    rw [tz_cons]
    by_cases h : tz xs = []
    · rw [if_pos h]
      rw [h] at ih
      rw [val32_cons, ← ih]
      by_cases hx : x = 0
      · subst hx; simp [val32]
      · rw [if_neg hx]; simp [val32]
    · rw [if_neg h, val32_cons, val32_cons, ih]
theorem tz_mem {xs : List Nat} : ∀ x ∈ tz xs, x ∈ xs := by
  induction xs with
  | nil => intro x hx; cases hx
  | cons y ys ih =>
    intro x hx
    rw [tz_cons] at hx
    split at hx
    · split at hx
      · cases hx
      · simp at hx; simp [hx]
    · rcases List.mem_cons.1 hx with rfl | hx
      · simp
      · exact List.mem_cons_of_mem _ (ih x hx)
theorem fit_tz {xs : List Nat} (h : Fit xs) : Fit (tz xs) := fun x hx => h x (tz_mem x hx)
theorem fit32_tz {xs : List Nat} (h : Fit32 xs) : Fit32 (tz xs) := fun x hx => h x (tz_mem x hx)
theorem tz_last (xs : List Nat) (hne : tz xs ≠ []) : (tz xs).getLast hne ≠ 0 := by
  induction xs with
  | nil => exact absurd rfl hne
  | cons x xs ih =>
    by_cases h : tz xs = []
    · by_cases hx : x = 0
      · exact absurd (by rw [tz_cons, if_pos h, if_pos hx]) hne
      · have e : tz (x :: xs) = [x] := by rw [tz_cons, if_pos h, if_neg hx]
        simp only [e]
        simpa using hx
    · have e : tz (x :: xs) = x :: tz xs := by rw [tz_cons, if_neg h]
      simp only [e]
      rw [List.getLast_cons h]
      exact ih h
theorem nrm_val_eq_tz {xs : List Nat} (h : Fit xs) : nrm (val xs) = tz xs := by
  rw [← val_tz xs]
  exact nrm_val_of_last (fit_tz h) (fun hne => tz_last xs hne)
theorem tz_idem {xs : List Nat} (h : Fit xs) : tz (tz xs) = tz xs := by rw [← nrm_val_eq_tz (fit_tz h), val_tz, nrm_val_eq_tz h]

/-- The digits of a number in base 2^32, none at the end that is nought. -/
def d32F : Nat → Nat → List Nat
  | 0, _ => []
  | f + 1, v => if v = 0 then [] else v % 4294967296 :: d32F f (v / 4294967296)
def d32 (v : Nat) : List Nat := d32F v v
theorem d32F_eq (f g v : Nat) (hf : v ≤ f) (hg : v ≤ g) : d32F f v = d32F g v := by
  induction f generalizing g v with
  | zero =>
    have : v = 0 := by omega
    subst this
    cases g <;> simp [d32F]
  | succ f ih =>
    cases g with
    | zero =>
      have : v = 0 := by omega
      subst this
      simp [d32F]
    | succ g =>
      by_cases h : v = 0
      · simp [d32F, h]
      · simp only [d32F, h, if_false]
        rw [ih g _ (by omega) (by omega)]
theorem d32_zero : d32 0 = [] := rfl
theorem d32_pos (v : Nat) (h : v ≠ 0) : d32 v = v % 4294967296 :: d32 (v / 4294967296) := by
  obtain ⟨u, rfl⟩ : ∃ u, v = u + 1 := ⟨v - 1, by omega⟩
  show d32F (u + 1) (u + 1) = _
  rw [d32F, if_neg h]
  unfold d32
  rw [d32F_eq u ((u + 1) / 4294967296) _ (by omega) (by omega)]
theorem val32_d32 (v : Nat) : val32 (d32 v) = v := by
  induction v using Nat.strongRecOn with
  | ind v ih =>
    by_cases h : v = 0
    · subst h; rfl
    · rw [d32_pos v h, val32_cons, ih (v / 4294967296) (by omega)]
      omega
theorem fit32_d32 (v : Nat) : Fit32 (d32 v) := by
  induction v using Nat.strongRecOn with
  | ind v ih =>
    by_cases h : v = 0
    · subst h; exact fit32_nil
    · rw [d32_pos v h]
      exact fit32_cons (by omega) (ih _ (by omega))
theorem tz_eq_d32 {xs : List Nat} (h : Fit32 xs) : tz xs = d32 (val32 xs) := by
  induction xs with
  | nil => rfl
  | cons x xs ih =>
    have ih' := ih (fit32_tail h)
    have hx := fit32_head h
    rw [tz_cons, val32_cons]
    by_cases h0 : tz xs = []
    · have hv : val32 xs = 0 := by rw [← val32_tz, h0]; rfl
      rw [if_pos h0, hv]
      by_cases hx0 : x = 0
      · subst hx0; rfl
      · rw [if_neg hx0, Nat.mul_zero, Nat.add_zero, d32_pos x hx0]
        rw [Nat.mod_eq_of_lt hx, Nat.div_eq_of_lt hx]
        rfl
    · have hv : val32 xs ≠ 0 := by
        intro e
        rw [e] at ih'
        exact h0 ih'
      rw [if_neg h0, d32_pos _ (by omega), ih']
      congr 1
      · omega
      · congr 1; omega

/-- The halves of limbs, one behind the other. -/
def halvesOf : List Nat → List Nat
  | [] => []
  | x :: xs => x % 4294967296 :: x / 4294967296 :: halvesOf xs
theorem halvesOf_length (xs : List Nat) : (halvesOf xs).length = 2 * xs.length := by
  induction xs with
  | nil => rfl
  | cons x xs ih => simp only [halvesOf, List.length_cons, ih]; omega
theorem halvesOf_append (xs ys : List Nat) : halvesOf (xs ++ ys) = halvesOf xs ++ halvesOf ys := by
  induction xs with
  | nil => rfl
  | cons x xs ih => simp [halvesOf, ih]
theorem fit32_halves {xs : List Nat} (h : Fit xs) : Fit32 (halvesOf xs) := by
  induction xs with
  | nil => exact fit32_nil
  | cons x xs ih =>
    have hx := fit_head h
    exact fit32_cons (by omega) (fit32_cons (by omega) (ih (fit_tail h)))
theorem val32_halves (xs : List Nat) : val32 (halvesOf xs) = val xs := by
  induction xs with
  | nil => rfl
  | cons x xs ih => rw [halvesOf, val32_cons, val32_cons, ih, val_cons]; omega
theorem halves_snoc (xs : List Nat) (k : Nat) (hk : k < xs.length) : halvesOf (xs.take (k + 1)) = halvesOf (xs.take k) ++ [xs[k] % 4294967296, xs[k] / 4294967296] := by
  rw [List.take_succ_eq_append_getElem hk, halvesOf_append]
  rfl

/-- Limbs put together of digits, two by two. -/
def pair64 : List Nat → List Nat
  | [] => []
  | [x] => [x]
  | x :: y :: r => (x + y * 4294967296) :: pair64 r
theorem val_pair64 : ∀ (ds : List Nat), val (pair64 ds) = val32 ds
  | [] => rfl
  | [x] => by simp [pair64, val, val32]
  | x :: y :: r => by rw [pair64, val_cons, val_pair64 r, val32_cons, val32_cons]; omega
theorem fit_pair64 : ∀ (ds : List Nat), Fit32 ds → Fit (pair64 ds)
  | [], _ => fit_nil
  | [x], h => fit_cons (by have := fit32_head h; omega) fit_nil
  | x :: y :: r, h => fit_cons (by have := fit32_head h; have := fit32_head (fit32_tail h); omega) (fit_pair64 r (fit32_tail (fit32_tail h)))
theorem pair64_length : ∀ (ds : List Nat), (pair64 ds).length = (ds.length + 1) / 2
  | [] => rfl
  | [x] => by simp [pair64]
  | x :: y :: r => by rw [pair64, List.length_cons, pair64_length r]; simp only [List.length_cons]; omega
theorem pair64_two (a b : List Nat) (h : a.length % 2 = 0) : pair64 (a ++ b) = pair64 a ++ pair64 b := by
  match a, h with
  | [], _ => rfl
  | [x], h => simp at h
  | x :: y :: r, h =>
    simp only [List.cons_append, pair64]
    rw [pair64_two r b (by simp only [List.length_cons] at h; omega)]
/-- The round of limbs: two digits more, or the last one. -/
theorem pair64_snoc (ds : List Nat) (k : Nat) (hk : 2 * k + 1 < ds.length) : pair64 (ds.take (2 * k + 2)) = pair64 (ds.take (2 * k)) ++ [ds[2 * k] + ds[2 * k + 1] * 4294967296] := by
  rw [List.take_succ_eq_append_getElem (by omega), List.take_succ_eq_append_getElem (by omega), List.append_assoc, pair64_two _ _ (by rw [List.length_take]; omega)]
  rfl
theorem pair64_snoc1 (ds : List Nat) (k : Nat) (hk : 2 * k + 1 = ds.length) : pair64 (ds.take (2 * k + 1)) = pair64 (ds.take (2 * k)) ++ [ds[2 * k]] := by
  rw [List.take_succ_eq_append_getElem (by omega), pair64_two _ _ (by rw [List.length_take]; omega)]
  rfl
end Go.Proofs.YtnkhhndjbanmnaaGreatDoor

/- cleaverref01.cut and Norm, by their contracts. -/
namespace Go.Proofs.YtnkhhndjbanmnaaGreatDoor
open Go.RowKit

/-- cleaverref01.Norm: a new slice of the plain limbs. -/
theorem pos_of {xs : List Nat} {w : World} {A : Option Addr} {n c : Nat} (h : Sl w A n c xs) : xs.length = n := h.len.symm

end Go.Proofs.YtnkhhndjbanmnaaGreatDoor

/- cleaverref01.Norm at every slice, digits and limbs, by their contracts. -/
namespace Go.Proofs.YtnkhhndjbanmnaaGreatDoor
open Go.RowKit

theorem and32 (x : Nat) (hx : x < 18446744073709551616) : bits .and .u64 (x : Int) 4294967295 = ((x % 4294967296 : Nat) : Int) := by
  rw [and_low32 x (by omega) (by omega)]
  omega

end Go.Proofs.YtnkhhndjbanmnaaGreatDoor

/- cleaverref01.limbs, by its contract. Conditions: what it is handed are digits in base 2^32. -/
namespace Go.Proofs.YtnkhhndjbanmnaaGreatDoor
open Go.RowKit

end Go.Proofs.YtnkhhndjbanmnaaGreatDoor

/- cleaverref01.Mul, by its contract. -/
namespace Go.Proofs.YtnkhhndjbanmnaaGreatDoor
open Go.RowKit

theorem val32_set (L : List Nat) (j u : Nat) (hj : j < L.length) : val32 (L.set j u) + 4294967296 ^ j * L.getD j 0 = val32 L + 4294967296 ^ j * u := by
  induction L generalizing j with
  | nil => simp at hj
  | cons x xs ih =>
    cases j with
    | zero => simp [val32]; omega
    | succ j =>
      have := ih j (by simpa using hj)
      simp only [List.set_cons_succ, val32_cons, List.getD_cons_succ, Nat.pow_succ]
      grind
theorem fit32_set {L : List Nat} (h : Fit32 L) (j u : Nat) (hu : u < 4294967296) : Fit32 (L.set j u) := by
  intro x hx
  rcases List.mem_or_eq_of_mem_set hx with hx | rfl
  · exact h x hx
  · exact hu
theorem val32_take_getD (xs : List Nat) (k : Nat) : val32 (xs.take (k + 1)) = val32 (xs.take k) + 4294967296 ^ k * xs.getD k 0 := by
  rw [List.getD_eq_getElem?_getD]
  by_cases h : k < xs.length
  · rw [List.take_succ_eq_append_getElem h, val32_append, val32_cons, val32_nil, List.length_take, Nat.min_eq_left (by omega), List.getElem?_eq_getElem h]
    simp
  · rw [List.take_of_length_le (by omega), List.take_of_length_le (by omega), List.getElem?_eq_none (by omega)]; simp
theorem getD_set_ne (L : List Nat) (j u i : Nat) (h : i ≠ j) : (L.set j u).getD i 0 = L.getD i 0 := by
  rw [List.getD_eq_getElem?_getD, List.getD_eq_getElem?_getD, List.getElem?_set_ne (Ne.symm h)]

/-- The relation of the inner loop. -/
def MulIn (N m i V xi : Nat) (ys L : List Nat) (k c : Nat) : Prop :=
  L.length = N ∧ Fit32 L ∧ c < 4294967296 ∧ val32 L + 4294967296 ^ (i + k) * c = V + xi * 4294967296 ^ i * val32 (ys.take k) ∧ ∀ j, i + m ≤ j → L.getD j 0 = 0
theorem mulIn_step {N m i V xi : Nat} {ys L : List Nat} {k c : Nat} (h : MulIn N m i V xi ys L k c) (hx : xi < 4294967296) (hy : Fit32 ys) (hk : k < m) (hN : i + m ≤ N) :
    MulIn N m i V xi ys (L.set (i + k) ((xi * ys.getD k 0 + L.getD (i + k) 0 + c) % 4294967296)) (k + 1) ((xi * ys.getD k 0 + L.getD (i + k) 0 + c) / 4294967296) := by
  obtain ⟨h1, h2, h3, h4, h5⟩ := h
  have hyk := fit32_getD hy k
  have hlk := fit32_getD h2 (i + k)
  have hb : xi * ys.getD k 0 ≤ 4294967295 * 4294967295 := Nat.mul_le_mul (by omega) (by omega)
  refine ⟨by rw [List.length_set, h1], fit32_set h2 _ _ (Nat.mod_lt _ (by decide)), by omega, ?_, fun j hj => by rw [getD_set_ne _ _ _ _ (by omega)]; exact h5 j hj⟩
  have hs := val32_set L (i + k) ((xi * ys.getD k 0 + L.getD (i + k) 0 + c) % 4294967296) (by omega)
  rw [val32_take_getD]
  generalize ys.getD k 0 = y at *
  generalize L.getD (i + k) 0 = d at *
  generalize hS : xi * y + d + c = S at *
  have hdm : S % 4294967296 + 4294967296 * (S / 4294967296) = S := Nat.mod_add_div S 4294967296
  have e1 : 4294967296 ^ (i + (k + 1)) = 4294967296 ^ (i + k) * 4294967296 := by rw [← Nat.pow_succ]; rfl
  have e2 : 4294967296 ^ (i + k) = 4294967296 ^ i * 4294967296 ^ k := Nat.pow_add ..
  rw [e1]
  generalize S % 4294967296 = r at *
  generalize S / 4294967296 = q at *
  generalize val32 (L.set (i + k) r) = V1 at *
  generalize val32 L = V0 at *
  generalize val32 (ys.take k) = Y at *
  rw [e2] at hs h4 ⊢
  generalize 4294967296 ^ i = p at *
  generalize 4294967296 ^ k = t at *
  have e3 : p * t * (r + 4294967296 * q) = p * t * (xi * y + d + c) := by rw [hdm, hS]
  grind
theorem mulIn_start {N m i V xi : Nat} {ys L : List Nat} (h1 : L.length = N) (h2 : Fit32 L) (h3 : val32 L = V) (h4 : ∀ j, i + m ≤ j → L.getD j 0 = 0) : MulIn N m i V xi ys L 0 0 :=
  ⟨h1, h2, by decide, by simp [h3, val32], h4⟩
theorem mulIn_end {N m i xi : Nat} {xs ys L : List Nat} {c : Nat} (h : MulIn N m i (val32 (xs.take i) * val32 ys) xi ys L m c) (hm : ys.length = m) (hxi : xi = xs.getD i 0) (hN : i + m < N) :
    (L.set (i + m) c).length = N ∧ Fit32 (L.set (i + m) c) ∧ val32 (L.set (i + m) c) = val32 (xs.take (i + 1)) * val32 ys ∧ ∀ j, i + 1 + m ≤ j → (L.set (i + m) c).getD j 0 = 0 := by
  obtain ⟨h1, h2, h3, h4, h5⟩ := h
  refine ⟨by rw [List.length_set, h1], fit32_set h2 _ _ h3, ?_, fun j hj => by rw [getD_set_ne _ _ _ _ (by omega)]; exact h5 j (by omega)⟩
  have hs := val32_set L (i + m) c (by omega)
  rw [h5 (i + m) (Nat.le_refl _), Nat.mul_zero, Nat.add_zero] at hs
  have e : ys.take m = ys := List.take_of_length_le (by omega)
  rw [hs, h4, e, val32_take_getD, ← hxi, Nat.add_mul]
  congr 1
  rw [Nat.mul_comm xi]

theorem Blk.cellD {w : World} {g : Nat} {L : List Nat} (h : Blk w g L) (i : Nat) (hi : i < L.length) : w.cell? ⟨g, i, none⟩ = some (u64v (L.getD i 0)) := by
  rw [h.cell i hi, List.getD_eq_getElem?_getD, List.getElem?_eq_getElem hi]
  rfl
theorem val32_zeros (n : Nat) : val32 (List.replicate n 0) = 0 := by
  induction n with
  | zero => rfl
  | succ n ih => rw [List.replicate_succ, val32_cons, ih]

end Go.Proofs.YtnkhhndjbanmnaaGreatDoor

/- cleaverref01.at, compare, Add, less, Sub, Cmp, by their contracts. -/
namespace Go.Proofs.YtnkhhndjbanmnaaGreatDoor
open Go.RowKit

theorem val32_drop_getD (xs : List Nat) (k : Nat) : val32 (xs.drop k) = xs.getD k 0 + 4294967296 * val32 (xs.drop (k + 1)) := by
  rw [List.getD_eq_getElem?_getD]
  by_cases h : k < xs.length
  · rw [List.drop_eq_getElem_cons h, val32_cons, List.getElem?_eq_getElem h]; rfl
  · rw [List.drop_of_length_le (by omega), List.drop_of_length_le (by omega), List.getElem?_eq_none (by omega)]; rfl
theorem val32_split (xs : List Nat) (k : Nat) : val32 xs = val32 (xs.take k) + 4294967296 ^ k * val32 (xs.drop k) := by
  by_cases h : k ≤ xs.length
  · conv => lhs; rw [← List.take_append_drop k xs]
    rw [val32_append, List.length_take, Nat.min_eq_left h]
  · rw [List.take_of_length_le (by omega), List.drop_of_length_le (by omega)]; simp [val32]
theorem val32_take_lt {xs : List Nat} (h : Fit32 xs) (k : Nat) : val32 (xs.take k) < 4294967296 ^ k :=
  Nat.lt_of_lt_of_le (val32_lt (fit32_take h k)) (Nat.pow_le_pow_right (by decide) (by rw [List.length_take]; omega))
theorem lt32_at {xs ys : List Nat} (hx : Fit32 xs) (k : Nat) (hd : val32 (xs.drop (k + 1)) = val32 (ys.drop (k + 1))) (h : xs.getD k 0 < ys.getD k 0) : val32 xs < val32 ys := by
  rw [val32_split xs k, val32_split ys k, val32_drop_getD xs k, val32_drop_getD ys k, hd]
  have a := val32_take_lt hx k
  have b : 4294967296 ^ k * (xs.getD k 0 + 4294967296 * val32 (ys.drop (k + 1)) + 1) ≤ 4294967296 ^ k * (ys.getD k 0 + 4294967296 * val32 (ys.drop (k + 1))) := Nat.mul_le_mul_left _ (by omega)
  rw [Nat.mul_add, Nat.mul_one] at b
  omega

end Go.Proofs.YtnkhhndjbanmnaaGreatDoor

/- cleaverref01.Add, less, Sub, Cmp, by their contracts. -/
namespace Go.Proofs.YtnkhhndjbanmnaaGreatDoor
open Go.RowKit

theorem fit32_snoc {L : List Nat} {u : Nat} (h : Fit32 L) (hu : u < 4294967296) : Fit32 (L ++ [u]) := fit32_append h (fit32_cons hu fit32_nil)
theorem val32_snoc (L : List Nat) (u : Nat) : val32 (L ++ [u]) = val32 L + 4294967296 ^ L.length * u := by rw [val32_append, val32_cons, val32_nil]; simp

/-- The relation of Add's loop. -/
def SumIn (xs ys L : List Nat) (k c : Nat) : Prop := L.length = k ∧ Fit32 L ∧ c ≤ 1 ∧ val32 L + 4294967296 ^ k * c = val32 (xs.take k) + val32 (ys.take k)
theorem sumIn_step {xs ys L : List Nat} {k c : Nat} (h : SumIn xs ys L k c) (hx : Fit32 xs) (hy : Fit32 ys) :
    SumIn xs ys (L ++ [(xs.getD k 0 + ys.getD k 0 + c) % 4294967296]) (k + 1) ((xs.getD k 0 + ys.getD k 0 + c) / 4294967296) := by
  obtain ⟨h1, h2, h3, h4⟩ := h
  have f1 := fit32_getD hx k
  have f2 := fit32_getD hy k
  refine ⟨by simp [h1], fit32_snoc h2 (Nat.mod_lt _ (by decide)), by omega, ?_⟩
  rw [val32_snoc, h1, val32_take_getD, val32_take_getD, Nat.pow_succ]
  generalize xs.getD k 0 = x at *
  generalize ys.getD k 0 = y at *
  have hdm : (x + y + c) % 4294967296 + 4294967296 * ((x + y + c) / 4294967296) = x + y + c := Nat.mod_add_div _ _
  generalize (x + y + c) % 4294967296 = r at *
  generalize (x + y + c) / 4294967296 = q at *
  generalize 4294967296 ^ k = p at *
  have e : p * (r + 4294967296 * q) = p * (x + y + c) := by rw [hdm]
  grind
theorem sumIn_end {xs ys L : List Nat} {K c : Nat} (h : SumIn xs ys L K c) (hx : Fit32 xs) (hy : Fit32 ys) (h1 : xs.length < K) (h2 : ys.length < K) : val32 L = val32 xs + val32 ys := by
  obtain ⟨_, hf, hc, hv⟩ := h
  rw [List.take_of_length_le (by omega), List.take_of_length_le (by omega)] at hv
  have a1 := val32_lt hx
  have a2 := val32_lt hy
  have b1 : 4294967296 ^ xs.length ≤ 4294967296 ^ (K - 1) := Nat.pow_le_pow_right (by decide) (by omega)
  have b2 : 4294967296 ^ ys.length ≤ 4294967296 ^ (K - 1) := Nat.pow_le_pow_right (by decide) (by omega)
  have e : 4294967296 ^ K = 4294967296 ^ (K - 1) * 4294967296 := by rw [← Nat.pow_succ]; congr 1; omega
  rw [e] at hv
  generalize 4294967296 ^ (K - 1) = p at *
  have hc0 : c = 0 := by
    rcases Nat.lt_or_ge c 1 with h | h
    · omega
    · have h1 : c = 1 := by omega
      rw [h1, Nat.mul_one] at hv
      omega
  rw [hc0, Nat.mul_zero, Nat.add_zero] at hv
  exact hv

end Go.Proofs.YtnkhhndjbanmnaaGreatDoor

/- cleaverref01.less, Sub, Cmp, Bits, by their contracts. -/
namespace Go.Proofs.YtnkhhndjbanmnaaGreatDoor
open Go.RowKit

/-- The relation of less' loop: what is left, and whether one must still be taken. -/
def LessIn (xs ys L : List Nat) (k c : Nat) : Prop := L.length = k ∧ Fit32 L ∧ c ≤ 1 ∧ val32 (xs.take k) + 4294967296 ^ k * c = val32 L + val32 (ys.take k)
theorem lessIn_step {xs ys L : List Nat} {k c : Nat} (h : LessIn xs ys L k c) (hx : Fit32 xs) (hy : Fit32 ys) :
    LessIn xs ys (L ++ [(xs.getD k 0 + 4294967296 - ys.getD k 0 - c) % 4294967296]) (k + 1) (1 - (xs.getD k 0 + 4294967296 - ys.getD k 0 - c) / 4294967296) := by
  obtain ⟨h1, h2, h3, h4⟩ := h
  have f1 := fit32_getD hx k
  have f2 := fit32_getD hy k
  refine ⟨by simp [h1], fit32_snoc h2 (Nat.mod_lt _ (by decide)), by omega, ?_⟩
  rw [val32_snoc, h1, val32_take_getD, val32_take_getD, Nat.pow_succ]
  generalize xs.getD k 0 = x at *
  generalize ys.getD k 0 = y at *
  have hd : x + 4294967296 * (1 - (x + 4294967296 - y - c) / 4294967296) = (x + 4294967296 - y - c) % 4294967296 + y + c := by omega
  generalize (x + 4294967296 - y - c) % 4294967296 = r at *
  generalize 1 - (x + 4294967296 - y - c) / 4294967296 = q at *
  generalize 4294967296 ^ k = p at *
  have e : p * (x + 4294967296 * q) = p * (r + y + c) := by rw [hd]
  grind
theorem lessIn_end {xs ys L : List Nat} {c : Nat} (h : LessIn xs ys L xs.length c) (hl : ys.length ≤ xs.length) (hle : val32 ys ≤ val32 xs) : val32 L = val32 xs - val32 ys := by
  obtain ⟨h1, hf, hc, hv⟩ := h
  rw [List.take_of_length_le (Nat.le_refl _), List.take_of_length_le hl] at hv
  have a1 := val32_lt hf
  rw [h1] at a1
  generalize 4294967296 ^ xs.length = p at *
  rcases Nat.lt_or_ge c 1 with h | h
  · have h0 : c = 0 := by omega
    rw [h0, Nat.mul_zero, Nat.add_zero] at hv
    omega
  · have h1 : c = 1 := by omega
    rw [h1, Nat.mul_one] at hv
    omega

theorem d32_lt (v : Nat) : v < 4294967296 ^ (d32 v).length := by
  have := val32_lt (fit32_d32 v)
  rwa [val32_d32] at this
theorem d32_ge (v : Nat) (h : v ≠ 0) : 4294967296 ^ ((d32 v).length - 1) ≤ v := by
  induction v using Nat.strongRecOn with
  | ind v ih =>
    rw [d32_pos v h, List.length_cons, Nat.add_sub_cancel]
    by_cases h0 : v / 4294967296 = 0
    · rw [h0, d32_zero]; simp; omega
    · have h1 := ih (v / 4294967296) (by omega) h0
      have hp : 0 < (d32 (v / 4294967296)).length := by rw [d32_pos _ h0]; simp
      have e : 4294967296 ^ (d32 (v / 4294967296)).length = 4294967296 ^ ((d32 (v / 4294967296)).length - 1) * 4294967296 := by rw [← Nat.pow_succ]; congr 1; omega
      rw [e]
      have := Nat.mul_le_mul_right 4294967296 h1
      omega
theorem d32_len_le {u v : Nat} (h : u ≤ v) : (d32 u).length ≤ (d32 v).length := by
  rcases Nat.lt_or_ge (d32 v).length (d32 u).length with h1 | h1
  · have hu : u ≠ 0 := by intro e; rw [e, d32_zero] at h1; simp at h1
    have h2 := d32_ge u hu
    have h3 := d32_lt v
    have h4 : 4294967296 ^ (d32 v).length ≤ 4294967296 ^ ((d32 u).length - 1) := Nat.pow_le_pow_right (by decide) (by omega)
    omega
  · exact h1

theorem cmpN_eq (a b : Nat) : cmpN a b = -1 ∧ a < b ∨ 0 ≤ cmpN a b ∧ b ≤ a := by
  unfold cmpN
  split
  · exact .inl ⟨rfl, by assumption⟩
  · refine .inr ⟨?_, by omega⟩
    split <;> omega

/-- What Sub answers: the limbs, the error. -/
def subL (u v : Nat) : List Nat := if u < v then [] else nrm (u - v)
def subE (u v : Nat) : Int := if u < v then 1 else 0
theorem subL_lt {u v : Nat} (h : u < v) : subL u v = [] := if_pos h
theorem subL_ge {u v : Nat} (h : v ≤ u) : subL u v = nrm (u - v) := if_neg (by omega)
theorem subE_lt {u v : Nat} (h : u < v) : subE u v = 1 := if_pos h
theorem subE_ge {u v : Nat} (h : v ≤ u) : subE u v = 0 := if_neg (by omega)

end Go.Proofs.YtnkhhndjbanmnaaGreatDoor

/- cleaverref01.Bits, by its contract. -/
namespace Go.Proofs.YtnkhhndjbanmnaaGreatDoor
open Go.RowKit

theorem bitLen_two (t : Nat) (h : t ≠ 0) : bitLen t = 1 + bitLen (t / 2) := by
  unfold bitLen
  rw [if_neg h, Nat.log2_def t]
  by_cases h2 : 2 ≤ t
  · rw [if_pos h2, if_neg (by omega)]; omega
  · obtain rfl : t = 1 := by omega
    simp

/-- The plain limbs' last one tells the bits. -/
theorem bits_last (v : Nat) (k : Nat) (hk : k + 1 = (nrm v).length) : (nrm v).getD k 0 ≠ 0 ∧ bitLen v = 64 * k + bitLen ((nrm v).getD k 0) := by
  have hk' : k < (nrm v).length := by omega
  have e : (nrm v).getD k 0 = (nrm v)[k] := by rw [List.getD_eq_getElem?_getD, List.getElem?_eq_getElem hk']; rfl
  have hs := val_split (nrm v) k hk'
  rw [List.drop_of_length_le (by omega), val_nil, Nat.mul_zero, Nat.add_zero] at hs
  have hl := val_lt (fit_take (fit_nrm v) k)
  rw [List.length_take, Nat.min_eq_left (by omega)] at hl
  have hv := val_nrm v
  have hx0 : (nrm v)[k] ≠ 0 := by
    intro h0
    rw [h0, Nat.mul_zero, Nat.add_zero, hv] at hs
    have hge := nrm_ge v (by intro e0; rw [e0, nrm_zero] at hk; simp at hk)
    rw [← hk, Nat.add_sub_cancel] at hge
    omega
  rw [e]
  refine ⟨hx0, ?_⟩
  rw [hv] at hs
  have hb := bitLen_split _ _ _ hx0 hl
  rw [← hs] at hb
  exact hb

end Go.Proofs.YtnkhhndjbanmnaaGreatDoor

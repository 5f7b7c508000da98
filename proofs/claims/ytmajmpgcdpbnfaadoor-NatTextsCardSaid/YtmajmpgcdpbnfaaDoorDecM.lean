/- Decimal digits: mathematics. -/
import Derived.Test.YtmajmpgcdpbnfaaDoorNatMath
import Derived.Lib.TrimByte
namespace Go.Proofs.YtmajmpgcdpbnfaaDoor

/-- So many decimal digits of a number, as letters, the highest first. -/
def decN : Nat → Nat → List UInt8
  | 0, _ => []
  | k + 1, v => decN k (v / 10) ++ [UInt8.ofNat (48 + v % 10)]
/-- The number of a row of letters. -/
def hv (l : List UInt8) : Nat := l.foldl (fun v b => v * 10 + (b.toNat - 48)) 0
def Digits (l : List UInt8) : Prop := ∀ b ∈ l, 48 ≤ b.toNat ∧ b.toNat ≤ 57
/-- The decimal digits of a number. -/
def txt (v : Nat) : List UInt8 := if v = 0 then [48] else Lib.trimLeftB (decN v v) 48

theorem dig_toNat (d : Nat) (h : d < 10) : (UInt8.ofNat (48 + d)).toNat = 48 + d := by
  rw [UInt8.toNat_ofNat']; omega
theorem decN_length (k v : Nat) : (decN k v).length = k := by
  induction k generalizing v with
  | zero => rfl
  | succ k ih => simp [decN, ih]
theorem decN_digits (k v : Nat) : Digits (decN k v) := by
  induction k generalizing v with
  | zero => intro b h; cases h
  | succ k ih =>
    intro b h
    rcases List.mem_append.1 h with h | h
    · exact ih _ b h
    · obtain rfl := List.mem_singleton.1 h
      rw [dig_toNat _ (Nat.mod_lt _ (by decide))]
      have := Nat.mod_lt v (by decide : 0 < 10)
      omega
theorem hv_snoc (l : List UInt8) (b : UInt8) : hv (l ++ [b]) = hv l * 10 + (b.toNat - 48) := by simp [hv]
theorem hv_foldl (l : List UInt8) (a : Nat) : l.foldl (fun v b => v * 10 + (b.toNat - 48)) a = a * 10 ^ l.length + hv l := by
  induction l generalizing a with
  | nil => simp [hv]
  | cons b l ih =>
    unfold hv
    rw [List.foldl_cons, List.foldl_cons, ih, ih (0 * 10 + (b.toNat - 48)), List.length_cons, Nat.pow_succ]
    grind
theorem hv_append (l m : List UInt8) : hv (l ++ m) = hv l * 10 ^ m.length + hv m := by
  unfold hv
  rw [List.foldl_append, hv_foldl m]
  rfl
theorem hv_cons (b : UInt8) (l : List UInt8) : hv (b :: l) = (b.toNat - 48) * 10 ^ l.length + hv l := by
  have := hv_append [b] l
  simpa [hv] using this
theorem hv_decN (k v : Nat) : hv (decN k v) = v % 10 ^ k := by
  induction k generalizing v with
  | zero => simp [decN, hv, Nat.mod_one]
  | succ k ih =>
    rw [decN, hv_snoc, ih, dig_toNat _ (Nat.mod_lt _ (by decide)), Nat.pow_succ, Nat.mul_comm (10 ^ k) 10, Nat.mod_mul]
    omega
theorem hv_lt {l : List UInt8} (h : Digits l) : hv l < 10 ^ l.length := by
  induction l with
  | nil => simp [hv]
  | cons b l ih =>
    have h1 := h b (by simp)
    have h2 := ih fun c hc => h c (by simp [hc])
    rw [hv_cons, List.length_cons, Nat.pow_succ]
    have h3 : (b.toNat - 48) * 10 ^ l.length ≤ 9 * 10 ^ l.length := Nat.mul_le_mul_right _ (by omega)
    omega
theorem decN_hv {l : List UInt8} (h : Digits l) : decN l.length (hv l) = l := by
  have key : ∀ n (l : List UInt8), l.length = n → Digits l → decN n (hv l) = l := by
    intro n
    induction n with
    | zero => intro l hl _; rw [List.eq_nil_of_length_eq_zero hl]; rfl
    | succ n ih =>
      intro l hl hd
      obtain ⟨m, b, rfl⟩ : ∃ m b, l = m ++ [b] := ⟨l.dropLast, l.getLast (by intro e; rw [e] at hl; simp at hl), (List.dropLast_concat_getLast _).symm⟩
      have hb := hd b (by simp)
      have hm : m.length = n := by simpa using hl
      rw [hv_snoc, decN, show (hv m * 10 + (b.toNat - 48)) / 10 = hv m by omega, show (hv m * 10 + (b.toNat - 48)) % 10 = b.toNat - 48 by omega, ih m hm fun c hc => hd c (by simp [hc]), show 48 + (b.toNat - 48) = b.toNat by omega, UInt8.ofNat_toNat]
  exact key _ l rfl h
theorem decN_lead (k v : Nat) (h : v < 10 ^ k) : decN (k + 1) v = 48 :: decN k v := by
  induction k generalizing v with
  | zero =>
    obtain rfl : v = 0 := by simpa using h
    rfl
  | succ k ih =>
    rw [decN, ih (v / 10) (by rw [Nat.pow_succ] at h; omega), decN]
    rfl
theorem decN_add (j k v : Nat) : decN (j + k) v = decN j (v / 10 ^ k) ++ decN k v := by
  induction k generalizing v with
  | zero => simp [decN]
  | succ k ih =>
    rw [← Nat.add_assoc, decN, ih, decN, List.append_assoc, Nat.div_div_eq_div_mul, Nat.pow_succ, Nat.mul_comm 10]
theorem decN_mod (k v : Nat) : decN k (v % 10 ^ k) = decN k v := by
  induction k generalizing v with
  | zero => rfl
  | succ k ih =>
    rw [decN, decN, Nat.pow_succ, Nat.mul_comm, Nat.mod_mul_right_div_self, ih, Nat.mod_mul_right_mod]
theorem trim_zero (l : List UInt8) : Lib.trimLeftB (48 :: l) 48 = Lib.trimLeftB l 48 := by simp [Lib.trimLeftB]
theorem trim_other (b : UInt8) (l : List UInt8) (h : b ≠ 48) : Lib.trimLeftB (b :: l) 48 = b :: l := by simp [Lib.trimLeftB, h]
theorem trim_more (j k v : Nat) (h : v < 10 ^ k) : Lib.trimLeftB (decN (k + j) v) 48 = Lib.trimLeftB (decN k v) 48 := by
  induction j with
  | zero => rfl
  | succ j ih =>
    rw [← Nat.add_assoc, decN_lead, trim_zero, ih]
    exact Nat.lt_of_lt_of_le h (Nat.pow_le_pow_right (by decide) (by omega))
theorem lt_ten (v : Nat) : v < 10 ^ v := Nat.lt_pow_self (by decide)
theorem trim_decN (k v : Nat) (h : v < 10 ^ k) (h0 : v ≠ 0) : Lib.trimLeftB (decN k v) 48 = txt v := by
  unfold txt
  rw [if_neg h0]
  rcases Nat.le_total k v with hk | hk
  · have := trim_more (v - k) k v h
    rw [show k + (v - k) = v by omega] at this
    exact this.symm
  · have := trim_more (k - v) v v (lt_ten v)
    rw [show v + (k - v) = k by omega] at this
    exact this
theorem txt_top (k v : Nat) (h : 10 ^ k ≤ v) (h2 : v < 10 ^ (k + 1)) : decN (k + 1) v = txt v := by
  have h0 : v ≠ 0 := by have : 0 < 10 ^ k := Nat.pow_pos (by decide); omega
  rw [← trim_decN (k + 1) v h2 h0, show k + 1 = 1 + k by omega, decN_add]
  have h1 : 1 ≤ v / 10 ^ k := (Nat.le_div_iff_mul_le (Nat.pow_pos (by decide))).2 (by omega)
  have h3 : v / 10 ^ k < 10 := Nat.div_lt_of_lt_mul (by rw [Nat.pow_succ] at h2; exact h2)
  have e : decN 1 (v / 10 ^ k) = [UInt8.ofNat (48 + v / 10 ^ k)] := by simp [decN, Nat.mod_eq_of_lt h3]
  rw [e, List.singleton_append, trim_other]
  intro e2
  have := congrArg UInt8.toNat e2
  rw [dig_toNat _ h3] at this
  have e48 : (48 : UInt8).toNat = 48 := rfl
  omega
theorem hv_trim (l : List UInt8) : hv (Lib.trimLeftB l 48) = hv l := by
  induction l with
  | nil => rfl
  | cons b l ih =>
    by_cases h : b = 48
    · subst h
      rw [trim_zero, ih, hv_cons]
      simp
    · rw [trim_other b l h]
theorem hv_txt (v : Nat) : hv (txt v) = v := by
  unfold txt
  by_cases h : v = 0
  · rw [if_pos h, h]; rfl
  · rw [if_neg h, hv_trim, hv_decN, Nat.mod_eq_of_lt (lt_ten v)]
theorem trim_mem {l : List UInt8} (h : Digits l) : Digits (Lib.trimLeftB l 48) := fun b hb => h b (List.dropWhile_subset _ hb)
theorem txt_digits (v : Nat) : Digits (txt v) := by
  unfold txt
  by_cases h : v = 0
  · rw [if_pos h]; intro b hb; obtain rfl := List.mem_singleton.1 hb; decide
  · rw [if_neg h]; exact trim_mem (decN_digits _ _)
theorem txt_len (v k : Nat) (h : v < 10 ^ k) (hk : 0 < k) : (txt v).length ≤ k := by
  by_cases h0 : v = 0
  · unfold txt; rw [if_pos h0]; exact hk
  · rw [← trim_decN k v h h0]
    have := (List.dropWhile_sublist (l := decN k v) (· == 48)).length_le
    rw [decN_length] at this
    exact this
theorem txt_pos (v : Nat) : 0 < (txt v).length := by
  by_cases h0 : v = 0
  · unfold txt; rw [if_pos h0]; decide
  · rcases Nat.eq_zero_or_pos (txt v).length with e | e
    · have h1 := hv_txt v
      rw [List.eq_nil_of_length_eq_zero e] at h1
      exact absurd h1.symm h0
    · exact e
theorem txt_head (v : Nat) (h0 : v ≠ 0) : (txt v).head? ≠ some 48 := by
  unfold txt
  rw [if_neg h0]
  intro h
  have : ∀ l : List UInt8, (Lib.trimLeftB l 48).head? ≠ some 48 := by
    intro l
    induction l with
    | nil => simp [Lib.trimLeftB]
    | cons b l ih =>
      by_cases hb : b = 48
      · subst hb; rw [trim_zero]; exact ih
      · rw [trim_other b l hb]; simpa using hb
  exact this _ h
/-- A text that is a number's is the number's text. -/
theorem txt_hv {l : List UInt8} (h : Digits l) (hl : 0 < l.length) (hz : l.head? ≠ some 48 ∨ l.length = 1) : txt (hv l) = l := by
  cases l with
  | nil => simp at hl
  | cons b t =>
    by_cases h48 : b = 48
    · subst h48
      rcases hz with hz | hz
      · exact absurd rfl hz
      · have : t = [] := List.eq_nil_of_length_eq_zero (by simpa using hz)
        subst this
        rfl
    · have e := decN_hv h
      have hlt := hv_lt h
      have h0 : hv (b :: t) ≠ 0 := by
        intro h0
        rw [hv_cons] at h0
        have hb := h b (by simp)
        have hb2 : b.toNat ≠ 48 := fun e => h48 (UInt8.toNat_inj.1 (by rw [e]; rfl))
        have : 0 < (b.toNat - 48) * 10 ^ t.length := Nat.mul_pos (by omega) (Nat.pow_pos (by decide))
        omega
      rw [← trim_decN _ _ hlt h0, e, trim_other b t h48]
end Go.Proofs.YtmajmpgcdpbnfaaDoor

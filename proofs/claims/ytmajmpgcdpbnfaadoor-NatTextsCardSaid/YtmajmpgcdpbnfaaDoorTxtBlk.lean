/- nat.appendBlock, by its contract. -/
import Derived.Test.YtmajmpgcdpbnfaaDoorTxtLay
import Derived.Test.YtmajmpgcdpbnfaaDoorNatDLimb
namespace Go.Proofs.YtmajmpgcdpbnfaaDoor
open Go.RowKit

theorem hv_take (l : List UInt8) (k : Nat) (hk : k < l.length) (x : UInt8) (hx : l[k]? = some x) : hv (l.take (k + 1)) = hv (l.take k) * 10 + (x.toNat - 48) := by
  rw [List.take_succ_eq_append_getElem hk, hv_snoc]
  rw [List.getElem?_eq_getElem hk] at hx
  rw [Option.some.inj hx]
theorem hv_take_lt {l : List UInt8} (h : Digits l) (k : Nat) (hk : k ≤ 19) : hv (l.take k) < 10000000000000000000 := by
  have h1 := hv_lt (l := l.take k) fun b hb => h b (List.mem_of_mem_take hb)
  exact Nat.lt_of_lt_of_le h1 (Nat.pow_le_pow_right (by decide : 0 < 10) (by rw [List.length_take]; omega : (l.take k).length ≤ 19))
theorem unit_lt (X B n : Nat) (hX : X < 18446744073709551616 ^ n) (hB : B < 10000000000000000000) : B + 10000000000000000000 * X < 18446744073709551616 ^ (n + 1) := by
  obtain ⟨M, hM⟩ : ∃ M, M = 18446744073709551616 ^ n := ⟨_, rfl⟩
  rw [Nat.pow_succ, ← hM]
  rw [← hM] at hX
  omega

set_option maxHeartbeats 1000000 in
theorem appendBlock_any (A : Option Addr) (n c : Nat) (xs : List Nat) (s : ByteArray) (w : World) (h : Sl w A n c xs) (hn : n ≤ 8796093022208) (hd : Digits s.data.toList) (hs : s.size ≤ 19) :
    Calls Tryd.prog 12 #[.slice A n c, .string s] w fun e w' =>
      ∃ g m d, e = .returned (.slice (some ⟨g, 0, none⟩) m d) ∧ w.heap.size ≤ g ∧ Sl w' (some ⟨g, 0, none⟩) m d (nrm (val xs * 10000000000000000000 + hv s.data.toList)) ∧ m ≤ n + 1 ∧ Below w.heap.size w w' := by
  have hsz := Lib.size_eq s
  have hat := byte_at s
  obtain ⟨l, hl⟩ : ∃ l, l = s.data.toList := ⟨_, rfl⟩
  rw [← hl] at hsz hat hd ⊢
  have HS := Lib.hid hsz
  have HAT := Lib.hid hat
  have HD := Lib.hid hd
  have H := Lib.hid h
  clear hl hsz hat hd h
  go_enter Tryd.func12, Tryd.ntmps12
  go_wp2_with fail
  go_loop [10, 5] (fun i bl => ∃ k B : Nat, k ≤ s.size ∧ i = .int .i64 k ∧ bl = .int .u64 (B : Int) ∧ B = hv (l.take k)) (fun i _ => (s.size - intOf i).toNat)
  case atStart => exact ⟨0, 0, Nat.zero_le _, rfl, rfl, by simp [hv]⟩
  case round =>
    obtain ⟨k, B, hk, rfl, rfl, hB⟩ := hrel
    have hBb := hv_take_lt HD.out k (by omega)
    rw [← hB] at hBb
    by_cases hkl : k < s.size
    · have hb := HAT.out k hkl
      obtain ⟨x, hx⟩ : ∃ x, x = s[k]'hkl := ⟨_, rfl⟩
      rw [← hx] at hb
      have hxx : ((s[k]'hkl).toNat : Int) = (x.toNat : Int) := by rw [hx]
      have hdx := HD.out x (List.mem_of_getElem? hb)
      have hB2 := hv_take l k (by rw [← HS.out]; exact hkl) x hb
      rw [← hB] at hB2
      have hBb2 := hv_take_lt HD.out (k + 1) (by omega)
      obtain ⟨B2, hB2'⟩ : ∃ B2, B2 = hv (l.take (k + 1)) := ⟨_, rfl⟩
      rw [← hB2'] at hB2 hBb2
      obtain ⟨d, hd⟩ : ∃ d, d = x.toNat - 48 := ⟨_, rfl⟩
      have e1 : IntKind.u64.wrap ((B : Int) * 10) = ((B * 10 : Nat) : Int) := by rw [IntKind.wrap_u64]; omega
      have e2 : IntKind.u8.wrap ((x.toNat : Int) - 48) = (d : Int) := by rw [IntKind.wrap_u8]; omega
      have e3 : IntKind.u64.wrap (d : Int) = (d : Int) := by rw [IntKind.wrap_u64]; omega
      have e4 : IntKind.u64.wrap ((B : Int) * 10 + (d : Int)) = (B2 : Int) := by rw [IntKind.wrap_u64]; omega
      have HB2 := Lib.hid hB2'
      clear hb hx hdx hB2 hBb2 hB2' hd hB
      go_wp2_with fail
      go_roundw
      case rel => exact ⟨k + 1, B2, by omega, rfl, rfl, HB2.out⟩
      case measure => simp [intOf]; omega
    · obtain rfl : k = s.size := by omega
      rw [HS.out, List.take_length] at hB
      have HB := Lib.hid hB
      clear hB
      go_wp2_with (first
        | (at_make; refine wpList_make_val _ rfl _ _ rfl _ _ _ _ (n + 1) rfl rfl (by omega) (by omega) (by omega) ?_; intro w1 hb1 hbel1; obtain ⟨old, hc⟩ : ∃ old, w1.cell? ⟨w.heap.size, 0, none⟩ = some (u64v old) := ⟨_, hb1.cellD 0 (by rw [dig_length]; omega)⟩; have hf := hb1.frozen 0))
      have hset := hb1.set_ 0 B (by omega)
      have e0 := dig_set (n + 1) 0 B 0 (by omega) (by simp [Nat.mod_one]) (by rw [Nat.zero_add, Nat.pow_one, Nat.zero_div, Nat.div_eq_of_lt (by omega)])
      rw [Nat.pow_zero, Nat.div_one, Nat.mod_eq_of_lt (by omega)] at e0
      rw [e0] at hset
      have hbel2 := hbel1.setCell (p := ⟨w.heap.size, 0, none⟩) (Nat.le_refl _) (u64v B)
      have hxl := val_lt H.out.fit
      rw [← H.out.len] at hxl
      have hbd := unit_lt (val xs) B n hxl hBb
      have hBn : B < 18446744073709551616 ^ (n + 1) := Nat.lt_of_le_of_lt (Nat.le_add_right _ _) hbd
      have hz : val (dig (n + 1) (B / 18446744073709551616 ^ 0)) + 10000000000000000000 * val xs < 18446744073709551616 ^ (n + 1) := by
        rw [Nat.pow_zero, Nat.div_one, val_dig_of_lt hBn]; exact hbd
      have HSET := Lib.hid hset
      have HBEL := Lib.hid hbel2
      have HZ := Lib.hid hz
      have HBN := Lib.hid hBn
      have HBD := Lib.hid hbd
      clear hset hbel2 hz hBn hbd hxl e0 hb1 hBb
      refine (addTimes_val w.heap.size 0 (n + 1) (n + 1) (n + 1) B A n c xs 10000000000000000000 _ HSET.out (by omega) (by omega) (H.out.below HBEL.out) (by omega) (H.out.apart (Nat.le_refl _)) (by decide) HBN.out HZ.out).mono ?_
      rintro e w2 ⟨rfl, hb2, hg2⟩
      rw [Nat.pow_zero, Nat.one_mul, Nat.mul_comm _ (val xs)] at hb2
      have hbd := HBD.out
      rw [Nat.mul_comm _ (val xs)] at hbd
      have hbel3 := HBEL.out.trans (below_of_grown hg2 HBEL.out.size (Nat.le_refl _))
      have T := trim_any _ (n + 1) (n + 1) _ w2 (hb2.sl' (by omega))
      have hs := (hb2.sl' (by omega)).plain
      rw [val_dig_of_lt hbd, Nat.add_comm B, HB.out] at T hs
      have hm := nrm_len_le hbd
      rw [Nat.add_comm B, HB.out] at hm
      obtain ⟨m, hm'⟩ : ∃ m, m = (nrm (val xs * 10000000000000000000 + hv l)).length := ⟨_, rfl⟩
      rw [← hm'] at T hs hm
      have TT := Lib.hid T
      have HS2 := Lib.hid hs
      clear T hs hm' hbd hb2 hg2
      go_wp2_with (go_at_call 16; refine TT.out.mono ?_; rintro e w' ⟨rfl, rfl⟩)
      go_ret
      exact ⟨w.heap.size, m, _, rfl, Nat.le_refl _, HS2.out, hm, hbel3⟩
end Go.Proofs.YtmajmpgcdpbnfaaDoor

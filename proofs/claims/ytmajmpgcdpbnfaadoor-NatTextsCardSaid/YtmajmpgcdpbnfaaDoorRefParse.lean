/- cleaverref01.Parse, by its contract. -/
import Derived.Test.YtmajmpgcdpbnfaaDoorTxtOw
namespace Go.Proofs.YtmajmpgcdpbnfaaDoor
open Go.RowKit

/-- What holds as the digits are multiplied by ten, k of them done. -/
def PIn (L L' : List Nat) (k c d : Nat) : Prop := Fit32 L' ∧ L'.length = L.length ∧ L'.drop k = L.drop k ∧ val32 (L'.take k) + 4294967296 ^ k * c = 10 * val32 (L.take k) + d ∧ c < 10
theorem pIn_start {L : List Nat} (hL : Fit32 L) {d : Nat} (hd : d < 10) : PIn L L 0 d d := ⟨hL, rfl, rfl, by simp [val32], hd⟩
theorem pIn_get {L L' : List Nat} {k c d : Nat} (h : PIn L L' k c d) : L'.getD k 0 = L.getD k 0 ∧ L.getD k 0 < 4294967296 := by
  obtain ⟨hf, hl, hd, _, _⟩ := h
  have e : (L'.drop k)[0]? = (L.drop k)[0]? := by rw [hd]
  rw [List.getElem?_drop, List.getElem?_drop, Nat.add_zero] at e
  have e2 : L'.getD k 0 = L.getD k 0 := by rw [List.getD_eq_getElem?_getD, List.getD_eq_getElem?_getD, e]
  exact ⟨e2, by rw [← e2]; exact fit32_getD hf k⟩
theorem pIn_step {L L' : List Nat} {k c d v : Nat} (h : PIn L L' k c d) (hk : k < L.length) (hv : v = L.getD k 0 * 10 + c) : PIn L (L'.set k (v % 4294967296)) (k + 1) (v / 4294967296) d := by
  obtain ⟨hget, hlt⟩ := pIn_get h
  obtain ⟨hf, hl, hd, he, hc⟩ := h
  have hk' : k < L'.length := by omega
  have t1 : (L'.set k (v % 4294967296)).take (k + 1) = L'.take k ++ [v % 4294967296] := by
    rw [List.take_succ_eq_append_getElem (by simpa using hk'), List.take_set, List.getElem_set_self]
    congr 1
    rw [List.set_eq_of_length_le (by simp; omega)]
  have t2 : L.take (k + 1) = L.take k ++ [L.getD k 0] := by
    rw [List.take_succ_eq_append_getElem hk, List.getD_eq_getElem?_getD, List.getElem?_eq_getElem hk]; rfl
  refine ⟨?_, by simpa using hl, ?_, ?_, by omega⟩
  · intro x hx
    rcases List.mem_or_eq_of_mem_set hx with hx | rfl
    · exact hf x hx
    · exact Nat.mod_lt _ (by decide)
  · rw [List.drop_set_of_lt (by omega), ← List.drop_drop, hd, List.drop_drop]
  · rw [t1, t2, val32_append, val32_append, List.length_take, List.length_take, Nat.min_eq_left (by omega), Nat.min_eq_left (by omega)]
    simp only [val32, Nat.mul_zero, Nat.add_zero]
    have hv2 := Nat.mod_add_div v 4294967296
    rw [Nat.pow_succ]
    generalize 4294967296 ^ k = M at *
    generalize val32 (L'.take k) = a at *
    generalize val32 (L.take k) = b at *
    generalize L.getD k 0 = x at *
    have e1 : M * (v % 4294967296) + M * 4294967296 * (v / 4294967296) = M * v := by
      rw [Nat.mul_assoc, ← Nat.mul_add, hv2]
    have e2 : M * v = 10 * (M * x) + M * c := by
      rw [hv, Nat.mul_add, ← Nat.mul_assoc, Nat.mul_comm _ 10]
    omega
theorem pIn_done {L L' : List Nat} {k c d : Nat} (h : PIn L L' k c d) (hk : k = L.length) : val32 L' + 4294967296 ^ L.length * c = 10 * val32 L + d := by
  obtain ⟨hf, hl, hd, he, hc⟩ := h
  subst hk
  rw [List.take_length, List.take_of_length_le (by omega)] at he
  exact he

set_option maxHeartbeats 4000000 in
theorem refParse_ok (s : ByteArray) (w : World) (h : okText s.data.toList) :
    Calls Tryd.prog 6 #[.string s] w fun e w' =>
      ∃ A m d, e = .returned (.tuple #[.slice A m d, .int .i64 0]) ∧ Sl w' A m d (nrm (hv s.data.toList)) ∧ Below w.heap.size w w' := by
  have hsz := Lib.size_eq s
  have hat := byte_at s
  obtain ⟨h1, h2, h3, h4⟩ := h
  obtain ⟨l, hl⟩ : ∃ l, l = s.data.toList := ⟨_, rfl⟩
  rw [← hl] at hsz hat h1 h2 h3 h4 ⊢
  have hp : 0 < s.size := by omega
  have hmx : s.size ≤ 4096 := by omega
  have hne : ¬ s = ByteArray.empty := by intro e; rw [e] at hp; exact absurd hp (by decide)
  have hb0 := hat 0 hp
  obtain ⟨x0, hx0⟩ : ∃ x, x = s[0]'hp := ⟨_, rfl⟩
  rw [← hx0] at hb0
  have hxx0 : ((s[0]'hp).toNat : Int) = (x0.toNat : Int) := by rw [hx0]
  have hlead : ¬ ((x0.toNat : Int) = 48 ∧ (1 : Int) < (s.size : Int)) := by
    rintro ⟨e1, e2⟩
    rcases h4 with h | h
    · apply h
      rw [List.head?_eq_getElem?, hb0]
      exact congrArg some (UInt8.toNat_inj.1 (by have e : (48 : UInt8).toNat = 48 := rfl; omega))
    · omega
  have HS := Lib.hid hsz
  have HAT := Lib.hid hat
  have HD := Lib.hid h3
  clear hl hsz hat h1 h2 h3 h4 hx0 hb0
  have hcase : ((((x0.toNat : Int) == 48) = true ∧ ¬ (1 : Int) < (s.size : Int))) ∨ ((((x0.toNat : Int) == 48) = false) ∧ True) := by
    by_cases e : (x0.toNat : Int) = 48
    · exact .inl ⟨by simpa using e, fun h => hlead ⟨e, h⟩⟩
    · exact .inr ⟨by simpa using e, trivial⟩
  have z1 : ((s.size : Int) == 0) = false := by simp; omega
  have z2 : ¬ (4096 : Int) < (s.size : Int) := by omega
  clear hlead
  rcases hcase with ⟨e1, e2⟩ | ⟨e1, e2⟩
  all_goals
    go_enter Tryd.func6, Tryd.ntmps6
    go_wp2_with fail
    clear e1 e2
    go_loopw [5, 4] (fun iv xv wr => ∃ (i : Nat) (A : Option Addr) (n c : Nat) (L : List Nat), i ≤ s.size ∧ iv = .int .i64 i ∧ xv = .slice A n c ∧ n = L.length ∧ Ow wr w.heap.size (.slice A n c) L ∧ Fit32 L ∧ val32 L = hv (l.take i) ∧ n ≤ i ∧ Below w.heap.size w wr) (fun iv _ _ => s.size - (intOf iv).toNat)
    case atStart => exact ⟨0, none, 0, 0, [], Nat.zero_le _, rfl, rfl, rfl, Ow.nil _ _, fit32_nil, by simp [val32, hv], Nat.le_refl _, Below.refl _ _⟩
    case round =>
      obtain ⟨i, A, n, c, L, hi, rfl, rfl, hn, hown, hfit, hval, hni, hbw⟩ := hrel
      have HN := Lib.hid hn
      have HO := Lib.hid hown
      have HF := Lib.hid hfit
      have HV := Lib.hid hval
      have HBW := Lib.hid hbw
      clear hn hown hfit hval hbw
      by_cases hil : i < s.size
      · have hb := HAT.out i hil
        obtain ⟨x, hx⟩ : ∃ x, x = s[i]'hil := ⟨_, rfl⟩
        rw [← hx] at hb
        have hxx : ((s[i]'hil).toNat : Int) = (x.toNat : Int) := by rw [hx]
        have hdx := HD.out x (List.mem_of_getElem? hb)
        have hB2 := hv_take l i (by rw [← HS.out]; exact hil) x hb
        obtain ⟨d, hd⟩ : ∃ d, d = x.toNat - 48 := ⟨_, rfl⟩
        rw [← hd] at hB2
        have hd10 : d < 10 := by omega
        have c1 : ¬ (x.toNat : Int) < 48 := by omega
        have c2 : ¬ (57 : Int) < (x.toNat : Int) := by omega
        have e2 : IntKind.u8.wrap ((x.toNat : Int) - 48) = (d : Int) := by rw [IntKind.wrap_u8]; omega
        have e3 : IntKind.u64.wrap (d : Int) = (d : Int) := by rw [IntKind.wrap_u64]; omega
        have HB2 := Lib.hid hB2
        clear hb hx hB2 hd hdx
        go_wp2_with fail
        go_loopw [7, 6] (fun kv cv wq => ∃ (k c1 : Nat) (M : List Nat), k ≤ n ∧ kv = .int .i64 k ∧ cv = .int .u64 (c1 : Int) ∧ Ow wq w.heap.size (.slice A n c) M ∧ PIn L M k c1 d ∧ Below w.heap.size w wq) (fun kv _ _ => n - (intOf kv).toNat)
        case atStart => exact ⟨0, d, L, Nat.zero_le _, rfl, rfl, HO.out, pIn_start HF.out hd10, HBW.out⟩
        case round =>
          obtain ⟨k, c1, M, hk, rfl, rfl, hown, hin, hbw⟩ := hrel
          have hc10 := hin.2.2.2.2
          have hml : n = M.length := by rw [hin.2.1]; exact HN.out
          by_cases hkn : k < n
          · obtain ⟨g, c', hg, hge, hgl, hcc, hcm⟩ := hown.posAddr (by omega)
            obtain ⟨rfl, rfl, rfl⟩ : A = some ⟨g, 0, none⟩ ∧ n = M.length ∧ c = c' := by simpa using hg
            have hcell := hown.cellD rfl k hkn
            obtain ⟨hget, hgb⟩ := pIn_get hin
            rw [hget] at hcell
            have hfr := hown.frozenAt rfl k
            obtain ⟨v, hv'⟩ : ∃ v, v = L.getD k 0 * 10 + c1 := ⟨_, rfl⟩
            have hstep := pIn_step hin (by have := hin.2.1; omega) hv'
            have hvb : v < 18446744073709551616 := by omega
            have hset := hown.stored rfl k (v % 4294967296) (by omega)
            have hbws := hbw.setCell (p := ⟨g, k, none⟩) hge (u64v (v % 4294967296))
            obtain ⟨y, hy⟩ : ∃ y, y = L.getD k 0 := ⟨_, rfl⟩
            rw [← hy] at hcell hv' hgb
            obtain ⟨lo, hlo⟩ : ∃ lo, lo = v % 4294967296 := ⟨_, rfl⟩
            obtain ⟨hi', hhi⟩ : ∃ hi', hi' = v / 4294967296 := ⟨_, rfl⟩
            rw [← hlo, ← hhi] at hstep
            rw [← hlo] at hset hbws
            have f1 : IntKind.u64.wrap ((y : Int) * 10) = (y : Int) * 10 := by rw [IntKind.wrap_u64]; omega
            have f2 : IntKind.u64.wrap ((y : Int) * 10 + (c1 : Int)) = (v : Int) := by rw [IntKind.wrap_u64]; omega
            have f3 : bits .and .u64 (v : Int) 4294967295 = (lo : Int) := by rw [and32 v hvb, hlo]
            have f4 : (v : Int) / 4294967296 = (hi' : Int) := by omega
            have k1 : (0 : Int) ≤ (k : Int) := by omega
            have k2 : (k : Int) < (M.length : Int) := by omega
            obtain ⟨m, hm⟩ : ∃ m, m = M.length := ⟨_, rfl⟩
            have HST := Lib.hid hstep
            have HSET := Lib.hid hset
            have HBWS := Lib.hid hbws
            clear hstep hset hbws hown hin hbw hg hget hy hlo hhi hv'
            go_wp2_with fail
            go_roundw
            case rel => exact ⟨k + 1, hi', M.set k lo, by omega, rfl, rfl, HSET.out, HST.out, HBWS.out⟩
            case measure => simp [intOf]; omega
          · obtain rfl : k = n := by omega
            have hdone := pIn_done hin HN.out
            have hv1 := HV.out
            have hv2 := HB2.out
            have hM32 := hin.1
            have HDN := Lib.hid hdone
            have HM32 := Lib.hid hM32
            have HOW := Lib.hid hown
            have HBX := Lib.hid hbw
            have HML := Lib.hid hml
            clear hdone hM32 hown hbw hin hml hkn hv1 hv2
            by_cases hc0 : 0 < c1
            · have hlit := (blk_list wr [c1] (fit_cons (by omega) fit_nil)).sl (by simp)
              have HL := Lib.hid hlit
              have HO2 := Lib.hid (HOW.out.alloc (.cells #[u64v c1] 32))
              have HB3 := Lib.hid (HBX.out.alloc HBX.out.size (.cells #[u64v c1] 32))
              have hbs := HBX.out.size
              have hci : (0 : Int) < (c1 : Int) := by omega
              clear hlit
              go_wp2_with (at_builtin; refine wpList_app _ rfl (.tmp 70) (.tmp 72) rfl w.heap.size _ M rfl HO2.out (some ⟨wr.heap.size, 0, none⟩) 1 1 rfl [c1] HL.out (by rw [← HML.out]; omega) (by simp; omega) ?_; intro v1 w3 ho1 hb3)
              have hv1 : val32 (M ++ [c1]) = hv (l.take (i + 1)) := by
                rw [val32_append, ← HML.out]
                have e := HDN.out
                rw [← HN.out] at e
                simp only [val32, Nat.mul_zero, Nat.add_zero]
                rw [e, HV.out, HB2.out]
                omega
              have hf1 : Fit32 (M ++ [c1]) := fit32_append HM32.out (fit32_cons (by omega) fit32_nil)
              have hl1 : (M ++ [c1]).length = k + 1 := by rw [List.length_append, ← HML.out]; rfl
              obtain ⟨A2, c2, rfl, _, _⟩ := ho1.sl
              have hb4 := HB3.out.trans hb3
              go_roundw
              case rel => exact ⟨i + 1, A2, _, c2, M ++ [c1], by omega, rfl, rfl, rfl, ho1, hf1, hv1, by omega, hb4⟩
              case measure => simp [intOf]; omega
            · obtain rfl : c1 = 0 := by omega
              go_wp2_with fail
              have hv1 : val32 M = hv (l.take (i + 1)) := by
                have e := HDN.out
                rw [Nat.mul_zero, Nat.add_zero] at e
                rw [e, HV.out, HB2.out]
                omega
              go_roundw
              case rel => exact ⟨i + 1, A, k, c, M, by omega, rfl, rfl, HML.out, HOW.out, HM32.out, hv1, by omega, HBX.out⟩
              case measure => simp [intOf]; omega
      · obtain rfl : i = s.size := by omega
        have hs := HO.out.sl
        obtain ⟨A3, c3, he, hs, _⟩ := hs
        obtain ⟨rfl, hn3, rfl⟩ : A = A3 ∧ n = L.length ∧ c = c3 := by simpa using he
        rw [← HN.out] at hs
        have hv1 := HV.out
        rw [HS.out, List.take_length] at hv1
        have T := limbs_any A n c L wr hs HF.out (by omega)
        rw [hv1] at T
        have TT := Lib.hid T
        clear T hs he hn3 hv1
        go_wp2_with fail
        refine TT.out.mono ?_
        rintro e w5 ⟨A5, m5, d5, rfl, hs5, hb5⟩
        go_wp2_with fail
        go_ret2
        exact ⟨A5, m5, d5, rfl, hs5, HBW.out.trans (hb5.mono HBW.out.size)⟩
set_option maxHeartbeats 4000000 in
theorem refParse_bad2 (s : ByteArray) (w : World) (hp : 0 < s.size) (hmx : s.size ≤ 4096) (hlead : ∀ x, s.data.toList[0]? = some x → ¬ ((x.toNat : Int) = 48 ∧ (1 : Int) < (s.size : Int))) (hnd : ¬ Digits s.data.toList) :
    Calls Tryd.prog 6 #[.string s] w fun e w' => e = .returned (.tuple #[.slice none 0 0, .int .i64 2]) ∧ Below w.heap.size w w' := by
  have hsz := Lib.size_eq s
  have hat := byte_at s
  obtain ⟨l, hl⟩ : ∃ l, l = s.data.toList := ⟨_, rfl⟩
  rw [← hl] at hsz hat hlead hnd
  have hne : ¬ s = ByteArray.empty := by intro e; rw [e] at hp; exact absurd hp (by decide)
  have hb0 := hat 0 hp
  obtain ⟨x0, hx0⟩ : ∃ x, x = s[0]'hp := ⟨_, rfl⟩
  rw [← hx0] at hb0
  have hxx0 : ((s[0]'hp).toNat : Int) = (x0.toNat : Int) := by rw [hx0]
  replace hlead := hlead x0 hb0
  have HS := Lib.hid hsz
  have HAT := Lib.hid hat
  have HND := Lib.hid hnd
  clear hl hsz hat hnd hx0 hb0
  have hcase : ((((x0.toNat : Int) == 48) = true ∧ ¬ (1 : Int) < (s.size : Int))) ∨ ((((x0.toNat : Int) == 48) = false) ∧ True) := by
    by_cases e : (x0.toNat : Int) = 48
    · exact .inl ⟨by simpa using e, fun h => hlead ⟨e, h⟩⟩
    · exact .inr ⟨by simpa using e, trivial⟩
  have z1 : ((s.size : Int) == 0) = false := by simp; omega
  have z2 : ¬ (4096 : Int) < (s.size : Int) := by omega
  clear hlead
  rcases hcase with ⟨e1, e2⟩ | ⟨e1, e2⟩
  all_goals
    go_enter Tryd.func6, Tryd.ntmps6
    go_wp2_with fail
    clear e1 e2
    go_loopw [5, 4] (fun iv xv wr => ∃ (i : Nat) (A : Option Addr) (n c : Nat) (L : List Nat), i ≤ s.size ∧ iv = .int .i64 i ∧ xv = .slice A n c ∧ n = L.length ∧ Ow wr w.heap.size (.slice A n c) L ∧ Fit32 L ∧ (∀ (j : Nat) b, j < i → l[j]? = some b → 48 ≤ b.toNat ∧ b.toNat ≤ 57) ∧ n ≤ i ∧ Below w.heap.size w wr) (fun iv _ _ => s.size - (intOf iv).toNat)
    case atStart => exact ⟨0, none, 0, 0, [], Nat.zero_le _, rfl, rfl, rfl, Ow.nil _ _, fit32_nil, (fun j b hj => absurd hj (Nat.not_lt_zero _)), Nat.le_refl _, Below.refl _ _⟩
    case round =>
      obtain ⟨i, A, n, c, L, hi, rfl, rfl, hn, hown, hfit, hval, hni, hbw⟩ := hrel
      have HN := Lib.hid hn
      have HO := Lib.hid hown
      have HF := Lib.hid hfit
      have HV := Lib.hid hval
      have HBW := Lib.hid hbw
      clear hn hown hfit hval hbw
      by_cases hil : i < s.size
      · have hb := HAT.out i hil
        obtain ⟨x, hx⟩ : ∃ x, x = s[i]'hil := ⟨_, rfl⟩
        rw [← hx] at hb
        have hxx : ((s[i]'hil).toNat : Int) = (x.toNat : Int) := by rw [hx]
        obtain ⟨d, hd⟩ : ∃ d, d = x.toNat - 48 := ⟨_, rfl⟩
        have HBX0 := Lib.hid hb
        by_cases hdx : ¬ (48 ≤ x.toNat ∧ x.toNat ≤ 57)
        · clear hb hx hd
          by_cases c1 : (x.toNat : Int) < 48
          · go_wp2_with fail
            go_ret2
            exact ⟨rfl, HBW.out⟩
          · have c2 : (57 : Int) < (x.toNat : Int) := by omega
            go_wp2_with fail
            go_ret2
            exact ⟨rfl, HBW.out⟩
        replace hdx := Classical.not_not.1 hdx
        have hB2 : ∀ (j : Nat) b, j < i + 1 → l[j]? = some b → 48 ≤ b.toNat ∧ b.toNat ≤ 57 := by
          intro j b hj hb2
          by_cases e : j = i
          · subst e
            rw [hb] at hb2
            obtain rfl := Option.some.inj hb2
            exact hdx
          · exact HV.out j b (by omega) hb2
        have hd10 : d < 10 := by omega
        have c1 : ¬ (x.toNat : Int) < 48 := by omega
        have c2 : ¬ (57 : Int) < (x.toNat : Int) := by omega
        have e2 : IntKind.u8.wrap ((x.toNat : Int) - 48) = (d : Int) := by rw [IntKind.wrap_u8]; omega
        have e3 : IntKind.u64.wrap (d : Int) = (d : Int) := by rw [IntKind.wrap_u64]; omega
        have HB2 := Lib.hid hB2
        clear hb hx hB2 hd hdx HBX0
        go_wp2_with fail
        go_loopw [7, 6] (fun kv cv wq => ∃ (k c1 : Nat) (M : List Nat), k ≤ n ∧ kv = .int .i64 k ∧ cv = .int .u64 (c1 : Int) ∧ Ow wq w.heap.size (.slice A n c) M ∧ PIn L M k c1 d ∧ Below w.heap.size w wq) (fun kv _ _ => n - (intOf kv).toNat)
        case atStart => exact ⟨0, d, L, Nat.zero_le _, rfl, rfl, HO.out, pIn_start HF.out hd10, HBW.out⟩
        case round =>
          obtain ⟨k, c1, M, hk, rfl, rfl, hown, hin, hbw⟩ := hrel
          have hc10 := hin.2.2.2.2
          have hml : n = M.length := by rw [hin.2.1]; exact HN.out
          by_cases hkn : k < n
          · obtain ⟨g, c', hg, hge, hgl, hcc, hcm⟩ := hown.posAddr (by omega)
            obtain ⟨rfl, rfl, rfl⟩ : A = some ⟨g, 0, none⟩ ∧ n = M.length ∧ c = c' := by simpa using hg
            have hcell := hown.cellD rfl k hkn
            obtain ⟨hget, hgb⟩ := pIn_get hin
            rw [hget] at hcell
            have hfr := hown.frozenAt rfl k
            obtain ⟨v, hv'⟩ : ∃ v, v = L.getD k 0 * 10 + c1 := ⟨_, rfl⟩
            have hstep := pIn_step hin (by have := hin.2.1; omega) hv'
            have hvb : v < 18446744073709551616 := by omega
            have hset := hown.stored rfl k (v % 4294967296) (by omega)
            have hbws := hbw.setCell (p := ⟨g, k, none⟩) hge (u64v (v % 4294967296))
            obtain ⟨y, hy⟩ : ∃ y, y = L.getD k 0 := ⟨_, rfl⟩
            rw [← hy] at hcell hv' hgb
            obtain ⟨lo, hlo⟩ : ∃ lo, lo = v % 4294967296 := ⟨_, rfl⟩
            obtain ⟨hi', hhi⟩ : ∃ hi', hi' = v / 4294967296 := ⟨_, rfl⟩
            rw [← hlo, ← hhi] at hstep
            rw [← hlo] at hset hbws
            have f1 : IntKind.u64.wrap ((y : Int) * 10) = (y : Int) * 10 := by rw [IntKind.wrap_u64]; omega
            have f2 : IntKind.u64.wrap ((y : Int) * 10 + (c1 : Int)) = (v : Int) := by rw [IntKind.wrap_u64]; omega
            have f3 : bits .and .u64 (v : Int) 4294967295 = (lo : Int) := by rw [and32 v hvb, hlo]
            have f4 : (v : Int) / 4294967296 = (hi' : Int) := by omega
            have k1 : (0 : Int) ≤ (k : Int) := by omega
            have k2 : (k : Int) < (M.length : Int) := by omega
            obtain ⟨m, hm⟩ : ∃ m, m = M.length := ⟨_, rfl⟩
            have HST := Lib.hid hstep
            have HSET := Lib.hid hset
            have HBWS := Lib.hid hbws
            clear hstep hset hbws hown hin hbw hg hget hy hlo hhi hv'
            go_wp2_with fail
            go_roundw
            case rel => exact ⟨k + 1, hi', M.set k lo, by omega, rfl, rfl, HSET.out, HST.out, HBWS.out⟩
            case measure => simp [intOf]; omega
          · obtain rfl : k = n := by omega
            have hdone := pIn_done hin HN.out
            have hv1 := HV.out
            have hv2 := HB2.out
            have hM32 := hin.1
            have HDN := Lib.hid hdone
            have HM32 := Lib.hid hM32
            have HOW := Lib.hid hown
            have HBX := Lib.hid hbw
            have HML := Lib.hid hml
            clear hdone hM32 hown hbw hin hml hkn hv1 hv2
            by_cases hc0 : 0 < c1
            · have hlit := (blk_list wr [c1] (fit_cons (by omega) fit_nil)).sl (by simp)
              have HL := Lib.hid hlit
              have HO2 := Lib.hid (HOW.out.alloc (.cells #[u64v c1] 32))
              have HB3 := Lib.hid (HBX.out.alloc HBX.out.size (.cells #[u64v c1] 32))
              have hbs := HBX.out.size
              have hci : (0 : Int) < (c1 : Int) := by omega
              clear hlit
              go_wp2_with (at_builtin; refine wpList_app _ rfl (.tmp 70) (.tmp 72) rfl w.heap.size _ M rfl HO2.out (some ⟨wr.heap.size, 0, none⟩) 1 1 rfl [c1] HL.out (by rw [← HML.out]; omega) (by simp; omega) ?_; intro v1 w3 ho1 hb3)
              have hv1 := HB2.out
              have hf1 : Fit32 (M ++ [c1]) := fit32_append HM32.out (fit32_cons (by omega) fit32_nil)
              have hl1 : (M ++ [c1]).length = k + 1 := by rw [List.length_append, ← HML.out]; rfl
              obtain ⟨A2, c2, rfl, _, _⟩ := ho1.sl
              have hb4 := HB3.out.trans hb3
              go_roundw
              case rel => exact ⟨i + 1, A2, _, c2, M ++ [c1], by omega, rfl, rfl, rfl, ho1, hf1, hv1, by omega, hb4⟩
              case measure => simp [intOf]; omega
            · obtain rfl : c1 = 0 := by omega
              go_wp2_with fail
              have hv1 := HB2.out
              go_roundw
              case rel => exact ⟨i + 1, A, k, c, M, by omega, rfl, rfl, HML.out, HOW.out, HM32.out, hv1, by omega, HBX.out⟩
              case measure => simp [intOf]; omega
      · obtain rfl : i = s.size := by omega
        exfalso
        apply HND.out
        intro b hb
        obtain ⟨j, hj, rfl⟩ := List.getElem_of_mem hb
        exact HV.out j _ (by rw [HS.out]; exact hj) (List.getElem?_eq_getElem hj)

set_option maxHeartbeats 1000000 in
theorem refParse_early (s : ByteArray) (w : World) (h : s.size = 0 ∨ 4096 < s.size ∨ (s.data.toList[0]? = some 48 ∧ 1 < s.size)) :
    Calls Tryd.prog 6 #[.string s] w fun e w' => e = .returned (.tuple #[.slice none 0 0, .int .i64 2]) ∧ Below w.heap.size w w' := by
  by_cases h0 : s.size = 0
  · obtain rfl : s = ByteArray.empty := ByteArray.size_eq_zero_iff.1 h0
    clear h h0
    go_enter Tryd.func6, Tryd.ntmps6
    go_wp2_with fail
    go_ret2
    exact ⟨rfl, Below.refl _ _⟩
  · have hne : ¬ s = ByteArray.empty := by intro e; rw [e] at h0; exact absurd rfl h0
    have z1 : ((s.size : Int) == 0) = false := by simp; omega
    by_cases h1 : 4096 < s.size
    · have z2 : (4096 : Int) < (s.size : Int) := by omega
      clear h h0 h1
      go_enter Tryd.func6, Tryd.ntmps6
      go_wp2_with fail
      go_ret2
      exact ⟨rfl, Below.refl _ _⟩
    · have hp : 0 < s.size := by omega
      have hb0 := byte_at s 0 hp
      obtain ⟨e48, hgt⟩ : s.data.toList[0]? = some 48 ∧ 1 < s.size := by
        rcases h with h | h | h
        · exact absurd h h0
        · exact absurd h h1
        · exact h
      rw [e48] at hb0
      have hxx0 : ((s[0]'hp).toNat : Int) = 48 := by rw [← Option.some.inj hb0]; rfl
      have z2 : ¬ (4096 : Int) < (s.size : Int) := by omega
      have z3 : (1 : Int) < (s.size : Int) := by omega
      clear h h0 h1 hb0 e48 hgt
      go_enter Tryd.func6, Tryd.ntmps6
      go_wp2_with fail
      go_ret2
      exact ⟨rfl, Below.refl _ _⟩

theorem refParse_bad (s : ByteArray) (w : World) (h : ¬ okText s.data.toList) :
    Calls Tryd.prog 6 #[.string s] w fun e w' => e = .returned (.tuple #[.slice none 0 0, .int .i64 2]) ∧ Below w.heap.size w w' := by
  have hsz := Lib.size_eq s
  by_cases he : s.size = 0 ∨ 4096 < s.size ∨ (s.data.toList[0]? = some 48 ∧ 1 < s.size)
  · exact refParse_early s w he
  · have e1 : ¬ s.size = 0 := fun e => he (.inl e)
    have e2 : ¬ 4096 < s.size := fun e => he (.inr (.inl e))
    refine refParse_bad2 s w (by omega) (by omega) ?_ ?_
    · rintro x hx ⟨hx48, hgt⟩
      apply he
      refine .inr (.inr ⟨?_, by omega⟩)
      rw [hx]
      exact congrArg some (UInt8.toNat_inj.1 (by have e : (48 : UInt8).toNat = 48 := rfl; omega))
    · intro hd
      apply h
      refine ⟨by omega, by omega, hd, ?_⟩
      by_cases h1 : s.data.toList.length = 1
      · exact .inr h1
      · left
        rw [List.head?_eq_getElem?]
        intro e
        exact he (.inr (.inr ⟨e, by omega⟩))
end Go.Proofs.YtmajmpgcdpbnfaaDoor

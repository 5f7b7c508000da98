/- nat.isText, by its contract. -/
import Derived.Test.YtmajmpgcdpbnfaaDoorDecM
import Derived.Test.YtmajmpgcdpbnfaaDoorNatMem
namespace Go.Proofs.YtmajmpgcdpbnfaaDoor
open Go.RowKit

/-- Is the text a natural's, and short enough? -/
def okText (l : List UInt8) : Prop := 0 < l.length ∧ l.length ≤ 4096 ∧ Digits l ∧ (l.head? ≠ some 48 ∨ l.length = 1)

noncomputable def okB (l : List UInt8) : Bool := @decide (okText l) (Classical.propDecidable _)
theorem okB_yes {l : List UInt8} (h : okText l) : okB l = true := @decide_eq_true _ (Classical.propDecidable _) h
theorem okB_no {l : List UInt8} (h : ¬ okText l) : okB l = false := @decide_eq_false _ (Classical.propDecidable _) h
theorem byte_at (s : ByteArray) (j : Nat) (h : j < s.size) : s.data.toList[j]? = some (s[j]'h) := by
  have h1 := Lib.size_eq s
  rw [List.getElem?_eq_getElem (by omega)]
  rfl
theorem size_pos_of {s : ByteArray} (h : ¬ s = ByteArray.empty) : 0 < s.size := by
  rcases Nat.eq_zero_or_pos s.size with e | e
  · exact absurd (ByteArray.size_eq_zero_iff.1 e) h
  · exact e

set_option maxHeartbeats 1000000 in
theorem isText_any (s : ByteArray) (w : World) :
    Calls Tryd.prog 11 #[.string s] w fun e w' => e = .returned (.bool (okB s.data.toList)) ∧ w = w' := by
  have hsz := Lib.size_eq s
  have hat := byte_at s
  obtain ⟨l, hl⟩ : ∃ l, l = s.data.toList := ⟨_, rfl⟩
  rw [← hl] at hsz hat ⊢
  have hyes : okText l → okB l = true := okB_yes
  have hno : ¬ okText l → okB l = false := okB_no
  obtain ⟨r, hr⟩ : ∃ r, r = okB l := ⟨_, rfl⟩
  rw [← hr] at hyes hno ⊢
  have HYES := Lib.hid hyes
  have HNO := Lib.hid hno
  clear hyes hno hr
  have HL := Lib.hid hl
  have HS := Lib.hid hsz
  have HAT := Lib.hid hat
  clear hl hsz hat
  go_enter Tryd.func11, Tryd.ntmps11
  go_wp2_with fail
  · have h : s = ByteArray.empty := by assumption
    go_ret
    have hf := HNO.out (by
      rintro ⟨h1, _⟩
      rw [h] at HS
      have := HS.out
      simp at this
      omega)
    exact ⟨by rw [hf]; rfl, rfl⟩
  · have h1 : ¬ s = ByteArray.empty := by assumption
    have h2 : ((s.size : Int) == 0) = true ∨ (4096 : Int) < (s.size : Int) := by assumption
    have hp := size_pos_of h1
    have hs := HS.out
    go_ret
    have hf := HNO.out (by
      rintro ⟨_, h3, _⟩
      rcases h2 with h2 | h2
      · exact h1 (by simpa using h2)
      · omega)
    exact ⟨by rw [hf]; rfl, rfl⟩
  · have h1 : ¬ s = ByteArray.empty := by assumption
    have h2 : ((s.size : Int) == 0) = false ∧ (s.size : Int) ≤ 4096 := by assumption
    have hp := size_pos_of h1
    have hmax : s.size ≤ 4096 := by omega
    go_loop [14] (fun i => ∃ k : Nat, k ≤ s.size ∧ i = .int .i64 k ∧ ∀ j b, j < k → l[j]? = some b → 48 ≤ b.toNat ∧ b.toNat ≤ 57) (fun i => (s.size - intOf i).toNat)
    case atStart => exact ⟨0, Nat.zero_le _, rfl, fun j b hj => absurd hj (Nat.not_lt_zero _)⟩
    case round =>
      obtain ⟨k, hk, rfl, hd⟩ := hrel
      have HD := Lib.hid hd
      clear hd
      by_cases hkl : k < s.size
      · have hb := HAT.out k hkl
        obtain ⟨x, hx⟩ : ∃ x, x = s[k]'hkl := ⟨_, rfl⟩
        rw [← hx] at hb
        have HB := Lib.hid hb
        have hxx : ((s[k]'hkl).toNat : Int) = (x.toNat : Int) := by rw [hx]
        clear hb hx
        by_cases hc : 48 ≤ x.toNat ∧ x.toNat ≤ 57
        · have c1 : ¬ (x.toNat : Int) < 48 := by omega
          have c2 : ¬ (57 : Int) < (x.toNat : Int) := by omega
          go_wp2_with fail
          go_roundw
          case rel =>
            refine ⟨k + 1, by omega, rfl, fun j b hj hb => ?_⟩
            by_cases e : j = k
            · subst e
              rw [HB.out] at hb
              obtain rfl := Option.some.inj hb
              exact hc
            · exact HD.out j b (by omega) hb
          case measure => simp [intOf]; omega
        · have bad : ¬ okText l := fun ⟨_, _, h3, _⟩ => hc (h3 x (List.mem_of_getElem? HB.out))
          have BAD := Lib.hid bad
          clear bad
          by_cases c1 : (x.toNat : Int) < 48
          · go_wp2_with fail
            go_ret
            exact ⟨by rw [HNO.out BAD.out]; rfl, rfl⟩
          · have c2 : (57 : Int) < (x.toNat : Int) := by omega
            go_wp2_with fail
            go_ret
            exact ⟨by rw [HNO.out BAD.out]; rfl, rfl⟩
      · obtain rfl : k = s.size := by omega
        have hb := HAT.out 0 hp
        obtain ⟨x, hx⟩ : ∃ x, x = s[0]'hp := ⟨_, rfl⟩
        rw [← hx] at hb
        have hxx : ((s[0]'hp).toNat : Int) = (x.toNat : Int) := by rw [hx]
        have hall : Digits l := by
          intro b hb
          obtain ⟨j, hj, rfl⟩ := List.getElem_of_mem hb
          exact HD.out j _ (by rw [HS.out]; exact hj) (List.getElem?_eq_getElem hj)
        have hls := HS.out
        have key : ((x.toNat : Int) = 48 ∧ ¬ (s.size : Int) = 1 → ¬ okText l) ∧ (¬ (x.toNat : Int) = 48 ∨ (s.size : Int) = 1 → okText l) := by
          have h3 : l.head? = some x := by rw [List.head?_eq_getElem?]; exact hb
          have h4 : x.toNat = 48 ↔ x = 48 := ⟨fun e => UInt8.toNat_inj.1 (by rw [e]; rfl), fun e => by rw [e]; rfl⟩
          unfold okText
          rw [h3]
          constructor
          · rintro ⟨h, h'⟩ ⟨_, _, _, g | g⟩
            · exact g (congrArg some (h4.1 (by omega)))
            · omega
          · rintro (h | h)
            · exact ⟨by omega, by omega, hall, .inl fun e => h (by have := h4.2 (Option.some.inj e); omega)⟩
            · exact ⟨by omega, by omega, hall, .inr (by omega)⟩
        have KEY := Lib.hid key
        clear key hall hb hls hx
        by_cases c1 : (x.toNat : Int) = 48
        · have c2 : ((x.toNat : Int) != 48) = false := by simpa using c1
          by_cases c3 : (s.size : Int) = 1
          · have c4 : ((s.size : Int) == 1) = true := by simpa using c3
            go_wp2_with fail
            go_ret
            exact ⟨by rw [HYES.out (KEY.out.2 (.inr c3))]; rfl, rfl⟩
          · have c4 : ((s.size : Int) == 1) = false := by simpa using c3
            go_wp2_with fail
            go_ret
            exact ⟨by rw [HNO.out (KEY.out.1 ⟨c1, c3⟩)]; rfl, rfl⟩
        · have c2 : ((x.toNat : Int) != 48) = true := by simpa using c1
          go_wp2_with fail
          go_ret
          exact ⟨by rw [HYES.out (KEY.out.2 (.inl c1))]; rfl, rfl⟩
end Go.Proofs.YtmajmpgcdpbnfaaDoor

/- nat.Parse, by its contract. -/
import Derived.Test.YtmajmpgcdpbnfaaDoorTxtBlk
namespace Go.Proofs.YtmajmpgcdpbnfaaDoor
open Go.RowKit

set_option maxHeartbeats 1000000 in
theorem parse_bad (s : ByteArray) (w : World) (h : ¬ okText s.data.toList) :
    Calls Tryd.prog 5 #[.string s] w fun e w' => e = .returned (.tuple #[.slice none 0 0, .int .i64 2]) ∧ w = w' := by
  have T := isText_any s w
  rw [okB_no h] at T
  have TT := Lib.hid T
  clear T h
  go_enter Tryd.func5, Tryd.ntmps5
  go_wp2_with (go_at_call 11; refine TT.out.mono ?_; rintro e w' ⟨rfl, rfl⟩)
  go_ret2
  exact ⟨rfl, rfl⟩

theorem hv_blocks (l : List UInt8) (k f : Nat) (hf : k = 0 ∨ f = 19) (hl : k + f ≤ l.length) : hv (l.take (k + f)) = hv (l.take k) * 10000000000000000000 + hv ((l.drop k).take f) := by
  have e : l.take (k + f) = l.take k ++ (l.drop k).take f := by rw [List.take_add]
  rw [e, hv_append]
  have hlen : ((l.drop k).take f).length = f := by rw [List.length_take, List.length_drop]; omega
  rw [hlen]
  rcases hf with rfl | rfl
  · simp [hv]
  · rfl

set_option maxHeartbeats 2000000 in
theorem parse_ok (s : ByteArray) (w : World) (h : okText s.data.toList) :
    Calls Tryd.prog 5 #[.string s] w fun e w' =>
      ∃ A m d, e = .returned (.tuple #[.slice A m d, .int .i64 0]) ∧ Sl w' A m d (nrm (hv s.data.toList)) ∧ m ≤ 4096 ∧ Below w.heap.size w w' := by
  have T := isText_any s w
  rw [okB_yes h] at T
  have TT := Lib.hid T
  obtain ⟨h1, h2, h3, _⟩ := h
  obtain ⟨l, hl⟩ : ∃ l, l = s.data.toList := ⟨_, rfl⟩
  rw [← hl] at h1 h2 h3 ⊢
  have hs0 : s = ⟨(l.drop 0).toArray⟩ := by rw [List.drop_zero, hl]
  have HS0 := Lib.hid hs0
  have HD := Lib.hid h3
  have H1 := Lib.hid h1
  have H2 := Lib.hid h2
  clear T hl hs0 h1 h2 h3
  go_enter Tryd.func5, Tryd.ntmps5
  go_wp2_with (go_at_call 11; refine TT.out.mono ?_; rintro e w' ⟨rfl, rfl⟩)
  go_loopw [0, 4] (fun sv nv wr => ∃ (k : Nat) (A : Option Addr) (m d : Nat), k ≤ l.length ∧ sv = .string ⟨(l.drop k).toArray⟩ ∧ nv = .slice A m d ∧ Sl wr A m d (nrm (hv (l.take k))) ∧ m ≤ k ∧ (k = 0 ∨ (l.length - k) % 19 = 0) ∧ Below w.heap.size w wr) (fun sv _ _ => Lib.strSize sv)
  case atStart => exact ⟨0, none, 0, 0, Nat.zero_le _, by rw [← HS0.out], rfl, by rw [List.take_zero]; exact ⟨rfl, Nat.le_refl _, by decide, fun _ => rfl, Rd.nil _ _⟩, Nat.le_refl _, .inl rfl, Below.refl _ _⟩
  case round =>
    obtain ⟨k, A, m, d, hk, rfl, rfl, hsl, hm, hmod, hbw⟩ := hrel
    have hts : (⟨(l.drop k).toArray⟩ : ByteArray).size = l.length - k := by rw [Lib.size_mk, List.length_drop]
    have hex1 : ∀ f, (⟨(l.drop k).toArray⟩ : ByteArray).extract 0 f = ⟨((l.drop k).take f).toArray⟩ := fun f => by rw [Lib.extract_mk, List.drop_zero, Nat.sub_zero]
    have hex2 : ∀ f, (⟨(l.drop k).toArray⟩ : ByteArray).extract f (l.length - k) = ⟨(l.drop (k + f)).toArray⟩ := fun f => by rw [Lib.extract_mk, List.drop_drop, List.take_of_length_le (by simp; omega)]
    generalize ht : (⟨(l.drop k).toArray⟩ : ByteArray) = t at hts hex1 hex2 ⊢
    have HT := Lib.hid ht
    have HEX1 := Lib.hid hex1
    have HEX2 := Lib.hid hex2
    have HSL := Lib.hid hsl
    have HM := Lib.hid hmod
    have HBW := Lib.hid hbw
    have hl4 := H2.out
    clear ht hex1 hex2 hsl hmod hbw HS0
    by_cases h0 : k < l.length
    · obtain ⟨r, hr⟩ : ∃ r, r = l.length - k := ⟨_, rfl⟩
      rw [← hr] at hts HEX2
      have hr0 : 0 < r := by omega
      have hr4 : r ≤ 4096 := by omega
      obtain ⟨f, hf⟩ : ∃ f, f = (r - 1) % 19 + 1 := ⟨_, rfl⟩
      have hf1 : f ≤ r := by omega
      have hf2 : f ≤ 19 := by omega
      have hf3 : k = 0 ∨ f = 19 := by
        rcases HM.out with h | h
        · exact .inl h
        · right; omega
      obtain ⟨f1, hf1'⟩ : ∃ f1, f1 = (r - 1) % 19 := ⟨_, rfl⟩
      have e2 : ((r : Int) - 1).tmod 19 = (f1 : Int) := by rw [Int.tmod_eq_emod_of_nonneg (by omega)]; omega
      have e3 : (f1 : Int) + 1 = (f : Int) := by omega
      have e4 : ((f : Int)).toNat = f := by omega
      have HF3 := Lib.hid hf3
      have hkf : k + f ≤ l.length := by omega
      have hm4 : (l.length - (k + f)) % 19 = 0 := by omega
      have HM4 := Lib.hid hm4
      have hkm : m + 1 ≤ k + f := by omega
      have HR := Lib.hid hr
      have f19 : f1 < 19 := by omega
      clear hr hf hf3 HM hm4 hf1'
      go_wp2_with fail
      rw [HEX1.out f]
      have hblk : Digits ((l.drop k).take f) := fun b hb => HD.out b (List.mem_of_mem_drop (List.mem_of_mem_take hb))
      refine (appendBlock_any A m d _ ⟨((l.drop k).take f).toArray⟩ wr HSL.out (by omega) hblk (by rw [Lib.size_mk, List.length_take]; omega)).mono ?_
      rintro e w2 ⟨g, m2, d2, rfl, -, hs2, hm2, hb2⟩
      have e5 : val (nrm (hv (l.take k))) * 10000000000000000000 + hv ((l.drop k).take f) = hv (l.take (k + f)) := by rw [val_nrm]; exact (hv_blocks l k f HF3.out hkf).symm
      replace hs2 : Sl w2 (some ⟨g, 0, none⟩) m2 d2 (nrm (val (nrm (hv (l.take k))) * 10000000000000000000 + hv ((l.drop k).take f))) := hs2
      rw [e5] at hs2
      have hbw := HBW.out.trans (hb2.mono HBW.out.size)
      have hex := HEX2.out f
      have HS2 := Lib.hid hs2
      have HBW2 := Lib.hid hbw
      clear hblk e5 hs2 hb2 hbw
      go_wp2_with fail
      have hr := HR.out
      have hms : Lib.strSize (.string ⟨(l.drop (k + f)).toArray⟩) < Lib.strSize (.string t) := by
        rw [Lib.strSize_string, Lib.strSize_string, Lib.size_mk, List.length_drop, hts]; omega
      exact ⟨⟨k + f, some ⟨g, 0, none⟩, m2, d2, hkf, rfl, rfl, HS2.out, by omega, .inr HM4.out, HBW2.out⟩, hms⟩
    · obtain rfl : k = l.length := by omega
      have hs := HSL.out
      rw [List.take_length] at hs
      have HS := Lib.hid hs
      rw [Nat.sub_self] at hts
      have hte : t = ByteArray.empty := ByteArray.size_eq_zero_iff.1 hts
      subst hte
      clear hs hts
      go_wp2_with fail
      go_ret2
      exact ⟨A, m, d, rfl, HS.out, by omega, HBW.out⟩
end Go.Proofs.YtmajmpgcdpbnfaaDoor

/- The law NatTexts, walked: digits and numbers of texts are the slow answer's. -/
import Derived.Test.YtmajmpgcdpbnfaaDoorWalkNatBack
import Derived.Test.YtmajmpgcdpbnfaaDoorRefParse
import Derived.Test.YtmajmpgcdpbnfaaDoorRefText
namespace Go.Proofs.YtmajmpgcdpbnfaaDoor
open Go.RowKit

set_option maxHeartbeats 4000000 in
theorem walkNatTexts (A0 : Option Addr) (n0 c0 : Nat) (xs : List Nat) (s : ByteArray) (w : World)
    (h0 : Sl w A0 n0 c0 xs) (b0 : n0 ≤ 17592186044416) :
    Calls Tryd.prog 3 #[.slice A0 n0 c0, .string s] w fun e w' => e = .returned (.bool true) ∧ Below w.heap.size w w' := by
  have TN := Lib.hid textNil
  have hnil : ∀ W : World, Sl W none 0 0 [] := fun W => ⟨rfl, Nat.le_refl _, by decide, fun _ => rfl, Rd.nil _ _⟩
  have HNIL := Lib.hid hnil
  clear hnil
  by_cases hok : okText s.data.toList
  · by_cases hbig : 60 < n0
    · have TP := Lib.hid (parse_ok s w hok)
      have TR := Lib.hid (fun W => refParse_ok s W hok)
      clear hok
      clear h0
      go_enter Tryd.func3, Tryd.ntmps3
      go_wp2_with fail
      refine TP.out.mono ?_
      rintro e w1 ⟨A, m, d, rfl, hs1, hm, hw⟩
      clear TP
      go_wp2_with fail
      refine (TR.out w1).mono ?_
      rintro e w2 ⟨A2, m2, d2, rfl, hs2, hb⟩
      replace hs1 := hs1.below hb
      replace hw := hw.trans (hb.mono hw.size)
      clear hb TR
      go_wp2_with fail
      refine (same_true A A2 m d m2 d2 _ _ w2 hs1 hs2 rfl).mono ?_
      rintro e w3 ⟨rfl, hb⟩
      replace hw := hw.trans (hb.mono hw.size)
      clear hb hs1 hs2
      go_wp2_with fail
      refine (TN.out w3).mono ?_
      rintro e w4 ⟨rfl, hb⟩
      replace hw := hw.trans (hb.mono hw.size)
      clear hb
      go_wp2_with fail
      go_ret
      exact ⟨rfl, hw⟩
    · have TP := Lib.hid (parse_ok s w hok)
      have TR := Lib.hid (fun W => refParse_ok s W hok)
      clear hok
      have TA := Lib.hid (fun W (hb : Below w.heap.size w W) => text_at A0 n0 c0 xs W (h0.below hb) (by omega))
      have TB := Lib.hid (fun W (hb : Below w.heap.size w W) => refText_at A0 n0 c0 xs W (h0.below hb) (by omega))
      obtain ⟨t, ht⟩ : ∃ t : ByteArray, t = ⟨(txt (val xs)).toArray⟩ := ⟨_, rfl⟩
      rw [← ht] at TA TB
      clear h0 ht
      go_enter Tryd.func3, Tryd.ntmps3
      go_wp2_with fail
      refine TP.out.mono ?_
      rintro e w1 ⟨A, m, d, rfl, hs1, hm, hw⟩
      clear TP
      go_wp2_with fail
      refine (TR.out w1).mono ?_
      rintro e w2 ⟨A2, m2, d2, rfl, hs2, hb⟩
      replace hs1 := hs1.below hb
      replace hw := hw.trans (hb.mono hw.size)
      clear hb TR
      go_wp2_with fail
      refine (same_true A A2 m d m2 d2 _ _ w2 hs1 hs2 rfl).mono ?_
      rintro e w3 ⟨rfl, hb⟩
      replace hw := hw.trans (hb.mono hw.size)
      clear hb hs1 hs2
      go_wp2_with fail
      refine (TN.out w3).mono ?_
      rintro e w4 ⟨rfl, hb⟩
      replace hw := hw.trans (hb.mono hw.size)
      clear hb
      go_wp2_with fail
      refine (TA.out w4 hw).mono ?_
      rintro e w5 ⟨rfl, hb⟩
      replace hw := hw.trans (hb.mono hw.size)
      clear hb
      go_wp2_with fail
      refine (TB.out w5 hw).mono ?_
      rintro e w6 ⟨rfl, hb⟩
      replace hw := hw.trans (hb.mono hw.size)
      clear hb
      go_wp2_with fail
      go_ret
      exact ⟨rfl, hw⟩
  · by_cases hbig : 60 < n0
    · have TP := Lib.hid (parse_bad s w hok)
      have TR := Lib.hid (fun W => refParse_bad s W hok)
      clear hok
      clear h0
      go_enter Tryd.func3, Tryd.ntmps3
      go_wp2_with fail
      refine TP.out.mono ?_
      rintro e w1 ⟨rfl, hw1⟩
      subst hw1
      clear TP
      go_wp2_with fail
      refine (TR.out w).mono ?_
      rintro e w2 ⟨rfl, hw⟩
      clear TR
      go_wp2_with fail
      refine (same_true none none 0 0 0 0 _ _ w2 (HNIL.out _) (HNIL.out _) rfl).mono ?_
      rintro e w3 ⟨rfl, hb⟩
      replace hw := hw.trans (hb.mono hw.size)
      clear hb
      go_wp2_with fail
      refine (TN.out w3).mono ?_
      rintro e w4 ⟨rfl, hb⟩
      replace hw := hw.trans (hb.mono hw.size)
      clear hb
      go_wp2_with fail
      go_ret
      exact ⟨rfl, hw⟩
    · have TP := Lib.hid (parse_bad s w hok)
      have TR := Lib.hid (fun W => refParse_bad s W hok)
      clear hok
      have TA := Lib.hid (fun W (hb : Below w.heap.size w W) => text_at A0 n0 c0 xs W (h0.below hb) (by omega))
      have TB := Lib.hid (fun W (hb : Below w.heap.size w W) => refText_at A0 n0 c0 xs W (h0.below hb) (by omega))
      obtain ⟨t, ht⟩ : ∃ t : ByteArray, t = ⟨(txt (val xs)).toArray⟩ := ⟨_, rfl⟩
      rw [← ht] at TA TB
      clear h0 ht
      go_enter Tryd.func3, Tryd.ntmps3
      go_wp2_with fail
      refine TP.out.mono ?_
      rintro e w1 ⟨rfl, hw1⟩
      subst hw1
      clear TP
      go_wp2_with fail
      refine (TR.out w).mono ?_
      rintro e w2 ⟨rfl, hw⟩
      clear TR
      go_wp2_with fail
      refine (same_true none none 0 0 0 0 _ _ w2 (HNIL.out _) (HNIL.out _) rfl).mono ?_
      rintro e w3 ⟨rfl, hb⟩
      replace hw := hw.trans (hb.mono hw.size)
      clear hb
      go_wp2_with fail
      refine (TN.out w3).mono ?_
      rintro e w4 ⟨rfl, hb⟩
      replace hw := hw.trans (hb.mono hw.size)
      clear hb
      go_wp2_with fail
      refine (TA.out w4 hw).mono ?_
      rintro e w5 ⟨rfl, hb⟩
      replace hw := hw.trans (hb.mono hw.size)
      clear hb
      go_wp2_with fail
      refine (TB.out w5 hw).mono ?_
      rintro e w6 ⟨rfl, hb⟩
      replace hw := hw.trans (hb.mono hw.size)
      clear hb
      go_wp2_with fail
      go_ret
      exact ⟨rfl, hw⟩
end Go.Proofs.YtmajmpgcdpbnfaaDoor

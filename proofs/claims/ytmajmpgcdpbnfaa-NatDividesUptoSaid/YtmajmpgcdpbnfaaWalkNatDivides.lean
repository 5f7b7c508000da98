/- The law NatDivides, walked: quotient and rest are the slow answer's. Condition: at most 2^20 limbs. -/
import Derived.Test.YtmajmpgcdpbnfaaNatOpen
import Derived.Test.YtmajmpgcdpbnfaaNatDiv
import Derived.Test.YtmajmpgcdpbnfaaRefDiv
namespace Go.Proofs.Ytmajmpgcdpbnfaa
open Go.RowKit

set_option maxHeartbeats 2000000 in
theorem walkNatDivides (A0 : Option Addr) (n0 c0 : Nat) (xs : List Nat) (A1 : Option Addr) (n1 c1 : Nat) (ys : List Nat) (w : World)
    (h0 : Sl w A0 n0 c0 xs) (b0 : n0 ≤ 1048576) (h1 : Sl w A1 n1 c1 ys) (b1 : n1 ≤ 1048576) :
    Calls Try.prog 5 #[.slice A0 n0 c0, .slice A1 n1 c1] w fun e w' => e = .returned (.bool true) ∧ Below w.heap.size w w' := by
  have hone : Sl (w.alloc (.cells #[.int .u64 1] 28)) (some ⟨w.heap.size, 0, none⟩) 1 1 [1] := (blk_one w 1 (by decide)).sl (by decide)
  have hnil : ∀ W : World, Sl W none 0 0 [] := fun W => ⟨rfl, Nat.le_refl _, by decide, fun _ => rfl, Rd.nil _ _⟩
  have hz := div_zero (some ⟨w.heap.size, 0, none⟩) none 1 1 0 0 [1] [] _ hone (hnil _) rfl
  have hw : Below w.heap.size w (w.alloc (.cells #[.int .u64 1] 28)) := (Below.refl _ _).alloc (Nat.le_refl _) _
  have HZ := Lib.hid hz
  have HW := Lib.hid hw
  have HNIL := Lib.hid hnil
  clear hone hnil hz hw
  by_cases hbig : 60 < n0
  · clear h0 h1
    go_enter Try.func5, Try.ntmps5
    go_wp2_with fail
    refine HZ.out.mono ?_
    rintro e w' ⟨rfl, hw1⟩
    subst hw1
    go_wp2_with fail
    go_ret
    exact ⟨rfl, HW.out⟩
  · by_cases hy : val ys = 0
    · have HD := Lib.hid (fun W (hb : Below w.heap.size w W) => div_zero A0 A1 n0 c0 n1 c1 xs ys W (h0.below hb) (h1.below hb) hy)
      have HR := Lib.hid (fun W (hb : Below w.heap.size w W) => refDiv_zero A0 A1 n0 c0 n1 c1 ys W (h1.below hb) (by omega) hy)
      clear h0 h1 hy
      go_enter Try.func5, Try.ntmps5
      go_wp2_with fail
      refine HZ.out.mono ?_
      rintro e w' ⟨rfl, hw1⟩
      subst hw1
      go_wp2_with fail
      refine (HD.out _ HW.out).mono ?_
      rintro e w' ⟨rfl, hw1⟩
      subst hw1
      go_wp2_with fail
      refine (HR.out _ HW.out).mono ?_
      rintro e w2 ⟨rfl, hb2⟩
      have hw2 := HW.out.trans (hb2.mono HW.out.size)
      clear hb2
      go_wp2_with fail
      refine (same_true none none 0 0 0 0 [] [] w2 (HNIL.out _) (HNIL.out _) rfl).mono ?_
      rintro e w3 ⟨rfl, hb⟩
      have hw3 := hw2.trans (hb.mono hw2.size)
      clear hb hw2
      go_wp2_with fail
      refine (same_true none none 0 0 0 0 [] [] w3 (HNIL.out _) (HNIL.out _) rfl).mono ?_
      rintro e w4 ⟨rfl, hb⟩
      have hw4 := hw3.trans (hb.mono hw3.size)
      clear hb hw3
      go_wp2_with fail
      go_ret
      exact ⟨rfl, hw4⟩
    · have HD := Lib.hid (fun W (hb : Below w.heap.size w W) => div_at A0 A1 n0 c0 n1 c1 xs ys W (h0.below hb) (h1.below hb) (by omega) hy)
      have HR := Lib.hid (fun W (hb : Below w.heap.size w W) => refDiv_any A0 A1 n0 c0 n1 c1 xs ys W (h0.below hb) (h1.below hb) (by omega) (by omega) hy)
      clear h0 h1 hy
      go_enter Try.func5, Try.ntmps5
      go_wp2_with fail
      refine HZ.out.mono ?_
      rintro e w' ⟨rfl, hw1⟩
      subst hw1
      go_wp2_with fail
      refine (HD.out _ HW.out).mono ?_
      rintro e w1 ⟨Q, q, u, R, r, v, rfl, sq, sr, -, -, -, hb1⟩
      have hw1 := HW.out.trans (hb1.mono HW.out.size)
      clear hb1
      go_wp2_with fail
      refine (HR.out _ hw1).mono ?_
      rintro e w2 ⟨P, p, x, S, s, z, rfl, sp, ss, hb2⟩
      replace sq := sq.below hb2
      replace sr := sr.below hb2
      have hw2 := hw1.trans (hb2.mono hw1.size)
      clear hb2 hw1
      go_wp2_with fail
      refine (same_true Q P q u p x _ _ w2 sq sp rfl).mono ?_
      rintro e w3 ⟨rfl, hb⟩
      replace sr := sr.below hb
      replace ss := ss.below hb
      have hw3 := hw2.trans (hb.mono hw2.size)
      clear hb hw2 sq sp
      go_wp2_with fail
      refine (same_true R S r v s z _ _ w3 sr ss rfl).mono ?_
      rintro e w4 ⟨rfl, hb⟩
      have hw4 := hw3.trans (hb.mono hw3.size)
      clear hb hw3 sr ss
      go_wp2_with fail
      go_ret
      exact ⟨rfl, hw4⟩
end Go.Proofs.Ytmajmpgcdpbnfaa

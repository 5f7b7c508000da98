/- The law NatMultiplies, walked: the product is the slow answer's. -/
import Derived.Test.YtmajmpgcdpbnfaaNatOpen
import Derived.Test.YtmajmpgcdpbnfaaRefMul
namespace Go.Proofs.Ytmajmpgcdpbnfaa
open Go.RowKit

theorem lit1 (W : World) (x : Nat) (hx : x < 18446744073709551616) : Sl (W.alloc (.cells #[.int .u64 (x : Int)] 28)) (some ⟨W.heap.size, 0, none⟩) 1 1 [x] := (blk_one W x hx).sl (by simp)

set_option maxHeartbeats 2000000 in
theorem walkNatMultiplies (A0 : Option Addr) (n0 c0 : Nat) (xs : List Nat) (A1 : Option Addr) (n1 c1 : Nat) (ys : List Nat) (w : World)
    (h0 : Sl w A0 n0 c0 xs) (b0 : n0 ≤ 17592186044416) (h1 : Sl w A1 n1 c1 ys) (b1 : n1 ≤ 17592186044416) :
    Calls Try.prog 4 #[.slice A0 n0 c0, .slice A1 n1 c1] w fun e w' => e = .returned (.bool true) ∧ Below w.heap.size w w' := by
  have a1 : Below w.heap.size w (w.alloc (.cells #[.int .u64 2] 28)) := (Below.refl _ _).alloc (Nat.le_refl _) _
  have a2 : Below w.heap.size w ((w.alloc (.cells #[.int .u64 2] 28)).alloc (.cells #[.int .u64 3] 28)) := a1.alloc a1.size _
  have t2 : Sl ((w.alloc (.cells #[.int .u64 2] 28)).alloc (.cells #[.int .u64 3] 28)) (some ⟨w.heap.size, 0, none⟩) 1 1 [2] := (lit1 w 2 (by decide)).below ((Below.refl _ _).alloc (Nat.le_refl _) _)
  have t3 : Sl ((w.alloc (.cells #[.int .u64 2] 28)).alloc (.cells #[.int .u64 3] 28)) (some ⟨w.heap.size + 1, 0, none⟩) 1 1 [3] := by
    have := lit1 (w.alloc (.cells #[.int .u64 2] 28)) 3 (by decide)
    have e : (w.alloc (.cells #[.int .u64 2] 28)).heap.size = w.heap.size + 1 := by simp
    rwa [e] at this
  have hm := mul_at (some ⟨w.heap.size, 0, none⟩) (some ⟨w.heap.size + 1, 0, none⟩) 1 1 1 1 [2] [3] _ t2 t3 (by omega)
  have HM := Lib.hid hm
  have A2 := Lib.hid a2
  clear hm a1 a2 t2 t3
  by_cases hbig : 400 < n0 + n1
  · go_enter Try.func4, Try.ntmps4
    go_wp2_with fail
    refine HM.out.mono ?_
    rintro e w3 ⟨g, m, d, rfl, -, hs, -, hb⟩
    have hw := A2.out.trans (hb.mono A2.out.size)
    clear hb
    go_wp2_with fail
    have hal : Below w3.heap.size w3 (w3.alloc (.cells #[.int .u64 6] 28)) := (Below.refl _ _).alloc (Nat.le_refl _) _
    refine (same_true _ _ m d 1 1 _ [6] _ (hs.below hal) (lit1 w3 6 (by decide)) (by decide)).mono ?_
    rintro e w4 ⟨rfl, hb⟩
    have hb2 := hw.trans ((hal.trans (hb.mono hal.size)).mono hw.size)
    clear hb hal hw
    go_wp2_with fail
    go_ret
    exact ⟨rfl, hb2⟩
  · go_enter Try.func4, Try.ntmps4
    go_wp2_with fail
    refine HM.out.mono ?_
    rintro e w3 ⟨g, m, d, rfl, -, hs, -, hb⟩
    have hw := A2.out.trans (hb.mono A2.out.size)
    clear hb
    go_wp2_with fail
    have hal : Below w3.heap.size w3 (w3.alloc (.cells #[.int .u64 6] 28)) := (Below.refl _ _).alloc (Nat.le_refl _) _
    refine (same_true _ _ m d 1 1 _ [6] _ (hs.below hal) (lit1 w3 6 (by decide)) (by decide)).mono ?_
    rintro e w4 ⟨rfl, hb⟩
    have hb2 := hw.trans ((hal.trans (hb.mono hal.size)).mono hw.size)
    clear hb hal hw hs
    go_wp2_with fail
    refine (mul_at A0 A1 n0 c0 n1 c1 xs ys w4 (h0.below hb2) (h1.below hb2) (by omega)).mono ?_
    rintro e w5 ⟨g5, m5, d5, rfl, -, s5, -, hb5⟩
    have hb6 := hb2.trans (hb5.mono hb2.size)
    clear hb2 hb5
    go_wp2_with fail
    refine (refMul_any A0 A1 n0 c0 n1 c1 xs ys w5 (h0.below hb6) (h1.below hb6) (by omega) (by omega)).mono ?_
    rintro e w6 ⟨C, m6, d6, rfl, s6, hb7⟩
    have s5' := s5.below hb7
    have hb8 := hb6.trans (hb7.mono hb6.size)
    clear hb6 hb7 s5
    go_wp2_with fail
    refine (same_true _ _ m5 d5 m6 d6 _ _ w6 s5' s6 rfl).mono ?_
    rintro e w7 ⟨rfl, hb⟩
    have hb9 := hb8.trans (hb.mono hb8.size)
    clear hb hb8
    go_wp2_with fail
    go_ret
    exact ⟨rfl, hb9⟩
end Go.Proofs.Ytmajmpgcdpbnfaa

/- nat.product by induction on the limbs, and nat.Mul: a new slice of the product's plain limbs. Conditions: both together have fewer than 2^42 limbs. -/
import Derived.Test.YtmajmpgcdpbnfaaNatHalf
namespace Go.Proofs.Ytmajmpgcdpbnfaa
open Go.RowKit

set_option maxHeartbeats 1000000 in
theorem product_ge (N : Nat) (hN : ProdOK N) (A B : Option Addr) (n c n' c' : Nat) (xs ys : List Nat) (w : World) (h : Sl w A n c xs) (h' : Sl w B n' c' ys) (hlt : n + n' ≤ N) (hmax : N ≤ 4398046511104) (hge : n' ≤ n) :
    Calls Try.prog 41 #[.slice A n c, .slice B n' c'] w fun e w' =>
      ∃ g, e = .returned (.slice (some ⟨g, 0, none⟩) (n + n') (n + n')) ∧ w.heap.size ≤ g ∧ Blk w' g (dig (n + n') (val xs * val ys)) ∧ Below w.heap.size w w' := by
  have H := Lib.hid h
  have H' := Lib.hid h'
  have HN := Lib.hid hN
  clear h h' hN
  by_cases h1 : n' < 64
  · go_enter Try.func41, Try.ntmps41
    go_wp2_with (go_at_call 53; refine (rowProduct_any A B n c n' c' xs ys w H.out H'.out (by omega) (by omega)).mono ?_; rintro e w1 ⟨rfl, hb, hbel⟩)
    go_ret
    exact ⟨w.heap.size, rfl, Nat.le_refl _, hb, hbel⟩
  · obtain ⟨half, hh⟩ : ∃ half, half = (n + 1) / 2 := ⟨_, rfl⟩
    have HH := Lib.hid hh
    have a1 : n ≤ 2 * half := by omega
    have a2 : 2 * half ≤ n + 1 := by omega
    have e1 : ((n : Int) + 1) / 2 = (half : Int) := by omega
    have E1 := Lib.hid e1
    clear hh e1
    by_cases h2 : n' ≤ half
    · go_enter Try.func41, Try.ntmps41
      go_wp2_with (first
        | (go_at_call 54; rw [E1.out]; refine (lopsided_any N HN.out A B n c n' c' half xs ys w H.out H'.out (by omega) (by omega) (by omega) (by omega) (by omega)).mono ?_; rintro e w1 ⟨rfl, hb, hbel⟩))
      go_ret
      exact ⟨w.heap.size, rfl, Nat.le_refl _, hb, hbel⟩
    · go_enter Try.func41, Try.ntmps41
      go_wp2_with (first
        | (go_at_call 55; rw [E1.out]; refine (halves_any N HN.out A B n c n' c' half xs ys w H.out H'.out (by omega) (by omega) (by omega) (by omega) (by omega) (by omega) (by omega)).mono ?_; rintro e w1 ⟨g, rfl, hg, hb, hbel⟩))
      go_ret
      exact ⟨g, rfl, hg, hb, hbel⟩

set_option maxHeartbeats 1000000 in
theorem product_lt (N : Nat) (hN : ProdOK N) (A B : Option Addr) (n c n' c' : Nat) (xs ys : List Nat) (w : World) (h : Sl w A n c xs) (h' : Sl w B n' c' ys) (hlt : n + n' ≤ N) (hmax : N ≤ 4398046511104) (hge : n < n') :
    Calls Try.prog 41 #[.slice A n c, .slice B n' c'] w fun e w' =>
      ∃ g, e = .returned (.slice (some ⟨g, 0, none⟩) (n + n') (n + n')) ∧ w.heap.size ≤ g ∧ Blk w' g (dig (n + n') (val xs * val ys)) ∧ Below w.heap.size w w' := by
  have H := Lib.hid h
  have H' := Lib.hid h'
  have HN := Lib.hid hN
  clear h h' hN
  by_cases h1 : n < 64
  · go_enter Try.func41, Try.ntmps41
    go_wp2_with (go_at_call 53; refine (rowProduct_any B A n' c' n c ys xs w H'.out H.out (by omega) (by omega)).mono ?_; rintro e w1 ⟨rfl, hb, hbel⟩)
    go_ret
    exact ⟨w.heap.size, by rw [Nat.add_comm n n']; rfl, Nat.le_refl _, by rw [Nat.add_comm n n', Nat.mul_comm (val xs)]; exact hb, hbel⟩
  · obtain ⟨half, hh⟩ : ∃ half, half = (n' + 1) / 2 := ⟨_, rfl⟩
    have HH := Lib.hid hh
    have a1 : n' ≤ 2 * half := by omega
    have a2 : 2 * half ≤ n' + 1 := by omega
    have e1 : ((n' : Int) + 1) / 2 = (half : Int) := by omega
    have E1 := Lib.hid e1
    clear hh e1
    by_cases h2 : n ≤ half
    · go_enter Try.func41, Try.ntmps41
      go_wp2_with (first
        | (go_at_call 54; rw [E1.out]; refine (lopsided_any N HN.out B A n' c' n c half ys xs w H'.out H.out (by omega) (by omega) (by omega) (by omega) (by omega)).mono ?_; rintro e w1 ⟨rfl, hb, hbel⟩))
      go_ret
      exact ⟨w.heap.size, by rw [Nat.add_comm n n']; rfl, Nat.le_refl _, by rw [Nat.add_comm n n', Nat.mul_comm (val xs)]; exact hb, hbel⟩
    · go_enter Try.func41, Try.ntmps41
      go_wp2_with (first
        | (go_at_call 55; rw [E1.out]; refine (halves_any N HN.out B A n' c' n c half ys xs w H'.out H.out (by omega) (by omega) (by omega) (by omega) (by omega) (by omega) (by omega)).mono ?_; rintro e w1 ⟨g, rfl, hg, hb, hbel⟩))
      go_ret
      exact ⟨g, by rw [Nat.add_comm n n']; rfl, hg, by rw [Nat.add_comm n n', Nat.mul_comm (val xs)]; exact hb, hbel⟩

theorem prodOK_all (N : Nat) (hN : N ≤ 4398046511104) : ProdOK N := by
  induction N with
  | zero => intro A B n c n' c' xs ys w hlt _ _; omega
  | succ N ih =>
    intro A B n c n' c' xs ys w hlt h h'
    rcases Nat.lt_or_ge n n' with hc | hc
    · exact product_lt N (ih (by omega)) A B n c n' c' xs ys w h h' (by omega) (by omega) hc
    · exact product_ge N (ih (by omega)) A B n c n' c' xs ys w h h' (by omega) (by omega) hc

set_option maxHeartbeats 1000000 in
theorem mul_at (A B : Option Addr) (n c n' c' : Nat) (xs ys : List Nat) (w : World) (h : Sl w A n c xs) (h' : Sl w B n' c' ys) (hn : n + n' < 4398046511104) :
    Calls Try.prog 21 #[.slice A n c, .slice B n' c'] w fun e w' =>
      ∃ g m d, e = .returned (.slice (some ⟨g, 0, none⟩) m d) ∧ w.heap.size ≤ g ∧ Sl w' (some ⟨g, 0, none⟩) m d (nrm (val xs * val ys)) ∧ m ≤ n + n' ∧ Below w.heap.size w w' := by
  have H := Lib.hid h
  have H' := Lib.hid h'
  clear h h'
  go_enter Try.func21, Try.ntmps21
  go_wp2_with (first
    | (go_at_call 30; (with_reducible refine (trim_at A n c xs w H.out).mono ?_); rintro e w' ⟨p, rfl, hp, hpn, rfl⟩)
    | (go_at_call 30; (with_reducible refine (trim_at B n' c' ys w H'.out).mono ?_); rintro e w' ⟨q, rfl, hq, hqn, rfl⟩)
    | (go_at_call 41; (with_reducible refine (ProdOK.at_ (prodOK_all 4398046511104 (Nat.le_refl _)) A B p c q c' _ _ w (by omega) hp hq).mono ?_); rintro e w1 ⟨g, rfl, hg, hb, hbel⟩))
  have hV := mul_all _ _ hp.fit hq.fit p q hp.len.symm hq.len.symm
  rw [val_nrm, val_nrm] at hb hV
  have T := trim_any _ (p + q) (p + q) _ w1 (hb.sl' (by omega))
  have hs := (hb.sl' (by omega)).plain
  have hle := nrm_len_le hV
  rw [val_dig_of_lt hV] at T hs
  generalize (nrm (val xs * val ys)).length = m at *
  have TT := Lib.hid T
  have HS := Lib.hid hs
  have HV := Lib.hid hV
  clear T hs hV hb
  go_wp2_with (go_at_call 30; refine TT.out.mono ?_; rintro e w' ⟨rfl, rfl⟩)
  go_ret
  exact ⟨g, m, p + q, rfl, hg, HS.out, by omega, hbel⟩
end Go.Proofs.Ytmajmpgcdpbnfaa

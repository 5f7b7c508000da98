/- The contracts once more, their results' lengths under names of their own. -/
import Derived.Test.YtmajmpgcdpbnfaaNatLop
namespace Go.Proofs.Ytmajmpgcdpbnfaa
open Go.RowKit

theorem nrm_len_le {v k : Nat} (h : v < 18446744073709551616 ^ k) : (nrm v).length ≤ k := by
  have := nrm_length_le (fit_dig k v)
  rwa [val_dig_of_lt h, dig_length] at this

theorem trim_at (A : Option Addr) (n c : Nat) (xs : List Nat) (w : World) (h : Sl w A n c xs) :
    Calls Try.prog 30 #[.slice A n c] w fun e w' => ∃ m, e = .returned (.slice A m c) ∧ Sl w A m c (nrm (val xs)) ∧ m ≤ n ∧ w = w' :=
  (trim_any A n c xs w h).mono fun e w' ⟨he, hw⟩ => ⟨_, he, h.plain, by rw [h.len]; exact nrm_length_le h.fit, hw⟩

theorem norm_at (A : Option Addr) (n c : Nat) (xs : List Nat) (w : World) (h : Sl w A n c xs) (hn : n ≤ 17592186044416) :
    Calls Try.prog 17 #[.slice A n c] w fun e w' => ∃ g m, e = .returned (.slice (some ⟨g, 0, none⟩) m m) ∧ w.heap.size ≤ g ∧ Sl w' (some ⟨g, 0, none⟩) m m (nrm (val xs)) ∧ m ≤ n ∧ Below w.heap.size w w' :=
  (norm_any A n c xs w h hn).mono fun e w' ⟨he, hb, hbel⟩ => by
    have hle : (nrm (val xs)).length ≤ n := by rw [h.len]; exact nrm_length_le h.fit
    exact ⟨_, _, he, Nat.le_refl _, hb.sl (by omega), hle, hbel⟩

theorem add_at (A B : Option Addr) (n c n' c' : Nat) (xs ys : List Nat) (w : World) (h : Sl w A n c xs) (h' : Sl w B n' c' ys) (hn : n ≤ 8796093022208) (hn' : n' ≤ 8796093022208) :
    Calls Try.prog 13 #[.slice A n c, .slice B n' c'] w fun e w' =>
      ∃ g m d, e = .returned (.slice (some ⟨g, 0, none⟩) m d) ∧ w.heap.size ≤ g ∧ Sl w' (some ⟨g, 0, none⟩) m d (nrm (val xs + val ys)) ∧ m ≤ max n n' + 1 ∧ Below w.heap.size w w' :=
  (add_any A B n c n' c' xs ys w h h' hn hn').mono fun e w' ⟨v, he, ⟨g, d, hv, hg, _, hs⟩, hbel⟩ => by
    subst hv
    refine ⟨g, _, d, he, hg, hs, nrm_len_le (sum_lt xs ys h.fit h'.fit _ ?_ ?_), hbel⟩
    · rw [← h.len]; omega
    · rw [← h'.len]; omega

theorem sub_at (A B : Option Addr) (n c n' c' : Nat) (xs ys : List Nat) (w : World) (h : Sl w A n c xs) (h' : Sl w B n' c' ys) (hn : n ≤ 8796093022208) (hle : val ys ≤ val xs) :
    Calls Try.prog 10 #[.slice A n c, .slice B n' c'] w fun e w' =>
      ∃ g m d, e = .returned (.tuple #[.slice (some ⟨g, 0, none⟩) m d, .int .i64 0]) ∧ w.heap.size ≤ g ∧ Sl w' (some ⟨g, 0, none⟩) m d (nrm (val xs - val ys)) ∧ m ≤ n ∧ Below w.heap.size w w' :=
  (sub_ge A B n c n' c' xs ys w h h' hn hle).mono fun e w' ⟨v, he, ⟨g, d, hv, hg, _, hs⟩, hbel⟩ => by
    subst hv
    refine ⟨g, _, d, he, hg, hs, nrm_len_le ?_, hbel⟩
    have := val_lt h.fit
    rw [← h.len] at this
    omega
end Go.Proofs.Ytmajmpgcdpbnfaa

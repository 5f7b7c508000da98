/- The contracts once more, their results' lengths under names of their own. -/
import Derived.Test.YtmajmpgcdpbnfaaDoorNatLop
namespace Go.Proofs.YtmajmpgcdpbnfaaDoor
open Go.RowKit

theorem nrm_len_le {v k : Nat} (h : v < 18446744073709551616 ^ k) : (nrm v).length ≤ k := by
  have := nrm_length_le (fit_dig k v)
  rwa [val_dig_of_lt h, dig_length] at this

theorem trim_at (A : Option Addr) (n c : Nat) (xs : List Nat) (w : World) (h : Sl w A n c xs) :
    Calls Tryd.prog 16 #[.slice A n c] w fun e w' => ∃ m, e = .returned (.slice A m c) ∧ Sl w A m c (nrm (val xs)) ∧ m ≤ n ∧ w = w' :=
  (trim_any A n c xs w h).mono fun e w' ⟨he, hw⟩ => ⟨_, he, h.plain, by rw [h.len]; exact nrm_length_le h.fit, hw⟩

theorem norm_at (A : Option Addr) (n c : Nat) (xs : List Nat) (w : World) (h : Sl w A n c xs) (hn : n ≤ 17592186044416) :
    Calls Tryd.prog 10 #[.slice A n c] w fun e w' => ∃ g m, e = .returned (.slice (some ⟨g, 0, none⟩) m m) ∧ w.heap.size ≤ g ∧ Sl w' (some ⟨g, 0, none⟩) m m (nrm (val xs)) ∧ m ≤ n ∧ Below w.heap.size w w' :=
  (norm_any A n c xs w h hn).mono fun e w' ⟨he, hb, hbel⟩ => by
    have hle : (nrm (val xs)).length ≤ n := by rw [h.len]; exact nrm_length_le h.fit
    exact ⟨_, _, he, Nat.le_refl _, hb.sl (by omega), hle, hbel⟩

end Go.Proofs.YtmajmpgcdpbnfaaDoor

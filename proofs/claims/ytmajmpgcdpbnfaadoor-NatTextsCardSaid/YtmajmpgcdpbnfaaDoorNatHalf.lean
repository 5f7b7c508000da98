/- nat.halvesProduct, by its contract: given that smaller products are as they should be. -/
import Derived.Test.YtmajmpgcdpbnfaaDoorNatAt
namespace Go.Proofs.YtmajmpgcdpbnfaaDoor
open Go.RowKit

theorem mul_all (xs ys : List Nat) (hx : Fit xs) (hy : Fit ys) (n n' : Nat) (hn : xs.length = n) (hn' : ys.length = n') : val xs * val ys < 18446744073709551616 ^ (n + n') := by
  have := row_all xs ys n n' (n + n') hx hy hn (Nat.le_refl _)
  rwa [List.take_of_length_le (by omega)] at this

theorem below_step {w2 W W' : World} (h : Below w2.heap.size w2 W) (k : Below W.heap.size W W') : Below w2.heap.size w2 W' := h.trans (k.mono h.size)

end Go.Proofs.YtmajmpgcdpbnfaaDoor

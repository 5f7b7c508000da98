/- nat.Add, by its contract: a new slice of the sum's plain limbs. Conditions: the lengths are at most 2^43. -/
import Derived.Test.YtmajmpgcdpbnfaaDoorNatVal
namespace Go.Proofs.YtmajmpgcdpbnfaaDoor
open Go.RowKit

/-- cmp.Compare at uint64, -1, 0, 1. -/
def cmpN (x y : Nat) : Int := if x < y then -1 else if y < x then 1 else 0
end Go.Proofs.YtmajmpgcdpbnfaaDoor

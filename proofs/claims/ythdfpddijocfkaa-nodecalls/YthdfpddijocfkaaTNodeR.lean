
/- Layer 16: the reference's node. -/

import Derived.Test.YthdfpddijocfkaaTNode

namespace Go.Proofs.Ythdfpddijocfkaa

open Go.RowKit

attribute [local go_sem ↓] Go.wp_at_zero Go.wp_at_succ
end Go.Proofs.Ythdfpddijocfkaa


/- Layer 17: keys of the reference. -/

import Derived.Test.YthdfpddijocfkaaWRoot

import Derived.Test.YthdfpddijocfkaaWHvP

namespace Go.Proofs.Ythdfpddijocfkaa

open Go.RowKit

attribute [local go_sem ↓] Go.wp_at_zero Go.wp_at_succ
end Go.Proofs.Ythdfpddijocfkaa

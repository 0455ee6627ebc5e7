
/- Layer 17: sentinel and Root of the reference. -/

import Derived.Test.YthdfpddijocfkaaWChk

import Derived.Test.YthdfpddijocfkaaTRoot

namespace Go.Proofs.Ythdfpddijocfkaa

open Go.RowKit

attribute [local go_sem ↓] Go.wp_at_zero Go.wp_at_succ
/-- Root's answer of the reference: -1 where there is none. -/
noncomputable def vX (t : NL) : Int := if (rootR t).2 = 0 then (rootR t).1 else -1
end Go.Proofs.Ythdfpddijocfkaa

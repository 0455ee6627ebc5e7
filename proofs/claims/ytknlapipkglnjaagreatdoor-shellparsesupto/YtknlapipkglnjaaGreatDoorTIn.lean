
/- Layer 16: what fits into an int. -/

import Derived.Test.YtknlapipkglnjaaGreatDoorTPure

namespace Go.Proofs.YtknlapipkglnjaaGreatDoor

def In64 (x : Int) : Prop := -9223372036854775808 ≤ x ∧ x ≤ 9223372036854775807
/-- Numbers that ints hold. -/
def NodesIn (t : NL) : Prop := ∀ i, i < t.length → In64 (ndAt t i).key ∧ In64 (ndAt t i).val
end Go.Proofs.YtknlapipkglnjaaGreatDoor

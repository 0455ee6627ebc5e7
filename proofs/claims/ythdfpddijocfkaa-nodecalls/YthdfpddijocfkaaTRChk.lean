
/- Layer 16: the reference's Check. -/

import Derived.Test.YthdfpddijocfkaaTChk

import Derived.Test.YthdfpddijocfkaaTNodeR

namespace Go.Proofs.Ythdfpddijocfkaa

open Go.RowKit

attribute [local go_sem ↓] Go.wp_at_zero Go.wp_at_succ

theorem natC_two' (S : List Nat) (l r : Nat) : natC (r :: l :: S).reverse = natC S.reverse ++ [.int .i64 (l : Int), .int .i64 (r : Int)] := by simp [natC]
theorem formE_whole {t : NL} {L : List Nat} (hb : t.length ≤ 100000) (hp : 0 < t.length) (hg : Good t) (hT : Tree t 0 L) : formE t = if L.length = t.length then 0 else 3 := by
  rw [formE_tree hb, treeB_of hp hg hT]
  by_cases e : L.length = t.length
  · rw [decide_eq_true e, if_pos rfl, if_pos e]
  · rw [decide_eq_false e, if_neg (by simp), if_neg e]

end Go.Proofs.Ythdfpddijocfkaa

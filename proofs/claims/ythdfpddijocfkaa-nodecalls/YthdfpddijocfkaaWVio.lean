
/- Layer 17: Violations. -/

import Derived.Test.YthdfpddijocfkaaWCalls

namespace Go.Proofs.Ythdfpddijocfkaa

open Go.RowKit

attribute [local go_sem ↓] Go.wp_at_zero Go.wp_at_succ

theorem own_slice {w : World} {B : Nat} {e : TypeId} {k n : Nat} {v : Value} {cs : List Value} (h : w.ownsRow B e k v n cs) : ∃ bs cp, v = .slice bs n cp := by
  rcases Go.Joins.ownsRow_forms h with ⟨rfl, q⟩ | ⟨_, _, rfl⟩
  · exact ⟨none, 0, by rw [q]⟩
  · exact ⟨_, _, rfl⟩
def redsO : Option BT → List Int
  | none => []
  | some B => redsB B
theorem keys_ok {t : NL} {k : Option BT} (hk : Keyed t k) : (keysA t).length ≤ 100000 ∧ (∀ i, i < (keysA t).length → NodeOk (ndAt (keysA t) i) (keysA t).length) ∧ (redsO k).length ≤ 100000 ∧ vioO k = (redsO k).length + ovN (keysA t) (keysA t).length := by
  cases k with
  | none =>
    have hkk : keysA t = [] := hk
    rw [hkk]
    exact ⟨by simp, fun i hi => by simp at hi, by simp [redsO], by simp [redsO, vioO, ovN]⟩
  | some B =>
    rw [hk.2.1]
    exact ⟨by rw [BT.lay_length]; exact hk.2.2.2, (lay_form hk.2.2.1).good.node, Nat.le_trans (inh_len _ _ redO_len B 1) hk.2.2.2, rfl⟩
end Go.Proofs.Ythdfpddijocfkaa

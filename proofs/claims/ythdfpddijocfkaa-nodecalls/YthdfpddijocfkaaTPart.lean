
/- Layer 16: the reference's Part. -/

import Derived.Test.YthdfpddijocfkaaTBel

namespace Go.Proofs.Ythdfpddijocfkaa

open Go.RowKit

attribute [local go_sem ↓] Go.wp_at_zero Go.wp_at_succ

theorem take_snoc' (q : NL) (j : Nat) (h : j < q.length) : q.take (j + 1) = q.take j ++ [ndAt q j] := by
  rw [List.take_succ_eq_append_getElem h]
  congr 1
  simp [ndAt, List.getD_eq_getElem?_getD, List.getElem?_eq_getElem h]
theorem ownB {B n : Nat} {w : World} {e : TypeId} {sz : Nat} {v : Value} {xs : List Value} (h : w.ownsRow B e sz v n xs) (b j : Nat) (u : Value) (hb : ∀ g, v.ownBlock = some g → g < b) : (w.setCell ⟨b, j, none⟩ u).ownsRow B e sz v n xs := by
  rcases Go.Joins.ownsRow_forms h with ⟨rfl, rfl⟩ | ⟨g, cap, rfl⟩
  · obtain ⟨h0, _⟩ := h; exact ⟨h0, Or.inl ⟨rfl, rfl⟩⟩
  · exact owns_other h b j u (Nat.ne_of_gt (hb g rfl))

end Go.Proofs.Ythdfpddijocfkaa

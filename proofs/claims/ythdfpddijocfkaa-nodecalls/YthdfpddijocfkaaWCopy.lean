
/- Layer 17: copies; Heavy of the reference. -/

import Derived.Test.YthdfpddijocfkaaWKey2

import Derived.Test.YthdfpddijocfkaaWEq

import Derived.Test.YthdfpddijocfkaaWFixed

namespace Go.Proofs.Ythdfpddijocfkaa

open Go.RowKit

attribute [local go_sem ↓] Go.wp_at_zero Go.wp_at_succ
theorem ws_news {w : World} {base : Option Addr} {g o : Nat} {L : List Int} (h : WsAt w base g o L) : ∀ ad, base = some ad → ∀ j u, (isC L)[j]? = some u → w.cell? (ad.add j) = some u := by
  intro ad e j u hu
  have hj : j < L.length := by
    have := (List.getElem?_eq_some_iff.1 hu).1
    rwa [isC_length] at this
  have hb := h.base (by omega)
  rw [hb] at e
  injection e with e
  subst e
  rw [isC_get L j hj] at hu
  injection hu with hu
  rw [← hu, show (⟨g, o, none⟩ : Addr).add j = ⟨g, o + j, none⟩ by simp [Addr.add]]
  exact h.cells j hj
theorem isC_all (L : List Int) : ∀ u ∈ isC L, u.oneCell' = true := by
  intro u hu
  simp [isC] at hu
  obtain ⟨x, _, rfl⟩ := hu
  rfl
end Go.Proofs.Ythdfpddijocfkaa


/- Layer 17: what every law asks first. -/

import Derived.Test.YthdfpddijocfkaaWFix

namespace Go.Proofs.Ythdfpddijocfkaa

open Go.RowKit

attribute [local go_sem ↓] Go.wp_at_zero Go.wp_at_succ

theorem ws_lit (w : World) (L : List Int) (T : TypeId) (hn : L.length ≤ maxLen) : WsAt (w.alloc (.cells (isC L).toArray T)) (some ⟨w.heap.size, 0, none⟩) w.heap.size 0 L := by
  refine ⟨fun _ => rfl, fun _ => by simp, fun i hi => ?_, hn⟩
  rw [Nat.zero_add, ← isC_get L i hi]
  have h := heap_alloc_at w (.cells (isC L).toArray T) w.heap.size rfl
  unfold World.cell?
  simp only [h]
  simp
end Go.Proofs.Ythdfpddijocfkaa

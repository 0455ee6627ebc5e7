
/- Layer 28: the document's ParseOp. -/

import Derived.Test.YtknlapipkglnjaaGreatDoorHROp

import Derived.Test.YtknlapipkglnjaaGreatDoorHNl

namespace Go.Proofs.YtknlapipkglnjaaGreatDoor

open Go.RowKit

attribute [local go_sem ↓] Go.wp_at_zero Go.wp_at_succ

theorem hkept {W z : World} {g : Nat} {cs : Array Value} {t : TypeId} (hg : W.heap[g]? = some (.cells cs t)) (h : Below W.heap.size W z) (i : Nat) (v : Value) (hv : cs[i]? = some v) : z.cell? ⟨g, i, none⟩ = some v ∧ z.frozen? ⟨g, i, none⟩ = false := by
  have hb := h.block g (Array.getElem?_eq_some_iff.1 hg).1
  rw [hg] at hb
  refine ⟨?_, ?_⟩
  · simp only [World.cell?, hb]
    exact hv
  · simp [World.frozen?, hb]
theorem opsRun {l : List UInt8} {B : Nat} {w : World} {v : Value} (hl : l.length ≤ 2000000) (h : w.ownsRow B 9 1 v (wordsL l).length (strC (wordsL l))) :
    Calls Tryz.prog 33 #[v] w fun e w' => OpOut (wordsL l) e ∧ Below w.heap.size w w' := by
  obtain ⟨base, cap, g, rfl, hb, hc⟩ := row_cells h
  exact rOpOf_any (wordsL l) base cap g w hb hc (fun j => by
    rw [List.getD_eq_getElem?_getD]
    cases hj : (wordsL l)[j]? with
    | none => exact Nat.zero_le _
    | some x => exact Nat.le_trans (words_le (List.mem_of_getElem? hj)) hl) (by have := words_len l; omega)
end Go.Proofs.YtknlapipkglnjaaGreatDoor

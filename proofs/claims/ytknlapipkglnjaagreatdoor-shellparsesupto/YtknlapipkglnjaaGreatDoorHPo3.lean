
/- Layer 28: the program's opOf, of a line's words. -/

import Derived.Test.YtknlapipkglnjaaGreatDoorHPo2

namespace Go.Proofs.YtknlapipkglnjaaGreatDoor

open Go.RowKit

theorem opOf_any (ws : List (List UInt8)) (B : Nat) (v : Value) (w : World) (h : w.ownsRow B 9 1 v ws.length (strC ws)) (hw : ∀ x ∈ ws, x.length ≤ 4294967296) (hn : ws.length ≤ 4294967295) (hE : HEB w.heap.size w) :
    Calls Tryz.prog 71 #[v] w fun e w' => OpOut ws e ∧ Below w.heap.size w w' := by
  cases ws with
  | nil =>
    obtain ⟨base, cap, g, rfl, -, -⟩ := row_cells h
    exact opOf_nil base cap w
  | cons x ws =>
    obtain ⟨g, cap, rfl, -, hlt, hcap, -, hcells, -⟩ := owns_some h (by simp)
    have hc : ∀ j, j < ws.length + 1 → w.cell? ⟨g, j, none⟩ = some (.string ⟨((x :: ws).getD j []).toArray⟩) := fun j hj => by
      rw [hcells j (by simp; omega)]
      simp only [strC, List.getElem?_map]
      rw [List.getD_eq_getElem?_getD, List.getElem?_eq_getElem (by simpa using hj)]
      rfl
    have hl : ws.length ≤ 4294967295 := by simp at hn; omega
    have hw' : ∀ j, (ws.getD j []).length ≤ 4294967296 := fun j => by
      rw [List.getD_eq_getElem?_getD]
      cases hj : ws[j]? with
      | none => exact Nat.zero_le _
      | some y => exact hw y (List.mem_cons_of_mem _ (List.mem_of_getElem? hj))
    have hcap' : ws.length + 1 ≤ cap := by simpa using hcap
    by_cases hk : ∃ k : Nat, 1 ≤ k ∧ k ≤ 9 ∧ x = wordL k
    · obtain ⟨k, h1, h9, rfl⟩ := hk
      by_cases hV : ∃ V : List Int, ws.length = (fldL k).length ∧ V.length = (fldL k).length ∧ ∀ m, m < V.length → numOf (ws.getD m []) = some (V.getD m 0)
      · obtain ⟨V, hV⟩ := hV
        exact opOf_ok k h1 h9 ws cap g w hcap' hc hw' hl hE V hV
      · exact opOf_bad k h1 h9 ws cap g w hcap' hc hw' hl hE (fun V q => hV ⟨V, q⟩)
    · exact opOf_no x ws cap g w (hc 0 (by omega)) (by omega) hE (fun m h1 h9 q => hk ⟨m, h1, h9, q⟩)
end Go.Proofs.YtknlapipkglnjaaGreatDoor

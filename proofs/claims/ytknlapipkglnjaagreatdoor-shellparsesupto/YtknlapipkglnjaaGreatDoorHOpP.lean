
/- Layer 28: an operation of a line's words. -/

import Derived.Test.YtknlapipkglnjaaGreatDoorHRd

import Derived.Test.YtknlapipkglnjaaGreatDoorHRf1

import Derived.Test.YtknlapipkglnjaaGreatDoorHTl2

namespace Go.Proofs.YtknlapipkglnjaaGreatDoor

open Go.RowKit

def fillOp (k : Nat) (V : List Int) : OpD := ⟨k, V.getD 0 0, if k = 9 then 0 else V.getD 1 0, if k = 9 then V.getD 1 0 else 0⟩
def opV (o : OpD) : Value := .agg #[.int .i64 o.kind, .int .i64 o.key, .int .i64 o.val, .int .i64 o.hi]
structure OpIs (ws : List (List UInt8)) (k : Nat) (V : List Int) : Prop where
  lo : 1 ≤ k
  hi : k ≤ 9
  hd : ws.head? = some (wordL k)
  len : ws.length = (fldL k).length + 1
  vs : V.length = (fldL k).length
  nums : ∀ j, j < V.length → numOf (ws.getD (j + 1) []) = some (V.getD j 0)
theorem word_inj {k m : Nat} (h1 : 1 ≤ k) (h2 : k ≤ 9) (h3 : 1 ≤ m) (h4 : m ≤ 9) (h : wordL k = wordL m) : k = m := by
  rcases (by omega : k = 1 ∨ k = 2 ∨ k = 3 ∨ k = 4 ∨ k = 5 ∨ k = 6 ∨ k = 7 ∨ k = 8 ∨ k = 9) with rfl | rfl | rfl | rfl | rfl | rfl | rfl | rfl | rfl <;>
  rcases (by omega : m = 1 ∨ m = 2 ∨ m = 3 ∨ m = 4 ∨ m = 5 ∨ m = 6 ∨ m = 7 ∨ m = 8 ∨ m = 9) with rfl | rfl | rfl | rfl | rfl | rfl | rfl | rfl | rfl <;> first | rfl | (exfalso; revert h; decide)
theorem OpIs.one {ws : List (List UInt8)} {k m : Nat} {V U : List Int} (h : OpIs ws k V) (q : OpIs ws m U) : k = m ∧ V = U := by
  have e : k = m := word_inj h.lo h.hi q.lo q.hi (Option.some.inj (h.hd.symm.trans q.hd))
  subst e
  refine ⟨rfl, List.ext_getElem (by rw [h.vs, q.vs]) fun i h1 h2 => ?_⟩
  have e1 := h.nums i h1
  rw [q.nums i h2] at e1
  have e1 := Option.some.inj e1
  rw [List.getD_eq_getElem?_getD, List.getD_eq_getElem?_getD, List.getElem?_eq_getElem h1, List.getElem?_eq_getElem h2] at e1
  exact e1.symm
def OpOut (ws : List (List UInt8)) (e : Ending) : Prop :=
  (∃ k V, OpIs ws k V ∧ e = .returned (.tuple #[opV (fillOp k V), .bool true])) ∨ ((∀ k V, ¬ OpIs ws k V) ∧ e = .returned (.tuple #[opV ⟨0, 0, 0, 0⟩, .bool false]))
theorem cnt_fld (k : Nat) : cntL k = ((fldL k).length : Int) := by
  unfold cntL fldL
  by_cases h1 : k = 1 ∨ k = 4 ∨ k = 5 ∨ k = 6
  · rw [if_pos (by omega), if_pos h1]; rfl
  · rw [if_neg (by omega), if_neg h1]
    by_cases h2 : k = 2 ∨ k = 3
    · rw [if_pos (by omega), if_pos h2]; rfl
    · rw [if_neg h2]
      by_cases h3 : k = 9
      · rw [if_pos (by omega), if_pos h3]; rfl
      · rw [if_neg (by omega), if_neg h3]; rfl
theorem fill_next {k : Nat} {V : List Int} {v : Int} : V.length = 0 → fillOp k (V ++ [v]) = ⟨k, v, 0, 0⟩ := by
  intro h
  rw [List.length_eq_zero_iff.1 h]
  simp [fillOp]
theorem row_cells {w : World} {B : Nat} {v : Value} {ws : List (List UInt8)} (h : w.ownsRow B 9 1 v ws.length (strC ws)) : ∃ base cap g, v = .slice base ws.length cap ∧ (ws ≠ [] → base = some ⟨g, 0, none⟩) ∧ ∀ j, j < ws.length → w.cell? ⟨g, j, none⟩ = some (.string ⟨(ws.getD j []).toArray⟩) := by
  by_cases hn : ws = []
  · subst hn
    obtain ⟨a, c, rfl⟩ : ∃ a c, v = .slice a ([] : List (List UInt8)).length c := by
      rcases h.2 with ⟨rfl, h0⟩ | ⟨g, cap, _, rfl, _⟩
      · exact ⟨_, _, rfl⟩
      · exact ⟨_, _, rfl⟩
    exact ⟨a, c, 0, rfl, fun q => absurd rfl q, fun j hj => by cases hj⟩
  · obtain ⟨g, cap, rfl, -, hlt, hcap, -, hcells, -⟩ := owns_some h (by cases ws with | nil => exact absurd rfl hn | cons x y => simp)
    refine ⟨_, cap, g, rfl, fun _ => rfl, fun j hj => ?_⟩
    rw [hcells j (by omega)]
    simp only [strC, List.getElem?_map]
    rw [List.getD_eq_getElem?_getD, List.getElem?_eq_getElem hj]
    rfl
end Go.Proofs.YtknlapipkglnjaaGreatDoor

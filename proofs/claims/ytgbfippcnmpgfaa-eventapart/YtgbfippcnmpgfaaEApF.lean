
/- Layer 5: a row of events that is made and filled by copy: events in memory, six zero ones behind. No walk. -/

import Derived.Test.YtgbfippcnmpgfaaEApM

import Derived.Test.YtgbfippcnmpgfaaGCopy

namespace Go.Proofs.Ytgbfippcnmpgfaa

open Go.RowKit Go.Deep

abbrev z10 : Array Value := #[.int .i64 0, .bool false, .int .i64 0, .int .i64 0, .int .i64 0, .int .i64 0, .bool false, .int .i64 0, .int .i64 0, .slice none 0 0]
def ez : EvD × Value := (ev0, .slice none 0 0)
theorem ez_get (n k i : Nat) (hk : k < n) (hi : i < 10) : (evsC (List.replicate n ez))[k * 10 + i]? = z10[i]? := by
  rw [evsC_get _ k i ez (by rw [List.getElem?_replicate, if_pos hk]) hi]
  match i, hi with
  | 0, _ => rfl
  | 1, _ => rfl
  | 2, _ => rfl
  | 3, _ => rfl
  | 4, _ => rfl
  | 5, _ => rfl
  | 6, _ => rfl
  | 7, _ => rfl
  | 8, _ => rfl
  | 9, _ => rfl
theorem made_events (n : Nat) : (madeCells z10 (n * 10)).toList = evsC (List.replicate n ez) := by
  apply List.ext_getElem?
  intro j
  by_cases hj : j < n * 10
  · have e : j = j / 10 * 10 + j % 10 := by omega
    have h1 : j % 10 < 10 := Nat.mod_lt _ (by omega)
    have h2 := ez_get n (j / 10) (j % 10) (by omega) h1
    rw [← e] at h2
    rw [h2]
    simp only [madeCells, Array.toList_map, List.getElem?_map, Array.toList_range, List.getElem?_range hj, Option.map_some]
    have hs : j % 10 < z10.size := h1
    rw [Array.getElem?_eq_getElem hs]
    exact congrArg some (getElem!_pos z10 (j % 10) hs)
  · rw [List.getElem?_eq_none (by simp [madeCells]; omega), List.getElem?_eq_none (by rw [evsC_length]; simp; omega)]
theorem evsC_drop (n m : Nat) : (evsC (List.replicate (n + m) ez)).drop (n * 10) = evsC (List.replicate m ez) := by
  have : List.replicate (n + m) ez = List.replicate n ez ++ List.replicate m ez := by simp
  rw [this, evsC_append, List.drop_left' (by rw [evsC_length]; simp)]
theorem evsC_one : ∀ (m : List (EvD × Value)), (∀ x ∈ m, ∃ a n c, x.2 = .slice a n c) → ∀ v ∈ evsC m, v.oneCell' = true
  | [], _, v, hv => by cases hv
  | x :: t, h, v, hv => by
    simp only [evsC] at hv
    rcases List.mem_append.1 hv with q | q
    · obtain ⟨a, n, c, e⟩ := h x (List.mem_cons_self)
      simp only [evC, List.mem_cons, List.not_mem_nil, or_false] at q
      rcases q with rfl | rfl | rfl | rfl | rfl | rfl | rfl | rfl | rfl | rfl <;> first | rfl | (rw [e]; rfl)
    · exact evsC_one t (fun y hy => h y (List.mem_cons_of_mem _ hy)) v q

theorem copy_full {w1 w2 : World} {n M c : Nat} {a : Option Addr} (ty : TypeId) (hs : List EvD) (m : List (EvD × Value)) (hn : hs.length = n) (hM : M = n + 6) (hMx : M * 96 ≤ 140737488355328) (hm : m.map (·.1) = hs)
    (hb : Below (w1.alloc (.cells (madeCells z10 (M * 10)) 55)).heap.size (w1.alloc (.cells (madeCells z10 (M * 10)) 55)) w2)
    (ho : w2.ownsRow (w1.alloc (.cells (madeCells z10 (M * 10)) 55)).heap.size 55 10 (.slice a n c) n (evsC m))
    (hr : ERets w2 (w1.alloc (.cells (madeCells z10 (M * 10)) 55)).heap.size (Value.ownBlock (.slice a n c)) m) :
    ∃ w3, (Builtin.copy_ #[ 22, 22 ] ty #[.slice (some ⟨w1.heap.size, 0, none⟩) M M, .slice a n c]).run Try.prog w2 = .ok (goInt n) w3 ∧ Below w1.heap.size w1 w3 ∧ w1.heap.size < w3.heap.size ∧
      ∃ pb pc pg po, EvsAt w3 (some ⟨w1.heap.size, 0, none⟩) w1.heap.size 0 (hs ++ List.replicate 6 ev0) pb pc pg po ∧ ∀ i, i < (hs ++ List.replicate 6 ev0).length → (evAt (hs ++ List.replicate 6 ev0) i).rt.pairs.length ≠ 0 → w1.heap.size ≤ pg i := by
  obtain ⟨i0, hi0, hz0, hz1, hz2⟩ := info_parts ev_info
  have hml : m.length = n := by rw [← hn, ← hm, List.length_map]
  have hsz : (w1.alloc (.cells (madeCells z10 (M * 10)) 55)).heap.size = w1.heap.size + 1 := by simp
  have h12 : Below w1.heap.size w1 w2 := (below_alloc w1 _).trans (hb.mono (by omega))
  have hg : w2.heap[w1.heap.size]? = some (.cells (madeCells z10 (M * 10)) 55 (0, 0)) := (hb.block _ (by omega)).trans (heap_alloc_at _ _ _ rfl)
  have hone : ∀ v ∈ evsC m, v.oneCell' = true := evsC_one m (fun x hx => by obtain ⟨a, g, o, cap, e, _⟩ := hr x hx; exact ⟨a, _, cap, e⟩)
  obtain ⟨w3, r1, r2, r3, r4, r5⟩ := copy_head2 (P := Try.prog) (w := w2) 22 22 ty 55 10 evs_under (by rw [hi0]; simp [hz1]) a M M n c w1.heap.size (by omega) (madeCells z10 (M * 10)).toList 55 (by rw [Array.toArray_toList]; exact hg) (evsC m) (by rw [evsC_length, hml])
    (fun q => by
      obtain ⟨g, cap, e, g1, g2, g3, g4, g5, g6⟩ := owns_some ho (by omega)
      injection e with e1 _ _
      exact ⟨_, e1, fun j v hj => by
        have hjl := (List.getElem?_eq_some_iff.1 hj).1
        rw [evsC_length, hml] at hjl
        have := g5 j hjl
        rw [hj] at this
        rw [addr_add']
        simpa using this⟩)
    (by rw [evsC_length, made_events, evsC_length, List.length_replicate]; omega) hone w1.heap.size w1 h12 (Nat.le_refl _)
  have hcells : evsC m ++ (madeCells z10 (M * 10)).toList.drop (evsC m).length = evsC (m ++ List.replicate 6 ez) := by
    rw [made_events, evsC_length, hml, hM, evsC_drop, evsC_append]
  rw [hcells] at r2
  have hlt : w1.heap.size < w3.heap.size := (Array.getElem?_eq_some_iff.1 r2).1
  have hlen : (hs ++ List.replicate 6 ev0).length = M := by simp [hn, hM]
  have hm2 : (m ++ List.replicate 6 ez).map (·.1) = hs ++ List.replicate 6 ev0 := by rw [List.map_append, hm, List.map_replicate]; rfl
  have hmm : (m ++ List.replicate 6 ez).length = M := by simp [hml, hM]
  obtain ⟨pb, pc, pg, po, hE, hB⟩ := evs_of (w := w3) (B2 := w1.heap.size) (base := some ⟨w1.heap.size, 0, none⟩) (g := w1.heap.size) (row := none) hm2 (fun _ => rfl) (fun _ => hlt) (by rw [hlen]; unfold maxLen; omega)
    (fun k x hx i hi => by
      have hk := (List.getElem?_eq_some_iff.1 hx).1
      have : w3.cell? ⟨w1.heap.size, k * 10 + i, none⟩ = (evsC (m ++ List.replicate 6 ez))[k * 10 + i]? := by
        simp only [World.cell?, r2]
        simp
      rw [this]
      exact evsC_get _ k i x hx hi)
    (fun x hx => by
      rcases List.mem_append.1 hx with q | q
      · obtain ⟨a', g, o, cap, e1, h1, h2, h3⟩ := hr x q
        have hgs : x.1.rt.pairs.length ≠ 0 → w1.heap.size < g := fun z => by have := (h1 z).1; omega
        refine ⟨a', g, o, cap, e1, fun z => ⟨by have := hgs z; omega, fun q => by cases q⟩, ?_, h3⟩
        exact h2.keptB (by omega) (fun z => r5 _ (by have := hgs z; omega))
      · rw [List.eq_of_mem_replicate q]
        exact ⟨none, 0, 0, 0, rfl, fun z => absurd rfl z, pairs_none _, fun _ => ⟨rfl, rfl⟩, by simp [ez, ev0, RetD.zero]⟩)
    (fun j hj => by simp [World.frozen?, r2])
  exact ⟨w3, r1, r4, hlt, pb, pc, pg, po, hE, hB⟩
end Go.Proofs.Ytgbfippcnmpgfaa

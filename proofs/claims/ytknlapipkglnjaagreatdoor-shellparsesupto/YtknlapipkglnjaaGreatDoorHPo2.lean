
/- Layer 28: the program's opOf, at a kind's word. -/

import Derived.Test.YtknlapipkglnjaaGreatDoorHPo

namespace Go.Proofs.YtknlapipkglnjaaGreatDoor

open Go.RowKit

attribute [local go_sem ↓] Go.wp_at_zero Go.wp_at_succ

theorem cells4 {z : World} {b : Nat} {x0 x1 x2 x3 : Value} {t : TypeId} (h : z.heap[b]? = some (.cells #[x0, x1, x2, x3] t)) : (z.cell? ⟨b, 0, none⟩ = some x0 ∧ z.frozen? ⟨b, 0, none⟩ = false) ∧ (z.cell? ⟨b, 1, none⟩ = some x1 ∧ z.frozen? ⟨b, 1, none⟩ = false) ∧ (z.cell? ⟨b, 2, none⟩ = some x2 ∧ z.frozen? ⟨b, 2, none⟩ = false) ∧ (z.cell? ⟨b, 3, none⟩ = some x3 ∧ z.frozen? ⟨b, 3, none⟩ = false) := by
  simp [World.cell?, World.frozen?, h]

set_option maxRecDepth 100000 in
set_option maxHeartbeats 8000000 in
theorem opOf_bad (k : Nat) (h1 : 1 ≤ k) (h9 : k ≤ 9) (ws : List (List UInt8)) (cap g : Nat) (w : World) (hcap : ws.length + 1 ≤ cap) (hc : ∀ j, j < ws.length + 1 → w.cell? ⟨g, j, none⟩ = some (.string ⟨((wordL k :: ws).getD j []).toArray⟩)) (hw : ∀ j, (ws.getD j []).length ≤ 4294967296) (hn : ws.length ≤ 4294967295) (hl : HEB w.heap.size w) (hV : ∀ V : List Int, ¬ (ws.length = (fldL k).length ∧ V.length = (fldL k).length ∧ ∀ m, m < V.length → numOf (ws.getD m []) = some (V.getD m 0))) :
    Calls Tryz.prog 71 #[.slice (some ⟨g, 0, none⟩) (ws.length + 1) cap] w fun e w' => OpOut (wordL k :: ws) e ∧ Below w.heap.size w w' := by
  have KO : Hid (Calls Tryz.prog 90 #[.string ⟨(wordL k).toArray⟩] (w.alloc (.cells #[.int .i64 0, .int .i64 0, .int .i64 0, .int .i64 0] 39)) fun e w' => e = .returned (.int .i64 k) ∧ w' = (w.alloc (.cells #[.int .i64 0, .int .i64 0, .int .i64 0, .int .i64 0] 39))) := (kindOf_any (wordL k) _ (hl.1 _ (below_alloc _ _))).mono (by
    rintro e w' ⟨m, rfl, ⟨q1, q2, q3⟩ | ⟨rfl, q⟩, rfl⟩
    · rw [word_inj q1 q2 h1 h9 q3.symm]; exact ⟨rfl, rfl⟩
    · exact absurd rfl (q k h1 h9))
  have hgl : g < w.heap.size := World.block_lt_of_cell? w _ (hc 0 (by omega))
  have hc0 : (w.alloc (.cells #[.int .i64 0, .int .i64 0, .int .i64 0, .int .i64 0] 39)).cell? ⟨g, 0, none⟩ = some (.string ⟨(wordL k).toArray⟩) := ((below_alloc w _).cell (p := ⟨g, 0, none⟩) hgl).trans (hc 0 (by omega))
  obtain ⟨W1, hW1⟩ : ∃ W1, W1 = ((w.alloc (.cells #[.int .i64 0, .int .i64 0, .int .i64 0, .int .i64 0] 39)).alloc (.cells #[.int .i64 (k : Int), .int .i64 0, .int .i64 0, .int .i64 0] 39)).drew := ⟨_, rfl⟩
  have B1 : Hid (Below w.heap.size w W1) := by rw [hW1]; exact ((below_alloc w _).alloc (by simp) _).drew
  have HX : Hid (W1.heap[w.heap.size + 1]? = some (.cells #[.int .i64 (k : Int), .int .i64 0, .int .i64 0, .int .i64 0] 39)) := by rw [hW1]; exact heap_alloc_at _ _ _ (by simp)
  have NB : Hid (Calls Tryz.prog 48 #[.pointer (some ⟨w.heap.size + 1, 0, none⟩)] W1 fun e w' => ∃ wb g2, e = .returned (.slice wb (fldL k).length (fldL k).length) ∧ Below W1.heap.size W1 w' ∧ Calls Tryz.prog 69 #[.slice (if cap = 1 then some ⟨g, 0, none⟩ else some ⟨g, 1, none⟩) ws.length (cap - 1), .slice wb (fldL k).length (fldL k).length] w' fun e w2 => e = .returned (.bool false) ∧ Below (w.heap.size + 1) w' w2) := (numbersOf_any k (w.heap.size + 1) ⟨k, 0, 0, 0⟩ h1 h9 rfl _ HX.out).mono (by
    rintro e w' ⟨wb, g2, rfl, hb2, hwb, hcl⟩
    have hlt : w.heap.size + 1 < W1.heap.size := (Array.getElem?_eq_some_iff.1 HX.out).1
    have hbw : Below w.heap.size w w' := B1.out.trans (hb2.mono (by omega))
    have hbox := (hb2.block _ hlt).trans HX.out
    have hf : boxC (fillOp k []) = #[.int .i64 (k : Int), .int .i64 0, .int .i64 0, .int .i64 0] := by simp [boxC, fillOp]
    obtain ⟨g3, hne, hwb3, hcl3⟩ : ∃ g3, g3 ≠ w.heap.size + 1 ∧ ((fldL k).length ≠ 0 → wb = some ⟨g3, 0, none⟩) ∧ ∀ (j f : Nat), (fldL k)[j]? = some f → w'.cell? ⟨g3, j, none⟩ = some (.pointer (some ⟨w.heap.size + 1, f, none⟩)) := by
      by_cases hz : fldL k = []
      · exact ⟨w.heap.size + 2, by omega, fun q => absurd (by rw [hz]; rfl) q, fun j f q => by rw [hz] at q; cases q⟩
      · refine ⟨g2, fun q => ?_, hwb, hcl⟩
        obtain ⟨f, t, hft⟩ := List.exists_cons_of_ne_nil hz
        have q1 := hcl 0 f (by rw [hft]; rfl)
        rw [q] at q1
        simp only [World.cell?, hbox] at q1
        simp at q1
    refine ⟨wb, g3, rfl, hb2, (readNumbers_any ws k (w.heap.size + 1) g3 g 1 (cap - 1) (w.heap.size + 1) _ wb w' (fun q => if_neg (by have : 0 < ws.length := List.length_pos_iff.2 q; omega)) hwb3 (fun j hj => ?_) (by omega) hw (by omega) ⟨Below.refl _ _, Nat.le_refl _, hne, hcl3, by rw [hf]; exact hbox⟩ ⟨fun z hz => hl.1 z (hbw.trans (hz.mono (by omega))), fun z hz => hl.2 z (hbw.trans (hz.mono (by omega)))⟩).mono ?_⟩
    · have := hc (j + 1) (by omega)
      rw [show 1 + j = j + 1 by omega]
      exact (hbw.cell (p := ⟨g, j + 1, none⟩) hgl).trans this
    · rintro e w2 (⟨U, q1, q2, q3, rfl, q5⟩ | ⟨q1, rfl, q3⟩)
      · exact absurd ⟨q1, q2, q3⟩ (hV U)
      · exact ⟨rfl, q3⟩)
  have n0 : (ws.length : Int) ≤ 4294967295 := by omega
  have n1 : (0 : Int) ≤ (ws.length : Int) := Int.natCast_nonneg _
  have n2 : 1 ≤ (ws.length : Int) + 1 := by omega
  have n3 : (ws.length : Int) + 1 ≤ (cap : Int) := by omega
  have z1 : ((ws.length : Int) + 1 == 0) = false := beq_eq_false_iff_ne.2 (by omega)
  have z2 : ((k : Int) == 0) = false := beq_eq_false_iff_ne.2 (by omega)
  have BR : Hid (W1.heap[w.heap.size]? = some (.cells #[.int .i64 0, .int .i64 0, .int .i64 0, .int .i64 0] 39)) := by rw [hW1]; show (((w.alloc (.cells #[.int .i64 0, .int .i64 0, .int .i64 0, .int .i64 0] 39)).alloc (.cells #[.int .i64 (k : Int), .int .i64 0, .int .i64 0, .int .i64 0] 39)).drew).heap[w.heap.size]? = _; exact (heap_alloc_old _ _ (by simp)).trans (heap_alloc_at _ _ _ rfl)
  have HN : Hid (∀ m U, ¬ OpIs (wordL k :: ws) m U) := fun m U q => by
    have e : m = k := word_inj q.lo q.hi h1 h9 (Option.some.inj q.hd).symm
    subst e
    exact hV U ⟨by have := q.len; simpa using this, q.vs, fun j hj => q.nums j hj⟩
  have HW1 : Hid (((w.alloc (.cells #[.int .i64 0, .int .i64 0, .int .i64 0, .int .i64 0] 39)).alloc (.cells #[.int .i64 (k : Int), .int .i64 0, .int .i64 0, .int .i64 0] 39)).drew = W1) := hW1.symm
  clear hl hn hc hw h1 h9 hV hgl hW1 hcap
  by_cases hc1 : cap = 1
  · subst hc1
    rw [if_pos rfl, show 1 - 1 = 0 from rfl] at NB
    go_enter Tryz.func71, Tryz.ntmps71
    go_wp2_with (first | (go_at_call 90; refine KO.out.mono ?_; rintro e w1 ⟨rfl, rfl⟩))
    go_region_with (first | (go_at_call 48; rw [HW1.out]; refine Calls.mono NB.out ?_; rintro e w2 ⟨wb, g2, rfl, hb2, hrn⟩; have B2 : Hid (Below W1.heap.size W1 w2) := hb2; have RN : Hid _ := hrn; clear hb2 hrn) | (go_at_call 69; refine Calls.mono RN.out ?_; rintro e w3 ⟨rfl, h3⟩; have T3 : Hid _ := h3; clear h3))
    have hR3 : w3.heap[w.heap.size]? = some (.cells #[.int .i64 0, .int .i64 0, .int .i64 0, .int .i64 0] 39) := (T3.out.block w.heap.size (by omega)).trans ((B2.out.block w.heap.size (by have := (Array.getElem?_eq_some_iff.1 HX.out).1; omega)).trans BR.out)
    obtain ⟨r0, r1, r2, r3⟩ := cells4 hR3
    have hlt1 : w.heap.size + 1 < W1.heap.size := (Array.getElem?_eq_some_iff.1 HX.out).1
    have hlt2 := B2.out.size
    have B3 : Hid (Below w.heap.size w w3) := (B1.out.trans (B2.out.mono (by omega))).trans (T3.out.mono (by omega))
    clear hR3 hlt1 hlt2
    go_wp2_with fail
    refine bodyPost_ret (v := .tuple #[opV ⟨0, 0, 0, 0⟩, .bool false]) ?_ rfl ⟨Or.inr ⟨HN.out, rfl⟩, (((B3.out.setCell (p := ⟨w.heap.size, 0, none⟩) (Nat.le_refl _) _).setCell (p := ⟨w.heap.size, 1, none⟩) (Nat.le_refl _) _).setCell (p := ⟨w.heap.size, 2, none⟩) (Nat.le_refl _) _).setCell (p := ⟨w.heap.size, 3, none⟩) (Nat.le_refl _) _⟩
    rw [results_cell_tmp rfl]
    go_simp
    rfl
  · rw [if_neg hc1] at NB
    go_enter Tryz.func71, Tryz.ntmps71
    go_wp2_with (first | (go_at_call 90; refine KO.out.mono ?_; rintro e w1 ⟨rfl, rfl⟩))
    go_region_with (first | (go_at_call 48; rw [HW1.out]; refine Calls.mono NB.out ?_; rintro e w2 ⟨wb, g2, rfl, hb2, hrn⟩; have B2 : Hid (Below W1.heap.size W1 w2) := hb2; have RN : Hid _ := hrn; clear hb2 hrn) | (go_at_call 69; refine Calls.mono RN.out ?_; rintro e w3 ⟨rfl, h3⟩; have T3 : Hid _ := h3; clear h3))
    have hR3 : w3.heap[w.heap.size]? = some (.cells #[.int .i64 0, .int .i64 0, .int .i64 0, .int .i64 0] 39) := (T3.out.block w.heap.size (by omega)).trans ((B2.out.block w.heap.size (by have := (Array.getElem?_eq_some_iff.1 HX.out).1; omega)).trans BR.out)
    obtain ⟨r0, r1, r2, r3⟩ := cells4 hR3
    have hlt1 : w.heap.size + 1 < W1.heap.size := (Array.getElem?_eq_some_iff.1 HX.out).1
    have hlt2 := B2.out.size
    have B3 : Hid (Below w.heap.size w w3) := (B1.out.trans (B2.out.mono (by omega))).trans (T3.out.mono (by omega))
    clear hR3 hlt1 hlt2
    go_wp2_with fail
    refine bodyPost_ret (v := .tuple #[opV ⟨0, 0, 0, 0⟩, .bool false]) ?_ rfl ⟨Or.inr ⟨HN.out, rfl⟩, (((B3.out.setCell (p := ⟨w.heap.size, 0, none⟩) (Nat.le_refl _) _).setCell (p := ⟨w.heap.size, 1, none⟩) (Nat.le_refl _) _).setCell (p := ⟨w.heap.size, 2, none⟩) (Nat.le_refl _) _).setCell (p := ⟨w.heap.size, 3, none⟩) (Nat.le_refl _) _⟩
    rw [results_cell_tmp rfl]
    go_simp
    rfl
set_option maxRecDepth 100000 in
set_option maxHeartbeats 8000000 in
theorem opOf_ok (k : Nat) (h1 : 1 ≤ k) (h9 : k ≤ 9) (ws : List (List UInt8)) (cap g : Nat) (w : World) (hcap : ws.length + 1 ≤ cap) (hc : ∀ j, j < ws.length + 1 → w.cell? ⟨g, j, none⟩ = some (.string ⟨((wordL k :: ws).getD j []).toArray⟩)) (hw : ∀ j, (ws.getD j []).length ≤ 4294967296) (hn : ws.length ≤ 4294967295) (hl : HEB w.heap.size w) (V : List Int) (hV : ws.length = (fldL k).length ∧ V.length = (fldL k).length ∧ ∀ m, m < V.length → numOf (ws.getD m []) = some (V.getD m 0)) :
    Calls Tryz.prog 71 #[.slice (some ⟨g, 0, none⟩) (ws.length + 1) cap] w fun e w' => OpOut (wordL k :: ws) e ∧ Below w.heap.size w w' := by
  have KO : Hid (Calls Tryz.prog 90 #[.string ⟨(wordL k).toArray⟩] (w.alloc (.cells #[.int .i64 0, .int .i64 0, .int .i64 0, .int .i64 0] 39)) fun e w' => e = .returned (.int .i64 k) ∧ w' = (w.alloc (.cells #[.int .i64 0, .int .i64 0, .int .i64 0, .int .i64 0] 39))) := (kindOf_any (wordL k) _ (hl.1 _ (below_alloc _ _))).mono (by
    rintro e w' ⟨m, rfl, ⟨q1, q2, q3⟩ | ⟨rfl, q⟩, rfl⟩
    · rw [word_inj q1 q2 h1 h9 q3.symm]; exact ⟨rfl, rfl⟩
    · exact absurd rfl (q k h1 h9))
  have hgl : g < w.heap.size := World.block_lt_of_cell? w _ (hc 0 (by omega))
  have hc0 : (w.alloc (.cells #[.int .i64 0, .int .i64 0, .int .i64 0, .int .i64 0] 39)).cell? ⟨g, 0, none⟩ = some (.string ⟨(wordL k).toArray⟩) := ((below_alloc w _).cell (p := ⟨g, 0, none⟩) hgl).trans (hc 0 (by omega))
  obtain ⟨W1, hW1⟩ : ∃ W1, W1 = ((w.alloc (.cells #[.int .i64 0, .int .i64 0, .int .i64 0, .int .i64 0] 39)).alloc (.cells #[.int .i64 (k : Int), .int .i64 0, .int .i64 0, .int .i64 0] 39)).drew := ⟨_, rfl⟩
  have B1 : Hid (Below w.heap.size w W1) := by rw [hW1]; exact ((below_alloc w _).alloc (by simp) _).drew
  have HX : Hid (W1.heap[w.heap.size + 1]? = some (.cells #[.int .i64 (k : Int), .int .i64 0, .int .i64 0, .int .i64 0] 39)) := by rw [hW1]; exact heap_alloc_at _ _ _ (by simp)
  have NB : Hid (Calls Tryz.prog 48 #[.pointer (some ⟨w.heap.size + 1, 0, none⟩)] W1 fun e w' => ∃ wb g2, e = .returned (.slice wb (fldL k).length (fldL k).length) ∧ Below W1.heap.size W1 w' ∧ Calls Tryz.prog 69 #[.slice (if cap = 1 then some ⟨g, 0, none⟩ else some ⟨g, 1, none⟩) ws.length (cap - 1), .slice wb (fldL k).length (fldL k).length] w' fun e w2 => e = .returned (.bool true) ∧ Bx (w.heap.size + 1) w' w2 k (w.heap.size + 1) g2 V) := (numbersOf_any k (w.heap.size + 1) ⟨k, 0, 0, 0⟩ h1 h9 rfl _ HX.out).mono (by
    rintro e w' ⟨wb, g2, rfl, hb2, hwb, hcl⟩
    have hlt : w.heap.size + 1 < W1.heap.size := (Array.getElem?_eq_some_iff.1 HX.out).1
    have hbw : Below w.heap.size w w' := B1.out.trans (hb2.mono (by omega))
    have hbox := (hb2.block _ hlt).trans HX.out
    have hf : boxC (fillOp k []) = #[.int .i64 (k : Int), .int .i64 0, .int .i64 0, .int .i64 0] := by simp [boxC, fillOp]
    obtain ⟨g3, hne, hwb3, hcl3⟩ : ∃ g3, g3 ≠ w.heap.size + 1 ∧ ((fldL k).length ≠ 0 → wb = some ⟨g3, 0, none⟩) ∧ ∀ (j f : Nat), (fldL k)[j]? = some f → w'.cell? ⟨g3, j, none⟩ = some (.pointer (some ⟨w.heap.size + 1, f, none⟩)) := by
      by_cases hz : fldL k = []
      · exact ⟨w.heap.size + 2, by omega, fun q => absurd (by rw [hz]; rfl) q, fun j f q => by rw [hz] at q; cases q⟩
      · refine ⟨g2, fun q => ?_, hwb, hcl⟩
        obtain ⟨f, t, hft⟩ := List.exists_cons_of_ne_nil hz
        have q1 := hcl 0 f (by rw [hft]; rfl)
        rw [q] at q1
        simp only [World.cell?, hbox] at q1
        simp at q1
    refine ⟨wb, g3, rfl, hb2, (readNumbers_any ws k (w.heap.size + 1) g3 g 1 (cap - 1) (w.heap.size + 1) _ wb w' (fun q => if_neg (by have : 0 < ws.length := List.length_pos_iff.2 q; omega)) hwb3 (fun j hj => ?_) (by omega) hw (by omega) ⟨Below.refl _ _, Nat.le_refl _, hne, hcl3, by rw [hf]; exact hbox⟩ ⟨fun z hz => hl.1 z (hbw.trans (hz.mono (by omega))), fun z hz => hl.2 z (hbw.trans (hz.mono (by omega)))⟩).mono ?_⟩
    · have := hc (j + 1) (by omega)
      rw [show 1 + j = j + 1 by omega]
      exact (hbw.cell (p := ⟨g, j + 1, none⟩) hgl).trans this
    · rintro e w2 (⟨U, q1, q2, q3, rfl, q5⟩ | ⟨q1, rfl, q3⟩)
      · have : U = V := List.ext_getElem (by rw [q2, hV.2.1]) fun i a1 a2 => by
          have e1 := q3 i a1
          rw [hV.2.2 i a2] at e1
          have e1 := Option.some.inj e1
          rw [List.getD_eq_getElem?_getD, List.getD_eq_getElem?_getD, List.getElem?_eq_getElem a1, List.getElem?_eq_getElem a2] at e1
          exact e1.symm
        subst this
        exact ⟨rfl, q5⟩
      · exact absurd hV (q1 V))
  have n0 : (ws.length : Int) ≤ 4294967295 := by omega
  have n1 : (0 : Int) ≤ (ws.length : Int) := Int.natCast_nonneg _
  have n2 : 1 ≤ (ws.length : Int) + 1 := by omega
  have n3 : (ws.length : Int) + 1 ≤ (cap : Int) := by omega
  have z1 : ((ws.length : Int) + 1 == 0) = false := beq_eq_false_iff_ne.2 (by omega)
  have z2 : ((k : Int) == 0) = false := beq_eq_false_iff_ne.2 (by omega)
  have BR : Hid (W1.heap[w.heap.size]? = some (.cells #[.int .i64 0, .int .i64 0, .int .i64 0, .int .i64 0] 39)) := by rw [hW1]; show (((w.alloc (.cells #[.int .i64 0, .int .i64 0, .int .i64 0, .int .i64 0] 39)).alloc (.cells #[.int .i64 (k : Int), .int .i64 0, .int .i64 0, .int .i64 0] 39)).drew).heap[w.heap.size]? = _; exact (heap_alloc_old _ _ (by simp)).trans (heap_alloc_at _ _ _ rfl)
  have HI : Hid (OpIs (wordL k :: ws) k V) := ⟨h1, h9, rfl, by simp [hV.1], hV.2.1, fun j hj => hV.2.2 j hj⟩
  have HW1 : Hid (((w.alloc (.cells #[.int .i64 0, .int .i64 0, .int .i64 0, .int .i64 0] 39)).alloc (.cells #[.int .i64 (k : Int), .int .i64 0, .int .i64 0, .int .i64 0] 39)).drew = W1) := hW1.symm
  clear hl hn hc hw h1 h9 hV hgl hW1 hcap
  by_cases hc1 : cap = 1
  · subst hc1
    rw [if_pos rfl, show 1 - 1 = 0 from rfl] at NB
    go_enter Tryz.func71, Tryz.ntmps71
    go_wp2_with (first | (go_at_call 90; refine KO.out.mono ?_; rintro e w1 ⟨rfl, rfl⟩))
    go_region_with (first | (go_at_call 48; rw [HW1.out]; refine Calls.mono NB.out ?_; rintro e w2 ⟨wb, g2, rfl, hb2, hrn⟩; have B2 : Hid (Below W1.heap.size W1 w2) := hb2; have RN : Hid _ := hrn; clear hb2 hrn) | (go_at_call 69; refine Calls.mono RN.out ?_; rintro e w3 ⟨rfl, h3⟩; have T3 : Hid _ := h3; clear h3))
    have hR3 : w3.heap[w.heap.size]? = some (.cells #[.int .i64 0, .int .i64 0, .int .i64 0, .int .i64 0] 39) := (T3.out.below.block w.heap.size (by omega)).trans ((B2.out.block w.heap.size (by have := (Array.getElem?_eq_some_iff.1 HX.out).1; omega)).trans BR.out)
    obtain ⟨r0, r1, r2, r3⟩ := cells4 hR3
    have hlt1 : w.heap.size + 1 < W1.heap.size := (Array.getElem?_eq_some_iff.1 HX.out).1
    have hlt2 := B2.out.size
    have B3 : Hid (Below w.heap.size w w3) := (B1.out.trans (B2.out.mono (by omega))).trans (T3.out.below.mono (by omega))
    have hx3 := T3.out.box
    unfold boxC at hx3
    obtain ⟨⟨s0, -⟩, ⟨s1, -⟩, ⟨s2, -⟩, ⟨s3, -⟩⟩ := cells4 hx3
    clear hx3 hR3 hlt1 hlt2
    have ek : (fillOp k V).kind = (k : Int) := rfl
    rw [ek] at s0
    obtain ⟨T, hT⟩ : ∃ T, T = opV (fillOp k V) := ⟨_, rfl⟩
    have HT : Hid (T = opV (fillOp k V)) := hT
    have HO : Hid (T = .agg #[.int .i64 (k : Int), .int .i64 (fillOp k V).key, .int .i64 (fillOp k V).val, .int .i64 (fillOp k V).hi]) := hT
    clear hT ek
    generalize (fillOp k V).key = f1 at *
    generalize (fillOp k V).val = f2 at *
    generalize (fillOp k V).hi = f3 at *
    go_wp2_with fail
    refine bodyPost_ret (v := .tuple #[T, .bool true]) ?_ rfl ⟨Or.inl ⟨k, V, HI.out, by rw [HT.out]⟩, (((B3.out.setCell (p := ⟨w.heap.size, 0, none⟩) (Nat.le_refl _) _).setCell (p := ⟨w.heap.size, 1, none⟩) (Nat.le_refl _) _).setCell (p := ⟨w.heap.size, 2, none⟩) (Nat.le_refl _) _).setCell (p := ⟨w.heap.size, 3, none⟩) (Nat.le_refl _) _⟩
    rw [results_cell_tmp rfl, HO.out]
    go_simp
  · rw [if_neg hc1] at NB
    go_enter Tryz.func71, Tryz.ntmps71
    go_wp2_with (first | (go_at_call 90; refine KO.out.mono ?_; rintro e w1 ⟨rfl, rfl⟩))
    go_region_with (first | (go_at_call 48; rw [HW1.out]; refine Calls.mono NB.out ?_; rintro e w2 ⟨wb, g2, rfl, hb2, hrn⟩; have B2 : Hid (Below W1.heap.size W1 w2) := hb2; have RN : Hid _ := hrn; clear hb2 hrn) | (go_at_call 69; refine Calls.mono RN.out ?_; rintro e w3 ⟨rfl, h3⟩; have T3 : Hid _ := h3; clear h3))
    have hR3 : w3.heap[w.heap.size]? = some (.cells #[.int .i64 0, .int .i64 0, .int .i64 0, .int .i64 0] 39) := (T3.out.below.block w.heap.size (by omega)).trans ((B2.out.block w.heap.size (by have := (Array.getElem?_eq_some_iff.1 HX.out).1; omega)).trans BR.out)
    obtain ⟨r0, r1, r2, r3⟩ := cells4 hR3
    have hlt1 : w.heap.size + 1 < W1.heap.size := (Array.getElem?_eq_some_iff.1 HX.out).1
    have hlt2 := B2.out.size
    have B3 : Hid (Below w.heap.size w w3) := (B1.out.trans (B2.out.mono (by omega))).trans (T3.out.below.mono (by omega))
    have hx3 := T3.out.box
    unfold boxC at hx3
    obtain ⟨⟨s0, -⟩, ⟨s1, -⟩, ⟨s2, -⟩, ⟨s3, -⟩⟩ := cells4 hx3
    clear hx3 hR3 hlt1 hlt2
    have ek : (fillOp k V).kind = (k : Int) := rfl
    rw [ek] at s0
    obtain ⟨T, hT⟩ : ∃ T, T = opV (fillOp k V) := ⟨_, rfl⟩
    have HT : Hid (T = opV (fillOp k V)) := hT
    have HO : Hid (T = .agg #[.int .i64 (k : Int), .int .i64 (fillOp k V).key, .int .i64 (fillOp k V).val, .int .i64 (fillOp k V).hi]) := hT
    clear hT ek
    generalize (fillOp k V).key = f1 at *
    generalize (fillOp k V).val = f2 at *
    generalize (fillOp k V).hi = f3 at *
    go_wp2_with fail
    refine bodyPost_ret (v := .tuple #[T, .bool true]) ?_ rfl ⟨Or.inl ⟨k, V, HI.out, by rw [HT.out]⟩, (((B3.out.setCell (p := ⟨w.heap.size, 0, none⟩) (Nat.le_refl _) _).setCell (p := ⟨w.heap.size, 1, none⟩) (Nat.le_refl _) _).setCell (p := ⟨w.heap.size, 2, none⟩) (Nat.le_refl _) _).setCell (p := ⟨w.heap.size, 3, none⟩) (Nat.le_refl _) _⟩
    rw [results_cell_tmp rfl, HO.out]
    go_simp
end Go.Proofs.YtknlapipkglnjaaGreatDoor

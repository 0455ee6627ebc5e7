
/- Layer 17: what every law asks first. -/

import Derived.Test.YtiencggnijfjoaaWFix

namespace Go.Proofs.Ytiencggnijfjoaa

open Go.RowKit

attribute [local go_sem ↓] Go.wp_at_zero Go.wp_at_succ

theorem ws_lit (w : World) (L : List Int) (T : TypeId) (hn : L.length ≤ maxLen) : WsAt (w.alloc (.cells (isC L).toArray T)) (some ⟨w.heap.size, 0, none⟩) w.heap.size 0 L := by
  refine ⟨fun _ => rfl, fun _ => by simp, fun i hi => ?_, hn⟩
  rw [Nat.zero_add, ← isC_get L i hi]
  have h := heap_alloc_at w (.cells (isC L).toArray T) w.heap.size rfl
  unfold World.cell?
  simp only [h]
  simp
set_option maxRecDepth 100000 in
set_option maxHeartbeats 1000000 in
theorem fixed_any (w : World) : Calls Try.prog 8 #[] w fun e w' => e = .returned (.bool true) ∧ Below w.heap.size w w' := by
  have K1 : Hid (Keyed (aT 1 1 1) (some (kB 1 1 1))) := a_keyed one_wt one_wt one_wt
  have E1 : Hid (keyE (aT 1 1 1) = 0) := (a_keyed one_wt one_wt one_wt).1
  go_enter Try.func8, Try.ntmps8
  go_wp2_with fail
  refine (a_any _).mono ?_
  rintro e w1 ⟨rfl, hn1, hb1⟩
  have N1 : Hid (NodesAt _ _ _ _ _) := hn1
  have B1 : Hid (Below w.heap.size w w1) := hb1
  clear hn1 hb1
  go_wp2_with fail
  refine (Sums_any _ w.heap.size 0 7 (aT 1 1 1) (some (kB 1 1 1)) _ N1.out K1.out).mono ?_
  rintro e w2 ⟨v2, rfl, ho2, hb2⟩
  rw [E1.out]
  rw [a_sums] at ho2
  obtain ⟨bs2, cp2, g2, rfl, -, -, hs2⟩ := ws_of_owns ho2
  have S2 : Hid (WsAt _ _ _ _ _) := hs2
  have B2 : Hid (Below w.heap.size w w2) := B1.out.trans (hb2.mono B1.out.size)
  clear ho2 hs2 hb2 N1 B1
  go_wp2_with fail
  refine (a_any _).mono ?_
  rintro e w3 ⟨rfl, hn3, hb3⟩
  have N3 : Hid (NodesAt _ _ _ _ _) := hn3
  have S3 : Hid (WsAt _ _ _ _ _) := S2.out.below hb3
  have B3 : Hid (Below w.heap.size w w3) := B2.out.trans (hb3.mono B2.out.size)
  have hz3 := hb3.size
  clear hn3 hb3 S2 B2
  go_wp2_with fail
  have L4 : Hid (WsAt _ _ _ _ _) := ws_lit w3 [0, 0, 3] 3 (by decide)
  have N4 : Hid (NodesAt _ _ _ _ _) := N3.out.below (below_alloc w3 (.cells (isC [0, 0, 3]).toArray 3))
  refine (Heavy_any _ w2.heap.size 0 7 (aT 1 1 1) _ w3.heap.size 0 3 [0, 0, 3] _ N4.out L4.out).mono ?_
  rintro e w4 ⟨v4, rfl, ho4, hb4⟩
  rw [a_heavyE]
  rw [a_heavyA] at ho4
  obtain ⟨bs4, cp4, g4, rfl, -, -, hn4⟩ := nodes_of_owns ho4
  have H4 : Hid (NodesAt _ _ _ _ _) := hn4
  have b4 : Below w3.heap.size w3 w4 := (below_alloc _ _).trans (hb4.mono (by simp))
  have S4 : Hid (WsAt _ _ _ _ _) := S3.out.below b4
  have B4 : Hid (Below w.heap.size w w4) := B3.out.trans (b4.mono B3.out.size)
  clear ho4 hn4 hb4 b4 S3 B3 N3 N4 L4
  have K2 : Hid (Keyed (aT 0 0 3) (some (kB 0 0 3))) := a_keyed zero_wt zero_wt three_wt
  have E2 : Hid (keyE (aT 0 0 3) = 0) := (a_keyed zero_wt zero_wt three_wt).1
  have F2 : Hid (firstA (aT 0 0 3) 9 = 4) := a_first
  generalize aT 0 0 3 = H at *
  go_wp2_with fail
  refine (Violations_any bs4 g4 0 cp4 H _ _ H4.out K2.out).mono ?_
  rintro e w5 ⟨rfl, hb5⟩
  rw [E2.out, a_vio]
  have H5 : Hid (NodesAt _ _ _ _ _) := H4.out.below hb5
  have S5 : Hid (WsAt _ _ _ _ _) := S4.out.below hb5
  have B5 : Hid (Below w.heap.size w w5) := B4.out.trans (hb5.mono B4.out.size)
  clear hb5 H4 S4 B4
  go_wp2_with fail
  refine (First_any bs4 g4 0 cp4 H 9 _ H5.out).mono ?_
  rintro e w6 ⟨rfl, hb6⟩
  rw [E2.out, F2.out]
  have S6 : Hid (WsAt _ _ _ _ _) := S5.out.below hb6
  have B6 : Hid (Below w.heap.size w w6) := B5.out.trans (hb6.mono B5.out.size)
  clear hb6 H5 S5 B5
  go_wp2_with fail
  refine (bound_seven _).mono ?_
  rintro e w7 ⟨rfl, hb7⟩
  have S7 : Hid (WsAt _ _ _ _ _) := S6.out.below hb7
  have B7 : Hid (Below w.heap.size w w7) := B6.out.trans (hb7.mono B6.out.size)
  clear hb7 S6 B6
  have L8 : Hid (WsAt _ _ _ _ _) := ws_lit w7 [2, 2] 3 (by decide)
  have S8 : Hid (WsAt _ _ _ _ _) := S7.out.below (below_alloc w7 (.cells (isC [2, 2]).toArray 3))
  have C8 : Hid (∀ c, Calls Try.prog 12 #[.slice bs2 2 cp2, .slice (some ⟨w7.heap.size, 0, none⟩) 2 c] (w7.alloc (.cells #[.int .i64 2, .int .i64 2] 3)) fun e w' => e = .returned (.bool true) ∧ Below (w7.heap.size + 1) (w7.alloc (.cells #[.int .i64 2, .int .i64 2] 3)) w') := fun c => by
    have := sameInts_any bs2 _ g2 0 cp2 w7.heap.size 0 c [2, 2] [2, 2] _ S8.out L8.out
    rw [show isEq [2, 2] [2, 2] = true by decide, World.size_alloc] at this
    exact this
  clear L8 S8 S7
  go_wp2_with (first | (go_at_call 12; refine (C8.out _).mono ?_; rintro e w8 ⟨rfl, hb8⟩; have B8 : Hid (Below w.heap.size w w8) := B7.out.trans (((below_alloc w7 _).trans (hb8.mono (by omega))).mono B7.out.size); clear hb8))
  go_ret
  exact ⟨rfl, B8.out⟩
end Go.Proofs.Ytiencggnijfjoaa

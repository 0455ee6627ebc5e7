
/- Layer 28: the program's kindOf. -/

import Derived.Test.YtknlapipkglnjaaGreatDoorHIx

namespace Go.Proofs.YtknlapipkglnjaaGreatDoor

open Go.RowKit

attribute [local go_sem ↓] Go.wp_at_zero Go.wp_at_succ

set_option maxRecDepth 100000 in
set_option maxHeartbeats 4000000 in
theorem kindOf_any (x : List UInt8) (w : World) (h : HLaid w) :
    Calls Tryz.prog 90 #[.string ⟨x.toArray⟩] w fun e w' => ∃ k : Nat, e = .returned (.int .i64 k) ∧ ((1 ≤ k ∧ k ≤ 9 ∧ x = wordL k) ∨ (k = 0 ∧ ∀ m : Nat, 1 ≤ m → m ≤ 9 → x ≠ wordL m)) ∧ w' = w := by
  have HN : Hid (∀ k : Nat, k < 10 → w.cell? ⟨0, k, none⟩ = some (.string ⟨(wordL k).toArray⟩)) := h.nm
  have hlt := h.lt
  clear h
  have n0 := HN.out 0 (by omega)
  obtain ⟨W0, hW0⟩ : ∃ W, W = wordL (0 : Nat) := ⟨_, rfl⟩
  rw [← hW0] at n0
  have HW0 : Hid (W0 = wordL (0 : Nat)) := hW0
  clear hW0
  have n1 := HN.out 1 (by omega)
  obtain ⟨W1, hW1⟩ : ∃ W, W = wordL (1 : Nat) := ⟨_, rfl⟩
  rw [← hW1] at n1
  have HW1 : Hid (W1 = wordL (1 : Nat)) := hW1
  clear hW1
  have n2 := HN.out 2 (by omega)
  obtain ⟨W2, hW2⟩ : ∃ W, W = wordL (2 : Nat) := ⟨_, rfl⟩
  rw [← hW2] at n2
  have HW2 : Hid (W2 = wordL (2 : Nat)) := hW2
  clear hW2
  have n3 := HN.out 3 (by omega)
  obtain ⟨W3, hW3⟩ : ∃ W, W = wordL (3 : Nat) := ⟨_, rfl⟩
  rw [← hW3] at n3
  have HW3 : Hid (W3 = wordL (3 : Nat)) := hW3
  clear hW3
  have n4 := HN.out 4 (by omega)
  obtain ⟨W4, hW4⟩ : ∃ W, W = wordL (4 : Nat) := ⟨_, rfl⟩
  rw [← hW4] at n4
  have HW4 : Hid (W4 = wordL (4 : Nat)) := hW4
  clear hW4
  have n5 := HN.out 5 (by omega)
  obtain ⟨W5, hW5⟩ : ∃ W, W = wordL (5 : Nat) := ⟨_, rfl⟩
  rw [← hW5] at n5
  have HW5 : Hid (W5 = wordL (5 : Nat)) := hW5
  clear hW5
  have n6 := HN.out 6 (by omega)
  obtain ⟨W6, hW6⟩ : ∃ W, W = wordL (6 : Nat) := ⟨_, rfl⟩
  rw [← hW6] at n6
  have HW6 : Hid (W6 = wordL (6 : Nat)) := hW6
  clear hW6
  have n7 := HN.out 7 (by omega)
  obtain ⟨W7, hW7⟩ : ∃ W, W = wordL (7 : Nat) := ⟨_, rfl⟩
  rw [← hW7] at n7
  have HW7 : Hid (W7 = wordL (7 : Nat)) := hW7
  clear hW7
  have n8 := HN.out 8 (by omega)
  obtain ⟨W8, hW8⟩ : ∃ W, W = wordL (8 : Nat) := ⟨_, rfl⟩
  rw [← hW8] at n8
  have HW8 : Hid (W8 = wordL (8 : Nat)) := hW8
  clear hW8
  have n9 := HN.out 9 (by omega)
  obtain ⟨W9, hW9⟩ : ∃ W, W = wordL (9 : Nat) := ⟨_, rfl⟩
  rw [← hW9] at n9
  have HW9 : Hid (W9 = wordL (9 : Nat)) := hW9
  clear hW9
  have HA : Hid (∀ k : Nat, k < 10 → #[Value.string ⟨W0.toArray⟩, Value.string ⟨W1.toArray⟩, Value.string ⟨W2.toArray⟩, Value.string ⟨W3.toArray⟩, Value.string ⟨W4.toArray⟩, Value.string ⟨W5.toArray⟩, Value.string ⟨W6.toArray⟩, Value.string ⟨W7.toArray⟩, Value.string ⟨W8.toArray⟩, Value.string ⟨W9.toArray⟩][k]? = some (.string ⟨(wordL k).toArray⟩)) := by
    intro k hk
    rcases (by omega : k = 0 ∨ k = 1 ∨ k = 2 ∨ k = 3 ∨ k = 4 ∨ k = 5 ∨ k = 6 ∨ k = 7 ∨ k = 8 ∨ k = 9) with rfl | rfl | rfl | rfl | rfl | rfl | rfl | rfl | rfl | rfl
    · rw [← HW0.out]; rfl
    · rw [← HW1.out]; rfl
    · rw [← HW2.out]; rfl
    · rw [← HW3.out]; rfl
    · rw [← HW4.out]; rfl
    · rw [← HW5.out]; rfl
    · rw [← HW6.out]; rfl
    · rw [← HW7.out]; rfl
    · rw [← HW8.out]; rfl
    · rw [← HW9.out]; rfl
  go_enter Tryz.func90, Tryz.ntmps90
  go_wp2_with fail
  go_loopw [6] (fun vj wr => ∃ j : Nat, j ≤ 10 ∧ vj = .int .i64 j ∧ (∀ m : Nat, m < j → x ≠ wordL m) ∧ wr = w) (fun vj _ => 10 - (intOf vj).toNat)
  case atStart => exact ⟨0, Nat.zero_le _, rfl, fun m h => by omega, rfl⟩
  case round =>
    obtain ⟨j, hj, rfl, hm, rfl⟩ := hrel
    have HM : Hid (∀ m : Nat, m < j → x ≠ wordL m) := hm
    clear hm
    by_cases hj10 : j < 10
    · have j0 : (0 : Int) ≤ (j : Int) := Int.natCast_nonneg _
      have j1 : (j : Int) < 10 := by omega
      have hix := names_ix #[Value.string ⟨W0.toArray⟩, Value.string ⟨W1.toArray⟩, Value.string ⟨W2.toArray⟩, Value.string ⟨W3.toArray⟩, Value.string ⟨W4.toArray⟩, Value.string ⟨W5.toArray⟩, Value.string ⟨W6.toArray⟩, Value.string ⟨W7.toArray⟩, Value.string ⟨W8.toArray⟩, Value.string ⟨W9.toArray⟩] j _ (HA.out j hj10) hj10
      obtain ⟨X, hX⟩ : ∃ X, X = wordL j := ⟨_, rfl⟩
      have HX : Hid (X = wordL j) := hX
      rw [← hX] at hix
      clear hX
      by_cases hx : X = x
      · have HQ : Hid (X = x) := hx
        have hx' : (X == x) = true := beq_iff_eq.2 hx
        clear hx
        go_wp2_with (rw [hix])
        go_ret
        refine ⟨j, rfl, ?_, rfl⟩
        by_cases e : j = 0
        · subst e
          refine Or.inr ⟨rfl, fun m h1 h2 q => ?_⟩
          have : wordL m = [] := q.symm.trans (HQ.out.symm.trans HX.out)
          rcases (by omega : m = 1 ∨ m = 2 ∨ m = 3 ∨ m = 4 ∨ m = 5 ∨ m = 6 ∨ m = 7 ∨ m = 8 ∨ m = 9) with rfl | rfl | rfl | rfl | rfl | rfl | rfl | rfl | rfl <;> (revert this; decide)
        · exact Or.inl ⟨by omega, by omega, HQ.out.symm.trans HX.out⟩
      · have hx' : (X == x) = false := beq_eq_false_iff_ne.2 hx
        have HG : Hid (∀ m : Nat, m < j + 1 → x ≠ wordL m) := fun m h q => by
          by_cases e : m = j
          · subst e; exact hx (HX.out.trans q.symm)
          · exact HM.out m (by omega) q
        clear hx
        go_wp2_with (rw [hix])
        exact ⟨⟨j + 1, by omega, by go_num, HG.out, trivial⟩, by simp [intOf]; omega⟩
    · obtain rfl : j = 10 := by omega
      go_wp2_with fail
      go_ret
      exact ⟨0, rfl, Or.inr ⟨rfl, fun m h1 h2 => HM.out m (by omega)⟩, rfl⟩
end Go.Proofs.YtknlapipkglnjaaGreatDoor

/- Layer 6: the law's fixed. -/
import Derived.Test.YtjpfgfcggekklaaML1
namespace Go.Proofs.Ytjpfgfcggekklaa
open Go.RowKit

def ps0 : PL := [(2, 20), (5, 50)]
theorem ps0_at {w : World} {N : Nat} (hN : N < w.heap.size) (h : ∀ k, w.cell? ⟨N, k, none⟩ = (#[.int .i64 2, .int .i64 20, .int .i64 5, .int .i64 50] : Array Value)[k]?) : PairsAt w (some ⟨N, 0, none⟩) N 0 ps0 := by
  refine ⟨fun _ => rfl, fun _ => hN, fun i hi => ?_, by unfold maxLen; simp [ps0]⟩
  have : i = 0 ∨ i = 1 := by simp [ps0] at hi; omega
  rcases this with rfl | rfl
  · exact ⟨h 0, h 1⟩
  · exact ⟨h 2, h 3⟩
def ps1 : PL := [(2, 20), (3, 7), (5, 50)]
theorem ps1_at {w : World} {N : Nat} (hN : N < w.heap.size) (h : ∀ k, w.cell? ⟨N, k, none⟩ = (#[.int .i64 2, .int .i64 20, .int .i64 3, .int .i64 7, .int .i64 5, .int .i64 50] : Array Value)[k]?) : PairsAt w (some ⟨N, 0, none⟩) N 0 ps1 := by
  refine ⟨fun _ => rfl, fun _ => hN, fun i hi => ?_, by unfold maxLen; simp [ps1]⟩
  have : i = 0 ∨ i = 1 ∨ i = 2 := by simp [ps1] at hi; omega
  rcases this with rfl | rfl | rfl
  · exact ⟨h 0, h 1⟩
  · exact ⟨h 2, h 3⟩
  · exact ⟨h 4, h 5⟩
def ps2 : PL := [(1, 0), (1, 0)]
theorem ps2_at {w : World} {N : Nat} (hN : N < w.heap.size) (h : ∀ k, w.cell? ⟨N, k, none⟩ = (#[.int .i64 1, .int .i64 0, .int .i64 1, .int .i64 0] : Array Value)[k]?) : PairsAt w (some ⟨N, 0, none⟩) N 0 ps2 := by
  refine ⟨fun _ => rfl, fun _ => hN, fun i hi => ?_, by unfold maxLen; simp [ps2]⟩
  have : i = 0 ∨ i = 1 := by simp [ps2] at hi; omega
  rcases this with rfl | rfl
  · exact ⟨h 0, h 1⟩
  · exact ⟨h 2, h 3⟩

set_option maxRecDepth 100000 in
set_option maxHeartbeats 2000000 in
theorem fixed_any (w : World) : Calls Try.prog 8 #[] w fun e w' => e = .returned (.bool true) ∧ Below w.heap.size w w' := by
  obtain ⟨W1, hW1⟩ : ∃ W1, W1 = w.alloc (.cells #[.int .i64 2, .int .i64 20, .int .i64 5, .int .i64 50] 59) := ⟨_, rfl⟩
  have B1 : Hid (Below w.heap.size w W1) := by show Below w.heap.size w W1; rw [hW1]; exact below_alloc _ _
  have z1 : w.heap.size < W1.heap.size := by rw [hW1]; simp
  have P1 : Hid (PairsAt W1 (some ⟨w.heap.size, 0, none⟩) w.heap.size 0 ps0) := ps0_at z1 (fun k => by rw [hW1]; exact cell_new w _ _ k)
  have D1 : Hid (∀ W, PairsAt W (some ⟨w.heap.size, 0, none⟩) w.heap.size 0 ps0 → DoQ 31 (some ⟨w.heap.size, 0, none⟩) 2 ps0 ⟨2, 3, 7, 0⟩ 0 ps1 ⟨false, 0, 0, []⟩ W) := fun W hW => doQ_of (pDo_any _ w.heap.size 0 2 ps0 ⟨2, 3, 7, 0⟩ W hW (fun h => by cases h) (Nat.le_refl _) (by unfold maxLen; omega) (by decide)) (by decide) (by decide) (by rfl)
  have D2 : Hid (∀ W, PairsAt W (some ⟨w.heap.size, 0, none⟩) w.heap.size 0 ps0 → DoQ 31 (some ⟨w.heap.size, 0, none⟩) 2 ps0 ⟨5, 2, 0, 0⟩ 0 ps0 ⟨true, 5, 50, []⟩ W) := fun W hW => doQ_of (pDo_any _ w.heap.size 0 2 ps0 ⟨5, 2, 0, 0⟩ W hW (fun h => by cases h) (Nat.le_refl _) (by unfold maxLen; omega) (by decide)) (by decide) (by decide) (by rfl)
  unfold DoQ at D1 D2
  go_enter Try.func8, Try.ntmps8
  go_wp2_with fail
  rw [← hW1]
  clear hW1
  refine (D1.out W1 P1.out).mono ?_
  rintro e w2 ⟨a1, c1, g1, a2, c2, g2, rfl, hb2, hp1, hp2⟩
  have B2 : Hid (Below w.heap.size w w2) := B1.out.trans (hb2.mono (by omega))
  have z2 := hb2.size
  have PA : Hid (PairsAt w2 a1 g1 0 ps1) := hp1
  have PM : Hid (PairsAt w2 (some ⟨w.heap.size, 0, none⟩) w.heap.size 0 ps0) := P1.out.below hb2
  clear hb2 hp1 hp2
  obtain ⟨W3, hW3⟩ : ∃ W3, W3 = (w2.alloc (.cells #[.bool false, .int .i64 0, .int .i64 0, .slice a2 0 c2] 27)).alloc (.cells #[.int .i64 2, .int .i64 20, .int .i64 3, .int .i64 7, .int .i64 5, .int .i64 50] 59) := ⟨_, rfl⟩
  have b3 : Below w2.heap.size w2 W3 := by rw [hW3]; exact (below_alloc _ _).alloc (by simp) _
  have z3 : w2.heap.size + 1 < W3.heap.size := by rw [hW3]; simp
  have PB : Hid (PairsAt W3 (some ⟨w2.heap.size + 1, 0, none⟩) (w2.heap.size + 1) 0 ps1) := ps1_at z3 (fun k => by
    have zz : (w2.alloc (.cells #[.bool false, .int .i64 0, .int .i64 0, .slice a2 0 c2] 27)).heap.size = w2.heap.size + 1 := by simp
    rw [hW3, ← zz]; exact cell_new _ _ _ k)
  have SM : Hid (Calls Try.prog 19 #[.slice a1 ps1.length c1, .slice (some ⟨w2.heap.size + 1, 0, none⟩) 3 3] W3 fun e w' => e = .returned (.bool true) ∧ Below W3.heap.size W3 w') := by
    have q : plEq ps1 ps1 = true := by simp [plEq]
    have := samePairs_any a1 (some ⟨w2.heap.size + 1, 0, none⟩) g1 0 c1 (w2.heap.size + 1) 0 3 ps1 ps1 W3 (PA.out.below b3) PB.out
    rw [q] at this
    exact this
  have PM3 : Hid (PairsAt W3 (some ⟨w.heap.size, 0, none⟩) w.heap.size 0 ps0) := PM.out.below b3
  have B3 : Hid (Below w.heap.size w W3) := B2.out.trans (b3.mono (by omega))
  clear b3
  go_wp2_with fail
  rw [← hW3]
  clear hW3
  refine SM.out.mono ?_
  rintro e w3 ⟨rfl, hb3⟩
  have B4 : Hid (Below w.heap.size w w3) := B3.out.trans (hb3.mono (by omega))
  have PM4 : Hid (PairsAt w3 (some ⟨w.heap.size, 0, none⟩) w.heap.size 0 ps0) := PM3.out.below hb3
  have z4 := hb3.size
  clear hb3
  go_wp2_with fail
  refine (D2.out w3 PM4.out).mono ?_
  rintro e w4 ⟨a3, c3, g3, a4, c4, g4, rfl, hb4, hp3, hp4⟩
  have B5 : Hid (Below w.heap.size w w4) := B4.out.trans (hb4.mono (by omega))
  have z5 := hb4.size
  clear hb4 hp3 hp4
  obtain ⟨W5, hW5⟩ : ∃ W5, W5 = (w4.alloc (.cells #[.bool true, .int .i64 5, .int .i64 50, .slice a4 0 c4] 27)).alloc (.cells #[.int .i64 1, .int .i64 0, .int .i64 1, .int .i64 0] 59) := ⟨_, rfl⟩
  have b5 : Below w4.heap.size w4 W5 := by rw [hW5]; exact (below_alloc _ _).alloc (by simp) _
  have z6 : w4.heap.size + 1 < W5.heap.size := by rw [hW5]; simp
  have PC : Hid (PairsAt W5 (some ⟨w4.heap.size + 1, 0, none⟩) (w4.heap.size + 1) 0 ps2) := ps2_at z6 (fun k => by
    have zz : (w4.alloc (.cells #[.bool true, .int .i64 5, .int .i64 50, .slice a4 0 c4] 27)).heap.size = w4.heap.size + 1 := by simp
    rw [hW5, ← zz]; exact cell_new _ _ _ k)
  have CK : Hid (Calls Try.prog 10 #[.slice (some ⟨w4.heap.size + 1, 0, none⟩) 2 2] W5 fun e w' => e = .returned (.int .i64 11) ∧ Below W5.heap.size W5 w') := by
    have := pcheck_any (some ⟨w4.heap.size + 1, 0, none⟩) (w4.heap.size + 1) 0 2 ps2 W5 PC.out
    rw [show ckErr ps2 = 11 by decide] at this
    exact this
  have B6 : Hid (Below w.heap.size w W5) := B5.out.trans (b5.mono (by omega))
  clear b5
  go_wp2_with fail
  rw [← hW5]
  clear hW5
  refine CK.out.mono ?_
  rintro e w5 ⟨rfl, hb5⟩
  have B7 : Hid (Below w.heap.size w w5) := B6.out.trans (hb5.mono (by omega))
  clear hb5
  go_wp2_with fail
  go_ret
  exact ⟨rfl, B7.out⟩
end Go.Proofs.Ytjpfgfcggekklaa

/- Layer 2: what refuses Ids' acts and cells, the program's and the reference's. -/
import Derived.Test.YtlbfkgecckdlgaaCDoT
import Derived.Test.YtlbfkgecckdlgaaCRefM
namespace Go.Proofs.Ytlbfkgecckdlgaa
open Go.RowKit

def okT (k T : Int) : Bool := decide (-1 ≤ k ∧ k < T)
def idErr (d i a c m T : Int) : Int := if ceErr d i m ≠ 0 then ceErr d i m else if (d ≠ 1 ∧ okT a T = false) ∨ (d = 5 ∧ okT c T = false) then 1 else 0

theorem isThing_any (k T : Int) (w : World) : Calls Try.prog 86 #[.int .i64 k, .int .i64 T] w fun e w' => e = .returned (.bool (okT k T)) ∧ w = w' := by
  by_cases h : -1 ≤ k
  · by_cases h2 : k < T
    · rw [show okT k T = true from decide_eq_true ⟨h, h2⟩]
      go_enter Try.func86, Try.ntmps86
      go_wp2
      go_ret
      exact ⟨by simp [*], rfl⟩
    · rw [show okT k T = false from decide_eq_false (by omega)]
      go_enter Try.func86, Try.ntmps86
      go_wp2
      go_ret
      exact ⟨by simp [*], rfl⟩
  · rw [show okT k T = false from decide_eq_false (by omega)]
    go_enter Try.func86, Try.ntmps86
    go_wp2
    go_ret
    exact ⟨by simp [*], rfl⟩
theorem rthing_any (k T : Int) (w : World) : Calls Try.prog 82 #[.int .i64 k, .int .i64 T] w fun e w' => e = .returned (.bool (okT k T)) ∧ w = w' := by
  by_cases h : -1 ≤ k
  · by_cases h2 : k < T
    · rw [show okT k T = true from decide_eq_true ⟨h, h2⟩]
      go_enter Try.func82, Try.ntmps82
      go_wp2
      go_ret
      exact ⟨by simp [*], rfl⟩
    · rw [show okT k T = false from decide_eq_false (by omega)]
      go_enter Try.func82, Try.ntmps82
      go_wp2
      go_ret
      exact ⟨by simp [*], rfl⟩
  · rw [show okT k T = false from decide_eq_false (by omega)]
    go_enter Try.func82, Try.ntmps82
    go_wp2
    go_ret
    exact ⟨by simp [*], rfl⟩

set_option maxRecDepth 100000 in
set_option maxHeartbeats 1000000 in
theorem idError_any (d i a c m T : Int) (w : World) : Calls Try.prog 88 #[.agg #[.int .i64 d, .int .i64 i, .int .i64 a, .int .i64 c], .int .i64 m, .int .i64 T] w fun e w' => e = .returned (.int .i64 (idErr d i a c m T)) ∧ Below w.heap.size w w' := by
  have hB : Below w.heap.size w (w.alloc (.cells #[.int .i64 d, .int .i64 i, .int .i64 a, .int .i64 c] 36)) := (Below.refl _ _).alloc (Nat.le_refl _) _
  have HB : Hid _ := hB
  clear hB
  have HC : Hid _ := cellError_any d i a c m
  by_cases h0 : ceErr d i m = 0
  · rw [h0] at HC
    have e0 : idErr d i a c m T = if (d ≠ 1 ∧ okT a T = false) ∨ (d = 5 ∧ okT c T = false) then 1 else 0 := by simp [idErr, h0]
    rw [e0]
    clear e0 h0
    have hsz : w.heap.size < (w.alloc (.cells #[.int .i64 d, .int .i64 i, .int .i64 a, .int .i64 c] 36)).heap.size := by simp
    by_cases h1 : d = 1
    · subst h1
      have e : (if ((1 : Int) ≠ 1 ∧ okT a T = false) ∨ ((1 : Int) = 5 ∧ okT c T = false) then (1 : Int) else 0) = 0 := by simp
      rw [e]
      clear e
      go_enter Try.func88, Try.ntmps88
      go_wp2_with (first | (go_at_call 98; refine Calls.mono (HC.out _) ?_; rintro e w1 ⟨rfl, hb1⟩; have c0 := (hb1.cell (p := ⟨w.heap.size, 0, none⟩) hsz).trans (show (w.alloc (.cells #[.int .i64 1, .int .i64 i, .int .i64 a, .int .i64 c] 36)).cell? ⟨w.heap.size, 0, none⟩ = some (.int .i64 1) from by simp)))
      go_ret
      exact ⟨rfl, HB.out.trans (hb1.mono HB.out.size)⟩
    · by_cases h5 : d = 5
      · subst h5
        by_cases ha : okT a T = true
        · by_cases hc : okT c T = true
          · have e : (if ((5 : Int) ≠ 1 ∧ okT a T = false) ∨ ((5 : Int) = 5 ∧ okT c T = false) then (1 : Int) else 0) = 0 := by simp [ha, hc]
            rw [e]
            clear e
            go_enter Try.func88, Try.ntmps88
            go_wp2_with (first | (go_at_call 98; refine Calls.mono (HC.out _) ?_; rintro e w1 ⟨rfl, hb1⟩; have c0 := (hb1.cell (p := ⟨w.heap.size, 0, none⟩) hsz).trans (show (w.alloc (.cells #[.int .i64 5, .int .i64 i, .int .i64 a, .int .i64 c] 36)).cell? ⟨w.heap.size, 0, none⟩ = some (.int .i64 5) from by simp); have c2 := (hb1.cell (p := ⟨w.heap.size, 2, none⟩) hsz).trans (show (w.alloc (.cells #[.int .i64 5, .int .i64 i, .int .i64 a, .int .i64 c] 36)).cell? ⟨w.heap.size, 2, none⟩ = some (.int .i64 a) from by simp); have c3 := (hb1.cell (p := ⟨w.heap.size, 3, none⟩) hsz).trans (show (w.alloc (.cells #[.int .i64 5, .int .i64 i, .int .i64 a, .int .i64 c] 36)).cell? ⟨w.heap.size, 3, none⟩ = some (.int .i64 c) from by simp)) | (go_at_call 86; refine (isThing_any _ _ _).mono ?_; rintro e w' ⟨rfl, rfl⟩))
            go_ret
            exact ⟨rfl, HB.out.trans (hb1.mono HB.out.size)⟩
          · have hc' : okT c T = false := by simpa using hc
            have e : (if ((5 : Int) ≠ 1 ∧ okT a T = false) ∨ ((5 : Int) = 5 ∧ okT c T = false) then (1 : Int) else 0) = 1 := by simp [hc']
            rw [e]
            clear e hc
            go_enter Try.func88, Try.ntmps88
            go_wp2_with (first | (go_at_call 98; refine Calls.mono (HC.out _) ?_; rintro e w1 ⟨rfl, hb1⟩; have c0 := (hb1.cell (p := ⟨w.heap.size, 0, none⟩) hsz).trans (show (w.alloc (.cells #[.int .i64 5, .int .i64 i, .int .i64 a, .int .i64 c] 36)).cell? ⟨w.heap.size, 0, none⟩ = some (.int .i64 5) from by simp); have c2 := (hb1.cell (p := ⟨w.heap.size, 2, none⟩) hsz).trans (show (w.alloc (.cells #[.int .i64 5, .int .i64 i, .int .i64 a, .int .i64 c] 36)).cell? ⟨w.heap.size, 2, none⟩ = some (.int .i64 a) from by simp); have c3 := (hb1.cell (p := ⟨w.heap.size, 3, none⟩) hsz).trans (show (w.alloc (.cells #[.int .i64 5, .int .i64 i, .int .i64 a, .int .i64 c] 36)).cell? ⟨w.heap.size, 3, none⟩ = some (.int .i64 c) from by simp)) | (go_at_call 86; refine (isThing_any _ _ _).mono ?_; rintro e w' ⟨rfl, rfl⟩))
            go_ret
            exact ⟨rfl, HB.out.trans (hb1.mono HB.out.size)⟩
        · have ha' : okT a T = false := by simpa using ha
          have e : (if ((5 : Int) ≠ 1 ∧ okT a T = false) ∨ ((5 : Int) = 5 ∧ okT c T = false) then (1 : Int) else 0) = 1 := by simp [ha']
          rw [e]
          clear e ha
          go_enter Try.func88, Try.ntmps88
          go_wp2_with (first | (go_at_call 98; refine Calls.mono (HC.out _) ?_; rintro e w1 ⟨rfl, hb1⟩; have c0 := (hb1.cell (p := ⟨w.heap.size, 0, none⟩) hsz).trans (show (w.alloc (.cells #[.int .i64 5, .int .i64 i, .int .i64 a, .int .i64 c] 36)).cell? ⟨w.heap.size, 0, none⟩ = some (.int .i64 5) from by simp); have c2 := (hb1.cell (p := ⟨w.heap.size, 2, none⟩) hsz).trans (show (w.alloc (.cells #[.int .i64 5, .int .i64 i, .int .i64 a, .int .i64 c] 36)).cell? ⟨w.heap.size, 2, none⟩ = some (.int .i64 a) from by simp)) | (go_at_call 86; refine (isThing_any _ _ _).mono ?_; rintro e w' ⟨rfl, rfl⟩))
          go_ret
          exact ⟨rfl, HB.out.trans (hb1.mono HB.out.size)⟩
      · by_cases ha : okT a T = true
        · have e : (if (d ≠ 1 ∧ okT a T = false) ∨ (d = 5 ∧ okT c T = false) then (1 : Int) else 0) = 0 := by simp [ha, h5]
          rw [e]
          clear e
          go_enter Try.func88, Try.ntmps88
          go_wp2_with (first | (go_at_call 98; refine Calls.mono (HC.out _) ?_; rintro e w1 ⟨rfl, hb1⟩; have c0 := (hb1.cell (p := ⟨w.heap.size, 0, none⟩) hsz).trans (show (w.alloc (.cells #[.int .i64 d, .int .i64 i, .int .i64 a, .int .i64 c] 36)).cell? ⟨w.heap.size, 0, none⟩ = some (.int .i64 d) from by simp); have c2 := (hb1.cell (p := ⟨w.heap.size, 2, none⟩) hsz).trans (show (w.alloc (.cells #[.int .i64 d, .int .i64 i, .int .i64 a, .int .i64 c] 36)).cell? ⟨w.heap.size, 2, none⟩ = some (.int .i64 a) from by simp)) | (go_at_call 86; refine (isThing_any _ _ _).mono ?_; rintro e w' ⟨rfl, rfl⟩))
          go_ret
          exact ⟨rfl, HB.out.trans (hb1.mono HB.out.size)⟩
        · have ha' : okT a T = false := by simpa using ha
          have e : (if (d ≠ 1 ∧ okT a T = false) ∨ (d = 5 ∧ okT c T = false) then (1 : Int) else 0) = 1 := by simp [ha', h1]
          rw [e]
          clear e ha
          go_enter Try.func88, Try.ntmps88
          go_wp2_with (first | (go_at_call 98; refine Calls.mono (HC.out _) ?_; rintro e w1 ⟨rfl, hb1⟩; have c0 := (hb1.cell (p := ⟨w.heap.size, 0, none⟩) hsz).trans (show (w.alloc (.cells #[.int .i64 d, .int .i64 i, .int .i64 a, .int .i64 c] 36)).cell? ⟨w.heap.size, 0, none⟩ = some (.int .i64 d) from by simp); have c2 := (hb1.cell (p := ⟨w.heap.size, 2, none⟩) hsz).trans (show (w.alloc (.cells #[.int .i64 d, .int .i64 i, .int .i64 a, .int .i64 c] 36)).cell? ⟨w.heap.size, 2, none⟩ = some (.int .i64 a) from by simp)) | (go_at_call 86; refine (isThing_any _ _ _).mono ?_; rintro e w' ⟨rfl, rfl⟩))
          go_ret
          exact ⟨rfl, HB.out.trans (hb1.mono HB.out.size)⟩
  · have e0 : idErr d i a c m T = ceErr d i m := by simp [idErr, h0]
    rw [e0]
    clear e0
    generalize ceErr d i m = E at *
    have h0' : (E != 0) = true := bne_iff_ne.2 h0
    clear h0
    go_enter Try.func88, Try.ntmps88
    go_wp2_with (first | (go_at_call 98; refine Calls.mono (HC.out _) ?_; rintro e w1 ⟨rfl, hb1⟩))
    go_ret
    exact ⟨rfl, HB.out.trans (hb1.mono HB.out.size)⟩
end Go.Proofs.Ytlbfkgecckdlgaa

/- Layer 2: acts in memory, rows of numbers, and the errors that Nums tells. -/
import Derived.Test.YtlbfkgecckdlgaaCPlay
import Derived.Laws.MakeOwn
namespace Go.Proofs.Ytlbfkgecckdlgaa
open Go.RowKit

/-- n acts lie in memory. -/
structure CActs (w : World) (base : Option Addr) (ab ao n : Nat) (dk di da db : Nat → Int) : Prop where
  base : n ≠ 0 → base = some ⟨ab, ao, none⟩
  lt : n ≠ 0 → ab < w.heap.size
  cells : ∀ i, i < n → w.cell? ⟨ab, ao + i * 4, none⟩ = some (.int .i64 (dk i)) ∧ w.cell? ⟨ab, ao + i * 4 + 1, none⟩ = some (.int .i64 (di i)) ∧ w.cell? ⟨ab, ao + i * 4 + 2, none⟩ = some (.int .i64 (da i)) ∧ w.cell? ⟨ab, ao + i * 4 + 3, none⟩ = some (.int .i64 (db i))
  len : n ≤ maxLen

theorem CActs.kp {X : Nat → Prop} {w w' : World} {base : Option Addr} {ab ao n : Nat} {dk di da db : Nat → Int} (h : CActs w base ab ao n dk di da db) (hk : Kp X w w') (hX : n ≠ 0 → ¬ X ab) : CActs w' base ab ao n dk di da db := by
  refine ⟨h.base, fun hn => Nat.lt_of_lt_of_le (h.lt hn) hk.size, fun i hi => ?_, h.len⟩
  obtain ⟨a, b, c, d⟩ := h.cells i hi
  have hl := h.lt (by omega)
  have hx := hX (by omega)
  exact ⟨(hk.cell (p := ⟨ab, ao + i * 4, none⟩) hl hx).trans a, (hk.cell (p := ⟨ab, ao + i * 4 + 1, none⟩) hl hx).trans b, (hk.cell (p := ⟨ab, ao + i * 4 + 2, none⟩) hl hx).trans c, (hk.cell (p := ⟨ab, ao + i * 4 + 3, none⟩) hl hx).trans d⟩

/-- The first of f 0, .. f (n - 1) that is not 0, or 0. -/
def frst (f : Nat → Int) : Nat → Int
  | 0 => 0
  | k + 1 => if frst f k = 0 then f k else frst f k
theorem frst_stays {f : Nat → Int} {j : Nat} (h : frst f j ≠ 0) : ∀ m, frst f (j + m) = frst f j
  | 0 => rfl
  | m + 1 => by show (if frst f (j + m) = 0 then f (j + m) else frst f (j + m)) = _; rw [frst_stays h m, if_neg h]
theorem frst_at {f : Nat → Int} {j n : Nat} (h0 : frst f j = 0) (h : f j ≠ 0) (hn : j < n) : frst f n = f j := by
  have e : frst f (j + 1) = f j := by simp [frst, h0]
  have := frst_stays (f := f) (j := j + 1) (by rw [e]; exact h) (n - (j + 1))
  rw [show j + 1 + (n - (j + 1)) = n by omega] at this
  rw [this, e]

def plErr (i m : Int) : Int := if i < 0 ∨ m ≤ i then 1 else 0
def nmErr (d i m : Int) : Int := if d < 1 ∨ 7 < d then 5 else plErr i m

theorem placeError_any (i m : Int) (w : World) : Calls Try.prog 103 #[.int .i64 i, .int .i64 m] w fun e w' => e = .returned (.int .i64 (plErr i m)) ∧ w = w' := by
  by_cases h1 : i < 0
  · have e : plErr i m = 1 := by simp [plErr, h1]
    rw [e]
    go_enter Try.func103, Try.ntmps103
    go_wp2
    go_ret
    exact ⟨by simp, rfl⟩
  · by_cases h2 : m ≤ i
    · have e : plErr i m = 1 := by simp [plErr, h2]
      rw [e]
      go_enter Try.func103, Try.ntmps103
      go_wp2
      go_ret
      exact ⟨by simp, rfl⟩
    · have e : plErr i m = 0 := by unfold plErr; rw [if_neg]; omega
      rw [e]
      go_enter Try.func103, Try.ntmps103
      go_wp2
      go_ret
      exact ⟨by simp, rfl⟩

set_option maxRecDepth 100000 in
set_option maxHeartbeats 400000 in
theorem numError_any (d i a c m : Int) (w : World) : Calls Try.prog 54 #[.agg #[.int .i64 d, .int .i64 i, .int .i64 a, .int .i64 c], .int .i64 m] w fun e w' => e = .returned (.int .i64 (nmErr d i m)) ∧ Below w.heap.size w w' := by
  have hB : Below w.heap.size w (w.alloc (.cells #[.int .i64 d, .int .i64 i, .int .i64 a, .int .i64 c] 36)) := (Below.refl _ _).alloc (Nat.le_refl _) _
  have HB : Hid _ := hB
  by_cases h1 : d < 1
  · have e : nmErr d i m = 5 := by simp [nmErr, h1]
    rw [e]
    clear hB
    go_enter Try.func54, Try.ntmps54
    go_wp2
    go_ret
    exact ⟨by simp, HB.out⟩
  · by_cases h2 : 7 < d
    · have e : nmErr d i m = 5 := by simp [nmErr, h2]
      rw [e]
      clear hB
      go_enter Try.func54, Try.ntmps54
      go_wp2
      go_ret
      exact ⟨by simp, HB.out⟩
    · have e : nmErr d i m = plErr i m := by unfold nmErr; rw [if_neg]; omega
      rw [e]
      clear hB
      go_enter Try.func54, Try.ntmps54
      go_wp2_with (first | (go_at_call 103; refine (placeError_any _ _ _).mono ?_; rintro e w' ⟨rfl, rfl⟩))
      go_ret
      exact ⟨by simp, HB.out⟩

theorem tooMany_any (m n : Nat) (w : World) : Calls Try.prog 51 #[.int .i64 m, .int .i64 n] w fun e w' => e = .returned (.bool (decide (64 < m ∨ 1000 < n))) ∧ w = w' := by
  by_cases h1 : 64 < m
  · have e : decide (64 < m ∨ 1000 < n) = true := by simp [h1]
    rw [e]
    have h1' : (64 : Int) < (m : Int) := by omega
    go_enter Try.func51, Try.ntmps51
    go_wp2
    go_ret
    exact ⟨by simp, rfl⟩
  · have h1' : ¬ (64 : Int) < (m : Int) := by omega
    have e : decide (64 < m ∨ 1000 < n) = decide ((1000 : Int) < (n : Int)) := by simp [h1]; omega
    rw [e]
    go_enter Try.func51, Try.ntmps51
    go_wp2
    all_goals
      go_ret
      exact ⟨by simp [*], rfl⟩
end Go.Proofs.Ytlbfkgecckdlgaa

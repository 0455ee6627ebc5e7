/- What Narrow, Of, Plain, Ends and Less answer, the program's and the reference's. -/
import Derived.Test.YtieanmpldcibcaaGreatLaw1
import Derived.Test.YtieanmpldcibcaaGreatXor
namespace Go.Proofs.YtieanmpldcibcaaGreat
open Go.RowKit

theorem narrow_bool (x : Int) (hx : U64 x) (w : World) : Calls Tryz.prog 27 #[.int .i64 5, .int .u64 x] w fun e w' => e = .returned (.int .u64 (cut 5 x)) ∧ w = w' := by
  have h0 : 0 ≤ x := hx.1
  by_cases h : x ≤ 1
  · have e : cut 5 x = x := by rw [cut_5]; split <;> omega
    rw [e]
    clear e hx
    go_enter Tryz.func27, Tryz.ntmps27
    go_wp2
    all_goals
      go_ret
      exact ⟨rfl, rfl⟩
  · have e : cut 5 x = 1 := by rw [cut_5]; split <;> omega
    have h' : 1 < x := by omega
    rw [e]
    clear e hx h
    go_enter Tryz.func27, Tryz.ntmps27
    go_wp2
    all_goals
      go_ret
      exact ⟨rfl, rfl⟩

theorem narrow_any (k x : Int) (hk : isK k = true) (hx : U64 x) (w : World) : Calls Tryz.prog 27 #[.int .i64 k, .int .u64 x] w fun e w' => e = .returned (.int .u64 (cut k x)) ∧ w = w' := by
  have e64 : x % 18446744073709551616 = x := by unfold U64 at hx; omega
  rcases isK_cases hk with rfl | rfl | rfl | rfl | rfl | rfl
  · refine (narrow_32 1 (by omega) x w).mono ?_; rintro e w' ⟨rfl, rfl⟩; exact ⟨rfl, rfl⟩
  · refine (narrow_64 2 (by omega) x w).mono ?_; rintro e w' ⟨rfl, rfl⟩; rw [cut_2, e64]; exact ⟨rfl, rfl⟩
  · refine (narrow_32 3 (by omega) x w).mono ?_; rintro e w' ⟨rfl, rfl⟩; exact ⟨rfl, rfl⟩
  · refine (narrow_64 4 (by omega) x w).mono ?_; rintro e w' ⟨rfl, rfl⟩; rw [cut_4, e64]; exact ⟨rfl, rfl⟩
  · exact narrow_bool x hx w
  · refine (narrow_64 6 (by omega) x w).mono ?_; rintro e w' ⟨rfl, rfl⟩; rw [cut_6, e64]; exact ⟨rfl, rfl⟩

/-- The number and the error of Narrow. -/
def nv (k x : Int) : Int := if isK k then cut k x else 0
def ne (k : Int) : Int := if isK k then 0 else 5

theorem refNarrow_any (k x : Int) (hx : U64 x) (w : World) : Calls Tryz.prog 7 #[.int .i64 k, .int .u64 x] w fun e w' => e = .returned (.tuple #[.int .u64 (nv k x), .int .i64 (ne k)]) ∧ w = w' := by
  by_cases hk : isK k = true
  · rw [show nv k x = cut k x from by simp [nv, hk], show ne k = 0 from by simp [ne, hk]]
    have H : Hid _ := refCut_any k x hx
    go_enter Tryz.func7, Tryz.ntmps7
    go_wp2_with (first | (go_at_call 24; refine (refIs_any _ _).mono ?_; rintro e w' ⟨rfl, rfl⟩) | (go_at_call 25; refine Calls.mono (H.out _) ?_; rintro e w' ⟨rfl, rfl⟩))
    go_ret2
    exact ⟨rfl, rfl⟩
  · have hk' : isK k = false := by simpa using hk
    rw [show nv k x = 0 from by simp [nv, hk], show ne k = 5 from by simp [ne, hk]]
    go_enter Tryz.func7, Tryz.ntmps7
    go_wp2_with (first | (go_at_call 24; refine (refIs_any _ _).mono ?_; rintro e w' ⟨rfl, rfl⟩))
    go_ret2
    exact ⟨rfl, rfl⟩

theorem wordNarrow_any (k x : Int) (hx : U64 x) (w : World) : Calls Tryz.prog 8 #[.int .i64 k, .int .u64 x] w fun e w' => e = .returned (.tuple #[.int .u64 (nv k x), .int .i64 (ne k)]) ∧ w = w' := by
  by_cases hk : isK k = true
  · rw [show nv k x = cut k x from by simp [nv, hk], show ne k = 0 from by simp [ne, hk]]
    have H : Hid _ := narrow_any k x hk hx
    go_enter Tryz.func8, Tryz.ntmps8
    go_wp2_with (first | (go_at_call 26; refine (isKind_any _ _).mono ?_; rintro e w' ⟨rfl, rfl⟩) | (go_at_call 27; refine Calls.mono (H.out _) ?_; rintro e w' ⟨rfl, rfl⟩))
    go_ret2
    exact ⟨rfl, rfl⟩
  · have hk' : isK k = false := by simpa using hk
    rw [show nv k x = 0 from by simp [nv, hk], show ne k = 5 from by simp [ne, hk]]
    go_enter Tryz.func8, Tryz.ntmps8
    go_wp2_with (first | (go_at_call 26; refine (isKind_any _ _).mono ?_; rintro e w' ⟨rfl, rfl⟩))
    go_ret2
    exact ⟨rfl, rfl⟩

theorem wrap_u64 (n : Int) : U64 (IntKind.u64.wrap n) := by rw [IntKind.wrap_u64]; unfold U64; omega

theorem refOf_any (k n : Int) (w : World) : Calls Tryz.prog 9 #[.int .i64 k, .int .i64 n] w fun e w' => e = .returned (.tuple #[.int .u64 (nv k (IntKind.u64.wrap n)), .int .i64 (ne k)]) ∧ w = w' := by
  have H : Hid _ := refNarrow_any k (IntKind.u64.wrap n) (wrap_u64 n)
  go_enter Tryz.func9, Tryz.ntmps9
  go_wp2_with (first | (go_at_call 7; refine Calls.mono (H.out _) ?_; rintro e w' ⟨rfl, rfl⟩))
  go_ret2
  exact ⟨rfl, rfl⟩
theorem wordOf_any (k n : Int) (w : World) : Calls Tryz.prog 10 #[.int .i64 k, .int .i64 n] w fun e w' => e = .returned (.tuple #[.int .u64 (nv k (IntKind.u64.wrap n)), .int .i64 (ne k)]) ∧ w = w' := by
  have H : Hid _ := wordNarrow_any k (IntKind.u64.wrap n) (wrap_u64 n)
  go_enter Tryz.func10, Tryz.ntmps10
  go_wp2_with (first | (go_at_call 8; refine Calls.mono (H.out _) ?_; rintro e w' ⟨rfl, rfl⟩))
  go_ret2
  exact ⟨rfl, rfl⟩
end Go.Proofs.YtieanmpldcibcaaGreat

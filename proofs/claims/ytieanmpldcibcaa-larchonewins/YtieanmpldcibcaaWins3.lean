/- The walk of LarchOneWins where there is no access. -/
import Derived.Test.YtieanmpldcibcaaWins
namespace Go.Proofs.Ytieanmpldcibcaa
open Go.RowKit

theorem acts_zero (W : World) (b : Option Addr) : Acts W b 0 0 0 (fun _ => 0) (fun _ => 0) (fun _ => 0) := ⟨fun h => absurd rfl h, fun h => absurd rfl h, fun i hi => by omega, fun i hi => by omega, by unfold maxLen; omega⟩

set_option maxRecDepth 100000 in
set_option maxHeartbeats 1000000 in
theorem wins_zero (k start : Int) (hs : U64 start) (cap : Nat) (w : World) (base : Option Addr) (hbc : base = none ∧ cap = 0 ∨ ∃ a, base = some a) (he : isK k = true) :
    Calls Try.prog 4 #[.int .i64 k, .int .u64 start, .slice base 0 cap] w fun e w' => e = .returned (.bool true) ∧ Below w.heap.size w w' := by
  have hr : rowErr k 0 (fun _ => 0) = 0 := rowErr_none he (by omega) rfl
  have HD : Hid (∀ (b : Option Addr) (c : Nat) (W : World), Calls Try.prog 7 #[.int .i64 k, .int .u64 start, .slice b 0 c] W fun e w' => ∃ bo, e = .returned (.tuple #[.slice (some ⟨bo, 0, none⟩) 0 0, .int .u64 (cut k start), .int .i64 0]) ∧ Below W.heap.size W w') := by
    intro b c W
    refine (Do_ok k start hs 0 0 0 c (fun _ => 0) (fun _ => 0) (fun _ => 0) W b (acts_zero W b) hr).mono ?_
    rintro e w' ⟨bo, rfl, _, _, hb, _⟩
    exact ⟨bo, rfl, hb⟩
  have HS : Hid (∀ (b : Option Addr) (c : Nat) (W : World), Calls Try.prog 9 #[.int .i64 k, .int .u64 start, .slice b 0 c] W fun e w' => ∃ bo, e = .returned (.tuple #[.slice (some ⟨bo, 0, none⟩) 0 0, .int .i64 0]) ∧ Below W.heap.size W w') := by
    intro b c W
    refine (Steps_ok k start hs 0 0 0 c (fun _ => 0) (fun _ => 0) (fun _ => 0) W b (acts_zero W b) hr).mono ?_
    rintro e w' ⟨bo, rfl, _, _, hb, _⟩
    exact ⟨bo, rfl, hb⟩
  clear hr he
  rcases hbc with ⟨rfl, rfl⟩ | ⟨a, rfl⟩
  all_goals
    go_enter Try.func4, Try.ntmps4
    go_wp2_with fail
    refine (Do_two w _ rfl _).mono ?_
    rintro e w1 ⟨bo, rfl, q2, hb1, x1, x2⟩
    go_wp2_with fail
    refine Calls.mono (HD.out _ _ _) ?_
    rintro e w2 ⟨bp, rfl, hb2⟩
    go_wp2_with fail
    refine Calls.mono (HS.out _ _ _) ?_
    rintro e w3 ⟨bs, rfl, hb3⟩
    have hB1 : Below w.heap.size w (w1.alloc (.cells #[] 38)) := hb1.alloc hb1.size _
    have hB2 : Below w.heap.size w w2 := hB1.trans (hb2.mono hB1.size)
    have hB2' : Below w.heap.size w (w2.alloc (.cells #[] 38)) := hB2.alloc hB2.size _
    have HB : Hid _ := hB2'.trans (hb3.mono hB2'.size)
    clear hB1 hB2 hB2' hb1 hb2 hb3 x1 x2 q2
    go_wp2_with (first | (go_at_call 10; refine (topWrap_any k start hs _).mono ?_; rintro e w' ⟨rfl, rfl⟩))
    refine wp_loop_rounds 1 ?_
    rw [rounds_succ]
    go_wp2
    go_ret
    exact ⟨by simp, HB.out⟩

set_option maxRecDepth 100000 in
set_option maxHeartbeats 1000000 in
theorem wins_zero_err (k start : Int) (cap : Nat) (w : World) (base : Option Addr) (hbc : base = none ∧ cap = 0 ∨ ∃ a, base = some a) (he : isK k = false) :
    Calls Try.prog 4 #[.int .i64 k, .int .u64 start, .slice base 0 cap] w fun e w' => e = .returned (.bool true) ∧ Below w.heap.size w w' := by
  have hr : rowErr k 0 (fun _ => 0) = 5 := rowErr_kind he
  have HD : Hid (∀ (b : Option Addr) (c : Nat) (W : World), Calls Try.prog 7 #[.int .i64 k, .int .u64 start, .slice b 0 c] W fun e w' => e = .returned (.tuple #[.slice none 0 0, .int .u64 0, .int .i64 5]) ∧ Below W.heap.size W w') := by
    intro b c W
    have := Do_err k start 0 0 0 c (fun _ => 0) (fun _ => 0) (fun _ => 0) W b (acts_zero W b) (by rw [hr]; decide)
    rw [hr] at this
    exact this
  have HS : Hid (∀ (b : Option Addr) (c : Nat) (W : World), Calls Try.prog 9 #[.int .i64 k, .int .u64 start, .slice b 0 c] W fun e w' => e = .returned (.tuple #[.slice none 0 0, .int .i64 5]) ∧ Below W.heap.size W w') := by
    intro b c W
    have := Steps_err k start 0 0 0 c (fun _ => 0) (fun _ => 0) (fun _ => 0) W b (acts_zero W b) (by rw [hr]; decide)
    rw [hr] at this
    exact this
  clear hr he
  rcases hbc with ⟨rfl, rfl⟩ | ⟨a, rfl⟩
  all_goals
    go_enter Try.func4, Try.ntmps4
    go_wp2_with fail
    refine (Do_two w _ rfl _).mono ?_
    rintro e w1 ⟨bo, rfl, q2, hb1, x1, x2⟩
    go_wp2_with fail
    refine Calls.mono (HD.out _ _ _) ?_
    rintro e w2 ⟨rfl, hb2⟩
    go_wp2_with fail
    refine Calls.mono (HS.out _ _ _) ?_
    rintro e w3 ⟨rfl, hb3⟩
    have hB1 : Below w.heap.size w (w1.alloc (.cells #[] 38)) := hb1.alloc hb1.size _
    have hB2 : Below w.heap.size w w2 := hB1.trans (hb2.mono hB1.size)
    have hB2' : Below w.heap.size w (w2.alloc (.cells #[] 38)) := hB2.alloc hB2.size _
    have HB : Hid _ := hB2'.trans (hb3.mono hB2'.size)
    clear hB1 hB2 hB2' hb1 hb2 hb3 x1 x2 q2
    go_wp2
    go_ret
    exact ⟨by simp, HB.out⟩
end Go.Proofs.Ytieanmpldcibcaa

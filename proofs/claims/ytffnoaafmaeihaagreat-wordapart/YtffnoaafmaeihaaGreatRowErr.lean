/- What word's isKind, hasAccess and rowError answer. -/
import Derived.Test.YtffnoaafmaeihaaGreatSpec
namespace Go.Proofs.YtffnoaafmaeihaaGreat
open Go.RowKit

theorem isKind_any (k : Int) (w : World) : Calls Tryz.prog 21 #[.int .i64 k] w fun e w' => e = .returned (.bool (isK k)) ∧ w = w' := by
  by_cases h1 : 1 ≤ k
  · by_cases h2 : k ≤ 6
    · have e : isK k = true := by simp [isK, h1, h2]
      rw [e]
      go_enter Tryz.func21, Tryz.ntmps21
      go_wp2
      go_ret
      exact ⟨by simp, rfl⟩
    · have e : isK k = false := by simp [isK, h2]
      rw [e]
      go_enter Tryz.func21, Tryz.ntmps21
      go_wp2
      go_ret
      exact ⟨by simp, rfl⟩
  · have e : isK k = false := by simp [isK, h1]
    rw [e]
    go_enter Tryz.func21, Tryz.ntmps21
    go_wp2
    go_ret
    exact ⟨by simp, rfl⟩

set_option maxHeartbeats 400000 in
theorem hasAccess_any (k d : Int) (w : World) : Calls Tryz.prog 22 #[.int .i64 k, .int .i64 d] w fun e w' => e = .returned (.bool (can k d)) ∧ w = w' := by
  go_enter Tryz.func22, Tryz.ntmps22
  go_wp2
  all_goals
    go_ret
    exact ⟨by simp [can, *], rfl⟩

set_option maxHeartbeats 400000 in
theorem rowError_any (k : Int) (ab ao n cap : Nat) (dk da db : Nat → Int) (w : World) (base : Option Addr) (hbase : n ≠ 0 → base = some ⟨ab, ao, none⟩) (hab : n ≠ 0 → ab < w.heap.size)
    (hcells : ∀ i, i < n → w.cell? ⟨ab, ao + i * 3, none⟩ = some (.int .i64 (dk i)) ∧ w.cell? ⟨ab, ao + i * 3 + 1, none⟩ = some (.int .u64 (da i)) ∧ w.cell? ⟨ab, ao + i * 3 + 2, none⟩ = some (.int .u64 (db i))) (hn : n ≤ maxLen) :
    Calls Tryz.prog 16 #[.int .i64 k, .slice base n cap] w fun e w' => e = .returned (.int .i64 (rowErr k n dk)) ∧ Below w.heap.size w w' := by
  unfold maxLen at hn
  by_cases h1 : isK k = true
  · by_cases h2 : 10000 < n
    · have e := rowErr_big (dk := dk) h1 h2
      rw [e]
      go_enter Tryz.func16, Tryz.ntmps16
      go_wp2_with (go_at_call 21; refine (isKind_any _ _).mono ?_; rintro e w' ⟨rfl, rfl⟩)
      go_ret
      exact ⟨rfl, Below.refl _ _⟩
    · go_enter Tryz.func16, Tryz.ntmps16
      go_wp2_with (go_at_call 21; refine (isKind_any _ _).mono ?_; rintro e w' ⟨rfl, rfl⟩)
      go_loopw [15] (fun i wr => ∃ j : Nat, j ≤ n ∧ i = .int .i64 j ∧ Below w.heap.size w wr ∧ allCan k dk j = true) (fun i _ => n - (intOf i).toNat)
      case atStart => exact ⟨0, Nat.zero_le _, rfl, Below.refl _ _, rfl⟩
      case round =>
        obtain ⟨j, hj, rfl, hnx, hall⟩ := hrel
        by_cases hlt : j < n
        · obtain rfl : base = some ⟨ab, ao, none⟩ := hbase (by omega)
          obtain ⟨c0, c1, c2⟩ := hcells j hlt
          have hA : ab < w.heap.size := hab (by omega)
          have d0 : wr.cell? ⟨ab, ao + j * 3, none⟩ = some (.int .i64 (dk j)) := (hnx.cell (p := ⟨ab, ao + j * 3, none⟩) hA).trans c0
          have d1 : wr.cell? ⟨ab, ao + j * 3 + 1, none⟩ = some (.int .u64 (da j)) := (hnx.cell (p := ⟨ab, ao + j * 3 + 1, none⟩) hA).trans c1
          have d2 : wr.cell? ⟨ab, ao + j * 3 + 1 + 1, none⟩ = some (.int .u64 (db j)) := (hnx.cell (p := ⟨ab, ao + j * 3 + 2, none⟩) hA).trans c2
          clear hcells c0 c1 c2 hbase hab
          go_wp2_with (go_at_call 22; refine (hasAccess_any _ _ _).mono ?_; rintro e w' ⟨rfl, rfl⟩)
          · have hcan : can k (dk j) = false := by simpa using ‹(!can k (dk j)) = true›
            have e := rowErr_act (n := n) h1 h2 (allCan_not hlt hcan)
            go_ret
            exact ⟨by simp [e], hnx.alloc hnx.size _⟩
          · have hcan : can k (dk j) = true := by simpa using ‹(!can k (dk j)) = false›
            exact ⟨⟨j + 1, by omega, by go_num, hnx.alloc hnx.size _, by simp [allCan, hall, hcan]⟩, by simp [intOf]; omega⟩
        · have hjn : j = n := by omega
          subst hjn
          have e := rowErr_none h1 h2 hall
          have he : Hid (rowErr k j dk = 0) := e
          clear e
          go_wp2
          go_ret
          exact ⟨by rw [he.out]; rfl, hnx⟩
  · have h1' : isK k = false := by simpa using h1
    have e := rowErr_kind (n := n) (dk := dk) h1'
    rw [e]
    go_enter Tryz.func16, Tryz.ntmps16
    go_wp2_with (go_at_call 21; refine (isKind_any _ _).mono ?_; rintro e w' ⟨rfl, rfl⟩)
    go_ret
    exact ⟨rfl, Below.refl _ _⟩
end Go.Proofs.YtffnoaafmaeihaaGreat

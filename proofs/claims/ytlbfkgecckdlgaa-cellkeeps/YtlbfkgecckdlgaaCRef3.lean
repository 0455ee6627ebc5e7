/- Layer 2: the reference's Bad and kinds. -/
import Derived.Test.YtlbfkgecckdlgaaCRef2
namespace Go.Proofs.Ytlbfkgecckdlgaa
open Go.RowKit

set_option maxRecDepth 100000 in
set_option maxHeartbeats 1000000 in
theorem bad_any (m ab ao n cap : Nat) (dk di da db : Nat → Int) (w : World) (base : Option Addr) (h : CActs w base ab ao n dk di da db) :
    Calls Try.prog 48 #[.int .i64 m, .slice base n cap] w fun e w' => e = .returned (.int .i64 (frst (fun j => nmErr (dk j) (di j) m) n)) ∧ w = w' := by
  have hn := h.len
  unfold maxLen at hn
  have HA : Hid _ := h
  clear h
  go_enter Try.func48, Try.ntmps48
  go_wp2
  go_loop [5] (fun i => ∃ j : Nat, j ≤ n ∧ i = .int .i64 j ∧ frst (fun j => nmErr (dk j) (di j) m) j = 0) (fun i => n - (intOf i).toNat)
  case atStart => exact ⟨0, Nat.zero_le _, rfl, rfl⟩
  case round =>
    obtain ⟨j, hj, rfl, hall⟩ := hrel
    by_cases hlt : j < n
    · obtain rfl : base = some ⟨ab, ao, none⟩ := HA.out.base (by omega)
      obtain ⟨c0, c1, _, _⟩ := HA.out.cells j hlt
      have j0 : (0 : Int) ≤ (j : Int) := Int.natCast_nonneg _
      have j1 : (j : Int) < (n : Int) := by omega
      have F0 : ∀ v, nmErr (dk j) (di j) m = v → v ≠ 0 → frst (fun j => nmErr (dk j) (di j) m) n = v := fun v hv h0 => (frst_at (f := fun j => nmErr (dk j) (di j) m) hall (by rw [hv]; exact h0) hlt).trans hv
      by_cases h1 : dk j < 1
      · have F : Hid _ := F0 5 (by simp [nmErr, h1]) (by omega)
        clear F0 hall
        go_wp2
        go_ret
        exact ⟨by rw [F.out]; rfl, rfl⟩
      · by_cases h2 : 7 < dk j
        · have F : Hid _ := F0 5 (by simp [nmErr, h2]) (by omega)
          clear F0 hall
          go_wp2
          go_ret
          exact ⟨by rw [F.out]; rfl, rfl⟩
        · by_cases h3 : di j < 0
          · have F : Hid _ := F0 1 (by unfold nmErr; rw [if_neg (by omega)]; simp [plErr, h3]) (by omega)
            clear F0 hall
            go_wp2
            go_ret
            exact ⟨by rw [F.out]; rfl, rfl⟩
          · by_cases h4 : (m : Int) ≤ di j
            · have F : Hid _ := F0 1 (by unfold nmErr; rw [if_neg (by omega)]; simp [plErr, h4]) (by omega)
              clear F0 hall
              go_wp2
              go_ret
              exact ⟨by rw [F.out]; rfl, rfl⟩
            · have F : Hid (frst (fun j => nmErr (dk j) (di j) m) (j + 1) = 0) := by
                show frst (fun j => nmErr (dk j) (di j) m) (j + 1) = 0
                have e : nmErr (dk j) (di j) m = 0 := by unfold nmErr; rw [if_neg (by omega)]; unfold plErr; rw [if_neg (by omega)]
                simp [frst, hall, e]
              clear F0 hall
              go_wp2
              exact ⟨⟨j + 1, by omega, by go_num, F.out⟩, by simp [intOf]; omega⟩
    · have hjn : j = n := by omega
      subst hjn
      have he : Hid _ := hall
      clear hall
      go_wp2
      go_ret
      exact ⟨by rw [he.out]; rfl, rfl⟩

set_option maxRecDepth 100000 in
set_option maxHeartbeats 1000000 in
theorem rkinds_any (ab ao n cap : Nat) (dk di da db : Nat → Int) (w : World) (base : Option Addr) (h : CActs w base ab ao n dk di da db) (hb8 : n * 8 ≤ 140737488355328) :
    Calls Try.prog 50 #[.slice base n cap] w fun e w' => ∃ v, e = .returned v ∧ Below w.heap.size w w' ∧ w'.ownsRow w.heap.size 3 1 v n ((List.range n).map fun j => .int .i64 (dk j)) := by
  obtain ⟨i0, hi0, hz0, hz1, hz2⟩ := info_parts int_info
  have hn := h.len
  unfold maxLen at hn
  have HA : Hid _ := h
  clear h
  go_enter Try.func50, Try.ntmps50
  go_wp2
  go_loopw [3, 4] (fun v i wr => ∃ j : Nat, j ≤ n ∧ i = .int .i64 j ∧ Below w.heap.size w wr ∧ wr.ownsRow w.heap.size 3 1 v j ((List.range j).map fun j => .int .i64 (dk j))) (fun _ i _ => n - (intOf i).toNat)
  case atStart => exact ⟨0, Nat.zero_le _, rfl, Below.refl _ _, World.ownsRow_nil _ _ _ _⟩
  case round =>
    obtain ⟨j, hj, rfl, hnx, hown⟩ := hrel
    by_cases hlt : j < n
    · obtain rfl : base = some ⟨ab, ao, none⟩ := HA.out.base (by omega)
      obtain ⟨c0, _, _, _⟩ := HA.out.cells j hlt
      have hA : ab < w.heap.size := HA.out.lt (by omega)
      have d0 : wr.cell? ⟨ab, ao + j * 4, none⟩ = some (.int .i64 (dk j)) := (hnx.cell (p := ⟨ab, ao + j * 4, none⟩) hA).trans c0
      have j0 : (0 : Int) ≤ (j : Int) := Int.natCast_nonneg _
      have j1 : (j : Int) < (n : Int) := by omega
      have s1 := hnx.size
      have HX : Hid _ := hnx
      clear c0 hnx
      go_wp2_with (first | (at_builtin; (refine wpList_append_lies _ (by rfl) _ _ _ (by rfl) w.heap.size 3 i0 _ 1 8 ints_under hi0 hz0 hz1 hz2 rfl (by omega) _ j _ (by rfl) (hown.alloc _) ⟨wr.heap.size, 0, none⟩ 1 1 [.int .i64 (dk j)] (by rfl) (by rfl) (World.news_of_block (cs := #[.int .i64 (dk j)]) (t := 3) (fr := (0, 0)) (heap_alloc_at _ _ _ (by simp))) (by simp [Value.oneCell']) (by omega) (by unfold maxLen; omega) (by omega) (by simp; omega) (wr.heap.size + 1) (by simp) ?_); intro gg cap w3 hown3 hgrow hat hlt3))
      exact ⟨⟨j + 1, by omega, by go_num, Below.grown (HX.out.alloc s1 _) hgrow (by simp; omega) (owns_ge hown), by rw [List.range_succ, List.map_append]; exact hown3⟩, by simp [intOf]; omega⟩
    · obtain rfl : j = n := by omega
      go_wp2
      go_ret
      exact ⟨_, rfl, hnx, hown⟩
end Go.Proofs.Ytlbfkgecckdlgaa

/- What the reference's Steps answers, what it and Do answer where they refuse; are and words over equal lists. -/
import Derived.Test.YtffnoaafmaeihaaGreatRefDo2
namespace Go.Proofs.YtffnoaafmaeihaaGreat
open Go.RowKit

set_option maxRecDepth 100000 in
set_option maxHeartbeats 3200000 in
theorem refSteps_ok (k start : Int) (hs : U64 start) (ab ao n cap : Nat) (dk da db : Nat → Int) (w : World) (base : Option Addr) (h : Acts w base ab ao n dk da db) (he : rowErr k n dk = 0) :
    Calls Tryz.prog 10 #[.int .i64 k, .int .u64 start, .slice base n cap] w fun e w' => ∃ v, e = .returned (.tuple #[v, .int .i64 0]) ∧ Below w.heap.size w w' ∧ w'.ownsRow w.heap.size 22 1 v n (numCells (fun j => st k start dk da db (j + 1)) n) := by
  obtain ⟨h1, h2, h3⟩ := rowErr_zero he
  obtain ⟨i0, hi0, hz0, hz1, hz2⟩ := info_parts num_info
  have HK : Hid _ := asked_any k ab ao n cap dk da db w base h
  have HE : Hid _ := he
  have HC : Hid _ := refCut_any k start hs
  have HA : Hid _ := h
  clear h he hs
  go_enter Tryz.func10, Tryz.ntmps10
  go_wp2_with (first | (go_at_call 13; refine Calls.mono HK.out ?_; rw [HE.out]; rintro e w' ⟨rfl, rfl⟩) | (go_at_call 14; refine Calls.mono (HC.out _) ?_; rintro e w' ⟨rfl, rfl⟩))
  go_loopw [9, 10, 11] (fun v o i wr => ∃ j : Nat, j ≤ n ∧ i = .int .i64 j ∧ v = .int .u64 (st k start dk da db j) ∧ Below w.heap.size w wr ∧ wr.ownsRow w.heap.size 22 1 o j (numCells (fun j => st k start dk da db (j + 1)) j)) (fun _ _ i _ => n - (intOf i).toNat)
  case atStart => exact ⟨0, Nat.zero_le _, rfl, rfl, Below.refl _ _, World.ownsRow_nil _ _ _ _⟩
  case round =>
    obtain ⟨j, hj, rfl, rfl, hnx, hown⟩ := hrel
    by_cases hlt : j < n
    · obtain rfl : base = some ⟨ab, ao, none⟩ := HA.out.base (by omega)
      obtain ⟨c0, c1, c2⟩ := HA.out.cells j hlt
      obtain ⟨ua, ub⟩ := HA.out.u64 j hlt
      have hA : ab < w.heap.size := HA.out.lt (by omega)
      have d0 : wr.cell? ⟨ab, ao + j * 3, none⟩ = some (.int .i64 (dk j)) := (hnx.cell (p := ⟨ab, ao + j * 3, none⟩) hA).trans c0
      have d1 : wr.cell? ⟨ab, ao + j * 3 + 1, none⟩ = some (.int .u64 (da j)) := (hnx.cell (p := ⟨ab, ao + j * 3 + 1, none⟩) hA).trans c1
      have d2 : wr.cell? ⟨ab, ao + j * 3 + 1 + 1, none⟩ = some (.int .u64 (db j)) := (hnx.cell (p := ⟨ab, ao + j * 3 + 2, none⟩) hA).trans c2
      have j0 : (0 : Int) ≤ (j : Int) := Int.natCast_nonneg _
      have j1 : (j : Int) < (n : Int) := by omega
      have HO : Hid _ := refOne_any k (st k start dk da db j) (dk j) (da j) (db j) (Cn_st h3 j (by omega)) ua ub (allCan_of h3 j hlt)
      have HX : Hid _ := hnx
      have hown' := hown
      clear c0 c1 c2 ua ub hnx hown HK HE HC
      go_wp2_with fail
      refine Calls.mono (HO.out _) ?_
      rintro e w2 ⟨rfl, hb2⟩
      have hB2 : Below w.heap.size w w2 := HX.out.trans (hb2.mono HX.out.size)
      have hO2 := owns_below hown' hb2
      have s2 : w.heap.size ≤ w2.heap.size := hB2.size
      have HB2 : Hid _ := hB2
      clear d0 d1 d2 hb2 hB2 HO hown'
      go_wp2_with (first | (at_builtin; (refine wpList_append_lies _ (by rfl) _ _ _ (by rfl) w.heap.size 22 i0 _ 1 8 nums_under hi0 hz0 hz1 hz2 rfl (by omega) _ j _ (by rfl) (hO2.alloc _) ⟨w2.heap.size, 0, none⟩ 1 1 [.int .u64 (nx k (st k start dk da db j) (dk j) (da j) (db j))] (by rfl) (by rfl) (World.news_of_block (cs := #[.int .u64 (nx k (st k start dk da db j) (dk j) (da j) (db j))]) (t := 22) (fr := (0, 0)) (heap_alloc_at _ _ _ (by simp))) (by simp [Value.oneCell']) (by omega) (by unfold maxLen; omega) (by omega) (by simp; omega) (w2.heap.size + 1) (by simp) ?_); intro gg cap w3 hown3 hgrow hat hlt3))
      have hB3 : Below w.heap.size w w3 := Below.grown (HB2.out.alloc s2 _) hgrow (by simp; omega) (ownB hO2)
      have HB3 : Hid _ := hB3
      clear hB3
      go_wp2
      exact ⟨⟨j + 1, by omega, by go_num, rfl, HB3.out, hown3⟩, by simp [intOf]; omega⟩
    · obtain rfl : j = n := by omega
      go_wp2
      go_ret2
      exact ⟨_, rfl, hnx, hown⟩

theorem refDo_err (k start : Int) (ab ao n cap : Nat) (dk da db : Nat → Int) (w : World) (base : Option Addr) (h : Acts w base ab ao n dk da db) (he : ¬ rowErr k n dk = 0) :
    Calls Tryz.prog 6 #[.int .i64 k, .int .u64 start, .slice base n cap] w fun e w' => e = .returned (.tuple #[.slice none 0 0, .int .u64 0, .int .i64 (rowErr k n dk)]) ∧ w = w' := by
  have hc := asked_any k ab ao n cap dk da db w base h
  generalize rowErr k n dk = E at hc he ⊢
  have he' : (E != 0) = true := bne_iff_ne.2 he
  have HC : Hid _ := hc
  clear hc h he
  go_enter Tryz.func6, Tryz.ntmps6
  go_wp2_with (first | (go_at_call 13; refine Calls.mono (Hid.out HC) ?_; rintro e w1 ⟨rfl, rfl⟩))
  go_ret3
  exact ⟨rfl, rfl⟩
theorem refSteps_err (k start : Int) (ab ao n cap : Nat) (dk da db : Nat → Int) (w : World) (base : Option Addr) (h : Acts w base ab ao n dk da db) (he : ¬ rowErr k n dk = 0) :
    Calls Tryz.prog 10 #[.int .i64 k, .int .u64 start, .slice base n cap] w fun e w' => e = .returned (.tuple #[.slice none 0 0, .int .i64 (rowErr k n dk)]) ∧ w = w' := by
  have hc := asked_any k ab ao n cap dk da db w base h
  generalize rowErr k n dk = E at hc he ⊢
  have he' : (E != 0) = true := bne_iff_ne.2 he
  have HC : Hid _ := hc
  clear hc h he
  go_enter Tryz.func10, Tryz.ntmps10
  go_wp2_with (first | (go_at_call 13; refine Calls.mono (Hid.out HC) ?_; rintro e w1 ⟨rfl, rfl⟩))
  go_ret2
  exact ⟨rfl, rfl⟩

set_option maxRecDepth 100000 in
set_option maxHeartbeats 1000000 in
theorem are_same (g1 g2 n c1 c2 : Nat) (b1 b2 : Option Addr) (O : Nat → Int) (V : Nat → Bool) (w : World) (h1 : OutsAt w b1 g1 n O V) (h2 : OutsAt w b2 g2 n O V) (hn : n ≤ 10000) :
    Calls Tryz.prog 9 #[.slice b1 n c1, .slice b2 n c2] w fun e w' => e = .returned (.bool true) ∧ Below w.heap.size w w' := by
  have H1 : Hid _ := h1
  have H2 : Hid _ := h2
  clear h1 h2
  go_enter Tryz.func9, Tryz.ntmps9
  go_wp2
  go_loopw [5] (fun i wr => ∃ j : Nat, j ≤ n ∧ i = .int .i64 j ∧ Below w.heap.size w wr) (fun i _ => n - (intOf i).toNat)
  case atStart => exact ⟨0, Nat.zero_le _, rfl, Below.refl _ _⟩
  case round =>
    obtain ⟨j, hj, rfl, hnx⟩ := hrel
    by_cases hlt : j < n
    · obtain rfl : b1 = some ⟨g1, 0, none⟩ := H1.out.base (by omega)
      obtain rfl : b2 = some ⟨g2, 0, none⟩ := H2.out.base (by omega)
      obtain ⟨x0, x1⟩ := (H1.out.below hnx).cells j hlt
      obtain ⟨y0, y1⟩ := (H2.out.below hnx).cells j hlt
      have j0 : (0 : Int) ≤ (j : Int) := Int.natCast_nonneg _
      have j1 : (j : Int) < (n : Int) := by omega
      have HX : Hid _ := hnx
      clear hnx
      go_wp2_with fail
      go_quiet (fail)
      go_wp2
      exact ⟨⟨j + 1, by omega, by go_num, below_drewN HX.out _⟩, by simp [intOf]; omega⟩
    · obtain rfl : j = n := by omega
      go_wp2
      go_ret
      exact ⟨rfl, hnx⟩

set_option maxRecDepth 100000 in
set_option maxHeartbeats 1000000 in
theorem words_same (g1 g2 n c1 c2 : Nat) (b1 b2 : Option Addr) (O : Nat → Int) (w : World) (h1 : NumsAt w b1 g1 n O) (h2 : NumsAt w b2 g2 n O) (hn : n ≤ 10000) :
    Calls Tryz.prog 12 #[.slice b1 n c1, .slice b2 n c2] w fun e w' => e = .returned (.bool true) ∧ Below w.heap.size w w' := by
  have H1 : Hid _ := h1
  have H2 : Hid _ := h2
  clear h1 h2
  go_enter Tryz.func12, Tryz.ntmps12
  go_wp2
  go_loopw [5] (fun i wr => ∃ j : Nat, j ≤ n ∧ i = .int .i64 j ∧ Below w.heap.size w wr) (fun i _ => n - (intOf i).toNat)
  case atStart => exact ⟨0, Nat.zero_le _, rfl, Below.refl _ _⟩
  case round =>
    obtain ⟨j, hj, rfl, hnx⟩ := hrel
    by_cases hlt : j < n
    · obtain rfl : b1 = some ⟨g1, 0, none⟩ := H1.out.base (by omega)
      obtain rfl : b2 = some ⟨g2, 0, none⟩ := H2.out.base (by omega)
      have x0 := (H1.out.below hnx).cells j hlt
      have y0 := (H2.out.below hnx).cells j hlt
      have j0 : (0 : Int) ≤ (j : Int) := Int.natCast_nonneg _
      have j1 : (j : Int) < (n : Int) := by omega
      have HX : Hid _ := hnx
      clear hnx
      go_wp2_with fail
      go_quiet (fail)
      go_wp2
      exact ⟨⟨j + 1, by omega, by go_num, below_drewN HX.out _⟩, by simp [intOf]; omega⟩
    · obtain rfl : j = n := by omega
      go_wp2
      go_ret
      exact ⟨rfl, hnx⟩
end Go.Proofs.YtffnoaafmaeihaaGreat

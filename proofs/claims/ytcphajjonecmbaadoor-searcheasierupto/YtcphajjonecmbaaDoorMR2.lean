
/- Layer 6: the reference's Inside and with. -/

import Derived.Test.YtcphajjonecmbaaDoorMR1

namespace Go.Proofs.YtcphajjonecmbaaDoor

open Go.RowKit

theorem pair_snoc (ps : PL) (k v : Int) : pairCells (ps ++ [(k, v)]) = pairCells ps ++ [.int .i64 k, .int .i64 v] := by rw [pairCells_append]; rfl

set_option maxRecDepth 100000 in
set_option maxHeartbeats 2000000 in
theorem inside_any (base : Option Addr) (b o c : Nat) (ps : PL) (lo hi : Int) (w : World) (h : PairsAt w base b o ps) (hby : ps.length * 16 ≤ 140737488355328) :
    Calls Tryd.prog 127 #[.slice base ps.length c, .int .i64 lo, .int .i64 hi] w fun e w' => ∃ v, e = .returned v ∧ Below w.heap.size w w' ∧ w'.ownsRow w.heap.size 93 2 v (inL lo hi ps).length (pairCells (inL lo hi ps)) := by
  obtain ⟨i0, hi0, hz0, hz1, hz2⟩ := info_parts pr_infoM
  have hl := h.len
  unfold maxLen at hl
  have HA : Hid _ := h
  clear h
  go_enter Tryd.func127, Tryd.ntmps127
  go_wp2_with fail
  go_loopw [7, 8] (fun v i wr => ∃ j : Nat, j ≤ ps.length ∧ i = .int .i64 j ∧ Below w.heap.size w wr ∧ wr.ownsRow w.heap.size 93 2 v (insideN ps lo hi j).length (pairCells (insideN ps lo hi j))) (fun _ i _ => ps.length - (intOf i).toNat)
  case atStart => exact ⟨0, Nat.zero_le _, rfl, Below.refl _ _, World.ownsRow_nil _ _ _ _⟩
  case round =>
    obtain ⟨j, hj, rfl, hbw, hown⟩ := hrel
    have HW : Hid _ := hbw
    have HO : Hid (World.ownsRow _ _ _ _ _ _ _) := hown
    have hle := insideN_le ps lo hi j
    by_cases hlt : j < ps.length
    · obtain rfl : base = some ⟨b, o, none⟩ := HA.out.base (by omega)
      obtain ⟨c0, c1⟩ := (HA.out.below hbw).cells j hlt
      have j0 : (0 : Int) ≤ (j : Int) := Int.natCast_nonneg _
      have j1 : (j : Int) < (ps.length : Int) := by omega
      have HN : Hid (insideN ps lo hi (j + 1) = if lo ≤ keyAt ps j ∧ keyAt ps j ≤ hi then insideN ps lo hi j ++ [(keyAt ps j, valAt ps j)] else insideN ps lo hi j) := rfl
      have s2 := hbw.size
      clear hbw hown
      generalize insideN ps lo hi j = L at *
      by_cases h1 : lo ≤ keyAt ps j
      · by_cases h2 : keyAt ps j ≤ hi
        · have HI : Hid (lo ≤ keyAt ps j ∧ keyAt ps j ≤ hi) := ⟨h1, h2⟩
          have hd1 : decide (lo ≤ keyAt ps j) = true := decide_eq_true h1
          have hd2 : decide (keyAt ps j ≤ hi) = true := decide_eq_true h2
          have hO := HO.out
          clear h1 h2
          go_wp2_with (first | (at_builtin; (refine wpList_append_lies _ (by rfl) _ _ _ (by rfl) w.heap.size 93 i0 _ 2 16 prs_underM hi0 hz0 hz1 hz2 rfl (by omega) _ L.length _ (by rfl) (hO.alloc _) ⟨wr.heap.size, 0, none⟩ 1 1 [.int .i64 (keyAt ps j), .int .i64 (valAt ps j)] (by rfl) (by rfl) (World.news_of_block (cs := #[.int .i64 (keyAt ps j), .int .i64 (valAt ps j)]) (t := 93) (fr := (0, 0)) (heap_alloc_at _ _ _ (by simp))) (by simp [Value.oneCell']) (by omega) (by unfold maxLen; omega) (by omega) (by simp; omega) (wr.heap.size + 1) (by simp) ?_); intro gg cap w3 hown3 hgrow hat hlt3))
          have B3 : Hid (Below w.heap.size w w3) := Below.grown (HW.out.alloc s2 _) hgrow (by simp; omega) (owns_ge HO.out)
          have O3 : Hid (World.ownsRow _ _ _ _ _ _ _) := hown3
          clear hgrow hat hown3 hO
          go_wp2_with fail
          refine ⟨⟨j + 1, by omega, by go_num, B3.out, ?_⟩, by simp [intOf]; omega⟩
          rw [HN.out, if_pos HI.out, List.length_append, pair_snoc]
          exact O3.out
        · have hd1 : decide (lo ≤ keyAt ps j) = true := decide_eq_true h1
          have hd2 : decide (keyAt ps j ≤ hi) = false := decide_eq_false h2
          have HI : Hid ((lo ≤ keyAt ps j ∧ keyAt ps j ≤ hi) → False) := fun q => h2 q.2
          clear h1 h2
          go_wp2_with fail
          refine ⟨⟨j + 1, by omega, by go_num, HW.out, ?_⟩, by simp [intOf]; omega⟩
          rw [HN.out, if_neg HI.out]
          exact HO.out
      · have hd1 : decide (lo ≤ keyAt ps j) = false := decide_eq_false h1
        have HI : Hid ((lo ≤ keyAt ps j ∧ keyAt ps j ≤ hi) → False) := fun q => h1 q.1
        clear h1
        go_wp2_with fail
        refine ⟨⟨j + 1, by omega, by go_num, HW.out, ?_⟩, by simp [intOf]; omega⟩
        rw [HN.out, if_neg HI.out]
        exact HO.out
    · obtain rfl : j = ps.length := by omega
      clear hbw hown
      go_wp2_with fail
      go_ret
      refine ⟨_, rfl, HW.out, ?_⟩
      rw [← insideN_all]
      exact HO.out
end Go.Proofs.YtcphajjonecmbaaDoor


/- Layer 6: the reference's with. -/

import Derived.Test.YtcphajjonecmbaaDoorMR2

namespace Go.Proofs.YtcphajjonecmbaaDoor

open Go.RowKit

theorem withN_step (ps : PL) (key val : Int) (drop : Bool) (j : Nat) {L : PL} {d : Bool} (h : withN ps key val drop j = (L, d)) :
    withN ps key val drop (j + 1) = (let t : PL × Bool := if d = false ∧ key ≤ keyAt ps j then (L ++ [(key, val)], true) else (L, d); if keyAt ps j = key then t else (t.1 ++ [(keyAt ps j, valAt ps j)], t.2)) := by
  simp only [withN, h]
theorem own_snoc {w1 w : World} {T : TypeId} {v : Value} {L : PL} {k x : Int} {m : Nat} (h : w1.ownsRow w.heap.size T 2 v (L.length + m) (pairCells L ++ [.int .i64 k, .int .i64 x])) (hm : m = 1 := by rfl) : Hid (w1.ownsRow w.heap.size T 2 v (L ++ [(k, x)]).length (pairCells (L ++ [(k, x)]))) := by
  show w1.ownsRow _ _ _ _ _ _
  subst hm
  rw [List.length_append, pair_snoc]
  exact h
theorem withN_len {ps : PL} {key val : Int} {drop : Bool} {j : Nat} {L : PL} {d : Bool} (h : withN ps key val drop j = (L, d)) : L.length ≤ j + 1 := by
  have := (withN_le ps key val drop j).1
  rw [h] at this
  simp only at this
  split at this <;> omega

set_option maxRecDepth 100000 in
set_option maxHeartbeats 4000000 in
theorem with_any (base : Option Addr) (b o c : Nat) (ps : PL) (key val : Int) (drop : Bool) (w : World) (h : PairsAt w base b o ps) (hby : (ps.length + 2) * 16 ≤ 140737488355328) :
    Calls Tryd.prog 128 #[.slice base ps.length c, .int .i64 key, .int .i64 val, .bool drop] w fun e w' => ∃ v, e = .returned v ∧ Below w.heap.size w w' ∧ w'.ownsRow w.heap.size 93 2 v (withL ps key val drop).length (pairCells (withL ps key val drop)) := by
  obtain ⟨i0, hi0, hz0, hz1, hz2⟩ := info_parts pr_infoM
  have hl := h.len
  unfold maxLen at hl
  have HA : Hid _ := h
  clear h
  go_enter Tryd.func128, Tryd.ntmps128
  go_wp2_with fail
  go_loopw [9, 10, 11] (fun v d i wr => ∃ (j : Nat) (L : PL) (dn : Bool), j ≤ ps.length ∧ i = .int .i64 j ∧ d = .bool dn ∧ Below w.heap.size w wr ∧ withN ps key val drop j = (L, dn) ∧ wr.ownsRow w.heap.size 93 2 v L.length (pairCells L)) (fun _ _ i _ => ps.length - (intOf i).toNat)
  case atStart => exact ⟨0, [], drop, Nat.zero_le _, rfl, rfl, Below.refl _ _, rfl, World.ownsRow_nil _ _ _ _⟩
  case round =>
    obtain ⟨j, L, dn, hj, rfl, rfl, hbw, hst, hown⟩ := hrel
    have HB : Hid _ := hbw
    have HS : Hid _ := hst
    have HO : Hid (World.ownsRow _ _ _ _ _ _ _) := hown
    have hle := withN_len hst
    have s2 := hbw.size
    by_cases hlt : j < ps.length
    · obtain rfl : base = some ⟨b, o, none⟩ := HA.out.base (by omega)
      have HN : Hid _ := withN_step ps key val drop j hst
      obtain ⟨c0, c1⟩ := (HA.out.below hbw).cells j hlt
      have j0 : (0 : Int) ≤ (j : Int) := Int.natCast_nonneg _
      have j1 : (j : Int) < (ps.length : Int) := by omega
      clear hbw hst hown
      by_cases hk : keyAt ps j = key
      · have hd3 : (keyAt ps j != key) = false := by simp [hk]
        by_cases hi : dn = false ∧ key ≤ keyAt ps j
        · obtain ⟨rfl, h2⟩ := hi
          have hd2 : decide (key ≤ keyAt ps j) = true := decide_eq_true h2
          have E : Hid (withN ps key val drop (j + 1) = (L ++ [(key, val)], true)) := by show withN ps key val drop (j + 1) = _; rw [HN.out]; simp [hk]
          clear hk h2
          go_wp2_with (first | (at_builtin; (refine wpList_append_lies _ (by rfl) _ _ _ (by rfl) w.heap.size 93 i0 _ 2 16 prs_underM hi0 hz0 hz1 hz2 rfl (by omega) _ (L).length _ (by rfl) (HO.out.alloc _) ⟨wr.heap.size, 0, none⟩ 1 1 [.int .i64 (key), .int .i64 (val)] (by rfl) (by rfl) (World.news_of_block (cs := #[.int .i64 (key), .int .i64 (val)]) (t := 93) (fr := (0, 0)) (heap_alloc_at _ _ _ (by simp))) (by simp [Value.oneCell']) (by omega) (by unfold maxLen; first | omega | (simp; omega)) (by first | omega | (simp; omega)) (by simp; omega) (wr.heap.size + 1) (by simp) ?_); intro gg3 cap3 w3 hown3 hgrow3 hat3 hlt3; have B3 : Hid (Below w.heap.size w w3) := Below.grown ((HB).out.alloc s2 _) hgrow3 (by simp; omega) (owns_ge HO.out); have O3 := own_snoc hown3; have s3 := B3.out.size; clear hgrow3 hat3 hown3; obtain ⟨x0, x1⟩ := (HA.out.below B3.out).cells j hlt))
          exact ⟨⟨j + 1, _, _, by omega, by go_num, rfl, B3.out, E.out, O3.out⟩, by simp [intOf]; omega⟩
        · have E : Hid (withN ps key val drop (j + 1) = (L, dn)) := by show withN ps key val drop (j + 1) = _; rw [HN.out, if_neg hi, if_pos hk]
          clear hk
          cases dn
          · have hd2 : decide (key ≤ keyAt ps j) = false := decide_eq_false (fun q => hi ⟨rfl, q⟩)
            clear hi
            go_wp2_with fail
            exact ⟨⟨j + 1, _, _, by omega, by go_num, rfl, HB.out, E.out, HO.out⟩, by simp [intOf]; omega⟩
          · clear hi
            go_wp2_with fail
            exact ⟨⟨j + 1, _, _, by omega, by go_num, rfl, HB.out, E.out, HO.out⟩, by simp [intOf]; omega⟩
      · have hd3 : (keyAt ps j != key) = true := by simp [hk]
        by_cases hi : dn = false ∧ key ≤ keyAt ps j
        · obtain ⟨rfl, h2⟩ := hi
          have hd2 : decide (key ≤ keyAt ps j) = true := decide_eq_true h2
          have E : Hid (withN ps key val drop (j + 1) = (L ++ [(key, val)] ++ [(keyAt ps j, valAt ps j)], true)) := by show withN ps key val drop (j + 1) = _; rw [HN.out]; simp [h2, hk]
          clear hk h2
          go_wp2_with (first | (at_builtin; (refine wpList_append_lies _ (by rfl) _ _ _ (by rfl) w.heap.size 93 i0 _ 2 16 prs_underM hi0 hz0 hz1 hz2 rfl (by omega) _ (L).length _ (by rfl) (HO.out.alloc _) ⟨wr.heap.size, 0, none⟩ 1 1 [.int .i64 (key), .int .i64 (val)] (by rfl) (by rfl) (World.news_of_block (cs := #[.int .i64 (key), .int .i64 (val)]) (t := 93) (fr := (0, 0)) (heap_alloc_at _ _ _ (by simp))) (by simp [Value.oneCell']) (by omega) (by unfold maxLen; first | omega | (simp; omega)) (by first | omega | (simp; omega)) (by simp; omega) (wr.heap.size + 1) (by simp) ?_); intro gg3 cap3 w3 hown3 hgrow3 hat3 hlt3; have B3 : Hid (Below w.heap.size w w3) := Below.grown ((HB).out.alloc s2 _) hgrow3 (by simp; omega) (owns_ge HO.out); have O3 := own_snoc hown3; have s3 := B3.out.size; clear hgrow3 hat3 hown3; obtain ⟨x0, x1⟩ := (HA.out.below B3.out).cells j hlt) | (at_builtin; (refine wpList_append_lies _ (by rfl) _ _ _ (by rfl) w.heap.size 93 i0 _ 2 16 prs_underM hi0 hz0 hz1 hz2 rfl (by omega) _ (L ++ [(key, val)]).length _ (by rfl) (O3.out.alloc _) ⟨w3.heap.size, 0, none⟩ 1 1 [.int .i64 (keyAt ps j), .int .i64 (valAt ps j)] (by rfl) (by rfl) (World.news_of_block (cs := #[.int .i64 (keyAt ps j), .int .i64 (valAt ps j)]) (t := 93) (fr := (0, 0)) (heap_alloc_at _ _ _ (by simp))) (by simp [Value.oneCell']) (by omega) (by unfold maxLen; first | omega | (simp; omega)) (by first | omega | (simp; omega)) (by simp; omega) (w3.heap.size + 1) (by simp) ?_); intro gg4 cap4 w4 hown4 hgrow4 hat4 hlt4; have B4 : Hid (Below w.heap.size w w4) := Below.grown ((B3).out.alloc s3 _) hgrow4 (by simp; omega) (owns_ge O3.out); have O4 := own_snoc hown4; have s4 := B4.out.size; clear hgrow4 hat4 hown4))
          refine ⟨⟨j + 1, _, _, by omega, by go_num, rfl, B4.out, E.out, ?_⟩, by simp [intOf]; omega⟩
          have h4 := O4.out
          rw [show (L ++ [(key, val)]).length + 1 = L.length + 1 + 1 by simp] at h4
          exact h4
        · have E : Hid (withN ps key val drop (j + 1) = (L ++ [(keyAt ps j, valAt ps j)], dn)) := by show withN ps key val drop (j + 1) = _; rw [HN.out, if_neg hi, if_neg hk]
          clear hk
          cases dn
          · have hd2 : decide (key ≤ keyAt ps j) = false := decide_eq_false (fun q => hi ⟨rfl, q⟩)
            clear hi
            go_wp2_with (first | (at_builtin; (refine wpList_append_lies _ (by rfl) _ _ _ (by rfl) w.heap.size 93 i0 _ 2 16 prs_underM hi0 hz0 hz1 hz2 rfl (by omega) _ (L).length _ (by rfl) (HO.out.alloc _) ⟨wr.heap.size, 0, none⟩ 1 1 [.int .i64 (keyAt ps j), .int .i64 (valAt ps j)] (by rfl) (by rfl) (World.news_of_block (cs := #[.int .i64 (keyAt ps j), .int .i64 (valAt ps j)]) (t := 93) (fr := (0, 0)) (heap_alloc_at _ _ _ (by simp))) (by simp [Value.oneCell']) (by omega) (by unfold maxLen; first | omega | (simp; omega)) (by first | omega | (simp; omega)) (by simp; omega) (wr.heap.size + 1) (by simp) ?_); intro gg4 cap4 w4 hown4 hgrow4 hat4 hlt4; have B4 : Hid (Below w.heap.size w w4) := Below.grown ((HB).out.alloc s2 _) hgrow4 (by simp; omega) (owns_ge HO.out); have O4 := own_snoc hown4; have s4 := B4.out.size; clear hgrow4 hat4 hown4))
            exact ⟨⟨j + 1, _, _, by omega, by go_num, rfl, B4.out, E.out, O4.out⟩, by simp [intOf]; omega⟩
          · clear hi
            go_wp2_with (first | (at_builtin; (refine wpList_append_lies _ (by rfl) _ _ _ (by rfl) w.heap.size 93 i0 _ 2 16 prs_underM hi0 hz0 hz1 hz2 rfl (by omega) _ (L).length _ (by rfl) (HO.out.alloc _) ⟨wr.heap.size, 0, none⟩ 1 1 [.int .i64 (keyAt ps j), .int .i64 (valAt ps j)] (by rfl) (by rfl) (World.news_of_block (cs := #[.int .i64 (keyAt ps j), .int .i64 (valAt ps j)]) (t := 93) (fr := (0, 0)) (heap_alloc_at _ _ _ (by simp))) (by simp [Value.oneCell']) (by omega) (by unfold maxLen; first | omega | (simp; omega)) (by first | omega | (simp; omega)) (by simp; omega) (wr.heap.size + 1) (by simp) ?_); intro gg4 cap4 w4 hown4 hgrow4 hat4 hlt4; have B4 : Hid (Below w.heap.size w w4) := Below.grown ((HB).out.alloc s2 _) hgrow4 (by simp; omega) (owns_ge HO.out); have O4 := own_snoc hown4; have s4 := B4.out.size; clear hgrow4 hat4 hown4))
            exact ⟨⟨j + 1, _, _, by omega, by go_num, rfl, B4.out, E.out, O4.out⟩, by simp [intOf]; omega⟩
    · obtain rfl : j = ps.length := by omega
      clear hbw hst hown
      cases dn
      case true =>
        have E : Hid (withL ps key val drop = L) := by show withL ps key val drop = L; unfold withL; rw [HS.out]; rfl
        go_wp2_with fail
        go_ret
        refine ⟨_, rfl, HB.out, ?_⟩
        rw [E.out]
        exact HO.out
      case false =>
        have E : Hid (withL ps key val drop = L ++ [(key, val)]) := by show withL ps key val drop = _; unfold withL; rw [HS.out]; rfl
        go_wp2_with (first | (at_builtin; (refine wpList_append_lies _ (by rfl) _ _ _ (by rfl) w.heap.size 93 i0 _ 2 16 prs_underM hi0 hz0 hz1 hz2 rfl (by omega) _ (L).length _ (by rfl) (HO.out.alloc _) ⟨wr.heap.size, 0, none⟩ 1 1 [.int .i64 (key), .int .i64 (val)] (by rfl) (by rfl) (World.news_of_block (cs := #[.int .i64 (key), .int .i64 (val)]) (t := 93) (fr := (0, 0)) (heap_alloc_at _ _ _ (by simp))) (by simp [Value.oneCell']) (by omega) (by unfold maxLen; first | omega | (simp; omega)) (by first | omega | (simp; omega)) (by simp; omega) (wr.heap.size + 1) (by simp) ?_); intro gg3 cap3 w3 hown3 hgrow3 hat3 hlt3; have B3 : Hid (Below w.heap.size w w3) := Below.grown ((HB).out.alloc s2 _) hgrow3 (by simp; omega) (owns_ge HO.out); have O3 := own_snoc hown3; have s3 := B3.out.size; clear hgrow3 hat3 hown3))
        go_ret
        refine ⟨_, rfl, B3.out, ?_⟩
        rw [E.out]
        exact O3.out
end Go.Proofs.YtcphajjonecmbaaDoor

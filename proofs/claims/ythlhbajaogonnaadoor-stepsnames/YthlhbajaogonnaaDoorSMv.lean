
/- Layer 18: rows of moves; All of the program. -/

import Derived.Test.YthlhbajaogonnaaDoorSAny

namespace Go.Proofs.YthlhbajaogonnaaDoor

open Go.RowKit

attribute [local go_sem ↓] Go.wp_at_zero Go.wp_at_succ

abbrev MvD := Int × Bool
def mvC : List MvD → List Value
  | [] => []
  | m :: L => .int .i64 m.1 :: .bool m.2 :: mvC L
theorem mvC_append : ∀ a b : List MvD, mvC (a ++ b) = mvC a ++ mvC b
  | [], _ => rfl
  | m :: a, b => by simp [mvC, mvC_append a b]
theorem mvC_length : ∀ L : List MvD, (mvC L).length = L.length * 2
  | [] => rfl
  | m :: L => by simp [mvC, mvC_length L]; omega
def mv0 : MvD := (0, false)
theorem mvC_get : ∀ (L : List MvD) (i : Nat), i < L.length → (mvC L)[i * 2]? = some (.int .i64 (L.getD i mv0).1) ∧ (mvC L)[i * 2 + 1]? = some (.bool (L.getD i mv0).2)
  | [], i, h => by simp at h
  | m :: L, 0, _ => by simp [mvC]
  | m :: L, i + 1, h => by
    have ih := mvC_get L i (by simpa using h)
    rw [show (i + 1) * 2 = i * 2 + 1 + 1 by omega]
    simpa [mvC] using ih
/-- A row of the program's moves that is ours. -/
structure MvRow (w0 x : World) (v : Value) (V : List MvD) : Prop where
  own : x.ownsRow w0.heap.size 32 2 v V.length (mvC V)
  below : Below w0.heap.size w0 x
theorem MvRow.grown {w0 x y : World} {v v' : Value} {V : List MvD} {q : MvD} {o : Obj} (h : MvRow w0 x v V) (hg : (x.alloc o).grownBy y v.ownBlock) (ho : y.ownsRow w0.heap.size 32 2 v' (V.length + 1) (mvC V ++ [.int .i64 q.1, .bool q.2])) : MvRow w0 y v' (V ++ [q]) :=
  ⟨by rw [List.length_append, mvC_append]; exact ho, Below.grown (h.below.alloc h.below.size o) hg (by rw [World.size_alloc]; have := h.below.size; omega) (fun k hk => (owns_lt h.own k hk).1)⟩
theorem MvRow.quiet {w0 x y : World} {v : Value} {V : List MvD} (h : MvRow w0 x v V) (hb : Below x.heap.size x y) : MvRow w0 y v V := ⟨owns_below h.own hb, h.below.trans (hb.mono h.below.size)⟩
theorem MvRow.none (w : World) : MvRow w w (.slice none 0 0) [] := ⟨World.ownsRow_nil _ _ _ _, Below.refl _ _⟩
theorem MvRow.nil {w x : World} (h : Below w.heap.size w x) : MvRow w x (.slice .none 0 0) [] := ⟨World.ownsRow_nil _ _ _ _, h⟩
theorem mv_info : (Tryd.prog.info? 32).map (fun i => (i.zero, i.size, i.bytes)) = some (some (.agg #[.int .i64 0, .bool false]), 2, 16) := by kernel_rfl
theorem mvs_under : Tryd.prog.underlying 37 = some (.slice 32) := by kernel_rfl
/-- The moves of the first kinds. -/
def allK : Nat → List MvD
  | 0 => []
  | j + 1 => if hasM ((j + 1 : Nat) : Int) then allK j ++ [(((j + 1 : Nat) : Int), false)] ++ [(((j + 1 : Nat) : Int), true)] else allK j ++ [(((j + 1 : Nat) : Int), false)]
theorem allK_len : ∀ j, (allK j).length ≤ 2 * j
  | 0 => by simp [allK]
  | j + 1 => by
    have := allK_len j
    unfold allK
    split <;> simp <;> omega
set_option maxRecDepth 100000 in
set_option maxHeartbeats 2000000 in
theorem All_any (w : World) : Calls Tryd.prog 11 #[] w fun e w' => ∃ v, e = .returned v ∧ MvRow w w' v (allK 12) := by
  obtain ⟨i0, hi0, hz0, hz1, hz2⟩ := info_parts mv_info
  have HM : Hid (∀ k W, Calls Tryd.prog 21 #[.int .i64 k] W fun e w' => e = .returned (.bool (hasM k)) ∧ Below W.heap.size W w') := fun k W => hasMirror_any k W
  go_enter Tryd.func11, Tryd.ntmps11
  go_wp2_with fail
  go_loopw [1, 2] (fun v i wr => ∃ j : Nat, j ≤ 12 ∧ i = .int .i64 ((j + 1 : Nat) : Int) ∧ MvRow w wr v (allK j)) (fun _ i _ => 13 - (intOf i).toNat)
  case atStart => exact ⟨0, by omega, rfl, MvRow.none w⟩
  case round =>
    obtain ⟨j, hj, rfl, hR⟩ := hrel
    have S0 : Hid (MvRow w wr u1 (allK j)) := hR
    have lK := allK_len j
    by_cases hlt : j < 12
    · have F : Hid (allK (j + 1) = if hasM ((j + 1 : Nat) : Int) then allK j ++ [(((j + 1 : Nat) : Int), false)] ++ [(((j + 1 : Nat) : Int), true)] else allK j ++ [(((j + 1 : Nat) : Int), false)]) := rfl
      have le12 : decide (((j + 1 : Nat) : Int) ≤ 12) = true := by simp; omega
      have nx : Hid (∀ n : Nat, n = j + 1 → ((n : Int) + 1) = ((j + 1 + 1 : Nat) : Int)) := fun n hn => by omega
      obtain ⟨kk, hkk⟩ : ∃ kk : Nat, kk = j + 1 := ⟨_, rfl⟩
      have K13 : kk ≤ 12 := by omega
      have HKK : Hid (kk = j + 1) := hkk
      rw [← hkk] at le12 F ⊢
      have e1 : IntKind.i64.wrap ((kk : Int) + 1) = (kk : Int) + 1 := by rw [IntKind.wrap_i64] <;> omega
      have hcast : Hid ((kk : Int) + 1 = ((kk + 1 : Nat) : Int)) := by show _ = _; omega
      clear hR hkk
      generalize allK j = V at *
      cases hm : hasM (kk : Int)
      · rw [hm] at F
        go_wp2_with (first | (at_builtin; (refine wpList_append_lies _ (by rfl) _ _ _ (by rfl) w.heap.size 32 i0 _ 2 16 mvs_under hi0 hz0 hz1 hz2 rfl (by omega) _ V.length _ (by rfl) (S0.out.own.alloc _) ⟨wr.heap.size, 0, none⟩ 1 1 [.int .i64 (kk : Int), .bool false] (by rfl) (by rfl) (World.news_of_block (cs := #[.int .i64 (kk : Int), .bool false]) (t := 32) (fr := (0, 0)) (heap_alloc_at _ _ _ (by simp))) (by simp [Value.oneCell']) (by omega) (by unfold maxLen; omega) (by omega) (by have := S0.out.below.size; simp; omega) (wr.heap.size + 1) (by simp) ?_); intro g4 c4 w4 ho hg hat hl; have S4 : Hid (MvRow w w4 (.slice (some ⟨g4, 0, none⟩) (V.length + 1) c4) (V ++ [((kk : Int), false)])) := S0.out.grown (q := ((kk : Int), false)) hg ho; clear ho hg hat hl) | (go_at_call 21; refine (HM.out _ _).mono ?_; rintro e w5 ⟨rfl, hb⟩; rw [hm]; have S5 : Hid (MvRow w w5 (.slice (some ⟨g4, 0, none⟩) (V.length + 1) c4) (V ++ [((kk : Int), false)])) := S4.out.quiet hb; clear hb))
        exact ⟨⟨kk, by omega, by first | rfl | go_num, by rw [HKK.out, ← HKK.out, F.out]; exact S5.out⟩, by simp [intOf]; omega⟩
      · rw [hm] at F
        have K0 : Hid True := trivial
        go_wp2_with (first | (at_builtin; have hq := K0; (refine wpList_append_lies _ (by rfl) _ _ _ (by rfl) w.heap.size 32 i0 _ 2 16 mvs_under hi0 hz0 hz1 hz2 rfl (by omega) _ V.length _ (by rfl) (S0.out.own.alloc _) ⟨wr.heap.size, 0, none⟩ 1 1 [.int .i64 (kk : Int), .bool false] (by rfl) (by rfl) (World.news_of_block (cs := #[.int .i64 (kk : Int), .bool false]) (t := 32) (fr := (0, 0)) (heap_alloc_at _ _ _ (by simp))) (by simp [Value.oneCell']) (by omega) (by unfold maxLen; omega) (by omega) (by have := S0.out.below.size; simp; omega) (wr.heap.size + 1) (by simp) ?_); intro g4 c4 w4 ho hg hat hl; have S4 : Hid (MvRow w w4 (.slice (some ⟨g4, 0, none⟩) (V.length + 1) c4) (V ++ [((kk : Int), false)])) := S0.out.grown (q := ((kk : Int), false)) hg ho; clear ho hg hat hl hq K0) | (go_at_call 21; refine (HM.out _ _).mono ?_; rintro e w5 ⟨rfl, hb⟩; rw [hm]; have S5 : Hid (MvRow w w5 (.slice (some ⟨g4, 0, none⟩) (V.length + 1) c4) (V ++ [((kk : Int), false)])) := S4.out.quiet hb; have L5 : Hid ((V ++ [((kk : Int), false)]).length = V.length + 1) := (by show _ = _; simp); have O5 : Hid (w5.ownsRow w.heap.size 32 2 (.slice (some ⟨g4, 0, none⟩) (V.length + 1) c4) (V.length + 1) (mvC (V ++ [((kk : Int), false)]))) := (by have := S5.out.own; rw [L5.out] at this; exact this); clear hb) | (at_builtin; (refine wpList_append_lies _ (by rfl) _ _ _ (by rfl) w.heap.size 32 i0 _ 2 16 mvs_under hi0 hz0 hz1 hz2 rfl (by omega) _ (V.length + 1) _ (by rfl) (O5.out.alloc _) ⟨w5.heap.size, 0, none⟩ 1 1 [.int .i64 (kk : Int), .bool true] (by rfl) (by rfl) (World.news_of_block (cs := #[.int .i64 (kk : Int), .bool true]) (t := 32) (fr := (0, 0)) (heap_alloc_at _ _ _ (by simp))) (by simp [Value.oneCell']) (by omega) (by unfold maxLen; omega) (by omega) (by have := S5.out.below.size; simp; omega) (w5.heap.size + 1) (by simp) ?_); intro g6 c6 w6 ho hg hat hl; have S6 : Hid (MvRow w w6 (.slice (some ⟨g6, 0, none⟩) (V.length + 1 + 1) c6) (V ++ [((kk : Int), false)] ++ [((kk : Int), true)])) := S5.out.grown (q := ((kk : Int), true)) hg (by rw [L5.out]; exact ho); clear ho hg hat hl))
        exact ⟨⟨kk, by omega, by first | rfl | go_num, by rw [HKK.out, ← HKK.out, F.out]; exact S6.out⟩, by simp [intOf]; omega⟩
    · obtain rfl : j = 12 := by omega
      clear hR
      go_wp2_with fail
      go_ret
      exact ⟨_, rfl, S0.out⟩
end Go.Proofs.YthlhbajaogonnaaDoor

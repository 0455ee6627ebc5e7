
/- Layer 18: rows of the reference's moves: IsMove, All, SameMoves, Ints of the reference; the law's from. -/

import Derived.Test.YthlhbajaogonnaaDoorSSpots

import Derived.BigQuiet

namespace Go.Proofs.YthlhbajaogonnaaDoor

open Go.RowKit

attribute [local go_sem ↓] Go.wp_at_zero Go.wp_at_succ

theorem rv_info : (Tryd.prog.info? 23).map (fun i => (i.zero, i.size, i.bytes)) = some (some (.agg #[.int .i64 0, .bool false]), 2, 16) := by kernel_rfl
theorem rvs_under : Tryd.prog.underlying 40 = some (.slice 23) := by kernel_rfl
/-- A row of the reference's moves that is ours. -/
structure RvRow (w0 x : World) (v : Value) (V : List MvD) : Prop where
  own : x.ownsRow w0.heap.size 23 2 v V.length (mvC V)
  below : Below w0.heap.size w0 x
theorem RvRow.grown {w0 x y : World} {v v' : Value} {V : List MvD} {q : MvD} {o : Obj} (h : RvRow w0 x v V) (hg : (x.alloc o).grownBy y v.ownBlock) (ho : y.ownsRow w0.heap.size 23 2 v' (V.length + 1) (mvC V ++ [.int .i64 q.1, .bool q.2])) : RvRow w0 y v' (V ++ [q]) :=
  ⟨by rw [List.length_append, mvC_append]; exact ho, Below.grown (h.below.alloc h.below.size o) hg (by rw [World.size_alloc]; have := h.below.size; omega) (fun k hk => (owns_lt h.own k hk).1)⟩
theorem RvRow.quiet {w0 x y : World} {v : Value} {V : List MvD} (h : RvRow w0 x v V) (hb : Below x.heap.size x y) : RvRow w0 y v V := ⟨owns_below h.own hb, h.below.trans (hb.mono h.below.size)⟩
theorem RvRow.none (w : World) : RvRow w w (.slice none 0 0) [] := ⟨World.ownsRow_nil _ _ _ _, Below.refl _ _⟩
set_option maxRecDepth 100000 in
set_option maxHeartbeats 1000000 in
theorem rIsMove_any (k : Int) (mi : Bool) (w : World) : Calls Tryd.prog 18 #[.agg #[.int .i64 k, .bool mi]] w fun e w' => e = .returned (.bool (mvB k mi)) ∧ Below w.heap.size w w' := by
  have HF : Hid (mvB k mi = (decide (1 ≤ k) && (decide (k ≤ 12) && (!mi || (k != 1 && (k != 11 && k != 12)))))) := rfl
  have B0 : Hid (Below w.heap.size w (w.alloc (.cells #[.int .i64 k, .bool mi] 23))) := below_alloc _ _
  generalize mvB k mi = E at *
  cases mi
  · cases h1 : decide (1 ≤ k)
    · rw [h1] at HF
      obtain rfl : E = false := by rw [HF.out]; rfl
      clear HF
      go_enter Tryd.func18, Tryd.ntmps18
      go_wp2_with fail
      go_ret
      exact ⟨rfl, B0.out⟩
    · rw [h1] at HF
      cases h2 : decide (k ≤ 12)
      · rw [h2] at HF
        obtain rfl : E = false := by rw [HF.out]; rfl
        clear HF
        go_enter Tryd.func18, Tryd.ntmps18
        go_wp2_with fail
        go_ret
        exact ⟨rfl, B0.out⟩
      · rw [h2] at HF
        obtain rfl : E = true := by rw [HF.out]; rfl
        clear HF
        go_enter Tryd.func18, Tryd.ntmps18
        go_wp2_with fail
        go_ret
        exact ⟨rfl, B0.out⟩
  · by_cases e1 : k = 1
    · subst e1
      obtain rfl : E = false := by rw [HF.out]; rfl
      clear HF
      go_enter Tryd.func18, Tryd.ntmps18
      go_wp2_with fail
      go_ret
      exact ⟨rfl, B0.out⟩
    · by_cases e2 : k = 11
      · subst e2
        obtain rfl : E = false := by rw [HF.out]; rfl
        clear HF
        go_enter Tryd.func18, Tryd.ntmps18
        go_wp2_with fail
        go_ret
        exact ⟨rfl, B0.out⟩
      · by_cases e3 : k = 12
        · subst e3
          obtain rfl : E = false := by rw [HF.out]; rfl
          clear HF
          go_enter Tryd.func18, Tryd.ntmps18
          go_wp2_with fail
          go_ret
          exact ⟨rfl, B0.out⟩
        · have n1 : (k == 1) = false := by simpa using e1
          have n2 : (k == 11) = false := by simpa using e2
          have n3 : (k == 12) = false := by simpa using e3
          have HF' : Hid (E = (decide (1 ≤ k) && decide (k ≤ 12))) := by show _ = _; rw [HF.out]; simp [bne, n1, n2, n3]
          clear HF e1 e2 e3
          cases h1 : decide (1 ≤ k)
          · rw [h1] at HF'
            obtain rfl : E = false := by rw [HF'.out]; rfl
            clear HF'
            go_enter Tryd.func18, Tryd.ntmps18
            go_wp2_with fail
            go_ret
            exact ⟨rfl, B0.out⟩
          · rw [h1] at HF'
            cases h2 : decide (k ≤ 12)
            · rw [h2] at HF'
              obtain rfl : E = false := by rw [HF'.out]; rfl
              clear HF'
              go_enter Tryd.func18, Tryd.ntmps18
              go_wp2_with fail
              go_ret
              exact ⟨rfl, B0.out⟩
            · rw [h2] at HF'
              obtain rfl : E = true := by rw [HF'.out]; rfl
              clear HF'
              go_enter Tryd.func18, Tryd.ntmps18
              go_wp2_with fail
              go_ret
              exact ⟨rfl, B0.out⟩
set_option maxRecDepth 100000 in
set_option maxHeartbeats 2000000 in
theorem rAll_any (w : World) : Calls Tryd.prog 14 #[] w fun e w' => ∃ v, e = .returned v ∧ RvRow w w' v (allK 12) := by
  obtain ⟨i0, hi0, hz0, hz1, hz2⟩ := info_parts rv_info
  have HM : Hid (∀ k W, 1 ≤ k → k ≤ 12 → Calls Tryd.prog 18 #[.agg #[.int .i64 k, .bool true]] W fun e w' => e = .returned (.bool (hasM k)) ∧ Below W.heap.size W w') := fun k W h1 h2 => by have := rIsMove_any k true W; have e : mvB k true = hasM k := (by simp [mvB, h1, h2]); rw [e] at this; exact this
  go_enter Tryd.func14, Tryd.ntmps14
  go_wp2_with fail
  go_loopw [1, 2] (fun v i wr => ∃ j : Nat, j ≤ 12 ∧ i = .int .i64 ((j + 1 : Nat) : Int) ∧ RvRow w wr v (allK j)) (fun _ i _ => 13 - (intOf i).toNat)
  case atStart => exact ⟨0, by omega, rfl, RvRow.none w⟩
  case round =>
    obtain ⟨j, hj, rfl, hR⟩ := hrel
    have S0 : Hid (RvRow w wr u1 (allK j)) := hR
    have lK := allK_len j
    by_cases hlt : j < 12
    · have F : Hid (allK (j + 1) = if hasM ((j + 1 : Nat) : Int) then allK j ++ [(((j + 1 : Nat) : Int), false)] ++ [(((j + 1 : Nat) : Int), true)] else allK j ++ [(((j + 1 : Nat) : Int), false)]) := rfl
      have le12 : decide (((j + 1 : Nat) : Int) ≤ 12) = true := by simp; omega
      have nx : Hid (∀ n : Nat, n = j + 1 → ((n : Int) + 1) = ((j + 1 + 1 : Nat) : Int)) := fun n hn => by omega
      obtain ⟨kk, hkk⟩ : ∃ kk : Nat, kk = j + 1 := ⟨_, rfl⟩
      have K13 : kk ≤ 12 := by omega
      have K14 : 1 ≤ kk := by omega
      have HKK : Hid (kk = j + 1) := hkk
      rw [← hkk] at le12 F ⊢
      have e1 : IntKind.i64.wrap ((kk : Int) + 1) = (kk : Int) + 1 := by rw [IntKind.wrap_i64] <;> omega
      have hcast : Hid ((kk : Int) + 1 = ((kk + 1 : Nat) : Int)) := by show _ = _; omega
      clear hR hkk
      generalize allK j = V at *
      cases hm : hasM (kk : Int)
      · rw [hm] at F
        go_wp2_with (first | (at_builtin; (refine wpList_append_lies _ (by rfl) _ _ _ (by rfl) w.heap.size 23 i0 _ 2 16 rvs_under hi0 hz0 hz1 hz2 rfl (by omega) _ V.length _ (by rfl) (S0.out.own.alloc _) ⟨wr.heap.size, 0, none⟩ 1 1 [.int .i64 (kk : Int), .bool false] (by rfl) (by rfl) (World.news_of_block (cs := #[.int .i64 (kk : Int), .bool false]) (t := 23) (fr := (0, 0)) (heap_alloc_at _ _ _ (by simp))) (by simp [Value.oneCell']) (by omega) (by unfold maxLen; omega) (by omega) (by have := S0.out.below.size; simp; omega) (wr.heap.size + 1) (by simp) ?_); intro g4 c4 w4 ho hg hat hl; have S4 : Hid (RvRow w w4 (.slice (some ⟨g4, 0, none⟩) (V.length + 1) c4) (V ++ [((kk : Int), false)])) := S0.out.grown (q := ((kk : Int), false)) hg ho; clear ho hg hat hl) | (go_at_call 18; refine (HM.out _ _ (by omega) (by omega)).mono ?_; rintro e w5 ⟨rfl, hb⟩; rw [hm]; have S5 : Hid (RvRow w w5 (.slice (some ⟨g4, 0, none⟩) (V.length + 1) c4) (V ++ [((kk : Int), false)])) := S4.out.quiet hb; clear hb))
        exact ⟨⟨kk, by omega, by first | rfl | go_num, by rw [HKK.out, ← HKK.out, F.out]; exact S5.out⟩, by simp [intOf]; omega⟩
      · rw [hm] at F
        have K0 : Hid True := trivial
        go_wp2_with (first | (at_builtin; have hq := K0; (refine wpList_append_lies _ (by rfl) _ _ _ (by rfl) w.heap.size 23 i0 _ 2 16 rvs_under hi0 hz0 hz1 hz2 rfl (by omega) _ V.length _ (by rfl) (S0.out.own.alloc _) ⟨wr.heap.size, 0, none⟩ 1 1 [.int .i64 (kk : Int), .bool false] (by rfl) (by rfl) (World.news_of_block (cs := #[.int .i64 (kk : Int), .bool false]) (t := 23) (fr := (0, 0)) (heap_alloc_at _ _ _ (by simp))) (by simp [Value.oneCell']) (by omega) (by unfold maxLen; omega) (by omega) (by have := S0.out.below.size; simp; omega) (wr.heap.size + 1) (by simp) ?_); intro g4 c4 w4 ho hg hat hl; have S4 : Hid (RvRow w w4 (.slice (some ⟨g4, 0, none⟩) (V.length + 1) c4) (V ++ [((kk : Int), false)])) := S0.out.grown (q := ((kk : Int), false)) hg ho; clear ho hg hat hl hq K0) | (go_at_call 18; refine (HM.out _ _ (by omega) (by omega)).mono ?_; rintro e w5 ⟨rfl, hb⟩; rw [hm]; have S5 : Hid (RvRow w w5 (.slice (some ⟨g4, 0, none⟩) (V.length + 1) c4) (V ++ [((kk : Int), false)])) := S4.out.quiet hb; have L5 : Hid ((V ++ [((kk : Int), false)]).length = V.length + 1) := (by show _ = _; simp); have O5 : Hid (w5.ownsRow w.heap.size 23 2 (.slice (some ⟨g4, 0, none⟩) (V.length + 1) c4) (V.length + 1) (mvC (V ++ [((kk : Int), false)]))) := (by have := S5.out.own; rw [L5.out] at this; exact this); clear hb) | (at_builtin; (refine wpList_append_lies _ (by rfl) _ _ _ (by rfl) w.heap.size 23 i0 _ 2 16 rvs_under hi0 hz0 hz1 hz2 rfl (by omega) _ (V.length + 1) _ (by rfl) (O5.out.alloc _) ⟨w5.heap.size, 0, none⟩ 1 1 [.int .i64 (kk : Int), .bool true] (by rfl) (by rfl) (World.news_of_block (cs := #[.int .i64 (kk : Int), .bool true]) (t := 23) (fr := (0, 0)) (heap_alloc_at _ _ _ (by simp))) (by simp [Value.oneCell']) (by omega) (by unfold maxLen; omega) (by omega) (by have := S5.out.below.size; simp; omega) (w5.heap.size + 1) (by simp) ?_); intro g6 c6 w6 ho hg hat hl; have S6 : Hid (RvRow w w6 (.slice (some ⟨g6, 0, none⟩) (V.length + 1 + 1) c6) (V ++ [((kk : Int), false)] ++ [((kk : Int), true)])) := S5.out.grown (q := ((kk : Int), true)) hg (by rw [L5.out]; exact ho); clear ho hg hat hl))
        exact ⟨⟨kk, by omega, by first | rfl | go_num, by rw [HKK.out, ← HKK.out, F.out]; exact S6.out⟩, by simp [intOf]; omega⟩
    · obtain rfl : j = 12 := by omega
      clear hR
      go_wp2_with fail
      go_ret
      exact ⟨_, rfl, S0.out⟩
/-- A row of moves that is read. -/
structure MvAt (w : World) (T : TypeId) (a : Option Addr) (g : Nat) (V : List MvD) : Prop where
  base : 0 < V.length → a = some ⟨g, 0, none⟩ ∧ g < w.heap.size
  cells : ∀ j, j < V.length → w.cell? ⟨g, j * 2, none⟩ = some (.int .i64 (V.getD j mv0).1) ∧ w.cell? ⟨g, j * 2 + 1, none⟩ = some (.bool (V.getD j mv0).2)
theorem MvAt.below {w y : World} {T : TypeId} {a : Option Addr} {g : Nat} {V : List MvD} (h : MvAt w T a g V) (hb : Below w.heap.size w y) : MvAt y T a g V :=
  ⟨fun hn => ⟨(h.base hn).1, Nat.lt_of_lt_of_le (h.base hn).2 hb.size⟩, fun j hj => ⟨(hb.cell (p := ⟨g, j * 2, none⟩) (h.base (by omega)).2).trans (h.cells j hj).1, (hb.cell (p := ⟨g, j * 2 + 1, none⟩) (h.base (by omega)).2).trans (h.cells j hj).2⟩⟩
theorem mvAt_of {x : World} {B : Nat} {T : TypeId} {v : Value} {V : List MvD} (h : x.ownsRow B T 2 v V.length (mvC V)) : ∃ (a : Option Addr) (c g : Nat), v = .slice a V.length c ∧ MvAt x T a g V := by
  by_cases hn : 0 < V.length
  · obtain ⟨g, cap, rfl, -, hg, -, -, hc, -⟩ := owns_some h hn
    exact ⟨_, cap, g, rfl, fun _ => ⟨rfl, hg⟩, fun j hj => ⟨(hc _ (by omega)).trans (mvC_get V j hj).1, (hc _ (by omega)).trans (mvC_get V j hj).2⟩⟩
  · rcases h.2 with ⟨rfl, e0⟩ | ⟨g, cap, cur, rfl, _⟩
    · exact ⟨none, 0, 0, by rw [e0], fun q => absurd q hn, fun j hj => by omega⟩
    · exact ⟨_, cap, g, rfl, fun q => absurd q hn, fun j hj => by omega⟩
theorem rv_neq (a b : Int) (c d : Bool) (w : World) : (binOp .neq 23 (.agg #[.int .i64 a, .bool c]) (.agg #[.int .i64 b, .bool d])).run Tryd.prog w = .ok (.bool (!(decide (a = b) && (c == d)))) w := by
  have u3 := Tryd.underlying3
  have a3' := Tryd.isAgg3
  have z3 := Tryd.sizeOf3
  have u4 := Tryd.underlying4
  have a4' := Tryd.isAgg4
  have z4 := Tryd.sizeOf4
  have hS : Tryd.prog.underlying 23 = some (.struct (Tryd.prog.fieldsOf 23)) := by kernel_rfl
  have hp : Tryd.prog.stoodInHeld 23 = false := by kernel_rfl
  rw [run_neq_struct, show (10000 : Nat) = 9999 + 1 from rfl, run_equalIn_agg w 9999 23 _ _ hS hp]
  simp only [Program.fieldsOf, Tryd.underlying23]
  go_simp
  by_cases h1 : a = b <;> cases c <;> cases d <;> simp [h1]
set_option maxRecDepth 100000 in
set_option maxHeartbeats 1000000 in
theorem sameMoves_same (x y : Option Addr) (ga gb ca cb : Nat) (T U : TypeId) (V : List MvD) (w : World) (h : MvAt w T x ga V) (k : MvAt w U y gb V) (hn : V.length ≤ 3000000) :
    Calls Tryd.prog 12 #[.slice x V.length ca, .slice y V.length cb] w fun e w' => e = .returned (.bool true) ∧ Below w.heap.size w w' := by
  have H1 : Hid (MvAt w T x ga V) := h
  have H2 : Hid (MvAt w U y gb V) := k
  have hpn := rv_neq
  clear h k
  go_enter Tryd.func12, Tryd.ntmps12
  go_wp2_with fail
  go_loopw [5] (fun i wr => ∃ j : Nat, j ≤ V.length ∧ i = .int .i64 j ∧ Below w.heap.size w wr) (fun i _ => V.length - (intOf i).toNat)
  case atStart => exact ⟨0, Nat.zero_le _, rfl, Below.refl _ _⟩
  case round =>
    obtain ⟨j, hj, rfl, hnx⟩ := hrel
    by_cases hlt : j < V.length
    · obtain ⟨rfl, l1⟩ := (H1.out.below hnx).base (by omega)
      obtain ⟨rfl, l2⟩ := (H2.out.below hnx).base (by omega)
      obtain ⟨x0, x1⟩ := (H1.out.below hnx).cells j hlt
      obtain ⟨y0, y1⟩ := (H2.out.below hnx).cells j hlt
      have j0 : (0 : Int) ≤ (j : Int) := Int.natCast_nonneg _
      have j1 : (j : Int) < (V.length : Int) := by omega
      have HX : Hid (Below w.heap.size w wr) := hnx
      clear hnx
      generalize V.getD j mv0 = m at *
      obtain ⟨mk, mm⟩ := m
      simp only at x0 x1 y0 y1
      have dm : (!(decide (mk = mk) && (mm == mm))) = false := by simp
      go_wp2_with fail
      go_quiet (fail)
      go_wp2_with fail
      exact ⟨⟨j + 1, by omega, by go_num, below_drewN HX.out _⟩, by simp [intOf]; omega⟩
    · have nj : ¬ ((j : Int) < (V.length : Int)) := by omega
      go_wp2_with fail
      go_ret
      exact ⟨rfl, hnx⟩
set_option maxRecDepth 100000 in
set_option maxHeartbeats 2000000 in
theorem from_any (x : Option Addr) (ga ca : Nat) (T : TypeId) (V : List MvD) (w : World) (h : MvAt w T x ga V) (hn : V.length ≤ 3000000) :
    Calls Tryd.prog 13 #[.slice x V.length ca] w fun e w' => ∃ v, e = .returned v ∧ RvRow w w' v V := by
  have H1 : Hid (MvAt w T x ga V) := h
  obtain ⟨i0, hi0, hz0, hz1, hz2⟩ := info_parts rv_info
  clear h
  go_enter Tryd.func13, Tryd.ntmps13
  go_wp2_with fail
  go_loopw [3, 8] (fun v i wr => ∃ j : Nat, j ≤ V.length ∧ i = .int .i64 j ∧ RvRow w wr v (V.take j)) (fun _ i _ => V.length - (intOf i).toNat)
  case atStart => exact ⟨0, Nat.zero_le _, rfl, RvRow.none w⟩
  case round =>
    obtain ⟨j, hj, rfl, hR⟩ := hrel
    have S0 : Hid (RvRow w wr u3 (V.take j)) := hR
    by_cases hlt : j < V.length
    · obtain ⟨rfl, l1⟩ := (H1.out.below hR.below).base (by omega)
      obtain ⟨x0, x1⟩ := (H1.out.below hR.below).cells j hlt
      have j0 : (0 : Int) ≤ (j : Int) := Int.natCast_nonneg _
      have j1 : (j : Int) < (V.length : Int) := by omega
      have TS : Hid (V.take (j + 1) = V.take j ++ [V.getD j mv0]) := takeMv_snoc V j hlt
      have lV : (V.take j).length ≤ 3000000 := by simp; omega
      clear hR
      generalize V.getD j mv0 = m at *
      obtain ⟨mk, mm⟩ := m
      simp only at x0 x1
      generalize V.take j = U at *
      have S1 : Hid (RvRow w (wr.alloc (.cells #[.int .i64 mk, .bool mm] 32)) u3 U) := S0.out.quiet (below_alloc _ _)
      have zz : w.heap.size ≤ wr.heap.size := S0.out.below.size
      go_wp2_with (first | (at_builtin; (refine wpList_append_lies _ (by rfl) _ _ _ (by rfl) w.heap.size 23 i0 _ 2 16 rvs_under hi0 hz0 hz1 hz2 rfl (by omega) _ U.length _ (by rfl) (S1.out.own.alloc _) ⟨wr.heap.size + 1, 0, none⟩ 1 1 [.int .i64 mk, .bool mm] (by rfl) (by rfl) (World.news_of_block (cs := #[.int .i64 mk, .bool mm]) (t := 23) (fr := (0, 0)) (heap_alloc_at _ _ _ (by simp))) (by simp [Value.oneCell']) (by omega) (by unfold maxLen; omega) (by omega) (by simp; omega) (wr.heap.size + 1 + 1) (by simp) ?_); intro g4 c4 w4 ho hg hat hl; have S4 : Hid (RvRow w w4 (.slice (some ⟨g4, 0, none⟩) (U.length + 1) c4) (U ++ [(mk, mm)])) := S1.out.grown (q := (mk, mm)) hg ho; clear ho hg hat hl))
      exact ⟨⟨j + 1, by omega, by go_num, by rw [TS.out]; exact S4.out⟩, by simp [intOf]; omega⟩
    · have nj : ¬ ((j : Int) < (V.length : Int)) := by omega
      have ej : Hid (V.take j = V) := by show _ = _; rw [show j = V.length by omega]; exact List.take_length
      clear hR
      go_wp2_with fail
      go_ret
      exact ⟨_, rfl, by have := S0.out; rw [ej.out] at this; exact this⟩
end Go.Proofs.YthlhbajaogonnaaDoor


/- Layer 18: the law StepsViolations. Made by mk_slaw.py. -/

import Derived.Test.YtfjkddjjpbdjkaaSVio

namespace Go.Proofs.Ytfjkddjjpbdjkaa

open Go.RowKit

attribute [local go_sem ↓] Go.wp_at_zero Go.wp_at_succ

set_option maxRecDepth 100000 in
set_option maxHeartbeats 8000000 in
theorem stepsViolations_any (base : Option Addr) (b o c : Nat) (t : NL) (p k : Int) (mi : Bool) (w : World) (h : NodesAt w base b o t) :
    Calls Try.prog 7 #[.slice base t.length c, .int .i64 p, .agg #[.int .i64 k, .bool mi]] w fun e w' => e = .returned (.bool true) ∧ Below w.heap.size w w' := by
  have HA : Hid (NodesAt w base b o t) := h
  have B0 : Hid (Below w.heap.size w (w.alloc (.cells #[.int .i64 k, .bool mi] 24))) := below_alloc _ _
  have AW : Hid (∀ W, Calls Try.prog 11 #[] W fun e w' => e = .returned (.bool true) ∧ Below W.heap.size W w') := fun W => awake_any W
  have DN : Hid (∀ W, NodesAt W base b o t → Calls Try.prog 28 #[.slice base t.length c, .int .i64 p, .agg #[.int .i64 k, .bool mi]] W fun e w' => ∃ v, e = .returned (.tuple #[v, .bool (doE t p k mi == 0)]) ∧ w'.ownsRow W.heap.size 74 6 v (doL t p k mi).length (ndCells (doL t p k mi)) ∧ Below W.heap.size W w') := fun W hW => done_any base b o c t p k mi W hW
  by_cases h0 : doE t p k mi = 0
  · have e0 : (doE t p k mi == 0) = true := by simp [h0]
    obtain ⟨x, l, r, s, K, n, bb, cc, C, K', u, hD⟩ := dof_of h0
    have hdl := hD.dol
    rw [e0, hdl] at DN
    obtain ⟨hbig, hf⟩ := formE_ok hD.crn.form
    obtain ⟨hbigU, hfU⟩ := formE_ok hD.form
    have RT : Hid (∀ W, NodesAt W base b o t → Calls Try.prog 32 #[.slice base t.length c] W fun e w' => e = .returned (.tuple #[.int .i64 (x : Int), .int .i64 0]) ∧ Below W.heap.size W w') := fun W hW => by have := Root_any base b o c t W hW; rw [hD.crn.root] at this; exact this
    have RU : Hid (∀ {W : World} {b2 : Option Addr} {g2 c2 : Nat}, NodesAt W b2 g2 0 u → Calls Try.prog 32 #[.slice b2 u.length c2] W fun e w' => e = .returned (.tuple #[.int .i64 2, .int .i64 0]) ∧ Below W.heap.size W w') := fun {W b2 g2 c2} hW => by have := Root_any b2 g2 0 c2 u W hW; rw [hD.crnU.root] at this; exact this
    obtain ⟨q1, q2⟩ := hD.bad
    have BT1 : Hid (∀ W, NodesAt W base b o t → Calls Try.prog 36 #[.slice base t.length c, .int .i64 (x : Int)] W fun e w' => e = .returned (.int .i64 K.bad) ∧ Below W.heap.size W w') := fun W hW => bad_any base b o c t hf hbig hD.crn.keys W hW
    have BU1 : Hid (∀ {W : World} {b2 : Option Addr} {g2 c2 : Nat}, NodesAt W b2 g2 0 u → Calls Try.prog 36 #[.slice b2 u.length c2, .int .i64 2] W fun e w' => e = .returned (.int .i64 K'.bad) ∧ Below W.heap.size W w') := fun {W b2 g2 c2} hW => bad_any b2 g2 0 c2 u hfU hbigU hD.crnU.keys W hW
    have z1 : decide (K'.bad ≤ K.bad) = true := by simp [q1]
    have z2 : lessK k = true → decide (K'.bad < K.bad) = true := fun q => by simp [q2 q]
    clear h h0 e0 hdl hf hbig hfU hbigU q1 q2 hD
    generalize K.bad = ka at *
    generalize K'.bad = kb at *
    cases h2 : (k == 2)
    · cases h3 : (k == 3)
      · cases h5 : decide (5 ≤ k)
        · clear z2
          go_enter Try.func7, Try.ntmps7
          go_wp2_with fail
          refine (AW.out _).mono ?_
          rintro e w1 ⟨rfl, hb⟩
          have M1 : Hid (w1.heap[w.heap.size]? = some (.cells #[.int .i64 k, .bool mi] 24 (0, 0))) := (hb.block _ (by simp)).trans (heap_alloc_at _ _ _ rfl)
          have B1 : Hid (Below w.heap.size w w1) := B0.out.trans (hb.mono B0.out.size)
          have m0 := (cell_of M1.out 0 _ rfl).1
          have m1 := (cell_of M1.out 1 _ rfl).1
          have lt1 : w.heap.size < w1.heap.size := (Array.getElem?_eq_some_iff.1 M1.out).1
          clear hb
          go_wp2_with fail
          refine (DN.out _ (HA.out.below B1.out)).mono ?_
          rintro e w2 ⟨v, rfl, ho, hb⟩
          obtain ⟨base2, cap2, g2, rfl, -, -, hn⟩ := nodes_of_owns ho
          have B2 : Hid (Below w.heap.size w w2) := B1.out.trans (hb.mono B1.out.size)
          have NU : Hid (NodesAt w2 base2 g2 0 u) := hn
          have M2 : Hid (w2.heap[w.heap.size]? = some (.cells #[.int .i64 k, .bool mi] 24 (0, 0))) := (hb.block _ lt1).trans M1.out
          clear ho hb hn m0 m1 lt1 M1
          go_wp2_with fail
          refine (RT.out _ (HA.out.below B2.out)).mono ?_
          rintro e w3 ⟨rfl, hb⟩
          have B3 : Hid (Below w.heap.size w w3) := B2.out.trans (hb.mono B2.out.size)
          have NU3 : Hid (NodesAt w3 base2 g2 0 u) := NU.out.below hb
          have M3 : Hid (w3.heap[w.heap.size]? = some (.cells #[.int .i64 k, .bool mi] 24 (0, 0))) := (hb.block _ (Array.getElem?_eq_some_iff.1 M2.out).1).trans M2.out
          clear hb
          go_wp2_with fail
          refine (RU.out NU3.out).mono ?_
          rintro e w4 ⟨rfl, hb⟩
          have B4 : Hid (Below w.heap.size w w4) := B3.out.trans (hb.mono B3.out.size)
          have NU4 : Hid (NodesAt w4 base2 g2 0 u) := NU3.out.below hb
          have M4 : Hid (w4.heap[w.heap.size]? = some (.cells #[.int .i64 k, .bool mi] 24 (0, 0))) := (hb.block _ (Array.getElem?_eq_some_iff.1 M3.out).1).trans M3.out
          clear hb
          go_wp2_with fail
          refine (BT1.out _ (HA.out.below B4.out)).mono ?_
          rintro e w5 ⟨rfl, hb⟩
          have B5 : Hid (Below w.heap.size w w5) := B4.out.trans (hb.mono B4.out.size)
          have NU5 : Hid (NodesAt w5 base2 g2 0 u) := NU4.out.below hb
          have M5 : Hid (w5.heap[w.heap.size]? = some (.cells #[.int .i64 k, .bool mi] 24 (0, 0))) := (hb.block _ (Array.getElem?_eq_some_iff.1 M4.out).1).trans M4.out
          clear hb
          go_wp2_with fail
          refine (BU1.out NU5.out).mono ?_
          rintro e w6 ⟨rfl, hb⟩
          have B6 : Hid (Below w.heap.size w w6) := B5.out.trans (hb.mono B5.out.size)
          have M6 : Hid (w6.heap[w.heap.size]? = some (.cells #[.int .i64 k, .bool mi] 24 (0, 0))) := (hb.block _ (Array.getElem?_eq_some_iff.1 M5.out).1).trans M5.out
          have m0 := (cell_of M6.out 0 _ rfl).1
          clear hb
          go_wp2_with fail
          go_ret
          exact ⟨rfl, B6.out⟩
        · cases h11 : decide (k ≤ 11)
          · clear z2
            go_enter Try.func7, Try.ntmps7
            go_wp2_with fail
            refine (AW.out _).mono ?_
            rintro e w1 ⟨rfl, hb⟩
            have M1 : Hid (w1.heap[w.heap.size]? = some (.cells #[.int .i64 k, .bool mi] 24 (0, 0))) := (hb.block _ (by simp)).trans (heap_alloc_at _ _ _ rfl)
            have B1 : Hid (Below w.heap.size w w1) := B0.out.trans (hb.mono B0.out.size)
            have m0 := (cell_of M1.out 0 _ rfl).1
            have m1 := (cell_of M1.out 1 _ rfl).1
            have lt1 : w.heap.size < w1.heap.size := (Array.getElem?_eq_some_iff.1 M1.out).1
            clear hb
            go_wp2_with fail
            refine (DN.out _ (HA.out.below B1.out)).mono ?_
            rintro e w2 ⟨v, rfl, ho, hb⟩
            obtain ⟨base2, cap2, g2, rfl, -, -, hn⟩ := nodes_of_owns ho
            have B2 : Hid (Below w.heap.size w w2) := B1.out.trans (hb.mono B1.out.size)
            have NU : Hid (NodesAt w2 base2 g2 0 u) := hn
            have M2 : Hid (w2.heap[w.heap.size]? = some (.cells #[.int .i64 k, .bool mi] 24 (0, 0))) := (hb.block _ lt1).trans M1.out
            clear ho hb hn m0 m1 lt1 M1
            go_wp2_with fail
            refine (RT.out _ (HA.out.below B2.out)).mono ?_
            rintro e w3 ⟨rfl, hb⟩
            have B3 : Hid (Below w.heap.size w w3) := B2.out.trans (hb.mono B2.out.size)
            have NU3 : Hid (NodesAt w3 base2 g2 0 u) := NU.out.below hb
            have M3 : Hid (w3.heap[w.heap.size]? = some (.cells #[.int .i64 k, .bool mi] 24 (0, 0))) := (hb.block _ (Array.getElem?_eq_some_iff.1 M2.out).1).trans M2.out
            clear hb
            go_wp2_with fail
            refine (RU.out NU3.out).mono ?_
            rintro e w4 ⟨rfl, hb⟩
            have B4 : Hid (Below w.heap.size w w4) := B3.out.trans (hb.mono B3.out.size)
            have NU4 : Hid (NodesAt w4 base2 g2 0 u) := NU3.out.below hb
            have M4 : Hid (w4.heap[w.heap.size]? = some (.cells #[.int .i64 k, .bool mi] 24 (0, 0))) := (hb.block _ (Array.getElem?_eq_some_iff.1 M3.out).1).trans M3.out
            clear hb
            go_wp2_with fail
            refine (BT1.out _ (HA.out.below B4.out)).mono ?_
            rintro e w5 ⟨rfl, hb⟩
            have B5 : Hid (Below w.heap.size w w5) := B4.out.trans (hb.mono B4.out.size)
            have NU5 : Hid (NodesAt w5 base2 g2 0 u) := NU4.out.below hb
            have M5 : Hid (w5.heap[w.heap.size]? = some (.cells #[.int .i64 k, .bool mi] 24 (0, 0))) := (hb.block _ (Array.getElem?_eq_some_iff.1 M4.out).1).trans M4.out
            clear hb
            go_wp2_with fail
            refine (BU1.out NU5.out).mono ?_
            rintro e w6 ⟨rfl, hb⟩
            have B6 : Hid (Below w.heap.size w w6) := B5.out.trans (hb.mono B5.out.size)
            have M6 : Hid (w6.heap[w.heap.size]? = some (.cells #[.int .i64 k, .bool mi] 24 (0, 0))) := (hb.block _ (Array.getElem?_eq_some_iff.1 M5.out).1).trans M5.out
            have m0 := (cell_of M6.out 0 _ rfl).1
            clear hb
            go_wp2_with fail
            go_ret
            exact ⟨rfl, B6.out⟩
          · have z3 := z2 (by simp only [decide_eq_true_eq] at h5 h11; simp only [lessK, decide_eq_true_eq]; omega)
            clear z2
            go_enter Try.func7, Try.ntmps7
            go_wp2_with fail
            refine (AW.out _).mono ?_
            rintro e w1 ⟨rfl, hb⟩
            have M1 : Hid (w1.heap[w.heap.size]? = some (.cells #[.int .i64 k, .bool mi] 24 (0, 0))) := (hb.block _ (by simp)).trans (heap_alloc_at _ _ _ rfl)
            have B1 : Hid (Below w.heap.size w w1) := B0.out.trans (hb.mono B0.out.size)
            have m0 := (cell_of M1.out 0 _ rfl).1
            have m1 := (cell_of M1.out 1 _ rfl).1
            have lt1 : w.heap.size < w1.heap.size := (Array.getElem?_eq_some_iff.1 M1.out).1
            clear hb
            go_wp2_with fail
            refine (DN.out _ (HA.out.below B1.out)).mono ?_
            rintro e w2 ⟨v, rfl, ho, hb⟩
            obtain ⟨base2, cap2, g2, rfl, -, -, hn⟩ := nodes_of_owns ho
            have B2 : Hid (Below w.heap.size w w2) := B1.out.trans (hb.mono B1.out.size)
            have NU : Hid (NodesAt w2 base2 g2 0 u) := hn
            have M2 : Hid (w2.heap[w.heap.size]? = some (.cells #[.int .i64 k, .bool mi] 24 (0, 0))) := (hb.block _ lt1).trans M1.out
            clear ho hb hn m0 m1 lt1 M1
            go_wp2_with fail
            refine (RT.out _ (HA.out.below B2.out)).mono ?_
            rintro e w3 ⟨rfl, hb⟩
            have B3 : Hid (Below w.heap.size w w3) := B2.out.trans (hb.mono B2.out.size)
            have NU3 : Hid (NodesAt w3 base2 g2 0 u) := NU.out.below hb
            have M3 : Hid (w3.heap[w.heap.size]? = some (.cells #[.int .i64 k, .bool mi] 24 (0, 0))) := (hb.block _ (Array.getElem?_eq_some_iff.1 M2.out).1).trans M2.out
            clear hb
            go_wp2_with fail
            refine (RU.out NU3.out).mono ?_
            rintro e w4 ⟨rfl, hb⟩
            have B4 : Hid (Below w.heap.size w w4) := B3.out.trans (hb.mono B3.out.size)
            have NU4 : Hid (NodesAt w4 base2 g2 0 u) := NU3.out.below hb
            have M4 : Hid (w4.heap[w.heap.size]? = some (.cells #[.int .i64 k, .bool mi] 24 (0, 0))) := (hb.block _ (Array.getElem?_eq_some_iff.1 M3.out).1).trans M3.out
            clear hb
            go_wp2_with fail
            refine (BT1.out _ (HA.out.below B4.out)).mono ?_
            rintro e w5 ⟨rfl, hb⟩
            have B5 : Hid (Below w.heap.size w w5) := B4.out.trans (hb.mono B4.out.size)
            have NU5 : Hid (NodesAt w5 base2 g2 0 u) := NU4.out.below hb
            have M5 : Hid (w5.heap[w.heap.size]? = some (.cells #[.int .i64 k, .bool mi] 24 (0, 0))) := (hb.block _ (Array.getElem?_eq_some_iff.1 M4.out).1).trans M4.out
            clear hb
            go_wp2_with fail
            refine (BU1.out NU5.out).mono ?_
            rintro e w6 ⟨rfl, hb⟩
            have B6 : Hid (Below w.heap.size w w6) := B5.out.trans (hb.mono B5.out.size)
            have M6 : Hid (w6.heap[w.heap.size]? = some (.cells #[.int .i64 k, .bool mi] 24 (0, 0))) := (hb.block _ (Array.getElem?_eq_some_iff.1 M5.out).1).trans M5.out
            have m0 := (cell_of M6.out 0 _ rfl).1
            clear hb
            go_wp2_with fail
            go_ret
            exact ⟨rfl, B6.out⟩
      · have z3 := z2 (by simp only [beq_iff_eq] at h3; simp only [lessK, decide_eq_true_eq]; omega)
        clear z2
        go_enter Try.func7, Try.ntmps7
        go_wp2_with fail
        refine (AW.out _).mono ?_
        rintro e w1 ⟨rfl, hb⟩
        have M1 : Hid (w1.heap[w.heap.size]? = some (.cells #[.int .i64 k, .bool mi] 24 (0, 0))) := (hb.block _ (by simp)).trans (heap_alloc_at _ _ _ rfl)
        have B1 : Hid (Below w.heap.size w w1) := B0.out.trans (hb.mono B0.out.size)
        have m0 := (cell_of M1.out 0 _ rfl).1
        have m1 := (cell_of M1.out 1 _ rfl).1
        have lt1 : w.heap.size < w1.heap.size := (Array.getElem?_eq_some_iff.1 M1.out).1
        clear hb
        go_wp2_with fail
        refine (DN.out _ (HA.out.below B1.out)).mono ?_
        rintro e w2 ⟨v, rfl, ho, hb⟩
        obtain ⟨base2, cap2, g2, rfl, -, -, hn⟩ := nodes_of_owns ho
        have B2 : Hid (Below w.heap.size w w2) := B1.out.trans (hb.mono B1.out.size)
        have NU : Hid (NodesAt w2 base2 g2 0 u) := hn
        have M2 : Hid (w2.heap[w.heap.size]? = some (.cells #[.int .i64 k, .bool mi] 24 (0, 0))) := (hb.block _ lt1).trans M1.out
        clear ho hb hn m0 m1 lt1 M1
        go_wp2_with fail
        refine (RT.out _ (HA.out.below B2.out)).mono ?_
        rintro e w3 ⟨rfl, hb⟩
        have B3 : Hid (Below w.heap.size w w3) := B2.out.trans (hb.mono B2.out.size)
        have NU3 : Hid (NodesAt w3 base2 g2 0 u) := NU.out.below hb
        have M3 : Hid (w3.heap[w.heap.size]? = some (.cells #[.int .i64 k, .bool mi] 24 (0, 0))) := (hb.block _ (Array.getElem?_eq_some_iff.1 M2.out).1).trans M2.out
        clear hb
        go_wp2_with fail
        refine (RU.out NU3.out).mono ?_
        rintro e w4 ⟨rfl, hb⟩
        have B4 : Hid (Below w.heap.size w w4) := B3.out.trans (hb.mono B3.out.size)
        have NU4 : Hid (NodesAt w4 base2 g2 0 u) := NU3.out.below hb
        have M4 : Hid (w4.heap[w.heap.size]? = some (.cells #[.int .i64 k, .bool mi] 24 (0, 0))) := (hb.block _ (Array.getElem?_eq_some_iff.1 M3.out).1).trans M3.out
        clear hb
        go_wp2_with fail
        refine (BT1.out _ (HA.out.below B4.out)).mono ?_
        rintro e w5 ⟨rfl, hb⟩
        have B5 : Hid (Below w.heap.size w w5) := B4.out.trans (hb.mono B4.out.size)
        have NU5 : Hid (NodesAt w5 base2 g2 0 u) := NU4.out.below hb
        have M5 : Hid (w5.heap[w.heap.size]? = some (.cells #[.int .i64 k, .bool mi] 24 (0, 0))) := (hb.block _ (Array.getElem?_eq_some_iff.1 M4.out).1).trans M4.out
        clear hb
        go_wp2_with fail
        refine (BU1.out NU5.out).mono ?_
        rintro e w6 ⟨rfl, hb⟩
        have B6 : Hid (Below w.heap.size w w6) := B5.out.trans (hb.mono B5.out.size)
        have M6 : Hid (w6.heap[w.heap.size]? = some (.cells #[.int .i64 k, .bool mi] 24 (0, 0))) := (hb.block _ (Array.getElem?_eq_some_iff.1 M5.out).1).trans M5.out
        have m0 := (cell_of M6.out 0 _ rfl).1
        clear hb
        go_wp2_with fail
        go_ret
        exact ⟨rfl, B6.out⟩
    · have z3 := z2 (by simp only [beq_iff_eq] at h2; simp only [lessK, decide_eq_true_eq]; omega)
      clear z2
      go_enter Try.func7, Try.ntmps7
      go_wp2_with fail
      refine (AW.out _).mono ?_
      rintro e w1 ⟨rfl, hb⟩
      have M1 : Hid (w1.heap[w.heap.size]? = some (.cells #[.int .i64 k, .bool mi] 24 (0, 0))) := (hb.block _ (by simp)).trans (heap_alloc_at _ _ _ rfl)
      have B1 : Hid (Below w.heap.size w w1) := B0.out.trans (hb.mono B0.out.size)
      have m0 := (cell_of M1.out 0 _ rfl).1
      have m1 := (cell_of M1.out 1 _ rfl).1
      have lt1 : w.heap.size < w1.heap.size := (Array.getElem?_eq_some_iff.1 M1.out).1
      clear hb
      go_wp2_with fail
      refine (DN.out _ (HA.out.below B1.out)).mono ?_
      rintro e w2 ⟨v, rfl, ho, hb⟩
      obtain ⟨base2, cap2, g2, rfl, -, -, hn⟩ := nodes_of_owns ho
      have B2 : Hid (Below w.heap.size w w2) := B1.out.trans (hb.mono B1.out.size)
      have NU : Hid (NodesAt w2 base2 g2 0 u) := hn
      have M2 : Hid (w2.heap[w.heap.size]? = some (.cells #[.int .i64 k, .bool mi] 24 (0, 0))) := (hb.block _ lt1).trans M1.out
      clear ho hb hn m0 m1 lt1 M1
      go_wp2_with fail
      refine (RT.out _ (HA.out.below B2.out)).mono ?_
      rintro e w3 ⟨rfl, hb⟩
      have B3 : Hid (Below w.heap.size w w3) := B2.out.trans (hb.mono B2.out.size)
      have NU3 : Hid (NodesAt w3 base2 g2 0 u) := NU.out.below hb
      have M3 : Hid (w3.heap[w.heap.size]? = some (.cells #[.int .i64 k, .bool mi] 24 (0, 0))) := (hb.block _ (Array.getElem?_eq_some_iff.1 M2.out).1).trans M2.out
      clear hb
      go_wp2_with fail
      refine (RU.out NU3.out).mono ?_
      rintro e w4 ⟨rfl, hb⟩
      have B4 : Hid (Below w.heap.size w w4) := B3.out.trans (hb.mono B3.out.size)
      have NU4 : Hid (NodesAt w4 base2 g2 0 u) := NU3.out.below hb
      have M4 : Hid (w4.heap[w.heap.size]? = some (.cells #[.int .i64 k, .bool mi] 24 (0, 0))) := (hb.block _ (Array.getElem?_eq_some_iff.1 M3.out).1).trans M3.out
      clear hb
      go_wp2_with fail
      refine (BT1.out _ (HA.out.below B4.out)).mono ?_
      rintro e w5 ⟨rfl, hb⟩
      have B5 : Hid (Below w.heap.size w w5) := B4.out.trans (hb.mono B4.out.size)
      have NU5 : Hid (NodesAt w5 base2 g2 0 u) := NU4.out.below hb
      have M5 : Hid (w5.heap[w.heap.size]? = some (.cells #[.int .i64 k, .bool mi] 24 (0, 0))) := (hb.block _ (Array.getElem?_eq_some_iff.1 M4.out).1).trans M4.out
      clear hb
      go_wp2_with fail
      refine (BU1.out NU5.out).mono ?_
      rintro e w6 ⟨rfl, hb⟩
      have B6 : Hid (Below w.heap.size w w6) := B5.out.trans (hb.mono B5.out.size)
      have M6 : Hid (w6.heap[w.heap.size]? = some (.cells #[.int .i64 k, .bool mi] 24 (0, 0))) := (hb.block _ (Array.getElem?_eq_some_iff.1 M5.out).1).trans M5.out
      have m0 := (cell_of M6.out 0 _ rfl).1
      clear hb
      go_wp2_with fail
      go_ret
      exact ⟨rfl, B6.out⟩
  · have e0 : (doE t p k mi == 0) = false := by simp [h0]
    have e1 : doL t p k mi = [] := by unfold doL; rw [if_neg h0]
    rw [e0, e1] at DN
    clear h h0 e0 e1
    go_enter Try.func7, Try.ntmps7
    go_wp2_with fail
    refine (AW.out _).mono ?_
    rintro e w1 ⟨rfl, hb⟩
    have M1 : Hid (w1.heap[w.heap.size]? = some (.cells #[.int .i64 k, .bool mi] 24 (0, 0))) := (hb.block _ (by simp)).trans (heap_alloc_at _ _ _ rfl)
    have B1 : Hid (Below w.heap.size w w1) := B0.out.trans (hb.mono B0.out.size)
    have m0 := (cell_of M1.out 0 _ rfl).1
    have m1 := (cell_of M1.out 1 _ rfl).1
    have lt1 : w.heap.size < w1.heap.size := (Array.getElem?_eq_some_iff.1 M1.out).1
    clear hb
    go_wp2_with fail
    refine (DN.out _ (HA.out.below B1.out)).mono ?_
    rintro e w2 ⟨v, rfl, ho, hb⟩
    obtain ⟨base2, cap2, g2, rfl, -, -, -⟩ := nodes_of_owns (t := []) ho
    have B2 : Hid (Below w.heap.size w w2) := B1.out.trans (hb.mono B1.out.size)
    clear ho hb
    go_wp2_with fail
    go_ret
    exact ⟨rfl, B2.out⟩
end Go.Proofs.Ytfjkddjjpbdjkaa

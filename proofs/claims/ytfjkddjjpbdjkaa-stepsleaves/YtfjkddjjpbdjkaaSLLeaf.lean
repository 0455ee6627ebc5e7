
/- Layer 18: the law StepsLeaves. Made by mk_slaw.py. -/

import Derived.Test.YtfjkddjjpbdjkaaSOpen

import Derived.Test.YtfjkddjjpbdjkaaSLv

namespace Go.Proofs.Ytfjkddjjpbdjkaa

open Go.RowKit

attribute [local go_sem ↓] Go.wp_at_zero Go.wp_at_succ

set_option maxRecDepth 100000 in
set_option maxHeartbeats 8000000 in
theorem stepsLeaves_any (base : Option Addr) (b o c : Nat) (t : NL) (p k : Int) (mi : Bool) (w : World) (h : NodesAt w base b o t) (hin : NodesIn t) :
    Calls Try.prog 5 #[.slice base t.length c, .int .i64 p, .agg #[.int .i64 k, .bool mi]] w fun e w' => e = .returned (.bool true) ∧ Below w.heap.size w w' := by
  have HA : Hid (NodesAt w base b o t) := h
  have B0 : Hid (Below w.heap.size w (w.alloc (.cells #[.int .i64 k, .bool mi] 24))) := below_alloc _ _
  have AW : Hid (∀ W, Calls Try.prog 11 #[] W fun e w' => e = .returned (.bool true) ∧ Below W.heap.size W w') := fun W => awake_any W
  have DN : Hid (∀ W, NodesAt W base b o t → Calls Try.prog 28 #[.slice base t.length c, .int .i64 p, .agg #[.int .i64 k, .bool mi]] W fun e w' => ∃ v, e = .returned (.tuple #[v, .bool (doE t p k mi == 0)]) ∧ w'.ownsRow W.heap.size 74 6 v (doL t p k mi).length (ndCells (doL t p k mi)) ∧ Below W.heap.size W w') := fun W hW => done_any base b o c t p k mi W hW
  by_cases h0 : doE t p k mi = 0
  · have e0 : (doE t p k mi == 0) = true := by simp [h0]
    obtain ⟨x, l, r, s, K, n, bb, cc, C, K', u, hD⟩ := dof_of h0
    have hdl := hD.dol
    rw [e0, hdl] at DN
    obtain ⟨hbig, hf⟩ := formE_ok hD.crn.form
    obtain ⟨hbigU, hfU⟩ := formE_ok hD.form
    have RT : Hid (∀ W, NodesAt W base b o t → Calls Try.prog 32 #[.slice base t.length c] W fun e w' => e = .returned (.tuple #[.int .i64 (x : Int), .int .i64 0]) ∧ Below W.heap.size W w') := fun W hW => by have := Root_any base b o c t W hW; rw [hD.crn.root] at this; exact this
    have RU : Hid (∀ {W : World} {b2 : Option Addr} {g2 c2 : Nat}, NodesAt W b2 g2 0 u → Calls Try.prog 32 #[.slice b2 u.length c2] W fun e w' => e = .returned (.tuple #[.int .i64 2, .int .i64 0]) ∧ Below W.heap.size W w') := fun {W b2 g2 c2} hW => by have := Root_any b2 g2 0 c2 u W hW; rw [hD.crnU.root] at this; exact this
    obtain ⟨X, P, oa, ob, hL⟩ := lvf_of hD hin
    have NO : Hid (∀ {W : World} {b2 : Option Addr} {g2 c2 : Nat}, NodesAt W b2 g2 0 u → Calls Try.prog 29 #[.slice b2 u.length c2] W fun e w' => ∃ v, e = .returned (.tuple #[v, .int .i64 0]) ∧ w'.ownsRow W.heap.size 74 6 v u.length (ndCells u) ∧ Below W.heap.size W w') := fun {W b2 g2 c2} hW => by have := norm_any b2 g2 0 c2 u W hW; rw [hL.n1, hL.f2] at this; exact this
    have PA1 : Hid (∀ W, NodesAt W base b o t → Calls Try.prog 30 #[.slice base t.length c] W fun e w' => ∃ v, e = .returned (.tuple #[v, .int .i64 0]) ∧ w'.ownsRow W.heap.size 69 2 v P.length (pairCells P) ∧ Below W.heap.size W w') := fun W hW => by have := Pairs_any base b o c t W hW; rw [hL.p1, hL.f1] at this; exact this
    have PA2 : Hid (∀ {W : World} {b2 : Option Addr} {g2 c2 : Nat}, NodesAt W b2 g2 0 u → Calls Try.prog 30 #[.slice b2 u.length c2] W fun e w' => ∃ v, e = .returned (.tuple #[v, .int .i64 0]) ∧ w'.ownsRow W.heap.size 69 2 v P.length (pairCells P) ∧ Below W.heap.size W w') := fun {W b2 g2 c2} hW => by have := Pairs_any b2 g2 0 c2 u W hW; rw [hL.p2, hL.f2] at this; exact this
    have OR1 : Hid (∀ W, NodesAt W base b o t → Calls Try.prog 31 #[.slice base t.length c] W fun e w' => e = .returned (.tuple #[.bool oa, .int .i64 0]) ∧ Below W.heap.size W w') := fun W hW => by have := Ordered_any base b o c t W hW hin; rw [hL.o1, hL.f1] at this; exact this
    have OR2 : Hid (∀ {W : World} {b2 : Option Addr} {g2 c2 : Nat}, NodesAt W b2 g2 0 u → Calls Try.prog 31 #[.slice b2 u.length c2] W fun e w' => e = .returned (.tuple #[.bool ob, .int .i64 0]) ∧ Below W.heap.size W w') := fun {W b2 g2 c2} hW => by have := Ordered_any b2 g2 0 c2 u W hW hL.inU; rw [hL.o2, hL.f2] at this; exact this
    have SB : Hid (∀ {W : World} {b2 : Option Addr} {g2 c2 : Nat}, NodesAt W b2 g2 0 u → Calls Try.prog 33 #[.slice b2 u.length c2, .int .i64 2] W fun e w' => ∃ v, e = .returned (.tuple #[v, .int .i64 0]) ∧ w'.ownsRow W.heap.size 74 6 v X.length (ndCells X) ∧ Below W.heap.size W w') := fun {W b2 g2 c2} hW => by have := Sub_any b2 g2 0 c2 u 2 W hW; rw [hL.s1, hL.s2] at this; exact this
    have GR : Hid (∀ {W : World} {b2 : Option Addr} {g2 c2 : Nat}, NodesAt W base b o t → NodesAt W b2 g2 0 X → Calls Try.prog 34 #[.slice base t.length c, .int .i64 (x : Int), .slice b2 X.length c2] W fun e w' => ∃ v, e = .returned (.tuple #[v, .int .i64 0]) ∧ w'.ownsRow W.heap.size 74 6 v u.length (ndCells u) ∧ Below W.heap.size W w') := fun {W b2 g2 c2} hW hX => by have := Graft_any base b2 b o c g2 0 c2 t X (x : Int) W hW hX; rw [hL.g1, hL.g2] at this; exact this
    have ST : Hid (∀ {W : World} {b1 b2 : Option Addr} {g1 c1 g2 c2 : Nat}, NodesAt W b1 g1 0 u → NodesAt W b2 g2 0 u → Calls Try.prog 20 #[.slice b1 u.length c1, .slice b2 u.length c2] W fun e w' => e = .returned (.bool true) ∧ Below W.heap.size W w') := fun {W b1 b2 g1 c1 g2 c2} h1 h2 => by
      have := sameT_any b1 b2 g1 0 c1 g2 0 c2 u u W h1 h2
      rw [show nlEq u u = true by unfold nlEq; simp] at this
      exact this
    have hOO := hL.oo
    have lenF : ((u.length : Int) != (t.length : Int)) = false := by rw [hL.len]; simp
    have pbig := hL.big
    have hpn := pr_neq
    clear h h0 e0 hdl hf hbig hfU hbigU hD hL hin
    cases oa
    · clear hOO
      go_enter Try.func5, Try.ntmps5
      go_wp2_with fail
      refine (AW.out _).mono ?_
      rintro e w1 ⟨rfl, hb⟩
      have M1 : Hid (w1.heap[w.heap.size]? = some (.cells #[.int .i64 k, .bool mi] 24 (0, 0))) := (hb.block _ (by simp)).trans (heap_alloc_at _ _ _ rfl)
      have B1 : Hid (Below w.heap.size w w1) := B0.out.trans (hb.mono B0.out.size)
      have m0 := (cell_of M1.out 0 _ rfl).1
      have m1 := (cell_of M1.out 1 _ rfl).1
      have lt1 : w.heap.size < w1.heap.size := (Array.getElem?_eq_some_iff.1 M1.out).1
      clear hb
      go_wp2_with fail
      refine (DN.out _ (HA.out.below B1.out)).mono ?_
      rintro e w2 ⟨v, rfl, ho, hb⟩
      obtain ⟨base2, cap2, g2, rfl, -, -, hn⟩ := nodes_of_owns ho
      have B2 : Hid (Below w.heap.size w w2) := B1.out.trans (hb.mono B1.out.size)
      have NU2 : Hid (NodesAt w2 base2 g2 0 u) := hn
      clear ho hb hn m0 m1 lt1 M1
      go_wp2_with fail
      refine (NO.out NU2.out).mono ?_
      rintro e w3 ⟨v3, rfl, ho, hb⟩
      obtain ⟨ba3, ca3, ga3, rfl, -, -, hn⟩ := nodes_of_owns ho
      have B3 : Hid (Below w.heap.size w w3) := B2.out.trans (hb.mono B2.out.size)
      have NU3 : Hid (NodesAt w3 base2 g2 0 u) := NU2.out.below hb
      have NN3 : Hid (NodesAt w3 ba3 ga3 0 u) := hn
      clear ho hb hn
      go_wp2_with fail
      refine (PA1.out _ (HA.out.below B3.out)).mono ?_
      rintro e w4 ⟨v4, rfl, ho, hb⟩
      obtain ⟨ba4, ca4, ga4, rfl, -, -, hn⟩ := pairs_of_owns ho (by unfold maxLen; omega)
      have B4 : Hid (Below w.heap.size w w4) := B3.out.trans (hb.mono B3.out.size)
      have NU4 : Hid (NodesAt w4 base2 g2 0 u) := NU3.out.below hb
      have NN4 : Hid (NodesAt w4 ba3 ga3 0 u) := NN3.out.below hb
      have P1_4 : Hid (PairsAt w4 ba4 ga4 0 P) := hn
      clear ho hb hn
      go_wp2_with fail
      refine (PA2.out NU4.out).mono ?_
      rintro e w5 ⟨v5, rfl, ho, hb⟩
      obtain ⟨ba5, ca5, ga5, rfl, -, -, hn⟩ := pairs_of_owns ho (by unfold maxLen; omega)
      have B5 : Hid (Below w.heap.size w w5) := B4.out.trans (hb.mono B4.out.size)
      have NU5 : Hid (NodesAt w5 base2 g2 0 u) := NU4.out.below hb
      have NN5 : Hid (NodesAt w5 ba3 ga3 0 u) := NN4.out.below hb
      have P1_5 : Hid (PairsAt w5 ba4 ga4 0 P) := P1_4.out.below hb
      have P2_5 : Hid (PairsAt w5 ba5 ga5 0 P) := hn
      clear ho hb hn
      go_wp2_with fail
      refine (OR1.out _ (HA.out.below B5.out)).mono ?_
      rintro e w6 ⟨rfl, hb⟩
      have B6 : Hid (Below w.heap.size w w6) := B5.out.trans (hb.mono B5.out.size)
      have NU6 : Hid (NodesAt w6 base2 g2 0 u) := NU5.out.below hb
      have NN6 : Hid (NodesAt w6 ba3 ga3 0 u) := NN5.out.below hb
      have P1_6 : Hid (PairsAt w6 ba4 ga4 0 P) := P1_5.out.below hb
      have P2_6 : Hid (PairsAt w6 ba5 ga5 0 P) := P2_5.out.below hb
      clear hb
      go_wp2_with fail
      refine (OR2.out NU6.out).mono ?_
      rintro e w7 ⟨rfl, hb⟩
      have B7 : Hid (Below w.heap.size w w7) := B6.out.trans (hb.mono B6.out.size)
      have NU7 : Hid (NodesAt w7 base2 g2 0 u) := NU6.out.below hb
      have NN7 : Hid (NodesAt w7 ba3 ga3 0 u) := NN6.out.below hb
      have P1_7 : Hid (PairsAt w7 ba4 ga4 0 P) := P1_6.out.below hb
      have P2_7 : Hid (PairsAt w7 ba5 ga5 0 P) := P2_6.out.below hb
      clear hb
      go_wp2_with fail
      refine (RU.out NU7.out).mono ?_
      rintro e w8 ⟨rfl, hb⟩
      have B8 : Hid (Below w.heap.size w w8) := B7.out.trans (hb.mono B7.out.size)
      have NU8 : Hid (NodesAt w8 base2 g2 0 u) := NU7.out.below hb
      have NN8 : Hid (NodesAt w8 ba3 ga3 0 u) := NN7.out.below hb
      have P1_8 : Hid (PairsAt w8 ba4 ga4 0 P) := P1_7.out.below hb
      have P2_8 : Hid (PairsAt w8 ba5 ga5 0 P) := P2_7.out.below hb
      clear hb
      go_wp2_with (first | (go_at_call 20; refine (ST.out NN8.out NU8.out).mono ?_; rintro e w9 ⟨rfl, hb⟩; have B9 : Hid (Below w.heap.size w w9) := B8.out.trans (hb.mono B8.out.size); have NU9 : Hid (NodesAt w9 base2 g2 0 u) := NU8.out.below hb; have P1_9 : Hid (PairsAt w9 ba4 ga4 0 P) := P1_8.out.below hb; have P2_9 : Hid (PairsAt w9 ba5 ga5 0 P) := P2_8.out.below hb; clear hb))
      go_loopw [115] (fun i wr => ∃ j : Nat, j ≤ P.length ∧ i = .int .i64 j ∧ Below w9.heap.size w9 wr) (fun i _ => P.length - (intOf i).toNat)
      case atStart => exact ⟨0, Nat.zero_le _, rfl, Below.refl _ _⟩
      case round =>
        obtain ⟨j, hj, rfl, hbw⟩ := hrel
        have HB : Hid (Below w9.heap.size w9 wr) := hbw
        by_cases hlt : j < P.length
        · obtain rfl : ba4 = some ⟨ga4, 0, none⟩ := P1_9.out.base (by omega)
          obtain rfl : ba5 = some ⟨ga5, 0, none⟩ := P2_9.out.base (by omega)
          obtain ⟨c0, c1⟩ := (P1_9.out.below hbw).cells j hlt
          obtain ⟨d0, d1⟩ := (P2_9.out.below hbw).cells j hlt
          simp only [Nat.zero_add] at c0 c1 d0 d1
          have lg4 := (P1_9.out.below hbw).lt (by omega)
          have lg5 := (P2_9.out.below hbw).lt (by omega)
          have j0 : (0 : Int) ≤ (j : Int) := Int.natCast_nonneg _
          have j1 : (j : Int) < (P.length : Int) := by omega
          generalize keyAt P j = x0 at c0 d0
          generalize valAt P j = x1 at c1 d1
          have hx : (decide (x0 = x0) && decide (x1 = x1)) = true := by simp
          clear hbw
          go_wp2_with fail
          go_quiet (fail)
          go_wp2_with fail
          exact ⟨⟨j + 1, by omega, by go_num, below_drewN HB.out _⟩, by simp [intOf]; omega⟩
        · obtain rfl : j = P.length := by omega
          have B10 : Hid (Below w.heap.size w wr) := B9.out.trans (HB.out.mono B9.out.size)
          have NU10 : Hid (NodesAt wr base2 g2 0 u) := NU9.out.below HB.out
          clear hbw
          go_wp2_with fail
          refine (RT.out _ (HA.out.below B10.out)).mono ?_
          rintro e w11 ⟨rfl, hb⟩
          have B11 : Hid (Below w.heap.size w w11) := B10.out.trans (hb.mono B10.out.size)
          have NU11 : Hid (NodesAt w11 base2 g2 0 u) := NU10.out.below hb
          clear hb
          go_wp2_with fail
          refine (SB.out NU11.out).mono ?_
          rintro e w12 ⟨v12, rfl, ho, hb⟩
          obtain ⟨bc, cc, gc, rfl, -, -, hn⟩ := nodes_of_owns ho
          have B12 : Hid (Below w.heap.size w w12) := B11.out.trans (hb.mono B11.out.size)
          have NU12 : Hid (NodesAt w12 base2 g2 0 u) := NU11.out.below hb
          have NX : Hid (NodesAt w12 bc gc 0 X) := hn
          clear hb ho hn
          go_wp2_with fail
          refine (GR.out (HA.out.below B12.out) NX.out).mono ?_
          rintro e w13 ⟨v13, rfl, ho, hb⟩
          obtain ⟨bd, cd, gd, rfl, -, -, hn⟩ := nodes_of_owns ho
          have B13 : Hid (Below w.heap.size w w13) := B12.out.trans (hb.mono B12.out.size)
          have NU13 : Hid (NodesAt w13 base2 g2 0 u) := NU12.out.below hb
          have NY : Hid (NodesAt w13 bd gd 0 u) := hn
          clear hb ho hn
          go_wp2_with (first | (go_at_call 20; refine (ST.out NY.out NU13.out).mono ?_; rintro e w14 ⟨rfl, hb⟩; have B14 : Hid (Below w.heap.size w w14) := B13.out.trans (hb.mono B13.out.size); clear hb))
          go_ret
          exact ⟨rfl, B14.out⟩
    · obtain rfl : ob = true := hOO rfl
      clear hOO
      go_enter Try.func5, Try.ntmps5
      go_wp2_with fail
      refine (AW.out _).mono ?_
      rintro e w1 ⟨rfl, hb⟩
      have M1 : Hid (w1.heap[w.heap.size]? = some (.cells #[.int .i64 k, .bool mi] 24 (0, 0))) := (hb.block _ (by simp)).trans (heap_alloc_at _ _ _ rfl)
      have B1 : Hid (Below w.heap.size w w1) := B0.out.trans (hb.mono B0.out.size)
      have m0 := (cell_of M1.out 0 _ rfl).1
      have m1 := (cell_of M1.out 1 _ rfl).1
      have lt1 : w.heap.size < w1.heap.size := (Array.getElem?_eq_some_iff.1 M1.out).1
      clear hb
      go_wp2_with fail
      refine (DN.out _ (HA.out.below B1.out)).mono ?_
      rintro e w2 ⟨v, rfl, ho, hb⟩
      obtain ⟨base2, cap2, g2, rfl, -, -, hn⟩ := nodes_of_owns ho
      have B2 : Hid (Below w.heap.size w w2) := B1.out.trans (hb.mono B1.out.size)
      have NU2 : Hid (NodesAt w2 base2 g2 0 u) := hn
      clear ho hb hn m0 m1 lt1 M1
      go_wp2_with fail
      refine (NO.out NU2.out).mono ?_
      rintro e w3 ⟨v3, rfl, ho, hb⟩
      obtain ⟨ba3, ca3, ga3, rfl, -, -, hn⟩ := nodes_of_owns ho
      have B3 : Hid (Below w.heap.size w w3) := B2.out.trans (hb.mono B2.out.size)
      have NU3 : Hid (NodesAt w3 base2 g2 0 u) := NU2.out.below hb
      have NN3 : Hid (NodesAt w3 ba3 ga3 0 u) := hn
      clear ho hb hn
      go_wp2_with fail
      refine (PA1.out _ (HA.out.below B3.out)).mono ?_
      rintro e w4 ⟨v4, rfl, ho, hb⟩
      obtain ⟨ba4, ca4, ga4, rfl, -, -, hn⟩ := pairs_of_owns ho (by unfold maxLen; omega)
      have B4 : Hid (Below w.heap.size w w4) := B3.out.trans (hb.mono B3.out.size)
      have NU4 : Hid (NodesAt w4 base2 g2 0 u) := NU3.out.below hb
      have NN4 : Hid (NodesAt w4 ba3 ga3 0 u) := NN3.out.below hb
      have P1_4 : Hid (PairsAt w4 ba4 ga4 0 P) := hn
      clear ho hb hn
      go_wp2_with fail
      refine (PA2.out NU4.out).mono ?_
      rintro e w5 ⟨v5, rfl, ho, hb⟩
      obtain ⟨ba5, ca5, ga5, rfl, -, -, hn⟩ := pairs_of_owns ho (by unfold maxLen; omega)
      have B5 : Hid (Below w.heap.size w w5) := B4.out.trans (hb.mono B4.out.size)
      have NU5 : Hid (NodesAt w5 base2 g2 0 u) := NU4.out.below hb
      have NN5 : Hid (NodesAt w5 ba3 ga3 0 u) := NN4.out.below hb
      have P1_5 : Hid (PairsAt w5 ba4 ga4 0 P) := P1_4.out.below hb
      have P2_5 : Hid (PairsAt w5 ba5 ga5 0 P) := hn
      clear ho hb hn
      go_wp2_with fail
      refine (OR1.out _ (HA.out.below B5.out)).mono ?_
      rintro e w6 ⟨rfl, hb⟩
      have B6 : Hid (Below w.heap.size w w6) := B5.out.trans (hb.mono B5.out.size)
      have NU6 : Hid (NodesAt w6 base2 g2 0 u) := NU5.out.below hb
      have NN6 : Hid (NodesAt w6 ba3 ga3 0 u) := NN5.out.below hb
      have P1_6 : Hid (PairsAt w6 ba4 ga4 0 P) := P1_5.out.below hb
      have P2_6 : Hid (PairsAt w6 ba5 ga5 0 P) := P2_5.out.below hb
      clear hb
      go_wp2_with fail
      refine (OR2.out NU6.out).mono ?_
      rintro e w7 ⟨rfl, hb⟩
      have B7 : Hid (Below w.heap.size w w7) := B6.out.trans (hb.mono B6.out.size)
      have NU7 : Hid (NodesAt w7 base2 g2 0 u) := NU6.out.below hb
      have NN7 : Hid (NodesAt w7 ba3 ga3 0 u) := NN6.out.below hb
      have P1_7 : Hid (PairsAt w7 ba4 ga4 0 P) := P1_6.out.below hb
      have P2_7 : Hid (PairsAt w7 ba5 ga5 0 P) := P2_6.out.below hb
      clear hb
      go_wp2_with fail
      refine (RU.out NU7.out).mono ?_
      rintro e w8 ⟨rfl, hb⟩
      have B8 : Hid (Below w.heap.size w w8) := B7.out.trans (hb.mono B7.out.size)
      have NU8 : Hid (NodesAt w8 base2 g2 0 u) := NU7.out.below hb
      have NN8 : Hid (NodesAt w8 ba3 ga3 0 u) := NN7.out.below hb
      have P1_8 : Hid (PairsAt w8 ba4 ga4 0 P) := P1_7.out.below hb
      have P2_8 : Hid (PairsAt w8 ba5 ga5 0 P) := P2_7.out.below hb
      clear hb
      go_wp2_with (first | (go_at_call 20; refine (ST.out NN8.out NU8.out).mono ?_; rintro e w9 ⟨rfl, hb⟩; have B9 : Hid (Below w.heap.size w w9) := B8.out.trans (hb.mono B8.out.size); have NU9 : Hid (NodesAt w9 base2 g2 0 u) := NU8.out.below hb; have P1_9 : Hid (PairsAt w9 ba4 ga4 0 P) := P1_8.out.below hb; have P2_9 : Hid (PairsAt w9 ba5 ga5 0 P) := P2_8.out.below hb; clear hb))
      go_loopw [115] (fun i wr => ∃ j : Nat, j ≤ P.length ∧ i = .int .i64 j ∧ Below w9.heap.size w9 wr) (fun i _ => P.length - (intOf i).toNat)
      case atStart => exact ⟨0, Nat.zero_le _, rfl, Below.refl _ _⟩
      case round =>
        obtain ⟨j, hj, rfl, hbw⟩ := hrel
        have HB : Hid (Below w9.heap.size w9 wr) := hbw
        by_cases hlt : j < P.length
        · obtain rfl : ba4 = some ⟨ga4, 0, none⟩ := P1_9.out.base (by omega)
          obtain rfl : ba5 = some ⟨ga5, 0, none⟩ := P2_9.out.base (by omega)
          obtain ⟨c0, c1⟩ := (P1_9.out.below hbw).cells j hlt
          obtain ⟨d0, d1⟩ := (P2_9.out.below hbw).cells j hlt
          simp only [Nat.zero_add] at c0 c1 d0 d1
          have lg4 := (P1_9.out.below hbw).lt (by omega)
          have lg5 := (P2_9.out.below hbw).lt (by omega)
          have j0 : (0 : Int) ≤ (j : Int) := Int.natCast_nonneg _
          have j1 : (j : Int) < (P.length : Int) := by omega
          generalize keyAt P j = x0 at c0 d0
          generalize valAt P j = x1 at c1 d1
          have hx : (decide (x0 = x0) && decide (x1 = x1)) = true := by simp
          clear hbw
          go_wp2_with fail
          go_quiet (fail)
          go_wp2_with fail
          exact ⟨⟨j + 1, by omega, by go_num, below_drewN HB.out _⟩, by simp [intOf]; omega⟩
        · obtain rfl : j = P.length := by omega
          have B10 : Hid (Below w.heap.size w wr) := B9.out.trans (HB.out.mono B9.out.size)
          have NU10 : Hid (NodesAt wr base2 g2 0 u) := NU9.out.below HB.out
          clear hbw
          go_wp2_with fail
          refine (RT.out _ (HA.out.below B10.out)).mono ?_
          rintro e w11 ⟨rfl, hb⟩
          have B11 : Hid (Below w.heap.size w w11) := B10.out.trans (hb.mono B10.out.size)
          have NU11 : Hid (NodesAt w11 base2 g2 0 u) := NU10.out.below hb
          clear hb
          go_wp2_with fail
          refine (SB.out NU11.out).mono ?_
          rintro e w12 ⟨v12, rfl, ho, hb⟩
          obtain ⟨bc, cc, gc, rfl, -, -, hn⟩ := nodes_of_owns ho
          have B12 : Hid (Below w.heap.size w w12) := B11.out.trans (hb.mono B11.out.size)
          have NU12 : Hid (NodesAt w12 base2 g2 0 u) := NU11.out.below hb
          have NX : Hid (NodesAt w12 bc gc 0 X) := hn
          clear hb ho hn
          go_wp2_with fail
          refine (GR.out (HA.out.below B12.out) NX.out).mono ?_
          rintro e w13 ⟨v13, rfl, ho, hb⟩
          obtain ⟨bd, cd, gd, rfl, -, -, hn⟩ := nodes_of_owns ho
          have B13 : Hid (Below w.heap.size w w13) := B12.out.trans (hb.mono B12.out.size)
          have NU13 : Hid (NodesAt w13 base2 g2 0 u) := NU12.out.below hb
          have NY : Hid (NodesAt w13 bd gd 0 u) := hn
          clear hb ho hn
          go_wp2_with (first | (go_at_call 20; refine (ST.out NY.out NU13.out).mono ?_; rintro e w14 ⟨rfl, hb⟩; have B14 : Hid (Below w.heap.size w w14) := B13.out.trans (hb.mono B13.out.size); clear hb))
          go_ret
          exact ⟨rfl, B14.out⟩
  · have e0 : (doE t p k mi == 0) = false := by simp [h0]
    have e1 : doL t p k mi = [] := by unfold doL; rw [if_neg h0]
    rw [e0, e1] at DN
    clear h h0 e0 e1 hin
    go_enter Try.func5, Try.ntmps5
    go_wp2_with fail
    refine (AW.out _).mono ?_
    rintro e w1 ⟨rfl, hb⟩
    have M1 : Hid (w1.heap[w.heap.size]? = some (.cells #[.int .i64 k, .bool mi] 24 (0, 0))) := (hb.block _ (by simp)).trans (heap_alloc_at _ _ _ rfl)
    have B1 : Hid (Below w.heap.size w w1) := B0.out.trans (hb.mono B0.out.size)
    have m0 := (cell_of M1.out 0 _ rfl).1
    have m1 := (cell_of M1.out 1 _ rfl).1
    have lt1 : w.heap.size < w1.heap.size := (Array.getElem?_eq_some_iff.1 M1.out).1
    clear hb
    go_wp2_with fail
    refine (DN.out _ (HA.out.below B1.out)).mono ?_
    rintro e w2 ⟨v, rfl, ho, hb⟩
    obtain ⟨base2, cap2, g2, rfl, -, -, -⟩ := nodes_of_owns (t := []) ho
    have B2 : Hid (Below w.heap.size w w2) := B1.out.trans (hb.mono B1.out.size)
    clear ho hb
    go_wp2_with fail
    go_ret
    exact ⟨rfl, B2.out⟩
end Go.Proofs.Ytfjkddjjpbdjkaa

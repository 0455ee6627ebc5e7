
/- Layer 18: SameTable, some, awake, to, done. -/

import Derived.Test.YtfjkddjjpbdjkaaSQ11

import Derived.Test.YtfjkddjjpbdjkaaTEq

namespace Go.Proofs.Ytfjkddjjpbdjkaa

open Go.RowKit

attribute [local go_sem ↓] Go.wp_at_zero Go.wp_at_succ

set_option maxRecDepth 100000 in
set_option maxHeartbeats 1000000 in
theorem sameT_any (ba bb : Option Addr) (ga oa ca gb ob cb : Nat) (a b : NL) (w : World) (ha : NodesAt w ba ga oa a) (hb : NodesAt w bb gb ob b) :
    Calls Try.prog 20 #[.slice ba a.length ca, .slice bb b.length cb] w fun e w' => e = .returned (.bool (nlEq a b)) ∧ Below w.heap.size w w' := by
  have la := ha.len
  have lb := hb.len
  unfold maxLen at la lb
  have HA : Hid _ := ha
  have HB : Hid _ := hb
  clear ha hb
  have hpn := nd_neq
  by_cases hl : a.length = b.length
  · have hd : ((a.length : Int) != (b.length : Int)) = false := by simp [hl]
    have HL : Hid _ := hl
    clear hl
    go_enter Try.func20, Try.ntmps20
    go_wp2_with fail
    go_loopw [5] (fun i wr => ∃ j : Nat, j ≤ a.length ∧ i = .int .i64 j ∧ (∀ k, k < j → ndAt a k = ndAt b k) ∧ Below w.heap.size w wr) (fun i _ => a.length - (intOf i).toNat)
    case atStart => exact ⟨0, Nat.zero_le _, rfl, fun k hk => by omega, Below.refl _ _⟩
    case round =>
      obtain ⟨j, hj, rfl, hall, hbw⟩ := hrel
      have HAL : Hid _ := hall
      clear hall
      by_cases hlt : j < a.length
      · have hlb : j < b.length := by have := HL.out; omega
        obtain rfl : ba = some ⟨ga, oa, none⟩ := HA.out.base (by omega)
        obtain rfl : bb = some ⟨gb, ob, none⟩ := HB.out.base (by omega)
        have HC : Hid _ := (HA.out.below hbw).cells j hlt
        have HD : Hid _ := (HB.out.below hbw).cells j hlb
        have j0 : (0 : Int) ≤ (j : Int) := Int.natCast_nonneg _
        have j1 : (j : Int) < (a.length : Int) := by omega
        have j2 : (j : Int) < (b.length : Int) := by omega
        by_cases hq : ndAt a j = ndAt b j
        · have HQ : Hid _ := hq
          have HX : Hid _ := ndEq_yes.2 hq
          clear hq
          generalize ndAt a j = x at HC HX
          generalize ndAt b j = y at HD HX
          obtain ⟨x0, x1, x2, x3, x4, x5⟩ := x
          obtain ⟨y0, y1, y2, y3, y4, y5⟩ := y
          simp only at HC HD
          obtain ⟨c0, c1, c2, c3, c4, c5⟩ := HC.out
          obtain ⟨d0, d1, d2, d3, d4, d5⟩ := HD.out
          have hx := HX.out
          clear HC HD HX
          go_wp2_with fail
          go_quiet (fail)
          go_wp2_with fail
          refine ⟨⟨j + 1, by omega, by go_num, fun k hk => ?_, below_drewN hbw _⟩, by simp [intOf]; omega⟩
          by_cases e : k = j
          · subst e; exact HQ.out
          · exact HAL.out k (by omega)
        · have HX : Hid _ := ndEq_no hq
          have F : Hid (nlEq a b = false) := by
            show nlEq a b = false
            unfold nlEq
            simp only [decide_eq_false_iff_not]
            intro h
            exact hq (by rw [h])
          clear hq
          generalize ndAt a j = x at HC HX
          generalize ndAt b j = y at HD HX
          obtain ⟨x0, x1, x2, x3, x4, x5⟩ := x
          obtain ⟨y0, y1, y2, y3, y4, y5⟩ := y
          simp only at HC HD
          obtain ⟨c0, c1, c2, c3, c4, c5⟩ := HC.out
          obtain ⟨d0, d1, d2, d3, d4, d5⟩ := HD.out
          have hx := HX.out
          clear HC HD HX
          go_wp2_with fail
          go_quiet (fail)
          go_wp2_with fail
          go_ret
          exact ⟨by rw [F.out]; rfl, below_drewN hbw _⟩
      · have F : Hid (nlEq a b = true) := by
          show nlEq a b = true
          unfold nlEq
          simp only [decide_eq_true_eq]
          exact nl_ext HL.out (fun i hi => HAL.out i (by omega))
        go_wp2_with fail
        go_ret
        exact ⟨by rw [F.out]; rfl, hbw⟩
  · have hd : ((a.length : Int) != (b.length : Int)) = true := by simp; omega
    have F : Hid (nlEq a b = false) := by
      show nlEq a b = false
      unfold nlEq
      simp only [decide_eq_false_iff_not]
      intro h
      exact hl (by rw [h])
    clear hl
    go_enter Try.func20, Try.ntmps20
    go_wp2_with fail
    go_ret
    exact ⟨by rw [F.out]; rfl, Below.refl _ _⟩

set_option maxRecDepth 100000 in
set_option maxHeartbeats 1000000 in
theorem some_any (w : World) : Calls Try.prog 43 #[] w fun e w' => ∃ g, e = .returned (.tuple #[.slice (some ⟨g, 0, none⟩) 7 7, .int .i64 2]) ∧ MAt w w' g 7 exT := by
  go_enter Try.func43, Try.ntmps43
  go_wp2_with fail
  go_ret2
  refine ⟨_, rfl, ⟨⟨rfl, Or.inr ⟨_, 7, #[.int .i64 0, .int .i64 1, .int .i64 1, .int .i64 0, .int .i64 1, .int .i64 6, .int .i64 0, .int .i64 1, .int .i64 1, .int .i64 0, .int .i64 2, .int .i64 5, .int .i64 2, .int .i64 0, .int .i64 1, .int .i64 0, .int .i64 3, .int .i64 4, .int .i64 1, .int .i64 0, .int .i64 2, .int .i64 0, .int .i64 (-1), .int .i64 (-1), .int .i64 2, .int .i64 0, .int .i64 2, .int .i64 0, .int .i64 (-1), .int .i64 (-1), .int .i64 0, .int .i64 1, .int .i64 1, .int .i64 0, .int .i64 (-1), .int .i64 (-1), .int .i64 0, .int .i64 1, .int .i64 1, .int .i64 0, .int .i64 (-1), .int .i64 (-1)], rfl, by omega, heap_alloc_at _ _ _ (by simp), by decide, by decide, rfl, rfl⟩⟩, ?_⟩⟩
  repeat' (first | exact Below.refl _ _ | refine Below.alloc ?_ (by simp <;> omega) _)
set_option maxRecDepth 100000 in
set_option maxHeartbeats 1000000 in
theorem awake_any (w : World) : Calls Try.prog 11 #[] w fun e w' => e = .returned (.bool true) ∧ Below w.heap.size w w' := by
  have SO : Hid (Calls _ _ _ _ _) := some_any w
  have DO : Hid (∀ {W : World} {g : Nat}, MAt w W g 7 exT → Calls Try.prog 19 #[.slice (some ⟨g, 0, none⟩) 7 7, .int .i64 2, .agg #[.int .i64 11, .bool false]] W fun e w' => ∃ v, e = .returned (.tuple #[v, .int .i64 0]) ∧ w'.ownsRow W.heap.size 74 6 v exU.length (ndCells exU) ∧ Below W.heap.size W w') := by
    intro W g hM
    have := Do_any (some ⟨g, 0, none⟩) g 0 7 exT 2 11 false W hM.nodes
    rw [ex_do.1, ex_do.2] at this
    exact this
  have ST : Hid (∀ {W : World} {b1 b2 : Option Addr} {g1 c1 g2 c2 : Nat}, NodesAt W b1 g1 0 exU → NodesAt W b2 g2 0 exU → Calls Try.prog 20 #[.slice b1 7 c1, .slice b2 7 c2] W fun e w' => e = .returned (.bool true) ∧ Below W.heap.size W w') := by
    intro W b1 b2 g1 c1 g2 c2 h1 h2
    have := sameT_any b1 b2 g1 0 c1 g2 0 c2 exU exU W h1 h2
    rw [show nlEq exU exU = true by unfold nlEq; simp] at this
    exact this
  go_enter Try.func11, Try.ntmps11
  go_wp2_with fail
  refine SO.out.mono ?_
  rintro e w1 ⟨g, rfl, hM⟩
  have M1 : Hid (MAt w w1 g 7 exT) := hM
  clear hM SO
  go_wp2_with fail
  refine (DO.out M1.out).mono ?_
  rintro e w2 ⟨v, rfl, ho, hb⟩
  obtain ⟨base, cap, g2, rfl, hg, -, hn⟩ := nodes_of_owns ho
  have M2 : Hid (MAt w w2 g 7 exT) := M1.out.quiet hb
  have hg2 : g < g2 := Nat.lt_of_lt_of_le M1.out.lt.2 (hg (by decide))
  have hn2 : Hid (NodesAt w2 base g2 0 exU) := hn
  have c3 := M2.out.cell2 3 (by decide)
  have c4 := M2.out.cell2 4 (by decide)
  have M3 : Hid (MAt w ((w2.setCell ⟨g, 3 * 6 + 2, none⟩ (.int .i64 1)).setCell ⟨g, 4 * 6 + 2, none⟩ (.int .i64 1)) g 7 exU) := (M2.out.putW 3 1 (by decide) M2.out.lt.1).putW 4 1 (by decide) M2.out.lt.1
  have hn3 : Hid (NodesAt ((w2.setCell ⟨g, 3 * 6 + 2, none⟩ (.int .i64 1)).setCell ⟨g, 4 * 6 + 2, none⟩ (.int .i64 1)) base g2 0 exU) := by
    refine ⟨hn.base, fun q => by simpa using hn.lt q, fun i hi => ?_, hn.len⟩
    have k : ∀ j, ((w2.setCell ⟨g, 3 * 6 + 2, none⟩ (.int .i64 1)).setCell ⟨g, 4 * 6 + 2, none⟩ (.int .i64 1)).cell? ⟨g2, j, none⟩ = w2.cell? ⟨g2, j, none⟩ := fun j => by
      rw [World.cell?_setCell_far _ _ _ _ (show g ≠ g2 by omega), World.cell?_setCell_far _ _ _ _ (show g ≠ g2 by omega)]
    simp only [k]
    exact hn.cells i hi
  clear ho hb hn hg DO M1
  go_wp2_with (first | (go_at_call 20; refine (ST.out hn3.out M3.out.nodes).mono ?_; rintro e w3 ⟨rfl, hb3⟩; have B3 : Hid (Below w.heap.size w w3) := M3.out.below.trans (hb3.mono M3.out.below.size); clear hb3))
  go_ret
  exact ⟨rfl, B3.out⟩
set_option maxRecDepth 100000 in
theorem to_any (k : Int) (mi : Bool) (w : World) : Calls Try.prog 17 #[.agg #[.int .i64 k, .bool mi]] w fun e w' => e = .returned (.agg #[.int .i64 k, .bool mi]) ∧ Below w.heap.size w w' := by
  go_enter Try.func17, Try.ntmps17
  go_wp2_with fail
  (try simp only [Exit.inBlock, Exit.then])
  refine bodyPost_ret (v := .agg #[.int .i64 k, .bool mi]) ?_ rfl ⟨rfl, ?_⟩
  · rw [results_cell1 rfl]; go_simp
  · repeat' (first | exact Below.refl _ _ | refine Below.alloc ?_ (by simp <;> omega) _)
set_option maxRecDepth 100000 in
theorem done_any (base : Option Addr) (b o c : Nat) (t : NL) (p k : Int) (mi : Bool) (w : World) (h : NodesAt w base b o t) :
    Calls Try.prog 28 #[.slice base t.length c, .int .i64 p, .agg #[.int .i64 k, .bool mi]] w fun e w' => ∃ v, e = .returned (.tuple #[v, .bool (doE t p k mi == 0)]) ∧ w'.ownsRow w.heap.size 74 6 v (doL t p k mi).length (ndCells (doL t p k mi)) ∧ Below w.heap.size w w' := by
  have HA : Hid (NodesAt w base b o t) := h
  have B0 : Hid (Below w.heap.size w (w.alloc (.cells #[.int .i64 k, .bool mi] 24))) := below_alloc _ _
  have TO : Hid (∀ W, Calls Try.prog 17 #[.agg #[.int .i64 k, .bool mi]] W fun e w' => e = .returned (.agg #[.int .i64 k, .bool mi]) ∧ Below W.heap.size W w') := fun W => to_any k mi W
  have DO : Hid (∀ W, NodesAt W base b o t → Calls Try.prog 19 #[.slice base t.length c, .int .i64 p, .agg #[.int .i64 k, .bool mi]] W fun e w' => ∃ v, e = .returned (.tuple #[v, .int .i64 (doE t p k mi)]) ∧ w'.ownsRow W.heap.size 74 6 v (doL t p k mi).length (ndCells (doL t p k mi)) ∧ Below W.heap.size W w') := fun W hW => Do_any base b o c t p k mi W hW
  clear h
  generalize doE t p k mi = E at *
  generalize doL t p k mi = L at *
  go_enter Try.func28, Try.ntmps28
  go_wp2_with fail
  refine (TO.out _).mono ?_
  rintro e w1 ⟨rfl, hb⟩
  have B1 : Hid (Below w.heap.size w w1) := B0.out.trans (hb.mono B0.out.size)
  clear hb
  go_wp2_with fail
  refine (DO.out _ (HA.out.below B1.out)).mono ?_
  rintro e w2 ⟨v, rfl, ho, hb⟩
  have HO : Hid (World.ownsRow _ _ _ _ _ _ _) := owns_down ho B1.out.size
  have B2 : Hid (Below w.heap.size w w2) := B1.out.trans (hb.mono B1.out.size)
  clear ho hb
  go_wp2_with fail
  go_ret2
  exact ⟨v, rfl, HO.out, B2.out⟩
end Go.Proofs.Ytfjkddjjpbdjkaa


/- Layer 18: SameTable, some, awake, to, done. Layer 18: nodes and a move that are read as data. -/

import Derived.Test.YthlhbajaogonnaaDoorSQ12

import Derived.Test.YthlhbajaogonnaaDoorTEq

import Derived.Test.YthlhbajaogonnaaDoorTIn

import Derived.ProofKit

import Derived.OpenShut

import Derived.Deep.Slices

import Derived.Deep.Strs

import Derived.Lib.SmallJoins

namespace Go.Proofs.YthlhbajaogonnaaDoor

open Go.RowKit

attribute [local go_sem ↓] Go.wp_at_zero Go.wp_at_succ

set_option maxRecDepth 100000 in
set_option maxHeartbeats 1000000 in
theorem sameT_any (ba bb : Option Addr) (ga oa ca gb ob cb : Nat) (a b : NL) (w : World) (ha : NodesAt w ba ga oa a) (hb : NodesAt w bb gb ob b) :
    Calls Tryd.prog 17 #[.slice ba a.length ca, .slice bb b.length cb] w fun e w' => e = .returned (.bool (nlEq a b)) ∧ Below w.heap.size w w' := by
  have la := ha.len
  have lb := hb.len
  unfold maxLen at la lb
  have HA : Hid _ := ha
  have HB : Hid _ := hb
  clear ha hb
  have hpn := nd_neq
  by_cases hl : a.length = b.length
  · have hd : ((a.length : Int) != (b.length : Int)) = false := by simp [hl]
    have HL : Hid _ := hl
    clear hl
    go_enter Tryd.func17, Tryd.ntmps17
    go_wp2_with fail
    go_loopw [5] (fun i wr => ∃ j : Nat, j ≤ a.length ∧ i = .int .i64 j ∧ (∀ k, k < j → ndAt a k = ndAt b k) ∧ Below w.heap.size w wr) (fun i _ => a.length - (intOf i).toNat)
    case atStart => exact ⟨0, Nat.zero_le _, rfl, fun k hk => by omega, Below.refl _ _⟩
    case round =>
      obtain ⟨j, hj, rfl, hall, hbw⟩ := hrel
      have HAL : Hid _ := hall
      clear hall
      by_cases hlt : j < a.length
      · have hlb : j < b.length := by have := HL.out; omega
        obtain rfl : ba = some ⟨ga, oa, none⟩ := HA.out.base (by omega)
        obtain rfl : bb = some ⟨gb, ob, none⟩ := HB.out.base (by omega)
        have HC : Hid _ := (HA.out.below hbw).cells j hlt
        have HD : Hid _ := (HB.out.below hbw).cells j hlb
        have j0 : (0 : Int) ≤ (j : Int) := Int.natCast_nonneg _
        have j1 : (j : Int) < (a.length : Int) := by omega
        have j2 : (j : Int) < (b.length : Int) := by omega
        by_cases hq : ndAt a j = ndAt b j
        · have HQ : Hid _ := hq
          have HX : Hid _ := ndEq_yes.2 hq
          clear hq
          generalize ndAt a j = x at HC HX
          generalize ndAt b j = y at HD HX
          obtain ⟨x0, x1, x2, x3, x4, x5⟩ := x
          obtain ⟨y0, y1, y2, y3, y4, y5⟩ := y
          simp only at HC HD
          obtain ⟨c0, c1, c2, c3, c4, c5⟩ := HC.out
          obtain ⟨d0, d1, d2, d3, d4, d5⟩ := HD.out
          have hx := HX.out
          clear HC HD HX
          go_wp2_with fail
          go_quiet (fail)
          go_wp2_with fail
          refine ⟨⟨j + 1, by omega, by go_num, fun k hk => ?_, below_drewN hbw _⟩, by simp [intOf]; omega⟩
          by_cases e : k = j
          · subst e; exact HQ.out
          · exact HAL.out k (by omega)
        · have HX : Hid _ := ndEq_no hq
          have F : Hid (nlEq a b = false) := by
            show nlEq a b = false
            unfold nlEq
            simp only [decide_eq_false_iff_not]
            intro h
            exact hq (by rw [h])
          clear hq
          generalize ndAt a j = x at HC HX
          generalize ndAt b j = y at HD HX
          obtain ⟨x0, x1, x2, x3, x4, x5⟩ := x
          obtain ⟨y0, y1, y2, y3, y4, y5⟩ := y
          simp only at HC HD
          obtain ⟨c0, c1, c2, c3, c4, c5⟩ := HC.out
          obtain ⟨d0, d1, d2, d3, d4, d5⟩ := HD.out
          have hx := HX.out
          clear HC HD HX
          go_wp2_with fail
          go_quiet (fail)
          go_wp2_with fail
          go_ret
          exact ⟨by rw [F.out]; rfl, below_drewN hbw _⟩
      · have F : Hid (nlEq a b = true) := by
          show nlEq a b = true
          unfold nlEq
          simp only [decide_eq_true_eq]
          exact nl_ext HL.out (fun i hi => HAL.out i (by omega))
        go_wp2_with fail
        go_ret
        exact ⟨by rw [F.out]; rfl, hbw⟩
  · have hd : ((a.length : Int) != (b.length : Int)) = true := by simp; omega
    have F : Hid (nlEq a b = false) := by
      show nlEq a b = false
      unfold nlEq
      simp only [decide_eq_false_iff_not]
      intro h
      exact hl (by rw [h])
    clear hl
    go_enter Tryd.func17, Tryd.ntmps17
    go_wp2_with fail
    go_ret
    exact ⟨by rw [F.out]; rfl, Below.refl _ _⟩

set_option maxRecDepth 100000 in
set_option maxHeartbeats 1000000 in
theorem some_any (w : World) : Calls Tryd.prog 15 #[] w fun e w' => ∃ g, e = .returned (.tuple #[.slice (some ⟨g, 0, none⟩) 7 7, .int .i64 2]) ∧ MAt w w' g 7 exT := by
  go_enter Tryd.func15, Tryd.ntmps15
  go_wp2_with fail
  go_ret2
  refine ⟨_, rfl, ⟨⟨rfl, Or.inr ⟨_, 7, #[.int .i64 0, .int .i64 1, .int .i64 1, .int .i64 0, .int .i64 1, .int .i64 6, .int .i64 0, .int .i64 1, .int .i64 1, .int .i64 0, .int .i64 2, .int .i64 5, .int .i64 2, .int .i64 0, .int .i64 1, .int .i64 0, .int .i64 3, .int .i64 4, .int .i64 1, .int .i64 0, .int .i64 2, .int .i64 0, .int .i64 (-1), .int .i64 (-1), .int .i64 2, .int .i64 0, .int .i64 2, .int .i64 0, .int .i64 (-1), .int .i64 (-1), .int .i64 0, .int .i64 1, .int .i64 1, .int .i64 0, .int .i64 (-1), .int .i64 (-1), .int .i64 0, .int .i64 1, .int .i64 1, .int .i64 0, .int .i64 (-1), .int .i64 (-1)], rfl, by omega, heap_alloc_at _ _ _ (by simp), by decide, by decide, rfl, rfl⟩⟩, ?_⟩⟩
  repeat' (first | exact Below.refl _ _ | refine Below.alloc ?_ (by simp <;> omega) _)
set_option maxRecDepth 100000 in
set_option maxHeartbeats 1000000 in
theorem awake_any (w : World) : Calls Tryd.prog 4 #[] w fun e w' => e = .returned (.bool true) ∧ Below w.heap.size w w' := by
  have SO : Hid (Calls _ _ _ _ _) := some_any w
  have DO : Hid (∀ {W : World} {g : Nat}, MAt w W g 7 exT → Calls Tryd.prog 16 #[.slice (some ⟨g, 0, none⟩) 7 7, .int .i64 2, .agg #[.int .i64 11, .bool false]] W fun e w' => ∃ v, e = .returned (.tuple #[v, .int .i64 0]) ∧ w'.ownsRow W.heap.size 50 6 v exU.length (ndCells exU) ∧ Below W.heap.size W w') := by
    intro W g hM
    have := Do_any (some ⟨g, 0, none⟩) g 0 7 exT 2 11 false W hM.nodes
    rw [ex_do.1, ex_do.2] at this
    exact this
  have ST : Hid (∀ {W : World} {b1 b2 : Option Addr} {g1 c1 g2 c2 : Nat}, NodesAt W b1 g1 0 exU → NodesAt W b2 g2 0 exU → Calls Tryd.prog 17 #[.slice b1 7 c1, .slice b2 7 c2] W fun e w' => e = .returned (.bool true) ∧ Below W.heap.size W w') := by
    intro W b1 b2 g1 c1 g2 c2 h1 h2
    have := sameT_any b1 b2 g1 0 c1 g2 0 c2 exU exU W h1 h2
    rw [show nlEq exU exU = true by unfold nlEq; simp] at this
    exact this
  go_enter Tryd.func4, Tryd.ntmps4
  go_wp2_with fail
  refine SO.out.mono ?_
  rintro e w1 ⟨g, rfl, hM⟩
  have M1 : Hid (MAt w w1 g 7 exT) := hM
  clear hM SO
  go_wp2_with fail
  refine (DO.out M1.out).mono ?_
  rintro e w2 ⟨v, rfl, ho, hb⟩
  obtain ⟨base, cap, g2, rfl, hg, -, hn⟩ := nodes_of_owns ho
  have M2 : Hid (MAt w w2 g 7 exT) := M1.out.quiet hb
  have hg2 : g < g2 := Nat.lt_of_lt_of_le M1.out.lt.2 (hg (by decide))
  have hn2 : Hid (NodesAt w2 base g2 0 exU) := hn
  have c3 := M2.out.cell2 3 (by decide)
  have c4 := M2.out.cell2 4 (by decide)
  have M3 : Hid (MAt w ((w2.setCell ⟨g, 3 * 6 + 2, none⟩ (.int .i64 1)).setCell ⟨g, 4 * 6 + 2, none⟩ (.int .i64 1)) g 7 exU) := (M2.out.putW 3 1 (by decide) M2.out.lt.1).putW 4 1 (by decide) M2.out.lt.1
  have hn3 : Hid (NodesAt ((w2.setCell ⟨g, 3 * 6 + 2, none⟩ (.int .i64 1)).setCell ⟨g, 4 * 6 + 2, none⟩ (.int .i64 1)) base g2 0 exU) := by
    refine ⟨hn.base, fun q => by simpa using hn.lt q, fun i hi => ?_, hn.len⟩
    have k : ∀ j, ((w2.setCell ⟨g, 3 * 6 + 2, none⟩ (.int .i64 1)).setCell ⟨g, 4 * 6 + 2, none⟩ (.int .i64 1)).cell? ⟨g2, j, none⟩ = w2.cell? ⟨g2, j, none⟩ := fun j => by
      rw [World.cell?_setCell_far _ _ _ _ (show g ≠ g2 by omega), World.cell?_setCell_far _ _ _ _ (show g ≠ g2 by omega)]
    simp only [k]
    exact hn.cells i hi
  clear ho hb hn hg DO M1
  go_wp2_with (first | (go_at_call 17; refine (ST.out hn3.out M3.out.nodes).mono ?_; rintro e w3 ⟨rfl, hb3⟩; have B3 : Hid (Below w.heap.size w w3) := M3.out.below.trans (hb3.mono M3.out.below.size); clear hb3))
  go_ret
  exact ⟨rfl, B3.out⟩
set_option maxRecDepth 100000 in
theorem to_any (k : Int) (mi : Bool) (w : World) : Calls Tryd.prog 8 #[.agg #[.int .i64 k, .bool mi]] w fun e w' => e = .returned (.agg #[.int .i64 k, .bool mi]) ∧ Below w.heap.size w w' := by
  go_enter Tryd.func8, Tryd.ntmps8
  go_wp2_with fail
  (try simp only [Exit.inBlock, Exit.then])
  refine bodyPost_ret (v := .agg #[.int .i64 k, .bool mi]) ?_ rfl ⟨rfl, ?_⟩
  · rw [results_cell1 rfl]; go_simp
  · repeat' (first | exact Below.refl _ _ | refine Below.alloc ?_ (by simp <;> omega) _)
end Go.Proofs.YthlhbajaogonnaaDoor

namespace Go.Proofs.YthlhbajaogonnaaDoor

open Go.ChangeShapes Go.WideShapes Go.ChangeAt Go.RowKit Go.Deep

theorem own : ownKnob Tryd.prog.godebug = none := by kernel_rfl
theorem laidOut : laidOutB Tryd.prog = true := by kernel_rfl
theorem i64_wf {a : Int} (h : (Lit.int .i64 a).wf = true) : In64 a := by
  simp [Lit.wf, IntKind.min, IntKind.max, IntKind.bits, IntKind.signed] at h
  unfold In64
  omega
theorem struct6 {P : Program} {H : Type} {enc : TypeId × Value → H} {w : World} {base : Nat} {spare : Nat → Bool} {held : Bool} {t : TypeId} {f0 f1 f2 f3 f4 f5 : Field} {fuel : Nat} {cs : List Value} {x : DataW H × List MemPlace} (ht : P.underlying t = some (.struct #[f0, f1, f2, f3, f4, f5])) (h : DataW.trod enc P w base spare held fuel t cs = some x) :
    ∃ y0 y1 y2 y3 y4 y5 n, cs.length = P.cellsOf t ∧ DataW.trod enc P w base spare held n f0.type ((cs.drop f0.offset).take (P.cellsOf f0.type)) = some y0 ∧
      DataW.trod enc P w base spare held n f1.type ((cs.drop f1.offset).take (P.cellsOf f1.type)) = some y1 ∧ DataW.trod enc P w base spare held n f2.type ((cs.drop f2.offset).take (P.cellsOf f2.type)) = some y2 ∧
      DataW.trod enc P w base spare held n f3.type ((cs.drop f3.offset).take (P.cellsOf f3.type)) = some y3 ∧ DataW.trod enc P w base spare held n f4.type ((cs.drop f4.offset).take (P.cellsOf f4.type)) = some y4 ∧ DataW.trod enc P w base spare held n f5.type ((cs.drop f5.offset).take (P.cellsOf f5.type)) = some y5 := by
  obtain ⟨xs, n, _, rfl, hl, hlen, hf⟩ := DataW.trod_struct ht h
  match xs, hlen with
  | [y0, y1, y2, y3, y4, y5], _ => exact ⟨y0, y1, y2, y3, y4, y5, n, hl, by simpa using hf 0 f0 rfl, by simpa using hf 1 f1 rfl, by simpa using hf 2 f2 rfl, by simpa using hf 3 f3 rfl, by simpa using hf 4 f4 rfl, by simpa using hf 5 f5 rfl⟩
theorem cnd : Tryd.prog.cellsOf 50 = 6 := by kernel_rfl
theorem ci : Tryd.prog.cellsOf 3 = 1 := by kernel_rfl
section
variable {H : Type} {enc : TypeId × Value → H} {w : World}
theorem open_nd {n : Nat} {cs : List Value} {x : DataW H × List MemPlace} (h : DataW.trod enc Tryd.prog w 0 (fun _ => true) true n 50 cs = some x) :
    ∃ d : NdD, cs = [.int .i64 d.key, .int .i64 d.inf, .int .i64 d.wt, .int .i64 d.val, .int .i64 d.l, .int .i64 d.r] ∧ In64 d.key ∧ In64 d.val := by
  obtain ⟨y0, y1, y2, y3, y4, y5, m, hl, g0, g1, g2, g3, g4, g5⟩ := struct6 Tryd.underlying50 h
  rw [cnd] at hl
  simp only [ci] at g0 g1 g2 g3 g4 g5
  match cs, hl with
  | [v0, v1, v2, v3, v4, v5], _ =>
    simp at g0 g1 g2 g3 g4 g5
    obtain ⟨a0, e0, _, w0⟩ := DataW.trod_int Tryd.underlying3 g0
    obtain ⟨a1, e1, _, _⟩ := DataW.trod_int Tryd.underlying3 g1
    obtain ⟨a2, e2, _, _⟩ := DataW.trod_int Tryd.underlying3 g2
    obtain ⟨a3, e3, _, w3⟩ := DataW.trod_int Tryd.underlying3 g3
    obtain ⟨a4, e4, _, _⟩ := DataW.trod_int Tryd.underlying3 g4
    obtain ⟨a5, e5, _, _⟩ := DataW.trod_int Tryd.underlying3 g5
    simp at e0 e1 e2 e3 e4 e5
    exact ⟨⟨a0, a1, a2, a3, a4, a5⟩, by rw [e0, e1, e2, e3, e4, e5], i64_wf w0, i64_wf w3⟩
instance : Inhabited NdD := ⟨nd0⟩
theorem ndAt_map (f : Nat → NdD) (n i : Nat) (h : i < n) : ndAt ((List.range n).map f) i = f i := by
  simp [ndAt, List.getD_eq_getElem?_getD, List.getElem?_range h]
theorem open_nodes {n : Nat} {a0 : Option Addr} {len cap : Nat} {x : DataW H × List MemPlace} (h : DataW.trod enc Tryd.prog w 0 (fun _ => true) true n 44 [.slice a0 len cap] = some x) :
    ∃ (b o : Nat) (t : NL), len = t.length ∧ NodesAt w a0 b o t ∧ NodesIn t ∧ len ≤ cap ∧ (a0 = none → len = 0 ∧ cap = 0) := by
  rcases open_slice Tryd.underlying44 h with ⟨hcs, _⟩ | ⟨a, l, c, m, n, D, Pl, hcs, _, hl, hm, hme, hx, hel⟩
  · simp at hcs
    obtain ⟨rfl, rfl, rfl⟩ := hcs
    exact ⟨0, 0, [], rfl, ⟨fun h => absurd rfl h, fun h => absurd rfl h, fun i hi => by simp at hi, by simp⟩, fun i hi => by simp at hi, Nat.le_refl _, fun _ => ⟨rfl, rfl⟩⟩
  · simp at hcs
    obtain ⟨rfl, rfl, rfl⟩ := hcs
    simp at hme
    subst hme
    by_cases hlen : len = 0
    · subst hlen
      exact ⟨0, 0, [], rfl, ⟨fun h => absurd rfl h, fun h => absurd rfl h, fun i hi => by simp at hi, by simp⟩, fun i hi => by simp at hi, hl, (fun h => by cases h)⟩
    · have key : ∀ i, i < m → ∃ d : NdD, (w.cell? (a.add (i * 6)) = some (.int .i64 d.key) ∧ w.cell? (a.add (i * 6 + 1)) = some (.int .i64 d.inf) ∧ w.cell? (a.add (i * 6 + 2)) = some (.int .i64 d.wt) ∧ w.cell? (a.add (i * 6 + 3)) = some (.int .i64 d.val) ∧ w.cell? (a.add (i * 6 + 4)) = some (.int .i64 d.l) ∧ w.cell? (a.add (i * 6 + 5)) = some (.int .i64 d.r)) ∧ In64 d.key ∧ In64 d.val := by
        intro i hi
        obtain ⟨cs, h1, h2⟩ := hel i hi
        obtain ⟨d, rfl, u0, u3⟩ := open_nd h2
        rw [cnd] at h1
        obtain ⟨_, _, hcell⟩ := World.cells?_some h1
        have e0 := hcell 0 (by omega)
        have e1 := hcell 1 (by omega)
        have e2 := hcell 2 (by omega)
        have e3 := hcell 3 (by omega)
        have e4 := hcell 4 (by omega)
        have e5 := hcell 5 (by omega)
        rw [Deep.add_add] at e0 e1 e2 e3 e4 e5
        exact ⟨d, ⟨by simpa using e0, by simpa using e1, by simpa using e2, by simpa using e3, by simpa using e4, by simpa using e5⟩, u0, u3⟩
      obtain ⟨f, hf⟩ := choose_lt key
      obtain ⟨b, o, s⟩ := a
      have hs : s = none := by
        have := (hf 0 (by omega)).1.1
        simpa [Addr.add] using World.cell?_spot this
      subst hs
      simp only [addr_add'] at hf
      refine ⟨b, o, (List.range len).map f, by simp, ⟨fun _ => rfl, fun _ => ?_, fun i hi => ?_, by simp; omega⟩, fun i hi => ?_, hl, (fun h => by cases h)⟩
      · exact World.block_lt_of_cell? w _ (hf 0 (by omega)).1.1
      · simp at hi
        rw [ndAt_map f len i hi]
        have := (hf i (by omega)).1
        simpa [Nat.add_assoc] using this
      · simp at hi
        rw [ndAt_map f len i hi]
        exact (hf i (by omega)).2
end

theorem cmv : Tryd.prog.cellsOf 23 = 2 := by kernel_rfl
theorem cbo : Tryd.prog.cellsOf 4 = 1 := by kernel_rfl
theorem open_move {H : Type} {enc : TypeId × Value → H} {w : World} {n : Nat} {cs : List Value} {x : DataW H × List MemPlace} (h : DataW.trod enc Tryd.prog w 0 (fun _ => true) true n 23 cs = some x) :
    ∃ (k : Int) (mi : Bool), cs = [.int .i64 k, .bool mi] := by
  obtain ⟨y0, y1, m, hx, hl, g0, g1⟩ := ChangeShapes.trod_struct2 Tryd.underlying23 h
  rw [cmv] at hl
  simp only [ci, cbo] at g0 g1
  match cs, hl with
  | [v0, v1], _ =>
    simp at g0 g1
    obtain ⟨a, e0, _, _⟩ := DataW.trod_int Tryd.underlying3 g0
    obtain ⟨b, e1, _⟩ := DataW.trod_bool Tryd.underlying4 g1
    simp at e0 e1
    exact ⟨a, b, by rw [e0, e1]⟩
end Go.Proofs.YthlhbajaogonnaaDoor

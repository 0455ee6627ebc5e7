
/- Layer 18: the law StepsSums. Made by mk_slaw.py. -/

import Derived.Test.YtfjkddjjpbdjkaaSSm

namespace Go.Proofs.Ytfjkddjjpbdjkaa

open Go.RowKit

attribute [local go_sem ↓] Go.wp_at_zero Go.wp_at_succ

set_option maxRecDepth 100000 in
set_option maxHeartbeats 8000000 in
theorem stepsSums_any (base : Option Addr) (b o c : Nat) (t : NL) (p k : Int) (mi : Bool) (w : World) (h : NodesAt w base b o t) :
    Calls Try.prog 6 #[.slice base t.length c, .int .i64 p, .agg #[.int .i64 k, .bool mi]] w fun e w' => e = .returned (.bool true) ∧ Below w.heap.size w w' := by
  have HA : Hid (NodesAt w base b o t) := h
  have B0 : Hid (Below w.heap.size w (w.alloc (.cells #[.int .i64 k, .bool mi] 24))) := below_alloc _ _
  have AW : Hid (∀ W, Calls Try.prog 11 #[] W fun e w' => e = .returned (.bool true) ∧ Below W.heap.size W w') := fun W => awake_any W
  have DN : Hid (∀ W, NodesAt W base b o t → Calls Try.prog 28 #[.slice base t.length c, .int .i64 p, .agg #[.int .i64 k, .bool mi]] W fun e w' => ∃ v, e = .returned (.tuple #[v, .bool (doE t p k mi == 0)]) ∧ w'.ownsRow W.heap.size 74 6 v (doL t p k mi).length (ndCells (doL t p k mi)) ∧ Below W.heap.size W w') := fun W hW => done_any base b o c t p k mi W hW
  by_cases h0 : doE t p k mi = 0
  · have e0 : (doE t p k mi == 0) = true := by simp [h0]
    obtain ⟨x, l, r, s, K, n, bb, cc, C, K', u, hD⟩ := dof_of h0
    have hdl := hD.dol
    rw [e0, hdl] at DN
    obtain ⟨hbig, hf⟩ := formE_ok hD.crn.form
    obtain ⟨hbigU, hfU⟩ := formE_ok hD.form
    have RT : Hid (∀ W, NodesAt W base b o t → Calls Try.prog 32 #[.slice base t.length c] W fun e w' => e = .returned (.tuple #[.int .i64 (x : Int), .int .i64 0]) ∧ Below W.heap.size W w') := fun W hW => by have := Root_any base b o c t W hW; rw [hD.crn.root] at this; exact this
    have RU : Hid (∀ {W : World} {b2 : Option Addr} {g2 c2 : Nat}, NodesAt W b2 g2 0 u → Calls Try.prog 32 #[.slice b2 u.length c2] W fun e w' => e = .returned (.tuple #[.int .i64 2, .int .i64 0]) ∧ Below W.heap.size W w') := fun {W b2 g2 c2} hW => by have := Root_any b2 g2 0 c2 u W hW; rw [hD.crnU.root] at this; exact this
    obtain ⟨q1, q2, d, q3⟩ := hD.sms
    have hl : (K'.sms 0).length = (K.sms 0).length := by rw [q3]; exact K.sms_length d 0
    have hpos := K.sms_pos 0
    have okK := abs_ok hf hD.crn.keys
    have okK' := abs_ok hfU hD.crnU.keys
    obtain ⟨KX, x1, x2, -⟩ := form_abs_at hf hD.crn.lt.1
    obtain rfl := hD.crn.keys.det x1
    obtain ⟨KX', y1, y2, -⟩ := form_abs_at hfU hD.crnU.lt.1
    obtain rfl := hD.crnU.keys.det y1
    have zA := K.sms_size 0
    have SU1 : Hid (∀ W, NodesAt W base b o t → Calls Try.prog 35 #[.slice base t.length c, .int .i64 (x : Int), .int .i64 0, .slice none 0 0] W fun e w' => ∃ v', e = .returned v' ∧ SmRow W w' v' (K.sms 0)) := fun W hW => sums_any base b o c t hf hD.crn.keys W W _ [] 0 hW (SmRow.none W) (by omega) (by omega) (by simp; omega)
    have SU2 : Hid (∀ {W : World} {b2 : Option Addr} {g2 c2 : Nat}, NodesAt W b2 g2 0 u → Calls Try.prog 35 #[.slice b2 u.length c2, .int .i64 2, .int .i64 0, .slice none 0 0] W fun e w' => ∃ v', e = .returned v' ∧ SmRow W w' v' (K'.sms 0)) := fun {W b2 g2 c2} hW => sums_any b2 g2 0 c2 u hfU hD.crnU.keys W W _ [] 0 hW (SmRow.none W) (by omega) (by omega) (by simp; omega)
    have EQ : Hid (∀ i, i < (K.sms 0).length → (K'.sms 0).getD i 0 = (K.sms 0).getD i 0 + d) := by
      intro i hi
      have e : K'.sms 0 = (K.sms 0).map (· + d) := by rw [q3]; have := K.sms_add 0 d; rwa [Int.zero_add] at this
      rw [e]
      simp [List.getD_eq_getElem?_getD, List.getElem?_eq_getElem hi]
    have BA : Hid (∀ i, i < (K.sms 0).length → 0 ≤ (K.sms 0).getD i 0 ∧ (K.sms 0).getD i 0 ≤ 1000000000000) := by
      intro i hi
      have := BT.sms_le okK (a := 0) (by omega) _ (List.getElem_mem hi)
      rw [List.getD_eq_getElem?_getD, List.getElem?_eq_getElem hi]
      simp only [Option.getD_some]
      omega
    have BB : Hid (∀ i, i < (K.sms 0).length → 0 ≤ (K'.sms 0).getD i 0 ∧ (K'.sms 0).getD i 0 ≤ 1000000000000) := by
      intro i hi
      have hi' : i < (K'.sms 0).length := by omega
      have := BT.sms_le okK' (a := 0) (by omega) _ (List.getElem_mem hi')
      rw [List.getD_eq_getElem?_getD, List.getElem?_eq_getElem hi']
      simp only [Option.getD_some]
      omega
    have U2 : Hid (∀ W b2 g2, NodesAt W b2 g2 0 u → b2 = some ⟨g2, 0, none⟩ ∧ g2 < W.heap.size ∧ W.cell? ⟨g2, 0 + 2 * 6 + 2, none⟩ = some (.int .i64 K'.wt) ∧ (2 : Int) < (u.length : Int)) := by
      intro W b2 g2 hW
      have l2 := hD.crnU.lt.1
      have e : (ndAt u 2).wt = K'.wt := by have := hD.crnU.keys; cases this <;> rfl
      have c := (hW.cells 2 l2).2.2.1
      rw [e] at c
      exact ⟨hW.base (by omega), hW.lt (by omega), c, by omega⟩
    have al : (K.sms 0).length ≤ 100000 := by omega
    have q1' := q1
    have q2' := q2
    have hpl := hD.pl
    clear q1 q2 q3 okK okK' x1 x2 y1 y2 hf hfU hbig hbigU hD h h0 e0 hdl zA
    subst hpl
    generalize K.sms 0 = A at *
    generalize K'.sms 0 = Bl at *
    generalize K'.wt = kw at *
    have LH : Hid (Bl.length = A.length) := hl
    have m1 : ((A.length : Int) != (Bl.length : Int)) = false := by rw [hl]; simp
    have ap : (0 : Int) < (A.length : Int) := by omega
    have bp : (0 : Int) < (Bl.length : Int) := by omega
    by_cases hnx : n = x
    · skip
      have kw1 : kw = 1 := q2' hnx
      have kw2 : (kw != 1) = false := by simp [kw1]
      have px : ((n : Int) == (x : Int)) = true := by simp [hnx]
      have px2 : ((n : Int) != (x : Int)) = false := by simp [hnx]
      clear kw1 hnx q1' q2' hl hpos
      go_enter Try.func6, Try.ntmps6
      go_wp2_with fail
      refine (AW.out _).mono ?_
      rintro e w1 ⟨rfl, hb⟩
      have M1 : Hid (w1.heap[w.heap.size]? = some (.cells #[.int .i64 k, .bool mi] 24 (0, 0))) := (hb.block _ (by simp)).trans (heap_alloc_at _ _ _ rfl)
      have B1 : Hid (Below w.heap.size w w1) := B0.out.trans (hb.mono B0.out.size)
      have m0 := (cell_of M1.out 0 _ rfl).1
      have m1 := (cell_of M1.out 1 _ rfl).1
      have lt1 : w.heap.size < w1.heap.size := (Array.getElem?_eq_some_iff.1 M1.out).1
      clear hb
      go_wp2_with fail
      refine (DN.out _ (HA.out.below B1.out)).mono ?_
      rintro e w2 ⟨v, rfl, ho, hb⟩
      obtain ⟨base2, cap2, g2, rfl, -, -, hn⟩ := nodes_of_owns ho
      have B2 : Hid (Below w.heap.size w w2) := B1.out.trans (hb.mono B1.out.size)
      have NU : Hid (NodesAt w2 base2 g2 0 u) := hn
      have M2 : Hid (w2.heap[w.heap.size]? = some (.cells #[.int .i64 k, .bool mi] 24 (0, 0))) := (hb.block _ lt1).trans M1.out
      clear ho hb hn m0 m1 lt1 M1
      go_wp2_with fail
      refine (RT.out _ (HA.out.below B2.out)).mono ?_
      rintro e w3 ⟨rfl, hb⟩
      have B3 : Hid (Below w.heap.size w w3) := B2.out.trans (hb.mono B2.out.size)
      have NU3 : Hid (NodesAt w3 base2 g2 0 u) := NU.out.below hb
      have M3 : Hid (w3.heap[w.heap.size]? = some (.cells #[.int .i64 k, .bool mi] 24 (0, 0))) := (hb.block _ (Array.getElem?_eq_some_iff.1 M2.out).1).trans M2.out
      clear hb
      go_wp2_with fail
      refine (RU.out NU3.out).mono ?_
      rintro e w4 ⟨rfl, hb⟩
      have B4 : Hid (Below w.heap.size w w4) := B3.out.trans (hb.mono B3.out.size)
      have NU4 : Hid (NodesAt w4 base2 g2 0 u) := NU3.out.below hb
      have M4 : Hid (w4.heap[w.heap.size]? = some (.cells #[.int .i64 k, .bool mi] 24 (0, 0))) := (hb.block _ (Array.getElem?_eq_some_iff.1 M3.out).1).trans M3.out
      clear hb
      go_wp2_with fail
      refine (SU1.out _ (HA.out.below B4.out)).mono ?_
      rintro e w5 ⟨v5, rfl, hs⟩
      have B5 : Hid (Below w.heap.size w w5) := B4.out.trans (hs.below.mono B4.out.size)
      have NU5 : Hid (NodesAt w5 base2 g2 0 u) := NU4.out.below hs.below
      have S5 : Hid (SmRow w4 w5 v5 A) := hs
      clear hs
      go_wp2_with fail
      refine (SU2.out NU5.out).mono ?_
      rintro e w6 ⟨v6, rfl, hs⟩
      have B6 : Hid (Below w.heap.size w w6) := B5.out.trans (hs.below.mono B5.out.size)
      have NU6 : Hid (NodesAt w6 base2 g2 0 u) := NU5.out.below hs.below
      obtain ⟨ga, ca, rfl, hga, hca⟩ := (S5.out.quiet hs.below).some (by omega)
      obtain ⟨gb, cb, rfl, hgb, hcb⟩ := hs.some (by omega)
      have CA : Hid (∀ j, j < A.length → w6.cell? ⟨ga, j, none⟩ = some (.int .i64 (A.getD j 0))) := hca
      have CB : Hid (∀ j, j < A.length → w6.cell? ⟨gb, j, none⟩ = some (.int .i64 (Bl.getD j 0))) := fun j hj => hcb j (by rw [LH.out]; exact hj)
      clear hs hca hcb
      obtain ⟨rfl, u1, u2, u3⟩ := U2.out _ _ _ NU6.out
      have a0 := CA.out 0 (by omega)
      have b0 := CB.out 0 (by omega)
      have dA0 := BA.out 0 (by omega)
      have dB0 := BB.out 0 (by omega)
      have eq0 := EQ.out 0 (by omega)
      have w0e : IntKind.i64.wrap (Bl.getD 0 0 - A.getD 0 0) = d := by rw [eq0, show A.getD 0 0 + d - A.getD 0 0 = d by omega, IntKind.wrap_i64] <;> omega
      clear dA0 dB0 eq0
      have BLI : Hid ((Bl.length : Int) = (A.length : Int)) := by show _ = _; rw [LH.out]
      generalize A.getD 0 0 = xa0 at *
      generalize Bl.getD 0 0 = xb0 at *
      go_wp2_with fail
      go_loopw [72] (fun i wr => ∃ j : Nat, j ≤ A.length ∧ i = .int .i64 j ∧ Below w6.heap.size w6 wr) (fun i _ => A.length - (intOf i).toNat)
      case atStart => exact ⟨0, Nat.zero_le _, rfl, Below.refl _ _⟩
      case round =>
        obtain ⟨j, hj, rfl, hbw⟩ := hrel
        have HB : Hid (Below w6.heap.size w6 wr) := hbw
        have zs := hbw.size
        by_cases hlt : j < A.length
        · have ra0 := (hbw.cell (p := ⟨ga, 0, none⟩) hga).trans a0
          have rb0 := (hbw.cell (p := ⟨gb, 0, none⟩) hgb).trans b0
          have raj := (hbw.cell (p := ⟨ga, j, none⟩) hga).trans (CA.out j hlt)
          have rbj := (hbw.cell (p := ⟨gb, j, none⟩) hgb).trans (CB.out j hlt)
          have lga : ga < wr.heap.size := by omega
          have lgb : gb < wr.heap.size := by omega
          have dA := BA.out j hlt
          have dB := BB.out j hlt
          have eqj := EQ.out j hlt
          have wje : IntKind.i64.wrap (Bl.getD j 0 - A.getD j 0) = d := by rw [eqj, show A.getD j 0 + d - A.getD j 0 = d by omega, IntKind.wrap_i64] <;> omega
          have dd : (d != d) = false := by simp
          have j0 : (0 : Int) ≤ (j : Int) := Int.natCast_nonneg _
          have j1 : (j : Int) < (A.length : Int) := by omega
          have j2 : (j : Int) < (Bl.length : Int) := by rw [BLI.out]; omega
          clear dA dB eqj hbw
          generalize A.getD j 0 = xa at *
          generalize Bl.getD j 0 = xb at *
          go_wp2_with fail
          go_quiet (fail)
          go_wp2_with fail
          exact ⟨⟨j + 1, by omega, by go_num, below_drewN HB.out _⟩, by simp [intOf]; omega⟩
        · obtain rfl : j = A.length := by omega
          go_wp2_with fail
          go_ret
          exact ⟨rfl, B6.out.trans (HB.out.mono B6.out.size)⟩
    · skip
      have hne : (n : Int) ≠ (x : Int) := by omega
      have px : ((n : Int) == (x : Int)) = false := by simp [hne]
      have px2 : ((n : Int) != (x : Int)) = true := by simp [hne]
      have SAME : Hid (∀ i, Bl.getD i 0 = A.getD i 0) := by intro i; rw [q1' hnx]
      clear hne hnx q1' q2' hl hpos
      go_enter Try.func6, Try.ntmps6
      go_wp2_with fail
      refine (AW.out _).mono ?_
      rintro e w1 ⟨rfl, hb⟩
      have M1 : Hid (w1.heap[w.heap.size]? = some (.cells #[.int .i64 k, .bool mi] 24 (0, 0))) := (hb.block _ (by simp)).trans (heap_alloc_at _ _ _ rfl)
      have B1 : Hid (Below w.heap.size w w1) := B0.out.trans (hb.mono B0.out.size)
      have m0 := (cell_of M1.out 0 _ rfl).1
      have m1 := (cell_of M1.out 1 _ rfl).1
      have lt1 : w.heap.size < w1.heap.size := (Array.getElem?_eq_some_iff.1 M1.out).1
      clear hb
      go_wp2_with fail
      refine (DN.out _ (HA.out.below B1.out)).mono ?_
      rintro e w2 ⟨v, rfl, ho, hb⟩
      obtain ⟨base2, cap2, g2, rfl, -, -, hn⟩ := nodes_of_owns ho
      have B2 : Hid (Below w.heap.size w w2) := B1.out.trans (hb.mono B1.out.size)
      have NU : Hid (NodesAt w2 base2 g2 0 u) := hn
      have M2 : Hid (w2.heap[w.heap.size]? = some (.cells #[.int .i64 k, .bool mi] 24 (0, 0))) := (hb.block _ lt1).trans M1.out
      clear ho hb hn m0 m1 lt1 M1
      go_wp2_with fail
      refine (RT.out _ (HA.out.below B2.out)).mono ?_
      rintro e w3 ⟨rfl, hb⟩
      have B3 : Hid (Below w.heap.size w w3) := B2.out.trans (hb.mono B2.out.size)
      have NU3 : Hid (NodesAt w3 base2 g2 0 u) := NU.out.below hb
      have M3 : Hid (w3.heap[w.heap.size]? = some (.cells #[.int .i64 k, .bool mi] 24 (0, 0))) := (hb.block _ (Array.getElem?_eq_some_iff.1 M2.out).1).trans M2.out
      clear hb
      go_wp2_with fail
      refine (RU.out NU3.out).mono ?_
      rintro e w4 ⟨rfl, hb⟩
      have B4 : Hid (Below w.heap.size w w4) := B3.out.trans (hb.mono B3.out.size)
      have NU4 : Hid (NodesAt w4 base2 g2 0 u) := NU3.out.below hb
      have M4 : Hid (w4.heap[w.heap.size]? = some (.cells #[.int .i64 k, .bool mi] 24 (0, 0))) := (hb.block _ (Array.getElem?_eq_some_iff.1 M3.out).1).trans M3.out
      clear hb
      go_wp2_with fail
      refine (SU1.out _ (HA.out.below B4.out)).mono ?_
      rintro e w5 ⟨v5, rfl, hs⟩
      have B5 : Hid (Below w.heap.size w w5) := B4.out.trans (hs.below.mono B4.out.size)
      have NU5 : Hid (NodesAt w5 base2 g2 0 u) := NU4.out.below hs.below
      have S5 : Hid (SmRow w4 w5 v5 A) := hs
      clear hs
      go_wp2_with fail
      refine (SU2.out NU5.out).mono ?_
      rintro e w6 ⟨v6, rfl, hs⟩
      have B6 : Hid (Below w.heap.size w w6) := B5.out.trans (hs.below.mono B5.out.size)
      have NU6 : Hid (NodesAt w6 base2 g2 0 u) := NU5.out.below hs.below
      obtain ⟨ga, ca, rfl, hga, hca⟩ := (S5.out.quiet hs.below).some (by omega)
      obtain ⟨gb, cb, rfl, hgb, hcb⟩ := hs.some (by omega)
      have CA : Hid (∀ j, j < A.length → w6.cell? ⟨ga, j, none⟩ = some (.int .i64 (A.getD j 0))) := hca
      have CB : Hid (∀ j, j < A.length → w6.cell? ⟨gb, j, none⟩ = some (.int .i64 (Bl.getD j 0))) := fun j hj => hcb j (by rw [LH.out]; exact hj)
      clear hs hca hcb
      obtain ⟨rfl, u1, u2, u3⟩ := U2.out _ _ _ NU6.out
      have a0 := CA.out 0 (by omega)
      have b0 := CB.out 0 (by omega)
      have dA0 := BA.out 0 (by omega)
      have dB0 := BB.out 0 (by omega)
      have eq0 := EQ.out 0 (by omega)
      have w0e : IntKind.i64.wrap (Bl.getD 0 0 - A.getD 0 0) = d := by rw [eq0, show A.getD 0 0 + d - A.getD 0 0 = d by omega, IntKind.wrap_i64] <;> omega
      clear dA0 dB0 eq0
      have BLI : Hid ((Bl.length : Int) = (A.length : Int)) := by show _ = _; rw [LH.out]
      generalize A.getD 0 0 = xa0 at *
      generalize Bl.getD 0 0 = xb0 at *
      go_wp2_with fail
      go_loopw [72] (fun i wr => ∃ j : Nat, j ≤ A.length ∧ i = .int .i64 j ∧ Below w6.heap.size w6 wr) (fun i _ => A.length - (intOf i).toNat)
      case atStart => exact ⟨0, Nat.zero_le _, rfl, Below.refl _ _⟩
      case round =>
        obtain ⟨j, hj, rfl, hbw⟩ := hrel
        have HB : Hid (Below w6.heap.size w6 wr) := hbw
        have zs := hbw.size
        by_cases hlt : j < A.length
        · have ra0 := (hbw.cell (p := ⟨ga, 0, none⟩) hga).trans a0
          have rb0 := (hbw.cell (p := ⟨gb, 0, none⟩) hgb).trans b0
          have raj := (hbw.cell (p := ⟨ga, j, none⟩) hga).trans (CA.out j hlt)
          have rbj := (hbw.cell (p := ⟨gb, j, none⟩) hgb).trans (CB.out j hlt)
          have lga : ga < wr.heap.size := by omega
          have lgb : gb < wr.heap.size := by omega
          have dA := BA.out j hlt
          have dB := BB.out j hlt
          have eqj := EQ.out j hlt
          have wje : IntKind.i64.wrap (Bl.getD j 0 - A.getD j 0) = d := by rw [eqj, show A.getD j 0 + d - A.getD j 0 = d by omega, IntKind.wrap_i64] <;> omega
          have dd : (d != d) = false := by simp
          have sj : (A.getD j 0 != Bl.getD j 0) = false := by rw [SAME.out j]; simp
          have j0 : (0 : Int) ≤ (j : Int) := Int.natCast_nonneg _
          have j1 : (j : Int) < (A.length : Int) := by omega
          have j2 : (j : Int) < (Bl.length : Int) := by rw [BLI.out]; omega
          clear dA dB eqj hbw
          generalize A.getD j 0 = xa at *
          generalize Bl.getD j 0 = xb at *
          go_wp2_with fail
          go_quiet (fail)
          go_wp2_with fail
          exact ⟨⟨j + 1, by omega, by go_num, below_drewN HB.out _⟩, by simp [intOf]; omega⟩
        · obtain rfl : j = A.length := by omega
          go_wp2_with fail
          go_ret
          exact ⟨rfl, B6.out.trans (HB.out.mono B6.out.size)⟩
  · have e0 : (doE t p k mi == 0) = false := by simp [h0]
    have e1 : doL t p k mi = [] := by unfold doL; rw [if_neg h0]
    rw [e0, e1] at DN
    clear h h0 e0 e1
    go_enter Try.func6, Try.ntmps6
    go_wp2_with fail
    refine (AW.out _).mono ?_
    rintro e w1 ⟨rfl, hb⟩
    have M1 : Hid (w1.heap[w.heap.size]? = some (.cells #[.int .i64 k, .bool mi] 24 (0, 0))) := (hb.block _ (by simp)).trans (heap_alloc_at _ _ _ rfl)
    have B1 : Hid (Below w.heap.size w w1) := B0.out.trans (hb.mono B0.out.size)
    have m0 := (cell_of M1.out 0 _ rfl).1
    have m1 := (cell_of M1.out 1 _ rfl).1
    have lt1 : w.heap.size < w1.heap.size := (Array.getElem?_eq_some_iff.1 M1.out).1
    clear hb
    go_wp2_with fail
    refine (DN.out _ (HA.out.below B1.out)).mono ?_
    rintro e w2 ⟨v, rfl, ho, hb⟩
    obtain ⟨base2, cap2, g2, rfl, -, -, -⟩ := nodes_of_owns (t := []) ho
    have B2 : Hid (Below w.heap.size w w2) := B1.out.trans (hb.mono B1.out.size)
    clear ho hb
    go_wp2_with fail
    go_ret
    exact ⟨rfl, B2.out⟩
end Go.Proofs.Ytfjkddjjpbdjkaa

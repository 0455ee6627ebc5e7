
/- Layer 18: movesAt, Here of the program. Made by mk_smvat.py. -/

import Derived.Test.YthlhbajaogonnaaSMv

namespace Go.Proofs.Ythlhbajaogonnaa

open Go.RowKit

attribute [local go_sem ↓] Go.wp_at_zero Go.wp_at_succ

theorem allK_kinds : ∀ m ∈ allK 12, 1 ≤ m.1 ∧ m.1 ≤ 12 := by decide
theorem take_snoc (A : List MvD) (f : MvD → Bool) (j : Nat) (h : j < A.length) : (A.take (j + 1)).filter f = if f (A.getD j mv0) then (A.take j).filter f ++ [A.getD j mv0] else (A.take j).filter f := by
  rw [List.take_succ_eq_append_getElem h, List.filter_append]
  have e : A.getD j mv0 = A[j] := by simp [List.getD_eq_getElem?_getD, List.getElem?_eq_getElem h]
  rw [e]
  cases hf : f A[j] <;> simp [List.filter, hf]
/-- Two sites in their boxes. -/
theorem sbox_new {z : World} {sb : Nat} {base : Option Addr} {b o c : Nat} {t : NL} {root : Int} {mi : Bool} {x l r ll lr rl rr rll rlr : Int} (h : z.heap[sb]? = some (.cells #[.slice base t.length c, .int .i64 root, .bool mi, .int .i64 x, .int .i64 l, .int .i64 r, .int .i64 ll, .int .i64 lr, .int .i64 rl, .int .i64 rr, .int .i64 rll, .int .i64 rlr] 78 (0, 0))) (hn : NodesAt z base b o t) : SBox z sb base b o c t root mi x l r ll lr rl rr rll rlr :=
  ⟨(cell_of h 0 _ rfl).1, (cell_of h 1 _ rfl).1, (cell_of h 2 _ rfl).1, (cell_of h 3 _ rfl).1, (cell_of h 4 _ rfl).1, (cell_of h 5 _ rfl).1, (cell_of h 6 _ rfl).1, (cell_of h 7 _ rfl).1, (cell_of h 8 _ rfl).1, (cell_of h 9 _ rfl).1, (cell_of h 10 _ rfl).1, (cell_of h 11 _ rfl).1, (Array.getElem?_eq_some_iff.1 h).1, hn⟩
/-- The moves that can be done at a place. -/
def mvsB (rt : Bool) (B : BT) : List MvD := (allK 12).filter (fun m => canO m.1 rt (some (B.mt m.2)))
set_option maxRecDepth 100000 in
set_option maxHeartbeats 4000000 in
theorem movesAt_any (base : Option Addr) (b o c : Nat) (t : NL) (root : Int) (x : Nat) (B : BT) (w : World) (h : NodesAt w base b o t) (hf : InForm t) (hB : Abs t x B) :
    Calls Try.prog 46 #[.slice base t.length c, .int .i64 root, .int .i64 (x : Int)] w fun e w' => ∃ v, e = .returned v ∧ MvRow w w' v (mvsB (decide ((x : Int) = root)) B) := by
  have hx := hB.lt
  have hpl : plOk t (x : Int) := Or.inr ⟨by omega, by omega⟩
  have HA : Hid (NodesAt w base b o t) := h
  have SA1 : Hid (∀ W, NodesAt W base b o t → Calls Try.prog 67 #[.slice base t.length c, .int .i64 root, .int .i64 (x : Int), .bool false] W fun e w' => e = .returned (siteF base c t root false (x : Int)) ∧ Below W.heap.size W w') := fun W hW => siteAt_any base b o c t root (x : Int) false W hW hf hpl
  have SA2 : Hid (∀ W, NodesAt W base b o t → Calls Try.prog 67 #[.slice base t.length c, .int .i64 root, .int .i64 (x : Int), .bool true] W fun e w' => e = .returned (siteF base c t root true (x : Int)) ∧ Below W.heap.size W w') := fun W hW => siteAt_any base b o c t root (x : Int) true W hW hf hpl
  have AL1 : Hid (∀ {W : World} {sb : Nat} (k : Int), 1 ≤ k ∧ k ≤ 12 → SBox W sb base b o c t root false (x : Int) (belL t false (x : Int)) (belR t false (x : Int)) (belL t false (belL t false (x : Int))) (belR t false (belL t false (x : Int))) (belL t false (belR t false (x : Int))) (belR t false (belR t false (x : Int))) (belL t false (belL t false (belR t false (x : Int)))) (belR t false (belL t false (belR t false (x : Int)))) → Calls Try.prog 38 #[.pointer (some ⟨sb, 0, none⟩), .int .i64 k] W fun e w' => e = .returned (.bool (canO k (decide ((x : Int) = root)) (some (B.mt false)))) ∧ Below W.heap.size W w') := fun {W sb} k hk hW => allows_any sb base b o c t root false (x : Int) k _ W hk (PA.of hB) hW
  have AL2 : Hid (∀ {W : World} {sb : Nat} (k : Int), 1 ≤ k ∧ k ≤ 12 → SBox W sb base b o c t root true (x : Int) (belL t true (x : Int)) (belR t true (x : Int)) (belL t true (belL t true (x : Int))) (belR t true (belL t true (x : Int))) (belL t true (belR t true (x : Int))) (belR t true (belR t true (x : Int))) (belL t true (belL t true (belR t true (x : Int)))) (belR t true (belL t true (belR t true (x : Int)))) → Calls Try.prog 38 #[.pointer (some ⟨sb, 0, none⟩), .int .i64 k] W fun e w' => e = .returned (.bool (canO k (decide ((x : Int) = root)) (some (B.mt true)))) ∧ Below W.heap.size W w') := fun {W sb} k hk hW => allows_any sb base b o c t root true (x : Int) k _ W hk (PA.of hB) hW
  have AA : Hid (∀ W, Calls Try.prog 21 #[] W fun e w' => ∃ v, e = .returned v ∧ MvRow W w' v (allK 12)) := fun W => All_any W
  have KK : Hid (∀ j, j < (allK 12).length → 1 ≤ ((allK 12).getD j mv0).1 ∧ ((allK 12).getD j mv0).1 ≤ 12) := by
    intro j hj
    have e : (allK 12).getD j mv0 = (allK 12)[j] := by simp [List.getD_eq_getElem?_getD, List.getElem?_eq_getElem hj]
    rw [e]
    exact allK_kinds _ (List.getElem_mem hj)
  have LA : (allK 12).length = 21 := by decide
  have FD : Hid (mvsB (decide ((x : Int) = root)) B = (allK 12).filter (fun m => canO m.1 (decide ((x : Int) = root)) (some (B.mt m.2)))) := rfl
  have FT : Hid (∀ j, j < (allK 12).length → ((allK 12).take (j + 1)).filter (fun m => canO m.1 (decide ((x : Int) = root)) (some (B.mt m.2))) = if canO ((allK 12).getD j mv0).1 (decide ((x : Int) = root)) (some (B.mt ((allK 12).getD j mv0).2)) then ((allK 12).take j).filter (fun m => canO m.1 (decide ((x : Int) = root)) (some (B.mt m.2))) ++ [(allK 12).getD j mv0] else ((allK 12).take j).filter (fun m => canO m.1 (decide ((x : Int) = root)) (some (B.mt m.2)))) := fun j hj => take_snoc _ _ j hj
  have LF : Hid (∀ j, (((allK 12).take j).filter (fun m => canO m.1 (decide ((x : Int) = root)) (some (B.mt m.2)))).length ≤ 21) := fun j => Nat.le_trans (List.length_filter_le _ _) (Nat.le_trans (List.length_take_le' _ _) (by rw [LA]; exact Nat.le_refl _))
  obtain ⟨i0, hi0, hz0, hz1, hz2⟩ := info_parts mv_info
  unfold siteF at SA1 SA2
  clear h hf hpl hB
  generalize hCB : (fun m : MvD => canO m.1 (decide ((x : Int) = root)) (some (B.mt m.2))) = CB at *
  have C1 : Hid (∀ k, canO k (decide ((x : Int) = root)) (some (B.mt false)) = CB (k, false)) := fun k => by rw [← hCB]
  have C2 : Hid (∀ k, canO k (decide ((x : Int) = root)) (some (B.mt true)) = CB (k, true)) := fun k => by rw [← hCB]
  have FT' : Hid (∀ j, j < (allK 12).length → ((allK 12).take (j + 1)).filter CB = if CB ((allK 12).getD j mv0) then ((allK 12).take j).filter CB ++ [(allK 12).getD j mv0] else ((allK 12).take j).filter CB) := fun j hj => by have := FT.out j hj; rw [← hCB] at *; exact this
  clear hCB FT
  rw [FD.out]
  clear FD
  have HL : Hid ((allK 12).length = 21) := LA
  clear LA
  generalize allK 12 = A at *
  generalize belL t false (x : Int) = p4 at *
  generalize belR t false (x : Int) = p5 at *
  generalize belL t false p4 = p6 at *
  generalize belR t false p4 = p7 at *
  generalize belL t false p5 = p8 at *
  generalize belR t false p5 = p9 at *
  generalize belL t false p8 = p10 at *
  generalize belR t false p8 = p11 at *
  generalize belL t true (x : Int) = q4 at *
  generalize belR t true (x : Int) = q5 at *
  generalize belL t true q4 = q6 at *
  generalize belR t true q4 = q7 at *
  generalize belL t true q5 = q8 at *
  generalize belR t true q5 = q9 at *
  generalize belL t true q8 = q10 at *
  generalize belR t true q8 = q11 at *
  go_enter Try.func46, Try.ntmps46
  go_wp2_with fail
  refine (SA1.out _ HA.out).mono ?_
  rintro e w1 ⟨rfl, hb⟩
  have B1 : Hid (Below w.heap.size w w1) := hb
  clear hb
  go_wp2_with fail
  refine (SA2.out _ (HA.out.below B1.out)).mono ?_
  rintro e w2 ⟨rfl, hb⟩
  have B2 : Hid (Below w.heap.size w w2) := B1.out.trans (hb.mono B1.out.size)
  clear hb
  have BX1 : Hid (((w2.alloc (.cells #[.slice base t.length c, .int .i64 root, .bool false, .int .i64 (x : Int), .int .i64 p4, .int .i64 p5, .int .i64 p6, .int .i64 p7, .int .i64 p8, .int .i64 p9, .int .i64 p10, .int .i64 p11] 78)).alloc (.cells #[.slice base t.length c, .int .i64 root, .bool true, .int .i64 (x : Int), .int .i64 q4, .int .i64 q5, .int .i64 q6, .int .i64 q7, .int .i64 q8, .int .i64 q9, .int .i64 q10, .int .i64 q11] 78)).heap[w2.heap.size]? = some (.cells #[.slice base t.length c, .int .i64 root, .bool false, .int .i64 (x : Int), .int .i64 p4, .int .i64 p5, .int .i64 p6, .int .i64 p7, .int .i64 p8, .int .i64 p9, .int .i64 p10, .int .i64 p11] 78 (0, 0))) := (heap_alloc_old _ _ (by simp)).trans (heap_alloc_at _ _ _ rfl)
  have BX2 : Hid (((w2.alloc (.cells #[.slice base t.length c, .int .i64 root, .bool false, .int .i64 (x : Int), .int .i64 p4, .int .i64 p5, .int .i64 p6, .int .i64 p7, .int .i64 p8, .int .i64 p9, .int .i64 p10, .int .i64 p11] 78)).alloc (.cells #[.slice base t.length c, .int .i64 root, .bool true, .int .i64 (x : Int), .int .i64 q4, .int .i64 q5, .int .i64 q6, .int .i64 q7, .int .i64 q8, .int .i64 q9, .int .i64 q10, .int .i64 q11] 78)).heap[w2.heap.size + 1]? = some (.cells #[.slice base t.length c, .int .i64 root, .bool true, .int .i64 (x : Int), .int .i64 q4, .int .i64 q5, .int .i64 q6, .int .i64 q7, .int .i64 q8, .int .i64 q9, .int .i64 q10, .int .i64 q11] 78 (0, 0))) := heap_alloc_at _ _ _ (by simp)
  have B3 : Hid (Below w.heap.size w ((w2.alloc (.cells #[.slice base t.length c, .int .i64 root, .bool false, .int .i64 (x : Int), .int .i64 p4, .int .i64 p5, .int .i64 p6, .int .i64 p7, .int .i64 p8, .int .i64 p9, .int .i64 p10, .int .i64 p11] 78)).alloc (.cells #[.slice base t.length c, .int .i64 root, .bool true, .int .i64 (x : Int), .int .i64 q4, .int .i64 q5, .int .i64 q6, .int .i64 q7, .int .i64 q8, .int .i64 q9, .int .i64 q10, .int .i64 q11] 78))) := (B2.out.alloc B2.out.size _).alloc (by rw [World.size_alloc]; have := B2.out.size; omega) _
  go_wp2_with fail
  generalize (w2.alloc (.cells #[.slice base t.length c, .int .i64 root, .bool false, .int .i64 (x : Int), .int .i64 p4, .int .i64 p5, .int .i64 p6, .int .i64 p7, .int .i64 p8, .int .i64 p9, .int .i64 p10, .int .i64 p11] 78)).alloc (.cells #[.slice base t.length c, .int .i64 root, .bool true, .int .i64 (x : Int), .int .i64 q4, .int .i64 q5, .int .i64 q6, .int .i64 q7, .int .i64 q8, .int .i64 q9, .int .i64 q10, .int .i64 q11] 78) = w3 at *
  obtain ⟨s1, hs1⟩ : ∃ s1, s1 = w2.heap.size := ⟨_, rfl⟩
  rw [← hs1] at BX1 BX2 ⊢
  clear hs1
  refine (AA.out _).mono ?_
  rintro e w4 ⟨v4, rfl, hR⟩
  obtain ⟨ga, ca, rfl, -, hga, -, -, hc, -⟩ := owns_some hR.own (by rw [HL.out]; omega)
  have B4 : Hid (Below w.heap.size w w4) := B3.out.trans (hR.below.mono B3.out.size)
  have X1 : Hid (SBox w4 s1 base b o c t root false (x : Int) p4 p5 p6 p7 p8 p9 p10 p11) := (sbox_new BX1.out (HA.out.below B3.out)).below hR.below
  have X2 : Hid (SBox w4 (s1 + 1) base b o c t root true (x : Int) q4 q5 q6 q7 q8 q9 q10 q11) := (sbox_new BX2.out (HA.out.below B3.out)).below hR.below
  have CA : Hid (∀ j, j < A.length → w4.cell? ⟨ga, j * 2, none⟩ = some (.int .i64 (A.getD j mv0).1) ∧ w4.cell? ⟨ga, j * 2 + 1, none⟩ = some (.bool (A.getD j mv0).2)) := fun j hj => ⟨(hc _ (by omega)).trans (mvC_get A j hj).1, (hc _ (by omega)).trans (mvC_get A j hj).2⟩
  have HLi : Hid ((A.length : Int) = 21) := by show _ = _; rw [HL.out]; rfl
  clear hc hR BX1 BX2
  go_wp2_with fail
  go_loopw [7, 22] (fun v i wr => ∃ j : Nat, j ≤ 21 ∧ i = .int .i64 j ∧ MvRow w4 wr v ((A.take j).filter CB)) (fun _ i _ => 21 - (intOf i).toNat)
  case atStart => exact ⟨0, by omega, rfl, MvRow.none w4⟩
  case round =>
    obtain ⟨j, hj, rfl, hR⟩ := hrel
    have S0 : Hid (MvRow w4 wr u7 ((A.take j).filter CB)) := hR
    have lV := LF.out j
    by_cases hlt : j < 21
    · have hjA : j < A.length := by rw [HL.out]; exact hlt
      obtain ⟨c0, c1⟩ := CA.out j hjA
      have FJ := FT'.out j hjA
      have hk := KK.out j hjA
      have jlt : (j : Int) < (A.length : Int) := by rw [HLi.out]; omega
      have j0 : (0 : Int) ≤ (j : Int) := Int.natCast_nonneg _
      have HF : Hid (_ = _) := FJ
      have r0 := (hR.below.cell (p := ⟨ga, j * 2, none⟩) hga).trans c0
      have r1 := (hR.below.cell (p := ⟨ga, j * 2 + 1, none⟩) hga).trans c1
      have lga : ga < wr.heap.size := Nat.lt_of_lt_of_le hga hR.below.size
      have BW : Hid (Below w4.heap.size w4 wr) := hR.below
      clear FJ c0 c1 hR
      generalize A.getD j mv0 = m at *
      obtain ⟨mk, mm⟩ := m
      simp only at r0 r1 hk
      generalize (A.take j).filter CB = V at *
      have BA : Hid (Below w4.heap.size w4 (wr.alloc (.cells #[.int .i64 mk, .bool mm] 39))) := BW.out.alloc BW.out.size _
      have SB0 : Hid (MvRow w4 (wr.alloc (.cells #[.int .i64 mk, .bool mm] 39)) u7 V) := S0.out.quiet (below_alloc _ _)
      have MB : Hid ((wr.alloc (.cells #[.int .i64 mk, .bool mm] 39)).heap[wr.heap.size]? = some (.cells #[.int .i64 mk, .bool mm] 39 (0, 0))) := heap_alloc_at _ _ _ rfl
      cases mm
      · have CQ := C1.out mk
        cases hq : CB (mk, false)
        · rw [hq] at HF
          go_wp2_with (first | (go_at_call 38; refine (AL1.out mk hk (X1.out.below BA.out)).mono ?_; rintro e w5 ⟨rfl, hb⟩; rw [CQ, hq]; have S5 : Hid (MvRow w4 w5 u7 V) := SB0.out.quiet hb; have M5 : Hid (w5.heap[wr.heap.size]? = some (.cells #[.int .i64 mk, .bool false] 39 (0, 0))) := (hb.block _ (by simp)).trans MB.out; have y0 := (cell_of M5.out 0 _ rfl).1; have y1 := (cell_of M5.out 1 _ rfl).1; have yl : wr.heap.size < w5.heap.size := (Array.getElem?_eq_some_iff.1 M5.out).1; clear hb))
          exact ⟨⟨j + 1, by omega, by go_num, by rw [HF.out]; exact S5.out⟩, by simp [intOf]; omega⟩
        · rw [hq] at HF
          go_wp2_with (first | (go_at_call 38; refine (AL1.out mk hk (X1.out.below BA.out)).mono ?_; rintro e w5 ⟨rfl, hb⟩; rw [CQ, hq]; have S5 : Hid (MvRow w4 w5 u7 V) := SB0.out.quiet hb; have M5 : Hid (w5.heap[wr.heap.size]? = some (.cells #[.int .i64 mk, .bool false] 39 (0, 0))) := (hb.block _ (by simp)).trans MB.out; have y0 := (cell_of M5.out 0 _ rfl).1; have y1 := (cell_of M5.out 1 _ rfl).1; have yl : wr.heap.size < w5.heap.size := (Array.getElem?_eq_some_iff.1 M5.out).1; clear hb) | (at_builtin; (refine wpList_append_lies _ (by rfl) _ _ _ (by rfl) w4.heap.size 39 i0 _ 2 16 mvs_under hi0 hz0 hz1 hz2 rfl (by omega) _ V.length _ (by rfl) (S5.out.own.alloc _) ⟨w5.heap.size, 0, none⟩ 1 1 [.int .i64 mk, .bool false] (by rfl) (by rfl) (World.news_of_block (cs := #[.int .i64 mk, .bool false]) (t := 39) (fr := (0, 0)) (heap_alloc_at _ _ _ (by simp))) (by simp [Value.oneCell']) (by omega) (by unfold maxLen; omega) (by omega) (by have := S5.out.below.size; simp; omega) (w5.heap.size + 1) (by simp) ?_); intro g6 c6 w6 ho hg hat hl; have S6 : Hid (MvRow w4 w6 (.slice (some ⟨g6, 0, none⟩) (V.length + 1) c6) (V ++ [(mk, false)])) := S5.out.grown (q := (mk, false)) hg ho; clear ho hg hat hl))
          exact ⟨⟨j + 1, by omega, by go_num, by rw [HF.out]; exact S6.out⟩, by simp [intOf]; omega⟩
      · have CQ := C2.out mk
        cases hq : CB (mk, true)
        · rw [hq] at HF
          go_wp2_with (first | (go_at_call 38; refine (AL2.out mk hk (X2.out.below BA.out)).mono ?_; rintro e w5 ⟨rfl, hb⟩; rw [CQ, hq]; have S5 : Hid (MvRow w4 w5 u7 V) := SB0.out.quiet hb; have M5 : Hid (w5.heap[wr.heap.size]? = some (.cells #[.int .i64 mk, .bool true] 39 (0, 0))) := (hb.block _ (by simp)).trans MB.out; have y0 := (cell_of M5.out 0 _ rfl).1; have y1 := (cell_of M5.out 1 _ rfl).1; have yl : wr.heap.size < w5.heap.size := (Array.getElem?_eq_some_iff.1 M5.out).1; clear hb))
          exact ⟨⟨j + 1, by omega, by go_num, by rw [HF.out]; exact S5.out⟩, by simp [intOf]; omega⟩
        · rw [hq] at HF
          go_wp2_with (first | (go_at_call 38; refine (AL2.out mk hk (X2.out.below BA.out)).mono ?_; rintro e w5 ⟨rfl, hb⟩; rw [CQ, hq]; have S5 : Hid (MvRow w4 w5 u7 V) := SB0.out.quiet hb; have M5 : Hid (w5.heap[wr.heap.size]? = some (.cells #[.int .i64 mk, .bool true] 39 (0, 0))) := (hb.block _ (by simp)).trans MB.out; have y0 := (cell_of M5.out 0 _ rfl).1; have y1 := (cell_of M5.out 1 _ rfl).1; have yl : wr.heap.size < w5.heap.size := (Array.getElem?_eq_some_iff.1 M5.out).1; clear hb) | (at_builtin; (refine wpList_append_lies _ (by rfl) _ _ _ (by rfl) w4.heap.size 39 i0 _ 2 16 mvs_under hi0 hz0 hz1 hz2 rfl (by omega) _ V.length _ (by rfl) (S5.out.own.alloc _) ⟨w5.heap.size, 0, none⟩ 1 1 [.int .i64 mk, .bool true] (by rfl) (by rfl) (World.news_of_block (cs := #[.int .i64 mk, .bool true]) (t := 39) (fr := (0, 0)) (heap_alloc_at _ _ _ (by simp))) (by simp [Value.oneCell']) (by omega) (by unfold maxLen; omega) (by omega) (by have := S5.out.below.size; simp; omega) (w5.heap.size + 1) (by simp) ?_); intro g6 c6 w6 ho hg hat hl; have S6 : Hid (MvRow w4 w6 (.slice (some ⟨g6, 0, none⟩) (V.length + 1) c6) (V ++ [(mk, true)])) := S5.out.grown (q := (mk, true)) hg ho; clear ho hg hat hl))
          exact ⟨⟨j + 1, by omega, by go_num, by rw [HF.out]; exact S6.out⟩, by simp [intOf]; omega⟩
    · have ej : Hid (j = A.length) := by show _ = _; rw [HL.out]; omega
      have hAll : Hid (A.take j = A) := by show _ = _; rw [ej.out]; exact List.take_length
      have nlt : ¬ ((j : Int) < (A.length : Int)) := by rw [ej.out]; omega
      clear hR
      go_wp2_with fail
      go_ret
      refine ⟨_, rfl, ?_⟩
      have := S0.out
      rw [hAll.out] at this
      exact ⟨owns_down this.own B4.out.size, B4.out.trans (this.below.mono B4.out.size)⟩
end Go.Proofs.Ythlhbajaogonnaa

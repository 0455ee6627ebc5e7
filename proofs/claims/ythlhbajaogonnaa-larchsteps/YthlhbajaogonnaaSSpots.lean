
/- Layer 18: Spots of the program. -/

import Derived.Test.YthlhbajaogonnaaSOut

namespace Go.Proofs.Ythlhbajaogonnaa

open Go.RowKit

attribute [local go_sem ↓] Go.wp_at_zero Go.wp_at_succ

/-- The places and the moves of the first places. -/
noncomputable def spP (t : NL) : Nat → List Nat
  | 0 => []
  | j + 1 => if ofK t (j : Int) then spP t j ++ List.replicate (mvsA t (j : Int)).length j else spP t j
noncomputable def spV (t : NL) : Nat → List MvD
  | 0 => []
  | j + 1 => if ofK t (j : Int) then spV t j ++ mvsA t (j : Int) else spV t j
theorem mvsA_len (t : NL) (p : Int) : (mvsA t p).length ≤ 21 := by
  have e : (allK 12).length = 21 := by decide
  unfold mvsA mvsB
  exact Nat.le_trans (List.length_filter_le _ _) (by omega)
theorem spP_len (t : NL) : ∀ j, (spP t j).length ≤ 21 * j ∧ (spV t j).length ≤ 21 * j
  | 0 => by simp [spP, spV]
  | j + 1 => by
    have h := spP_len t j
    have e := mvsA_len t (j : Int)
    cases h3 : ofK t (j : Int) <;> simp [spP, spV, h3] <;> omega
/-- Two rows that are ours, and a third that is read. -/
structure InR (w x : World) (u v : Value) (P : List Nat) (V : List MvD) (n ga : Nat) (cur : Array Value) : Prop where
  own1 : x.ownsRow w.heap.size 3 1 u P.length (natC P)
  own2 : x.ownsRow w.heap.size 39 2 v V.length (mvC V)
  below : Below w.heap.size w x
  far : 0 < n → x.heap[ga]? = some (.cells cur 39 (0, 0)) ∧ v.ownBlock ≠ some ga
theorem int_ne {x : World} {B n g : Nat} {u : Value} {xs : List Value} {cur : Array Value} (h : x.ownsRow B 3 1 u n xs) (hg : x.heap[g]? = some (.cells cur 39 (0, 0))) : u.ownBlock ≠ some g := by
  rcases h.2 with ⟨rfl, _⟩ | ⟨g', cap, cur', rfl, _, hgb, _⟩
  · simp [Value.ownBlock]
  · intro e
    have : g' = g := by simpa [Value.ownBlock] using e
    subst this
    rw [hgb] at hg
    simp at hg
theorem rows_ne {x : World} {B n m : Nat} {u v : Value} {xs ys : List Value} (h : x.ownsRow B 3 1 u n xs) (h2 : x.ownsRow B 39 2 v m ys) : v.ownBlock = none ∨ v.ownBlock ≠ u.ownBlock := by
  rcases h2.2 with ⟨rfl, _⟩ | ⟨g', cap, cur', rfl, _, hgb, _⟩
  · exact Or.inl rfl
  · exact Or.inr fun e => int_ne h hgb e.symm
theorem rows_ne' {x : World} {B n m : Nat} {u v : Value} {xs ys : List Value} (h : x.ownsRow B 3 1 u n xs) (h2 : x.ownsRow B 39 2 v m ys) : u.ownBlock = none ∨ u.ownBlock ≠ v.ownBlock := by
  rcases rows_ne h h2 with e | e
  · by_cases q : u.ownBlock = none
    · exact Or.inl q
    · exact Or.inr (by rw [e]; exact q)
  · exact Or.inr (Ne.symm e)
theorem InR.quiet {w x y : World} {u v : Value} {P : List Nat} {V : List MvD} {n ga : Nat} {cur : Array Value} (h : InR w x u v P V n ga cur) (hb : Below x.heap.size x y) : InR w y u v P V n ga cur :=
  ⟨owns_below h.own1 hb, owns_below h.own2 hb, h.below.trans (hb.mono h.below.size), fun hn => ⟨(hb.block ga (Array.getElem?_eq_some_iff.1 (h.far hn).1).1).trans (h.far hn).1, (h.far hn).2⟩⟩
theorem InR.push1 {w x y : World} {u u' v : Value} {P : List Nat} {V : List MvD} {n ga q : Nat} {cur : Array Value} {o : Obj} (h : InR w x u v P V n ga cur) (hg : (x.alloc o).grownBy y u.ownBlock) (ho : y.ownsRow w.heap.size 3 1 u' (P.length + 1) (natC P ++ [.int .i64 (q : Int)])) : InR w y u' v (P ++ [q]) V n ga cur := by
  have k := h.quiet (below_alloc x o)
  refine ⟨by rw [List.length_append, natC_snoc]; exact ho, k.own2.kept hg (rows_ne k.own1 k.own2), Below.grown k.below hg k.below.size (fun b hb => (owns_lt k.own1 b hb).1), fun hn => ⟨?_, (h.far hn).2⟩⟩
  exact (hg.block ga (Array.getElem?_eq_some_iff.1 (k.far hn).1).1 (fun e => int_ne k.own1 (k.far hn).1 e.symm)).trans (k.far hn).1
theorem InR.push2 {w x y : World} {u v : Value} {P : List Nat} {V : List MvD} {n ga g m c H : Nat} {cur : Array Value} {q : MvD} {o : Obj} (h : InR w x u v P V n ga cur) (hg : (x.alloc o).grownBy y v.ownBlock) (hat : v.ownBlock = some g ∨ g = H) (hH : x.heap.size ≤ H) (ho : y.ownsRow w.heap.size 39 2 (.slice (some ⟨g, 0, none⟩) m c) (V.length + 1) (mvC V ++ [.int .i64 q.1, .bool q.2])) : InR w y u (.slice (some ⟨g, 0, none⟩) m c) P (V ++ [q]) n ga cur := by
  have k := h.quiet (below_alloc x o)
  refine ⟨k.own1.kept hg (rows_ne' k.own1 k.own2), by rw [List.length_append, mvC_append]; exact ho, Below.grown k.below hg k.below.size (fun b hb => (owns_lt k.own2 b hb).1), fun hn => ⟨?_, ?_⟩⟩
  · exact (hg.block ga (Array.getElem?_eq_some_iff.1 (k.far hn).1).1 (fun e => (h.far hn).2 e.symm)).trans (k.far hn).1
  · intro e
    have e' : g = ga := by simpa [Value.ownBlock] using e
    subst e'
    rcases hat with q | q
    · exact (h.far hn).2 q
    · have := (Array.getElem?_eq_some_iff.1 (h.far hn).1).1
      omega
theorem InR.box {w x y : World} {u v : Value} {P : List Nat} {V : List MvD} {n ga g : Nat} {cur : Array Value} {o o' : Obj} (h : InR w x u v P V n ga cur) (hg : ((x.alloc o).alloc o').grownBy y u.ownBlock) (e : g = x.heap.size) : y.heap[g]? = (x.alloc o).heap[g]? := by
  subst e
  refine (hg.block _ (by simp; omega) (fun q => ?_)).trans (heap_alloc_old _ _ (by simp))
  have := (owns_lt h.own1 _ q.symm).2
  omega
structure SpotR (w x : World) (u v : Value) (P : List Nat) (V : List MvD) : Prop where
  own1 : x.ownsRow w.heap.size 3 1 u P.length (natC P)
  own2 : x.ownsRow w.heap.size 39 2 v V.length (mvC V)
  below : Below w.heap.size w x
theorem SpotR.quiet {w x y : World} {u v : Value} {P : List Nat} {V : List MvD} (h : SpotR w x u v P V) (hb : Below x.heap.size x y) : SpotR w y u v P V :=
  ⟨owns_below h.own1 hb, owns_below h.own2 hb, h.below.trans (hb.mono h.below.size)⟩
theorem SpotR.nil {w x : World} (h : Below w.heap.size w x) : SpotR w x (.slice none 0 0) (.slice none 0 0) [] [] := ⟨World.ownsRow_nil _ _ _ _, World.ownsRow_nil _ _ _ _, h⟩
/-- The row that movesAt hands over, to be read beside the two. -/
theorem SpotR.into {w x y : World} {u v r : Value} {P : List Nat} {V A : List MvD} (h : SpotR w x u v P V) (hr : MvRow x y r A) : ∃ (a : Option Addr) (c ga : Nat) (cur : Array Value), r = .slice a A.length c ∧ InR w y u v P V A.length ga cur ∧ (0 < A.length → a = some ⟨ga, 0, none⟩) ∧ (∀ j, j < A.length → cur[j * 2]? = some (.int .i64 (A.getD j mv0).1) ∧ cur[j * 2 + 1]? = some (.bool (A.getD j mv0).2)) := by
  have k := h.quiet hr.below
  rcases hr.own.2 with ⟨rfl, e0⟩ | ⟨g, cap, cur, rfl, hB, hgb, h1, h2, h3, h4⟩
  · refine ⟨none, 0, 0, #[], by rw [e0], ⟨k.own1, k.own2, k.below, fun hn => by omega⟩, fun hn => by omega, fun j hj => by omega⟩
  · refine ⟨some ⟨g, 0, none⟩, cap, g, cur, rfl, ⟨k.own1, k.own2, k.below, fun _ => ⟨hgb, fun e => ?_⟩⟩, fun _ => rfl, fun j hj => ?_⟩
    · have := (owns_lt h.own2 _ e).2
      omega
    · have q := mvC_get A j hj
      rw [← h4] at q
      rw [List.getElem?_take, if_pos (by omega), List.getElem?_take, if_pos (by omega)] at q
      simpa using q
theorem InR.out {w x : World} {u v : Value} {P : List Nat} {V : List MvD} {n ga : Nat} {cur : Array Value} (h : InR w x u v P V n ga cur) : SpotR w x u v P V := ⟨h.own1, h.own2, h.below⟩
theorem takeMv_snoc (A : List MvD) (j : Nat) (h : j < A.length) : A.take (j + 1) = A.take j ++ [A.getD j mv0] := by
  rw [List.take_succ_eq_append_getElem h]
  simp [List.getD_eq_getElem?_getD, List.getElem?_eq_getElem h]
set_option maxRecDepth 100000 in
set_option maxHeartbeats 4000000 in
theorem Spots_any (base : Option Addr) (b o c : Nat) (t : NL) (w : World) (h : NodesAt w base b o t) :
    Calls Try.prog 22 #[.slice base t.length c] w fun e w' => ∃ u v, e = .returned (.tuple #[u, v, .int .i64 (rootR t).2]) ∧ SpotR w w' u v (if (rootR t).2 = 0 then spP t t.length else []) (if (rootR t).2 = 0 then spV t t.length else []) := by
  have HA : Hid (NodesAt w base b o t) := h
  have HR : Hid (∀ W, NodesAt W base b o t → Calls Try.prog 44 #[.slice base t.length c] W fun e w' => e = .returned (.tuple #[.int .i64 (rootR t).1, .int .i64 (rootR t).2]) ∧ Below W.heap.size W w') := fun W hW => Root_any base b o c t W hW
  clear h
  by_cases h1 : (rootR t).2 = 0
  · have HK : Hid (∀ (j : Nat) W, NodesAt W base b o t → Calls Try.prog 45 #[.slice base t.length c, .int .i64 (j : Int)] W fun e w' => e = .returned (.bool (ofK t (j : Int))) ∧ Below W.heap.size W w') := fun j W hW => isOfKeys_root base b o c t (j : Int) W hW h1
    have HV : Hid (∀ (j : Nat) W, NodesAt W base b o t → ofK t (j : Int) = true → Calls Try.prog 46 #[.slice base t.length c, .int .i64 (rootR t).1, .int .i64 (j : Int)] W fun e w' => ∃ v, e = .returned v ∧ MvRow W w' v (mvsA t (j : Int))) := fun j W hW h3 => movesAt_key base b o c t (j : Int) W hW h1 h3
    have d1 : ((rootR t).2 != 0) = false := by simp [h1]
    have HT : t.length ≤ 100000 := by
      obtain ⟨x0, l0, r0, s0, K0, cr⟩ := crn_of h1
      exact (formE_ok cr.form).1
    obtain ⟨i0, hi0, hz0, hz1, hz2⟩ := info_parts in_info
    obtain ⟨i1, hi1, hy0, hy1, hy2⟩ := info_parts mv_info
    rw [if_pos h1, if_pos h1, h1]
    clear h1
    generalize (rootR t).1 = rt at *
    generalize (rootR t).2 = re at *
    go_enter Try.func22, Try.ntmps22
    go_wp2_with fail
    refine (HR.out _ HA.out).mono ?_
    rintro e w1 ⟨rfl, hb⟩
    have B1 : Hid (Below w.heap.size w w1) := hb
    clear hb
    go_wp2_with fail
    go_loopw [7, 8, 22] (fun u v i wr => ∃ j : Nat, j ≤ t.length ∧ i = .int .i64 j ∧ SpotR w wr u v (spP t j) (spV t j)) (fun _ _ i _ => t.length - (intOf i).toNat)
    case atStart => exact ⟨0, Nat.zero_le _, rfl, SpotR.nil B1.out⟩
    case round =>
      obtain ⟨j, hj, rfl, hR⟩ := hrel
      have S0 : Hid (SpotR w wr u7 u8 (spP t j) (spV t j)) := hR
      obtain ⟨l1, l2⟩ := spP_len t j
      by_cases hlt : j < t.length
      · have jlt : (j : Int) < (t.length : Int) := by omega
        have j0 : (0 : Int) ≤ (j : Int) := Int.natCast_nonneg _
        cases h3 : ofK t (j : Int)
        · have FP : Hid (spP t (j + 1) = spP t j ∧ spV t (j + 1) = spV t j) := ⟨by simp [spP, h3], by simp [spV, h3]⟩
          clear hR
          go_wp2_with fail
          refine (HK.out j _ (HA.out.below S0.out.below)).mono ?_
          rintro e w2 ⟨rfl, hb⟩
          rw [h3]
          have S2 : Hid (SpotR w w2 u7 u8 (spP t j) (spV t j)) := S0.out.quiet hb
          clear hb
          go_wp2_with fail
          exact ⟨⟨j + 1, by omega, by go_num, by rw [FP.out.1, FP.out.2]; exact S2.out⟩, by simp [intOf]; omega⟩
        · have FP : Hid (spP t (j + 1) = spP t j ++ List.replicate (mvsA t (j : Int)).length j ∧ spV t (j + 1) = spV t j ++ mvsA t (j : Int)) := ⟨by simp [spP, h3], by simp [spV, h3]⟩
          have lA := mvsA_len t (j : Int)
          have HVj : Hid (∀ W, NodesAt W base b o t → Calls Try.prog 46 #[.slice base t.length c, .int .i64 rt, .int .i64 (j : Int)] W fun e w' => ∃ v, e = .returned v ∧ MvRow W w' v (mvsA t (j : Int))) := fun W hW => HV.out j W hW h3
          clear hR
          generalize mvsA t (j : Int) = A at *
          generalize spP t j = P at *
          generalize spV t j = V at *
          go_wp2_with fail
          refine (HK.out j _ (HA.out.below S0.out.below)).mono ?_
          rintro e w2 ⟨rfl, hb⟩
          rw [h3]
          have S2 : Hid (SpotR w w2 u7 u8 P V) := S0.out.quiet hb
          clear hb
          go_wp2_with fail
          refine (HVj.out _ (HA.out.below S2.out.below)).mono ?_
          rintro e w3 ⟨r3, rfl, hr3⟩
          obtain ⟨a3, c3, ga, cur, rfl, hin, ha3, hcur⟩ := S2.out.into hr3
          have S3 : Hid (InR w w3 u7 u8 P V A.length ga cur) := hin
          have HA3 : Hid (0 < A.length → a3 = some ⟨ga, 0, none⟩) := ha3
          have HCU : Hid (∀ j, j < A.length → cur[j * 2]? = some (.int .i64 (A.getD j mv0).1) ∧ cur[j * 2 + 1]? = some (.bool (A.getD j mv0).2)) := hcur
          clear hr3 hin ha3 hcur S0 S2 HVj HV h3
          go_wp2_with fail
          go_loopw [7, 8, 34] (fun u v i wr => ∃ k : Nat, k ≤ A.length ∧ i = .int .i64 k ∧ InR w wr u v (P ++ List.replicate k j) (V ++ A.take k) A.length ga cur) (fun _ _ i _ => A.length - (intOf i).toNat)
          case atStart => exact ⟨0, Nat.zero_le _, rfl, by simpa using S3.out⟩
          case round =>
            obtain ⟨k, hk, rfl, hI⟩ := hrel
            by_cases hkl : k < A.length
            · have e3 := HA3.out (by omega)
              subst e3
              obtain ⟨q0, q1⟩ := HCU.out k hkl
              have hrow := (hI.far (by omega)).1
              have r0 := (cell_of hrow (k * 2) _ q0).1
              have r1 := (cell_of hrow (k * 2 + 1) _ q1).1
              have lga : ga < wr.heap.size := (Array.getElem?_eq_some_iff.1 hrow).1
              have klt : (k : Int) < (A.length : Int) := by omega
              have k0 : (0 : Int) ≤ (k : Int) := Int.natCast_nonneg _
              have TS : Hid (A.take (k + 1) = A.take k ++ [A.getD k mv0]) := takeMv_snoc A k hkl
              have TR : Hid (List.replicate (k + 1) j = List.replicate k j ++ [j]) := List.replicate_succ'
              have lP : (P ++ List.replicate k j).length ≤ 3000000 := by simp; omega
              have lV : (V ++ A.take k).length ≤ 3000000 := by simp; omega
              have I0 : Hid (InR w wr u7 u8 (P ++ List.replicate k j) (V ++ A.take k) A.length ga cur) := hI
              clear hI hrow q0 q1 S3
              generalize A.getD k mv0 = m at *
              obtain ⟨mk, mm⟩ := m
              simp only at r0 r1
              generalize hP' : P ++ List.replicate k j = P' at *
              generalize hV' : V ++ A.take k = V' at *
              have FP' : Hid (P ++ List.replicate (k + 1) j = P' ++ [j]) := by show _ = _; rw [TR.out, ← List.append_assoc, hP']
              have FV' : Hid (V ++ A.take (k + 1) = V' ++ [(mk, mm)]) := by show _ = _; rw [TS.out, ← List.append_assoc, hV']
              clear hP' hV' TS TR
              have I1 : Hid (InR w (wr.alloc (.cells #[.int .i64 mk, .bool mm] 39)) u7 u8 P' V' A.length ga cur) := I0.out.quiet (below_alloc _ _)
              have zz : w.heap.size ≤ wr.heap.size := I0.out.below.size
              have K0 : Hid True := trivial
              go_wp2_with (first | (at_builtin; have hq := K0; (refine wpList_append_lies _ (by rfl) _ _ _ (by rfl) w.heap.size 3 i0 _ 1 8 ins_under hi0 hz0 hz1 hz2 rfl (by omega) _ P'.length _ (by rfl) (I1.out.own1.alloc _) ⟨wr.heap.size + 1, 0, none⟩ 1 1 [.int .i64 (j : Int)] (by rfl) (by rfl) (World.news_of_block (cs := #[.int .i64 (j : Int)]) (t := 3) (fr := (0, 0)) (heap_alloc_at _ _ _ (by simp))) (by simp [Value.oneCell']) (by omega) (by unfold maxLen; omega) (by omega) (by simp; omega) (wr.heap.size + 1 + 1) (by simp) ?_); intro g4 c4 w4 ho hg hat hl; have I4 : Hid (InR w w4 (.slice (some ⟨g4, 0, none⟩) (P'.length + 1) c4) u8 (P' ++ [j]) V' A.length ga cur) := I1.out.push1 (q := j) hg ho; have M4 : Hid (w4.heap[wr.heap.size]? = some (.cells #[.int .i64 mk, .bool mm] 39 (0, 0))) := (I0.out.box hg rfl).trans (heap_alloc_at _ _ _ rfl); have y0 := (cell_of M4.out 0 _ rfl).1; have y1 := (cell_of M4.out 1 _ rfl).1; have yl : wr.heap.size < w4.heap.size := (Array.getElem?_eq_some_iff.1 M4.out).1; clear ho hg hat hl hq K0) | (at_builtin; (refine wpList_append_lies _ (by rfl) _ _ _ (by rfl) w.heap.size 39 i1 _ 2 16 mvs_under hi1 hy0 hy1 hy2 rfl (by omega) _ V'.length _ (by rfl) (I4.out.own2.alloc _) ⟨w4.heap.size, 0, none⟩ 1 1 [.int .i64 mk, .bool mm] (by rfl) (by rfl) (World.news_of_block (cs := #[.int .i64 mk, .bool mm]) (t := 39) (fr := (0, 0)) (heap_alloc_at _ _ _ (by simp))) (by simp [Value.oneCell']) (by omega) (by unfold maxLen; omega) (by omega) (by simp; omega) (w4.heap.size + 1) (by simp) ?_); intro g6 c6 w6 ho hg hat hl; have I6 : Hid (InR w w6 (.slice (some ⟨g4, 0, none⟩) (P'.length + 1) c4) (.slice (some ⟨g6, 0, none⟩) (V'.length + 1) c6) (P' ++ [j]) (V' ++ [(mk, mm)]) A.length ga cur) := I4.out.push2 (q := (mk, mm)) hg hat (by omega) ho; clear ho hg hat hl))
              exact ⟨⟨k + 1, by omega, by go_num, by rw [FP'.out, FV'.out]; exact I6.out⟩, by simp [intOf]; omega⟩
            · have ek : Hid (k = A.length) := by show _ = _; omega
              have nk : ¬ ((k : Int) < (A.length : Int)) := by rw [ek.out]; omega
              have SF : Hid (SpotR w wr u7 u8 (spP t (j + 1)) (spV t (j + 1))) := by
                rw [FP.out.1, FP.out.2]
                have q := hI.out
                rw [ek.out, List.take_length] at q
                exact q
              clear hI S3
              go_wp2_with fail
              exact ⟨⟨j + 1, by omega, by go_num, SF.out⟩, by simp [intOf]; omega⟩
      · have ej : Hid (j = t.length) := by show _ = _; omega
        have nj : ¬ ((j : Int) < (t.length : Int)) := by rw [ej.out]; omega
        clear hR
        go_wp2_with fail
        go_ret3
        exact ⟨_, _, rfl, by rw [← ej.out]; exact S0.out⟩
  · have d1 : ((rootR t).2 != 0) = true := by simp [h1]
    rw [if_neg h1, if_neg h1]
    clear h1
    generalize (rootR t).1 = rt at *
    generalize (rootR t).2 = re at *
    go_enter Try.func22, Try.ntmps22
    go_wp2_with fail
    refine (HR.out _ HA.out).mono ?_
    rintro e w1 ⟨rfl, hb⟩
    have B1 : Hid (Below w.heap.size w w1) := hb
    clear hb
    go_wp2_with fail
    go_ret3
    exact ⟨_, _, rfl, SpotR.nil B1.out⟩
end Go.Proofs.Ythlhbajaogonnaa


/- Layer 16: the document's decimal. -/

import Derived.Test.YtegajbfefhljmaaDoorTXQ

namespace Go.Proofs.YtegajbfefhljmaaDoor

open Go.RowKit

attribute [local go_sem ↓] Go.wp_at_zero Go.wp_at_succ

/-- Bytes that are ours. -/
structure By (w0 w : World) (B : Nat) (v : Value) (V : List UInt8) : Prop where
  own : w.ownsRow B 5 1 v V.length (Lib.byteCells V)
  below : Below B w0 w
theorem By.grown {w0 w w' : World} {B : Nat} {v v' : Value} {V X : List UInt8} {o : Obj} (h : By w0 w B v V) (hB : B ≤ w.heap.size) (hg : (w.alloc o).grownBy w' v.ownBlock) (ho : w'.ownsRow B 5 1 v' (V.length + X.length) (Lib.byteCells V ++ Lib.byteCells X)) : By w0 w' B v' (V ++ X) :=
  ⟨by rw [List.length_append, byteCells_snoc]; exact ho, Below.grown (h.below.alloc hB o) hg (by rw [World.size_alloc]; omega) (fun k q => (owns_lt h.own k q).1)⟩
theorem By.grown0 {w0 w w' : World} {B : Nat} {v v' : Value} {V X : List UInt8} (h : By w0 w B v V) (hB : B ≤ w.heap.size) (hg : w.grownBy w' v.ownBlock) (ho : w'.ownsRow B 5 1 v' (V.length + X.length) (Lib.byteCells V ++ Lib.byteCells X)) : By w0 w' B v' (V ++ X) :=
  ⟨by rw [List.length_append, byteCells_snoc]; exact ho, Below.grown h.below hg hB (fun k q => (owns_lt h.own k q).1)⟩
theorem By.quiet {w0 w w' : World} {B : Nat} {v : Value} {V : List UInt8} (h : By w0 w B v V) (hB : B ≤ w.heap.size) (hb : Below w.heap.size w w') : By w0 w' B v V := ⟨owns_below h.own hb, h.below.trans (hb.mono hB)⟩
theorem By.size {w0 w : World} {B : Nat} {v : Value} {V : List UInt8} (h : By w0 w B v V) : w0.heap.size ≤ w.heap.size := h.below.size

/-- The digits, the last one first. -/
structure Dg (N m : Int) (V : List UInt8) : Prop where
  eq : Lib.decDigits N.natAbs = (if m = 0 then [] else Lib.decDigits m.natAbs) ++ V.reverse
  lo : -9223372036854775808 ≤ m
  hi : m ≤ 9223372036854775807
  len : V.length ≤ 21
theorem dec_len {N : Int} (h : In64 N) : (Lib.decDigits N.natAbs).length ≤ 21 := by
  have := itoa_le h
  unfold Lib.itoa at this
  split at this
  · simp at this; omega
  · rw [show N.natAbs = N.toNat by omega]; exact this
theorem Dg.step {N m : Int} {V : List UInt8} (h : Dg N m V) (hN : In64 N) (hm : m ≠ 0) : Dg N (m.tdiv 10) (V ++ [UInt8.ofNat (48 + m.natAbs % 10)]) := by
  have e : (m.tdiv 10).natAbs = m.natAbs / 10 := by rw [tdiv_eq_if]; split <;> omega
  have hq : Lib.decDigits m.natAbs = (if m.tdiv 10 = 0 then [] else Lib.decDigits (m.tdiv 10).natAbs) ++ [UInt8.ofNat (48 + m.natAbs % 10)] := by
    rw [Lib.decDigits]
    split
    · rename_i hlt
      rw [if_pos (by rw [tdiv_eq_if]; split <;> omega), show m.natAbs % 10 = m.natAbs by omega]
      rfl
    · rw [if_neg (by rw [tdiv_eq_if]; split <;> omega), e]
  have heq : Lib.decDigits N.natAbs = (if m.tdiv 10 = 0 then [] else Lib.decDigits (m.tdiv 10).natAbs) ++ (V ++ [UInt8.ofNat (48 + m.natAbs % 10)]).reverse := by
    rw [h.eq, if_neg hm, hq]
    simp
  have hl := h.lo
  have hh := h.hi
  refine ⟨heq, by rw [tdiv_eq_if]; split <;> omega, by rw [tdiv_eq_if]; split <;> omega, ?_⟩
  have := congrArg List.length heq
  have := dec_len hN
  simp at *
  omega
theorem u8cell (X : Nat) (h : X < 10) : Lib.byteCells [UInt8.ofNat (48 + X)] = [.int .u8 (48 + (X : Int))] := by
  simp only [Lib.byteCells, List.map_cons, List.map_nil, dig_toNat X h]
  rfl
theorem dig_cases (m : Int) : ∃ X : Nat, X < 10 ∧ X = m.natAbs % 10 ∧ ((m.tmod 10 = (X : Int)) ∨ (m.tmod 10 = -(X : Int) ∧ 0 < X)) := by
  refine ⟨m.natAbs % 10, by omega, rfl, ?_⟩
  rw [tmod_eq_if]
  split
  · left; omega
  · by_cases hz : m.natAbs % 10 = 0
    · left; omega
    · right; omega
set_option maxRecDepth 100000 in
set_option maxHeartbeats 4000000 in
theorem decimal_any (n : Int) (hn : In64 n) (w : World) :
    Calls Tryd.prog 22 #[.int .i64 n] w fun e w' => ∃ v, e = .returned v ∧ w'.ownsRow w.heap.size 5 1 v (Lib.itoa n).length (Lib.byteCells (Lib.itoa n)) ∧ Below w.heap.size w w' := by
  obtain ⟨i0, hi0, hz0, hz1, hz2⟩ := info_parts by_info
  obtain ⟨n0, n1⟩ := hn
  have HN : Hid (In64 n) := ⟨n0, n1⟩
  by_cases h0 : n = 0
  · subst h0
    go_enter Tryd.func22, Tryd.ntmps22
    go_wp2_with fail
    go_ret
    have e : Lib.itoa 0 = [48] := by unfold Lib.itoa; rw [if_neg (by decide)]; exact dec0
    rw [e]
    exact ⟨_, rfl, World.ownsRow_lit w #[.int .u8 48] 1 (Nat.le_refl _) (by unfold maxLen; omega) rfl, below_alloc _ _⟩
  · have z0 : (n == 0) = false := by simp [h0]
    have HZ : Hid (n ≠ 0) := h0
    clear h0
    by_cases hneg : n < 0
    · have g0 : n < 0 := hneg
      clear hneg
      go_enter Tryd.func22, Tryd.ntmps22
      go_wp2_with fail
      go_loopw [0, 4] (fun vn vb wr => ∃ (m : Int) (V : List UInt8), vn = .int .i64 m ∧ Dg n m V ∧ By w wr w.heap.size vb V) (fun vn _ _ => (intOf vn).natAbs)
      case atStart => exact ⟨n, [], rfl, ⟨by rw [if_neg HZ.out]; simp, n0, n1, by simp⟩, World.ownsRow_nil _ _ _ _, Below.refl _ _⟩
      case round =>
        obtain ⟨m, V, rfl, hD, hT0⟩ := hrel
        rename World => wq
        have HD : Hid (Dg n m V) := hD
        have T0 : Hid (By _ _ _ _ _) := hT0
        have m0 := hD.lo
        have m1 := hD.hi
        have ml := hD.len
        have hs0 := hT0.size
        clear hD hT0
        by_cases hm : m = 0
        · subst hm
          have HK : Hid ((V ++ [45]).reverse = Lib.itoa n) := by
            show (V ++ [45]).reverse = _
            have := HD.out.eq
            rw [if_pos rfl] at this
            unfold Lib.itoa
            rw [if_pos g0, this]
            simp
          go_wp2_with (first | (at_builtin; have q := T0; (refine wpList_append_lies _ (by rfl) _ _ _ (by rfl) w.heap.size 5 i0 _ 1 1 bys_under hi0 hz0 hz1 hz2 rfl (by omega) _ V.length _ (by rfl) (T0.out.own.alloc _) ⟨wq.heap.size, 0, none⟩ 1 1 [.int .u8 45] (by rfl) (by rfl) (World.news_of_block (cs := #[.int .u8 45]) (t := 5) (fr := (0, 0)) (heap_alloc_at _ _ _ (by simp))) (by simp [Value.oneCell']) (by omega) (by unfold maxLen; first | omega | (simp; omega)) (by first | omega | (simp; omega)) (by have := T0.out.size; simp; omega) (wq.heap.size + 1) (by simp) ?_); intro g4 p4 x4 ho hg hat hl; have T4 : Hid _ := T0.out.grown (X := [45]) T0.out.size hg (by first | exact ho | (simpa [Lib.byteCells] using ho)); have hz4' := T4.out.size; clear ho hg hat hl q))
          obtain ⟨K, hKe⟩ : ∃ K, K = V ++ [45] := ⟨_, rfl⟩
          rw [← hKe] at HK T4
          have KP : 0 < K.length := by rw [hKe]; simp
          have KL : K.length ≤ 22 := by rw [hKe]; simp; omega
          have hKl : V.length + 1 = K.length := by rw [hKe]; simp
          clear hKe
          rw [hKl] at T4 ⊢
          have HKl : Hid _ := hKl
          clear hKl
          go_wp2_with fail
          go_loopw [6, 7] (fun vo vi wr => ∃ j : Nat, j ≤ K.length ∧ vi = .int .i64 ((K.length : Int) - 1 - j) ∧ By x4 wr x4.heap.size vo (K.reverse.take j)) (fun _ vi _ => (intOf vi + 1).toNat)
          case atStart => exact ⟨0, Nat.zero_le _, by have := HKl.out; go_num, World.ownsRow_nil _ _ _ _, Below.refl _ _⟩
          case round =>
            obtain ⟨j, hj, rfl, hT⟩ := hrel
            have TO : Hid (By _ _ _ _ _) := hT
            have hs2 := hT.size
            clear hT
            by_cases hjk : j < K.length
            · obtain ⟨k, hk⟩ : ∃ k : Nat, K.length = j + 1 + k := ⟨K.length - 1 - j, by omega⟩
              have hki : ((K.length : Int) - 1 - j) = (k : Int) := by omega
              rw [hki]
              have k0 : (0 : Int) ≤ (k : Int) := Int.natCast_nonneg _
              have k1 : (k : Int) < (K.length : Int) := by omega
              have hkl : k < K.length := by omega
              have hc : wr.cell? ⟨g4, k, none⟩ = some (.int .u8 ((K.getD k 0).toNat : Int)) := by
                have h1 := (owns_below T4.out.own TO.out.below).cellAt k (by simpa using hkl)
                rw [h1]
                simp [Lib.byteCells, List.getD_eq_getElem?_getD, hkl]
              have HTK : Hid (K.reverse.take (j + 1) = K.reverse.take j ++ [K.getD k 0]) := by
                show K.reverse.take (j + 1) = _
                rw [List.take_add_one, List.getElem?_reverse (by omega), show K.length - 1 - j = k by omega, List.getElem?_eq_getElem hkl, List.getD_eq_getElem?_getD, List.getElem?_eq_getElem hkl]
                rfl
              have HLN : Hid ((K.reverse.take j).length = j) := by show (K.reverse.take j).length = j; simp; omega
              have HKJ : Hid (K.length = j + 1 + k) := hk
              clear hk hki hjk hkl
              generalize hXg : K.getD k 0 = xb at *
              clear hXg
              generalize hYg : K.reverse.take j = Y at *
              clear hYg
              have hy : Y.length ≤ 22 := by have := HLN.out; omega
              have hxb := xb.toNat_lt
              go_wp2_with (first | (at_builtin; have q := TO; (refine wpList_append_lies _ (by rfl) _ _ _ (by rfl) x4.heap.size 5 i0 _ 1 1 bys_under hi0 hz0 hz1 hz2 rfl (by omega) _ Y.length _ (by rfl) (TO.out.own.alloc _) ⟨wr.heap.size, 0, none⟩ 1 1 [.int .u8 (xb.toNat : Int)] (by rfl) (by rfl) (World.news_of_block (cs := #[.int .u8 (xb.toNat : Int)]) (t := 5) (fr := (0, 0)) (heap_alloc_at _ _ _ (by simp))) (by simp [Value.oneCell']) (by omega) (by unfold maxLen; first | omega | (simp; omega)) (by first | omega | (simp; omega)) (by have := TO.out.size; simp; omega) (wr.heap.size + 1) (by simp) ?_); intro g5 p5 x5 ho hg hat hl; have T5 : Hid _ := TO.out.grown (X := [xb]) TO.out.size hg (by first | exact ho | (simpa [Lib.byteCells] using ho)); have hz5' := T5.out.size; clear ho hg hat hl q))
              refine ⟨⟨j + 1, by have := HKJ.out; omega, by have := HKJ.out; go_num, by rw [HTK.out]; exact T5.out⟩, ?_⟩
              simp [intOf]
            · obtain rfl : j = K.length := by omega
              have hki : ((K.length : Int) - 1 - K.length) = -1 := by omega
              rw [hki]
              go_wp2_with fail
              go_ret
              have e : K.reverse.take K.length = Lib.itoa n := by rw [List.take_of_length_le (by simp)]; exact HK.out
              have h1 := TO.out.own
              rw [e] at h1
              exact ⟨_, rfl, owns_down h1 T4.out.size, T4.out.below.trans (TO.out.below.mono T4.out.size)⟩
        · have z1 : (m == 0) = false := by simp [hm]
          have HM : Hid (m ≠ 0) := hm
          have hq0 : -9223372036854775808 ≤ m.tdiv 10 := by rw [tdiv_eq_if]; split <;> omega
          have hq1 : m.tdiv 10 ≤ 9223372036854775807 := by rw [tdiv_eq_if]; split <;> omega
          have HQ : Hid ((m.tdiv 10).natAbs < m.natAbs) := by show (m.tdiv 10).natAbs < m.natAbs; rw [tdiv_eq_if]; split <;> omega
          obtain ⟨X, x1, hX, hx | ⟨hx, hx2⟩⟩ := dig_cases m
          all_goals
            have HX : Hid (X = m.natAbs % 10) := hX
            have HU : Hid _ := u8cell X x1
            have x0 : (0 : Int) ≤ (X : Int) := Int.natCast_nonneg _
            have x2 : (X : Int) < 10 := by omega
            clear hX hm
            try (have x3 : -(X : Int) < 0 := by omega)
            go_wp2_with (first | (at_builtin; have q := T0; (refine wpList_append_lies _ (by rfl) _ _ _ (by rfl) w.heap.size 5 i0 _ 1 1 bys_under hi0 hz0 hz1 hz2 rfl (by omega) _ V.length _ (by rfl) (T0.out.own.alloc _) ⟨wq.heap.size, 0, none⟩ 1 1 [.int .u8 (48 + (X : Int))] (by rfl) (by rfl) (World.news_of_block (cs := #[.int .u8 (48 + (X : Int))]) (t := 5) (fr := (0, 0)) (heap_alloc_at _ _ _ (by simp))) (by simp [Value.oneCell']) (by omega) (by unfold maxLen; first | omega | (simp; omega)) (by first | omega | (simp; omega)) (by have := T0.out.size; simp; omega) (wq.heap.size + 1) (by simp) ?_); intro g4 p4 x4 ho hg hat hl; have T4 : Hid _ := T0.out.grown (X := [UInt8.ofNat (48 + X)]) T0.out.size hg (by rw [HU.out]; exact ho); have hz4' := T4.out.size; clear ho hg hat hl q))
            refine ⟨⟨m.tdiv 10, V ++ [UInt8.ofNat (48 + X)], rfl, ?_, T4.out⟩, ?_⟩
            · have := HD.out.step HN.out HM.out
              rw [← HX.out] at this
              exact this
            · show (m.tdiv 10).natAbs < m.natAbs
              exact HQ.out
    · have g0 : (0 : Int) ≤ n := by omega
      clear hneg
      go_enter Tryd.func22, Tryd.ntmps22
      go_wp2_with fail
      go_loopw [0, 4] (fun vn vb wr => ∃ (m : Int) (V : List UInt8), vn = .int .i64 m ∧ Dg n m V ∧ By w wr w.heap.size vb V) (fun vn _ _ => (intOf vn).natAbs)
      case atStart => exact ⟨n, [], rfl, ⟨by rw [if_neg HZ.out]; simp, n0, n1, by simp⟩, World.ownsRow_nil _ _ _ _, Below.refl _ _⟩
      case round =>
        obtain ⟨m, V, rfl, hD, hT0⟩ := hrel
        rename World => wq
        have HD : Hid (Dg n m V) := hD
        have T0 : Hid (By _ _ _ _ _) := hT0
        have m0 := hD.lo
        have m1 := hD.hi
        have ml := hD.len
        have hs0 := hT0.size
        clear hD hT0
        by_cases hm : m = 0
        · subst hm
          have HK : Hid (V.reverse = Lib.itoa n) := by
            show V.reverse = _
            have := HD.out.eq
            rw [if_pos rfl] at this
            unfold Lib.itoa
            rw [if_neg (by omega), show n.toNat = n.natAbs by omega, this]
            simp
          have KP : 0 < V.length := by
            have h1 := congrArg List.length HK.out
            have h2 := itoa_first n
            obtain ⟨c, y, h3, -⟩ := h2
            rw [h3] at h1
            simp at h1
            omega
          obtain ⟨gb, cb, rfl, hgb, hgl, -, -, -, -⟩ := owns_some T0.out.own KP
          go_wp2_with fail
          go_loopw [6, 7] (fun vo vi wr => ∃ j : Nat, j ≤ V.length ∧ vi = .int .i64 ((V.length : Int) - 1 - j) ∧ By wq wr wq.heap.size vo (V.reverse.take j)) (fun _ vi _ => (intOf vi + 1).toNat)
          case atStart => exact ⟨0, Nat.zero_le _, by go_num, World.ownsRow_nil _ _ _ _, Below.refl _ _⟩
          case round =>
            obtain ⟨j, hj, rfl, hT⟩ := hrel
            have TO : Hid (By _ _ _ _ _) := hT
            have hs2 := hT.size
            clear hT
            by_cases hjk : j < V.length
            · obtain ⟨k, hk⟩ : ∃ k : Nat, V.length = j + 1 + k := ⟨V.length - 1 - j, by omega⟩
              have hki : ((V.length : Int) - 1 - j) = (k : Int) := by omega
              rw [hki]
              have k0 : (0 : Int) ≤ (k : Int) := Int.natCast_nonneg _
              have k1 : (k : Int) < (V.length : Int) := by omega
              have hkl : k < V.length := by omega
              have hc : wr.cell? ⟨gb, k, none⟩ = some (.int .u8 ((V.getD k 0).toNat : Int)) := by
                have h1 := (owns_below T0.out.own TO.out.below).cellAt k (by simpa using hkl)
                rw [h1]
                simp [Lib.byteCells, List.getD_eq_getElem?_getD, hkl]
              have HTK : Hid (V.reverse.take (j + 1) = V.reverse.take j ++ [V.getD k 0]) := by
                show V.reverse.take (j + 1) = _
                rw [List.take_add_one, List.getElem?_reverse (by omega), show V.length - 1 - j = k by omega, List.getElem?_eq_getElem hkl, List.getD_eq_getElem?_getD, List.getElem?_eq_getElem hkl]
                rfl
              have HLN : Hid ((V.reverse.take j).length = j) := by show (V.reverse.take j).length = j; simp; omega
              have HKJ : Hid (V.length = j + 1 + k) := hk
              clear hk hki hjk hkl
              generalize hXg : V.getD k 0 = xb at *
              clear hXg
              generalize hYg : V.reverse.take j = Y at *
              clear hYg
              have hy : Y.length ≤ 22 := by have := HLN.out; omega
              have hxb := xb.toNat_lt
              go_wp2_with (first | (at_builtin; have q := TO; (refine wpList_append_lies _ (by rfl) _ _ _ (by rfl) wq.heap.size 5 i0 _ 1 1 bys_under hi0 hz0 hz1 hz2 rfl (by omega) _ Y.length _ (by rfl) (TO.out.own.alloc _) ⟨wr.heap.size, 0, none⟩ 1 1 [.int .u8 (xb.toNat : Int)] (by rfl) (by rfl) (World.news_of_block (cs := #[.int .u8 (xb.toNat : Int)]) (t := 5) (fr := (0, 0)) (heap_alloc_at _ _ _ (by simp))) (by simp [Value.oneCell']) (by omega) (by unfold maxLen; first | omega | (simp; omega)) (by first | omega | (simp; omega)) (by have := TO.out.size; simp; omega) (wr.heap.size + 1) (by simp) ?_); intro g5 p5 x5 ho hg hat hl; have T5 : Hid _ := TO.out.grown (X := [xb]) TO.out.size hg (by first | exact ho | (simpa [Lib.byteCells] using ho)); have hz5' := T5.out.size; clear ho hg hat hl q))
              refine ⟨⟨j + 1, by have := HKJ.out; omega, by have := HKJ.out; go_num, by rw [HTK.out]; exact T5.out⟩, ?_⟩
              simp [intOf]
            · obtain rfl : j = V.length := by omega
              have hki : ((V.length : Int) - 1 - V.length) = -1 := by omega
              rw [hki]
              go_wp2_with fail
              go_ret
              have e : V.reverse.take V.length = Lib.itoa n := by rw [List.take_of_length_le (by simp)]; exact HK.out
              have h1 := TO.out.own
              rw [e] at h1
              exact ⟨_, rfl, owns_down h1 T0.out.size, T0.out.below.trans (TO.out.below.mono T0.out.size)⟩
        · have z1 : (m == 0) = false := by simp [hm]
          have HM : Hid (m ≠ 0) := hm
          have hq0 : -9223372036854775808 ≤ m.tdiv 10 := by rw [tdiv_eq_if]; split <;> omega
          have hq1 : m.tdiv 10 ≤ 9223372036854775807 := by rw [tdiv_eq_if]; split <;> omega
          have HQ : Hid ((m.tdiv 10).natAbs < m.natAbs) := by show (m.tdiv 10).natAbs < m.natAbs; rw [tdiv_eq_if]; split <;> omega
          obtain ⟨X, x1, hX, hx | ⟨hx, hx2⟩⟩ := dig_cases m
          all_goals
            have HX : Hid (X = m.natAbs % 10) := hX
            have HU : Hid _ := u8cell X x1
            have x0 : (0 : Int) ≤ (X : Int) := Int.natCast_nonneg _
            have x2 : (X : Int) < 10 := by omega
            clear hX hm
            try (have x3 : -(X : Int) < 0 := by omega)
            go_wp2_with (first | (at_builtin; have q := T0; (refine wpList_append_lies _ (by rfl) _ _ _ (by rfl) w.heap.size 5 i0 _ 1 1 bys_under hi0 hz0 hz1 hz2 rfl (by omega) _ V.length _ (by rfl) (T0.out.own.alloc _) ⟨wq.heap.size, 0, none⟩ 1 1 [.int .u8 (48 + (X : Int))] (by rfl) (by rfl) (World.news_of_block (cs := #[.int .u8 (48 + (X : Int))]) (t := 5) (fr := (0, 0)) (heap_alloc_at _ _ _ (by simp))) (by simp [Value.oneCell']) (by omega) (by unfold maxLen; first | omega | (simp; omega)) (by first | omega | (simp; omega)) (by have := T0.out.size; simp; omega) (wq.heap.size + 1) (by simp) ?_); intro g4 p4 x4 ho hg hat hl; have T4 : Hid _ := T0.out.grown (X := [UInt8.ofNat (48 + X)]) T0.out.size hg (by rw [HU.out]; exact ho); have hz4' := T4.out.size; clear ho hg hat hl q))
            refine ⟨⟨m.tdiv 10, V ++ [UInt8.ofNat (48 + X)], rfl, ?_, T4.out⟩, ?_⟩
            · have := HD.out.step HN.out HM.out
              rw [← HX.out] at this
              exact this
            · show (m.tdiv 10).natAbs < m.natAbs
              exact HQ.out
end Go.Proofs.YtegajbfefhljmaaDoor

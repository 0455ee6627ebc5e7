
/- Layer 16: Pairs of both; lists of pairs held against one another. -/

import Derived.Test.YtkioahkfjgbgdaaDoorTLeav2

import Derived.Deep.RegionHeld3

namespace Go.Proofs.YtkioahkfjgbgdaaDoor

open Go.RowKit

attribute [local go_sem ↓] Go.wp_at_zero Go.wp_at_succ

theorem pr_info : (Tryd.prog.info? 42).map (fun i => (i.zero, i.size, i.bytes)) = some (some (.agg #[.int .i64 0, .int .i64 0]), 2, 16) := by kernel_rfl
theorem prs_under : Tryd.prog.underlying 32 = some (.slice 42) := by kernel_rfl
theorem pr_neq (a0 a1 b0 b1 : Int) (w : World) : (binOp .neq 42 (.agg #[.int .i64 a0, .int .i64 a1]) (.agg #[.int .i64 b0, .int .i64 b1])).run Tryd.prog w = .ok (.bool (!(decide (a0 = b0) && decide (a1 = b1)))) w := by
  have u3 := Tryd.underlying3
  have a3' := Tryd.isAgg3
  have z3 := Tryd.sizeOf3
  have hS : Tryd.prog.underlying 42 = some (.struct (Tryd.prog.fieldsOf 42)) := by kernel_rfl
  have hp : Tryd.prog.stoodInHeld 42 = false := by kernel_rfl
  rw [run_neq_struct, show (10000 : Nat) = 9999 + 1 from rfl, run_equalIn_agg w 9999 42 _ _ hS hp]
  simp only [Program.fieldsOf, Tryd.underlying42]
  go_simp
  by_cases h1 : a0 = b0 <;> by_cases h2 : a1 = b1 <;> simp [h1, h2]
def prEq (a b : PL) : Bool := decide (a = b)
theorem pr_ext {a b : PL} (hl : a.length = b.length) (h : ∀ i, i < a.length → keyAt a i = keyAt b i ∧ valAt a i = valAt b i) : a = b := by
  apply List.ext_getElem hl
  intro i h1 h2
  have := h i h1
  simp only [keyAt, valAt, List.getD_eq_getElem?_getD, List.getElem?_eq_getElem h1, List.getElem?_eq_getElem h2, Option.getD_some] at this
  exact Prod.ext this.1 this.2

/-- The pairs of places. -/
def prL (t : NL) : List Nat → PL
  | [] => []
  | x :: L => if (ndAt t x).inf = 0 then ((ndAt t x).key, (ndAt t x).val) :: prL t L else prL t L
theorem pr_snoc (t : NL) (x : Nat) : ∀ L, prL t (L ++ [x]) = if (ndAt t x).inf = 0 then prL t L ++ [((ndAt t x).key, (ndAt t x).val)] else prL t L
  | [] => by by_cases h : (ndAt t x).inf = 0 <;> simp [prL, h]
  | y :: L => by
    have ih := pr_snoc t x L
    by_cases h : (ndAt t x).inf = 0
    · rw [if_pos h] at ih ⊢
      by_cases h' : (ndAt t y).inf = 0 <;> simp [prL, h', ih]
    · rw [if_neg h] at ih ⊢
      by_cases h' : (ndAt t y).inf = 0 <;> simp [prL, h', ih]
theorem pr_len (t : NL) : ∀ L, (prL t L).length ≤ L.length
  | [] => by simp [prL]
  | x :: L => by
    have := pr_len t L
    unfold prL
    by_cases h : (ndAt t x).inf = 0
    · rw [if_pos h]; simp; omega
    · rw [if_neg h]; simp; omega
theorem leafL_in {t : NL} (he : formE t = 0) (hf : InForm t) : ∀ j, j < (leafL t).length → (leafL t).getD j 0 < t.length := by
  obtain ⟨hT, -, -⟩ := theL_form hf
  intro j hj
  have hm : (leafL t).getD j 0 ∈ leafL t := by rw [List.getD_eq_getElem?_getD, List.getElem?_eq_getElem hj]; exact List.getElem_mem hj
  have F : leafL t = lvL t (theL t 0) := by unfold leafL; rw [if_pos he]
  rw [F] at hm ⊢
  exact hT.all _ (List.mem_filter.1 hm).1
theorem leafL_len {t : NL} (he : formE t = 0) (hf : InForm t) : (leafL t).length ≤ t.length := by
  obtain ⟨-, -, hl⟩ := theL_form hf
  have F : leafL t = lvL t (theL t 0) := by unfold leafL; rw [if_pos he]
  rw [F, ← hl]
  exact lv_len _ _
open Classical in
/-- Pairs' answer. -/
noncomputable def pairL (t : NL) : PL := if formE t = 0 then prL t (leafL t) else []
/-- A row of pairs that is ours. -/
structure PRow (w0 x : World) (v : Value) (V : PL) : Prop where
  own : x.ownsRow w0.heap.size 42 2 v V.length (pairCells V)
  below : Below w0.heap.size w0 x
theorem PRow.size {w0 x : World} {v : Value} {V : PL} (h : PRow w0 x v V) : w0.heap.size ≤ x.heap.size := h.below.size
theorem PRow.quiet {w0 x y : World} {v : Value} {V : PL} (h : PRow w0 x v V) (hb : Below x.heap.size x y) : PRow w0 y v V := ⟨owns_below h.own hb, h.below.trans (hb.mono h.size)⟩
theorem PRow.alloc {w0 x : World} {v : Value} {V : PL} (h : PRow w0 x v V) (o : Obj) : PRow w0 (x.alloc o) v V := h.quiet (below_alloc _ _)
theorem PRow.grown {w0 x y : World} {v v' : Value} {V : PL} {k u : Int} {o : Obj} (h : PRow w0 x v V) (hg : (x.alloc o).grownBy y v.ownBlock) (ho : y.ownsRow w0.heap.size 42 2 v' (V.length + 1) (pairCells V ++ [.int .i64 k, .int .i64 u])) : PRow w0 y v' (V ++ [(k, u)]) :=
  ⟨by rw [List.length_append, pairCells_append]; exact ho, Below.grown (h.below.alloc h.size o) hg (by rw [World.size_alloc]; have := h.size; omega) (fun k q => (owns_lt h.own k q).1)⟩

set_option maxRecDepth 100000 in
set_option maxHeartbeats 2000000 in
theorem Pairs_any (base : Option Addr) (b o c : Nat) (t : NL) (w : World) (h : NodesAt w base b o t) :
    Calls Tryd.prog 10 #[.slice base t.length c] w fun e w' => ∃ v, e = .returned (.tuple #[v, .int .i64 (formE t)]) ∧ w'.ownsRow w.heap.size 42 2 v (pairL t).length (pairCells (pairL t)) ∧ Below w.heap.size w w' := by
  have HA : Hid _ := h
  clear h
  by_cases he : formE t = 0
  · obtain ⟨hbig, hf⟩ := formE_ok he
    have F : Hid (pairL t = prL t (leafL t)) := by show pairL t = _; unfold pairL; rw [if_pos he]
    have FL : Hid (leafL t = lvL t (theL t 0)) := by show leafL t = _; unfold leafL; rw [if_pos he]
    have HE : Hid _ := he
    have HF : Hid _ := hf
    have HIN : Hid _ := leafL_in he hf
    have hl1 := leafL_len he hf
    have hpos := hf.pos
    obtain ⟨e1, e2⟩ := e_eq he
    obtain rfl : base = some ⟨b, o, none⟩ := HA.out.base (by omega)
    have hbl := HA.out.lt (by omega)
    clear he hf
    obtain ⟨i0, hi0, hz0, hz1, hz2⟩ := info_parts pr_info
    have HLV : Hid (∀ W, NodesAt W (some ⟨b, o, none⟩) b o t → Calls Tryd.prog 28 #[.slice (some ⟨b, o, none⟩) t.length c] W fun e w' => ∃ a cap g, e = .returned (.slice a (leafL t).length cap) ∧ PlsAt w' a g (leafL t) ∧ Below W.heap.size W w') := fun W hW => by rw [FL.out]; exact leaves_any _ b o c t W hW HF.out hbig
    clear FL
    generalize leafL t = X at F HIN hl1 HLV
    go_enter Tryd.func10, Tryd.ntmps10
    go_wp2_with (first | (go_at_call 23; refine (check_any _ b o c t _ HA.out).mono ?_; rintro e w1 ⟨rfl, hb1⟩; have HB1 : Hid _ := hb1; have hw1 := hb1.size; clear hb1) | (go_at_call 28; refine (HLV.out _ (HA.out.below HB1.out)).mono ?_; rintro e w3 ⟨a, cr, gr, rfl, hp, hb3⟩; have HB3 : Hid (Below _ _ _) := hb3; have HP : Hid _ := hp; have hw3 := hb3.size; clear hp hb3))
    go_loopw [5, 17] (fun v i wr => ∃ j : Nat, j ≤ X.length ∧ i = .int .i64 j ∧ PRow w3 wr v (prL t (X.take j))) (fun _ i _ => X.length - (intOf i).toNat)
    case atStart => exact ⟨0, Nat.zero_le _, rfl, World.ownsRow_nil _ _ _ _, Below.refl _ _⟩
    case round =>
      obtain ⟨j, hj, rfl, hI⟩ := hrel
      have hbw := hI.below
      have HW : Hid (Below w.heap.size w wr) := HB1.out.trans ((HB3.out.trans (hbw.mono hw3)).mono HB1.out.size)
      have hwz := hbw.size
      have T0 : Hid _ := hI
      by_cases hlt : j < X.length
      · obtain rfl : a = some ⟨gr, 0, none⟩ := HP.out.base (by omega)
        have hgr2 : gr < wr.heap.size := by have := HP.out.lt (by omega); omega
        have r1 := (HP.out.below hbw).cells j hlt
        have hbr : b < wr.heap.size := by omega
        have hvl := Nat.le_trans (pr_len t (X.take j)) (List.length_take_le j X)
        have HN : Hid (prL t (X.take (j + 1)) = if (ndAt t (X.getD j 0)).inf = 0 then prL t (X.take j) ++ [((ndAt t (X.getD j 0)).key, (ndAt t (X.getD j 0)).val)] else prL t (X.take j)) := by show _ = _; rw [take_snocL hlt, pr_snoc]
        have hxl := HIN.out j hlt
        have HC : Hid _ := (HA.out.below HW.out).cells _ hxl
        have j0 : (0 : Int) ≤ (j : Int) := Int.natCast_nonneg _
        have j1 : (j : Int) < (X.length : Int) := by omega
        clear hbw hI
        generalize X.getD j 0 = y at r1 HN hxl HC
        have s0 : (0 : Int) ≤ (y : Int) := Int.natCast_nonneg _
        have s1 : (y : Int) < (t.length : Int) := by omega
        generalize hVV : prL t (X.take j) = V at T0 HN hvl
        clear hVV
        generalize ndAt t y = nd at HC HN
        obtain ⟨k0, k1, k2, k3, k4, k5⟩ := nd
        simp only at HC HN
        obtain ⟨c0, c1, c2, c3, c4, c5⟩ := HC.out
        by_cases hq : k1 = 0
        · have d1 : (k1 == 0) = true := by simp [hq]
          have HN' : Hid (prL t (X.take (j + 1)) = V ++ [(k0, k3)]) := by show _ = _; rw [HN.out, if_pos hq]
          clear hq
          go_wp2_with (first | (at_builtin; have hq := T0; (refine wpList_append_lies _ (by rfl) _ _ _ (by rfl) w3.heap.size 42 i0 _ 2 16 prs_under hi0 hz0 hz1 hz2 rfl (by omega) _ V.length _ (by rfl) ((T0.out.own.alloc _).alloc _) ⟨wr.heap.size + 1, 0, none⟩ 1 1 [.int .i64 k0, .int .i64 k3] (by rfl) (by rfl) (World.news_of_block (cs := #[.int .i64 k0, .int .i64 k3]) (t := 42) (fr := (0, 0)) (heap_alloc_at _ _ _ (by simp))) (by simp [Value.oneCell']) (by omega) (by unfold maxLen; omega) (by omega) (by have := T0.out.size; simp; omega) (wr.heap.size + 1 + 1) (by simp) ?_); intro g6 c6 w6 ho hg hat hl; have T6 : Hid _ := (T0.out.alloc _).grown (k := k0) (u := k3) hg ho; clear ho hg hat hl hq))
          exact ⟨⟨j + 1, by omega, by go_num, by rw [HN'.out]; exact T6.out⟩, by simp [intOf]; omega⟩
        · have d1 : (k1 == 0) = false := by simp [hq]
          have HN' : Hid (prL t (X.take (j + 1)) = V) := by show _ = _; rw [HN.out, if_neg hq]
          clear hq
          go_wp2_with fail
          exact ⟨⟨j + 1, by omega, by go_num, by rw [HN'.out]; exact T0.out.alloc _⟩, by simp [intOf]; omega⟩
      · obtain rfl : j = X.length := by omega
        rw [List.take_length] at hI
        have HI : Hid _ := hI
        clear hbw hI
        go_wp2_with fail
        go_ret2
        refine ⟨_, by rw [HE.out]; rfl, ?_, HW.out⟩
        rw [F.out]
        exact owns_down HI.out.own (by omega)
  · have F : Hid (pairL t = []) := by show pairL t = _; unfold pairL; rw [if_neg he]
    obtain ⟨e1, e2⟩ := e_ne he
    clear he
    go_enter Tryd.func10, Tryd.ntmps10
    go_wp2_with (first | (go_at_call 23; refine (check_any _ b o c t _ HA.out).mono ?_; rintro e w1 ⟨rfl, hb1⟩; have HB1 : Hid _ := hb1; clear hb1))
    go_ret2
    exact ⟨_, rfl, by rw [F.out]; exact World.ownsRow_nil _ _ _ _, HB1.out⟩

end Go.Proofs.YtkioahkfjgbgdaaDoor

/- Layer 16: Pairs of both; lists of pairs held against one another. -/
import Derived.Test.YtjekmkfpakdkeaaDoorTLeav2
import Derived.Deep.RegionHeld3
namespace Go.Proofs.YtjekmkfpakdkeaaDoor
open Go.RowKit
attribute [local go_sem ↓] Go.wp_at_zero Go.wp_at_succ

theorem pr_info : (Tryd.prog.info? 56).map (fun i => (i.zero, i.size, i.bytes)) = some (some (.agg #[.int .i64 0, .int .i64 0]), 2, 16) := by kernel_rfl
theorem prs_under : Tryd.prog.underlying 35 = some (.slice 56) := by kernel_rfl
theorem pr_neq (a0 a1 b0 b1 : Int) (w : World) : (binOp .neq 56 (.agg #[.int .i64 a0, .int .i64 a1]) (.agg #[.int .i64 b0, .int .i64 b1])).run Tryd.prog w = .ok (.bool (!(decide (a0 = b0) && decide (a1 = b1)))) w := by
  have u3 := Tryd.underlying3
  have a3' := Tryd.isAgg3
  have z3 := Tryd.sizeOf3
  have hS : Tryd.prog.underlying 56 = some (.struct (Tryd.prog.fieldsOf 56)) := by kernel_rfl
  have hp : Tryd.prog.stoodInHeld 56 = false := by kernel_rfl
  rw [run_neq_struct, show (10000 : Nat) = 9999 + 1 from rfl, run_equalIn_agg w 9999 56 _ _ hS hp]
  simp only [Program.fieldsOf, Tryd.underlying56]
  go_simp
  by_cases h1 : a0 = b0 <;> by_cases h2 : a1 = b1 <;> simp [h1, h2]
def prEq (a b : PL) : Bool := decide (a = b)
theorem pr_ext {a b : PL} (hl : a.length = b.length) (h : ∀ i, i < a.length → keyAt a i = keyAt b i ∧ valAt a i = valAt b i) : a = b := by
  apply List.ext_getElem hl
  intro i h1 h2
  have := h i h1
  simp only [keyAt, valAt, List.getD_eq_getElem?_getD, List.getElem?_eq_getElem h1, List.getElem?_eq_getElem h2, Option.getD_some] at this
  exact Prod.ext this.1 this.2

set_option maxRecDepth 100000 in
set_option maxHeartbeats 1000000 in
theorem pairs_any (ba bb : Option Addr) (ga oa ca gb ob cb : Nat) (a b : PL) (w : World) (ha : PairsAt w ba ga oa a) (hb : PairsAt w bb gb ob b) :
    Calls Tryd.prog 25 #[.slice ba a.length ca, .slice bb b.length cb] w fun e w' => e = .returned (.bool (prEq a b)) ∧ Below w.heap.size w w' := by
  have la := ha.len
  have lb := hb.len
  unfold maxLen at la lb
  have HA : Hid _ := ha
  have HB : Hid _ := hb
  clear ha hb
  have hpn := pr_neq
  by_cases hl : a.length = b.length
  · have hd : ((a.length : Int) != (b.length : Int)) = false := by simp [hl]
    have HL : Hid _ := hl
    clear hl
    go_enter Tryd.func25, Tryd.ntmps25
    go_wp2_with fail
    go_loopw [5] (fun i wr => ∃ j : Nat, j ≤ a.length ∧ i = .int .i64 j ∧ (∀ k, k < j → keyAt a k = keyAt b k ∧ valAt a k = valAt b k) ∧ Below w.heap.size w wr) (fun i _ => a.length - (intOf i).toNat)
    case atStart => exact ⟨0, Nat.zero_le _, rfl, fun k hk => by omega, Below.refl _ _⟩
    case round =>
      obtain ⟨j, hj, rfl, hall, hbw⟩ := hrel
      have HAL : Hid _ := hall
      clear hall
      by_cases hlt : j < a.length
      · have hlb : j < b.length := by have := HL.out; omega
        obtain rfl : ba = some ⟨ga, oa, none⟩ := HA.out.base (by omega)
        obtain rfl : bb = some ⟨gb, ob, none⟩ := HB.out.base (by omega)
        obtain ⟨c0, c1⟩ := (HA.out.below hbw).cells j hlt
        obtain ⟨d0, d1⟩ := (HB.out.below hbw).cells j hlb
        have j0 : (0 : Int) ≤ (j : Int) := Int.natCast_nonneg _
        have j1 : (j : Int) < (a.length : Int) := by omega
        have j2 : (j : Int) < (b.length : Int) := by omega
        by_cases hq : keyAt a j = keyAt b j ∧ valAt a j = valAt b j
        · have HQ : Hid _ := hq
          have hx : (decide (keyAt a j = keyAt b j) && decide (valAt a j = valAt b j)) = true := by simp [hq.1, hq.2]
          clear hq
          generalize keyAt a j = x0 at c0 hx
          generalize valAt a j = x1 at c1 hx
          generalize keyAt b j = y0 at d0 hx
          generalize valAt b j = y1 at d1 hx
          go_wp2_with fail
          go_quiet (fail)
          go_wp2_with fail
          refine ⟨⟨j + 1, by omega, by go_num, fun k hk => ?_, below_drewN hbw _⟩, by simp [intOf]; omega⟩
          by_cases e : k = j
          · subst e; exact HQ.out
          · exact HAL.out k (by omega)
        · have F : Hid (prEq a b = false) := by
            show prEq a b = false
            unfold prEq
            simp only [decide_eq_false_iff_not]
            intro h
            exact hq (by rw [h]; exact ⟨rfl, rfl⟩)
          have hx : (decide (keyAt a j = keyAt b j) && decide (valAt a j = valAt b j)) = false := by
            cases e : (decide (keyAt a j = keyAt b j) && decide (valAt a j = valAt b j)) with
            | true => exact absurd (by simpa using e) hq
            | false => rfl
          clear hq
          generalize keyAt a j = x0 at c0 hx
          generalize valAt a j = x1 at c1 hx
          generalize keyAt b j = y0 at d0 hx
          generalize valAt b j = y1 at d1 hx
          go_wp2_with fail
          go_quiet (fail)
          go_wp2_with fail
          go_ret
          exact ⟨by rw [F.out]; rfl, below_drewN hbw _⟩
      · have F : Hid (prEq a b = true) := by
          show prEq a b = true
          unfold prEq
          simp only [decide_eq_true_eq]
          exact pr_ext HL.out (fun i hi => HAL.out i (by omega))
        go_wp2_with fail
        go_ret
        exact ⟨by rw [F.out]; rfl, hbw⟩
  · have hd : ((a.length : Int) != (b.length : Int)) = true := by simp; omega
    have F : Hid (prEq a b = false) := by
      show prEq a b = false
      unfold prEq
      simp only [decide_eq_false_iff_not]
      intro h
      exact hl (by rw [h])
    clear hl
    go_enter Tryd.func25, Tryd.ntmps25
    go_wp2_with fail
    go_ret
    exact ⟨by rw [F.out]; rfl, Below.refl _ _⟩

/-- The pairs of places. -/
def prL (t : NL) : List Nat → PL
  | [] => []
  | x :: L => if (ndAt t x).inf = 0 then ((ndAt t x).key, (ndAt t x).val) :: prL t L else prL t L
theorem pr_snoc (t : NL) (x : Nat) : ∀ L, prL t (L ++ [x]) = if (ndAt t x).inf = 0 then prL t L ++ [((ndAt t x).key, (ndAt t x).val)] else prL t L
  | [] => by by_cases h : (ndAt t x).inf = 0 <;> simp [prL, h]
  | y :: L => by
    have ih := pr_snoc t x L
    by_cases h : (ndAt t x).inf = 0
    · rw [if_pos h] at ih ⊢
      by_cases h' : (ndAt t y).inf = 0 <;> simp [prL, h', ih]
    · rw [if_neg h] at ih ⊢
      by_cases h' : (ndAt t y).inf = 0 <;> simp [prL, h', ih]
theorem pr_len (t : NL) : ∀ L, (prL t L).length ≤ L.length
  | [] => by simp [prL]
  | x :: L => by
    have := pr_len t L
    unfold prL
    by_cases h : (ndAt t x).inf = 0
    · rw [if_pos h]; simp; omega
    · rw [if_neg h]; simp; omega
theorem leafL_in {t : NL} (he : formE t = 0) (hf : InForm t) : ∀ j, j < (leafL t).length → (leafL t).getD j 0 < t.length := by
  obtain ⟨hT, -, -⟩ := theL_form hf
  intro j hj
  have hm : (leafL t).getD j 0 ∈ leafL t := by rw [List.getD_eq_getElem?_getD, List.getElem?_eq_getElem hj]; exact List.getElem_mem hj
  have F : leafL t = lvL t (theL t 0) := by unfold leafL; rw [if_pos he]
  rw [F] at hm ⊢
  exact hT.all _ (List.mem_filter.1 hm).1
theorem leafL_len {t : NL} (he : formE t = 0) (hf : InForm t) : (leafL t).length ≤ t.length := by
  obtain ⟨-, -, hl⟩ := theL_form hf
  have F : leafL t = lvL t (theL t 0) := by unfold leafL; rw [if_pos he]
  rw [F, ← hl]
  exact lv_len _ _
open Classical in
/-- Pairs' answer. -/
noncomputable def pairL (t : NL) : PL := if formE t = 0 then prL t (leafL t) else []
/-- A row of pairs that is ours. -/
structure PRow (w0 x : World) (v : Value) (V : PL) : Prop where
  own : x.ownsRow w0.heap.size 56 2 v V.length (pairCells V)
  below : Below w0.heap.size w0 x
theorem PRow.size {w0 x : World} {v : Value} {V : PL} (h : PRow w0 x v V) : w0.heap.size ≤ x.heap.size := h.below.size
theorem PRow.quiet {w0 x y : World} {v : Value} {V : PL} (h : PRow w0 x v V) (hb : Below x.heap.size x y) : PRow w0 y v V := ⟨owns_below h.own hb, h.below.trans (hb.mono h.size)⟩
theorem PRow.alloc {w0 x : World} {v : Value} {V : PL} (h : PRow w0 x v V) (o : Obj) : PRow w0 (x.alloc o) v V := h.quiet (below_alloc _ _)
theorem PRow.grown {w0 x y : World} {v v' : Value} {V : PL} {k u : Int} {o : Obj} (h : PRow w0 x v V) (hg : (x.alloc o).grownBy y v.ownBlock) (ho : y.ownsRow w0.heap.size 56 2 v' (V.length + 1) (pairCells V ++ [.int .i64 k, .int .i64 u])) : PRow w0 y v' (V ++ [(k, u)]) :=
  ⟨by rw [List.length_append, pairCells_append]; exact ho, Below.grown (h.below.alloc h.size o) hg (by rw [World.size_alloc]; have := h.size; omega) (fun k q => (owns_lt h.own k q).1)⟩

set_option maxRecDepth 100000 in
set_option maxHeartbeats 2000000 in
theorem Pairs_any (base : Option Addr) (b o c : Nat) (t : NL) (w : World) (h : NodesAt w base b o t) :
    Calls Tryd.prog 24 #[.slice base t.length c] w fun e w' => ∃ v, e = .returned (.tuple #[v, .int .i64 (formE t)]) ∧ w'.ownsRow w.heap.size 56 2 v (pairL t).length (pairCells (pairL t)) ∧ Below w.heap.size w w' := by
  have HA : Hid _ := h
  clear h
  by_cases he : formE t = 0
  · obtain ⟨hbig, hf⟩ := formE_ok he
    have F : Hid (pairL t = prL t (leafL t)) := by show pairL t = _; unfold pairL; rw [if_pos he]
    have FL : Hid (leafL t = lvL t (theL t 0)) := by show leafL t = _; unfold leafL; rw [if_pos he]
    have HE : Hid _ := he
    have HF : Hid _ := hf
    have HIN : Hid _ := leafL_in he hf
    have hl1 := leafL_len he hf
    have hpos := hf.pos
    obtain ⟨e1, e2⟩ := e_eq he
    obtain rfl : base = some ⟨b, o, none⟩ := HA.out.base (by omega)
    have hbl := HA.out.lt (by omega)
    clear he hf
    obtain ⟨i0, hi0, hz0, hz1, hz2⟩ := info_parts pr_info
    have HLV : Hid (∀ W, NodesAt W (some ⟨b, o, none⟩) b o t → Calls Tryd.prog 58 #[.slice (some ⟨b, o, none⟩) t.length c] W fun e w' => ∃ a cap g, e = .returned (.slice a (leafL t).length cap) ∧ PlsAt w' a g (leafL t) ∧ Below W.heap.size W w') := fun W hW => by rw [FL.out]; exact leaves_any _ b o c t W hW HF.out hbig
    clear FL
    generalize leafL t = X at F HIN hl1 HLV
    go_enter Tryd.func24, Tryd.ntmps24
    go_wp2_with (first | (go_at_call 13; refine (check_any _ b o c t _ HA.out).mono ?_; rintro e w1 ⟨rfl, hb1⟩; have HB1 : Hid _ := hb1; have hw1 := hb1.size; clear hb1) | (go_at_call 58; refine (HLV.out _ (HA.out.below HB1.out)).mono ?_; rintro e w3 ⟨a, cr, gr, rfl, hp, hb3⟩; have HB3 : Hid (Below _ _ _) := hb3; have HP : Hid _ := hp; have hw3 := hb3.size; clear hp hb3))
    go_loopw [5, 17] (fun v i wr => ∃ j : Nat, j ≤ X.length ∧ i = .int .i64 j ∧ PRow w3 wr v (prL t (X.take j))) (fun _ i _ => X.length - (intOf i).toNat)
    case atStart => exact ⟨0, Nat.zero_le _, rfl, World.ownsRow_nil _ _ _ _, Below.refl _ _⟩
    case round =>
      obtain ⟨j, hj, rfl, hI⟩ := hrel
      have hbw := hI.below
      have HW : Hid (Below w.heap.size w wr) := HB1.out.trans ((HB3.out.trans (hbw.mono hw3)).mono HB1.out.size)
      have hwz := hbw.size
      have T0 : Hid _ := hI
      by_cases hlt : j < X.length
      · obtain rfl : a = some ⟨gr, 0, none⟩ := HP.out.base (by omega)
        have hgr2 : gr < wr.heap.size := by have := HP.out.lt (by omega); omega
        have r1 := (HP.out.below hbw).cells j hlt
        have hbr : b < wr.heap.size := by omega
        have hvl := Nat.le_trans (pr_len t (X.take j)) (List.length_take_le j X)
        have HN : Hid (prL t (X.take (j + 1)) = if (ndAt t (X.getD j 0)).inf = 0 then prL t (X.take j) ++ [((ndAt t (X.getD j 0)).key, (ndAt t (X.getD j 0)).val)] else prL t (X.take j)) := by show _ = _; rw [take_snoc hlt, pr_snoc]
        have hxl := HIN.out j hlt
        have HC : Hid _ := (HA.out.below HW.out).cells _ hxl
        have j0 : (0 : Int) ≤ (j : Int) := Int.natCast_nonneg _
        have j1 : (j : Int) < (X.length : Int) := by omega
        clear hbw hI
        generalize X.getD j 0 = y at r1 HN hxl HC
        have s0 : (0 : Int) ≤ (y : Int) := Int.natCast_nonneg _
        have s1 : (y : Int) < (t.length : Int) := by omega
        generalize hVV : prL t (X.take j) = V at T0 HN hvl
        clear hVV
        generalize ndAt t y = nd at HC HN
        obtain ⟨k0, k1, k2, k3, k4, k5⟩ := nd
        simp only at HC HN
        obtain ⟨c0, c1, c2, c3, c4, c5⟩ := HC.out
        by_cases hq : k1 = 0
        · have d1 : (k1 == 0) = true := by simp [hq]
          have HN' : Hid (prL t (X.take (j + 1)) = V ++ [(k0, k3)]) := by show _ = _; rw [HN.out, if_pos hq]
          clear hq
          go_wp2_with (first | (at_builtin; have hq := T0; (refine wpList_append_lies _ (by rfl) _ _ _ (by rfl) w3.heap.size 56 i0 _ 2 16 prs_under hi0 hz0 hz1 hz2 rfl (by omega) _ V.length _ (by rfl) ((T0.out.own.alloc _).alloc _) ⟨wr.heap.size + 1, 0, none⟩ 1 1 [.int .i64 k0, .int .i64 k3] (by rfl) (by rfl) (World.news_of_block (cs := #[.int .i64 k0, .int .i64 k3]) (t := 56) (fr := (0, 0)) (heap_alloc_at _ _ _ (by simp))) (by simp [Value.oneCell']) (by omega) (by unfold maxLen; omega) (by omega) (by have := T0.out.size; simp; omega) (wr.heap.size + 1 + 1) (by simp) ?_); intro g6 c6 w6 ho hg hat hl; have T6 : Hid _ := (T0.out.alloc _).grown (k := k0) (u := k3) hg ho; clear ho hg hat hl hq))
          exact ⟨⟨j + 1, by omega, by go_num, by rw [HN'.out]; exact T6.out⟩, by simp [intOf]; omega⟩
        · have d1 : (k1 == 0) = false := by simp [hq]
          have HN' : Hid (prL t (X.take (j + 1)) = V) := by show _ = _; rw [HN.out, if_neg hq]
          clear hq
          go_wp2_with fail
          exact ⟨⟨j + 1, by omega, by go_num, by rw [HN'.out]; exact T0.out.alloc _⟩, by simp [intOf]; omega⟩
      · obtain rfl : j = X.length := by omega
        rw [List.take_length] at hI
        have HI : Hid _ := hI
        clear hbw hI
        go_wp2_with fail
        go_ret2
        refine ⟨_, by rw [HE.out]; rfl, ?_, HW.out⟩
        rw [F.out]
        exact owns_down HI.out.own (by omega)
  · have F : Hid (pairL t = []) := by show pairL t = _; unfold pairL; rw [if_neg he]
    obtain ⟨e1, e2⟩ := e_ne he
    clear he
    go_enter Tryd.func24, Tryd.ntmps24
    go_wp2_with (first | (go_at_call 13; refine (check_any _ b o c t _ HA.out).mono ?_; rintro e w1 ⟨rfl, hb1⟩; have HB1 : Hid _ := hb1; clear hb1))
    go_ret2
    exact ⟨_, rfl, by rw [F.out]; exact World.ownsRow_nil _ _ _ _, HB1.out⟩

set_option maxRecDepth 100000 in
set_option maxHeartbeats 2000000 in
theorem rKeys_any (base : Option Addr) (b o c : Nat) (t : NL) (w : World) (h : NodesAt w base b o t) (he : formE t = 0) :
    Calls Tryd.prog 59 #[.slice base t.length c] w fun e w' => ∃ v, e = .returned v ∧ w'.ownsRow w.heap.size 56 2 v (prL t (leafL t)).length (pairCells (prL t (leafL t))) ∧ Below w.heap.size w w' := by
  have HA : Hid _ := h
  clear h
  obtain ⟨hbig, hf⟩ := formE_ok he
  have HE : Hid _ := he
  have HIN : Hid _ := leafL_in he hf
  have hl1 := leafL_len he hf
  have hpos := hf.pos
  obtain rfl : base = some ⟨b, o, none⟩ := HA.out.base (by omega)
  have hbl := HA.out.lt (by omega)
  clear he hf
  obtain ⟨i0, hi0, hz0, hz1, hz2⟩ := info_parts pr_info
  have HLV : Hid (∀ W, NodesAt W (some ⟨b, o, none⟩) b o t → Calls Tryd.prog 20 #[.slice (some ⟨b, o, none⟩) t.length c] W fun e w' => ∃ v, e = .returned (.tuple #[v, .int .i64 (formE t)]) ∧ w'.ownsRow W.heap.size 3 1 v (leafL t).length (natC (leafL t)) ∧ Below W.heap.size W w') := fun W hW => rLeaves_any _ b o c t W hW
  generalize leafL t = X at HIN hl1 HLV ⊢
  go_enter Tryd.func59, Tryd.ntmps59
  go_wp2_with (first | (go_at_call 20; refine (HLV.out _ HA.out).mono ?_; rintro e w3 ⟨v, rfl, ho, hb3⟩; obtain ⟨a, cr, gr, rfl, -, -, hp⟩ := pls_of_owns ho; have HB3 : Hid (Below _ _ _) := hb3; have HP : Hid _ := hp; have hw3 := hb3.size; clear hp hb3 ho))
  go_loopw [5, 6] (fun v i wr => ∃ j : Nat, j ≤ X.length ∧ i = .int .i64 j ∧ PRow w3 wr v (prL t (X.take j))) (fun _ i _ => X.length - (intOf i).toNat)
  case atStart => exact ⟨0, Nat.zero_le _, rfl, World.ownsRow_nil _ _ _ _, Below.refl _ _⟩
  case round =>
    obtain ⟨j, hj, rfl, hI⟩ := hrel
    have hbw := hI.below
    have HW : Hid (Below w.heap.size w wr) := HB3.out.trans (hbw.mono hw3)
    have hwz := hbw.size
    have T0 : Hid _ := hI
    have ol := owns_lt hI.own
    by_cases hlt : j < X.length
    · obtain rfl : a = some ⟨gr, 0, none⟩ := HP.out.base (by omega)
      have hgr1 : gr < w3.heap.size := HP.out.lt (by omega)
      have hgr2 : gr < wr.heap.size := by omega
      have r1 := (HP.out.below hbw).cells j hlt
      have hbr : b < wr.heap.size := by omega
      have hvl := Nat.le_trans (pr_len t (X.take j)) (List.length_take_le j X)
      have HN : Hid (prL t (X.take (j + 1)) = if (ndAt t (X.getD j 0)).inf = 0 then prL t (X.take j) ++ [((ndAt t (X.getD j 0)).key, (ndAt t (X.getD j 0)).val)] else prL t (X.take j)) := by show _ = _; rw [take_snoc hlt, pr_snoc]
      have hxl := HIN.out j hlt
      have HC : Hid _ := (HA.out.below HW.out).cells _ hxl
      have j0 : (0 : Int) ≤ (j : Int) := Int.natCast_nonneg _
      have j1 : (j : Int) < (X.length : Int) := by omega
      have ag1 : Hid (∀ g, u5.ownBlock = some g → g ≠ b) := fun g hg => by have := (ol g hg).1; omega
      have ag2 : Hid (∀ g, u5.ownBlock = some g → g ≠ gr) := fun g hg => by have := (ol g hg).1; omega
      clear hbw hI ol
      generalize X.getD j 0 = y at r1 HN hxl HC
      have s0 : (0 : Int) ≤ (y : Int) := Int.natCast_nonneg _
      have s1 : (y : Int) < (t.length : Int) := by omega
      generalize hVV : prL t (X.take j) = V at T0 HN hvl
      clear hVV
      generalize ndAt t y = nd at HC HN
      obtain ⟨k0, k1, k2, k3, k4, k5⟩ := nd
      simp only at HC HN
      obtain ⟨c0, c1, c2, c3, c4, c5⟩ := HC.out
      by_cases hq : k1 = 0
      · have d1 : (k1 == 0) = true := by simp [hq]
        have HN' : Hid (prL t (X.take (j + 1)) = V ++ [(k0, k3)]) := by show _ = _; rw [HN.out, if_pos hq]
        clear hq
        go_wp2_with fail
        go_region_held3 (fun w' => w'.cell? ⟨b, o + y * 6, none⟩ = some (.int .i64 k0) ∧ w'.cell? ⟨b, o + y * 6 + 3, none⟩ = some (.int .i64 k3) ∧ w'.cell? ⟨gr, j, none⟩ = some (.int .i64 (y : Int)))
          (first
            | go_keep
            | (go_split_ands
               refine ⟨?_, ?_, ?_⟩ <;> (rw [hgrow5.cell_far _ (by simp; omega) (fun q => absurd rfl (by first | exact ag1.out _ q.symm | exact ag2.out _ q.symm))]; assumption)))
          ((refine step_append_lies _ (by rfl) _ _ _ (by rfl) w3.heap.size 56 i0 _ 2 16 prs_under hi0 hz0 hz1 hz2 rfl (by omega) _ V.length _ (by rfl) ((T0.out.own.alloc _).drew) ⟨wr.heap.size, 0, none⟩ 1 1 [.int .i64 k0, .int .i64 k3] (by rfl) (by rfl) (World.news_of_block (cs := #[.int .i64 k0, .int .i64 k3]) (t := 56) (fr := (0, 0)) (heap_alloc_at _ _ _ (by simp))) (by simp [Value.oneCell']) (by omega) (by unfold maxLen; omega) (by omega) (by have := T0.out.size; simp; omega) (wr.heap.size + 1) (by simp) ?_; intro g5 c5 w5 hown5 hgrow5 hat5 hlt5))
        have T6 : Hid _ := T0.out.grown (k := k0) (u := k3) (undrew hgrow5) hown5
        clear hown5 hgrow5 hat5
        go_wp2_with fail
        exact ⟨⟨j + 1, by omega, by go_num, by rw [HN'.out]; exact T6.out⟩, by simp [intOf]; omega⟩
      · have d1 : (k1 == 0) = false := by simp [hq]
        have HN' : Hid (prL t (X.take (j + 1)) = V) := by show _ = _; rw [HN.out, if_neg hq]
        clear hq
        go_wp2_with fail
        exact ⟨⟨j + 1, by omega, by go_num, by rw [HN'.out]; exact T0.out⟩, by simp [intOf]; omega⟩
    · obtain rfl : j = X.length := by omega
      rw [List.take_length] at hI
      have HI : Hid _ := hI
      clear hbw hI
      go_wp2_with fail
      go_ret
      exact ⟨_, rfl, owns_down HI.out.own (by omega), HW.out⟩
set_option maxRecDepth 100000 in
theorem rPairs_any (base : Option Addr) (b o c : Nat) (t : NL) (w : World) (h : NodesAt w base b o t) :
    Calls Tryd.prog 23 #[.slice base t.length c] w fun e w' => ∃ v, e = .returned (.tuple #[v, .int .i64 (formE t)]) ∧ w'.ownsRow w.heap.size 56 2 v (pairL t).length (pairCells (pairL t)) ∧ Below w.heap.size w w' := by
  have HA : Hid _ := h
  clear h
  by_cases he : formE t = 0
  · have F : Hid (pairL t = prL t (leafL t)) := by show pairL t = _; unfold pairL; rw [if_pos he]
    have HE : Hid _ := he
    obtain ⟨e1, e2⟩ := e_eq he
    clear he
    go_enter Tryd.func23, Tryd.ntmps23
    go_wp2_with (first | (go_at_call 14; refine (rcheck_any _ b o c t _ HA.out).mono ?_; rintro e w1 ⟨rfl, hb1⟩; have HB1 : Hid _ := hb1; clear hb1) | (go_at_call 59; refine (rKeys_any _ b o c t _ (HA.out.below HB1.out) HE.out).mono ?_; rintro e w2 ⟨v, rfl, ho, hb2⟩; have HO : Hid (World.ownsRow _ _ _ _ _ _ _) := owns_down ho HB1.out.size; have HB2 : Hid _ := HB1.out.trans (hb2.mono HB1.out.size); clear ho hb2))
    go_ret2
    exact ⟨_, by rw [HE.out]; rfl, by rw [F.out]; exact HO.out, HB2.out⟩
  · have F : Hid (pairL t = []) := by show pairL t = _; unfold pairL; rw [if_neg he]
    obtain ⟨e1, e2⟩ := e_ne he
    clear he
    go_enter Tryd.func23, Tryd.ntmps23
    go_wp2_with (first | (go_at_call 14; refine (rcheck_any _ b o c t _ HA.out).mono ?_; rintro e w1 ⟨rfl, hb1⟩; have HB1 : Hid _ := hb1; clear hb1))
    go_ret2
    exact ⟨_, rfl, by rw [F.out]; exact World.ownsRow_nil _ _ _ _, HB1.out⟩
end Go.Proofs.YtjekmkfpakdkeaaDoor

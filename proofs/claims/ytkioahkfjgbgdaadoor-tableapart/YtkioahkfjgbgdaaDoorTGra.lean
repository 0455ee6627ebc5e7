
/- Layer 16: Graft of the program. -/

import Derived.Test.YtkioahkfjgbgdaaDoorTCat

import Derived.Test.YtkioahkfjgbgdaaDoorTGrP

import Derived.Test.YtkioahkfjgbgdaaDoorTUpC

namespace Go.Proofs.YtkioahkfjgbgdaaDoor

open Go.RowKit

attribute [local go_sem ↓] Go.wp_at_zero Go.wp_at_succ

open Classical in
/-- The grafted tree. -/
noncomputable def graB (t : NL) (q : Nat) (u : NL) : BT := if h : ∃ b bu, Abs u 0 bu ∧ GraftR t q bu 0 b then Classical.choose h else .leaf ⟨0, 0, 0, 0⟩
theorem graB_of {t u : NL} {q : Nat} {b bu : BT} (hu : Abs u 0 bu) (h : GraftR t q bu 0 b) : graB t q u = b := by
  have hx : ∃ b bu, Abs u 0 bu ∧ GraftR t q bu 0 b := ⟨b, bu, hu, h⟩
  unfold graB
  rw [dif_pos hx]
  obtain ⟨bu', h1, h2⟩ := Classical.choose_spec hx
  rw [h1.det hu] at h2
  exact h2.det h
theorem ndAt_set_ne (t : NL) (i p : Nat) (m : NdD) (h : p ≠ i) : ndAt (t.set i m) p = ndAt t p := by
  unfold ndAt
  rw [List.getD_eq_getElem?_getD, List.getElem?_set_ne (Ne.symm h), ← List.getD_eq_getElem?_getD]
theorem setL_at (T : NL) (i : Nat) (a : Int) (h : i < T.length) : ndAt (setL T i a) i = ⟨(ndAt T i).key, (ndAt T i).inf, (ndAt T i).wt, (ndAt T i).val, a, (ndAt T i).r⟩ := ndAt_set _ _ _ h
theorem setR_at (T : NL) (i : Nat) (a : Int) (h : i < T.length) : ndAt (setR T i a) i = ⟨(ndAt T i).key, (ndAt T i).inf, (ndAt T i).wt, (ndAt T i).val, (ndAt T i).l, a⟩ := ndAt_set _ _ _ h
theorem setL_ne (T : NL) (i p : Nat) (a : Int) (h : p ≠ i) : ndAt (setL T i a) p = ndAt T p := ndAt_set_ne _ _ _ _ h
theorem setR_ne (T : NL) (i p : Nat) (a : Int) (h : p ≠ i) : ndAt (setR T i a) p = ndAt T p := ndAt_set_ne _ _ _ _ h
theorem one_parent {t : NL} (hf : InForm t) {x p q : Nat} (hx : x < t.length) (hp : p < t.length) (h : Child t x q) (h' : Child t p q) : p = x := by
  obtain ⟨c1, c2⟩ := child_pos hf.good hx h
  exact cnt_uniq (hf.good.one q c1 c2) hp hx h' h
theorem child_ne {t : NL} (hf : InForm t) {x q : Nat} (hx : x < t.length) (h : (ndAt t x).l = (q : Int)) : (ndAt t x).r ≠ (q : Int) := by
  rcases (hf.good.node x hx).1 with ⟨h1, h2⟩ | ⟨h1, h2, h3, h4, h5, -⟩ <;> omega
theorem repl_L {t u : NL} (hf : InForm t) {x q : Nat} (hx : x < t.length) (h : (ndAt t x).l = (q : Int)) : Repl t (setL (bothL t u) x (t.length : Int)) q t.length := by
  intro p hp hne
  have hp' : p < (setL (bothL t u) x (t.length : Int)).length := by rw [setL_length, both_length]; omega
  by_cases e : p = x
  · subst e
    have hr := child_ne hf hx h
    rw [setL_at _ _ _ (by rw [both_length]; omega), both_left t u p hp]
    exact ⟨hp', rfl, by rw [if_pos h], by rw [if_neg hr]⟩
  · rw [setL_ne _ _ _ _ e, both_left t u p hp]
    exact ⟨hp', rfl, by rw [if_neg (fun z => e (one_parent hf hx hp (Or.inl h) (Or.inl z)))], by rw [if_neg (fun z => e (one_parent hf hx hp (Or.inl h) (Or.inr z)))]⟩
theorem repl_R {t u : NL} (hf : InForm t) {x q : Nat} (hx : x < t.length) (hl : (ndAt t x).l ≠ (q : Int)) (h : (ndAt t x).r = (q : Int)) : Repl t (setR (bothL t u) x (t.length : Int)) q t.length := by
  intro p hp hne
  have hp' : p < (setR (bothL t u) x (t.length : Int)).length := by rw [setR_length, both_length]; omega
  by_cases e : p = x
  · subst e
    rw [setR_at _ _ _ (by rw [both_length]; omega), both_left t u p hp]
    exact ⟨hp', rfl, by rw [if_neg hl], by rw [if_pos h]⟩
  · rw [setR_ne _ _ _ _ e, both_left t u p hp]
    exact ⟨hp', rfl, by rw [if_neg (fun z => e (one_parent hf hx hp (Or.inr h) (Or.inl z)))], by rw [if_neg (fun z => e (one_parent hf hx hp (Or.inr h) (Or.inr z)))]⟩
theorem ren_both {t u : NL} : Ren u (bothL t u) (fun x => t.length + x) := shift_ren (fun x hx => ⟨by rw [both_length]; omega, both_right t u x hx⟩)
theorem ren_L {t u : NL} {x : Nat} (hx : x < t.length) : Ren u (setL (bothL t u) x (t.length : Int)) (fun x => t.length + x) := shift_ren (fun y hy => ⟨by rw [setL_length, both_length]; omega, by rw [setL_ne _ _ _ _ (by omega)]; exact both_right t u y hy⟩)
theorem ren_R {t u : NL} {x : Nat} (hx : x < t.length) : Ren u (setR (bothL t u) x (t.length : Int)) (fun x => t.length + x) := shift_ren (fun y hy => ⟨by rw [setR_length, both_length]; omega, by rw [setR_ne _ _ _ _ (by omega)]; exact both_right t u y hy⟩)
/-- What the program's graft rests on, where the place isn't the root. -/
theorem graft_in {t u T : NL} {q : Nat} (hf : InForm t) (hu : InForm u) (hq : q < t.length) (h0 : q ≠ 0) (hR : Repl t T q t.length) (hRn : Ren u T (fun x => t.length + x)) :
    ∃ L, Tree T 0 L ∧ partL T L = (graB t q u).lay 0 ∧ L.length = (graB t q u).size ∧ L.length ≤ t.length + u.length := by
  obtain ⟨L, b, bu, Mq, h1, h2, h3, h4, h5, h6, h7, h8⟩ := graft_lay hf hu hq hR (f := fun x => t.length + x) rfl hRn (fun x y _ _ e => by omega) (fun x _ => Or.inr (by omega)) (fun e => absurd e h0)
  rw [graB_of h3 h4]
  exact ⟨L, h1, h5, h6, by omega⟩
theorem graft_top {t u : NL} (hu : InForm u) : ∃ L, Tree (bothL t u) t.length L ∧ partL (bothL t u) L = (graB t 0 u).lay 0 ∧ L.length = (graB t 0 u).size ∧ L.length ≤ t.length + u.length := by
  obtain ⟨N, hN, hNN, hNl⟩ := hu.tree
  obtain ⟨bu, hbu, hs⟩ := hN.abs
  have h1 := ren_tree (ren_both (t := t)) hN
  have h2 := ren_abs (ren_both (t := t)) hbu
  have h3 : (N.map (fun x => t.length + x)).Nodup := map_nodup (fun x y _ _ e => by omega) hNN
  rw [graB_of hbu GraftR.here]
  exact ⟨_, h1, part_lay h1 h3 h2, by simp [hs], by simp; omega⟩
/-- The first m nodes of the second table shifted. -/
def shN (t u : NL) (m : Nat) : NL := t ++ ((u.take m).map (shiftD t.length) ++ u.drop m)
theorem shN_zero (t u : NL) : shN t u 0 = t ++ u := by simp [shN]
theorem shN_all (t u : NL) : shN t u u.length = bothL t u := by simp [shN, bothL]
theorem shN_length (t u : NL) (m : Nat) : (shN t u m).length = t.length + u.length := by simp [shN]; omega
theorem shN_at (t u : NL) (m : Nat) (h : m < u.length) : ndAt (shN t u m) (t.length + m) = ndAt u m := by
  unfold ndAt shN
  rw [List.getD_eq_getElem?_getD, List.getElem?_append_right (by omega), Nat.add_sub_cancel_left, List.getElem?_append_right (by simp; omega)]
  simp only [List.length_map, List.length_take, Nat.min_eq_left (Nat.le_of_lt h), Nat.sub_self, List.getElem?_drop, Nat.add_zero, List.getD_eq_getElem?_getD]
theorem shN_succ (t u : NL) (m : Nat) (h : m < u.length) : shN t u (m + 1) = (shN t u m).set (t.length + m) (shiftD t.length (ndAt u m)) := by
  unfold shN
  have e : u.drop m = ndAt u m :: u.drop (m + 1) := by
    rw [List.drop_eq_getElem_cons h]
    simp [ndAt, List.getD_eq_getElem?_getD, List.getElem?_eq_getElem h]
  have e2 : u.take (m + 1) = u.take m ++ [ndAt u m] := by
    rw [List.take_succ_eq_append_getElem h]
    simp [ndAt, List.getD_eq_getElem?_getD, List.getElem?_eq_getElem h]
  rw [e, e2, List.set_append_right _ _ (by omega), Nat.add_sub_cancel_left, List.set_append_right _ _ (by simp; omega)]
  simp [Nat.min_eq_left (Nat.le_of_lt h)]
theorem shN_leaf (t u : NL) (m : Nat) (h : m < u.length) (hl : (ndAt u m).l = -1) : shN t u (m + 1) = shN t u m := by
  rw [shN_succ t u m h]
  unfold shiftD
  rw [if_pos hl, ← shN_at t u m h]
  have hlt : t.length + m < (shN t u m).length := by rw [shN_length]; omega
  unfold ndAt
  rw [List.getD_eq_getElem?_getD, List.getElem?_eq_getElem hlt]
  exact List.set_getElem_self hlt
theorem shN_inner (t u : NL) (m l r : Nat) (h : m < u.length) (hl : (ndAt u m).l = (l : Int)) (hr : (ndAt u m).r = (r : Int)) : setR (setL (shN t u m) (t.length + m) ((l : Int) + (t.length : Int))) (t.length + m) ((r : Int) + (t.length : Int)) = shN t u (m + 1) := by
  rw [setLR _ _ _ _ (by rw [shN_length]; omega), shN_at t u m h, shN_succ t u m h]
  unfold shiftD
  rw [if_neg (by omega), hl, hr]
theorem MAt.all {w0 x : World} {g cap : Nat} {T : NL} (h : MAt w0 x g cap T) (i : Nat) (hi : i < T.length) : x.cell? ⟨g, i * 6, none⟩ = some (.int .i64 (ndAt T i).key) ∧ x.cell? ⟨g, i * 6 + 1, none⟩ = some (.int .i64 (ndAt T i).inf) ∧ x.cell? ⟨g, i * 6 + 2, none⟩ = some (.int .i64 (ndAt T i).wt) ∧ x.cell? ⟨g, i * 6 + 3, none⟩ = some (.int .i64 (ndAt T i).val) := by
  have := h.nodes.cells i hi
  simp only [Nat.zero_add] at this
  exact ⟨this.1, this.2.1, this.2.2.1, this.2.2.2.1⟩
theorem tree_up {t : NL} {p : Nat} {L : List Nat} (h : Tree t p L) : ∀ c ∈ L, c ≠ p → ∃ (_ _ : List Nat) (x : Nat), True ∧ x ∈ L ∧ Child t x c := by
  induction h with
  | leaf hp hl hr => intro c hc hn; simp at hc; exact absurd hc hn
  | @inner p l r L R hp hl hr h1 h2 ih1 ih2 =>
    intro c hc hn
    simp only [List.mem_cons, List.mem_append] at hc
    rcases hc with hc | hc | hc
    · exact absurd hc hn
    · by_cases e : c = l
      · subst e
        exact ⟨[], [], p, trivial, by simp, Or.inl hl⟩
      · obtain ⟨A, B, x, -, q2, q3⟩ := ih1 c hc e
        exact ⟨A, B, x, trivial, by simp [q2], q3⟩
    · by_cases e : c = r
      · subst e
        exact ⟨[], [], p, trivial, by simp, Or.inr hr⟩
      · obtain ⟨A, B, x, -, q2, q3⟩ := ih2 c hc e
        exact ⟨A, B, x, trivial, by simp [q2], q3⟩
set_option maxRecDepth 100000 in
set_option maxHeartbeats 2000000 in
theorem grafted_top (b o c q b2 o2 c2 : Nat) (t u : NL) (w : World) (ht : NodesAt w (some ⟨b, o, none⟩) b o t) (hu : NodesAt w (some ⟨b2, o2, none⟩) b2 o2 u) (hf : InForm t) (huf : InForm u) (hq : q < t.length) (hbt : t.length ≤ 100000) (hbu : u.length ≤ 100000) (h0 : q = 0) :
    Calls Tryd.prog 26 #[.slice (some ⟨b, o, none⟩) t.length c, .int .i64 (q : Int), .slice (some ⟨b2, o2, none⟩) u.length c2] w fun e w' => ∃ v, e = .returned v ∧ w'.ownsRow w.heap.size 40 6 v (graB t q u).size (ndCells ((graB t q u).lay 0)) ∧ Below w.heap.size w w' := by
  have HA : Hid (NodesAt _ _ _ _ _) := ht
  have HU : Hid (NodesAt _ _ _ _ _) := hu
  have HTF : Hid (InForm t) := hf
  have HUF : Hid (InForm u) := huf
  have hpos := hf.pos
  have hupos := huf.pos
  have hbl := ht.lt (by omega)
  have hul := hu.lt (by omega)
  have HSL : Hid (∀ m, (shN t u m).length = t.length + u.length) := shN_length t u
  have HTU : Hid ((t ++ u).length = t.length + u.length) := List.length_append
  clear ht hu hf huf
  obtain rfl : q = 0 := h0
  obtain ⟨L, hL, hp, hs, hlb⟩ := graft_top (t := t) HUF.out
  have HL : Hid (Tree _ _ _) := hL
  have HLB : Hid (partL (bothL t u) L = (graB t 0 u).lay 0 ∧ L.length = (graB t 0 u).size) := ⟨hp, hs⟩
  clear hL hp hs
  go_enter Tryd.func26, Tryd.ntmps26
  go_wp2_with fail
  have hx := nconcat_any (some ⟨b, o, none⟩) (some ⟨b2, o2, none⟩) b o c b2 o2 c2 w.heap.size 2 t u (w.alloc (.cells #[.slice (some ⟨b, o, none⟩) t.length c, .slice (some ⟨b2, o2, none⟩) u.length c2] 22)) (HA.out.below (below_alloc w _)) (fun h => by cases h) (HU.out.below (below_alloc w _)) (fun h => by cases h) (by omega) (by simp) (cell_new w _ _ 0) (cell_new w _ _ 1)
  refine hx.mono ?_
  rintro e w2 ⟨v2, rfl, hb2, ho2⟩
  rw [HTU.out] at ho2
  obtain ⟨g, cap, rfl, -, -, -, -, -, -⟩ := owns_some ho2 (by omega)
  clear hx
  have HB2 : Hid (Below _ _ _) := hb2
  have HO2 : Hid (World.ownsRow _ _ _ _ _ _ _) := ho2
  clear hb2 ho2
  go_wp2_with fail
  obtain ⟨w0, hw0⟩ : ∃ w0, w0 = w.alloc (.cells #[.slice (some ⟨b, o, none⟩) t.length c, .slice (some ⟨b2, o2, none⟩) u.length c2] 22) := ⟨_, rfl⟩
  have HW0 : Hid (Below w.heap.size w w0) := by rw [hw0]; exact below_alloc _ _
  have T0 : Hid (MAt w0 w2 g cap (shN t u 0)) := by
    rw [hw0]
    exact ⟨by rw [shN_zero, HTU.out]; exact HO2.out, HB2.out⟩
  clear hw0
  go_loopw [9] (fun i wr => ∃ m : Nat, m ≤ u.length ∧ i = .int .i64 ((t.length + m : Nat) : Int) ∧ MAt w0 wr g cap (shN t u m)) (fun i _ => t.length + u.length - (intOf i).toNat)
  case atStart => exact ⟨0, Nat.zero_le _, rfl, T0.out⟩
  case round =>
      obtain ⟨m, hm, rfl, hT⟩ := hrel
      have TM : Hid (MAt _ _ _ _ _) := hT
      have hz := hT.below.size
      obtain ⟨hg1, hgl⟩ := hT.lt
      have hJ : t.length + m < (shN t u m).length ∨ m = u.length := by rw [HSL.out]; omega
      by_cases hlm : m < u.length
      · have hJ' : t.length + m < (shN t u m).length := by rw [HSL.out]; omega
        obtain ⟨c0, c1, c2, c3⟩ := hT.all _ hJ'
        obtain ⟨c4, c5⟩ := hT.cells _ hJ'
        rw [shN_at t u m hlm] at c0 c1 c2 c3 c4 c5
        have hQ : ∀ y, Below wr.heap.size wr y → MAt w0 y g cap (shN t u m) := fun y hy => hT.quiet hy
        have HQ : Hid _ := hQ
        clear hQ hJ
        by_cases hl : (ndAt u m).l = -1
        · have hr := leaf_lr HUF.out hlm hl
          have HLF : Hid (leafB ⟨(ndAt u m).key, (ndAt u m).inf, (ndAt u m).wt, (ndAt u m).val, (ndAt u m).l, (ndAt u m).r⟩ = true) := leafB_yes hl hr
          have HS : Hid (shN t u (m + 1) = shN t u m) := shN_leaf t u m hlm hl
          clear hT hl hr
          generalize hJJ : t.length + m = J at *
          have HJJ : Hid _ := hJJ
          have j0 : (0 : Int) ≤ (J : Int) := Int.natCast_nonneg _
          have j1 : (J : Int) < ((t.length + u.length : Nat) : Int) := by omega
          have j2 : J ≤ 1000000 := by omega
          clear hJJ
          go_wp2_with (first | (go_at_call 36; refine (isLeaf_any _ _ _ _ _ _ _).mono ?_; rintro e w3 ⟨rfl, hb3⟩; rw [HLF.out]; have TQ : Hid (MAt _ _ _ _ _) := HQ.out _ hb3; clear hb3))
          exact ⟨⟨m + 1, by omega, by rw [show t.length + (m + 1) = J + 1 by have := HJJ.out; omega]; go_num, by rw [HS.out]; exact TQ.out⟩, by simp [intOf]; omega⟩
        · obtain ⟨l, r, hl', hr', hll, hrl⟩ := inner_lr HUF.out hlm (leafB_no hl)
          have HLF : Hid (leafB ⟨(ndAt u m).key, (ndAt u m).inf, (ndAt u m).wt, (ndAt u m).val, (l : Int), (r : Int)⟩ = false) := leafB_no (by show (l : Int) ≠ -1; omega)
          rw [hl'] at c4
          rw [hr'] at c5
          have HS : Hid _ := shN_inner t u m l r hlm hl' hr'
          have l0 : (0 : Int) ≤ (l : Int) := Int.natCast_nonneg _
          have r0 : (0 : Int) ≤ (r : Int) := Int.natCast_nonneg _
          have l1 : (l : Int) ≤ 100000 := by omega
          have r1 : (r : Int) ≤ 100000 := by omega
          have tl : (t.length : Int) ≤ 100000 := by omega
          have HD : Hid (∀ y, MAt w0 y g cap (shN t u m) → (y.cell? ⟨g, (t.length + m) * 6 + 4, none⟩ = some (.int .i64 (l : Int)) ∧ y.frozen? ⟨g, (t.length + m) * 6 + 4, none⟩ = false) ∧ (y.cell? ⟨g, (t.length + m) * 6 + 5, none⟩ = some (.int .i64 (r : Int)) ∧ y.frozen? ⟨g, (t.length + m) * 6 + 5, none⟩ = false)) := fun y hy => by have := hy.cells _ hJ'; rwa [shN_at t u m hlm, hl', hr'] at this
          clear hT hl hl' hr'
          have HEL : Hid ((setL (shN t u m) (t.length + m) ((l : Int) + (t.length : Int))).length = (shN t u m).length) := setL_length _ _ _
          have HJL : Hid (t.length + m < (shN t u m).length) := hJ'
          clear hJ'
          generalize hJJ : t.length + m = J at *
          have HJJ : Hid _ := hJJ
          have j0 : (0 : Int) ≤ (J : Int) := Int.natCast_nonneg _
          have j1 : (J : Int) < ((t.length + u.length : Nat) : Int) := by omega
          have j2 : J ≤ 1000000 := by omega
          have n3 : J * 6 + 4 ≠ J * 6 + 5 := by omega
          have n4 : J * 6 + 5 ≠ J * 6 + 4 := by omega
          clear hJJ
          go_wp2_with (first | (go_at_call 36; refine (isLeaf_any _ _ _ _ _ _ _).mono ?_; rintro e w3 ⟨rfl, hb3⟩; rw [HLF.out]; have TQ : Hid (MAt _ _ _ _ _) := HQ.out _ hb3; obtain ⟨d4, d5⟩ := HD.out _ TQ.out; have hz3 := hb3.size; clear hb3))
          exact ⟨⟨m + 1, by omega, by rw [show t.length + (m + 1) = J + 1 by have := HJJ.out; omega]; go_num, by rw [← HS.out]; exact (TQ.out.putL J _ HJL.out hg1).putR J _ (by rw [HEL.out]; exact HJL.out) hg1⟩, by simp [intOf]; omega⟩
      · obtain rfl : m = u.length := by omega
        have TA : Hid (MAt w0 wr g cap (bothL t u)) := by rw [← shN_all]; exact hT
        have BW : Hid (Below w.heap.size w wr) := HW0.out.trans (hT.below.mono HW0.out.size)
        have HBL : Hid ((bothL t u).length = t.length + u.length) := both_length t u
        clear hT hJ
        have d0 : ((0 : Int) == 0) = true := rfl
        go_wp2_with (first | (go_at_call 24; have hx := below_any _ g 0 cap (bothL t u) t.length L wr TA.out.nodes HL.out (by omega) (by rw [HBL.out]; omega); rw [HBL.out] at hx; refine hx.mono ?_; rintro e w5 ⟨v5, rfl, ho5, hb5⟩; have O5 : Hid (World.ownsRow _ _ _ _ _ _ _) := ho5; have B5 : Hid (Below w.heap.size w w5) := BW.out.trans (hb5.mono BW.out.size); clear ho5 hb5 hx))
        go_ret
        refine ⟨_, rfl, ?_, B5.out⟩
        rw [← HLB.out.1, ← HLB.out.2]
        exact owns_down O5.out BW.out.size
set_option maxRecDepth 100000 in
set_option maxHeartbeats 2000000 in
theorem grafted_l (b o c q b2 o2 c2 : Nat) (t u : NL) (w : World) (ht : NodesAt w (some ⟨b, o, none⟩) b o t) (hu : NodesAt w (some ⟨b2, o2, none⟩) b2 o2 u) (hf : InForm t) (huf : InForm u) (hq : q < t.length) (hbt : t.length ≤ 100000) (hbu : u.length ≤ 100000) (h0 : q ≠ 0) (x : Nat) (hx : x < t.length) (hc : (ndAt t x).l = (q : Int)) :
    Calls Tryd.prog 26 #[.slice (some ⟨b, o, none⟩) t.length c, .int .i64 (q : Int), .slice (some ⟨b2, o2, none⟩) u.length c2] w fun e w' => ∃ v, e = .returned v ∧ w'.ownsRow w.heap.size 40 6 v (graB t q u).size (ndCells ((graB t q u).lay 0)) ∧ Below w.heap.size w w' := by
  have HA : Hid (NodesAt _ _ _ _ _) := ht
  have HU : Hid (NodesAt _ _ _ _ _) := hu
  have HTF : Hid (InForm t) := hf
  have HUF : Hid (InForm u) := huf
  have hpos := hf.pos
  have hupos := huf.pos
  have hbl := ht.lt (by omega)
  have hul := hu.lt (by omega)
  have HSL : Hid (∀ m, (shN t u m).length = t.length + u.length) := shN_length t u
  have HTU : Hid ((t ++ u).length = t.length + u.length) := List.length_append
  clear ht hu hf huf
  obtain ⟨L, hL, hp, hs, hlb⟩ := graft_in (u := u) HTF.out HUF.out hq h0 (repl_L HTF.out hx hc) (ren_L hx)
  have HL : Hid (Tree _ _ _) := hL
  have HLB : Hid (partL (setL (bothL t u) x (t.length : Int)) L = (graB t q u).lay 0 ∧ L.length = (graB t q u).size) := ⟨hp, hs⟩
  have HUP : Hid (upN t t.length q = (x : Int)) := up_child HTF.out.good hx (Or.inl hc) t.length hx (Nat.le_refl _)
  have x0 : (0 : Int) ≤ (x : Int) := Int.natCast_nonneg _
  have x1 : (x : Int) < ((t.length + u.length : Nat) : Int) := by omega
  have q0 : (0 : Int) ≤ (q : Int) := Int.natCast_nonneg _
  have q1 : (q : Int) < (t.length : Int) := by omega
  have dq : ((q : Int) == 0) = false := beq_eq_false_iff_ne.2 (by omega)
  have HC : Hid ((ndAt t x).l = (q : Int)) := hc
  clear hc
  clear hL hp hs h0
  go_enter Tryd.func26, Tryd.ntmps26
  go_wp2_with fail
  have hx := nconcat_any (some ⟨b, o, none⟩) (some ⟨b2, o2, none⟩) b o c b2 o2 c2 w.heap.size 2 t u (w.alloc (.cells #[.slice (some ⟨b, o, none⟩) t.length c, .slice (some ⟨b2, o2, none⟩) u.length c2] 22)) (HA.out.below (below_alloc w _)) (fun h => by cases h) (HU.out.below (below_alloc w _)) (fun h => by cases h) (by omega) (by simp) (cell_new w _ _ 0) (cell_new w _ _ 1)
  refine hx.mono ?_
  rintro e w2 ⟨v2, rfl, hb2, ho2⟩
  rw [HTU.out] at ho2
  obtain ⟨g, cap, rfl, -, -, -, -, -, -⟩ := owns_some ho2 (by omega)
  clear hx
  have HB2 : Hid (Below _ _ _) := hb2
  have HO2 : Hid (World.ownsRow _ _ _ _ _ _ _) := ho2
  clear hb2 ho2
  go_wp2_with fail
  obtain ⟨w0, hw0⟩ : ∃ w0, w0 = w.alloc (.cells #[.slice (some ⟨b, o, none⟩) t.length c, .slice (some ⟨b2, o2, none⟩) u.length c2] 22) := ⟨_, rfl⟩
  have HW0 : Hid (Below w.heap.size w w0) := by rw [hw0]; exact below_alloc _ _
  have T0 : Hid (MAt w0 w2 g cap (shN t u 0)) := by
    rw [hw0]
    exact ⟨by rw [shN_zero, HTU.out]; exact HO2.out, HB2.out⟩
  clear hw0
  go_loopw [9] (fun i wr => ∃ m : Nat, m ≤ u.length ∧ i = .int .i64 ((t.length + m : Nat) : Int) ∧ MAt w0 wr g cap (shN t u m)) (fun i _ => t.length + u.length - (intOf i).toNat)
  case atStart => exact ⟨0, Nat.zero_le _, rfl, T0.out⟩
  case round =>
      obtain ⟨m, hm, rfl, hT⟩ := hrel
      have TM : Hid (MAt _ _ _ _ _) := hT
      have hz := hT.below.size
      obtain ⟨hg1, hgl⟩ := hT.lt
      have hJ : t.length + m < (shN t u m).length ∨ m = u.length := by rw [HSL.out]; omega
      by_cases hlm : m < u.length
      · have hJ' : t.length + m < (shN t u m).length := by rw [HSL.out]; omega
        obtain ⟨c0, c1, c2, c3⟩ := hT.all _ hJ'
        obtain ⟨c4, c5⟩ := hT.cells _ hJ'
        rw [shN_at t u m hlm] at c0 c1 c2 c3 c4 c5
        have hQ : ∀ y, Below wr.heap.size wr y → MAt w0 y g cap (shN t u m) := fun y hy => hT.quiet hy
        have HQ : Hid _ := hQ
        clear hQ hJ
        by_cases hl : (ndAt u m).l = -1
        · have hr := leaf_lr HUF.out hlm hl
          have HLF : Hid (leafB ⟨(ndAt u m).key, (ndAt u m).inf, (ndAt u m).wt, (ndAt u m).val, (ndAt u m).l, (ndAt u m).r⟩ = true) := leafB_yes hl hr
          have HS : Hid (shN t u (m + 1) = shN t u m) := shN_leaf t u m hlm hl
          clear hT hl hr
          generalize hJJ : t.length + m = J at *
          have HJJ : Hid _ := hJJ
          have j0 : (0 : Int) ≤ (J : Int) := Int.natCast_nonneg _
          have j1 : (J : Int) < ((t.length + u.length : Nat) : Int) := by omega
          have j2 : J ≤ 1000000 := by omega
          clear hJJ
          go_wp2_with (first | (go_at_call 36; refine (isLeaf_any _ _ _ _ _ _ _).mono ?_; rintro e w3 ⟨rfl, hb3⟩; rw [HLF.out]; have TQ : Hid (MAt _ _ _ _ _) := HQ.out _ hb3; clear hb3))
          exact ⟨⟨m + 1, by omega, by rw [show t.length + (m + 1) = J + 1 by have := HJJ.out; omega]; go_num, by rw [HS.out]; exact TQ.out⟩, by simp [intOf]; omega⟩
        · obtain ⟨l, r, hl', hr', hll, hrl⟩ := inner_lr HUF.out hlm (leafB_no hl)
          have HLF : Hid (leafB ⟨(ndAt u m).key, (ndAt u m).inf, (ndAt u m).wt, (ndAt u m).val, (l : Int), (r : Int)⟩ = false) := leafB_no (by show (l : Int) ≠ -1; omega)
          rw [hl'] at c4
          rw [hr'] at c5
          have HS : Hid _ := shN_inner t u m l r hlm hl' hr'
          have l0 : (0 : Int) ≤ (l : Int) := Int.natCast_nonneg _
          have r0 : (0 : Int) ≤ (r : Int) := Int.natCast_nonneg _
          have l1 : (l : Int) ≤ 100000 := by omega
          have r1 : (r : Int) ≤ 100000 := by omega
          have tl : (t.length : Int) ≤ 100000 := by omega
          have HD : Hid (∀ y, MAt w0 y g cap (shN t u m) → (y.cell? ⟨g, (t.length + m) * 6 + 4, none⟩ = some (.int .i64 (l : Int)) ∧ y.frozen? ⟨g, (t.length + m) * 6 + 4, none⟩ = false) ∧ (y.cell? ⟨g, (t.length + m) * 6 + 5, none⟩ = some (.int .i64 (r : Int)) ∧ y.frozen? ⟨g, (t.length + m) * 6 + 5, none⟩ = false)) := fun y hy => by have := hy.cells _ hJ'; rwa [shN_at t u m hlm, hl', hr'] at this
          clear hT hl hl' hr'
          have HEL : Hid ((setL (shN t u m) (t.length + m) ((l : Int) + (t.length : Int))).length = (shN t u m).length) := setL_length _ _ _
          have HJL : Hid (t.length + m < (shN t u m).length) := hJ'
          clear hJ'
          generalize hJJ : t.length + m = J at *
          have HJJ : Hid _ := hJJ
          have j0 : (0 : Int) ≤ (J : Int) := Int.natCast_nonneg _
          have j1 : (J : Int) < ((t.length + u.length : Nat) : Int) := by omega
          have j2 : J ≤ 1000000 := by omega
          have n3 : J * 6 + 4 ≠ J * 6 + 5 := by omega
          have n4 : J * 6 + 5 ≠ J * 6 + 4 := by omega
          clear hJJ
          go_wp2_with (first | (go_at_call 36; refine (isLeaf_any _ _ _ _ _ _ _).mono ?_; rintro e w3 ⟨rfl, hb3⟩; rw [HLF.out]; have TQ : Hid (MAt _ _ _ _ _) := HQ.out _ hb3; obtain ⟨d4, d5⟩ := HD.out _ TQ.out; have hz3 := hb3.size; clear hb3))
          exact ⟨⟨m + 1, by omega, by rw [show t.length + (m + 1) = J + 1 by have := HJJ.out; omega]; go_num, by rw [← HS.out]; exact (TQ.out.putL J _ HJL.out hg1).putR J _ (by rw [HEL.out]; exact HJL.out) hg1⟩, by simp [intOf]; omega⟩
      · obtain rfl : m = u.length := by omega
        have TA : Hid (MAt w0 wr g cap (bothL t u)) := by rw [← shN_all]; exact hT
        have BW : Hid (Below w.heap.size w wr) := HW0.out.trans (hT.below.mono HW0.out.size)
        have HBL : Hid ((bothL t u).length = t.length + u.length) := both_length t u
        clear hT hJ
        have zt : (t.length : Int) ≤ 1000000 := by omega
        have hbw := BW.out.size
        go_wp2_with fail
        refine (parents_any _ b o c t wr (HA.out.below BW.out) hpos (by omega) HTF.out.good.node).mono ?_
        rintro e w4 ⟨g4, rfl, hi4, hg4, hgl4, hb4⟩
        have i4 := (hi4 q hq).1
        simp only [HUP.out] at i4
        have TB : Hid (MAt w0 w4 g cap (bothL t u)) := TA.out.quiet hb4
        have B4 : Hid (Below w.heap.size w w4) := BW.out.trans (hb4.mono BW.out.size)
        obtain ⟨c4, c5⟩ := TB.out.cells x (by rw [HBL.out]; omega)
        rw [both_left t u x hx] at c4 c5
        rw [HC.out] at c4
        have hg0 := TB.out.lt.1
        have hgl5 := TB.out.lt.2
        have hz4 := hb4.size
        clear hi4 hb4
        go_wp2_with fail
        have hx := below_any _ g 0 cap (setL (bothL t u) x (t.length : Int)) 0 L _ (TB.out.putL x (t.length : Int) (by rw [HBL.out]; omega) hg0).nodes HL.out (by omega) (by rw [setL_length, HBL.out]; omega)
        rw [setL_length, HBL.out] at hx
        refine hx.mono ?_
        rintro e w5 ⟨v5, rfl, ho5, hb5⟩
        have O5 : Hid (World.ownsRow _ _ _ _ _ _ _) := ho5
        have hsB : Below w.heap.size w (w4.setCell ⟨g, x * 6 + 4, none⟩ (.int .i64 (t.length : Int))) := B4.out.setCell (show w.heap.size ≤ g by have := HW0.out.size; omega) _
        have B5 : Hid (Below w.heap.size w w5) := hsB.trans (hb5.mono (by simpa using B4.out.size))
        have hs5 : w.heap.size ≤ w4.heap.size := B4.out.size
        clear ho5 hb5 hx
        go_wp2_with fail
        go_ret
        refine ⟨_, rfl, ?_, B5.out⟩
        rw [← HLB.out.1, ← HLB.out.2]
        exact owns_down O5.out (by simpa using hs5)
set_option maxRecDepth 100000 in
set_option maxHeartbeats 2000000 in
theorem grafted_r (b o c q b2 o2 c2 : Nat) (t u : NL) (w : World) (ht : NodesAt w (some ⟨b, o, none⟩) b o t) (hu : NodesAt w (some ⟨b2, o2, none⟩) b2 o2 u) (hf : InForm t) (huf : InForm u) (hq : q < t.length) (hbt : t.length ≤ 100000) (hbu : u.length ≤ 100000) (h0 : q ≠ 0) (x : Nat) (hx : x < t.length) (hcl : (ndAt t x).l ≠ (q : Int)) (hc : (ndAt t x).r = (q : Int)) :
    Calls Tryd.prog 26 #[.slice (some ⟨b, o, none⟩) t.length c, .int .i64 (q : Int), .slice (some ⟨b2, o2, none⟩) u.length c2] w fun e w' => ∃ v, e = .returned v ∧ w'.ownsRow w.heap.size 40 6 v (graB t q u).size (ndCells ((graB t q u).lay 0)) ∧ Below w.heap.size w w' := by
  have HA : Hid (NodesAt _ _ _ _ _) := ht
  have HU : Hid (NodesAt _ _ _ _ _) := hu
  have HTF : Hid (InForm t) := hf
  have HUF : Hid (InForm u) := huf
  have hpos := hf.pos
  have hupos := huf.pos
  have hbl := ht.lt (by omega)
  have hul := hu.lt (by omega)
  have HSL : Hid (∀ m, (shN t u m).length = t.length + u.length) := shN_length t u
  have HTU : Hid ((t ++ u).length = t.length + u.length) := List.length_append
  clear ht hu hf huf
  obtain ⟨L, hL, hp, hs, hlb⟩ := graft_in (u := u) HTF.out HUF.out hq h0 (repl_R HTF.out hx hcl hc) (ren_R hx)
  have HL : Hid (Tree _ _ _) := hL
  have HLB : Hid (partL (setR (bothL t u) x (t.length : Int)) L = (graB t q u).lay 0 ∧ L.length = (graB t q u).size) := ⟨hp, hs⟩
  have HUP : Hid (upN t t.length q = (x : Int)) := up_child HTF.out.good hx (Or.inr hc) t.length hx (Nat.le_refl _)
  have x0 : (0 : Int) ≤ (x : Int) := Int.natCast_nonneg _
  have x1 : (x : Int) < ((t.length + u.length : Nat) : Int) := by omega
  have q0 : (0 : Int) ≤ (q : Int) := Int.natCast_nonneg _
  have q1 : (q : Int) < (t.length : Int) := by omega
  have dq : ((q : Int) == 0) = false := beq_eq_false_iff_ne.2 (by omega)
  have dl : ((ndAt t x).l == (q : Int)) = false := beq_eq_false_iff_ne.2 hcl
  clear hc hcl
  clear hL hp hs h0
  go_enter Tryd.func26, Tryd.ntmps26
  go_wp2_with fail
  have hx := nconcat_any (some ⟨b, o, none⟩) (some ⟨b2, o2, none⟩) b o c b2 o2 c2 w.heap.size 2 t u (w.alloc (.cells #[.slice (some ⟨b, o, none⟩) t.length c, .slice (some ⟨b2, o2, none⟩) u.length c2] 22)) (HA.out.below (below_alloc w _)) (fun h => by cases h) (HU.out.below (below_alloc w _)) (fun h => by cases h) (by omega) (by simp) (cell_new w _ _ 0) (cell_new w _ _ 1)
  refine hx.mono ?_
  rintro e w2 ⟨v2, rfl, hb2, ho2⟩
  rw [HTU.out] at ho2
  obtain ⟨g, cap, rfl, -, -, -, -, -, -⟩ := owns_some ho2 (by omega)
  clear hx
  have HB2 : Hid (Below _ _ _) := hb2
  have HO2 : Hid (World.ownsRow _ _ _ _ _ _ _) := ho2
  clear hb2 ho2
  go_wp2_with fail
  obtain ⟨w0, hw0⟩ : ∃ w0, w0 = w.alloc (.cells #[.slice (some ⟨b, o, none⟩) t.length c, .slice (some ⟨b2, o2, none⟩) u.length c2] 22) := ⟨_, rfl⟩
  have HW0 : Hid (Below w.heap.size w w0) := by rw [hw0]; exact below_alloc _ _
  have T0 : Hid (MAt w0 w2 g cap (shN t u 0)) := by
    rw [hw0]
    exact ⟨by rw [shN_zero, HTU.out]; exact HO2.out, HB2.out⟩
  clear hw0
  go_loopw [9] (fun i wr => ∃ m : Nat, m ≤ u.length ∧ i = .int .i64 ((t.length + m : Nat) : Int) ∧ MAt w0 wr g cap (shN t u m)) (fun i _ => t.length + u.length - (intOf i).toNat)
  case atStart => exact ⟨0, Nat.zero_le _, rfl, T0.out⟩
  case round =>
      obtain ⟨m, hm, rfl, hT⟩ := hrel
      have TM : Hid (MAt _ _ _ _ _) := hT
      have hz := hT.below.size
      obtain ⟨hg1, hgl⟩ := hT.lt
      have hJ : t.length + m < (shN t u m).length ∨ m = u.length := by rw [HSL.out]; omega
      by_cases hlm : m < u.length
      · have hJ' : t.length + m < (shN t u m).length := by rw [HSL.out]; omega
        obtain ⟨c0, c1, c2, c3⟩ := hT.all _ hJ'
        obtain ⟨c4, c5⟩ := hT.cells _ hJ'
        rw [shN_at t u m hlm] at c0 c1 c2 c3 c4 c5
        have hQ : ∀ y, Below wr.heap.size wr y → MAt w0 y g cap (shN t u m) := fun y hy => hT.quiet hy
        have HQ : Hid _ := hQ
        clear hQ hJ
        by_cases hl : (ndAt u m).l = -1
        · have hr := leaf_lr HUF.out hlm hl
          have HLF : Hid (leafB ⟨(ndAt u m).key, (ndAt u m).inf, (ndAt u m).wt, (ndAt u m).val, (ndAt u m).l, (ndAt u m).r⟩ = true) := leafB_yes hl hr
          have HS : Hid (shN t u (m + 1) = shN t u m) := shN_leaf t u m hlm hl
          clear hT hl hr
          generalize hJJ : t.length + m = J at *
          have HJJ : Hid _ := hJJ
          have j0 : (0 : Int) ≤ (J : Int) := Int.natCast_nonneg _
          have j1 : (J : Int) < ((t.length + u.length : Nat) : Int) := by omega
          have j2 : J ≤ 1000000 := by omega
          clear hJJ
          go_wp2_with (first | (go_at_call 36; refine (isLeaf_any _ _ _ _ _ _ _).mono ?_; rintro e w3 ⟨rfl, hb3⟩; rw [HLF.out]; have TQ : Hid (MAt _ _ _ _ _) := HQ.out _ hb3; clear hb3))
          exact ⟨⟨m + 1, by omega, by rw [show t.length + (m + 1) = J + 1 by have := HJJ.out; omega]; go_num, by rw [HS.out]; exact TQ.out⟩, by simp [intOf]; omega⟩
        · obtain ⟨l, r, hl', hr', hll, hrl⟩ := inner_lr HUF.out hlm (leafB_no hl)
          have HLF : Hid (leafB ⟨(ndAt u m).key, (ndAt u m).inf, (ndAt u m).wt, (ndAt u m).val, (l : Int), (r : Int)⟩ = false) := leafB_no (by show (l : Int) ≠ -1; omega)
          rw [hl'] at c4
          rw [hr'] at c5
          have HS : Hid _ := shN_inner t u m l r hlm hl' hr'
          have l0 : (0 : Int) ≤ (l : Int) := Int.natCast_nonneg _
          have r0 : (0 : Int) ≤ (r : Int) := Int.natCast_nonneg _
          have l1 : (l : Int) ≤ 100000 := by omega
          have r1 : (r : Int) ≤ 100000 := by omega
          have tl : (t.length : Int) ≤ 100000 := by omega
          have HD : Hid (∀ y, MAt w0 y g cap (shN t u m) → (y.cell? ⟨g, (t.length + m) * 6 + 4, none⟩ = some (.int .i64 (l : Int)) ∧ y.frozen? ⟨g, (t.length + m) * 6 + 4, none⟩ = false) ∧ (y.cell? ⟨g, (t.length + m) * 6 + 5, none⟩ = some (.int .i64 (r : Int)) ∧ y.frozen? ⟨g, (t.length + m) * 6 + 5, none⟩ = false)) := fun y hy => by have := hy.cells _ hJ'; rwa [shN_at t u m hlm, hl', hr'] at this
          clear hT hl hl' hr'
          have HEL : Hid ((setL (shN t u m) (t.length + m) ((l : Int) + (t.length : Int))).length = (shN t u m).length) := setL_length _ _ _
          have HJL : Hid (t.length + m < (shN t u m).length) := hJ'
          clear hJ'
          generalize hJJ : t.length + m = J at *
          have HJJ : Hid _ := hJJ
          have j0 : (0 : Int) ≤ (J : Int) := Int.natCast_nonneg _
          have j1 : (J : Int) < ((t.length + u.length : Nat) : Int) := by omega
          have j2 : J ≤ 1000000 := by omega
          have n3 : J * 6 + 4 ≠ J * 6 + 5 := by omega
          have n4 : J * 6 + 5 ≠ J * 6 + 4 := by omega
          clear hJJ
          go_wp2_with (first | (go_at_call 36; refine (isLeaf_any _ _ _ _ _ _ _).mono ?_; rintro e w3 ⟨rfl, hb3⟩; rw [HLF.out]; have TQ : Hid (MAt _ _ _ _ _) := HQ.out _ hb3; obtain ⟨d4, d5⟩ := HD.out _ TQ.out; have hz3 := hb3.size; clear hb3))
          exact ⟨⟨m + 1, by omega, by rw [show t.length + (m + 1) = J + 1 by have := HJJ.out; omega]; go_num, by rw [← HS.out]; exact (TQ.out.putL J _ HJL.out hg1).putR J _ (by rw [HEL.out]; exact HJL.out) hg1⟩, by simp [intOf]; omega⟩
      · obtain rfl : m = u.length := by omega
        have TA : Hid (MAt w0 wr g cap (bothL t u)) := by rw [← shN_all]; exact hT
        have BW : Hid (Below w.heap.size w wr) := HW0.out.trans (hT.below.mono HW0.out.size)
        have HBL : Hid ((bothL t u).length = t.length + u.length) := both_length t u
        clear hT hJ
        have zt : (t.length : Int) ≤ 1000000 := by omega
        have hbw := BW.out.size
        go_wp2_with fail
        refine (parents_any _ b o c t wr (HA.out.below BW.out) hpos (by omega) HTF.out.good.node).mono ?_
        rintro e w4 ⟨g4, rfl, hi4, hg4, hgl4, hb4⟩
        have i4 := (hi4 q hq).1
        simp only [HUP.out] at i4
        have TB : Hid (MAt w0 w4 g cap (bothL t u)) := TA.out.quiet hb4
        have B4 : Hid (Below w.heap.size w w4) := BW.out.trans (hb4.mono BW.out.size)
        obtain ⟨c4, c5⟩ := TB.out.cells x (by rw [HBL.out]; omega)
        rw [both_left t u x hx] at c4 c5
        have hg0 := TB.out.lt.1
        have hgl5 := TB.out.lt.2
        have hz4 := hb4.size
        clear hi4 hb4
        go_wp2_with fail
        have hx := below_any _ g 0 cap (setR (bothL t u) x (t.length : Int)) 0 L _ (TB.out.putR x (t.length : Int) (by rw [HBL.out]; omega) hg0).nodes HL.out (by omega) (by rw [setR_length, HBL.out]; omega)
        rw [setR_length, HBL.out] at hx
        refine hx.mono ?_
        rintro e w5 ⟨v5, rfl, ho5, hb5⟩
        have O5 : Hid (World.ownsRow _ _ _ _ _ _ _) := ho5
        have hsB : Below w.heap.size w (w4.setCell ⟨g, x * 6 + 5, none⟩ (.int .i64 (t.length : Int))) := B4.out.setCell (show w.heap.size ≤ g by have := HW0.out.size; omega) _
        have B5 : Hid (Below w.heap.size w w5) := hsB.trans (hb5.mono (by simpa using B4.out.size))
        have hs5 : w.heap.size ≤ w4.heap.size := B4.out.size
        clear ho5 hb5 hx
        go_wp2_with fail
        go_ret
        refine ⟨_, rfl, ?_, B5.out⟩
        rw [← HLB.out.1, ← HLB.out.2]
        exact owns_down O5.out (by simpa using hs5)
theorem grafted_any (b o c q b2 o2 c2 : Nat) (t u : NL) (w : World) (ht : NodesAt w (some ⟨b, o, none⟩) b o t) (hu : NodesAt w (some ⟨b2, o2, none⟩) b2 o2 u) (hf : InForm t) (huf : InForm u) (hq : q < t.length) (hbt : t.length ≤ 100000) (hbu : u.length ≤ 100000) :
    Calls Tryd.prog 26 #[.slice (some ⟨b, o, none⟩) t.length c, .int .i64 (q : Int), .slice (some ⟨b2, o2, none⟩) u.length c2] w fun e w' => ∃ v, e = .returned v ∧ w'.ownsRow w.heap.size 40 6 v (graB t q u).size (ndCells ((graB t q u).lay 0)) ∧ Below w.heap.size w w' := by
  by_cases h0 : q = 0
  · exact grafted_top b o c q b2 o2 c2 t u w ht hu hf huf hq hbt hbu h0
  · obtain ⟨L, h1, h2, h3⟩ := hf.tree
    obtain ⟨A, B, x, -, hx, hc⟩ := tree_up h1 q (all_in h2 h1.all h3 q hq) h0
    have hxl := h1.all x hx
    by_cases hl : (ndAt t x).l = (q : Int)
    · exact grafted_l b o c q b2 o2 c2 t u w ht hu hf huf hq hbt hbu h0 x hxl hl
    · rcases hc with hc | hc
      · exact absurd hc hl
      · exact grafted_r b o c q b2 o2 c2 t u w ht hu hf huf hq hbt hbu h0 x hxl hl hc
end Go.Proofs.YtkioahkfjgbgdaaDoor


/- Layer 16: Graft of both, whole. -/

import Derived.Test.YtkioahkfjgbgdaaDoorTGra

namespace Go.Proofs.YtkioahkfjgbgdaaDoor

open Go.RowKit

attribute [local go_sem ↓] Go.wp_at_zero Go.wp_at_succ

/-- The reference's table: the second one behind the first, its root at the place. -/
def alN (t u : NL) (m : Nat) : NL := t ++ ((u.take m).drop 1).map (shiftD (t.length - 1))
def allL (t u : NL) (q : Nat) : NL := (alN t u u.length).set q (shiftD (t.length - 1) (ndAt u 0))
theorem alN_one (t u : NL) : alN t u 1 = t := by
  unfold alN
  rw [List.drop_eq_nil_of_le (by simp; omega)]
  simp
theorem alN_length (t u : NL) (m : Nat) (h1 : 1 ≤ m) (h : m ≤ u.length) : (alN t u m).length = t.length + (m - 1) := by simp [alN]; omega
theorem alN_succ (t u : NL) (m : Nat) (h1 : 1 ≤ m) (h : m < u.length) : alN t u (m + 1) = alN t u m ++ [shiftD (t.length - 1) (ndAt u m)] := by
  unfold alN
  have e2 : u.take (m + 1) = u.take m ++ [ndAt u m] := by
    rw [List.take_succ_eq_append_getElem h]
    simp [ndAt, List.getD_eq_getElem?_getD, List.getElem?_eq_getElem h]
  rw [e2, List.drop_append_of_le_length (by simp; omega)]
  simp
theorem allL_length (t u : NL) (q : Nat) (h : 0 < u.length) : (allL t u q).length = t.length + (u.length - 1) := by
  unfold allL
  rw [List.length_set, alN_length _ _ _ h (Nat.le_refl _)]
theorem allL_left (t u : NL) (q p : Nat) (hp : p < t.length) (hn : p ≠ q) : ndAt (allL t u q) p = ndAt t p := by
  unfold allL
  rw [ndAt_set_ne _ _ _ _ hn]
  unfold ndAt alN
  rw [List.getD_eq_getElem?_getD, List.getD_eq_getElem?_getD, List.getElem?_append_left hp]
theorem allL_here (t u : NL) (q : Nat) (hq : q < t.length) (h : 0 < u.length) : ndAt (allL t u q) q = shiftD (t.length - 1) (ndAt u 0) := by
  unfold allL
  exact ndAt_set _ _ _ (by rw [alN_length _ _ _ h (Nat.le_refl _)]; omega)
theorem allL_right (t u : NL) (q x : Nat) (hq : q < t.length) (h1 : 1 ≤ x) (h : x < u.length) : ndAt (allL t u q) (t.length - 1 + x) = shiftD (t.length - 1) (ndAt u x) := by
  unfold allL
  rw [ndAt_set_ne _ _ _ _ (by omega)]
  unfold ndAt alN
  rw [List.getD_eq_getElem?_getD, List.getElem?_append_right (by omega), List.getElem?_map, List.take_length, List.getElem?_drop, show 1 + (t.length - 1 + x - t.length) = x by omega, List.getElem?_eq_getElem h]
  simp [List.getD_eq_getElem?_getD, List.getElem?_eq_getElem h]
theorem repl_all {t u : NL} {q : Nat} (hu : 0 < u.length) : Repl t (allL t u q) q q := by
  intro p hp hne
  rw [allL_left t u q p hp hne, allL_length t u q hu]
  refine ⟨by omega, rfl, ?_, ?_⟩ <;> split <;> simp_all
theorem ren_all {t u : NL} {q : Nat} (hq : q < t.length) (hu : InForm u) : Ren u (allL t u q) (fun x => if x = 0 then q else t.length - 1 + x) := by
  intro x hx
  have e : ndAt (allL t u q) (if x = 0 then q else t.length - 1 + x) = shiftD (t.length - 1) (ndAt u x) := by
    by_cases h : x = 0
    · rw [if_pos h, h]; exact allL_here t u q hq hu.pos
    · rw [if_neg h]; exact allL_right t u q x hq (by omega) hx
  refine ⟨?_, ?_, ?_, ?_⟩
  · rw [allL_length t u q hu.pos]
    show (if x = 0 then q else t.length - 1 + x) < _
    split <;> omega
  · show ndP (ndAt (allL t u q) (if x = 0 then q else t.length - 1 + x)) = _
    rw [e]; unfold shiftD; split <;> rfl
  · intro hl hr
    show (ndAt (allL t u q) (if x = 0 then q else t.length - 1 + x)).l = -1 ∧ (ndAt (allL t u q) (if x = 0 then q else t.length - 1 + x)).r = -1
    rw [e]; unfold shiftD; rw [if_pos hl]; exact ⟨hl, hr⟩
  · intro l r hl hr
    have l1 := (child_pos hu.good hx (Or.inl hl)).1
    have r1 := (child_pos hu.good hx (Or.inr hr)).1
    show (ndAt (allL t u q) (if x = 0 then q else t.length - 1 + x)).l = ((if l = 0 then q else t.length - 1 + l : Nat) : Int) ∧ (ndAt (allL t u q) (if x = 0 then q else t.length - 1 + x)).r = ((if r = 0 then q else t.length - 1 + r : Nat) : Int)
    rw [e, if_neg (by omega), if_neg (by omega)]
    unfold shiftD
    rw [if_neg (by omega)]
    simp only [hl, hr]
    exact ⟨by omega, by omega⟩
theorem graft_ref {t u : NL} {q : Nat} (hf : InForm t) (hu : InForm u) (hq : q < t.length) :
    ∃ L Mq, Tree (allL t u q) 0 L ∧ partL (allL t u q) L = (graB t q u).lay 0 ∧ L.length = (graB t q u).size ∧ Tree t q Mq ∧ L.length + Mq.length = t.length + u.length := by
  obtain ⟨L, b, bu, Mq, h1, h2, h3, h4, h5, h6, h7, h8⟩ := graft_lay hf hu hq (repl_all (q := q) hu.pos) (f := fun x => if x = 0 then q else t.length - 1 + x) rfl (ren_all hq hu) (fun x y hx hy e => by
    have e' : (if x = 0 then q else t.length - 1 + x) = (if y = 0 then q else t.length - 1 + y) := e
    have := hf.pos
    split at e' <;> split at e' <;> omega) (fun x hx => by
    show (if x = 0 then q else t.length - 1 + x) = q ∨ t.length ≤ (if x = 0 then q else t.length - 1 + x)
    have := hf.pos
    split
    · exact Or.inl rfl
    · exact Or.inr (by omega)) (fun e => e)
  rw [graB_of h3 h4]
  exact ⟨L, Mq, h1, h5, h6, h7, h8⟩
theorem MAt.six {w0 x : World} {g cap : Nat} {T : NL} (h : MAt w0 x g cap T) (i : Nat) (hi : i < T.length) : (x.cell? ⟨g, i * 6, none⟩ = some (.int .i64 (ndAt T i).key) ∧ x.frozen? ⟨g, i * 6, none⟩ = false) ∧ (x.cell? ⟨g, i * 6 + 1, none⟩ = some (.int .i64 (ndAt T i).inf) ∧ x.frozen? ⟨g, i * 6 + 1, none⟩ = false) ∧ (x.cell? ⟨g, i * 6 + 2, none⟩ = some (.int .i64 (ndAt T i).wt) ∧ x.frozen? ⟨g, i * 6 + 2, none⟩ = false) ∧ (x.cell? ⟨g, i * 6 + 3, none⟩ = some (.int .i64 (ndAt T i).val) ∧ x.frozen? ⟨g, i * 6 + 3, none⟩ = false) ∧ (x.cell? ⟨g, i * 6 + 4, none⟩ = some (.int .i64 (ndAt T i).l) ∧ x.frozen? ⟨g, i * 6 + 4, none⟩ = false) ∧ (x.cell? ⟨g, i * 6 + 5, none⟩ = some (.int .i64 (ndAt T i).r) ∧ x.frozen? ⟨g, i * 6 + 5, none⟩ = false) := by
  obtain ⟨g', cap', hv, -, -, -, -, hc, hfr⟩ := owns_some h.own (by omega)
  injection hv with e1 _ _
  injection e1 with e1
  injection e1 with e1 _ _
  subst e1
  obtain ⟨b0, b1, b2, b3, b4, b5⟩ := ndCells_get T i hi
  exact ⟨⟨(hc _ (by omega)).trans b0, hfr _⟩, ⟨(hc _ (by omega)).trans b1, hfr _⟩, ⟨(hc _ (by omega)).trans b2, hfr _⟩, ⟨(hc _ (by omega)).trans b3, hfr _⟩, ⟨(hc _ (by omega)).trans b4, hfr _⟩, (hc _ (by omega)).trans b5, hfr _⟩
theorem MAt.put6 {w0 x : World} {g cap : Nat} {T : NL} (h : MAt w0 x g cap T) (i : Nat) (n : NdD) (hi : i < T.length) (hg : w0.heap.size ≤ g) : MAt w0 ((((((x.setCell ⟨g, i * 6, none⟩ (.int .i64 n.key)).setCell ⟨g, i * 6 + 1, none⟩ (.int .i64 n.inf)).setCell ⟨g, i * 6 + 2, none⟩ (.int .i64 n.wt)).setCell ⟨g, i * 6 + 3, none⟩ (.int .i64 n.val)).setCell ⟨g, i * 6 + 4, none⟩ (.int .i64 n.l)).setCell ⟨g, i * 6 + 5, none⟩ (.int .i64 n.r)) g cap (T.set i n) := by
  refine ⟨?_, below_six h.below hg _ _ _ _ _ _⟩
  rw [ndCells_set _ _ _ hi, List.length_set]
  exact owns_put (owns_put (owns_put (owns_put (owns_put (owns_put h.own _ _) _ _) _ _) _ _) _ _) _ _
theorem MAt.apart {w0 x : World} {g cap : Nat} {T : NL} (h : MAt w0 x g cap T) (b k : Nat) (v : Value) (hb : b ≠ g) (hB : w0.heap.size ≤ b) : MAt w0 (x.setCell ⟨b, k, none⟩ v) g cap T := ⟨owns_other h.own b k v hb, h.below.setCell hB _⟩
theorem MAt.push {w0 x y : World} {g cap g' cap' : Nat} {T : NL} {n : NdD} {o : Obj} (h : MAt w0 x g cap T) (hg : (x.alloc o).grownBy y (Value.ownBlock (.slice (some ⟨g, 0, none⟩) T.length cap))) (ho : y.ownsRow w0.heap.size 40 6 (.slice (some ⟨g', 0, none⟩) (T.length + 1) cap') (T.length + 1) (ndCells T ++ [.int .i64 n.key, .int .i64 n.inf, .int .i64 n.wt, .int .i64 n.val, .int .i64 n.l, .int .i64 n.r])) : MAt w0 y g' cap' (T ++ [n]) :=
  ⟨by rw [List.length_append, ndCells_append]; exact ho, Below.grown (h.below.alloc h.below.size o) hg (by rw [World.size_alloc]; have := h.below.size; omega) (fun k q => (owns_lt h.own k q).1)⟩
theorem sixc {w : World} {b : Nat} {v0 v1 v2 v3 v4 v5 : Value} {T : TypeId} (h : w.heap[b]? = some (.cells #[v0, v1, v2, v3, v4, v5] T)) : b < w.heap.size ∧ (w.cell? ⟨b, 0, none⟩ = some v0 ∧ w.frozen? ⟨b, 0, none⟩ = false) ∧ (w.cell? ⟨b, 1, none⟩ = some v1 ∧ w.frozen? ⟨b, 1, none⟩ = false) ∧ (w.cell? ⟨b, 2, none⟩ = some v2 ∧ w.frozen? ⟨b, 2, none⟩ = false) ∧ (w.cell? ⟨b, 3, none⟩ = some v3 ∧ w.frozen? ⟨b, 3, none⟩ = false) ∧ (w.cell? ⟨b, 4, none⟩ = some v4 ∧ w.frozen? ⟨b, 4, none⟩ = false) ∧ (w.cell? ⟨b, 5, none⟩ = some v5 ∧ w.frozen? ⟨b, 5, none⟩ = false) := by
  refine ⟨(Array.getElem?_eq_some_iff.1 h).1, ⟨?_, ?_⟩, ⟨?_, ?_⟩, ⟨?_, ?_⟩, ⟨?_, ?_⟩, ⟨?_, ?_⟩, ?_, ?_⟩ <;> simp [World.cell?, World.frozen?, h]
set_option maxRecDepth 100000 in
set_option maxHeartbeats 4000000 in
theorem rPut_any (b o c q b2 o2 c2 : Nat) (t u : NL) (w : World) (ht : NodesAt w (some ⟨b, o, none⟩) b o t) (hu : NodesAt w (some ⟨b2, o2, none⟩) b2 o2 u) (hf : InForm t) (huf : InForm u) (hq : q < t.length) (hbt : t.length ≤ 100000) (hbu : u.length ≤ 100000) :
    Calls Tryd.prog 33 #[.slice (some ⟨b, o, none⟩) t.length c, .int .i64 (q : Int), .slice (some ⟨b2, o2, none⟩) u.length c2] w fun e w' => ∃ v, e = .returned v ∧ w'.ownsRow w.heap.size 40 6 v (graB t q u).size (ndCells ((graB t q u).lay 0)) ∧ Below w.heap.size w w' := by
  have HA : Hid (NodesAt _ _ _ _ _) := ht
  have HU : Hid (NodesAt _ _ _ _ _) := hu
  have HUF : Hid (InForm u) := huf
  have hpos := hf.pos
  have hupos := huf.pos
  have hbl := ht.lt (by omega)
  have hul := hu.lt (by omega)
  obtain ⟨L, Mq, hL, hp, hs, -, hlb⟩ := graft_ref hf huf hq
  have HL : Hid (Tree _ _ _) := hL
  have HLB : Hid (partL (allL t u q) L = (graB t q u).lay 0 ∧ L.length = (graB t q u).size) := ⟨hp, hs⟩
  have HLL : Hid (L.length ≤ 1000000) := by show L.length ≤ 1000000; omega
  obtain ⟨i0, hi0, hz0, hz1, hz2⟩ := info_parts nd_info'
  have HAL : Hid (∀ m, 1 ≤ m → m ≤ u.length → (alN t u m).length = t.length + (m - 1)) := alN_length t u
  have tl : (t.length : Int) ≤ 100000 := by omega
  have tl1 : (1 : Int) ≤ (t.length : Int) := by omega
  clear ht hu hf huf hL hp hs hlb
  go_enter Tryd.func33, Tryd.ntmps33
  go_wp2_with (first | (at_builtin; (refine wpList_append_all (by rfl) _ _ _ (by rfl) w.heap.size 40 i0 _ 6 48 nds_under' hi0 hz0 hz1 hz2 rfl (by omega) _ 0 [] (by rfl) ⟨rfl, Or.inr ⟨w.heap.size, 0, #[], rfl, Nat.le_refl _, heap_alloc_at _ _ _ rfl, Nat.le_refl _, (by unfold maxLen; omega), rfl, rfl⟩⟩ (some ⟨b, o, none⟩) t.length c (ndCells t) (by rfl) (fun h => by cases h) (ndCells_length _) (nodes_news (HA.out.below (below_alloc _ _))) (ndCells_all _) (by unfold maxLen; omega) (by omega) (by simp) ?_); intro v2 w2 ho2 hgrow hnl; rw [Nat.zero_add, List.nil_append] at ho2; obtain ⟨g2, cp2, rfl, hg1, hg2, -, -, -, -⟩ := owns_some ho2 hpos; have hb2 : Below w.heap.size w w2 := Below.grown (below_alloc _ _) hgrow (by simp) (by intro k hk; simp [Value.ownBlock] at hk; omega); have T0 : Hid (MAt w w2 g2 cp2 (alN t u 1)) := ⟨(by rw [alN_one]; exact ho2), hb2⟩; clear hgrow hnl ho2 hb2))
  obtain ⟨w0, hw0⟩ : ∃ w0, w0 = w := ⟨_, rfl⟩
  have HWW : Hid (w0 = w) := hw0
  rw [← hw0] at T0
  have HU0 : Hid (NodesAt w0 _ _ _ _) := (by rw [hw0]; exact HU.out)
  have hul0 : b2 < w0.heap.size := by rw [hw0]; exact hul
  clear hw0
  have HT1 : Hid (t.length = (alN t u 1).length) := by show _ = _; rw [alN_one]
  go_loopw [7, 8] (fun v i wr => ∃ (m g cap : Nat), 1 ≤ m ∧ m ≤ u.length ∧ i = .int .i64 m ∧ v = .slice (some ⟨g, 0, none⟩) (alN t u m).length cap ∧ MAt w0 wr g cap (alN t u m)) (fun _ i _ => u.length - (intOf i).toNat)
  case atStart => exact ⟨1, g2, cp2, Nat.le_refl _, hupos, rfl, by rw [← HT1.out], T0.out⟩
  case round =>
    obtain ⟨m, g, cap, h1, hm, rfl, rfl, hT⟩ := hrel
    have hz := hT.below.size
    obtain ⟨hg1, hgl⟩ := hT.lt
    have hu2 : b2 < wr.heap.size := by omega
    by_cases hlm : m < u.length
    · have m0 : (0 : Int) ≤ (m : Int) := Int.natCast_nonneg _
      have m1 : (m : Int) < (u.length : Int) := by omega
      have hTl : (alN t u m).length ≤ 300000 := by rw [HAL.out m h1 hm]; omega
      have hQ : ∀ y, Below wr.heap.size wr y → MAt w0 y g cap (alN t u m) := fun y hy => hT.quiet hy
      have HQ : Hid _ := hQ
      have HSU : Hid _ := alN_succ t u m h1 hlm
      obtain ⟨e0, e1, e2, e3, e4, e5⟩ := (HU0.out.below hT.below).cells m hlm
      have n1 : g ≠ wr.heap.size := by omega
      have n2 : wr.heap.size ≠ g := by omega
      clear hQ
      by_cases hl : (ndAt u m).l = -1
      · have hr := leaf_lr HUF.out hlm hl
        have HLF : Hid (rleafB ⟨(ndAt u m).key, (ndAt u m).inf, (ndAt u m).wt, (ndAt u m).val, (ndAt u m).l, (ndAt u m).r⟩ = true) := rleafB_yes hl
        have HSD : Hid (shiftD (t.length - 1) (ndAt u m) = ⟨(ndAt u m).key, (ndAt u m).inf, (ndAt u m).wt, (ndAt u m).val, (ndAt u m).l, (ndAt u m).r⟩) := by show shiftD _ _ = _; unfold shiftD; rw [if_pos hl]
        clear hT hl hr
        generalize hTT : alN t u m = T at *
        go_wp2_with (first | (go_at_call 34; refine (rLeaf_any _ _ _ _ _ _ _).mono ?_; rintro e w3 ⟨rfl, hb3⟩; rw [HLF.out]; have TQ : Hid (MAt w0 w3 g cap T) := HQ.out _ ((below_alloc wr _).trans (hb3.mono (by simp))); obtain ⟨bl3, ⟨y0, -⟩, ⟨y1, -⟩, ⟨y2, -⟩, ⟨y3, -⟩, y4, y5⟩ := sixc ((hb3.block wr.heap.size (by simp)).trans (heap_alloc_at _ _ _ rfl)); have hz3 := hb3.size; simp only [World.size_alloc] at hz3; clear hb3) | (at_builtin; have hq := TQ; (refine wpList_append_lies _ (by rfl) _ _ _ (by rfl) w0.heap.size 40 i0 _ 6 48 nds_under' hi0 hz0 hz1 hz2 rfl (by omega) _ T.length _ (by rfl) (TQ.out.own.alloc _) ⟨w3.heap.size, 0, none⟩ 1 1 [.int .i64 (ndAt u m).key, .int .i64 (ndAt u m).inf, .int .i64 (ndAt u m).wt, .int .i64 (ndAt u m).val, .int .i64 ((ndAt u m).l), .int .i64 ((ndAt u m).r)] (by rfl) (by rfl) (World.news_of_block (cs := #[.int .i64 (ndAt u m).key, .int .i64 (ndAt u m).inf, .int .i64 (ndAt u m).wt, .int .i64 (ndAt u m).val, .int .i64 ((ndAt u m).l), .int .i64 ((ndAt u m).r)]) (t := 40) (fr := (0, 0)) (heap_alloc_at _ _ _ (by simp))) (by simp [Value.oneCell']) (by omega) (by unfold maxLen; omega) (by omega) (by have := TQ.out.below.size; simp at this ⊢; omega) (w3.heap.size + 1) (by simp) ?_); clear hq; intro g5 c5 w5 ho5 hg5 hat5 hl5; have T5 : Hid (MAt w0 w5 g5 c5 (T ++ [⟨(ndAt u m).key, (ndAt u m).inf, (ndAt u m).wt, (ndAt u m).val, (ndAt u m).l, (ndAt u m).r⟩])) := TQ.out.push hg5 ho5; clear ho5 hg5 hat5 hl5))
        exact ⟨⟨m + 1, g5, c5, by omega, by omega, by go_num, by rw [HSU.out, List.length_append]; rfl, by rw [HSU.out, HSD.out]; exact T5.out⟩, by simp [intOf]; omega⟩
      · obtain ⟨l, r, hl', hr', hll, hrl⟩ := inner_lr HUF.out hlm (leafB_no hl)
        rw [hl'] at e4
        rw [hr'] at e5
        have HLF : Hid (rleafB ⟨(ndAt u m).key, (ndAt u m).inf, (ndAt u m).wt, (ndAt u m).val, (l : Int), (r : Int)⟩ = false) := rleafB_no (by show (l : Int) ≠ -1; omega)
        have HSD : Hid (shiftD (t.length - 1) (ndAt u m) = ⟨(ndAt u m).key, (ndAt u m).inf, (ndAt u m).wt, (ndAt u m).val, (l : Int) + (t.length : Int) - 1, (r : Int) + (t.length : Int) - 1⟩) := by
          show shiftD _ _ = _; unfold shiftD; rw [if_neg hl, hl', hr', show (l : Int) + ((t.length - 1 : Nat) : Int) = (l : Int) + (t.length : Int) - 1 by omega, show (r : Int) + ((t.length - 1 : Nat) : Int) = (r : Int) + (t.length : Int) - 1 by omega]
        have l0 : (0 : Int) ≤ (l : Int) := Int.natCast_nonneg _
        have r0 : (0 : Int) ≤ (r : Int) := Int.natCast_nonneg _
        have l1 : (l : Int) ≤ 100000 := by omega
        have r1 : (r : Int) ≤ 100000 := by omega
        clear hT hl hl' hr'
        generalize hTT : alN t u m = T at *
        go_wp2_with (first | (go_at_call 34; refine (rLeaf_any _ _ _ _ _ _ _).mono ?_; rintro e w3 ⟨rfl, hb3⟩; rw [HLF.out]; have TQ : Hid (MAt w0 w3 g cap T) := HQ.out _ ((below_alloc wr _).trans (hb3.mono (by simp))); obtain ⟨bl3, ⟨y0, -⟩, ⟨y1, -⟩, ⟨y2, -⟩, ⟨y3, -⟩, y4, y5⟩ := sixc ((hb3.block wr.heap.size (by simp)).trans (heap_alloc_at _ _ _ rfl)); have hz3 := hb3.size; simp only [World.size_alloc] at hz3; have TA : Hid (MAt w0 ((w3.setCell ⟨wr.heap.size, 4, none⟩ (.int .i64 ((l : Int) + (t.length : Int) - 1))).setCell ⟨wr.heap.size, 5, none⟩ (.int .i64 ((r : Int) + (t.length : Int) - 1))) g cap T) := (TQ.out.apart _ 4 _ n2 hz).apart _ 5 _ n2 hz; clear hb3) | (at_builtin; have hq := TQ; (refine wpList_append_lies _ (by rfl) _ _ _ (by rfl) w0.heap.size 40 i0 _ 6 48 nds_under' hi0 hz0 hz1 hz2 rfl (by omega) _ T.length _ (by rfl) (TA.out.own.alloc _) ⟨w3.heap.size, 0, none⟩ 1 1 [.int .i64 (ndAt u m).key, .int .i64 (ndAt u m).inf, .int .i64 (ndAt u m).wt, .int .i64 (ndAt u m).val, .int .i64 ((l : Int) + (t.length : Int) - 1), .int .i64 ((r : Int) + (t.length : Int) - 1)] (by rfl) (by rfl) (World.news_of_block (cs := #[.int .i64 (ndAt u m).key, .int .i64 (ndAt u m).inf, .int .i64 (ndAt u m).wt, .int .i64 (ndAt u m).val, .int .i64 ((l : Int) + (t.length : Int) - 1), .int .i64 ((r : Int) + (t.length : Int) - 1)]) (t := 40) (fr := (0, 0)) (heap_alloc_at _ _ _ (by simp))) (by simp [Value.oneCell']) (by omega) (by unfold maxLen; omega) (by omega) (by have := TA.out.below.size; simp at this ⊢; omega) (w3.heap.size + 1) (by simp) ?_); clear hq; intro g5 c5 w5 ho5 hg5 hat5 hl5; have T5 : Hid (MAt w0 w5 g5 c5 (T ++ [⟨(ndAt u m).key, (ndAt u m).inf, (ndAt u m).wt, (ndAt u m).val, (l : Int) + (t.length : Int) - 1, (r : Int) + (t.length : Int) - 1⟩])) := TA.out.push hg5 ho5; clear ho5 hg5 hat5 hl5))
        exact ⟨⟨m + 1, g5, c5, by omega, by omega, by go_num, by rw [HSU.out, List.length_append]; rfl, by rw [HSU.out, HSD.out]; exact T5.out⟩, by simp [intOf]; omega⟩
    · obtain rfl : m = u.length := by omega
      have hTl : (alN t u u.length).length ≤ 300000 := by rw [HAL.out _ h1 hm]; omega
      have hqT : q < (alN t u u.length).length := by rw [HAL.out _ h1 hm]; omega
      have HQ : Hid (∀ y, Below wr.heap.size wr y → MAt w0 y g cap (alN t u u.length)) := fun y hy => hT.quiet hy
      have B0 : Hid (Below w.heap.size w wr) := by rw [← HWW.out]; exact hT.below
      have e := (HU0.out.below hT.below).cells 0 hupos
      simp only [Nat.zero_mul, Nat.add_zero] at e
      obtain ⟨e0, e1, e2, e3, e4, e5⟩ := e
      have n1 : g ≠ wr.heap.size := by omega
      have n2 : wr.heap.size ≠ g := by omega
      have q0 : (0 : Int) ≤ (q : Int) := Int.natCast_nonneg _
      have q1 : (q : Int) < ((alN t u u.length).length : Int) := by omega
      have up0 : (0 : Int) < (u.length : Int) := by omega
      have HAB : Hid ((allL t u q).length = (alN t u u.length).length) := by show _ = _; unfold allL; simp
      by_cases hl : (ndAt u 0).l = -1
      · have hr := leaf_lr HUF.out hupos hl
        have HLF : Hid (rleafB ⟨(ndAt u 0).key, (ndAt u 0).inf, (ndAt u 0).wt, (ndAt u 0).val, (ndAt u 0).l, (ndAt u 0).r⟩ = true) := rleafB_yes hl
        have HSD : Hid (shiftD (t.length - 1) (ndAt u 0) = ⟨(ndAt u 0).key, (ndAt u 0).inf, (ndAt u 0).wt, (ndAt u 0).val, (ndAt u 0).l, (ndAt u 0).r⟩) := by show shiftD _ _ = _; unfold shiftD; rw [if_pos hl]
        have HAA : Hid (allL t u q = (alN t u u.length).set q ⟨(ndAt u 0).key, (ndAt u 0).inf, (ndAt u 0).wt, (ndAt u 0).val, (ndAt u 0).l, (ndAt u 0).r⟩) := by show _ = _; unfold allL; rw [HSD.out]
        clear hT hl hr
        generalize hTT : alN t u u.length = T at *
        go_wp2_with (first | (go_at_call 34; refine (rLeaf_any _ _ _ _ _ _ _).mono ?_; rintro e w3 ⟨rfl, hb3⟩; rw [HLF.out]; have TQ : Hid (MAt w0 w3 g cap T) := HQ.out _ ((below_alloc wr _).trans (hb3.mono (by simp))); obtain ⟨bl3, ⟨y0, -⟩, ⟨y1, -⟩, ⟨y2, -⟩, ⟨y3, -⟩, y4, y5⟩ := sixc ((hb3.block wr.heap.size (by simp)).trans (heap_alloc_at _ _ _ rfl)); have hz3 := hb3.size; simp only [World.size_alloc] at hz3; obtain ⟨s0, s1, s2, s3, s4, s5⟩ := TQ.out.six q hqT; clear hb3))
        have TP : Hid (MAt w0 _ g cap (allL t u q)) := (by rw [HAA.out]; exact TQ.out.put6 q ⟨(ndAt u 0).key, (ndAt u 0).inf, (ndAt u 0).wt, (ndAt u 0).val, (ndAt u 0).l, (ndAt u 0).r⟩ hqT hg1)
        have hx := rPart_any _ g 0 cap (allL t u q) 0 L _ TP.out.nodes HL.out HLL.out (by rw [HAB.out]; omega)
        rw [HAB.out] at hx
        refine hx.mono ?_
        rintro e w6 ⟨v6, rfl, ho6, hb6⟩
        have O6 : Hid (World.ownsRow _ _ _ _ _ _ _) := ho6
        have B6 : Hid (Below w.heap.size w w6) := (by have hy := TP.out.below; rw [HWW.out] at hy; exact hy.trans (hb6.mono hy.size))
        have hs6 : w.heap.size ≤ _ := (by have hy := TP.out.below.size; rw [HWW.out] at hy; exact hy)
        clear ho6 hb6 hx
        go_wp2_with fail
        go_ret
        refine ⟨_, rfl, ?_, B6.out⟩
        rw [← HLB.out.1, ← HLB.out.2]
        exact owns_down O6.out hs6
      · obtain ⟨l, r, hl', hr', hll, hrl⟩ := inner_lr HUF.out hupos (leafB_no hl)
        rw [hl'] at e4
        rw [hr'] at e5
        have HLF : Hid (rleafB ⟨(ndAt u 0).key, (ndAt u 0).inf, (ndAt u 0).wt, (ndAt u 0).val, (l : Int), (r : Int)⟩ = false) := rleafB_no (by show (l : Int) ≠ -1; omega)
        have HSD : Hid (shiftD (t.length - 1) (ndAt u 0) = ⟨(ndAt u 0).key, (ndAt u 0).inf, (ndAt u 0).wt, (ndAt u 0).val, (l : Int) + (t.length : Int) - 1, (r : Int) + (t.length : Int) - 1⟩) := by
          show shiftD _ _ = _; unfold shiftD; rw [if_neg hl, hl', hr', show (l : Int) + ((t.length - 1 : Nat) : Int) = (l : Int) + (t.length : Int) - 1 by omega, show (r : Int) + ((t.length - 1 : Nat) : Int) = (r : Int) + (t.length : Int) - 1 by omega]
        have HAA : Hid (allL t u q = (alN t u u.length).set q ⟨(ndAt u 0).key, (ndAt u 0).inf, (ndAt u 0).wt, (ndAt u 0).val, (l : Int) + (t.length : Int) - 1, (r : Int) + (t.length : Int) - 1⟩) := by show _ = _; unfold allL; rw [HSD.out]
        have l0 : (0 : Int) ≤ (l : Int) := Int.natCast_nonneg _
        have r0 : (0 : Int) ≤ (r : Int) := Int.natCast_nonneg _
        have l1 : (l : Int) ≤ 100000 := by omega
        have r1 : (r : Int) ≤ 100000 := by omega
        clear hT hl hl' hr'
        generalize hTT : alN t u u.length = T at *
        go_wp2_with (first | (go_at_call 34; refine (rLeaf_any _ _ _ _ _ _ _).mono ?_; rintro e w3 ⟨rfl, hb3⟩; rw [HLF.out]; have TQ : Hid (MAt w0 w3 g cap T) := HQ.out _ ((below_alloc wr _).trans (hb3.mono (by simp))); obtain ⟨bl3, ⟨y0, -⟩, ⟨y1, -⟩, ⟨y2, -⟩, ⟨y3, -⟩, y4, y5⟩ := sixc ((hb3.block wr.heap.size (by simp)).trans (heap_alloc_at _ _ _ rfl)); have hz3 := hb3.size; simp only [World.size_alloc] at hz3; have TA : Hid (MAt w0 ((w3.setCell ⟨wr.heap.size, 4, none⟩ (.int .i64 ((l : Int) + (t.length : Int) - 1))).setCell ⟨wr.heap.size, 5, none⟩ (.int .i64 ((r : Int) + (t.length : Int) - 1))) g cap T) := (TQ.out.apart _ 4 _ n2 hz).apart _ 5 _ n2 hz; obtain ⟨s0, s1, s2, s3, s4, s5⟩ := TA.out.six q hqT; clear hb3))
        have TP : Hid (MAt w0 _ g cap (allL t u q)) := (by rw [HAA.out]; exact TA.out.put6 q ⟨(ndAt u 0).key, (ndAt u 0).inf, (ndAt u 0).wt, (ndAt u 0).val, (l : Int) + (t.length : Int) - 1, (r : Int) + (t.length : Int) - 1⟩ hqT hg1)
        have hx := rPart_any _ g 0 cap (allL t u q) 0 L _ TP.out.nodes HL.out HLL.out (by rw [HAB.out]; omega)
        rw [HAB.out] at hx
        refine hx.mono ?_
        rintro e w6 ⟨v6, rfl, ho6, hb6⟩
        have O6 : Hid (World.ownsRow _ _ _ _ _ _ _) := ho6
        have B6 : Hid (Below w.heap.size w w6) := (by have hy := TP.out.below; rw [HWW.out] at hy; exact hy.trans (hb6.mono hy.size))
        have hs6 : w.heap.size ≤ _ := (by have hy := TP.out.below.size; rw [HWW.out] at hy; exact hy)
        clear ho6 hb6 hx
        go_wp2_with fail
        go_ret
        refine ⟨_, rfl, ?_, B6.out⟩
        rw [← HLB.out.1, ← HLB.out.2]
        exact owns_down O6.out hs6
end Go.Proofs.YtkioahkfjgbgdaaDoor

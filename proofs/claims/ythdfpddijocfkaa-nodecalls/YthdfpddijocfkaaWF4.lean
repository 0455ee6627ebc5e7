
/- Layer 17: the reference's reds (a row of bools), Reds and Overs. Layer 17: the reference's Reds, Overs and Violations. Layer 17: the reference's Path, Ordered and Pairs. Layer 17: the reference's First; in an ordered table a violation lies on a leaf's path. -/

import Derived.Test.YthdfpddijocfkaaWRf4

namespace Go.Proofs.Ythdfpddijocfkaa

open Go.RowKit

attribute [local go_sem ↓] Go.wp_at_zero Go.wp_at_succ

theorem bo_under : Try.prog.underlying 129 = some (.slice 4) := Try.underlying129
theorem bo_info : (Try.prog.info? 4).map (fun i => (i.zero, i.size, i.bytes)) = some (some (.bool false), 1, 1) := by kernel_rfl
def Bls (w : World) (g n : Nat) (f : Nat → Bool) : Prop := ∀ j, j < n → w.cell? ⟨g, j, none⟩ = some (.bool (f j)) ∧ w.frozen? ⟨g, j, none⟩ = false
theorem Bls.below {w w' : World} {g n : Nat} {f : Nat → Bool} (h : Bls w g n f) (hg : g < w.heap.size) (hb : Below w.heap.size w w') : Bls w' g n f :=
  fun j hj => ⟨(hb.cell (p := ⟨g, j, none⟩) hg).trans (h j hj).1, (hb.frozen (p := ⟨g, j, none⟩) hg).trans (h j hj).2⟩
theorem Bls.set {w : World} {g n : Nat} {f : Nat → Bool} (h : Bls w g n f) (k : Nat) (v : Bool) (hk : k < n) : Bls (w.setCell ⟨g, k, none⟩ (.bool v)) g n (fun x => if x = k then v else f x) := by
  intro j hj
  obtain ⟨a, b⟩ := h j hj
  refine ⟨?_, by simpa using b⟩
  by_cases e : j = k
  · subst e
    show _ = some (Value.bool (if j = j then v else f j))
    rw [if_pos rfl]
    exact World.cell?_setCell_same _ _ _ (by rw [a])
  · show _ = some (Value.bool (if j = k then v else f j))
    rw [if_neg e, World.cell?_setCell_other _ _ _ _ (fun q => e (congrArg Addr.off q).symm), a]
theorem falses (w : World) (T : TypeId) (n : Nat) : Bls (w.alloc (.cells (Array.replicate n (.bool false)) T)) w.heap.size n (fun _ => false) := by
  intro j hj
  have hh := heap_alloc_at w (.cells (Array.replicate n (.bool false)) T) w.heap.size rfl
  simp only [World.cell?, World.frozen?, hh]
  simp [hj]
theorem made_falses (n : Nat) : madeCells #[Value.bool false] n = Array.replicate n (Value.bool false) := by
  apply Array.ext
  · simp [madeCells]
  · intro i h1 h2
    simp [madeCells, Nat.mod_one]
structure ArB (w0 x : World) (n : Nat) (A : Nat → Bool) : Prop where
  ab : Bls x w0.heap.size n A
  lt : w0.heap.size < x.heap.size
  below : Below w0.heap.size w0 x
theorem ArB.quiet {w0 x y : World} {n : Nat} {A : Nat → Bool} (h : ArB w0 x n A) (hb : Below x.heap.size x y) : ArB w0 y n A := ⟨h.ab.below h.lt hb, Nat.lt_of_lt_of_le h.lt hb.size, h.below.trans (hb.mono h.below.size)⟩
theorem ArB.drew {w0 x : World} {n : Nat} {A : Nat → Bool} (h : ArB w0 x n A) : ArB w0 x.drew n A := ⟨h.ab, h.lt, h.below.drew⟩
theorem ArB.set {w0 x : World} {n : Nat} {A : Nat → Bool} (h : ArB w0 x n A) {l : Nat} (a : Bool) (hl : l < n) : ArB w0 (x.setCell ⟨w0.heap.size, l, none⟩ (.bool a)) n (fun z => if z = l then a else A z) :=
  ⟨h.ab.set l a hl, by simpa using h.lt, h.below.setCell (Nat.le_refl _) _⟩
theorem ArB.fn {w0 x : World} {n : Nat} {A A' : Nat → Bool} (h : ArB w0 x n A) (e : ∀ j, j < n → A j = A' j) : ArB w0 x n A' := ⟨fun j hj => by rw [← e j hj]; exact h.ab j hj, h.lt, h.below⟩
/-- The array of reds behind m rounds. -/
def rA (t : NL) (M : List Nat) (m : Nat) : Nat → Bool := dn (rF t) t (fun _ => false) (M.take m)
theorem rA_leaf {t : NL} {M : List Nat} {m : Nat} (h : m < M.length) (hl : (ndAt t (M.getD m 0)).l = -1) : rA t M (m + 1) = rA t M m := by
  unfold rA
  rw [take_snocL h, dn_snoc]
  unfold dn1
  rw [if_pos hl]
theorem rA_inner {t : NL} {M : List Nat} {m l r : Nat} (h : m < M.length) (hl : (ndAt t (M.getD m 0)).l = (l : Int)) (hr : (ndAt t (M.getD m 0)).r = (r : Int)) : rA t M (m + 1) = two (rA t M m) l r (redQ (ndAt t (M.getD m 0)).wt (ndAt t l).wt) (redQ (ndAt t (M.getD m 0)).wt (ndAt t r).wt) := by
  unfold rA
  rw [take_snocL h, dn_snoc]
  unfold dn1
  rw [if_neg (by omega)]
  unfold lN rN
  rw [hl, hr, Int.toNat_natCast, Int.toNat_natCast]
  rfl
/-- What is nobody's child is not written. -/
theorem dn_far {α : Type} (f : Nat → α → Nat → α) (t : NL) (c : Nat) : ∀ (M : List Nat) (A : Nat → α), (∀ y ∈ M, (ndAt t y).l ≠ -1 → lN t y ≠ c ∧ rN t y ≠ c) → dn f t A M c = A c
  | [], _, _ => rfl
  | y :: M, A, h => by
    show dn f t (dn1 f t A y) M c = A c
    rw [dn_far f t c M _ (fun z hz => h z (List.mem_cons_of_mem _ hz))]
    unfold dn1
    by_cases q : (ndAt t y).l = -1
    · rw [if_pos q]
    · obtain ⟨h1, h2⟩ := h y (by simp) q
      rw [if_neg q]
      unfold two
      rw [if_neg (Ne.symm h2), if_neg (Ne.symm h1)]
/-- A round's children are not yet written. -/
theorem rA_new {t : NL} (hf : InForm t) {M : List Nat} (hM : TreeOk t M) (hN : M.Nodup) {m c : Nat} (h : m < M.length) (hc : Child t (M.getD m 0) c) : rA t M m c = false := by
  have hml := (hM _ (getD_mem h)).1
  unfold rA
  rw [dn_far]
  intro y hy hl
  obtain ⟨i, hi, e⟩ := List.getElem_of_mem hy
  have hi2 : i < m ∧ i < M.length := by rw [List.length_take] at hi; omega
  have e2 : M.getD i 0 = y := by
    rw [List.getD_eq_getElem?_getD, List.getElem?_eq_getElem hi2.2]
    rw [List.getElem_take] at e
    simpa using e
  have hne : y ≠ M.getD m 0 := by rw [← e2]; exact getD_ne hN hi2.2 h (by omega)
  have hyM : y ∈ M := List.mem_of_mem_take hy
  obtain ⟨hyl, hyc⟩ := hM y hyM
  obtain ⟨c1, c2⟩ := child_pos hf.good hml hc
  rcases hyc with ⟨q, -⟩ | ⟨l, r, q1, q2, -⟩
  · exact absurd q hl
  · unfold lN rN
    rw [q1, q2, Int.toNat_natCast, Int.toNat_natCast]
    refine ⟨fun q => ?_, fun q => ?_⟩
    · exact hne (cnt_uniq (hf.good.one c c1 c2) hyl hml (Or.inl (by rw [q1, q])) hc)
    · exact hne (cnt_uniq (hf.good.one c c1 c2) hyl hml (Or.inr (by rw [q2, q])) hc)
end Go.Proofs.Ythdfpddijocfkaa

namespace Go.Proofs.Ythdfpddijocfkaa

open Go.RowKit

attribute [local go_sem ↓] Go.wp_at_zero Go.wp_at_succ

def castL (L : List Nat) : List Int := L.map (fun x : Nat => (x : Int))
theorem castL_length (L : List Nat) : (castL L).length = L.length := by simp [castL]
theorem isC_cast (L : List Nat) : isC (castL L) = natC L := by simp [isC, castL, natC]
theorem flt_snoc (P : Nat → Bool) {M : List Nat} {j : Nat} (h : j < M.length) : castL ((M.take (j + 1)).filter P) = if P (M.getD j 0) then castL ((M.take j).filter P) ++ [((M.getD j 0 : Nat) : Int)] else castL ((M.take j).filter P) := by
  rw [take_snocL h, List.filter_append]
  generalize M.getD j 0 = y
  cases q : P y <;> simp [castL, q]
theorem flt_len (P : Nat → Bool) (M : List Nat) (j : Nat) : (castL ((M.take j).filter P)).length ≤ M.length := by
  rw [castL_length]
  have : ((M.take j).filter P).length ≤ (M.take j).length := List.length_filter_le _ _
  have : (M.take j).length ≤ M.length := by rw [List.length_take]; omega
  omega
theorem reds_eq {t : NL} {k : Option BT} (he : keyE t = 0) (hk : Keyed t k) : castL ((kpL t).filter (rA t (kpL t) (kpL t).length)) = redsO k := by
  rcases keyE_cases he with h | h
  · obtain ⟨x, l, r, s, B, hC, rfl, hB, -⟩ := keys_tree h hk
    have e : rA t (kpL t) (kpL t).length = dn (rF t) t (fun _ => false) (kpL t) := by unfold rA; rw [List.take_length]
    rw [e]
    exact reds_inh hC.tree B (fun _ => false) 1 (kp_nodup h) hC.keys hB rfl
  · obtain ⟨rfl, -⟩ := keys_none h hk
    rw [kp_bare (by omega)]
    rfl
theorem kp_nd {t : NL} (he : keyE t = 0) : (kpL t).Nodup := by
  rcases keyE_cases he with h | h
  · exact kp_nodup h
  · rw [kp_bare (by omega)]; exact List.nodup_nil
def ovP (t : NL) (y : Nat) : Bool := overQ (ndAt t y).wt
theorem ovs_eq {t : NL} (he : keyE t = 0) : ∀ m, m ≤ (kpL t).length → ovsL (keysA t) m = castL (((kpL t).take m).filter (ovP t))
  | 0, _ => by simp [ovsL, castL]
  | m + 1, h => by
    obtain ⟨k1, -, k3⟩ := key_at he (i := m) (by omega)
    rw [flt_snoc _ (by omega)]
    show ovsL (keysA t) m ++ _ = _
    rw [ovs_eq he m (by omega), k1, k3]
    unfold ovP
    split <;> simp
/-- What places weigh above 1, together. -/
def vS (t : NL) : List Nat → Int
  | [] => 0
  | y :: L => ((ndAt t y).wt - 1) + vS t L
theorem vS_append (t : NL) : ∀ a b : List Nat, vS t (a ++ b) = vS t a + vS t b
  | [], b => by simp [vS]
  | y :: a, b => by simp only [List.cons_append, vS]; rw [vS_append t a b]; omega
theorem vS_ov {t : NL} (he : keyE t = 0) : ∀ m, m ≤ (kpL t).length → ovN (keysA t) m = vS t (((kpL t).take m).filter (ovP t))
  | 0, _ => by simp [ovN, vS]
  | m + 1, h => by
    obtain ⟨k1, -, -⟩ := key_at he (i := m) (by omega)
    rw [take_snocL (by omega), List.filter_append, vS_append]
    show ovN (keysA t) m + max _ _ = _
    rw [vS_ov he m (by omega), k1]
    have e : ovP t ((kpL t).getD m 0) = decide (1 < (ndAt t ((kpL t).getD m 0)).wt) := rfl
    by_cases q : 1 < (ndAt t ((kpL t).getD m 0)).wt
    · rw [List.filter_cons_of_pos (by rw [e]; exact decide_eq_true q)]
      simp only [List.filter_nil, vS]
      omega
    · rw [List.filter_cons_of_neg (by rw [e, decide_eq_false q]; simp)]
      simp only [List.filter_nil, vS]
      omega
theorem vS_bound {t : NL} (hw : ∀ c, 0 ≤ (ndAt t c).wt ∧ (ndAt t c).wt ≤ 1000000) : ∀ L : List Nat, -(L.length : Int) ≤ vS t L ∧ vS t L ≤ 1000000 * (L.length : Int)
  | [] => by simp [vS]
  | y :: L => by
    have := vS_bound hw L
    have := hw y
    simp only [vS, List.length_cons]
    omega
end Go.Proofs.Ythdfpddijocfkaa

namespace Go.Proofs.Ythdfpddijocfkaa

open Go.RowKit

attribute [local go_sem ↓] Go.wp_at_zero Go.wp_at_succ

set_option maxRecDepth 100000 in
set_option maxHeartbeats 2000000 in
theorem vPath_any (base : Option Addr) (b o c : Nat) (t : NL) (key : Int) (X : List Nat) (w : World) (h : NodesAt w base b o t) (hX : Way t key 0 X) (hX1 : X.length ≤ 100000) :
    Calls Try.prog 42 #[.slice base t.length c, .int .i64 key] w fun e w' => ∃ v, e = .returned v ∧ w'.ownsRow w.heap.size 3 1 v X.length (natC X) ∧ Below w.heap.size w w' := by
  have HA : Hid (NodesAt _ _ _ _ _) := h
  have HX : Hid (Way _ _ _ _) := hX
  have hlt := hX.lt
  obtain rfl : base = some ⟨b, o, none⟩ := HA.out.base (by omega)
  have hbl := HA.out.lt (by omega)
  clear h hX
  obtain ⟨i0, hi0, hz0, hz1, hz2⟩ := info_parts in_info
  go_enter Try.func42, Try.ntmps42
  go_wp2_with fail
  go_loopw [5, 6] (fun v vp wr => ∃ (V R : List Nat) (p : Nat), vp = .int .i64 (p : Int) ∧ V ++ R = X ∧ Way t key p R ∧ IRow w wr v (V ++ [p])) (fun v _ _ => X.length - slLen v)
  case atStart =>
    refine ⟨[], X, 0, rfl, rfl, HX.out, ?_, below_alloc _ _⟩
    exact World.ownsRow_lit w #[.int .i64 0] 1 (Nat.le_refl _) (by unfold maxLen; omega) rfl
  case round =>
    obtain ⟨V, R, p, rfl, hV, hW, hI⟩ := hrel
    have hp := hW.lt
    have hst := way_step hW
    have hVR : V.length + R.length = X.length := by rw [← hV]; simp
    have HM : Hid (slLen u5 = (V ++ [p]).length) := hI.len
    have hbs := hI.size
    have hbr : b < wr.heap.size := by omega
    have HC : Hid _ := (HA.out.below hI.below).cells p hp
    have T0 : Hid (IRow _ _ _ _) := hI
    have s0 : (0 : Int) ≤ (p : Int) := Int.natCast_nonneg _
    have s1 : (p : Int) < (t.length : Int) := by omega
    have HV : Hid (V ++ R = X) := hV
    clear hW hV hI
    rcases hst with ⟨hl, hr, hR⟩ | ⟨l, r, q, P', hl, hr, hq, hW', hR⟩
    · have HLF : Hid (leafB (ndAt t p) = true) := leafB_yes hl hr
      have HF : Hid (V ++ [p] = X) := by show _ = _; rw [← HV.out, hR]
      clear hl hr hR
      generalize ndAt t p = nd at *
      obtain ⟨k0, k1, k2, k3, k4, k5⟩ := nd
      simp only at HC
      obtain ⟨c0, c1, c2, c3, c4, c5⟩ := HC.out
      go_wp2_with (first | (go_at_call 54; refine (vLeaf_any _ _ _ _ _ _ _).mono ?_; rintro e w3 ⟨rfl, hb3⟩; rw [HLF.out]; have T3 : Hid (IRow w w3 u5 (V ++ [p])) := T0.out.quiet hb3; clear hb3))
      go_ret
      refine ⟨_, rfl, ?_, T3.out.below⟩
      rw [← HF.out]
      exact T3.out.own
    · have HLF : Hid (leafB (ndAt t p) = false) := leafB_no (by omega)
      have HR : Hid (R = p :: P') := hR
      have HW : Hid (Way _ _ _ _) := hW'
      have hP0 : 0 < P'.length := by obtain ⟨x, hx⟩ := hW'.head; rw [hx]; simp
      have hRl : R.length = P'.length + 1 := by rw [hR]; simp
      have hvl : (V ++ [p]).length ≤ 100000 := by simp; omega
      have HVL : Hid ((V ++ [p]).length = V.length + 1) := by show _ = _; simp
      clear hR hW'
      generalize ndAt t p = nd at *
      obtain ⟨k0, k1, k2, k3, k4, k5⟩ := nd
      simp only at HC hl hr
      subst hl hr
      obtain ⟨c0, c1, c2, c3, c4, c5⟩ := HC.out
      generalize hVp : V ++ [p] = Vp at *
      by_cases g1 : k1 = 1
      · obtain rfl : q = l := by rw [hq, if_pos (show goesL _ _ from Or.inl g1)]
        have d1 : (k1 == 1) = true := by simp [g1]
        clear g1 hq
        go_wp2_with (first | (go_at_call 54; refine (vLeaf_any _ _ _ _ _ _ _).mono ?_; rintro e w3 ⟨rfl, hb3⟩; rw [HLF.out]; have T3 : Hid (IRow w w3 u5 Vp) := T0.out.quiet hb3; have f0 := (hb3.cell (p := ⟨b, o + p * 6, none⟩) hbr).trans c0; have f1 := (hb3.cell (p := ⟨b, o + p * 6 + 1, none⟩) hbr).trans c1; have f4 := (hb3.cell (p := ⟨b, o + p * 6 + 4, none⟩) hbr).trans c4; have f5 := (hb3.cell (p := ⟨b, o + p * 6 + 5, none⟩) hbr).trans c5; have hz3 := hb3.size; clear hb3) | (at_builtin; have hq := T3; (refine wpList_append_lies _ (by rfl) _ _ _ (by rfl) w.heap.size 3 i0 _ 1 8 ins_under hi0 hz0 hz1 hz2 rfl (by omega) _ Vp.length _ (by rfl) (T3.out.own.alloc _) ⟨w3.heap.size, 0, none⟩ 1 1 [.int .i64 (q : Int)] (by rfl) (by rfl) (World.news_of_block (cs := #[.int .i64 (q : Int)]) (t := 3) (fr := (0, 0)) (heap_alloc_at _ _ _ (by simp))) (by simp [Value.oneCell']) (by omega) (by unfold maxLen; omega) (by omega) (by have := T3.out.size; simp; omega) (w3.heap.size + 1) (by simp) ?_); intro g6 c6 w6 ho hg hat hl; have T6 : Hid (IRow _ _ _ _) := T3.out.grown (q := q) hg ho; clear ho hg hat hl hq))
        refine ⟨⟨Vp, P', q, rfl, by rw [← HV.out, HR.out, ← hVp]; simp, HW.out, T6.out⟩, ?_⟩
        have h1 := HM.out; have h2 := T6.out.len; have h3 := HVL.out; simp only [List.length_append, List.length_singleton] at h1 h2 ⊢; omega
      · have d1 : (k1 == 1) = false := by simp [g1]
        by_cases g2 : key < k0
        · obtain rfl : q = l := by rw [hq, if_pos (show goesL _ _ from Or.inr g2)]
          have d2 : decide (key < k0) = true := by simp [g2]
          clear g1 hq
          go_wp2_with (first | (go_at_call 54; refine (vLeaf_any _ _ _ _ _ _ _).mono ?_; rintro e w3 ⟨rfl, hb3⟩; rw [HLF.out]; have T3 : Hid (IRow w w3 u5 Vp) := T0.out.quiet hb3; have f0 := (hb3.cell (p := ⟨b, o + p * 6, none⟩) hbr).trans c0; have f1 := (hb3.cell (p := ⟨b, o + p * 6 + 1, none⟩) hbr).trans c1; have f4 := (hb3.cell (p := ⟨b, o + p * 6 + 4, none⟩) hbr).trans c4; have f5 := (hb3.cell (p := ⟨b, o + p * 6 + 5, none⟩) hbr).trans c5; have hz3 := hb3.size; clear hb3) | (at_builtin; have hq := T3; (refine wpList_append_lies _ (by rfl) _ _ _ (by rfl) w.heap.size 3 i0 _ 1 8 ins_under hi0 hz0 hz1 hz2 rfl (by omega) _ Vp.length _ (by rfl) (T3.out.own.alloc _) ⟨w3.heap.size, 0, none⟩ 1 1 [.int .i64 (q : Int)] (by rfl) (by rfl) (World.news_of_block (cs := #[.int .i64 (q : Int)]) (t := 3) (fr := (0, 0)) (heap_alloc_at _ _ _ (by simp))) (by simp [Value.oneCell']) (by omega) (by unfold maxLen; omega) (by omega) (by have := T3.out.size; simp; omega) (w3.heap.size + 1) (by simp) ?_); intro g6 c6 w6 ho hg hat hl; have T6 : Hid (IRow _ _ _ _) := T3.out.grown (q := q) hg ho; clear ho hg hat hl hq))
          refine ⟨⟨Vp, P', q, rfl, by rw [← HV.out, HR.out, ← hVp]; simp, HW.out, T6.out⟩, ?_⟩
          have h1 := HM.out; have h2 := T6.out.len; have h3 := HVL.out; simp only [List.length_append, List.length_singleton] at h1 h2 ⊢; omega
        · obtain rfl : q = r := by rw [hq, if_neg (fun h : goesL _ _ => h.elim g1 g2)]
          have d2 : decide (key < k0) = false := by simp [g2]
          have d3 : k0 ≤ key := by omega
          clear g1 hq
          go_wp2_with (first | (go_at_call 54; refine (vLeaf_any _ _ _ _ _ _ _).mono ?_; rintro e w3 ⟨rfl, hb3⟩; rw [HLF.out]; have T3 : Hid (IRow w w3 u5 Vp) := T0.out.quiet hb3; have f0 := (hb3.cell (p := ⟨b, o + p * 6, none⟩) hbr).trans c0; have f1 := (hb3.cell (p := ⟨b, o + p * 6 + 1, none⟩) hbr).trans c1; have f4 := (hb3.cell (p := ⟨b, o + p * 6 + 4, none⟩) hbr).trans c4; have f5 := (hb3.cell (p := ⟨b, o + p * 6 + 5, none⟩) hbr).trans c5; have hz3 := hb3.size; clear hb3) | (at_builtin; have hq := T3; (refine wpList_append_lies _ (by rfl) _ _ _ (by rfl) w.heap.size 3 i0 _ 1 8 ins_under hi0 hz0 hz1 hz2 rfl (by omega) _ Vp.length _ (by rfl) (T3.out.own.alloc _) ⟨w3.heap.size, 0, none⟩ 1 1 [.int .i64 (q : Int)] (by rfl) (by rfl) (World.news_of_block (cs := #[.int .i64 (q : Int)]) (t := 3) (fr := (0, 0)) (heap_alloc_at _ _ _ (by simp))) (by simp [Value.oneCell']) (by omega) (by unfold maxLen; omega) (by omega) (by have := T3.out.size; simp; omega) (w3.heap.size + 1) (by simp) ?_); intro g6 c6 w6 ho hg hat hl; have T6 : Hid (IRow _ _ _ _) := T3.out.grown (q := q) hg ho; clear ho hg hat hl hq))
          refine ⟨⟨Vp, P', q, rfl, by rw [← HV.out, HR.out, ← hVp]; simp, HW.out, T6.out⟩, ?_⟩
          have h1 := HM.out; have h2 := T6.out.len; have h3 := HVL.out; simp only [List.length_append, List.length_singleton] at h1 h2 ⊢; omega
/-- Does a search for each leaf's key end at it? -/
def lastN (P : List Nat) : Nat := P.getD (P.length - 1) 0
noncomputable def ordQ (t : NL) : Bool := decide (∀ y ∈ kvL t (theL t 0), lastN (wayL t (ndAt t y).key) = y)
theorem way_all {t : NL} (he : formE t = 0) (key : Int) : Way t key 0 (wayL t key) ∧ 0 < (wayL t key).length ∧ (wayL t key).length ≤ 100000 ∧ ∀ y ∈ wayL t key, y < t.length := by
  obtain ⟨hbig, hf⟩ := formE_ok he
  obtain ⟨hT, -, hlen⟩ := theL_form hf
  obtain ⟨P, hP, hl⟩ := way_of key hT
  rw [wayL_of he hP]
  refine ⟨hP, ?_, by omega, hP.all⟩
  obtain ⟨P', hP'⟩ := hP.head
  rw [hP']
  simp
set_option maxRecDepth 100000 in
set_option maxHeartbeats 2000000 in
theorem vOrdered_any (base : Option Addr) (b o c : Nat) (t : NL) (w : World) (h : NodesAt w base b o t) (he : formE t = 0) :
    Calls Try.prog 37 #[.slice base t.length c] w fun e w' => e = .returned (.bool (ordQ t)) ∧ Below w.heap.size w w' := by
  have HA : Hid (NodesAt _ _ _ _ _) := h
  have HFE : Hid (formE t = 0) := he
  obtain ⟨hbig, hf⟩ := formE_ok he
  have hpos := hf.pos
  obtain rfl : base = some ⟨b, o, none⟩ := HA.out.base (by omega)
  have hbl := HA.out.lt (by omega)
  obtain ⟨hT, -, hlen⟩ := theL_form hf
  have HKV : Hid (∀ y ∈ kvL t (theL t 0), y < t.length) := fun y hy => hT.all y (List.mem_filter.1 hy).1
  have HWY : Hid (∀ key, Way t key 0 (wayL t key) ∧ 0 < (wayL t key).length ∧ (wayL t key).length ≤ 100000 ∧ ∀ y ∈ wayL t key, y < t.length) := way_all he
  have HOQ : Hid (ordQ t = decide (∀ y ∈ kvL t (theL t 0), lastN (wayL t (ndAt t y).key) = y)) := rfl
  have hXl : (kvL t (theL t 0)).length ≤ 100000 := by have := kv_len t (theL t 0); omega
  clear h he hf hT hlen
  go_enter Try.func37, Try.ntmps37
  go_wp2_with fail
  refine (vLeaves_any _ b o c t _ HA.out HFE.out).mono ?_
  rintro e w1 ⟨v1, rfl, ho1, hb1⟩
  obtain ⟨a1, c1, g1, rfl, -, -, hp1⟩ := pls_of_owns ho1
  have P1 : Hid (PlsAt w1 a1 g1 (kvL t (theL t 0))) := hp1
  have B1 : Hid (Below w.heap.size w w1) := hb1
  have hw1 := hb1.size
  clear ho1 hp1 hb1
  generalize kvL t (theL t 0) = X at *
  go_wp2_with fail
  go_loopw [4] (fun i wr => ∃ j : Nat, j ≤ X.length ∧ i = .int .i64 j ∧ (∀ i, i < j → lastN (wayL t (ndAt t (X.getD i 0)).key) = X.getD i 0) ∧ Below w1.heap.size w1 wr) (fun i _ => X.length - (intOf i).toNat)
  case atStart => exact ⟨0, Nat.zero_le _, rfl, fun i hi => by omega, Below.refl _ _⟩
  case round =>
    obtain ⟨j, hj, rfl, hall, hJ⟩ := hrel
    have HZ : Hid (Below w.heap.size w wr) := B1.out.trans (hJ.mono B1.out.size)
    have HJ : Hid (Below w1.heap.size w1 wr) := hJ
    have HALL : Hid (∀ i, i < j → lastN (wayL t (ndAt t (X.getD i 0)).key) = X.getD i 0) := hall
    have zz := hJ.size
    by_cases hlt : j < X.length
    · obtain rfl : a1 = some ⟨g1, 0, none⟩ := P1.out.base (by omega)
      have hg1 := P1.out.lt (by omega)
      have r1 := (P1.out.below hJ).cells j hlt
      have hym := getD_mem hlt
      have hyl := HKV.out _ hym
      have r2 := ((HA.out.below HZ.out).cells _ hyl).1
      have hbr : b < wr.heap.size := by omega
      have hgr : g1 < wr.heap.size := by omega
      have j0 : (0 : Int) ≤ (j : Int) := Int.natCast_nonneg _
      have j1 : (j : Int) < (X.length : Int) := by omega
      have HNX : Hid (lastN (wayL t (ndAt t (X.getD j 0)).key) = X.getD j 0 → ∀ i, i < j + 1 → lastN (wayL t (ndAt t (X.getD i 0)).key) = X.getD i 0) := fun q i hi => by
        by_cases e : i = j
        · rw [e, q]
        · exact hall i (by omega)
      have HNO : Hid (lastN (wayL t (ndAt t (X.getD j 0)).key) ≠ X.getD j 0 → ordQ t = false) := fun q => by
        rw [HOQ.out]
        exact decide_eq_false (fun h => q (h _ hym))
      clear hJ hall
      generalize X.getD j 0 = y at *
      have y0 : (0 : Int) ≤ (y : Int) := Int.natCast_nonneg _
      have y1 : (y : Int) < (t.length : Int) := by omega
      generalize (ndAt t y).key = q at *
      go_wp2_with fail
      refine (vPath_any _ b o c t q (wayL t q) _ (HA.out.below HZ.out) (HWY.out q).1 (HWY.out q).2.2.1).mono ?_
      rintro e w2 ⟨v2, rfl, ho2, hb2⟩
      obtain ⟨hw0, hw1'⟩ := (HWY.out q).2
      obtain ⟨a2, c2, g2, rfl, -, -, hp2⟩ := pls_of_owns ho2
      obtain rfl : a2 = some ⟨g2, 0, none⟩ := hp2.base (by omega)
      have hg2 := hp2.lt (by omega)
      have r3 := hp2.cells ((wayL t q).length - 1) (by omega)
      have r4 := (hb2.cell (p := ⟨g1, j, none⟩) hgr).trans r1
      have J2 : Hid (Below w1.heap.size w1 w2) := HJ.out.trans (hb2.mono HJ.out.size)
      have Z2 : Hid (Below w.heap.size w w2) := HZ.out.trans (hb2.mono HZ.out.size)
      have hgr2 : g1 < w2.heap.size := by have := hb2.size; omega
      have hwl := hw1'.1
      have HLN : Hid (lastN (wayL t q) = (wayL t q).getD ((wayL t q).length - 1) 0) := rfl
      clear ho2 hp2 hb2 hw1' r1 r2
      generalize (wayL t q).getD ((wayL t q).length - 1) 0 = z at *
      generalize hlen : (wayL t q).length = n at *
      have n1 : IntKind.i64.wrap ((n : Int) - 1) = ((n - 1 : Nat) : Int) := by rw [wrap_ok _ (by omega) (by omega)]; omega
      have n2 : (n : Int) - 1 = ((n - 1 : Nat) : Int) := by omega
      have n3 : (0 : Int) ≤ ((n - 1 : Nat) : Int) := Int.natCast_nonneg _
      have n4 : ((n - 1 : Nat) : Int) < (n : Int) := by omega
      have n5 : ((n - 1 : Nat) : Int).toNat = n - 1 := by omega
      clear hlen
      generalize n - 1 = m at *
      by_cases hq : z = y
      · subst hq
        have dq : ((z : Int) != (z : Int)) = false := by simp
        go_wp2_with fail
        go_quiet (fail)
        go_wp2_with fail
        exact ⟨⟨j + 1, by omega, by go_num, HNX.out HLN.out, below_drewN J2.out _⟩, by simp [intOf]; omega⟩
      · have dq : ((z : Int) != (y : Int)) = true := by rw [bne_iff_ne]; omega
        have HO : Hid (ordQ t = false) := HNO.out (by rw [HLN.out]; exact hq)
        clear hq
        go_wp2_with fail
        go_quiet (fail)
        go_wp2_with fail
        go_ret
        exact ⟨by rw [HO.out]; rfl, below_drewN Z2.out _⟩
    · obtain rfl : j = X.length := by omega
      have HO : Hid (ordQ t = true) := by
        show ordQ t = true
        rw [HOQ.out]
        refine decide_eq_true fun y hy => ?_
        obtain ⟨i, hi, e⟩ := List.getElem_of_mem hy
        have e2 : X.getD i 0 = y := by rw [List.getD_eq_getElem?_getD, List.getElem?_eq_getElem hi]; exact e
        have := hall i hi
        rw [e2] at this
        exact this
      clear hJ hall
      go_wp2_with fail
      go_ret
      exact ⟨by rw [HO.out]; rfl, HZ.out⟩
theorem qr_info : (Try.prog.info? 89).map (fun i => (i.zero, i.size, i.bytes)) = some (some (.agg #[.int .i64 0, .int .i64 0]), 2, 16) := by kernel_rfl
theorem qrs_under : Try.prog.underlying 86 = some (.slice 89) := by kernel_rfl
/-- A row of pairs that is ours. -/
structure QRow (w0 x : World) (v : Value) (V : PL) : Prop where
  own : x.ownsRow w0.heap.size 89 2 v V.length (pairCells V)
  below : Below w0.heap.size w0 x
theorem QRow.grown {w0 x y : World} {v v' : Value} {V : PL} {k u : Int} {o : Obj} (h : QRow w0 x v V) (hg : (x.alloc o).grownBy y v.ownBlock) (ho : y.ownsRow w0.heap.size 89 2 v' (V.length + 1) (pairCells V ++ [.int .i64 k, .int .i64 u])) : QRow w0 y v' (V ++ [(k, u)]) :=
  ⟨by rw [List.length_append, pairCells_append]; exact ho, Below.grown (h.below.alloc h.below.size o) hg (by rw [World.size_alloc]; have := h.below.size; omega) (fun k q => (owns_lt h.own k q).1)⟩
def prK (t : NL) (L : List Nat) : PL := L.map (fun y => ((ndAt t y).key, (ndAt t y).val))
theorem prK_snoc (t : NL) {X : List Nat} {j : Nat} (h : j < X.length) : prK t (X.take (j + 1)) = prK t (X.take j) ++ [((ndAt t (X.getD j 0)).key, (ndAt t (X.getD j 0)).val)] := by
  unfold prK
  rw [take_snocL h, List.map_append]
  rfl
set_option maxRecDepth 100000 in
set_option maxHeartbeats 2000000 in
theorem vPairs_any (base : Option Addr) (b o c : Nat) (t : NL) (w : World) (h : NodesAt w base b o t) (he : formE t = 0) :
    Calls Try.prog 38 #[.slice base t.length c] w fun e w' => ∃ v, e = .returned v ∧ w'.ownsRow w.heap.size 89 2 v (prK t (kvL t (theL t 0))).length (pairCells (prK t (kvL t (theL t 0)))) ∧ Below w.heap.size w w' := by
  have HA : Hid (NodesAt _ _ _ _ _) := h
  have HFE : Hid (formE t = 0) := he
  obtain ⟨hbig, hf⟩ := formE_ok he
  have hpos := hf.pos
  obtain rfl : base = some ⟨b, o, none⟩ := HA.out.base (by omega)
  have hbl := HA.out.lt (by omega)
  obtain ⟨hT, -, hlen⟩ := theL_form hf
  have HKV : Hid (∀ y ∈ kvL t (theL t 0), y < t.length) := fun y hy => hT.all y (List.mem_filter.1 hy).1
  have hXl : (kvL t (theL t 0)).length ≤ 100000 := by have := kv_len t (theL t 0); omega
  obtain ⟨i0, hi0, hz0, hz1, hz2⟩ := info_parts qr_info
  clear h he hf hT hlen
  go_enter Try.func38, Try.ntmps38
  go_wp2_with fail
  refine (vLeaves_any _ b o c t _ HA.out HFE.out).mono ?_
  rintro e w1 ⟨v1, rfl, ho1, hb1⟩
  obtain ⟨a1, c1, g1, rfl, -, -, hp1⟩ := pls_of_owns ho1
  have P1 : Hid (PlsAt w1 a1 g1 (kvL t (theL t 0))) := hp1
  have B1 : Hid (Below w.heap.size w w1) := hb1
  have hw1 := hb1.size
  clear ho1 hp1 hb1
  generalize hXX : kvL t (theL t 0) = X at *
  have HXX : Hid (kvL t (theL t 0) = X) := hXX
  clear hXX
  go_wp2_with fail
  go_loopw [3, 5] (fun v i wr => ∃ j : Nat, j ≤ X.length ∧ i = .int .i64 j ∧ QRow w1 wr v (prK t (X.take j))) (fun _ i _ => X.length - (intOf i).toNat)
  case atStart => exact ⟨0, Nat.zero_le _, rfl, World.ownsRow_nil _ _ _ _, Below.refl _ _⟩
  case round =>
    obtain ⟨j, hj, rfl, hI⟩ := hrel
    have HZ : Hid (Below w.heap.size w wr) := B1.out.trans (hI.below.mono B1.out.size)
    have T0 : Hid (QRow _ _ _ _) := hI
    have zz := hI.below.size
    by_cases hlt : j < X.length
    · obtain rfl : a1 = some ⟨g1, 0, none⟩ := P1.out.base (by omega)
      have hg1 := P1.out.lt (by omega)
      have r1 := (P1.out.below hI.below).cells j hlt
      have hyl := HKV.out _ (getD_mem hlt)
      have HC : Hid _ := (HA.out.below HZ.out).cells _ hyl
      have hbr : b < wr.heap.size := by omega
      have hgr : g1 < wr.heap.size := by omega
      have j0 : (0 : Int) ≤ (j : Int) := Int.natCast_nonneg _
      have j1 : (j : Int) < (X.length : Int) := by omega
      have HN : Hid _ := prK_snoc t hlt
      have hvl : (prK t (X.take j)).length ≤ 100000 := by unfold prK; rw [List.length_map, List.length_take]; omega
      have ol := owns_lt hI.own
      have ag1 : Hid (∀ g, u3.ownBlock = some g → g ≠ b) := fun g hg => by have := (ol g hg).1; omega
      have ag2 : Hid (∀ g, u3.ownBlock = some g → g ≠ g1) := fun g hg => by have := (ol g hg).1; omega
      clear hI ol
      generalize X.getD j 0 = y at *
      have y0 : (0 : Int) ≤ (y : Int) := Int.natCast_nonneg _
      have y1 : (y : Int) < (t.length : Int) := by omega
      generalize hVV : prK t (X.take j) = V at *
      clear hVV
      generalize ndAt t y = nd at *
      obtain ⟨k0, k1, k2, k3, k4, k5⟩ := nd
      simp only at HC HN
      obtain ⟨c0, c1', c2, c3, c4, c5⟩ := HC.out
      go_wp2_with fail
      go_region_held3 (fun w' => w'.cell? ⟨b, o + y * 6, none⟩ = some (.int .i64 k0) ∧ w'.cell? ⟨b, o + y * 6 + 3, none⟩ = some (.int .i64 k3) ∧ w'.cell? ⟨g1, j, none⟩ = some (.int .i64 (y : Int)))
        (first
          | go_keep
          | (go_split_ands
             refine ⟨?_, ?_, ?_⟩ <;> (rw [hgrow5.cell_far _ (by simp; omega) (fun q => absurd rfl (by first | exact ag1.out _ q.symm | exact ag2.out _ q.symm))]; assumption)))
        ((refine step_append_lies _ (by rfl) _ _ _ (by rfl) w1.heap.size 89 i0 _ 2 16 qrs_under hi0 hz0 hz1 hz2 rfl (by omega) _ V.length _ (by rfl) ((T0.out.own.alloc _).drew) ⟨wr.heap.size, 0, none⟩ 1 1 [.int .i64 k0, .int .i64 k3] (by rfl) (by rfl) (World.news_of_block (cs := #[.int .i64 k0, .int .i64 k3]) (t := 89) (fr := (0, 0)) (heap_alloc_at _ _ _ (by simp))) (by simp [Value.oneCell']) (by omega) (by unfold maxLen; omega) (by omega) (by have := T0.out.below.size; simp; omega) (wr.heap.size + 1) (by simp) ?_; intro g5 c5 w5 hown5 hgrow5 hat5 hlt5))
      have T6 : Hid (QRow w1 _ _ (V ++ [(k0, k3)])) := T0.out.grown (undrew hgrow5) hown5
      clear hown5 hgrow5 hat5
      go_wp2_with fail
      exact ⟨⟨j + 1, by omega, by go_num, by rw [HN.out]; exact T6.out⟩, by simp [intOf]; omega⟩
    · obtain rfl : j = X.length := by omega
      rw [List.take_length] at hI
      have HI : Hid (QRow _ _ _ _) := hI
      clear hI T0
      go_wp2_with fail
      go_ret
      exact ⟨_, rfl, by rw [HXX.out]; exact owns_down HI.out.own (by omega), HZ.out⟩
end Go.Proofs.Ythdfpddijocfkaa

namespace Go.Proofs.Ythdfpddijocfkaa

open Go.RowKit

attribute [local go_sem ↓] Go.wp_at_zero Go.wp_at_succ

/-- What a node hands to its children stands there at the end. -/
theorem dn_child {α : Type} (f : Nat → α → Nat → α) {t : NL} {p : Nat} {L : List Nat} (h : Tree t p L) : ∀ (A : Nat → α), L.Nodup → ∀ y ∈ L, ∀ l r : Nat, (ndAt t y).l = (l : Int) → (ndAt t y).r = (r : Int) → dn f t A L l = f y (dn f t A L y) l ∧ dn f t A L r = f y (dn f t A L y) r := by
  induction h with
  | @leaf p hp hl hr => intro A _ y hy l r q _; simp at hy; subst hy; omega
  | @inner p l0 r0 L R hp hl hr h1 h2 ih1 ih2 =>
    intro A hN y hy l r ql qr
    obtain ⟨A1, A2, a1, a2, -, -, -, d1, d2, d3, -, -, -⟩ := dn_inner f hl hr h1 h2 hN A
    have hN' := hN
    rw [List.nodup_cons, List.nodup_append] at hN'
    simp only [List.mem_cons, List.mem_append] at hy
    rcases hy with rfl | hy | hy
    · obtain rfl : l = l0 := by omega
      obtain rfl : r = r0 := by omega
      have m1 : l ∈ L := by obtain ⟨L', e⟩ := h1.head; rw [e]; simp
      have m2 : r ∈ R := by obtain ⟨R', e⟩ := h2.head; rw [e]; simp
      have t1 : l ∉ L.tail := by
        obtain ⟨L', e⟩ := h1.head
        have q := hN'.2.1
        rw [e] at q ⊢
        exact (List.nodup_cons.1 q).1
      have t2 : r ∉ R.tail := by
        obtain ⟨R', e⟩ := h2.head
        have q := hN'.2.2.1
        rw [e] at q ⊢
        exact (List.nodup_cons.1 q).1
      rw [d1 l m1, d2 r m2, d3, dn_out f h1 _ _ t1, dn_out f h2 _ _ t2]
      exact ⟨a1, a2⟩
    · have c : l ∈ L ∧ r ∈ L := by
        rcases h1.each y hy with ⟨q, -⟩ | ⟨l', r', q1, q2, -, -, q3, q4⟩
        · omega
        · obtain rfl : l' = l := by omega
          obtain rfl : r' = r := by omega
          exact ⟨q3, q4⟩
      rw [d1 l c.1, d1 r c.2, d1 y hy]
      exact ih1 A1 hN'.2.1 y hy l r ql qr
    · have c : l ∈ R ∧ r ∈ R := by
        rcases h2.each y hy with ⟨q, -⟩ | ⟨l', r', q1, q2, -, -, q3, q4⟩
        · omega
        · obtain rfl : l' = l := by omega
          obtain rfl : r' = r := by omega
          exact ⟨q3, q4⟩
      rw [d2 l c.1, d2 r c.2, d2 y hy]
      exact ih2 A2 hN'.2.2.1 y hy l r ql qr
/-- The first place of a path that is asked for. -/
def fR (Q : Nat → Bool) : List Nat → Int
  | [] => -1
  | y :: P => if Q y then (y : Int) else fR Q P
noncomputable def fQ (t : NL) (y : Nat) : Bool := decide (y ∈ kpL t) && (rA t (kpL t) (kpL t).length y || overQ (ndAt t y).wt)
theorem fR_some (Q : Nat → Bool) : ∀ P : List Nat, 0 ≤ fR Q P ↔ ∃ y ∈ P, Q y = true
  | [] => by simp [fR]
  | y :: P => by
    unfold fR
    by_cases q : Q y = true
    · rw [if_pos q]
      exact ⟨fun _ => ⟨y, by simp, q⟩, fun _ => by omega⟩
    · rw [if_neg q, fR_some Q P]
      constructor
      · rintro ⟨z, hz, h⟩; exact ⟨z, List.mem_cons_of_mem _ hz, h⟩
      · rintro ⟨z, hz, h⟩
        simp only [List.mem_cons] at hz
        rcases hz with rfl | hz
        · exact absurd h q
        · exact ⟨z, hz, h⟩
theorem first_sub {t : NL} {key : Int} {x : Nat} (hT : Tree t x (kpL t)) (hN : (kpL t).Nodup) {p : Nat} {P : List Nat} (h : Way t key p P) : ∀ a, p ∈ kpL t → rA t (kpL t) (kpL t).length p = redQ a (ndAt t p).wt → fstL t a P = fR (fQ t) P := by
  induction h with
  | @leaf p hp hl hr =>
    intro a hm hr'
    show (if faultQ a (ndAt t p).wt then _ else _) = (if fQ t p then _ else _)
    have e : fQ t p = faultQ a (ndAt t p).wt := by unfold fQ faultQ; rw [hr', decide_eq_true hm]; rfl
    rw [e]
    rfl
  | @inner p l r q P hp hl hr hq h ih =>
    intro a hm hr'
    show (if faultQ a (ndAt t p).wt then _ else _) = (if fQ t p then _ else _)
    have e : fQ t p = faultQ a (ndAt t p).wt := by unfold fQ faultQ; rw [hr', decide_eq_true hm]; rfl
    rw [e]
    have hqm : q ∈ kpL t ∧ rA t (kpL t) (kpL t).length q = redQ (ndAt t p).wt (ndAt t q).wt := by
      have e2 : rA t (kpL t) (kpL t).length = dn (rF t) t (fun _ => false) (kpL t) := by unfold rA; rw [List.take_length]
      obtain ⟨d1, d2⟩ := dn_child (rF t) hT (fun _ => false) hN p hm l r hl hr
      rw [← e2] at d1 d2
      rcases hT.each p hm with ⟨q', -⟩ | ⟨l', r', q1, q2, -, -, q3, q4⟩
      · omega
      · obtain rfl : l' = l := by omega
        obtain rfl : r' = r := by omega
        subst hq
        split
        · exact ⟨q3, d1⟩
        · exact ⟨q4, d2⟩
    rw [ih (ndAt t p).wt hqm.1 hqm.2]
theorem first_eq {t : NL} (he : keyE t = 0) (key : Int) : fstL t 1 (wayL t key) = fR (fQ t) (wayL t key) := by
  have hfe := keyE_form he
  obtain ⟨-, hf⟩ := formE_ok hfe
  obtain ⟨hW, -, -, -⟩ := way_all hfe key
  generalize wayL t key = P at hW
  have f11 : faultQ 1 1 = false := rfl
  rcases keyE_cases he with h | h
  · obtain ⟨x, l, r, s, hC⟩ := crown_of h
    obtain ⟨-, hN, -⟩ := theL_form hf
    rw [hC.whole] at hN
    have n0 : (0 : Nat) ∉ kpL t := fun q => (List.nodup_cons.1 hN).1 (by simp [q])
    have n1 : l ∉ kpL t := fun q => (List.nodup_cons.1 (List.nodup_cons.1 hN).2).1 (by simp [q])
    have q0 : fQ t 0 = false := by unfold fQ; rw [decide_eq_false n0]; rfl
    have q1 : fQ t l = false := by unfold fQ; rw [decide_eq_false n1]; rfl
    cases hW with
    | leaf _ q => have := hC.top.1; omega
    | @inner _ l' r' q P hp hl hr hq h1 =>
      rw [if_pos (show goesL _ _ from Or.inl hC.top.2.2.1)] at hq
      have eq1 : q = l := by have := hC.top.1; omega
      rw [eq1] at h1
      clear hq eq1
      cases h1 with
      | leaf _ q => have := hC.arch.1; omega
      | @inner _ l2 r2 q P hp2 hl2 hr2 hq2 h2 =>
        rw [if_pos (show goesL _ _ from Or.inl hC.arch.2.2.1)] at hq2
        have eq2 : q = x := by have := hC.arch.1; omega
        rw [eq2] at h2
        clear hq2 eq2
        have e1 : fstL t 1 (0 :: l :: P) = fstL t 1 P := by
          show (if faultQ 1 (ndAt t 0).wt then _ else if faultQ (ndAt t 0).wt (ndAt t l).wt then _ else fstL t (ndAt t l).wt P) = _
          rw [hC.top.2.2.2, hC.arch.2.2.2, f11]
          rfl
        have e2 : fR (fQ t) (0 :: l :: P) = fR (fQ t) P := by
          show (if fQ t 0 then _ else if fQ t l then _ else fR (fQ t) P) = _
          rw [q0, q1]
          rfl
        rw [e1, e2]
        obtain ⟨M', hM⟩ := hC.tree.head
        refine first_sub hC.tree (kp_nodup h) h2 1 (by rw [hM]; simp) ?_
        have e3 : rA t (kpL t) (kpL t).length = dn (rF t) t (fun _ => false) (kpL t) := by unfold rA; rw [List.take_length]
        rw [e3, dn_out (rF t) hC.tree _ _ (by
          have q := kp_nodup h
          rw [hM] at q ⊢
          exact (List.nodup_cons.1 q).1)]
        rfl
  · obtain ⟨l, r, -, -, a1, a2, a3, a4, -, -, a5, -⟩ := bare_of h
    have hk : kpL t = [] := kp_bare (by omega)
    have qn : ∀ y, fQ t y = false := fun y => by unfold fQ; rw [hk]; rfl
    have e := end_parts a5
    cases hW with
    | leaf _ q => omega
    | @inner _ l' r' q P hp hl hr hq h1 =>
      rw [if_pos (show goesL _ _ from Or.inl a3)] at hq
      have eq1 : q = l := by omega
      rw [eq1] at h1
      clear hq eq1
      cases h1 with
      | leaf =>
        show (if faultQ 1 (ndAt t 0).wt then _ else if faultQ (ndAt t 0).wt (ndAt t _).wt then _ else (-1 : Int)) = (if fQ t 0 then _ else if fQ t _ then _ else (-1 : Int))
        rw [a4, e.2.1, f11, qn, qn]
      | inner _ q => omega
theorem way_in {t : NL} {key : Int} {p : Nat} {P : List Nat} (h : Way t key p P) : ∀ {L : List Nat}, Tree t p L → ∀ x ∈ P, x ∈ L := by
  induction h with
  | leaf hp hl hr => intro L hL x hx; rw [tree_leaf hL hl]; exact hx
  | @inner p l r q P hp hl hr hq h ih =>
    intro L hL x hx
    cases hL with
    | leaf _ q => omega
    | @inner _ l' r' L1 L2 _ ql qr t1 t2 =>
      obtain rfl : l' = l := by omega
      obtain rfl : r' = r := by omega
      simp only [List.mem_cons] at hx
      rcases hx with rfl | hx
      · simp
      · by_cases g : goesL (ndAt t p) key
        · rw [if_pos g] at hq
          subst hq
          have := ih t1 x hx
          simp [this]
        · rw [if_neg g] at hq
          subst hq
          have := ih t2 x hx
          simp [this]
theorem lastN_cons (p : Nat) {P : List Nat} (h : 0 < P.length) : lastN (p :: P) = lastN P := by
  unfold lastN
  rw [List.length_cons, show P.length + 1 - 1 = (P.length - 1) + 1 by omega, List.getD_cons_succ]
/-- A search that ends below a place passes it. -/
theorem way_through {t : NL} {p : Nat} {L : List Nat} (h : Tree t p L) : ∀ {key : Int} {P : List Nat} {y z : Nat} {My : List Nat}, L.Nodup → y ∈ L → Tree t y My → z ∈ My → Way t key p P → lastN P = z → y ∈ P := by
  induction h with
  | leaf hp hl hr =>
    intro key P y z My _ hy _ _ hW _
    simp at hy
    obtain ⟨P', e⟩ := hW.head
    rw [hy, e]
    simp
  | @inner p l r L R hp hl hr h1 h2 ih1 ih2 =>
    intro key P y z My hN hy hMy hz hW hlast
    have hN' := hN
    rw [List.nodup_cons, List.nodup_append] at hN'
    cases hW with
    | leaf _ q => omega
    | @inner _ l' r' q P _ ql qr hq hW' =>
      obtain rfl : l' = l := by omega
      obtain rfl : r' = r := by omega
      obtain ⟨P', eP⟩ := hW'.head
      have hP0 : 0 < P.length := by rw [eP]; simp
      rw [lastN_cons p hP0] at hlast
      have hzP : z ∈ P := by rw [← hlast]; exact getD_mem (by omega)
      simp only [List.mem_cons, List.mem_append] at hy
      rcases hy with rfl | hy | hy
      · simp
      · have hzL : z ∈ L := by
          obtain ⟨M', t', hs⟩ := tree_sub h1 y hy
          rw [hMy.det t'] at hz
          exact hs.subset hz
        by_cases g : goesL (ndAt t p) key
        · rw [if_pos g] at hq
          subst hq
          exact List.mem_cons_of_mem _ (ih1 hN'.2.1 hy hMy hz hW' hlast)
        · rw [if_neg g] at hq
          subst hq
          exact absurd rfl (hN'.2.2.2 z hzL z (way_in hW' h2 z hzP))
      · have hzR : z ∈ R := by
          obtain ⟨M', t', hs⟩ := tree_sub h2 y hy
          rw [hMy.det t'] at hz
          exact hs.subset hz
        by_cases g : goesL (ndAt t p) key
        · rw [if_pos g] at hq
          subst hq
          exact absurd rfl (hN'.2.2.2 z (way_in hW' h1 z hzP) z hzR)
        · rw [if_neg g] at hq
          subst hq
          exact List.mem_cons_of_mem _ (ih2 hN'.2.2.1 hy hMy hz hW' hlast)
theorem vS_filter {t : NL} : ∀ L : List Nat, 0 ≤ vS t (L.filter (ovP t)) ∧ (0 < vS t (L.filter (ovP t)) ↔ ∃ y ∈ L, ovP t y = true)
  | [] => by simp [vS]
  | y :: L => by
    obtain ⟨h1, h2⟩ := vS_filter (t := t) L
    by_cases q : ovP t y = true
    · rw [List.filter_cons_of_pos q]
      have q' : 1 < (ndAt t y).wt := of_decide_eq_true q
      simp only [vS]
      exact ⟨by omega, ⟨fun _ => ⟨y, by simp, q⟩, fun _ => by omega⟩⟩
    · rw [List.filter_cons_of_neg q]
      refine ⟨h1, h2.trans ⟨fun ⟨z, hz, hq⟩ => ⟨z, List.mem_cons_of_mem _ hz, hq⟩, fun ⟨z, hz, hq⟩ => ?_⟩⟩
      simp only [List.mem_cons] at hz
      rcases hz with rfl | hz
      · exact absurd hq q
      · exact ⟨z, hz, hq⟩
/-- There is a violation just where a place is one. -/
theorem vio_some {t : NL} {k : Option BT} (he : keyE t = 0) (hk : Keyed t k) : 0 < vioO k ↔ ∃ y ∈ kpL t, fQ t y = true := by
  obtain ⟨-, -, ok3⟩ := kp_ok he
  obtain ⟨-, -, -, hV⟩ := keys_ok hk
  have e : vioO k = ((redsO k).length : Int) + vS t ((kpL t).filter (ovP t)) := by
    rw [hV, ← ok3, vS_ov he _ (Nat.le_refl _), List.take_length]
  have e2 := reds_eq he hk
  have e3 : (redsO k).length = ((kpL t).filter (rA t (kpL t) (kpL t).length)).length := by rw [← e2, castL_length]
  obtain ⟨v1, v2⟩ := vS_filter (t := t) (kpL t)
  rw [e, e3]
  constructor
  · intro h
    by_cases q : 0 < vS t ((kpL t).filter (ovP t))
    · obtain ⟨y, hy, ho⟩ := v2.1 q
      refine ⟨y, hy, ?_⟩
      unfold fQ
      rw [decide_eq_true hy, show overQ (ndAt t y).wt = true from ho]
      simp
    · have hl : 0 < ((kpL t).filter (rA t (kpL t) (kpL t).length)).length := by omega
      obtain ⟨y, hy⟩ := List.exists_mem_of_length_pos hl
      obtain ⟨m1, m2⟩ := List.mem_filter.1 hy
      refine ⟨y, m1, ?_⟩
      unfold fQ
      rw [decide_eq_true m1, m2]
      rfl
  · rintro ⟨y, hy, hq⟩
    unfold fQ at hq
    rw [decide_eq_true hy, Bool.true_and, Bool.or_eq_true] at hq
    rcases hq with hq | hq
    · have hl : 0 < ((kpL t).filter (rA t (kpL t) (kpL t).length)).length := List.length_pos_of_mem (List.mem_filter.2 ⟨hy, hq⟩)
      omega
    · have := v2.2 ⟨y, hy, hq⟩
      omega
theorem faults_law {t : NL} {k : Option BT} (he : keyE t = 0) (hk : Keyed t k) (ho : ordQ t = true) : (∃ y ∈ kvL t (theL t 0), 0 ≤ firstA t (ndAt t y).key) ↔ 0 < vioO k := by
  have hfe := keyE_form he
  obtain ⟨-, hf⟩ := formE_ok hfe
  have hfa : ∀ key, firstA t key = fR (fQ t) (wayL t key) := fun key => by unfold firstA; rw [if_pos he, first_eq he]
  rw [vio_some he hk]
  constructor
  · rintro ⟨y, -, h⟩
    rw [hfa, fR_some] at h
    obtain ⟨z, -, hq⟩ := h
    refine ⟨z, ?_, hq⟩
    unfold fQ at hq
    rw [Bool.and_eq_true] at hq
    exact of_decide_eq_true hq.1
  · rintro ⟨y, hy, hq⟩
    have h : (rootR t).2 = 0 := by
      rcases keyE_cases he with h | h
      · exact h
      · rw [kp_bare (by omega)] at hy; cases hy
    obtain ⟨x, l, r, s, hC⟩ := crown_of h
    obtain ⟨hT, hN, -⟩ := theL_form hf
    obtain ⟨My, tMy, hs⟩ := tree_sub hC.tree y hy
    have hlv := tree_leaves tMy
    have hpos := tMy.pos
    obtain ⟨z, hz⟩ := List.exists_mem_of_length_pos (l := lvL t My) (by omega)
    obtain ⟨z1, z2⟩ := List.mem_filter.1 hz
    have hzk : z ∈ kvL t (theL t 0) := by
      rw [kv_crown hC]
      exact List.mem_filter.2 ⟨hs.subset z1, z2⟩
    have hyw : y ∈ theL t 0 := by rw [hC.whole]; simp [hy]
    refine ⟨z, hzk, ?_⟩
    rw [hfa, fR_some]
    refine ⟨y, way_through hT hN hyw tMy z1 (way_all hfe _).1 ?_, hq⟩
    have := of_decide_eq_true (show decide (∀ y ∈ kvL t (theL t 0), lastN (wayL t (ndAt t y).key) = y) = true from ho)
    exact this z hzk
end Go.Proofs.Ythdfpddijocfkaa

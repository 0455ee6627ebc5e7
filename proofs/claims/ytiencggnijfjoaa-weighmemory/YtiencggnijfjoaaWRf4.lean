
/- Layer 17: the reference's Sums and Total. Layer 17: the reference's Deep, Bound and Fits. Layer 17: the reference's Even and Sound. -/

import Derived.Test.YtiencggnijfjoaaWRf1

namespace Go.Proofs.Ytiencggnijfjoaa

open Go.RowKit

attribute [local go_sem ↓] Go.wp_at_zero Go.wp_at_succ

theorem form_wt {t : NL} (hf : InForm t) (c : Nat) : 0 ≤ (ndAt t c).wt ∧ (ndAt t c).wt ≤ 1000000 := by
  by_cases h : c < t.length
  · exact (hf.good.node c h).2.2
  · have e : ndAt t c = nd0 := by
      unfold ndAt
      rw [List.getD_eq_getElem?_getD, List.getElem?_eq_none (by omega)]
      rfl
    rw [e]
    simp [nd0]
theorem kp_nodup {t : NL} (h : (rootR t).2 = 0) : (kpL t).Nodup := by
  have he := rootR_form h
  obtain ⟨-, hf⟩ := formE_ok he
  obtain ⟨x, l, r, s, hC⟩ := crown_of h
  obtain ⟨-, hN, -⟩ := theL_form hf
  rw [hC.whole] at hN
  exact (List.nodup_append.1 (List.nodup_cons.1 (List.nodup_cons.1 hN).2).2).1
theorem kp_bare {t : NL} (h : (rootR t).2 ≠ 0) : kpL t = [] := by unfold kpL; rw [if_neg h]
theorem kp_ok {t : NL} (he : keyE t = 0) : TreeOk t (kpL t) ∧ (kpL t).length ≤ 100000 ∧ (kpL t).length = (keysA t).length := by
  rcases keyE_cases he with h | h
  · obtain ⟨x, l, r, s, hC⟩ := crown_of h
    obtain ⟨x2, l2, R2, -, -, -, -, -, hl⟩ := kp_order h
    obtain ⟨k, hk⟩ := keyed_of t
    have := (keys_ok hk).1
    exact ⟨treeOk_of hC.tree (kp_nodup h), by omega, hl⟩
  · have e := kp_bare (t := t) (by omega)
    have e2 : keysA t = [] := by unfold keysA; rw [if_neg (by omega)]
    rw [e, e2]
    exact ⟨fun y hy => absurd hy (by simp), by simp, rfl⟩
theorem vsum_eq {t : NL} {k : Option BT} (he : keyE t = 0) (hk : Keyed t k) : (lvL t (kpL t)).map (sA t (kpL t) (kpL t).length) = sumsO k := by
  rcases keyE_cases he with h | h
  · obtain ⟨x, l, r, s, B, hC, rfl, hB, -⟩ := keys_tree h hk
    obtain ⟨L', hL⟩ := hC.tree.head
    have e : sA t (kpL t) (kpL t).length = dn (sF t) t (sA0 t (kpL t)) (kpL t) := by
      unfold sA bA
      rw [if_neg (by rw [hL]; simp), List.take_length]
    rw [e, sums_inh hC.tree B (sA0 t (kpL t)) 0 (kp_nodup h) hB ?_]
    · rfl
    · unfold sA0
      rw [hL]
      simp
  · obtain ⟨rfl, -⟩ := keys_none h hk
    rw [kp_bare (by omega)]
    rfl
theorem lv_map_snoc {t : NL} {M : List Nat} {j : Nat} (S : Nat → Int) (h : j < M.length) : (lvL t (M.take (j + 1))).map S = if lfB t (M.getD j 0) then (lvL t (M.take j)).map S ++ [S (M.getD j 0)] else (lvL t (M.take j)).map S := by
  rw [take_snoc h, lv_snoc]
  split <;> simp
theorem lf_of {t : NL} {M : List Nat} (h : TreeOk t M) {y : Nat} (hy : y ∈ M) : leafB (ndAt t y) = lfB t y := by
  rcases (h y hy).2 with ⟨h1, h2⟩ | ⟨l, r, h1, -⟩
  · rw [leafB_yes h1 h2]; simp [lfB, h1]
  · have : (ndAt t y).l ≠ -1 := by omega
    rw [leafB_no this]; simp [lfB, this]
set_option maxRecDepth 100000 in
set_option maxHeartbeats 2000000 in
theorem vSums_any (base : Option Addr) (b o c : Nat) (t : NL) (k : Option BT) (w : World) (h : NodesAt w base b o t) (hk : Keyed t k) :
    Calls Try.prog 11 #[.slice base t.length c] w fun e w' => ∃ v, e = .returned (.tuple #[v, .int .i64 (keyE t)]) ∧ w'.ownsRow w.heap.size 3 1 v (sumsO k).length (isC (sumsO k)) ∧ Below w.heap.size w w' := by
  have HA : Hid (NodesAt _ _ _ _ _) := h
  clear h
  by_cases he : keyE t = 0
  · have HE : Hid (keyE t = 0) := he
    have hfe := keyE_form he
    obtain ⟨hbig, hf⟩ := formE_ok hfe
    have hpos := hf.pos
    obtain rfl : base = some ⟨b, o, none⟩ := HA.out.base (by omega)
    have hbl := HA.out.lt (by omega)
    obtain ⟨ok1, ok2, -⟩ := kp_ok he
    have HOK : Hid (TreeOk t (kpL t)) := ok1
    have HWT : Hid (∀ c, 0 ≤ (ndAt t c).wt ∧ (ndAt t c).wt ≤ 1000000) := form_wt hf
    have HSE : Hid ((lvL t (kpL t)).map (sA t (kpL t) (kpL t).length) = sumsO k) := vsum_eq he hk
    obtain ⟨i0, hi0, hz0, hz1, hz2⟩ := info_parts in_info
    clear he hfe hf ok1 hk
    go_enter Try.func11, Try.ntmps11
    go_wp2_with fail
    refine (vkeys_any _ b o c t _ HA.out).mono ?_
    rintro e w1 ⟨v1, rfl, ho1, hb1⟩
    rw [HE.out]
    obtain ⟨a1, c1, g1, rfl, -, -, hp1⟩ := pls_of_owns ho1
    have P1 : Hid (PlsAt w1 a1 g1 (kpL t)) := hp1
    have B1 : Hid (Below w.heap.size w w1) := hb1
    have hw1 := hb1.size
    clear ho1 hp1 hb1
    generalize kpL t = M at *
    go_wp2_with fail
    refine (vsums_any _ b o c t a1 g1 c1 M _ (HA.out.below B1.out) P1.out hpos hbig ok2 HOK.out HWT.out).mono ?_
    rintro e w2 ⟨g2, rfl, hi2, hg2, hl2, hb2⟩
    have I2 : Hid (Ints w2 g2 t.length (sA t M M.length)) := hi2
    have B2 : Hid (Below w.heap.size w w2) := B1.out.trans (hb2.mono B1.out.size)
    have P2 : Hid (PlsAt w2 a1 g1 M) := P1.out.below hb2
    have hw2 := hb2.size
    clear hi2 hb2
    generalize sA t M M.length = SS at *
    go_wp2_with fail
    go_loopw [7, 8] (fun v i wr => ∃ j : Nat, j ≤ M.length ∧ i = .int .i64 j ∧ JRow w2 wr v ((lvL t (M.take j)).map SS)) (fun _ i _ => M.length - (intOf i).toNat)
    case atStart => exact ⟨0, Nat.zero_le _, rfl, World.ownsRow_nil _ _ _ _, Below.refl _ _⟩
    case round =>
      obtain ⟨j, hj, rfl, hJ⟩ := hrel
      have HZ : Hid (Below w.heap.size w wr) := B2.out.trans (hJ.below.mono B2.out.size)
      have zz := hJ.below.size
      have T0 : Hid (JRow _ _ _ _) := hJ
      by_cases hlt : j < M.length
      · obtain rfl : a1 = some ⟨g1, 0, none⟩ := P2.out.base (by omega)
        have hg1 := P2.out.lt (by omega)
        have r1 := (P2.out.below hJ.below).cells j hlt
        have hyl := (HOK.out _ (getD_mem hlt)).1
        have HC : Hid _ := (HA.out.below HZ.out).cells _ hyl
        have v1 := ((I2.out.below hl2 hJ.below) _ hyl).1
        have HN : Hid _ := lv_map_snoc (t := t) SS hlt
        have HLF : Hid _ := lf_of HOK.out (getD_mem hlt)
        have hvl : ((lvL t (M.take j)).map SS).length ≤ 100000 := by
          have : (lvL t (M.take j)).length ≤ (M.take j).length := List.length_filter_le _ _
          have : (M.take j).length ≤ M.length := by rw [List.length_take]; omega
          simp only [List.length_map]
          omega
        have hbr : b < wr.heap.size := by omega
        have hgr : g1 < wr.heap.size := by omega
        have hg2r : g2 < wr.heap.size := by omega
        have j0 : (0 : Int) ≤ (j : Int) := Int.natCast_nonneg _
        have j1 : (j : Int) < (M.length : Int) := by omega
        clear hJ
        generalize M.getD j 0 = y at *
        have y0 : (0 : Int) ≤ (y : Int) := Int.natCast_nonneg _
        have y1 : (y : Int) < (t.length : Int) := by omega
        generalize hVV : (lvL t (M.take j)).map SS = V at *
        clear hVV
        generalize ndAt t y = nd at *
        obtain ⟨k0, k1, k2, k3, k4, k5⟩ := nd
        simp only at HC
        obtain ⟨c0, c1', c2, c3, c4, c5⟩ := HC.out
        generalize SS y = sy at *
        cases hq : lfB t y
        · have HLF' : Hid (leafB ⟨k0, k1, k2, k3, k4, k5⟩ = false) := HLF.out.trans hq
          have HN' : Hid ((lvL t (M.take (j + 1))).map SS = V) := by show _ = _; rw [HN.out, hq]; rfl
          go_wp2_with (first | (go_at_call 48; refine (vLeaf_any _ _ _ _ _ _ _).mono ?_; rintro e w5 ⟨rfl, hb5⟩; rw [HLF'.out]; have T5 : Hid (JRow w2 w5 u7 V) := T0.out.quiet hb5; clear hb5))
          exact ⟨⟨j + 1, by omega, by go_num, by rw [HN'.out]; exact T5.out⟩, by simp [intOf]; omega⟩
        · have HLF' : Hid (leafB ⟨k0, k1, k2, k3, k4, k5⟩ = true) := HLF.out.trans hq
          have HN' : Hid ((lvL t (M.take (j + 1))).map SS = V ++ [sy]) := by show _ = _; rw [HN.out, hq]; rfl
          go_wp2_with (first | (go_at_call 48; refine (vLeaf_any _ _ _ _ _ _ _).mono ?_; rintro e w5 ⟨rfl, hb5⟩; rw [HLF'.out]; have T5 : Hid (JRow w2 w5 u7 V) := T0.out.quiet hb5; have r2 := (hb5.cell (p := ⟨g1, j, none⟩) hgr).trans r1; have v2 := (hb5.cell (p := ⟨g2, y, none⟩) hg2r).trans v1; have hz5 := hb5.size; clear hb5) | (at_builtin; have hq := T5; (refine wpList_append_lies _ (by rfl) _ _ _ (by rfl) w2.heap.size 3 i0 _ 1 8 ins_under hi0 hz0 hz1 hz2 rfl (by omega) _ V.length _ (by rfl) (T5.out.own.alloc _) ⟨w5.heap.size, 0, none⟩ 1 1 [.int .i64 sy] (by rfl) (by rfl) (World.news_of_block (cs := #[.int .i64 sy]) (t := 3) (fr := (0, 0)) (heap_alloc_at _ _ _ (by simp))) (by simp [Value.oneCell']) (by omega) (by unfold maxLen; omega) (by omega) (by have := T5.out.below.size; simp; omega) (w5.heap.size + 1) (by simp) ?_); intro g6 c6 w6 ho hg hat hl; have T6 : Hid (JRow _ _ _ _) := T5.out.grown (q := sy) hg ho; clear ho hg hat hl hq))
          exact ⟨⟨j + 1, by omega, by go_num, by rw [HN'.out]; exact T6.out⟩, by simp [intOf]; omega⟩
      · obtain rfl : j = M.length := by omega
        rw [List.take_length] at hJ
        have HI : Hid (JRow _ _ _ _) := hJ
        clear hJ T0
        go_wp2_with fail
        go_ret2
        exact ⟨_, by rw [HE.out]; rfl, by rw [← HSE.out]; exact owns_down HI.out.own (by omega), HZ.out⟩
  · have d : (keyE t != 0) = true := by simp [he]
    obtain rfl := keyed_bad hk he
    clear he hk
    go_enter Try.func11, Try.ntmps11
    go_wp2_with (first | (go_at_call 46; refine (vkeys_any _ b o c t _ HA.out).mono ?_; rintro e w1 ⟨v1, rfl, -, hb1⟩; have B1 : Hid (Below w.heap.size w w1) := hb1; clear hb1))
    go_ret2
    exact ⟨_, rfl, World.ownsRow_nil _ _ _ _, B1.out⟩

theorem keys_part {t : NL} (he : keyE t = 0) : keysA t = partL (namL t) (kpL t) := by
  rcases keyE_cases he with h | h
  · obtain ⟨x, l, r, s, hC⟩ := crown_of h
    unfold keysA
    rw [if_pos h, hC.root]
    unfold subL
    rw [if_pos ⟨namL_formE (rootR_form h), by simp, by rw [namL_length]; simpa using hC.lt.1⟩]
    simp only [Int.toNat_natCast]
    rw [theL_of (namL_tree hC.tree)]
  · rw [kp_bare (by omega)]
    unfold keysA
    rw [if_neg (by omega)]
    rfl
/-- A node of the keys' table is the node of its place. -/
theorem key_at {t : NL} (he : keyE t = 0) {i : Nat} (hi : i < (kpL t).length) : (ndAt (keysA t) i).wt = (ndAt t ((kpL t).getD i 0)).wt ∧ rleafB (ndAt (keysA t) i) = lfB t ((kpL t).getD i 0) ∧ (ndAt (keysA t) i).key = (((kpL t).getD i 0 : Nat) : Int) := by
  have hm := getD_mem hi
  obtain ⟨hl, hc⟩ := (kp_ok he).1 _ hm
  have hinf : (ndAt t ((kpL t).getD i 0)).inf = 0 := by
    rcases keyE_cases he with h | h
    · obtain ⟨x, l, r, s, hC⟩ := crown_of h
      exact hC.keys _ hm
    · rw [kp_bare (by omega)] at hi; simp at hi
  rw [keys_part he, part_nd _ _ _ hi]
  generalize (kpL t).getD i 0 = y at *
  have e := namD_lr y (ndAt t y)
  have e2 : (namD y (ndAt t y)).key = (y : Int) := by unfold namD; rw [if_pos hinf]
  rw [namL_at t y hl]
  unfold renD
  rcases hc with ⟨h1, h2⟩ | ⟨l, r, h1, h2, -⟩
  · rw [if_pos (by rw [e.1]; exact h1)]
    exact ⟨e.2.2.2.1, by rw [rleafB_yes (by rw [e.1]; exact h1)]; simp [lfB, h1], e2⟩
  · rw [if_neg (by rw [e.1]; omega)]
    refine ⟨e.2.2.2.1, ?_, e2⟩
    have n1 : (ndAt t y).l ≠ -1 := by omega
    have a0 : ∀ (L : List Nat) (n x : Nat), 0 ≤ atN L n x := fun L n x => by
      induction n with
      | zero => simp [atN]
      | succ n ih => unfold atN; split <;> omega
    rw [rleafB_no (by have := a0 (kpL t) (kpL t).length (namD y (ndAt t y)).l.toNat; show atN _ _ _ ≠ -1; omega)]
    simp [lfB, n1]
/-- The weights of the places, together. -/
def totP (t : NL) (M : List Nat) : Nat → Int
  | 0 => 0
  | m + 1 => totP t M m + (ndAt t (M.getD m 0)).wt
theorem totP_le {t : NL} (hw : ∀ c, 0 ≤ (ndAt t c).wt ∧ (ndAt t c).wt ≤ 1000000) (M : List Nat) : ∀ m, 0 ≤ totP t M m ∧ totP t M m ≤ 1000000 * (m : Int)
  | 0 => by simp [totP]
  | m + 1 => by
    have := totP_le hw M m
    have := hw (M.getD m 0)
    unfold totP
    omega
theorem tot_eq {t : NL} (he : keyE t = 0) : ∀ m, m ≤ (kpL t).length → totN (keysA t) m = totP t (kpL t) m
  | 0, _ => rfl
  | m + 1, h => by
    show totN (keysA t) m + (ndAt (keysA t) m).wt = totP t (kpL t) m + _
    rw [tot_eq he m (by omega), (key_at he (by omega)).1]
set_option maxRecDepth 100000 in
set_option maxHeartbeats 2000000 in
theorem vTotal_any (base : Option Addr) (b o c : Nat) (t : NL) (w : World) (h : NodesAt w base b o t) :
    Calls Try.prog 18 #[.slice base t.length c] w fun e w' => e = .returned (.tuple #[.int .i64 (totN (keysA t) (keysA t).length), .int .i64 (keyE t)]) ∧ Below w.heap.size w w' := by
  have HA : Hid (NodesAt _ _ _ _ _) := h
  clear h
  by_cases he : keyE t = 0
  · have HE : Hid (keyE t = 0) := he
    have hfe := keyE_form he
    obtain ⟨hbig, hf⟩ := formE_ok hfe
    have hpos := hf.pos
    obtain rfl : base = some ⟨b, o, none⟩ := HA.out.base (by omega)
    have hbl := HA.out.lt (by omega)
    obtain ⟨ok1, ok2, ok3⟩ := kp_ok he
    have HOK : Hid (TreeOk t (kpL t)) := ok1
    have HWT : Hid (∀ c, 0 ≤ (ndAt t c).wt ∧ (ndAt t c).wt ≤ 1000000) := form_wt hf
    have HTL : Hid (∀ m, 0 ≤ totP t (kpL t) m ∧ totP t (kpL t) m ≤ 1000000 * (m : Int)) := totP_le (form_wt hf) _
    have HSE : Hid (totN (keysA t) (keysA t).length = totP t (kpL t) (kpL t).length) := by show _ = _; rw [← ok3]; exact tot_eq he _ (Nat.le_refl _)
    clear he hfe hf ok1 ok3
    go_enter Try.func18, Try.ntmps18
    go_wp2_with fail
    refine (vkeys_any _ b o c t _ HA.out).mono ?_
    rintro e w1 ⟨v1, rfl, ho1, hb1⟩
    rw [HE.out]
    obtain ⟨a1, c1, g1, rfl, -, -, hp1⟩ := pls_of_owns ho1
    have P1 : Hid (PlsAt w1 a1 g1 (kpL t)) := hp1
    have B1 : Hid (Below w.heap.size w w1) := hb1
    have hw1 := hb1.size
    clear ho1 hp1 hb1
    generalize kpL t = M at *
    go_wp2_with fail
    go_loopw [6, 7] (fun v i wr => ∃ j : Nat, j ≤ M.length ∧ i = .int .i64 j ∧ v = .int .i64 (totP t M j) ∧ Below w1.heap.size w1 wr) (fun _ i _ => M.length - (intOf i).toNat)
    case atStart => exact ⟨0, Nat.zero_le _, rfl, rfl, Below.refl _ _⟩
    case round =>
      obtain ⟨j, hj, rfl, rfl, hJ⟩ := hrel
      have HZ : Hid (Below w.heap.size w wr) := B1.out.trans (hJ.mono B1.out.size)
      have HJ : Hid (Below w1.heap.size w1 wr) := hJ
      have zz := hJ.size
      by_cases hlt : j < M.length
      · obtain rfl : a1 = some ⟨g1, 0, none⟩ := P1.out.base (by omega)
        have hg1 := P1.out.lt (by omega)
        have r1 := (P1.out.below hJ).cells j hlt
        have hyl := (HOK.out _ (getD_mem hlt)).1
        have r2 := ((HA.out.below HZ.out).cells _ hyl).2.2.1
        have hbr : b < wr.heap.size := by omega
        have hgr : g1 < wr.heap.size := by omega
        have j0 : (0 : Int) ≤ (j : Int) := Int.natCast_nonneg _
        have j1 : (j : Int) < (M.length : Int) := by omega
        have tl := HTL.out j
        have wl := HWT.out (M.getD j 0)
        have HS : Hid (totP t M (j + 1) = totP t M j + (ndAt t (M.getD j 0)).wt) := rfl
        clear hJ
        generalize M.getD j 0 = y at *
        have y0 : (0 : Int) ≤ (y : Int) := Int.natCast_nonneg _
        have y1 : (y : Int) < (t.length : Int) := by omega
        generalize (ndAt t y).wt = q at *
        generalize totP t M j = s at *
        have e1 : IntKind.i64.wrap (s + q) = s + q := wrap_ok _ (by omega) (by omega)
        go_wp2_with fail
        exact ⟨⟨j + 1, by omega, by go_num, by rw [HS.out], HJ.out⟩, by simp [intOf]; omega⟩
      · obtain rfl : j = M.length := by omega
        clear hJ
        go_wp2_with fail
        go_ret2
        exact ⟨by rw [HE.out, HSE.out]; rfl, HZ.out⟩
  · have d : (keyE t != 0) = true := by simp [he]
    have HSE : Hid (totN (keysA t) (keysA t).length = 0) := by show _ = _; rw [keys_bad he]; rfl
    clear he
    go_enter Try.func18, Try.ntmps18
    go_wp2_with (first | (go_at_call 46; refine (vkeys_any _ b o c t _ HA.out).mono ?_; rintro e w1 ⟨v1, rfl, -, hb1⟩; have B1 : Hid (Below w.heap.size w w1) := hb1; clear hb1))
    go_ret2
    exact ⟨by rw [HSE.out]; rfl, B1.out⟩
end Go.Proofs.Ytiencggnijfjoaa

namespace Go.Proofs.Ytiencggnijfjoaa

open Go.RowKit

attribute [local go_sem ↓] Go.wp_at_zero Go.wp_at_succ

def eA (t : NL) (X : List Nat) (m : Nat) : Nat → Int := dn eF t (fun _ => 0) (X.take m)
theorem eA_bound (t : NL) (X : List Nat) (m : Nat) (hX : X.length ≤ 100000) (z : Nat) : 0 ≤ eA t X m z ∧ eA t X m z ≤ 100000 := by
  have h := dn_bound t (X.take m) (fun _ => 0) 0 (fun _ => ⟨Int.le_refl _, Int.le_refl _⟩) z
  have : (X.take m).length ≤ X.length := by rw [List.length_take]; omega
  unfold eA
  omega
theorem eA_leaf {t : NL} {M : List Nat} {m : Nat} (h : m < M.length) (hl : (ndAt t (M.getD m 0)).l = -1) : eA t M (m + 1) = eA t M m := by
  unfold eA
  rw [take_snoc h, dn_snoc]
  unfold dn1
  rw [if_pos hl]
theorem eA_inner {t : NL} {M : List Nat} {m l r : Nat} (h : m < M.length) (hl : (ndAt t (M.getD m 0)).l = (l : Int)) (hr : (ndAt t (M.getD m 0)).r = (r : Int)) : eA t M (m + 1) = two (eA t M m) l r (eA t M m (M.getD m 0) + 1) (eA t M m (M.getD m 0) + 1) := by
  unfold eA
  rw [take_snoc h, dn_snoc]
  unfold dn1
  rw [if_neg (by omega)]
  unfold lN rN
  rw [hl, hr, Int.toNat_natCast, Int.toNat_natCast]
  rfl
def mA (t : NL) (X : List Nat) (m : Nat) : Int := mostL t (fun _ => 0) (X.take m) 0
theorem mA_succ {t : NL} {X : List Nat} {m : Nat} (h : m < X.length) : mA t X (m + 1) = max (mA t X m) (eA t X m (X.getD m 0)) := by
  unfold mA eA
  rw [take_snoc h, most_snoc]
theorem mA_all {t : NL} (he : formE t = 0) : mA t (theL t 0) (theL t 0).length = hgtA t := by
  obtain ⟨-, hf⟩ := formE_ok he
  obtain ⟨hT, hN, -⟩ := theL_form hf
  obtain ⟨b, hb, -⟩ := hT.abs
  unfold mA
  rw [List.take_length, most_dep hT b _ _ hN hb, hgt_abs he hb]
  omega
set_option maxRecDepth 100000 in
set_option maxHeartbeats 4000000 in
theorem vDeep_any (base : Option Addr) (b o c : Nat) (t : NL) (w : World) (h : NodesAt w base b o t) :
    Calls Try.prog 20 #[.slice base t.length c] w fun e w' => e = .returned (.tuple #[.int .i64 (deepA t), .int .i64 (keyE t)]) ∧ Below w.heap.size w w' := by
  have HA : Hid (NodesAt _ _ _ _ _) := h
  clear h
  by_cases he : keyE t = 0
  · have HE : Hid (keyE t = 0) := he
    have hfe := keyE_form he
    obtain ⟨hbig, hf⟩ := formE_ok hfe
    have hpos := hf.pos
    obtain rfl : base = some ⟨b, o, none⟩ := HA.out.base (by omega)
    have hbl := HA.out.lt (by omega)
    obtain ⟨hT, hN, hlen⟩ := theL_form hf
    have HT : Hid (Tree t 0 (theL t 0)) := hT
    have HM : Hid (TreeOk t (theL t 0)) := treeOk_of hT hN
    have HMA : Hid (mA t (theL t 0) (theL t 0).length = hgtA t) := mA_all hfe
    have FD : Hid (deepA t = hgtA t) := by show deepA t = _; unfold deepA; rw [if_pos he]
    have hXl : (theL t 0).length ≤ 100000 := by omega
    have hX0 : 0 < (theL t 0).length := by omega
    have HW : Hid (∀ m z, 0 ≤ eA t (theL t 0) m z ∧ eA t (theL t 0) m z ≤ 100000) := fun m z => eA_bound t _ m hXl z
    have hp0 : (0 : Int) < (t.length : Int) := by omega
    have hmi := run_make_known (P := Try.prog) 23 3 (.int .i64 0) 1 8 ins_under in_info t.length (by omega) (by omega)
    clear he hfe hf hT hN hlen
    go_enter Try.func20, Try.ntmps20
    go_wp2_with fail
    refine (vkeys_any _ b o c t _ HA.out).mono ?_
    rintro e w1 ⟨v1, rfl, -, hb1⟩
    rw [HE.out]
    have B1 : Hid (Below w.heap.size w w1) := hb1
    have hw1 := hb1.size
    clear hb1
    generalize theL t 0 = M at *
    go_wp2_with fail
    refine (vOrder_any _ b o c t 0 M _ (HA.out.below B1.out) HT.out (by omega)).mono ?_
    rintro e w2 ⟨v2, rfl, ho2, hb2⟩
    obtain ⟨a1, c1, g1, rfl, -, -, hp2⟩ := pls_of_owns ho2
    obtain rfl : a1 = some ⟨g1, 0, none⟩ := hp2.base (by omega)
    have hg1 := hp2.lt (by omega)
    have HP : Hid (PlsAt w2 (some ⟨g1, 0, none⟩) g1 M) := hp2
    have B2 : Hid (Below w.heap.size w w2) := B1.out.trans (hb2.mono B1.out.size)
    have hw2 := hb2.size
    have Z0 : Hid (Ints (w2.alloc (.cells (Array.replicate t.length (.int .i64 0)) 3)) w2.heap.size t.length (fun _ => 0)) := zeros_ints w2 3 t.length
    clear ho2 hp2 hb2
    go_wp2_with fail
    go_loopw [8, 9] (fun mo i wr => ∃ j : Nat, j ≤ M.length ∧ i = .int .i64 j ∧ mo = .int .i64 (mA t M j) ∧ ArI w2 wr t.length (eA t M j)) (fun _ i _ => M.length - (intOf i).toNat)
    case atStart =>
      refine ⟨0, Nat.zero_le _, rfl, rfl, ?_, ?_, ?_⟩
      · rw [made_zeros]; exact Z0.out
      · simp
      · exact below_alloc _ _
    case round =>
      obtain ⟨j, hj, rfl, rfl, hI⟩ := hrel
      have S0 : Hid (ArI w2 wr t.length (eA t M j)) := hI
      have hlt0 := hI.lt
      have hbw := hI.below
      have HZ : Hid (Below w.heap.size w wr) := B2.out.trans (hbw.mono B2.out.size)
      by_cases hlt : j < M.length
      · have r1 := (HP.out.below hbw).cells j hlt
        have hbr : b < wr.heap.size := by omega
        have hgr : g1 < wr.heap.size := by omega
        have gne : g1 ≠ w2.heap.size := by omega
        have gne' : w2.heap.size ≠ g1 := by omega
        have bne : b ≠ w2.heap.size := by omega
        have hym : M.getD j 0 ∈ M := getD_mem hlt
        obtain ⟨hyl, hcase⟩ := HM.out _ hym
        have HC : Hid _ := (HA.out.below HZ.out).cells _ hyl
        have j0 : (0 : Int) ≤ (j : Int) := Int.natCast_nonneg _
        have j1 : (j : Int) < (M.length : Int) := by omega
        have y0 : (0 : Int) ≤ ((M.getD j 0 : Nat) : Int) := Int.natCast_nonneg _
        have y1 : ((M.getD j 0 : Nat) : Int) < (t.length : Int) := by omega
        have HMS : Hid (mA t M (j + 1) = max (mA t M j) (eA t M j (M.getD j 0))) := mA_succ hlt
        clear hI hbw
        generalize hy : M.getD j 0 = y at *
        generalize hnd : ndAt t y = nd at *
        obtain ⟨k0, k1, k2, k3, k4, k5⟩ := nd
        simp only at HC hcase
        obtain ⟨z0, z1, z2, z3, z4, z5⟩ := HC.out
        have vy := (S0.out.ab y hyl).1
        have ay := HW.out j y
        generalize hmm : mA t M j = mm at *
        go_wp2_with fail
        generalize hW2 : wr.alloc (.cells #[.int .i64 k0, .int .i64 k1, .int .i64 k2, .int .i64 k3, .int .i64 k4, .int .i64 k5] 54) = W2
        have b1 : Below wr.heap.size wr W2 := by rw [← hW2]; exact below_alloc _ _
        have S2 : Hid (ArI w2 W2 t.length (eA t M j)) := S0.out.quiet b1
        have X2 : Hid (Bx W2 wr.heap.size k0 k1 k2 k3 k4 k5) := bx_new (hW2 ▸ heap_alloc_at wr _ wr.heap.size rfl)
        have r2 := (b1.cell (p := ⟨g1, j, none⟩) hgr).trans r1
        have vy2 := (S2.out.ab y hyl).1
        have lt2 := S2.out.lt
        obtain ⟨x0, x1, x2, x3, x4, x5⟩ := X2.out.c
        have xl := X2.out.lt
        clear hW2 z0 z1 z2 z3 z4 z5 S0 b1 vy r1
        rcases hcase with ⟨hl, hr⟩ | ⟨l, r, hl, hr, l2, r2', ly, ry, lr⟩
        · have HLF : Hid (leafB ⟨k0, k1, k2, k3, k4, k5⟩ = true) := leafB_yes hl hr
          have HEE : Hid (eA t M (j + 1) = eA t M j) := eA_leaf hlt (by rw [hy, hnd]; exact hl)
          clear hl hr
          go_wp2_with (first | (go_at_call 48; refine (vLeaf_any _ _ _ _ _ _ _).mono ?_; rintro e w3 ⟨rfl, hb3⟩; rw [HLF.out]; have S3 : Hid (ArI w2 w3 t.length (eA t M j)) := S2.out.quiet hb3; clear hb3))
          exact ⟨⟨j + 1, by omega, by go_num, by rw [HMS.out], by rw [HEE.out]; exact S3.out⟩, by simp [intOf]; omega⟩
        · have HLF : Hid (leafB ⟨k0, k1, k2, k3, k4, k5⟩ = false) := leafB_no (by show k4 ≠ -1; omega)
          have HEE : Hid (eA t M (j + 1) = two (eA t M j) l r (eA t M j y + 1) (eA t M j y + 1)) := by
            have q := eA_inner (t := t) (M := M) (m := j) (l := l) (r := r) hlt (by rw [hy, hnd]; exact hl) (by rw [hy, hnd]; exact hr)
            rw [hy] at q
            exact q
          have l0 : (0 : Int) ≤ (l : Int) := Int.natCast_nonneg _
          have r0' : (0 : Int) ≤ (r : Int) := Int.natCast_nonneg _
          have l3 : (l : Int) < (t.length : Int) := by omega
          have r3 : (r : Int) < (t.length : Int) := by omega
          have lr' : r ≠ l := fun q => lr q.symm
          subst hl hr
          have HSN : Hid (∀ W, ArI w2 W t.length (eA t M j) → ∀ u : Int, u = eA t M j y + 1 → ArI w2 ((W.setCell ⟨w2.heap.size, l, none⟩ (.int .i64 u)).setCell ⟨w2.heap.size, r, none⟩ (.int .i64 u)) t.length (eA t M (j + 1))) := fun W hW u hu => by
            rw [HEE.out, ← hu]
            exact ((hW.set u l2).set u r2').fn fun z _ => rfl
          generalize hAj : eA t M j = A at *
          generalize hAy : A y = ay' at *
          have e1 : IntKind.i64.wrap (ay' + 1) = ay' + 1 := wrap_ok _ (by omega) (by omega)
          go_wp2_with (first | (go_at_call 48; refine (vLeaf_any _ _ _ _ _ _ _).mono ?_; rintro e w3 ⟨rfl, hb3⟩; rw [HLF.out]; have S3 : Hid (ArI w2 w3 t.length A) := S2.out.quiet hb3; have lt3 := S3.out.lt; have X3 : Hid (Bx w3 wr.heap.size k0 k1 k2 k3 (l : Int) (r : Int)) := X2.out.below hb3; have xl3 := X3.out.lt; obtain ⟨x0', x1', x2', x3', x4', x5'⟩ := X3.out.c; have vy3 := (S3.out.ab y hyl).1; rw [hAy] at vy3; have fl := (S3.out.ab l l2).2; have fr := (S3.out.ab r r2').2; have vl := (S3.out.ab l l2).1; have vr := (S3.out.ab r r2').1; have p3 := (hb3.cell (p := ⟨g1, j, none⟩) (show g1 < W2.heap.size by omega)).trans r2; clear hb3))
          go_region
          go_wp2_with fail
          exact ⟨⟨j + 1, by omega, by go_num, by rw [HMS.out], by first | exact (HSN.out _ S3.out _ rfl).drew | exact HSN.out _ S3.out _ rfl⟩, by simp [intOf]; omega⟩
      · obtain rfl : j = M.length := by omega
        clear hI
        go_wp2_with fail
        go_ret2
        exact ⟨by rw [HE.out, FD.out, ← HMA.out]; rfl, HZ.out⟩
  · have d : (keyE t != 0) = true := by simp [he]
    have FD : Hid (deepA t = 0) := by show deepA t = _; unfold deepA; rw [if_neg he]
    clear he
    go_enter Try.func20, Try.ntmps20
    go_wp2_with (first | (go_at_call 46; refine (vkeys_any _ b o c t _ HA.out).mono ?_; rintro e w1 ⟨v1, rfl, -, hb1⟩; have B1 : Hid (Below w.heap.size w w1) := hb1; clear hb1))
    go_ret2
    exact ⟨by rw [FD.out]; rfl, B1.out⟩
theorem bitAux_zero : ∀ f : Nat, Lib.bitLenAux f 0 = 0
  | 0 => rfl
  | f + 1 => by simp [Lib.bitLenAux]
set_option maxRecDepth 100000 in
theorem vBound_any (n : Int) (w : World) (h1 : n ≤ 9223372036854775807) :
    Calls Try.prog 22 #[.int .i64 n] w fun e w' => e = .returned (.tuple #[.int .i64 (bndA n), .int .i64 (bndE n)]) ∧ Below w.heap.size w w' := by
  by_cases h : n < 0
  · have F : Hid (bndA n = 0 ∧ bndE n = 1) := by show _ ∧ _; unfold bndA bndE; rw [if_pos h, if_pos h]; exact ⟨rfl, rfl⟩
    go_enter Try.func22, Try.ntmps22
    go_wp2_with fail
    go_ret2
    exact ⟨by rw [F.out.1, F.out.2]; rfl, Below.refl _ _⟩
  · have F : Hid (bndA n = 2 * (Lib.bitLen (n + 1).toNat : Int) + 4 ∧ bndE n = 0) := by show _ ∧ _; unfold bndA bndE; rw [if_neg h, if_neg h]; exact ⟨rfl, rfl⟩
    have h0 : 0 ≤ n := by omega
    clear h
    obtain ⟨N, rfl⟩ : ∃ N : Nat, n = (N : Int) := ⟨n.toNat, by omega⟩
    have e1 : ((N : Int) + 1).toNat = N + 1 := by omega
    rw [e1] at F
    go_enter Try.func22, Try.ntmps22
    go_wp2_with fail
    go_loopw [4, 5] (fun bb k wr => ∃ i m : Nat, i ≤ 64 ∧ bb = .int .i64 i ∧ k = .int .u64 m ∧ m < 2 ^ (64 - i) ∧ Lib.bitLen (N + 1) = i + Lib.bitLenAux (64 - i) m ∧ Below w.heap.size w wr) (fun _ k _ => (intOf k).toNat)
    case atStart => exact ⟨0, N + 1, by omega, rfl, rfl, by omega, by simp [Lib.bitLen], Below.refl _ _⟩
    case round =>
      obtain ⟨i, m, hi, rfl, rfl, hm, hbl, hb⟩ := hrel
      have HB : Hid (Below w.heap.size w wr) := hb
      have HM : Hid (m < 2 ^ (64 - i)) := hm
      have HBL : Hid (Lib.bitLen (N + 1) = i + Lib.bitLenAux (64 - i) m) := hbl
      have m64 : m < 2 ^ 64 := Nat.lt_of_lt_of_le hm (Nat.pow_le_pow_right (by omega) (by omega))
      clear hb hbl hm
      by_cases hm0 : m = 0
      · subst hm0
        have HF : Hid (Lib.bitLen (N + 1) = i) := by show _ = _; rw [HBL.out, bitAux_zero]; omega
        go_wp2_with fail
        go_ret2
        exact ⟨by rw [F.out.1, F.out.2, HF.out]; rfl, HB.out⟩
      · have i63 : i < 64 := by
          rcases Nat.lt_or_ge i 64 with q | q
          · exact q
          · have := HM.out
            rw [show 64 - i = 0 by omega] at this
            simp at this
            omega
        have m1 : decide ((m : Int) > 0) = true := decide_eq_true (by omega)
        have m2 : (0 : Int) ≤ (m : Int) := Int.natCast_nonneg _
        have HN : Hid (Lib.bitLen (N + 1) = (i + 1) + Lib.bitLenAux (64 - (i + 1)) (m / 2)) := by
          show _ = _
          rw [HBL.out, show 64 - i = (64 - (i + 1)) + 1 by omega]
          simp only [Lib.bitLenAux]
          rw [if_neg hm0]
          omega
        have HM2 : Hid (m / 2 < 2 ^ (64 - (i + 1))) := by
          have := HM.out
          rw [show 64 - i = (64 - (i + 1)) + 1 by omega, Nat.pow_succ] at this
          show _ < _
          omega
        go_wp2_with fail
        exact ⟨⟨i + 1, m / 2, by omega, by go_num, by first | rfl | simp | go_num, HM2.out, HN.out, HB.out⟩, by simp [intOf]; omega⟩
set_option maxRecDepth 100000 in
set_option maxHeartbeats 1000000 in
theorem vFits_any (base : Option Addr) (b o c : Nat) (t : NL) (w : World) (h : NodesAt w base b o t) :
    Calls Try.prog 24 #[.slice base t.length c] w fun e w' => e = .returned (.tuple #[.bool (fitA t), .int .i64 (keyE t)]) ∧ Below w.heap.size w w' := by
  have HA : Hid (NodesAt _ _ _ _ _) := h
  clear h
  by_cases he : keyE t = 0
  · have HE : Hid (keyE t = 0) := he
    have HFE : Hid (formE t = 0) := keyE_form he
    obtain ⟨k, hk⟩ := keyed_of t
    have hK1 := (keys_ok hk).1
    have hlv : ((keysA t).length + 1) / 2 = (kvL t (theL t 0)).length := by
      rcases keyE_cases he with h | h
      · obtain ⟨x, l, r, s, B, -, -, -, hK, -, -, -, hl⟩ := keys_tree h hk
        have := B.lvs_size
        rw [hl, hK, BT.lay_length]
        omega
      · rw [kv_bare h, (keys_none h hk).2]
        rfl
    have F : Hid (fitA t = decide (hgtA t ≤ bndA (((kvL t (theL t 0)).length : Nat) : Int))) := by show fitA t = _; unfold fitA; rw [if_pos he, hlv]
    have F2 : Hid (deepA t = hgtA t) := by show deepA t = _; unfold deepA; rw [if_pos he]
    have F3 : Hid (bndE (((kvL t (theL t 0)).length : Nat) : Int) = 0) := by show bndE _ = 0; unfold bndE; rw [if_neg (by omega)]
    have hkv : (kvL t (theL t 0)).length ≤ 100000 := by omega
    clear he hk hlv hK1
    go_enter Try.func24, Try.ntmps24
    go_wp2_with fail
    refine (vDeep_any base b o c t _ HA.out).mono ?_
    rintro e w1 ⟨rfl, hb1⟩
    rw [HE.out, F2.out]
    have B1 : Hid (Below w.heap.size w w1) := hb1
    clear hb1
    generalize hgtA t = d at *
    go_wp2_with fail
    refine (vLeaves_any base b o c t _ (HA.out.below B1.out) HFE.out).mono ?_
    rintro e w2 ⟨v2, rfl, ho2, hb2⟩
    obtain ⟨a2, c2, rfl⟩ := own_slice ho2
    have B2 : Hid (Below w.heap.size w w2) := B1.out.trans (hb2.mono B1.out.size)
    clear ho2 hb2
    generalize (kvL t (theL t 0)).length = K at *
    go_wp2_with fail
    refine (vBound_any (K : Int) _ (by omega)).mono ?_
    rintro e w3 ⟨rfl, hb3⟩
    rw [F3.out]
    have B3 : Hid (Below w.heap.size w w3) := B2.out.trans (hb3.mono B2.out.size)
    clear hb3
    generalize bndA (K : Int) = bb at *
    go_wp2_with fail
    go_ret2
    exact ⟨by rw [F.out, HE.out]; rfl, B3.out⟩
  · have d : (keyE t != 0) = true := by simp [he]
    have F : Hid (fitA t = false) := by show fitA t = _; unfold fitA; rw [if_neg he]
    clear he
    go_enter Try.func24, Try.ntmps24
    go_wp2_with (first | (go_at_call 20; refine (vDeep_any base b o c t _ HA.out).mono ?_; rintro e w1 ⟨rfl, hb1⟩; have B1 : Hid (Below w.heap.size w w1) := hb1; clear hb1))
    go_ret2
    exact ⟨by rw [F.out]; rfl, B1.out⟩
end Go.Proofs.Ytiencggnijfjoaa

namespace Go.Proofs.Ytiencggnijfjoaa

open Go.RowKit

attribute [local go_sem ↓] Go.wp_at_zero Go.wp_at_succ

theorem min_same (L : List Int) (a : Int) : ∀ m, (∀ i, i ≤ m → L.getD i 0 = a) → minN L m = a ∧ maxN L m = a
  | 0, h => ⟨h 0 (Nat.le_refl _), h 0 (Nat.le_refl _)⟩
  | m + 1, h => by
    obtain ⟨h1, h2⟩ := min_same L a m (fun i hi => h i (by omega))
    have h3 := h (m + 1) (Nat.le_refl _)
    unfold minN maxN
    rw [h1, h2, h3]
    omega
theorem even_yes {L : List Int} (hl : 0 < L.length) (h : ∀ i, i < L.length → L.getD i 0 = L.getD 0 0) : evB L = true ∧ evS L = L.getD 0 0 := by
  obtain ⟨h1, h2⟩ := min_same L _ (L.length - 1) (fun i hi => h i (by omega))
  unfold evB evS
  rw [if_neg (by omega), if_neg (by omega), h1, h2]
  simp
theorem even_no {L : List Int} {j : Nat} (hj : j < L.length) (h : L.getD j 0 ≠ L.getD 0 0) : evB L = false ∧ evS L = 0 := by
  have hn : ¬ minN L (L.length - 1) = maxN L (L.length - 1) := fun q => by
    have a1 := minN_le L (L.length - 1) j (by omega)
    have a2 := le_maxN L (L.length - 1) j (by omega)
    have b1 := minN_le L (L.length - 1) 0 (by omega)
    have b2 := le_maxN L (L.length - 1) 0 (by omega)
    omega
  unfold evB evS
  rw [if_neg (by omega), if_neg (by omega), if_neg hn]
  exact ⟨decide_eq_false hn, rfl⟩
theorem sums_len {t : NL} {k : Option BT} (hk : Keyed t k) : (sumsO k).length ≤ 100000 := by
  cases k with
  | none => simp [sumsO]
  | some B =>
    obtain ⟨-, -, -, h⟩ := hk
    have := inh_len sumF sumO sumO_len B 0
    show (sumsB B).length ≤ _
    unfold sumsB
    omega
set_option maxRecDepth 100000 in
set_option maxHeartbeats 2000000 in
theorem vEven_any (base : Option Addr) (b o c : Nat) (t : NL) (k : Option BT) (w : World) (h : NodesAt w base b o t) (hk : Keyed t k) :
    Calls Try.prog 14 #[.slice base t.length c] w fun e w' => e = .returned (.tuple #[.int .i64 (if keyE t = 0 then evS (sumsO k) else 0), .bool (if keyE t = 0 then evB (sumsO k) else false), .int .i64 (keyE t)]) ∧ Below w.heap.size w w' := by
  have HA : Hid (NodesAt _ _ _ _ _) := h
  have HK : Hid (Keyed t k) := hk
  have hsl := sums_len hk
  clear h hk
  by_cases he : keyE t = 0
  · have HE : Hid (keyE t = 0) := he
    rw [if_pos he, if_pos he]
    clear he
    go_enter Try.func14, Try.ntmps14
    go_wp2_with fail
    refine (vSums_any _ b o c t k _ HA.out HK.out).mono ?_
    rintro e w1 ⟨v1, rfl, ho1, hb1⟩
    rw [HE.out]
    obtain ⟨a1, c1, g1, rfl, -, -, hs1⟩ := ws_of_owns ho1
    have S1 : Hid (WsAt w1 a1 g1 0 (sumsO k)) := hs1
    have B1 : Hid (Below w.heap.size w w1) := hb1
    clear ho1 hs1 hb1
    generalize hL : sumsO k = L at *
    have HL : Hid (sumsO k = L) := hL
    clear hL
    go_wp2_with fail
    go_loopw [7] (fun i wr => ∃ j : Nat, 1 ≤ j ∧ i = .int .i64 j ∧ (j ≤ L.length ∨ L.length = 0) ∧ (∀ i, i < j → L.getD i 0 = L.getD 0 0) ∧ Below w1.heap.size w1 wr) (fun i _ => L.length - (intOf i).toNat)
    case atStart => exact ⟨1, Nat.le_refl _, rfl, by omega, fun i hi => by obtain rfl : i = 0 := by omega
                                                                           rfl, Below.refl _ _⟩
    case round =>
      obtain ⟨j, hj1, rfl, hjl, hall, hJ⟩ := hrel
      have HZ : Hid (Below w.heap.size w wr) := B1.out.trans (hJ.mono B1.out.size)
      have HJ : Hid (Below w1.heap.size w1 wr) := hJ
      have HALL : Hid (∀ i, i < j → L.getD i 0 = L.getD 0 0) := hall
      by_cases hlt : j < L.length
      · obtain rfl : a1 = some ⟨g1, 0, none⟩ := S1.out.base (by omega)
        have hg1 := (S1.out.below hJ).lt (by omega)
        have r1 := (S1.out.below hJ).cells j hlt
        have r0 := (S1.out.below hJ).cells 0 (by omega)
        simp only [Nat.zero_add] at r1 r0
        have j0 : (0 : Int) ≤ (j : Int) := Int.natCast_nonneg _
        have j1 : (j : Int) < (L.length : Int) := by omega
        have l1 : (0 : Int) < (L.length : Int) := by omega
        by_cases hq : L.getD j 0 = L.getD 0 0
        · have HALL2 : Hid (∀ i, i < j + 1 → L.getD i 0 = L.getD 0 0) := fun i hi => by
            by_cases e : i = j
            · rw [e, hq]
            · exact hall i (by omega)
          rw [hq] at r1
          clear hJ hall hq
          generalize L.getD 0 0 = q0 at *
          have dq : (q0 != q0) = false := by simp
          go_wp2_with fail
          go_quiet (fail)
          go_wp2_with fail
          exact ⟨⟨j + 1, by omega, by go_num, by omega, HALL2.out, below_drewN HJ.out _⟩, by simp [intOf]; omega⟩
        · obtain ⟨f1, f2⟩ := even_no hlt hq
          have F : Hid (evB L = false ∧ evS L = 0) := ⟨f1, f2⟩
          clear hJ hall f1 f2
          generalize L.getD 0 0 = q0 at *
          generalize L.getD j 0 = qj at *
          have dq : (qj != q0) = true := by simp [hq]
          clear hq
          go_wp2_with fail
          go_quiet (fail)
          go_wp2_with fail
          go_ret3
          exact ⟨by rw [HL.out, F.out.1, F.out.2, HE.out]; rfl, below_drewN HZ.out _⟩
      · by_cases hl0 : L.length = 0
        · have F : Hid (evB L = true ∧ evS L = 0) := by show _ ∧ _; unfold evB evS; rw [if_pos hl0, if_pos hl0]; exact ⟨rfl, rfl⟩
          have d0 : ((L.length : Int) == 0) = true := by rw [beq_iff_eq]; omega
          clear hJ hall
          go_wp2_with fail
          go_ret3
          exact ⟨by rw [HL.out, F.out.1, F.out.2, HE.out]; rfl, HZ.out⟩
        · obtain ⟨f1, f2⟩ := even_yes (L := L) (by omega) (fun i hi => hall i (by omega))
          have F : Hid (evB L = true ∧ evS L = L.getD 0 0) := ⟨f1, f2⟩
          obtain rfl : a1 = some ⟨g1, 0, none⟩ := S1.out.base (by omega)
          have hg1 := (S1.out.below hJ).lt (by omega)
          have r0 := (S1.out.below hJ).cells 0 (by omega)
          simp only [Nat.zero_add] at r0
          have l1 : (0 : Int) < (L.length : Int) := by omega
          have d0 : ((L.length : Int) == 0) = false := by rw [beq_eq_false_iff_ne]; omega
          clear hJ hall f1 f2
          generalize L.getD 0 0 = q0 at *
          go_wp2_with fail
          go_ret3
          exact ⟨by rw [HL.out, F.out.1, F.out.2, HE.out]; rfl, HZ.out⟩
  · have d : (keyE t != 0) = true := by simp [he]
    have F : Hid (¬ keyE t = 0) := he
    rw [if_neg he, if_neg he]
    clear he
    go_enter Try.func14, Try.ntmps14
    go_wp2_with (first | (go_at_call 11; refine (vSums_any _ b o c t k _ HA.out HK.out).mono ?_; rintro e w1 ⟨v1, rfl, -, hb1⟩; have B1 : Hid (Below w.heap.size w w1) := hb1; clear hb1))
    go_ret3
    exact ⟨rfl, B1.out⟩

/-- A place at which Sound finds nothing wrong. -/
def sdOk (t : NL) (M : List Nat) (i : Nat) : Bool := !((decide (i = 0) && (ndAt t (M.getD i 0)).wt != 1) || (lfB t (M.getD i 0) && decide ((ndAt t (M.getD i 0)).wt < 1)))
theorem light_no {K : NL} : ∀ m, (∀ i, i < m → lightB (ndAt K i) = false) → lightN K m = false
  | 0, _ => rfl
  | m + 1, h => by
    show (lightN K m || lightB (ndAt K m)) = false
    rw [light_no m (fun i hi => h i (by omega)), h m (by omega)]
    rfl
theorem light_yes {K : NL} {m i : Nat} (hi : i < m) (h : lightB (ndAt K i) = true) : lightN K m = true := by
  cases q : lightN K m
  · have := light_each m q i hi
    rw [this] at h
    cases h
  · rfl
/-- Sound, by places. -/
theorem snd_facts {t : NL} {k : Option BT} (he : keyE t = 0) (hev : evB (sumsO k) = true) :
    ((∀ i, i < (kpL t).length → sdOk t (kpL t) i = true) → sndB t k = true) ∧ (∀ i, i < (kpL t).length → sdOk t (kpL t) i = false → sndB t k = false) := by
  obtain ⟨-, -, hl⟩ := kp_ok he
  have hwt := form_wt (formE_ok (keyE_form he)).2
  have hlb : ∀ i, i < (kpL t).length → lightB (ndAt (keysA t) i) = (lfB t ((kpL t).getD i 0) && decide ((ndAt t ((kpL t).getD i 0)).wt < 1)) := fun i hi => by
    obtain ⟨k1, k2, -⟩ := key_at he hi
    have w := hwt ((kpL t).getD i 0)
    unfold lightB
    rw [k1, k2]
    congr 1
    by_cases q : (ndAt t ((kpL t).getD i 0)).wt = 0
    · rw [q]; rfl
    · rw [decide_eq_false (by omega)]
      simpa using q
  unfold sndB
  rw [if_neg (by simp [he])]
  by_cases h0 : (keysA t).length = 0
  · rw [if_pos h0]
    exact ⟨fun _ => rfl, fun i hi => by omega⟩
  rw [if_neg h0, hev]
  have k0 := (key_at he (i := 0) (by omega)).1
  refine ⟨fun h => ?_, fun i hi h => ?_⟩
  · have h00 := h 0 (by omega)
    unfold sdOk at h00
    rw [Bool.not_eq_true', Bool.or_eq_false_iff] at h00
    have h1 : (ndAt t ((kpL t).getD 0 0)).wt = 1 := by simpa using h00.1
    rw [light_no _ (fun i hi => by
      rw [hlb i (by omega)]
      have hh := h i (by omega)
      unfold sdOk at hh
      rw [Bool.not_eq_true', Bool.or_eq_false_iff] at hh
      exact hh.2), k0, h1]
    rfl
  · unfold sdOk at h
    rw [Bool.not_eq_false', Bool.or_eq_true] at h
    rcases h with h | h
    · rw [Bool.and_eq_true] at h
      have e : i = 0 := of_decide_eq_true h.1
      subst e
      have h2 : (ndAt t ((kpL t).getD 0 0)).wt ≠ 1 := by simpa using h.2
      have h3 : ((ndAt t ((kpL t).getD 0 0)).wt == 1) = false := by rw [beq_eq_false_iff_ne]; exact h2
      rw [k0, h3]
      rfl
    · rw [light_yes (m := (keysA t).length) (i := i) (by omega) (by rw [hlb i hi]; exact h)]
      simp
set_option maxRecDepth 100000 in
set_option maxHeartbeats 4000000 in
theorem vSound_any (base : Option Addr) (b o c : Nat) (t : NL) (k : Option BT) (w : World) (h : NodesAt w base b o t) (hk : Keyed t k) :
    Calls Try.prog 16 #[.slice base t.length c] w fun e w' => e = .returned (.tuple #[.bool (sndB t k), .int .i64 (keyE t)]) ∧ Below w.heap.size w w' := by
  have HA : Hid (NodesAt _ _ _ _ _) := h
  have HK : Hid (Keyed t k) := hk
  clear h
  by_cases he : keyE t = 0
  · have HE : Hid (keyE t = 0) := he
    cases hev : evB (sumsO k)
    · have FE : Hid (evB (sumsO k) = false) := hev
      have F : Hid (sndB t k = false) := by
        show sndB t k = false
        unfold sndB
        rw [if_neg (by simp [he]), hev]
        by_cases q : (keysA t).length = 0
        · rcases keyE_cases he with h | h
          · obtain ⟨x, l, r, s, B, -, -, -, hK, -⟩ := keys_tree h hk
            rw [hK, BT.lay_length] at q
            have := B.size_pos
            omega
          · obtain ⟨rfl, -⟩ := keys_none h hk
            cases hev
        · rw [if_neg q]; rfl
      clear he hev hk
      go_enter Try.func16, Try.ntmps16
      go_wp2_with (first | (go_at_call 14; refine (vEven_any _ b o c t k _ HA.out HK.out).mono ?_; rintro e w1 ⟨rfl, hb1⟩; rw [HE.out, FE.out, if_pos rfl, if_pos rfl]; have B1 : Hid (Below w.heap.size w w1) := hb1; clear hb1))
      go_ret2
      exact ⟨by rw [F.out, HE.out]; rfl, B1.out⟩
    · have FE : Hid (evB (sumsO k) = true) := hev
      have hfe := keyE_form he
      obtain ⟨hbig, hf⟩ := formE_ok hfe
      have hpos := hf.pos
      obtain rfl : base = some ⟨b, o, none⟩ := HA.out.base (by omega)
      have hbl := HA.out.lt (by omega)
      obtain ⟨ok1, ok2, -⟩ := kp_ok he
      have HOK : Hid (TreeOk t (kpL t)) := ok1
      obtain ⟨s1, s2⟩ := snd_facts he hev
      have HS1 : Hid ((∀ i, i < (kpL t).length → sdOk t (kpL t) i = true) → sndB t k = true) := s1
      have HS2 : Hid (∀ i, i < (kpL t).length → sdOk t (kpL t) i = false → sndB t k = false) := s2
      clear he hev hk hfe hf ok1 s1 s2
      go_enter Try.func16, Try.ntmps16
      go_wp2_with fail
      refine (vEven_any _ b o c t k _ HA.out HK.out).mono ?_
      rintro e w1 ⟨rfl, hb1⟩
      rw [HE.out, FE.out, if_pos rfl, if_pos rfl]
      have B1 : Hid (Below w.heap.size w w1) := hb1
      clear hb1
      go_wp2_with fail
      refine (vkeys_any _ b o c t _ (HA.out.below B1.out)).mono ?_
      rintro e w2 ⟨v2, rfl, ho2, hb2⟩
      rw [HE.out]
      obtain ⟨a1, c1, g1, rfl, -, -, hp2⟩ := pls_of_owns ho2
      have P2 : Hid (PlsAt w2 a1 g1 (kpL t)) := hp2
      have B2 : Hid (Below w.heap.size w w2) := B1.out.trans (hb2.mono B1.out.size)
      have hw2 := B2.out.size
      clear ho2 hp2 hb2
      generalize kpL t = M at *
      generalize hSB : sndB t k = SB at *
      have HSB : Hid (sndB t k = SB) := hSB
      clear hSB
      go_wp2_with fail
      go_loopw [9] (fun i wr => ∃ j : Nat, j ≤ M.length ∧ i = .int .i64 j ∧ (∀ i, i < j → sdOk t M i = true) ∧ Below w2.heap.size w2 wr) (fun i _ => M.length - (intOf i).toNat)
      case atStart => exact ⟨0, Nat.zero_le _, rfl, fun i hi => by omega, Below.refl _ _⟩
      case round =>
        obtain ⟨j, hj, rfl, hall, hJ⟩ := hrel
        have HZ : Hid (Below w.heap.size w wr) := B2.out.trans (hJ.mono B2.out.size)
        have HJ : Hid (Below w2.heap.size w2 wr) := hJ
        have HALL : Hid (∀ i, i < j → sdOk t M i = true) := hall
        have zz := hJ.size
        by_cases hlt : j < M.length
        · obtain rfl : a1 = some ⟨g1, 0, none⟩ := P2.out.base (by omega)
          have hg1 := P2.out.lt (by omega)
          have r1 := (P2.out.below hJ).cells j hlt
          have hyl := (HOK.out _ (getD_mem hlt)).1
          have HC : Hid _ := (HA.out.below HZ.out).cells _ hyl
          have HLF : Hid _ := lf_of HOK.out (getD_mem hlt)
          have HNX : Hid (sdOk t M j = true → ∀ i, i < j + 1 → sdOk t M i = true) := fun q i hi => by
            by_cases e : i = j
            · rw [e, q]
            · exact hall i (by omega)
          have HSD : Hid (sdOk t M j = !((decide (j = 0) && (ndAt t (M.getD j 0)).wt != 1) || (lfB t (M.getD j 0) && decide ((ndAt t (M.getD j 0)).wt < 1)))) := rfl
          have HNO : Hid (sdOk t M j = false → SB = false) := HS2.out j hlt
          have hbr : b < wr.heap.size := by omega
          have hgr : g1 < wr.heap.size := by omega
          have j0 : (0 : Int) ≤ (j : Int) := Int.natCast_nonneg _
          have j1 : (j : Int) < (M.length : Int) := by omega
          clear hJ hall
          generalize M.getD j 0 = y at *
          have y0 : (0 : Int) ≤ (y : Int) := Int.natCast_nonneg _
          have y1 : (y : Int) < (t.length : Int) := by omega
          generalize ndAt t y = nd at *
          obtain ⟨k0, k1, k2, k3, k4, k5⟩ := nd
          simp only at HC HSD
          obtain ⟨c0, c1', c2, c3, c4, c5⟩ := HC.out
          have dj : ((j : Int) == 0) = decide (j = 0) := by
            by_cases e : j = 0
            · subst e; rfl
            · rw [decide_eq_false e, beq_eq_false_iff_ne]; omega
          cases hj0 : decide (j = 0)
          · rw [hj0] at dj
            rw [hj0] at HSD
            cases hlf : lfB t y
            · rw [hlf] at HSD
              have HLF' : Hid (leafB ⟨k0, k1, k2, k3, k4, k5⟩ = false) := HLF.out.trans hlf
              clear hj0 hlf
              go_wp2_with (first | (go_at_call 48; refine (vLeaf_any _ _ _ _ _ _ _).mono ?_; rintro e w5 ⟨rfl, hb5⟩; rw [HLF'.out]; have J5 : Hid (Below w2.heap.size w2 w5) := HJ.out.trans (hb5.mono HJ.out.size); clear hb5))
              exact ⟨⟨j + 1, by omega, by go_num, HNX.out (by rw [HSD.out]; rfl), J5.out⟩, by simp [intOf]; omega⟩
            · rw [hlf] at HSD
              have HLF' : Hid (leafB ⟨k0, k1, k2, k3, k4, k5⟩ = true) := HLF.out.trans hlf
              clear hj0 hlf
              cases hw1 : decide (k2 < 1)
              · rw [hw1] at HSD
                go_wp2_with (first | (go_at_call 48; refine (vLeaf_any _ _ _ _ _ _ _).mono ?_; rintro e w5 ⟨rfl, hb5⟩; rw [HLF'.out]; have J5 : Hid (Below w2.heap.size w2 w5) := HJ.out.trans (hb5.mono HJ.out.size); have r2 := (hb5.cell (p := ⟨g1, j, none⟩) hgr).trans r1; have f2 := (hb5.cell (p := ⟨b, o + y * 6 + 2, none⟩) hbr).trans c2; have hz5 := hb5.size; clear hb5))
                exact ⟨⟨j + 1, by omega, by go_num, HNX.out (by rw [HSD.out]; rfl), J5.out⟩, by simp [intOf]; omega⟩
              · rw [hw1] at HSD
                have HF : Hid (SB = false) := HNO.out (by rw [HSD.out]; rfl)
                go_wp2_with (first | (go_at_call 48; refine (vLeaf_any _ _ _ _ _ _ _).mono ?_; rintro e w5 ⟨rfl, hb5⟩; rw [HLF'.out]; have J5 : Hid (Below w.heap.size w w5) := HZ.out.trans (hb5.mono HZ.out.size); have r2 := (hb5.cell (p := ⟨g1, j, none⟩) hgr).trans r1; have f2 := (hb5.cell (p := ⟨b, o + y * 6 + 2, none⟩) hbr).trans c2; have hz5 := hb5.size; clear hb5))
                go_ret2
                exact ⟨by rw [HSB.out, HF.out, HE.out]; rfl, J5.out⟩
          · rw [hj0] at dj
            rw [hj0] at HSD
            clear hj0
            cases hne : (k2 != 1)
            · rw [hne] at HSD
              cases hlf : lfB t y
              · rw [hlf] at HSD
                have HLF' : Hid (leafB ⟨k0, k1, k2, k3, k4, k5⟩ = false) := HLF.out.trans hlf
                clear hlf
                go_wp2_with (first | (go_at_call 48; refine (vLeaf_any _ _ _ _ _ _ _).mono ?_; rintro e w5 ⟨rfl, hb5⟩; rw [HLF'.out]; have J5 : Hid (Below w2.heap.size w2 w5) := HJ.out.trans (hb5.mono HJ.out.size); clear hb5))
                exact ⟨⟨j + 1, by omega, by go_num, HNX.out (by rw [HSD.out]; rfl), J5.out⟩, by simp [intOf]; omega⟩
              · rw [hlf] at HSD
                have HLF' : Hid (leafB ⟨k0, k1, k2, k3, k4, k5⟩ = true) := HLF.out.trans hlf
                have k21 : k2 = 1 := by simpa using hne
                have hw1 : decide (k2 < 1) = false := decide_eq_false (by omega)
                rw [hw1] at HSD
                clear hlf k21
                go_wp2_with (first | (go_at_call 48; refine (vLeaf_any _ _ _ _ _ _ _).mono ?_; rintro e w5 ⟨rfl, hb5⟩; rw [HLF'.out]; have J5 : Hid (Below w2.heap.size w2 w5) := HJ.out.trans (hb5.mono HJ.out.size); have r2 := (hb5.cell (p := ⟨g1, j, none⟩) hgr).trans r1; have f2 := (hb5.cell (p := ⟨b, o + y * 6 + 2, none⟩) hbr).trans c2; have hz5 := hb5.size; clear hb5))
                exact ⟨⟨j + 1, by omega, by go_num, HNX.out (by rw [HSD.out]; rfl), J5.out⟩, by simp [intOf]; omega⟩
            · rw [hne] at HSD
              have HF : Hid (SB = false) := HNO.out (by rw [HSD.out]; rfl)
              go_wp2_with fail
              go_ret2
              exact ⟨by rw [HSB.out, HF.out, HE.out]; rfl, HZ.out⟩
        · obtain rfl : j = M.length := by omega
          have HT : Hid (SB = true) := HS1.out hall
          clear hJ hall
          go_wp2_with fail
          go_ret2
          exact ⟨by rw [HSB.out, HT.out, HE.out]; rfl, HZ.out⟩
  · have d : (keyE t != 0) = true := by simp [he]
    have F : Hid (sndB t k = false) := by show sndB t k = false; unfold sndB; rw [if_pos he]
    have hn := he
    clear he
    go_enter Try.func16, Try.ntmps16
    go_wp2_with (first | (go_at_call 14; refine (vEven_any _ b o c t k _ HA.out HK.out).mono ?_; rintro e w1 ⟨rfl, hb1⟩; rw [if_neg hn, if_neg hn]; have B1 : Hid (Below w.heap.size w w1) := hb1; clear hb1))
    go_ret2
    exact ⟨by rw [F.out]; rfl, B1.out⟩
end Go.Proofs.Ytiencggnijfjoaa

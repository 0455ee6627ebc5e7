/- Through the layers: the law LarchTables. -/
import Derived.Test.YtjekmkfpakdkeaaDoorTSpP
namespace Go.Proofs.YtjekmkfpakdkeaaDoor
open Go.RowKit
attribute [local go_sem ↓] Go.wp_at_zero Go.wp_at_succ

set_option maxRecDepth 100000 in
set_option maxHeartbeats 1000000 in
theorem sameNodes_any (ba bb : Option Addr) (ga oa ca gb ob cb : Nat) (a b : NL) (w : World) (ha : NodesAt w ba ga oa a) (hb : NodesAt w bb gb ob b) :
    Calls Tryd.prog 49 #[.slice ba a.length ca, .slice bb b.length cb] w fun e w' => e = .returned (.bool (nlEq a b)) ∧ Below w.heap.size w w' := by
  have la := ha.len
  have lb := hb.len
  unfold maxLen at la lb
  have HA : Hid _ := ha
  have HB : Hid _ := hb
  clear ha hb
  have hpn := nd_neq
  by_cases hl : a.length = b.length
  · have hd : ((a.length : Int) != (b.length : Int)) = false := by simp [hl]
    have HL : Hid _ := hl
    clear hl
    go_enter Tryd.func49, Tryd.ntmps49
    go_wp2_with fail
    go_loopw [13] (fun i wr => ∃ j : Nat, j ≤ a.length ∧ i = .int .i64 j ∧ (∀ k, k < j → ndAt a k = ndAt b k) ∧ Below w.heap.size w wr) (fun i _ => a.length - (intOf i).toNat)
    case atStart => exact ⟨0, Nat.zero_le _, rfl, fun k hk => by omega, Below.refl _ _⟩
    case round =>
      obtain ⟨j, hj, rfl, hall, hbw⟩ := hrel
      have HAL : Hid _ := hall
      clear hall
      by_cases hlt : j < a.length
      · have hlb : j < b.length := by have := HL.out; omega
        obtain rfl : ba = some ⟨ga, oa, none⟩ := HA.out.base (by omega)
        obtain rfl : bb = some ⟨gb, ob, none⟩ := HB.out.base (by omega)
        have HC : Hid _ := (HA.out.below hbw).cells j hlt
        have HD : Hid _ := (HB.out.below hbw).cells j hlb
        have j0 : (0 : Int) ≤ (j : Int) := Int.natCast_nonneg _
        have j1 : (j : Int) < (a.length : Int) := by omega
        have j2 : (j : Int) < (b.length : Int) := by omega
        by_cases hq : ndAt a j = ndAt b j
        · have HQ : Hid _ := hq
          have HX : Hid _ := ndEq_yes.2 hq
          clear hq
          generalize ndAt a j = x at HC HX
          generalize ndAt b j = y at HD HX
          obtain ⟨x0, x1, x2, x3, x4, x5⟩ := x
          obtain ⟨y0, y1, y2, y3, y4, y5⟩ := y
          simp only at HC HD
          obtain ⟨c0, c1, c2, c3, c4, c5⟩ := HC.out
          obtain ⟨d0, d1, d2, d3, d4, d5⟩ := HD.out
          have hx := HX.out
          clear HC HD HX
          go_wp2_with fail
          go_quiet (fail)
          go_wp2_with fail
          refine ⟨⟨j + 1, by omega, by go_num, fun k hk => ?_, below_drewN hbw _⟩, by simp [intOf]; omega⟩
          by_cases e : k = j
          · subst e; exact HQ.out
          · exact HAL.out k (by omega)
        · have HX : Hid _ := ndEq_no hq
          have F : Hid (nlEq a b = false) := by
            show nlEq a b = false
            unfold nlEq
            simp only [decide_eq_false_iff_not]
            intro h
            exact hq (by rw [h])
          clear hq
          generalize ndAt a j = x at HC HX
          generalize ndAt b j = y at HD HX
          obtain ⟨x0, x1, x2, x3, x4, x5⟩ := x
          obtain ⟨y0, y1, y2, y3, y4, y5⟩ := y
          simp only at HC HD
          obtain ⟨c0, c1, c2, c3, c4, c5⟩ := HC.out
          obtain ⟨d0, d1, d2, d3, d4, d5⟩ := HD.out
          have hx := HX.out
          clear HC HD HX
          go_wp2_with fail
          go_quiet (fail)
          go_wp2_with fail
          go_ret
          exact ⟨by rw [F.out]; rfl, below_drewN hbw _⟩
      · have F : Hid (nlEq a b = true) := by
          show nlEq a b = true
          unfold nlEq
          simp only [decide_eq_true_eq]
          exact nl_ext HL.out (fun i hi => HAL.out i (by omega))
        go_wp2_with fail
        go_ret
        exact ⟨by rw [F.out]; rfl, hbw⟩
  · have hd : ((a.length : Int) != (b.length : Int)) = true := by simp; omega
    have F : Hid (nlEq a b = false) := by
      show nlEq a b = false
      unfold nlEq
      simp only [decide_eq_false_iff_not]
      intro h
      exact hl (by rw [h])
    clear hl
    go_enter Tryd.func49, Tryd.ntmps49
    go_wp2_with fail
    go_ret
    exact ⟨by rw [F.out]; rfl, Below.refl _ _⟩
set_option maxRecDepth 100000 in
theorem copyNodes_any (ba : Option Addr) (ga oa ca : Nat) (t : NL) (w : World) (h : NodesAt w ba ga oa t) (hnil : ba = none → t.length = 0 ∧ ca = 0) (hbig : t.length ≤ 1000000) :
    Calls Tryd.prog 48 #[.slice ba t.length ca] w fun e w' => ∃ v, e = .returned v ∧ w'.ownsRow w.heap.size 54 6 v t.length (ndCells t) ∧ Below w.heap.size w w' := by
  have HA : Hid (NodesAt _ _ _ _ _) := h
  have HN : Hid (ba = none → t.length = 0 ∧ ca = 0) := hnil
  clear h hnil
  obtain ⟨i0, hi0, hz0, hz1, hz2⟩ := info_parts nd_info'
  go_enter Tryd.func48, Tryd.ntmps48
  go_wp2_with (first | (at_builtin; (refine wpList_append_all (by rfl) _ _ _ (by rfl) w.heap.size 54 i0 _ 6 48 nds_under' hi0 hz0 hz1 hz2 rfl (by omega) _ 0 [] (by rfl) ⟨rfl, Or.inr ⟨w.heap.size, 0, #[], rfl, Nat.le_refl _, heap_alloc_at _ _ _ rfl, Nat.le_refl _, (by unfold maxLen; omega), rfl, rfl⟩⟩ ba t.length ca (ndCells t) (by rfl) HN.out (ndCells_length _) (nodes_news (HA.out.below (below_alloc _ _))) (ndCells_all _) (by unfold maxLen; omega) (by omega) (by simp) ?_); intro v2 w2 ho2 hgrow hnl; rw [Nat.zero_add, List.nil_append] at ho2; have O2 : Hid (World.ownsRow _ _ _ _ _ _ _) := ho2; have B2 : Hid (Below w.heap.size w w2) := Below.grown (below_alloc _ _) hgrow (by simp) (by intro k hk; simp [Value.ownBlock] at hk; omega); clear hgrow hnl ho2))
  go_ret
  exact ⟨_, rfl, O2.out, B2.out⟩
/-- All that LarchTables rests on. -/
structure LTF (t : NL) (x : Nat) (s : List UInt8) (N X M : NL) : Prop where
  tx : textA t = s
  n1 : normL t = N
  n2 : formE N = 0
  n3 : N.length = t.length
  r1 : readE s = 0
  r2 : readL s = N
  l2 : s.length ≤ 7000000
  m1 : mirA N = M
  m2 : formE M = 0
  m3 : mirA M = N
  m4 : M.length = t.length
  s1 : subL N (x : Int) = X
  s2 : subE N (x : Int) = 0
  g1 : graA N (x : Int) X = N
  g2 : graE N (x : Int) X = 0
theorem ltf_of {t : NL} (h1 : formE t = 0) (hin : NodesIn t) {x : Nat} (hx : x < t.length) : ∃ s N X M, LTF t x s N X M := by
  obtain ⟨hb1, hf⟩ := formE_ok h1
  obtain ⟨B, a1, a2, a3⟩ := form_abs hf
  have a4 := abs_in64 hin a1
  obtain ⟨r1, r2, -, -⟩ := read_trip a3 a4 (by omega)
  have hl := txtB_len B a3 a4
  have n2 := lay_formE a3 (by omega)
  have hfN := lay_form a3
  have nl : (B.lay 0).length = t.length := by rw [BT.lay_length]; exact a2
  obtain ⟨D, d1, d2, d3⟩ := form_abs_at hfN (x := x) (by omega)
  have x2 := lay_formE d3 (by omega)
  obtain ⟨b, bu, g1, g2⟩ := graft_ex hfN (lay_form d3) (q := x) (by omega)
  obtain rfl := g1.det (lay_abs0 D)
  have g3 := graft_self d1 g2
  obtain rfl := g3.det (lay_abs0 B)
  have m2 := lay_formE (BT.mir_ok a3) (by rw [BT.mir_size]; omega)
  exact ⟨txtB b, b.lay 0, bu.lay 0, b.mir.lay 0, textA_abs h1 hin a1, normL_abs h1 a1, n2, nl, r1, r2, by omega, mirA_abs n2 (lay_abs0 b), m2, by rw [mirA_abs m2 (lay_abs0 _), BT.mir_mir], by rw [BT.lay_length, BT.mir_size]; exact a2, (subL_abs n2 (by omega) d1).1, (subL_abs n2 (by omega) d1).2, graA_abs n2 x2 (by omega) (lay_abs0 bu) g2 (by omega), by rw [graE_abs n2 x2 (by omega) (lay_abs0 bu) g2, if_neg (by omega)]⟩
def emptyB : BT := .node ⟨0, 1, 1, 0⟩ (.leaf ⟨0, 1, 1, 0⟩) (.leaf ⟨0, 1, 1, 0⟩)
theorem empty_read : readE (textA emptyT) = 0 ∧ readL (textA emptyT) = emptyT ∧ (textA emptyT).length ≤ 7000000 ∧ sameE emptyT emptyT = 0 ∧ sameB emptyT emptyT = true := by
  have e : emptyB.lay 0 = emptyT := rfl
  have a1 : Abs emptyT 0 emptyB := by rw [← e]; exact lay_abs0 emptyB
  have ok : emptyB.ok := abs_ok empty_form a1
  have i6 := abs_in64 empty_in a1
  have hs : emptyB.size = 3 := rfl
  obtain ⟨r1, r2, -, -⟩ := read_trip ok i6 (by omega)
  have hl := txtB_len emptyB ok i6
  rw [textA_abs empty_E empty_in a1]
  refine ⟨r1, by rw [r2, e], by omega, sameE_ok empty_E empty_E, ?_⟩
  unfold sameB
  rw [if_pos ⟨empty_E, empty_E⟩]
  unfold nlEq
  simp
theorem nlEq_me3 (a : NL) : nlEq a a = true := by unfold nlEq; simp
theorem nodes_take {w : World} {base : Option Addr} {b o : Nat} {t : NL} (h : NodesAt w base b o t) (n : Nat) : NodesAt w base b o (t.take n) := by
  have hl : (t.take n).length ≤ t.length := by simp; omega
  refine ⟨fun q => h.base (by omega), fun q => h.lt (by omega), fun i hi => ?_, Nat.le_trans hl h.len⟩
  have e : ndAt (t.take n) i = ndAt t i := by
    unfold ndAt
    rw [List.length_take] at hi
    rw [List.getD_eq_getElem?_getD, List.getD_eq_getElem?_getD, List.getElem?_take, if_pos (by omega)]
  rw [e]
  exact h.cells i (by omega)
theorem in_take {t : NL} (h : NodesIn t) (n : Nat) : NodesIn (t.take n) := by
  intro i hi
  have e : ndAt (t.take n) i = ndAt t i := by
    unfold ndAt
    rw [List.length_take] at hi
    rw [List.getD_eq_getElem?_getD, List.getD_eq_getElem?_getD, List.getElem?_take, if_pos (by omega)]
  rw [e]
  exact h i (by rw [List.length_take] at hi; omega)
theorem place_of (p : Int) (n : Nat) (h : 0 < n) : ∃ x : Nat, x < n ∧ ((p.tmod (n : Int) < 0 ∧ x = 0) ∨ (p.tmod (n : Int) = (x : Int))) := by
  by_cases q : p.tmod (n : Int) < 0
  · exact ⟨0, h, Or.inl ⟨q, rfl⟩⟩
  · have h2 := Int.tmod_lt_of_pos p (show (0 : Int) < (n : Int) by omega)
    exact ⟨(p.tmod (n : Int)).toNat, by omega, Or.inr (by omega)⟩
set_option maxRecDepth 100000 in
set_option maxHeartbeats 8000000 in
theorem tables_any (ba : Option Addr) (ga oa ca : Nat) (t : NL) (p : Int) (w : World) (ha : NodesAt w ba ga oa t) (hia : NodesIn t) (hcap : t.length ≤ ca) (hnil : ba = none → t.length = 0 ∧ ca = 0) (hlaid : LaidB w.heap.size w) :
    Calls Tryd.prog 11 #[.slice ba t.length ca, .int .i64 p] w fun e w' => e = .returned (.bool true) ∧ Below w.heap.size w w' := by
  have HA : Hid (NodesAt _ _ _ _ _) := ha
  have HIA : Hid (NodesIn t) := hia
  have HNL : Hid (ba = none → t.length = 0 ∧ ca = 0) := hnil
  have HL : Hid (LaidB _ _) := hlaid
  have ER : Hid (readE (textA emptyT) = 0 ∧ readL (textA emptyT) = emptyT ∧ (textA emptyT).length ≤ 7000000 ∧ sameB emptyT emptyT = true ∧ sameE emptyT emptyT = 0) := ⟨empty_read.1, empty_read.2.1, empty_read.2.2.1, empty_read.2.2.2.2, empty_read.2.2.2.1⟩
  have elen := empty_read.2.2.1
  have K1 : Hid True := trivial
  clear ha hia hnil hlaid
  go_enter Tryd.func11, Tryd.ntmps11
  go_upto_if 53 with (first | (go_at_call 34; have hq := K1; refine (empty_any _).mono ?_; rintro e w1 ⟨rfl, ho1, hb1⟩; have P1 : Hid (NodesAt _ _ _ _ _) := nodes_of_cells (fun j hj => ho1.cellAt j hj) (owns_lt ho1 _ rfl).2 (by decide); have B1 : Hid (Below w.heap.size w w1) := hb1; clear hb1 ho1 hq K1) | (go_at_call 45; refine (text_any (some ⟨w.heap.size, 0, none⟩) w.heap.size 0 3 emptyT _ P1.out empty_in (LaidB.tabs (fun w' h' => HL.out w' (B1.out.trans (h'.mono B1.out.size))))).mono ?_; rintro e w2 ⟨rfl, hb2⟩; rw [empty_E]; have B2 : Hid (Below w.heap.size w w2) := B1.out.trans (hb2.mono B1.out.size); clear hb2 P1) | (go_at_call 47; refine (read_any (textA emptyT) _ (by omega) (fun w' h' => HL.out w' (B2.out.trans (h'.mono B2.out.size)))).mono ?_; rintro e w3 ⟨v3, rfl, ho3, hb3⟩; rw [ER.out.2.1] at ho3; rw [ER.out.1]; obtain ⟨a3, c3, g3, rfl, -, -, hp3⟩ := nodes_of_owns ho3; have P3 : Hid (NodesAt _ _ _ _ _) := hp3; have B3 : Hid (Below w.heap.size w w3) := B2.out.trans (hb3.mono B2.out.size); clear hb3 ho3 hp3) | (go_at_call 34; have hq := P3; refine (empty_any _).mono ?_; rintro e w4 ⟨rfl, ho4, hb4⟩; have P4 : Hid (NodesAt _ _ _ _ _) := nodes_of_cells (fun j hj => ho4.cellAt j hj) (owns_lt ho4 _ rfl).2 (by decide); have Q3 : Hid (NodesAt _ _ _ _ _) := P3.out.below hb4; have B4 : Hid (Below w.heap.size w w4) := B3.out.trans (hb4.mono B3.out.size); clear hb4 ho4 hq P3) | (go_at_call 19; refine (same_any _ (some ⟨w3.heap.size, 0, none⟩) g3 0 c3 w3.heap.size 0 3 emptyT emptyT _ Q3.out P4.out).mono ?_; rintro e w5 ⟨rfl, hb5⟩; rw [ER.out.2.2.2.1, ER.out.2.2.2.2]; have B5 : Hid (Below w.heap.size w w5) := B4.out.trans (hb5.mono B4.out.size); clear hb5 Q3 P4))
  go_cut [0] from 51 to 55 (fun v wx => ∃ (T : NL) (cT : Nat), v = .slice ba T.length cT ∧ wx = w5 ∧ NodesAt w5 ba ga oa T ∧ NodesIn T ∧ T.length ≤ 200 ∧ (ba = none → T.length = 0 ∧ cT = 0))
  case first =>
    by_cases hl : t.length ≤ 200
    · have d1 : (t.length : Int) ≤ 200 := by omega
      have d2 : decide ((200 : Int) < (t.length : Int)) = false := decide_eq_false (by omega)
      clear hl
      go_wp2_with fail
      go_meet
      exact ⟨t, ca, rfl, rfl, HA.out.below B5.out, HIA.out, by omega, HNL.out⟩
    · obtain rfl : ba = some ⟨ga, oa, none⟩ := HA.out.base (by omega)
      have d1 : (200 : Int) < (t.length : Int) := by omega
      have d2 : (200 : Int) ≤ (ca : Int) := by omega
      have HTL : Hid ((t.take 200).length = 200) := by show _ = _; rw [List.length_take]; omega
      clear hl
      go_wp2_with fail
      go_meet
      exact ⟨t.take 200, ca, by rw [HTL.out], rfl, nodes_take (HA.out.below B5.out) 200, in_take HIA.out 200, by rw [HTL.out]; omega, (fun q => by cases q)⟩
  case rest =>
    obtain ⟨T, cT, rfl, hwx, hT, hTI, hT2, hTN⟩ := hcut
    subst hwx
    have B6 : Hid (Below w.heap.size w wc) := B5.out
    have HT : Hid (NodesAt _ _ _ _ _) := hT
    have HTI : Hid (NodesIn T) := hTI
    have HTN : Hid (ba = none → T.length = 0 ∧ cT = 0) := hTN
    have K1 : Hid True := trivial
    have K2 : Hid True := trivial
    have K3 : Hid True := trivial
    have K4 : Hid True := trivial
    have K5 : Hid True := trivial
    have K6 : Hid True := trivial
    have K7 : Hid True := trivial
    have K8 : Hid True := trivial
    clear hT hTI hTN B5
    generalize wc = w6 at *
    by_cases he : formE T = 0
    · have HE : Hid (formE T = 0) := he
      obtain ⟨hbig, hf⟩ := formE_ok he
      have hpos := hf.pos
      obtain ⟨x, hx, hp⟩ := place_of p T.length hpos
      obtain ⟨s, N, X, M, hF⟩ := ltf_of he HTI.out hx
      have HF : Hid (LTF T x s N X M) := hF
      have sl := hF.l2
      have nl : N.length ≤ 200 := by have := hF.n3; omega
      have ml : M.length ≤ 200 := by have := hF.m4; omega
      have np : (0 : Int) < (N.length : Int) := by have := hF.n3; omega
      rw [← hF.n3] at hp hx
      have x0 : (0 : Int) ≤ (x : Int) := Int.natCast_nonneg _
      have x1 : (x : Int) < (N.length : Int) := by omega
      clear he hf hF hpos
      rcases hp with ⟨hp, rfl⟩ | hp
      · go_wp2_with (first | (go_at_call 48; have hq := K1; refine (copyNodes_any _ ga oa cT T _ HT.out HTN.out (by omega)).mono ?_; rintro e w7 ⟨v7, rfl, ho7, hb7⟩; obtain ⟨a7, c7, g7, rfl, -, HZ7, hp7⟩ := nodes_of_owns ho7; have PA : Hid (NodesAt _ _ _ _ _) := hp7; have HN7 : Hid (_ → _) := HZ7; clear ho7 hp7 HZ7; have HTx : Hid (NodesAt _ _ _ _ _) := HT.out.below hb7; clear HT; have HT : Hid (NodesAt _ _ _ _ _) := HTx.out; clear HTx; have B7 : Hid (Below w.heap.size w w7) := B6.out.trans (hb7.mono B6.out.size); clear hb7 hq K1) | (go_at_call 13; refine (check_any _ g7 0 c7 T _ PA.out).mono ?_; rintro e w8 ⟨rfl, hb8⟩; rw [HE.out]; clear PA; have HTx : Hid (NodesAt _ _ _ _ _) := HT.out.below hb8; clear HT; have HT : Hid (NodesAt _ _ _ _ _) := HTx.out; clear HTx; have B8 : Hid (Below w.heap.size w w8) := B7.out.trans (hb8.mono B7.out.size); clear hb8) | (go_at_call 48; have hq := K2; refine (copyNodes_any _ ga oa cT T _ HT.out HTN.out (by omega)).mono ?_; rintro e w9 ⟨v9, rfl, ho9, hb9⟩; obtain ⟨a9, c9, g9, rfl, -, HZ9, hp9⟩ := nodes_of_owns ho9; have PB : Hid (NodesAt _ _ _ _ _) := hp9; have HN9 : Hid (_ → _) := HZ9; clear ho9 hp9 HZ9; have HTx : Hid (NodesAt _ _ _ _ _) := HT.out.below hb9; clear HT; have HT : Hid (NodesAt _ _ _ _ _) := HTx.out; clear HTx; have B9 : Hid (Below w.heap.size w w9) := B8.out.trans (hb9.mono B8.out.size); clear hb9 hq K2) | (go_at_call 16; refine (norm_any _ g9 0 c9 T _ PB.out).mono ?_; rintro e w10 ⟨v10, rfl, ho10, hb10⟩; rw [HF.out.n1] at ho10; rw [HE.out]; obtain ⟨a10, c10, g10, rfl, -, HZ10, hp10⟩ := nodes_of_owns ho10; have PN : Hid (NodesAt _ _ _ _ _) := hp10; have HN10 : Hid (_ → _) := HZ10; clear ho10 hp10 HZ10; clear PB; have HTx : Hid (NodesAt _ _ _ _ _) := HT.out.below hb10; clear HT; have HT : Hid (NodesAt _ _ _ _ _) := HTx.out; clear HTx; have B10 : Hid (Below w.heap.size w w10) := B9.out.trans (hb10.mono B9.out.size); clear hb10) | (go_at_call 48; have hq := K3; refine (copyNodes_any _ ga oa cT T _ HT.out HTN.out (by omega)).mono ?_; rintro e w11 ⟨v11, rfl, ho11, hb11⟩; obtain ⟨a11, c11, g11, rfl, -, HZ11, hp11⟩ := nodes_of_owns ho11; have PC : Hid (NodesAt _ _ _ _ _) := hp11; have HN11 : Hid (_ → _) := HZ11; clear ho11 hp11 HZ11; have HTx : Hid (NodesAt _ _ _ _ _) := HT.out.below hb11; clear HT; have HT : Hid (NodesAt _ _ _ _ _) := HTx.out; clear HTx; have PNx : Hid (NodesAt _ _ _ _ _) := PN.out.below hb11; clear PN; have PN : Hid (NodesAt _ _ _ _ _) := PNx.out; clear PNx; have B11 : Hid (Below w.heap.size w w11) := B10.out.trans (hb11.mono B10.out.size); clear hb11 hq K3) | (go_at_call 45; refine (text_any _ g11 0 c11 T _ PC.out HTI.out (LaidB.tabs (fun w' h' => HL.out w' (B11.out.trans (h'.mono B11.out.size))))).mono ?_; rintro e w12 ⟨rfl, hb12⟩; rw [HF.out.tx, HE.out]; clear PC; clear HT; have PNx : Hid (NodesAt _ _ _ _ _) := PN.out.below hb12; clear PN; have PN : Hid (NodesAt _ _ _ _ _) := PNx.out; clear PNx; have B12 : Hid (Below w.heap.size w w12) := B11.out.trans (hb12.mono B11.out.size); clear hb12) | (go_at_call 47; refine (read_any s _ (by omega) (fun w' h' => HL.out w' (B12.out.trans (h'.mono B12.out.size)))).mono ?_; rintro e w13 ⟨v13, rfl, ho13, hb13⟩; rw [HF.out.r2] at ho13; rw [HF.out.r1]; obtain ⟨a13, c13, g13, rfl, -, HZ13, hp13⟩ := nodes_of_owns ho13; have PBK : Hid (NodesAt _ _ _ _ _) := hp13; have HN13 : Hid (_ → _) := HZ13; clear ho13 hp13 HZ13; have PNx : Hid (NodesAt _ _ _ _ _) := PN.out.below hb13; clear PN; have PN : Hid (NodesAt _ _ _ _ _) := PNx.out; clear PNx; have B13 : Hid (Below w.heap.size w w13) := B12.out.trans (hb13.mono B12.out.size); clear hb13) | (go_at_call 49; have hq := PBK; refine (sameNodes_any _ _ g13 0 c13 g10 0 c10 N N _ PBK.out PN.out).mono ?_; rintro e w14 ⟨rfl, hb14⟩; rw [nlEq_me3]; have PNx : Hid (NodesAt _ _ _ _ _) := PN.out.below hb14; clear PN; have PN : Hid (NodesAt _ _ _ _ _) := PNx.out; clear PNx; have B14 : Hid (Below w.heap.size w w14) := B13.out.trans (hb14.mono B13.out.size); clear hb14 hq PBK) | (go_at_call 48; have hq := K4; refine (copyNodes_any _ g10 0 c10 N _ PN.out HN10.out (by omega)).mono ?_; rintro e w15 ⟨v15, rfl, ho15, hb15⟩; obtain ⟨a15, c15, g15, rfl, -, HZ15, hp15⟩ := nodes_of_owns ho15; have PE : Hid (NodesAt _ _ _ _ _) := hp15; have HN15 : Hid (_ → _) := HZ15; clear ho15 hp15 HZ15; have PNx : Hid (NodesAt _ _ _ _ _) := PN.out.below hb15; clear PN; have PN : Hid (NodesAt _ _ _ _ _) := PNx.out; clear PNx; have B15 : Hid (Below w.heap.size w w15) := B14.out.trans (hb15.mono B14.out.size); clear hb15 hq K4) | (go_at_call 43; have hq := K5; refine (Mirror_any _ g15 0 c15 N _ PE.out).mono ?_; rintro e w16 ⟨v16, rfl, ho16, hb16⟩; rw [HF.out.m1] at ho16; rw [HF.out.n2]; obtain ⟨a16, c16, g16, rfl, -, HZ16, hp16⟩ := nodes_of_owns ho16; have PM : Hid (NodesAt _ _ _ _ _) := hp16; have HN16 : Hid (_ → _) := HZ16; clear ho16 hp16 HZ16; clear PE; have PNx : Hid (NodesAt _ _ _ _ _) := PN.out.below hb16; clear PN; have PN : Hid (NodesAt _ _ _ _ _) := PNx.out; clear PNx; have B16 : Hid (Below w.heap.size w w16) := B15.out.trans (hb16.mono B15.out.size); clear hb16 hq K5) | (go_at_call 48; have hq := K6; refine (copyNodes_any _ g16 0 c16 M _ PM.out HN16.out (by omega)).mono ?_; rintro e w17 ⟨v17, rfl, ho17, hb17⟩; obtain ⟨a17, c17, g17, rfl, -, HZ17, hp17⟩ := nodes_of_owns ho17; have PG : Hid (NodesAt _ _ _ _ _) := hp17; have HN17 : Hid (_ → _) := HZ17; clear ho17 hp17 HZ17; have PNx : Hid (NodesAt _ _ _ _ _) := PN.out.below hb17; clear PN; have PN : Hid (NodesAt _ _ _ _ _) := PNx.out; clear PNx; clear PM; have B17 : Hid (Below w.heap.size w w17) := B16.out.trans (hb17.mono B16.out.size); clear hb17 hq K6) | (go_at_call 43; refine (Mirror_any _ g17 0 c17 M _ PG.out).mono ?_; rintro e w18 ⟨v18, rfl, ho18, hb18⟩; rw [HF.out.m3] at ho18; rw [HF.out.m2]; obtain ⟨a18, c18, g18, rfl, -, HZ18, hp18⟩ := nodes_of_owns ho18; have PH : Hid (NodesAt _ _ _ _ _) := hp18; have HN18 : Hid (_ → _) := HZ18; clear ho18 hp18 HZ18; clear PG; have PNx : Hid (NodesAt _ _ _ _ _) := PN.out.below hb18; clear PN; have PN : Hid (NodesAt _ _ _ _ _) := PNx.out; clear PNx; have B18 : Hid (Below w.heap.size w w18) := B17.out.trans (hb18.mono B17.out.size); clear hb18) | (go_at_call 49; have hq := PH; refine (sameNodes_any _ _ g18 0 c18 g10 0 c10 N N _ PH.out PN.out).mono ?_; rintro e w19 ⟨rfl, hb19⟩; rw [nlEq_me3]; have PNx : Hid (NodesAt _ _ _ _ _) := PN.out.below hb19; clear PN; have PN : Hid (NodesAt _ _ _ _ _) := PNx.out; clear PNx; have B19 : Hid (Below w.heap.size w w19) := B18.out.trans (hb19.mono B18.out.size); clear hb19 hq PH) | (go_at_call 48; have hq := K7; refine (copyNodes_any _ g10 0 c10 N _ PN.out HN10.out (by omega)).mono ?_; rintro e w20 ⟨v20, rfl, ho20, hb20⟩; obtain ⟨a20, c20, g20, rfl, -, HZ20, hp20⟩ := nodes_of_owns ho20; have PI : Hid (NodesAt _ _ _ _ _) := hp20; have HN20 : Hid (_ → _) := HZ20; clear ho20 hp20 HZ20; have PNx : Hid (NodesAt _ _ _ _ _) := PN.out.below hb20; clear PN; have PN : Hid (NodesAt _ _ _ _ _) := PNx.out; clear PNx; have B20 : Hid (Below w.heap.size w w20) := B19.out.trans (hb20.mono B19.out.size); clear hb20 hq K7) | (go_at_call 39; refine (Sub_any _ g20 0 c20 N ((0 : Nat) : Int) _ PI.out).mono ?_; rintro e w21 ⟨v21, rfl, ho21, hb21⟩; rw [HF.out.s1] at ho21; rw [HF.out.s2]; obtain ⟨a21, c21, g21, rfl, -, HZ21, hp21⟩ := nodes_of_owns ho21; have PX : Hid (NodesAt _ _ _ _ _) := hp21; have HN21 : Hid (_ → _) := HZ21; clear ho21 hp21 HZ21; clear PI; have PNx : Hid (NodesAt _ _ _ _ _) := PN.out.below hb21; clear PN; have PN : Hid (NodesAt _ _ _ _ _) := PNx.out; clear PNx; have B21 : Hid (Below w.heap.size w w21) := B20.out.trans (hb21.mono B20.out.size); clear hb21) | (go_at_call 48; have hq := K8; refine (copyNodes_any _ g10 0 c10 N _ PN.out HN10.out (by omega)).mono ?_; rintro e w22 ⟨v22, rfl, ho22, hb22⟩; obtain ⟨a22, c22, g22, rfl, -, HZ22, hp22⟩ := nodes_of_owns ho22; have PJ : Hid (NodesAt _ _ _ _ _) := hp22; have HN22 : Hid (_ → _) := HZ22; clear ho22 hp22 HZ22; have PNx : Hid (NodesAt _ _ _ _ _) := PN.out.below hb22; clear PN; have PN : Hid (NodesAt _ _ _ _ _) := PNx.out; clear PNx; have PXx : Hid (NodesAt _ _ _ _ _) := PX.out.below hb22; clear PX; have PX : Hid (NodesAt _ _ _ _ _) := PXx.out; clear PXx; have B22 : Hid (Below w.heap.size w w22) := B21.out.trans (hb22.mono B21.out.size); clear hb22 hq K8) | (go_at_call 41; refine (Graft_any _ _ g22 0 c22 g21 0 c21 N X ((0 : Nat) : Int) _ PJ.out PX.out).mono ?_; rintro e w23 ⟨v23, rfl, ho23, hb23⟩; rw [HF.out.g1] at ho23; rw [HF.out.g2]; obtain ⟨a23, c23, g23, rfl, -, HZ23, hp23⟩ := nodes_of_owns ho23; have PY : Hid (NodesAt _ _ _ _ _) := hp23; have HN23 : Hid (_ → _) := HZ23; clear ho23 hp23 HZ23; clear PJ; have PNx : Hid (NodesAt _ _ _ _ _) := PN.out.below hb23; clear PN; have PN : Hid (NodesAt _ _ _ _ _) := PNx.out; clear PNx; clear PX; have B23 : Hid (Below w.heap.size w w23) := B22.out.trans (hb23.mono B22.out.size); clear hb23) | (go_at_call 49; have hq := PY; refine (sameNodes_any _ _ g23 0 c23 g10 0 c10 N N _ PY.out PN.out).mono ?_; rintro e w24 ⟨rfl, hb24⟩; rw [nlEq_me3]; have PNx : Hid (NodesAt _ _ _ _ _) := PN.out.below hb24; clear PN; have PN : Hid (NodesAt _ _ _ _ _) := PNx.out; clear PNx; have B24 : Hid (Below w.heap.size w w24) := B23.out.trans (hb24.mono B23.out.size); clear hb24 hq PY))
        go_ret
        exact ⟨rfl, B24.out⟩
      · have hp0 : decide (p.tmod (N.length : Int) < 0) = false := decide_eq_false (by omega)
        go_wp2_with (first | (go_at_call 48; have hq := K1; refine (copyNodes_any _ ga oa cT T _ HT.out HTN.out (by omega)).mono ?_; rintro e w7 ⟨v7, rfl, ho7, hb7⟩; obtain ⟨a7, c7, g7, rfl, -, HZ7, hp7⟩ := nodes_of_owns ho7; have PA : Hid (NodesAt _ _ _ _ _) := hp7; have HN7 : Hid (_ → _) := HZ7; clear ho7 hp7 HZ7; have HTx : Hid (NodesAt _ _ _ _ _) := HT.out.below hb7; clear HT; have HT : Hid (NodesAt _ _ _ _ _) := HTx.out; clear HTx; have B7 : Hid (Below w.heap.size w w7) := B6.out.trans (hb7.mono B6.out.size); clear hb7 hq K1) | (go_at_call 13; refine (check_any _ g7 0 c7 T _ PA.out).mono ?_; rintro e w8 ⟨rfl, hb8⟩; rw [HE.out]; clear PA; have HTx : Hid (NodesAt _ _ _ _ _) := HT.out.below hb8; clear HT; have HT : Hid (NodesAt _ _ _ _ _) := HTx.out; clear HTx; have B8 : Hid (Below w.heap.size w w8) := B7.out.trans (hb8.mono B7.out.size); clear hb8) | (go_at_call 48; have hq := K2; refine (copyNodes_any _ ga oa cT T _ HT.out HTN.out (by omega)).mono ?_; rintro e w9 ⟨v9, rfl, ho9, hb9⟩; obtain ⟨a9, c9, g9, rfl, -, HZ9, hp9⟩ := nodes_of_owns ho9; have PB : Hid (NodesAt _ _ _ _ _) := hp9; have HN9 : Hid (_ → _) := HZ9; clear ho9 hp9 HZ9; have HTx : Hid (NodesAt _ _ _ _ _) := HT.out.below hb9; clear HT; have HT : Hid (NodesAt _ _ _ _ _) := HTx.out; clear HTx; have B9 : Hid (Below w.heap.size w w9) := B8.out.trans (hb9.mono B8.out.size); clear hb9 hq K2) | (go_at_call 16; refine (norm_any _ g9 0 c9 T _ PB.out).mono ?_; rintro e w10 ⟨v10, rfl, ho10, hb10⟩; rw [HF.out.n1] at ho10; rw [HE.out]; obtain ⟨a10, c10, g10, rfl, -, HZ10, hp10⟩ := nodes_of_owns ho10; have PN : Hid (NodesAt _ _ _ _ _) := hp10; have HN10 : Hid (_ → _) := HZ10; clear ho10 hp10 HZ10; clear PB; have HTx : Hid (NodesAt _ _ _ _ _) := HT.out.below hb10; clear HT; have HT : Hid (NodesAt _ _ _ _ _) := HTx.out; clear HTx; have B10 : Hid (Below w.heap.size w w10) := B9.out.trans (hb10.mono B9.out.size); clear hb10) | (go_at_call 48; have hq := K3; refine (copyNodes_any _ ga oa cT T _ HT.out HTN.out (by omega)).mono ?_; rintro e w11 ⟨v11, rfl, ho11, hb11⟩; obtain ⟨a11, c11, g11, rfl, -, HZ11, hp11⟩ := nodes_of_owns ho11; have PC : Hid (NodesAt _ _ _ _ _) := hp11; have HN11 : Hid (_ → _) := HZ11; clear ho11 hp11 HZ11; have HTx : Hid (NodesAt _ _ _ _ _) := HT.out.below hb11; clear HT; have HT : Hid (NodesAt _ _ _ _ _) := HTx.out; clear HTx; have PNx : Hid (NodesAt _ _ _ _ _) := PN.out.below hb11; clear PN; have PN : Hid (NodesAt _ _ _ _ _) := PNx.out; clear PNx; have B11 : Hid (Below w.heap.size w w11) := B10.out.trans (hb11.mono B10.out.size); clear hb11 hq K3) | (go_at_call 45; refine (text_any _ g11 0 c11 T _ PC.out HTI.out (LaidB.tabs (fun w' h' => HL.out w' (B11.out.trans (h'.mono B11.out.size))))).mono ?_; rintro e w12 ⟨rfl, hb12⟩; rw [HF.out.tx, HE.out]; clear PC; clear HT; have PNx : Hid (NodesAt _ _ _ _ _) := PN.out.below hb12; clear PN; have PN : Hid (NodesAt _ _ _ _ _) := PNx.out; clear PNx; have B12 : Hid (Below w.heap.size w w12) := B11.out.trans (hb12.mono B11.out.size); clear hb12) | (go_at_call 47; refine (read_any s _ (by omega) (fun w' h' => HL.out w' (B12.out.trans (h'.mono B12.out.size)))).mono ?_; rintro e w13 ⟨v13, rfl, ho13, hb13⟩; rw [HF.out.r2] at ho13; rw [HF.out.r1]; obtain ⟨a13, c13, g13, rfl, -, HZ13, hp13⟩ := nodes_of_owns ho13; have PBK : Hid (NodesAt _ _ _ _ _) := hp13; have HN13 : Hid (_ → _) := HZ13; clear ho13 hp13 HZ13; have PNx : Hid (NodesAt _ _ _ _ _) := PN.out.below hb13; clear PN; have PN : Hid (NodesAt _ _ _ _ _) := PNx.out; clear PNx; have B13 : Hid (Below w.heap.size w w13) := B12.out.trans (hb13.mono B12.out.size); clear hb13) | (go_at_call 49; have hq := PBK; refine (sameNodes_any _ _ g13 0 c13 g10 0 c10 N N _ PBK.out PN.out).mono ?_; rintro e w14 ⟨rfl, hb14⟩; rw [nlEq_me3]; have PNx : Hid (NodesAt _ _ _ _ _) := PN.out.below hb14; clear PN; have PN : Hid (NodesAt _ _ _ _ _) := PNx.out; clear PNx; have B14 : Hid (Below w.heap.size w w14) := B13.out.trans (hb14.mono B13.out.size); clear hb14 hq PBK) | (go_at_call 48; have hq := K4; refine (copyNodes_any _ g10 0 c10 N _ PN.out HN10.out (by omega)).mono ?_; rintro e w15 ⟨v15, rfl, ho15, hb15⟩; obtain ⟨a15, c15, g15, rfl, -, HZ15, hp15⟩ := nodes_of_owns ho15; have PE : Hid (NodesAt _ _ _ _ _) := hp15; have HN15 : Hid (_ → _) := HZ15; clear ho15 hp15 HZ15; have PNx : Hid (NodesAt _ _ _ _ _) := PN.out.below hb15; clear PN; have PN : Hid (NodesAt _ _ _ _ _) := PNx.out; clear PNx; have B15 : Hid (Below w.heap.size w w15) := B14.out.trans (hb15.mono B14.out.size); clear hb15 hq K4) | (go_at_call 43; have hq := K5; refine (Mirror_any _ g15 0 c15 N _ PE.out).mono ?_; rintro e w16 ⟨v16, rfl, ho16, hb16⟩; rw [HF.out.m1] at ho16; rw [HF.out.n2]; obtain ⟨a16, c16, g16, rfl, -, HZ16, hp16⟩ := nodes_of_owns ho16; have PM : Hid (NodesAt _ _ _ _ _) := hp16; have HN16 : Hid (_ → _) := HZ16; clear ho16 hp16 HZ16; clear PE; have PNx : Hid (NodesAt _ _ _ _ _) := PN.out.below hb16; clear PN; have PN : Hid (NodesAt _ _ _ _ _) := PNx.out; clear PNx; have B16 : Hid (Below w.heap.size w w16) := B15.out.trans (hb16.mono B15.out.size); clear hb16 hq K5) | (go_at_call 48; have hq := K6; refine (copyNodes_any _ g16 0 c16 M _ PM.out HN16.out (by omega)).mono ?_; rintro e w17 ⟨v17, rfl, ho17, hb17⟩; obtain ⟨a17, c17, g17, rfl, -, HZ17, hp17⟩ := nodes_of_owns ho17; have PG : Hid (NodesAt _ _ _ _ _) := hp17; have HN17 : Hid (_ → _) := HZ17; clear ho17 hp17 HZ17; have PNx : Hid (NodesAt _ _ _ _ _) := PN.out.below hb17; clear PN; have PN : Hid (NodesAt _ _ _ _ _) := PNx.out; clear PNx; clear PM; have B17 : Hid (Below w.heap.size w w17) := B16.out.trans (hb17.mono B16.out.size); clear hb17 hq K6) | (go_at_call 43; refine (Mirror_any _ g17 0 c17 M _ PG.out).mono ?_; rintro e w18 ⟨v18, rfl, ho18, hb18⟩; rw [HF.out.m3] at ho18; rw [HF.out.m2]; obtain ⟨a18, c18, g18, rfl, -, HZ18, hp18⟩ := nodes_of_owns ho18; have PH : Hid (NodesAt _ _ _ _ _) := hp18; have HN18 : Hid (_ → _) := HZ18; clear ho18 hp18 HZ18; clear PG; have PNx : Hid (NodesAt _ _ _ _ _) := PN.out.below hb18; clear PN; have PN : Hid (NodesAt _ _ _ _ _) := PNx.out; clear PNx; have B18 : Hid (Below w.heap.size w w18) := B17.out.trans (hb18.mono B17.out.size); clear hb18) | (go_at_call 49; have hq := PH; refine (sameNodes_any _ _ g18 0 c18 g10 0 c10 N N _ PH.out PN.out).mono ?_; rintro e w19 ⟨rfl, hb19⟩; rw [nlEq_me3]; have PNx : Hid (NodesAt _ _ _ _ _) := PN.out.below hb19; clear PN; have PN : Hid (NodesAt _ _ _ _ _) := PNx.out; clear PNx; have B19 : Hid (Below w.heap.size w w19) := B18.out.trans (hb19.mono B18.out.size); clear hb19 hq PH) | (go_at_call 48; have hq := K7; refine (copyNodes_any _ g10 0 c10 N _ PN.out HN10.out (by omega)).mono ?_; rintro e w20 ⟨v20, rfl, ho20, hb20⟩; obtain ⟨a20, c20, g20, rfl, -, HZ20, hp20⟩ := nodes_of_owns ho20; have PI : Hid (NodesAt _ _ _ _ _) := hp20; have HN20 : Hid (_ → _) := HZ20; clear ho20 hp20 HZ20; have PNx : Hid (NodesAt _ _ _ _ _) := PN.out.below hb20; clear PN; have PN : Hid (NodesAt _ _ _ _ _) := PNx.out; clear PNx; have B20 : Hid (Below w.heap.size w w20) := B19.out.trans (hb20.mono B19.out.size); clear hb20 hq K7) | (go_at_call 39; refine (Sub_any _ g20 0 c20 N (x : Int) _ PI.out).mono ?_; rintro e w21 ⟨v21, rfl, ho21, hb21⟩; rw [HF.out.s1] at ho21; rw [HF.out.s2]; obtain ⟨a21, c21, g21, rfl, -, HZ21, hp21⟩ := nodes_of_owns ho21; have PX : Hid (NodesAt _ _ _ _ _) := hp21; have HN21 : Hid (_ → _) := HZ21; clear ho21 hp21 HZ21; clear PI; have PNx : Hid (NodesAt _ _ _ _ _) := PN.out.below hb21; clear PN; have PN : Hid (NodesAt _ _ _ _ _) := PNx.out; clear PNx; have B21 : Hid (Below w.heap.size w w21) := B20.out.trans (hb21.mono B20.out.size); clear hb21) | (go_at_call 48; have hq := K8; refine (copyNodes_any _ g10 0 c10 N _ PN.out HN10.out (by omega)).mono ?_; rintro e w22 ⟨v22, rfl, ho22, hb22⟩; obtain ⟨a22, c22, g22, rfl, -, HZ22, hp22⟩ := nodes_of_owns ho22; have PJ : Hid (NodesAt _ _ _ _ _) := hp22; have HN22 : Hid (_ → _) := HZ22; clear ho22 hp22 HZ22; have PNx : Hid (NodesAt _ _ _ _ _) := PN.out.below hb22; clear PN; have PN : Hid (NodesAt _ _ _ _ _) := PNx.out; clear PNx; have PXx : Hid (NodesAt _ _ _ _ _) := PX.out.below hb22; clear PX; have PX : Hid (NodesAt _ _ _ _ _) := PXx.out; clear PXx; have B22 : Hid (Below w.heap.size w w22) := B21.out.trans (hb22.mono B21.out.size); clear hb22 hq K8) | (go_at_call 41; refine (Graft_any _ _ g22 0 c22 g21 0 c21 N X (x : Int) _ PJ.out PX.out).mono ?_; rintro e w23 ⟨v23, rfl, ho23, hb23⟩; rw [HF.out.g1] at ho23; rw [HF.out.g2]; obtain ⟨a23, c23, g23, rfl, -, HZ23, hp23⟩ := nodes_of_owns ho23; have PY : Hid (NodesAt _ _ _ _ _) := hp23; have HN23 : Hid (_ → _) := HZ23; clear ho23 hp23 HZ23; clear PJ; have PNx : Hid (NodesAt _ _ _ _ _) := PN.out.below hb23; clear PN; have PN : Hid (NodesAt _ _ _ _ _) := PNx.out; clear PNx; clear PX; have B23 : Hid (Below w.heap.size w w23) := B22.out.trans (hb23.mono B22.out.size); clear hb23) | (go_at_call 49; have hq := PY; refine (sameNodes_any _ _ g23 0 c23 g10 0 c10 N N _ PY.out PN.out).mono ?_; rintro e w24 ⟨rfl, hb24⟩; rw [nlEq_me3]; have PNx : Hid (NodesAt _ _ _ _ _) := PN.out.below hb24; clear PN; have PN : Hid (NodesAt _ _ _ _ _) := PNx.out; clear PNx; have B24 : Hid (Below w.heap.size w w24) := B23.out.trans (hb24.mono B23.out.size); clear hb24 hq PY))
        go_ret
        exact ⟨rfl, B24.out⟩
    · obtain ⟨e1, e2⟩ := e_ne he
      clear he
      go_wp2_with (first | (go_at_call 48; have hq := K1; refine (copyNodes_any _ ga oa cT T _ HT.out HTN.out (by omega)).mono ?_; rintro e w7 ⟨v7, rfl, ho7, hb7⟩; obtain ⟨a7, c7, g7, rfl, -, HZ7, hp7⟩ := nodes_of_owns ho7; have PA : Hid (NodesAt _ _ _ _ _) := hp7; have HN7 : Hid (_ → _) := HZ7; clear ho7 hp7 HZ7; have HTx : Hid (NodesAt _ _ _ _ _) := HT.out.below hb7; clear HT; have HT : Hid (NodesAt _ _ _ _ _) := HTx.out; clear HTx; have B7 : Hid (Below w.heap.size w w7) := B6.out.trans (hb7.mono B6.out.size); clear hb7 hq K1) | (go_at_call 13; have hq := K2; refine (check_any _ g7 0 c7 T _ PA.out).mono ?_; rintro e w8 ⟨rfl, hb8⟩; clear PA; have HTx : Hid (NodesAt _ _ _ _ _) := HT.out.below hb8; clear HT; have HT : Hid (NodesAt _ _ _ _ _) := HTx.out; clear HTx; have B8 : Hid (Below w.heap.size w w8) := B7.out.trans (hb8.mono B7.out.size); clear hb8 hq K2) | (go_at_call 48; have hq := K3; refine (copyNodes_any _ ga oa cT T _ HT.out HTN.out (by omega)).mono ?_; rintro e w9 ⟨v9, rfl, ho9, hb9⟩; obtain ⟨a9, c9, g9, rfl, -, HZ9, hp9⟩ := nodes_of_owns ho9; have PB : Hid (NodesAt _ _ _ _ _) := hp9; have HN9 : Hid (_ → _) := HZ9; clear ho9 hp9 HZ9; have HTx : Hid (NodesAt _ _ _ _ _) := HT.out.below hb9; clear HT; have HT : Hid (NodesAt _ _ _ _ _) := HTx.out; clear HTx; have B9 : Hid (Below w.heap.size w w9) := B8.out.trans (hb9.mono B8.out.size); clear hb9 hq K3) | (go_at_call 16; refine (norm_any _ g9 0 c9 T _ PB.out).mono ?_; rintro e w10 ⟨v10, rfl, ho10, hb10⟩; clear ho10; clear PB; have HTx : Hid (NodesAt _ _ _ _ _) := HT.out.below hb10; clear HT; have HT : Hid (NodesAt _ _ _ _ _) := HTx.out; clear HTx; have B10 : Hid (Below w.heap.size w w10) := B9.out.trans (hb10.mono B9.out.size); clear hb10) | (go_at_call 48; have hq := K4; refine (copyNodes_any _ ga oa cT T _ HT.out HTN.out (by omega)).mono ?_; rintro e w11 ⟨v11, rfl, ho11, hb11⟩; obtain ⟨a11, c11, g11, rfl, -, HZ11, hp11⟩ := nodes_of_owns ho11; have PC : Hid (NodesAt _ _ _ _ _) := hp11; have HN11 : Hid (_ → _) := HZ11; clear ho11 hp11 HZ11; have HTx : Hid (NodesAt _ _ _ _ _) := HT.out.below hb11; clear HT; have HT : Hid (NodesAt _ _ _ _ _) := HTx.out; clear HTx; have B11 : Hid (Below w.heap.size w w11) := B10.out.trans (hb11.mono B10.out.size); clear hb11 hq K4) | (go_at_call 45; refine (text_any _ g11 0 c11 T _ PC.out HTI.out (LaidB.tabs (fun w' h' => HL.out w' (B11.out.trans (h'.mono B11.out.size))))).mono ?_; rintro e w12 ⟨rfl, hb12⟩; clear PC; have HTx : Hid (NodesAt _ _ _ _ _) := HT.out.below hb12; clear HT; have HT : Hid (NodesAt _ _ _ _ _) := HTx.out; clear HTx; have B12 : Hid (Below w.heap.size w w12) := B11.out.trans (hb12.mono B11.out.size); clear hb12) | (go_at_call 48; have hq := K5; refine (copyNodes_any _ ga oa cT T _ HT.out HTN.out (by omega)).mono ?_; rintro e w13 ⟨v13, rfl, ho13, hb13⟩; obtain ⟨a13, c13, g13, rfl, -, HZ13, hp13⟩ := nodes_of_owns ho13; have PD : Hid (NodesAt _ _ _ _ _) := hp13; have HN13 : Hid (_ → _) := HZ13; clear ho13 hp13 HZ13; have HTx : Hid (NodesAt _ _ _ _ _) := HT.out.below hb13; clear HT; have HT : Hid (NodesAt _ _ _ _ _) := HTx.out; clear HTx; have B13 : Hid (Below w.heap.size w w13) := B12.out.trans (hb13.mono B12.out.size); clear hb13 hq K5) | (go_at_call 13; refine (check_any _ g13 0 c13 T _ PD.out).mono ?_; rintro e w14 ⟨rfl, hb14⟩; clear PD; have HTx : Hid (NodesAt _ _ _ _ _) := HT.out.below hb14; clear HT; have HT : Hid (NodesAt _ _ _ _ _) := HTx.out; clear HTx; have B14 : Hid (Below w.heap.size w w14) := B13.out.trans (hb14.mono B13.out.size); clear hb14))
      go_ret
      exact ⟨rfl, B14.out⟩
end Go.Proofs.YtjekmkfpakdkeaaDoor

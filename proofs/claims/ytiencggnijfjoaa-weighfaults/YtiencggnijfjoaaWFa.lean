
/- Layer 17: the law WeighFaults. -/

import Derived.Test.YtiencggnijfjoaaWF4

import Derived.Deep.RegionHeld3

namespace Go.Proofs.Ytiencggnijfjoaa

open Go.RowKit

attribute [local go_sem ↓] Go.wp_at_zero Go.wp_at_succ

theorem isEq_same (a : List Int) : isEq a a = true := by unfold isEq; simp
/-- Did one of the first keys find a violation? -/
noncomputable def smB (t : NL) (X : List Nat) : Nat → Bool
  | 0 => false
  | j + 1 => smB t X j || decide (0 ≤ firstA t (ndAt t (X.getD j 0)).key)
theorem smB_some {t : NL} {X : List Nat} : ∀ j, j ≤ X.length → (smB t X j = true ↔ ∃ i, i < j ∧ 0 ≤ firstA t (ndAt t (X.getD i 0)).key)
  | 0, _ => by simp [smB]
  | j + 1, h => by
    unfold smB
    rw [Bool.or_eq_true, smB_some j (by omega), decide_eq_true_eq]
    constructor
    · rintro (⟨i, hi, q⟩ | q)
      · exact ⟨i, by omega, q⟩
      · exact ⟨j, by omega, q⟩
    · rintro ⟨i, hi, q⟩
      by_cases e : i = j
      · subst e; exact Or.inr q
      · exact Or.inl ⟨i, by omega, q⟩
theorem smB_all {t : NL} {k : Option BT} (he : keyE t = 0) (hk : Keyed t k) (ho : ordQ t = true) : smB t (kvL t (theL t 0)) (kvL t (theL t 0)).length = decide (0 < vioO k) := by
  have h1 := smB_some (t := t) (X := kvL t (theL t 0)) _ (Nat.le_refl _)
  have h2 := faults_law he hk ho
  have h3 : (∃ i, i < (kvL t (theL t 0)).length ∧ 0 ≤ firstA t (ndAt t ((kvL t (theL t 0)).getD i 0)).key) ↔ 0 < vioO k := by
    rw [← h2]
    constructor
    · rintro ⟨i, hi, q⟩; exact ⟨_, getD_mem hi, q⟩
    · rintro ⟨y, hy, q⟩
      obtain ⟨i, hi, e⟩ := List.getElem_of_mem hy
      refine ⟨i, hi, ?_⟩
      rw [List.getD_eq_getElem?_getD, List.getElem?_eq_getElem hi]
      show 0 ≤ firstA t (ndAt t _).key
      rw [e]
      exact q
  rw [h3] at h1
  by_cases q : 0 < vioO k
  · rw [decide_eq_true q]; exact h1.2 q
  · rw [decide_eq_false q]
    cases e : smB t (kvL t (theL t 0)) (kvL t (theL t 0)).length
    · rfl
    · exact absurd (h1.1 e) q
theorem keyAt_prK (t : NL) (X : List Nat) {i : Nat} (h : i < X.length) : keyAt (prK t X) i = (ndAt t (X.getD i 0)).key := by
  unfold keyAt prK
  rw [List.getD_eq_getElem?_getD, List.getElem?_map, List.getElem?_eq_getElem h, List.getD_eq_getElem?_getD, List.getElem?_eq_getElem h]
  rfl
set_option maxRecDepth 100000 in
set_option maxHeartbeats 8000000 in
theorem weighFaults_any (bT : Option Addr) (b o cT : Nat) (t : NL) (bw : Option Addr) (cw : Nat) (W : List Int) (key nn : Int) (w : World) (h : NodesAt w bT b o t) (hTn : bT = none → t.length = 0 ∧ cT = 0) (hTb : t.length * 48 ≤ 140737488355328) :
    Calls Try.prog 4 #[.agg #[.slice bT t.length cT, .slice bw W.length cw, .int .i64 key, .int .i64 nn]] w fun e w' => e = .returned (.bool true) ∧ Below w.heap.size w w' := by
  have HTN : Hid (bT = none → t.length = 0 ∧ cT = 0) := hTn
  obtain ⟨k, hk⟩ := keyed_of t
  have HK : Hid (Keyed t k) := hk
  generalize hW1 : w.alloc (.cells #[.slice bT t.length cT, .slice bw W.length cw, .int .i64 key, .int .i64 nn] 25) = W1
  have hs1 : W1.heap.size = w.heap.size + 1 := by rw [← hW1]; simp
  have hb1 : Below w.heap.size w W1 := by rw [← hW1]; exact below_alloc _ _
  have hbk : W1.heap[w.heap.size]? = some (.cells #[.slice bT t.length cT, .slice bw W.length cw, .int .i64 key, .int .i64 nn] 25) := by rw [← hW1]; exact heap_alloc_at _ _ _ rfl
  have NT : Hid (∀ z, Below W1.heap.size W1 z → NodesAt z bT b o t) := fun z hz => (h.below hb1).below hz
  have CC : Hid (∀ z, Below W1.heap.size W1 z → z.cell? ⟨w.heap.size, 0, none⟩ = some (.slice bT t.length cT) ∧ z.cell? ⟨w.heap.size, 2, none⟩ = some (.int .i64 key) ∧ z.cell? ⟨w.heap.size, 3, none⟩ = some (.int .i64 nn)) := fun z hz => by
    have e := (hz.block _ (by omega)).trans hbk
    exact ⟨by simp [World.cell?, e], by simp [World.cell?, e], by simp [World.cell?, e]⟩
  have BL : Hid (∀ z, Below W1.heap.size W1 z → Below w.heap.size w z ∧ w.heap.size < z.heap.size) := fun z hz => ⟨hb1.trans (hz.mono hb1.size), by have := hz.size; omega⟩
  clear h hTn hb1 hbk hk
  go_enter Try.func4, Try.ntmps4
  go_wp2_with fail
  clear hW1
  refine (fixed_any _).mono ?_
  rintro e w2 ⟨rfl, hb2⟩
  have H2 : Hid (Below W1.heap.size W1 w2) := hb2
  clear hb2
  have qE : (keyE t != keyE t) = false := by simp
  obtain ⟨e0, e1, e2⟩ := CC.out _ H2.out
  have lt2 := (BL.out _ H2.out).2
  go_wp2_with fail
  refine (copied_any bT b o cT t _ (NT.out _ H2.out) HTN.out hTb).mono ?_
  rintro e w3 ⟨v3, rfl, ho, hb⟩
  obtain ⟨a3, c3, g3, rfl, -, -, hn⟩ := nodes_of_owns ho
  have N3 : Hid (NodesAt w3 a3 g3 0 t) := hn
  have H3 : Hid (Below W1.heap.size W1 w3) := H2.out.trans (hb.mono H2.out.size)
  clear ho hn hb e0 e1 e2 lt2
  obtain ⟨e0, e1, e2⟩ := CC.out _ H3.out
  have lt3 := (BL.out _ H3.out).2
  go_wp2_with fail
  refine (Reds_any a3 g3 0 c3 t k _ N3.out HK.out).mono ?_
  rintro e w4 ⟨v4, rfl, ho, hb⟩
  obtain ⟨a4, c4, g4, rfl, -, -, hs⟩ := ws_of_owns ho
  have S4 : Hid (WsAt w4 a4 g4 0 (redsO k)) := hs
  have H4 : Hid (Below W1.heap.size W1 w4) := H3.out.trans (hb.mono H3.out.size)
  clear ho hs hb e0 e1 e2 lt3
  obtain ⟨e0, e1, e2⟩ := CC.out _ H4.out
  have lt4 := (BL.out _ H4.out).2
  go_wp2_with fail
  refine (vReds_any bT b o cT t k _ (NT.out _ H4.out) HK.out).mono ?_
  rintro e w5 ⟨v5, rfl, ho, hb⟩
  obtain ⟨a5, c5, g5, rfl, -, -, hs⟩ := ws_of_owns ho
  have S5 : Hid (WsAt w5 a5 g5 0 (redsO k)) := hs
  have S4' : Hid (WsAt w5 a4 g4 0 (redsO k)) := S4.out.below hb
  have H5 : Hid (Below W1.heap.size W1 w5) := H4.out.trans (hb.mono H4.out.size)
  clear ho hs hb e0 e1 e2 lt4 S4
  generalize hLL2 : redsO k = LL2 at S4' S5
  clear hLL2
  go_wp2_with fail
  refine (sameInts_any a4 a5 g4 0 c4 g5 0 c5 LL2 LL2 _ S4'.out S5.out).mono ?_
  rintro e w6 ⟨rfl, hb⟩
  rw [isEq_same]
  have H6 : Hid (Below W1.heap.size W1 w6) := H5.out.trans (hb.mono H5.out.size)
  clear hb
  obtain ⟨e0, e1, e2⟩ := CC.out _ H6.out
  have lt6 := (BL.out _ H6.out).2
  go_wp2_with fail
  refine (copied_any bT b o cT t _ (NT.out _ H6.out) HTN.out hTb).mono ?_
  rintro e w7 ⟨v7, rfl, ho, hb⟩
  obtain ⟨a7, c7, g7, rfl, -, -, hn⟩ := nodes_of_owns ho
  have N7 : Hid (NodesAt w7 a7 g7 0 t) := hn
  have H7 : Hid (Below W1.heap.size W1 w7) := H6.out.trans (hb.mono H6.out.size)
  clear ho hn hb e0 e1 e2 lt6
  obtain ⟨e0, e1, e2⟩ := CC.out _ H7.out
  have lt7 := (BL.out _ H7.out).2
  go_wp2_with fail
  refine (Overs_any a7 g7 0 c7 t _ N7.out).mono ?_
  rintro e w8 ⟨v8, rfl, ho, hb⟩
  obtain ⟨a8, c8, g8, rfl, -, -, hs⟩ := ws_of_owns ho
  have S8 : Hid (WsAt w8 a8 g8 0 (ovsL (keysA t) (keysA t).length)) := hs
  have H8 : Hid (Below W1.heap.size W1 w8) := H7.out.trans (hb.mono H7.out.size)
  clear ho hs hb e0 e1 e2 lt7
  obtain ⟨e0, e1, e2⟩ := CC.out _ H8.out
  have lt8 := (BL.out _ H8.out).2
  go_wp2_with fail
  refine (vOvers_any bT b o cT t _ (NT.out _ H8.out)).mono ?_
  rintro e w9 ⟨v9, rfl, ho, hb⟩
  obtain ⟨a9, c9, g9, rfl, -, -, hs⟩ := ws_of_owns ho
  have S9 : Hid (WsAt w9 a9 g9 0 (ovsL (keysA t) (keysA t).length)) := hs
  have S8' : Hid (WsAt w9 a8 g8 0 (ovsL (keysA t) (keysA t).length)) := S8.out.below hb
  have H9 : Hid (Below W1.heap.size W1 w9) := H8.out.trans (hb.mono H8.out.size)
  clear ho hs hb e0 e1 e2 lt8 S8
  generalize hLL6 : ovsL (keysA t) (keysA t).length = LL6 at S8' S9
  clear hLL6
  go_wp2_with fail
  refine (sameInts_any a8 a9 g8 0 c8 g9 0 c9 LL6 LL6 _ S8'.out S9.out).mono ?_
  rintro e w10 ⟨rfl, hb⟩
  rw [isEq_same]
  have H10 : Hid (Below W1.heap.size W1 w10) := H9.out.trans (hb.mono H9.out.size)
  clear hb
  obtain ⟨e0, e1, e2⟩ := CC.out _ H10.out
  have lt10 := (BL.out _ H10.out).2
  go_wp2_with fail
  refine (copied_any bT b o cT t _ (NT.out _ H10.out) HTN.out hTb).mono ?_
  rintro e w11 ⟨v11, rfl, ho, hb⟩
  obtain ⟨a11, c11, g11, rfl, -, -, hn⟩ := nodes_of_owns ho
  have N11 : Hid (NodesAt w11 a11 g11 0 t) := hn
  have H11 : Hid (Below W1.heap.size W1 w11) := H10.out.trans (hb.mono H10.out.size)
  clear ho hn hb e0 e1 e2 lt10
  obtain ⟨e0, e1, e2⟩ := CC.out _ H11.out
  have lt11 := (BL.out _ H11.out).2
  go_wp2_with fail
  refine (Violations_any a11 g11 0 c11 t k _ N11.out HK.out).mono ?_
  rintro e w12 ⟨rfl, hb⟩
  have H12 : Hid (Below W1.heap.size W1 w12) := H11.out.trans (hb.mono H11.out.size)
  clear hb e0 e1 e2 lt11
  generalize hvv : vioO k = vv
  have EV : Hid (vioO k = vv) := hvv
  clear hvv
  obtain ⟨e0, e1, e2⟩ := CC.out _ H12.out
  have lt12 := (BL.out _ H12.out).2
  go_wp2_with fail
  refine (vViolations_any bT b o cT t k _ (NT.out _ H12.out) HK.out).mono ?_
  rintro e w13 ⟨rfl, hb⟩
  have H13 : Hid (Below W1.heap.size W1 w13) := H12.out.trans (hb.mono H12.out.size)
  clear hb e0 e1 e2 lt12
  rw [EV.out]
  have qV : (vv != vv) = false := by simp
  obtain ⟨e0, e1, e2⟩ := CC.out _ H13.out
  have lt13 := (BL.out _ H13.out).2
  have H13d : Hid (Below W1.heap.size W1 w13.drew) := H13.out.drew
  go_wp2_with fail
  go_region_held3 (fun w' => w'.cell? ⟨w.heap.size, 0, none⟩ = some (.slice bT t.length cT) ∧ w'.cell? ⟨w.heap.size, 2, none⟩ = some (.int .i64 key))
    (first
      | (with_reducible exact X14.out)
      | (with_reducible exact X15.out)
      | go_keep)
    (first
      | (go_at_call 10; refine (copied_any bT b o cT t _ (NT.out _ H13d.out) HTN.out hTb).mono ?_; rintro e w14 ⟨v14, rfl, ho14, hb14⟩; obtain ⟨a14, c14, g14, rfl, -, -, hn14⟩ := nodes_of_owns ho14; have N14 : Hid (NodesAt w14 a14 g14 0 t) := hn14; have H14 : Hid (Below W1.heap.size W1 w14) := H13d.out.trans (hb14.mono H13d.out.size); have X14 : Hid (w14.cell? ⟨w.heap.size, 0, none⟩ = some (.slice bT t.length cT) ∧ w14.cell? ⟨w.heap.size, 2, none⟩ = some (.int .i64 key)) := ⟨(CC.out _ H14.out).1, (CC.out _ H14.out).2.1⟩; clear ho14 hn14 hb14)
      | (go_at_call 31; refine (First_any a14 g14 0 c14 t key _ N14.out).mono ?_; rintro e w15 ⟨rfl, hb15⟩; have H15 : Hid (Below W1.heap.size W1 w15) := H14.out.trans (hb15.mono H14.out.size); have X15 : Hid (w15.cell? ⟨w.heap.size, 0, none⟩ = some (.slice bT t.length cT) ∧ w15.cell? ⟨w.heap.size, 2, none⟩ = some (.int .i64 key)) := ⟨(CC.out _ H15.out).1, (CC.out _ H15.out).2.1⟩; clear hb15))
  clear e0 e1 e2 lt13 X14 X15 N14
  generalize hff : firstA t key = ff
  have EF : Hid (firstA t key = ff) := hff
  clear hff
  obtain ⟨e0, e1, e2⟩ := CC.out _ H15.out
  have lt15 := (BL.out _ H15.out).2
  go_wp2_with fail
  refine (vFirst_any bT b o cT t key _ (NT.out _ H15.out)).mono ?_
  rintro e w16 ⟨rfl, hb⟩
  have H16 : Hid (Below W1.heap.size W1 w16) := H15.out.trans (hb.mono H15.out.size)
  clear hb e0 e1 e2 lt15
  rw [EF.out]
  have qF : (ff != ff) = false := by simp
  by_cases he : keyE t = 0
  · have HE : Hid (keyE t = 0) := he
    have HFE : Hid (formE t = 0) := keyE_form he
    rw [HE.out]
    rw [HE.out] at qE
    obtain ⟨e0, e1, e2⟩ := CC.out _ H16.out
    have lt16 := (BL.out _ H16.out).2
    go_wp2_with fail
    refine (vOrdered_any bT b o cT t _ (NT.out _ H16.out) HFE.out).mono ?_
    rintro e w17 ⟨rfl, hb⟩
    have H17 : Hid (Below W1.heap.size W1 w17) := H16.out.trans (hb.mono H16.out.size)
    clear hb e0 e1 e2 lt16
    cases ho : ordQ t
    · go_wp2_with fail
      go_ret
      exact ⟨rfl, (BL.out _ H17.out).1⟩
    · have HS : Hid (smB t (kvL t (theL t 0)) (kvL t (theL t 0)).length = decide (0 < vv)) := by
        show _ = _
        rw [smB_all he HK.out ho, EV.out]
      have hXl : (kvL t (theL t 0)).length ≤ 100000 := by
        obtain ⟨hbig, hf⟩ := formE_ok HFE.out
        obtain ⟨-, -, hlen⟩ := theL_form hf
        have := kv_len t (theL t 0)
        omega
      clear he ho
      obtain ⟨e0, e1, e2⟩ := CC.out _ H17.out
      have lt17 := (BL.out _ H17.out).2
      go_wp2_with fail
      refine (vPairs_any bT b o cT t _ (NT.out _ H17.out) HFE.out).mono ?_
      rintro e w18 ⟨v18, rfl, ho, hb⟩
      have hpl : (prK t (kvL t (theL t 0))).length = (kvL t (theL t 0)).length := by unfold prK; rw [List.length_map]
      obtain ⟨a18, c18, g18, rfl, -, -, hpp⟩ := pairs_of_owns ho (by unfold maxLen; omega)
      have PP : Hid (PairsAt w18 a18 g18 0 (prK t (kvL t (theL t 0)))) := hpp
      have HPL : Hid ((prK t (kvL t (theL t 0))).length = (kvL t (theL t 0)).length) := hpl
      rw [HPL.out]
      have H18 : Hid (Below W1.heap.size W1 w18) := H17.out.trans (hb.mono H17.out.size)
      clear ho hb hpp hpl e0 e1 e2 lt17
      generalize kvL t (theL t 0) = X at *
      go_wp2_with fail
      go_loopw [12, 13] (fun sm i wr => ∃ j : Nat, j ≤ X.length ∧ j ≤ 200 ∧ i = .int .i64 j ∧ sm = .bool (smB t X j) ∧ Below w18.heap.size w18 wr) (fun _ i _ => X.length - (intOf i).toNat)
      case atStart => exact ⟨0, Nat.zero_le _, Nat.zero_le _, rfl, rfl, Below.refl _ _⟩
      case round =>
        obtain ⟨j, hj, hj2, rfl, rfl, hJ⟩ := hrel
        have HZ : Hid (Below W1.heap.size W1 wr) := H18.out.trans (hJ.mono H18.out.size)
        have HJ : Hid (Below w18.heap.size w18 wr) := hJ
        have zz := hJ.size
        have HSB : Hid (smB t X (j + 1) = (smB t X j || decide (0 ≤ firstA t (ndAt t (X.getD j 0)).key))) := rfl
        by_cases hlt : j < X.length
        · have dj : decide ((j : Int) < (X.length : Int)) = true := decide_eq_true (by omega)
          by_cases h200 : j < 200
          · have d2 : decide ((j : Int) < 200) = true := decide_eq_true (by omega)
            obtain rfl : a18 = some ⟨g18, 0, none⟩ := PP.out.base (by rw [HPL.out]; omega)
            have hg := PP.out.lt (by rw [HPL.out]; omega)
            have r1 := ((PP.out.below hJ).cells j (by rw [HPL.out]; exact hlt)).1
            rw [keyAt_prK t X hlt, Nat.zero_add] at r1
            have hgr : g18 < wr.heap.size := by omega
            obtain ⟨e0, e1, e2⟩ := CC.out _ HZ.out
            have ltz := (BL.out _ HZ.out).2
            have HZd : Hid (Below W1.heap.size W1 wr.drew) := HZ.out.drew
            have j0 : (0 : Int) ≤ (j : Int) := Int.natCast_nonneg _
            have j1 : (j : Int) < (X.length : Int) := by omega
            have HG : Hid (∀ z, Below wr.heap.size wr z → z.cell? ⟨g18, j * 2, none⟩ = wr.cell? ⟨g18, j * 2, none⟩) := fun z hz => hz.cell (p := ⟨g18, j * 2, none⟩) hgr
            clear hJ
            generalize (ndAt t (X.getD j 0)).key = qk at *
            generalize smB t X j = sm at *
            go_wp2_with fail
            go_region_held3 (fun w' => w'.cell? ⟨w.heap.size, 0, none⟩ = some (.slice bT t.length cT) ∧ w'.cell? ⟨g18, j * 2, none⟩ = some (.int .i64 qk))
              (first
                | (with_reducible exact X20.out)
                | (with_reducible exact X21.out)
                | go_keep)
              (first
                | (go_at_call 10; refine (copied_any bT b o cT t _ (NT.out _ HZd.out) HTN.out hTb).mono ?_; rintro e w20 ⟨v20, rfl, ho20, hb20⟩; obtain ⟨a20, c20, g20, rfl, -, -, hn20⟩ := nodes_of_owns ho20; have N20 : Hid (NodesAt w20 a20 g20 0 t) := hn20; have H20 : Hid (Below W1.heap.size W1 w20) := HZd.out.trans (hb20.mono HZd.out.size); have Y20 : Hid (Below wr.heap.size wr w20) := (show Below wr.heap.size wr wr.drew from (Below.refl _ _).drew).trans hb20; have X20 : Hid (w20.cell? ⟨w.heap.size, 0, none⟩ = some (.slice bT t.length cT) ∧ w20.cell? ⟨g18, j * 2, none⟩ = some (.int .i64 qk)) := ⟨(CC.out _ H20.out).1, (HG.out _ Y20.out).trans r1⟩; clear ho20 hn20 hb20)
                | (go_at_call 31; refine (First_any a20 g20 0 c20 t qk _ N20.out).mono ?_; rintro e w21 ⟨rfl, hb21⟩; rw [HE.out]; have H21 : Hid (Below W1.heap.size W1 w21) := H20.out.trans (hb21.mono H20.out.size); have Y21 : Hid (Below wr.heap.size wr w21) := Y20.out.trans (hb21.mono Y20.out.size); have X21 : Hid (w21.cell? ⟨w.heap.size, 0, none⟩ = some (.slice bT t.length cT) ∧ w21.cell? ⟨g18, j * 2, none⟩ = some (.int .i64 qk)) := ⟨(CC.out _ H21.out).1, (HG.out _ Y21.out).trans r1⟩; clear hb21))
            clear e0 e1 e2 ltz r1
            have J21 : Hid (Below w18.heap.size w18 w21) := HJ.out.trans (Y21.out.mono HJ.out.size)
            generalize firstA t qk = fk at *
            cases sm
            · cases hfk : decide (0 ≤ fk)
              · rw [hfk] at HSB
                go_wp2_with fail
                exact ⟨⟨j + 1, by omega, by omega, by go_num, by rw [HSB.out]; rfl, J21.out⟩, by simp [intOf]; omega⟩
              · rw [hfk] at HSB
                go_wp2_with fail
                exact ⟨⟨j + 1, by omega, by omega, by go_num, by rw [HSB.out]; rfl, J21.out⟩, by simp [intOf]; omega⟩
            · go_wp2_with fail
              exact ⟨⟨j + 1, by omega, by omega, by go_num, by rw [HSB.out]; rfl, J21.out⟩, by simp [intOf]; omega⟩
          · have d2 : decide ((j : Int) < 200) = false := decide_eq_false (by omega)
            have d3 : decide ((X.length : Int) > 200) = true := decide_eq_true (by omega)
            clear hJ
            generalize smB t X j = sm at *
            cases hbb : (sm == decide (vv > 0))
            · go_wp2_with fail
              go_ret
              exact ⟨rfl, (BL.out _ HZ.out).1⟩
            · go_wp2_with fail
              go_ret
              exact ⟨rfl, (BL.out _ HZ.out).1⟩
        · obtain rfl : j = X.length := by omega
          have dj : decide ((X.length : Int) < (X.length : Int)) = false := decide_eq_false (by omega)
          clear hJ
          rw [HS.out]
          have hbb : (decide (0 < vv) == decide (0 < vv)) = true := by simp
          go_wp2_with fail
          go_ret
          exact ⟨rfl, (BL.out _ HZ.out).1⟩
  · have d : (keyE t != 0) = true := by simp [he]
    clear he
    go_wp2_with fail
    go_ret
    exact ⟨rfl, (BL.out _ H16.out).1⟩
end Go.Proofs.Ytiencggnijfjoaa

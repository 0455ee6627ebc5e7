
/- Layer 5: the program's Events. -/

import Derived.Test.YtgbfippcnmpgfaaELay

namespace Go.Proofs.Ytgbfippcnmpgfaa

open Go.RowKit

attribute [local go_sem ↓] Go.wp_at_zero Go.wp_at_succ

/-- Events in a row of the walk's own, their lists of pairs elsewhere. -/
def RowIn (w : World) (g n : Nat) (hs : List EvD) (F : Nat → Value) (pb : Nat → Option Addr) (pc pg po : Nat → Nat) : Prop :=
  Vals w g (n * 10) F ∧ (∀ i, i < n → ∀ k, k < 10 → some (F (i * 10 + k)) = (evC (evAt hs i) (.slice (pb i) (evAt hs i).rt.pairs.length (pc i)))[k]?) ∧
    ∀ i, i < n → ((evAt hs i).rt.pairs.length ≠ 0 → pg i ≠ g) ∧ PairsAt w (pb i) (pg i) (po i) (evAt hs i).rt.pairs ∧ (pb i = none → (evAt hs i).rt.pairs.length = 0 ∧ pc i = 0) ∧ (evAt hs i).rt.pairs.length * 16 ≤ 140737488355328
theorem RowAt.inn {w w1 : World} {g n : Nat} {hs : List EvD} (h : RowAt w g n w1 hs) (hg : w1.heap.size ≤ g) (hb : Below w1.heap.size w1 w) : ∃ F pb pc pg po, RowIn w g n hs F pb pc pg po := by
  obtain ⟨F, pb, pc, pg, po, hV, hF, hP⟩ := h
  exact ⟨F, pb, pc, pg, po, hV, hF, fun i hi => ⟨fun q => by have := (hP i hi).1.lt q; omega, (hP i hi).1.below hb, (hP i hi).2⟩⟩
theorem RowIn.below {w w' : World} {g n : Nat} {hs : List EvD} {F : Nat → Value} {pb : Nat → Option Addr} {pc pg po : Nat → Nat} (h : RowIn w g n hs F pb pc pg po) (hg : g < w.heap.size) (hb : Below w.heap.size w w') : RowIn w' g n hs F pb pc pg po :=
  ⟨h.1.below hg hb, h.2.1, fun i hi => ⟨(h.2.2 i hi).1, (h.2.2 i hi).2.1.below hb, (h.2.2 i hi).2.2⟩⟩
theorem RowIn.evs {w : World} {g n : Nat} {hs : List EvD} {F : Nat → Value} {pb : Nat → Option Addr} {pc pg po : Nat → Nat} (h : RowIn w g n hs F pb pc pg po) (hn : hs.length = n) (hg : g < w.heap.size) (hm : n ≤ maxLen) : EvsAt w (some ⟨g, 0, none⟩) g 0 hs pb pc pg po := by
  have key : ∀ i, i < n → ∀ k, k < 10 → w.cell? ⟨g, 0 + i * 10 + k, none⟩ = (evC (evAt hs i) (.slice (pb i) (evAt hs i).rt.pairs.length (pc i)))[k]? := by
    intro i hi k hk
    rw [Nat.zero_add, (h.1 (i * 10 + k) (by omega)).1]
    exact h.2.1 i hi k hk
  refine ⟨fun _ => rfl, fun _ => hg, by omega, fun i hi => ⟨key i (by omega) 0 (by omega), key i (by omega) 1 (by omega)⟩, fun i hi => ⟨key i (by omega) 2 (by omega), key i (by omega) 3 (by omega), key i (by omega) 4 (by omega), key i (by omega) 5 (by omega)⟩, fun i hi => ⟨key i (by omega) 6 (by omega), key i (by omega) 7 (by omega), key i (by omega) 8 (by omega), key i (by omega) 9 (by omega)⟩, fun i hi => (h.2.2 i (by omega)).2, fun i hi => by rw [Nat.zero_add]; exact (h.1 i (by omega)).2⟩
theorem pairs_set_any {w : World} {base : Option Addr} {b o : Nat} {ps : PL} (h : PairsAt w base b o ps) {g j : Nat} {v : Value} (hg : ps.length ≠ 0 → b ≠ g) : PairsAt (w.setCell ⟨g, j, none⟩ v) base b o ps := by
  by_cases hn : ps.length = 0
  · exact ⟨fun q => absurd hn q, fun q => absurd hn q, fun i hi => by omega, h.len, fun i hi => by omega⟩
  · exact h.apart' (Ne.symm (hg hn))
theorem RowIn.copy {w w4 : World} {g n j : Nat} {hs : List EvD} {F : Nat → Value} {pb : Nat → Option Addr} {pc pg po : Nat → Nat} (h : RowIn w g n hs F pb pc pg po) (hg : g < w.heap.size) (hb : Below w.heap.size w w4) (hj : j < n) {a4 : Option Addr} {g4 c4 : Nat} (h4 : (evAt hs j).rt.pairs.length ≠ 0 → w.heap.size ≤ g4) (hp4 : PairsAt w4 a4 g4 0 (evAt hs j).rt.pairs) (hn4 : a4 = none → c4 = 0) :
    RowIn ((((w4.setCell ⟨g, j * 10 + 6, none⟩ (.bool (evAt hs j).rt.ok)).setCell ⟨g, j * 10 + 7, none⟩ (.int .i64 (evAt hs j).rt.key)).setCell ⟨g, j * 10 + 8, none⟩ (.int .i64 (evAt hs j).rt.val)).setCell ⟨g, j * 10 + 9, none⟩ (.slice a4 (evAt hs j).rt.pairs.length c4)) g n hs
      (putV (putV (putV (putV F (j * 10 + 6) (.bool (evAt hs j).rt.ok)) (j * 10 + 7) (.int .i64 (evAt hs j).rt.key)) (j * 10 + 8) (.int .i64 (evAt hs j).rt.val)) (j * 10 + 9) (.slice a4 (evAt hs j).rt.pairs.length c4))
      (fun i => if i = j then a4 else pb i) (fun i => if i = j then c4 else pc i) (fun i => if i = j then g4 else pg i) (fun i => if i = j then 0 else po i) := by
  refine ⟨((((h.1.below hg hb).set _ _).set _ _).set _ _).set _ _, fun i hi k hk => ?_, fun i hi => ?_⟩
  · by_cases q : i = j
    · subst q
      simp only [if_true]
      have hr := h.2.1 i hi k hk
      by_cases e9 : k = 9
      · subst e9; rw [putV_same]; rfl
      · by_cases e8 : k = 8
        · subst e8; rw [putV_other _ _ _ _ (by omega), putV_same]; rfl
        · by_cases e7 : k = 7
          · subst e7; rw [putV_other _ _ _ _ (by omega), putV_other _ _ _ _ (by omega), putV_same]; rfl
          · by_cases e6 : k = 6
            · subst e6; rw [putV_other _ _ _ _ (by omega), putV_other _ _ _ _ (by omega), putV_other _ _ _ _ (by omega), putV_same]; rfl
            · rw [putV_other _ _ _ _ (by omega), putV_other _ _ _ _ (by omega), putV_other _ _ _ _ (by omega), putV_other _ _ _ _ (by omega), hr]
              have k6 : k < 6 := by omega
              clear hr e6 e7 e8 e9 hk
              match k, k6 with
              | 0, _ => rfl
              | 1, _ => rfl
              | 2, _ => rfl
              | 3, _ => rfl
              | 4, _ => rfl
              | 5, _ => rfl
    · rw [putV_other _ _ _ _ (by omega), putV_other _ _ _ _ (by omega), putV_other _ _ _ _ (by omega), putV_other _ _ _ _ (by omega)]
      simp only [if_neg q]
      exact h.2.1 i hi k hk
  · by_cases q : i = j
    · subst q
      simp only [if_true]
      have hne : (evAt hs i).rt.pairs.length ≠ 0 → g4 ≠ g := fun q => by have := h4 q; omega
      exact ⟨hne, pairs_set_any (pairs_set_any (pairs_set_any (pairs_set_any hp4 hne) hne) hne) hne, fun q => ⟨Classical.byContradiction (fun z => by have := hp4.base z; rw [q] at this; cases this), hn4 q⟩, (h.2.2 i hi).2.2.2⟩
    · simp only [if_neg q]
      obtain ⟨hne, hp, hr⟩ := h.2.2 i hi
      exact ⟨hne, pairs_set_any (pairs_set_any (pairs_set_any (pairs_set_any (hp.below hb) hne) hne) hne) hne, hr⟩

/-- What Events answers. -/
structure EvAns (l : List CD) (w w' : World) (v : Value) (err : Int) : Prop where
  big : 100000 < l.length → err = 2 ∧ v = .slice none 0 0
  bad : l.length ≤ 100000 → ¬ ProgOk l → err = 3 ∧ v = .slice none 0 0
  good : l.length ≤ 100000 → ProgOk l → err = 0 ∧ ∃ g pb pc pg po, w.heap.size ≤ g ∧ v = .slice (some ⟨g, 0, none⟩) (layL l).length (layL l).length ∧ EvsAt w' (some ⟨g, 0, none⟩) g 0 (layL l) pb pc pg po ∧ ∀ i, i < (layL l).length → (evAt (layL l) i).rt.pairs.length ≠ 0 → w.heap.size ≤ pg i

set_option maxRecDepth 100000 in
set_option maxHeartbeats 2000000 in
theorem Events_any (a1 : Option Addr) (b1 o1 c1 : Nat) (l : List CD) (pb : Nat → Option Addr) (pc pg po : Nat → Nat) (w : World) (hx : CdsAt w a1 b1 o1 l pb pc pg po) :
    Calls Try.prog 10 #[.slice a1 l.length c1] w fun e w' => ∃ v err, e = .returned (.tuple #[v, .int .i64 err]) ∧ Below w.heap.size w w' ∧ EvAns l w w' v err := by
  have HX : Hid _ := hx
  clear hx
  have lx := HX.out.len
  unfold maxLen at lx
  by_cases hbig : 100000 < l.length
  · have hb : (100000 : Int) < (l.length : Int) := by omega
    go_enter Try.func10, Try.ntmps10
    go_wp2_with fail
    go_ret2
    exact ⟨_, _, rfl, Below.refl _ _, ⟨fun _ => ⟨rfl, rfl⟩, fun q => by omega, fun q => by omega⟩⟩
  · have hb : (l.length : Int) ≤ 100000 := by omega
    have hcn := cntN_le l l.length
    have HLL : Hid ((layL l).length = cntN l l.length) := layL_length l
    go_enter Try.func10, Try.ntmps10
    go_wp2_with fail
    refine (lay_any a1 b1 o1 c1 l pb pc pg po w HX.out (by omega)).mono ?_
    rintro e w1 ⟨g, rfl, hg, hgl, hb1, hrow⟩
    obtain ⟨F, qb, qc, qg, qo, hin⟩ := hrow.inn hg hb1
    have HIN : Hid (RowIn _ _ _ _ _ _ _ _ _) := hin
    have HB : Hid _ := hb1
    have EV : Hid _ := hin.evs HLL.out hgl (by unfold maxLen; omega)
    clear hrow hin hb1
    generalize hnn : cntN l l.length = n at *
    go_wp2_with fail
    have IH := isHistoryOf_any (some ⟨g, 0, none⟩) a1 g 0 n b1 o1 c1 (layL l) l qb pb qc qg qo pc pg po w1 EV.out (HX.out.below HB.out)
    rw [HLL.out] at IH
    refine IH.mono ?_
    clear IH
    rintro e w2 ⟨r, rfl, hb2, hr⟩
    have HR : Hid (r = true ↔ ProgOk l) := hr
    have z2 := hb2.size
    have B2 : Hid (Below w.heap.size w w2) := HB.out.trans (hb2.mono HB.out.size)
    have I2 : Hid (RowIn w2 g n (layL l) F qb qc qg qo) := HIN.out.below hgl hb2
    clear hr hb2
    cases r
    · have NO : Hid (¬ ProgOk l) := fun q => by have := HR.out.2 q; cases this
      go_wp2_with fail
      go_ret2
      exact ⟨_, _, rfl, B2.out, ⟨fun q => by omega, fun _ _ => ⟨rfl, rfl⟩, fun _ q => absurd q NO.out⟩⟩
    · have YES : Hid (ProgOk l) := HR.out.1 rfl
      clear HR
      go_wp2_with fail
      go_loopw [17] (fun i wr => ∃ (j : Nat) (F : Nat → Value) (qb : Nat → Option Addr) (qc qg qo : Nat → Nat), j ≤ n ∧ i = .int .i64 j ∧ Below w.heap.size w wr ∧ g < wr.heap.size ∧ RowIn wr g n (layL l) F qb qc qg qo ∧ ∀ i, i < j → (evAt (layL l) i).rt.pairs.length ≠ 0 → w.heap.size ≤ qg i) (fun i _ => n - (intOf i).toNat)
      case atStart => exact ⟨0, F, qb, qc, qg, qo, Nat.zero_le _, rfl, B2.out, by omega, I2.out, fun i hi => by omega⟩
      case round =>
        clear HIN EV I2 F qb qc qg qo
        obtain ⟨j, F, qb, qc, qg, qo, hj, rfl, hbw, hsz, hin, hnw⟩ := hrel
        have HNW : Hid (∀ i, i < j → (evAt (layL l) i).rt.pairs.length ≠ 0 → w.heap.size ≤ qg i) := hnw
        clear hnw
        have HW : Hid _ := hbw
        have HI : Hid (RowIn _ _ _ _ _ _ _ _ _) := hin
        by_cases hlt : j < n
        · obtain ⟨hV, hF, hP⟩ := hin
          have v6 := (hV (j * 10 + 6) (by omega)).1.trans (hF j hlt 6 (by omega))
          have v7 := (hV (j * 10 + 7) (by omega)).1.trans (hF j hlt 7 (by omega))
          have v8 := (hV (j * 10 + 8) (by omega)).1.trans (hF j hlt 8 (by omega))
          have v9 := (hV (j * 10 + 9) (by omega)).1.trans (hF j hlt 9 (by omega))
          simp only [evC, List.getElem?_cons_succ, List.getElem?_cons_zero] at v6 v7 v8 v9
          have HP : Hid _ := hP j hlt
          have j0 : (0 : Int) ≤ (j : Int) := Int.natCast_nonneg _
          have j1 : (j : Int) < (n : Int) := by omega
          clear hV hF hP hbw
          go_wp2_with fail
          refine (copyOf_any (qb j) (qg j) (qo j) (qc j) (evAt (layL l) j).rt _ HP.out.2.1 HP.out.2.2.1 HP.out.2.2.2).mono ?_
          rintro e w4 ⟨a4, g4, c4, rfl, hg4, hpa4, hb4, hnl4⟩
          have z4 := hb4.size
          have I4 : Hid _ := RowIn.copy HI.out hsz hb4 hlt hg4 hpa4 hnl4
          have V4 : Hid (Vals w4 g (n * 10) F) := (HI.out.below hsz hb4).1
          have n6 := V4.out (j * 10 + 6) (by omega)
          have n7 := V4.out (j * 10 + 7) (by omega)
          have n8 := V4.out (j * 10 + 8) (by omega)
          have n9 := V4.out (j * 10 + 9) (by omega)
          have B4 : Hid (Below w.heap.size w w4) := HW.out.trans (hb4.mono HW.out.size)
          have HNG : Hid (∀ i, i < j + 1 → (evAt (layL l) i).rt.pairs.length ≠ 0 → w.heap.size ≤ (if i = j then g4 else qg i)) := fun i hi q => by
            by_cases e : i = j
            · subst e; rw [if_pos rfl]; exact Nat.le_trans HW.out.size (hg4 q)
            · rw [if_neg e]; exact HNW.out i (by omega) q
          clear hg4 hpa4 hb4 hnl4 v6 v7 v8 v9
          go_wp2_with fail
          exact ⟨⟨j + 1, _, _, _, _, _, by omega, by go_num, (((B4.out.setCell hg _).setCell hg _).setCell hg _).setCell hg _, by simp; omega, I4.out, HNG.out⟩, by simp [intOf]; omega⟩
        · obtain rfl : j = n := by omega
          have EV : Hid _ := hin.evs HLL.out hsz (by unfold maxLen; omega)
          clear hin hbw
          go_wp2_with fail
          go_ret2
          exact ⟨_, _, rfl, HW.out, ⟨fun q => by omega, fun _ q => absurd YES.out q, fun _ _ => ⟨rfl, g, qb, qc, qg, qo, hg, by rw [HLL.out]; rfl, EV.out, fun i hi => HNW.out i (by rw [← HLL.out]; exact hi)⟩⟩⟩
end Go.Proofs.Ytgbfippcnmpgfaa

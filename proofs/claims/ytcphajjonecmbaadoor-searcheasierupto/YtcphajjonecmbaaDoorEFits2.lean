
/- Layer 5: Fits of the program, walked. -/

import Derived.Test.YtcphajjonecmbaaDoorEFits

import Derived.Test.YtcphajjonecmbaaDoorECalls

namespace Go.Proofs.YtcphajjonecmbaaDoor

open Go.RowKit

attribute [local go_sem ↓] Go.wp_at_zero Go.wp_at_succ

set_option maxRecDepth 100000 in
set_option maxHeartbeats 2000000 in
theorem Fits_any (base : Option Addr) (b o c : Nat) (hs : List EvD) (pb : Nat → Option Addr) (pc pg po : Nat → Nat) (w : World) (h : EvsAt w base b o hs pb pc pg po)
    (obase : Option Addr) (ob oo oc : Nat) (ord : List Int) (ho : OrdAt w obase ob oo ord) :
    Calls Tryd.prog 34 #[.slice base hs.length c, .slice obase ord.length oc] w fun e w' => ∃ r, e = .returned (.tuple #[.bool r, .int .i64 (hErr hs)]) ∧ Below w.heap.size w w' ∧ (hErr hs ≠ 0 → r = false) ∧ (hErr hs = 0 → (r = true ↔ FitsP (spansL hs) ord)) := by
  have HA : Hid _ := h
  have HO : Hid _ := ho
  clear h ho
  by_cases he : hErr hs = 0
  · have hn : (hErr hs != 0) = false := by simp [he]
    obtain ⟨hbn, s, hst, hsl⟩ := hErr_zero he
    have hok := stN_ok hst
    have hsn : (spansL hs).length ≤ 100000 := by rw [hsl]; have := hok.len; omega
    have hto : Hid (∀ k, k < (spansL hs).length → (spAt (spansL hs) k).2 = -1 ∨ 0 ≤ (spAt (spansL hs) k).2) := by
      intro k hk
      rw [hsl] at hk ⊢
      rcases hok.to k hk with q | q
      · exact Or.inl q
      · right; omega
    have HE : Hid _ := he
    clear he hst hsl hbn hok
    have hom := HO.out.len
    unfold maxLen at hom
    go_enter Tryd.func34, Tryd.ntmps34
    go_wp2_with fail
    refine (spansOf_any base b o c hs pb pc pg po _ HA.out).mono ?_
    rintro e w1 ⟨v, rfl, hb, _, hown⟩
    obtain ⟨base1, cap, g, rfl, hg, hnil, hsp, hmx⟩ := sps_of_owns (hown HE.out)
    generalize hgs : spansL hs = sp at *
    have HGS : Hid _ := hgs
    have HB : Hid _ := hb
    have HP : Hid _ := hsp
    have hs1 := hb.size
    have hm1 : ∀ w : World, (Instr.makeSlice 140 (.int .i64 sp.length) (.int .i64 sp.length)).run Tryd.prog w = .ok (.slice (some ⟨w.heap.size, 0, none⟩) sp.length sp.length) (w.alloc (.cells (madeCells #[.bool false] (sp.length * 1)) 4)) := fun w => run_make_known (P := Tryd.prog) 140 4 (.bool false) 1 1 bs_under b_info sp.length (by omega) (by omega) w
    clear hown hg hnil hsp hb hgs
    go_wp2_with fail
    go_loopw [27] (fun i wr => ∃ (j lf : Nat) (lt : Int), j ≤ ord.length ∧ i = .int .i64 j ∧ Below w1.heap.size w1 wr ∧ w1.heap.size + 1 < wr.heap.size ∧ Vals wr w1.heap.size sp.length (fun x => .bool (seenN ord j x)) ∧ wr.cell? ⟨w1.heap.size + 1, 0, none⟩ = some (.int .i64 lf) ∧ wr.cell? ⟨w1.heap.size + 1, 1, none⟩ = some (.int .i64 lt) ∧ wr.frozen? ⟨w1.heap.size + 1, 0, none⟩ = false ∧ wr.frozen? ⟨w1.heap.size + 1, 1, none⟩ = false ∧ OrdOk sp ord j ∧ LateOk sp ord j lf) (fun i _ => ord.length - (intOf i).toNat)
    case atStart =>
      refine ⟨0, 0, 0, Nat.zero_le _, rfl, (below_alloc _ _).alloc (by simp) _, by simp, ?_, ?_, ?_, ?_, ?_, ?_, ?_⟩
      · exact (Vals.made w1 _ _ (.bool false)).below (by simp) (below_alloc _ _)
      · simp
      · simp
      · simp
      · simp
      · exact ⟨fun i hi => by omega, fun i k _ hk => by omega, fun i k _ hk => by omega⟩
      · exact ⟨fun i hi => by omega, Or.inl rfl⟩
    case round =>
      obtain ⟨j, lf, lt, hj, rfl, hbw, hsz, hV, l0, l1, l2, l3, hOK, hL⟩ := hrel
      have HW : Hid _ := hbw
      have HV : Hid (Vals _ _ _ _) := hV
      have HOK : Hid _ := hOK
      have HL : Hid _ := hL
      by_cases hlt : j < ord.length
      · obtain rfl : obase = some ⟨ob, oo, none⟩ := HO.out.base (by omega)
        have c0 := ((HO.out.below HB.out).below hbw).cells j hlt
        have j0 : (0 : Int) ≤ (j : Int) := Int.natCast_nonneg _
        have j1 : (j : Int) < (ord.length : Int) := by omega
        clear hbw hV hOK hL
        by_cases hr : 0 ≤ oAt ord j ∧ oAt ord j < sp.length
        · have hd : (decide (0 ≤ oAt ord j) && decide (oAt ord j < (sp.length : Int))) = true := by simp [hr.1, hr.2]
          obtain ⟨x, hx⟩ : ∃ x : Nat, oAt ord j = x := ⟨(oAt ord j).toNat, by omega⟩
          have hxl : x < sp.length := by omega
          rw [hx] at c0 hd
          obtain rfl : base1 = some ⟨g, 0, none⟩ := HP.out.base (by omega)
          obtain ⟨s0, s1⟩ := (HP.out.below HW.out).cells x hxl
          obtain ⟨v0, v1⟩ := HV.out x hxl
          simp only at v0
          have hgl : g < wr.heap.size := Nat.lt_of_lt_of_le (HP.out.lt (by omega)) HW.out.size
          have y0 := BelowBy.cell (b := g) hgl s0
          have y1 := BelowBy.cell (b := g) hgl s1
          have y2 := BelowBy.cell (b := w1.heap.size) (by omega) v0
          have y3 := BelowBy.cell (b := w1.heap.size + 1) hsz l0
          have y4 := BelowBy.cell (b := w1.heap.size + 1) hsz l1
          have x0 : (0 : Int) ≤ (x : Int) := Int.natCast_nonneg _
          have x1 : (x : Int) < (sp.length : Int) := by omega
          have HX : Hid _ := hx
          clear hr hx
          have hnum := fun W => number_below (x : Int) (some ⟨g, 0, none⟩) sp.length cap W
          rw [hd] at hnum
          have HNUM : Hid _ := hnum
          clear hnum hd
          have hah := fun W => ahead_any (spAt sp x) ((lf, lt) : Sp) W
          have HAH : Hid _ := hah
          clear hah
          cases hsn2 : seenN ord j x
          · rw [hsn2] at y2 v0
            cases ha : ahd (spAt sp x) ((lf, lt) : Sp)
            · go_wp2_with fail
              refine wp_region_below (by kernel_rfl) (by kernel_rfl) ?_
              repeat (go_big_quiet_step ((first | (go_at_call 67; exact below_call (HNUM.out _)) | (go_at_call 68; exact below_call (HAH.out _)))))
              refine wpQuiet_nil ?_
              rintro _ ⟨p, rfl⟩
              have STEP : Hid (OrdOk sp ord (j + 1)) := by
                refine HOK.out.step (by rw [HX.out]; omega) ?_ ?_
                · intro i hi e
                  rw [HX.out] at e
                  have : seenN ord j x = true := seenN_iff.2 ⟨i, hi, e⟩
                  rw [hsn2] at this; cases this
                · intro i hi
                  rw [HX.out, Int.toNat_natCast]
                  cases q : ahd (spAt sp x) (spAt sp (oAt ord i).toNat)
                  · rfl
                  · have := (late_ahead HL.out (hto.out x hxl) lt).2 ⟨i, hi, q⟩
                    rw [ha] at this; cases this
              have a0 := y0 p
              have a1 := y1 p
              have a2 := y2 p
              have a3 := y3 p
              have a4 := y4 p
              have b2 := (p.h.frozen (p := ⟨w1.heap.size, x, none⟩) (by simp; omega)).trans v1
              have b3 := (p.h.frozen (p := ⟨w1.heap.size + 1, 0, none⟩) hsz).trans l2
              have b4 := (p.h.frozen (p := ⟨w1.heap.size + 1, 1, none⟩) hsz).trans l3
              have PB : Hid (Below wr.heap.size wr p.W) := p.h
              clear y0 y1 y2 y3 y4 v0 v1 l0 l1 l2 l3 s0 s1
              generalize p.W = W2 at *
              have hz2 := PB.out.size
              have hgw : g < w1.heap.size := HP.out.lt (by omega)
              go_wp2_with fail
              have e0 := cell_set_lt (g := w1.heap.size) (k := x) (u := .bool true) a0 hgw
              have e1 := cell_set_lt (g := w1.heap.size) (k := x) (u := .bool true) a1 hgw
              have e3 : (W2.setCell ⟨w1.heap.size, x, none⟩ (.bool true)).cell? ⟨w1.heap.size + 1, 0, none⟩ = some (.int .i64 lf) := (World.cell?_setCell_other _ _ _ _ (fun q => by have := congrArg Addr.block q; simp at this)).trans a3
              have e4 : (W2.setCell ⟨w1.heap.size, x, none⟩ (.bool true)).cell? ⟨w1.heap.size + 1, 1, none⟩ = some (.int .i64 lt) := (World.cell?_setCell_other _ _ _ _ (fun q => by have := congrArg Addr.block q; simp at this)).trans a4
              have f3 : (W2.setCell ⟨w1.heap.size, x, none⟩ (.bool true)).frozen? ⟨w1.heap.size + 1, 0, none⟩ = false := by simpa using b3
              have f4 : (W2.setCell ⟨w1.heap.size, x, none⟩ (.bool true)).frozen? ⟨w1.heap.size + 1, 1, none⟩ = false := by simpa using b4
              have B3 : Below w1.heap.size w1 (W2.setCell ⟨w1.heap.size, x, none⟩ (.bool true)) := (HW.out.trans (PB.out.mono HW.out.size)).setCell (by simp) _
              have V3 : Vals (W2.setCell ⟨w1.heap.size, x, none⟩ (.bool true)) w1.heap.size sp.length (fun y => .bool (seenN ord (j + 1) y)) := by
                refine ((HV.out.below (by omega) PB.out).set x (.bool true)).fn (fun y _ => ?_)
                simp only [putV, seenN]
                by_cases q : y = x
                · rw [if_pos q, q, HX.out]; simp
                · rw [if_neg q, HX.out]
                  have : decide ((x : Int) = (y : Int)) = false := by simp; omega
                  rw [this, Bool.or_false]
              have z3 : (W2.setCell ⟨w1.heap.size, x, none⟩ (.bool true)).heap.size = W2.heap.size := by simp
              have LST := late_step HL.out
              rw [HX.out, Int.toNat_natCast] at LST
              generalize W2.setCell ⟨w1.heap.size, x, none⟩ (.bool true) = W3 at *
              have HB3 : Hid _ := B3
              have HV3 : Hid (Vals _ _ _ _) := V3
              have HLS : Hid _ := LST
              have hz3 : w1.heap.size + 1 < W3.heap.size := by omega
              clear B3 V3 LST z3 a0 a1 a2 a3 a4 b2 b3 b4
              by_cases hlf : lf < (spAt sp x).1
              · have hdl : decide ((lf : Int) < ((spAt sp x).1 : Int)) = true := by simp; omega
                go_quiet (fail)
                go_wp2_with fail
                refine ⟨⟨j + 1, (spAt sp x).1, (spAt sp x).2, by omega, by go_num, ((below_drewN HB3.out _).setCell (by simp) _).setCell (by simp) _, by simp; omega, ?_, ?_, ?_, by simpa using f3, by simpa using f4, STEP.out, ?_⟩, by simp [intOf]; omega⟩
                · exact ((HV3.out.below (by omega) (below_drewN (Below.refl _ _) _)).apart _ _ _ (by omega)).apart _ _ _ (by omega)
                · exact (World.cell?_setCell_other _ _ _ _ (by simp)).trans (World.cell?_setCell_same _ _ _ (e3 : (W3.drewN nq).cell? _ = _))
                · exact World.cell?_setCell_same _ _ _ ((World.cell?_setCell_other _ _ _ _ (by simp)).trans (e4 : (W3.drewN nq).cell? _ = _))
                · have := HLS.out; rw [if_pos hlf] at this; exact this
              · have hdl : decide ((lf : Int) < ((spAt sp x).1 : Int)) = false := by simp; omega
                go_quiet (fail)
                go_wp2_with fail
                refine ⟨⟨j + 1, lf, lt, by omega, by go_num, below_drewN HB3.out _, by simp; omega, HV3.out.below (by omega) (below_drewN (Below.refl _ _) _), e3, e4, f3, f4, STEP.out, ?_⟩, by simp [intOf]; omega⟩
                have := HLS.out; rw [if_neg hlf] at this; exact this
            · have BAD : Hid (¬ FitsP sp ord) := by
                intro hf
                obtain ⟨i, hi, q⟩ := (late_ahead HL.out (hto.out x hxl) lt).1 ha
                have := hf.1.ahead i j hi hlt
                rw [HX.out, Int.toNat_natCast, q] at this
                cases this
              go_wp2_with fail
              refine wp_region_below (by kernel_rfl) (by kernel_rfl) ?_
              repeat (go_big_quiet_step ((first | (go_at_call 67; exact below_call (HNUM.out _)) | (go_at_call 68; exact below_call (HAH.out _)))))
              refine wpQuiet_nil ?_
              rintro _ ⟨p, rfl⟩
              have PB : Hid (Below wr.heap.size wr p.W) := p.h
              clear y0 y1 y2 y3 y4 v0 v1 l0 l1 l2 l3 s0 s1
              go_wp2_with fail
              go_ret2
              exact ⟨false, by rw [HE.out]; rfl, HB.out.trans ((HW.out.trans (PB.out.mono HW.out.size)).mono HB.out.size), fun _ => rfl, fun _ => by rw [HGS.out]; exact ⟨(fun h => by cases h), fun h => absurd h BAD.out⟩⟩
          · rw [hsn2] at y2 v0
            have BAD : Hid (¬ FitsP sp ord) := by
              intro hf
              obtain ⟨i, hi, q⟩ := seenN_iff.1 hsn2
              exact hf.1.once i j hi hlt (by rw [q, HX.out])
            go_wp2_with fail
            refine wp_region_below (by kernel_rfl) (by kernel_rfl) ?_
            repeat (go_big_quiet_step ((first | (go_at_call 67; exact below_call (HNUM.out _)) | (go_at_call 68; exact below_call (HAH.out _)))))
            refine wpQuiet_nil ?_
            rintro _ ⟨p, rfl⟩
            have PB : Hid (Below wr.heap.size wr p.W) := p.h
            clear y0 y1 y2 y3 y4 v0 v1 l0 l1 l2 l3 s0 s1
            go_wp2_with fail
            go_ret2
            exact ⟨false, by rw [HE.out]; rfl, HB.out.trans ((HW.out.trans (PB.out.mono HW.out.size)).mono HB.out.size), fun _ => rfl, fun _ => by rw [HGS.out]; exact ⟨(fun h => by cases h), fun h => absurd h BAD.out⟩⟩
        · have hd : (decide (0 ≤ oAt ord j) && decide (oAt ord j < (sp.length : Int))) = false := by simp; omega
          have BAD : Hid (¬ FitsP sp ord) := fun hf => hr (hf.1.rng j hlt)
          have hnum := fun W => number_below (oAt ord j) base1 sp.length cap W
          rw [hd] at hnum
          have HNUM : Hid _ := hnum
          clear hnum hd hr
          go_wp2_with fail
          refine wp_region_below (by kernel_rfl) (by kernel_rfl) ?_
          repeat (go_big_quiet_step ((first | (go_at_call 67; exact below_call (HNUM.out _)))))
          refine wpQuiet_nil ?_
          rintro _ ⟨p, rfl⟩
          have PB : Hid (Below wr.heap.size wr p.W) := p.h
          clear l0 l1 l2 l3
          go_wp2_with fail
          go_ret2
          exact ⟨false, by rw [HE.out]; rfl, HB.out.trans ((HW.out.trans (PB.out.mono HW.out.size)).mono HB.out.size), fun _ => rfl, fun _ => by rw [HGS.out]; exact ⟨(fun h => by cases h), fun h => absurd h BAD.out⟩⟩
      · obtain rfl : j = ord.length := by omega
        clear hbw hV hOK hL l0 l1 l2 l3
        generalize wr = W0 at *
        go_wp2_with fail
        go_loopw [67] (fun i wr => ∃ k : Nat, k ≤ sp.length ∧ i = .int .i64 k ∧ Below w1.heap.size w1 wr ∧ W0.heap.size ≤ wr.heap.size ∧ Vals wr w1.heap.size sp.length (fun x => .bool (seenN ord ord.length x)) ∧ ∀ x, x < k → (spAt sp x).2 ≠ -1 → seenN ord ord.length x = true) (fun i _ => sp.length - (intOf i).toNat)
        case atStart => exact ⟨0, Nat.zero_le _, rfl, HW.out, Nat.le_refl _, HV.out, fun x hx => by omega⟩
        case round =>
          obtain ⟨k, hk, rfl, hbw, hzz, hV, hall⟩ := hrel
          have HW2 : Hid _ := hbw
          have HV2 : Hid (Vals _ _ _ _) := hV
          have HALL : Hid _ := hall
          by_cases hlk : k < sp.length
          · obtain rfl : base1 = some ⟨g, 0, none⟩ := HP.out.base (by omega)
            obtain ⟨s0, s1⟩ := (HP.out.below hbw).cells k hlk
            obtain ⟨v0, v1⟩ := hV k hlk
            simp only at v0
            have k0 : (0 : Int) ≤ (k : Int) := Int.natCast_nonneg _
            have k1 : (k : Int) < (sp.length : Int) := by omega
            clear hbw hV hall
            by_cases hp : (spAt sp k).2 = -1
            · have hd : decide ((spAt sp k).2 ≠ -1) = false := by simp [hp]
              have NX : Hid (∀ x, x < k + 1 → (spAt sp x).2 ≠ -1 → seenN ord ord.length x = true) := by
                intro x hx hxn
                by_cases q : x = k
                · subst q; exact absurd hp hxn
                · exact HALL.out x (by omega) hxn
              clear hp
              go_wp2_with fail
              refine (returned_any _ _ _).mono ?_
              rintro e w2 ⟨rfl, hb2⟩
              rw [hd]
              have BX : Hid (Below wr.heap.size wr w2) := (below_alloc wr _).trans (hb2.mono (by simp))
              clear hb2
              have hzx := BX.out.size
              go_wp2_with fail
              exact ⟨⟨k + 1, by omega, by go_num, HW2.out.trans (BX.out.mono HW2.out.size), by omega, HV2.out.below (by omega) BX.out, NX.out⟩, by simp [intOf]; omega⟩
            · have hd : decide ((spAt sp k).2 ≠ -1) = true := by simp [hp]
              cases hsn3 : seenN ord ord.length k
              · have BAD : Hid (¬ FitsP sp ord) := by
                  intro hf
                  have := hf.2 k hlk hp
                  rw [hsn3] at this; cases this
                rw [hsn3] at v0
                clear hp
                go_wp2_with fail
                refine (returned_any _ _ _).mono ?_
                rintro e w2 ⟨rfl, hb2⟩
                rw [hd]
                have BX : Hid (Below wr.heap.size wr w2) := (below_alloc wr _).trans (hb2.mono (by simp))
                have u0 := (BX.out.cell (p := ⟨w1.heap.size, k, none⟩) (by simp; omega)).trans v0
                clear hb2
                go_wp2_with fail
                go_ret2
                exact ⟨false, by rw [HE.out]; rfl, HB.out.trans ((HW2.out.trans (BX.out.mono HW2.out.size)).mono HB.out.size), fun _ => rfl, fun _ => by rw [HGS.out]; exact ⟨(fun h => by cases h), fun h => absurd h BAD.out⟩⟩
              · have NX : Hid (∀ x, x < k + 1 → (spAt sp x).2 ≠ -1 → seenN ord ord.length x = true) := by
                  intro x hx hxn
                  by_cases q : x = k
                  · subst q; exact hsn3
                  · exact HALL.out x (by omega) hxn
                rw [hsn3] at v0
                clear hp
                go_wp2_with fail
                refine (returned_any _ _ _).mono ?_
                rintro e w2 ⟨rfl, hb2⟩
                rw [hd]
                have BX : Hid (Below wr.heap.size wr w2) := (below_alloc wr _).trans (hb2.mono (by simp))
                have u0 := (BX.out.cell (p := ⟨w1.heap.size, k, none⟩) (by simp; omega)).trans v0
                clear hb2
                have hzx := BX.out.size
                go_wp2_with fail
                exact ⟨⟨k + 1, by omega, by go_num, HW2.out.trans (BX.out.mono HW2.out.size), by omega, HV2.out.below (by omega) BX.out, NX.out⟩, by simp [intOf]; omega⟩
          · obtain rfl : k = sp.length := by omega
            clear hbw hV hall
            go_wp2_with fail
            go_ret2
            exact ⟨true, by rw [HE.out]; rfl, HB.out.trans (HW2.out.mono HB.out.size), fun h => absurd HE.out h, fun _ => by rw [HGS.out]; exact ⟨fun _ => ⟨HOK.out, HALL.out⟩, fun _ => rfl⟩⟩
  · have hn : (hErr hs != 0) = true := by simp [he]
    have HE : Hid _ := he
    clear he
    go_enter Tryd.func34, Tryd.ntmps34
    go_wp2_with fail
    refine (spansOf_any base b o c hs pb pc pg po _ HA.out).mono ?_
    rintro e w1 ⟨v, rfl, hb, _, hown⟩
    clear hown
    go_wp2_with fail
    go_ret2
    exact ⟨_, rfl, hb, fun _ => rfl, fun h => absurd h HE.out⟩
end Go.Proofs.YtcphajjonecmbaaDoor

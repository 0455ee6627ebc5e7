
/- Layer 17: Heavy of the reference. -/

import Derived.Test.YtiencggnijfjoaaWCopy

namespace Go.Proofs.Ytiencggnijfjoaa

open Go.RowKit

attribute [local go_sem ↓] Go.wp_at_zero Go.wp_at_succ

theorem noW_neg {y : Int} (h : y < 0) : noW y = true := by unfold noW; rw [dT h]; rfl
theorem noW_pos {y : Int} (h : ¬ y < 0) : noW y = decide (1000000 < y) := by unfold noW; rw [dF h]; rfl
theorem noW_ok {y : Int} (h : ¬ noW y = true) : 0 ≤ y ∧ y ≤ 1000000 := by
  unfold noW at h
  rw [Bool.or_eq_true, decide_eq_true_eq, decide_eq_true_eq] at h
  omega
theorem kp_len (t : NL) : (kpL t).length = (keysA t).length := by
  by_cases h : (rootR t).2 = 0
  · obtain ⟨_, _, _, -, -, -, -, -, h9⟩ := kp_order h
    exact h9
  · unfold kpL keysA
    rw [if_neg h, if_neg h]
    rfl
theorem kp_lt {t : NL} : ∀ z ∈ kpL t, z < t.length := by
  by_cases h : (rootR t).2 = 0
  · obtain ⟨_, _, _, -, -, -, hT, -, -⟩ := kp_order h
    exact hT.all
  · intro z hz
    unfold kpL at hz
    rw [if_neg h] at hz
    simp at hz
theorem kp_small {t : NL} (h : t.length ≤ 100000) : (kpL t).length ≤ 100000 := by
  have := keys_room2 (t := t)
  rw [kp_len]
  omega
theorem heavy_both {t : NL} {W : List Int} (he : keyE t = 0) (hl : W.length = (kpL t).length) (hw : W.any noW = false) : formE (wpN t (kpL t) W W.length) = 0 ∧ normL (wpN t (kpL t) W W.length) = heavyA t W := by
  have hE : heavyE t W = 0 := by
    unfold heavyE
    rw [if_neg (by simp [he]), if_neg (by rw [← kp_len, hw]; simp [hl])]
  unfold heavyA
  rw [if_pos hE]
  by_cases h : (rootR t).2 = 0
  · refine heavy_norm h hl fun k hk => ?_
    have := (List.any_eq_false.1 hw) (W.getD k 0) (by rw [List.getD_eq_getElem?_getD, List.getElem?_eq_getElem hk]; exact List.getElem_mem hk)
    exact noW_ok this
  · have e : kpL t = [] := by unfold kpL; rw [if_neg h]
    rw [e] at hl
    obtain rfl : W = [] := List.length_eq_zero_iff.1 hl
    exact ⟨keyE_form he, rfl⟩
def badN (d : Bool) (W : List Int) (m : Nat) : Bool := d || (W.take m).any noW
theorem badN_zero (d : Bool) (W : List Int) : badN d W 0 = d := by simp [badN]
theorem badN_succ (d : Bool) (W : List Int) (m : Nat) (h : m < W.length) : badN d W (m + 1) = (badN d W m || noW (W.getD m 0)) := by
  unfold badN
  rw [List.take_succ_eq_append_getElem h, List.any_append, List.getD_eq_getElem?_getD, List.getElem?_eq_getElem h]
  simp [Bool.or_assoc]
theorem badN_all (d : Bool) (W : List Int) : badN d W W.length = (d || W.any noW) := by unfold badN; rw [List.take_length]
set_option maxRecDepth 100000 in
set_option maxHeartbeats 2000000 in
theorem vHeavy_any (base : Option Addr) (b o c : Nat) (t : NL) (bw : Option Addr) (gw ow cw : Nat) (W : List Int) (w : World) (h : NodesAt w base b o t) (hw : WsAt w bw gw ow W) :
    Calls Try.prog 37 #[.slice base t.length c, .slice bw W.length cw] w fun e w' => ∃ v, e = .returned (.tuple #[v, .int .i64 (heavyE t W)]) ∧ w'.ownsRow w.heap.size 54 6 v (heavyA t W).length (ndCells (heavyA t W)) ∧ Below w.heap.size w w' := by
  have HA : Hid (NodesAt _ _ _ _ _) := h
  have HW : Hid (WsAt _ _ _ _ _) := hw
  have lw := hw.len
  unfold maxLen at lw
  clear h hw
  by_cases he : keyE t = 0
  · have d : (keyE t != 0) = false := by simp [he]
    have hfe := keyE_form he
    obtain ⟨hbig, hf⟩ := formE_ok hfe
    have hpos := hf.pos
    obtain rfl : base = some ⟨b, o, none⟩ := HA.out.base (by omega)
    have HE : Hid (keyE t = 0) := he
    have hkl := kp_small hbig
    have HKL : Hid ((kpL t).length = (keysA t).length) := kp_len t
    have HKT : Hid (∀ z ∈ kpL t, z < t.length) := kp_lt
    have HBO : Hid (W.length = (kpL t).length → W.any noW = false → formE (wpN t (kpL t) W W.length) = 0 ∧ normL (wpN t (kpL t) W W.length) = heavyA t W) := heavy_both he
    obtain ⟨i0, hi0, hz0, hz1, hz2⟩ := info_parts nd_info'
    clear he hfe hf
    go_enter Try.func37, Try.ntmps37
    go_wp2_with fail
    refine (vkeys_any _ b o c t _ HA.out).mono ?_
    rintro e w1 ⟨v1, rfl, ho1, hb1⟩
    obtain ⟨bs1, cp1, g1, rfl, -, -, hp1⟩ := pls_of_owns ho1
    have P1 : Hid (PlsAt _ _ _ _) := hp1
    have B1 : Hid (Below w.heap.size w w1) := hb1
    clear ho1 hp1 hb1
    have HD : Hid (((W.length : Int) != ((kpL t).length : Int)) = decide (W.length ≠ (kpL t).length)) := by
      show _ = _
      by_cases q : W.length = (kpL t).length
      · simp [q]
      · rw [dT q]
        exact (neB (by omega)).1
    go_wp2_with fail
    go_loopw [8, 9] (fun bv i wr => ∃ m : Nat, m ≤ W.length ∧ i = .int .i64 m ∧ bv = .bool (badN ((W.length : Int) != ((kpL t).length : Int)) W m) ∧ Below w1.heap.size w1 wr) (fun _ i _ => W.length - (intOf i).toNat)
    case atStart => exact ⟨0, Nat.zero_le _, rfl, by rw [badN_zero], Below.refl _ _⟩
    case round =>
      obtain ⟨m, hm, rfl, rfl, hb⟩ := hrel
      have BR : Hid (Below w1.heap.size w1 wr) := hb
      have BW : Hid (Below w.heap.size w wr) := B1.out.trans (hb.mono B1.out.size)
      by_cases hlm : m < W.length
      · obtain rfl : bw = some ⟨gw, ow, none⟩ := HW.out.base (by omega)
        have hgw := HW.out.lt (by omega)
        have p0 := (HW.out.below BW.out).cells m hlm
        have hgr : gw < wr.heap.size := by have := BW.out.size; omega
        have m0 : (0 : Int) ≤ (m : Int) := Int.natCast_nonneg _
        have m1 : (m : Int) < (W.length : Int) := by omega
        have HS : Hid (badN ((W.length : Int) != ((kpL t).length : Int)) W (m + 1) = _) := badN_succ _ W m hlm
        clear hb
        cases hq : badN ((W.length : Int) != ((kpL t).length : Int)) W m
        · rw [hq] at HS
          by_cases hy : W.getD m 0 < 0
          · have HN : Hid (noW (W.getD m 0) = true) := noW_neg hy
            have dy := dT hy
            clear hq hy
            generalize W.getD m 0 = y at *
            go_wp2_with fail
            exact ⟨⟨m + 1, by omega, by go_num, by rw [HS.out, HN.out]; rfl, BR.out⟩, by simp [intOf]; omega⟩
          · have HN : Hid (noW (W.getD m 0) = decide (1000000 < W.getD m 0)) := noW_pos hy
            have dy := dF hy
            clear hq hy
            generalize W.getD m 0 = y at *
            go_wp2_with fail
            exact ⟨⟨m + 1, by omega, by go_num, by rw [HS.out, HN.out]; rfl, BR.out⟩, by simp [intOf]; omega⟩
        · rw [hq] at HS
          clear hq
          generalize W.getD m 0 = y at *
          go_wp2_with fail
          exact ⟨⟨m + 1, by omega, by go_num, by rw [HS.out]; rfl, BR.out⟩, by simp [intOf]; omega⟩
      · obtain rfl : m = W.length := by omega
        have P2 : Hid (PlsAt _ _ _ _) := P1.out.below hb
        clear hb
        cases hq : badN ((W.length : Int) != ((kpL t).length : Int)) W W.length
        · rw [badN_all, Bool.or_eq_false_iff] at hq
          have hlen : W.length = (kpL t).length := by have := hq.1; rw [HD.out] at this; simpa using this
          have hany := hq.2
          obtain ⟨hb1, hb2⟩ := HBO.out hlen hany
          have FN : Hid (formE (wpN t (kpL t) W W.length) = 0) := hb1
          have FH : Hid (normL (wpN t (kpL t) W W.length) = heavyA t W) := hb2
          have FE : Hid (heavyE t W = 0) := by
            show heavyE t W = _
            unfold heavyE
            rw [if_neg (by simp [HE.out]), if_neg (by rw [← HKL.out, hany]; simp [hlen])]
          have HLN : Hid (∀ m, (wpN t (kpL t) W m).length = t.length) := wpN_length _ _ _
          have HST : Hid (∀ m, wpN t (kpL t) W (m + 1) = setW (wpN t (kpL t) W m) ((kpL t).getD m 0) (W.getD m 0)) := fun _ => rfl
          have hz := BW.out.size
          have HNW : Hid (NodesAt wr (some ⟨b, o, none⟩) b o t) := HA.out.below BW.out
          clear hq hany hb1 hb2
          generalize wr = W0 at *
          go_wp2_with (first | (at_builtin; (refine wpList_append_all (by rfl) _ _ _ (by rfl) W0.heap.size 54 i0 _ 6 48 nds_under' hi0 hz0 hz1 hz2 rfl (by omega) _ 0 [] (by rfl) ⟨rfl, Or.inr ⟨W0.heap.size, 0, #[], rfl, Nat.le_refl _, heap_alloc_at _ _ _ rfl, Nat.le_refl _, (by unfold maxLen; omega), rfl, rfl⟩⟩ (some ⟨b, o, none⟩) t.length c (ndCells t) (by rfl) (fun h => by cases h) (ndCells_length _) (nodes_news (HNW.out.below (below_alloc _ _))) (ndCells_all _) (by unfold maxLen; omega) (by omega) (by simp) ?_); intro v2 w2 ho2 hgrow hnl; rw [Nat.zero_add, List.nil_append] at ho2; obtain ⟨g2, cp2, rfl, hg1, hg2, -, -, -, -⟩ := owns_some ho2 hpos; have hb2 : Below W0.heap.size W0 w2 := Below.grown (below_alloc _ _) hgrow (by simp) (by intro k hk; simp [Value.ownBlock] at hk; omega); have T0 : Hid (MAt W0 w2 g2 cp2 (wpN t (kpL t) W 0)) := ⟨ho2, hb2⟩; clear hgrow hnl ho2 hb2))
          generalize wpN t (kpL t) W = T at *
          go_loopw [11] (fun i wr => ∃ m : Nat, m ≤ (kpL t).length ∧ i = .int .i64 m ∧ MAt W0 wr g2 cp2 (T m)) (fun i _ => (kpL t).length - (intOf i).toNat)
          case atStart => exact ⟨0, Nat.zero_le _, rfl, T0.out⟩
          case round =>
            obtain ⟨m, hm, rfl, hT⟩ := hrel
            have TM : Hid (MAt _ _ _ _ _) := hT
            have BX : Hid (Below w.heap.size w wr) := BW.out.trans (hT.below.mono BW.out.size)
            obtain ⟨-, hgl⟩ := hT.lt
            have hzx := hT.below.size
            by_cases hlm : m < (kpL t).length
            · have hlw : m < W.length := by omega
              obtain rfl : bw = some ⟨gw, ow, none⟩ := HW.out.base (by omega)
              obtain rfl : bs1 = some ⟨g1, 0, none⟩ := P2.out.base (by omega)
              have hgw := HW.out.lt (by omega)
              have hgp := P2.out.lt (by omega)
              have p0 := (HW.out.below BX.out).cells m hlw
              have p1 := (P2.out.below hT.below).cells m hlm
              have n1 : g1 ≠ g2 := by omega
              have n2 : gw ≠ g2 := by omega
              have hgr : gw < wr.heap.size := by omega
              have hpr : g1 < wr.heap.size := by omega
              have m0 : (0 : Int) ≤ (m : Int) := Int.natCast_nonneg _
              have m1 : (m : Int) < (W.length : Int) := by omega
              have m2 : (m : Int) < ((kpL t).length : Int) := by omega
              have hxl : (kpL t).getD m 0 < t.length := HKT.out _ (by rw [List.getD_eq_getElem?_getD, List.getElem?_eq_getElem hlm]; exact List.getElem_mem hlm)
              have HSM : Hid (T (m + 1) = _) := HST.out m
              generalize (kpL t).getD m 0 = x at *
              generalize W.getD m 0 = y at *
              have x0 : (0 : Int) ≤ (x : Int) := Int.natCast_nonneg _
              have x1 : (x : Int) < (t.length : Int) := by omega
              have hmN : x < (T m).length := by rw [HLN.out]; exact hxl
              obtain ⟨c0, f0⟩ := hT.wt x hmN
              have ST : Hid (MAt W0 _ g2 cp2 (T (m + 1))) := (by rw [HSM.out]; exact hT.putW x y hmN hg1)
              clear hT HSM
              go_wp2_with fail
              go_region
              go_wp2_with fail
              exact ⟨⟨m + 1, by omega, by go_num, by first | exact ST.out.drew | exact ST.out⟩, by simp [intOf]; omega⟩
            · obtain rfl : m = (kpL t).length := by omega
              rw [← hlen] at TM
              have NT : Hid (NodesAt _ _ _ _ _) := TM.out.nodes
              have HLW : Hid ((T W.length).length = t.length) := HLN.out _
              clear hT
              go_wp2_with fail
              have hc := vNorm_any (some ⟨g2, 0, none⟩) g2 0 cp2 (T W.length) wr NT.out FN.out
              rw [HLW.out, FH.out] at hc
              refine hc.mono ?_
              rintro e w5 ⟨v5, rfl, ho5, hb5⟩
              have O5 : Hid (World.ownsRow _ _ _ _ _ _ _) := ho5
              have B5 : Hid (Below w.heap.size w w5) := BX.out.trans (hb5.mono BX.out.size)
              clear ho5 hb5 hc
              go_wp2_with fail
              go_ret2
              exact ⟨_, by rw [FE.out]; rfl, owns_down O5.out BX.out.size, B5.out⟩
        · rw [badN_all, HD.out] at hq
          have FE : Hid (heavyE t W = 1) := by
            show heavyE t W = _
            unfold heavyE
            rw [if_neg (by simp [HE.out]), if_pos]
            rw [Bool.or_eq_true, decide_eq_true_eq, HKL.out] at hq
            exact hq
          have FA : Hid (heavyA t W = []) := by show heavyA t W = _; unfold heavyA; rw [if_neg (by rw [FE.out]; simp)]
          clear hq
          go_wp2_with fail
          go_ret2
          exact ⟨_, by rw [FE.out]; rfl, by rw [FA.out]; exact World.ownsRow_nil _ _ _ _, BW.out⟩
  · have d : (keyE t != 0) = true := by simp [he]
    have FE : Hid (heavyE t W = keyE t) := by show heavyE t W = _; unfold heavyE; rw [if_pos he]
    have FA : Hid (heavyA t W = []) := by show heavyA t W = _; unfold heavyA; rw [if_neg (by rw [FE.out]; exact he)]
    clear he
    go_enter Try.func37, Try.ntmps37
    go_wp2_with (first | (go_at_call 46; refine (vkeys_any base b o c t _ HA.out).mono ?_; rintro e w1 ⟨v1, rfl, -, hb1⟩; have B1 : Hid (Below w.heap.size w w1) := hb1; clear hb1))
    go_ret2
    exact ⟨_, by rw [FE.out]; rfl, by rw [FA.out]; exact World.ownsRow_nil _ _ _ _, B1.out⟩
end Go.Proofs.Ytiencggnijfjoaa

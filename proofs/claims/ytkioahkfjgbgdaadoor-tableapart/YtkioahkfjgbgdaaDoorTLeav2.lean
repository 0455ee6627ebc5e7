
/- Layer 16: Leaves of both, whole. -/

import Derived.Test.YtkioahkfjgbgdaaDoorTLeav

namespace Go.Proofs.YtkioahkfjgbgdaaDoor

open Go.RowKit

attribute [local go_sem ↓] Go.wp_at_zero Go.wp_at_succ

open Classical in
/-- Leaves' answer. -/
noncomputable def leafL (t : NL) : List Nat := if formE t = 0 then lvL t (theL t 0) else []
theorem theL_ok {t : NL} (hf : InForm t) : ∀ j, j < (theL t 0).length → PlOk t ((theL t 0).getD j 0) := by
  obtain ⟨hT, -, -⟩ := theL_form hf
  intro j hj
  have hm : (theL t 0).getD j 0 ∈ theL t 0 := by rw [List.getD_eq_getElem?_getD, List.getElem?_eq_getElem hj]; exact List.getElem_mem hj
  refine ⟨hT.all _ hm, ?_⟩
  rcases hT.each _ hm with h | ⟨l, r, h, -⟩
  · exact Or.inl h
  · exact Or.inr (by omega)
theorem lv_len (t : NL) (L : List Nat) : (lvL t L).length ≤ L.length := List.length_filter_le _ _

set_option maxRecDepth 100000 in
set_option maxHeartbeats 1000000 in
theorem leaves_any (base : Option Addr) (b o c : Nat) (t : NL) (w : World) (h : NodesAt w base b o t) (hf : InForm t) (hbig : t.length ≤ 100000) :
    Calls Tryd.prog 28 #[.slice base t.length c] w fun e w' => ∃ a cap g, e = .returned (.slice a (lvL t (theL t 0)).length cap) ∧ PlsAt w' a g (lvL t (theL t 0)) ∧ Below w.heap.size w w' := by
  obtain ⟨hT, -, hlen⟩ := theL_form hf
  have HT : Hid (Tree _ _ _) := hT
  have HOK : Hid _ := theL_ok hf
  have hpos := hf.pos
  have hl1 : (theL t 0).length ≤ 100000 := by omega
  have HA : Hid _ := h
  obtain rfl : base = some ⟨b, o, none⟩ := HA.out.base (by omega)
  have hbl := HA.out.lt (by omega)
  clear h hf hT hlen
  generalize theL t 0 = X at HT HOK hl1 ⊢
  have HBX : Hid (BoxAt (w.alloc (.cells #[.slice (some ⟨b, o, none⟩) t.length c] 22)) w.heap.size b o c t) := ⟨cell_new _ _ _ 0, by simp, by simp; omega, HA.out.below (below_alloc _ _)⟩
  go_enter Tryd.func28, Tryd.ntmps28
  go_wp2_with (first | (go_at_call 39; refine (order_any _ b o c t 0 X _ HBX.out.nodes HT.out (by omega)).mono ?_; rintro e w3 ⟨v, rfl, ho, hb3⟩; have HO : Hid (World.ownsRow _ _ _ _ _ _ _) := ho; have HB3 : Hid (Below _ _ _) := hb3; have hz3 := hb3.size; simp only [World.size_alloc] at hz3; clear ho hb3) | (go_at_call 41; refine (deleteP_any _ _ w.heap.size b o c t X _ HO.out HB3.out.size (HBX.out.below HB3.out (by simp) (by simp; omega)) (by simp) (by simp; omega) HOK.out).mono ?_; rintro e w4 ⟨a, cap, g, rfl, hp, hb4⟩; have HP : Hid _ := hp; have HB4 : Hid (Below w.heap.size w w4) := (below_alloc w _).trans ((HB3.out.trans hb4).mono (by simp)); clear hp hb4))
  go_ret
  exact ⟨_, _, _, rfl, HP.out, HB4.out⟩

set_option maxRecDepth 100000 in
theorem Leaves_any (base : Option Addr) (b o c : Nat) (t : NL) (w : World) (h : NodesAt w base b o t) :
    Calls Tryd.prog 9 #[.slice base t.length c] w fun e w' => ∃ a n cp g, e = .returned (.tuple #[.slice a n cp, .int .i64 (formE t)]) ∧ n = (leafL t).length ∧ PlsAt w' a g (leafL t) ∧ Below w.heap.size w w' := by
  have HA : Hid _ := h
  clear h
  by_cases he : formE t = 0
  · obtain ⟨hb, hf⟩ := formE_ok he
    have F : Hid (leafL t = lvL t (theL t 0)) := by show leafL t = _; unfold leafL; rw [if_pos he]
    have HE : Hid _ := he
    have HF : Hid _ := hf
    obtain ⟨e1, e2⟩ := e_eq he
    clear he hf
    go_enter Tryd.func9, Tryd.ntmps9
    go_wp2_with (first | (go_at_call 23; refine (check_any _ b o c t _ HA.out).mono ?_; rintro e w1 ⟨rfl, hb1⟩; have HB1 : Hid _ := hb1; clear hb1) | (go_at_call 28; refine (leaves_any _ b o c t _ (HA.out.below HB1.out) HF.out hb).mono ?_; rintro e w2 ⟨a, cap, g, rfl, hp, hb2⟩; have HP : Hid _ := hp; have HB2 : Hid _ := HB1.out.trans (hb2.mono HB1.out.size); clear hp hb2))
    go_ret2
    exact ⟨_, _, _, g, by rw [HE.out]; rfl, by rw [F.out], by rw [F.out]; exact HP.out, HB2.out⟩
  · have F : Hid (leafL t = []) := by show leafL t = _; unfold leafL; rw [if_neg he]
    obtain ⟨e1, e2⟩ := e_ne he
    clear he
    go_enter Tryd.func9, Tryd.ntmps9
    go_wp2_with (first | (go_at_call 23; refine (check_any _ b o c t _ HA.out).mono ?_; rintro e w1 ⟨rfl, hb1⟩; have HB1 : Hid _ := hb1; clear hb1))
    go_ret2
    exact ⟨_, _, _, 0, rfl, by rw [F.out]; rfl, by rw [F.out]; exact ⟨fun h => absurd rfl h, fun h => absurd rfl h, fun i hi => by simp at hi, by simp⟩, HB1.out⟩

set_option maxRecDepth 100000 in
set_option maxHeartbeats 2000000 in
theorem rLeaves_any (base : Option Addr) (b o c : Nat) (t : NL) (w : World) (h : NodesAt w base b o t) :
    Calls Tryd.prog 18 #[.slice base t.length c] w fun e w' => ∃ v, e = .returned (.tuple #[v, .int .i64 (formE t)]) ∧ w'.ownsRow w.heap.size 3 1 v (leafL t).length (natC (leafL t)) ∧ Below w.heap.size w w' := by
  have HA : Hid _ := h
  clear h
  by_cases he : formE t = 0
  · obtain ⟨hbig, hf⟩ := formE_ok he
    obtain ⟨hT, -, hlen⟩ := theL_form hf
    have F : Hid (leafL t = lvL t (theL t 0)) := by show leafL t = _; unfold leafL; rw [if_pos he]
    have HE : Hid _ := he
    have HT : Hid (Tree _ _ _) := hT
    have HOK : Hid _ := theL_ok hf
    have hpos := hf.pos
    have hl0 : 0 < (theL t 0).length := by omega
    have hl1 : (theL t 0).length ≤ 100000 := by omega
    obtain ⟨e1, e2⟩ := e_eq he
    obtain rfl : base = some ⟨b, o, none⟩ := HA.out.base (by omega)
    have hbl := HA.out.lt (by omega)
    clear he hf hT hlen
    generalize theL t 0 = X at F HT HOK hl0 hl1
    obtain ⟨i0, hi0, hz0, hz1, hz2⟩ := info_parts in_info
    go_enter Tryd.func18, Tryd.ntmps18
    go_wp2_with (first | (go_at_call 30; refine (rcheck_any _ b o c t _ HA.out).mono ?_; rintro e w1 ⟨rfl, hb1⟩; have HB1 : Hid _ := hb1; have hw1 := hb1.size; clear hb1) | (go_at_call 32; refine (rRows_any _ b o c t 0 X _ (HA.out.below HB1.out) HT.out (by omega)).mono ?_; rintro e w3 ⟨v, rfl, ho, hb3⟩; have HB3 : Hid (Below _ _ _) := hb3; obtain ⟨gr, cr, rfl, hgr, hgrl, -, -, -, -⟩ := owns_some ho hl0; have HR : Hid (Ints w3 gr X.length _) := owns_ints ho hl0 rfl; have hw3 := hb3.size; clear ho hb3))
    go_loopw [5, 7] (fun v i wr => ∃ j : Nat, j ≤ X.length ∧ i = .int .i64 j ∧ Below w3.heap.size w3 wr ∧ IRow w3 wr v (lvL t (X.take j))) (fun _ i _ => X.length - (intOf i).toNat)
    case atStart => exact ⟨0, Nat.zero_le _, rfl, Below.refl _ _, World.ownsRow_nil _ _ _ _, Below.refl _ _⟩
    case round =>
      obtain ⟨j, hj, rfl, hbw, hI⟩ := hrel
      have HBW : Hid _ := hbw
      have HW : Hid (Below w.heap.size w wr) := HB1.out.trans ((HB3.out.trans (hbw.mono hw3)).mono HB1.out.size)
      have hwz := hbw.size
      have T0 : Hid _ := hI
      by_cases hlt : j < X.length
      · have r1 := ((HR.out.below hgrl hbw) j hlt).1
        have hbr : b < wr.heap.size := by omega
        have hgr2 : gr < wr.heap.size := by omega
        have hvl := Nat.le_trans (lv_len t (X.take j)) (List.length_take_le j X)
        have HN : Hid (lvL t (X.take (j + 1)) = if lfB t (X.getD j 0) then lvL t (X.take j) ++ [X.getD j 0] else lvL t (X.take j)) := by show _ = _; rw [take_snocL hlt, lv_snoc]
        have hp := HOK.out j hlt
        have hxl := hp.1
        have HLF : Hid (rleafB (ndAt t (X.getD j 0)) = lfB t (X.getD j 0)) := by show _ = _; rfl
        have HC : Hid _ := (HA.out.below HW.out).cells _ hxl
        have j0 : (0 : Int) ≤ (j : Int) := Int.natCast_nonneg _
        have j1 : (j : Int) < (X.length : Int) := by omega
        clear hbw hI hp
        generalize X.getD j 0 = y at r1 HN hxl HLF HC
        have s0 : (0 : Int) ≤ (y : Int) := Int.natCast_nonneg _
        have s1 : (y : Int) < (t.length : Int) := by omega
        generalize hVV : lvL t (X.take j) = V at T0 HN hvl
        clear hVV
        generalize ndAt t y = nd at HC HLF
        obtain ⟨k0, k1, k2, k3, k4, k5⟩ := nd
        simp only at HC
        obtain ⟨c0, c1, c2, c3, c4, c5⟩ := HC.out
        cases hq : lfB t y
        · have HLF' : Hid _ := HLF.out.trans hq
          have HN' : Hid (lvL t (X.take (j + 1)) = V) := by show _ = _; rw [HN.out, hq]; rfl
          go_wp2_with (first | (go_at_call 34; refine (rLeaf_any _ _ _ _ _ _ _).mono ?_; rintro e w5 ⟨rfl, hb5⟩; rw [HLF'.out]; have T5 : Hid _ := T0.out.quiet hb5; clear hb5))
          exact ⟨⟨j + 1, by omega, by go_num, T5.out.below, by rw [HN'.out]; exact T5.out⟩, by simp [intOf]; omega⟩
        · have HLF' : Hid _ := HLF.out.trans hq
          have HN' : Hid (lvL t (X.take (j + 1)) = V ++ [y]) := by show _ = _; rw [HN.out, hq]; rfl
          go_wp2_with (first | (go_at_call 34; refine (rLeaf_any _ _ _ _ _ _ _).mono ?_; rintro e w5 ⟨rfl, hb5⟩; rw [HLF'.out]; have T5 : Hid _ := T0.out.quiet hb5; have r2 := (hb5.cell (p := ⟨gr, j, none⟩) hgr2).trans r1; have hz5 := hb5.size; clear hb5) | (at_builtin; have hq := T5; (refine wpList_append_lies _ (by rfl) _ _ _ (by rfl) w3.heap.size 3 i0 _ 1 8 ins_under hi0 hz0 hz1 hz2 rfl (by omega) _ V.length _ (by rfl) (T5.out.own.alloc _) ⟨w5.heap.size, 0, none⟩ 1 1 [.int .i64 (y : Int)] (by rfl) (by rfl) (World.news_of_block (cs := #[.int .i64 (y : Int)]) (t := 3) (fr := (0, 0)) (heap_alloc_at _ _ _ (by simp))) (by simp [Value.oneCell']) (by omega) (by unfold maxLen; omega) (by omega) (by have := T5.out.size; simp; omega) (w5.heap.size + 1) (by simp) ?_); intro g6 c6 w6 ho hg hat hl; have T6 : Hid _ := T5.out.grown (q := y) hg ho; clear ho hg hat hl hq))
          exact ⟨⟨j + 1, by omega, by go_num, T6.out.below, by rw [HN'.out]; exact T6.out⟩, by simp [intOf]; omega⟩
      · obtain rfl : j = X.length := by omega
        rw [List.take_length] at hI
        have HI : Hid _ := hI
        clear hbw hI
        go_wp2_with fail
        go_ret2
        refine ⟨_, by rw [HE.out]; rfl, ?_, HW.out⟩
        rw [F.out]
        exact owns_down HI.out.own (by omega)
  · have F : Hid (leafL t = []) := by show leafL t = _; unfold leafL; rw [if_neg he]
    obtain ⟨e1, e2⟩ := e_ne he
    clear he
    go_enter Tryd.func18, Tryd.ntmps18
    go_wp2_with (first | (go_at_call 30; refine (rcheck_any _ b o c t _ HA.out).mono ?_; rintro e w1 ⟨rfl, hb1⟩; have HB1 : Hid _ := hb1; clear hb1))
    go_ret2
    exact ⟨_, rfl, by rw [F.out]; exact World.ownsRow_nil _ _ _ _, HB1.out⟩
end Go.Proofs.YtkioahkfjgbgdaaDoor

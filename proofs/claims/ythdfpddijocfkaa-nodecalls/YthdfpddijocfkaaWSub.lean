
/- Layer 17: Sub and Norm of the reference. -/

import Derived.Test.YthdfpddijocfkaaWOrd

import Derived.Test.YthdfpddijocfkaaTPart

import Derived.Test.YthdfpddijocfkaaTNorm

namespace Go.Proofs.Ythdfpddijocfkaa

open Go.RowKit

attribute [local go_sem ↓] Go.wp_at_zero Go.wp_at_succ

set_option maxRecDepth 100000 in
set_option maxHeartbeats 2000000 in
theorem vSub_any (base : Option Addr) (b o c : Nat) (t : NL) (p : Nat) (L : List Nat) (w : World) (h : NodesAt w base b o t) (hT : Tree t p L) (hL : L.length ≤ 1000000) (htl : t.length ≤ 1000000) :
    Calls Try.prog 56 #[.slice base t.length c, .int .i64 p] w fun e w' => ∃ v, e = .returned v ∧ w'.ownsRow w.heap.size 81 6 v L.length (ndCells (partL t L)) ∧ Below w.heap.size w w' := by
  have HA : Hid _ := h
  have HT : Hid _ := hT
  have hlt := hT.lt
  have hLp := hT.pos
  obtain rfl : base = some ⟨b, o, none⟩ := h.base (by omega)
  have hbl := h.lt (by omega)
  clear h hT
  obtain ⟨i0, hi0, hz0, hz1', hz2'⟩ := info_parts nd_info
  have hmi := run_make_known (P := Try.prog) 23 3 (.int .i64 0) 1 8 ins_under in_info t.length (by omega) (by omega)
  go_enter Try.func56, Try.ntmps56
  go_wp2_with (first | (go_at_call 55; refine (vOrder_any _ b o c t p L _ HA.out HT.out hL).mono ?_; rintro e w1 ⟨v, rfl, hown, hb1⟩; obtain ⟨bs1, c1, g1, rfl, hg1, -, hpl⟩ := pls_of_owns hown; obtain rfl : bs1 = some ⟨g1, 0, none⟩ := hpl.base (by omega); have hgl := hpl.lt (by omega); have HP : Hid _ := hpl; have HB1 : Hid _ := hb1; have hz1 := hb1.size; clear hown hpl hb1))
  go_loopw [7] (fun i wr => ∃ j : Nat, j ≤ L.length ∧ i = .int .i64 j ∧ Below w1.heap.size w1 wr ∧ w1.heap.size < wr.heap.size ∧ Ints wr w1.heap.size t.length (fun x => atN L j x)) (fun i _ => L.length - (intOf i).toNat)
  case atStart =>
    refine ⟨0, Nat.zero_le _, rfl, below_alloc _ _, by simp, ?_⟩
    have := zeros_ints w1 3 t.length
    rw [made_zeros]
    exact this
  case round =>
    obtain ⟨j, hj, rfl, hbw, hwz, hI⟩ := hrel
    by_cases hlt1 : j < L.length
    · have v1 := (HP.out.below hbw).cells j hlt1
      have hx : L.getD j 0 < t.length := HT.out.all _ (getD_mem hlt1)
      have HI : Hid (Ints _ _ _ _) := hI
      have HI1 : Hid (∀ W, Ints W w1.heap.size t.length (fun x => atN L j x) → Ints (W.setCell ⟨w1.heap.size, L.getD j 0, none⟩ (.int .i64 (j : Int))) w1.heap.size t.length (fun x => atN L (j + 1) x)) := fun W h => (h.set (L.getD j 0) (j : Int) hx).fn fun x _ => rfl
      generalize L.getD j 0 = x at *
      have f1 := (HI.out x hx).2
      have f2 := (HI.out x hx).1
      have HB : Hid _ := hbw
      have hz := hbw.size
      have x0 : (0 : Int) ≤ (x : Int) := Int.natCast_nonneg _
      have x1 : (x : Int) < (t.length : Int) := by omega
      have j0 : (0 : Int) ≤ (j : Int) := Int.natCast_nonneg _
      have j1 : (j : Int) < (L.length : Int) := by omega
      have hgr : g1 < wr.heap.size := by omega
      clear hbw hI
      go_wp2_with fail
      exact ⟨⟨j + 1, by omega, by go_num, HB.out.setCell (Nat.le_refl _) _, by simpa using hwz, HI1.out _ HI.out⟩, by simp [intOf]; omega⟩
    · obtain rfl : j = L.length := by omega
      have HB : Hid _ := hbw
      have HI : Hid (Ints _ _ _ _) := hI
      have hz := hbw.size
      clear hbw hI
      generalize wr = W1 at *
      go_wp2_with fail
      go_loopw [8, 9] (fun vo i wr => ∃ j : Nat, j ≤ L.length ∧ i = .int .i64 j ∧ Below W1.heap.size W1 wr ∧ wr.ownsRow W1.heap.size 81 6 vo j (ndCells ((partL t L).take j))) (fun _ i _ => L.length - (intOf i).toNat)
      case atStart => exact ⟨0, Nat.zero_le _, rfl, Below.refl _ _, World.ownsRow_nil _ _ _ _⟩
      case round =>
        obtain ⟨j, hj, rfl, hbw, hown⟩ := hrel
        by_cases hlt1 : j < L.length
        · have v1 := ((HP.out.below HB.out).below hbw).cells j hlt1
          have hx : L.getD j 0 < t.length := HT.out.all _ (getD_mem hlt1)
          have hq : Hid _ := partL_at t L j hlt1
          have hch := HT.out.each _ (getD_mem hlt1)
          have HC : Hid _ := (((HA.out.below HB1.out).below HB.out).below hbw).cells _ hx
          generalize L.getD j 0 = x at *
          have HI2 : Hid (Ints _ _ _ _) := HI.out.below hwz hbw
          have HB2 : Hid _ := hbw
          have HO : Hid (World.ownsRow _ _ _ _ _ _ _) := hown
          have hz2 := hbw.size
          have ol := owns_lt hown
          have HS : Hid _ := take_snoc' (partL t L) j (by rw [partL_length]; exact hlt1)
          have x0 : (0 : Int) ≤ (x : Int) := Int.natCast_nonneg _
          have x1 : (x : Int) < (t.length : Int) := by omega
          have j0 : (0 : Int) ≤ (j : Int) := Int.natCast_nonneg _
          have j1 : (j : Int) < (L.length : Int) := by omega
          have hgr : g1 < wr.heap.size := by omega
          have hbr : b < wr.heap.size := by omega
          clear hbw hown
          rcases hch with ⟨hl, hr⟩ | ⟨l, r, hl, hr, l2, r2, -, -⟩
          · have HLF : Hid _ := leafB_yes (n := ndAt t x) hl hr
            have HQ : Hid (ndAt (partL t L) j = ndAt t x) := by show _ = _; rw [hq.out, renD_leaf hl]
            clear hl hr
            generalize ndAt t x = nd at HC HLF HQ
            obtain ⟨k0, k1, k2, k3, k4, k5⟩ := nd
            simp only at HC
            obtain ⟨c0, c1, c2, c3, c4, c5⟩ := HC.out
            go_wp2_with (first | (go_at_call 54; refine (vLeaf_any _ _ _ _ _ _ _).mono ?_; rintro e w3 ⟨rfl, hb3⟩; rw [HLF.out]; have hz3 := hb3.size; simp only [World.size_alloc] at hz3; have y0 : w3.cell? ⟨wr.heap.size, 0, none⟩ = some (.int .i64 k0) := (hb3.cell (p := ⟨wr.heap.size, 0, none⟩) (by simp)).trans (cell_new wr _ _ 0); have y1 : w3.cell? ⟨wr.heap.size, 1, none⟩ = some (.int .i64 k1) := (hb3.cell (p := ⟨wr.heap.size, 1, none⟩) (by simp)).trans (cell_new wr _ _ 1); have y2 : w3.cell? ⟨wr.heap.size, 2, none⟩ = some (.int .i64 k2) := (hb3.cell (p := ⟨wr.heap.size, 2, none⟩) (by simp)).trans (cell_new wr _ _ 2); have y3 : w3.cell? ⟨wr.heap.size, 3, none⟩ = some (.int .i64 k3) := (hb3.cell (p := ⟨wr.heap.size, 3, none⟩) (by simp)).trans (cell_new wr _ _ 3); have y4 : w3.cell? ⟨wr.heap.size, 4, none⟩ = some (.int .i64 k4) := (hb3.cell (p := ⟨wr.heap.size, 4, none⟩) (by simp)).trans (cell_new wr _ _ 4); have y5 : w3.cell? ⟨wr.heap.size, 5, none⟩ = some (.int .i64 k5) := (hb3.cell (p := ⟨wr.heap.size, 5, none⟩) (by simp)).trans (cell_new wr _ _ 5); have HB3 : Hid (Below wr.heap.size wr w3) := (below_alloc wr _).trans (hb3.mono (by simp)); clear hb3) | (at_builtin; (refine wpList_append_lies _ (by rfl) _ _ _ (by rfl) W1.heap.size 81 i0 _ 6 48 nds_under hi0 hz0 hz1' hz2' rfl (by omega) _ j _ (by rfl) ((owns_below HO.out HB3.out).alloc _) ⟨w3.heap.size, 0, none⟩ 1 1 [.int .i64 k0, .int .i64 k1, .int .i64 k2, .int .i64 k3, .int .i64 k4, .int .i64 k5] (by rfl) (by rfl) (World.news_of_block (cs := #[.int .i64 k0, .int .i64 k1, .int .i64 k2, .int .i64 k3, .int .i64 k4, .int .i64 k5]) (t := 81) (fr := (0, 0)) (heap_alloc_at _ _ _ (by simp))) (by simp [Value.oneCell']) (by omega) (by unfold maxLen; omega) (by omega) (by simp; omega) (w3.heap.size + 1) (by simp) ?_); intro gp cp w5 hown5 hgrow5 hat5 hlt5; have HO5 : Hid (World.ownsRow _ _ _ _ _ _ _) := hown5; have HG5 : Hid _ := hgrow5; clear hown5 hgrow5 hat5))
            refine ⟨⟨j + 1, by omega, by go_num, ?_, ?_⟩, by simp [intOf]; omega⟩
            · exact Below.grown ((HB2.out.trans (HB3.out.mono HB2.out.size)).alloc (by omega) _) HG5.out (by rw [World.size_alloc]; omega) (fun k hk => (ol k hk).1)
            · rw [HS.out, ndCells_append, HQ.out]; exact HO5.out
          · have HLF : Hid _ := leafB_no (n := ndAt t x) (by omega)
            have l0 : (0 : Int) ≤ (l : Int) := Int.natCast_nonneg _
            have r0 : (0 : Int) ≤ (r : Int) := Int.natCast_nonneg _
            have l3 : (l : Int) < (t.length : Int) := by omega
            have r3 : (r : Int) < (t.length : Int) := by omega
            have hA3 : w1.heap.size < wr.heap.size := by omega
            generalize ndAt t x = nd at HC HLF hq hl hr
            obtain ⟨k0, k1, k2, k3, k4, k5⟩ := nd
            simp only at HC hl hr
            subst hl hr
            have HQ : Hid (ndAt (partL t L) j = ⟨k0, k1, k2, k3, atN L L.length l, atN L L.length r⟩) := hq.out.trans renD_inner
            obtain ⟨c0, c1, c2, c3, c4, c5⟩ := HC.out
            go_wp2_with (first | (go_at_call 54; refine (vLeaf_any _ _ _ _ _ _ _).mono ?_; rintro e w3 ⟨rfl, hb3⟩; rw [HLF.out]; have hz3 := hb3.size; simp only [World.size_alloc] at hz3; have y0 : w3.cell? ⟨wr.heap.size, 0, none⟩ = some (.int .i64 k0) := (hb3.cell (p := ⟨wr.heap.size, 0, none⟩) (by simp)).trans (cell_new wr _ _ 0); have y1 : w3.cell? ⟨wr.heap.size, 1, none⟩ = some (.int .i64 k1) := (hb3.cell (p := ⟨wr.heap.size, 1, none⟩) (by simp)).trans (cell_new wr _ _ 1); have y2 : w3.cell? ⟨wr.heap.size, 2, none⟩ = some (.int .i64 k2) := (hb3.cell (p := ⟨wr.heap.size, 2, none⟩) (by simp)).trans (cell_new wr _ _ 2); have y3 : w3.cell? ⟨wr.heap.size, 3, none⟩ = some (.int .i64 k3) := (hb3.cell (p := ⟨wr.heap.size, 3, none⟩) (by simp)).trans (cell_new wr _ _ 3); have y4 : w3.cell? ⟨wr.heap.size, 4, none⟩ = some (.int .i64 (l : Int)) := (hb3.cell (p := ⟨wr.heap.size, 4, none⟩) (by simp)).trans (cell_new wr _ _ 4); have y5 : w3.cell? ⟨wr.heap.size, 5, none⟩ = some (.int .i64 (r : Int)) := (hb3.cell (p := ⟨wr.heap.size, 5, none⟩) (by simp)).trans (cell_new wr _ _ 5); have HB3 : Hid (Below wr.heap.size wr w3) := (below_alloc wr _).trans (hb3.mono (by simp)); have HI3 : Hid (Ints w3 _ _ _) := HI2.out.below hA3 HB3.out; have al := (HI3.out l l2).1; have ar := (HI3.out r r2).1; have fl : w3.frozen? ⟨wr.heap.size, 4, none⟩ = false := (hb3.frozen (p := ⟨wr.heap.size, 4, none⟩) (by simp)).trans (by simp); have fr : w3.frozen? ⟨wr.heap.size, 5, none⟩ = false := (hb3.frozen (p := ⟨wr.heap.size, 5, none⟩) (by simp)).trans (by simp); clear hb3))
            go_region
            have HO4 : Hid (World.ownsRow _ _ _ _ _ _ _) := ownB (ownB (owns_below HO.out HB3.out) wr.heap.size 4 (.int .i64 (atN L L.length l)) (fun g q => (ol g q).2)) wr.heap.size 5 (.int .i64 (atN L L.length r)) (fun g q => (ol g q).2)
            go_wp2_with (first | (at_builtin; (refine wpList_append_lies _ (by rfl) _ _ _ (by rfl) W1.heap.size 81 i0 _ 6 48 nds_under hi0 hz0 hz1' hz2' rfl (by omega) _ j _ (by rfl) ((HO4.out.alloc _).drew) ⟨w3.heap.size, 0, none⟩ 1 1 [.int .i64 k0, .int .i64 k1, .int .i64 k2, .int .i64 k3, .int .i64 (atN L L.length l), .int .i64 (atN L L.length r)] (by rfl) (by rfl) (World.news_of_block (cs := #[.int .i64 k0, .int .i64 k1, .int .i64 k2, .int .i64 k3, .int .i64 (atN L L.length l), .int .i64 (atN L L.length r)]) (t := 81) (fr := (0, 0)) (heap_alloc_at _ _ _ (by simp))) (by simp [Value.oneCell']) (by omega) (by unfold maxLen; omega) (by omega) (by simp; omega) (w3.heap.size + 1) (by simp) ?_); intro gp cp w5 hown5 hgrow5 hat5 hlt5; have HO5 : Hid (World.ownsRow _ _ _ _ _ _ _) := hown5; have HG5 : Hid _ := hgrow5; clear hown5 hgrow5 hat5))
            refine ⟨⟨j + 1, by omega, by go_num, ?_, ?_⟩, by simp [intOf]; omega⟩
            · exact Below.grown (((((HB2.out.trans (HB3.out.mono HB2.out.size)).setCell (p := ⟨wr.heap.size, 4, none⟩) hz2 _).setCell (p := ⟨wr.heap.size, 5, none⟩) hz2 _)).alloc (by simp; omega) _) (undrew HG5.out) (by simp; omega) (fun k hk => (ol k hk).1)
            · rw [HS.out, ndCells_append, HQ.out]; exact HO5.out
        · obtain rfl : j = L.length := by omega
          have HO : Hid (World.ownsRow _ _ _ _ _ _ _) := hown
          have HB2 : Hid _ := hbw
          clear hown hbw
          go_wp2_with fail
          go_ret
          refine ⟨_, rfl, ?_, ?_⟩
          · have := HO.out
            rw [List.take_of_length_le (by rw [partL_length]; exact Nat.le_refl _)] at this
            exact owns_down this (by omega)
          · exact (HB1.out.trans (HB.out.mono HB1.out.size)).trans (HB2.out.mono (by omega))
set_option maxRecDepth 100000 in
theorem vNorm_any (base : Option Addr) (b o c : Nat) (t : NL) (w : World) (h : NodesAt w base b o t) (he : formE t = 0) :
    Calls Try.prog 36 #[.slice base t.length c] w fun e w' => ∃ v, e = .returned v ∧ w'.ownsRow w.heap.size 81 6 v (normL t).length (ndCells (normL t)) ∧ Below w.heap.size w w' := by
  obtain ⟨hbig, hf⟩ := formE_ok he
  obtain ⟨hT, -, hlen⟩ := theL_form hf
  have HC : Hid (Calls _ _ _ _ _) := vSub_any base b o c t 0 (theL t 0) w h hT (by omega) (by omega)
  have F : Hid (normL t = partL t (theL t 0)) := normL_ok he
  clear h he hT hf hlen
  go_enter Try.func36, Try.ntmps36
  go_wp2_with fail
  refine HC.out.mono ?_
  rintro e w1 ⟨v1, rfl, ho1, hb1⟩
  have O1 : Hid (World.ownsRow _ _ _ _ _ _ _) := ho1
  have B1 : Hid (Below w.heap.size w w1) := hb1
  clear ho1 hb1
  go_wp2_with fail
  go_ret
  exact ⟨_, rfl, by rw [F.out, partL_length]; exact O1.out, B1.out⟩
end Go.Proofs.Ythdfpddijocfkaa

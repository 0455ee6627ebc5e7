
/- Layer 16: the document's Read. -/

import Derived.Test.YtegajbfefhljmaaDoorTXRp

import Derived.Test.YtegajbfefhljmaaDoorTGrR

import Derived.Test.YtegajbfefhljmaaDoorTPart

import Derived.Deep.CutRange

namespace Go.Proofs.YtegajbfefhljmaaDoor

open Go.RowKit

attribute [local go_sem ↓] Go.wp_at_zero Go.wp_at_succ

theorem Rr.mat {w0 w : World} {g n c : Nat} {vo : Value} {N : NL} {O : List Nat} (h : Rr w0 w (.slice (some ⟨g, 0, none⟩) n c) vo N O) (hn : n = N.length) : MAt w0 w g c N := ⟨by rw [hn] at h; exact h.nod, h.below⟩
theorem add_l {N : NL} {O : List Nat} {u : Nat} {d : NdD} (h : (ndAt (N ++ [d]) u).l = -1) : addP N (O ++ [u]) d = (N ++ [d]).set u { ndAt (N ++ [d]) u with l := (N.length : Int) } := by
  unfold addP hangD
  simp only [List.getLast?_append, List.getLast?_singleton, Option.some_or]
  rw [if_pos h]
theorem add_r {N : NL} {O : List Nat} {u : Nat} {d : NdD} (h : (ndAt (N ++ [d]) u).l ≠ -1) : addP N (O ++ [u]) d = (N ++ [d]).set u { ndAt (N ++ [d]) u with r := (N.length : Int) } := by
  unfold addP hangD
  simp only [List.getLast?_append, List.getLast?_singleton, Option.some_or]
  rw [if_neg h]
theorem cell_other {w : World} (b j : Nat) (v : Value) {h c : Nat} (hb : h ≠ b) : (w.setCell ⟨b, j, none⟩ v).cell? ⟨h, c, none⟩ = w.cell? ⟨h, c, none⟩ := by
  have : (w.setCell ⟨b, j, none⟩ v).heap[h]? = w.heap[h]? := Below.heap_setCell _ _ _ _ (fun z => hb (by simpa using z))
  simp only [World.cell?, this]
theorem box_far {y x2 : World} {o : Obj} {row : Option Nat} {a0 a1 a2 a3 a4 a5 : Int} (hg : ((y.alloc (.cells #[.int .i64 a0, .int .i64 a1, .int .i64 a2, .int .i64 a3, .int .i64 a4, .int .i64 a5] 33)).alloc o).grownBy x2 row) (hne : row ≠ some y.heap.size) : x2.cell? ⟨y.heap.size, 1, none⟩ = some (.int .i64 a1) := by
  have hb := hg.block y.heap.size (by simp; omega) (fun q => hne q.symm)
  rw [heap_alloc_old _ _ (by simp), heap_alloc_at _ _ _ rfl] at hb
  simp [World.cell?, hb]
theorem rPart_at (base : Option Addr) (b o c : Nat) (t : NL) (p : Nat) (L : List Nat) (n : Nat) (w : World) (hn : n = t.length) (h : NodesAt w base b o t) (hT : Tree t p L) (hL : L.length ≤ 1000000) (htl : t.length ≤ 1000000) :
    Calls Tryd.prog 19 #[.slice base n c, .int .i64 p] w fun e w' => ∃ v, e = .returned v ∧ w'.ownsRow w.heap.size 33 6 v L.length (ndCells (partL t L)) ∧ Below w.heap.size w w' := by
  subst hn
  exact rPart_any base b o c t p L w h hT hL htl
theorem cont_eq {k : Nat} {l : List UInt8} {N : NL} {O : List Nat} : contP k l N O = match closeP O.length l N O with
  | none => none
  | some (true, l2, O2) => treeP k l2 N O2
  | some (false, l2, _) => some (l2, N) := rfl
theorem take_mem {O : List Nat} {n j : Nat} (h : ∀ u ∈ O, u < n) : ∀ u ∈ O.take j, u < n := fun u hu => h u (List.mem_of_mem_take hu)
theorem getD_memO {O : List Nat} {n j : Nat} (h : ∀ u ∈ O, u < n) (hj : j < O.length) : O.getD j 0 < n := h _ (by rw [List.getD_eq_getElem?_getD, List.getElem?_eq_getElem hj]; exact List.getElem_mem hj)

set_option maxRecDepth 100000 in
set_option maxHeartbeats 8000000 in
theorem rRead_any (l : List UInt8) (w : World) (hl63 : l.length ≤ 9223372036854775807) :
    Calls Tryd.prog 7 #[.string ⟨l.toArray⟩] w fun e w' => ∃ v, e = .returned (.tuple #[v, .int .i64 (readE l)]) ∧ w'.ownsRow w.heap.size 33 6 v (readL l).length (ndCells (readL l)) ∧ Below w.heap.size w w' := by
  have hsz : (⟨l.toArray⟩ : ByteArray).size = l.length := by simp [ByteArray.size]
  by_cases hbig : 8000000 < l.length
  · have b0 : (8000000 : Int) < (l.length : Int) := by omega
    have HE : Hid (readE l = 2 ∧ readL l = []) := ⟨by unfold readE; rw [if_pos hbig], by unfold readL; rw [if_pos hbig]⟩
    clear hbig
    go_enter Tryd.func7, Tryd.ntmps7
    go_wp2_with fail
    go_ret2
    rw [HE.out.1, HE.out.2]
    exact ⟨_, rfl, World.ownsRow_nil _ _ _ _, Below.refl _ _⟩
  have hl : l.length ≤ 8000000 := by omega
  have b0 : (l.length : Int) ≤ 8000000 := by omega
  clear hbig hl63
  obtain ⟨i0, hi0, hz0, hz1, hz2⟩ := info_parts nd_info
  obtain ⟨j0, hj0, hy0, hy1, hy2⟩ := info_parts in_info
  go_enter Tryd.func7, Tryd.ntmps7
  go_wp2_with fail
  go_loopw [4, 5, 6] (fun va vo vi wr => ∃ (N : NL) (O : List Nat) (p k : Nat), p ≤ l.length ∧ vi = .int .i64 p ∧ Rr w wr va vo N O ∧ (∀ u ∈ O, u < N.length) ∧ N.length ≤ p ∧ O.length ≤ N.length ∧ l.length < k + p ∧ treeP (l.length + 1) l [] [] = treeP k (l.drop p) N O) (fun _ _ vi _ => l.length - (intOf vi).toNat)
  case atStart => exact ⟨[], [], 0, l.length + 1, Nat.zero_le _, rfl, ⟨World.ownsRow_nil _ _ _ _, World.ownsRow_nil _ _ _ _, Below.refl _ _⟩, by simp, by simp, by simp, by omega, by simp⟩
  case round =>
    obtain ⟨N, O, p, k, hp, rfl, hR, hO, hN, hON, hk, hT⟩ := hrel
    rename World => wq
    obtain ⟨k, rfl⟩ : ∃ k', k = k' + 1 := ⟨k - 1, by omega⟩
    obtain ⟨aa, ac, rfl, -⟩ := own_form hR.nod
    obtain ⟨ao, oc, rfl, -⟩ := own_form hR.opn
    have hN8 : N.length ≤ 8000000 := by omega
    have hO8 : O.length ≤ 8000000 := by omega
    generalize hol : O.length = ol at *
    have HOL : Hid _ := hol
    clear hol
    have T0 : Hid (Rr _ _ _ _ _ _) := hR
    have HO : Hid (∀ u ∈ O, u < N.length) := hO
    have HT : Hid (treeP (l.length + 1) l [] [] = treeP (k + 1) (l.drop p) N O) := hT
    have HK : Hid (l.length < k + 1 + p) := hk
    have hs0 := hR.size
    clear hR hO hT hk
    cases ho : openR (l.drop p) with
    | none =>
      have HF : Hid _ := fin_no hl (HT.out.trans (tp_none (nr_no ho)))
      have HOP : Hid (openR (l.drop p) = none) := ho
      clear ho
      go_wp2_with (first | (go_at_call 17; refine (ro_none l p hp hl HOP.out _).mono ?_; rintro e y0 ⟨⟨a0, a1, a2, a3, a4, a5, rfl⟩, hb⟩; have T1 : Hid (Rr _ y0 _ _ _ _) := T0.out.quiet hb; clear hb))
      go_ret2
      obtain ⟨f1, f2⟩ := HF.out
      rw [f1, f2]
      exact ⟨_, rfl, World.ownsRow_nil _ _ _ _, T1.out.below.alloc T1.out.size _⟩
    | some qd =>
      obtain ⟨d, rr⟩ := qd
      obtain ⟨q, rfl, hpq, hql⟩ := open_rest hp ho
      have HOP : Hid (openR (l.drop p) = some (d, l.drop q)) := ho
      have hinf := open_inf ho
      have qz : ((q : Int) == -1) = false := beq_eq_false_iff_ne.2 (by omega)
      have q0 : (0 : Int) ≤ (q : Int) := Int.natCast_nonneg _
      clear ho
      by_cases hq : q < l.length
      · have q1 : (q : Int) < (l.length : Int) := by omega
        go_upto_if 36 with (first | (go_at_call 17; refine (ro_some l p q d hp hl hql HOP.out _).mono ?_; rintro e y0 ⟨rfl, hb⟩; have T1 : Hid (Rr w y0 _ _ N O) := T0.out.quiet hb; have hs1 := T1.out.size; clear hb) | (at_builtin; have qq := T1; have T1b : Hid (Rr w (y0.alloc (.cells #[.int .i64 d.key, .int .i64 d.inf, .int .i64 d.wt, .int .i64 d.val, .int .i64 d.l, .int .i64 d.r] 33)) _ _ N O) := T1.out.quiet (below_alloc _ _); (refine wpList_append_lies _ (by rfl) _ _ _ (by rfl) w.heap.size 33 i0 _ 6 48 nds_under' hi0 hz0 hz1 hz2 rfl (by omega) _ N.length _ (by rfl) (T1b.out.nod.alloc _) ⟨y0.heap.size + 1, 0, none⟩ 1 1 [.int .i64 d.key, .int .i64 d.inf, .int .i64 d.wt, .int .i64 d.val, .int .i64 d.l, .int .i64 d.r] (by rfl) (by rfl) (World.news_of_block (cs := #[.int .i64 d.key, .int .i64 d.inf, .int .i64 d.wt, .int .i64 d.val, .int .i64 d.l, .int .i64 d.r]) (t := 33) (fr := (0, 0)) (heap_alloc_at _ _ _ (by simp))) (by simp [Value.oneCell']) (by omega) (by unfold maxLen; omega) (by omega) (by simp; omega) (y0.heap.size + 1 + 1) (by simp) ?_); intro g cp x2 ho2 hg2 hat2 hlt2; have T2 : Hid (Rr w x2 (.slice (some ⟨g, 0, none⟩) (N.length + 1) cp) _ (N ++ [d]) O) := T1b.out.pushN hg2 ho2; have hgb : g ≠ y0.heap.size := hat2.elim (fun z => by have := (owns_lt T1.out.nod g z).2; omega) (fun z => by omega); have hbx : x2.cell? ⟨y0.heap.size, 1, none⟩ = some (.int .i64 d.inf) := box_far hg2 (fun z => by have := (owns_lt T1.out.nod y0.heap.size z).2; omega); have hs2 := T2.out.size; clear ho2 hg2 hat2 T1b qq))
        have T2m := T2.out.mat (show N.length + 1 = (N ++ [d]).length by simp)
        have T2M : Hid (MAt _ _ _ _ _) := T2m
        clear T2m
        go_cut [10] from 34 to 58 (fun _ wx => Rr w wx (.slice (some ⟨g, 0, none⟩) (N.length + 1) cp) (.slice ao ol oc) (addP N O d) O ∧ wx.cell? ⟨y0.heap.size, 1, none⟩ = some (.int .i64 d.inf))
        case first =>
          rcases List.eq_nil_or_concat O with rfl | ⟨O', u, hOe⟩
          · obtain rfl : ol = 0 := by have := HOL.out; simp at this; exact this.symm
            go_wp2_with fail
            go_meet
            exact ⟨T2.out, hbx⟩
          · rw [List.concat_eq_append] at hOe
            subst hOe
            obtain ⟨gq, cq, hvq, -, -, -, -, -, -⟩ := owns_some T2.out.opn (by simp)
            injection hvq with hv1 hv2 hv3
            subst hv1 hv3
            clear hv2
            obtain ⟨m, rfl⟩ : ∃ m, ol = m + 1 := ⟨O'.length, by have := HOL.out; simp at this; omega⟩
            have HM : Hid (O'.length = m) := by have := HOL.out; simp at this; exact this
            have hO1 : m + 1 ≤ 8000000 := by omega
            have hi1 : ((m + 1 : Nat) : Int) - 1 = (m : Int) := by omega
            have hu : u < N.length := HO.out u (by simp)
            have htop : x2.cell? ⟨gq, m, none⟩ = some (.int .i64 (u : Int)) := by
              have h9 := T2.out.opn
              rw [HOL.out] at h9
              rw [h9.cellAt m (by omega), ← HM.out]
              simp [natC]
            obtain ⟨⟨hlc, hlf⟩, ⟨hrc, hrf⟩⟩ := T2M.out.cells u (by simp; omega)
            have u0 : (0 : Int) ≤ (u : Int) := Int.natCast_nonneg _
            have u1 : (u : Int) < (N.length : Int) + 1 := by omega
            have HUN : Hid (u < (N ++ [d]).length) := by show u < (N ++ [d]).length; simp; omega
            have HAL : Hid _ := add_l (N := N) (O := O') (u := u) (d := d)
            have HAR : Hid _ := add_r (N := N) (O := O') (u := u) (d := d)
            have HCl : Hid _ := ndCells_l (N ++ [d]) u (N.length : Int) HUN.out
            have HCr : Hid _ := ndCells_r (N ++ [d]) u (N.length : Int) HUN.out
            generalize hlg : (ndAt (N ++ [d]) u).l = lu at *
            have HLU : Hid _ := hlg
            clear hlg hu
            by_cases hm : lu = -1
            · subst hm
              have T3 : Hid (Rr w (x2.setCell ⟨g, u * 6 + 4, none⟩ (.int .i64 (N.length : Int))) (.slice (some ⟨g, 0, none⟩) (N.length + 1) cp) (.slice (some ⟨gq, 0, none⟩) (m + 1) oc) (addP N (O' ++ [u]) d) (O' ++ [u])) := by
                show Rr w _ _ _ _ _
                rw [HAL.out rfl]
                exact T2.out.set (u * 6 + 4) (.int .i64 (N.length : Int)) (by simp) HCl.out
              go_wp2_with fail
              go_meet
              exact ⟨T3.out, by rw [cell_other _ _ _ hgb.symm]; exact hbx⟩
            · have mn : (lu == -1) = false := by simp [hm]
              have T3 : Hid (Rr w (x2.setCell ⟨g, u * 6 + 5, none⟩ (.int .i64 (N.length : Int))) (.slice (some ⟨g, 0, none⟩) (N.length + 1) cp) (.slice (some ⟨gq, 0, none⟩) (m + 1) oc) (addP N (O' ++ [u]) d) (O' ++ [u])) := by
                show Rr w _ _ _ _ _
                rw [HAR.out hm]
                exact T2.out.set (u * 6 + 5) (.int .i64 (N.length : Int)) (by simp) HCr.out
              clear hm
              go_wp2_with fail
              go_meet
              exact ⟨T3.out, by rw [cell_other _ _ _ hgb.symm]; exact hbx⟩
        case rest =>
          obtain ⟨hRC, hbx2⟩ := hcut
          clear T2 T2M hbx
          obtain ⟨N1, hN1⟩ : ∃ N1, N1 = addP N O d := ⟨_, rfl⟩
          rw [← hN1] at hRC
          have RC : Hid (Rr w wc (.slice (some ⟨g, 0, none⟩) (N.length + 1) cp) (.slice ao ol oc) N1 O) := hRC
          have HNL_N1 : Hid (N1.length = N.length + 1) := by show _ = _; rw [hN1]; exact addP_len _ _ _
          have HN1 : Hid (N1 = addP N O d) := hN1
          have hsc := hRC.size
          clear hN1 hRC
          by_cases h32 : l.getD q 0 = 32
          · have cc : (⟨l.toArray⟩ : ByteArray)[q].toNat = 32 := by_eq hq (c := 32) h32
            have HT2 : Hid (treeP (l.length + 1) l [] [] = treeP k (l.drop (q + 1)) N1 (O ++ [N.length])) := by
              show _ = _
              rw [HN1.out]
              exact HT.out.trans (tp_in (nr_in HOP.out hq h32))
            clear h32
            go_wp2_with (first | (at_builtin; have qq := RC; (refine wpList_append_lies _ (by rfl) _ _ _ (by rfl) w.heap.size 3 j0 _ 1 8 ins_under hj0 hy0 hy1 hy2 rfl (by omega) _ ol _ (by rfl) ((show wc.ownsRow _ _ _ _ ol _ by have h9 := RC.out.opn; rw [HOL.out] at h9; exact h9).alloc _) ⟨wc.heap.size, 0, none⟩ 1 1 [.int .i64 (N.length : Int)] (by rfl) (by rfl) (World.news_of_block (cs := #[.int .i64 (N.length : Int)]) (t := 3) (fr := (0, 0)) (heap_alloc_at _ _ _ (by simp))) (by simp [Value.oneCell']) (by omega) (by unfold maxLen; omega) (by omega) (by simp; omega) (wc.heap.size + 1) (by simp) ?_); intro g6 c6 x6 ho6 hg6 hat6 hlt6; have T6 : Hid (Rr w x6 (.slice (some ⟨g, 0, none⟩) (N.length + 1) cp) _ N1 (O ++ [N.length])) := RC.out.pushO hg6 (by rw [HOL.out]; exact ho6); clear ho6 hg6 hat6 hlt6 qq))
            refine ⟨⟨N1, O ++ [N.length], q + 1, k, by omega, by go_num, T6.out, fun u hu => by
              rw [HNL_N1.out]
              rcases List.mem_append.1 hu with h | h
              · exact Nat.lt_succ_of_lt (HO.out u h)
              · simp at h; omega, by have := HNL_N1.out; omega, by have := HNL_N1.out; have := HOL.out; simp; omega, by have := HK.out; omega, HT2.out⟩, ?_⟩
            simp [intOf]; omega
          · have c32 : (((⟨l.toArray⟩ : ByteArray)[q].toNat : Int) == 32) = false := by_ne hq (c := 32) h32
            rcases hinf with hi | hi
            · rw [hi] at hbx2
              have HI : Hid (d.inf = 0) := hi
              clear hi
              by_cases h61 : l.getD q 0 = 61
              · have cc : (⟨l.toArray⟩ : ByteArray)[q].toNat = 61 := by_eq hq (c := 61) h61
                clear c32
                obtain ⟨-, -, -, ⟨hvc, hvf⟩, -, -⟩ := (RC.out.mat HNL_N1.out.symm).six N.length (by rw [HNL_N1.out]; omega)
                obtain ⟨N2, hN2⟩ : ∃ N2, N2 = N1.set (N1.length - 1) { ndAt N1 (N1.length - 1) with val := rV l (q + 1) } := ⟨_, rfl⟩
                have HN2e : Hid _ := hN2
                have HNL_N2 : Hid (N2.length = N.length + 1) := by show _ = _; rw [hN2, List.length_set]; exact HNL_N1.out
                have T7 : Hid (Rr w (wc.setCell ⟨g, N.length * 6 + 3, none⟩ (.int .i64 (rV l (q + 1)))) (.slice (some ⟨g, 0, none⟩) (N.length + 1) cp) (.slice ao ol oc) N2 O) := RC.out.set (N.length * 6 + 3) _ (by rw [hN2, List.length_set]) (by
                  have e : N1.length - 1 = N.length := by have := HNL_N1.out; omega
                  rw [hN2, e]
                  exact ndCells_v N1 N.length _ (by have := HNL_N1.out; omega))
                have hs7 := T7.out.size
                clear hN2
                generalize (ndAt N1 N.length).val = ov at *
                rcases rk_cases (l := l) (a := q + 1) (by omega) with ⟨r1, r2, r3⟩ | ⟨r, r0, rl, r3, r1, r2⟩
                · have HF : Hid _ := fin_no hl (HT.out.trans (tp_none (nr_vn HOP.out hq HI.out h61 r1)))
                  have HWq : Hid (rK l (q + 1) = -1) := r3
                  clear r1 r2 r3 h32 h61
                  go_wp2_with (first | (go_at_call 18; refine (rnumber_at l _ (q + 1) (by omega) (by omega) hl _).mono ?_; rintro e w1 ⟨rfl, rfl⟩; rw [HWq.out]))
                  go_ret2
                  obtain ⟨f1, f2⟩ := HF.out
                  rw [f1, f2]
                  exact ⟨_, rfl, World.ownsRow_nil _ _ _ _, T7.out.below⟩
                · have HWq : Hid (rK l (q + 1) = (r : Int)) := r3
                  have rz : ((r : Int) == -1) = false := beq_eq_false_iff_ne.2 (by omega)
                  have rp : (0 : Int) ≤ (r : Int) := Int.natCast_nonneg _
                  have HR1 : Hid (rnum (l.drop (q + 1)) = some (rV l (q + 1), l.drop r)) := r1
                  clear r1 r2 r3
                  by_cases hrl : r < l.length
                  · have r1 : (r : Int) < (l.length : Int) := by omega
                    have rd : decide (l.length ≤ r) = false := decide_eq_false (by omega)
                    by_cases h41 : l.getD r 0 = 41
                    · have c4 : (⟨l.toArray⟩ : ByteArray)[r].toNat = 41 := by_eq hrl (c := 41) h41
                      have HCL : Hid (treeP (l.length + 1) l [] [] = contP k (l.drop (r + 1)) N2 O) := by
                        show _ = _
                        rw [HN2e.out, HN1.out]
                        exact HT.out.trans (tp_lf (nr_v41 HOP.out hq HI.out h61 HR1.out hrl h41))
                      clear h32 h61 h41
                      go_wp2_with (first | (go_at_call 18; refine (rnumber_at l _ (q + 1) (by omega) (by omega) hl _).mono ?_; rintro e w1 ⟨rfl, rfl⟩; rw [HWq.out]))
                      go_loopw [5, 8] (fun vo vk wr => ∃ j z : Nat, j ≤ O.length ∧ z ≤ l.length ∧ r + 1 ≤ z ∧ vk = .int .i64 z ∧ Rr w wr (.slice (some ⟨g, 0, none⟩) (N.length + 1) cp) vo N2 (O.take j) ∧ closeP O.length (l.drop (r + 1)) N2 O = closeP j (l.drop z) N2 (O.take j)) (fun vo _ _ => slLen vo)
                      case atStart => exact ⟨O.length, r + 1, Nat.le_refl _, by omega, Nat.le_refl _, by go_num, by rw [List.take_length]; exact T7.out, by rw [List.take_length]⟩
                      case round =>
                        obtain ⟨j, z, hj, hz, hz0, rfl, hR2, hcl⟩ := hrel
                        have TL : Hid (Rr _ _ _ _ _ _) := hR2
                        have HC2 : Hid (closeP O.length (l.drop (r + 1)) N2 O = closeP j (l.drop z) N2 (O.take j)) := hcl
                        have hs3 := hR2.size
                        have z0' : (0 : Int) ≤ (z : Int) := Int.natCast_nonneg _
                        have HJ : Hid (j ≤ O.length) := hj
                        have HZ0 : Hid (r + 1 ≤ z) := hz0
                        clear hR2 hcl hj hz0
                        cases j with
                        | zero =>
                          have HT2 : Hid (treeP (l.length + 1) l [] [] = some (l.drop z, N2)) := by
                            show _ = _
                            rw [HCL.out, cont_eq, HC2.out]
                            rfl
                          rcases Go.Joins.ownsRow_forms TL.out.opn with ⟨rfl, -⟩ | ⟨ga, ca, rfl⟩
                          all_goals
                            try simp only [List.take_zero, List.length_nil]
                            by_cases hzl : z < l.length
                            · have HF : Hid _ := fin_more hl HT2.out hzl
                              have zn : ((z : Int) != (l.length : Int)) = true := by simp; omega
                              clear hzl
                              go_wp2_with fail
                              go_ret2
                              obtain ⟨f1, f2⟩ := HF.out
                              rw [f1, f2]
                              exact ⟨_, rfl, World.ownsRow_nil _ _ _ _, TL.out.below⟩
                            · obtain rfl : z = l.length := by omega
                              by_cases hnb : 100000 < N2.length
                              · have HF : Hid _ := fin_big hl HT2.out hnb
                                have nb : (100000 : Int) < (N.length : Int) + 1 := by have := HNL_N2.out; omega
                                clear hnb
                                go_wp2_with fail
                                go_ret2
                                obtain ⟨f1, f2⟩ := HF.out
                                rw [f1, f2]
                                exact ⟨_, rfl, World.ownsRow_nil _ _ _ _, TL.out.below⟩
                              · have HF : Hid _ := fin_ok hl HT2.out (by omega)
                                have hrb := read_back HF.out.1
                                rw [HF.out.2] at hrb
                                have MN : Hid (NodesAt _ _ _ _ _) := (TL.out.mat HNL_N2.out.symm).nodes
                                have PC : Hid (∀ W, NodesAt W (some ⟨g, 0, none⟩) g 0 N2 → Calls Tryd.prog 19 #[.slice (some ⟨g, 0, none⟩) (N.length + 1) cp, .int .i64 0] W fun e w' => ∃ v, e = .returned v ∧ w'.ownsRow W.heap.size 33 6 v N2.length (ndCells N2) ∧ Below W.heap.size W w') := fun W hW => by
                                  have h := rPart_at (some ⟨g, 0, none⟩) g 0 cp N2 0 _ (N.length + 1) W HNL_N2.out.symm hW hrb.2.2.2.1 (by rw [List.length_range']; omega) (by omega)
                                  rw [hrb.2.2.2.2.1, List.length_range'] at h
                                  exact h
                                obtain ⟨n1, hn1⟩ : ∃ n1, N.length + 1 = n1 := ⟨_, rfl⟩
                                have nb : (n1 : Int) ≤ 100000 := by have := HNL_N2.out; omega
                                rw [hn1] at PC ⊢
                                clear hnb hrb hn1
                                go_wp2_with (first | (go_at_call 19; refine (PC.out _ MN.out).mono ?_; rintro e y9 ⟨v9, rfl, ho9, hb9⟩; have O9 : Hid (World.ownsRow _ _ _ _ _ _ _) := ho9; have B9 : Hid (Below _ _ _) := TL.out.below.trans (hb9.mono TL.out.below.size); clear ho9 hb9))
                                go_ret2
                                rw [HF.out.1, HF.out.2]
                                have h9 := O9.out
                                exact ⟨_, rfl, owns_down h9 TL.out.size, B9.out⟩
                        | succ j =>
                          have hjO : j < O.length := by have := HJ.out; omega
                          have hO1 : O.length ≤ 8000000 := by have := HOL.out; omega
                          have hj8 : j + 1 ≤ 8000000 := by omega
                          have htl : (O.take (j + 1)).length = j + 1 := by simp; omega
                          obtain ⟨gq, cq, rfl, -, -, hcap, hcm, -, -⟩ := owns_some TL.out.opn (by rw [htl]; omega)
                          have top : _ := TL.out.opn.cellAt j (by rw [htl]; omega)
                          rw [htl] at TL hcap ⊢
                          unfold maxLen at hcm
                          have hi1 : ((j + 1 : Nat) : Int) - 1 = (j : Int) := by omega
                          have hu : O.getD j 0 < N2.length := by rw [HNL_N2.out]; exact Nat.lt_succ_of_lt (getD_memO HO.out hjO)
                          have htop : wr.cell? ⟨gq, j, none⟩ = some (.int .i64 ((O.getD j 0 : Nat) : Int)) := by
                            rw [top]
                            simp only [natC]
                            rw [List.getElem?_map, List.getElem?_take_of_lt (by omega), List.getD_eq_getElem?_getD, List.getElem?_eq_getElem hjO]
                            rfl
                          obtain ⟨-, ⟨hrc, -⟩⟩ := (TL.out.mat HNL_N2.out.symm).cells (O.getD j 0) hu
                          have HRr : Hid ((ndAt N2 (O.getD j 0)).r = (ndAt N2 (O.getD j 0)).r) := rfl
                          have T9 : Hid (Rr w wr (.slice (some ⟨g, 0, none⟩) (N.length + 1) cp) (.slice (some ⟨gq, 0, none⟩) j cq) N2 (O.take j)) := TL.out.pop hjO
                          generalize hru : (ndAt N2 (O.getD j 0)).r = ru at *
                          have HRU : Hid _ := hru
                          have hu0 : ((O.getD j 0 : Nat) : Int) < (N.length : Int) + 1 := by have := HNL_N2.out; omega
                          have hu1 : (0 : Int) ≤ ((O.getD j 0 : Nat) : Int) := Int.natCast_nonneg _
                          have HUU : Hid (O.getD j 0 < N2.length) := hu
                          clear top hru HRr hu htl
                          generalize hug : O.getD j 0 = u at *
                          have HUG : Hid _ := hug
                          clear hug
                          by_cases hrm : ru = -1
                          · subst hrm
                            by_cases hzl : z < l.length
                            · have z1 : (z : Int) < (l.length : Int) := by omega
                              by_cases hc : l.getD z 0 = 32
                              · have cc : (⟨l.toArray⟩ : ByteArray)[z].toNat = 32 := by_eq hzl (c := 32) hc
                                have HN2 : Hid (treeP (l.length + 1) l [] [] = treeP k (l.drop (z + 1)) N2 (O.take (j + 1))) := by
                                  show _ = _
                                  rw [HCL.out, cont_eq, HC2.out, cl_more (by rw [HUG.out]; exact HRU.out) hzl hc]
                                clear hc
                                go_wp2_with fail
                                refine ⟨⟨N2, O.take (j + 1), z + 1, k, by omega, by go_num, TL.out, take_mem (fun u hu => by rw [HNL_N2.out]; exact Nat.lt_succ_of_lt (HO.out u hu)), by have := HZ0.out; have := HNL_N2.out; omega, by have := HNL_N2.out; have := HOL.out; simp; omega, by have := HK.out; have := HZ0.out; omega, HN2.out⟩, ?_⟩
                                have := HZ0.out
                                simp [intOf]; omega
                              · have cc : (((⟨l.toArray⟩ : ByteArray)[z].toNat : Int) != 32) = true := by_bne hzl (c := 32) hc
                                have HF : Hid _ := fin_no hl (by rw [HCL.out, cont_eq, HC2.out, cl_mbad (by rw [HUG.out]; exact HRU.out) (fun _ => hc)])
                                clear hc
                                go_wp2_with fail
                                go_ret2
                                obtain ⟨f1, f2⟩ := HF.out
                                rw [f1, f2]
                                exact ⟨_, rfl, World.ownsRow_nil _ _ _ _, TL.out.below⟩
                            · have z1 : (l.length : Int) ≤ (z : Int) := by omega
                              have HF : Hid _ := fin_no hl (by rw [HCL.out, cont_eq, HC2.out, cl_mbad (by rw [HUG.out]; exact HRU.out) (fun q => absurd q hzl)])
                              go_wp2_with fail
                              go_ret2
                              obtain ⟨f1, f2⟩ := HF.out
                              rw [f1, f2]
                              exact ⟨_, rfl, World.ownsRow_nil _ _ _ _, TL.out.below⟩
                          · have rn : (ru != -1) = true := by simp [hrm]
                            by_cases hzl : z < l.length
                            · have z1 : (z : Int) < (l.length : Int) := by omega
                              by_cases hc : l.getD z 0 = 41
                              · have cc : (⟨l.toArray⟩ : ByteArray)[z].toNat = 41 := by_eq hzl (c := 41) hc
                                have HN2 : Hid _ := HC2.out.trans (cl_up (by rw [HUG.out, HRU.out]; exact hrm) hzl hc)
                                clear hc hrm
                                go_wp2_with fail
                                refine ⟨⟨j, z + 1, by omega, by omega, by have := HZ0.out; omega, by go_num, T9.out, HN2.out⟩, ?_⟩
                                simp [slLen]
                              · have cc : (((⟨l.toArray⟩ : ByteArray)[z].toNat : Int) != 41) = true := by_bne hzl (c := 41) hc
                                have HF : Hid _ := fin_no hl (by rw [HCL.out, cont_eq, HC2.out, cl_ubad (by rw [HUG.out, HRU.out]; exact hrm) (fun _ => hc)])
                                clear hc hrm
                                go_wp2_with fail
                                go_ret2
                                obtain ⟨f1, f2⟩ := HF.out
                                rw [f1, f2]
                                exact ⟨_, rfl, World.ownsRow_nil _ _ _ _, TL.out.below⟩
                            · have z1 : (l.length : Int) ≤ (z : Int) := by omega
                              have HF : Hid _ := fin_no hl (by rw [HCL.out, cont_eq, HC2.out, cl_ubad (by rw [HUG.out, HRU.out]; exact hrm) (fun q => absurd q hzl)])
                              clear hrm
                              go_wp2_with fail
                              go_ret2
                              obtain ⟨f1, f2⟩ := HF.out
                              rw [f1, f2]
                              exact ⟨_, rfl, World.ownsRow_nil _ _ _ _, TL.out.below⟩
                    · have c4 : (((⟨l.toArray⟩ : ByteArray)[r].toNat : Int) != 41) = true := by_bne hrl (c := 41) h41
                      have HF : Hid _ := fin_no hl (HT.out.trans (tp_none (nr_vbad HOP.out hq HI.out h61 HR1.out (fun _ => h41))))
                      clear h32 h61 h41
                      go_wp2_with (first | (go_at_call 18; refine (rnumber_at l _ (q + 1) (by omega) (by omega) hl _).mono ?_; rintro e w1 ⟨rfl, rfl⟩; rw [HWq.out]))
                      go_ret2
                      obtain ⟨f1, f2⟩ := HF.out
                      rw [f1, f2]
                      exact ⟨_, rfl, World.ownsRow_nil _ _ _ _, T7.out.below⟩
                  · have r1 : (l.length : Int) ≤ (r : Int) := by omega
                    have HF : Hid _ := fin_no hl (HT.out.trans (tp_none (nr_vbad HOP.out hq HI.out h61 HR1.out (fun z => absurd z hrl))))
                    clear h32 h61
                    go_wp2_with (first | (go_at_call 18; refine (rnumber_at l _ (q + 1) (by omega) (by omega) hl _).mono ?_; rintro e w1 ⟨rfl, rfl⟩; rw [HWq.out]))
                    go_ret2
                    obtain ⟨f1, f2⟩ := HF.out
                    rw [f1, f2]
                    exact ⟨_, rfl, World.ownsRow_nil _ _ _ _, T7.out.below⟩
              · have c61 : (((⟨l.toArray⟩ : ByteArray)[q].toNat : Int) != 61) = true := by_bne hq (c := 61) h61
                have HF : Hid _ := fin_no hl (HT.out.trans (tp_none (nr_v61 HOP.out HI.out h32 h61)))
                clear h32 h61
                go_wp2_with fail
                go_ret2
                obtain ⟨f1, f2⟩ := HF.out
                rw [f1, f2]
                exact ⟨_, rfl, World.ownsRow_nil _ _ _ _, RC.out.below⟩
            · rw [hi] at hbx2
              have HI : Hid (d.inf = 1) := hi
              clear hi
              by_cases h41 : l.getD q 0 = 41
              · have cc : (⟨l.toArray⟩ : ByteArray)[q].toNat = 41 := by_eq hq (c := 41) h41
                clear c32
                have HCL : Hid (treeP (l.length + 1) l [] [] = contP k (l.drop (q + 1)) N1 O) := by
                  show _ = _
                  rw [HN1.out]
                  exact HT.out.trans (tp_lf (nr_i41 HOP.out hq HI.out h41))
                clear h32 h41
                go_wp2_with fail
                go_loopw [5, 8] (fun vo vk wr => ∃ j z : Nat, j ≤ O.length ∧ z ≤ l.length ∧ q + 1 ≤ z ∧ vk = .int .i64 z ∧ Rr w wr (.slice (some ⟨g, 0, none⟩) (N.length + 1) cp) vo N1 (O.take j) ∧ closeP O.length (l.drop (q + 1)) N1 O = closeP j (l.drop z) N1 (O.take j)) (fun vo _ _ => slLen vo)
                case atStart => exact ⟨O.length, q + 1, Nat.le_refl _, by omega, Nat.le_refl _, by go_num, by rw [List.take_length]; exact RC.out, by rw [List.take_length]⟩
                case round =>
                  obtain ⟨j, z, hj, hz, hz0, rfl, hR2, hcl⟩ := hrel
                  have TL : Hid (Rr _ _ _ _ _ _) := hR2
                  have HC2 : Hid (closeP O.length (l.drop (q + 1)) N1 O = closeP j (l.drop z) N1 (O.take j)) := hcl
                  have hs3 := hR2.size
                  have z0' : (0 : Int) ≤ (z : Int) := Int.natCast_nonneg _
                  have HJ : Hid (j ≤ O.length) := hj
                  have HZ0 : Hid (q + 1 ≤ z) := hz0
                  clear hR2 hcl hj hz0
                  cases j with
                  | zero =>
                    have HT2 : Hid (treeP (l.length + 1) l [] [] = some (l.drop z, N1)) := by
                      show _ = _
                      rw [HCL.out, cont_eq, HC2.out]
                      rfl
                    rcases Go.Joins.ownsRow_forms TL.out.opn with ⟨rfl, -⟩ | ⟨ga, ca, rfl⟩
                    all_goals
                      try simp only [List.take_zero, List.length_nil]
                      by_cases hzl : z < l.length
                      · have HF : Hid _ := fin_more hl HT2.out hzl
                        have zn : ((z : Int) != (l.length : Int)) = true := by simp; omega
                        clear hzl
                        go_wp2_with fail
                        go_ret2
                        obtain ⟨f1, f2⟩ := HF.out
                        rw [f1, f2]
                        exact ⟨_, rfl, World.ownsRow_nil _ _ _ _, TL.out.below⟩
                      · obtain rfl : z = l.length := by omega
                        by_cases hnb : 100000 < N1.length
                        · have HF : Hid _ := fin_big hl HT2.out hnb
                          have nb : (100000 : Int) < (N.length : Int) + 1 := by have := HNL_N1.out; omega
                          clear hnb
                          go_wp2_with fail
                          go_ret2
                          obtain ⟨f1, f2⟩ := HF.out
                          rw [f1, f2]
                          exact ⟨_, rfl, World.ownsRow_nil _ _ _ _, TL.out.below⟩
                        · have HF : Hid _ := fin_ok hl HT2.out (by omega)
                          have hrb := read_back HF.out.1
                          rw [HF.out.2] at hrb
                          have MN : Hid (NodesAt _ _ _ _ _) := (TL.out.mat HNL_N1.out.symm).nodes
                          have PC : Hid (∀ W, NodesAt W (some ⟨g, 0, none⟩) g 0 N1 → Calls Tryd.prog 19 #[.slice (some ⟨g, 0, none⟩) (N.length + 1) cp, .int .i64 0] W fun e w' => ∃ v, e = .returned v ∧ w'.ownsRow W.heap.size 33 6 v N1.length (ndCells N1) ∧ Below W.heap.size W w') := fun W hW => by
                            have h := rPart_at (some ⟨g, 0, none⟩) g 0 cp N1 0 _ (N.length + 1) W HNL_N1.out.symm hW hrb.2.2.2.1 (by rw [List.length_range']; omega) (by omega)
                            rw [hrb.2.2.2.2.1, List.length_range'] at h
                            exact h
                          obtain ⟨n1, hn1⟩ : ∃ n1, N.length + 1 = n1 := ⟨_, rfl⟩
                          have nb : (n1 : Int) ≤ 100000 := by have := HNL_N1.out; omega
                          rw [hn1] at PC ⊢
                          clear hnb hrb hn1
                          go_wp2_with (first | (go_at_call 19; refine (PC.out _ MN.out).mono ?_; rintro e y9 ⟨v9, rfl, ho9, hb9⟩; have O9 : Hid (World.ownsRow _ _ _ _ _ _ _) := ho9; have B9 : Hid (Below _ _ _) := TL.out.below.trans (hb9.mono TL.out.below.size); clear ho9 hb9))
                          go_ret2
                          rw [HF.out.1, HF.out.2]
                          have h9 := O9.out
                          exact ⟨_, rfl, owns_down h9 TL.out.size, B9.out⟩
                  | succ j =>
                    have hjO : j < O.length := by have := HJ.out; omega
                    have hO1 : O.length ≤ 8000000 := by have := HOL.out; omega
                    have hj8 : j + 1 ≤ 8000000 := by omega
                    have htl : (O.take (j + 1)).length = j + 1 := by simp; omega
                    obtain ⟨gq, cq, rfl, -, -, hcap, hcm, -, -⟩ := owns_some TL.out.opn (by rw [htl]; omega)
                    have top : _ := TL.out.opn.cellAt j (by rw [htl]; omega)
                    rw [htl] at TL hcap ⊢
                    unfold maxLen at hcm
                    have hi1 : ((j + 1 : Nat) : Int) - 1 = (j : Int) := by omega
                    have hu : O.getD j 0 < N1.length := by rw [HNL_N1.out]; exact Nat.lt_succ_of_lt (getD_memO HO.out hjO)
                    have htop : wr.cell? ⟨gq, j, none⟩ = some (.int .i64 ((O.getD j 0 : Nat) : Int)) := by
                      rw [top]
                      simp only [natC]
                      rw [List.getElem?_map, List.getElem?_take_of_lt (by omega), List.getD_eq_getElem?_getD, List.getElem?_eq_getElem hjO]
                      rfl
                    obtain ⟨-, ⟨hrc, -⟩⟩ := (TL.out.mat HNL_N1.out.symm).cells (O.getD j 0) hu
                    have HRr : Hid ((ndAt N1 (O.getD j 0)).r = (ndAt N1 (O.getD j 0)).r) := rfl
                    have T9 : Hid (Rr w wr (.slice (some ⟨g, 0, none⟩) (N.length + 1) cp) (.slice (some ⟨gq, 0, none⟩) j cq) N1 (O.take j)) := TL.out.pop hjO
                    generalize hru : (ndAt N1 (O.getD j 0)).r = ru at *
                    have HRU : Hid _ := hru
                    have hu0 : ((O.getD j 0 : Nat) : Int) < (N.length : Int) + 1 := by have := HNL_N1.out; omega
                    have hu1 : (0 : Int) ≤ ((O.getD j 0 : Nat) : Int) := Int.natCast_nonneg _
                    have HUU : Hid (O.getD j 0 < N1.length) := hu
                    clear top hru HRr hu htl
                    generalize hug : O.getD j 0 = u at *
                    have HUG : Hid _ := hug
                    clear hug
                    by_cases hrm : ru = -1
                    · subst hrm
                      by_cases hzl : z < l.length
                      · have z1 : (z : Int) < (l.length : Int) := by omega
                        by_cases hc : l.getD z 0 = 32
                        · have cc : (⟨l.toArray⟩ : ByteArray)[z].toNat = 32 := by_eq hzl (c := 32) hc
                          have HN2 : Hid (treeP (l.length + 1) l [] [] = treeP k (l.drop (z + 1)) N1 (O.take (j + 1))) := by
                            show _ = _
                            rw [HCL.out, cont_eq, HC2.out, cl_more (by rw [HUG.out]; exact HRU.out) hzl hc]
                          clear hc
                          go_wp2_with fail
                          refine ⟨⟨N1, O.take (j + 1), z + 1, k, by omega, by go_num, TL.out, take_mem (fun u hu => by rw [HNL_N1.out]; exact Nat.lt_succ_of_lt (HO.out u hu)), by have := HZ0.out; have := HNL_N1.out; omega, by have := HNL_N1.out; have := HOL.out; simp; omega, by have := HK.out; have := HZ0.out; omega, HN2.out⟩, ?_⟩
                          have := HZ0.out
                          simp [intOf]; omega
                        · have cc : (((⟨l.toArray⟩ : ByteArray)[z].toNat : Int) != 32) = true := by_bne hzl (c := 32) hc
                          have HF : Hid _ := fin_no hl (by rw [HCL.out, cont_eq, HC2.out, cl_mbad (by rw [HUG.out]; exact HRU.out) (fun _ => hc)])
                          clear hc
                          go_wp2_with fail
                          go_ret2
                          obtain ⟨f1, f2⟩ := HF.out
                          rw [f1, f2]
                          exact ⟨_, rfl, World.ownsRow_nil _ _ _ _, TL.out.below⟩
                      · have z1 : (l.length : Int) ≤ (z : Int) := by omega
                        have HF : Hid _ := fin_no hl (by rw [HCL.out, cont_eq, HC2.out, cl_mbad (by rw [HUG.out]; exact HRU.out) (fun q => absurd q hzl)])
                        go_wp2_with fail
                        go_ret2
                        obtain ⟨f1, f2⟩ := HF.out
                        rw [f1, f2]
                        exact ⟨_, rfl, World.ownsRow_nil _ _ _ _, TL.out.below⟩
                    · have rn : (ru != -1) = true := by simp [hrm]
                      by_cases hzl : z < l.length
                      · have z1 : (z : Int) < (l.length : Int) := by omega
                        by_cases hc : l.getD z 0 = 41
                        · have cc : (⟨l.toArray⟩ : ByteArray)[z].toNat = 41 := by_eq hzl (c := 41) hc
                          have HN2 : Hid _ := HC2.out.trans (cl_up (by rw [HUG.out, HRU.out]; exact hrm) hzl hc)
                          clear hc hrm
                          go_wp2_with fail
                          refine ⟨⟨j, z + 1, by omega, by omega, by have := HZ0.out; omega, by go_num, T9.out, HN2.out⟩, ?_⟩
                          simp [slLen]
                        · have cc : (((⟨l.toArray⟩ : ByteArray)[z].toNat : Int) != 41) = true := by_bne hzl (c := 41) hc
                          have HF : Hid _ := fin_no hl (by rw [HCL.out, cont_eq, HC2.out, cl_ubad (by rw [HUG.out, HRU.out]; exact hrm) (fun _ => hc)])
                          clear hc hrm
                          go_wp2_with fail
                          go_ret2
                          obtain ⟨f1, f2⟩ := HF.out
                          rw [f1, f2]
                          exact ⟨_, rfl, World.ownsRow_nil _ _ _ _, TL.out.below⟩
                      · have z1 : (l.length : Int) ≤ (z : Int) := by omega
                        have HF : Hid _ := fin_no hl (by rw [HCL.out, cont_eq, HC2.out, cl_ubad (by rw [HUG.out, HRU.out]; exact hrm) (fun q => absurd q hzl)])
                        clear hrm
                        go_wp2_with fail
                        go_ret2
                        obtain ⟨f1, f2⟩ := HF.out
                        rw [f1, f2]
                        exact ⟨_, rfl, World.ownsRow_nil _ _ _ _, TL.out.below⟩
              · have c41 : (((⟨l.toArray⟩ : ByteArray)[q].toNat : Int) != 41) = true := by_bne hq (c := 41) h41
                have HF : Hid _ := fin_no hl (HT.out.trans (tp_none (nr_ibad HOP.out HI.out h32 h41)))
                clear h32 h41
                go_wp2_with fail
                go_ret2
                obtain ⟨f1, f2⟩ := HF.out
                rw [f1, f2]
                exact ⟨_, rfl, World.ownsRow_nil _ _ _ _, RC.out.below⟩
      · have q1 : (l.length : Int) ≤ (q : Int) := by omega
        have HF : Hid _ := fin_no hl (HT.out.trans (tp_none (nr_end HOP.out (by omega))))
        go_wp2_with (first | (go_at_call 17; refine (ro_some l p q d hp hl hql HOP.out _).mono ?_; rintro e y0 ⟨rfl, hb⟩; have T1 : Hid (Rr _ y0 _ _ _ _) := T0.out.quiet hb; clear hb))
        go_ret2
        obtain ⟨f1, f2⟩ := HF.out
        rw [f1, f2]
        exact ⟨_, rfl, World.ownsRow_nil _ _ _ _, T1.out.below.alloc T1.out.size _⟩
end Go.Proofs.YtegajbfefhljmaaDoor

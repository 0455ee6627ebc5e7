
/- Layer 5: slices.Sort on an own row of numbers; the program's eventsAt. -/

import Derived.Test.YtgbfippcnmpgfaaEKept

import Derived.Test.YtgbfippcnmpgfaaEDel

import Derived.Test.YtgbfippcnmpgfaaEShelf

import Derived.Sort.OwnSortedInts

namespace Go.Proofs.Ytgbfippcnmpgfaa

open Go.RowKit

attribute [local go_sem ↓] Go.wp_at_zero Go.wp_at_succ

def srt (zs : List Int) : List Int := zs.mergeSort fun x y => decide (x ≤ y)
theorem srt_length (zs : List Int) : (srt zs).length = zs.length := List.length_mergeSort _
theorem sort_any (B : Nat) (v : Value) (zs : List Int) (w : World) (h : w.ownsRow B 3 1 v zs.length (zs.map (Value.int .i64))) (hsz : zs.length < 4611686018427387904) :
    Calls Try.prog 41 #[v] w fun e w' => e = .returned (.tuple #[]) ∧ w'.ownsRow B 3 1 v zs.length ((srt zs).map (Value.int .i64)) ∧ w.grownBy w' v.ownBlock := by
  by_cases hn : zs.length = 0
  · obtain rfl : zs = [] := List.length_eq_zero_iff.1 hn
    obtain ⟨a, c, rfl⟩ := owns_form h
    refine (slices_Sort_int_none a c w).mono ?_
    rintro e w' ⟨rfl, rfl⟩
    exact ⟨rfl, by simpa [srt] using h, grown_refl _ _⟩
  · obtain ⟨_, h'⟩ := h
    rcases h' with ⟨_, h0⟩ | ⟨g, cap, cur, rfl, hg, hh, h1, h2, h3, h4⟩
    · exact absurd h0 hn
    · refine (slices_Sort_int g 0 cap zs w (holds_of_blockI hh (by simpa using h4)) (Array.getElem?_eq_some_iff.1 hh).1 hsz).mono ?_
      rintro e w' ⟨rfl, n, os, rfl⟩
      exact ⟨rfl, ownsRow_sortedI (srt_length zs) hg hh h1 h2 h3, grownBy_sortedI _⟩

theorem ints_under' : Try.prog.underlying 79 = some (.slice 3) := by kernel_rfl
theorem take_spAt {ks : List Sp} {j : Nat} (h : j < ks.length) : ks.take (j + 1) = ks.take j ++ [spAt ks j] := take_snoc_sp h rfl
theorem evs_snocF {m : List (EvD × Value)} {F : Nat → Value} {j : Nat} {e : EvD} {v0 v : Value} {u6 u7 u8 : Value} (h : ∀ k y, m[k]? = some y → ∀ i, i < 10 → some (F (k * 10 + i)) = (evC y.1 y.2)[i]?) (hl : m.length = j) (h6 : u6 = .bool e.rt.ok) (h7 : u7 = .int .i64 e.rt.key) (h8 : u8 = .int .i64 e.rt.val) :
    ∀ k y, (m ++ [(e, v)])[k]? = some y → ∀ i, i < 10 → some (putV (putV (putV (putV (putMany F (j * 10) (evC e v0)) (j * 10 + 6) u6) (j * 10 + 7) u7) (j * 10 + 8) u8) (j * 10 + 9) v (k * 10 + i)) = (evC y.1 y.2)[i]? := by
  subst h6 h7 h8
  intro k y hy i hi
  by_cases ek : k = j
  · subst ek
    rw [List.getElem?_append_right (by omega), hl, Nat.sub_self] at hy
    simp only [List.getElem?_cons_zero, Option.some.injEq] at hy
    subst hy
    have hin := putMany_in (evC e v0) (b := k * 10) (i := i) (F := F) (by simpa [evC] using hi)
    by_cases e9 : i = 9
    · subst e9; rw [putV_same]; rfl
    · by_cases e8 : i = 8
      · subst e8; rw [putV_other _ _ _ _ (by omega), putV_same]; rfl
      · by_cases e7 : i = 7
        · subst e7; rw [putV_other _ _ _ _ (by omega), putV_other _ _ _ _ (by omega), putV_same]; rfl
        · by_cases e6 : i = 6
          · subst e6; rw [putV_other _ _ _ _ (by omega), putV_other _ _ _ _ (by omega), putV_other _ _ _ _ (by omega), putV_same]; rfl
          · rw [putV_other _ _ _ _ (by omega), putV_other _ _ _ _ (by omega), putV_other _ _ _ _ (by omega), putV_other _ _ _ _ (by omega), hin]
            match i, hi, e6, e7, e8, e9 with
            | 0, _, _, _, _, _ => rfl
            | 1, _, _, _, _, _ => rfl
            | 2, _, _, _, _, _ => rfl
            | 3, _, _, _, _, _ => rfl
            | 4, _, _, _, _, _ => rfl
            | 5, _, _, _, _, _ => rfl
            | 6, _, q, _, _, _ => exact absurd rfl q
            | 7, _, _, q, _, _ => exact absurd rfl q
            | 8, _, _, _, q, _ => exact absurd rfl q
            | 9, _, _, _, _, q => exact absurd rfl q
            | n + 10, q, _, _, _, _ => exact absurd q (by omega)
  · have hk : k < m.length := by
      have := (List.getElem?_eq_some_iff.1 hy).1
      simp at this
      omega
    rw [List.getElem?_append_left hk] at hy
    rw [putV_other _ _ _ _ (by omega), putV_other _ _ _ _ (by omega), putV_other _ _ _ _ (by omega), putV_other _ _ _ _ (by omega), putMany_out _ (by simp [evC]; omega)]
    exact h k y hy i hi
theorem setMany_pairs {g : Nat} {a : Option Addr} {q o : Nat} {ps : PL} (hg : ps.length ≠ 0 → q ≠ g) : ∀ (vs : List Value) {W : World} {b : Nat}, PairsAt W a q o ps → PairsAt (setMany g W b vs) a q o ps
  | [], _, _, h => h
  | _ :: t, _, _, h => setMany_pairs hg t (pairs_set_any h hg)

set_option maxRecDepth 100000 in
set_option maxHeartbeats 2000000 in
theorem eventsAt_any (base : Option Addr) (b o c : Nat) (hs : List EvD) (pb : Nat → Option Addr) (pc pg po : Nat → Nat) (w : World) (h : EvsAt w base b o hs pb pc pg po) (a1 : Option Addr) (g1 c1 : Nat) (ks : List Sp) (hk : SpsAt w a1 g1 ks) (hkl : ks.length ≤ 100000) (hin : ∀ x ∈ placesL ks, 0 ≤ x ∧ x < hs.length) :
    Calls Try.prog 25 #[.slice base hs.length c, .slice a1 ks.length c1] w fun e w' => ∃ v, e = .returned v ∧ Below w.heap.size w w' ∧ EvsNew w' w.heap.size w.heap.size v ((srt (placesL ks)).map fun i => evAt hs i.toNat) := by
  have HA : Hid _ := h
  have HK : Hid _ := hk
  have HIN : Hid (∀ x ∈ srt (placesL ks), 0 ≤ x ∧ x < hs.length) := fun x hx => hin x ((List.mem_mergeSort).1 hx)
  have hlx := h.len
  unfold maxLen at hlx
  clear h hk hin
  obtain ⟨i0, hi0, hz0, hz1, hz2⟩ := info_parts int_info
  go_enter Try.func25, Try.ntmps25
  go_wp2_with fail
  go_loopw [5, 13] (fun v i wr => ∃ j : Nat, j ≤ ks.length ∧ i = .int .i64 j ∧ Below w.heap.size w wr ∧ wr.ownsRow w.heap.size 3 1 v (placesL (ks.take j)).length ((placesL (ks.take j)).map (Value.int .i64))) (fun _ i _ => ks.length - (intOf i).toNat)
  case atStart => exact ⟨0, Nat.zero_le _, rfl, Below.refl _ _, World.ownsRow_nil _ _ _ _⟩
  case round =>
    obtain ⟨j, hj, rfl, hbw, hown⟩ := hrel
    have HW : Hid _ := hbw
    have HO : Hid (World.ownsRow _ _ _ _ _ _ _) := hown
    by_cases hlt : j < ks.length
    · obtain rfl : a1 = some ⟨g1, 0, none⟩ := HK.out.base (by omega)
      obtain ⟨k0, k1⟩ := (HK.out.below hbw).cells j hlt
      have j0 : (0 : Int) ≤ (j : Int) := Int.natCast_nonneg _
      have j1 : (j : Int) < (ks.length : Int) := by omega
      have HOL : Hid _ := owns_lt hown
      have hpl := placesL_le (ks.take j)
      have hpl2 : (placesL (ks.take j)).length ≤ 200000 := by simp at hpl; omega
      have HT : Hid (placesL (ks.take (j + 1)) = placesL (ks.take j) ++ placesL [spAt ks j]) := by show _ = _; rw [take_spAt hlt, placesL_append]
      generalize placesL (ks.take j) = pl at *
      generalize spAt ks j = p at *
      obtain ⟨p1, p2⟩ := p
      simp only at k0 k1
      have zw := hbw.size
      clear hbw hown hpl
      by_cases hp : p2 = -1
      · have hd : decide (p2 ≠ -1) = false := by simp [hp]
        have HN : Hid (placesL (ks.take (j + 1)) = pl ++ [(p1 : Int)]) := by show _ = _; rw [HT.out]; simp [placesL, hp]
        clear hp
        go_wp2_with (first | (at_builtin; (refine wpList_append_lies _ (by rfl) _ _ _ (by rfl) w.heap.size 3 i0 _ 1 8 ints_under hi0 hz0 hz1 hz2 rfl (by omega) _ pl.length _ (by rfl) ((HO.out.alloc _).alloc _) ⟨wr.heap.size + 1, 0, none⟩ 1 1 [.int .i64 p1] (by rfl) (by rfl) (World.news_of_block (cs := #[.int .i64 p1]) (t := 3) (fr := (0, 0)) (heap_alloc_at _ _ _ (by simp))) (by simp [Value.oneCell']) (by omega) (by unfold maxLen; omega) (by omega) (by simp; omega) (wr.heap.size + 2) (by simp) ?_); intro gg cp w3 hown3 hgrow hat hlt3; have x0 : w3.cell? ⟨wr.heap.size, 0, none⟩ = some (.int .i64 p1) := far_cell (w1 := wr.alloc _) (p := ⟨wr.heap.size, 0, none⟩) hgrow (by simp) (fun b q => ne_of_gt' (HOL.out b q).2) (cell_new wr _ _ 0); have x1 : w3.cell? ⟨wr.heap.size, 1, none⟩ = some (.int .i64 p2) := far_cell (w1 := wr.alloc _) (p := ⟨wr.heap.size, 1, none⟩) hgrow (by simp) (fun b q => ne_of_gt' (HOL.out b q).2) (cell_new wr _ _ 1); have B3 : Hid (Below w.heap.size w w3) := Below.grown (((HW.out.alloc HW.out.size _).alloc (by simp; omega) _)) hgrow (by simp; omega) (fun k hk => (HOL.out k hk).1); have O3 : Hid (World.ownsRow _ _ _ _ _ _ _) := hown3; clear hown3 hgrow hat hlt3))
        refine (returned_any _ _ _).mono ?_
        rintro e w4 ⟨rfl, hb4⟩
        rw [hd]
        have B4 : Hid (Below w.heap.size w w4) := B3.out.trans (hb4.mono B3.out.size)
        have O4 : Hid (World.ownsRow _ _ _ _ _ _ _) := owns_below O3.out hb4
        clear hb4 x0 x1
        go_wp2_with fail
        refine ⟨⟨j + 1, by omega, by go_num, B4.out, ?_⟩, by simp [intOf]; omega⟩
        rw [HN.out, List.length_append, List.map_append]
        exact O4.out
      · have hd : decide (p2 ≠ -1) = true := by simp [hp]
        have HN : Hid (placesL (ks.take (j + 1)) = pl ++ [(p1 : Int)] ++ [p2]) := by show _ = _; rw [HT.out]; simp [placesL, hp]
        clear hp
        go_upto_region 6 with (first | (at_builtin; (refine wpList_append_lies _ (by rfl) _ _ _ (by rfl) w.heap.size 3 i0 _ 1 8 ints_under hi0 hz0 hz1 hz2 rfl (by omega) _ pl.length _ (by rfl) ((HO.out.alloc _).alloc _) ⟨wr.heap.size + 1, 0, none⟩ 1 1 [.int .i64 p1] (by rfl) (by rfl) (World.news_of_block (cs := #[.int .i64 p1]) (t := 3) (fr := (0, 0)) (heap_alloc_at _ _ _ (by simp))) (by simp [Value.oneCell']) (by omega) (by unfold maxLen; omega) (by omega) (by simp; omega) (wr.heap.size + 2) (by simp) ?_); intro gg cp w3 hown3 hgrow hat hlt3; have x0 : w3.cell? ⟨wr.heap.size, 0, none⟩ = some (.int .i64 p1) := far_cell (w1 := wr.alloc _) (p := ⟨wr.heap.size, 0, none⟩) hgrow (by simp) (fun b q => ne_of_gt' (HOL.out b q).2) (cell_new wr _ _ 0); have x1 : w3.cell? ⟨wr.heap.size, 1, none⟩ = some (.int .i64 p2) := far_cell (w1 := wr.alloc _) (p := ⟨wr.heap.size, 1, none⟩) hgrow (by simp) (fun b q => ne_of_gt' (HOL.out b q).2) (cell_new wr _ _ 1); have B3 : Hid (Below w.heap.size w w3) := Below.grown (((HW.out.alloc HW.out.size _).alloc (by simp; omega) _)) hgrow (by simp; omega) (fun k hk => (HOL.out k hk).1); have O3 : Hid (World.ownsRow _ _ _ _ _ _ _) := hown3; have z3 : wr.heap.size + 2 ≤ w3.heap.size := (by have := hgrow.size; simp at this; omega); clear hown3 hgrow hat hlt3))
        go_wp2_with fail
        refine (returned_any _ _ _).mono ?_
        rintro e w4 ⟨rfl, hb4⟩
        rw [hd]
        have B4 : Hid (Below w.heap.size w w4) := B3.out.trans (hb4.mono B3.out.size)
        have O4 : Hid (World.ownsRow _ _ _ _ _ _ _) := owns_below O3.out hb4
        have OL4 : Hid _ := owns_lt O4.out
        have y1 : w4.cell? ⟨wr.heap.size, 1, none⟩ = some (.int .i64 p2) := (hb4.cell (p := ⟨wr.heap.size, 1, none⟩) (by simp; omega)).trans x1
        have z4 := hb4.size
        have z5 := B4.out.size
        clear hb4 x0 x1
        go_wp2_with (first | (at_builtin; (refine wpList_append_lies _ (by rfl) _ _ _ (by rfl) w.heap.size 3 i0 _ 1 8 ints_under hi0 hz0 hz1 hz2 rfl (by omega) _ (pl.length + 1) _ (by rfl) (O4.out.alloc _) ⟨w4.heap.size, 0, none⟩ 1 1 [.int .i64 p2] (by rfl) (by rfl) (World.news_of_block (cs := #[.int .i64 p2]) (t := 3) (fr := (0, 0)) (heap_alloc_at _ _ _ (by simp))) (by simp [Value.oneCell']) (by omega) (by unfold maxLen; omega) (by omega) (by simp; omega) (w4.heap.size + 1) (by simp) ?_); intro gh ch w5 hown5 hgrow5 hat5 hlt5; have B5 : Hid (Below w.heap.size w w5) := Below.grown (B4.out.alloc B4.out.size _) hgrow5 (by simp; omega) (fun k hk => (OL4.out k hk).1); have O5 : Hid (World.ownsRow _ _ _ _ _ _ _) := hown5; clear hown5 hgrow5 hat5 hlt5))
        refine ⟨⟨j + 1, by omega, by go_num, B5.out, ?_⟩, by simp [intOf]; omega⟩
        rw [HN.out, List.length_append, List.length_append, List.map_append, List.map_append]
        exact O5.out
    · obtain rfl : j = ks.length := by omega
      rw [List.take_length] at hown HO
      have hpl := placesL_le ks
      have zw := hbw.size
      obtain ⟨pa, pcap, rfl⟩ := owns_form hown
      have HOL : Hid _ := owns_lt hown
      clear hbw hown
      go_wp2_with fail
      refine (sort_any w.heap.size _ (placesL ks) _ HO.out (by omega)).mono ?_
      rintro e w2 ⟨rfl, hown2, hgrow2⟩
      have B2 : Hid (Below w.heap.size w w2) := Below.grown HW.out hgrow2 zw (fun k hk => (HOL.out k hk).1)
      have O2 : Hid (World.ownsRow _ _ _ _ _ _ _) := hown2
      have hil : Hid ((srt (placesL ks)).length = (placesL ks).length) := srt_length _
      generalize hgil : srt (placesL ks) = il at *
      have HGIL : Hid _ := hgil
      clear hgil
      generalize hn : (placesL ks).length = n at *
      have HPA : Hid (n ≠ 0 → ∃ g, pa = some ⟨g, 0, none⟩ ∧ g < w2.heap.size ∧ ∀ j, j < n → w2.cell? ⟨g, j, none⟩ = some (.int .i64 (il.getD j 0))) := by
        intro q
        obtain ⟨g, cap, e, h1, h2, h3, h4, h5, h6⟩ := owns_some O2.out (by omega)
        cases e
        refine ⟨g, rfl, h2, fun j hj => ?_⟩
        rw [h5 j (by omega), List.getElem?_map, List.getElem?_eq_getElem (by rw [hil.out]; exact hj), List.getD_eq_getElem?_getD, List.getElem?_eq_getElem (by rw [hil.out]; exact hj)]
        rfl
      have hn5 : n ≤ 200000 := by omega
      have z2 := B2.out.size
      clear hown2 hgrow2 HO HW hn hpl HOL zw
      have hm1 : ∀ w : World, (Instr.makeSlice 22 (.int .i64 n) (.int .i64 n)).run Try.prog w = .ok (.slice (some ⟨w.heap.size, 0, none⟩) n n) (w.alloc (.cells (madeCells #[.int .i64 0, .bool false, .int .i64 0, .int .i64 0, .int .i64 0, .int .i64 0, .bool false, .int .i64 0, .int .i64 0, .slice none 0 0] (n * 10)) 55)) := fun w => run_make_known (P := Try.prog) 22 55 (.agg #[.int .i64 0, .bool false, .int .i64 0, .int .i64 0, .int .i64 0, .int .i64 0, .bool false, .int .i64 0, .int .i64 0, .slice none 0 0]) 10 96 evs_under ev_info n (by omega) (by omega) w
      go_wp2_with fail
      go_loopw [37] (fun i wr => ∃ (j : Nat) (m : List (EvD × Value)) (F : Nat → Value), j ≤ n ∧ i = .int .i64 j ∧ Below w2.heap.size w2 wr ∧ w2.heap.size < wr.heap.size ∧ m.map (·.1) = (il.take j).map (fun i => evAt hs i.toNat) ∧ Vals wr w2.heap.size (n * 10) F ∧ (∀ k x, m[k]? = some x → ∀ i, i < 10 → some (F (k * 10 + i)) = (evC x.1 x.2)[i]?) ∧ ERets wr w.heap.size (some w2.heap.size) m) (fun i _ => n - (intOf i).toNat)
      case atStart =>
        refine ⟨0, [], _, Nat.zero_le _, rfl, below_alloc _ _, by simp, rfl, Vals.anyMade w2 _ _ _ (size_madeCells _ _), fun k x hx => by simp at hx, fun x hx => by cases hx⟩
      case round =>
        obtain ⟨j, m, F, hj, rfl, hbw, hsz, hmap, hV, hF, hR⟩ := hrel
        have HW : Hid _ := hbw
        have HV : Hid (Vals _ _ _ _) := hV
        have HF : Hid _ := hF
        have HR : Hid (ERets _ _ _ _) := hR
        have HMp : Hid _ := hmap
        have hml : Hid (m.length = j) := by show m.length = j; have := congrArg List.length hmap; have e := hil.out; simp at this; omega
        by_cases hlt : j < n
        · obtain ⟨gp, rfl, hgp, hpc⟩ := HPA.out (by omega)
          have hjl : j < il.length := by rw [hil.out]; exact hlt
          have x0 := (hbw.cell (p := ⟨gp, j, none⟩) hgp).trans (hpc j hlt)
          obtain ⟨t, ht⟩ : ∃ t : Nat, il.getD j 0 = t ∧ t < hs.length := by
            have hm : il.getD j 0 ∈ il := by rw [List.getD_eq_getElem?_getD, List.getElem?_eq_getElem hjl]; exact List.getElem_mem _
            have := HIN.out _ hm
            exact ⟨(il.getD j 0).toNat, by omega, by omega⟩
          obtain ⟨ht, htl⟩ := ht
          rw [ht] at x0
          have HNX : Hid ((il.take (j + 1)).map (fun i => evAt hs i.toNat) = (il.take j).map (fun i => evAt hs i.toNat) ++ [evAt hs t]) := by
            show _ = _
            rw [List.take_succ_eq_append_getElem hjl, List.map_append]
            have e : il[j] = (t : Int) := by rw [← ht, List.getD_eq_getElem?_getD, List.getElem?_eq_getElem hjl]; rfl
            rw [e]; rfl
          obtain rfl : base = some ⟨b, o, none⟩ := HA.out.base (by omega)
          have EV := (HA.out.below B2.out).below hbw
          have zx : b < wr.heap.size := EV.lt (by omega)
          obtain ⟨d0, d1⟩ := EV.c0 t htl
          obtain ⟨d2, d3, d4, d5⟩ := EV.c1 t htl
          obtain ⟨d6, d7, d8, d9⟩ := EV.c2 t htl
          have PX : Hid _ := EV.prs t htl
          have hb0 : b < w.heap.size := HA.out.lt (by omega)
          have hbne : b ≠ w2.heap.size := by omega
          have j0 : (0 : Int) ≤ (j : Int) := Int.natCast_nonneg _
          have j1 : (j : Int) < (n : Int) := by omega
          have t0 : (0 : Int) ≤ (t : Int) := Int.natCast_nonneg _
          have t1 : (t : Int) < (hs.length : Int) := by omega
          have m0 := HV.out (j * 10) (by omega)
          have m1 := HV.out (j * 10 + 1) (by omega)
          have m2 := HV.out (j * 10 + 2) (by omega)
          have m3 := HV.out (j * 10 + 3) (by omega)
          have m4 := HV.out (j * 10 + 4) (by omega)
          have m5 := HV.out (j * 10 + 5) (by omega)
          have m6 := HV.out (j * 10 + 6) (by omega)
          have m7 := HV.out (j * 10 + 7) (by omega)
          have m8 := HV.out (j * 10 + 8) (by omega)
          have m9 := HV.out (j * 10 + 9) (by omega)
          have HD : Hid (∀ W, Below w.heap.size w W → EvsAt W (some ⟨b, o, none⟩) b o hs pb pc pg po) := fun W hW => HA.out.below hW
          clear EV hbw hmap hV hF hR ht hpc
          go_upto_region 15 with fail
          obtain ⟨W3, hW3⟩ : ∃ W3, W3 = setMany w2.heap.size wr (j * 10) (evC (evAt hs t) (.slice (pb t) (evAt hs t).rt.pairs.length (pc t))) := ⟨_, rfl⟩
          have HW3 : Hid _ := hW3
          simp only [setMany, evC, Nat.add_assoc, Nat.reduceAdd] at hW3
          rw [← hW3]
          clear hW3 d0 d1 d2 d3 d4 d5 d6 d7 d8 d9 m0 m1 m2 m3 m4 m5 m6 m7 m8 m9 x0
          have z3 : Hid (W3.heap.size = wr.heap.size) := by show W3.heap.size = _; rw [HW3.out, setMany_size]
          have z3a : wr.heap.size ≤ W3.heap.size := by have := z3.out; omega
          have z3b : W3.heap.size ≤ wr.heap.size := by have := z3.out; omega
          have B3 : Hid (Below w2.heap.size w2 W3) := by show Below w2.heap.size w2 W3; rw [HW3.out]; exact setMany_below (Nat.le_refl _) _ HW.out
          have V3 : Hid (Vals W3 w2.heap.size (n * 10) (putMany F (j * 10) (evC (evAt hs t) (.slice (pb t) (evAt hs t).rt.pairs.length (pc t))))) := by show Vals _ _ _ _; rw [HW3.out]; exact setMany_vals _ HV.out
          have R3 : Hid (ERets W3 w.heap.size (some w2.heap.size) m) := by
            intro x hx
            obtain ⟨a, g, o', cap, e1, q1, q2, q3⟩ := HR.out x hx
            refine ⟨a, g, o', cap, e1, q1, ?_, q3⟩
            rw [HW3.out]
            exact setMany_pairs (fun z e => (q1 z).2 (by rw [e])) _ q2
          have BB3 : Hid (Below w.heap.size w W3) := B2.out.trans (B3.out.mono B2.out.size)
          have EV3 := HD.out W3 BB3.out
          obtain ⟨e6, e7, e8, e9⟩ := EV3.c2 t htl
          have PX3 : Hid _ := EV3.prs t htl
          clear EV3
          go_wp2_with fail
          refine (copyOf_any (pb t) (pg t) (po t) (pc t) (evAt hs t).rt _ PX3.out.1 PX3.out.2.1 PX3.out.2.2).mono ?_
          rintro e w4 ⟨a4, g4, c4, rfl, hg4, hpa4, hb4, hnl4⟩
          have hz4 := hb4.size
          have V4 : Hid (Vals w4 w2.heap.size (n * 10) (putMany F (j * 10) (evC (evAt hs t) (.slice (pb t) (evAt hs t).rt.pairs.length (pc t))))) := V3.out.below (by omega) hb4
          have n6 := V4.out (j * 10 + 6) (by omega)
          have n7 := V4.out (j * 10 + 7) (by omega)
          have n8 := V4.out (j * 10 + 8) (by omega)
          have n9 := V4.out (j * 10 + 9) (by omega)
          have B4 : Hid (Below w2.heap.size w2 w4) := B3.out.trans (hb4.mono B3.out.size)
          have R4 : Hid (ERets w4 w.heap.size (some w2.heap.size) m) := R3.out.below hb4
          have P4 : Hid (ERet w4 w.heap.size (some w2.heap.size) (evAt hs t) (.slice a4 (evAt hs t).rt.pairs.length c4)) := ⟨a4, g4, 0, c4, rfl, fun q => ⟨by have := hg4 q; omega, fun r => by have := hg4 q; cases r; omega⟩, hpa4, fun z => ⟨Classical.byContradiction (fun nn => by have := hpa4.base nn; rw [z] at this; cases this), hnl4 z⟩, PX3.out.2.2⟩
          clear hb4 hpa4 hg4 hnl4 e6 e7 e8 e9
          go_wp2_with fail
          refine ⟨⟨j + 1, m ++ [(evAt hs t, .slice a4 (evAt hs t).rt.pairs.length c4)], _, by omega, by go_num, (((B4.out.setCell (by simp) _).setCell (by simp) _).setCell (by simp) _).setCell (by simp) _, by simp; omega, ?_, (((V4.out.set _ _).set _ _).set _ _).set _ _, evs_snocF HF.out hml.out rfl rfl rfl, ?_⟩, by simp [intOf]; omega⟩
          · rw [List.map_append, HMp.out]; exact HNX.out.symm
          · intro x hx
            have hne : ∀ y : EvD × Value, ERet w4 w.heap.size (some w2.heap.size) y.1 y.2 → ERet ((((w4.setCell ⟨w2.heap.size, j * 10 + 6, none⟩ (.bool (evAt hs t).rt.ok)).setCell ⟨w2.heap.size, j * 10 + 7, none⟩ (.int .i64 (evAt hs t).rt.key)).setCell ⟨w2.heap.size, j * 10 + 8, none⟩ (.int .i64 (evAt hs t).rt.val)).setCell ⟨w2.heap.size, j * 10 + 9, none⟩ (.slice a4 (evAt hs t).rt.pairs.length c4)) w.heap.size (some w2.heap.size) y.1 y.2 := by
              rintro y ⟨a, g, o', cap, q0, q1, q2, q3⟩
              have hg : y.1.rt.pairs.length ≠ 0 → g ≠ w2.heap.size := fun z e => (q1 z).2 (by rw [e])
              exact ⟨a, g, o', cap, q0, q1, pairs_set_any (pairs_set_any (pairs_set_any (pairs_set_any q2 hg) hg) hg) hg, q3⟩
            rcases List.mem_append.1 hx with q | q
            · exact hne x (R4.out x q)
            · rw [List.mem_singleton] at q; subst q; exact hne _ P4.out
        · obtain rfl : j = n := by omega
          clear hbw hmap hV hF hR
          go_wp2_with fail
          go_ret
          have hml2 := hml.out
          have hl2 := hil.out
          obtain ⟨pb', pc', pg', po', hE, hB⟩ := evs_of (base := some ⟨w2.heap.size, 0, none⟩) (g := w2.heap.size) (l := il.map fun i => evAt hs i.toNat) (by rw [HMp.out, ← hl2, List.take_length]) (fun _ => rfl) (fun _ => hsz) (by unfold maxLen; simp; omega) (fun k x hx i hi => by have hk := (List.getElem?_eq_some_iff.1 hx).1; rw [(HV.out (k * 10 + i) (by omega)).1]; exact HF.out k x hx i hi) HR.out (fun k hk => (HV.out k (by simp at hk; omega)).2)
          rw [HGIL.out]
          exact ⟨_, rfl, B2.out.trans (HW.out.mono B2.out.size), ⟨_, _, _, pb', pc', pg', po', by rw [List.length_map, hl2]; rfl, hE, fun _ => B2.out.size, (fun q => by cases q), hB⟩⟩
end Go.Proofs.Ytgbfippcnmpgfaa

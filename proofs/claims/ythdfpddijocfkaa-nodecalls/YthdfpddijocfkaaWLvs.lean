
/- Layer 17: the reference's Leaves. -/

import Derived.Test.YthdfpddijocfkaaWCrP

import Derived.Test.YthdfpddijocfkaaWKey2

namespace Go.Proofs.Ythdfpddijocfkaa

open Go.RowKit

attribute [local go_sem ↓] Go.wp_at_zero Go.wp_at_succ

/-- A leaf of a key. -/
def kvB (t : NL) (x : Nat) : Bool := leafB (ndAt t x) && decide ((ndAt t x).inf = 0)
def kvL (t : NL) (L : List Nat) : List Nat := L.filter (kvB t)
theorem kv_snoc (t : NL) (L : List Nat) (x : Nat) : kvL t (L ++ [x]) = if kvB t x then kvL t L ++ [x] else kvL t L := by
  unfold kvL
  rw [List.filter_append]
  cases h : kvB t x <;> simp [h]
theorem kv_len (t : NL) (L : List Nat) : (kvL t L).length ≤ L.length := List.length_filter_le _ _
set_option maxRecDepth 100000 in
set_option maxHeartbeats 2000000 in
theorem vLeaves_any (base : Option Addr) (b o c : Nat) (t : NL) (w : World) (h : NodesAt w base b o t) (he : formE t = 0) :
    Calls Try.prog 57 #[.slice base t.length c] w fun e w' => ∃ v, e = .returned v ∧ w'.ownsRow w.heap.size 3 1 v (kvL t (theL t 0)).length (natC (kvL t (theL t 0))) ∧ Below w.heap.size w w' := by
  have HA : Hid (NodesAt _ _ _ _ _) := h
  obtain ⟨hbig, hf⟩ := formE_ok he
  obtain ⟨hT, -, hlen⟩ := theL_form hf
  have HT : Hid (Tree _ _ _) := hT
  have HX : Hid (∀ y ∈ theL t 0, y < t.length) := hT.all
  have hpos := hf.pos
  obtain rfl : base = some ⟨b, o, none⟩ := HA.out.base (by omega)
  have hbl := HA.out.lt (by omega)
  have hl0 : 0 < (theL t 0).length := by omega
  have hl1 : (theL t 0).length ≤ 100000 := by omega
  obtain ⟨i0, hi0, hz0, hz1, hz2⟩ := info_parts in_info
  clear h he hf hT hlen
  generalize theL t 0 = X at *
  go_enter Try.func57, Try.ntmps57
  go_wp2_with fail
  refine (vOrder_any _ b o c t 0 X _ HA.out HT.out (by omega)).mono ?_
  rintro e w1 ⟨v1, rfl, ho1, hb1⟩
  obtain ⟨a1, c1, g1, rfl, -, -, hp1⟩ := pls_of_owns ho1
  obtain rfl : a1 = some ⟨g1, 0, none⟩ := hp1.base (by omega)
  have hg1 := hp1.lt (by omega)
  have P1 : Hid (PlsAt w1 (some ⟨g1, 0, none⟩) g1 X) := hp1
  have B1 : Hid (Below w.heap.size w w1) := hb1
  have hw1 := hb1.size
  clear ho1 hp1 hb1
  go_wp2_with fail
  go_loopw [3, 5] (fun v i wr => ∃ j : Nat, j ≤ X.length ∧ i = .int .i64 j ∧ IRow w1 wr v (kvL t (X.take j))) (fun _ i _ => X.length - (intOf i).toNat)
  case atStart => exact ⟨0, Nat.zero_le _, rfl, World.ownsRow_nil _ _ _ _, Below.refl _ _⟩
  case round =>
    obtain ⟨j, hj, rfl, hI⟩ := hrel
    have HW : Hid (Below w.heap.size w wr) := B1.out.trans (hI.below.mono B1.out.size)
    have zz := hI.below.size
    have T0 : Hid (IRow _ _ _ _) := hI
    by_cases hlt : j < X.length
    · have r1 := (P1.out.below hI.below).cells j hlt
      have hbr : b < wr.heap.size := by omega
      have hgr : g1 < wr.heap.size := by omega
      have hvl := Nat.le_trans (kv_len t (X.take j)) (List.length_take_le j X)
      have HN : Hid (kvL t (X.take (j + 1)) = if kvB t (X.getD j 0) then kvL t (X.take j) ++ [X.getD j 0] else kvL t (X.take j)) := by show _ = _; rw [take_snocL hlt, kv_snoc]
      have hxl : X.getD j 0 < t.length := HX.out _ (by rw [List.getD_eq_getElem?_getD, List.getElem?_eq_getElem hlt]; exact List.getElem_mem hlt)
      have HC : Hid _ := (HA.out.below HW.out).cells _ hxl
      have j0 : (0 : Int) ≤ (j : Int) := Int.natCast_nonneg _
      have j1 : (j : Int) < (X.length : Int) := by omega
      have HKV : Hid (kvB t (X.getD j 0) = (leafB (ndAt t (X.getD j 0)) && decide ((ndAt t (X.getD j 0)).inf = 0))) := rfl
      clear hI
      generalize X.getD j 0 = y at *
      have s0 : (0 : Int) ≤ (y : Int) := Int.natCast_nonneg _
      have s1 : (y : Int) < (t.length : Int) := by omega
      generalize hVV : kvL t (X.take j) = V at *
      clear hVV
      generalize ndAt t y = nd at *
      obtain ⟨k0, k1, k2, k3, k4, k5⟩ := nd
      simp only at HC HKV
      obtain ⟨c0, c1', c2, c3, c4, c5⟩ := HC.out
      cases hq : leafB ⟨k0, k1, k2, k3, k4, k5⟩
      · have HN' : Hid (kvL t (X.take (j + 1)) = V) := by show _ = _; rw [HN.out, HKV.out, hq]; rfl
        go_wp2_with (first | (go_at_call 54; refine (vLeaf_any _ _ _ _ _ _ _).mono ?_; rintro e w5 ⟨rfl, hb5⟩; rw [hq]; have T5 : Hid (IRow w1 w5 u3 V) := T0.out.quiet hb5; have r2 := (hb5.cell (p := ⟨g1, j, none⟩) hgr).trans r1; have f2 := (hb5.cell (p := ⟨b, o + y * 6 + 1, none⟩) hbr).trans c1'; have hz5 := hb5.size; clear hb5))
        exact ⟨⟨j + 1, by omega, by go_num, by rw [HN'.out]; exact T5.out⟩, by simp [intOf]; omega⟩
      · by_cases hk : k1 = 0
        · have HN' : Hid (kvL t (X.take (j + 1)) = V ++ [y]) := by show _ = _; rw [HN.out, HKV.out, hq, hk]; rfl
          have dk : (k1 == 0) = true := by simp [hk]
          subst hk
          go_wp2_with (first | (go_at_call 54; refine (vLeaf_any _ _ _ _ _ _ _).mono ?_; rintro e w5 ⟨rfl, hb5⟩; rw [hq]; have T5 : Hid (IRow w1 w5 u3 V) := T0.out.quiet hb5; have r2 := (hb5.cell (p := ⟨g1, j, none⟩) hgr).trans r1; have f2 := (hb5.cell (p := ⟨b, o + y * 6 + 1, none⟩) hbr).trans c1'; have hz5 := hb5.size; clear hb5) | (at_builtin; have hq := T5; (refine wpList_append_lies _ (by rfl) _ _ _ (by rfl) w1.heap.size 3 i0 _ 1 8 ins_under hi0 hz0 hz1 hz2 rfl (by omega) _ V.length _ (by rfl) (T5.out.own.alloc _) ⟨w5.heap.size, 0, none⟩ 1 1 [.int .i64 (y : Int)] (by rfl) (by rfl) (World.news_of_block (cs := #[.int .i64 (y : Int)]) (t := 3) (fr := (0, 0)) (heap_alloc_at _ _ _ (by simp))) (by simp [Value.oneCell']) (by omega) (by unfold maxLen; omega) (by omega) (by have := T5.out.size; simp; omega) (w5.heap.size + 1) (by simp) ?_); intro g6 c6 w6 ho hg hat hl; have T6 : Hid (IRow _ _ _ _) := T5.out.grown (q := y) hg ho; clear ho hg hat hl hq))
          exact ⟨⟨j + 1, by omega, by go_num, by rw [HN'.out]; exact T6.out⟩, by simp [intOf]; omega⟩
        · have HN' : Hid (kvL t (X.take (j + 1)) = V) := by show _ = _; rw [HN.out, HKV.out, hq]; simp [hk]
          have dk : (k1 == 0) = false := by simp [hk]
          go_wp2_with (first | (go_at_call 54; refine (vLeaf_any _ _ _ _ _ _ _).mono ?_; rintro e w5 ⟨rfl, hb5⟩; rw [hq]; have T5 : Hid (IRow w1 w5 u3 V) := T0.out.quiet hb5; have r2 := (hb5.cell (p := ⟨g1, j, none⟩) hgr).trans r1; have f2 := (hb5.cell (p := ⟨b, o + y * 6 + 1, none⟩) hbr).trans c1'; have hz5 := hb5.size; clear hb5))
          exact ⟨⟨j + 1, by omega, by go_num, by rw [HN'.out]; exact T5.out⟩, by simp [intOf]; omega⟩
    · obtain rfl : j = X.length := by omega
      rw [List.take_length] at hI
      have HI : Hid (IRow _ _ _ _) := hI
      clear hI T0
      go_wp2_with fail
      go_ret
      exact ⟨_, rfl, owns_down HI.out.own (by omega), HW.out⟩
end Go.Proofs.Ythdfpddijocfkaa


/- Layer 17: the law WeighHeavy. -/

import Derived.Test.YteddfecapbopcaaWOwn

import Derived.Deep.RegionHeld3

import Derived.Deep.CutRange

namespace Go.Proofs.Yteddfecapbopcaa

open Go.RowKit

attribute [local go_sem ↓] Go.wp_at_zero Go.wp_at_succ

theorem nlEq_self (a : NL) : nlEq a a = true := by unfold nlEq; simp
/-- A row of numbers that is ours. -/
structure JRow (w0 x : World) (v : Value) (V : List Int) : Prop where
  own : x.ownsRow w0.heap.size 3 1 v V.length (isC V)
  below : Below w0.heap.size w0 x
theorem JRow.grown {w0 x y : World} {v v' : Value} {V : List Int} {q : Int} {o : Obj} (h : JRow w0 x v V) (hg : (x.alloc o).grownBy y v.ownBlock) (ho : y.ownsRow w0.heap.size 3 1 v' (V.length + 1) (isC V ++ [.int .i64 q])) : JRow w0 y v' (V ++ [q]) :=
  ⟨by rw [List.length_append, isC_append]; exact ho, Below.grown (h.below.alloc h.below.size o) hg (by rw [World.size_alloc]; have := h.below.size; omega) (fun k hk => (owns_lt h.own k hk).1)⟩
theorem pre_snoc (t : NL) (M : List Nat) (m : Nat) (h : m < M.length) : (M.take (m + 1)).map (fun p => (ndAt t p).wt) = (M.take m).map (fun p => (ndAt t p).wt) ++ [(ndAt t (M.getD m 0)).wt] := by
  rw [List.take_succ_eq_append_getElem h, List.map_append, List.getD_eq_getElem?_getD, List.getElem?_eq_getElem h]
  rfl
set_option maxRecDepth 100000 in
set_option maxHeartbeats 4000000 in
theorem weighHeavy_any (bT : Option Addr) (b o cT : Nat) (t : NL) (bw : Option Addr) (gw ow cw : Nat) (W : List Int) (key nn : Int) (w : World) (h : NodesAt w bT b o t) (hTn : bT = none → t.length = 0 ∧ cT = 0) (hTb : t.length * 48 ≤ 140737488355328) (hw : WsAt w bw gw ow W) (hWn : bw = none → W.length = 0 ∧ cw = 0) (hWb : W.length * 8 ≤ 140737488355328) :
    Calls Try.prog 5 #[.agg #[.slice bT t.length cT, .slice bw W.length cw, .int .i64 key, .int .i64 nn]] w fun e w' => e = .returned (.bool true) ∧ Below w.heap.size w w' := by
  have HTN : Hid (bT = none → t.length = 0 ∧ cT = 0) := hTn
  have HWN : Hid (bw = none → W.length = 0 ∧ cw = 0) := hWn
  obtain ⟨k, hk⟩ := keyed_of t
  have HK : Hid (Keyed t k) := hk
  generalize hW1 : w.alloc (.cells #[.slice bT t.length cT, .slice bw W.length cw, .int .i64 key, .int .i64 nn] 25) = W1
  have hs1 : W1.heap.size = w.heap.size + 1 := by rw [← hW1]; simp
  have hb1 : Below w.heap.size w W1 := by rw [← hW1]; exact below_alloc _ _
  have hbk : W1.heap[w.heap.size]? = some (.cells #[.slice bT t.length cT, .slice bw W.length cw, .int .i64 key, .int .i64 nn] 25) := by rw [← hW1]; exact heap_alloc_at _ _ _ rfl
  have NT : Hid (∀ z, Below W1.heap.size W1 z → NodesAt z bT b o t) := fun z hz => (h.below hb1).below hz
  have NW : Hid (∀ z, Below W1.heap.size W1 z → WsAt z bw gw ow W) := fun z hz => (hw.below hb1).below hz
  have CC : Hid (∀ z, Below W1.heap.size W1 z → z.cell? ⟨w.heap.size, 0, none⟩ = some (.slice bT t.length cT) ∧ z.cell? ⟨w.heap.size, 1, none⟩ = some (.slice bw W.length cw)) := fun z hz => by
    have e := (hz.block _ (by omega)).trans hbk
    exact ⟨by simp [World.cell?, e], by simp [World.cell?, e]⟩
  have BL : Hid (∀ z, Below W1.heap.size W1 z → Below w.heap.size w z ∧ w.heap.size < z.heap.size) := fun z hz => ⟨hb1.trans (hz.mono hb1.size), by have := hz.size; omega⟩
  clear h hw hTn hWn hb1 hbk hk
  go_enter Try.func5, Try.ntmps5
  go_wp2_with fail
  clear hW1
  refine (fixed_any _).mono ?_
  rintro e w2 ⟨rfl, hb2⟩
  have H2 : Hid (Below W1.heap.size W1 w2) := hb2
  have H2d : Hid (Below W1.heap.size W1 w2.drew) := hb2.drew
  obtain ⟨e0, e1⟩ := CC.out _ H2.out
  have lt2 := (BL.out _ H2.out).2
  clear hb2
  go_wp2_with fail
  go_region_held3 (fun w' => w'.cell? ⟨w.heap.size, 0, none⟩ = some (.slice bT t.length cT) ∧ w'.cell? ⟨w.heap.size, 1, none⟩ = some (.slice bw W.length cw))
    (first
      | (with_reducible exact X3.out)
      | (with_reducible exact X4.out)
      | (with_reducible exact X5.out)
      | go_keep)
    (first
      | (go_at_call 10; refine (copied_any bT b o cT t _ (NT.out _ H2d.out) HTN.out hTb).mono ?_; rintro e w3 ⟨v3, rfl, ho3, hb3⟩; obtain ⟨a3, c3, g3, rfl, -, -, hn3⟩ := nodes_of_owns ho3; have N3 : Hid (NodesAt w3 a3 g3 0 t) := hn3; have H3 : Hid (Below W1.heap.size W1 w3) := H2d.out.trans (hb3.mono H2d.out.size); have X3 : Hid (w3.cell? ⟨w.heap.size, 0, none⟩ = some (.slice bT t.length cT) ∧ w3.cell? ⟨w.heap.size, 1, none⟩ = some (.slice bw W.length cw)) := CC.out _ H3.out; clear ho3 hn3 hb3)
      | (go_at_call 36; refine (wints_any bw gw ow cw W _ (NW.out _ H3.out) HWN.out hWb).mono ?_; rintro e w4 ⟨v4, rfl, ho4, hb4⟩; obtain ⟨a4, c4, g4, rfl, -, -, hs4⟩ := ws_of_owns ho4; have S4 : Hid (WsAt w4 a4 g4 0 W) := hs4; have N4 : Hid (NodesAt w4 a3 g3 0 t) := N3.out.below hb4; have H4 : Hid (Below W1.heap.size W1 w4) := H3.out.trans (hb4.mono H3.out.size); have X4 : Hid (w4.cell? ⟨w.heap.size, 0, none⟩ = some (.slice bT t.length cT) ∧ w4.cell? ⟨w.heap.size, 1, none⟩ = some (.slice bw W.length cw)) := CC.out _ H4.out; clear ho4 hs4 hb4)
      | (go_at_call 35; refine (Heavy_any a3 g3 0 c3 t a4 g4 0 c4 W _ N4.out S4.out).mono ?_; rintro e w5 ⟨v5, rfl, ho5, hb5⟩; obtain ⟨a5, c5, g5, rfl, -, -, hn5⟩ := nodes_of_owns ho5; have N5 : Hid (NodesAt w5 a5 g5 0 (heavyA t W)) := hn5; have H5 : Hid (Below W1.heap.size W1 w5) := H4.out.trans (hb5.mono H4.out.size); have X5 : Hid (w5.cell? ⟨w.heap.size, 0, none⟩ = some (.slice bT t.length cT) ∧ w5.cell? ⟨w.heap.size, 1, none⟩ = some (.slice bw W.length cw)) := CC.out _ H5.out; clear ho5 hn5 hb5))
  clear e0 e1 lt2
  obtain ⟨e0, e1⟩ := CC.out _ H5.out
  have lt5 := (BL.out _ H5.out).2
  have qE : (heavyE t W != heavyE t W) = false := by simp
  have HX : Hid (keyE t ≠ 0 → heavyA t W = []) := fun q => by
    unfold heavyA heavyE
    rw [if_pos q, if_neg q]
  go_wp2_with fail
  refine (vHeavy_any bT b o cT t bw gw ow cw W _ (NT.out _ H5.out) (NW.out _ H5.out)).mono ?_
  rintro e w6 ⟨v6, rfl, ho6, hb6⟩
  obtain ⟨a6, c6, g6, rfl, -, -, hn6⟩ := nodes_of_owns ho6
  have N6 : Hid (NodesAt w6 a6 g6 0 (heavyA t W)) := hn6
  have N5' : Hid (NodesAt w6 a5 g5 0 (heavyA t W)) := N5.out.below hb6
  have H6 : Hid (Below W1.heap.size W1 w6) := H5.out.trans (hb6.mono H5.out.size)
  clear ho6 hn6 hb6 e0 e1 lt5 N5 H5 X5 X4 X3 N4 N3 S4 H4 H3
  generalize heavyA t W = X at *
  generalize heavyE t W = E at *
  go_wp2_with (first | (go_at_call 38; refine (vSame_any a5 a6 g5 0 c5 g6 0 c6 X X _ N5'.out N6.out).mono ?_; rintro e w7 ⟨rfl, hb7⟩; rw [nlEq_self]; have H7 : Hid (Below W1.heap.size W1 w7) := H6.out.trans (hb7.mono H6.out.size); obtain ⟨e0, e1⟩ := CC.out _ H7.out; have lt7 := (BL.out _ H7.out).2; clear hb7))
  refine (copied_any bT b o cT t _ (NT.out _ H7.out) HTN.out hTb).mono ?_
  rintro e w8 ⟨v8, rfl, ho8, hb8⟩
  obtain ⟨a8, c8, g8, rfl, -, -, hn8⟩ := nodes_of_owns ho8
  have N8 : Hid (NodesAt w8 a8 g8 0 t) := hn8
  have H8 : Hid (Below W1.heap.size W1 w8) := H7.out.trans (hb8.mono H7.out.size)
  clear ho8 hn8 hb8 e0 e1 lt7
  go_wp2_with fail
  refine (Sums_any a8 g8 0 c8 t k _ N8.out HK.out).mono ?_
  rintro e w9 ⟨v9, rfl, ho9, hb9⟩
  obtain ⟨a9, c9, rfl⟩ := own_slice ho9
  have H9 : Hid (Below W1.heap.size W1 w9) := H8.out.trans (hb9.mono H8.out.size)
  clear ho9 hb9
  by_cases he : keyE t = 0
  · have d : (keyE t != 0) = false := by simp [he]
    have hfe := keyE_form he
    obtain ⟨hbig, hf⟩ := formE_ok hfe
    have hpos := hf.pos
    obtain rfl : bT = some ⟨b, o, none⟩ := (NT.out _ H9.out).base (by omega)
    have HFE : Hid (formE t = 0) := hfe
    obtain ⟨n1, n2⟩ := own_norm he
    have O1 : Hid (heavyE t (ownW t) = 0) := n1
    have O2 : Hid (heavyA t (ownW t) = normL t) := n2
    have hkl := kp_small hbig
    have HKT : Hid (∀ z ∈ kpL t, z < t.length) := kp_lt
    obtain ⟨e0, e1⟩ := CC.out _ H9.out
    have lt9 := (BL.out _ H9.out).2
    clear n1 n2 hfe hf
    go_wp2_with fail
    refine (vRoot_any _ b o cT t _ (NT.out _ H9.out) HFE.out).mono ?_
    rintro e w10 ⟨rfl, hb10⟩
    have H10 : Hid (Below W1.heap.size W1 w10) := H9.out.trans (hb10.mono H9.out.size)
    clear hb10 e0 e1 lt9
    by_cases h0 : (rootR t).2 = 0
    · obtain ⟨x, l, R, hr, hxl, -, hT, -, -⟩ := kp_order h0
      have VX : Hid (vX t = (x : Int)) := by show vX t = _; unfold vX; rw [if_pos h0, hr]
      have HT : Hid (Tree t x (kpL t)) := hT
      have x0 : decide ((0 : Int) ≤ (x : Int)) = true := decide_eq_true (Int.natCast_nonneg _)
      have x0' : (0 : Int) ≤ (x : Int) := Int.natCast_nonneg _
      have HOW : Hid (ownW t = (kpL t).map fun p => (ndAt t p).wt) := rfl
      obtain ⟨e0, e1⟩ := CC.out _ H10.out
      have lt10 := (BL.out _ H10.out).2
      clear h0 hr hT
      rw [VX.out]
      go_wp2_with fail
      refine (vOrder_any _ b o cT t x (kpL t) _ (NT.out _ H10.out) HT.out (by omega)).mono ?_
      rintro e w11 ⟨v11, rfl, ho11, hb11⟩
      obtain ⟨a11, c11, g11, rfl, -, -, hp11⟩ := pls_of_owns ho11
      have P11 : Hid (PlsAt w11 a11 g11 (kpL t)) := hp11
      have H11 : Hid (Below W1.heap.size W1 w11) := H10.out.trans (hb11.mono H10.out.size)
      have lt11 := (BL.out _ H11.out).2
      have bl11 := (NT.out _ H11.out).lt (by omega)
      obtain ⟨i0, hi0, hz0, hz1, hz2⟩ := info_parts in_info
      clear ho11 hp11 hb11 e0 e1 lt10
      generalize kpL t = M at *
      go_wp2_with fail
      go_loopw [10, 12] (fun v i wr => ∃ m : Nat, m ≤ M.length ∧ i = .int .i64 m ∧ JRow w11 wr v ((M.take m).map fun p => (ndAt t p).wt)) (fun _ i _ => M.length - (intOf i).toNat)
      case atStart => exact ⟨0, Nat.zero_le _, rfl, World.ownsRow_nil _ _ _ _, Below.refl _ _⟩
      case round =>
        obtain ⟨m, hm, rfl, hJ⟩ := hrel
        have HZ : Hid (Below W1.heap.size W1 wr) := H11.out.trans (hJ.below.mono H11.out.size)
        have zz := hJ.below.size
        by_cases hlm : m < M.length
        · obtain rfl : a11 = some ⟨g11, 0, none⟩ := P11.out.base (by omega)
          have hg11 := P11.out.lt (by omega)
          have r1 := (P11.out.below hJ.below).cells m hlm
          obtain ⟨e0, -⟩ := CC.out _ HZ.out
          have hgr : g11 < wr.heap.size := by omega
          have hbr : b < wr.heap.size := by omega
          have hcr : w.heap.size < wr.heap.size := by omega
          have m0 : (0 : Int) ≤ (m : Int) := Int.natCast_nonneg _
          have m1 : (m : Int) < (M.length : Int) := by omega
          have hxy : M.getD m 0 < t.length := HKT.out _ (by rw [List.getD_eq_getElem?_getD, List.getElem?_eq_getElem hlm]; exact List.getElem_mem hlm)
          have r2 := ((NT.out _ HZ.out).cells (M.getD m 0) hxy).2.2.1
          have HSN : Hid _ := pre_snoc t M m hlm
          have hvl : ((M.take m).map fun p => (ndAt t p).wt).length ≤ 100000 := by simp; omega
          have T0 : Hid (JRow _ _ _ _) := hJ
          have ag1 : Hid (∀ g, u10.ownBlock = some g → g ≠ b) := fun g q => by have := (owns_lt hJ.own g q).1; omega
          have ag2 : Hid (∀ g, u10.ownBlock = some g → g ≠ g11) := fun g q => by have := (owns_lt hJ.own g q).1; omega
          have ag3 : Hid (∀ g, u10.ownBlock = some g → g ≠ w.heap.size) := fun g q => by have := (owns_lt hJ.own g q).1; omega
          clear hJ
          generalize M.getD m 0 = y at *
          have y0 : (0 : Int) ≤ (y : Int) := Int.natCast_nonneg _
          have y1 : (y : Int) < (t.length : Int) := by omega
          generalize (ndAt t y).wt = k2 at *
          generalize hVV : (M.take m).map (fun p => (ndAt t p).wt) = V at *
          clear hVV
          go_wp2_with fail
          go_region_held3 (fun w' => w'.cell? ⟨w.heap.size, 0, none⟩ = some (.slice (some ⟨b, o, none⟩) t.length cT) ∧ w'.cell? ⟨b, o + y * 6 + 2, none⟩ = some (.int .i64 k2) ∧ w'.cell? ⟨g11, m, none⟩ = some (.int .i64 (y : Int)))
            (first
              | go_keep
              | (go_split_ands
                 refine ⟨?_, ?_, ?_⟩ <;> (rw [hgrow5.cell_far _ (by simp; omega) (fun q => absurd rfl (by first | exact ag1.out _ q.symm | exact ag2.out _ q.symm | exact ag3.out _ q.symm))]; assumption)))
            ((refine step_append_lies _ (by rfl) _ _ _ (by rfl) w11.heap.size 3 i0 _ 1 8 ins_under hi0 hz0 hz1 hz2 rfl (by omega) _ V.length _ (by rfl) ((T0.out.own.alloc _).drew) ⟨wr.heap.size, 0, none⟩ 1 1 [.int .i64 k2] (by rfl) (by rfl) (World.news_of_block (cs := #[.int .i64 k2]) (t := 3) (fr := (0, 0)) (heap_alloc_at _ _ _ (by simp))) (by simp [Value.oneCell']) (by omega) (by unfold maxLen; omega) (by omega) (by simp; omega) (wr.heap.size + 1) (by simp) ?_; intro g5 c5 w5 hown5 hgrow5 hat5 hlt5))
          have T6 : Hid (JRow w11 _ _ (V ++ [k2])) := T0.out.grown (undrew hgrow5) hown5
          clear hown5 hgrow5 hat5
          go_wp2_with fail
          exact ⟨⟨m + 1, by omega, by go_num, by rw [HSN.out]; exact T6.out⟩, by simp [intOf]; omega⟩
        · obtain rfl : m = M.length := by omega
          have hO := hJ.own
          rw [List.take_length, ← HOW.out] at hO
          obtain ⟨aw, cz, gz, rfl, -, -, hsz⟩ := ws_of_owns hO
          have SZ : Hid (WsAt wr aw gz 0 (ownW t)) := hsz
          clear hO hsz hJ
          obtain ⟨e0, e1⟩ := CC.out _ HZ.out
          have ltz := (BL.out _ HZ.out).2
          go_wp2_with fail
          refine (copied_any _ b o cT t _ (NT.out _ HZ.out) HTN.out hTb).mono ?_
          rintro e w12 ⟨v12, rfl, ho12, hb12⟩
          obtain ⟨a12, c12, g12, rfl, -, -, hn12⟩ := nodes_of_owns ho12
          have N12 : Hid (NodesAt w12 a12 g12 0 t) := hn12
          have S12 : Hid (WsAt w12 aw gz 0 (ownW t)) := SZ.out.below hb12
          have H12 : Hid (Below W1.heap.size W1 w12) := HZ.out.trans (hb12.mono HZ.out.size)
          clear ho12 hn12 hb12 e0 e1 ltz
          go_wp2_with fail
          refine (Heavy_any a12 g12 0 c12 t aw gz 0 cz (ownW t) _ N12.out S12.out).mono ?_
          rintro e w13 ⟨v13, rfl, ho13, hb13⟩
          rw [O1.out]
          rw [O2.out] at ho13
          obtain ⟨a13, c13, g13, rfl, -, -, hn13⟩ := nodes_of_owns ho13
          have N13 : Hid (NodesAt w13 a13 g13 0 (normL t)) := hn13
          have H13 : Hid (Below W1.heap.size W1 w13) := H12.out.trans (hb13.mono H12.out.size)
          obtain ⟨e0, e1⟩ := CC.out _ H13.out
          have ltz := (BL.out _ H13.out).2
          clear ho13 hn13 hb13
          go_wp2_with (first | (go_at_call 41; refine (vNorm_any _ b o cT t _ (NT.out _ H13.out) HFE.out).mono ?_; rintro e w14 ⟨v14, rfl, ho14, hb14⟩; obtain ⟨a14, c14, g14, rfl, -, -, hn14⟩ := nodes_of_owns ho14; have N14 : Hid (NodesAt w14 a14 g14 0 (normL t)) := hn14; have N13b : Hid (NodesAt w14 a13 g13 0 (normL t)) := N13.out.below hb14; have H14 : Hid (Below W1.heap.size W1 w14) := H13.out.trans (hb14.mono H13.out.size); clear ho14 hn14 hb14) | (go_at_call 38; refine (vSame_any a13 a14 g13 0 c13 g14 0 c14 (normL t) (normL t) _ N13b.out N14.out).mono ?_; rintro e w15 ⟨rfl, hb15⟩; rw [nlEq_self]; have H15 : Hid (Below W1.heap.size W1 w15) := H14.out.trans (hb15.mono H14.out.size); clear hb15))
          go_ret
          exact ⟨rfl, (BL.out _ H15.out).1⟩
    · have VX : Hid (vX t = -1) := by show vX t = _; unfold vX; rw [if_neg h0]
      have hO : ownW t = [] := by unfold ownW kpL; rw [if_neg h0]; rfl
      rw [hO] at O1 O2
      have SZ : Hid (WsAt w10 none 0 0 []) := ⟨fun h => absurd rfl h, fun h => absurd rfl h, fun i hi => by simp at hi, by simp⟩
      clear h0 hO
      rw [VX.out]
      obtain ⟨e0, e1⟩ := CC.out _ H10.out
      have ltz := (BL.out _ H10.out).2
      go_wp2_with fail
      refine (copied_any _ b o cT t _ (NT.out _ H10.out) HTN.out hTb).mono ?_
      rintro e w12 ⟨v12, rfl, ho12, hb12⟩
      obtain ⟨a12, c12, g12, rfl, -, -, hn12⟩ := nodes_of_owns ho12
      have N12 : Hid (NodesAt w12 a12 g12 0 t) := hn12
      have S12 : Hid (WsAt w12 none 0 0 []) := SZ.out.below hb12
      have H12 : Hid (Below W1.heap.size W1 w12) := H10.out.trans (hb12.mono H10.out.size)
      clear ho12 hn12 hb12 e0 e1 ltz
      go_wp2_with fail
      refine (Heavy_any a12 g12 0 c12 t none 0 0 0 [] _ N12.out S12.out).mono ?_
      rintro e w13 ⟨v13, rfl, ho13, hb13⟩
      rw [O1.out]
      rw [O2.out] at ho13
      obtain ⟨a13, c13, g13, rfl, -, -, hn13⟩ := nodes_of_owns ho13
      have N13 : Hid (NodesAt w13 a13 g13 0 (normL t)) := hn13
      have H13 : Hid (Below W1.heap.size W1 w13) := H12.out.trans (hb13.mono H12.out.size)
      obtain ⟨e0, e1⟩ := CC.out _ H13.out
      have ltz := (BL.out _ H13.out).2
      clear ho13 hn13 hb13
      go_wp2_with (first | (go_at_call 41; refine (vNorm_any _ b o cT t _ (NT.out _ H13.out) HFE.out).mono ?_; rintro e w14 ⟨v14, rfl, ho14, hb14⟩; obtain ⟨a14, c14, g14, rfl, -, -, hn14⟩ := nodes_of_owns ho14; have N14 : Hid (NodesAt w14 a14 g14 0 (normL t)) := hn14; have N13b : Hid (NodesAt w14 a13 g13 0 (normL t)) := N13.out.below hb14; have H14 : Hid (Below W1.heap.size W1 w14) := H13.out.trans (hb14.mono H13.out.size); clear ho14 hn14 hb14) | (go_at_call 38; refine (vSame_any a13 a14 g13 0 c13 g14 0 c14 (normL t) (normL t) _ N13b.out N14.out).mono ?_; rintro e w15 ⟨rfl, hb15⟩; rw [nlEq_self]; have H15 : Hid (Below W1.heap.size W1 w15) := H14.out.trans (hb15.mono H14.out.size); clear hb15))
      go_ret
      exact ⟨rfl, (BL.out _ H15.out).1⟩
  · have d : (keyE t != 0) = true := by simp [he]
    have hXe := HX.out he
    subst hXe
    obtain rfl := keyed_bad HK.out he
    clear he
    go_wp2_with fail
    go_ret
    exact ⟨rfl, (BL.out _ H9.out).1⟩
end Go.Proofs.Yteddfecapbopcaa

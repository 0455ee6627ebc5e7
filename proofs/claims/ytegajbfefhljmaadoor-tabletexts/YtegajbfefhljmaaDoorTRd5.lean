
/- Layer 16: the reader's node. -/

import Derived.Test.YtegajbfefhljmaaDoorTRd4

namespace Go.Proofs.YtegajbfefhljmaaDoor

open Go.RowKit

attribute [local go_sem ↓] Go.wp_at_zero Go.wp_at_succ

/-- What stands at a place of node's walk: the reader, the node, the frame. -/
structure NdS (w0 w : World) (B R b : Nat) (l : List UInt8) (nv ov : Value) (N : NL) (O : List Nat) (d : NdD) : Prop where
  rd : RdAt w B R l nv ov N O
  box : Box w b d
  sep : ∀ g, nv.ownBlock = some g → g ≠ b
  below : Below B w0 w
  lo : B ≤ b
theorem NdS.le {w0 w : World} {B R b : Nat} {l : List UInt8} {nv ov : Value} {N : NL} {O : List Nat} {d : NdD} (h : NdS w0 w B R b l nv ov N O d) : B ≤ w.heap.size := by have := h.box.lt; have := h.lo; omega
theorem NdS.take {w0 w w' : World} {B R b : Nat} {l l' : List UInt8} {nv ov : Value} {N : NL} {O : List Nat} {d : NdD} (h : NdS w0 w B R b l nv ov N O d) (hr : RdAt w' B R l' nv ov N O) (ht : Turn (fun k => k = R) w w') : NdS w0 w' B R b l' nv ov N O d :=
  ⟨hr, h.box.turn ht (h.rd.box_ne h.box), h.sep, h.below.trans (ht.below (fun k q => by rw [q]; exact h.rd.lo) h.le), h.lo⟩
theorem NdS.set {w0 w w' : World} {B R b : Nat} {l l' : List UInt8} {nv ov : Value} {N : NL} {O : List Nat} {d d' : NdD} (h : NdS w0 w B R b l nv ov N O d) (hr : RdAt w' B R l' nv ov N O ∧ Box w' b d') (ht : Turn (fun k => k = R ∨ k = b) w w') : NdS w0 w' B R b l' nv ov N O d' :=
  ⟨hr.1, hr.2, h.sep, h.below.trans (ht.below (fun k q => by rcases q with q | q <;> rw [q]; exact h.rd.lo; exact h.lo) h.le), h.lo⟩
theorem NdS.bel {w0 w w' : World} {B R b : Nat} {l : List UInt8} {nv ov : Value} {N : NL} {O : List Nat} {d : NdD} (h : NdS w0 w B R b l nv ov N O d) (ht : Turn (fun k => k = R ∨ k = b) w w') : Below B w0 w' :=
  h.below.trans (ht.below (fun k q => by rcases q with q | q <;> rw [q]; exact h.rd.lo; exact h.lo) h.le)
theorem NdS.add {w0 w w' : World} {B R b : Nat} {l : List UInt8} {nv nv' ov : Value} {N N' : NL} {O : List Nat} {d : NdD} (h : NdS w0 w B R b l nv ov N O d) (hr : RdAt w' B R l nv' ov N' O) (ht : Turn (fun k => k = R ∨ nv.ownBlock = some k) w w') (hn : ∀ g, nv'.ownBlock = some g → nv.ownBlock = some g ∨ w.heap.size ≤ g) : NdS w0 w' B R b l nv' ov N' O d :=
  ⟨hr, h.box.turn ht (fun q => by rcases q with q | q; exact h.rd.box_ne h.box q; exact h.sep b q rfl), fun g q => by rcases hn g q with r | r; exact h.sep g r; have := h.box.lt; omega, h.below.trans (ht.below (fun k q => by rcases q with q | q; rw [q]; exact h.rd.lo; exact (owns_lt h.rd.hN k q).1) h.le), h.lo⟩
theorem NdS.vbel {w0 w w' : World} {B R b : Nat} {l : List UInt8} {nv ov : Value} {N : NL} {O : List Nat} {d : NdD} (h : NdS w0 w B R b l nv ov N O d) (ht : Turn (fun k => k = R ∨ nv.ownBlock = some k) w w') : Below B w0 w' :=
  h.below.trans (ht.below (fun k q => by rcases q with q | q; rw [q]; exact h.rd.lo; exact (owns_lt h.rd.hN k q).1) h.le)
theorem NdS.val {w0 w w' : World} {B R b : Nat} {l l' : List UInt8} {nv ov : Value} {N N' : NL} {O : List Nat} {d : NdD} (h : NdS w0 w B R b l nv ov N O d) (hr : RdAt w' B R l' nv ov N' O) (ht : Turn (fun k => k = R ∨ nv.ownBlock = some k) w w') : NdS w0 w' B R b l' nv ov N' O d :=
  ⟨hr, h.box.turn ht (fun q => by rcases q with q | q; exact h.rd.box_ne h.box q; exact h.sep b q rfl), h.sep, h.vbel ht, h.lo⟩
theorem addP_length (N : NL) (O : List Nat) (d : NdD) : (addP N O d).length = N.length + 1 := by
  unfold addP
  split <;> simp
theorem far1 {w w3 : World} {o1 : Obj} {row : Option Nat} {R : Nat} (hg : ((w.alloc o1).drew).grownBy w3 row) (hR : R < w.heap.size) (hne : row ≠ some R) : w3.heap[R]? = w.heap[R]? := by
  rw [hg.block R (by show R < (w.alloc o1).heap.size; simp; omega) (fun q => hne q.symm)]
  show (w.alloc o1).heap[R]? = _
  rw [heap_alloc_old _ _ hR]
/-- A place opened. -/
theorem RdAt.opened {w w3 : World} {B R : Nat} {l : List UInt8} {nv ov : Value} {N : NL} {O : List Nat} {o1 : Obj} {g c u : Nat} (h : RdAt w B R l nv ov N O) (hg : ((w.alloc o1).drew).grownBy w3 ov.ownBlock) (ho : w3.ownsRow B 3 1 (.slice (some ⟨g, 0, none⟩) (O.length + 1) c) (O.length + 1) (natC O ++ [.int .i64 (u : Int)])) (hat : ov.ownBlock = some g ∨ g = w.heap.size + 1) (hB : B ≤ w.heap.size) :
    RdAt (w3.setCell ⟨R, 2, none⟩ (.slice (some ⟨g, 0, none⟩) (O.length + 1) c)) B R l nv (.slice (some ⟨g, 0, none⟩) (O.length + 1) c) N (O ++ [u]) ∧ Below B w (w3.setCell ⟨R, 2, none⟩ (.slice (some ⟨g, 0, none⟩) (O.length + 1) c)) := by
  have fr : ∀ k, k < w.heap.size → ov.ownBlock ≠ some k → w3.heap[k]? = w.heap[k]? := fun k hk hne => far1 hg hk hne
  have hR := fr R h.lt (fun q => h.sepO R q rfl)
  have hgR : R ≠ g := by
    rcases hat with q | q
    · exact (h.sepO g q).symm
    · have := h.lt; omega
  have hsz : w.heap.size ≤ w3.heap.size := by
    have h1 := hg.size
    have h2 : ((w.alloc o1).drew).heap.size = w.heap.size + 1 := by show (w.alloc o1).heap.size = _; simp
    omega
  have ht : Turn (fun k => ov.ownBlock = some k) w w3 := ⟨hg.os, hg.tape, hg.output, hsz, fr⟩
  have ht2 : Turn (fun k => k = R) w3 (w3.setCell ⟨R, 2, none⟩ (.slice (some ⟨g, 0, none⟩) (O.length + 1) c)) := (Turn.refl _ w3).setCell R 2 _ rfl
  have hN : w3.ownsRow B 33 6 nv N.length (ndCells N) := owns_turn h.hN ht (fun g' q r => by
    rcases own_sep h.hN h.hO (by decide) with e | e
    · rw [e] at q; cases q
    · exact e (q.trans r.symm))
  refine ⟨⟨h.lo, ?_, owns_turn hN ht2 (fun g' q => h.sepN g' q), ?_⟩, ?_⟩
  · rw [Go.Joins.block_setCell (hR.trans h.blk)]; rfl
  · rw [List.length_append, natC_snoc]
    exact owns_other ho R 2 _ hgR
  · exact (ht.below (fun k q => (owns_lt h.hO k q).1) hB).setCell (p := ⟨R, 2, none⟩) h.lo _

theorem keyP_le {l l' : List UInt8} {d d' : NdD} (h : keyP l d = some (d', l')) : l'.length ≤ l.length := by
  unfold keyP at h
  split at h
  · cases h; exact trim_le _ _
  · obtain ⟨x, _, he⟩ := Option.map_eq_some_iff.1 h
    cases he
    exact numR_le _
theorem weightP_le {l l' : List UInt8} {d d' : NdD} (h : weightP l d = some (d', l')) : l'.length ≤ l.length := by
  unfold weightP at h
  split at h
  · split at h
    · cases h; exact numR_le _
    · cases h
  · cases h

set_option maxRecDepth 100000 in
set_option maxHeartbeats 4000000 in
theorem node_any (B R : Nat) (l : List UInt8) (nv ov : Value) (N : NL) (O : List Nat) (w : World) (h : RdAt w B R l nv ov N O) (hl : l.length ≤ 8000000) (hNl : N.length ≤ 8000000) (hOl : O.length ≤ 8000000) (hOb : ∀ u ∈ O, u < N.length) (hB : B ≤ w.heap.size) (hlaid : LaidB B w) :
    Calls Tryd.prog 26 #[.pointer (some ⟨R, 0, none⟩)] w fun e w' => ∃ inn : Bool, e = .returned (.tuple #[.bool inn, .bool (nodeP l N O).isSome]) ∧ Below B w w' ∧ (∀ i l' N' O', nodeP l N O = some (i, l', N', O') → inn = i ∧ ∃ nv' ov', RdAt w' B R l' nv' ov' N' O') := by
  obtain ⟨oa, oc, rfl, -⟩ := own_form h.hO
  obtain ⟨i0, hi0, hz0, hz1, hz2⟩ := info_parts in_info
  have HL : Hid (LaidB _ _) := hlaid
  have HOB : Hid _ := hOb
  have X0 : Hid (NdS w (w.alloc (.cells #[.int .i64 0, .int .i64 0, .int .i64 0, .int .i64 0, .int .i64 (-1), .int .i64 (-1)] 33)) B R w.heap.size l nv (.slice oa O.length oc) N O nd1) := ⟨h.quiet (below_alloc _ _), heap_alloc_at _ _ _ rfl, fun g q => by have := (owns_lt h.hN g q).2; omega, (Below.refl _ _).alloc hB _, hB⟩
  have hlt := h.lt
  clear h hlaid hOb
  cases hp0 : Lib.hasPrefix l [40] with
  | false =>
    have F : Hid (nodeP l N O = none) := by show nodeP l N O = _; unfold nodeP beginP; rw [if_neg (by rw [hp0]; simp)]
    have HP0 : Hid _ := hp0
    clear hp0
    go_enter Tryd.func26, Tryd.ntmps26
    go_wp2_with (first | (go_at_call 31; have q := X0; refine (take_any B R l [40] _ _ _ _ _ X0.out.rd).mono ?_; rintro e x1 ⟨rfl, hr, ht⟩; rw [HP0.out]; have X1 : Hid (NdS _ _ _ _ _ _ _ _ _ _ _) := X0.out.take hr ht; have hs1 := X1.out.box.lt; clear hr ht q X0))
    go_ret2
    exact ⟨false, by rw [F.out]; rfl, X1.out.below, fun i l' N' O' he => by rw [F.out] at he; cases he⟩
  | true =>
  have HP0 : Hid _ := hp0
  cases hk : keyP (Lib.trimPrefix l [40]) nd1 with
  | none =>
    have F : Hid (nodeP l N O = none) := by show nodeP l N O = _; unfold nodeP beginP; rw [if_pos hp0, hk]
    have HK : Hid _ := hk
    clear hk hp0
    go_enter Tryd.func26, Tryd.ntmps26
    go_wp2_with (first | (go_at_call 31; have q := X0; refine (take_any B R l [40] _ _ _ _ _ X0.out.rd).mono ?_; rintro e x1 ⟨rfl, hr, ht⟩; rw [HP0.out]; have X1 : Hid (NdS _ _ _ _ _ _ _ _ _ _ _) := X0.out.take hr ht; have hs1 := X1.out.box.lt; clear hr ht q X0) | (go_at_call 32; have q := X1; refine (key_any B R w.heap.size (Lib.trimPrefix l [40]) nv _ N O nd1 _ X1.out.rd X1.out.box X1.out.sep (Nat.le_trans (trim_le _ _) hl) X1.out.le (LaidB.on HL.out X1.out.below)).mono ?_; rintro e x2 ⟨rfl, hr, ht⟩; rw [HK.out]; simp only [Option.isSome_none]; have XB : Hid (Below _ _ _) := X1.out.bel ht; clear hr ht q X1))
    go_ret2
    exact ⟨false, by rw [F.out]; rfl, XB.out, fun i l' N' O' he => by rw [F.out] at he; cases he⟩
  | some dl =>
  obtain ⟨d1, l2⟩ := dl
  have HK : Hid _ := hk
  have hl2 : l2.length ≤ 8000000 := Nat.le_trans (keyP_le hk) (Nat.le_trans (trim_le _ _) hl)
  have hl3 : (Lib.trimPrefix l2 [58]).length ≤ 8000000 := Nat.le_trans (trim_le _ _) hl2
  cases hp1 : Lib.hasPrefix l2 [58] with
  | false =>
    have F : Hid (nodeP l N O = none) := by show nodeP l N O = _; unfold nodeP beginP; rw [if_pos hp0, hk]; simp only; rw [if_neg (by rw [hp1]; simp)]
    have HP1 : Hid _ := hp1
    clear hp0 hk hp1
    go_enter Tryd.func26, Tryd.ntmps26
    go_wp2_with (first | (go_at_call 31; have q := X0; refine (take_any B R l [40] _ _ _ _ _ X0.out.rd).mono ?_; rintro e x1 ⟨rfl, hr, ht⟩; rw [HP0.out]; have X1 : Hid (NdS _ _ _ _ _ _ _ _ _ _ _) := X0.out.take hr ht; have hs1 := X1.out.box.lt; clear hr ht q X0) | (go_at_call 32; have q := X1; refine (key_any B R w.heap.size (Lib.trimPrefix l [40]) nv _ N O nd1 _ X1.out.rd X1.out.box X1.out.sep (Nat.le_trans (trim_le _ _) hl) X1.out.le (LaidB.on HL.out X1.out.below)).mono ?_; rintro e x2 ⟨rfl, hr, ht⟩; rw [HK.out]; simp only [Option.isSome_some]; have X2 : Hid (NdS _ _ _ _ _ _ _ _ _ _ _) := X1.out.set (hr _ _ HK.out) ht; have hs2 := X2.out.box.lt; clear hr ht q X1) | (go_at_call 31; have q := X2; refine (take_any B R l2 [58] _ _ _ _ _ X2.out.rd).mono ?_; rintro e x3 ⟨rfl, hr, ht⟩; rw [HP1.out]; have X3 : Hid (NdS _ _ _ _ _ _ _ _ _ _ _) := X2.out.take hr ht; have hs3 := X3.out.box.lt; clear hr ht q X2))
    go_ret2
    exact ⟨false, by rw [F.out]; rfl, X3.out.below, fun i l' N' O' he => by rw [F.out] at he; cases he⟩
  | true =>
  have HP1 : Hid _ := hp1
  cases hw : weightP (Lib.trimPrefix l2 [58]) d1 with
  | none =>
    have F : Hid (nodeP l N O = none) := by show nodeP l N O = _; unfold nodeP beginP; rw [if_pos hp0, hk]; simp only; rw [if_pos hp1, hw]
    have HW : Hid _ := hw
    clear hp0 hk hp1 hw
    go_enter Tryd.func26, Tryd.ntmps26
    go_wp2_with (first | (go_at_call 31; have q := X0; refine (take_any B R l [40] _ _ _ _ _ X0.out.rd).mono ?_; rintro e x1 ⟨rfl, hr, ht⟩; rw [HP0.out]; have X1 : Hid (NdS _ _ _ _ _ _ _ _ _ _ _) := X0.out.take hr ht; have hs1 := X1.out.box.lt; clear hr ht q X0) | (go_at_call 32; have q := X1; refine (key_any B R w.heap.size (Lib.trimPrefix l [40]) nv _ N O nd1 _ X1.out.rd X1.out.box X1.out.sep (Nat.le_trans (trim_le _ _) hl) X1.out.le (LaidB.on HL.out X1.out.below)).mono ?_; rintro e x2 ⟨rfl, hr, ht⟩; rw [HK.out]; simp only [Option.isSome_some]; have X2 : Hid (NdS _ _ _ _ _ _ _ _ _ _ _) := X1.out.set (hr _ _ HK.out) ht; have hs2 := X2.out.box.lt; clear hr ht q X1) | (go_at_call 31; have q := X2; refine (take_any B R l2 [58] _ _ _ _ _ X2.out.rd).mono ?_; rintro e x3 ⟨rfl, hr, ht⟩; rw [HP1.out]; have X3 : Hid (NdS _ _ _ _ _ _ _ _ _ _ _) := X2.out.take hr ht; have hs3 := X3.out.box.lt; clear hr ht q X2) | (go_at_call 33; have q := X3; refine (weight_any B R w.heap.size (Lib.trimPrefix l2 [58]) nv _ N O d1 _ X3.out.rd X3.out.box X3.out.sep hl3 X3.out.le (LaidB.on HL.out X3.out.below)).mono ?_; rintro e x4 ⟨rfl, hr, ht⟩; rw [HW.out]; simp only [Option.isSome_none]; have XB : Hid (Below _ _ _) := X3.out.bel ht; clear hr ht q X3))
    go_ret2
    exact ⟨false, by rw [F.out]; rfl, XB.out, fun i l' N' O' he => by rw [F.out] at he; cases he⟩
  | some dl =>
  obtain ⟨d2, l4⟩ := dl
  have HW : Hid _ := hw
  have hl4 : l4.length ≤ 8000000 := Nat.le_trans (weightP_le hw) hl3
  have hbg : Hid (beginP l = some (d2, l4)) := by show beginP l = _; unfold beginP; rw [if_pos hp0, hk]; simp only; rw [if_pos hp1, hw]
  clear hp0 hk hp1 hw
  cases hp2 : Lib.hasPrefix l4 [32] with
  | true =>
    have F : Hid (nodeP l N O = some (true, Lib.trimPrefix l4 [32], addP N O d2, O ++ [N.length])) := by show nodeP l N O = _; unfold nodeP; rw [hbg.out]; simp only; rw [if_pos hp2]
    have HP2 : Hid _ := hp2
    have n2 : IntKind.i64.wrap ((((addP N O d2).length : Nat) : Int) - 1) = ((N.length : Nat) : Int) := by rw [addP_length, show ((N.length + 1 : Nat) : Int) - 1 = ((N.length : Nat) : Int) by omega, IntKind.wrap_i64] <;> omega
    clear hp2
    go_enter Tryd.func26, Tryd.ntmps26
    go_wp2_with (first | (go_at_call 31; have q := X0; refine (take_any B R l [40] _ _ _ _ _ X0.out.rd).mono ?_; rintro e x1 ⟨rfl, hr, ht⟩; rw [HP0.out]; have X1 : Hid (NdS _ _ _ _ _ _ _ _ _ _ _) := X0.out.take hr ht; have hs1 := X1.out.box.lt; clear hr ht q X0) | (go_at_call 32; have q := X1; refine (key_any B R w.heap.size (Lib.trimPrefix l [40]) nv _ N O nd1 _ X1.out.rd X1.out.box X1.out.sep (Nat.le_trans (trim_le _ _) hl) X1.out.le (LaidB.on HL.out X1.out.below)).mono ?_; rintro e x2 ⟨rfl, hr, ht⟩; rw [HK.out]; simp only [Option.isSome_some]; have X2 : Hid (NdS _ _ _ _ _ _ _ _ _ _ _) := X1.out.set (hr _ _ HK.out) ht; have hs2 := X2.out.box.lt; clear hr ht q X1) | (go_at_call 31; have q := X2; refine (take_any B R l2 [58] _ _ _ _ _ X2.out.rd).mono ?_; rintro e x3 ⟨rfl, hr, ht⟩; rw [HP1.out]; have X3 : Hid (NdS _ _ _ _ _ _ _ _ _ _ _) := X2.out.take hr ht; have hs3 := X3.out.box.lt; clear hr ht q X2) | (go_at_call 33; have q := X3; refine (weight_any B R w.heap.size (Lib.trimPrefix l2 [58]) nv _ N O d1 _ X3.out.rd X3.out.box X3.out.sep hl3 X3.out.le (LaidB.on HL.out X3.out.below)).mono ?_; rintro e x4 ⟨rfl, hr, ht⟩; rw [HW.out]; simp only [Option.isSome_some]; have X4 : Hid (NdS _ _ _ _ _ _ _ _ _ _ _) := X3.out.set (hr _ _ HW.out) ht; obtain ⟨hs4, k0, k1, k2, k3, k4, k5⟩ := box_cells X4.out.box; clear hr ht q X3) | (go_at_call 34; have q := X4; refine (add_any B R l4 nv _ N O d2.key d2.inf d2.wt d2.val d2.l d2.r _ X4.out.rd X4.out.le hNl hOl HOB.out).mono ?_; rintro e x5 ⟨rfl, nv5, hr, ht, hn⟩; have X5 : Hid (NdS _ _ _ _ _ _ _ _ _ _ _) := X4.out.add hr ht hn; obtain ⟨na5, nc5, rfl, -⟩ := own_form X5.out.rd.hN; have hs5 := X5.out.box.lt; clear hr ht hn q X4) | (go_at_call 31; have q := X5; refine (take_any B R l4 [32] _ _ _ _ _ X5.out.rd).mono ?_; rintro e x6 ⟨rfl, hr, ht⟩; rw [HP2.out]; have X6 : Hid (NdS _ _ _ _ _ _ _ _ _ _ _) := X5.out.take hr ht; have hs6 := X6.out.box.lt; obtain ⟨hs6, k0, k1, k2, k3, k4, k5⟩ := box_cells X6.out.box; obtain ⟨rc0, rc1, rc2, rf0, rf1, rf2⟩ := X6.out.rd.cells; have rlt := X6.out.rd.lt; clear hr ht q X5))
    have hle6 := X6.out.le
    go_region_law (refine step_append_lies _ (by rfl) _ _ _ (by rfl) B 3 i0 _ 1 8 ins_under hi0 hz0 hz1 hz2 rfl (by omega) _ O.length _ (by rfl) ((X6.out.rd.hO.alloc _).drew) ⟨x6.heap.size, 0, none⟩ 1 1 [.int .i64 ((N.length : Nat) : Int)] (by rfl) (by rfl) (World.news_of_block (cs := #[.int .i64 ((N.length : Nat) : Int)]) (t := 3) (fr := (0, 0)) (heap_alloc_at _ _ _ (by simp))) (by simp [Value.oneCell']) (by omega) (by unfold maxLen; omega) (by omega) (by simp; omega) (x6.heap.size + 1) (by simp) ?_; intro gg cp w7 hown7 hgrow hat hlt7; obtain ⟨r0, r1, r2, r3, r4, r5, r6⟩ := blk3 ((far1 hgrow rlt (fun q => X6.out.rd.sepO R q rfl)).trans X6.out.rd.blk))
    all_goals
      have HOP : Hid _ := X6.out.rd.opened (u := N.length) hgrow hown7 hat X6.out.le
      clear hgrow hown7 hat
      go_wp2_with fail
      go_ret2
      exact ⟨true, by rw [F.out]; rfl, X6.out.below.trans HOP.out.2, fun i l' N' O' he => by rw [F.out] at he; cases he; exact ⟨rfl, _, _, HOP.out.1⟩⟩
  | false =>
  have HP2 : Hid _ := hp2
  have htr : Lib.trimPrefix l4 [32] = l4 := trim_no hp2
  by_cases hinf : d2.inf = 1
  · cases hp3 : Lib.hasPrefix l4 [41] with
    | true =>
      have F : Hid (nodeP l N O = some (false, Lib.trimPrefix l4 [41], addP N O d2, O)) := by show nodeP l N O = _; unfold nodeP; rw [hbg.out]; simp only; rw [if_neg (by rw [hp2]; simp), if_pos hinf, if_pos hp3]
      have HP3 : Hid _ := hp3
      have hi1 : (d2.inf == 1) = true := by simp [hinf]
      clear hp2 hp3 hinf
      go_enter Tryd.func26, Tryd.ntmps26
      go_wp2_with (first | (go_at_call 31; have q := X0; refine (take_any B R l [40] _ _ _ _ _ X0.out.rd).mono ?_; rintro e x1 ⟨rfl, hr, ht⟩; rw [HP0.out]; have X1 : Hid (NdS _ _ _ _ _ _ _ _ _ _ _) := X0.out.take hr ht; have hs1 := X1.out.box.lt; clear hr ht q X0) | (go_at_call 32; have q := X1; refine (key_any B R w.heap.size (Lib.trimPrefix l [40]) nv _ N O nd1 _ X1.out.rd X1.out.box X1.out.sep (Nat.le_trans (trim_le _ _) hl) X1.out.le (LaidB.on HL.out X1.out.below)).mono ?_; rintro e x2 ⟨rfl, hr, ht⟩; rw [HK.out]; simp only [Option.isSome_some]; have X2 : Hid (NdS _ _ _ _ _ _ _ _ _ _ _) := X1.out.set (hr _ _ HK.out) ht; have hs2 := X2.out.box.lt; clear hr ht q X1) | (go_at_call 31; have q := X2; refine (take_any B R l2 [58] _ _ _ _ _ X2.out.rd).mono ?_; rintro e x3 ⟨rfl, hr, ht⟩; rw [HP1.out]; have X3 : Hid (NdS _ _ _ _ _ _ _ _ _ _ _) := X2.out.take hr ht; have hs3 := X3.out.box.lt; clear hr ht q X2) | (go_at_call 33; have q := X3; refine (weight_any B R w.heap.size (Lib.trimPrefix l2 [58]) nv _ N O d1 _ X3.out.rd X3.out.box X3.out.sep hl3 X3.out.le (LaidB.on HL.out X3.out.below)).mono ?_; rintro e x4 ⟨rfl, hr, ht⟩; rw [HW.out]; simp only [Option.isSome_some]; have X4 : Hid (NdS _ _ _ _ _ _ _ _ _ _ _) := X3.out.set (hr _ _ HW.out) ht; obtain ⟨hs4, k0, k1, k2, k3, k4, k5⟩ := box_cells X4.out.box; clear hr ht q X3) | (go_at_call 34; have q := X4; refine (add_any B R l4 nv _ N O d2.key d2.inf d2.wt d2.val d2.l d2.r _ X4.out.rd X4.out.le hNl hOl HOB.out).mono ?_; rintro e x5 ⟨rfl, nv5, hr, ht, hn⟩; have X5 : Hid (NdS _ _ _ _ _ _ _ _ _ _ _) := X4.out.add hr ht hn; have hs5 := X5.out.box.lt; clear hr ht hn q X4) | (go_at_call 31; have q := X5; refine (take_any B R l4 [32] _ _ _ _ _ X5.out.rd).mono ?_; rintro e x6 ⟨rfl, hr, ht⟩; rw [HP2.out]; rw [htr] at hr; have X6 : Hid (NdS _ _ _ _ _ _ _ _ _ _ _) := X5.out.take hr ht; have hs6 := X6.out.box.lt; obtain ⟨hs6, k0, k1, k2, k3, k4, k5⟩ := box_cells X6.out.box; clear hr ht q X5) | (go_at_call 31; have q := X6; refine (take_any B R l4 [41] _ _ _ _ _ X6.out.rd).mono ?_; rintro e x8 ⟨rfl, hr, ht⟩; rw [HP3.out]; have X8 : Hid (NdS _ _ _ _ _ _ _ _ _ _ _) := X6.out.take hr ht; have hs8 := X8.out.box.lt; clear hr ht q X6))
      go_ret2
      exact ⟨false, by rw [F.out]; rfl, X8.out.below, fun i l' N' O' he => by rw [F.out] at he; cases he; exact ⟨rfl, _, _, X8.out.rd⟩⟩
    | false =>
      have F : Hid (nodeP l N O = none) := by show nodeP l N O = _; unfold nodeP; rw [hbg.out]; simp only; rw [if_neg (by rw [hp2]; simp), if_pos hinf, if_neg (by rw [hp3]; simp)]
      have HP3 : Hid _ := hp3
      have hi1 : (d2.inf == 1) = true := by simp [hinf]
      clear hp2 hp3 hinf
      go_enter Tryd.func26, Tryd.ntmps26
      go_wp2_with (first | (go_at_call 31; have q := X0; refine (take_any B R l [40] _ _ _ _ _ X0.out.rd).mono ?_; rintro e x1 ⟨rfl, hr, ht⟩; rw [HP0.out]; have X1 : Hid (NdS _ _ _ _ _ _ _ _ _ _ _) := X0.out.take hr ht; have hs1 := X1.out.box.lt; clear hr ht q X0) | (go_at_call 32; have q := X1; refine (key_any B R w.heap.size (Lib.trimPrefix l [40]) nv _ N O nd1 _ X1.out.rd X1.out.box X1.out.sep (Nat.le_trans (trim_le _ _) hl) X1.out.le (LaidB.on HL.out X1.out.below)).mono ?_; rintro e x2 ⟨rfl, hr, ht⟩; rw [HK.out]; simp only [Option.isSome_some]; have X2 : Hid (NdS _ _ _ _ _ _ _ _ _ _ _) := X1.out.set (hr _ _ HK.out) ht; have hs2 := X2.out.box.lt; clear hr ht q X1) | (go_at_call 31; have q := X2; refine (take_any B R l2 [58] _ _ _ _ _ X2.out.rd).mono ?_; rintro e x3 ⟨rfl, hr, ht⟩; rw [HP1.out]; have X3 : Hid (NdS _ _ _ _ _ _ _ _ _ _ _) := X2.out.take hr ht; have hs3 := X3.out.box.lt; clear hr ht q X2) | (go_at_call 33; have q := X3; refine (weight_any B R w.heap.size (Lib.trimPrefix l2 [58]) nv _ N O d1 _ X3.out.rd X3.out.box X3.out.sep hl3 X3.out.le (LaidB.on HL.out X3.out.below)).mono ?_; rintro e x4 ⟨rfl, hr, ht⟩; rw [HW.out]; simp only [Option.isSome_some]; have X4 : Hid (NdS _ _ _ _ _ _ _ _ _ _ _) := X3.out.set (hr _ _ HW.out) ht; obtain ⟨hs4, k0, k1, k2, k3, k4, k5⟩ := box_cells X4.out.box; clear hr ht q X3) | (go_at_call 34; have q := X4; refine (add_any B R l4 nv _ N O d2.key d2.inf d2.wt d2.val d2.l d2.r _ X4.out.rd X4.out.le hNl hOl HOB.out).mono ?_; rintro e x5 ⟨rfl, nv5, hr, ht, hn⟩; have X5 : Hid (NdS _ _ _ _ _ _ _ _ _ _ _) := X4.out.add hr ht hn; have hs5 := X5.out.box.lt; clear hr ht hn q X4) | (go_at_call 31; have q := X5; refine (take_any B R l4 [32] _ _ _ _ _ X5.out.rd).mono ?_; rintro e x6 ⟨rfl, hr, ht⟩; rw [HP2.out]; rw [htr] at hr; have X6 : Hid (NdS _ _ _ _ _ _ _ _ _ _ _) := X5.out.take hr ht; have hs6 := X6.out.box.lt; obtain ⟨hs6, k0, k1, k2, k3, k4, k5⟩ := box_cells X6.out.box; clear hr ht q X5) | (go_at_call 31; have q := X6; refine (take_any B R l4 [41] _ _ _ _ _ X6.out.rd).mono ?_; rintro e x8 ⟨rfl, hr, ht⟩; rw [HP3.out]; have X8 : Hid (NdS _ _ _ _ _ _ _ _ _ _ _) := X6.out.take hr ht; have hs8 := X8.out.box.lt; clear hr ht q X6))
      go_ret2
      exact ⟨false, by rw [F.out]; rfl, X8.out.below, fun i l' N' O' he => by rw [F.out] at he; cases he⟩
  · have hi1 : (d2.inf == 1) = false := by simp [hinf]
    cases hvp : valueP l4 (addP N O d2) with
    | none =>
      have F : Hid (nodeP l N O = none) := by show nodeP l N O = _; unfold nodeP; rw [hbg.out]; simp only; rw [if_neg (by rw [hp2]; simp), if_neg hinf, hvp]
      have HVP : Hid _ := hvp
      clear hp2 hvp hinf
      go_enter Tryd.func26, Tryd.ntmps26
      go_wp2_with (first | (go_at_call 31; have q := X0; refine (take_any B R l [40] _ _ _ _ _ X0.out.rd).mono ?_; rintro e x1 ⟨rfl, hr, ht⟩; rw [HP0.out]; have X1 : Hid (NdS _ _ _ _ _ _ _ _ _ _ _) := X0.out.take hr ht; have hs1 := X1.out.box.lt; clear hr ht q X0) | (go_at_call 32; have q := X1; refine (key_any B R w.heap.size (Lib.trimPrefix l [40]) nv _ N O nd1 _ X1.out.rd X1.out.box X1.out.sep (Nat.le_trans (trim_le _ _) hl) X1.out.le (LaidB.on HL.out X1.out.below)).mono ?_; rintro e x2 ⟨rfl, hr, ht⟩; rw [HK.out]; simp only [Option.isSome_some]; have X2 : Hid (NdS _ _ _ _ _ _ _ _ _ _ _) := X1.out.set (hr _ _ HK.out) ht; have hs2 := X2.out.box.lt; clear hr ht q X1) | (go_at_call 31; have q := X2; refine (take_any B R l2 [58] _ _ _ _ _ X2.out.rd).mono ?_; rintro e x3 ⟨rfl, hr, ht⟩; rw [HP1.out]; have X3 : Hid (NdS _ _ _ _ _ _ _ _ _ _ _) := X2.out.take hr ht; have hs3 := X3.out.box.lt; clear hr ht q X2) | (go_at_call 33; have q := X3; refine (weight_any B R w.heap.size (Lib.trimPrefix l2 [58]) nv _ N O d1 _ X3.out.rd X3.out.box X3.out.sep hl3 X3.out.le (LaidB.on HL.out X3.out.below)).mono ?_; rintro e x4 ⟨rfl, hr, ht⟩; rw [HW.out]; simp only [Option.isSome_some]; have X4 : Hid (NdS _ _ _ _ _ _ _ _ _ _ _) := X3.out.set (hr _ _ HW.out) ht; obtain ⟨hs4, k0, k1, k2, k3, k4, k5⟩ := box_cells X4.out.box; clear hr ht q X3) | (go_at_call 34; have q := X4; refine (add_any B R l4 nv _ N O d2.key d2.inf d2.wt d2.val d2.l d2.r _ X4.out.rd X4.out.le hNl hOl HOB.out).mono ?_; rintro e x5 ⟨rfl, nv5, hr, ht, hn⟩; have X5 : Hid (NdS _ _ _ _ _ _ _ _ _ _ _) := X4.out.add hr ht hn; have hs5 := X5.out.box.lt; clear hr ht hn q X4) | (go_at_call 31; have q := X5; refine (take_any B R l4 [32] _ _ _ _ _ X5.out.rd).mono ?_; rintro e x6 ⟨rfl, hr, ht⟩; rw [HP2.out]; rw [htr] at hr; have X6 : Hid (NdS _ _ _ _ _ _ _ _ _ _ _) := X5.out.take hr ht; have hs6 := X6.out.box.lt; obtain ⟨hs6, k0, k1, k2, k3, k4, k5⟩ := box_cells X6.out.box; clear hr ht q X5) | (go_at_call 35; have q := X6; refine (value_any B R l4 nv5 _ (addP N O d2) O _ X6.out.rd (by rw [addP_length]; omega) (by rw [addP_length]; omega) hl4 X6.out.le (LaidB.on HL.out X6.out.below)).mono ?_; rintro e x7 ⟨rfl, hr, ht⟩; rw [HVP.out]; simp only [Option.isSome_none]; have XB : Hid (Below _ _ _) := X6.out.vbel ht; clear hr ht q X6))
      go_ret2
      exact ⟨false, by rw [F.out]; rfl, XB.out, fun i l' N' O' he => by rw [F.out] at he; cases he⟩
    | some nl =>
    obtain ⟨N2, l5⟩ := nl
    have HVP : Hid _ := hvp
    cases hp3 : Lib.hasPrefix l5 [41] with
    | true =>
      have F : Hid (nodeP l N O = some (false, Lib.trimPrefix l5 [41], N2, O)) := by show nodeP l N O = _; unfold nodeP; rw [hbg.out]; simp only; rw [if_neg (by rw [hp2]; simp), if_neg hinf, hvp]; simp only; rw [if_pos hp3]
      have HP3 : Hid _ := hp3
      clear hp2 hvp hinf hp3
      go_enter Tryd.func26, Tryd.ntmps26
      go_wp2_with (first | (go_at_call 31; have q := X0; refine (take_any B R l [40] _ _ _ _ _ X0.out.rd).mono ?_; rintro e x1 ⟨rfl, hr, ht⟩; rw [HP0.out]; have X1 : Hid (NdS _ _ _ _ _ _ _ _ _ _ _) := X0.out.take hr ht; have hs1 := X1.out.box.lt; clear hr ht q X0) | (go_at_call 32; have q := X1; refine (key_any B R w.heap.size (Lib.trimPrefix l [40]) nv _ N O nd1 _ X1.out.rd X1.out.box X1.out.sep (Nat.le_trans (trim_le _ _) hl) X1.out.le (LaidB.on HL.out X1.out.below)).mono ?_; rintro e x2 ⟨rfl, hr, ht⟩; rw [HK.out]; simp only [Option.isSome_some]; have X2 : Hid (NdS _ _ _ _ _ _ _ _ _ _ _) := X1.out.set (hr _ _ HK.out) ht; have hs2 := X2.out.box.lt; clear hr ht q X1) | (go_at_call 31; have q := X2; refine (take_any B R l2 [58] _ _ _ _ _ X2.out.rd).mono ?_; rintro e x3 ⟨rfl, hr, ht⟩; rw [HP1.out]; have X3 : Hid (NdS _ _ _ _ _ _ _ _ _ _ _) := X2.out.take hr ht; have hs3 := X3.out.box.lt; clear hr ht q X2) | (go_at_call 33; have q := X3; refine (weight_any B R w.heap.size (Lib.trimPrefix l2 [58]) nv _ N O d1 _ X3.out.rd X3.out.box X3.out.sep hl3 X3.out.le (LaidB.on HL.out X3.out.below)).mono ?_; rintro e x4 ⟨rfl, hr, ht⟩; rw [HW.out]; simp only [Option.isSome_some]; have X4 : Hid (NdS _ _ _ _ _ _ _ _ _ _ _) := X3.out.set (hr _ _ HW.out) ht; obtain ⟨hs4, k0, k1, k2, k3, k4, k5⟩ := box_cells X4.out.box; clear hr ht q X3) | (go_at_call 34; have q := X4; refine (add_any B R l4 nv _ N O d2.key d2.inf d2.wt d2.val d2.l d2.r _ X4.out.rd X4.out.le hNl hOl HOB.out).mono ?_; rintro e x5 ⟨rfl, nv5, hr, ht, hn⟩; have X5 : Hid (NdS _ _ _ _ _ _ _ _ _ _ _) := X4.out.add hr ht hn; have hs5 := X5.out.box.lt; clear hr ht hn q X4) | (go_at_call 31; have q := X5; refine (take_any B R l4 [32] _ _ _ _ _ X5.out.rd).mono ?_; rintro e x6 ⟨rfl, hr, ht⟩; rw [HP2.out]; rw [htr] at hr; have X6 : Hid (NdS _ _ _ _ _ _ _ _ _ _ _) := X5.out.take hr ht; have hs6 := X6.out.box.lt; obtain ⟨hs6, k0, k1, k2, k3, k4, k5⟩ := box_cells X6.out.box; clear hr ht q X5) | (go_at_call 35; have q := X6; refine (value_any B R l4 nv5 _ (addP N O d2) O _ X6.out.rd (by rw [addP_length]; omega) (by rw [addP_length]; omega) hl4 X6.out.le (LaidB.on HL.out X6.out.below)).mono ?_; rintro e x7 ⟨rfl, hr, ht⟩; rw [HVP.out]; simp only [Option.isSome_some]; have X7 : Hid (NdS _ _ _ _ _ _ _ _ _ _ _) := X6.out.val (hr _ _ HVP.out) ht; clear hr ht q X6) | (go_at_call 31; have q := X7; refine (take_any B R l5 [41] _ _ _ _ _ X7.out.rd).mono ?_; rintro e x8 ⟨rfl, hr, ht⟩; rw [HP3.out]; have X8 : Hid (NdS _ _ _ _ _ _ _ _ _ _ _) := X7.out.take hr ht; have hs8 := X8.out.box.lt; clear hr ht q X7))
      go_ret2
      exact ⟨false, by rw [F.out]; rfl, X8.out.below, fun i l' N' O' he => by rw [F.out] at he; cases he; exact ⟨rfl, _, _, X8.out.rd⟩⟩
    | false =>
      have F : Hid (nodeP l N O = none) := by show nodeP l N O = _; unfold nodeP; rw [hbg.out]; simp only; rw [if_neg (by rw [hp2]; simp), if_neg hinf, hvp]; simp only; rw [if_neg (by rw [hp3]; simp)]
      have HP3 : Hid _ := hp3
      clear hp2 hvp hinf hp3
      go_enter Tryd.func26, Tryd.ntmps26
      go_wp2_with (first | (go_at_call 31; have q := X0; refine (take_any B R l [40] _ _ _ _ _ X0.out.rd).mono ?_; rintro e x1 ⟨rfl, hr, ht⟩; rw [HP0.out]; have X1 : Hid (NdS _ _ _ _ _ _ _ _ _ _ _) := X0.out.take hr ht; have hs1 := X1.out.box.lt; clear hr ht q X0) | (go_at_call 32; have q := X1; refine (key_any B R w.heap.size (Lib.trimPrefix l [40]) nv _ N O nd1 _ X1.out.rd X1.out.box X1.out.sep (Nat.le_trans (trim_le _ _) hl) X1.out.le (LaidB.on HL.out X1.out.below)).mono ?_; rintro e x2 ⟨rfl, hr, ht⟩; rw [HK.out]; simp only [Option.isSome_some]; have X2 : Hid (NdS _ _ _ _ _ _ _ _ _ _ _) := X1.out.set (hr _ _ HK.out) ht; have hs2 := X2.out.box.lt; clear hr ht q X1) | (go_at_call 31; have q := X2; refine (take_any B R l2 [58] _ _ _ _ _ X2.out.rd).mono ?_; rintro e x3 ⟨rfl, hr, ht⟩; rw [HP1.out]; have X3 : Hid (NdS _ _ _ _ _ _ _ _ _ _ _) := X2.out.take hr ht; have hs3 := X3.out.box.lt; clear hr ht q X2) | (go_at_call 33; have q := X3; refine (weight_any B R w.heap.size (Lib.trimPrefix l2 [58]) nv _ N O d1 _ X3.out.rd X3.out.box X3.out.sep hl3 X3.out.le (LaidB.on HL.out X3.out.below)).mono ?_; rintro e x4 ⟨rfl, hr, ht⟩; rw [HW.out]; simp only [Option.isSome_some]; have X4 : Hid (NdS _ _ _ _ _ _ _ _ _ _ _) := X3.out.set (hr _ _ HW.out) ht; obtain ⟨hs4, k0, k1, k2, k3, k4, k5⟩ := box_cells X4.out.box; clear hr ht q X3) | (go_at_call 34; have q := X4; refine (add_any B R l4 nv _ N O d2.key d2.inf d2.wt d2.val d2.l d2.r _ X4.out.rd X4.out.le hNl hOl HOB.out).mono ?_; rintro e x5 ⟨rfl, nv5, hr, ht, hn⟩; have X5 : Hid (NdS _ _ _ _ _ _ _ _ _ _ _) := X4.out.add hr ht hn; have hs5 := X5.out.box.lt; clear hr ht hn q X4) | (go_at_call 31; have q := X5; refine (take_any B R l4 [32] _ _ _ _ _ X5.out.rd).mono ?_; rintro e x6 ⟨rfl, hr, ht⟩; rw [HP2.out]; rw [htr] at hr; have X6 : Hid (NdS _ _ _ _ _ _ _ _ _ _ _) := X5.out.take hr ht; have hs6 := X6.out.box.lt; obtain ⟨hs6, k0, k1, k2, k3, k4, k5⟩ := box_cells X6.out.box; clear hr ht q X5) | (go_at_call 35; have q := X6; refine (value_any B R l4 nv5 _ (addP N O d2) O _ X6.out.rd (by rw [addP_length]; omega) (by rw [addP_length]; omega) hl4 X6.out.le (LaidB.on HL.out X6.out.below)).mono ?_; rintro e x7 ⟨rfl, hr, ht⟩; rw [HVP.out]; simp only [Option.isSome_some]; have X7 : Hid (NdS _ _ _ _ _ _ _ _ _ _ _) := X6.out.val (hr _ _ HVP.out) ht; clear hr ht q X6) | (go_at_call 31; have q := X7; refine (take_any B R l5 [41] _ _ _ _ _ X7.out.rd).mono ?_; rintro e x8 ⟨rfl, hr, ht⟩; rw [HP3.out]; have X8 : Hid (NdS _ _ _ _ _ _ _ _ _ _ _) := X7.out.take hr ht; have hs8 := X8.out.box.lt; clear hr ht q X7))
      go_ret2
      exact ⟨false, by rw [F.out]; rfl, X8.out.below, fun i l' N' O' he => by rw [F.out] at he; cases he⟩
end Go.Proofs.YtegajbfefhljmaaDoor


/- Layer 16: the reader's close. -/

import Derived.Test.YtegajbfefhljmaaDoorTRd5

namespace Go.Proofs.YtegajbfefhljmaaDoor

open Go.RowKit

attribute [local go_sem ↓] Go.wp_at_zero Go.wp_at_succ

def openLen (w : World) (R : Nat) : Nat := match w.cell? ⟨R, 2, none⟩ with
  | some v => slLen v
  | none => 0
theorem RdAt.openLen {w : World} {B R : Nat} {l : List UInt8} {nv ov : Value} {N : NL} {O : List Nat} (h : RdAt w B R l nv ov N O) : openLen w R = O.length := by
  unfold Go.Proofs.YtegajbfefhljmaaDoor.openLen
  rw [h.cells.2.2.1]
  exact own_len h.hO
/-- The open places cut. -/
theorem RdAt.shut {w : World} {B R g n c : Nat} {l : List UInt8} {nv : Value} {N : NL} {O : List Nat} (h : RdAt w B R l nv (.slice (some ⟨g, 0, none⟩) n c) N O) (k : Nat) (hk : k ≤ O.length) : RdAt (w.setCell ⟨R, 2, none⟩ (.slice (some ⟨g, 0, none⟩) k c)) B R l nv (.slice (some ⟨g, 0, none⟩) k c) N (O.take k) := by
  have ht : Turn (fun j => j = R) w (w.setCell ⟨R, 2, none⟩ (.slice (some ⟨g, 0, none⟩) k c)) := (Turn.refl _ w).setCell R 2 _ rfl
  have hn : n = O.length := by have := own_len h.hO; simpa [slLen] using this
  subst hn
  refine ⟨h.lo, ?_, owns_turn h.hN ht h.sepN, ?_⟩
  · rw [Go.Joins.block_setCell h.blk]; rfl
  · have h1 := owns_cut h.hO k hk
    have e : (natC O).take (k * 1) = natC (O.take k) := by rw [Nat.mul_one]; simp [natC, List.map_take]
    rw [e] at h1
    rw [List.length_take, Nat.min_eq_left hk]
    exact owns_turn h1 ht (fun g' q => h.sepO g' q)
theorem take_take_le {O : List Nat} {k : Nat} : (O.take (k + 1)).take k = O.take k := by rw [List.take_take, Nat.min_eq_left (by omega)]
theorem getD_take {O : List Nat} {k : Nat} : (O.take (k + 1)).getD k 0 = O.getD k 0 := by
  simp [List.getD_eq_getElem?_getD]

set_option maxRecDepth 100000 in
set_option maxHeartbeats 4000000 in
theorem close_any (B R : Nat) (l : List UInt8) (nv ov : Value) (N : NL) (O : List Nat) (w : World) (h : RdAt w B R l nv ov N O) (hOl : O.length ≤ 9000000) (hOb : ∀ u ∈ O, u < N.length) (hB : B ≤ w.heap.size) :
    Calls Tryd.prog 27 #[.pointer (some ⟨R, 0, none⟩)] w fun e w' => ∃ m : Bool, e = .returned (.tuple #[.bool m, .bool (closeP O.length l N O).isSome]) ∧ Below B w w' ∧ (∀ i l' O', closeP O.length l N O = some (i, l', O') → m = i ∧ ∃ ov', RdAt w' B R l' nv ov' N O') := by
  obtain ⟨na, nc, rfl, hna⟩ := own_form h.hN
  have HR : Hid (RdAt _ _ _ _ _ _ _ _) := h
  have HOB : Hid _ := hOb
  clear h hOb
  go_enter Tryd.func27, Tryd.ntmps27
  go_wp2_with fail
  go_loopw [4] (fun _ wr => ∃ (k : Nat) (l1 : List UInt8) (ov1 : Value), k ≤ O.length ∧ RdAt wr B R l1 (.slice na N.length nc) ov1 N (O.take k) ∧ Below B w wr ∧ closeP O.length l N O = closeP k l1 N (O.take k)) (fun _ wr => openLen wr R)
  case atStart => exact ⟨O.length, l, ov, Nat.le_refl _, by rw [List.take_of_length_le (Nat.le_refl _)]; exact HR.out, Below.refl _ _, by rw [List.take_of_length_le (Nat.le_refl _)]⟩
  case round =>
    obtain ⟨k, l1, ov1, hk, hr, hb, hc⟩ := hrel
    obtain ⟨oa, oc, rfl, hoa⟩ := own_form hr.hO
    have hlen : (O.take k).length = k := by rw [List.length_take]; omega
    rw [hlen] at hr hoa
    have HLEN : Hid ((O.take k).length = k) := hlen
    have HRk : Hid (RdAt _ _ _ _ _ _ _ _) := hr
    have HBk : Hid (Below _ _ _) := hb
    have HCk : Hid _ := hc
    have HOL : Hid (openLen wr R = k) := by show openLen wr R = k; rw [hr.openLen, hlen]
    obtain ⟨c0, c1, c2, f0, f1, f2⟩ := hr.cells
    have hlt := hr.lt
    have hwz := hb.size
    clear hb hc hlen
    cases k with
    | zero =>
      have F : Hid (closeP O.length l N O = some (false, l1, O.take 0)) := HCk.out.trans rfl
      clear hr
      go_wp2_with fail
      go_ret2
      exact ⟨false, by rw [F.out]; rfl, HBk.out, fun i l' O' he => by rw [F.out] at he; cases he; exact ⟨rfl, _, HRk.out⟩⟩
    | succ k =>
      obtain ⟨go, rfl⟩ := hoa (by omega)
      have hku : O.getD k 0 ∈ O := getD_mem (by omega)
      have hu := HOB.out _ hku
      obtain ⟨gn, rfl⟩ := hna (by omega)
      have y0 : wr.cell? ⟨go, k, none⟩ = some (.int .i64 ((O.getD k 0 : Nat) : Int)) := by
        have hO1 := hr.hO
        rw [HLEN.out] at hO1
        rw [hO1.cellAt k (by omega), natC_get _ _ (by rw [HLEN.out]; omega), getD_take]
      have y5 : wr.cell? ⟨gn, (O.getD k 0) * 6 + 5, none⟩ = some (.int .i64 (ndAt N (O.getD k 0)).r) := (hr.hN.cellAt _ (by omega)).trans (ndCells_get N (O.getD k 0) hu).2.2.2.2.2
      have hgo := (owns_lt hr.hO go rfl).2
      have hcap : k + 1 ≤ oc := by
        have hO1 := hr.hO
        rw [HLEN.out] at hO1
        obtain ⟨_, _, e, _, _, q, _⟩ := owns_some hO1 (by omega)
        injection e with _ _ e3
        rw [e3]; exact q
      have hgn := (owns_lt hr.hN gn rfl).2
      have HC1 : Hid (closeP O.length l N O = if (ndAt N (O.getD k 0)).r = -1 then (if Lib.hasPrefix l1 [32] = true then some (true, Lib.trimPrefix l1 [32], O.take (k + 1)) else none) else if Lib.hasPrefix l1 [41] = true then closeP k (Lib.trimPrefix l1 [41]) N (O.take k) else none) := by
        show closeP _ _ _ _ = _
        rw [HCk.out]
        simp only [closeP, getD_take, List.take_take, Nat.min_self, Nat.min_eq_left (Nat.le_succ k)]
      generalize O.getD k 0 = u at *
      have u0 : (0 : Int) ≤ (u : Int) := Int.natCast_nonneg _
      have u1 : (u : Int) < ((N.length : Nat) : Int) := by omega
      have k0 : (0 : Int) ≤ (k : Int) := Int.natCast_nonneg _
      have k1 : ((k : Nat) : Int) < ((k + 1 : Nat) : Int) := by omega
      have k2 : ((k + 1 : Nat) : Int) - 1 = (k : Int) := by omega
      clear hr hku
      by_cases hr1 : (ndAt N u).r = -1
      · have hd : ((ndAt N u).r == -1) = true := by simp [hr1]
        rw [if_pos hr1] at HC1
        rw [hr1] at y5
        clear hr1 hd
        cases hp : Lib.hasPrefix l1 [32] with
        | true =>
          have F : Hid (closeP O.length l N O = some (true, Lib.trimPrefix l1 [32], O.take (k + 1))) := by show closeP _ _ _ _ = _; rw [HC1.out, if_pos hp]
          have HP : Hid _ := hp
          clear hp
          go_wp2_with fail
          go_quiet (fail)
          go_wp2_with (first | (go_at_call 31; refine (take_any B R l1 [32] _ _ N (O.take (k + 1)) _ (HRk.out.quiet (Go.Joins.below_draws _ _ _))).mono ?_; rintro e w2 ⟨rfl, hr2, ht2⟩; rw [HP.out]))
          go_ret2
          exact ⟨true, by rw [F.out]; rfl, (below_drewN HBk.out _).trans (ht2.below (fun j q => by rw [q]; exact HRk.out.lo) (by show B ≤ wr.heap.size; omega)), fun i l' O' he => by rw [F.out] at he; cases he; exact ⟨rfl, _, hr2⟩⟩
        | false =>
          have F : Hid (closeP O.length l N O = none) := by show closeP _ _ _ _ = _; rw [HC1.out, if_neg (by rw [hp]; simp)]
          have HP : Hid _ := hp
          clear hp
          go_wp2_with fail
          go_quiet (fail)
          go_wp2_with (first | (go_at_call 31; refine (take_any B R l1 [32] _ _ N (O.take (k + 1)) _ (HRk.out.quiet (Go.Joins.below_draws _ _ _))).mono ?_; rintro e w2 ⟨rfl, hr2, ht2⟩; rw [HP.out]))
          go_ret2
          exact ⟨true, by rw [F.out]; rfl, (below_drewN HBk.out _).trans (ht2.below (fun j q => by rw [q]; exact HRk.out.lo) (by show B ≤ wr.heap.size; omega)), fun i l' O' he => by rw [F.out] at he; cases he⟩
      · have hd : ((ndAt N u).r == -1) = false := by simp [hr1]
        rw [if_neg hr1] at HC1
        clear hr1
        cases hp : Lib.hasPrefix l1 [41] with
        | false =>
          have F : Hid (closeP O.length l N O = none) := by show closeP _ _ _ _ = _; rw [HC1.out, if_neg (by rw [hp]; simp)]
          have HP : Hid _ := hp
          clear hp
          go_wp2_with fail
          go_quiet (fail)
          go_wp2_with (first | (go_at_call 31; refine (take_any B R l1 [41] _ _ N (O.take (k + 1)) _ (HRk.out.quiet (Go.Joins.below_draws _ _ _))).mono ?_; rintro e w2 ⟨rfl, hr2, ht2⟩; rw [HP.out]))
          go_ret2
          exact ⟨false, by rw [F.out]; rfl, (below_drewN HBk.out _).trans (ht2.below (fun j q => by rw [q]; exact HRk.out.lo) (by show B ≤ wr.heap.size; omega)), fun i l' O' he => by rw [F.out] at he; cases he⟩
        | true =>
          have F : Hid (closeP O.length l N O = closeP k (Lib.trimPrefix l1 [41]) N (O.take k)) := by show closeP _ _ _ _ = _; rw [HC1.out, if_pos hp]
          have HP : Hid _ := hp
          clear hp
          go_wp2_with fail
          go_quiet (fail)
          go_wp2_with (first | (go_at_call 31; refine (take_any B R l1 [41] _ _ N (O.take (k + 1)) _ (HRk.out.quiet (Go.Joins.below_draws _ _ _))).mono ?_; rintro e w2 ⟨rfl, hr2, ht2⟩; rw [HP.out]; have HR2 : Hid (RdAt _ _ _ _ _ _ _ _) := hr2; have HB2 : Hid (Below B w w2) := (below_drewN HBk.out _).trans (ht2.below (fun j q => by rw [q]; exact HRk.out.lo) (by show B ≤ wr.heap.size; omega)); obtain ⟨d0, d1, d2, e0, e1, e2⟩ := hr2.cells; have hlt2 := hr2.lt; clear hr2 ht2))
          have HS : Hid (RdAt _ _ _ _ _ _ _ _) := HR2.out.shut k (by rw [HLEN.out]; omega)
          refine ⟨⟨k, Lib.trimPrefix l1 [41], _, by omega, by rw [← take_take_le]; exact HS.out, HB2.out.setCell (p := ⟨R, 2, none⟩) HR2.out.lo _, F.out⟩, ?_⟩
          rw [HS.out.openLen, HOL.out, take_take_le, List.length_take]
          omega
end Go.Proofs.YtegajbfefhljmaaDoor

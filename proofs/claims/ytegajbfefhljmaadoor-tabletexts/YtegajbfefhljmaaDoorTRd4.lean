
/- Layer 16: the reader's value. -/

import Derived.Test.YtegajbfefhljmaaDoorTRd3

namespace Go.Proofs.YtegajbfefhljmaaDoor

open Go.RowKit

attribute [local go_sem ↓] Go.wp_at_zero Go.wp_at_succ

theorem RdAt.drew {w : World} {B R : Nat} {l : List UInt8} {nv ov : Value} {N : NL} {O : List Nat} (h : RdAt w B R l nv ov N O) : RdAt w.drew B R l nv ov N O := ⟨h.lo, h.blk, h.hN.drew, h.hO.drew⟩
theorem below_drew0 (B : Nat) (w : World) : Below B w w.drew := ⟨rfl, rfl, rfl, Nat.le_refl _, fun _ _ => rfl⟩

set_option maxRecDepth 100000 in
set_option maxHeartbeats 2000000 in
theorem value_any (B R : Nat) (l : List UInt8) (nv ov : Value) (N : NL) (O : List Nat) (w : World) (h : RdAt w B R l nv ov N O) (hN0 : 0 < N.length) (hN1 : N.length ≤ 9000000) (hl : l.length ≤ 8000000) (hB : B ≤ w.heap.size) (hlaid : LaidB B w) :
    Calls Tryd.prog 35 #[.pointer (some ⟨R, 0, none⟩)] w fun e w' => e = .returned (.bool (valueP l N).isSome) ∧ (∀ N' l', valueP l N = some (N', l') → RdAt w' B R l' nv ov N' O) ∧ Turn (fun k => k = R ∨ nv.ownBlock = some k) w w' := by
  obtain ⟨na, nc, rfl, hna⟩ := own_form h.hN
  obtain ⟨g, rfl⟩ := hna (by omega)
  have HR : Hid (RdAt _ _ _ _ _ _ _ _) := h
  have HL : Hid (LaidB _ _) := hlaid
  have hlt := h.lt
  have hgR := h.sepN g rfl
  have hgl := (owns_lt h.hN g rfl).2
  clear h hlaid hna
  cases hp : Lib.hasPrefix l [61] with
  | false =>
    have F : Hid (valueP l N = none) := by show valueP l N = _; unfold valueP; rw [if_neg (by rw [hp]; simp)]
    go_enter Tryd.func35, Tryd.ntmps35
    go_wp2_with (first | (go_at_call 31; refine (take_any B R l [61] _ ov N O _ HR.out).mono ?_; rintro e w1 ⟨rfl, hr1, ht1⟩; rw [hp]; have HT1 : Hid (Turn _ _ _) := ht1; clear hr1 ht1))
    go_ret
    refine ⟨by rw [F.out]; rfl, fun N' l' he => ?_, HT1.out.mono (fun k q => Or.inl q)⟩
    rw [F.out] at he; cases he
  | true =>
    have F : Hid (valueP l N = (numV (Lib.trimPrefix l [61])).map fun v => (N.set (N.length - 1) { ndAt N (N.length - 1) with val := v }, numR (Lib.trimPrefix l [61]))) := by show valueP l N = _; unfold valueP; rw [if_pos hp]
    have hl1 : (Lib.trimPrefix l [61]).length ≤ 8000000 := Nat.le_trans (trim_le _ _) hl
    have HV3 : Hid (∀ v, ndCells (N.set (N.length - 1) { ndAt N (N.length - 1) with val := v }) = (ndCells N).set ((N.length - 1) * 6 + 3) (.int .i64 v)) := fun v => ndCells_v N (N.length - 1) v (by omega)
    have n0 : (0 : Int) ≤ ((N.length - 1 : Nat) : Int) := by omega
    have n1 : ((N.length - 1 : Nat) : Int) < ((N.length : Nat) : Int) := by omega
    have n2 : IntKind.i64.wrap (((N.length : Nat) : Int) - 1) = ((N.length - 1 : Nat) : Int) := by rw [show ((N.length : Nat) : Int) - 1 = ((N.length - 1 : Nat) : Int) by omega, IntKind.wrap_i64] <;> omega
    have n3 : N.length - 1 < N.length := by omega
    go_enter Tryd.func35, Tryd.ntmps35
    go_wp2_with (first | (go_at_call 31; refine (take_any B R l [61] _ ov N O _ HR.out).mono ?_; rintro e w1 ⟨rfl, hr1, ht1⟩; rw [hp]; have HT1 : Hid (Turn _ _ _) := ht1; have HR1 : Hid (RdAt _ _ _ _ _ _ _ _) := hr1; have c1 := hr1.cells.2.1; have hz1 := ht1.size; have HBL : Hid (Below B w w1) := ht1.below (fun k q => by rw [q]; exact HR.out.lo) hB; clear hr1 ht1))
    have HRD : Hid (RdAt w1.drew _ _ _ _ _ _ _) := HR1.out.drew
    have HLD : Hid (LaidB B w1.drew) := LaidB.on (LaidB.on HL.out HBL.out) (below_drew0 _ _)
    have hB1 : B ≤ w1.drew.heap.size := by show B ≤ w1.heap.size; omega
    go_region_held3 (fun w' => w'.cell? ⟨R, 1, none⟩ = some (.slice (some ⟨g, 0, none⟩) N.length nc))
      (first
        | go_keep
        | (exact CC))
      (first
        | (go_at_call 38; refine (number_any B R (Lib.trimPrefix l [61]) _ ov N O _ HRD.out hl1 hB1 HLD.out).mono ?_; rintro e w2 ⟨v, rfl, hv, hr2, ht2⟩; have CC := hr2.cells.2.1; have y3 : w2.cell? ⟨g, (N.length - 1) * 6 + 3, none⟩ = some (.int .i64 (ndAt N (N.length - 1)).val) := (hr2.hN.cellAt ((N.length - 1) * 6 + 3) (by omega)).trans (ndCells_get N (N.length - 1) (by omega)).2.2.2.1; have z3 : w2.frozen? ⟨g, (N.length - 1) * 6 + 3, none⟩ = false := hr2.hN.frozenAt _; have hz2 := ht2.size))
    have HV : Hid _ := hv
    have HR2 : Hid (RdAt _ _ _ _ _ _ _ _) := hr2
    have HT2 : Hid (Turn (fun k => k = R) w w2) := (HT1.out.trans (Turn.ofBelow (below_drew0 _ _))).trans ht2
    clear hv hr2 ht2 CC
    go_wp2_with fail
    go_ret
    refine ⟨by rw [F.out, Option.isSome_map]; rfl, fun N' l' he => ?_, ?_⟩
    · rw [F.out] at he
      obtain ⟨x, hx, he⟩ := Option.map_eq_some_iff.1 he
      cases he
      have hvx := HV.out x hx
      subst hvx
      exact HR2.out.setNode _ _ (by simp) (HV3.out _)
    · exact (HT2.out.mono (fun k q => Or.inl q)).setCell g _ _ (Or.inr rfl)
end Go.Proofs.YtegajbfefhljmaaDoor

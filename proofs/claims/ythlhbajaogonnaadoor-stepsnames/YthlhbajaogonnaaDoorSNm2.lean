
/- Layer 18: Name and Of, of both. Made by mk_snm2.py. -/

import Derived.Test.YthlhbajaogonnaaDoorSNm

import Derived.Laws.ResultCell

namespace Go.Proofs.YthlhbajaogonnaaDoor

open Go.RowKit

attribute [local go_sem ↓] Go.wp_at_zero Go.wp_at_succ

set_option maxRecDepth 100000 in
theorem pName_any (k : Int) (mi : Bool) (w : World) (h : NmAt w) : Calls Tryd.prog 7 #[.agg #[.int .i64 k, .bool mi]] w fun e w' => e = .returned (.tuple #[.string ⟨(nameL k mi).toArray⟩, .int .i64 (nameE k mi)]) ∧ Below w.heap.size w w' := by
  cases hm : mvB k mi
  · have e1 : nameL k mi = [] := by unfold nameL; rw [if_neg (by simp [hm])]
    have e2 : nameE k mi = 5 := by unfold nameE; rw [if_neg (by simp [hm])]
    have IM : Hid (∀ W, Calls Tryd.prog 20 #[.agg #[.int .i64 k, .bool mi]] W fun e w' => e = .returned (.bool false) ∧ Below W.heap.size W w') := fun W => by have q := isMove_any k mi W; rw [hm] at q; exact q
    have B0 : Hid (Below w.heap.size w (w.alloc (.cells #[.int .i64 k, .bool mi] 32))) := below_alloc _ _
    rw [e1, e2]
    clear e1 e2 hm h
    go_enter Tryd.func7, Tryd.ntmps7
    go_wp2_with fail
    refine (IM.out _).mono ?_
    rintro e w1 ⟨rfl, hb⟩
    have B1 : Hid (Below w.heap.size w w1) := B0.out.trans (hb.mono B0.out.size)
    clear hb
    go_wp2_with fail
    go_ret2
    exact ⟨rfl, B1.out⟩
  · obtain ⟨hk, hx⟩ := mv_kinds hm
    rcases hk with rfl | rfl | rfl | rfl | rfl | rfl | rfl | rfl | rfl | rfl | rfl | rfl
    · cases mi
      · have e1 : nameL 1 false = [66, 76, 75] := by decide
        have e2 : nameE 1 false = 0 := by decide
        rw [e1, e2]
        exact pnm1f w h
      · exact absurd (hx rfl) (by decide)
    · cases mi
      · have e1 : nameL 2 false = [82, 66, 49] := by decide
        have e2 : nameE 2 false = 0 := by decide
        rw [e1, e2]
        exact pnm2f w h
      · have e1 : nameL 2 true = [82, 66, 49, 32, 109, 105, 114, 114, 111, 114] := by decide
        have e2 : nameE 2 true = 0 := by decide
        rw [e1, e2]
        exact pnm2t w h
    · cases mi
      · have e1 : nameL 3 false = [82, 66, 50] := by decide
        have e2 : nameE 3 false = 0 := by decide
        rw [e1, e2]
        exact pnm3f w h
      · have e1 : nameL 3 true = [82, 66, 50, 32, 109, 105, 114, 114, 111, 114] := by decide
        have e2 : nameE 3 true = 0 := by decide
        rw [e1, e2]
        exact pnm3t w h
    · cases mi
      · have e1 : nameL 4 false = [80, 85, 83, 72] := by decide
        have e2 : nameE 4 false = 0 := by decide
        rw [e1, e2]
        exact pnm4f w h
      · have e1 : nameL 4 true = [80, 85, 83, 72, 32, 109, 105, 114, 114, 111, 114] := by decide
        have e2 : nameE 4 true = 0 := by decide
        rw [e1, e2]
        exact pnm4t w h
    · cases mi
      · have e1 : nameL 5 false = [87, 49] := by decide
        have e2 : nameE 5 false = 0 := by decide
        rw [e1, e2]
        exact pnm5f w h
      · have e1 : nameL 5 true = [87, 49, 32, 109, 105, 114, 114, 111, 114] := by decide
        have e2 : nameE 5 true = 0 := by decide
        rw [e1, e2]
        exact pnm5t w h
    · cases mi
      · have e1 : nameL 6 false = [87, 50] := by decide
        have e2 : nameE 6 false = 0 := by decide
        rw [e1, e2]
        exact pnm6f w h
      · have e1 : nameL 6 true = [87, 50, 32, 109, 105, 114, 114, 111, 114] := by decide
        have e2 : nameE 6 true = 0 := by decide
        rw [e1, e2]
        exact pnm6t w h
    · cases mi
      · have e1 : nameL 7 false = [87, 51] := by decide
        have e2 : nameE 7 false = 0 := by decide
        rw [e1, e2]
        exact pnm7f w h
      · have e1 : nameL 7 true = [87, 51, 32, 109, 105, 114, 114, 111, 114] := by decide
        have e2 : nameE 7 true = 0 := by decide
        rw [e1, e2]
        exact pnm7t w h
    · cases mi
      · have e1 : nameL 8 false = [87, 52] := by decide
        have e2 : nameE 8 false = 0 := by decide
        rw [e1, e2]
        exact pnm8f w h
      · have e1 : nameL 8 true = [87, 52, 32, 109, 105, 114, 114, 111, 114] := by decide
        have e2 : nameE 8 true = 0 := by decide
        rw [e1, e2]
        exact pnm8t w h
    · cases mi
      · have e1 : nameL 9 false = [87, 53] := by decide
        have e2 : nameE 9 false = 0 := by decide
        rw [e1, e2]
        exact pnm9f w h
      · have e1 : nameL 9 true = [87, 53, 32, 109, 105, 114, 114, 111, 114] := by decide
        have e2 : nameE 9 true = 0 := by decide
        rw [e1, e2]
        exact pnm9t w h
    · cases mi
      · have e1 : nameL 10 false = [87, 54] := by decide
        have e2 : nameE 10 false = 0 := by decide
        rw [e1, e2]
        exact pnm10f w h
      · have e1 : nameL 10 true = [87, 54, 32, 109, 105, 114, 114, 111, 114] := by decide
        have e2 : nameE 10 true = 0 := by decide
        rw [e1, e2]
        exact pnm10t w h
    · cases mi
      · have e1 : nameL 11 false = [87, 55] := by decide
        have e2 : nameE 11 false = 0 := by decide
        rw [e1, e2]
        exact pnm11f w h
      · exact absurd (hx rfl) (by decide)
    · cases mi
      · have e1 : nameL 12 false = [82, 79, 79, 84] := by decide
        have e2 : nameE 12 false = 0 := by decide
        rw [e1, e2]
        exact pnm12f w h
      · exact absurd (hx rfl) (by decide)
set_option maxRecDepth 100000 in
theorem rName_any (k : Int) (mi : Bool) (w : World) (h : ∀ (k : Int) (mi : Bool) W, Calls Tryd.prog 18 #[.agg #[.int .i64 k, .bool mi]] W fun e w' => e = .returned (.bool (mvB k mi)) ∧ Below W.heap.size W w') : Calls Tryd.prog 5 #[.agg #[.int .i64 k, .bool mi]] w fun e w' => e = .returned (.tuple #[.string ⟨(nameL k mi).toArray⟩, .int .i64 (nameE k mi)]) ∧ Below w.heap.size w w' := by
  cases hm : mvB k mi
  · have e1 : nameL k mi = [] := by unfold nameL; rw [if_neg (by simp [hm])]
    have e2 : nameE k mi = 5 := by unfold nameE; rw [if_neg (by simp [hm])]
    have IM : Hid (∀ W, Calls Tryd.prog 18 #[.agg #[.int .i64 k, .bool mi]] W fun e w' => e = .returned (.bool false) ∧ Below W.heap.size W w') := fun W => by have q := h k mi W; rw [hm] at q; exact q
    have B0 : Hid (Below w.heap.size w (w.alloc (.cells #[.int .i64 k, .bool mi] 23))) := below_alloc _ _
    rw [e1, e2]
    clear e1 e2 hm h
    go_enter Tryd.func5, Tryd.ntmps5
    go_wp2_with fail
    refine (IM.out _).mono ?_
    rintro e w1 ⟨rfl, hb⟩
    have B1 : Hid (Below w.heap.size w w1) := B0.out.trans (hb.mono B0.out.size)
    clear hb
    go_wp2_with fail
    go_ret2
    exact ⟨rfl, B1.out⟩
  · obtain ⟨hk, hx⟩ := mv_kinds hm
    rcases hk with rfl | rfl | rfl | rfl | rfl | rfl | rfl | rfl | rfl | rfl | rfl | rfl
    · cases mi
      · have e1 : nameL 1 false = [66, 76, 75] := by decide
        have e2 : nameE 1 false = 0 := by decide
        rw [e1, e2]
        exact rnm1f w (fun W => h 1 false W)
      · exact absurd (hx rfl) (by decide)
    · cases mi
      · have e1 : nameL 2 false = [82, 66, 49] := by decide
        have e2 : nameE 2 false = 0 := by decide
        rw [e1, e2]
        exact rnm2f w (fun W => h 2 false W)
      · have e1 : nameL 2 true = [82, 66, 49, 32, 109, 105, 114, 114, 111, 114] := by decide
        have e2 : nameE 2 true = 0 := by decide
        rw [e1, e2]
        exact rnm2t w (fun W => h 2 true W)
    · cases mi
      · have e1 : nameL 3 false = [82, 66, 50] := by decide
        have e2 : nameE 3 false = 0 := by decide
        rw [e1, e2]
        exact rnm3f w (fun W => h 3 false W)
      · have e1 : nameL 3 true = [82, 66, 50, 32, 109, 105, 114, 114, 111, 114] := by decide
        have e2 : nameE 3 true = 0 := by decide
        rw [e1, e2]
        exact rnm3t w (fun W => h 3 true W)
    · cases mi
      · have e1 : nameL 4 false = [80, 85, 83, 72] := by decide
        have e2 : nameE 4 false = 0 := by decide
        rw [e1, e2]
        exact rnm4f w (fun W => h 4 false W)
      · have e1 : nameL 4 true = [80, 85, 83, 72, 32, 109, 105, 114, 114, 111, 114] := by decide
        have e2 : nameE 4 true = 0 := by decide
        rw [e1, e2]
        exact rnm4t w (fun W => h 4 true W)
    · cases mi
      · have e1 : nameL 5 false = [87, 49] := by decide
        have e2 : nameE 5 false = 0 := by decide
        rw [e1, e2]
        exact rnm5f w (fun W => h 5 false W)
      · have e1 : nameL 5 true = [87, 49, 32, 109, 105, 114, 114, 111, 114] := by decide
        have e2 : nameE 5 true = 0 := by decide
        rw [e1, e2]
        exact rnm5t w (fun W => h 5 true W)
    · cases mi
      · have e1 : nameL 6 false = [87, 50] := by decide
        have e2 : nameE 6 false = 0 := by decide
        rw [e1, e2]
        exact rnm6f w (fun W => h 6 false W)
      · have e1 : nameL 6 true = [87, 50, 32, 109, 105, 114, 114, 111, 114] := by decide
        have e2 : nameE 6 true = 0 := by decide
        rw [e1, e2]
        exact rnm6t w (fun W => h 6 true W)
    · cases mi
      · have e1 : nameL 7 false = [87, 51] := by decide
        have e2 : nameE 7 false = 0 := by decide
        rw [e1, e2]
        exact rnm7f w (fun W => h 7 false W)
      · have e1 : nameL 7 true = [87, 51, 32, 109, 105, 114, 114, 111, 114] := by decide
        have e2 : nameE 7 true = 0 := by decide
        rw [e1, e2]
        exact rnm7t w (fun W => h 7 true W)
    · cases mi
      · have e1 : nameL 8 false = [87, 52] := by decide
        have e2 : nameE 8 false = 0 := by decide
        rw [e1, e2]
        exact rnm8f w (fun W => h 8 false W)
      · have e1 : nameL 8 true = [87, 52, 32, 109, 105, 114, 114, 111, 114] := by decide
        have e2 : nameE 8 true = 0 := by decide
        rw [e1, e2]
        exact rnm8t w (fun W => h 8 true W)
    · cases mi
      · have e1 : nameL 9 false = [87, 53] := by decide
        have e2 : nameE 9 false = 0 := by decide
        rw [e1, e2]
        exact rnm9f w (fun W => h 9 false W)
      · have e1 : nameL 9 true = [87, 53, 32, 109, 105, 114, 114, 111, 114] := by decide
        have e2 : nameE 9 true = 0 := by decide
        rw [e1, e2]
        exact rnm9t w (fun W => h 9 true W)
    · cases mi
      · have e1 : nameL 10 false = [87, 54] := by decide
        have e2 : nameE 10 false = 0 := by decide
        rw [e1, e2]
        exact rnm10f w (fun W => h 10 false W)
      · have e1 : nameL 10 true = [87, 54, 32, 109, 105, 114, 114, 111, 114] := by decide
        have e2 : nameE 10 true = 0 := by decide
        rw [e1, e2]
        exact rnm10t w (fun W => h 10 true W)
    · cases mi
      · have e1 : nameL 11 false = [87, 55] := by decide
        have e2 : nameE 11 false = 0 := by decide
        rw [e1, e2]
        exact rnm11f w (fun W => h 11 false W)
      · exact absurd (hx rfl) (by decide)
    · cases mi
      · have e1 : nameL 12 false = [82, 79, 79, 84] := by decide
        have e2 : nameE 12 false = 0 := by decide
        rw [e1, e2]
        exact rnm12f w (fun W => h 12 false W)
      · exact absurd (hx rfl) (by decide)
/-- The first move of a row that has the name. -/
def ofF (V : List (Int × Bool)) (s : List UInt8) : Option (Int × Bool) := V.find? fun m => nameL m.1 m.2 == s
def ofM (V : List (Int × Bool)) (s : List UInt8) : Int × Bool := (ofF V s).getD (0, false)
def ofE (V : List (Int × Bool)) (s : List UInt8) : Int := if (ofF V s).isSome then 0 else 7
theorem of_at {s : List UInt8} : ∀ {V : List (Int × Bool)} {j : Nat}, j < V.length → (∀ i, i < j → nameL (V.getD i (0, false)).1 (V.getD i (0, false)).2 ≠ s) → nameL (V.getD j (0, false)).1 (V.getD j (0, false)).2 = s → ofM V s = V.getD j (0, false) ∧ ofE V s = 0
  | m :: V, 0, _, _, h => by
    have h' : nameL m.1 m.2 = s := h
    have e : ofF (m :: V) s = some m := by unfold ofF; rw [List.find?_cons_of_pos (by simp [h'])]
    exact ⟨by unfold ofM; rw [e]; rfl, by unfold ofE; rw [e]; rfl⟩
  | m :: V, j + 1, hj, hn, h => by
    have h0 : nameL m.1 m.2 ≠ s := hn 0 (by omega)
    have e : ofF (m :: V) s = ofF V s := by unfold ofF; rw [List.find?_cons_of_neg (by simp [h0])]
    obtain ⟨q1, q2⟩ := of_at (V := V) (j := j) (by simpa using hj) (fun i hi => hn (i + 1) (by omega)) h
    exact ⟨by unfold ofM at q1 ⊢; rw [e, q1]; rfl, by unfold ofE at q2 ⊢; rw [e]; exact q2⟩
theorem of_none {s : List UInt8} {V : List (Int × Bool)} (h : ∀ i, i < V.length → nameL (V.getD i (0, false)).1 (V.getD i (0, false)).2 ≠ s) : ofM V s = (0, false) ∧ ofE V s = 7 := by
  have e : ofF V s = none := by
    unfold ofF
    rw [List.find?_eq_none]
    intro m hm
    obtain ⟨i, hi, rfl⟩ := List.mem_iff_getElem.1 hm
    have q := h i hi
    rw [List.getD_eq_getElem?_getD, List.getElem?_eq_getElem hi] at q
    simpa using q
  exact ⟨by unfold ofM; rw [e]; rfl, by unfold ofE; rw [e]; rfl⟩
/-- A row of moves that is read. -/
structure MrAt (w : World) (g : Nat) (V : List (Int × Bool)) : Prop where
  lt : g < w.heap.size
  cells : ∀ j, j < V.length → w.cell? ⟨g, j * 2, none⟩ = some (.int .i64 (V.getD j (0, false)).1) ∧ w.cell? ⟨g, j * 2 + 1, none⟩ = some (.bool (V.getD j (0, false)).2)
theorem MrAt.below {w y : World} {g : Nat} {V : List (Int × Bool)} (h : MrAt w g V) (hb : Below w.heap.size w y) : MrAt y g V :=
  ⟨Nat.lt_of_lt_of_le h.lt hb.size, fun j hj => ⟨(hb.cell (p := ⟨g, j * 2, none⟩) h.lt).trans (h.cells j hj).1, (hb.cell (p := ⟨g, j * 2 + 1, none⟩) h.lt).trans (h.cells j hj).2⟩⟩
set_option maxRecDepth 100000 in
set_option maxHeartbeats 4000000 in
theorem pOf_any (s : List UInt8) (V : List (Int × Bool)) (hV : V.length = 21) (w : World) (h : NmAt w) (hA : ∀ W, Calls Tryd.prog 11 #[] W fun e w' => ∃ (g c : Nat), e = .returned (.slice (some ⟨g, 0, none⟩) 21 c) ∧ MrAt w' g V ∧ Below W.heap.size W w') :
    Calls Tryd.prog 10 #[.string ⟨s.toArray⟩] w fun e w' => e = .returned (.tuple #[.agg #[.int .i64 (ofM V s).1, .bool (ofM V s).2], .int .i64 (ofE V s)]) ∧ Below w.heap.size w w' := by
  have HN : Hid (∀ z, Below w.heap.size w z → NmAt z) := fun z hz => h.below hz
  have PA : Hid (∀ W, Calls Tryd.prog 11 #[] W fun e w' => ∃ (g c : Nat), e = .returned (.slice (some ⟨g, 0, none⟩) 21 c) ∧ MrAt w' g V ∧ Below W.heap.size W w') := hA
  have B0 : Hid (Below w.heap.size w (w.alloc (.cells #[.int .i64 0, .bool false] 32))) := below_alloc _ _
  have HV : Hid (V.length = 21) := hV
  obtain ⟨m1o, hm1⟩ : ∃ m1o, m1o = (ofM V s).1 := ⟨_, rfl⟩
  obtain ⟨m2o, hm2⟩ : ∃ m2o, m2o = (ofM V s).2 := ⟨_, rfl⟩
  obtain ⟨eo, heo⟩ : ∃ eo, eo = ofE V s := ⟨_, rfl⟩
  have FO : Hid (m1o = (ofM V s).1 ∧ m2o = (ofM V s).2 ∧ eo = ofE V s) := ⟨hm1, hm2, heo⟩
  rw [← hm1, ← hm2, ← heo]
  clear h hA hV hm1 hm2 heo
  go_enter Tryd.func10, Tryd.ntmps10
  go_wp2_with fail
  refine (PA.out _).mono ?_
  rintro e w1 ⟨g1, c1, rfl, hm, hb⟩
  have M1 : Hid (MrAt w1 g1 V) := hm
  have B1 : Hid (Below w.heap.size w w1) := B0.out.trans (hb.mono B0.out.size)
  have R1 : Hid (w1.heap[w.heap.size]? = some (.cells #[.int .i64 0, .bool false] 32 (0, 0))) := (hb.block _ (by simp)).trans (heap_alloc_at _ _ _ rfl)
  have rl : w.heap.size < w1.heap.size := (Array.getElem?_eq_some_iff.1 R1.out).1
  clear hb hm
  go_wp2_with fail
  go_loopw [10] (fun i wr => ∃ j : Nat, j ≤ 21 ∧ i = .int .i64 j ∧ Below w1.heap.size w1 wr ∧ ∀ i, i < j → nameL (V.getD i (0, false)).1 (V.getD i (0, false)).2 ≠ s) (fun i _ => 21 - (intOf i).toNat)
  case atStart => exact ⟨0, Nat.zero_le _, rfl, Below.refl _ _, fun i hi => by omega⟩
  case round =>
    obtain ⟨j, hj, rfl, hbw, hno⟩ := hrel
    have j0 : (0 : Int) ≤ (j : Int) := Int.natCast_nonneg _
    have BW : Hid (Below w1.heap.size w1 wr) := hbw
    have NO : Hid (∀ i, i < j → nameL (V.getD i (0, false)).1 (V.getD i (0, false)).2 ≠ s) := hno
    have WW : Hid (Below w.heap.size w wr) := B1.out.trans (hbw.mono B1.out.size)
    by_cases hlt : j < 21
    · have jlt : (j : Int) < 21 := by omega
      obtain ⟨x0, x1⟩ := (M1.out.below hbw).cells j (by rw [HV.out]; exact hlt)
      have lg := (M1.out.below hbw).lt
      have NA : Hid (∀ z, Below w.heap.size w z → Calls Tryd.prog 7 #[.agg #[.int .i64 (V.getD j (0, false)).1, .bool (V.getD j (0, false)).2]] z fun e w' => e = .returned (.tuple #[.string ⟨(nameL (V.getD j (0, false)).1 (V.getD j (0, false)).2).toArray⟩, .int .i64 (nameE (V.getD j (0, false)).1 (V.getD j (0, false)).2)]) ∧ Below z.heap.size z w') := fun z hz => pName_any _ _ z (HN.out z hz)
      by_cases hq : nameL (V.getD j (0, false)).1 (V.getD j (0, false)).2 = s
      · obtain ⟨f1, f2⟩ := of_at (V := V) (j := j) (by rw [HV.out]; exact hlt) hno hq
        have EK : Hid (m1o = (V.getD j (0, false)).1 ∧ m2o = (V.getD j (0, false)).2 ∧ eo = 0) := ⟨by rw [FO.out.1, f1], by rw [FO.out.2.1, f1], by rw [FO.out.2.2, f2]⟩
        have dq : (nameL (V.getD j (0, false)).1 (V.getD j (0, false)).2 == s) = true := beq_iff_eq.2 hq
        clear hno f1 f2 hq hbw
        generalize (nameE (V.getD j (0, false)).1 (V.getD j (0, false)).2) = ne at *
        generalize (nameL (V.getD j (0, false)).1 (V.getD j (0, false)).2) = nl at *
        generalize (V.getD j (0, false)).1 = mk at *
        generalize (V.getD j (0, false)).2 = mm at *
        have BA : Hid (Below w.heap.size w (wr.alloc (.cells #[.int .i64 mk, .bool mm] 32))) := WW.out.alloc WW.out.size _
        go_wp2_with fail
        refine (NA.out _ BA.out).mono ?_
        rintro e w2 ⟨rfl, hb⟩
        have X2 : Hid (w2.heap[wr.heap.size]? = some (.cells #[.int .i64 mk, .bool mm] 32 (0, 0))) := (hb.block _ (by simp)).trans (heap_alloc_at _ _ _ rfl)
        have b0 := (cell_of X2.out 0 _ rfl).1
        have b1 := (cell_of X2.out 1 _ rfl).1
        have bl : wr.heap.size < w2.heap.size := (Array.getElem?_eq_some_iff.1 X2.out).1
        have B2 : Hid (Below w1.heap.size w1 w2) := (BW.out.alloc BW.out.size _).trans (hb.mono (by have := BW.out.size; simp; omega))
        have R2 : Hid (w2.heap[w.heap.size]? = some (.cells #[.int .i64 0, .bool false] 32 (0, 0))) := (B2.out.block _ rl).trans R1.out
        have r0 := cell_of R2.out 0 _ rfl
        have r1 := cell_of R2.out 1 _ rfl
        have rl2 : w.heap.size < w2.heap.size := (Array.getElem?_eq_some_iff.1 R2.out).1
        have W2 : Hid (Below w.heap.size w w2) := B1.out.trans (B2.out.mono B1.out.size)
        clear hb
        go_wp2_with fail
        (try simp only [Exit.inBlock, Exit.then])
        refine bodyPost_ret (v := .tuple #[.agg #[.int .i64 mk, .bool mm], .int .i64 0]) ?_ rfl ⟨by rw [EK.out.1, EK.out.2.1, EK.out.2.2], ?_⟩
        · rw [results_cell_tmp rfl]; go_simp
        · exact (W2.out.setCell (Nat.le_refl _) _).setCell (Nat.le_refl _) _
      · have dq : (nameL (V.getD j (0, false)).1 (V.getD j (0, false)).2 == s) = false := beq_eq_false_iff_ne.2 hq
        have NO2 : Hid (∀ i, i < j + 1 → nameL (V.getD i (0, false)).1 (V.getD i (0, false)).2 ≠ s) := fun i hi => by
          by_cases e : i = j
          · rw [e]; exact hq
          · exact NO.out i (by omega)
        clear hno hq hbw
        generalize (nameE (V.getD j (0, false)).1 (V.getD j (0, false)).2) = ne at *
        generalize hnl : (nameL (V.getD j (0, false)).1 (V.getD j (0, false)).2) = nl at NA dq
        generalize (V.getD j (0, false)).1 = mk at x0 NA
        generalize (V.getD j (0, false)).2 = mm at x1 NA
        clear hnl
        have BA : Hid (Below w.heap.size w (wr.alloc (.cells #[.int .i64 mk, .bool mm] 32))) := WW.out.alloc WW.out.size _
        go_wp2_with fail
        refine (NA.out _ BA.out).mono ?_
        rintro e w2 ⟨rfl, hb⟩
        have B2 : Hid (Below w1.heap.size w1 w2) := (BW.out.alloc BW.out.size _).trans (hb.mono (by have := BW.out.size; simp; omega))
        clear hb
        go_wp2_with fail
        exact ⟨⟨j + 1, by omega, by go_num, B2.out, NO2.out⟩, by simp [intOf]; omega⟩
    · have nlt : ¬ ((j : Int) < 21) := by omega
      obtain ⟨f1, f2⟩ := of_none (V := V) (s := s) (fun i hi => hno i (by rw [HV.out] at hi; omega))
      have EK : Hid (m1o = 0 ∧ m2o = false ∧ eo = 7) := ⟨by rw [FO.out.1, f1], by rw [FO.out.2.1, f1], by rw [FO.out.2.2, f2]⟩
      have R2 : Hid (wr.heap[w.heap.size]? = some (.cells #[.int .i64 0, .bool false] 32 (0, 0))) := (hbw.block _ rl).trans R1.out
      have r0 := cell_of R2.out 0 _ rfl
      have r1 := cell_of R2.out 1 _ rfl
      have rl2 : w.heap.size < wr.heap.size := (Array.getElem?_eq_some_iff.1 R2.out).1
      clear hno f1 f2 hbw
      go_wp2_with fail
      (try simp only [Exit.inBlock, Exit.then])
      refine bodyPost_ret (v := .tuple #[.agg #[.int .i64 0, .bool false], .int .i64 7]) ?_ rfl ⟨by rw [EK.out.1, EK.out.2.1, EK.out.2.2], ?_⟩
      · rw [results_cell_tmp rfl]; go_simp
      · exact (WW.out.setCell (Nat.le_refl _) _).setCell (Nat.le_refl _) _
set_option maxRecDepth 100000 in
set_option maxHeartbeats 4000000 in
theorem rOf_any (s : List UInt8) (V : List (Int × Bool)) (hV : V.length = 21) (w : World) (h : ∀ (k : Int) (mi : Bool) W, Calls Tryd.prog 18 #[.agg #[.int .i64 k, .bool mi]] W fun e w' => e = .returned (.bool (mvB k mi)) ∧ Below W.heap.size W w') (hA : ∀ W, Calls Tryd.prog 14 #[] W fun e w' => ∃ (g c : Nat), e = .returned (.slice (some ⟨g, 0, none⟩) 21 c) ∧ MrAt w' g V ∧ Below W.heap.size W w') :
    Calls Tryd.prog 6 #[.string ⟨s.toArray⟩] w fun e w' => e = .returned (.tuple #[.agg #[.int .i64 (ofM V s).1, .bool (ofM V s).2], .int .i64 (ofE V s)]) ∧ Below w.heap.size w w' := by
  have HN : Hid (∀ (k : Int) (mi : Bool) W, Calls Tryd.prog 18 #[.agg #[.int .i64 k, .bool mi]] W fun e w' => e = .returned (.bool (mvB k mi)) ∧ Below W.heap.size W w') := h
  have PA : Hid (∀ W, Calls Tryd.prog 14 #[] W fun e w' => ∃ (g c : Nat), e = .returned (.slice (some ⟨g, 0, none⟩) 21 c) ∧ MrAt w' g V ∧ Below W.heap.size W w') := hA
  have B0 : Hid (Below w.heap.size w (w.alloc (.cells #[.int .i64 0, .bool false] 23))) := below_alloc _ _
  have HV : Hid (V.length = 21) := hV
  obtain ⟨m1o, hm1⟩ : ∃ m1o, m1o = (ofM V s).1 := ⟨_, rfl⟩
  obtain ⟨m2o, hm2⟩ : ∃ m2o, m2o = (ofM V s).2 := ⟨_, rfl⟩
  obtain ⟨eo, heo⟩ : ∃ eo, eo = ofE V s := ⟨_, rfl⟩
  have FO : Hid (m1o = (ofM V s).1 ∧ m2o = (ofM V s).2 ∧ eo = ofE V s) := ⟨hm1, hm2, heo⟩
  rw [← hm1, ← hm2, ← heo]
  clear h hA hV hm1 hm2 heo
  go_enter Tryd.func6, Tryd.ntmps6
  go_wp2_with fail
  refine (PA.out _).mono ?_
  rintro e w1 ⟨g1, c1, rfl, hm, hb⟩
  have M1 : Hid (MrAt w1 g1 V) := hm
  have B1 : Hid (Below w.heap.size w w1) := B0.out.trans (hb.mono B0.out.size)
  have R1 : Hid (w1.heap[w.heap.size]? = some (.cells #[.int .i64 0, .bool false] 23 (0, 0))) := (hb.block _ (by simp)).trans (heap_alloc_at _ _ _ rfl)
  have rl : w.heap.size < w1.heap.size := (Array.getElem?_eq_some_iff.1 R1.out).1
  clear hb hm
  go_wp2_with fail
  go_loopw [5] (fun i wr => ∃ j : Nat, j ≤ 21 ∧ i = .int .i64 j ∧ Below w1.heap.size w1 wr ∧ ∀ i, i < j → nameL (V.getD i (0, false)).1 (V.getD i (0, false)).2 ≠ s) (fun i _ => 21 - (intOf i).toNat)
  case atStart => exact ⟨0, Nat.zero_le _, rfl, Below.refl _ _, fun i hi => by omega⟩
  case round =>
    obtain ⟨j, hj, rfl, hbw, hno⟩ := hrel
    have j0 : (0 : Int) ≤ (j : Int) := Int.natCast_nonneg _
    have BW : Hid (Below w1.heap.size w1 wr) := hbw
    have NO : Hid (∀ i, i < j → nameL (V.getD i (0, false)).1 (V.getD i (0, false)).2 ≠ s) := hno
    have WW : Hid (Below w.heap.size w wr) := B1.out.trans (hbw.mono B1.out.size)
    by_cases hlt : j < 21
    · have jlt : (j : Int) < 21 := by omega
      obtain ⟨x0, x1⟩ := (M1.out.below hbw).cells j (by rw [HV.out]; exact hlt)
      have lg := (M1.out.below hbw).lt
      have NA : Hid (∀ z, Below w.heap.size w z → Calls Tryd.prog 5 #[.agg #[.int .i64 (V.getD j (0, false)).1, .bool (V.getD j (0, false)).2]] z fun e w' => e = .returned (.tuple #[.string ⟨(nameL (V.getD j (0, false)).1 (V.getD j (0, false)).2).toArray⟩, .int .i64 (nameE (V.getD j (0, false)).1 (V.getD j (0, false)).2)]) ∧ Below z.heap.size z w') := fun z _ => rName_any _ _ z HN.out
      by_cases hq : nameL (V.getD j (0, false)).1 (V.getD j (0, false)).2 = s
      · obtain ⟨f1, f2⟩ := of_at (V := V) (j := j) (by rw [HV.out]; exact hlt) hno hq
        have EK : Hid (m1o = (V.getD j (0, false)).1 ∧ m2o = (V.getD j (0, false)).2 ∧ eo = 0) := ⟨by rw [FO.out.1, f1], by rw [FO.out.2.1, f1], by rw [FO.out.2.2, f2]⟩
        have dq : (nameL (V.getD j (0, false)).1 (V.getD j (0, false)).2 == s) = true := beq_iff_eq.2 hq
        clear hno f1 f2 hq hbw
        generalize (nameE (V.getD j (0, false)).1 (V.getD j (0, false)).2) = ne at *
        generalize (nameL (V.getD j (0, false)).1 (V.getD j (0, false)).2) = nl at *
        generalize (V.getD j (0, false)).1 = mk at *
        generalize (V.getD j (0, false)).2 = mm at *
        go_wp2_with fail
        refine (NA.out _ WW.out).mono ?_
        rintro e w2 ⟨rfl, hb⟩
        have b0 := (hb.cell (p := ⟨g1, j * 2, none⟩) lg).trans x0
        have b1 := (hb.cell (p := ⟨g1, j * 2 + 1, none⟩) lg).trans x1
        have bl := Nat.lt_of_lt_of_le lg hb.size
        have B2 : Hid (Below w1.heap.size w1 w2) := BW.out.trans (hb.mono BW.out.size)
        have R2 : Hid (w2.heap[w.heap.size]? = some (.cells #[.int .i64 0, .bool false] 23 (0, 0))) := (B2.out.block _ rl).trans R1.out
        have r0 := cell_of R2.out 0 _ rfl
        have r1 := cell_of R2.out 1 _ rfl
        have rl2 : w.heap.size < w2.heap.size := (Array.getElem?_eq_some_iff.1 R2.out).1
        have W2 : Hid (Below w.heap.size w w2) := B1.out.trans (B2.out.mono B1.out.size)
        clear hb
        go_wp2_with fail
        (try simp only [Exit.inBlock, Exit.then])
        refine bodyPost_ret (v := .tuple #[.agg #[.int .i64 mk, .bool mm], .int .i64 0]) ?_ rfl ⟨by rw [EK.out.1, EK.out.2.1, EK.out.2.2], ?_⟩
        · rw [results_cell_tmp rfl]; go_simp
        · exact (W2.out.setCell (Nat.le_refl _) _).setCell (Nat.le_refl _) _
      · have dq : (nameL (V.getD j (0, false)).1 (V.getD j (0, false)).2 == s) = false := beq_eq_false_iff_ne.2 hq
        have NO2 : Hid (∀ i, i < j + 1 → nameL (V.getD i (0, false)).1 (V.getD i (0, false)).2 ≠ s) := fun i hi => by
          by_cases e : i = j
          · rw [e]; exact hq
          · exact NO.out i (by omega)
        clear hno hq hbw
        generalize (nameE (V.getD j (0, false)).1 (V.getD j (0, false)).2) = ne at *
        generalize hnl : (nameL (V.getD j (0, false)).1 (V.getD j (0, false)).2) = nl at NA dq
        generalize (V.getD j (0, false)).1 = mk at x0 NA
        generalize (V.getD j (0, false)).2 = mm at x1 NA
        clear hnl
        go_wp2_with fail
        refine (NA.out _ WW.out).mono ?_
        rintro e w2 ⟨rfl, hb⟩
        have B2 : Hid (Below w1.heap.size w1 w2) := BW.out.trans (hb.mono BW.out.size)
        clear hb
        go_wp2_with fail
        exact ⟨⟨j + 1, by omega, by go_num, B2.out, NO2.out⟩, by simp [intOf]; omega⟩
    · have nlt : ¬ ((j : Int) < 21) := by omega
      obtain ⟨f1, f2⟩ := of_none (V := V) (s := s) (fun i hi => hno i (by rw [HV.out] at hi; omega))
      have EK : Hid (m1o = 0 ∧ m2o = false ∧ eo = 7) := ⟨by rw [FO.out.1, f1], by rw [FO.out.2.1, f1], by rw [FO.out.2.2, f2]⟩
      have R2 : Hid (wr.heap[w.heap.size]? = some (.cells #[.int .i64 0, .bool false] 23 (0, 0))) := (hbw.block _ rl).trans R1.out
      have r0 := cell_of R2.out 0 _ rfl
      have r1 := cell_of R2.out 1 _ rfl
      have rl2 : w.heap.size < wr.heap.size := (Array.getElem?_eq_some_iff.1 R2.out).1
      clear hno f1 f2 hbw
      go_wp2_with fail
      (try simp only [Exit.inBlock, Exit.then])
      refine bodyPost_ret (v := .tuple #[.agg #[.int .i64 0, .bool false], .int .i64 7]) ?_ rfl ⟨by rw [EK.out.1, EK.out.2.1, EK.out.2.2], ?_⟩
      · rw [results_cell_tmp rfl]; go_simp
      · exact (WW.out.setCell (Nat.le_refl _) _).setCell (Nat.le_refl _) _
end Go.Proofs.YthlhbajaogonnaaDoor

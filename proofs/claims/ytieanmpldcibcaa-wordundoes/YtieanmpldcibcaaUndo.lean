/- The walk of WordUndoes, its calls given as contracts. -/
import Derived.Test.YtieanmpldcibcaaLaw1
import Derived.Deep.QuietTactic
import Derived.BigQuiet
namespace Go.Proofs.Ytieanmpldcibcaa
open Go.RowKit

/-- What a call of one answers: the access's number and Ok, and what the word holds then. -/
def OneIs (k s d a b o : Int) (q : Bool) (x : Int) : Prop :=
  ∀ W : World, Calls Try.prog 13 #[.int .i64 k, .int .u64 s, .agg #[.int .i64 d, .int .u64 a, .int .u64 b]] W fun e w' =>
    e = .returned (.tuple #[.agg #[.int .u64 o, .bool q], .int .u64 x, .bool true]) ∧ Below W.heap.size W w'
def CutIs (k s v : Int) : Prop :=
  ∀ W : World, Calls Try.prog 12 #[.int .i64 k, .int .u64 s] W fun e w' => e = .returned (.int .u64 v) ∧ w' = W

/-- Where the things of two locals lie. -/
structure Two (w W : World) (bo bp : Nat) (o : Int) (q : Bool) (p : Int) (r : Bool) : Prop where
  below : Below w.heap.size w W
  o0 : W.cell? ⟨bo, 0, none⟩ = some (.int .u64 o)
  o1 : W.cell? ⟨bo, 1, none⟩ = some (.bool q)
  p0 : W.cell? ⟨bp, 0, none⟩ = some (.int .u64 p)
  p1 : W.cell? ⟨bp, 1, none⟩ = some (.bool r)
  fo0 : W.frozen? ⟨bo, 0, none⟩ = false
  fo1 : W.frozen? ⟨bo, 1, none⟩ = false
  fp0 : W.frozen? ⟨bp, 0, none⟩ = false
  fp1 : W.frozen? ⟨bp, 1, none⟩ = false
  lo : bo < W.heap.size
  lp : bp < W.heap.size

theorem Two.later {w W W' : World} {bo bp : Nat} {o : Int} {q : Bool} {p : Int} {r : Bool} (h : Two w W bo bp o q p r) (hb : Below W.heap.size W W') : Two w W' bo bp o q p r :=
  ⟨h.below.trans (hb.mono h.below.size), (hb.cell (p := ⟨bo, 0, none⟩) h.lo).trans h.o0, (hb.cell (p := ⟨bo, 1, none⟩) h.lo).trans h.o1, (hb.cell (p := ⟨bp, 0, none⟩) h.lp).trans h.p0, (hb.cell (p := ⟨bp, 1, none⟩) h.lp).trans h.p1,
    (hb.frozen (p := ⟨bo, 0, none⟩) h.lo).trans h.fo0, (hb.frozen (p := ⟨bo, 1, none⟩) h.lo).trans h.fo1, (hb.frozen (p := ⟨bp, 0, none⟩) h.lp).trans h.fp0, (hb.frozen (p := ⟨bp, 1, none⟩) h.lp).trans h.fp1, Nat.lt_of_lt_of_le h.lo hb.size, Nat.lt_of_lt_of_le h.lp hb.size⟩

theorem blk_ne {b c i j : Nat} (h : b ≠ c) : (⟨b, i, none⟩ : Addr) ≠ ⟨c, j, none⟩ := fun e => h (congrArg Addr.block e)
theorem off_ne {b i j : Nat} (h : i ≠ j) : (⟨b, i, none⟩ : Addr) ≠ ⟨b, j, none⟩ := fun e => h (congrArg Addr.off e)

theorem Two.setO {w W : World} {bo bp : Nat} {o : Int} {q : Bool} {p : Int} {r : Bool} (h : Two w W bo bp o q p r) (hne : bo ≠ bp) (hw : w.heap.size ≤ bo) (o' : Int) (q' : Bool) : Two w ((W.setCell ⟨bo, 0, none⟩ (.int .u64 o')).setCell ⟨bo, 1, none⟩ (.bool q')) bo bp o' q' p r := by
  refine ⟨(h.below.setCell (p := ⟨bo, 0, none⟩) hw _).setCell (p := ⟨bo, 1, none⟩) hw _, ?_, ?_, ?_, ?_, by simpa using h.fo0, by simpa using h.fo1, by simpa using h.fp0, by simpa using h.fp1, by simpa [World.setCell] using h.lo, by simpa [World.setCell] using h.lp⟩
  · rw [World.cell?_setCell_other _ _ _ _ (off_ne (by omega)), World.cell?_setCell_same _ _ _ h.o0]
  · rw [World.cell?_setCell_same _ _ _ ((World.cell?_setCell_other _ _ _ _ (off_ne (by omega))).trans h.o1)]
  · rw [World.cell?_setCell_other _ _ _ _ (blk_ne hne), World.cell?_setCell_other _ _ _ _ (blk_ne hne)]; exact h.p0
  · rw [World.cell?_setCell_other _ _ _ _ (blk_ne hne), World.cell?_setCell_other _ _ _ _ (blk_ne hne)]; exact h.p1

theorem Two.setP {w W : World} {bo bp : Nat} {o : Int} {q : Bool} {p : Int} {r : Bool} (h : Two w W bo bp o q p r) (hne : bo ≠ bp) (hw : w.heap.size ≤ bp) (p' : Int) (r' : Bool) : Two w ((W.setCell ⟨bp, 0, none⟩ (.int .u64 p')).setCell ⟨bp, 1, none⟩ (.bool r')) bo bp o q p' r' := by
  refine ⟨(h.below.setCell (p := ⟨bp, 0, none⟩) hw _).setCell (p := ⟨bp, 1, none⟩) hw _, ?_, ?_, ?_, ?_, by simpa using h.fo0, by simpa using h.fo1, by simpa using h.fp0, by simpa using h.fp1, by simpa [World.setCell] using h.lo, by simpa [World.setCell] using h.lp⟩
  · rw [World.cell?_setCell_other _ _ _ _ (blk_ne (Ne.symm hne)), World.cell?_setCell_other _ _ _ _ (blk_ne (Ne.symm hne))]; exact h.o0
  · rw [World.cell?_setCell_other _ _ _ _ (blk_ne (Ne.symm hne)), World.cell?_setCell_other _ _ _ _ (blk_ne (Ne.symm hne))]; exact h.o1
  · rw [World.cell?_setCell_other _ _ _ _ (off_ne (by omega)), World.cell?_setCell_same _ _ _ h.p0]
  · rw [World.cell?_setCell_same _ _ _ ((World.cell?_setCell_other _ _ _ _ (off_ne (by omega))).trans h.p1)]

/-- The two locals as they are laid: the first, then, behind a call, the second. -/
theorem Two.laid {w w2 w3 : World} (h2 : Below w.heap.size w w2) (o : Int) (q : Bool) (t : TypeId) (h3 : Below (w2.alloc (.cells #[.int .u64 o, .bool q] t)).heap.size (w2.alloc (.cells #[.int .u64 o, .bool q] t)) w3) (p : Int) (r : Bool) :
    Two w (w3.alloc (.cells #[.int .u64 p, .bool r] t)) w2.heap.size w3.heap.size o q p r := by
  have hs : w2.heap.size < (w2.alloc (.cells #[.int .u64 o, .bool q] t)).heap.size := by simp
  have hl : w2.heap.size < w3.heap.size := Nat.lt_of_lt_of_le hs h3.size
  have hB : Below w.heap.size w w3 := (h2.alloc h2.size _).trans (h3.mono (Nat.le_trans h2.size (by simp)))
  refine ⟨hB.alloc hB.size _, ?_, ?_, by simp, by simp, ?_, ?_, by simp, by simp, by simp; omega, by simp⟩
  · rw [World.cell?_alloc_past _ _ _ hl, h3.cell (p := ⟨w2.heap.size, 0, none⟩) hs]; simp
  · rw [World.cell?_alloc_past _ _ _ hl, h3.cell (p := ⟨w2.heap.size, 1, none⟩) hs]; simp
  · rw [World.frozen?_alloc_past _ _ _ hl, h3.frozen (p := ⟨w2.heap.size, 0, none⟩) hs]; simp
  · rw [World.frozen?_alloc_past _ _ _ hl, h3.frozen (p := ⟨w2.heap.size, 1, none⟩) hs]; simp

set_option maxRecDepth 100000 in
set_option maxHeartbeats 1000000 in
theorem undoes_walk (k start n v c s : Int) (q : Bool) (w : World) (hk : isK k = true) (h5 : (k == 5) = false) (hq : (c == v) = q)
    (HV : Hid (CutIs k start v)) (HC : Hid (CutIs k n c))
    (H1 : Hid (OneIs k start 4 n 0 v true c)) (H2 : Hid (OneIs k c 4 v 0 c true v))
    (H3 : Hid (OneIs k start 5 n v 0 q v)) (H4 : Hid (OneIs k start 5 v n 0 true c))
    (H6 : Hid (OneIs k start 3 n 0 s true s)) (H7 : Hid (OneIs k s 3 (IntKind.u64.wrap (-n)) 0 v true v))
    (H8 : Hid (OneIs k start 6 v 0 v true v)) (H9 : Hid (OneIs k start 7 v 0 v true v)) :
    Calls Try.prog 5 #[.int .i64 k, .int .u64 start, .int .u64 n] w fun e w' => e = .returned (.bool true) ∧ Below w.heap.size w w' := by
  go_enter Try.func5, Try.ntmps5
  go_wp2_with (first
    | (go_at_call 6; refine (known_any _).mono ?_; rintro e w1 ⟨rfl, hb1⟩)
    | (go_at_call 11; refine (refIs_any _ _).mono ?_; rintro e w' ⟨rfl, rfl⟩))
  refine Calls.mono (HV.out _) ?_
  rintro e w' ⟨rfl, rfl⟩
  clear HV
  go_wp2_with fail
  refine Calls.mono (H1.out _) ?_
  rintro e w2 ⟨rfl, hb2⟩
  clear H1
  go_wp2_with fail
  refine Calls.mono (H2.out _) ?_
  rintro e w3 ⟨rfl, hb3⟩
  clear H2
  have hT := Two.laid (hb1.trans (hb2.mono hb1.size)) v true 35 hb3 c true
  have q1 : w.heap.size ≤ w2.heap.size := Nat.le_trans hb1.size hb2.size
  have q2 : w2.heap.size < w3.heap.size := by have := hb3.size; simp at this; omega
  have HT : Hid _ := hT
  obtain ⟨_, o0, o1, p0, p1, fo0, fo1, fp0, fp1, _, _⟩ := hT
  clear hb1 hb2 hb3
  go_wp2_with (first | (go_at_call 12; refine Calls.mono (HC.out _) ?_; rintro e w' ⟨rfl, rfl⟩))
  refine Calls.mono (H3.out _) ?_
  rintro e w4 ⟨rfl, hb4⟩
  have hT := (Hid.out HT).later hb4
  clear H3 hb4 HT o0 o1 p0 p1 fo0 fo1 fp0 fp1
  have T4 : Hid _ := hT
  obtain ⟨_, o0, o1, p0, p1, fo0, fo1, fp0, fp1, _, _⟩ := hT
  go_wp2_with fail
  have hT := (Hid.out T4).setO (by omega) (by omega) 0 q
  clear T4 o0 o1 p0 p1 fo0 fo1 fp0 fp1
  have T5 : Hid _ := hT
  obtain ⟨_, o0, o1, p0, p1, fo0, fo1, fp0, fp1, _, _⟩ := hT
  refine Calls.mono (H4.out _) ?_
  rintro e w5 ⟨rfl, hb5⟩
  have hT := (Hid.out T5).later hb5
  clear H4 hb5 T5 o0 o1 p0 p1 fo0 fo1 fp0 fp1
  have T6 : Hid _ := hT
  obtain ⟨_, o0, o1, p0, p1, fo0, fo1, fp0, fp1, _, _⟩ := hT
  go_wp2_with fail
  have hT := (Hid.out T6).setP (by omega) (by omega) 0 true
  clear T6 o0 o1 p0 p1 fo0 fo1 fp0 fp1
  have T7 : Hid _ := hT
  obtain ⟨_, o0, o1, p0, p1, fo0, fo1, fp0, fp1, _, _⟩ := hT
  go_quiet ((go_at_call 12; exact Calls.quiet_of_same (HC.out _)))
  go_wp2_with fail
  refine Calls.mono (H6.out _) ?_
  rintro e w6 ⟨rfl, hb6⟩
  have hT := ((Hid.out T7).later (below_drewN (Below.refl _ _) _)).later hb6
  clear H6 hb6 T7 o0 o1 p0 p1 fo0 fo1 fp0 fp1
  have T8 : Hid _ := hT
  obtain ⟨_, o0, o1, p0, p1, fo0, fo1, fp0, fp1, _, _⟩ := hT
  go_wp2_with fail
  have hT := (Hid.out T8).setO (by omega) (by omega) s true
  clear T8 o0 o1 p0 p1 fo0 fo1 fp0 fp1
  have T9 : Hid _ := hT
  obtain ⟨_, o0, o1, p0, p1, fo0, fo1, fp0, fp1, _, _⟩ := hT
  refine Calls.mono (H7.out _) ?_
  rintro e w7 ⟨rfl, hb7⟩
  have hT := ((Hid.out T9)).later hb7
  clear H7 hb7 T9 o0 o1 p0 p1 fo0 fo1 fp0 fp1
  have T10 : Hid _ := hT
  obtain ⟨_, o0, o1, p0, p1, fo0, fo1, fp0, fp1, _, _⟩ := hT
  go_wp2_with fail
  have hT := (Hid.out T10).setP (by omega) (by omega) v true
  clear T10 o0 o1 p0 p1 fo0 fo1 fp0 fp1
  have T11 : Hid _ := hT
  obtain ⟨_, o0, o1, p0, p1, fo0, fo1, fp0, fp1, _, _⟩ := hT
  go_wp2_with fail
  refine Calls.mono (H8.out _) ?_
  rintro e w8 ⟨rfl, hb8⟩
  have hT := ((Hid.out T11)).later hb8
  clear H8 hb8 T11 o0 o1 p0 p1 fo0 fo1 fp0 fp1
  have T12 : Hid _ := hT
  obtain ⟨_, o0, o1, p0, p1, fo0, fo1, fp0, fp1, _, _⟩ := hT
  go_wp2_with fail
  have hT := (Hid.out T12).setO (by omega) (by omega) v true
  clear T12 o0 o1 p0 p1 fo0 fo1 fp0 fp1
  have T13 : Hid _ := hT
  obtain ⟨_, o0, o1, p0, p1, fo0, fo1, fp0, fp1, _, _⟩ := hT
  refine Calls.mono (H9.out _) ?_
  rintro e w9 ⟨rfl, hb9⟩
  have hT := ((Hid.out T13)).later hb9
  clear H9 hb9 T13 o0 o1 p0 p1 fo0 fo1 fp0 fp1
  have T14 : Hid _ := hT
  obtain ⟨_, o0, o1, p0, p1, fo0, fo1, fp0, fp1, _, _⟩ := hT
  go_wp2_with fail
  go_ret
  exact ⟨rfl, ((Hid.out T14).setP (by omega) (by omega) v true).below⟩

set_option maxRecDepth 100000 in
set_option maxHeartbeats 1000000 in
theorem undoes_bool (k start n v c : Int) (q : Bool) (w : World) (hk : isK k = true) (h5 : k = 5) (hq : (c == v) = q)
    (HV : Hid (CutIs k start v)) (HC : Hid (CutIs k n c))
    (H1 : Hid (OneIs k start 4 n 0 v true c)) (H2 : Hid (OneIs k c 4 v 0 c true v))
    (H3 : Hid (OneIs k start 5 n v 0 q v)) (H4 : Hid (OneIs k start 5 v n 0 true c))
    (HD : Hid (∀ (W : World) (g : Nat), W.heap.size = g → ∀ t : TypeId, Calls Try.prog 7 #[.int .i64 5, .int .u64 start, .slice (some ⟨g, 0, none⟩) 1 1] (W.alloc (.cells #[.int .i64 3, .int .u64 n, .int .u64 0] t)) fun e w' => e = .returned (.tuple #[.slice none 0 0, .int .u64 0, .int .i64 5]) ∧ Below W.heap.size W w')) :
    Calls Try.prog 5 #[.int .i64 k, .int .u64 start, .int .u64 n] w fun e w' => e = .returned (.bool true) ∧ Below w.heap.size w w' := by
  subst h5
  go_enter Try.func5, Try.ntmps5
  go_wp2_with (first
    | (go_at_call 6; refine (known_any _).mono ?_; rintro e w1 ⟨rfl, hb1⟩)
    | (go_at_call 11; refine (refIs_any _ _).mono ?_; rintro e w' ⟨rfl, rfl⟩))
  refine Calls.mono (HV.out _) ?_
  rintro e w' ⟨rfl, rfl⟩
  clear HV
  go_wp2_with fail
  refine Calls.mono (H1.out _) ?_
  rintro e w2 ⟨rfl, hb2⟩
  clear H1
  go_wp2_with fail
  refine Calls.mono (H2.out _) ?_
  rintro e w3 ⟨rfl, hb3⟩
  clear H2
  have hT := Two.laid (hb1.trans (hb2.mono hb1.size)) v true 35 hb3 c true
  have q1 : w.heap.size ≤ w2.heap.size := Nat.le_trans hb1.size hb2.size
  have q2 : w2.heap.size < w3.heap.size := by have := hb3.size; simp at this; omega
  have HT : Hid _ := hT
  obtain ⟨_, o0, o1, p0, p1, fo0, fo1, fp0, fp1, _, _⟩ := hT
  clear hb1 hb2 hb3
  go_wp2_with (first | (go_at_call 12; refine Calls.mono (HC.out _) ?_; rintro e w' ⟨rfl, rfl⟩))
  refine Calls.mono (H3.out _) ?_
  rintro e w4 ⟨rfl, hb4⟩
  have hT := (Hid.out HT).later hb4
  clear H3 hb4 HT o0 o1 p0 p1 fo0 fo1 fp0 fp1
  have T4 : Hid _ := hT
  obtain ⟨_, o0, o1, p0, p1, fo0, fo1, fp0, fp1, _, _⟩ := hT
  go_wp2_with fail
  have hT := (Hid.out T4).setO (by omega) (by omega) 0 q
  clear T4 o0 o1 p0 p1 fo0 fo1 fp0 fp1
  have T5 : Hid _ := hT
  obtain ⟨_, o0, o1, p0, p1, fo0, fo1, fp0, fp1, _, _⟩ := hT
  refine Calls.mono (H4.out _) ?_
  rintro e w5 ⟨rfl, hb5⟩
  have hT := (Hid.out T5).later hb5
  clear H4 hb5 T5 o0 o1 p0 p1 fo0 fo1 fp0 fp1
  have T6 : Hid _ := hT
  obtain ⟨_, o0, o1, p0, p1, fo0, fo1, fp0, fp1, _, _⟩ := hT
  go_wp2_with fail
  have hT := (Hid.out T6).setP (by omega) (by omega) 0 true
  clear T6 o0 o1 p0 p1 fo0 fo1 fp0 fp1
  have T7 : Hid _ := hT
  obtain ⟨_, o0, o1, p0, p1, fo0, fo1, fp0, fp1, _, _⟩ := hT
  go_quiet ((go_at_call 12; exact Calls.quiet_of_same (HC.out _)))
  go_wp2_with fail
  refine Calls.mono (HD.out _ _ (by simp) _) ?_
  rintro e w6 ⟨rfl, hb6⟩
  have hT := ((Hid.out T7).later (below_drewN (Below.refl _ _) _)).later hb6
  clear HD hb6 T7 o0 o1 p0 p1 fo0 fo1 fp0 fp1
  have T8 : Hid _ := hT
  clear hT
  go_wp2
  go_ret
  exact ⟨rfl, (Hid.out T8).below⟩

set_option maxRecDepth 100000 in
set_option maxHeartbeats 1000000 in
theorem undoes_none (k start n : Int) (w : World) (hk : isK k = false)
    (HD : Hid (∀ W : World, Calls Try.prog 7 #[.int .i64 k, .int .u64 start, .slice none 0 0] W fun e w' => e = .returned (.tuple #[.slice none 0 0, .int .u64 0, .int .i64 5]) ∧ Below W.heap.size W w')) :
    Calls Try.prog 5 #[.int .i64 k, .int .u64 start, .int .u64 n] w fun e w' => e = .returned (.bool true) ∧ Below w.heap.size w w' := by
  go_enter Try.func5, Try.ntmps5
  go_wp2_with (first
    | (go_at_call 6; refine (known_any _).mono ?_; rintro e w1 ⟨rfl, hb1⟩)
    | (go_at_call 11; refine (refIs_any _ _).mono ?_; rintro e w' ⟨rfl, rfl⟩))
  refine Calls.mono (HD.out _) ?_
  rintro e w2 ⟨rfl, hb2⟩
  go_wp2
  go_ret
  exact ⟨rfl, hb1.trans (hb2.mono hb1.size)⟩
end Go.Proofs.Ytieanmpldcibcaa

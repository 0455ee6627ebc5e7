
/- Layer 17: isRed, isOver, isFault, reds. -/

import Derived.Test.YtiencggnijfjoaaWSums

import Derived.Deep.QuietTactic

import Derived.BigQuiet

namespace Go.Proofs.Ytiencggnijfjoaa

open Go.RowKit

attribute [local go_sem ↓] Go.wp_at_zero Go.wp_at_succ

structure BelowBy (w : World) where
  W : World
  h : Below w.heap.size w W
instance (w : World) : Inhabited (BelowBy w) := ⟨⟨w, Below.refl _ _⟩⟩
theorem wp_region_below {P : Program} {id : Nat} {Q : Exit → Act → World → Prop} {a : Act} {w : World} {l : List Oper} (hm : P.follows .mixedOrders = true) (hB : Region.lexB .any l.toArray = true)
    (h : wpQuiet P l.toArray (fun w' => ∃ p : BelowBy w, w' = p.W) (fun a' => ∀ w', (∃ p : BelowBy w, w' = p.W) → Q .normal a' w') l a) : (Code.region id l.toArray true).wp P Q a w :=
  wp_region_quiet (C := fun w' => ∃ p : BelowBy w, w' = p.W) hm hB ⟨⟨{ w with drawn := w.drawn + 1 }, ⟨rfl, rfl, rfl, Nat.le_refl _, fun _ _ => rfl⟩⟩, rfl⟩ (by simpa using h)
theorem below_call {P : Program} {f : FuncId} {args : Array Value} {w : World} {p : BelowBy w} {v : Value}
    (h : Calls P f args p.W fun e w' => e = .returned v ∧ Below p.W.heap.size p.W w') : Calls P f args p.W fun e w' => e = .returned v ∧ ∃ p' : BelowBy w, w' = p'.W :=
  h.mono fun _ w' ⟨he, hb⟩ => ⟨he, ⟨w', p.h.trans (hb.mono p.h.size)⟩, rfl⟩
theorem BelowBy.cell {w : World} {b o : Nat} {v : Value} (hb : b < w.heap.size) (h : w.cell? ⟨b, o, none⟩ = some v) (p : BelowBy w) : p.W.cell? ⟨b, o, none⟩ = some v := (p.h.cell (p := ⟨b, o, none⟩) hb).trans h

/-- A node in a box. -/
structure Bx (w : World) (bx : Nat) (k0 k1 k2 k3 k4 k5 : Int) : Prop where
  lt : bx < w.heap.size
  c : w.cell? ⟨bx, 0, none⟩ = some (.int .i64 k0) ∧ w.cell? ⟨bx, 1, none⟩ = some (.int .i64 k1) ∧ w.cell? ⟨bx, 2, none⟩ = some (.int .i64 k2) ∧ w.cell? ⟨bx, 3, none⟩ = some (.int .i64 k3) ∧ w.cell? ⟨bx, 4, none⟩ = some (.int .i64 k4) ∧ w.cell? ⟨bx, 5, none⟩ = some (.int .i64 k5)
theorem Bx.below {w x : World} {bx : Nat} {k0 k1 k2 k3 k4 k5 : Int} (h : Bx w bx k0 k1 k2 k3 k4 k5) (hb : Below w.heap.size w x) : Bx x bx k0 k1 k2 k3 k4 k5 := by
  have e : ∀ j, x.cell? ⟨bx, j, none⟩ = w.cell? ⟨bx, j, none⟩ := fun j => hb.cell (p := ⟨bx, j, none⟩) h.lt
  exact ⟨Nat.lt_of_lt_of_le h.lt hb.size, by simp only [e]; exact h.c⟩
theorem Bx.far {w x : World} {o : Obj} {row : Option Nat} {bx : Nat} {k0 k1 k2 k3 k4 k5 : Int} (h : Bx w bx k0 k1 k2 k3 k4 k5) (hg : (w.alloc o).grownBy x row) (hr : ∀ b, row = some b → b ≠ bx) : Bx x bx k0 k1 k2 k3 k4 k5 := by
  obtain ⟨c0, c1, c2, c3, c4, c5⟩ := h.c
  have hz := hg.size
  rw [World.size_alloc] at hz
  have f : ∀ j v, w.cell? ⟨bx, j, none⟩ = some v → x.cell? ⟨bx, j, none⟩ = some v := fun j v hc => far_cell (p := ⟨bx, j, none⟩) hg h.lt hr hc
  exact ⟨by have := h.lt; omega, f _ _ c0, f _ _ c1, f _ _ c2, f _ _ c3, f _ _ c4, f _ _ c5⟩
theorem bx_new {x : World} {bx : Nat} {k0 k1 k2 k3 k4 k5 : Int} {T : TypeId} (h : x.heap[bx]? = some (.cells #[.int .i64 k0, .int .i64 k1, .int .i64 k2, .int .i64 k3, .int .i64 k4, .int .i64 k5] T)) : Bx x bx k0 k1 k2 k3 k4 k5 := by
  obtain ⟨bl, q⟩ := box_cells h
  exact ⟨bl, q⟩

def redQ (a k : Int) : Bool := a == 0 && k == 0
def overQ (k : Int) : Bool := decide (1 < k)
def faultQ (a k : Int) : Bool := redQ a k || overQ k
set_option maxRecDepth 100000 in
theorem isRed_any (a k : Int) (w : World) :
    Calls Try.prog 77 #[.int .i64 a, .int .i64 k] w fun e w' => e = .returned (.bool (redQ a k)) ∧ Below w.heap.size w w' := by
  by_cases h : a = 0
  · have d : (a == 0) = true := by simp [h]
    have F : Hid (redQ a k = (k == 0)) := by show redQ a k = _; unfold redQ; rw [d]; rfl
    clear h
    go_enter Try.func77, Try.ntmps77
    go_wp2
    go_ret
    exact ⟨by rw [F.out]; rfl, Below.refl _ _⟩
  · have d : (a == 0) = false := by simp [h]
    have F : Hid (redQ a k = false) := by show redQ a k = _; unfold redQ; rw [d]; rfl
    clear h
    go_enter Try.func77, Try.ntmps77
    go_wp2
    go_ret
    exact ⟨by rw [F.out]; rfl, Below.refl _ _⟩
set_option maxRecDepth 100000 in
theorem isOver_any (k : Int) (w : World) :
    Calls Try.prog 57 #[.int .i64 k] w fun e w' => e = .returned (.bool (overQ k)) ∧ Below w.heap.size w w' := by
  go_enter Try.func57, Try.ntmps57
  go_wp2
  go_ret
  exact ⟨rfl, Below.refl _ _⟩
set_option maxRecDepth 100000 in
theorem isFault_any (a k : Int) (w : World) :
    Calls Try.prog 59 #[.int .i64 a, .int .i64 k] w fun e w' => e = .returned (.bool (faultQ a k)) ∧ Below w.heap.size w w' := by
  cases hq : redQ a k
  · have F : Hid (faultQ a k = overQ k) := by show faultQ a k = _; unfold faultQ; rw [hq]; rfl
    have HQ : Hid (redQ a k = false) := hq
    clear hq
    go_enter Try.func59, Try.ntmps59
    go_wp2_with (first | (go_at_call 77; refine (isRed_any _ _ _).mono ?_; rintro e w1 ⟨rfl, hb1⟩; rw [HQ.out]; have B1 : Hid (Below w.heap.size w w1) := hb1; clear hb1) | (go_at_call 57; refine (isOver_any _ _).mono ?_; rintro e w2 ⟨rfl, hb2⟩; have B2 : Hid (Below w.heap.size w w2) := B1.out.trans (hb2.mono B1.out.size); clear hb2))
    go_ret
    exact ⟨by rw [F.out]; rfl, B2.out⟩
  · have F : Hid (faultQ a k = true) := by show faultQ a k = _; unfold faultQ; rw [hq]; rfl
    have HQ : Hid (redQ a k = true) := hq
    clear hq
    go_enter Try.func59, Try.ntmps59
    go_wp2_with (first | (go_at_call 77; refine (isRed_any _ _ _).mono ?_; rintro e w1 ⟨rfl, hb1⟩; rw [HQ.out]; have B1 : Hid (Below w.heap.size w w1) := hb1; clear hb1))
    go_ret
    exact ⟨by rw [F.out]; rfl, B1.out⟩
def redF (d : PD) (_ : Int) : Int := d.wt
def redO (_ : Bool) (d : PD) (a : Int) : List Int := if redQ a d.wt then [d.key] else []
/-- The reds of a tree, from the root on. -/
def redsB (b : BT) : List Int := inh redF redO b 1
theorem redO_len (lf : Bool) (d : PD) (a : Int) : (redO lf d a).length ≤ 1 := by unfold redO; split <;> simp
theorem SAt.one {w0 x : World} {n : Nat} {A : Nat → Int} {v : Value} {V : List Int} (h : SAt w0 x n A v V) {l : Nat} (a : Int) (hl : l < n) : SAt w0 (x.setCell ⟨w0.heap.size, l, none⟩ (.int .i64 a)) n (fun y => if y = l then a else A y) v V :=
  ⟨owns_apart h.own _ _ _ (by omega), h.ab.set l a hl, by simpa using h.lt, h.below.setCell (Nat.le_refl _) _⟩
set_option maxRecDepth 100000 in
set_option maxHeartbeats 2000000 in
theorem wreds_any (base : Option Addr) (b o c : Nat) (B : BT) (K : NL) (w : World) (h : NodesAt w base b o K) (hK : K = B.lay 0) (hs : B.size ≤ 100000) :
    Calls Try.prog 55 #[.slice base K.length c] w fun e w' => ∃ v, e = .returned v ∧ w'.ownsRow w.heap.size 3 1 v (redsB B).length (isC (redsB B)) ∧ Below w.heap.size w w' := by
  have hKl : K.length = B.size := by rw [hK, BT.lay_length]
  have hpos : 0 < K.length := by rw [hKl]; exact B.size_pos
  have hX : (redsB B).length ≤ 100000 := Nat.le_trans (inh_len _ _ redO_len B 1) hs
  have P0 : Hid (Pend K (fun y => if y = 0 then 1 else 0) 0 [(B, 1)]) := by rw [hK]; exact pend_first B (fun y => if y = 0 then 1 else 0)
  have X0 : Hid (inhS redF redO [(B, 1)] = redsB B) := by show inhS _ _ _ = _; simp [inhS, redsB]
  have hKb : K.length ≤ 100000 := by omega
  have dK : ((K.length : Int) == 0) = false := beq_eq_false_iff_ne.2 (by omega)
  obtain rfl : base = some ⟨b, o, none⟩ := h.base (by omega)
  have hbl := h.lt (by omega)
  have HA : Hid (NodesAt _ _ _ _ _) := h
  clear h hK hs hKl
  generalize redsB B = X at *
  obtain ⟨i0, hi0, hz0, hz1, hz2⟩ := info_parts in_info
  have hmi := run_make_known (P := Try.prog) 23 3 (.int .i64 0) 1 8 ins_under in_info K.length (by omega) (by omega)
  have Z0 : Hid (SAt w (w.alloc (.cells (madeCells #[.int .i64 0] K.length) 3)) K.length (fun _ => 0) (.slice none 0 0) []) := by
    rw [made_zeros]
    exact ⟨World.ownsRow_nil _ _ _ _, zeros_ints w 3 K.length, by simp, below_alloc _ _⟩
  have Z1 : Hid (SAt w (w.alloc (.cells ((madeCells #[.int .i64 0] K.length).setIfInBounds 0 (.int .i64 1)) 3)) K.length (fun y => if y = 0 then 1 else 0) (.slice none 0 0) []) := by
    have := Z0.out.one (l := 0) 1 hpos
    rw [World.setCell_alloc_at _ _ _ _ _ rfl] at this
    exact this
  have hc0 : (madeCells #[.int .i64 0] K.length)[0]? = some (.int .i64 0) := by rw [made_zeros]; simp [hpos]
  go_enter Try.func55, Try.ntmps55
  go_wp2_with fail
  go_loopw [3, 17] (fun v i wr => ∃ (m : Nat) (V : List Int) (A : Nat → Int) (Q : List (BT × Int)), m ≤ K.length ∧ i = .int .i64 m ∧ Pend K A m Q ∧ V ++ inhS redF redO Q = X ∧ SAt w wr K.length A v V) (fun _ i _ => K.length - (intOf i).toNat)
  case atStart => exact ⟨0, [], _, [(B, 1)], Nat.zero_le _, rfl, P0.out, by rw [X0.out]; rfl, Z1.out⟩
  case round =>
    obtain ⟨m, V, A, Q, hm, rfl, hP, hV, hS⟩ := hrel
    have S0 : Hid (SAt _ _ _ _ _ _) := hS
    have hlt := hS.lt
    have hz := hS.below.size
    by_cases hlm : m < K.length
    · have m0 : (0 : Int) ≤ (m : Int) := Int.natCast_nonneg _
      have m1 : (m : Int) < (K.length : Int) := by omega
      have HC : Hid _ := (HA.out.below hS.below).cells m hlm
      have hVl : V.length ≤ 100000 := by have := congrArg List.length hV; simp at this; omega
      have hbr : b < wr.heap.size := by omega
      have HOB : Hid (∀ g, u3.ownBlock = some g → g ≠ wr.heap.size) := fun g q => by have := (owns_lt hS.own g q).2; omega
      have nsz : w.heap.size ≠ wr.heap.size := by omega
      have nsz' : wr.heap.size ≠ w.heap.size := by omega
      rcases pend_step (f := redF) (out := redO) hP hlm with ⟨Q', hl, hr, hP', hO⟩ | ⟨l, r, Q', hl, hr, hl1, hr1, hr2, hP', hO⟩
      · cases hq : redQ (A m) (ndAt K m).wt
        · have HQ : Hid (redQ (A m) (ndAt K m).wt = false) := hq
          have HP : Hid (Pend _ _ _ _) := hP'
          have HLF : Hid (rleafB (ndAt K m) = true) := rleafB_yes hl
          have HV : Hid (V ++ inhS redF redO Q' = X) := by show _ = _; rw [← hV, hO]; unfold redO; rw [show (ndP (ndAt K m)).wt = (ndAt K m).wt from rfl, hq]; simp
          clear hP hP' hO hV hS hr hl hq
          generalize ndAt K m = nd at *
          obtain ⟨k0, k1, k2, k3, k4, k5⟩ := nd
          simp only at HC HV HQ
          obtain ⟨c0, c1, c2, c3, c4, c5⟩ := HC.out
          go_wp2_with fail
          generalize hW1 : wr.alloc (.cells #[.int .i64 k0, .int .i64 k1, .int .i64 k2, .int .i64 k3, .int .i64 k4, .int .i64 k5] 54) = W1
          have S1 : Hid (SAt w W1 K.length A u3 V) := by rw [← hW1]; exact S0.out.quiet (below_alloc _ _)
          have X1 : Hid (Bx W1 wr.heap.size k0 k1 k2 k3 k4 k5) := bx_new (hW1 ▸ heap_alloc_at wr _ wr.heap.size rfl)
          have z1 := BelowBy.cell S1.out.lt (S1.out.ab m hlm).1
          have z2 := BelowBy.cell X1.out.lt X1.out.c.2.2.1
          have SR : Hid (∀ p : BelowBy W1, Calls Try.prog 77 #[.int .i64 (A m), .int .i64 k2] p.W fun e w' => e = .returned (.bool false) ∧ Below p.W.heap.size p.W w') := fun p => by
            have := isRed_any (A m) k2 p.W
            rw [HQ.out] at this
            exact this
          clear hW1 c0 c1 c2 c3 c4 c5
          refine wp_region_below (by kernel_rfl) (by kernel_rfl) ?_
          repeat (go_big_quiet_step ((go_at_call 77; exact below_call (SR.out _))))
          refine wpQuiet_nil ?_
          rintro _ ⟨p, rfl⟩
          have S2 : Hid (SAt w p.W K.length A u3 V) := S1.out.quiet p.h
          have X2 : Hid (Bx p.W wr.heap.size k0 k1 k2 k3 k4 k5) := X1.out.below p.h
          clear z1 z2 SR
          generalize p.W = W2 at *
          obtain ⟨y0, y1, y2, y3, y4, y5⟩ := X2.out.c
          have yl := X2.out.lt
          have lt2 := S2.out.lt
          go_wp2_with (first | (go_at_call 69; have hqq := S2; refine (wLeaf_any _ _ _ _ _ _ _).mono ?_; rintro e w3 ⟨rfl, hb3⟩; rw [HLF.out]; have S3 : Hid (SAt w w3 K.length A u3 V) := S2.out.quiet hb3; have X3 : Hid (Bx w3 wr.heap.size k0 k1 k2 k3 k4 k5) := X2.out.below hb3; have lt3 := S3.out.lt; have yl3 := X3.out.lt; clear hb3 hqq y0 y1 y2 y3 y4 y5))
          exact ⟨⟨m + 1, V, A, Q', by omega, by go_num, HP.out, HV.out, S3.out⟩, by simp [intOf]; omega⟩
        · have HQ : Hid (redQ (A m) (ndAt K m).wt = true) := hq
          have HP : Hid (Pend _ _ _ _) := hP'
          have HLF : Hid (rleafB (ndAt K m) = true) := rleafB_yes hl
          have HV : Hid ((V ++ [(ndAt K m).key]) ++ inhS redF redO Q' = X) := by show _ = _; rw [← hV, hO]; unfold redO; rw [show (ndP (ndAt K m)).wt = (ndAt K m).wt from rfl, hq]; simp [ndP]
          clear hP hP' hO hV hS hr hl hq
          generalize ndAt K m = nd at *
          obtain ⟨k0, k1, k2, k3, k4, k5⟩ := nd
          simp only at HC HV HQ
          obtain ⟨c0, c1, c2, c3, c4, c5⟩ := HC.out
          go_wp2_with fail
          generalize hW1 : wr.alloc (.cells #[.int .i64 k0, .int .i64 k1, .int .i64 k2, .int .i64 k3, .int .i64 k4, .int .i64 k5] 54) = W1
          have S1 : Hid (SAt w W1 K.length A u3 V) := by rw [← hW1]; exact S0.out.quiet (below_alloc _ _)
          have X1 : Hid (Bx W1 wr.heap.size k0 k1 k2 k3 k4 k5) := bx_new (hW1 ▸ heap_alloc_at wr _ wr.heap.size rfl)
          have z1 := BelowBy.cell S1.out.lt (S1.out.ab m hlm).1
          have z2 := BelowBy.cell X1.out.lt X1.out.c.2.2.1
          have SR : Hid (∀ p : BelowBy W1, Calls Try.prog 77 #[.int .i64 (A m), .int .i64 k2] p.W fun e w' => e = .returned (.bool true) ∧ Below p.W.heap.size p.W w') := fun p => by
            have := isRed_any (A m) k2 p.W
            rw [HQ.out] at this
            exact this
          clear hW1 c0 c1 c2 c3 c4 c5
          refine wp_region_below (by kernel_rfl) (by kernel_rfl) ?_
          repeat (go_big_quiet_step ((go_at_call 77; exact below_call (SR.out _))))
          refine wpQuiet_nil ?_
          rintro _ ⟨p, rfl⟩
          have S2 : Hid (SAt w p.W K.length A u3 V) := S1.out.quiet p.h
          have X2 : Hid (Bx p.W wr.heap.size k0 k1 k2 k3 k4 k5) := X1.out.below p.h
          clear z1 z2 SR
          generalize p.W = W2 at *
          obtain ⟨y0, y1, y2, y3, y4, y5⟩ := X2.out.c
          have yl := X2.out.lt
          have lt2 := S2.out.lt
          go_wp2_with (first | (at_builtin; have hqq := S2; (refine wpList_append_lies _ (by rfl) _ _ _ (by rfl) (w.heap.size + 1) 3 i0 _ 1 8 ins_under hi0 hz0 hz1 hz2 rfl (by omega) _ V.length _ (by rfl) (S2.out.own.alloc _) ⟨W2.heap.size, 0, none⟩ 1 1 [.int .i64 k0] (by rfl) (by rfl) (World.news_of_block (cs := #[.int .i64 k0]) (t := 3) (fr := (0, 0)) (heap_alloc_at _ _ _ (by simp))) (by simp [Value.oneCell']) (by omega) (by unfold maxLen; omega) (by omega) (by simp; omega) (W2.heap.size + 1) (by simp) ?_); intro g4 c4 w4 ho4 hg4 hat4 hl4; have S4 : Hid (SAt w w4 K.length A (.slice (some ⟨g4, 0, none⟩) (V.length + 1) c4) (V ++ [k0])) := S2.out.push hg4 ho4; have X4 : Hid (Bx w4 wr.heap.size k0 k1 k2 k3 k4 k5) := X2.out.far hg4 HOB.out; clear y0 y1 y2 y3 y4 y5 yl S2 X2 hqq; obtain ⟨y0, y1, y2, y3, y4, y5⟩ := X4.out.c; have yl := X4.out.lt; have lt4 := S4.out.lt; clear ho4 hg4 hat4 hl4) | (go_at_call 69; have hqq := S4; refine (wLeaf_any _ _ _ _ _ _ _).mono ?_; rintro e w3 ⟨rfl, hb3⟩; rw [HLF.out]; have S3 : Hid (SAt w w3 K.length A (.slice (some ⟨g4, 0, none⟩) (V.length + 1) c4) (V ++ [k0])) := S4.out.quiet hb3; have X3 : Hid (Bx w3 wr.heap.size k0 k1 k2 k3 k4 k5) := X4.out.below hb3; have lt3 := S3.out.lt; have yl3 := X3.out.lt; clear hb3 hqq y0 y1 y2 y3 y4 y5))
          exact ⟨⟨m + 1, (V ++ [k0]), A, Q', by omega, by go_num, HP.out, HV.out, S3.out⟩, by simp [intOf]; omega⟩
      · cases hq : redQ (A m) (ndAt K m).wt
        · have HQ : Hid (redQ (A m) (ndAt K m).wt = false) := hq
          have HP : Hid (Pend _ _ _ _) := hP'
          have HLF : Hid (rleafB (ndAt K m) = false) := rleafB_no (by omega)
          have HV : Hid (V ++ inhS redF redO Q' = X) := by show _ = _; rw [← hV, hO]; unfold redO; rw [show (ndP (ndAt K m)).wt = (ndAt K m).wt from rfl, hq]; simp
          have l0 : (0 : Int) ≤ (l : Int) := Int.natCast_nonneg _
          have r0' : (0 : Int) ≤ (r : Int) := Int.natCast_nonneg _
          have hll : l < K.length := by omega
          have l3 : (l : Int) < (K.length : Int) := by omega
          have r3' : (r : Int) < (K.length : Int) := by omega
          have hne : l ≠ r := by omega
          have hne' : r ≠ l := by omega
          have eF : redF (ndP (ndAt K m)) (A m) = (ndAt K m).wt := rfl
          rw [eF] at HP
          clear hP hP' hO hV hS hl1 hr1 hq eF
          generalize ndAt K m = nd at *
          obtain ⟨k0, k1, k2, k3, k4, k5⟩ := nd
          simp only at HC HV HQ HP hl hr
          subst hl hr
          obtain ⟨c0, c1, c2, c3, c4, c5⟩ := HC.out
          go_wp2_with fail
          generalize hW1 : wr.alloc (.cells #[.int .i64 k0, .int .i64 k1, .int .i64 k2, .int .i64 k3, .int .i64 (l : Int), .int .i64 (r : Int)] 54) = W1
          have S1 : Hid (SAt w W1 K.length A u3 V) := by rw [← hW1]; exact S0.out.quiet (below_alloc _ _)
          have X1 : Hid (Bx W1 wr.heap.size k0 k1 k2 k3 (l : Int) (r : Int)) := bx_new (hW1 ▸ heap_alloc_at wr _ wr.heap.size rfl)
          have z1 := BelowBy.cell S1.out.lt (S1.out.ab m hlm).1
          have z2 := BelowBy.cell X1.out.lt X1.out.c.2.2.1
          have SR : Hid (∀ p : BelowBy W1, Calls Try.prog 77 #[.int .i64 (A m), .int .i64 k2] p.W fun e w' => e = .returned (.bool false) ∧ Below p.W.heap.size p.W w') := fun p => by
            have := isRed_any (A m) k2 p.W
            rw [HQ.out] at this
            exact this
          clear hW1 c0 c1 c2 c3 c4 c5
          refine wp_region_below (by kernel_rfl) (by kernel_rfl) ?_
          repeat (go_big_quiet_step ((go_at_call 77; exact below_call (SR.out _))))
          refine wpQuiet_nil ?_
          rintro _ ⟨p, rfl⟩
          have S2 : Hid (SAt w p.W K.length A u3 V) := S1.out.quiet p.h
          have X2 : Hid (Bx p.W wr.heap.size k0 k1 k2 k3 (l : Int) (r : Int)) := X1.out.below p.h
          clear z1 z2 SR
          generalize p.W = W2 at *
          obtain ⟨y0, y1, y2, y3, y4, y5⟩ := X2.out.c
          have yl := X2.out.lt
          have lt2 := S2.out.lt
          go_wp2_with (first | (go_at_call 69; have hqq := S2; refine (wLeaf_any _ _ _ _ _ _ _).mono ?_; rintro e w3 ⟨rfl, hb3⟩; rw [HLF.out]; have S3 : Hid (SAt w w3 K.length A u3 V) := S2.out.quiet hb3; have X3 : Hid (Bx w3 wr.heap.size k0 k1 k2 k3 (l : Int) (r : Int)) := X2.out.below hb3; have lt3 := S3.out.lt; have yl3 := X3.out.lt; clear hb3 hqq y0 y1 y2 y3 y4 y5; have v1 := (S3.out.ab l hll).1; have v2 := (S3.out.ab r hr2).1; have f1 := (S3.out.ab l hll).2; have f2 := (S3.out.ab r hr2).2; obtain ⟨s0, s1, s2, s3, s4, s5⟩ := X3.out.c))
          go_region
          go_wp2_with fail
          exact ⟨⟨m + 1, V, _, Q', by omega, by go_num, HP.out, HV.out, by first | exact (S3.out.two _ hll hr2).drew | exact S3.out.two _ hll hr2⟩, by simp [intOf]; omega⟩
        · have HQ : Hid (redQ (A m) (ndAt K m).wt = true) := hq
          have HP : Hid (Pend _ _ _ _) := hP'
          have HLF : Hid (rleafB (ndAt K m) = false) := rleafB_no (by omega)
          have HV : Hid ((V ++ [(ndAt K m).key]) ++ inhS redF redO Q' = X) := by show _ = _; rw [← hV, hO]; unfold redO; rw [show (ndP (ndAt K m)).wt = (ndAt K m).wt from rfl, hq]; simp [ndP]
          have l0 : (0 : Int) ≤ (l : Int) := Int.natCast_nonneg _
          have r0' : (0 : Int) ≤ (r : Int) := Int.natCast_nonneg _
          have hll : l < K.length := by omega
          have l3 : (l : Int) < (K.length : Int) := by omega
          have r3' : (r : Int) < (K.length : Int) := by omega
          have hne : l ≠ r := by omega
          have hne' : r ≠ l := by omega
          have eF : redF (ndP (ndAt K m)) (A m) = (ndAt K m).wt := rfl
          rw [eF] at HP
          clear hP hP' hO hV hS hl1 hr1 hq eF
          generalize ndAt K m = nd at *
          obtain ⟨k0, k1, k2, k3, k4, k5⟩ := nd
          simp only at HC HV HQ HP hl hr
          subst hl hr
          obtain ⟨c0, c1, c2, c3, c4, c5⟩ := HC.out
          go_wp2_with fail
          generalize hW1 : wr.alloc (.cells #[.int .i64 k0, .int .i64 k1, .int .i64 k2, .int .i64 k3, .int .i64 (l : Int), .int .i64 (r : Int)] 54) = W1
          have S1 : Hid (SAt w W1 K.length A u3 V) := by rw [← hW1]; exact S0.out.quiet (below_alloc _ _)
          have X1 : Hid (Bx W1 wr.heap.size k0 k1 k2 k3 (l : Int) (r : Int)) := bx_new (hW1 ▸ heap_alloc_at wr _ wr.heap.size rfl)
          have z1 := BelowBy.cell S1.out.lt (S1.out.ab m hlm).1
          have z2 := BelowBy.cell X1.out.lt X1.out.c.2.2.1
          have SR : Hid (∀ p : BelowBy W1, Calls Try.prog 77 #[.int .i64 (A m), .int .i64 k2] p.W fun e w' => e = .returned (.bool true) ∧ Below p.W.heap.size p.W w') := fun p => by
            have := isRed_any (A m) k2 p.W
            rw [HQ.out] at this
            exact this
          clear hW1 c0 c1 c2 c3 c4 c5
          refine wp_region_below (by kernel_rfl) (by kernel_rfl) ?_
          repeat (go_big_quiet_step ((go_at_call 77; exact below_call (SR.out _))))
          refine wpQuiet_nil ?_
          rintro _ ⟨p, rfl⟩
          have S2 : Hid (SAt w p.W K.length A u3 V) := S1.out.quiet p.h
          have X2 : Hid (Bx p.W wr.heap.size k0 k1 k2 k3 (l : Int) (r : Int)) := X1.out.below p.h
          clear z1 z2 SR
          generalize p.W = W2 at *
          obtain ⟨y0, y1, y2, y3, y4, y5⟩ := X2.out.c
          have yl := X2.out.lt
          have lt2 := S2.out.lt
          go_wp2_with (first | (at_builtin; have hqq := S2; (refine wpList_append_lies _ (by rfl) _ _ _ (by rfl) (w.heap.size + 1) 3 i0 _ 1 8 ins_under hi0 hz0 hz1 hz2 rfl (by omega) _ V.length _ (by rfl) (S2.out.own.alloc _) ⟨W2.heap.size, 0, none⟩ 1 1 [.int .i64 k0] (by rfl) (by rfl) (World.news_of_block (cs := #[.int .i64 k0]) (t := 3) (fr := (0, 0)) (heap_alloc_at _ _ _ (by simp))) (by simp [Value.oneCell']) (by omega) (by unfold maxLen; omega) (by omega) (by simp; omega) (W2.heap.size + 1) (by simp) ?_); intro g4 c4 w4 ho4 hg4 hat4 hl4; have S4 : Hid (SAt w w4 K.length A (.slice (some ⟨g4, 0, none⟩) (V.length + 1) c4) (V ++ [k0])) := S2.out.push hg4 ho4; have X4 : Hid (Bx w4 wr.heap.size k0 k1 k2 k3 (l : Int) (r : Int)) := X2.out.far hg4 HOB.out; clear y0 y1 y2 y3 y4 y5 yl S2 X2 hqq; obtain ⟨y0, y1, y2, y3, y4, y5⟩ := X4.out.c; have yl := X4.out.lt; have lt4 := S4.out.lt; clear ho4 hg4 hat4 hl4) | (go_at_call 69; have hqq := S4; refine (wLeaf_any _ _ _ _ _ _ _).mono ?_; rintro e w3 ⟨rfl, hb3⟩; rw [HLF.out]; have S3 : Hid (SAt w w3 K.length A (.slice (some ⟨g4, 0, none⟩) (V.length + 1) c4) (V ++ [k0])) := S4.out.quiet hb3; have X3 : Hid (Bx w3 wr.heap.size k0 k1 k2 k3 (l : Int) (r : Int)) := X4.out.below hb3; have lt3 := S3.out.lt; have yl3 := X3.out.lt; clear hb3 hqq y0 y1 y2 y3 y4 y5; have v1 := (S3.out.ab l hll).1; have v2 := (S3.out.ab r hr2).1; have f1 := (S3.out.ab l hll).2; have f2 := (S3.out.ab r hr2).2; obtain ⟨s0, s1, s2, s3, s4, s5⟩ := X3.out.c))
          go_region
          go_wp2_with fail
          exact ⟨⟨m + 1, (V ++ [k0]), _, Q', by omega, by go_num, HP.out, HV.out, by first | exact (S3.out.two _ hll hr2).drew | exact S3.out.two _ hll hr2⟩, by simp [intOf]; omega⟩
    · obtain rfl : m = K.length := by omega
      have hQ : Q = [] := by
        cases Q with
        | nil => rfl
        | cons e Q => obtain ⟨b1, a1⟩ := e; have := hP.1.1; have := b1.size_pos; omega
      have HX : Hid (V = X) := by show V = X; rw [← hV, hQ]; simp [inhS]
      clear hP hV hS
      go_wp2_with fail
      go_ret
      refine ⟨_, rfl, ?_, S0.out.below⟩
      rw [← HX.out]
      exact owns_down S0.out.own (by omega)
set_option maxRecDepth 100000 in
theorem wreds_none (base : Option Addr) (c : Nat) (w : World) :
    Calls Try.prog 55 #[.slice base 0 c] w fun e w' => e = .returned (.slice none 0 0) ∧ Below w.heap.size w w' := by
  go_enter Try.func55, Try.ntmps55
  go_wp2_with fail
  go_ret
  exact ⟨rfl, Below.refl _ _⟩
end Go.Proofs.Ytiencggnijfjoaa

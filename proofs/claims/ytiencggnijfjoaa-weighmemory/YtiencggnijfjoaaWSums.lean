
/- Layer 17: sums, Sums. -/

import Derived.Test.YtiencggnijfjoaaWKeys

namespace Go.Proofs.Ytiencggnijfjoaa

open Go.RowKit

attribute [local go_sem ↓] Go.wp_at_zero Go.wp_at_succ

set_option maxRecDepth 100000 in
theorem wLeaf_any (a0 a1 a2 a3 a4 a5 : Int) (w : World) :
    Calls Try.prog 69 #[.agg #[.int .i64 a0, .int .i64 a1, .int .i64 a2, .int .i64 a3, .int .i64 a4, .int .i64 a5]] w fun e w' => e = .returned (.bool (rleafB ⟨a0, a1, a2, a3, a4, a5⟩)) ∧ Below w.heap.size w w' := by
  go_enter Try.func69, Try.ntmps69
  go_wp2
  go_ret
  exact ⟨by rw [show rleafB ⟨a0, a1, a2, a3, a4, a5⟩ = (a4 == -1) by by_cases h : a4 = -1 <;> simp [rleafB, h]]; rfl, below_alloc _ _⟩
/-- Rows of numbers. -/
def isC (L : List Int) : List Value := L.map (fun x : Int => Value.int .i64 x)
theorem isC_length (L : List Int) : (isC L).length = L.length := by simp [isC]
theorem isC_append (a b : List Int) : isC (a ++ b) = isC a ++ isC b := by simp [isC]
/-- What is handed down by place, and what has come out. -/
structure SAt (w0 x : World) (n : Nat) (A : Nat → Int) (v : Value) (V : List Int) : Prop where
  own : x.ownsRow (w0.heap.size + 1) 3 1 v V.length (isC V)
  ab : Ints x w0.heap.size n A
  lt : w0.heap.size < x.heap.size
  below : Below w0.heap.size w0 x
theorem SAt.quiet {w0 x y : World} {n : Nat} {A : Nat → Int} {v : Value} {V : List Int} (h : SAt w0 x n A v V) (hb : Below x.heap.size x y) : SAt w0 y n A v V :=
  ⟨owns_below h.own hb, h.ab.below h.lt hb, Nat.lt_of_lt_of_le h.lt hb.size, h.below.trans (hb.mono h.below.size)⟩
theorem SAt.drew {w0 x : World} {n : Nat} {A : Nat → Int} {v : Value} {V : List Int} (h : SAt w0 x n A v V) : SAt w0 x.drew n A v V := ⟨h.own, h.ab, h.lt, h.below.drew⟩
theorem SAt.two {w0 x : World} {n : Nat} {A : Nat → Int} {v : Value} {V : List Int} (h : SAt w0 x n A v V) {l r : Nat} (a : Int) (hl : l < n) (hr : r < n) : SAt w0 ((x.setCell ⟨w0.heap.size, l, none⟩ (.int .i64 a)).setCell ⟨w0.heap.size, r, none⟩ (.int .i64 a)) n (fun y => if y = r then a else if y = l then a else A y) v V :=
  ⟨owns_apart (owns_apart h.own _ _ _ (by omega)) _ _ _ (by omega), (h.ab.set l a hl).set r a hr, by simpa using h.lt, (h.below.setCell (Nat.le_refl _) _).setCell (Nat.le_refl _) _⟩
theorem SAt.push {w0 x y : World} {n : Nat} {A : Nat → Int} {v v' : Value} {V : List Int} {a : Int} {o : Obj} (h : SAt w0 x n A v V) (hg : (x.alloc o).grownBy y v.ownBlock) (ho : y.ownsRow (w0.heap.size + 1) 3 1 v' (V.length + 1) (isC V ++ [.int .i64 a])) : SAt w0 y n A v' (V ++ [a]) :=
  ⟨by rw [List.length_append, isC_append]; exact ho, h.ab.far hg h.lt (fun b q => by have := (owns_lt h.own b q).1; omega), by have := hg.size; rw [World.size_alloc] at this; have := h.lt; omega, Below.grown (h.below.alloc h.below.size o) hg (by rw [World.size_alloc]; have := h.below.size; omega) (fun k q => by have := (owns_lt h.own k q).1; omega)⟩
theorem SAt.len {w0 x : World} {n : Nat} {A : Nat → Int} {v : Value} {V : List Int} (h : SAt w0 x n A v V) : slLen v = V.length := by
  rcases Go.Joins.ownsRow_forms h.own with ⟨rfl, q⟩ | ⟨_, _, rfl⟩
  · rw [q]; rfl
  · rfl
def sumF (d : PD) (a : Int) : Int := a + d.wt
def sumO (lf : Bool) (d : PD) (a : Int) : List Int := if lf then [a + d.wt] else []
/-- The sums of a tree, from the left to the right. -/
def sumsB (b : BT) : List Int := inh sumF sumO b 0
theorem inh_len (f : PD → Int → Int) (out : Bool → PD → Int → List Int) (ho : ∀ lf d a, (out lf d a).length ≤ 1) : ∀ (b : BT) (a : Int), (inh f out b a).length ≤ b.size
  | .leaf d, a => ho true d a
  | .node d l r, a => by
    have h1 := inh_len f out ho l (f d a)
    have h2 := inh_len f out ho r (f d a)
    have h3 := ho false d a
    simp only [inh, BT.size, List.length_append]
    omega
theorem sumO_len (lf : Bool) (d : PD) (a : Int) : (sumO lf d a).length ≤ 1 := by unfold sumO; split <;> simp
theorem wrap_ok (a : Int) (h1 : -9223372036854775808 ≤ a) (h2 : a ≤ 9223372036854775807) : IntKind.i64.wrap a = a := by rw [IntKind.wrap_i64] <;> omega
set_option maxRecDepth 100000 in
set_option maxHeartbeats 2000000 in
theorem wsums_any (base : Option Addr) (b o c : Nat) (B : BT) (K : NL) (w : World) (h : NodesAt w base b o K) (hK : K = B.lay 0) (hok : B.ok) (hs : B.size ≤ 100000) :
    Calls Try.prog 45 #[.slice base K.length c] w fun e w' => ∃ v, e = .returned v ∧ w'.ownsRow w.heap.size 3 1 v (sumsB B).length (isC (sumsB B)) ∧ Below w.heap.size w w' := by
  have hKl : K.length = B.size := by rw [hK, BT.lay_length]
  have hpos : 0 < K.length := by rw [hKl]; exact B.size_pos
  have HG : Hid (∀ i, i < K.length → NodeOk (ndAt K i) K.length) := by rw [hK]; exact (lay_form hok).good.node
  have hX : (sumsB B).length ≤ 100000 := Nat.le_trans (inh_len _ _ sumO_len B 0) hs
  have P0 : Hid (Pend K (fun _ => 0) 0 [(B, 0)]) := by rw [hK]; exact pend_first B (fun _ => 0)
  have X0 : Hid (inhS sumF sumO [(B, 0)] = sumsB B) := by show inhS _ _ _ = _; simp [inhS, sumsB]
  have hKb : K.length ≤ 100000 := by omega
  obtain rfl : base = some ⟨b, o, none⟩ := h.base (by omega)
  have hbl := h.lt (by omega)
  have HA : Hid (NodesAt _ _ _ _ _) := h
  clear h hK hok hs hKl
  generalize sumsB B = X at *
  obtain ⟨i0, hi0, hz0, hz1, hz2⟩ := info_parts in_info
  have hmi := run_make_known (P := Try.prog) 23 3 (.int .i64 0) 1 8 ins_under in_info K.length (by omega) (by omega)
  have Z0 : Hid (SAt w (w.alloc (.cells (madeCells #[.int .i64 0] K.length) 3)) K.length (fun _ => 0) (.slice none 0 0) []) := by
    rw [made_zeros]
    exact ⟨World.ownsRow_nil _ _ _ _, zeros_ints w 3 K.length, by simp, below_alloc _ _⟩
  go_enter Try.func45, Try.ntmps45
  go_wp2_with fail
  go_loopw [3, 13] (fun v i wr => ∃ (m : Nat) (V : List Int) (A : Nat → Int) (Q : List (BT × Int)), m ≤ K.length ∧ i = .int .i64 m ∧ Pend K A m Q ∧ V ++ inhS sumF sumO Q = X ∧ (∀ x, 0 ≤ A x ∧ A x ≤ 1000000 * (m : Int)) ∧ SAt w wr K.length A v V) (fun _ i _ => K.length - (intOf i).toNat)
  case atStart => exact ⟨0, [], fun _ => 0, [(B, 0)], Nat.zero_le _, rfl, P0.out, by rw [X0.out]; rfl, fun x => by simp, Z0.out⟩
  case round =>
    obtain ⟨m, V, A, Q, hm, rfl, hP, hV, hAb, hS⟩ := hrel
    have S0 : Hid (SAt _ _ _ _ _ _) := hS
    have hlt := hS.lt
    have hz := hS.below.size
    by_cases hlm : m < K.length
    · have m0 : (0 : Int) ≤ (m : Int) := Int.natCast_nonneg _
      have m1 : (m : Int) < (K.length : Int) := by omega
      have HC : Hid _ := (HA.out.below hS.below).cells m hlm
      have am := (hS.ab m hlm).1
      have hVl : V.length ≤ 100000 := by have := congrArg List.length hV; simp at this; omega
      have hbr : b < wr.heap.size := by omega
      have hok := HG.out m hlm
      have w1 := hok.2.2.1
      have w2 := hok.2.2.2
      obtain ⟨a1, a2⟩ := hAb m
      have HAB : Hid _ := hAb
      have sw : IntKind.i64.wrap (A m + (ndAt K m).wt) = A m + (ndAt K m).wt := wrap_ok _ (by omega) (by omega)
      have nsz : w.heap.size ≠ wr.heap.size := by omega
      have nsz' : wr.heap.size ≠ w.heap.size := by omega
      rcases pend_step (f := sumF) (out := sumO) hP hlm with ⟨Q', hl, hr, hP', hO⟩ | ⟨l, r, Q', hl, hr, hl1, hr1, hr2, hP', hO⟩
      · have HLF : Hid (rleafB (ndAt K m) = true) := rleafB_yes hl
        have HP : Hid (Pend _ _ _ _) := hP'
        have HV : Hid ((V ++ [A m + (ndAt K m).wt]) ++ inhS sumF sumO Q' = X) := by show _ = _; rw [← hV, hO]; simp [sumO, ndP]
        clear hP hP' hO hV hAb hS hl hr hok
        generalize ndAt K m = nd at *
        obtain ⟨k0, k1, k2, k3, k4, k5⟩ := nd
        simp only at HC HV sw w1 w2
        obtain ⟨c0, c1, c2, c3, c4, c5⟩ := HC.out
        go_wp2_with fail
        generalize hW1 : wr.alloc (.cells #[.int .i64 k0, .int .i64 k1, .int .i64 k2, .int .i64 k3, .int .i64 k4, .int .i64 k5] 54) = W1
        have S1 : Hid (SAt w W1 K.length A u3 V) := by rw [← hW1]; exact S0.out.quiet (below_alloc _ _)
        obtain ⟨bl, q0, q1, q2, q3, q4, q5⟩ := box_cells (hW1 ▸ heap_alloc_at wr _ wr.heap.size rfl)
        have am1 := (S1.out.ab m hlm).1
        have lt1 := S1.out.lt
        clear hW1 c0 c1 c2 c3 c4 c5 am
        go_quiet (fail)
        have S2 : Hid (SAt w (W1.drewN nq) K.length A u3 V) := S1.out.quiet (below_drewN (Below.refl _ _) nq)
        generalize hW2 : W1.drewN nq = W2 at *
        have hB2 : Below W1.heap.size W1 W2 := by rw [← hW2]; exact below_drewN (Below.refl _ _) nq
        have r0 := (hB2.cell (p := ⟨wr.heap.size, 0, none⟩) bl).trans q0
        have r1 := (hB2.cell (p := ⟨wr.heap.size, 1, none⟩) bl).trans q1
        have r2 := (hB2.cell (p := ⟨wr.heap.size, 2, none⟩) bl).trans q2
        have r3 := (hB2.cell (p := ⟨wr.heap.size, 3, none⟩) bl).trans q3
        have r4 := (hB2.cell (p := ⟨wr.heap.size, 4, none⟩) bl).trans q4
        have r5 := (hB2.cell (p := ⟨wr.heap.size, 5, none⟩) bl).trans q5
        have lt2 := S2.out.lt
        clear hW2 hB2 q0 q1 q2 q3 q4 q5 am1
        go_wp2_with (first | (go_at_call 69; refine (wLeaf_any _ _ _ _ _ _ _).mono ?_; rintro e w3 ⟨rfl, hb3⟩; rw [HLF.out]; have S3 : Hid (SAt w w3 K.length A u3 V) := S2.out.quiet hb3; have lt3 := S3.out.lt; clear hb3) | (at_builtin; (refine wpList_append_lies _ (by rfl) _ _ _ (by rfl) (w.heap.size + 1) 3 i0 _ 1 8 ins_under hi0 hz0 hz1 hz2 rfl (by omega) _ V.length _ (by rfl) (S3.out.own.alloc _) ⟨w3.heap.size, 0, none⟩ 1 1 [.int .i64 (A m + k2)] (by rfl) (by rfl) (World.news_of_block (cs := #[.int .i64 (A m + k2)]) (t := 3) (fr := (0, 0)) (heap_alloc_at _ _ _ (by simp))) (by simp [Value.oneCell']) (by omega) (by unfold maxLen; omega) (by omega) (by simp; omega) (w3.heap.size + 1) (by simp) ?_); intro g4 c4 w4 ho4 hg4 hat4 hl4; have S4 : Hid (SAt w w4 K.length A (.slice (some ⟨g4, 0, none⟩) (V.length + 1) c4) (V ++ [A m + k2])) := S3.out.push hg4 ho4; clear ho4 hg4 hat4 hl4))
        exact ⟨⟨m + 1, V ++ [A m + k2], A, Q', by omega, by go_num, HP.out, HV.out, fun x => ⟨(HAB.out x).1, by have := (HAB.out x).2; omega⟩, S4.out⟩, by simp [intOf]; omega⟩
      · have HLF : Hid (rleafB (ndAt K m) = false) := rleafB_no (by omega)
        have HP : Hid (Pend _ _ _ _) := hP'
        have HV : Hid (V ++ inhS sumF sumO Q' = X) := by show _ = _; rw [← hV, hO]; simp [sumO]
        have HNB : Hid (∀ x, 0 ≤ (if x = r then sumF (ndP (ndAt K m)) (A m) else if x = l then sumF (ndP (ndAt K m)) (A m) else A x) ∧ (if x = r then sumF (ndP (ndAt K m)) (A m) else if x = l then sumF (ndP (ndAt K m)) (A m) else A x) ≤ 1000000 * ((m + 1 : Nat) : Int)) := fun x => by
          have hx := hAb x
          have e : sumF (ndP (ndAt K m)) (A m) = A m + (ndAt K m).wt := rfl
          rw [e]
          split
          · omega
          · split <;> omega
        have l0 : (0 : Int) ≤ (l : Int) := Int.natCast_nonneg _
        have r0' : (0 : Int) ≤ (r : Int) := Int.natCast_nonneg _
        have hll : l < K.length := by omega
        have l3 : (l : Int) < (K.length : Int) := by omega
        have r3' : (r : Int) < (K.length : Int) := by omega
        have hne : l ≠ r := by omega
        have hne' : r ≠ l := by omega
        clear hP hP' hO hV hAb hS hok hl1 hr1
        have eF : sumF (ndP (ndAt K m)) (A m) = A m + (ndAt K m).wt := rfl
        rw [eF] at HP HNB
        clear eF
        generalize ndAt K m = nd at *
        obtain ⟨k0, k1, k2, k3, k4, k5⟩ := nd
        simp only at HC HP HNB sw w1 w2 hl hr
        subst hl hr
        obtain ⟨c0, c1, c2, c3, c4, c5⟩ := HC.out
        go_wp2_with fail
        generalize hW1 : wr.alloc (.cells #[.int .i64 k0, .int .i64 k1, .int .i64 k2, .int .i64 k3, .int .i64 (l : Int), .int .i64 (r : Int)] 54) = W1
        have S1 : Hid (SAt w W1 K.length A u3 V) := by rw [← hW1]; exact S0.out.quiet (below_alloc _ _)
        have HBX : Hid _ := (hW1 ▸ heap_alloc_at wr _ wr.heap.size rfl : W1.heap[wr.heap.size]? = some (.cells #[.int .i64 k0, .int .i64 k1, .int .i64 k2, .int .i64 k3, .int .i64 (l : Int), .int .i64 (r : Int)] 54))
        obtain ⟨bl, q0, q1, q2, q3, q4, q5⟩ := box_cells HBX.out
        have am1 := (S1.out.ab m hlm).1
        have lt1 := S1.out.lt
        clear hW1 c0 c1 c2 c3 c4 c5 am
        go_quiet (fail)
        have S2 : Hid (SAt w (W1.drewN nq) K.length A u3 V) := S1.out.quiet (below_drewN (Below.refl _ _) nq)
        generalize hW2 : W1.drewN nq = W2 at *
        have hB2 : Below W1.heap.size W1 W2 := by rw [← hW2]; exact below_drewN (Below.refl _ _) nq
        have HB2 : Hid (W2.heap[wr.heap.size]? = _) := (hB2.block _ bl).trans HBX.out
        have lt2 := S2.out.lt
        clear hW2 hB2 q0 q1 q2 q3 q4 q5 am1 bl
        obtain ⟨bl, q0, q1, q2, q3, q4, q5⟩ := box_cells HB2.out
        go_wp2_with (first | (go_at_call 69; refine (wLeaf_any _ _ _ _ _ _ _).mono ?_; rintro e w3 ⟨rfl, hb3⟩; rw [HLF.out]; have S3 : Hid (SAt w w3 K.length A u3 V) := S2.out.quiet hb3; have lt3 := S3.out.lt; obtain ⟨bl3, s0, s1, s2, s3, s4, s5⟩ := box_cells ((hb3.block _ bl).trans HB2.out); have v1 := (S3.out.ab l hll).1; have v2 := (S3.out.ab r hr2).1; have f1 := (S3.out.ab l hll).2; have f2 := (S3.out.ab r hr2).2; clear hb3))
        go_region
        go_wp2_with fail
        exact ⟨⟨m + 1, V, _, Q', by omega, by go_num, HP.out, HV.out, HNB.out, by first | exact (S3.out.two _ hll hr2).drew | exact S3.out.two _ hll hr2⟩, by simp [intOf]; omega⟩
    · obtain rfl : m = K.length := by omega
      have hQ : Q = [] := by
        cases Q with
        | nil => rfl
        | cons e Q => obtain ⟨b1, a1⟩ := e; have := hP.1.1; have := b1.size_pos; omega
      have HX : Hid (V = X) := by show V = X; rw [← hV, hQ]; simp [inhS]
      clear hP hV hAb hS
      go_wp2_with fail
      go_ret
      refine ⟨_, rfl, ?_, S0.out.below⟩
      rw [← HX.out]
      exact owns_down S0.out.own (by omega)
end Go.Proofs.Ytiencggnijfjoaa

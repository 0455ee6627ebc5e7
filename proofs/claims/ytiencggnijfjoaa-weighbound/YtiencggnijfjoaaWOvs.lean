
/- Layer 17: Overs; isLightLeaf; even. -/

import Derived.Test.YtiencggnijfjoaaWMore

namespace Go.Proofs.Ytiencggnijfjoaa

open Go.RowKit

attribute [local go_sem ↓] Go.wp_at_zero Go.wp_at_succ

/-- The keys of the overs among the first m nodes. -/
def ovsL (K : NL) : Nat → List Int
  | 0 => []
  | m + 1 => ovsL K m ++ (if overQ (ndAt K m).wt then [(ndAt K m).key] else [])
theorem ovsL_len (K : NL) : ∀ m, (ovsL K m).length ≤ m
  | 0 => by simp [ovsL]
  | m + 1 => by
    have := ovsL_len K m
    simp only [ovsL, List.length_append]
    split <;> simp <;> omega
theorem JRow.quiet {w0 x y : World} {v : Value} {V : List Int} (h : JRow w0 x v V) (hb : Below x.heap.size x y) : JRow w0 y v V := ⟨owns_below h.own hb, h.below.trans (hb.mono h.below.size)⟩
set_option maxRecDepth 100000 in
set_option maxHeartbeats 1000000 in
theorem Overs_any (base : Option Addr) (b o c : Nat) (t : NL) (w : World) (h : NodesAt w base b o t) :
    Calls Try.prog 27 #[.slice base t.length c] w fun e w' => ∃ v, e = .returned (.tuple #[v, .int .i64 (keyE t)]) ∧ w'.ownsRow w.heap.size 3 1 v (ovsL (keysA t) (keysA t).length).length (isC (ovsL (keysA t) (keysA t).length)) ∧ Below w.heap.size w w' := by
  have HA : Hid (NodesAt _ _ _ _ _) := h
  clear h
  by_cases he : keyE t = 0
  · have d : (keyE t != 0) = false := by simp [he]
    have HE : Hid (keyE t = 0) := he
    obtain ⟨k, hk⟩ := keyed_of t
    obtain ⟨hK1, -, -, -⟩ := keys_ok hk
    obtain ⟨i0, hi0, hz0, hz1, hz2⟩ := info_parts in_info
    clear he hk
    go_enter Try.func27, Try.ntmps27
    go_wp2_with fail
    refine (keysOf_any base b o c t _ HA.out).mono ?_
    rintro e w1 ⟨v1, rfl, ho1, hb1⟩
    obtain ⟨bs1, cp1, g1, rfl, -, -, hn1⟩ := nodes_of_owns ho1
    have N1 : Hid (NodesAt _ _ _ _ _) := hn1
    have B1 : Hid (Below w.heap.size w w1) := hb1
    clear ho1 hn1 hb1
    generalize hKK : keysA t = K at *
    have HKK : Hid (keysA t = K) := hKK
    clear hKK
    go_wp2_with fail
    go_loopw [6, 19] (fun v i wr => ∃ m : Nat, m ≤ K.length ∧ i = .int .i64 m ∧ JRow w1 wr v (ovsL K m)) (fun _ i _ => K.length - (intOf i).toNat)
    case atStart => exact ⟨0, Nat.zero_le _, rfl, World.ownsRow_nil _ _ _ _, Below.refl _ _⟩
    case round =>
      obtain ⟨m, hm, rfl, hJ⟩ := hrel
      have S0 : Hid (JRow _ _ _ _) := hJ
      have hz := hJ.below.size
      by_cases hlm : m < K.length
      · obtain rfl : bs1 = some ⟨g1, 0, none⟩ := N1.out.base (by omega)
        have hg1 := N1.out.lt (by omega)
        have HCC : Hid _ := (N1.out.below hJ.below).cells m hlm
        have hgr : g1 < wr.heap.size := by omega
        have m0 : (0 : Int) ≤ (m : Int) := Int.natCast_nonneg _
        have m1 : (m : Int) < (K.length : Int) := by omega
        have hvl := ovsL_len K m
        have HS : Hid (ovsL K (m + 1) = ovsL K m ++ (if overQ (ndAt K m).wt then [(ndAt K m).key] else [])) := rfl
        clear hJ
        generalize ovsL K m = V at *
        generalize ndAt K m = nd at *
        obtain ⟨k0, k1, k2, k3, k4, k5⟩ := nd
        simp only at HCC HS
        obtain ⟨c0, c1, c2, c3, c4, c5⟩ := HCC.out
        simp only [Nat.zero_add] at c0 c1 c2 c3 c4 c5
        have S1 : Hid (JRow w1 (wr.alloc (.cells #[.int .i64 k0, .int .i64 k1, .int .i64 k2, .int .i64 k3, .int .i64 k4, .int .i64 k5] 54)) u6 V) := S0.out.quiet (below_alloc _ _)
        have X1 : Hid (∀ z : World, Below (wr.heap.size + 1) (wr.alloc (.cells #[.int .i64 k0, .int .i64 k1, .int .i64 k2, .int .i64 k3, .int .i64 k4, .int .i64 k5] 54)) z → Bx z wr.heap.size k0 k1 k2 k3 k4 k5) := fun z hz => (bx_new (heap_alloc_at _ _ _ rfl)).below (by rw [World.size_alloc]; exact hz)
        cases hq : overQ k2
        · have HQ : Hid (overQ k2 = false) := hq
          have HS' : Hid (ovsL K (m + 1) = V) := by show _ = _; rw [HS.out, hq]; simp
          clear hq
          go_wp2_with (first | (go_at_call 57; refine (isOver_any _ _).mono ?_; rintro e w3 ⟨rfl, hb3⟩; rw [HQ.out]; have S3 : Hid (JRow w1 w3 u6 V) := S1.out.quiet hb3; clear hb3))
          exact ⟨⟨m + 1, by omega, by go_num, by rw [HS'.out]; exact S3.out⟩, by simp [intOf]; omega⟩
        · have HQ : Hid (overQ k2 = true) := hq
          have HS' : Hid (ovsL K (m + 1) = V ++ [k0]) := by show _ = _; rw [HS.out, hq]; simp
          clear hq
          go_wp2_with (first | (go_at_call 57; refine (isOver_any _ _).mono ?_; rintro e w3 ⟨rfl, hb3⟩; rw [HQ.out]; have S3 : Hid (JRow w1 w3 u6 V) := S1.out.quiet hb3; have z3 := S3.out.below.size; have X3 : Hid (Bx _ _ _ _ _ _ _ _) := X1.out w3 (by rw [World.size_alloc] at hb3; exact hb3); obtain ⟨y0, y1, y2, y3, y4, y5⟩ := X3.out.c; have yl := X3.out.lt; clear hb3) | (at_builtin; (refine wpList_append_lies _ (by rfl) _ _ _ (by rfl) w1.heap.size 3 i0 _ 1 8 ins_under hi0 hz0 hz1 hz2 rfl (by omega) _ V.length _ (by rfl) (S3.out.own.alloc _) ⟨w3.heap.size, 0, none⟩ 1 1 [.int .i64 k0] (by rfl) (by rfl) (World.news_of_block (cs := #[.int .i64 k0]) (t := 3) (fr := (0, 0)) (heap_alloc_at _ _ _ (by simp))) (by simp [Value.oneCell']) (by omega) (by unfold maxLen; omega) (by omega) (by simp; omega) (w3.heap.size + 1) (by simp) ?_); intro g4 c4 w4 ho4 hg4 hat4 hl4; have S4 : Hid (JRow w1 w4 (.slice (some ⟨g4, 0, none⟩) (V.length + 1) c4) (V ++ [k0])) := S3.out.grown hg4 ho4; clear ho4 hg4 hat4 hl4))
          exact ⟨⟨m + 1, by omega, by go_num, by rw [HS'.out]; exact S4.out⟩, by simp [intOf]; omega⟩
      · obtain rfl : m = K.length := by omega
        clear hJ
        go_wp2_with fail
        go_ret2
        exact ⟨_, by rw [HE.out]; rfl, by rw [HKK.out]; exact owns_down S0.out.own B1.out.size, B1.out.trans (S0.out.below.mono B1.out.size)⟩
  · have d : (keyE t != 0) = true := by simp [he]
    have FK : Hid (keysA t = []) := keys_bad he
    clear he
    go_enter Try.func27, Try.ntmps27
    go_wp2_with (first | (go_at_call 44; refine (keysOf_any base b o c t _ HA.out).mono ?_; rintro e w1 ⟨v1, rfl, -, hb1⟩; have B1 : Hid (Below w.heap.size w w1) := hb1; clear hb1))
    go_ret2
    exact ⟨_, rfl, by rw [FK.out]; exact World.ownsRow_nil _ _ _ _, B1.out⟩
/-- The least and the greatest of the first m + 1 numbers. -/
def minN (L : List Int) : Nat → Int
  | 0 => L.getD 0 0
  | m + 1 => min (minN L m) (L.getD (m + 1) 0)
def maxN (L : List Int) : Nat → Int
  | 0 => L.getD 0 0
  | m + 1 => max (maxN L m) (L.getD (m + 1) 0)
set_option maxRecDepth 100000 in
set_option maxHeartbeats 1000000 in
theorem slMin_any (a1 : Option Addr) (g o c1 : Nat) (L : List Int) (w : World) (hx : WsAt w a1 g o L) (hl : 0 < L.length) :
    Calls Try.prog 71 #[.slice a1 L.length c1] w fun e w' => e = .returned (.int .i64 (minN L (L.length - 1))) ∧ Below w.heap.size w w' := by
  have lx := hx.len
  unfold maxLen at lx
  obtain rfl : a1 = some ⟨g, o, none⟩ := hx.base (by omega)
  have hg := hx.lt (by omega)
  have HX : Hid (WsAt _ _ _ _ _) := hx
  have s0 := hx.cells 0 hl
  rw [Nat.add_zero] at s0
  have HM0 : Hid (minN L 0 = L.getD 0 0) := rfl
  have HMS : Hid (∀ m, minN L (m + 1) = min (minN L m) (L.getD (m + 1) 0)) := fun _ => rfl
  have z1 : decide ((L.length : Int) < 1) = false := decide_eq_false (by omega)
  have z2 : (0 : Int) < (L.length : Int) := by omega
  clear hx
  generalize hy : L.getD 0 0 = y at s0 HM0
  clear hy
  go_enter Try.func71, Try.ntmps71
  go_wp2_with fail
  go_loopw [3, 4] (fun v i wr => ∃ m : Nat, m < L.length ∧ i = .int .i64 ((m + 1 : Nat) : Int) ∧ v = .int .i64 (minN L m) ∧ Below w.heap.size w wr) (fun _ i _ => L.length + 1 - (intOf i).toNat)
  case atStart => exact ⟨0, hl, rfl, by rw [HM0.out], Below.refl _ _⟩
  case round =>
    obtain ⟨m, hm, rfl, rfl, hb⟩ := hrel
    have BW : Hid (Below w.heap.size w wr) := hb
    by_cases hlm : m + 1 < L.length
    · have s1 := (HX.out.below hb).cells (m + 1) hlm
      have hgr : g < wr.heap.size := by have := hb.size; omega
      have HS : Hid _ := HMS.out m
      have i0 : (0 : Int) ≤ ((m + 1 : Nat) : Int) := Int.natCast_nonneg _
      have i1 : ((m + 1 : Nat) : Int) < (L.length : Int) := by omega
      clear hb s0
      generalize L.getD (m + 1) 0 = q at *
      generalize minN L m = u at *
      generalize hi : m + 1 = i at *
      go_wp2_with fail
      exact ⟨⟨i, by omega, by go_num, by rw [HS.out], BW.out⟩, by simp [intOf]; omega⟩
    · have e : m = L.length - 1 := by omega
      have HE : Hid (minN L m = minN L (L.length - 1)) := by show _ = _; rw [e]
      have n1 : decide (((m + 1 : Nat) : Int) < (L.length : Int)) = false := decide_eq_false (by omega)
      have n2 : decide (m + 1 < L.length) = false := decide_eq_false (by omega)
      clear hb e s0
      go_wp2_with fail
      go_ret
      exact ⟨by rw [← HE.out]; rfl, BW.out⟩
end Go.Proofs.Ytiencggnijfjoaa


/- Layer 17: Reds, Overs, Total. Layer 17: Overs; isLightLeaf; even. Layer 17: even, Even, Sound. Layer 17: Even, Sound. Layer 17: Sound. -/

import Derived.Test.YtiencggnijfjoaaWCopy

import Derived.Deep.RegionHeld3

import Derived.Deep.CutRange

namespace Go.Proofs.Ytiencggnijfjoaa

open Go.RowKit

attribute [local go_sem ↓] Go.wp_at_zero Go.wp_at_succ

/-- A row of numbers that is ours. -/
structure JRow (w0 x : World) (v : Value) (V : List Int) : Prop where
  own : x.ownsRow w0.heap.size 3 1 v V.length (isC V)
  below : Below w0.heap.size w0 x
theorem JRow.grown {w0 x y : World} {v v' : Value} {V : List Int} {q : Int} {o : Obj} (h : JRow w0 x v V) (hg : (x.alloc o).grownBy y v.ownBlock) (ho : y.ownsRow w0.heap.size 3 1 v' (V.length + 1) (isC V ++ [.int .i64 q])) : JRow w0 y v' (V ++ [q]) :=
  ⟨by rw [List.length_append, isC_append]; exact ho, Below.grown (h.below.alloc h.below.size o) hg (by rw [World.size_alloc]; have := h.below.size; omega) (fun k hk => (owns_lt h.own k hk).1)⟩

set_option maxRecDepth 100000 in
set_option maxHeartbeats 1000000 in
theorem Reds_any (base : Option Addr) (b o c : Nat) (t : NL) (k : Option BT) (w : World) (h : NodesAt w base b o t) (hk : Keyed t k) :
    Calls Try.prog 25 #[.slice base t.length c] w fun e w' => ∃ v, e = .returned (.tuple #[v, .int .i64 (keyE t)]) ∧ w'.ownsRow w.heap.size 3 1 v (redsO k).length (isC (redsO k)) ∧ Below w.heap.size w w' := by
  have HA : Hid (NodesAt _ _ _ _ _) := h
  have HK : Hid (Keyed t k) := hk
  clear h
  by_cases he : keyE t = 0
  · have d : (keyE t != 0) = false := by simp [he]
    have HE : Hid (keyE t = 0) := he
    clear he hk
    go_enter Try.func25, Try.ntmps25
    go_wp2_with fail
    refine (keysOf_any base b o c t _ HA.out).mono ?_
    rintro e w1 ⟨v1, rfl, ho1, hb1⟩
    obtain ⟨bs1, cp1, g1, rfl, -, -, hn1⟩ := nodes_of_owns ho1
    have B1 : Hid (Below w.heap.size w w1) := hb1
    have HC : Hid (Calls _ _ _ _ _) := wredsO_any bs1 g1 0 cp1 t k w1 hn1 HK.out
    clear ho1 hn1 hb1
    go_wp2_with fail
    refine HC.out.mono ?_
    rintro e w2 ⟨v2, rfl, ho2, hb2⟩
    have O2 : Hid (World.ownsRow _ _ _ _ _ _ _) := ho2
    have B2 : Hid (Below w.heap.size w w2) := B1.out.trans (hb2.mono B1.out.size)
    clear ho2 hb2
    go_wp2_with fail
    go_ret2
    exact ⟨_, by rw [HE.out]; rfl, owns_down O2.out B1.out.size, B2.out⟩
  · have d : (keyE t != 0) = true := by simp [he]
    obtain rfl := keyed_bad hk he
    clear he hk
    go_enter Try.func25, Try.ntmps25
    go_wp2_with (first | (go_at_call 44; refine (keysOf_any base b o c t _ HA.out).mono ?_; rintro e w1 ⟨v1, rfl, -, hb1⟩; have B1 : Hid (Below w.heap.size w w1) := hb1; clear hb1))
    go_ret2
    exact ⟨_, rfl, World.ownsRow_nil _ _ _ _, B1.out⟩
/-- The weights of the first m nodes. -/
def totN (K : NL) : Nat → Int
  | 0 => 0
  | m + 1 => totN K m + (ndAt K m).wt
theorem totN_le {K : NL} (h : ∀ i, i < K.length → NodeOk (ndAt K i) K.length) : ∀ m, m ≤ K.length → 0 ≤ totN K m ∧ totN K m ≤ 1000000 * (m : Int)
  | 0, _ => by simp [totN]
  | m + 1, hm => by
    have h1 := totN_le h m (by omega)
    have h2 := h m (by omega)
    have w1 := h2.2.2.1
    have w2 := h2.2.2.2
    simp only [totN]
    omega
theorem keys_bad {t : NL} (he : keyE t ≠ 0) : keysA t = [] := by
  unfold keysA
  rw [if_neg]
  intro h
  apply he
  unfold keyE
  rw [if_neg (by omega), h]
set_option maxRecDepth 100000 in
set_option maxHeartbeats 1000000 in
theorem Total_any (base : Option Addr) (b o c : Nat) (t : NL) (w : World) (h : NodesAt w base b o t) :
    Calls Try.prog 17 #[.slice base t.length c] w fun e w' => e = .returned (.tuple #[.int .i64 (totN (keysA t) (keysA t).length), .int .i64 (keyE t)]) ∧ Below w.heap.size w w' := by
  have HA : Hid (NodesAt _ _ _ _ _) := h
  clear h
  by_cases he : keyE t = 0
  · have d : (keyE t != 0) = false := by simp [he]
    have HE : Hid (keyE t = 0) := he
    obtain ⟨k, hk⟩ := keyed_of t
    obtain ⟨hK1, hK2, -, -⟩ := keys_ok hk
    have HOV : Hid (∀ m, m ≤ (keysA t).length → 0 ≤ totN (keysA t) m ∧ totN (keysA t) m ≤ 1000000 * (m : Int)) := totN_le hK2
    have HNK : Hid (∀ i, i < (keysA t).length → NodeOk (ndAt (keysA t) i) (keysA t).length) := hK2
    clear he hK2 hk
    go_enter Try.func17, Try.ntmps17
    go_wp2_with fail
    refine (keysOf_any base b o c t _ HA.out).mono ?_
    rintro e w1 ⟨v1, rfl, ho1, hb1⟩
    obtain ⟨bs1, cp1, g1, rfl, -, -, hn1⟩ := nodes_of_owns ho1
    have N1 : Hid (NodesAt _ _ _ _ _) := hn1
    have B1 : Hid (Below w.heap.size w w1) := hb1
    clear ho1 hn1 hb1
    generalize hKK : keysA t = K at *
    have HKK : Hid (keysA t = K) := hKK
    clear hKK
    go_wp2_with fail
    go_loopw [6, 19] (fun n i wr => ∃ m : Nat, m ≤ K.length ∧ i = .int .i64 m ∧ n = .int .i64 (totN K m) ∧ Below w1.heap.size w1 wr) (fun _ i _ => K.length - (intOf i).toNat)
    case atStart => exact ⟨0, Nat.zero_le _, rfl, rfl, Below.refl _ _⟩
    case round =>
      obtain ⟨m, hm, rfl, rfl, hb⟩ := hrel
      have BW : Hid (Below w1.heap.size w1 wr) := hb
      by_cases hlm : m < K.length
      · obtain rfl : bs1 = some ⟨g1, 0, none⟩ := N1.out.base (by omega)
        have hg1 := N1.out.lt (by omega)
        have HCC : Hid _ := (N1.out.below hb).cells m hlm
        have hz := hb.size
        have hgr : g1 < wr.heap.size := by omega
        have m0 : (0 : Int) ≤ (m : Int) := Int.natCast_nonneg _
        have m1 : (m : Int) < (K.length : Int) := by omega
        have hok := HNK.out m hlm
        have w1' := hok.2.2.1
        have w2' := hok.2.2.2
        obtain ⟨o1, o2⟩ := HOV.out m (by omega)
        have HS : Hid (totN K (m + 1) = totN K m + (ndAt K m).wt) := rfl
        clear hb hok
        generalize totN K m = s at *
        generalize ndAt K m = nd at *
        obtain ⟨k0, k1, k2, k3, k4, k5⟩ := nd
        simp only at HCC HS w1' w2'
        obtain ⟨c0, c1, c2, c3, c4, c5⟩ := HCC.out
        simp only [Nat.zero_add] at c0 c1 c2 c3 c4 c5
        have e2 : IntKind.i64.wrap (s + k2) = s + k2 := wrap_ok _ (by omega) (by omega)
        go_wp2_with fail
        exact ⟨⟨m + 1, by omega, by go_num, by rw [HS.out], BW.out.trans ((below_alloc _ _).mono BW.out.size)⟩, by simp [intOf]; omega⟩
      · obtain rfl : m = K.length := by omega
        clear hb
        go_wp2_with fail
        go_ret2
        exact ⟨by rw [HKK.out, HE.out]; rfl, B1.out.trans (BW.out.mono B1.out.size)⟩
  · have d : (keyE t != 0) = true := by simp [he]
    have FK : Hid (keysA t = []) := keys_bad he
    clear he
    go_enter Try.func17, Try.ntmps17
    go_wp2_with (first | (go_at_call 44; refine (keysOf_any base b o c t _ HA.out).mono ?_; rintro e w1 ⟨v1, rfl, -, hb1⟩; have B1 : Hid (Below w.heap.size w w1) := hb1; clear hb1))
    go_ret2
    exact ⟨by rw [FK.out]; rfl, B1.out⟩
end Go.Proofs.Ytiencggnijfjoaa

namespace Go.Proofs.Ytiencggnijfjoaa

open Go.RowKit

attribute [local go_sem ↓] Go.wp_at_zero Go.wp_at_succ

/-- The keys of the overs among the first m nodes. -/
def ovsL (K : NL) : Nat → List Int
  | 0 => []
  | m + 1 => ovsL K m ++ (if overQ (ndAt K m).wt then [(ndAt K m).key] else [])
theorem ovsL_len (K : NL) : ∀ m, (ovsL K m).length ≤ m
  | 0 => by simp [ovsL]
  | m + 1 => by
    have := ovsL_len K m
    simp only [ovsL, List.length_append]
    split <;> simp <;> omega
theorem JRow.quiet {w0 x y : World} {v : Value} {V : List Int} (h : JRow w0 x v V) (hb : Below x.heap.size x y) : JRow w0 y v V := ⟨owns_below h.own hb, h.below.trans (hb.mono h.below.size)⟩
set_option maxRecDepth 100000 in
set_option maxHeartbeats 1000000 in
theorem Overs_any (base : Option Addr) (b o c : Nat) (t : NL) (w : World) (h : NodesAt w base b o t) :
    Calls Try.prog 27 #[.slice base t.length c] w fun e w' => ∃ v, e = .returned (.tuple #[v, .int .i64 (keyE t)]) ∧ w'.ownsRow w.heap.size 3 1 v (ovsL (keysA t) (keysA t).length).length (isC (ovsL (keysA t) (keysA t).length)) ∧ Below w.heap.size w w' := by
  have HA : Hid (NodesAt _ _ _ _ _) := h
  clear h
  by_cases he : keyE t = 0
  · have d : (keyE t != 0) = false := by simp [he]
    have HE : Hid (keyE t = 0) := he
    obtain ⟨k, hk⟩ := keyed_of t
    obtain ⟨hK1, -, -, -⟩ := keys_ok hk
    obtain ⟨i0, hi0, hz0, hz1, hz2⟩ := info_parts in_info
    clear he hk
    go_enter Try.func27, Try.ntmps27
    go_wp2_with fail
    refine (keysOf_any base b o c t _ HA.out).mono ?_
    rintro e w1 ⟨v1, rfl, ho1, hb1⟩
    obtain ⟨bs1, cp1, g1, rfl, -, -, hn1⟩ := nodes_of_owns ho1
    have N1 : Hid (NodesAt _ _ _ _ _) := hn1
    have B1 : Hid (Below w.heap.size w w1) := hb1
    clear ho1 hn1 hb1
    generalize hKK : keysA t = K at *
    have HKK : Hid (keysA t = K) := hKK
    clear hKK
    go_wp2_with fail
    go_loopw [6, 19] (fun v i wr => ∃ m : Nat, m ≤ K.length ∧ i = .int .i64 m ∧ JRow w1 wr v (ovsL K m)) (fun _ i _ => K.length - (intOf i).toNat)
    case atStart => exact ⟨0, Nat.zero_le _, rfl, World.ownsRow_nil _ _ _ _, Below.refl _ _⟩
    case round =>
      obtain ⟨m, hm, rfl, hJ⟩ := hrel
      have S0 : Hid (JRow _ _ _ _) := hJ
      have hz := hJ.below.size
      by_cases hlm : m < K.length
      · obtain rfl : bs1 = some ⟨g1, 0, none⟩ := N1.out.base (by omega)
        have hg1 := N1.out.lt (by omega)
        have HCC : Hid _ := (N1.out.below hJ.below).cells m hlm
        have hgr : g1 < wr.heap.size := by omega
        have m0 : (0 : Int) ≤ (m : Int) := Int.natCast_nonneg _
        have m1 : (m : Int) < (K.length : Int) := by omega
        have hvl := ovsL_len K m
        have HS : Hid (ovsL K (m + 1) = ovsL K m ++ (if overQ (ndAt K m).wt then [(ndAt K m).key] else [])) := rfl
        clear hJ
        generalize ovsL K m = V at *
        generalize ndAt K m = nd at *
        obtain ⟨k0, k1, k2, k3, k4, k5⟩ := nd
        simp only at HCC HS
        obtain ⟨c0, c1, c2, c3, c4, c5⟩ := HCC.out
        simp only [Nat.zero_add] at c0 c1 c2 c3 c4 c5
        have S1 : Hid (JRow w1 (wr.alloc (.cells #[.int .i64 k0, .int .i64 k1, .int .i64 k2, .int .i64 k3, .int .i64 k4, .int .i64 k5] 54)) u6 V) := S0.out.quiet (below_alloc _ _)
        have X1 : Hid (∀ z : World, Below (wr.heap.size + 1) (wr.alloc (.cells #[.int .i64 k0, .int .i64 k1, .int .i64 k2, .int .i64 k3, .int .i64 k4, .int .i64 k5] 54)) z → Bx z wr.heap.size k0 k1 k2 k3 k4 k5) := fun z hz => (bx_new (heap_alloc_at _ _ _ rfl)).below (by rw [World.size_alloc]; exact hz)
        cases hq : overQ k2
        · have HQ : Hid (overQ k2 = false) := hq
          have HS' : Hid (ovsL K (m + 1) = V) := by show _ = _; rw [HS.out, hq]; simp
          clear hq
          go_wp2_with (first | (go_at_call 57; refine (isOver_any _ _).mono ?_; rintro e w3 ⟨rfl, hb3⟩; rw [HQ.out]; have S3 : Hid (JRow w1 w3 u6 V) := S1.out.quiet hb3; clear hb3))
          exact ⟨⟨m + 1, by omega, by go_num, by rw [HS'.out]; exact S3.out⟩, by simp [intOf]; omega⟩
        · have HQ : Hid (overQ k2 = true) := hq
          have HS' : Hid (ovsL K (m + 1) = V ++ [k0]) := by show _ = _; rw [HS.out, hq]; simp
          clear hq
          go_wp2_with (first | (go_at_call 57; refine (isOver_any _ _).mono ?_; rintro e w3 ⟨rfl, hb3⟩; rw [HQ.out]; have S3 : Hid (JRow w1 w3 u6 V) := S1.out.quiet hb3; have z3 := S3.out.below.size; have X3 : Hid (Bx _ _ _ _ _ _ _ _) := X1.out w3 (by rw [World.size_alloc] at hb3; exact hb3); obtain ⟨y0, y1, y2, y3, y4, y5⟩ := X3.out.c; have yl := X3.out.lt; clear hb3) | (at_builtin; (refine wpList_append_lies _ (by rfl) _ _ _ (by rfl) w1.heap.size 3 i0 _ 1 8 ins_under hi0 hz0 hz1 hz2 rfl (by omega) _ V.length _ (by rfl) (S3.out.own.alloc _) ⟨w3.heap.size, 0, none⟩ 1 1 [.int .i64 k0] (by rfl) (by rfl) (World.news_of_block (cs := #[.int .i64 k0]) (t := 3) (fr := (0, 0)) (heap_alloc_at _ _ _ (by simp))) (by simp [Value.oneCell']) (by omega) (by unfold maxLen; omega) (by omega) (by simp; omega) (w3.heap.size + 1) (by simp) ?_); intro g4 c4 w4 ho4 hg4 hat4 hl4; have S4 : Hid (JRow w1 w4 (.slice (some ⟨g4, 0, none⟩) (V.length + 1) c4) (V ++ [k0])) := S3.out.grown hg4 ho4; clear ho4 hg4 hat4 hl4))
          exact ⟨⟨m + 1, by omega, by go_num, by rw [HS'.out]; exact S4.out⟩, by simp [intOf]; omega⟩
      · obtain rfl : m = K.length := by omega
        clear hJ
        go_wp2_with fail
        go_ret2
        exact ⟨_, by rw [HE.out]; rfl, by rw [HKK.out]; exact owns_down S0.out.own B1.out.size, B1.out.trans (S0.out.below.mono B1.out.size)⟩
  · have d : (keyE t != 0) = true := by simp [he]
    have FK : Hid (keysA t = []) := keys_bad he
    clear he
    go_enter Try.func27, Try.ntmps27
    go_wp2_with (first | (go_at_call 44; refine (keysOf_any base b o c t _ HA.out).mono ?_; rintro e w1 ⟨v1, rfl, -, hb1⟩; have B1 : Hid (Below w.heap.size w w1) := hb1; clear hb1))
    go_ret2
    exact ⟨_, rfl, by rw [FK.out]; exact World.ownsRow_nil _ _ _ _, B1.out⟩
/-- The least and the greatest of the first m + 1 numbers. -/
def minN (L : List Int) : Nat → Int
  | 0 => L.getD 0 0
  | m + 1 => min (minN L m) (L.getD (m + 1) 0)
def maxN (L : List Int) : Nat → Int
  | 0 => L.getD 0 0
  | m + 1 => max (maxN L m) (L.getD (m + 1) 0)
set_option maxRecDepth 100000 in
set_option maxHeartbeats 1000000 in
theorem slMin_any (a1 : Option Addr) (g o c1 : Nat) (L : List Int) (w : World) (hx : WsAt w a1 g o L) (hl : 0 < L.length) :
    Calls Try.prog 71 #[.slice a1 L.length c1] w fun e w' => e = .returned (.int .i64 (minN L (L.length - 1))) ∧ Below w.heap.size w w' := by
  have lx := hx.len
  unfold maxLen at lx
  obtain rfl : a1 = some ⟨g, o, none⟩ := hx.base (by omega)
  have hg := hx.lt (by omega)
  have HX : Hid (WsAt _ _ _ _ _) := hx
  have s0 := hx.cells 0 hl
  rw [Nat.add_zero] at s0
  have HM0 : Hid (minN L 0 = L.getD 0 0) := rfl
  have HMS : Hid (∀ m, minN L (m + 1) = min (minN L m) (L.getD (m + 1) 0)) := fun _ => rfl
  have z1 : decide ((L.length : Int) < 1) = false := decide_eq_false (by omega)
  have z2 : (0 : Int) < (L.length : Int) := by omega
  clear hx
  generalize hy : L.getD 0 0 = y at s0 HM0
  clear hy
  go_enter Try.func71, Try.ntmps71
  go_wp2_with fail
  go_loopw [3, 4] (fun v i wr => ∃ m : Nat, m < L.length ∧ i = .int .i64 ((m + 1 : Nat) : Int) ∧ v = .int .i64 (minN L m) ∧ Below w.heap.size w wr) (fun _ i _ => L.length + 1 - (intOf i).toNat)
  case atStart => exact ⟨0, hl, rfl, by rw [HM0.out], Below.refl _ _⟩
  case round =>
    obtain ⟨m, hm, rfl, rfl, hb⟩ := hrel
    have BW : Hid (Below w.heap.size w wr) := hb
    by_cases hlm : m + 1 < L.length
    · have s1 := (HX.out.below hb).cells (m + 1) hlm
      have hgr : g < wr.heap.size := by have := hb.size; omega
      have HS : Hid _ := HMS.out m
      have i0 : (0 : Int) ≤ ((m + 1 : Nat) : Int) := Int.natCast_nonneg _
      have i1 : ((m + 1 : Nat) : Int) < (L.length : Int) := by omega
      clear hb s0
      generalize L.getD (m + 1) 0 = q at *
      generalize minN L m = u at *
      generalize hi : m + 1 = i at *
      go_wp2_with fail
      exact ⟨⟨i, by omega, by go_num, by rw [HS.out], BW.out⟩, by simp [intOf]; omega⟩
    · have e : m = L.length - 1 := by omega
      have HE : Hid (minN L m = minN L (L.length - 1)) := by show _ = _; rw [e]
      have n1 : decide (((m + 1 : Nat) : Int) < (L.length : Int)) = false := decide_eq_false (by omega)
      have n2 : decide (m + 1 < L.length) = false := decide_eq_false (by omega)
      clear hb e s0
      go_wp2_with fail
      go_ret
      exact ⟨by rw [← HE.out]; rfl, BW.out⟩
end Go.Proofs.Ytiencggnijfjoaa

namespace Go.Proofs.Ytiencggnijfjoaa

open Go.RowKit

attribute [local go_sem ↓] Go.wp_at_zero Go.wp_at_succ

set_option maxRecDepth 100000 in
set_option maxHeartbeats 1000000 in
theorem slMax_any (a1 : Option Addr) (g o c1 : Nat) (L : List Int) (w : World) (hx : WsAt w a1 g o L) (hl : 0 < L.length) :
    Calls Try.prog 72 #[.slice a1 L.length c1] w fun e w' => e = .returned (.int .i64 (maxN L (L.length - 1))) ∧ Below w.heap.size w w' := by
  have lx := hx.len
  unfold maxLen at lx
  obtain rfl : a1 = some ⟨g, o, none⟩ := hx.base (by omega)
  have hg := hx.lt (by omega)
  have HX : Hid (WsAt _ _ _ _ _) := hx
  have s0 := hx.cells 0 hl
  rw [Nat.add_zero] at s0
  have HM0 : Hid (maxN L 0 = L.getD 0 0) := rfl
  have HMS : Hid (∀ m, maxN L (m + 1) = max (maxN L m) (L.getD (m + 1) 0)) := fun _ => rfl
  have z1 : decide ((L.length : Int) < 1) = false := decide_eq_false (by omega)
  have z2 : (0 : Int) < (L.length : Int) := by omega
  clear hx
  generalize hy : L.getD 0 0 = y at s0 HM0
  clear hy
  go_enter Try.func72, Try.ntmps72
  go_wp2_with fail
  go_loopw [3, 4] (fun v i wr => ∃ m : Nat, m < L.length ∧ i = .int .i64 ((m + 1 : Nat) : Int) ∧ v = .int .i64 (maxN L m) ∧ Below w.heap.size w wr) (fun _ i _ => L.length + 1 - (intOf i).toNat)
  case atStart => exact ⟨0, hl, rfl, by rw [HM0.out], Below.refl _ _⟩
  case round =>
    obtain ⟨m, hm, rfl, rfl, hb⟩ := hrel
    have BW : Hid (Below w.heap.size w wr) := hb
    by_cases hlm : m + 1 < L.length
    · have s1 := (HX.out.below hb).cells (m + 1) hlm
      have hgr : g < wr.heap.size := by have := hb.size; omega
      have HS : Hid _ := HMS.out m
      have i0 : (0 : Int) ≤ ((m + 1 : Nat) : Int) := Int.natCast_nonneg _
      have i1 : ((m + 1 : Nat) : Int) < (L.length : Int) := by omega
      clear hb s0
      generalize L.getD (m + 1) 0 = q at *
      generalize maxN L m = u at *
      generalize hi : m + 1 = i at *
      go_wp2_with fail
      exact ⟨⟨i, by omega, by go_num, by rw [HS.out], BW.out⟩, by simp [intOf]; omega⟩
    · have e : m = L.length - 1 := by omega
      have HE : Hid (maxN L m = maxN L (L.length - 1)) := by show _ = _; rw [e]
      have n1 : decide (((m + 1 : Nat) : Int) < (L.length : Int)) = false := decide_eq_false (by omega)
      have n2 : decide (m + 1 < L.length) = false := decide_eq_false (by omega)
      clear hb e s0
      go_wp2_with fail
      go_ret
      exact ⟨by rw [← HE.out]; rfl, BW.out⟩
/-- even's answer. -/
def evS (L : List Int) : Int := if L.length = 0 then 0 else if minN L (L.length - 1) = maxN L (L.length - 1) then L.getD 0 0 else 0
def evB (L : List Int) : Bool := if L.length = 0 then true else decide (minN L (L.length - 1) = maxN L (L.length - 1))
theorem wsumsO_any (base : Option Addr) (b o c : Nat) (t : NL) (k : Option BT) (w : World) (h : NodesAt w base b o (keysA t)) (hk : Keyed t k) :
    Calls Try.prog 45 #[.slice base (keysA t).length c] w fun e w' => ∃ v, e = .returned v ∧ w'.ownsRow w.heap.size 3 1 v (sumsO k).length (isC (sumsO k)) ∧ Below w.heap.size w w' := by
  cases k with
  | none =>
    have hkk : keysA t = [] := hk
    rw [hkk]
    refine (wsums_none base c w).mono ?_
    rintro e w' ⟨rfl, hb⟩
    exact ⟨_, rfl, World.ownsRow_nil _ _ _ _, hb⟩
  | some B => exact wsums_any base b o c B (keysA t) w h hk.2.1 hk.2.2.1 hk.2.2.2
set_option maxRecDepth 100000 in
set_option maxHeartbeats 1000000 in
theorem weven_any (base : Option Addr) (b o c : Nat) (t : NL) (k : Option BT) (w : World) (h : NodesAt w base b o (keysA t)) (hk : Keyed t k) :
    Calls Try.prog 49 #[.slice base (keysA t).length c] w fun e w' => e = .returned (.tuple #[.int .i64 (evS (sumsO k)), .bool (evB (sumsO k))]) ∧ Below w.heap.size w w' := by
  have HC : Hid (Calls _ _ _ _ _) := wsumsO_any base b o c t k w h hk
  clear h hk
  generalize (keysA t).length = kl at *
  generalize sumsO k = L at *
  go_enter Try.func49, Try.ntmps49
  go_wp2_with fail
  refine HC.out.mono ?_
  rintro e w1 ⟨v1, rfl, ho1, hb1⟩
  obtain ⟨a1, c1, g1, rfl, -, -, hs1⟩ := ws_of_owns ho1
  have S1 : Hid (WsAt w1 a1 g1 0 L) := hs1
  have B1 : Hid (Below w.heap.size w w1) := hb1
  clear ho1 hs1 hb1
  by_cases hl : L.length = 0
  · have F1 : Hid (evS L = 0) := by show evS L = _; unfold evS; rw [if_pos hl]
    have F2 : Hid (evB L = true) := by show evB L = _; unfold evB; rw [if_pos hl]
    have d : ((L.length : Int) == 0) = true := by simp [hl]
    clear hl
    go_wp2_with fail
    go_ret2
    exact ⟨by rw [F1.out, F2.out]; rfl, B1.out⟩
  · have hpos : 0 < L.length := by omega
    have d : ((L.length : Int) == 0) = false := beq_eq_false_iff_ne.2 (by omega)
    obtain rfl : a1 = some ⟨g1, 0, none⟩ := S1.out.base (by omega)
    have z2 : (0 : Int) < (L.length : Int) := by omega
    by_cases hq : minN L (L.length - 1) = maxN L (L.length - 1)
    · have F0 : evS L = L.getD 0 0 := by unfold evS; rw [if_neg hl, if_pos hq]
      obtain ⟨y, hy⟩ : ∃ y, L.getD 0 0 = y := ⟨_, rfl⟩
      have HY : Hid (L.getD 0 0 = y) := hy
      have F1 : Hid (evS L = y) := by show _ = _; rw [F0, hy]
      clear F0 hy
      have F2 : Hid (evB L = true) := by show evB L = _; unfold evB; rw [if_neg hl]; exact decide_eq_true hq
      obtain ⟨d1, d2, -⟩ := eqB hq
      clear hl hq
      go_wp2_with (first | (go_at_call 71; refine (slMin_any _ g1 0 c1 L _ S1.out hpos).mono ?_; rintro e w2 ⟨rfl, hb2⟩; have S2 : Hid (WsAt w2 (some ⟨g1, 0, none⟩) g1 0 L) := S1.out.below hb2; have B2 : Hid (Below w.heap.size w w2) := B1.out.trans (hb2.mono B1.out.size); clear hb2) | (go_at_call 72; refine (slMax_any _ g1 0 c1 L _ S2.out hpos).mono ?_; rintro e w3 ⟨rfl, hb3⟩; have B3 : Hid (Below w.heap.size w w3) := B2.out.trans (hb3.mono B2.out.size); have s0 := (S2.out.below hb3).cells 0 hpos; rw [Nat.add_zero, HY.out] at s0; have gl3 := (S2.out.below hb3).lt (by omega); clear hb3))
      go_ret2
      exact ⟨by rw [F1.out, F2.out]; rfl, B3.out⟩
    · have F1 : Hid (evS L = 0) := by show evS L = _; unfold evS; rw [if_neg hl, if_neg hq]
      have F2 : Hid (evB L = false) := by show evB L = _; unfold evB; rw [if_neg hl]; exact decide_eq_false hq
      obtain ⟨d1, d2, -⟩ := neB hq
      clear hl hq
      go_wp2_with (first | (go_at_call 71; refine (slMin_any _ g1 0 c1 L _ S1.out hpos).mono ?_; rintro e w2 ⟨rfl, hb2⟩; have S2 : Hid (WsAt w2 (some ⟨g1, 0, none⟩) g1 0 L) := S1.out.below hb2; have B2 : Hid (Below w.heap.size w w2) := B1.out.trans (hb2.mono B1.out.size); clear hb2) | (go_at_call 72; refine (slMax_any _ g1 0 c1 L _ S2.out hpos).mono ?_; rintro e w3 ⟨rfl, hb3⟩; have B3 : Hid (Below w.heap.size w w3) := B2.out.trans (hb3.mono B2.out.size); clear hb3))
      go_ret2
      exact ⟨by rw [F1.out, F2.out]; rfl, B3.out⟩
end Go.Proofs.Ytiencggnijfjoaa

namespace Go.Proofs.Ytiencggnijfjoaa

open Go.RowKit

attribute [local go_sem ↓] Go.wp_at_zero Go.wp_at_succ

set_option maxRecDepth 100000 in
set_option maxHeartbeats 1000000 in
theorem Even_any (base : Option Addr) (b o c : Nat) (t : NL) (k : Option BT) (w : World) (h : NodesAt w base b o t) (hk : Keyed t k) :
    Calls Try.prog 13 #[.slice base t.length c] w fun e w' => e = .returned (.tuple #[.int .i64 (if keyE t = 0 then evS (sumsO k) else 0), .bool (if keyE t = 0 then evB (sumsO k) else false), .int .i64 (keyE t)]) ∧ Below w.heap.size w w' := by
  have HA : Hid (NodesAt _ _ _ _ _) := h
  have HK : Hid (Keyed t k) := hk
  clear h hk
  by_cases he : keyE t = 0
  · have d : (keyE t != 0) = false := by simp [he]
    have HE : Hid (keyE t = 0) := he
    rw [if_pos he, if_pos he]
    clear he
    go_enter Try.func13, Try.ntmps13
    go_wp2_with fail
    refine (keysOf_any base b o c t _ HA.out).mono ?_
    rintro e w1 ⟨v1, rfl, ho1, hb1⟩
    obtain ⟨bs1, cp1, g1, rfl, -, -, hn1⟩ := nodes_of_owns ho1
    have B1 : Hid (Below w.heap.size w w1) := hb1
    have HC : Hid (Calls _ _ _ _ _) := weven_any bs1 g1 0 cp1 t k w1 hn1 HK.out
    clear ho1 hn1 hb1
    go_wp2_with fail
    refine HC.out.mono ?_
    rintro e w2 ⟨rfl, hb2⟩
    have B2 : Hid (Below w.heap.size w w2) := B1.out.trans (hb2.mono B1.out.size)
    clear hb2
    go_wp2_with fail
    go_ret3
    exact ⟨by rw [HE.out]; rfl, B2.out⟩
  · have d : (keyE t != 0) = true := by simp [he]
    rw [if_neg he, if_neg he]
    clear he
    go_enter Try.func13, Try.ntmps13
    go_wp2_with (first | (go_at_call 44; refine (keysOf_any base b o c t _ HA.out).mono ?_; rintro e w1 ⟨v1, rfl, -, hb1⟩; have B1 : Hid (Below w.heap.size w w1) := hb1; clear hb1))
    go_ret3
    exact ⟨rfl, B1.out⟩
def lightB (n : NdD) : Bool := rleafB n && n.wt == 0
set_option maxRecDepth 100000 in
theorem isLightLeaf_any (a0 a1 a2 a3 a4 a5 : Int) (w : World) :
    Calls Try.prog 51 #[.agg #[.int .i64 a0, .int .i64 a1, .int .i64 a2, .int .i64 a3, .int .i64 a4, .int .i64 a5]] w fun e w' => e = .returned (.bool (lightB ⟨a0, a1, a2, a3, a4, a5⟩)) ∧ Below w.heap.size w w' := by
  have B0 : Hid (Below w.heap.size w (w.alloc (.cells #[.int .i64 a0, .int .i64 a1, .int .i64 a2, .int .i64 a3, .int .i64 a4, .int .i64 a5] 54))) := below_alloc _ _
  have X1 : Hid (∀ (x : World), Below (w.heap.size + 1) (w.alloc (.cells #[.int .i64 a0, .int .i64 a1, .int .i64 a2, .int .i64 a3, .int .i64 a4, .int .i64 a5] 54)) x → Bx x w.heap.size a0 a1 a2 a3 a4 a5) := fun x hx => (bx_new (heap_alloc_at _ _ _ rfl)).below (by rw [World.size_alloc]; exact hx)
  cases hl : rleafB ⟨a0, a1, a2, a3, a4, a5⟩
  · have HLB : Hid (rleafB ⟨a0, a1, a2, a3, a4, a5⟩ = false) := hl
    have F : Hid (lightB ⟨a0, a1, a2, a3, a4, a5⟩ = false) := by show lightB _ = _; unfold lightB; rw [hl]; rfl
    clear hl
    go_enter Try.func51, Try.ntmps51
    go_wp2_with (first | (go_at_call 69; refine (wLeaf_any _ _ _ _ _ _ _).mono ?_; rintro e w3 ⟨rfl, hb3⟩; rw [HLB.out]; have B3 : Hid (Below w.heap.size w w3) := B0.out.trans (hb3.mono (by simp)); clear hb3))
    go_ret
    exact ⟨by rw [F.out]; rfl, B3.out⟩
  · have HLB : Hid (rleafB ⟨a0, a1, a2, a3, a4, a5⟩ = true) := hl
    have F : Hid (lightB ⟨a0, a1, a2, a3, a4, a5⟩ = (a2 == 0)) := by show lightB _ = _; unfold lightB; rw [hl]; rfl
    clear hl
    go_enter Try.func51, Try.ntmps51
    go_wp2_with (first | (go_at_call 69; refine (wLeaf_any _ _ _ _ _ _ _).mono ?_; rintro e w3 ⟨rfl, hb3⟩; rw [HLB.out]; have B3 : Hid (Below w.heap.size w w3) := B0.out.trans (hb3.mono (by simp)); obtain ⟨y0, y1, y2, y3, y4, y5⟩ := (X1.out w3 (by rw [World.size_alloc] at hb3; exact hb3)).c; clear hb3))
    go_ret
    exact ⟨by rw [F.out]; rfl, B3.out⟩
/-- Is there a light leaf among the nodes? -/
def lightN (K : NL) : Nat → Bool
  | 0 => false
  | m + 1 => lightN K m || lightB (ndAt K m)
theorem lightN_up {K : NL} {m n : Nat} (h : m ≤ n) (hq : lightN K m = true) : lightN K n = true := by
  induction n with
  | zero => obtain rfl : m = 0 := by omega
            exact hq
  | succ n ih =>
    by_cases e : m = n + 1
    · rw [← e]; exact hq
    · simp only [lightN]; rw [ih (by omega)]; rfl
set_option maxRecDepth 100000 in
set_option maxHeartbeats 1000000 in
theorem indexN_any (a1 : Option Addr) (g o c1 : Nat) (K : NL) (w : World) (hx : NodesAt w a1 g o K) :
    Calls Try.prog 73 #[.slice a1 K.length c1, .func (.func 51) #[] #[]] w fun e w' => ∃ r : Int, e = .returned (.int .i64 r) ∧ Below w.heap.size w w' ∧ decide (0 ≤ r) = lightN K K.length := by
  have lx := hx.len
  unfold maxLen at lx
  have HX : Hid (NodesAt _ _ _ _ _) := hx
  clear hx
  go_enter Try.func73, Try.ntmps73
  go_wp2_with fail
  go_loopw [8] (fun i wr => ∃ j : Nat, j ≤ K.length ∧ i = .int .i64 j ∧ lightN K j = false ∧ Below w.heap.size w wr) (fun i _ => K.length - (intOf i).toNat)
  case atStart => exact ⟨0, Nat.zero_le _, rfl, rfl, Below.refl _ _⟩
  case round =>
    obtain ⟨j, hj, rfl, hall, hbw⟩ := hrel
    have HW : Hid (Below _ _ _) := hbw
    by_cases hlt : j < K.length
    · obtain rfl : a1 = some ⟨g, o, none⟩ := HX.out.base (by omega)
      have zx : g < wr.heap.size := (HX.out.below hbw).lt (by omega)
      have HCC : Hid _ := (HX.out.below hbw).cells j hlt
      have j0 : (0 : Int) ≤ (j : Int) := Int.natCast_nonneg _
      have j1 : (j : Int) < (K.length : Int) := by omega
      have HS : Hid (lightN K (j + 1) = lightB (ndAt K j)) := by show _ = _; simp only [lightN]; rw [hall]; rfl
      have HU : Hid (lightN K (j + 1) = true → lightN K K.length = true) := lightN_up (by omega)
      clear hbw hall
      generalize ndAt K j = nd at *
      obtain ⟨k0, k1, k2, k3, k4, k5⟩ := nd
      simp only at HCC
      obtain ⟨c0, c1', c2, c3, c4, c5⟩ := HCC.out
      go_wp2_with fail
      refine (isLightLeaf_any _ _ _ _ _ _ _).mono ?_
      rintro e w2 ⟨rfl, hb2⟩
      have B2 : Hid (Below w.heap.size w w2) := HW.out.trans (hb2.mono HW.out.size)
      clear hb2 c0 c1' c2 c3 c4 c5
      cases hq : lightB ⟨k0, k1, k2, k3, k4, k5⟩
      · have HQ : Hid (lightN K (j + 1) = false) := by show _ = _; rw [HS.out, hq]
        go_wp2_with fail
        exact ⟨⟨j + 1, by omega, by go_num, HQ.out, B2.out⟩, by simp [intOf]; omega⟩
      · have HQ : Hid (lightN K K.length = true) := HU.out (by rw [HS.out, hq])
        go_wp2_with fail
        go_ret
        exact ⟨_, rfl, B2.out, by rw [HQ.out]; simp⟩
    · obtain rfl : j = K.length := by omega
      have HQ : Hid (lightN K K.length = false) := hall
      clear hbw hall
      go_wp2_with fail
      go_ret
      exact ⟨_, rfl, HW.out, by rw [HQ.out]; rfl⟩
set_option maxRecDepth 100000 in
theorem containsN_any (a1 : Option Addr) (g o c1 : Nat) (K : NL) (w : World) (hx : NodesAt w a1 g o K) :
    Calls Try.prog 50 #[.slice a1 K.length c1, .func (.func 51) #[] #[]] w fun e w' => e = .returned (.bool (lightN K K.length)) ∧ Below w.heap.size w w' := by
  have HX : Hid (NodesAt _ _ _ _ _) := hx
  clear hx
  go_enter Try.func50, Try.ntmps50
  go_wp2_with (first | (go_at_call 73; refine (indexN_any a1 g o c1 K _ HX.out).mono ?_; rintro e w1 ⟨r, rfl, hb1, hr1⟩; have B1 : Hid (Below w.heap.size w w1) := hb1; have HR : Hid (_ = lightN K K.length) := hr1; clear hb1 hr1))
  go_ret
  exact ⟨by rw [← HR.out]; rfl, B1.out⟩
end Go.Proofs.Ytiencggnijfjoaa

namespace Go.Proofs.Ytiencggnijfjoaa

open Go.RowKit

attribute [local go_sem ↓] Go.wp_at_zero Go.wp_at_succ

noncomputable def sndB (t : NL) (k : Option BT) : Bool := if keyE t ≠ 0 then false else if (keysA t).length = 0 then true else evB (sumsO k) && ((ndAt (keysA t) 0).wt == 1 && !lightN (keysA t) (keysA t).length)
set_option maxRecDepth 100000 in
set_option maxHeartbeats 1000000 in
theorem Sound_any (base : Option Addr) (b o c : Nat) (t : NL) (k : Option BT) (w : World) (h : NodesAt w base b o t) (hk : Keyed t k) :
    Calls Try.prog 15 #[.slice base t.length c] w fun e w' => e = .returned (.tuple #[.bool (sndB t k), .int .i64 (keyE t)]) ∧ Below w.heap.size w w' := by
  have HA : Hid (NodesAt _ _ _ _ _) := h
  have HK : Hid (Keyed t k) := hk
  clear h hk
  by_cases he : keyE t = 0
  · have d : (keyE t != 0) = false := by simp [he]
    have d' : (keyE t == 0) = true := by simp [he]
    have HE : Hid (keyE t = 0) := he
    go_enter Try.func15, Try.ntmps15
    go_wp2_with fail
    refine (keysOf_any base b o c t _ HA.out).mono ?_
    rintro e w1 ⟨v1, rfl, ho1, hb1⟩
    obtain ⟨bs1, cp1, g1, rfl, -, -, hn1⟩ := nodes_of_owns ho1
    have N1 : Hid (NodesAt _ _ _ _ _) := hn1
    have B1 : Hid (Below w.heap.size w w1) := hb1
    clear ho1 hb1
    by_cases hl : (keysA t).length = 0
    · have F : Hid (sndB t k = true) := by show sndB t k = _; unfold sndB; rw [if_neg (by simp [he]), if_pos hl]
      have z : (((keysA t).length : Int) == 0) = true := by simp [hl]
      clear hl he hn1
      generalize (keysA t).length = kl at *
      go_wp2_with fail
      go_ret2
      exact ⟨by rw [F.out, HE.out]; rfl, B1.out⟩
    · have F : Hid (sndB t k = (evB (sumsO k) && ((ndAt (keysA t) 0).wt == 1 && !lightN (keysA t) (keysA t).length))) := by show sndB t k = _; unfold sndB; rw [if_neg (by simp [he]), if_neg hl]
      have z : (((keysA t).length : Int) == 0) = false := beq_eq_false_iff_ne.2 (by omega)
      have HC : Hid (Calls _ _ _ _ _) := weven_any bs1 g1 0 cp1 t k w1 hn1 HK.out
      have hpos : 0 < (keysA t).length := by omega
      have z2 : (0 : Int) < ((keysA t).length : Int) := by omega
      obtain rfl : bs1 = some ⟨g1, 0, none⟩ := hn1.base hl
      clear hl he hn1
      generalize keysA t = K at *
      go_wp2_with fail
      refine HC.out.mono ?_
      rintro e w2 ⟨rfl, hb2⟩
      have B2 : Hid (Below w.heap.size w w2) := B1.out.trans (hb2.mono B1.out.size)
      have N2 : Hid (NodesAt w2 (some ⟨g1, 0, none⟩) g1 0 K) := N1.out.below hb2
      have gl := N2.out.lt (by omega)
      have s0 := (N2.out.cells 0 hpos).2.2.1
      simp only [Nat.zero_mul, Nat.add_zero, Nat.zero_add] at s0
      clear hb2
      cases hv : evB (sumsO k)
      · have F' : Hid (sndB t k = false) := by show sndB t k = _; rw [F.out, hv]; rfl
        clear hv
        go_wp2_with fail
        go_ret2
        exact ⟨by rw [F'.out, HE.out]; rfl, B2.out⟩
      · by_cases hq : (ndAt K 0).wt = 1
        · have F' : Hid (sndB t k = !lightN K K.length) := by show sndB t k = _; rw [F.out, hv, hq]; rfl
          have q : ((ndAt K 0).wt == 1) = true := by simp [hq]
          clear hv hq
          generalize (ndAt K 0).wt = y at *
          go_wp2_with (first | (go_at_call 50; refine (containsN_any _ g1 0 cp1 K _ N2.out).mono ?_; rintro e w3 ⟨rfl, hb3⟩; have B3 : Hid (Below w.heap.size w w3) := B2.out.trans (hb3.mono B2.out.size); clear hb3))
          go_ret2
          exact ⟨by rw [F'.out, HE.out]; rfl, B3.out⟩
        · have F' : Hid (sndB t k = false) := by show sndB t k = _; rw [F.out, hv]; simp [hq]
          have q : ((ndAt K 0).wt == 1) = false := by simp [hq]
          clear hv hq
          generalize (ndAt K 0).wt = y at *
          go_wp2_with fail
          go_ret2
          exact ⟨by rw [F'.out, HE.out]; rfl, B2.out⟩
  · have d : (keyE t != 0) = true := by simp [he]
    have d' : (keyE t == 0) = false := by simp [he]
    have F : Hid (sndB t k = false) := by show sndB t k = _; unfold sndB; rw [if_pos he]
    clear he
    go_enter Try.func15, Try.ntmps15
    go_wp2_with (first | (go_at_call 44; refine (keysOf_any base b o c t _ HA.out).mono ?_; rintro e w1 ⟨v1, rfl, ho1, hb1⟩; obtain ⟨bs1, cp1, rfl⟩ := own_slice ho1; have B1 : Hid (Below w.heap.size w w1) := hb1; clear ho1 hb1))
    go_ret2
    exact ⟨by rw [F.out]; rfl, B1.out⟩
end Go.Proofs.Ytiencggnijfjoaa

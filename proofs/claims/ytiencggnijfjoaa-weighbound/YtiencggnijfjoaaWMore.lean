
/- Layer 17: Reds, Overs, Total. -/

import Derived.Test.YtiencggnijfjoaaWCopy

import Derived.Deep.RegionHeld3

import Derived.Deep.CutRange

namespace Go.Proofs.Ytiencggnijfjoaa

open Go.RowKit

attribute [local go_sem ↓] Go.wp_at_zero Go.wp_at_succ

/-- A row of numbers that is ours. -/
structure JRow (w0 x : World) (v : Value) (V : List Int) : Prop where
  own : x.ownsRow w0.heap.size 3 1 v V.length (isC V)
  below : Below w0.heap.size w0 x
theorem JRow.grown {w0 x y : World} {v v' : Value} {V : List Int} {q : Int} {o : Obj} (h : JRow w0 x v V) (hg : (x.alloc o).grownBy y v.ownBlock) (ho : y.ownsRow w0.heap.size 3 1 v' (V.length + 1) (isC V ++ [.int .i64 q])) : JRow w0 y v' (V ++ [q]) :=
  ⟨by rw [List.length_append, isC_append]; exact ho, Below.grown (h.below.alloc h.below.size o) hg (by rw [World.size_alloc]; have := h.below.size; omega) (fun k hk => (owns_lt h.own k hk).1)⟩

set_option maxRecDepth 100000 in
set_option maxHeartbeats 1000000 in
theorem Reds_any (base : Option Addr) (b o c : Nat) (t : NL) (k : Option BT) (w : World) (h : NodesAt w base b o t) (hk : Keyed t k) :
    Calls Try.prog 25 #[.slice base t.length c] w fun e w' => ∃ v, e = .returned (.tuple #[v, .int .i64 (keyE t)]) ∧ w'.ownsRow w.heap.size 3 1 v (redsO k).length (isC (redsO k)) ∧ Below w.heap.size w w' := by
  have HA : Hid (NodesAt _ _ _ _ _) := h
  have HK : Hid (Keyed t k) := hk
  clear h
  by_cases he : keyE t = 0
  · have d : (keyE t != 0) = false := by simp [he]
    have HE : Hid (keyE t = 0) := he
    clear he hk
    go_enter Try.func25, Try.ntmps25
    go_wp2_with fail
    refine (keysOf_any base b o c t _ HA.out).mono ?_
    rintro e w1 ⟨v1, rfl, ho1, hb1⟩
    obtain ⟨bs1, cp1, g1, rfl, -, -, hn1⟩ := nodes_of_owns ho1
    have B1 : Hid (Below w.heap.size w w1) := hb1
    have HC : Hid (Calls _ _ _ _ _) := wredsO_any bs1 g1 0 cp1 t k w1 hn1 HK.out
    clear ho1 hn1 hb1
    go_wp2_with fail
    refine HC.out.mono ?_
    rintro e w2 ⟨v2, rfl, ho2, hb2⟩
    have O2 : Hid (World.ownsRow _ _ _ _ _ _ _) := ho2
    have B2 : Hid (Below w.heap.size w w2) := B1.out.trans (hb2.mono B1.out.size)
    clear ho2 hb2
    go_wp2_with fail
    go_ret2
    exact ⟨_, by rw [HE.out]; rfl, owns_down O2.out B1.out.size, B2.out⟩
  · have d : (keyE t != 0) = true := by simp [he]
    obtain rfl := keyed_bad hk he
    clear he hk
    go_enter Try.func25, Try.ntmps25
    go_wp2_with (first | (go_at_call 44; refine (keysOf_any base b o c t _ HA.out).mono ?_; rintro e w1 ⟨v1, rfl, -, hb1⟩; have B1 : Hid (Below w.heap.size w w1) := hb1; clear hb1))
    go_ret2
    exact ⟨_, rfl, World.ownsRow_nil _ _ _ _, B1.out⟩
/-- The weights of the first m nodes. -/
def totN (K : NL) : Nat → Int
  | 0 => 0
  | m + 1 => totN K m + (ndAt K m).wt
theorem totN_le {K : NL} (h : ∀ i, i < K.length → NodeOk (ndAt K i) K.length) : ∀ m, m ≤ K.length → 0 ≤ totN K m ∧ totN K m ≤ 1000000 * (m : Int)
  | 0, _ => by simp [totN]
  | m + 1, hm => by
    have h1 := totN_le h m (by omega)
    have h2 := h m (by omega)
    have w1 := h2.2.2.1
    have w2 := h2.2.2.2
    simp only [totN]
    omega
theorem keys_bad {t : NL} (he : keyE t ≠ 0) : keysA t = [] := by
  unfold keysA
  rw [if_neg]
  intro h
  apply he
  unfold keyE
  rw [if_neg (by omega), h]
set_option maxRecDepth 100000 in
set_option maxHeartbeats 1000000 in
theorem Total_any (base : Option Addr) (b o c : Nat) (t : NL) (w : World) (h : NodesAt w base b o t) :
    Calls Try.prog 17 #[.slice base t.length c] w fun e w' => e = .returned (.tuple #[.int .i64 (totN (keysA t) (keysA t).length), .int .i64 (keyE t)]) ∧ Below w.heap.size w w' := by
  have HA : Hid (NodesAt _ _ _ _ _) := h
  clear h
  by_cases he : keyE t = 0
  · have d : (keyE t != 0) = false := by simp [he]
    have HE : Hid (keyE t = 0) := he
    obtain ⟨k, hk⟩ := keyed_of t
    obtain ⟨hK1, hK2, -, -⟩ := keys_ok hk
    have HOV : Hid (∀ m, m ≤ (keysA t).length → 0 ≤ totN (keysA t) m ∧ totN (keysA t) m ≤ 1000000 * (m : Int)) := totN_le hK2
    have HNK : Hid (∀ i, i < (keysA t).length → NodeOk (ndAt (keysA t) i) (keysA t).length) := hK2
    clear he hK2 hk
    go_enter Try.func17, Try.ntmps17
    go_wp2_with fail
    refine (keysOf_any base b o c t _ HA.out).mono ?_
    rintro e w1 ⟨v1, rfl, ho1, hb1⟩
    obtain ⟨bs1, cp1, g1, rfl, -, -, hn1⟩ := nodes_of_owns ho1
    have N1 : Hid (NodesAt _ _ _ _ _) := hn1
    have B1 : Hid (Below w.heap.size w w1) := hb1
    clear ho1 hn1 hb1
    generalize hKK : keysA t = K at *
    have HKK : Hid (keysA t = K) := hKK
    clear hKK
    go_wp2_with fail
    go_loopw [6, 19] (fun n i wr => ∃ m : Nat, m ≤ K.length ∧ i = .int .i64 m ∧ n = .int .i64 (totN K m) ∧ Below w1.heap.size w1 wr) (fun _ i _ => K.length - (intOf i).toNat)
    case atStart => exact ⟨0, Nat.zero_le _, rfl, rfl, Below.refl _ _⟩
    case round =>
      obtain ⟨m, hm, rfl, rfl, hb⟩ := hrel
      have BW : Hid (Below w1.heap.size w1 wr) := hb
      by_cases hlm : m < K.length
      · obtain rfl : bs1 = some ⟨g1, 0, none⟩ := N1.out.base (by omega)
        have hg1 := N1.out.lt (by omega)
        have HCC : Hid _ := (N1.out.below hb).cells m hlm
        have hz := hb.size
        have hgr : g1 < wr.heap.size := by omega
        have m0 : (0 : Int) ≤ (m : Int) := Int.natCast_nonneg _
        have m1 : (m : Int) < (K.length : Int) := by omega
        have hok := HNK.out m hlm
        have w1' := hok.2.2.1
        have w2' := hok.2.2.2
        obtain ⟨o1, o2⟩ := HOV.out m (by omega)
        have HS : Hid (totN K (m + 1) = totN K m + (ndAt K m).wt) := rfl
        clear hb hok
        generalize totN K m = s at *
        generalize ndAt K m = nd at *
        obtain ⟨k0, k1, k2, k3, k4, k5⟩ := nd
        simp only at HCC HS w1' w2'
        obtain ⟨c0, c1, c2, c3, c4, c5⟩ := HCC.out
        simp only [Nat.zero_add] at c0 c1 c2 c3 c4 c5
        have e2 : IntKind.i64.wrap (s + k2) = s + k2 := wrap_ok _ (by omega) (by omega)
        go_wp2_with fail
        exact ⟨⟨m + 1, by omega, by go_num, by rw [HS.out], BW.out.trans ((below_alloc _ _).mono BW.out.size)⟩, by simp [intOf]; omega⟩
      · obtain rfl : m = K.length := by omega
        clear hb
        go_wp2_with fail
        go_ret2
        exact ⟨by rw [HKK.out, HE.out]; rfl, B1.out.trans (BW.out.mono B1.out.size)⟩
  · have d : (keyE t != 0) = true := by simp [he]
    have FK : Hid (keysA t = []) := keys_bad he
    clear he
    go_enter Try.func17, Try.ntmps17
    go_wp2_with (first | (go_at_call 44; refine (keysOf_any base b o c t _ HA.out).mono ?_; rintro e w1 ⟨v1, rfl, -, hb1⟩; have B1 : Hid (Below w.heap.size w w1) := hb1; clear hb1))
    go_ret2
    exact ⟨by rw [FK.out]; rfl, B1.out⟩
end Go.Proofs.Ytiencggnijfjoaa

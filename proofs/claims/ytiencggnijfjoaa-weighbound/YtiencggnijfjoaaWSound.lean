
/- Layer 17: Even, Sound. -/

import Derived.Test.YtiencggnijfjoaaWEven

namespace Go.Proofs.Ytiencggnijfjoaa

open Go.RowKit

attribute [local go_sem ↓] Go.wp_at_zero Go.wp_at_succ

set_option maxRecDepth 100000 in
set_option maxHeartbeats 1000000 in
theorem Even_any (base : Option Addr) (b o c : Nat) (t : NL) (k : Option BT) (w : World) (h : NodesAt w base b o t) (hk : Keyed t k) :
    Calls Try.prog 13 #[.slice base t.length c] w fun e w' => e = .returned (.tuple #[.int .i64 (if keyE t = 0 then evS (sumsO k) else 0), .bool (if keyE t = 0 then evB (sumsO k) else false), .int .i64 (keyE t)]) ∧ Below w.heap.size w w' := by
  have HA : Hid (NodesAt _ _ _ _ _) := h
  have HK : Hid (Keyed t k) := hk
  clear h hk
  by_cases he : keyE t = 0
  · have d : (keyE t != 0) = false := by simp [he]
    have HE : Hid (keyE t = 0) := he
    rw [if_pos he, if_pos he]
    clear he
    go_enter Try.func13, Try.ntmps13
    go_wp2_with fail
    refine (keysOf_any base b o c t _ HA.out).mono ?_
    rintro e w1 ⟨v1, rfl, ho1, hb1⟩
    obtain ⟨bs1, cp1, g1, rfl, -, -, hn1⟩ := nodes_of_owns ho1
    have B1 : Hid (Below w.heap.size w w1) := hb1
    have HC : Hid (Calls _ _ _ _ _) := weven_any bs1 g1 0 cp1 t k w1 hn1 HK.out
    clear ho1 hn1 hb1
    go_wp2_with fail
    refine HC.out.mono ?_
    rintro e w2 ⟨rfl, hb2⟩
    have B2 : Hid (Below w.heap.size w w2) := B1.out.trans (hb2.mono B1.out.size)
    clear hb2
    go_wp2_with fail
    go_ret3
    exact ⟨by rw [HE.out]; rfl, B2.out⟩
  · have d : (keyE t != 0) = true := by simp [he]
    rw [if_neg he, if_neg he]
    clear he
    go_enter Try.func13, Try.ntmps13
    go_wp2_with (first | (go_at_call 44; refine (keysOf_any base b o c t _ HA.out).mono ?_; rintro e w1 ⟨v1, rfl, -, hb1⟩; have B1 : Hid (Below w.heap.size w w1) := hb1; clear hb1))
    go_ret3
    exact ⟨rfl, B1.out⟩
def lightB (n : NdD) : Bool := rleafB n && n.wt == 0
set_option maxRecDepth 100000 in
theorem isLightLeaf_any (a0 a1 a2 a3 a4 a5 : Int) (w : World) :
    Calls Try.prog 51 #[.agg #[.int .i64 a0, .int .i64 a1, .int .i64 a2, .int .i64 a3, .int .i64 a4, .int .i64 a5]] w fun e w' => e = .returned (.bool (lightB ⟨a0, a1, a2, a3, a4, a5⟩)) ∧ Below w.heap.size w w' := by
  have B0 : Hid (Below w.heap.size w (w.alloc (.cells #[.int .i64 a0, .int .i64 a1, .int .i64 a2, .int .i64 a3, .int .i64 a4, .int .i64 a5] 54))) := below_alloc _ _
  have X1 : Hid (∀ (x : World), Below (w.heap.size + 1) (w.alloc (.cells #[.int .i64 a0, .int .i64 a1, .int .i64 a2, .int .i64 a3, .int .i64 a4, .int .i64 a5] 54)) x → Bx x w.heap.size a0 a1 a2 a3 a4 a5) := fun x hx => (bx_new (heap_alloc_at _ _ _ rfl)).below (by rw [World.size_alloc]; exact hx)
  cases hl : rleafB ⟨a0, a1, a2, a3, a4, a5⟩
  · have HLB : Hid (rleafB ⟨a0, a1, a2, a3, a4, a5⟩ = false) := hl
    have F : Hid (lightB ⟨a0, a1, a2, a3, a4, a5⟩ = false) := by show lightB _ = _; unfold lightB; rw [hl]; rfl
    clear hl
    go_enter Try.func51, Try.ntmps51
    go_wp2_with (first | (go_at_call 69; refine (wLeaf_any _ _ _ _ _ _ _).mono ?_; rintro e w3 ⟨rfl, hb3⟩; rw [HLB.out]; have B3 : Hid (Below w.heap.size w w3) := B0.out.trans (hb3.mono (by simp)); clear hb3))
    go_ret
    exact ⟨by rw [F.out]; rfl, B3.out⟩
  · have HLB : Hid (rleafB ⟨a0, a1, a2, a3, a4, a5⟩ = true) := hl
    have F : Hid (lightB ⟨a0, a1, a2, a3, a4, a5⟩ = (a2 == 0)) := by show lightB _ = _; unfold lightB; rw [hl]; rfl
    clear hl
    go_enter Try.func51, Try.ntmps51
    go_wp2_with (first | (go_at_call 69; refine (wLeaf_any _ _ _ _ _ _ _).mono ?_; rintro e w3 ⟨rfl, hb3⟩; rw [HLB.out]; have B3 : Hid (Below w.heap.size w w3) := B0.out.trans (hb3.mono (by simp)); obtain ⟨y0, y1, y2, y3, y4, y5⟩ := (X1.out w3 (by rw [World.size_alloc] at hb3; exact hb3)).c; clear hb3))
    go_ret
    exact ⟨by rw [F.out]; rfl, B3.out⟩
/-- Is there a light leaf among the nodes? -/
def lightN (K : NL) : Nat → Bool
  | 0 => false
  | m + 1 => lightN K m || lightB (ndAt K m)
theorem lightN_up {K : NL} {m n : Nat} (h : m ≤ n) (hq : lightN K m = true) : lightN K n = true := by
  induction n with
  | zero => obtain rfl : m = 0 := by omega
            exact hq
  | succ n ih =>
    by_cases e : m = n + 1
    · rw [← e]; exact hq
    · simp only [lightN]; rw [ih (by omega)]; rfl
set_option maxRecDepth 100000 in
set_option maxHeartbeats 1000000 in
theorem indexN_any (a1 : Option Addr) (g o c1 : Nat) (K : NL) (w : World) (hx : NodesAt w a1 g o K) :
    Calls Try.prog 73 #[.slice a1 K.length c1, .func (.func 51) #[] #[]] w fun e w' => ∃ r : Int, e = .returned (.int .i64 r) ∧ Below w.heap.size w w' ∧ decide (0 ≤ r) = lightN K K.length := by
  have lx := hx.len
  unfold maxLen at lx
  have HX : Hid (NodesAt _ _ _ _ _) := hx
  clear hx
  go_enter Try.func73, Try.ntmps73
  go_wp2_with fail
  go_loopw [8] (fun i wr => ∃ j : Nat, j ≤ K.length ∧ i = .int .i64 j ∧ lightN K j = false ∧ Below w.heap.size w wr) (fun i _ => K.length - (intOf i).toNat)
  case atStart => exact ⟨0, Nat.zero_le _, rfl, rfl, Below.refl _ _⟩
  case round =>
    obtain ⟨j, hj, rfl, hall, hbw⟩ := hrel
    have HW : Hid (Below _ _ _) := hbw
    by_cases hlt : j < K.length
    · obtain rfl : a1 = some ⟨g, o, none⟩ := HX.out.base (by omega)
      have zx : g < wr.heap.size := (HX.out.below hbw).lt (by omega)
      have HCC : Hid _ := (HX.out.below hbw).cells j hlt
      have j0 : (0 : Int) ≤ (j : Int) := Int.natCast_nonneg _
      have j1 : (j : Int) < (K.length : Int) := by omega
      have HS : Hid (lightN K (j + 1) = lightB (ndAt K j)) := by show _ = _; simp only [lightN]; rw [hall]; rfl
      have HU : Hid (lightN K (j + 1) = true → lightN K K.length = true) := lightN_up (by omega)
      clear hbw hall
      generalize ndAt K j = nd at *
      obtain ⟨k0, k1, k2, k3, k4, k5⟩ := nd
      simp only at HCC
      obtain ⟨c0, c1', c2, c3, c4, c5⟩ := HCC.out
      go_wp2_with fail
      refine (isLightLeaf_any _ _ _ _ _ _ _).mono ?_
      rintro e w2 ⟨rfl, hb2⟩
      have B2 : Hid (Below w.heap.size w w2) := HW.out.trans (hb2.mono HW.out.size)
      clear hb2 c0 c1' c2 c3 c4 c5
      cases hq : lightB ⟨k0, k1, k2, k3, k4, k5⟩
      · have HQ : Hid (lightN K (j + 1) = false) := by show _ = _; rw [HS.out, hq]
        go_wp2_with fail
        exact ⟨⟨j + 1, by omega, by go_num, HQ.out, B2.out⟩, by simp [intOf]; omega⟩
      · have HQ : Hid (lightN K K.length = true) := HU.out (by rw [HS.out, hq])
        go_wp2_with fail
        go_ret
        exact ⟨_, rfl, B2.out, by rw [HQ.out]; simp⟩
    · obtain rfl : j = K.length := by omega
      have HQ : Hid (lightN K K.length = false) := hall
      clear hbw hall
      go_wp2_with fail
      go_ret
      exact ⟨_, rfl, HW.out, by rw [HQ.out]; rfl⟩
set_option maxRecDepth 100000 in
theorem containsN_any (a1 : Option Addr) (g o c1 : Nat) (K : NL) (w : World) (hx : NodesAt w a1 g o K) :
    Calls Try.prog 50 #[.slice a1 K.length c1, .func (.func 51) #[] #[]] w fun e w' => e = .returned (.bool (lightN K K.length)) ∧ Below w.heap.size w w' := by
  have HX : Hid (NodesAt _ _ _ _ _) := hx
  clear hx
  go_enter Try.func50, Try.ntmps50
  go_wp2_with (first | (go_at_call 73; refine (indexN_any a1 g o c1 K _ HX.out).mono ?_; rintro e w1 ⟨r, rfl, hb1, hr1⟩; have B1 : Hid (Below w.heap.size w w1) := hb1; have HR : Hid (_ = lightN K K.length) := hr1; clear hb1 hr1))
  go_ret
  exact ⟨by rw [← HR.out]; rfl, B1.out⟩
end Go.Proofs.Ytiencggnijfjoaa

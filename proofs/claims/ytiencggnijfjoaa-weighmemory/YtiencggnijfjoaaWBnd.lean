
/- Layer 17: Deep. Layer 17: bits.Len64 by the library's contract; Bound and Fits. -/

import Derived.Test.YtiencggnijfjoaaWSnd

import Derived.Test.YtiencggnijfjoaaTHgt

import Derived.Shelf.Strconv.Itoa0

namespace Go.Proofs.Ytiencggnijfjoaa

open Go.RowKit

attribute [local go_sem ↓] Go.wp_at_zero Go.wp_at_succ

noncomputable def deepA (t : NL) : Int := if keyE t = 0 then hgtA t else 0
set_option maxRecDepth 100000 in
set_option maxHeartbeats 1000000 in
theorem Deep_any (base : Option Addr) (b o c : Nat) (t : NL) (w : World) (h : NodesAt w base b o t) :
    Calls Try.prog 19 #[.slice base t.length c] w fun e w' => e = .returned (.tuple #[.int .i64 (deepA t), .int .i64 (keyE t)]) ∧ Below w.heap.size w w' := by
  have HA : Hid (NodesAt _ _ _ _ _) := h
  clear h
  by_cases he : keyE t = 0
  · have HE : Hid (keyE t = 0) := he
    have HFE : Hid (formE t = 0) := keyE_form he
    have F : Hid (deepA t = hgtA t) := by show deepA t = _; unfold deepA; rw [if_pos he]
    clear he
    go_enter Try.func19, Try.ntmps19
    go_wp2_with (first | (go_at_call 52; refine (wcheck_any _ b o c t _ HA.out).mono ?_; rintro e w1 ⟨rfl, hb1⟩; rw [HE.out]; have B1 : Hid (Below w.heap.size w w1) := hb1; clear hb1) | (go_at_call 53; refine (Height_any _ b o c t _ (HA.out.below B1.out)).mono ?_; rintro e w2 ⟨rfl, hb2⟩; rw [HFE.out]; have B2 : Hid (Below w.heap.size w w2) := B1.out.trans (hb2.mono B1.out.size); clear hb2))
    go_ret2
    exact ⟨by rw [F.out, HE.out]; rfl, B2.out⟩
  · have d : (keyE t != 0) = true := by simp [he]
    have F : Hid (deepA t = 0) := by show deepA t = _; unfold deepA; rw [if_neg he]
    clear he
    go_enter Try.func19, Try.ntmps19
    go_wp2_with (first | (go_at_call 52; refine (wcheck_any _ b o c t _ HA.out).mono ?_; rintro e w1 ⟨rfl, hb1⟩; have B1 : Hid (Below w.heap.size w w1) := hb1; clear hb1))
    go_ret2
    exact ⟨by rw [F.out]; rfl, B1.out⟩
end Go.Proofs.Ytiencggnijfjoaa

namespace Go.Proofs.Ytiencggnijfjoaa

open Go.RowKit

attribute [local go_sem ↓] Go.wp_at_zero Go.wp_at_succ

def lays129_ren : Go.Shelf.Ren := ⟨fun | 129 => 54 | n => n, fun | 3 => 3 | 4 => 4 | 5 => 5 | 9 => 9 | 46 => 75 | 53 => 64 | n => n, fun | n => n⟩
theorem lays129 : Go.Proofs.Lays.n129 Try.prog lays129_ren := {
  mixed := by kernel_rfl
  f129 := Try.func54.trans (congrArg some (by kernel_rfl))
  t3 := Try.underlying3
  a3 := Try.isAgg3
  z3 := Try.sizeOf3
  v3 := Try.zeroValue3
  t4 := Try.underlying4
  a4 := Try.isAgg4
  z4 := Try.sizeOf4
  v4 := Try.zeroValue4
  t5 := Try.underlying5
  a5 := Try.isAgg5
  z5 := Try.sizeOf5
  v5 := Try.zeroValue5
  t9 := Try.underlying9
  a9 := Try.isAgg9
  z9 := Try.sizeOf9
  v9 := Try.zeroValue9
  t46 := Try.underlying75
  a46 := Try.isAgg75
  z46 := Try.sizeOf75
  v46 := Try.zeroValue75
  t53 := Try.underlying64
  a53 := Try.isAgg64
  z53 := Try.sizeOf64
  v53 := Try.zeroValue64 }
theorem len64_any (x : Int) (w : World) (h0 : 0 ≤ x) (h1 : x ≤ 18446744073709551615) :
    Calls Try.prog 54 #[.int .u64 x] w fun e w' => e = .returned (.int .i64 (Lib.bitLen x.toNat)) ∧ w' = w := Any.bits_Len64 lays129 x w h0 h1
theorem bitAux_le : ∀ f x : Nat, Lib.bitLenAux f x ≤ f
  | 0, _ => by simp [Lib.bitLenAux]
  | f + 1, x => by
    simp only [Lib.bitLenAux]
    have := bitAux_le f (x / 2)
    split <;> omega
theorem bitLen_le (x : Nat) : Lib.bitLen x ≤ 64 := bitAux_le 64 x
def bndA (n : Int) : Int := if n < 0 then 0 else 2 * (Lib.bitLen (n + 1).toNat : Int) + 4
def bndE (n : Int) : Int := if n < 0 then 1 else 0
set_option maxRecDepth 100000 in
theorem Bound_any (n : Int) (w : World) (h1 : n ≤ 9223372036854775807) :
    Calls Try.prog 21 #[.int .i64 n] w fun e w' => e = .returned (.tuple #[.int .i64 (bndA n), .int .i64 (bndE n)]) ∧ Below w.heap.size w w' := by
  by_cases h : n < 0
  · have F : Hid (bndA n = 0 ∧ bndE n = 1) := by show _ ∧ _; unfold bndA bndE; rw [if_pos h, if_pos h]; exact ⟨rfl, rfl⟩
    go_enter Try.func21, Try.ntmps21
    go_wp2_with fail
    go_ret2
    exact ⟨by rw [F.out.1, F.out.2]; rfl, Below.refl _ _⟩
  · have F : Hid (bndA n = 2 * (Lib.bitLen (n + 1).toNat : Int) + 4 ∧ bndE n = 0) := by show _ ∧ _; unfold bndA bndE; rw [if_neg h, if_neg h]; exact ⟨rfl, rfl⟩
    have h0 : 0 ≤ n := by omega
    have hl := bitLen_le (n + 1).toNat
    go_enter Try.func21, Try.ntmps21
    go_wp2_with fail
    refine (len64_any (n + 1) _ (by omega) (by omega)).mono ?_
    rintro e w1 ⟨rfl, rfl⟩
    generalize Lib.bitLen (n + 1).toNat = L at *
    go_wp2_with fail
    go_ret2
    exact ⟨by rw [F.out.1, F.out.2]; rfl, Below.refl _ _⟩
/-- Fits' answer. -/
noncomputable def fitA (t : NL) : Bool := if keyE t = 0 then decide (hgtA t ≤ bndA (((keysA t).length + 1) / 2 : Nat)) else false
set_option maxRecDepth 100000 in
set_option maxHeartbeats 1000000 in
theorem Fits_any (base : Option Addr) (b o c : Nat) (t : NL) (w : World) (h : NodesAt w base b o t) :
    Calls Try.prog 23 #[.slice base t.length c] w fun e w' => e = .returned (.tuple #[.bool (fitA t), .int .i64 (keyE t)]) ∧ Below w.heap.size w w' := by
  have HA : Hid (NodesAt _ _ _ _ _) := h
  clear h
  by_cases he : keyE t = 0
  · have HE : Hid (keyE t = 0) := he
    obtain ⟨k, hk⟩ := keyed_of t
    have hK1 := (keys_ok hk).1
    have F : Hid (fitA t = decide (hgtA t ≤ bndA (((keysA t).length + 1) / 2 : Nat))) := by show fitA t = _; unfold fitA; rw [if_pos he]
    have F2 : Hid (deepA t = hgtA t) := by show deepA t = _; unfold deepA; rw [if_pos he]
    have F3 : Hid (bndE (((keysA t).length + 1) / 2 : Nat) = 0) := by show bndE _ = 0; unfold bndE; rw [if_neg (by omega)]
    have hd : ((keysA t).length + 1 : Int).tdiv 2 = (((keysA t).length + 1) / 2 : Nat) := by rw [Int.tdiv_eq_ediv_of_nonneg (by omega)]; omega
    clear he hk
    go_enter Try.func23, Try.ntmps23
    go_wp2_with fail
    refine (keysOf_any base b o c t _ HA.out).mono ?_
    rintro e w1 ⟨v1, rfl, ho1, hb1⟩
    rw [HE.out]
    obtain ⟨bs1, cp1, g1, rfl, -, -, -⟩ := nodes_of_owns ho1
    have B1 : Hid (Below w.heap.size w w1) := hb1
    clear ho1 hb1
    go_wp2_with fail
    refine (Deep_any base b o c t _ (HA.out.below B1.out)).mono ?_
    rintro e w2 ⟨rfl, hb2⟩
    rw [HE.out, F2.out]
    have B2 : Hid (Below w.heap.size w w2) := B1.out.trans (hb2.mono B1.out.size)
    clear hb2
    generalize (keysA t).length = K at *
    generalize hgtA t = d at *
    go_wp2_with fail
    refine (Bound_any (((K + 1) / 2 : Nat) : Int) _ (by omega)).mono ?_
    rintro e w3 ⟨rfl, hb3⟩
    rw [F3.out]
    have B3 : Hid (Below w.heap.size w w3) := B2.out.trans (hb3.mono B2.out.size)
    clear hb3
    generalize bndA (((K + 1) / 2 : Nat) : Int) = bb at *
    go_wp2_with fail
    go_ret2
    exact ⟨by rw [F.out, HE.out]; rfl, B3.out⟩
  · have d : (keyE t != 0) = true := by simp [he]
    have F : Hid (fitA t = false) := by show fitA t = _; unfold fitA; rw [if_neg he]
    clear he
    go_enter Try.func23, Try.ntmps23
    go_wp2_with (first | (go_at_call 44; refine (keysOf_any base b o c t _ HA.out).mono ?_; rintro e w1 ⟨v1, rfl, -, hb1⟩; have B1 : Hid (Below w.heap.size w w1) := hb1; clear hb1))
    go_ret2
    exact ⟨by rw [F.out]; rfl, B1.out⟩
end Go.Proofs.Ytiencggnijfjoaa

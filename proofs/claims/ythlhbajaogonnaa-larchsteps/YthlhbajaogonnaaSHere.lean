
/- Layer 18: Here of the program. -/

import Derived.Test.YthlhbajaogonnaaSMvA

namespace Go.Proofs.Ythlhbajaogonnaa

open Go.RowKit

attribute [local go_sem ↓] Go.wp_at_zero Go.wp_at_succ

theorem MvRow.down {w w1 x : World} {v : Value} {V : List MvD} (h : MvRow w1 x v V) (hb : Below w.heap.size w w1) : MvRow w x v V :=
  ⟨owns_down h.own hb.size, hb.trans (h.below.mono hb.size)⟩
/-- What Here answers. -/
noncomputable def hereE (t : NL) (p : Int) : Int := if (rootR t).2 ≠ 0 then (rootR t).2 else if ofK t p = false then 1 else 0
noncomputable def mvsA (t : NL) (p : Int) : List MvD := mvsB (decide (p = (rootR t).1)) (theB t p.toNat)
noncomputable def hereL (t : NL) (p : Int) : List MvD := if hereE t p = 0 then mvsA t p else []
theorem key_abs {t : NL} {p : Int} (h1 : (rootR t).2 = 0) (h3 : ofK t p = true) : ∃ (n : Nat) (b : BT), p = (n : Int) ∧ n < t.length ∧ n ≠ 0 ∧ Abs t n b ∧ InForm t := by
  obtain ⟨x, l, r, s, K, cr⟩ := crn_of h1
  obtain ⟨-, hf⟩ := formE_ok cr.form
  obtain ⟨n, M, rfl, hn, hn0, -, -⟩ := cr.keyplace h3
  obtain ⟨b, hb, -, -⟩ := form_abs_at hf hn
  exact ⟨n, b, rfl, hn, hn0, hb, hf⟩
theorem movesAt_key (base : Option Addr) (b o c : Nat) (t : NL) (p : Int) (w : World) (h : NodesAt w base b o t) (h1 : (rootR t).2 = 0) (h3 : ofK t p = true) :
    Calls Try.prog 46 #[.slice base t.length c, .int .i64 (rootR t).1, .int .i64 p] w fun e w' => ∃ v, e = .returned v ∧ MvRow w w' v (mvsA t p) := by
  obtain ⟨n, B, rfl, -, -, hB, hf⟩ := key_abs h1 h3
  unfold mvsA
  rw [Int.toNat_natCast, theB_of hB]
  exact movesAt_any base b o c t _ n B w h hf hB
theorem isOfKeys_root (base : Option Addr) (b o c : Nat) (t : NL) (p : Int) (w : World) (h : NodesAt w base b o t) (h1 : (rootR t).2 = 0) :
    Calls Try.prog 45 #[.slice base t.length c, .int .i64 p] w fun e w' => e = .returned (.bool (ofK t p)) ∧ Below w.heap.size w w' := by
  obtain ⟨x0, l0, r0, s0, K0, cr⟩ := crn_of h1
  obtain ⟨-, hf⟩ := formE_ok cr.form
  exact isOfKeys_any base b o c t p w h hf.pos ⟨by rw [cr.top.1]; omega, by rw [cr.top.1]; have := cr.lt.2.1; omega⟩
set_option maxRecDepth 100000 in
set_option maxHeartbeats 4000000 in
theorem Here_any (base : Option Addr) (b o c : Nat) (t : NL) (p : Int) (w : World) (h : NodesAt w base b o t) :
    Calls Try.prog 16 #[.slice base t.length c, .int .i64 p] w fun e w' => ∃ v, e = .returned (.tuple #[v, .int .i64 (hereE t p)]) ∧ MvRow w w' v (hereL t p) := by
  have HA : Hid (NodesAt w base b o t) := h
  have HR : Hid (∀ W, NodesAt W base b o t → Calls Try.prog 44 #[.slice base t.length c] W fun e w' => e = .returned (.tuple #[.int .i64 (rootR t).1, .int .i64 (rootR t).2]) ∧ Below W.heap.size W w') := fun W hW => Root_any base b o c t W hW
  clear h
  by_cases h1 : (rootR t).2 = 0
  · have HK : Hid (∀ W, NodesAt W base b o t → Calls Try.prog 45 #[.slice base t.length c, .int .i64 p] W fun e w' => e = .returned (.bool (ofK t p)) ∧ Below W.heap.size W w') := fun W hW => isOfKeys_root base b o c t p W hW h1
    have d1 : ((rootR t).2 != 0) = false := by simp [h1]
    cases h3 : ofK t p
    · have F : Hid (hereE t p = 1) := by show _ = _; unfold hereE; rw [if_neg (by simp [h1]), if_pos h3]
      have FL : Hid (hereL t p = []) := by show _ = _; unfold hereL; rw [F.out]; rfl
      rw [F.out, FL.out]
      rw [h3] at HK
      clear F FL h3 h1
      generalize (rootR t).1 = rt at *
      generalize (rootR t).2 = re at *
      go_enter Try.func16, Try.ntmps16
      go_wp2_with fail
      refine (HR.out _ HA.out).mono ?_
      rintro e w1 ⟨rfl, hb⟩
      have B1 : Hid (Below w.heap.size w w1) := hb
      clear hb
      go_wp2_with fail
      refine (HK.out _ (HA.out.below B1.out)).mono ?_
      rintro e w2 ⟨rfl, hb⟩
      have B2 : Hid (Below w.heap.size w w2) := B1.out.trans (hb.mono B1.out.size)
      clear hb
      go_wp2_with fail
      go_ret2
      exact ⟨_, rfl, MvRow.nil B2.out⟩
    · have F : Hid (hereE t p = 0) := by show _ = _; unfold hereE; rw [if_neg (by simp [h1]), if_neg (by simp [h3])]
      have FL : Hid (hereL t p = mvsA t p) := by show _ = _; unfold hereL; rw [if_pos F.out]
      have HV : Hid (∀ W, NodesAt W base b o t → Calls Try.prog 46 #[.slice base t.length c, .int .i64 (rootR t).1, .int .i64 p] W fun e w' => ∃ v, e = .returned v ∧ MvRow W w' v (mvsA t p)) := fun W hW => movesAt_key base b o c t p W hW h1 h3
      rw [F.out, FL.out]
      rw [h3] at HK
      clear F FL h3 h1
      generalize mvsA t p = V at *
      generalize (rootR t).1 = rt at *
      generalize (rootR t).2 = re at *
      go_enter Try.func16, Try.ntmps16
      go_wp2_with fail
      refine (HR.out _ HA.out).mono ?_
      rintro e w1 ⟨rfl, hb⟩
      have B1 : Hid (Below w.heap.size w w1) := hb
      clear hb
      go_wp2_with fail
      refine (HK.out _ (HA.out.below B1.out)).mono ?_
      rintro e w2 ⟨rfl, hb⟩
      have B2 : Hid (Below w.heap.size w w2) := B1.out.trans (hb.mono B1.out.size)
      clear hb
      go_wp2_with fail
      refine (HV.out _ (HA.out.below B2.out)).mono ?_
      rintro e w3 ⟨v, rfl, hv⟩
      have R3 : Hid (MvRow w w3 v V) := hv.down B2.out
      clear hv
      go_wp2_with fail
      go_ret2
      exact ⟨_, rfl, R3.out⟩
  · have F : Hid (hereE t p = (rootR t).2) := by show _ = _; unfold hereE; rw [if_pos (by simpa using h1)]
    have FL : Hid (hereL t p = []) := by show _ = _; unfold hereL; rw [F.out, if_neg h1]
    have d1 : ((rootR t).2 != 0) = true := by simp [h1]
    rw [F.out, FL.out]
    clear F FL h1
    generalize (rootR t).1 = rt at *
    generalize (rootR t).2 = re at *
    go_enter Try.func16, Try.ntmps16
    go_wp2_with fail
    refine (HR.out _ HA.out).mono ?_
    rintro e w1 ⟨rfl, hb⟩
    have B1 : Hid (Below w.heap.size w w1) := hb
    clear hb
    go_wp2_with fail
    go_ret2
    exact ⟨_, rfl, MvRow.nil B1.out⟩
end Go.Proofs.Ythlhbajaogonnaa

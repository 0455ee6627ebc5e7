
/- Layer 18: Here of the program. -/

import Derived.Test.YthlhbajaogonnaaDoorSMvA

namespace Go.Proofs.YthlhbajaogonnaaDoor

open Go.RowKit

attribute [local go_sem ↓] Go.wp_at_zero Go.wp_at_succ

theorem MvRow.down {w w1 x : World} {v : Value} {V : List MvD} (h : MvRow w1 x v V) (hb : Below w.heap.size w w1) : MvRow w x v V :=
  ⟨owns_down h.own hb.size, hb.trans (h.below.mono hb.size)⟩
/-- What Here answers. -/
noncomputable def hereE (t : NL) (p : Int) : Int := if (rootR t).2 ≠ 0 then (rootR t).2 else if ofK t p = false then 1 else 0
noncomputable def mvsA (t : NL) (p : Int) : List MvD := mvsB (decide (p = (rootR t).1)) (theB t p.toNat)
noncomputable def hereL (t : NL) (p : Int) : List MvD := if hereE t p = 0 then mvsA t p else []
theorem key_abs {t : NL} {p : Int} (h1 : (rootR t).2 = 0) (h3 : ofK t p = true) : ∃ (n : Nat) (b : BT), p = (n : Int) ∧ n < t.length ∧ n ≠ 0 ∧ Abs t n b ∧ InForm t := by
  obtain ⟨x, l, r, s, K, cr⟩ := crn_of h1
  obtain ⟨-, hf⟩ := formE_ok cr.form
  obtain ⟨n, M, rfl, hn, hn0, -, -⟩ := cr.keyplace h3
  obtain ⟨b, hb, -, -⟩ := form_abs_at hf hn
  exact ⟨n, b, rfl, hn, hn0, hb, hf⟩
theorem isOfKeys_root (base : Option Addr) (b o c : Nat) (t : NL) (p : Int) (w : World) (h : NodesAt w base b o t) (h1 : (rootR t).2 = 0) :
    Calls Tryd.prog 37 #[.slice base t.length c, .int .i64 p] w fun e w' => e = .returned (.bool (ofK t p)) ∧ Below w.heap.size w w' := by
  obtain ⟨x0, l0, r0, s0, K0, cr⟩ := crn_of h1
  obtain ⟨-, hf⟩ := formE_ok cr.form
  exact isOfKeys_any base b o c t p w h hf.pos ⟨by rw [cr.top.1]; omega, by rw [cr.top.1]; have := cr.lt.2.1; omega⟩
end Go.Proofs.YthlhbajaogonnaaDoor

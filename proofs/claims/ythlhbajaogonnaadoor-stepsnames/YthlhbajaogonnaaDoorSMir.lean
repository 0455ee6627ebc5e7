
/- Layer 16, pure: a table in form as a tree; its mirror. -/

import Derived.Test.YthlhbajaogonnaaDoorTBt2

import Derived.Test.YthlhbajaogonnaaDoorTMir

namespace Go.Proofs.YthlhbajaogonnaaDoor

theorem form_abs {t : NL} (hf : InForm t) : ∃ b, Abs t 0 b ∧ b.size = t.length ∧ b.ok := by
  obtain ⟨L, h1, -, h3⟩ := hf.tree
  obtain ⟨b, hb, hs⟩ := h1.abs
  exact ⟨b, hb, by omega, abs_ok hf hb⟩
theorem form_abs_at {t : NL} (hf : InForm t) {x : Nat} (hx : x < t.length) : ∃ b, Abs t x b ∧ b.size ≤ t.length ∧ b.ok := by
  obtain ⟨M, h1, -, h3, -⟩ := form_at hf x hx
  obtain ⟨b, hb, hs⟩ := h1.abs
  exact ⟨b, hb, by omega, abs_ok hf hb⟩
theorem mir_abs {t : NL} {p : Nat} {b : BT} (h : Abs t p b) : Abs (mirL t) p b.mir := by
  induction h with
  | @leaf p hp hl hr =>
    have e := mirL_at t p hp
    have := Abs.leaf (t := mirL t) (p := p) (by rw [mirL_length]; exact hp) (by rw [e]; exact hr) (by rw [e]; exact hl)
    rw [e] at this
    exact this
  | @node p l r a b hp hl hr _ _ ih1 ih2 =>
    have e := mirL_at t p hp
    have := Abs.node (t := mirL t) (p := p) (by rw [mirL_length]; exact hp) (by rw [e]; exact hr) (by rw [e]; exact hl) ih2 ih1
    rw [e] at this
    exact this
end Go.Proofs.YthlhbajaogonnaaDoor


/- Layer 16: the root of the keys, and parts, of both. -/

import Derived.Test.YthdfpddijocfkaaTNorm

import Derived.Test.YthdfpddijocfkaaTBt

namespace Go.Proofs.Ythdfpddijocfkaa

open Go.RowKit

attribute [local go_sem ↓] Go.wp_at_zero Go.wp_at_succ

def sentB (n : NdD) : Bool := decide (n.inf = 1 ∧ n.wt = 1)
def endB (n : NdD) : Bool := sentB n && leafB n
def archB (t : NL) (p : Nat) : Bool := sentB (ndAt t p) && (!leafB (ndAt t p) && endB (ndAt t (ndAt t p).r.toNat))
open Classical in
/-- Root's answer: the place and the error. -/
noncomputable def rootR (t : NL) : Int × Int :=
  if formE t ≠ 0 then (0, formE t)
  else if archB t 0 = false then (0, 3)
  else if endB (ndAt t (ndAt t 0).l.toNat) = true then (0, 4)
  else if archB t (ndAt t 0).l.toNat = false then (0, 3)
  else if ∀ x ∈ theL t (ndAt t (ndAt t 0).l.toNat).l.toNat, (ndAt t x).inf = 0 then ((ndAt t (ndAt t 0).l.toNat).l, 0) else (0, 3)
noncomputable def crX (t : NL) : Int := if (rootR t).2 = 4 then -1 else (rootR t).1
noncomputable def crB (t : NL) : Bool := decide ((rootR t).2 ≠ 3)
theorem box6 {w : World} {b : Nat} {v0 v1 v2 v3 v4 v5 : Value} {T : TypeId} (h : w.heap[b]? = some (.cells #[v0, v1, v2, v3, v4, v5] T)) : b < w.heap.size ∧ w.cell? ⟨b, 0, none⟩ = some v0 ∧ w.cell? ⟨b, 1, none⟩ = some v1 ∧ w.cell? ⟨b, 2, none⟩ = some v2 ∧ w.cell? ⟨b, 3, none⟩ = some v3 ∧ w.cell? ⟨b, 4, none⟩ = some v4 ∧ w.cell? ⟨b, 5, none⟩ = some v5 := by
  refine ⟨(Array.getElem?_eq_some_iff.1 h).1, ?_, ?_, ?_, ?_, ?_, ?_⟩ <;> simp [World.cell?, h]
theorem inner_lr {t : NL} (hf : InForm t) {p : Nat} (hp : p < t.length) (h : leafB (ndAt t p) = false) : ∃ l r : Nat, (ndAt t p).l = (l : Int) ∧ (ndAt t p).r = (r : Int) ∧ l < t.length ∧ r < t.length := by
  rcases (hf.good.node p hp).1 with ⟨h1, h2⟩ | h1
  · rw [leafB_yes h1 h2] at h; cases h
  · exact ⟨(ndAt t p).l.toNat, (ndAt t p).r.toNat, by omega, by omega, by omega, by omega⟩
theorem leaf_lr {t : NL} (hf : InForm t) {p : Nat} (hp : p < t.length) : (ndAt t p).l = -1 → (ndAt t p).r = -1 := by
  intro h
  rcases (hf.good.node p hp).1 with ⟨h1, h2⟩ | h1
  · exact h2
  · omega
theorem leafB_r {t : NL} (hf : InForm t) {p : Nat} (hp : p < t.length) : rleafB (ndAt t p) = leafB (ndAt t p) := by
  by_cases h : (ndAt t p).l = -1
  · rw [rleafB_yes h, leafB_yes h (leaf_lr hf hp h)]
  · rw [rleafB_no h, leafB_no h]
theorem sent_tt {n : NdD} (h1 : n.inf = 1) (h2 : n.wt = 1) : sentB n = true := by simp [sentB, h1, h2]
theorem rootR_cases {t : NL} (he : formE t = 0) : rootR t = (0, 3) ∨ rootR t = (0, 4) ∨ ∃ x : Nat, rootR t = ((x : Int), 0) ∧ x < t.length := by
  obtain ⟨-, hf⟩ := formE_ok he
  unfold rootR
  rw [if_neg (by simp [he])]
  split
  · exact Or.inl rfl
  · rename_i h1
    split
    · exact Or.inr (Or.inl rfl)
    · split
      · exact Or.inl rfl
      · rename_i h2 h3
        split
        · refine Or.inr (Or.inr ?_)
          have k1 : leafB (ndAt t 0) = false := by
            unfold archB at h1
            cases q : leafB (ndAt t 0)
            · rfl
            · rw [q] at h1; simp at h1
          obtain ⟨l, r, hl', hr', hll, hrl⟩ := inner_lr hf hf.pos k1
          rw [hl', Int.toNat_natCast] at h3
          have k2 : leafB (ndAt t l) = false := by
            unfold archB at h3
            cases q : leafB (ndAt t l)
            · rfl
            · rw [q] at h3; simp at h3
          obtain ⟨x, y, hx', hy', hxl, hyl⟩ := inner_lr hf hll k2
          exact ⟨x, by rw [hl', Int.toNat_natCast, hx'], hxl⟩
        · exact Or.inl rfl
open Classical in
/-- Sub's answer. -/
noncomputable def subL (t : NL) (p : Int) : NL := if formE t = 0 ∧ 0 ≤ p ∧ p < t.length then partL t (theL t p.toNat) else []
open Classical in
noncomputable def subE (t : NL) (p : Int) : Int := if formE t ≠ 0 then formE t else if 0 ≤ p ∧ p < t.length then 0 else 1
end Go.Proofs.Ythdfpddijocfkaa

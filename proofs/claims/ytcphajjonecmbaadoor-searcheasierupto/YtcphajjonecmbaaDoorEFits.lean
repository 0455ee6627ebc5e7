
/- Layer 5: orders as data; Fits of the program. -/

import Derived.Test.YtcphajjonecmbaaDoorEKnown

import Derived.Test.YtcphajjonecmbaaDoorEQuiet

namespace Go.Proofs.YtcphajjonecmbaaDoor

open Go.RowKit

attribute [local go_sem ↓] Go.wp_at_zero Go.wp_at_succ

def oAt (ord : List Int) (i : Nat) : Int := ord.getD i 0
/-- The numbers lie in memory. -/
structure OrdAt (w : World) (base : Option Addr) (b o : Nat) (ord : List Int) : Prop where
  base : ord.length ≠ 0 → base = some ⟨b, o, none⟩
  lt : ord.length ≠ 0 → b < w.heap.size
  len : ord.length ≤ maxLen
  cells : ∀ i, i < ord.length → w.cell? ⟨b, o + i, none⟩ = some (.int .i64 (oAt ord i))
theorem OrdAt.below {w w' : World} {base : Option Addr} {b o : Nat} {ord : List Int} (h : OrdAt w base b o ord) (hb : Below w.heap.size w w') : OrdAt w' base b o ord :=
  ⟨h.base, fun hn => Nat.lt_of_lt_of_le (h.lt hn) hb.size, h.len, fun i hi => (hb.cell (p := ⟨b, _, none⟩) (h.lt (by omega))).trans (h.cells i hi)⟩
/-- Does x stand among the first j? -/
def seenN (ord : List Int) : Nat → Nat → Bool
  | 0, _ => false
  | j + 1, x => seenN ord j x || decide (oAt ord j = x)
theorem seenN_iff {ord : List Int} {x : Nat} : ∀ {j : Nat}, seenN ord j x = true ↔ ∃ i, i < j ∧ oAt ord i = x
  | 0 => by simp [seenN]
  | j + 1 => by
    simp only [seenN, Bool.or_eq_true, decide_eq_true_eq, seenN_iff (j := j)]
    constructor
    · rintro (⟨i, h1, h2⟩ | h)
      · exact ⟨i, by omega, h2⟩
      · exact ⟨j, by omega, h⟩
    · rintro ⟨i, h1, h2⟩
      by_cases e : i = j
      · subst e; exact Or.inr h2
      · exact Or.inl ⟨i, by omega, h2⟩
/-- What the first j of an order must be. -/
structure OrdOk (sp : List Sp) (ord : List Int) (j : Nat) : Prop where
  rng : ∀ i, i < j → 0 ≤ oAt ord i ∧ oAt ord i < sp.length
  once : ∀ i k, i < k → k < j → oAt ord i ≠ oAt ord k
  ahead : ∀ i k, i < k → k < j → ahd (spAt sp (oAt ord k).toNat) (spAt sp (oAt ord i).toNat) = false
theorem OrdOk.mono {sp : List Sp} {ord : List Int} {j k : Nat} (h : OrdOk sp ord k) (hj : j ≤ k) : OrdOk sp ord j :=
  ⟨fun i hi => h.rng i (by omega), fun i l hil hl => h.once i l hil (by omega), fun i l hil hl => h.ahead i l hil (by omega)⟩
theorem OrdOk.step {sp : List Sp} {ord : List Int} {j : Nat} (h : OrdOk sp ord j) (h1 : 0 ≤ oAt ord j ∧ oAt ord j < sp.length) (h2 : ∀ i, i < j → oAt ord i ≠ oAt ord j) (h3 : ∀ i, i < j → ahd (spAt sp (oAt ord j).toNat) (spAt sp (oAt ord i).toNat) = false) : OrdOk sp ord (j + 1) := by
  refine ⟨fun i hi => ?_, fun i k hik hk => ?_, fun i k hik hk => ?_⟩
  · by_cases e : i = j
    · subst e; exact h1
    · exact h.rng i (by omega)
  · by_cases e : k = j
    · subst e; exact h2 i hik
    · exact h.once i k hik (by omega)
  · by_cases e : k = j
    · subst e; exact h3 i hik
    · exact h.ahead i k hik (by omega)
def FitsP (sp : List Sp) (ord : List Int) : Prop := OrdOk sp ord ord.length ∧ ∀ k, k < sp.length → (spAt sp k).2 ≠ -1 → seenN ord ord.length k = true
/-- The place of the latest invocation among the first j. -/
structure LateOk (sp : List Sp) (ord : List Int) (j : Nat) (lf : Nat) : Prop where
  ge : ∀ i, i < j → (spAt sp (oAt ord i).toNat).1 ≤ lf
  at_ : lf = 0 ∨ ∃ i, i < j ∧ lf = (spAt sp (oAt ord i).toNat).1
theorem late_ahead {sp : List Sp} {ord : List Int} {j lf : Nat} (h : LateOk sp ord j lf) {p : Sp} (hp : p.2 = -1 ∨ 0 ≤ p.2) (t : Int) : ahd p (lf, t) = true ↔ ∃ i, i < j ∧ ahd p (spAt sp (oAt ord i).toNat) = true := by
  unfold ahd
  simp only [Bool.and_eq_true, decide_eq_true_eq]
  constructor
  · rintro ⟨h1, h2⟩
    rcases h.at_ with e | ⟨i, hi, e⟩
    · rcases hp with q | q
      · exact absurd q h1
      · rw [e] at h2; simp at h2; omega
    · exact ⟨i, hi, h1, by rw [← e]; exact h2⟩
  · rintro ⟨i, hi, h1, h2⟩
    have := h.ge i hi
    exact ⟨h1, by omega⟩
theorem late_step {sp : List Sp} {ord : List Int} {j lf : Nat} (h : LateOk sp ord j lf) : LateOk sp ord (j + 1) (if lf < (spAt sp (oAt ord j).toNat).1 then (spAt sp (oAt ord j).toNat).1 else lf) := by
  by_cases e : lf < (spAt sp (oAt ord j).toNat).1
  · rw [if_pos e]
    refine ⟨fun i hi => ?_, Or.inr ⟨j, by omega, rfl⟩⟩
    by_cases q : i = j
    · subst q; exact Nat.le_refl _
    · have := h.ge i (by omega); omega
  · rw [if_neg e]
    refine ⟨fun i hi => ?_, ?_⟩
    · by_cases q : i = j
      · subst q; omega
      · exact h.ge i (by omega)
    · rcases h.at_ with q | ⟨i, hi, q⟩
      · exact Or.inl q
      · exact Or.inr ⟨i, by omega, q⟩
theorem number_below (i : Int) (base : Option Addr) (n c : Nat) (w : World) :
    Calls Tryd.prog 67 #[.int .i64 i, .slice base n c] w fun e w' => e = .returned (.bool (decide (0 ≤ i) && decide (i < n))) ∧ Below w.heap.size w w' :=
  (number_any i base n c w).mono fun _ _ ⟨he, hw⟩ => ⟨he, by subst hw; exact Below.refl _ _⟩
end Go.Proofs.YtcphajjonecmbaaDoor

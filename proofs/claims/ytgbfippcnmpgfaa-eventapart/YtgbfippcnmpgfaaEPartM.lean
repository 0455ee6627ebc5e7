
/- Layer 5: rows of events with their lists of pairs, in memory that the call made. No walk. -/

import Derived.Test.YtgbfippcnmpgfaaEPart

import Derived.Test.YtgbfippcnmpgfaaECdsOf

namespace Go.Proofs.Ytgbfippcnmpgfaa

open Go.ChangeShapes Go.WideShapes Go.ChangeAt Go.RowKit Go.Deep

def evsC : List (EvD × Value) → List Value
  | [] => []
  | x :: t => evC x.1 x.2 ++ evsC t
theorem evsC_append (b : List (EvD × Value)) : ∀ a, evsC (a ++ b) = evsC a ++ evsC b
  | [] => rfl
  | x :: t => by simp [evsC, evsC_append b t]
theorem evC_length (e : EvD) (v : Value) : (evC e v).length = 10 := rfl
theorem evsC_length : ∀ a, (evsC a).length = a.length * 10
  | [] => rfl
  | x :: t => by simp only [evsC, List.length_append, evC_length, evsC_length t, List.length_cons]; omega
theorem evsC_get : ∀ (a : List (EvD × Value)) (k i : Nat) (x : EvD × Value), a[k]? = some x → i < 10 → (evsC a)[k * 10 + i]? = (evC x.1 x.2)[i]?
  | [], k, i, x, h, _ => by simp at h
  | y :: t, 0, i, x, h, hi => by
    simp only [List.getElem?_cons_zero, Option.some.injEq] at h
    subst h
    simp only [evsC, Nat.zero_mul, Nat.zero_add]
    rw [List.getElem?_append_left (by exact hi)]
  | y :: t, k + 1, i, x, h, hi => by
    have ih := evsC_get t k i x (by simpa using h) hi
    simp only [evsC]
    rw [List.getElem?_append_right (by rw [evC_length]; omega), evC_length, show (k + 1) * 10 + i - 10 = k * 10 + i by omega]
    exact ih
/-- The list of pairs of an event, apart from the row that the event lies in. -/
def ERet (w : World) (B : Nat) (row : Option Nat) (e : EvD) (v : Value) : Prop :=
  ∃ a g o cap, v = .slice a e.rt.pairs.length cap ∧ (e.rt.pairs.length ≠ 0 → B ≤ g ∧ row ≠ some g) ∧ PairsAt w a g o e.rt.pairs ∧ (a = none → e.rt.pairs.length = 0 ∧ cap = 0) ∧ e.rt.pairs.length * 16 ≤ 140737488355328
def ERets (w : World) (B : Nat) (row : Option Nat) (m : List (EvD × Value)) : Prop := ∀ x ∈ m, ERet w B row x.1 x.2
theorem ERet.below {w w' : World} {B : Nat} {row : Option Nat} {e : EvD} {v : Value} (h : ERet w B row e v) (hb : Below w.heap.size w w') : ERet w' B row e v := by
  obtain ⟨a, g, o, cap, e1, h1, h2, h3⟩ := h
  exact ⟨a, g, o, cap, e1, h1, h2.below hb, h3⟩
theorem ERets.below {w w' : World} {B : Nat} {row : Option Nat} {m : List (EvD × Value)} (h : ERets w B row m) (hb : Below w.heap.size w w') : ERets w' B row m := fun x hx => (h x hx).below hb
theorem pairs_grown {w w1 : World} {row : Option Nat} {a : Option Addr} {g o : Nat} {ps : PL} (h : PairsAt w a g o ps) (hg : w.grownBy w1 row) (hr : ps.length ≠ 0 → row ≠ some g) : PairsAt w1 a g o ps := by
  refine ⟨h.base, fun hn => Nat.lt_of_lt_of_le (h.lt hn) hg.size, fun i hi => ?_, h.len, fun i hi => (hg.frozen_far ⟨g, _, none⟩ (h.lt (by omega)) (fun q => hr (by omega) q.symm)).trans (h.thaw i hi)⟩
  have hl := h.lt (by omega)
  have hne := hr (by omega)
  exact ⟨(hg.cell_far ⟨g, _, none⟩ hl (fun q => hne q.symm)).trans (h.cells i hi).1, (hg.cell_far ⟨g, _, none⟩ hl (fun q => hne q.symm)).trans (h.cells i hi).2⟩
theorem ERet.grown {w w1 : World} {B : Nat} {row row' : Option Nat} {e : EvD} {v : Value} (h : ERet w B row e v) (hg : w.grownBy w1 row) (hr : ∀ g, row' = some g → row = some g ∨ w.heap.size ≤ g) : ERet w1 B row' e v := by
  obtain ⟨a, g, o, cap, e1, h1, h2, h3⟩ := h
  refine ⟨a, g, o, cap, e1, fun hn => ⟨(h1 hn).1, fun q => ?_⟩, pairs_grown h2 hg (fun hn => (h1 hn).2), h3⟩
  rcases hr g q with r | r
  · exact (h1 hn).2 r
  · have := h2.lt hn; omega
theorem ERets.grown {w w1 : World} {B : Nat} {row row' : Option Nat} {m : List (EvD × Value)} (h : ERets w B row m) (hg : w.grownBy w1 row) (hr : ∀ g, row' = some g → row = some g ∨ w.heap.size ≤ g) : ERets w1 B row' m := fun x hx => (h x hx).grown hg hr
/-- Events in memory of the call's own. -/
def EvsNew (w : World) (B B2 : Nat) (v : Value) (l : List EvD) : Prop :=
  ∃ base cap g pb pc pg po, v = .slice base l.length cap ∧ EvsAt w base g 0 l pb pc pg po ∧ (l.length ≠ 0 → B ≤ g) ∧ (base = none → cap = 0) ∧ ∀ i, i < l.length → (evAt l i).rt.pairs.length ≠ 0 → B2 ≤ pg i
theorem EvsNew.nil (w : World) (B B2 : Nat) : EvsNew w B B2 (.slice none 0 0) [] :=
  ⟨none, 0, 0, fun _ => none, fun _ => 0, fun _ => 0, fun _ => 0, rfl, ⟨fun q => absurd rfl q, fun q => absurd rfl q, by simp, fun i hi => by simp at hi, fun i hi => by simp at hi, fun i hi => by simp at hi, fun i hi => by simp at hi, fun i hi => by simp at hi⟩, fun q => absurd rfl q, fun _ => rfl, fun i hi => by simp at hi⟩
theorem EvsNew.below {w w' : World} {B B2 : Nat} {v : Value} {l : List EvD} (h : EvsNew w B B2 v l) (hb : Below w.heap.size w w') : EvsNew w' B B2 v l := by
  obtain ⟨base, cap, g, pb, pc, pg, po, e, h1, h2⟩ := h
  exact ⟨base, cap, g, pb, pc, pg, po, e, h1.below hb, h2⟩
theorem evAt_map {m : List (EvD × Value)} {l : List EvD} (hm : m.map (·.1) = l) {i : Nat} {x : EvD × Value} (hx : m[i]? = some x) : evAt l i = x.1 := by
  unfold evAt
  rw [← hm, List.getD_eq_getElem?_getD, List.getElem?_map, hx]
  rfl
theorem evs_of {w : World} {B2 : Nat} {base : Option Addr} {g : Nat} {row : Option Nat} {m : List (EvD × Value)} {l : List EvD} (hm : m.map (·.1) = l) (hb : m.length ≠ 0 → base = some ⟨g, 0, none⟩) (hl : m.length ≠ 0 → g < w.heap.size) (hlen : l.length ≤ maxLen)
    (hc : ∀ k x, m[k]? = some x → ∀ i, i < 10 → w.cell? ⟨g, k * 10 + i, none⟩ = (evC x.1 x.2)[i]?) (hp : ERets w B2 row m) (hfr : ∀ j, j < l.length * 10 → w.frozen? ⟨g, j, none⟩ = false) :
    ∃ pb pc pg po, EvsAt w base g 0 l pb pc pg po ∧ ∀ i, i < l.length → (evAt l i).rt.pairs.length ≠ 0 → B2 ≤ pg i := by
  have hml : m.length = l.length := by rw [← hm, List.length_map]
  have key : ∀ i, i < l.length → ∃ y : (Option Addr) × Nat × Nat × Nat, (∀ k, k < 10 → w.cell? ⟨g, 0 + i * 10 + k, none⟩ = (evC (evAt l i) (.slice y.1 (evAt l i).rt.pairs.length y.2.1))[k]?) ∧ PairsAt w y.1 y.2.2.1 y.2.2.2 (evAt l i).rt.pairs ∧ (y.1 = none → (evAt l i).rt.pairs.length = 0 ∧ y.2.1 = 0) ∧ (evAt l i).rt.pairs.length * 16 ≤ 140737488355328 ∧ ((evAt l i).rt.pairs.length ≠ 0 → B2 ≤ y.2.2.1) := by
    intro i hi
    obtain ⟨x, hx⟩ : ∃ x, m[i]? = some x := ⟨m[i], List.getElem?_eq_getElem (by omega)⟩
    obtain ⟨a, q, o, cap, h1, h2, h3, h4, h5⟩ := hp x (List.mem_of_getElem? hx)
    rw [evAt_map hm hx]
    refine ⟨(a, cap, q, o), fun k hk => ?_, h3, h4, h5, fun hn => (h2 hn).1⟩
    rw [Nat.zero_add, hc i x hx k hk, h1]
  obtain ⟨f, hf⟩ := choose_lt key
  refine ⟨fun i => (f i).1, fun i => (f i).2.1, fun i => (f i).2.2.1, fun i => (f i).2.2.2, ⟨fun q => hb (by omega), fun q => hl (by omega), hlen, fun i hi => ?_, fun i hi => ?_, fun i hi => ?_, fun i hi => ?_, fun i hi => by rw [Nat.zero_add]; exact hfr i hi⟩, fun i hi => (hf i hi).2.2.2.2⟩
  · have q := (hf i hi).1
    exact ⟨q 0 (by omega), q 1 (by omega)⟩
  · have q := (hf i hi).1
    exact ⟨q 2 (by omega), q 3 (by omega), q 4 (by omega), q 5 (by omega)⟩
  · have q := (hf i hi).1
    exact ⟨q 6 (by omega), q 7 (by omega), q 8 (by omega), q 9 (by omega)⟩
  · obtain ⟨_, q1, q2, q3, _⟩ := hf i hi
    exact ⟨q1, q2, q3⟩
/-- A row of events that is owned: events in memory. -/
theorem own_evs {w : World} {B B2 : Nat} {T : TypeId} {v : Value} {m : List (EvD × Value)} {l : List EvD} (hm : m.map (·.1) = l) (ho : w.ownsRow B T 10 v m.length (evsC m)) (hr : ERets w B2 v.ownBlock m) : EvsNew w B B2 v l := by
  have hml : m.length = l.length := by rw [← hm, List.length_map]
  by_cases hn : m.length = 0
  · obtain rfl : l = [] := List.length_eq_zero_iff.1 (by omega)
    obtain rfl : m = [] := List.length_eq_zero_iff.1 hn
    obtain ⟨_, h⟩ := ho
    rcases h with ⟨rfl, _⟩ | ⟨g, cap, cur, rfl, hg, hh, h1, h2, h3, h4⟩
    · exact EvsNew.nil _ _ _
    · exact ⟨_, cap, g, fun _ => none, fun _ => 0, fun _ => 0, fun _ => 0, rfl, ⟨fun q => absurd rfl q, fun q => absurd rfl q, by simp, fun i hi => by simp at hi, fun i hi => by simp at hi, fun i hi => by simp at hi, fun i hi => by simp at hi, fun i hi => by simp at hi⟩, fun q => absurd rfl q, (fun q => by cases q), fun i hi => by simp at hi⟩
  · obtain ⟨g, cap, e, h1, h2, h3, h4, h5, h6⟩ := owns_some ho (by omega)
    obtain ⟨pb, pc, pg, po, h, hB⟩ := evs_of (base := some ⟨g, 0, none⟩) (g := g) hm (fun _ => rfl) (fun _ => h2) (by omega) (fun k x hx i hi => by have hk := (List.getElem?_eq_some_iff.1 hx).1; rw [h5 _ (by omega)]; exact evsC_get m k i x hx hi) hr (fun j _ => h6 j)
    exact ⟨_, cap, g, pb, pc, pg, po, by rw [e, hml], h, fun _ => h1, (fun q => by cases q), hB⟩
end Go.Proofs.Ytgbfippcnmpgfaa

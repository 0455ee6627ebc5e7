
/- Layer 6: pairs in memory, and what the reference's functions answer, as functions on lists. No function of the program. -/

import Derived.Test.YtcphajjonecmbaaDoorRows

import Derived.WalkKit

import Derived.WalkSpells

import Derived.WalkLawsBesides

import Derived.Deep.AppendLies

import Derived.Laws.MakeOwn

import Derived.Deep.QuietTactic

import Derived.BigQuiet

namespace Go.Proofs.YtcphajjonecmbaaDoor

open Go.RowKit

abbrev PL := List (Int × Int)
def keyAt (ps : PL) (i : Nat) : Int := (ps.getD i (0, 0)).1
def valAt (ps : PL) (i : Nat) : Int := (ps.getD i (0, 0)).2

/-- The pairs lie in memory. -/
structure PairsAt (w : World) (base : Option Addr) (b o : Nat) (ps : PL) : Prop where
  base : ps.length ≠ 0 → base = some ⟨b, o, none⟩
  lt : ps.length ≠ 0 → b < w.heap.size
  cells : ∀ i, i < ps.length → w.cell? ⟨b, o + i * 2, none⟩ = some (.int .i64 (keyAt ps i)) ∧ w.cell? ⟨b, o + i * 2 + 1, none⟩ = some (.int .i64 (valAt ps i))
  len : ps.length ≤ maxLen
  thaw : ∀ i, i < ps.length * 2 → w.frozen? ⟨b, o + i, none⟩ = false
theorem PairsAt.below {w w' : World} {base : Option Addr} {b o : Nat} {ps : PL} (h : PairsAt w base b o ps) (hb : Below w.heap.size w w') : PairsAt w' base b o ps := by
  refine ⟨h.base, fun hn => Nat.lt_of_lt_of_le (h.lt hn) hb.size, fun i hi => ?_, h.len, fun i hi => (hb.frozen (p := ⟨b, o + i, none⟩) (h.lt (by omega))).trans (h.thaw i hi)⟩
  have hl := h.lt (by omega)
  exact ⟨(hb.cell (p := ⟨b, o + i * 2, none⟩) hl).trans (h.cells i hi).1, (hb.cell (p := ⟨b, o + i * 2 + 1, none⟩) hl).trans (h.cells i hi).2⟩

/-- The cells of a list of pairs. -/
def pairCells : PL → List Value
  | [] => []
  | p :: t => .int .i64 p.1 :: .int .i64 p.2 :: pairCells t
theorem pairCells_append : ∀ a b : PL, pairCells (a ++ b) = pairCells a ++ pairCells b
  | [], _ => rfl
  | p :: t, b => by simp [pairCells, pairCells_append t b]
theorem pairCells_length : ∀ ps : PL, (pairCells ps).length = ps.length * 2
  | [] => rfl
  | p :: t => by simp [pairCells, pairCells_length t]; omega
theorem pairCells_get : ∀ (ps : PL) (i : Nat), i < ps.length → (pairCells ps)[i * 2]? = some (.int .i64 (keyAt ps i)) ∧ (pairCells ps)[i * 2 + 1]? = some (.int .i64 (valAt ps i))
  | [], i, h => by simp at h
  | p :: t, 0, _ => by simp [pairCells, keyAt, valAt]
  | p :: t, i + 1, h => by
    obtain ⟨a, b⟩ := pairCells_get t i (by simpa using h)
    have e : (i + 1) * 2 = i * 2 + 1 + 1 := by omega
    rw [e]
    refine ⟨?_, ?_⟩
    · simpa [pairCells, keyAt] using a
    · simpa [pairCells, valAt] using b

theorem heap_alloc_at (w : World) (o : Obj) (b : Nat) (h : b = w.heap.size) : (w.alloc o).heap[b]? = some o := by subst h; exact heap_alloc_new w o
theorem owns_ge {w : World} {B : Nat} {e : TypeId} {sz : Nat} {v : Value} {n : Nat} {xs : List Value} (h : w.ownsRow B e sz v n xs) : ∀ b, v.ownBlock = some b → B ≤ b := by
  intro b hb
  obtain ⟨_, h⟩ := h
  rcases h with ⟨rfl, _⟩ | ⟨g, cap, cur, rfl, hg, _⟩
  · cases hb
  · simp [Value.ownBlock] at hb; omega

/-- An owned row of pairs is a slice of pairs. -/
theorem pairs_of_owns {w : World} {B : Nat} {e : TypeId} {v : Value} {ps : PL} (h : w.ownsRow B e 2 v ps.length (pairCells ps)) (hn : ps.length ≤ maxLen) :
    ∃ base cap g, v = .slice base ps.length cap ∧ (ps.length ≠ 0 → B ≤ g) ∧ (base = none → ps.length = 0 ∧ cap = 0) ∧ PairsAt w base g 0 ps := by
  obtain ⟨_, h⟩ := h
  rcases h with ⟨rfl, h0⟩ | ⟨g, cap, cur, rfl, hg, hh, h1, h2, h3, h4⟩
  · exact ⟨none, 0, 0, by rw [h0], fun h => absurd h0 h, fun _ => ⟨h0, rfl⟩, fun h => absurd h0 h, fun h => absurd h0 h, fun i hi => by omega, hn, fun i hi => by omega⟩
  · refine ⟨_, _, g, rfl, fun _ => hg, (fun h => by cases h), fun _ => rfl, fun _ => (Array.getElem?_eq_some_iff.1 hh).1, fun i hi => ?_, hn, fun i hi => by simp [World.frozen?, hh]⟩
    have hc : ∀ j, j < ps.length * 2 → w.cell? ⟨g, j, none⟩ = (pairCells ps)[j]? := by
      intro j hj
      rw [← h4, List.getElem?_take, if_pos hj]
      simp [World.cell?, hh]
    obtain ⟨a, b⟩ := pairCells_get ps i hi
    exact ⟨by rw [Nat.zero_add, hc _ (by omega)]; exact a, by rw [Nat.zero_add, hc _ (by omega)]; exact b⟩

/-- Do the keys of the first j rise strictly? -/
def rises (ps : PL) : Nat → Bool
  | 0 => true
  | 1 => true
  | j + 2 => rises ps (j + 1) && decide (keyAt ps j < keyAt ps (j + 1))
theorem rises_not {ps : PL} : ∀ {n j : Nat}, j + 1 < n → ¬ keyAt ps j < keyAt ps (j + 1) → rises ps n = false
  | 0, j, h, _ => by omega
  | 1, j, h, _ => by omega
  | n + 2, j, h, hk => by
    by_cases e : j = n
    · subst e; simp [rises, hk]
    · simp [rises, rises_not (n := n + 1) (j := j) (by omega) hk]
/-- The error of a list that is handed in as a map. -/
def ckErr (ps : PL) : Int := if rises ps ps.length then 0 else 11

/-- The error of a kind. -/
def kdErr (k : Int) : Int := if k < 1 ∨ 9 < k then 5 else 0

/-- look: the key's value among the first j, the first one that has it. -/
def lookN (ps : PL) (key : Int) : Nat → Option Int
  | 0 => none
  | j + 1 => match lookN ps key j with
    | some v => some v
    | none => if keyAt ps j = key then some (valAt ps j) else none
theorem lookN_stays {ps : PL} {key v : Int} {j : Nat} (h : lookN ps key j = some v) : ∀ m, lookN ps key (j + m) = some v
  | 0 => h
  | m + 1 => by
    show (match lookN ps key (j + m) with | some v => some v | none => if keyAt ps (j + m) = key then some (valAt ps (j + m)) else none) = some v
    rw [lookN_stays h m]
theorem lookN_at {ps : PL} {key : Int} {j n : Nat} (h0 : lookN ps key j = none) (h : keyAt ps j = key) (hn : j < n) : lookN ps key n = some (valAt ps j) := by
  have e : lookN ps key (j + 1) = some (valAt ps j) := by simp [lookN, h0, h]
  have := lookN_stays e (n - (j + 1))
  rw [show j + 1 + (n - (j + 1)) = n by omega] at this
  exact this
theorem lookN_next {ps : PL} {key : Int} {j : Nat} (h0 : lookN ps key j = none) (h : ¬ keyAt ps j = key) : lookN ps key (j + 1) = none := by simp [lookN, h0, h]

/-- Inside: those of the first j with lo <= key <= hi. -/
def insideN (ps : PL) (lo hi : Int) : Nat → PL
  | 0 => []
  | j + 1 => if lo ≤ keyAt ps j ∧ keyAt ps j ≤ hi then insideN ps lo hi j ++ [(keyAt ps j, valAt ps j)] else insideN ps lo hi j
theorem insideN_le (ps : PL) (lo hi : Int) : ∀ j, (insideN ps lo hi j).length ≤ j
  | 0 => Nat.le_refl _
  | j + 1 => by
    have := insideN_le ps lo hi j
    simp only [insideN]
    split
    · simp; omega
    · omega

/-- with, behind j pairs: the list so far, and whether the key's pair stands. -/
def withN (ps : PL) (key val : Int) (drop : Bool) : Nat → PL × Bool
  | 0 => ([], drop)
  | j + 1 =>
    let s := withN ps key val drop j
    let t : PL × Bool := if s.2 = false ∧ key ≤ keyAt ps j then (s.1 ++ [(key, val)], true) else s
    if keyAt ps j = key then t else (t.1 ++ [(keyAt ps j, valAt ps j)], t.2)
def withL (ps : PL) (key val : Int) (drop : Bool) : PL :=
  let s := withN ps key val drop ps.length
  if s.2 then s.1 else s.1 ++ [(key, val)]
theorem withN_le (ps : PL) (key val : Int) (drop : Bool) : ∀ j, (withN ps key val drop j).1.length ≤ j + (if (withN ps key val drop j).2 = drop then 0 else 1) ∧ (drop = true → (withN ps key val drop j).2 = true)
  | 0 => by simp [withN]
  | j + 1 => by
    obtain ⟨h1, h2⟩ := withN_le ps key val drop j
    obtain ⟨l, d, hs⟩ : ∃ l d, withN ps key val drop j = (l, d) := ⟨_, _, rfl⟩
    simp only [withN, hs] at h1 h2 ⊢
    by_cases q1 : d = false ∧ key ≤ keyAt ps j
    · rw [if_pos q1]
      obtain ⟨rfl, _⟩ := q1
      cases drop
      · by_cases q2 : keyAt ps j = key
        · simp [q2] at h1 ⊢; omega
        · simp [q2] at h1 ⊢; omega
      · simp at h2
    · rw [if_neg q1]
      by_cases q2 : keyAt ps j = key
      · simp only [q2, if_true] at h1 ⊢
        refine ⟨?_, h2⟩
        omega
      · simp only [if_neg q2, List.length_append, List.length_cons, List.length_nil] at h1 ⊢
        refine ⟨?_, h2⟩
        omega
theorem withL_le (ps : PL) (key val : Int) (drop : Bool) : (withL ps key val drop).length ≤ ps.length + 1 := by
  obtain ⟨h1, _⟩ := withN_le ps key val drop ps.length
  unfold withL
  simp only
  split
  · split at h1 <;> omega
  · rename_i h
    have hd : (withN ps key val drop ps.length).2 = false := by simpa using h
    cases drop
    · rw [hd] at h1; simp at h1; simp; omega
    · have := (withN_le ps key val true ps.length).2 rfl
      rw [hd] at this; cases this

theorem pair_eta (ps : PL) (i : Nat) (hi : i < ps.length) : ps[i]? = some (keyAt ps i, valAt ps i) := by
  simp [keyAt, valAt, List.getD_eq_getElem?_getD, List.getElem?_eq_getElem hi]
/-- Two lists that are the same at every place. -/
theorem pl_ext {a b : PL} (hl : a.length = b.length) (h : ∀ i, i < a.length → keyAt a i = keyAt b i ∧ valAt a i = valAt b i) : a = b := by
  apply List.ext_getElem?
  intro i
  by_cases hi : i < a.length
  · rw [pair_eta a i hi, pair_eta b i (by omega), (h i hi).1, (h i hi).2]
  · rw [List.getElem?_eq_none (by omega), List.getElem?_eq_none (by omega)]
end Go.Proofs.YtcphajjonecmbaaDoor


/- Layer 28, pure: the lines of a text, and what they say. -/

import Derived.Test.YtknlapipkglnjaaGreatDoorHBk

namespace Go.Proofs.YtknlapipkglnjaaGreatDoor

open Go.RowKit

/-- The lines of a text. -/
def linesF : Nat → List UInt8 → List (List UInt8)
  | 0, _ => []
  | n + 1, t => if t = [] then [] else t.takeWhile (· != 10) :: linesF n (t.drop ((t.takeWhile (· != 10)).length + 1))
def linesL (t : List UInt8) : List (List UInt8) := linesF t.length t
theorem linesF_more : ∀ (n m : Nat) (t : List UInt8), t.length ≤ n → t.length ≤ m → linesF n t = linesF m t
  | 0, m, t, h, _ => by
    have ht : t = [] := List.length_eq_zero_iff.1 (by omega)
    subst ht
    cases m <;> simp [linesF]
  | n + 1, 0, t, _, h => by
    have ht : t = [] := List.length_eq_zero_iff.1 (by omega)
    subst ht
    simp [linesF]
  | n + 1, m + 1, t, h1, h2 => by
    unfold linesF
    by_cases ht : t = []
    · rw [if_pos ht, if_pos ht]
    · rw [if_neg ht, if_neg ht]
      have hp : 0 < t.length := List.length_pos_iff.2 ht
      rw [linesF_more n m _ (by simp; omega) (by simp; omega)]
theorem lines_nil : linesL [] = [] := rfl
theorem lines_cons {t : List UInt8} (h : t ≠ []) : linesL t = t.takeWhile (· != 10) :: linesL (t.drop ((t.takeWhile (· != 10)).length + 1)) := by
  have hp : 0 < t.length := List.length_pos_iff.2 h
  unfold linesL
  obtain ⟨n, hn⟩ : ∃ n, t.length = n + 1 := ⟨t.length - 1, by omega⟩
  rw [hn]
  conv => lhs; unfold linesF
  rw [if_neg h]
  rw [linesF_more n _ _ (by simp; omega) (Nat.le_refl _)]
theorem lines_end {a : List UInt8} (ha : ∀ c ∈ a, c ≠ 10) (hn : a ≠ []) : linesL a = [a] := by
  have e : a.takeWhile (· != 10) = a := by have := List.takeWhile_append_of_pos (p := fun c : UInt8 => c != 10) (l₁ := a) (l₂ := []) (by simpa using ha); simpa using this
  rw [lines_cons hn, e, List.drop_eq_nil_of_le (by omega)]
  rfl
theorem lines_app {a b : List UInt8} (ha : ∀ c ∈ a, c ≠ 10) : linesL (a ++ 10 :: b) = a :: linesL b := by
  have e : (a ++ 10 :: b).takeWhile (· != 10) = a := by
    rw [List.takeWhile_append_of_pos (by simpa using ha)]
    simp
  rw [lines_cons (by simp), e]
  rw [show (a ++ 10 :: b).drop (a.length + 1) = b by rw [← List.drop_drop, List.drop_left]; rfl]
/-- What a text has said so far. -/
structure GD where
  start : List (Int × Int)
  scripts : List (List OpD)
  picks : List Int
  part : Nat
def startW : List UInt8 := [115, 116, 97, 114, 116]
def threadW : List UInt8 := [116, 104, 114, 101, 97, 100]
def pickW : List UInt8 := [112, 105, 99, 107]
open Classical in
noncomputable def opO (ws : List (List UInt8)) : Option OpD := if h : ∃ k V, OpIs ws k V then some (fillOp h.choose h.choose_spec.choose) else none
theorem opO_some {ws : List (List UInt8)} {k : Nat} {V : List Int} (h : OpIs ws k V) : opO ws = some (fillOp k V) := by
  have hx : ∃ k V, OpIs ws k V := ⟨k, V, h⟩
  unfold opO
  rw [dif_pos hx]
  obtain ⟨e1, e2⟩ := hx.choose_spec.choose_spec.one h
  rw [e2, e1]
theorem opO_none {ws : List (List UInt8)} (h : ∀ k V, ¬ OpIs ws k V) : opO ws = none := by
  unfold opO
  rw [dif_neg (fun ⟨k, V, q⟩ => h k V q)]
def startO (g : GD) : List (List UInt8) → Option GD
  | [a, b] => match numOf a, numOf b with
    | some k, some v => some { g with start := g.start ++ [(k, v)] }
    | _, _ => none
  | _ => none
def addP (g : GD) (p n : Int) : Option GD := if 0 ≤ n ∧ (g.picks.length : Int) + n ≤ 1000000 then some { g with picks := g.picks ++ List.replicate n.toNat p, part := 2 } else none
def pickO (g : GD) : List (List UInt8) → Option GD
  | [a] => match numOf a with
    | some p => addP g p 1
    | none => none
  | [a, b] => match numOf a, numOf b with
    | some p, some n => addP g p n
    | _, _ => none
  | _ => none
def addO (g : GD) (o : OpD) : GD := { g with scripts := g.scripts.dropLast ++ [g.scripts.getLastD [] ++ [o]] }
/-- A line's words, read. -/
noncomputable def stepG (g : GD) : List (List UInt8) → Option GD
  | [] => some g
  | x :: r =>
    if x.head? = some 35 then some g
    else if x = startW then (if g.part = 0 then startO g r else none)
    else if x = threadW then (if g.part ≤ 1 ∧ r = [] then some { g with scripts := g.scripts ++ [([] : List OpD)], part := 1 } else none)
    else if x = pickW then pickO g r
    else if g.part = 1 then (opO (x :: r)).map (addO g) else none
/-- The lines read, from that number on: the game, or the number of the wrong one. -/
noncomputable def parG : List (List UInt8) → Nat → GD → GD ⊕ Nat
  | [], _, g => .inl g
  | l :: r, i, g => match stepG g (wordsL l) with
    | some g' => parG r (i + 1) g'
    | none => .inr (i + 1)
def gd0 : GD := ⟨[], [], [], 0⟩
noncomputable def parseG (t : List UInt8) : GD ⊕ Nat := parG (linesL t) 0 gd0
/-- What holds of all that is read. -/
structure GOk (g : GD) : Prop where
  picks : g.picks.length ≤ 1000000
  part : g.part ≤ 2
  thr : g.part = 1 → g.scripts ≠ []
theorem gok0 : GOk gd0 := ⟨by simp [gd0], by simp [gd0], by simp [gd0]⟩
theorem addP_ok {g g' : GD} {p n : Int} (h : addP g p n = some g') : GOk g' := by
  unfold addP at h
  split at h
  · rename_i q
    injection h with h
    subst h
    exact ⟨by simp; omega, by simp, by simp⟩
  · cases h
theorem stepG_ok {g g' : GD} {ws : List (List UInt8)} (h : GOk g) (hs : stepG g ws = some g') : GOk g' := by
  cases ws with
  | nil => injection hs with hs; subst hs; exact h
  | cons x r =>
    rw [stepG] at hs
    split at hs
    · injection hs with hs; subst hs; exact h
    · split at hs
      · split at hs
        · rename_i hp
          unfold startO at hs
          split at hs
          · split at hs
            · injection hs with hs; subst hs; exact ⟨h.picks, h.part, h.thr⟩
            · cases hs
          · cases hs
        · cases hs
      · split at hs
        · split at hs
          · injection hs with hs; subst hs; exact ⟨h.picks, by simp, by simp⟩
          · cases hs
        · split at hs
          · unfold pickO at hs
            split at hs
            · split at hs
              · exact addP_ok hs
              · cases hs
            · split at hs
              · exact addP_ok hs
              · cases hs
            · cases hs
          · split at hs
            · obtain ⟨o, -, rfl⟩ := Option.map_eq_some_iff.1 hs
              exact ⟨h.picks, h.part, fun _ => by simp [addO]⟩
            · cases hs
theorem parG_step {l : List UInt8} {r : List (List UInt8)} {i : Nat} {g g' : GD} (h : stepG g (wordsL l) = some g') : parG (l :: r) i g = parG r (i + 1) g' := by
  unfold parG
  rw [h]
  cases r <;> rfl
theorem parG_bad {l : List UInt8} {r : List (List UInt8)} {i : Nat} {g : GD} (h : stepG g (wordsL l) = none) : parG (l :: r) i g = .inr (i + 1) := by
  unfold parG
  rw [h]
end Go.Proofs.YtknlapipkglnjaaGreatDoor

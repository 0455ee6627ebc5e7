
/- Layer 28, pure: a line with a line end in it is no operation. -/

import Derived.Test.YtknlapipkglnjaaGreatDoorHOpP

namespace Go.Proofs.YtknlapipkglnjaaGreatDoor

open Go.RowKit

theorem sp_mem (l : List UInt8) : ∀ (f i : Nat) (st : Option Nat) (acc : List (Nat × Nat)), f = l.length - i → i ≤ l.length → (∀ a, st = some a → a ≤ i) →
    (∀ x ∈ acc, x ∈ spW l (spB l f i st acc)) ∧ (∀ p, ((∃ a, st = some a ∧ a ≤ p ∧ p < i) ∨ (i ≤ p ∧ p < l.length ∧ blkB (l.getD p 0) = false)) → ∃ x ∈ spW l (spB l f i st acc), x.1 ≤ p ∧ p < x.2) := by
  intro f
  induction f with
  | zero =>
    intro i st acc hf hi hs
    have hil : i = l.length := by omega
    subst hil
    unfold spB
    cases st with
    | none =>
      refine ⟨fun x hx => hx, ?_⟩
      rintro p (⟨a, h, -⟩ | ⟨h1, h2, -⟩)
      · cases h
      · omega
    | some a =>
      refine ⟨fun x hx => List.mem_append_left _ hx, ?_⟩
      rintro p (⟨b, h, h1, h2⟩ | ⟨h1, h2, -⟩)
      · cases h
        exact ⟨(a, l.length), List.mem_append_right _ (by simp), h1, h2⟩
      · omega
  | succ f ih =>
    intro i st acc hf hi hs
    have hil : i < l.length := by omega
    unfold spB
    rw [if_pos hil]
    by_cases hb : blkB (l.getD i 0) = true
    · rw [if_pos hb]
      cases st with
      | none =>
        obtain ⟨q1, q2⟩ := ih (i + 1) none acc (by omega) hil (fun a h => by cases h)
        refine ⟨q1, ?_⟩
        rintro p (⟨a, h, -⟩ | ⟨h1, h2, h3⟩)
        · cases h
        · by_cases e : p = i
          · rw [e, hb] at h3; cases h3
          · exact q2 p (Or.inr ⟨by omega, h2, h3⟩)
      | some a =>
        obtain ⟨q1, q2⟩ := ih (i + 1) none (acc ++ [(a, i)]) (by omega) hil (fun a h => by cases h)
        refine ⟨fun x hx => q1 x (List.mem_append_left _ hx), ?_⟩
        rintro p (⟨b, h, h1, h2⟩ | ⟨h1, h2, h3⟩)
        · cases h
          exact ⟨(a, i), q1 _ (by simp), h1, h2⟩
        · by_cases e : p = i
          · rw [e, hb] at h3; cases h3
          · exact q2 p (Or.inr ⟨by omega, h2, h3⟩)
    · rw [if_neg hb]
      have hle : st.getD i ≤ i := by
        cases st with
        | none => exact Nat.le_refl _
        | some a => exact hs a rfl
      obtain ⟨q1, q2⟩ := ih (i + 1) (some (st.getD i)) acc (by omega) hil (fun a h => by cases h; omega)
      refine ⟨q1, ?_⟩
      rintro p (⟨b, h, h1, h2⟩ | ⟨h1, h2, h3⟩)
      · subst h
        exact q2 p (Or.inl ⟨b, rfl, h1, by omega⟩)
      · by_cases e : p = i
        · subst e
          exact q2 p (Or.inl ⟨_, rfl, hle, by omega⟩)
        · exact q2 p (Or.inr ⟨by omega, h2, h3⟩)
theorem word_has (l : List UInt8) {p : Nat} (hp : p < l.length) (hb : blkB (l.getD p 0) = false) : ∃ x ∈ wordsL l, l.getD p 0 ∈ x := by
  obtain ⟨x, hx, h1, h2⟩ := (sp_mem l l.length 0 none [] (by omega) (by omega) (fun a h => by cases h)).2 p (Or.inr ⟨by omega, hp, hb⟩)
  refine ⟨cutL l x, List.mem_map.2 ⟨x, hx, rfl⟩, List.mem_iff_getElem?.2 ⟨p - x.1, ?_⟩⟩
  unfold cutL
  rw [List.getElem?_take, if_pos (by omega), List.getElem?_drop, show x.1 + (p - x.1) = p by omega, List.getD_eq_getElem?_getD, List.getElem?_eq_getElem hp]
  rfl
theorem word_nl (k : Nat) (h1 : 1 ≤ k) (h9 : k ≤ 9) : (10 : UInt8) ∉ wordL k := by
  rcases (by omega : k = 1 ∨ k = 2 ∨ k = 3 ∨ k = 4 ∨ k = 5 ∨ k = 6 ∨ k = 7 ∨ k = 8 ∨ k = 9) with rfl | rfl | rfl | rfl | rfl | rfl | rfl | rfl | rfl <;> decide
theorem itoa_nl (v : Int) : (10 : UInt8) ∉ Lib.itoa v := by
  intro h
  unfold Lib.itoa at h
  have e : (10 : UInt8).toNat = 10 := rfl
  split at h
  · rcases List.mem_cons.1 h with h | h
    · revert h; decide
    · have := dec_all _ _ h; omega
  · have := dec_all _ _ h; omega
theorem no_nl {l : List UInt8} (h : ∃ p, p < l.length ∧ l.getD p 0 = 10) (k : Nat) (V : List Int) : ¬ OpIs (wordsL l) k V := by
  intro q
  obtain ⟨p, hp, he⟩ := h
  obtain ⟨x, hx, hm⟩ := word_has l hp (by rw [he]; decide)
  rw [he] at hm
  obtain ⟨i, hi⟩ := List.mem_iff_getElem?.1 hx
  have hil : i < (wordsL l).length := (List.getElem?_eq_some_iff.1 hi).1
  cases i with
  | zero =>
    have e := q.hd
    rw [List.head?_eq_getElem?, hi] at e
    rw [Option.some.inj e] at hm
    exact word_nl k q.lo q.hi hm
  | succ i =>
    have e := q.nums i (by have := q.len; have := q.vs; omega)
    rw [List.getD_eq_getElem?_getD, hi] at e
    obtain ⟨-, e⟩ := (numOf_iff _ _).1 e
    have e : Lib.itoa (V.getD i 0) = x := e
    rw [← e] at hm
    exact itoa_nl _ hm
theorem OpOut.form {ws : List (List UInt8)} {e : Ending} (h : OpOut ws e) : ∃ (a b c d : Int) (t : Bool), e = .returned (.tuple #[.agg #[.int .i64 a, .int .i64 b, .int .i64 c, .int .i64 d], .bool t]) := by
  rcases h with ⟨k, V, -, rfl⟩ | ⟨-, rfl⟩
  · exact ⟨_, _, _, _, _, rfl⟩
  · exact ⟨_, _, _, _, _, rfl⟩
end Go.Proofs.YtknlapipkglnjaaGreatDoor

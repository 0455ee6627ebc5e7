
/- Layer 28, pure: a line's words by its letters; an operation's line, read again. -/

import Derived.Test.YtknlapipkglnjaaGreatDoorHPl

namespace Go.Proofs.YtknlapipkglnjaaGreatDoor

open Go.RowKit

/-- The words by the letters, the open one so far. -/
def wz : List UInt8 → List UInt8 → List (List UInt8)
  | [], cur => if cur = [] then [] else [cur]
  | c :: r, cur => if blkB c then (if cur = [] then wz r [] else cur :: wz r []) else wz r (cur ++ [c])
def stW (l : List UInt8) (pos : Nat) : Option Nat → List UInt8
  | none => []
  | some a => cutL l (a, pos)
theorem cutL_snoc (l : List UInt8) {a pos : Nat} (ha : a ≤ pos) (hp : pos < l.length) : cutL l (a, pos + 1) = cutL l (a, pos) ++ [l.getD pos 0] := by
  unfold cutL
  rw [show pos + 1 - a = (pos - a) + 1 by omega, List.take_add_one, List.getElem?_drop, show a + (pos - a) = pos by omega, List.getD_eq_getElem?_getD, List.getElem?_eq_getElem hp]
  rfl
theorem cutL_ne (l : List UInt8) {a pos : Nat} (ha : a < pos) (hp : pos ≤ l.length) : cutL l (a, pos) ≠ [] := by
  intro h
  have := congrArg List.length h
  simp [cutL] at this
  omega
theorem words_wz (l : List UInt8) : ∀ (f pos : Nat) (st : Option Nat) (acc : List (Nat × Nat)), f + pos = l.length → (∀ a, st = some a → a < pos) →
    (spW l (spB l f pos st acc)).map (cutL l) = acc.map (cutL l) ++ wz (l.drop pos) (stW l pos st)
  | 0, pos, st, acc, hf, hs => by
    rw [List.drop_eq_nil_of_le (by omega)]
    cases st with
    | none => simp [spB, spW, wz, stW]
    | some a =>
      have hn := cutL_ne l (hs a rfl) (by omega : pos ≤ l.length)
      have e : l.length = pos := by omega
      simp [spB, spW, wz, stW, e, hn]
  | f + 1, pos, st, acc, hf, hs => by
    have hp : pos < l.length := by omega
    have hd : l.drop pos = l.getD pos 0 :: l.drop (pos + 1) := by
      rw [List.drop_eq_getElem_cons hp, List.getD_eq_getElem?_getD, List.getElem?_eq_getElem hp]
      rfl
    unfold spB
    rw [if_pos hp, hd]
    by_cases hb : blkB (l.getD pos 0) = true
    · rw [if_pos hb]
      cases st with
      | none =>
        show (spW l (spB l f (pos + 1) none acc)).map (cutL l) = _
        rw [words_wz l f (pos + 1) none acc (by omega) (fun a h => by cases h)]
        simp only [wz, if_pos hb, stW, if_true]
      | some a =>
        show (spW l (spB l f (pos + 1) none (acc ++ [(a, pos)]))).map (cutL l) = _
        rw [words_wz l f (pos + 1) none _ (by omega) (fun a h => by cases h)]
        have hn := cutL_ne l (hs a rfl) (by omega : pos ≤ l.length)
        have hn' : stW l pos (some a) ≠ [] := hn
        simp only [wz, if_pos hb, List.map_append, List.map_cons, List.map_nil, List.append_assoc, List.singleton_append]
        rw [if_neg hn']
        rfl
    · rw [if_neg hb]
      cases st with
      | none =>
        show (spW l (spB l f (pos + 1) (some pos) acc)).map (cutL l) = _
        rw [words_wz l f (pos + 1) (some pos) acc (by omega) (fun a h => by cases h; omega)]
        simp only [wz, stW]
        rw [if_neg hb, cutL_snoc l (Nat.le_refl pos) hp]
        simp [cutL]
      | some a =>
        show (spW l (spB l f (pos + 1) (some a) acc)).map (cutL l) = _
        have ha := hs a rfl
        rw [words_wz l f (pos + 1) (some a) acc (by omega) (fun b h => by cases h; omega)]
        simp only [wz, stW]
        rw [if_neg hb, cutL_snoc l (by omega) hp]
theorem words_eq (l : List UInt8) : wordsL l = wz l [] := by
  unfold wordsL
  rw [words_wz l l.length 0 none [] (by omega) (fun a h => by cases h)]
  simp [stW]
theorem wz_app (c : UInt8) (hc : blkB c = true) (b : List UInt8) : ∀ (a cur : List UInt8), wz (a ++ c :: b) cur = wz a cur ++ wz b []
  | [], cur => by
    simp only [List.nil_append, wz, if_pos hc]
    split <;> simp
  | d :: a, cur => by
    simp only [List.cons_append, wz]
    split
    · split
      · rw [wz_app c hc b a]
      · rw [wz_app c hc b a, List.cons_append]
    · rw [wz_app c hc b a]
theorem wz_one : ∀ (x cur : List UInt8), (∀ c ∈ x, blkB c = false) → cur ++ x ≠ [] → wz x cur = [cur ++ x]
  | [], cur, _, h => by simp at h; simp [wz, h]
  | c :: x, cur, hx, h => by
    have hc := hx c (by simp)
    simp only [wz]
    rw [if_neg (by rw [hc]; simp), wz_one x (cur ++ [c]) (fun d hd => hx d (by simp [hd])) (by simp)]
    simp
theorem words_one {x : List UInt8} (h : ∀ c ∈ x, blkB c = false) (hn : x ≠ []) : wordsL x = [x] := by
  rw [words_eq, wz_one x [] h (by simpa using hn)]
  rfl
theorem words_app {c : UInt8} (hc : blkB c = true) (a b : List UInt8) : wordsL (a ++ c :: b) = wordsL a ++ wordsL b := by
  rw [words_eq, words_eq, words_eq, wz_app c hc]
def WordOk (x : List UInt8) : Prop := x ≠ [] ∧ ∀ c ∈ x, blkB c = false
theorem words_blk : ∀ (t : List (List UInt8)) (x : List UInt8), WordOk x → (∀ y ∈ t, WordOk y) → wordsL (x ++ blkL t) = x :: t
  | [], x, hx, _ => by rw [blkL, List.append_nil]; exact words_one hx.2 hx.1
  | y :: t, x, hx, ht => by
    rw [blkL, List.cons_append, words_app (by decide), words_one hx.2 hx.1, words_blk t y (ht y (by simp)) (fun z hz => ht z (by simp [hz]))]
    rfl
theorem say_blk : ∀ V : List Int, sayL V = blkL (V.map Lib.itoa)
  | [] => rfl
  | v :: V => by simp [sayL, blkL, say_blk V]
theorem word_itoa (v : Int) : WordOk (Lib.itoa v) := by
  have hd : ∀ u : Nat, ∀ c ∈ Lib.decDigits u, blkB c = false := fun u c hc => by
    have h := dec_all u c hc
    rw [← blk_of]
    simp [blkR]
    omega
  unfold Lib.itoa
  split
  · refine ⟨by simp, fun c hc => ?_⟩
    rcases List.mem_cons.1 hc with rfl | hc
    · decide
    · exact hd _ c hc
  · exact ⟨dec_ne _, hd _⟩
theorem word_kind (k : Nat) (h1 : 1 ≤ k) (h9 : k ≤ 9) : WordOk (wordL k) := by
  rcases (by omega : k = 1 ∨ k = 2 ∨ k = 3 ∨ k = 4 ∨ k = 5 ∨ k = 6 ∨ k = 7 ∨ k = 8 ∨ k = 9) with rfl | rfl | rfl | rfl | rfl | rfl | rfl | rfl | rfl <;> exact ⟨by decide, by decide⟩
/-- An operation's line, read again. -/
theorem op_words (k : Nat) (o : OpD) (hk : o.kind = k) (h1 : 1 ≤ k) (h9 : k ≤ 9) : wordsL (opL o) = wordL k :: (numsL o).map Lib.itoa := by
  unfold opL
  rw [if_pos (by omega), say_blk, hk]
  exact words_blk _ _ (word_kind k h1 h9) (fun y hy => by obtain ⟨v, -, rfl⟩ := List.mem_map.1 hy; exact word_itoa v)
theorem op_back (k : Nat) (o : OpD) (ho : OpIn o) (hk : o.kind = k) (h1 : 1 ≤ k) (h9 : k ≤ 9) : OpIs (wordsL (opL o)) k (numsL o) ∧ fillOp k (numsL o) = plainD o := by
  have hl : (numsL o).length = (fldL k).length := by rw [nums_fld k o hk h1 h9, List.length_map]
  have hin : ∀ v ∈ numsL o, In64 v := by
    obtain ⟨_, a, b, c⟩ := ho
    intro v hv
    rw [nums_fld k o hk h1 h9] at hv
    obtain ⟨f, -, rfl⟩ := List.mem_map.1 hv
    unfold OpD.at
    split
    · exact a
    · split
      · exact b
      · exact c
  refine ⟨⟨h1, h9, by rw [op_words k o hk h1 h9]; rfl, by rw [op_words k o hk h1 h9]; simp [hl], hl, fun j hj => ?_⟩, ?_⟩
  · rw [op_words k o hk h1 h9, List.getD_cons_succ, List.getD_eq_getElem?_getD, List.getElem?_map, List.getD_eq_getElem?_getD, List.getElem?_eq_getElem hj]
    exact (numOf_iff _ _).2 ⟨hin _ (List.getElem_mem hj), rfl⟩
  · obtain ⟨kd, ky, vl, hh⟩ := o
    obtain rfl : kd = k := hk
    rcases (by omega : k = 1 ∨ k = 2 ∨ k = 3 ∨ k = 4 ∨ k = 5 ∨ k = 6 ∨ k = 7 ∨ k = 8 ∨ k = 9) with rfl | rfl | rfl | rfl | rfl | rfl | rfl | rfl | rfl <;> simp [fillOp, numsL, plainD]
end Go.Proofs.YtknlapipkglnjaaGreatDoor

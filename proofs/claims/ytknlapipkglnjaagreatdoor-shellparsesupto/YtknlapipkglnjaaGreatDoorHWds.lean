
/- Layer 28, pure: a line's words: by runes as by bytes. -/

import Derived.Test.YtknlapipkglnjaaGreatDoorHPure

import Derived.Lib.FieldsP

import Derived.Lib.TrimUEq

namespace Go.Proofs.YtknlapipkglnjaaGreatDoor

open Go.RowKit

def blkB (c : UInt8) : Bool := c == 32 || c == 9 || c == 13
def blkR (r : Nat) : Bool := r == 32 || r == 9 || r == 13
theorem blk_of (c : UInt8) : blkR c.toNat = blkB c := by
  unfold blkR blkB
  have h : ∀ k : UInt8, (c.toNat == k.toNat) = (c == k) := fun k => by
    by_cases e : c = k
    · simp [e]
    · rw [beq_eq_false_iff_ne.2 e, beq_eq_false_iff_ne.2 (fun z => e (UInt8.toNat_inj.1 z))]
  rw [← h 32, ← h 9, ← h 13]
  rfl
theorem blkR_high {r : Nat} (h : 128 ≤ r) : blkR r = false := by
  simp [blkR]; omega
theorem blkB_high {c : UInt8} (h : 128 ≤ c.toNat) : blkB c = false := by rw [← blk_of]; exact blkR_high h
theorem dec_cases (l : List UInt8) (pos : Nat) (h : pos < l.length) :
    ((l.getD pos 0).toNat < 128 ∧ Utf8.decode ⟨l.toArray⟩ pos = ((l.getD pos 0).toNat, 1)) ∨
    (128 ≤ (Utf8.decode ⟨l.toArray⟩ pos).1 ∧ 1 ≤ (Utf8.decode ⟨l.toArray⟩ pos).2 ∧ pos + (Utf8.decode ⟨l.toArray⟩ pos).2 ≤ l.length ∧ ∀ i, i < (Utf8.decode ⟨l.toArray⟩ pos).2 → 128 ≤ (l.getD (pos + i) 0).toNat) := by
  rw [Lib.decode_N]
  show (_ ∧ Lib.decodeN (l.length - pos) (l.getD pos 0).toNat (l.getD (pos + 1) 0).toNat (l.getD (pos + 2) 0).toNat (l.getD (pos + 3) 0).toNat = _) ∨ (128 ≤ (Lib.decodeN (l.length - pos) (l.getD pos 0).toNat (l.getD (pos + 1) 0).toNat (l.getD (pos + 2) 0).toNat (l.getD (pos + 3) 0).toNat).1 ∧ _)
  generalize h0 : (l.getD pos 0).toNat = b0
  have key : ∀ i, i < 1 → 128 ≤ b0 → 128 ≤ (l.getD (pos + i) 0).toNat := fun i hi hb => by
    obtain rfl : i = 0 := by omega
    rw [Nat.add_zero, h0]; exact hb
  by_cases hb : b0 < 128
  · left
    exact ⟨hb, by unfold Lib.decodeN; rw [if_pos hb]⟩
  · right
    unfold Lib.decodeN
    rw [if_neg hb]
    have hb' : 128 ≤ b0 := by omega
    split
    · rename_i hc
      split
      · refine ⟨by omega, by omega, by omega, fun i hi => ?_⟩
        rcases (by omega : i = 0 ∨ i = 1) with rfl | rfl
        · exact key 0 (by omega) hb'
        · omega
      · exact ⟨by omega, by omega, by omega, fun i hi => key i hi hb'⟩
    · split
      · rename_i hc
        split
        · refine ⟨by omega, by omega, by omega, fun i hi => ?_⟩
          rcases (by omega : i = 0 ∨ i = 1 ∨ i = 2) with rfl | rfl | rfl
          · exact key 0 (by omega) hb'
          · omega
          · omega
        · exact ⟨by omega, by omega, by omega, fun i hi => key i hi hb'⟩
      · split
        · rename_i hc
          split
          · refine ⟨by omega, by omega, by omega, fun i hi => ?_⟩
            rcases (by omega : i = 0 ∨ i = 1 ∨ i = 2 ∨ i = 3) with rfl | rfl | rfl | rfl
            · exact key 0 (by omega) hb'
            · omega
            · omega
            · omega
          · exact ⟨by omega, by omega, by omega, fun i hi => key i hi hb'⟩
        · exact ⟨by omega, by omega, by omega, fun i hi => key i hi hb'⟩
/-- By bytes: the pieces so far, and where the open one begins. -/
def spB (l : List UInt8) : Nat → Nat → Option Nat → List (Nat × Nat) → List (Nat × Nat) × Option Nat
  | 0, _, st, acc => (acc, st)
  | f + 1, pos, st, acc =>
    if pos < l.length then
      (if blkB (l.getD pos 0) then
        (match st with
         | some a => spB l f (pos + 1) none (acc ++ [(a, pos)])
         | none => spB l f (pos + 1) none acc)
       else spB l f (pos + 1) (some (st.getD pos)) acc)
    else (acc, st)
theorem spB_skip (l : List UInt8) (a : Nat) (acc : List (Nat × Nat)) : ∀ (k g pos : Nat), (∀ i, i < k → 128 ≤ (l.getD (pos + i) 0).toNat) → pos + k ≤ l.length → spB l (g + k) pos (some a) acc = spB l g (pos + k) (some a) acc
  | 0, g, pos, _, _ => rfl
  | k + 1, g, pos, h, hl => by
    rw [show g + (k + 1) = (g + k) + 1 by omega]
    conv => lhs; unfold spB
    rw [if_pos (by omega), if_neg (by rw [blkB_high (show 128 ≤ (l.getD pos 0).toNat from h 0 (by omega))]; simp)]
    show spB l (g + k) (pos + 1) (some a) acc = _
    rw [spB_skip l a acc k g (pos + 1) (fun i hi => by have := h (i + 1) (by omega); rw [show pos + 1 + i = pos + (i + 1) by omega]; exact this) (by omega), show pos + 1 + k = pos + (k + 1) by omega]
theorem spB_end (l : List UInt8) (g pos : Nat) (st : Option Nat) (acc : List (Nat × Nat)) (h : ¬ pos < l.length) : spB l g pos st acc = (acc, st) := by
  cases g with
  | zero => rfl
  | succ g => simp [spB, h]
theorem sp_eq (l : List UInt8) : ∀ (n f g pos : Nat) (st : Option Nat) (acc : List (Nat × Nat)), l.length - pos ≤ n → l.length - pos ≤ f → l.length - pos ≤ g → Lib.spansFromP blkR ⟨l.toArray⟩ f pos st acc = spB l g pos st acc
  | n, f, g, pos, st, acc, hn, hf, hg => by
    have hsz : (⟨l.toArray⟩ : ByteArray).size = l.length := by simp [ByteArray.size]
    by_cases hp : pos < l.length
    · obtain ⟨n, rfl⟩ : ∃ m, n = m + 1 := ⟨n - 1, by omega⟩
      obtain ⟨f, rfl⟩ : ∃ m, f = m + 1 := ⟨f - 1, by omega⟩
      rcases dec_cases l pos hp with ⟨hb, hd⟩ | ⟨h1, h2, h3, h4⟩
      · obtain ⟨g, rfl⟩ : ∃ m, g = m + 1 := ⟨g - 1, by omega⟩
        conv => lhs; unfold Lib.spansFromP
        conv => rhs; unfold spB
        rw [if_pos (by rw [hsz]; exact hp), if_pos hp, hd]
        simp only [blk_of]
        split
        · cases st with
          | none => exact sp_eq l n f g (pos + 1) none acc (by omega) (by omega) (by omega)
          | some a => exact sp_eq l n f g (pos + 1) none _ (by omega) (by omega) (by omega)
        · cases st with
          | none => exact sp_eq l n f g (pos + 1) (some pos) acc (by omega) (by omega) (by omega)
          | some a => exact sp_eq l n f g (pos + 1) (some a) acc (by omega) (by omega) (by omega)
      · generalize hd : Utf8.decode ⟨l.toArray⟩ pos = d at *
        obtain ⟨r, k⟩ := d
        simp only at h1 h2 h3 h4
        have hlhs : Lib.spansFromP blkR ⟨l.toArray⟩ (f + 1) pos st acc = Lib.spansFromP blkR ⟨l.toArray⟩ f (pos + k) (some (st.getD pos)) acc := by
          conv => lhs; unfold Lib.spansFromP
          rw [if_pos (by rw [hsz]; exact hp), hd]
          simp only [blkR_high h1]
          cases st <;> rfl
        rw [hlhs]
        obtain ⟨j, rfl⟩ : ∃ j, k = j + 1 := ⟨k - 1, by omega⟩
        obtain ⟨g', rfl⟩ : ∃ g', g = (g' + j) + 1 := ⟨g - (j + 1), by omega⟩
        conv => rhs; unfold spB
        rw [if_pos hp, if_neg (by rw [blkB_high (show 128 ≤ (l.getD pos 0).toNat from h4 0 (by omega))]; simp)]
        rw [spB_skip l _ acc j g' (pos + 1) (fun i hi => by have := h4 (i + 1) (by omega); rw [show pos + 1 + i = pos + (i + 1) by omega]; exact this) (by omega)]
        rw [show pos + 1 + j = pos + (j + 1) by omega]
        exact sp_eq l n f g' (pos + (j + 1)) _ acc (by omega) (by omega) (by omega)
    · rw [Lib.spansFromP_end _ _ _ _ _ _ (by rw [hsz]; exact hp), spB_end _ _ _ _ _ hp]
def spW (l : List UInt8) (x : List (Nat × Nat) × Option Nat) : List (Nat × Nat) :=
  match x.2 with
  | some a => x.1 ++ [(a, l.length)]
  | none => x.1
def cutL (l : List UInt8) (x : Nat × Nat) : List UInt8 := (l.drop x.1).take (x.2 - x.1)
/-- A line's words. -/
def wordsL (l : List UInt8) : List (List UInt8) := (spW l (spB l l.length 0 none [])).map (cutL l)
theorem fields_words (l : List UInt8) : Lib.goFieldsP blkR ⟨l.toArray⟩ = (wordsL l).map fun x => (⟨x.toArray⟩ : ByteArray) := by
  have hsz : (⟨l.toArray⟩ : ByteArray).size = l.length := by simp [ByteArray.size]
  unfold Lib.goFieldsP Lib.spansOfP wordsL
  rw [hsz, sp_eq l l.length l.length l.length 0 none [] (by omega) (by omega) (by omega)]
  have e : Lib.closeSpans ⟨l.toArray⟩ (spB l l.length 0 none []) = spW l (spB l l.length 0 none []) := by
    generalize spB l l.length 0 none [] = x
    obtain ⟨a, o⟩ := x
    cases o <;> simp [Lib.closeSpans, spW, hsz]
  rw [e, List.map_map]
  apply List.map_congr_left
  intro x _
  show (⟨l.toArray⟩ : ByteArray).extract x.1 x.2 = ⟨(cutL l x).toArray⟩
  rw [ByteArray.extract_mk]
  simp [cutL]
theorem spB_len (l : List UInt8) : ∀ (f pos : Nat) (st : Option Nat) (acc : List (Nat × Nat)), acc.length ≤ pos → (spB l f pos st acc).1.length ≤ pos + f
  | 0, pos, st, acc, h => by simp [spB]; omega
  | f + 1, pos, st, acc, h => by
    unfold spB
    split
    · split
      · cases st with
        | none =>
          show (spB l f (pos + 1) none acc).1.length ≤ _
          have := spB_len l f (pos + 1) none acc (by omega)
          omega
        | some a =>
          show (spB l f (pos + 1) none (acc ++ [(a, pos)])).1.length ≤ _
          have := spB_len l f (pos + 1) none (acc ++ [(a, pos)]) (by simp; omega)
          omega
      · have := spB_len l f (pos + 1) (some (st.getD pos)) acc (by omega); omega
    · simp; omega
theorem words_len (l : List UInt8) : (wordsL l).length ≤ l.length + 1 := by
  have h := spB_len l l.length 0 none [] (by simp)
  unfold wordsL spW
  split
  · simp; omega
  · simp; omega
theorem words_le {l x : List UInt8} (h : x ∈ wordsL l) : x.length ≤ l.length := by
  obtain ⟨p, -, rfl⟩ := List.mem_map.1 h
  simp [cutL]
  omega
end Go.Proofs.YtknlapipkglnjaaGreatDoor

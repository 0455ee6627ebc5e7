
/- Layer 28, pure: the lines of operations and events, as lists of bytes. -/

import Derived.Test.YtknlapipkglnjaaGreatDoorMPure4

import Derived.Test.YtknlapipkglnjaaGreatDoorTIn

import Derived.Lib.ItoaLen

import Derived.Lib.Join

namespace Go.Proofs.YtknlapipkglnjaaGreatDoor

open Go.RowKit

theorem itoa_le {x : Int} (h : In64 x) : (Lib.itoa x).length ≤ 21 := Lib.itoa_length_le x h.1 h.2
/-- The digits, the last one first. -/
structure Dg (N m : Int) (V : List UInt8) : Prop where
  eq : Lib.decDigits N.natAbs = (if m = 0 then [] else Lib.decDigits m.natAbs) ++ V
  lo : -9223372036854775808 ≤ m
  hi : m ≤ 9223372036854775807
  len : V.length ≤ 21
theorem dec_len {N : Int} (h : In64 N) : (Lib.decDigits N.natAbs).length ≤ 21 := by
  have := itoa_le h
  unfold Lib.itoa at this
  split at this
  · simp at this; omega
  · rw [show N.natAbs = N.toNat by omega]; exact this
theorem Dg.step {N m : Int} {V : List UInt8} (h : Dg N m V) (hN : In64 N) (hm : m ≠ 0) : Dg N (m.tdiv 10) (UInt8.ofNat (48 + m.natAbs % 10) :: V) := by
  have e : (m.tdiv 10).natAbs = m.natAbs / 10 := by rw [tdiv_eq_if]; split <;> omega
  have hq : Lib.decDigits m.natAbs = (if m.tdiv 10 = 0 then [] else Lib.decDigits (m.tdiv 10).natAbs) ++ [UInt8.ofNat (48 + m.natAbs % 10)] := by
    rw [Lib.decDigits]
    split
    · rename_i hlt
      rw [if_pos (by rw [tdiv_eq_if]; split <;> omega), show m.natAbs % 10 = m.natAbs by omega]
      rfl
    · rw [if_neg (by rw [tdiv_eq_if]; split <;> omega), e]
  have heq : Lib.decDigits N.natAbs = (if m.tdiv 10 = 0 then [] else Lib.decDigits (m.tdiv 10).natAbs) ++ (UInt8.ofNat (48 + m.natAbs % 10) :: V) := by
    rw [h.eq, if_neg hm, hq]
    simp
  have hl := h.lo
  have hh := h.hi
  refine ⟨heq, by rw [tdiv_eq_if]; split <;> omega, by rw [tdiv_eq_if]; split <;> omega, ?_⟩
  have := congrArg List.length heq
  have := dec_len hN
  simp at *
  omega
theorem dig_toNat (X : Nat) (h : X < 10) : (UInt8.ofNat (48 + X)).toNat = 48 + X := by simp; omega
theorem dig_cases (m : Int) : ∃ X : Nat, X < 10 ∧ X = m.natAbs % 10 ∧ ((m.tmod 10 = (X : Int)) ∨ (m.tmod 10 = -(X : Int) ∧ 0 < X)) := by
  refine ⟨m.natAbs % 10, by omega, rfl, ?_⟩
  rw [tmod_eq_if]
  split
  · left; omega
  · by_cases hz : m.natAbs % 10 = 0
    · left; omega
    · right; omega
theorem dec0 : Lib.decDigits 0 = [48] := by rw [Lib.decDigits, dif_pos (by omega)]; rfl

/-- An operation's word. -/
def wordL (k : Int) : List UInt8 :=
  if k = 1 then [103, 101, 116] else if k = 2 then [112, 117, 116] else if k = 3 then [105, 102, 97, 98, 115, 101, 110, 116] else if k = 4 then [100, 101, 108, 101, 116, 101]
  else if k = 5 then [97, 102, 116, 101, 114] else if k = 6 then [98, 101, 102, 111, 114, 101] else if k = 7 then [109, 105, 110] else if k = 8 then [109, 97, 120] else if k = 9 then [114, 97, 110, 103, 101] else []
/-- The numbers that it tells. -/
def numsL (o : OpD) : List Int :=
  if o.kind = 1 ∨ o.kind = 4 ∨ o.kind = 5 ∨ o.kind = 6 then [o.key] else if o.kind = 2 ∨ o.kind = 3 then [o.key, o.val] else if o.kind = 9 then [o.key, o.hi] else []
def sayL : List Int → List UInt8
  | [] => []
  | n :: t => 32 :: Lib.itoa n ++ sayL t
def opL (o : OpD) : List UInt8 := if 1 ≤ o.kind ∧ o.kind ≤ 9 then wordL o.kind ++ sayL (numsL o) else []
def opE (o : OpD) : Int := if 1 ≤ o.kind ∧ o.kind ≤ 9 then 0 else 5
def tellOpL (o : OpD) : List UInt8 := if 1 ≤ o.kind ∧ o.kind ≤ 9 then opL o else [107, 105, 110, 100, 32] ++ Lib.itoa o.kind
def pairT (p : Int × Int) : List UInt8 := Lib.itoa p.1 ++ 58 :: Lib.itoa p.2
def yesL (b : Bool) : List UInt8 := if b then [121, 101, 115] else [110, 111]
/-- The words of an answer behind the first. -/
def retL (k : Int) (r : RetD) : List (List UInt8) :=
  if k = 1 ∨ k = 2 ∨ k = 3 ∨ k = 4 then [Lib.itoa r.val] else if k = 5 ∨ k = 6 ∨ k = 7 ∨ k = 8 then [pairT (r.key, r.val)] else r.pairs.map pairT
def blkL : List (List UInt8) → List UInt8
  | [] => []
  | x :: t => 32 :: x ++ blkL t
theorem blkL_snoc (x : List UInt8) : ∀ l, blkL (l ++ [x]) = blkL l ++ 32 :: x
  | [] => by simp [blkL]
  | y :: t => by simp [blkL, blkL_snoc x t]
theorem tail_blk : ∀ l : List (List UInt8), Lib.joinTail [32] l = blkL l
  | [] => rfl
  | y :: t => by
    have := tail_blk t
    simp only [Lib.joinTail, List.map_cons, List.flatten_cons] at this ⊢
    rw [this]
    simp [blkL]
theorem join_blk (x : List UInt8) (l : List (List UInt8)) : Lib.join (x :: l) [32] = x ++ blkL l := by rw [Lib.join_cons, tail_blk]
def OpIn (o : OpD) : Prop := In64 o.kind ∧ In64 o.key ∧ In64 o.val ∧ In64 o.hi
def tellL (th : Int) (ret : Bool) (o : OpD) (r : RetD) : List UInt8 := 116 :: Lib.itoa th ++ 32 :: tellOpL o ++ (if ret then [32, 45, 62, 32] ++ yesL r.ok ++ blkL (retL o.kind r) else [])
theorem pairT_len {p : Int × Int} (h1 : In64 p.1) (h2 : In64 p.2) : (pairT p).length ≤ 43 := by
  have := itoa_le h1
  have := itoa_le h2
  simp [pairT]; omega
theorem blkL_len : ∀ (l : List (List UInt8)), (∀ x ∈ l, x.length ≤ 43) → (blkL l).length ≤ 44 * l.length
  | [], _ => by simp [blkL]
  | x :: t, h => by
    have h1 := h x (by simp)
    have h2 := blkL_len t (fun y hy => h y (by simp [hy]))
    simp [blkL]
    omega
theorem take_blk {ps : PL} {j : Nat} (h : j < ps.length) : blkL ((ps.take (j + 1)).map pairT) = blkL ((ps.take j).map pairT) ++ 32 :: pairT (keyAt ps j, valAt ps j) := by
  rw [List.take_add_one, List.getElem?_eq_getElem h, Option.toList_some, List.map_append, List.map_cons, List.map_nil, blkL_snoc]
  simp [keyAt, valAt, List.getD_eq_getElem?_getD, h]
end Go.Proofs.YtknlapipkglnjaaGreatDoor

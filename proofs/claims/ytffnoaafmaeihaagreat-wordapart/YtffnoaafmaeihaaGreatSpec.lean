/- Layer 1 as plain functions on integers: kinds, what a word of a kind holds, what one access does, a row of accesses. -/
import Derived.Test.YtffnoaafmaeihaaGreatBase
namespace Go.Proofs.YtffnoaafmaeihaaGreat

def isK (k : Int) : Bool := decide (1 ≤ k) && decide (k ≤ 6)
def can (k d : Int) : Bool := d == 1 || d == 2 || d == 4 || d == 5 || ((d == 3 || d == 6 || d == 7) && k != 5)
def cut (k v : Int) : Int := if k = 5 then (if v = 0 then 0 else 1) else if k = 1 ∨ k = 3 then lo32 v else lo64 v
/-- What the word holds behind an access of kind d with a and b, where it held v. -/
def nx (k v d a b : Int) : Int :=
  if d = 2 ∨ d = 4 then cut k a
  else if d = 3 then cut k (v + a)
  else if d = 5 then (if v = cut k a then cut k b else v)
  else if d = 6 then ((v.toNat &&& (cut k a).toNat : Nat) : Int)
  else if d = 7 then ((v.toNat ||| (cut k a).toNat : Nat) : Int)
  else v
/-- The number that it answers. -/
def ov (k v d a : Int) : Int :=
  if d = 2 ∨ d = 5 then 0 else if d = 3 then cut k (v + a) else v
/-- Whether it answers Ok. -/
def ok (k v d a : Int) : Bool := d != 5 || v == cut k a
/-- What the word holds behind the first i accesses. -/
def st (k start : Int) (dk da db : Nat → Int) : Nat → Int
  | 0 => cut k start
  | i + 1 => nx k (st k start dk da db i) (dk i) (da i) (db i)
/-- Are the first n accesses all there? -/
def allCan (k : Int) (dk : Nat → Int) : Nat → Bool
  | 0 => true
  | i + 1 => allCan k dk i && can k (dk i)
/-- The error of a row of n accesses. -/
def rowErr (k : Int) (n : Nat) (dk : Nat → Int) : Int :=
  if isK k then (if 10000 < n then 2 else if allCan k dk n then 0 else 5) else 5

theorem allCan_of {k : Int} {dk : Nat → Int} {n : Nat} (h : allCan k dk n = true) : ∀ i, i < n → can k (dk i) = true := by
  induction n with
  | zero => intro i hi; omega
  | succ m ih =>
    simp only [allCan, Bool.and_eq_true] at h
    intro i hi
    by_cases e : i = m
    · subst e; exact h.2
    · exact ih h.1 i (by omega)
theorem allCan_not {k : Int} {dk : Nat → Int} {n i : Nat} (hi : i < n) (h : can k (dk i) = false) : allCan k dk n = false := by
  cases e : allCan k dk n with
  | false => rfl
  | true => rw [allCan_of e i hi] at h; cases h

theorem rowErr_kind {k : Int} {n : Nat} {dk : Nat → Int} (h : isK k = false) : rowErr k n dk = 5 := by simp [rowErr, h]
theorem rowErr_big {k : Int} {n : Nat} {dk : Nat → Int} (h : isK k = true) (hn : 10000 < n) : rowErr k n dk = 2 := by simp [rowErr, h, hn]
theorem rowErr_act {k : Int} {n : Nat} {dk : Nat → Int} (h : isK k = true) (hn : ¬ 10000 < n) (ha : allCan k dk n = false) : rowErr k n dk = 5 := by simp [rowErr, h, hn, ha]
theorem rowErr_none {k : Int} {n : Nat} {dk : Nat → Int} (h : isK k = true) (hn : ¬ 10000 < n) (ha : allCan k dk n = true) : rowErr k n dk = 0 := by simp [rowErr, h, hn, ha]
theorem isK_cases {k : Int} (h : isK k = true) : k = 1 ∨ k = 2 ∨ k = 3 ∨ k = 4 ∨ k = 5 ∨ k = 6 := by
  simp [isK] at h; omega

end Go.Proofs.YtffnoaafmaeihaaGreat

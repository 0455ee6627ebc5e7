
/- Bits of small numbers. No function of the program. -/

import Derived.Test.YtcphajjonecmbaaDoorERow

import Derived.Laws.BitsAllLaws

namespace Go.Proofs.YtcphajjonecmbaaDoor

open Go.RowKit

theorem ofInt_i64 (a : Nat) (ha : a < 18446744073709551616) : (BitVec.ofInt 64 (a : Int)).toNat = a := by
  rw [BitVec.ofInt_natCast, BitVec.toNat_ofNat]; exact Nat.mod_eq_of_lt (by omega)
theorem wrap_small (a : Nat) (ha : a < 4294967296) : IntKind.i64.wrap (a : Int) = a := by rw [IntKind.wrap_i64] <;> omega
theorem i64_or_nat (a b : Nat) (ha : a < 4294967296) (hb : b < 4294967296) : bits .or .i64 (a : Int) (b : Int) = ((a ||| b : Nat) : Int) := by
  have hx : a ||| b < 2 ^ 32 := Nat.or_lt_two_pow (by omega) (by omega)
  show IntKind.i64.wrap ((BitVec.ofInt 64 (a : Int) ||| BitVec.ofInt 64 (b : Int)).toNat : Int) = _
  rw [BitVec.toNat_or, ofInt_i64 a (by omega), ofInt_i64 b (by omega)]
  exact wrap_small _ (by omega)
theorem i64_and_nat (a b : Nat) (ha : a < 4294967296) (hb : b < 4294967296) : bits .and .i64 (a : Int) (b : Int) = ((a &&& b : Nat) : Int) := by
  have hx : a &&& b < 2 ^ 32 := Nat.and_lt_two_pow _ (by omega)
  show IntKind.i64.wrap ((BitVec.ofInt 64 (a : Int) &&& BitVec.ofInt 64 (b : Int)).toNat : Int) = _
  rw [BitVec.toNat_and, ofInt_i64 a (by omega), ofInt_i64 b (by omega)]
  exact wrap_small _ (by omega)
theorem i64_andNot_nat (a b : Nat) (ha : a < 4294967296) (hb : b < 4294967296) : bits .andNot .i64 (a : Int) (b : Int) = ((a &&& (18446744073709551615 - b) : Nat) : Int) := by
  have hx : a &&& (18446744073709551615 - b) < 2 ^ 32 := by rw [Nat.and_comm]; exact Nat.and_lt_two_pow _ (by omega)
  show IntKind.i64.wrap ((BitVec.ofInt 64 (a : Int) &&& ~~~BitVec.ofInt 64 (b : Int)).toNat : Int) = _
  rw [BitVec.toNat_and, BitVec.toNat_not, ofInt_i64 a (by omega), ofInt_i64 b (by omega)]
  have e : 2 ^ 64 - 1 - b = 18446744073709551615 - b := by omega
  rw [e]
  exact wrap_small _ (by omega)
/-- The set of those among the first j that are ahead of i. -/
def befN (sp : List Sp) (i : Nat) : Nat → Nat
  | 0 => 0
  | j + 1 => if ahd (spAt sp j) (spAt sp i) then befN sp i j ||| 2 ^ j else befN sp i j
theorem pow_le16 {j n : Nat} (h : j ≤ n) : 2 ^ j ≤ 2 ^ n := Nat.pow_le_pow_right (by omega) h
theorem befN_lt (sp : List Sp) (i : Nat) : ∀ j, befN sp i j < 2 ^ j
  | 0 => by simp [befN]
  | j + 1 => by
    have ih := befN_lt sp i j
    simp only [befN]
    have h2 : 2 ^ j < 2 ^ (j + 1) := by rw [Nat.pow_succ]; omega
    split
    · exact Nat.or_lt_two_pow (by omega) h2
    · omega
theorem befN_small (sp : List Sp) (i j : Nat) (h : j ≤ 16) : befN sp i j < 65537 := by
  have a := befN_lt sp i j
  have b := pow_le16 h
  omega
/-- May i come behind the set? -/
def condP (sp : List Sp) (n set i : Nat) : Bool := decide (set &&& 2 ^ i = 0) && decide (befN sp i n &&& (18446744073709551615 - set) = 0)
def inW (sp : List Sp) (n set : Nat) (f : Nat → Int) : Nat → (Nat → Int)
  | 0 => f
  | i + 1 => if condP sp n set i then (fun x => if x = set ||| 2 ^ i then wrap64 (inW sp n set f i (set ||| 2 ^ i) + inW sp n set f i set) else inW sp n set f i x) else inW sp n set f i
def outW (sp : List Sp) (n : Nat) : Nat → (Nat → Int)
  | 0 => fun x => if x = 0 then 1 else 0
  | s + 1 => inW sp n s (outW sp n s) n
def ordsA (sp : List Sp) : Int := outW sp sp.length (2 ^ sp.length) (2 ^ sp.length - 1)
theorem wrap_pow : ∀ j, j < 17 → wrap64 ((2 : Int) ^ j) = ((2 ^ j : Nat) : Int) := by decide +kernel
theorem or_pow {j a : Nat} (hj : j < 17) (ha : a < 65537) : bits .or .i64 (a : Int) (wrap64 ((2 : Int) ^ j)) = ((a ||| 2 ^ j : Nat) : Int) := by
  rw [wrap_pow j hj]
  have h : 2 ^ j ≤ 2 ^ 16 := pow_le16 (by omega)
  exact i64_or_nat _ _ (by omega) (by omega)
theorem and_pow {j a : Nat} (hj : j < 17) (ha : a < 65537) : bits .and .i64 (a : Int) (wrap64 ((2 : Int) ^ j)) = ((a &&& 2 ^ j : Nat) : Int) := by
  rw [wrap_pow j hj]
  have h : 2 ^ j ≤ 2 ^ 16 := pow_le16 (by omega)
  exact i64_and_nat _ _ (by omega) (by omega)
theorem befN_next {sp : List Sp} {i j : Nat} (hj : j < 16) (h : ahd (spAt sp j) (spAt sp i) = true) : bits .or .i64 (befN sp i j : Int) (wrap64 ((2 : Int) ^ j)) = (befN sp i (j + 1) : Int) := by
  rw [or_pow (by omega) (befN_small sp i j (by omega))]
  simp only [befN]
  rw [if_pos h]
theorem befN_stay {sp : List Sp} {i j : Nat} (h : ahd (spAt sp j) (spAt sp i) = false) : befN sp i (j + 1) = befN sp i j := by
  simp only [befN]
  rw [h]
  rfl
theorem or_ne {set i : Nat} (h : set &&& 2 ^ i = 0) : set ||| 2 ^ i ≠ set := by
  intro e
  have h1 : (set ||| 2 ^ i).testBit i = true := by rw [Nat.testBit_or, Nat.testBit_two_pow_self]; simp
  have h2 : (set &&& 2 ^ i).testBit i = false := by rw [h]; simp
  rw [e] at h1
  rw [Nat.testBit_and, Nat.testBit_two_pow_self, h1] at h2
  cases h2
end Go.Proofs.YtcphajjonecmbaaDoor

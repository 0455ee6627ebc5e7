/- Turning one bit over, as plain arithmetic. -/
import Derived.Test.YtieanmpldcibcaaGreatNum
namespace Go.Proofs.YtieanmpldcibcaaGreat

theorem xor_low (r n : Nat) (h : r < 2 ^ n) : r ^^^ 2 ^ n = r + 2 ^ n := by
  apply Nat.eq_of_testBit_eq
  intro i
  rw [Nat.testBit_xor, Nat.add_comm r]
  rcases Nat.lt_trichotomy i n with hi | hi | hi
  · rw [Nat.testBit_two_pow_add_gt hi, Nat.testBit_two_pow_of_ne (by omega)]; simp
  · subst hi
    rw [Nat.testBit_two_pow_add_eq, Nat.testBit_two_pow_self, Nat.testBit_lt_two_pow h]; simp
  · have h1 : r < 2 ^ i := Nat.lt_trans h (Nat.pow_lt_pow_right (by omega) hi)
    have h2 : 2 ^ n + r < 2 ^ i := by
      have : 2 ^ (n + 1) ≤ 2 ^ i := Nat.pow_le_pow_right (by omega) hi
      rw [Nat.pow_succ] at this
      omega
    rw [Nat.testBit_lt_two_pow h1, Nat.testBit_lt_two_pow h2, Nat.testBit_two_pow_of_ne (by omega)]; rfl

theorem xor_high (a n : Nat) (h1 : 2 ^ n ≤ a) (h2 : a < 2 ^ n + 2 ^ n) : a ^^^ 2 ^ n = a - 2 ^ n := by
  have h := xor_low (a - 2 ^ n) n (by omega)
  have e : a = (a - 2 ^ n) ^^^ 2 ^ n := by rw [h]; omega
  rw [e, Nat.xor_assoc, Nat.xor_self, Nat.xor_zero, ← e]

theorem bits_xor_of (x y : Int) (hx : U64 x) (hy : U64 y) : bits .xor .u64 x y = ((x.toNat ^^^ y.toNat : Nat) : Int) := u64_xor x y hx.1 hx.2 hy.1 hy.2

theorem xor_zero (x : Int) (hx : U64 x) : bits .xor .u64 x 0 = x := by
  rw [bits_xor_of x 0 hx (by unfold U64; omega)]
  have := hx.1
  simp; omega
/-- A bit of 2^31 turned over, in a number of 32 bits. -/
theorem xor_31 (x : Int) (h0 : 0 ≤ x) (h1 : x < 4294967296) : bits .xor .u64 x 2147483648 = if x < 2147483648 then x + 2147483648 else x - 2147483648 := by
  rw [bits_xor_of x _ (by unfold U64; omega) (by unfold U64; omega)]
  have e : (2147483648 : Int).toNat = 2 ^ 31 := rfl
  rw [e]
  split
  · rw [xor_low _ _ (by show x.toNat < 2147483648; omega)]; show ((x.toNat + 2147483648 : Nat) : Int) = _; omega
  · rw [xor_high _ _ (by show 2147483648 ≤ x.toNat; omega) (by show x.toNat < 4294967296; omega)]; show ((x.toNat - 2147483648 : Nat) : Int) = _; omega
theorem xor_63 (x : Int) (h0 : 0 ≤ x) (h1 : x < 18446744073709551616) : bits .xor .u64 x 9223372036854775808 = if x < 9223372036854775808 then x + 9223372036854775808 else x - 9223372036854775808 := by
  rw [bits_xor_of x _ (by unfold U64; omega) (by unfold U64; omega)]
  have e : (9223372036854775808 : Int).toNat = 2 ^ 63 := rfl
  rw [e]
  split
  · rw [xor_low _ _ (by show x.toNat < 9223372036854775808; omega)]; show ((x.toNat + 9223372036854775808 : Nat) : Int) = _; omega
  · rw [xor_high _ _ (by show 9223372036854775808 ≤ x.toNat; omega) (by show x.toNat < 18446744073709551616; omega)]; show ((x.toNat - 9223372036854775808 : Nat) : Int) = _; omega

/-- The order of the numbers of a kind, over held bits. -/
def lessK (k a b : Int) : Bool :=
  if k = 1 then decide ((if a < 2147483648 then a + 2147483648 else a - 2147483648) < (if b < 2147483648 then b + 2147483648 else b - 2147483648))
  else if k = 2 then decide ((if a < 9223372036854775808 then a + 9223372036854775808 else a - 9223372036854775808) < (if b < 9223372036854775808 then b + 9223372036854775808 else b - 9223372036854775808))
  else decide (a < b)
end Go.Proofs.YtieanmpldcibcaaGreat

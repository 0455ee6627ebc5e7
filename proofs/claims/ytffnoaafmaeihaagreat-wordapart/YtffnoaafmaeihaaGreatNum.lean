/- The numbers behind layer 1's words: how a cell of each kind keeps the bits, and what wrapping, comparing and bitwise operations come to. -/
import Derived.Test.YtffnoaafmaeihaaGreatSpec
import Derived.Laws.BitsAllLaws
namespace Go.Proofs.YtffnoaafmaeihaaGreat

/-- A number of a uint64. -/
def U64 (a : Int) : Prop := 0 ≤ a ∧ a < 18446744073709551616
/-- Bits as a word of the kind holds them. -/
def Cn (k v : Int) : Prop := cut k v = v
/-- The cell of a word of the kind that holds the bits v. -/
def cv (k v : Int) : Value := if k = 1 then .int .i32 (IntKind.i32.wrap v) else if k = 2 then .int .i64 (IntKind.i64.wrap v) else if k = 3 ∨ k = 5 then .int .u32 v else .int .u64 v

theorem cut_1 (v : Int) : cut 1 v = v % 4294967296 := rfl
theorem cut_2 (v : Int) : cut 2 v = v % 18446744073709551616 := rfl
theorem cut_3 (v : Int) : cut 3 v = v % 4294967296 := rfl
theorem cut_4 (v : Int) : cut 4 v = v % 18446744073709551616 := rfl
theorem cut_6 (v : Int) : cut 6 v = v % 18446744073709551616 := rfl
theorem cut_5 (v : Int) : cut 5 v = if v = 0 then 0 else 1 := rfl

theorem cut_cut (k v : Int) : cut k (cut k v) = cut k v := by
  unfold cut
  split
  · split <;> simp
  · split
    · unfold lo32; omega
    · unfold lo64; omega
theorem Cn_cut (k v : Int) : Cn k (cut k v) := cut_cut k v

theorem Cn_u64 {k v : Int} (h : Cn k v) : U64 v := by
  unfold Cn cut at h
  unfold U64
  split at h
  · split at h <;> omega
  · split at h
    · unfold lo32 at h; omega
    · unfold lo64 at h; omega

theorem ofInt_nat (n : Nat) (x : Int) (a : Nat) (h : x % (2 ^ n : Nat) = (a : Int) % (2 ^ n : Nat)) : BitVec.ofInt n x = BitVec.ofNat n a := by
  apply BitVec.eq_of_toInt_eq
  rw [← BitVec.ofInt_natCast, BitVec.toInt_ofInt, BitVec.toInt_ofInt, ← Int.emod_bmod, h, Int.emod_bmod]

theorem and_nat (n a b : Nat) (ha : a < 2 ^ n) (hb : b < 2 ^ n) : (BitVec.ofNat n a &&& BitVec.ofNat n b).toNat = a &&& b := by
  rw [BitVec.toNat_and, BitVec.toNat_ofNat, BitVec.toNat_ofNat, Nat.mod_eq_of_lt ha, Nat.mod_eq_of_lt hb]
theorem or_nat (n a b : Nat) (ha : a < 2 ^ n) (hb : b < 2 ^ n) : (BitVec.ofNat n a ||| BitVec.ofNat n b).toNat = a ||| b := by
  rw [BitVec.toNat_or, BitVec.toNat_ofNat, BitVec.toNat_ofNat, Nat.mod_eq_of_lt ha, Nat.mod_eq_of_lt hb]

/-- The bitwise operations, of whatever kind, over numbers that come to a and b in its width. -/
theorem bits_and_of (K : IntKind) (x y : Int) (a b : Nat) (hx : x % (2 ^ K.bits : Nat) = (a : Int) % (2 ^ K.bits : Nat)) (hy : y % (2 ^ K.bits : Nat) = (b : Int) % (2 ^ K.bits : Nat)) (ha : a < 2 ^ K.bits) (hb : b < 2 ^ K.bits) :
    bits .and K x y = K.wrap ((a &&& b : Nat) : Int) := by
  show K.wrap ((BitVec.ofInt K.bits x &&& BitVec.ofInt K.bits y).toNat : Int) = _
  rw [ofInt_nat _ x a hx, ofInt_nat _ y b hy, and_nat _ _ _ ha hb]
theorem bits_or_of (K : IntKind) (x y : Int) (a b : Nat) (hx : x % (2 ^ K.bits : Nat) = (a : Int) % (2 ^ K.bits : Nat)) (hy : y % (2 ^ K.bits : Nat) = (b : Int) % (2 ^ K.bits : Nat)) (ha : a < 2 ^ K.bits) (hb : b < 2 ^ K.bits) :
    bits .or K x y = K.wrap ((a ||| b : Nat) : Int) := by
  show K.wrap ((BitVec.ofInt K.bits x ||| BitVec.ofInt K.bits y).toNat : Int) = _
  rw [ofInt_nat _ x a hx, ofInt_nat _ y b hy, or_nat _ _ _ ha hb]

theorem and_lt (a b m : Nat) (ha : a < m) : a &&& b < m := Nat.lt_of_le_of_lt Nat.and_le_left ha

theorem Cn_and {k v c : Int} (hk5 : k ≠ 5) (hv : Cn k v) : Cn k ((v.toNat &&& c.toNat : Nat) : Int) := by
  unfold Cn cut at *
  rw [if_neg hk5] at hv ⊢
  split at hv
  · rename_i h; rw [if_pos h]; unfold lo32 at *
    have := and_lt v.toNat c.toNat 4294967296 (by omega)
    omega
  · rename_i h; rw [if_neg h]; unfold lo64 at *
    have := and_lt v.toNat c.toNat 18446744073709551616 (by omega)
    omega
theorem Cn_or {k v c : Int} (hk5 : k ≠ 5) (hv : Cn k v) (hc : Cn k c) : Cn k ((v.toNat ||| c.toNat : Nat) : Int) := by
  unfold Cn cut at *
  rw [if_neg hk5] at hv hc ⊢
  split at hv
  · rename_i h; rw [if_pos h] at hc ⊢; unfold lo32 at *
    have := Nat.or_lt_two_pow (n := 32) (x := v.toNat) (y := c.toNat) (by omega) (by omega)
    omega
  · rename_i h; rw [if_neg h] at hc ⊢; unfold lo64 at *
    have := Nat.or_lt_two_pow (n := 64) (x := v.toNat) (y := c.toNat) (by omega) (by omega)
    omega

theorem can_and {k d : Int} (hd : can k d = true) (h : d = 6 ∨ d = 7 ∨ d = 3) : k ≠ 5 := by
  intro e; subst e; rcases h with rfl | rfl | rfl <;> simp [can] at hd

theorem Cn_nx {k v d a b : Int} (hv : Cn k v) (hd : can k d = true) : Cn k (nx k v d a b) := by
  unfold nx
  split
  · exact Cn_cut _ _
  · split
    · exact Cn_cut _ _
    · split
      · split
        · exact Cn_cut _ _
        · exact hv
      · split
        · rename_i h; exact Cn_and (can_and hd (Or.inl h)) hv
        · split
          · rename_i h; exact Cn_or (can_and hd (Or.inr (Or.inl h))) hv (Cn_cut _ _)
          · exact hv

theorem Cn_st {k start : Int} {dk da db : Nat → Int} {n : Nat} (h : allCan k dk n = true) : ∀ i, i ≤ n → Cn k (st k start dk da db i) := by
  intro i
  induction i with
  | zero => intro _; exact Cn_cut _ _
  | succ m ih => intro hi; exact Cn_nx (ih (by omega)) (allCan_of h m (by omega))

end Go.Proofs.YtffnoaafmaeihaaGreat

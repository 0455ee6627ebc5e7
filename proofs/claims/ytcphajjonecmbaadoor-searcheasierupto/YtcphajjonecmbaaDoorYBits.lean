
/- Layer 7, pure: sets of operations as numbers; what the program asks of them. -/

import Derived.Test.YtcphajjonecmbaaDoorYPure

import Derived.Test.YtcphajjonecmbaaDoorEBits

namespace Go.Proofs.YtcphajjonecmbaaDoor

open Go.RowKit

theorem befN_bit (sp : List Sp) (i : Nat) : ∀ (n k : Nat), (befN sp i n).testBit k = (decide (k < n) && ahd (spAt sp k) (spAt sp i))
  | 0, k => by simp [befN]
  | n + 1, k => by
    have ih := befN_bit sp i n k
    simp only [befN]
    by_cases h : ahd (spAt sp n) (spAt sp i) = true
    · rw [if_pos h, Nat.testBit_or, ih, Nat.testBit_two_pow]
      by_cases e : n = k
      · subst e; simp [h]
      · have : decide (k < n + 1) = decide (k < n) := by by_cases q : k < n <;> simp [q] <;> omega
        rw [this]; simp [e]
    · rw [if_neg h, ih]
      have h' : ahd (spAt sp n) (spAt sp i) = false := by simpa using h
      by_cases e : k = n
      · subst e; simp [h']
      · have : decide (k < n + 1) = decide (k < n) := by by_cases q : k < n <;> simp [q] <;> omega
        rw [this]
theorem bit_and_zero (set i : Nat) : set &&& 2 ^ i = 0 ↔ set.testBit i = false := by
  constructor
  · intro h
    have h2 : (set &&& 2 ^ i).testBit i = false := by rw [h]; simp
    rw [Nat.testBit_and, Nat.testBit_two_pow_self, Bool.and_true] at h2
    exact h2
  · intro h
    apply Nat.eq_of_testBit_eq
    intro k
    rw [Nat.testBit_and, Nat.testBit_two_pow]
    by_cases e : i = k
    · subst e; simp [h]
    · simp [e]
theorem bit_sub (set k : Nat) (hs : set < 65537) : (18446744073709551615 - set).testBit k = (decide (k < 64) && !set.testBit k) := by
  have := Nat.testBit_two_pow_sub_succ (x := set) (n := 64) (by omega) k
  rw [show 2 ^ 64 - (set + 1) = 18446744073709551615 - set by omega] at this
  exact this
theorem sub_zero (a set : Nat) (ha : a < 65537) (hs : set < 65537) : a &&& (18446744073709551615 - set) = 0 ↔ ∀ k, a.testBit k = true → set.testBit k = true := by
  constructor
  · intro h k hk
    have h2 : (a &&& (18446744073709551615 - set)).testBit k = false := by rw [h]; simp
    rw [Nat.testBit_and, hk, bit_sub set k hs, Bool.true_and] at h2
    have h64 : k < 64 := by
      apply Classical.byContradiction
      intro q
      have : a < 2 ^ k := Nat.lt_of_lt_of_le (by omega : a < 2 ^ 64) (Nat.pow_le_pow_right (by omega) (by omega))
      rw [Nat.testBit_lt_two_pow this] at hk
      cases hk
    simpa [h64] using h2
  · intro h
    apply Nat.eq_of_testBit_eq
    intro k
    rw [Nat.testBit_and, bit_sub set k hs]
    cases q : a.testBit k
    · simp
    · rw [h k q]; simp
theorem or_bit (set i k : Nat) : (set ||| 2 ^ i).testBit k = (set.testBit k || decide (i = k)) := by
  rw [Nat.testBit_or, Nat.testBit_two_pow]
theorem cond_in {sp : List Sp} {n set i : Nat} (hn : n ≤ 16) (hs : set < 65537) : condP sp n set i = true ↔ set.testBit i = false ∧ ∀ k, k < n → ahd (spAt sp k) (spAt sp i) = true → set.testBit k = true := by
  unfold condP
  simp only [Bool.and_eq_true, decide_eq_true_eq]
  rw [bit_and_zero, sub_zero _ _ (befN_small sp i n hn) hs]
  simp only [befN_bit, Bool.and_eq_true, decide_eq_true_eq]
  constructor
  · rintro ⟨h1, h2⟩; exact ⟨h1, fun k hk ha => h2 k ⟨hk, ha⟩⟩
  · rintro ⟨h1, h2⟩; exact ⟨h1, fun k hk => h2 k hk.1 hk.2⟩

/-- The set of an order's operations. -/
def inM (ord : List Nat) : Nat := ord.foldl (fun s i => s ||| 2 ^ i) 0
theorem inM_snoc (ord : List Nat) (i : Nat) : inM (ord ++ [i]) = inM ord ||| 2 ^ i := by simp [inM]
theorem inM_bit (ord : List Nat) (k : Nat) : (inM ord).testBit k = ord.contains k := by
  have key : ∀ (l : List Nat) (s : Nat), (l.foldl (fun s i => s ||| 2 ^ i) s).testBit k = (s.testBit k || l.contains k) := by
    intro l
    induction l with
    | nil => intro s; simp
    | cons i l ih =>
      intro s
      have e : decide (i = k) = (k == i) := by
        by_cases h : i = k
        · subst h; simp
        · have h' : ¬ k = i := fun q => h q.symm
          simp [h, h']
      rw [List.foldl_cons, ih, or_bit, List.contains_cons, Bool.or_assoc, e]
  have := key ord 0
  simpa [inM] using this
theorem inM_lt {n : Nat} (hn : n ≤ 16) (ord : List Nat) (h : ∀ i ∈ ord, i < n) : inM ord < 65537 := by
  have key : ∀ (l : List Nat) (s : Nat), (∀ i ∈ l, i < n) → s < 2 ^ n → l.foldl (fun s i => s ||| 2 ^ i) s < 2 ^ n := by
    intro l
    induction l with
    | nil => intro s _ hs; exact hs
    | cons i l ih =>
      intro s hl hs
      refine ih _ (fun k hk => hl k (by simp [hk])) ?_
      exact Nat.or_lt_two_pow hs (Nat.pow_lt_pow_right (by omega) (hl i (by simp)))
  have h1 := key ord 0 h (Nat.pow_pos (by omega))
  have h2 := pow_le16 hn
  show ord.foldl _ 0 < _
  omega
/-- The set of those among the first j that returned. -/
def retN (sp : List Sp) : Nat → Nat
  | 0 => 0
  | j + 1 => if (spAt sp j).2 = -1 then retN sp j else retN sp j ||| 2 ^ j
theorem retN_lt (sp : List Sp) : ∀ j, retN sp j < 2 ^ j
  | 0 => by simp [retN]
  | j + 1 => by
    have ih := retN_lt sp j
    simp only [retN]
    have h2 : 2 ^ j < 2 ^ (j + 1) := by rw [Nat.pow_succ]; omega
    split
    · omega
    · exact Nat.or_lt_two_pow (by omega) h2
theorem retN_small (sp : List Sp) (j : Nat) (h : j ≤ 16) : retN sp j < 65537 := by
  have a := retN_lt sp j
  have b := pow_le16 h
  omega
theorem retN_bit (sp : List Sp) : ∀ n k, (retN sp n).testBit k = (decide (k < n) && decide ((spAt sp k).2 ≠ -1))
  | 0, k => by simp [retN]
  | n + 1, k => by
    have ih := retN_bit sp n k
    simp only [retN]
    split
    · rename_i h
      rw [ih]
      by_cases e : k = n
      · subst e; simp [h]
      · congr 1
        rw [decide_eq_decide]; omega
    · rename_i h
      rw [or_bit, ih]
      by_cases e : k = n
      · subst e; simp [h]
      · have e1 : decide (n = k) = false := decide_eq_false (fun q => e q.symm)
        rw [e1, Bool.or_false]
        congr 1
        rw [decide_eq_decide]; omega
theorem whole_bits {sp : List Sp} {ord : List Nat} (hn : sp.length ≤ 16) (h : ∀ i ∈ ord, i < sp.length) : decide (retN sp sp.length &&& (18446744073709551615 - inM ord) = 0) = wholeB sp ord := by
  rw [Bool.eq_iff_iff, decide_eq_true_eq, sub_zero _ _ (retN_small sp _ hn) (inM_lt hn ord h)]
  unfold wholeB
  simp only [List.all_eq_true, List.mem_range, Bool.or_eq_true, decide_eq_true_eq, retN_bit, Bool.and_eq_true, inM_bit]
  constructor
  · intro q j hj
    by_cases e : (spAt sp j).2 = -1
    · exact Or.inl e
    · exact Or.inr (q j ⟨hj, e⟩)
  · intro q k hk
    rcases q k hk.1 with e | e
    · exact absurd e hk.2
    · exact e
theorem may_bits {sp : List Sp} {ord : List Nat} {i : Nat} (hn : sp.length ≤ 16) (h : ∀ i ∈ ord, i < sp.length) : condP sp sp.length (inM ord) i = mayB sp ord i := by
  rw [Bool.eq_iff_iff, cond_in hn (inM_lt hn ord h)]
  unfold mayB
  simp only [Bool.and_eq_true, List.all_eq_true, List.mem_range, Bool.or_eq_true, Bool.not_eq_true', inM_bit]
  constructor
  · rintro ⟨a, b⟩
    refine ⟨a, fun j hj => ?_⟩
    cases q : ahd (spAt sp j) (spAt sp i)
    · exact Or.inl rfl
    · exact Or.inr (b j hj q)
  · rintro ⟨a, b⟩
    refine ⟨a, fun j hj q => ?_⟩
    rcases b j hj with e | e
    · rw [e] at q; cases q
    · exact e
end Go.Proofs.YtcphajjonecmbaaDoor

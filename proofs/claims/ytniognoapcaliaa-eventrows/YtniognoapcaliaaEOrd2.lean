/- Layer 5: the sets of operations: what the program asks and what the reference asks is one. No walk. -/
import Derived.Test.YtniognoapcaliaaEFits3
namespace Go.Proofs.Ytniognoapcaliaa
open Go.RowKit

theorem befN_bit (sp : List Sp) (i : Nat) : ∀ (n k : Nat), (befN sp i n).testBit k = (decide (k < n) && ahd (spAt sp k) (spAt sp i))
  | 0, k => by simp [befN]
  | n + 1, k => by
    have ih := befN_bit sp i n k
    simp only [befN]
    by_cases h : ahd (spAt sp n) (spAt sp i) = true
    · rw [if_pos h, Nat.testBit_or, ih, Nat.testBit_two_pow]
      by_cases e : n = k
      · subst e; simp [h]
      · have : decide (k < n + 1) = decide (k < n) := by by_cases q : k < n <;> simp [q] <;> omega
        rw [this]; simp [e]
    · rw [if_neg h, ih]
      have h' : ahd (spAt sp n) (spAt sp i) = false := by simpa using h
      by_cases e : k = n
      · subst e; simp [h']
      · have : decide (k < n + 1) = decide (k < n) := by by_cases q : k < n <;> simp [q] <;> omega
        rw [this]
theorem bit_and_zero (set i : Nat) : set &&& 2 ^ i = 0 ↔ set.testBit i = false := by
  constructor
  · intro h
    have h2 : (set &&& 2 ^ i).testBit i = false := by rw [h]; simp
    rw [Nat.testBit_and, Nat.testBit_two_pow_self, Bool.and_true] at h2
    exact h2
  · intro h
    apply Nat.eq_of_testBit_eq
    intro k
    rw [Nat.testBit_and, Nat.testBit_two_pow]
    by_cases e : i = k
    · subst e; simp [h]
    · simp [e]
theorem bit_sub (set k : Nat) (hs : set < 65537) : (18446744073709551615 - set).testBit k = (decide (k < 64) && !set.testBit k) := by
  have := Nat.testBit_two_pow_sub_succ (x := set) (n := 64) (by omega) k
  rw [show 2 ^ 64 - (set + 1) = 18446744073709551615 - set by omega] at this
  exact this
theorem sub_zero (a set : Nat) (ha : a < 65537) (hs : set < 65537) : a &&& (18446744073709551615 - set) = 0 ↔ ∀ k, a.testBit k = true → set.testBit k = true := by
  constructor
  · intro h k hk
    have h2 : (a &&& (18446744073709551615 - set)).testBit k = false := by rw [h]; simp
    rw [Nat.testBit_and, hk, bit_sub set k hs, Bool.true_and] at h2
    have h64 : k < 64 := by
      apply Classical.byContradiction
      intro q
      have : a < 2 ^ k := Nat.lt_of_lt_of_le (by omega : a < 2 ^ 64) (Nat.pow_le_pow_right (by omega) (by omega))
      rw [Nat.testBit_lt_two_pow this] at hk
      cases hk
    simpa [h64] using h2
  · intro h
    apply Nat.eq_of_testBit_eq
    intro k
    rw [Nat.testBit_and, bit_sub set k hs]
    cases q : a.testBit k
    · simp
    · rw [h k q]; simp
/-- What the reference asks of i: is none that is not yet in the set ahead of it, among the first k? -/
def firstN (sp : List Sp) (set i : Nat) : Nat → Bool
  | 0 => true
  | k + 1 => firstN sp set i k && !(decide (k ≠ i) && (!set.testBit k && ahd (spAt sp k) (spAt sp i)))
theorem firstN_iff {sp : List Sp} {set i : Nat} : ∀ {n : Nat}, firstN sp set i n = true ↔ ∀ k, k < n → k ≠ i → set.testBit k = false → ahd (spAt sp k) (spAt sp i) = false
  | 0 => by simp [firstN]
  | n + 1 => by
    simp only [firstN, Bool.and_eq_true, firstN_iff (n := n)]
    constructor
    · rintro ⟨h1, h2⟩ k hk hne hb
      by_cases e : k = n
      · subst e
        simp [hne, hb] at h2
        exact h2
      · exact h1 k (by omega) hne hb
    · intro h
      refine ⟨fun k hk => h k (by omega), ?_⟩
      by_cases e : n = i
      · simp [e]
      · cases hb : set.testBit n
        · simp [h n (by omega) e hb]
        · simp
theorem cond_iff {sp : List Sp} {n set i : Nat} (hn : n ≤ 16) (hs : set < 65537) (hi : i < n) (hself : ahd (spAt sp i) (spAt sp i) = false) : condP sp n set i = (!set.testBit i && firstN sp set i n) := by
  unfold condP
  rw [Bool.eq_iff_iff]
  simp only [Bool.and_eq_true, decide_eq_true_eq, Bool.not_eq_true']
  rw [bit_and_zero, sub_zero _ _ (befN_small sp i n hn) hs, firstN_iff]
  constructor
  · rintro ⟨h1, h2⟩
    refine ⟨h1, fun k hk hne hb => ?_⟩
    cases q : ahd (spAt sp k) (spAt sp i)
    · rfl
    · have := h2 k (by rw [befN_bit]; simp [hk, q])
      rw [hb] at this; cases this
  · rintro ⟨h1, h2⟩
    refine ⟨h1, fun k hk => ?_⟩
    rw [befN_bit] at hk
    simp at hk
    cases q : set.testBit k
    · by_cases e : k = i
      · subst e; rw [hself] at hk; cases hk.2
      · have := h2 k hk.1 e q
        rw [this] at hk; cases hk.2
    · rfl
def I64' (a : Int) : Prop := -9223372036854775808 ≤ a ∧ a ≤ 9223372036854775807
theorem wrap_in (a : Int) : I64' (wrap64 a) := by unfold I64' wrap64; omega
theorem wrap_id {a : Int} (h : I64' a) : wrap64 a = a := by unfold I64' at h; unfold wrap64; omega
theorem inW_in {sp : List Sp} {n set : Nat} {f : Nat → Int} (h : ∀ x, I64' (f x)) : ∀ i x, I64' (inW sp n set f i x)
  | 0, x => h x
  | i + 1, x => by
    simp only [inW]
    split
    · dsimp only
      split
      · exact wrap_in _
      · exact inW_in h i x
    · exact inW_in h i x
theorem outW_in (sp : List Sp) (n : Nat) : ∀ s x, I64' (outW sp n s x)
  | 0, x => by simp only [outW]; split <;> (unfold I64'; omega)
  | s + 1, x => inW_in (outW_in sp n s) n x
theorem inW_zero {sp : List Sp} {n set : Nat} {f : Nat → Int} (h : ∀ x, I64' (f x)) (h0 : f set = 0) : ∀ i, inW sp n set f i = f
  | 0 => rfl
  | i + 1 => by
    have ih := inW_zero (sp := sp) (n := n) h h0 i
    simp only [inW]
    split
    · funext x
      rw [ih]
      split
      · rename_i e
        rw [h0, Int.add_zero, wrap_id (h _), e]
      · rfl
    · exact ih
/-- The operations that have returned, among the first k. -/
def rtC (l : List (Sp × Value)) : Nat → List (Sp × Value)
  | 0 => []
  | k + 1 => match l[k]? with
    | some x => if x.1.2 = -1 then rtC l k else rtC l k ++ [x]
    | none => rtC l k
theorem rtC_map {l : List (Sp × Value)} {sp : List Sp} (h : l.map (·.1) = sp) : ∀ k, k ≤ sp.length → (rtC l k).map (·.1) = rtN sp k
  | 0, _ => rfl
  | k + 1, hk => by
    obtain ⟨x, hx, e, _⟩ := getE_of_map h (k := k) (by omega)
    have ih := rtC_map h k (by omega)
    simp only [rtC, rtN, hx, e]
    split
    · exact ih
    · rw [List.map_append, ih]; simp [e]
theorem rtC_le (l : List (Sp × Value)) : ∀ k, (rtC l k).length ≤ k
  | 0 => Nat.le_refl _
  | k + 1 => by
    have := rtC_le l k
    simp only [rtC]
    split
    · split
      · omega
      · simp; omega
    · omega
theorem rtN_self {sp : List Sp} (h : ∀ k, k < sp.length → (spAt sp k).2 = -1 ∨ ((spAt sp k).1 : Int) < (spAt sp k).2) : ∀ n, n ≤ sp.length → ∀ p ∈ rtN sp n, ahd p p = false
  | 0, _, p, hp => by cases hp
  | n + 1, hn, p, hp => by
    have ih := rtN_self h n (by omega)
    simp only [rtN] at hp
    split at hp
    · exact ih p hp
    · rcases List.mem_append.1 hp with q | q
      · exact ih p q
      · simp only [List.mem_singleton] at q
        subst q
        unfold ahd
        rcases h n (by omega) with r | r
        · simp [r]
        · have : ¬ (spAt sp n).2 < ((spAt sp n).1 : Int) := by omega
          simp [this]
theorem spAt_mem {sp : List Sp} {i : Nat} (h : i < sp.length) : spAt sp i ∈ sp := by
  unfold spAt
  rw [List.getD_eq_getElem?_getD, List.getElem?_eq_getElem h]
  exact List.getElem_mem _
theorem bit_shr (s j : Nat) (hs : s < 65537) : bits .and .i64 ((s : Int) / 2 ^ j) 1 = if s.testBit j then 1 else 0 := by
  have e : ((s : Int) / 2 ^ j) = ((s / 2 ^ j : Nat) : Int) := by
    rw [Int.natCast_ediv]; simp
  have hl : s / 2 ^ j ≤ s := Nat.div_le_self _ _
  rw [e, show (1 : Int) = ((1 : Nat) : Int) from rfl, i64_and_nat _ _ (by omega) (by omega), Nat.and_one_is_mod, Nat.testBit_eq_decide_div_mod_eq]
  by_cases h : s / 2 ^ j % 2 = 1
  · simp [h]
  · have h0 : s / 2 ^ j % 2 = 0 := by omega
    simp [h0]
end Go.Proofs.Ytniognoapcaliaa

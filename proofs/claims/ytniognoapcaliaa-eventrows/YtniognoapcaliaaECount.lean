/- Layer 5: how many orders there are, as data: at least one; one just where all stand in a row. No function of the program. -/
import Derived.Test.YtniognoapcaliaaEOrd2
namespace Go.Proofs.Ytniognoapcaliaa
open Go.RowKit

def inN (sp : List Sp) (n set : Nat) (f : Nat → Nat) : Nat → (Nat → Nat)
  | 0 => f
  | i + 1 => if condP sp n set i then (fun x => if x = set ||| 2 ^ i then inN sp n set f i (set ||| 2 ^ i) + inN sp n set f i set else inN sp n set f i x) else inN sp n set f i
def outN (sp : List Sp) (n : Nat) : Nat → (Nat → Nat)
  | 0 => fun x => if x = 0 then 1 else 0
  | s + 1 => inN sp n s (outN sp n s) n
theorem wrap_add (a b : Int) : wrap64 (wrap64 a + wrap64 b) = wrap64 (a + b) := by unfold wrap64; omega
theorem inW_inN {sp : List Sp} {n set : Nat} {f : Nat → Int} {g : Nat → Nat} (h : ∀ x, f x = wrap64 (g x)) : ∀ i x, inW sp n set f i x = wrap64 (inN sp n set g i x)
  | 0, x => h x
  | i + 1, x => by
    simp only [inW, inN]
    split
    · dsimp only
      split
      · rw [inW_inN h i, inW_inN h i, wrap_add]; rfl
      · exact inW_inN h i x
    · exact inW_inN h i x
theorem outW_outN (sp : List Sp) (n : Nat) : ∀ s x, outW sp n s x = wrap64 (outN sp n s x)
  | 0, x => by
    simp only [outW, outN]
    split <;> (unfold wrap64; omega)
  | s + 1, x => inW_inN (outW_outN sp n s) n x
theorem condP_bit {sp : List Sp} {n set i : Nat} (h : condP sp n set i = true) : set.testBit i = false := by
  unfold condP at h
  simp only [Bool.and_eq_true, decide_eq_true_eq] at h
  exact (bit_and_zero set i).1 h.1
theorem or_ne_bit {set i : Nat} (h : set.testBit i = false) : set ||| 2 ^ i ≠ set := or_ne ((bit_and_zero set i).2 h)
theorem or_bit (set i k : Nat) : (set ||| 2 ^ i).testBit k = (set.testBit k || decide (i = k)) := by
  rw [Nat.testBit_or, Nat.testBit_two_pow]
theorem or_inj {set i k : Nat} (hk : set.testBit k = false) (h : set ||| 2 ^ i = set ||| 2 ^ k) : i = k := by
  have := congrArg (fun x => x.testBit k) h
  simp only [or_bit, hk, Bool.false_or] at this
  simpa using this
theorem inN_set {sp : List Sp} {n set : Nat} {f : Nat → Nat} : ∀ i, inN sp n set f i set = f set
  | 0 => rfl
  | i + 1 => by
    simp only [inN]
    split
    · rename_i h
      dsimp only
      rw [if_neg (fun q => or_ne_bit (condP_bit h) q.symm), inN_set i]
    · exact inN_set i
theorem inN_other {sp : List Sp} {n set x : Nat} {f : Nat → Nat} : ∀ i, (∀ k, k < i → condP sp n set k = true → x ≠ set ||| 2 ^ k) → inN sp n set f i x = f x
  | 0, _ => rfl
  | i + 1, h => by
    have ih := inN_other (f := f) i (fun k hk => h k (by omega))
    simp only [inN]
    split
    · rename_i hc
      dsimp only
      rw [if_neg (h i (by omega) hc)]
      exact ih
    · exact ih
theorem inN_eq {sp : List Sp} {n set k : Nat} {f : Nat → Nat} (hc : condP sp n set k = true) : ∀ i, k < i → inN sp n set f i (set ||| 2 ^ k) = f (set ||| 2 ^ k) + f set
  | 0, h => by omega
  | i + 1, h => by
    by_cases e : k = i
    · subst e
      have ih : inN sp n set f k (set ||| 2 ^ k) = f (set ||| 2 ^ k) := inN_other k (fun m hm hcm q => by have := or_inj (condP_bit hcm) q; omega)
      simp only [inN]
      rw [if_pos hc]
      simp only [if_true]
      rw [ih, inN_set]
    · have ih := inN_eq (f := f) hc i (by omega)
      simp only [inN]
      split
      · rename_i hci
        dsimp only
        rw [if_neg (fun q => by have := or_inj (condP_bit hci) q; omega)]
        exact ih
      · exact ih
theorem inN_le {sp : List Sp} {n set x : Nat} {f : Nat → Nat} (i : Nat) : f x ≤ inN sp n set f i x := by
  by_cases h : ∃ k, k < i ∧ condP sp n set k = true ∧ x = set ||| 2 ^ k
  · obtain ⟨k, hk, hc, rfl⟩ := h
    rw [inN_eq hc i hk]
    omega
  · rw [inN_other i (fun k hk hc e => h ⟨k, hk, hc, e⟩)]
    exact Nat.le_refl _
theorem outN_mono (sp : List Sp) (n x : Nat) {s : Nat} : ∀ {s'}, s ≤ s' → outN sp n s x ≤ outN sp n s' x
  | 0, h => by obtain rfl : s = 0 := by omega
               exact Nat.le_refl _
  | s' + 1, h => by
    by_cases e : s = s' + 1
    · subst e; exact Nat.le_refl _
    · exact Nat.le_trans (outN_mono sp n x (by omega)) (inN_le n)
theorem outN_add {sp : List Sp} {n s k : Nat} (hk : k < n) (hc : condP sp n s k = true) : outN sp n (s + 1) (s ||| 2 ^ k) = outN sp n s (s ||| 2 ^ k) + outN sp n s s := inN_eq hc n hk

/-- Rows of spans as a history has them: none is ahead of an earlier one. -/
def Later (sp : List Sp) : Prop := ∀ i k, i ≤ k → k < sp.length → ahd (spAt sp k) (spAt sp i) = false
theorem seg_bit (m k : Nat) : (2 ^ m - 1).testBit k = decide (k < m) := by simp
theorem seg_or (m : Nat) : (2 ^ m - 1) ||| 2 ^ m = 2 ^ (m + 1) - 1 := by
  apply Nat.eq_of_testBit_eq
  intro k
  rw [or_bit, seg_bit, seg_bit]
  by_cases h : k < m
  · simp [h]; omega
  · by_cases e : m = k
    · subst e; simp
    · simp [h, e]; omega
theorem seg_lt {m n : Nat} (h : m ≤ n) : 2 ^ m ≤ 2 ^ n := pow_le16 h
/-- May i come behind the set: in words. -/
theorem cond_in {sp : List Sp} {n set i : Nat} (hn : n ≤ 16) (hs : set < 65537) : condP sp n set i = true ↔ set.testBit i = false ∧ ∀ k, k < n → ahd (spAt sp k) (spAt sp i) = true → set.testBit k = true := by
  unfold condP
  simp only [Bool.and_eq_true, decide_eq_true_eq]
  rw [bit_and_zero, sub_zero _ _ (befN_small sp i n hn) hs]
  simp only [befN_bit, Bool.and_eq_true, decide_eq_true_eq]
  constructor
  · rintro ⟨h1, h2⟩; exact ⟨h1, fun k hk ha => h2 k ⟨hk, ha⟩⟩
  · rintro ⟨h1, h2⟩; exact ⟨h1, fun k hk => h2 k hk.1 hk.2⟩
theorem pow16 {m : Nat} (h : m ≤ 16) : 2 ^ m ≤ 65536 := pow_le16 h
theorem seg_step {sp : List Sp} {c m : Nat} (hn : sp.length ≤ 16) (hl : Later sp) (hm : m < sp.length) (h : c ≤ outN sp sp.length (2 ^ m - 1) (2 ^ m - 1)) : c ≤ outN sp sp.length (2 ^ (m + 1) - 1) (2 ^ (m + 1) - 1) := by
  have p1 : 2 ^ m ≤ 65536 := pow16 (by omega)
  have p2 : 0 < 2 ^ m := Nat.pow_pos (by omega)
  have p3 : 2 ^ (m + 1) = 2 * 2 ^ m := by rw [Nat.pow_succ]; omega
  have hc : condP sp sp.length (2 ^ m - 1) m = true := by
    rw [cond_in hn (by omega)]
    refine ⟨by rw [seg_bit]; simp, fun k hk ha => ?_⟩
    rw [seg_bit]
    by_cases e : k < m
    · simpa using e
    · have := hl m k (by omega) hk
      rw [this] at ha; cases ha
  have ha := outN_add hm hc
  rw [seg_or] at ha
  have hm2 := outN_mono sp sp.length (2 ^ (m + 1) - 1) (s := 2 ^ m - 1 + 1) (s' := 2 ^ (m + 1) - 1) (by omega)
  omega
theorem seg_up {sp : List Sp} {c m : Nat} (hn : sp.length ≤ 16) (hl : Later sp) (h : c ≤ outN sp sp.length (2 ^ m - 1) (2 ^ m - 1)) : ∀ d, m + d ≤ sp.length → c ≤ outN sp sp.length (2 ^ (m + d) - 1) (2 ^ (m + d) - 1)
  | 0, _ => h
  | d + 1, hd => by
    have := seg_step (m := m + d) hn hl (by omega) (seg_up hn hl h d (by omega))
    exact this
theorem seg_one {sp : List Sp} (hn : sp.length ≤ 16) (hl : Later sp) {m : Nat} (hm : m ≤ sp.length) : 1 ≤ outN sp sp.length (2 ^ m - 1) (2 ^ m - 1) := by
  have := seg_up (m := 0) (c := 1) hn hl (by show 1 ≤ outN sp sp.length 0 0; exact Nat.le_refl 1) m (by omega)
  simpa using this
/-- Two neighbours of which neither is ahead: two orders at least. -/
theorem two_orders {sp : List Sp} (hn : sp.length ≤ 16) (hl : Later sp) {k : Nat} (hk : k + 1 < sp.length) (hne : ahd (spAt sp k) (spAt sp (k + 1)) = false) : 2 ≤ outN sp sp.length (2 ^ sp.length - 1) (2 ^ sp.length - 1) := by
  have p1 : 2 ^ (k + 2) ≤ 65536 := pow16 (by omega)
  have p0 : 0 < 2 ^ k := Nat.pow_pos (by omega)
  have p2 : 2 ^ (k + 1) = 2 * 2 ^ k := by rw [Nat.pow_succ]; omega
  have p3 : 2 ^ (k + 2) = 4 * 2 ^ k := by rw [Nat.pow_succ, Nat.pow_succ]; omega
  have eA : ∀ x, ((2 ^ k - 1) ||| 2 ^ (k + 1)).testBit x = (decide (x < k) || decide (k + 1 = x)) := fun x => by rw [or_bit, seg_bit]
  have eAv : (2 ^ k - 1) ||| 2 ^ (k + 1) = 2 ^ k - 1 + 2 ^ (k + 1) := by
    have h := Nat.two_pow_add_eq_or_of_lt (i := k + 1) (b := 2 ^ k - 1) (by omega) 1
    rw [Nat.mul_one] at h
    rw [Nat.or_comm, ← h]
    omega
  have c1 : condP sp sp.length (2 ^ k - 1) (k + 1) = true := by
    rw [cond_in hn (by omega)]
    refine ⟨by rw [seg_bit]; simp, fun x hx ha => ?_⟩
    rw [seg_bit]
    by_cases e : x < k
    · simpa using e
    · by_cases e2 : x = k
      · subst e2; rw [hne] at ha; cases ha
      · have := hl (k + 1) x (by omega) hx; rw [this] at ha; cases ha
  have c2 : condP sp sp.length ((2 ^ k - 1) ||| 2 ^ (k + 1)) k = true := by
    rw [cond_in hn (by omega)]
    refine ⟨by rw [eA]; simp, fun x hx ha => ?_⟩
    rw [eA]
    by_cases e : x < k
    · simp [e]
    · have := hl k x (by omega) hx; rw [this] at ha; cases ha
  have c3 : condP sp sp.length (2 ^ (k + 1) - 1) (k + 1) = true := by
    rw [cond_in hn (by omega)]
    refine ⟨by rw [seg_bit]; simp, fun x hx ha => ?_⟩
    rw [seg_bit]
    by_cases e : x < k + 1
    · simpa using e
    · have := hl (k + 1) x (by omega) hx; rw [this] at ha; cases ha
  have a1 := outN_add (show k + 1 < sp.length from hk) c1
  have a2 := outN_add (show k < sp.length by omega) c2
  have a3 := outN_add (show k + 1 < sp.length from hk) c3
  have ex : ((2 ^ k - 1) ||| 2 ^ (k + 1)) ||| 2 ^ k = 2 ^ (k + 2) - 1 := by
    apply Nat.eq_of_testBit_eq
    intro x
    rw [or_bit, eA, seg_bit]
    by_cases h : x < k
    · simp [h]; omega
    · by_cases h1 : k = x
      · subst h1; simp
      · by_cases h2 : k + 1 = x
        · subst h2; simp
        · simp [h, h1, h2]; omega
  rw [ex, eAv] at a2
  rw [seg_or, show k + 1 + 1 = k + 2 from rfl] at a3
  rw [eAv] at a1
  have o1 := seg_one hn hl (m := k) (by omega)
  have o2 := seg_one hn hl (m := k + 1) (by omega)
  have m1 := outN_mono sp sp.length (2 ^ k - 1 + 2 ^ (k + 1)) (s := 2 ^ k - 1 + 1) (s' := 2 ^ k - 1 + 2 ^ (k + 1)) (by omega)
  have m2 := outN_mono sp sp.length (2 ^ (k + 2) - 1) (s := 2 ^ (k + 1) - 1 + 1) (s' := 2 ^ k - 1 + 2 ^ (k + 1)) (by omega)
  have m3 := outN_mono sp sp.length (2 ^ (k + 2) - 1) (s := 2 ^ k - 1 + 2 ^ (k + 1) + 1) (s' := 2 ^ (k + 2) - 1) (by omega)
  have h2 : 2 ≤ outN sp sp.length (2 ^ (k + 2) - 1) (2 ^ (k + 2) - 1) := by omega
  have := seg_up (m := k + 2) hn hl h2 (sp.length - (k + 2)) (by omega)
  rwa [show k + 2 + (sp.length - (k + 2)) = sp.length by omega] at this
/-- All in a row: one order. -/
theorem row_value {sp : List Sp} (hn : sp.length ≤ 16) (ha : ∀ i k, i < k → k < sp.length → ahd (spAt sp i) (spAt sp k) = true) : ∀ s, s ≤ 2 ^ sp.length → ∀ x, outN sp sp.length s x ≤ 1 ∧ (outN sp sp.length s x = 0 ∨ ∃ m, m ≤ sp.length ∧ x = 2 ^ m - 1 ∧ (m = 0 ∨ 2 ^ (m - 1) - 1 < s))
  | 0, _, x => by
    simp only [outN]
    split
    · rename_i h; exact ⟨Nat.le_refl _, Or.inr ⟨0, Nat.zero_le _, by simpa using h, Or.inl rfl⟩⟩
    · exact ⟨Nat.zero_le _, Or.inl rfl⟩
  | s + 1, hs, x => by
    have ih := row_value hn ha s (by omega)
    have p16 : 2 ^ sp.length ≤ 65536 := pow16 hn
    by_cases h : ∃ k, k < sp.length ∧ condP sp sp.length s k = true ∧ x = s ||| 2 ^ k
    · obtain ⟨k, hk, hc, rfl⟩ := h
      rw [outN_add hk hc]
      by_cases h0 : outN sp sp.length s s = 0
      · rw [h0, Nat.add_zero]
        obtain ⟨i1, i2⟩ := ih (s ||| 2 ^ k)
        refine ⟨i1, ?_⟩
        rcases i2 with q | ⟨m, q1, q2, q3⟩
        · exact Or.inl q
        · exact Or.inr ⟨m, q1, q2, by omega⟩
      · rcases (ih s).2 with q | ⟨m, hm, e, _⟩
        · exact absurd q h0
        · subst e
          rw [cond_in hn (by omega)] at hc
          have hmk : k = m := by
            have h1 := hc.1
            rw [seg_bit] at h1
            have h1' : ¬ k < m := by simpa using h1
            by_cases e : k = m
            · exact e
            · have h2 := hc.2 m (by omega) (ha m k (by omega) hk)
              rw [seg_bit] at h2
              simp at h2
          subst hmk
          rw [seg_or]
          have hz : outN sp sp.length (2 ^ k - 1) (2 ^ (k + 1) - 1) = 0 := by
            rcases (ih (2 ^ (k + 1) - 1)).2 with q | ⟨m, q1, q2, q3⟩
            · exact q
            · exfalso
              have hmm : m = k + 1 := by
                have a := congrArg (fun x => x.testBit k) q2
                have b := congrArg (fun x => x.testBit (k + 1)) q2
                simp only [seg_bit] at a b
                simp at a b
                omega
              subst hmm
              rcases q3 with q3 | q3
              · omega
              · rw [Nat.add_sub_cancel] at q3; omega
          refine ⟨?_, Or.inr ⟨k + 1, by omega, rfl, Or.inr (by rw [Nat.add_sub_cancel]; omega)⟩⟩
          have := (ih (2 ^ k - 1)).1
          omega
    · have e : outN sp sp.length (s + 1) x = outN sp sp.length s x := inN_other _ (fun k hk hc q => h ⟨k, hk, hc, q⟩)
      rw [e]
      obtain ⟨i1, i2⟩ := ih x
      refine ⟨i1, ?_⟩
      rcases i2 with q | ⟨m, q1, q2, q3⟩
      · exact Or.inl q
      · exact Or.inr ⟨m, q1, q2, by omega⟩

def pcN (x : Nat) : Nat → Nat
  | 0 => 0
  | i + 1 => pcN x i + (if x.testBit i then 1 else 0)
def ctN (x s : Nat) : Nat → Nat
  | 0 => 0
  | i + 1 => ctN x s i + (if x.testBit i = true ∧ x ^^^ 2 ^ i < s then 1 else 0)
theorem ctN_le (x s : Nat) : ∀ n, ctN x s n ≤ n
  | 0 => Nat.le_refl _
  | n + 1 => by
    have := ctN_le x s n
    simp only [ctN]
    split <;> omega
theorem ctN_mono (x s : Nat) : ∀ n, ctN x s n ≤ ctN x (s + 1) n
  | 0 => Nat.le_refl _
  | n + 1 => by
    have := ctN_mono x s n
    simp only [ctN]
    by_cases h : x.testBit n = true ∧ x ^^^ 2 ^ n < s
    · rw [if_pos h, if_pos ⟨h.1, by omega⟩]; omega
    · rw [if_neg h]
      split <;> omega
theorem ctN_more {x s k : Nat} (hb : x.testBit k = true) (he : x ^^^ 2 ^ k = s) : ∀ n, k < n → ctN x s n + 1 ≤ ctN x (s + 1) n
  | 0, h => by omega
  | n + 1, h => by
    simp only [ctN]
    by_cases e : k = n
    · subst e
      have := ctN_mono x s k
      rw [if_neg (by omega), if_pos ⟨hb, by omega⟩]
      omega
    · have ih := ctN_more hb he n (by omega)
      by_cases q : x.testBit n = true ∧ x ^^^ 2 ^ n < s
      · rw [if_pos q, if_pos ⟨q.1, by omega⟩]; omega
      · rw [if_neg q]
        split <;> omega
theorem pcN_or {s k : Nat} (hb : s.testBit k = false) : ∀ n, pcN (s ||| 2 ^ k) n = pcN s n + (if k < n then 1 else 0)
  | 0 => by simp [pcN]
  | n + 1 => by
    have ih := pcN_or hb n
    simp only [pcN, or_bit]
    rw [ih]
    by_cases e : k = n
    · subst e; simp [hb]
    · by_cases h : k < n
      · rw [if_pos h, if_pos (show k < n + 1 by omega)]
        simp [e]
        omega
      · rw [if_neg h, if_neg (show ¬ k < n + 1 by omega)]
        simp [e]
theorem or_xor {s k : Nat} (hb : s.testBit k = false) : (s ||| 2 ^ k) ^^^ 2 ^ k = s := by
  apply Nat.eq_of_testBit_eq
  intro x
  rw [Nat.testBit_xor, or_bit, Nat.testBit_two_pow]
  by_cases e : k = x
  · subst e; simp [hb]
  · simp [e]
theorem outN_zero (sp : List Sp) (n : Nat) : ∀ s, outN sp n s 0 = 1
  | 0 => rfl
  | s + 1 => by
    show inN sp n s (outN sp n s) n 0 = 1
    rw [inN_other n (fun k _ _ e => by
      have := congrArg (fun x => x.testBit k) e
      simp at this), outN_zero sp n s]
theorem outN_bound (sp : List Sp) (n : Nat) : ∀ s x, x ≠ 0 → outN sp n s x ≤ ctN x s n * n ^ (pcN x n - 1)
  | 0, x, hx => by simp [outN, hx]
  | s + 1, x, hx => by
    have ih := outN_bound sp n s
    by_cases h : ∃ k, k < n ∧ condP sp n s k = true ∧ x = s ||| 2 ^ k
    · obtain ⟨k, hk, hc, rfl⟩ := h
      have hb := condP_bit hc
      rw [outN_add hk hc]
      have e1 : pcN (s ||| 2 ^ k) n - 1 = pcN s n := by rw [pcN_or hb n, if_pos hk]; omega
      have h1 := ih (s ||| 2 ^ k) hx
      rw [e1] at h1 ⊢
      have h2 : outN sp n s s ≤ n ^ pcN s n := by
        by_cases e : s = 0
        · subst e
          rw [outN_zero]
          exact Nat.pow_pos (by omega)
        · have h3 := ih s e
          have h4 : 1 ≤ pcN s n ∨ outN sp n s s = 0 := by
            by_cases q : ctN s s n = 0
            · right; rw [q, Nat.zero_mul] at h3; omega
            · left
              have : ∀ m, ctN s s m ≠ 0 → 1 ≤ pcN s m := by
                intro m
                induction m with
                | zero => intro q; simp [ctN] at q
                | succ m ihm =>
                  intro q
                  simp only [ctN] at q
                  simp only [pcN]
                  by_cases z : ctN s s m = 0
                  · by_cases y : s.testBit m = true ∧ s ^^^ 2 ^ m < s
                    · rw [if_pos y.1]; omega
                    · rw [if_neg y, z] at q; exact absurd rfl q
                  · have := ihm z; omega
              exact this n q
          rcases h4 with h4 | h4
          · have h5 : ctN s s n * n ^ (pcN s n - 1) ≤ n * n ^ (pcN s n - 1) := Nat.mul_le_mul_right _ (ctN_le s s n)
            have h6 : n * n ^ (pcN s n - 1) = n ^ pcN s n := by
              rw [Nat.mul_comm, ← Nat.pow_succ]
              congr 1
              omega
            omega
          · rw [h4]; exact Nat.zero_le _
      have h3 := ctN_more (x := s ||| 2 ^ k) (s := s) (k := k) (by rw [or_bit]; simp) (or_xor hb) n hk
      have h4 : (ctN (s ||| 2 ^ k) s n + 1) * n ^ pcN s n ≤ ctN (s ||| 2 ^ k) (s + 1) n * n ^ pcN s n := Nat.mul_le_mul_right _ h3
      rw [Nat.add_mul, Nat.one_mul] at h4
      omega
    · have e : outN sp n (s + 1) x = outN sp n s x := inN_other _ (fun k hk hc q => h ⟨k, hk, hc, q⟩)
      rw [e]
      exact Nat.le_trans (ih x hx) (Nat.mul_le_mul_right _ (ctN_mono x s n))
theorem pcN_le (x : Nat) : ∀ n, pcN x n ≤ n
  | 0 => Nat.le_refl _
  | n + 1 => by
    have := pcN_le x n
    simp only [pcN]
    split <;> omega
/-- The number of orders of at most twelve. -/
def ordsN (sp : List Sp) : Nat := outN sp sp.length (2 ^ sp.length) (2 ^ sp.length - 1)
theorem ords_eq {sp : List Sp} (hn : sp.length ≤ 12) : ordsA sp = (ordsN sp : Int) := by
  unfold ordsA ordsN
  rw [outW_outN]
  apply wrap_id
  have hb : outN sp sp.length (2 ^ sp.length) (2 ^ sp.length - 1) ≤ 8916100448256 := by
    by_cases h0 : 2 ^ sp.length - 1 = 0
    · rw [h0, outN_zero]; omega
    · have h1 := outN_bound sp sp.length (2 ^ sp.length) (2 ^ sp.length - 1) h0
      have hpos : 0 < sp.length := by
        rcases Nat.eq_zero_or_pos sp.length with q | q
        · rw [q] at h0; exact absurd rfl h0
        · exact q
      have h2 : ctN (2 ^ sp.length - 1) (2 ^ sp.length) sp.length * sp.length ^ (pcN (2 ^ sp.length - 1) sp.length - 1) ≤ 12 * 12 ^ 11 := by
        refine Nat.mul_le_mul (Nat.le_trans (ctN_le _ _ _) hn) ?_
        have a := pcN_le (2 ^ sp.length - 1) sp.length
        refine Nat.le_trans (Nat.pow_le_pow_left hn _) (Nat.pow_le_pow_right (by omega) (by omega))
      have h3 : 12 * 12 ^ 11 = 8916100448256 := by decide +kernel
      omega
  unfold I64'
  omega
theorem ords_one {sp : List Sp} (hn : sp.length ≤ 12) (hl : Later sp) : 1 ≤ ordsN sp := by
  have := seg_one (sp := sp) (by omega) hl (m := sp.length) (Nat.le_refl _)
  exact Nat.le_trans this (outN_mono _ _ _ (Nat.sub_le _ _))
theorem ords_row {sp : List Sp} (hn : sp.length ≤ 12) (hl : Later sp) (htr : ∀ i k, i < k → k < sp.length → ahd (spAt sp i) (spAt sp (i + 1)) = true → ahd (spAt sp i) (spAt sp k) = true) : ordsN sp = 1 ↔ ∀ i k, i < k → k < sp.length → ahd (spAt sp i) (spAt sp k) = true := by
  constructor
  · intro h i k hik hk
    apply htr i k hik hk
    cases hq : ahd (spAt sp i) (spAt sp (i + 1))
    · have h2 := two_orders (by omega) hl (k := i) (by omega) hq
      have h3 := outN_mono sp sp.length (2 ^ sp.length - 1) (s := 2 ^ sp.length - 1) (s' := 2 ^ sp.length) (Nat.sub_le _ _)
      unfold ordsN at h
      omega
    · rfl
  · intro h
    have h1 := (row_value (by omega) h (2 ^ sp.length) (Nat.le_refl _) (2 ^ sp.length - 1)).1
    have h2 := ords_one hn hl
    unfold ordsN at h2 ⊢
    omega
end Go.Proofs.Ytniognoapcaliaa

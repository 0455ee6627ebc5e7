
/- Stable sorting as data: the middle of a merge; blocks. No function of the program. -/

import Derived.Test.YtljidfaeljpnpaaSPure

namespace Go.Proofs.Ytljidfaeljpnpaa

section

variable {E : Type} {key : E → Int} {pos : E → Nat}

theorem key_le {a b : Nat} {d : Nat → E} (h : SortedOn key pos a b d) {x y : Nat} (hx : a ≤ x) (hxy : x ≤ y) (hy : y < b) : key (d x) ≤ key (d y) := by
  by_cases e : x = y
  · subst e; exact Int.le_refl _
  · have := h x y hx (by omega) hy
    unfold Lt at this
    omega
/-- Where the search in the middle of a merge begins and ends. -/
def loM (a m b : Nat) : Nat := if (a + b) / 2 < m then (a + b) / 2 + m - b else a
def hiM (a m b : Nat) : Nat := if (a + b) / 2 < m then (a + b) / 2 else m
theorem mid_bounds {a m b c : Nat} (h1 : a < m) (h2 : m < b) (hl : loM a m b ≤ c) (hh : c < hiM a m b) : a ≤ c ∧ c < m ∧ m ≤ (a + b) / 2 + m - 1 - c ∧ (a + b) / 2 + m - 1 - c < b := by
  unfold loM at hl
  unfold hiM at hh
  split at hl
  · rename_i z; rw [if_pos z] at hh; omega
  · rename_i z; rw [if_neg z] at hh; omega
theorem mid_le {a m b : Nat} (h1 : a < m) (h2 : m < b) : loM a m b ≤ hiM a m b ∧ a ≤ loM a m b ∧ hiM a m b ≤ m := by
  unfold loM hiM
  split <;> omega
structure MidInv (key : E → Int) (a m b : Nat) (d : Nat → E) (s r : Nat) : Prop where
  lo : loM a m b ≤ s
  le : s ≤ r
  hi : r ≤ hiM a m b
  below : ∀ c, loM a m b ≤ c → c < s → ¬ key (d ((a + b) / 2 + m - 1 - c)) < key (d c)
  above : ∀ c, r ≤ c → c < hiM a m b → key (d ((a + b) / 2 + m - 1 - c)) < key (d c)
theorem MidInv.up {a m b s r c : Nat} {d : Nat → E} (h : MidInv key a m b d s r) (h1 : a < m) (h2 : m < b) (hL : SortedOn key pos a m d) (hR : SortedOn key pos m b d) (hs : s ≤ c) (hr : c < r) (hk : ¬ key (d ((a + b) / 2 + m - 1 - c)) < key (d c)) : MidInv key a m b d (c + 1) r := by
  have hc := mid_bounds h1 h2 (Nat.le_trans h.lo hs) (Nat.lt_of_lt_of_le hr h.hi)
  refine ⟨by have := h.lo; omega, by omega, h.hi, fun x hx hxc => ?_, h.above⟩
  have hb := mid_bounds h1 h2 hx (by have := h.hi; omega)
  have k1 := key_le hL hb.1 (show x ≤ c by omega) hc.2.1
  have k2 := key_le hR hc.2.2.1 (show (a + b) / 2 + m - 1 - c ≤ (a + b) / 2 + m - 1 - x by omega) hb.2.2.2
  omega
theorem MidInv.down {a m b s r c : Nat} {d : Nat → E} (h : MidInv key a m b d s r) (h1 : a < m) (h2 : m < b) (hL : SortedOn key pos a m d) (hR : SortedOn key pos m b d) (hs : s ≤ c) (hr : c < r) (hk : key (d ((a + b) / 2 + m - 1 - c)) < key (d c)) : MidInv key a m b d s c := by
  have hc := mid_bounds h1 h2 (Nat.le_trans h.lo hs) (Nat.lt_of_lt_of_le hr h.hi)
  refine ⟨h.lo, hs, by have := h.hi; omega, h.below, fun x hx hxh => ?_⟩
  have hb := mid_bounds h1 h2 (by have := h.lo; omega) hxh
  have k1 := key_le hL hc.1 hx hb.2.1
  have k2 := key_le hR hb.2.2.1 (show (a + b) / 2 + m - 1 - x ≤ (a + b) / 2 + m - 1 - c by omega) hc.2.2.2
  omega
theorem MidInv.ends {a m b s : Nat} {d : Nat → E} (h : MidInv key a m b d s s) (h1 : a < m) (h2 : m < b) :
    a ≤ s ∧ s ≤ m ∧ m ≤ (a + b) / 2 + m - s ∧ (a + b) / 2 + m - s ≤ b ∧ s + ((a + b) / 2 + m - s - m) = (a + b) / 2 ∧ s ≤ (a + b) / 2 + m ∧
    (s = a ∨ (a + b) / 2 + m - s = b ∨ ¬ key (d ((a + b) / 2 + m - s)) < key (d (s - 1))) ∧ (s = m ∨ (a + b) / 2 + m - s = m ∨ key (d ((a + b) / 2 + m - s - 1)) < key (d s)) := by
  have hm := mid_le h1 h2
  have hl := h.lo
  have hh := h.hi
  have b1 : a ≤ s ∧ s ≤ m ∧ m ≤ (a + b) / 2 + m - s ∧ (a + b) / 2 + m - s ≤ b := by
    unfold loM at hl
    unfold hiM at hh
    split at hl
    · rename_i z; rw [if_pos z] at hh; omega
    · rename_i z; rw [if_neg z] at hh; omega
  refine ⟨b1.1, b1.2.1, b1.2.2.1, b1.2.2.2, by omega, by omega, ?_, ?_⟩
  · by_cases c : loM a m b < s
    · have := h.below (s - 1) (by omega) (by omega)
      rw [show (a + b) / 2 + m - 1 - (s - 1) = (a + b) / 2 + m - s by omega] at this
      exact Or.inr (Or.inr this)
    · have e : s = loM a m b := by omega
      unfold loM at e
      split at e
      · right; left; omega
      · left; exact e
  · by_cases c : s < hiM a m b
    · have := h.above s (Nat.le_refl _) c
      rw [show (a + b) / 2 + m - 1 - s = (a + b) / 2 + m - s - 1 by omega] at this
      exact Or.inr (Or.inr this)
    · have e : s = hiM a m b := by omega
      unfold hiM at e
      split at e
      · right; left; omega
      · left; exact e
theorem div_in {q bs x : Nat} (h1 : q * bs ≤ x) (h2 : x < (q + 1) * bs) : x / bs = q := Nat.div_eq_of_lt_le h1 h2
theorem div_of {x bs : Nat} (hb : 0 < bs) : x / bs * bs ≤ x ∧ x < (x / bs + 1) * bs := by
  refine ⟨Nat.div_mul_le_self x bs, ?_⟩
  have := Nat.lt_mul_div_succ x hb
  rwa [Nat.mul_comm] at this
/-- Of two blocks the elements of the earlier one stood ahead at first. -/
def Sep (pos : E → Nat) (bs n : Nat) (d : Nat → E) : Prop := ∀ x y, x < y → y < n → x / bs < y / bs → pos (d x) < pos (d y)
def Blocks (key : E → Int) (pos : E → Nat) (bs lo hi : Nat) (d : Nat → E) : Prop := ∀ x y, lo ≤ x → x < y → y < hi → x / bs = y / bs → Lt key pos (d x) (d y)
theorem Sep.swaps {bs n q b' : Nat} {d d' : Nat → E} (h : Sep pos bs n d) (s : Swaps (q * bs) b' d d') (hb : b' ≤ (q + 1) * bs) (hn : b' ≤ n) : Sep pos bs n d' := by
  have mv : ∀ x, x < n → ∃ u, u < n ∧ d' x = d u ∧ u / bs = x / bs := by
    intro x hx
    by_cases c : q * bs ≤ x ∧ x < b'
    · obtain ⟨u, u1, u2, u3⟩ := s.of x c.1 c.2
      exact ⟨u, by omega, u3, by rw [div_in u1 (by omega), div_in c.1 (by omega)]⟩
    · exact ⟨x, hx, s.out x (by omega), rfl⟩
  intro x y hxy hy hd
  obtain ⟨u, u1, u2, u3⟩ := mv x (by omega)
  obtain ⟨v, v1, v2, v3⟩ := mv y hy
  rw [u2, v2]
  refine h u v ?_ v1 (by omega)
  by_cases c : u < v
  · exact c
  · have := Nat.div_le_div_right (c := bs) (show v ≤ u by omega)
    omega
theorem Sep.twice {bs n : Nat} {d : Nat → E} (h : Sep pos bs n d) : Sep pos (bs * 2) n d := by
  intro x y hxy hy hd
  refine h x y hxy hy ?_
  by_cases c : x / bs < y / bs
  · exact c
  · have e1 : x / (bs * 2) = x / bs / 2 := by rw [Nat.div_div_eq_div_mul]
    have e2 : y / (bs * 2) = y / bs / 2 := by rw [Nat.div_div_eq_div_mul]
    omega
theorem Sep.apart {bs n q : Nat} {b : Nat} {d : Nat → E} (h : Sep pos bs n d) (hb : b ≤ n) : Apart pos (q * bs) ((q + 1) * bs) b d := by
  intro x y hx hxm hy hyb
  refine h x y (by omega) (by omega) ?_
  rw [div_in hx hxm]
  have := Nat.div_le_div_right (c := bs) hy
  by_cases h0 : bs = 0
  · subst h0; omega
  · rw [Nat.mul_div_cancel _ (by omega)] at this
    omega
theorem Blocks.sorted {bs lo hi q b : Nat} {d : Nat → E} (h : Blocks key pos bs lo hi d) (hl : lo ≤ q * bs) (hb : b ≤ (q + 1) * bs) (hh : b ≤ hi) : SortedOn key pos (q * bs) b d := by
  intro x y hx hxy hy
  exact h x y (by omega) hxy (by omega) (by rw [div_in hx (by omega), div_in (show q * bs ≤ y by omega) (by omega)])
/-- A block more is sorted. -/
theorem Blocks.more {bs n q b' : Nat} {d d' : Nat → E} (h : Blocks key pos bs 0 (q * bs) d) (s : Swaps (q * bs) b' d d') (hs : SortedOn key pos (q * bs) b' d') (hb : b' ≤ (q + 1) * bs) (hn : n ≤ b') : Blocks key pos bs 0 n d' := by
  intro x y h0 hxy hy hd
  by_cases c : y < q * bs
  · rw [s.out x (by omega), s.out y (by omega)]; exact h x y h0 hxy c hd
  · have hyq : y / bs = q := div_in (by omega) (by omega)
    have hx : q * bs ≤ x := by
      have := Nat.div_mul_le_self x bs
      rw [hd, hyq] at this
      exact this
    exact hs x y hx hxy (by omega)
theorem Blocks.last {bs n : Nat} {d : Nat → E} (h : Blocks key pos bs 0 n d) (hb : n ≤ bs) : SortedOn key pos 0 n d := by
  intro x y h0 hxy hy
  exact h x y h0 hxy hy (by rw [Nat.div_eq_of_lt (by omega), Nat.div_eq_of_lt (by omega)])
end

end Go.Proofs.Ytljidfaeljpnpaa

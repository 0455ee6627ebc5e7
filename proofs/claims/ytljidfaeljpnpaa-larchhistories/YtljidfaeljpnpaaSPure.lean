/- Stable sorting as data: rows as functions, swaps, the two ways of merging one behind a row, the split of a merge. No function of the program. -/
import Derived.Test.YtljidfaeljpnpaaMPure4

namespace Go.Proofs.Ytljidfaeljpnpaa

section

variable {E : Type}

def swF (d : Nat → E) (i j : Nat) : Nat → E := fun x => if x = i then d j else if x = j then d i else d x
inductive Swaps (a b : Nat) : (Nat → E) → (Nat → E) → Prop
  | refl (d : Nat → E) : Swaps a b d d
  | step {d d' : Nat → E} (h : Swaps a b d d') (i j : Nat) (hi : a ≤ i ∧ i < b) (hj : a ≤ j ∧ j < b) : Swaps a b d (swF d' i j)
theorem Swaps.trans {a b : Nat} {d d' d'' : Nat → E} (h : Swaps a b d d') (h' : Swaps a b d' d'') : Swaps a b d d'' := by
  induction h' with
  | refl => exact h
  | step _ i j hi hj ih => exact ih.step i j hi hj
theorem Swaps.mono {a b a' b' : Nat} {d d' : Nat → E} (h : Swaps a b d d') (ha : a' ≤ a) (hb : b ≤ b') : Swaps a' b' d d' := by
  induction h with
  | refl => exact Swaps.refl _
  | step _ i j hi hj ih => exact ih.step i j (by omega) (by omega)
theorem Swaps.out {a b : Nat} {d d' : Nat → E} (h : Swaps a b d d') : ∀ x, (x < a ∨ b ≤ x) → d' x = d x := by
  induction h with
  | refl => intro x _; rfl
  | step _ i j hi hj ih =>
    intro x hx
    unfold swF
    rw [if_neg (by omega), if_neg (by omega)]
    exact ih x hx
theorem Swaps.of {a b : Nat} {d d' : Nat → E} (h : Swaps a b d d') : ∀ x, a ≤ x → x < b → ∃ y, a ≤ y ∧ y < b ∧ d' x = d y := by
  induction h with
  | refl => intro x h1 h2; exact ⟨x, h1, h2, rfl⟩
  | step _ i j hi hj ih =>
    intro x h1 h2
    unfold swF
    by_cases e1 : x = i
    · rw [if_pos e1]; exact ih j hj.1 hj.2
    · rw [if_neg e1]
      by_cases e2 : x = j
      · rw [if_pos e2]; exact ih i hi.1 hi.2
      · rw [if_neg e2]; exact ih x h1 h2
def swI (i j x : Nat) : Nat := if x = i then j else if x = j then i else x
theorem swI_swI (i j x : Nat) : swI i j (swI i j x) = x := by
  unfold swI
  by_cases e1 : x = i
  · rw [if_pos e1]
    by_cases e2 : j = i
    · rw [if_pos e2]; omega
    · rw [if_neg e2, if_pos rfl]; omega
  · rw [if_neg e1]
    by_cases e2 : x = j
    · rw [if_pos e2, if_pos rfl]; omega
    · rw [if_neg e2, if_neg e1, if_neg e2]
theorem swI_lt {i j x n : Nat} (hi : i < n) (hj : j < n) (hx : x < n) : swI i j x < n := by
  unfold swI
  split
  · exact hj
  · split <;> omega
theorem swF_perm (n : Nat) (d : Nat → E) (i j : Nat) (hi : i < n) (hj : j < n) : ((List.range n).map (swF d i j)).Perm ((List.range n).map d) := by
  have hinv : ∀ x, swF d i j x = d (swI i j x) := by
    intro x
    unfold swF swI
    split
    · rfl
    · split <;> rfl
  have h1 : (List.range n).map (swF d i j) = ((List.range n).map (swI i j)).map d := by
    rw [List.map_map]
    apply List.map_congr_left
    intro x _
    exact hinv x
  rw [h1]
  apply List.Perm.map
  have nd : ((List.range n).map (swI i j)).Nodup := by
    rw [List.nodup_iff_pairwise_ne, List.pairwise_map]
    refine List.Pairwise.imp ?_ (List.nodup_iff_pairwise_ne.1 List.nodup_range)
    intro x y hxy e
    apply hxy
    rw [← swI_swI i j x, e, swI_swI]
  rw [List.perm_ext_iff_of_nodup nd List.nodup_range]
  intro x
  rw [List.mem_map, List.mem_range]
  constructor
  · rintro ⟨y, hy, rfl⟩
    exact swI_lt hi hj (List.mem_range.1 hy)
  · intro hx
    exact ⟨swI i j x, List.mem_range.2 (swI_lt hi hj hx), swI_swI i j x⟩
theorem Swaps.perm {n : Nat} {d d' : Nat → E} (h : Swaps 0 n d d') : ((List.range n).map d').Perm ((List.range n).map d) := by
  induction h with
  | refl => exact List.Perm.refl _
  | step _ i j hi hj ih => exact (swF_perm n _ i j hi.2 hj.2).trans ih

variable (key : E → Int) (pos : E → Nat)

/-- Which comes first: by the key, and of equals by the place that it had. -/
def Lt (x y : E) : Prop := key x < key y ∨ key x = key y ∧ pos x < pos y
theorem Lt.trans {x y z : E} (h : Lt key pos x y) (h' : Lt key pos y z) : Lt key pos x z := by unfold Lt at *; omega
def SortedOn (a b : Nat) (d : Nat → E) : Prop := ∀ x y, a ≤ x → x < y → y < b → Lt key pos (d x) (d y)
def Apart (a m b : Nat) (d : Nat → E) : Prop := ∀ x y, a ≤ x → x < m → m ≤ y → y < b → pos (d x) < pos (d y)
variable {key pos}

theorem lt_left {a m b : Nat} {d : Nat → E} (h : Apart pos a m b d) {x y : Nat} (hx : a ≤ x) (hxm : x < m) (hy : m ≤ y) (hyb : y < b) (hk : ¬ key (d y) < key (d x)) : Lt key pos (d x) (d y) := by
  have := h x y hx hxm hy hyb
  unfold Lt
  omega
/-- A row whose first goes behind the k-th. -/
def rlF (d : Nat → E) (a k : Nat) : Nat → E := fun x => if a ≤ x ∧ x < k then d (x + 1) else if x = k then d a else d x
theorem rlF_start (d : Nat → E) (a : Nat) : rlF d a a = d := by
  funext x
  unfold rlF
  rw [if_neg (by omega)]
  split
  · rename_i e; rw [e]
  · rfl
theorem rlF_step (d : Nat → E) (a k : Nat) (h : a ≤ k) : swF (rlF d a k) k (k + 1) = rlF d a (k + 1) := by
  funext x
  unfold swF rlF
  by_cases e1 : x = k
  · subst e1
    rw [if_pos rfl, if_neg (by omega), if_neg (by omega), if_pos (by omega)]
  · rw [if_neg e1]
    by_cases e2 : x = k + 1
    · subst e2
      rw [if_pos rfl, if_neg (by omega), if_pos rfl, if_neg (by omega), if_pos rfl]
    · rw [if_neg e2]
      by_cases e3 : a ≤ x ∧ x < k
      · rw [if_pos e3, if_pos (by omega)]
      · rw [if_neg e3, if_neg e1, if_neg (by omega), if_neg e2]
/-- A row whose m-th goes down to k. -/
def rrF (d : Nat → E) (m k : Nat) : Nat → E := fun x => if k < x ∧ x ≤ m then d (x - 1) else if x = k then d m else d x
theorem rrF_start (d : Nat → E) (m : Nat) : rrF d m m = d := by
  funext x
  unfold rrF
  rw [if_neg (by omega)]
  split
  · rename_i e; rw [e]
  · rfl
theorem rrF_step (d : Nat → E) (m k : Nat) (h : k + 1 ≤ m) : swF (rrF d m (k + 1)) (k + 1) k = rrF d m k := by
  funext x
  unfold swF rrF
  by_cases e1 : x = k + 1
  · subst e1
    rw [if_pos rfl, if_neg (by omega), if_neg (by omega), if_pos (by omega)]
    rfl
  · rw [if_neg e1]
    by_cases e2 : x = k
    · subst e2
      rw [if_pos rfl, if_neg (by omega), if_pos rfl, if_neg (by omega), if_pos rfl]
    · rw [if_neg e2]
      by_cases e3 : k + 1 < x ∧ x ≤ m
      · rw [if_pos e3, if_pos (by omega)]
      · rw [if_neg e3, if_neg e1, if_neg (by omega), if_neg e2]
theorem merge_first {a b i : Nat} {d : Nat → E} (hR : SortedOn key pos (a + 1) b d) (hA : Apart pos a (a + 1) b d) (h1 : a + 1 ≤ i) (h2 : i ≤ b) (hlo : ∀ x, a + 1 ≤ x → x < i → key (d x) < key (d a)) (hhi : ∀ x, i ≤ x → x < b → ¬ key (d x) < key (d a)) : SortedOn key pos a b (rlF d a (i - 1)) := by
  intro x y hx hxy hy
  have hl : ∀ z, a + 1 ≤ z → z < i → Lt key pos (d z) (d a) := fun z q1 q2 => Or.inl (hlo z q1 q2)
  have hh : ∀ z, i ≤ z → z < b → Lt key pos (d a) (d z) := fun z q1 q2 => lt_left hA (Nat.le_refl _) (by omega) (by omega) q2 (hhi z q1 q2)
  unfold rlF
  by_cases c1 : x < i - 1
  · rw [if_pos ⟨hx, c1⟩]
    by_cases c2 : y < i - 1
    · rw [if_pos ⟨by omega, c2⟩]; exact hR (x + 1) (y + 1) (by omega) (by omega) (by omega)
    · rw [if_neg (by omega)]
      by_cases c3 : y = i - 1
      · rw [if_pos c3]; exact hl (x + 1) (by omega) (by omega)
      · rw [if_neg c3]; exact hR (x + 1) y (by omega) (by omega) hy
  · rw [if_neg (by omega)]
    by_cases c3 : x = i - 1
    · rw [if_pos c3, if_neg (by omega), if_neg (by omega)]; exact hh y (by omega) hy
    · rw [if_neg c3, if_neg (by omega), if_neg (by omega)]; exact hR x y (by omega) hxy hy
theorem merge_last {a m i : Nat} {d : Nat → E} (hL : SortedOn key pos a m d) (hA : Apart pos a m (m + 1) d) (h1 : a ≤ i) (h2 : i ≤ m) (hlo : ∀ x, a ≤ x → x < i → ¬ key (d m) < key (d x)) (hhi : ∀ x, i ≤ x → x < m → key (d m) < key (d x)) : SortedOn key pos a (m + 1) (rrF d m i) := by
  intro x y hx hxy hy
  have hl : ∀ z, a ≤ z → z < i → Lt key pos (d z) (d m) := fun z q1 q2 => lt_left hA q1 (by omega) (Nat.le_refl _) (by omega) (hlo z q1 q2)
  have hh : ∀ z, i ≤ z → z < m → Lt key pos (d m) (d z) := fun z q1 q2 => Or.inl (hhi z q1 q2)
  unfold rrF
  by_cases c1 : x < i
  · rw [if_neg (by omega), if_neg (by omega)]
    by_cases c2 : i < y
    · rw [if_pos ⟨c2, by omega⟩]; exact hL x (y - 1) hx (by omega) (by omega)
    · rw [if_neg (by omega)]
      by_cases c3 : y = i
      · rw [if_pos c3]; exact hl x hx c1
      · rw [if_neg c3]; exact hL x y hx hxy (by omega)
  · by_cases c3 : x = i
    · rw [if_neg (by omega), if_pos c3, if_pos ⟨by omega, by omega⟩]; exact hh (y - 1) (by omega) (by omega)
    · rw [if_pos ⟨by omega, by omega⟩, if_pos ⟨by omega, by omega⟩]; exact hL (x - 1) (y - 1) (by omega) (by omega) (by omega)
/-- A row of which two neighbouring parts have changed places. -/
def rotF (d : Nat → E) (s m e : Nat) : Nat → E := fun x => if s ≤ x ∧ x < s + (e - m) then d (x - s + m) else if s + (e - m) ≤ x ∧ x < e then d (x - (s + (e - m)) + s) else d x
theorem rotF_none {d : Nat → E} {s m e : Nat} (h1 : s ≤ m) (h2 : m ≤ e) (h : s = m ∨ m = e) : rotF d s m e = d := by
  funext x
  unfold rotF
  rcases h with h | h
  · subst h
    split
    · congr 1; omega
    · split
      · omega
      · rfl
  · subst h
    split
    · omega
    · split
      · congr 1; omega
      · rfl
/-- Two ranges that have changed places. -/
def srF (d : Nat → E) (a b k : Nat) : Nat → E := fun x => if a ≤ x ∧ x < a + k then d (x - a + b) else if b ≤ x ∧ x < b + k then d (x - b + a) else d x
theorem srF_zero (d : Nat → E) (a b : Nat) : srF d a b 0 = d := by
  funext x; unfold srF; rw [if_neg (by omega), if_neg (by omega)]
theorem srF_step (d : Nat → E) (a b k n : Nat) (hk : k < n) (h : a + n ≤ b ∨ b + n ≤ a) : swF (srF d a b k) (a + k) (b + k) = srF d a b (k + 1) := by
  funext x
  unfold swF srF
  by_cases e1 : x = a + k
  · subst e1
    rw [if_pos rfl, if_neg (by omega), if_neg (by omega), if_pos (by omega)]
    congr 1; omega
  · rw [if_neg e1]
    by_cases e2 : x = b + k
    · subst e2
      rw [if_pos rfl, if_neg (by omega), if_neg (by omega), if_neg (by omega), if_pos (by omega)]
      congr 1; omega
    · rw [if_neg e2]
      by_cases c1 : a ≤ x ∧ x < a + k
      · rw [if_pos c1, if_pos (by omega)]
      · rw [if_neg c1]
        by_cases c2 : b ≤ x ∧ x < b + k
        · rw [if_pos c2, if_neg (by omega), if_pos (by omega)]
        · rw [if_neg c2, if_neg (by omega), if_neg (by omega)]
theorem rot_more {d : Nat → E} {m i j : Nat} (hi : i ≤ m) (hij : j < i) : rotF (srF d (m - i) m j) (m - (i - j)) m (m + j) = rotF d (m - i) m (m + j) := by
  funext x
  unfold rotF srF
  by_cases c0 : x < m - i
  · rw [if_neg (by omega), if_neg (by omega), if_neg (by omega), if_neg (by omega), if_neg (by omega), if_neg (by omega)]
  · by_cases c1 : x < m - i + j
    · rw [if_neg (by omega), if_neg (by omega), if_pos (by omega), if_pos (by omega)]
    · by_cases c2 : x < m - i + j + j
      · rw [if_pos (by omega), if_neg (by omega), if_pos (by omega), if_neg (by omega), if_pos (by omega)]
        congr 1; omega
      · by_cases c3 : x < m + j
        · rw [if_neg (by omega), if_pos (by omega), if_neg (by omega), if_neg (by omega), if_neg (by omega), if_pos (by omega)]
          congr 1; omega
        · rw [if_neg (by omega), if_neg (by omega), if_neg (by omega), if_neg (by omega), if_neg (by omega), if_neg (by omega)]
theorem rot_less {d : Nat → E} {m i j : Nat} (hi : i ≤ m) (hij : i < j) : rotF (srF d (m - i) (m + j - i) i) (m - i) m (m + (j - i)) = rotF d (m - i) m (m + j) := by
  funext x
  unfold rotF srF
  by_cases c0 : x < m - i
  · rw [if_neg (by omega), if_neg (by omega), if_neg (by omega), if_neg (by omega), if_neg (by omega), if_neg (by omega)]
  · by_cases c1 : x < m - i + (j - i)
    · rw [if_pos (by omega), if_neg (by omega), if_neg (by omega), if_pos (by omega)]
    · by_cases c2 : x < m + (j - i)
      · rw [if_neg (by omega), if_pos (by omega), if_pos (by omega), if_pos (by omega)]
        congr 1; omega
      · by_cases c3 : x < m + j
        · rw [if_neg (by omega), if_neg (by omega), if_neg (by omega), if_pos (by omega), if_neg (by omega), if_pos (by omega)]
          congr 1; omega
        · rw [if_neg (by omega), if_neg (by omega), if_neg (by omega), if_neg (by omega), if_neg (by omega), if_neg (by omega)]
theorem rot_same {d : Nat → E} {m i : Nat} (hi : i ≤ m) : srF d (m - i) m i = rotF d (m - i) m (m + i) := by
  funext x
  unfold rotF srF
  by_cases c0 : x < m - i
  · rw [if_neg (by omega), if_neg (by omega), if_neg (by omega), if_neg (by omega)]
  · by_cases c1 : x < m
    · rw [if_pos (by omega), if_pos (by omega)]
    · by_cases c2 : x < m + i
      · rw [if_neg (by omega), if_pos (by omega), if_neg (by omega), if_pos (by omega)]
        congr 1; omega
      · rw [if_neg (by omega), if_neg (by omega), if_neg (by omega), if_neg (by omega)]
section

variable {a m b s e : Nat} {d : Nat → E} (hL : SortedOn key pos a m d) (hR : SortedOn key pos m b d) (hA : Apart pos a m b d) (h1 : a ≤ s) (h2 : s ≤ m) (h3 : m ≤ e) (h4 : e ≤ b)
  (q1 : s = a ∨ e = b ∨ ¬ key (d e) < key (d (s - 1))) (q2 : s = m ∨ e = m ∨ key (d (e - 1)) < key (d s))
include hL hR hA h1 h2 h3 h4

theorem rot_parts : SortedOn key pos a s (rotF d s m e) ∧ SortedOn key pos s (s + (e - m)) (rotF d s m e) ∧ Apart pos a s (s + (e - m)) (rotF d s m e) ∧
    SortedOn key pos (s + (e - m)) e (rotF d s m e) ∧ SortedOn key pos e b (rotF d s m e) ∧ Apart pos (s + (e - m)) e b (rotF d s m e) := by
  have r0 : ∀ x, x < s → rotF d s m e x = d x := fun x hx => by unfold rotF; rw [if_neg (by omega), if_neg (by omega)]
  have r1 : ∀ x, s ≤ x → x < s + (e - m) → rotF d s m e x = d (x - s + m) := fun x q1 q2 => by unfold rotF; rw [if_pos ⟨q1, q2⟩]
  have r2 : ∀ x, s + (e - m) ≤ x → x < e → rotF d s m e x = d (x - (s + (e - m)) + s) := fun x q1 q2 => by unfold rotF; rw [if_neg (by omega), if_pos ⟨q1, q2⟩]
  have r3 : ∀ x, e ≤ x → rotF d s m e x = d x := fun x hx => by unfold rotF; rw [if_neg (by omega), if_neg (by omega)]
  refine ⟨fun x y hx hxy hy => ?_, fun x y hx hxy hy => ?_, fun x y hx hxs hy hyb => ?_, fun x y hx hxy hy => ?_, fun x y hx hxy hy => ?_, fun x y hx hxs hy hyb => ?_⟩
  · rw [r0 x (by omega), r0 y hy]; exact hL x y hx hxy (by omega)
  · rw [r1 x hx (by omega), r1 y (by omega) hy]; exact hR _ _ (by omega) (by omega) (by omega)
  · rw [r0 x hxs, r1 y hy hyb]; exact hA _ _ hx (by omega) (by omega) (by omega)
  · rw [r2 x hx (by omega), r2 y (by omega) hy]; exact hL _ _ (by omega) (by omega) (by omega)
  · rw [r3 x hx, r3 y (by omega)]; exact hR x y (by omega) hxy hy
  · rw [r2 x hx hxs, r3 y hy]; exact hA _ _ (by omega) (by omega) (by omega) hyb
include q1 q2

theorem rot_cross : ∀ x y, a ≤ x → x < s + (e - m) → s + (e - m) ≤ y → y < b → Lt key pos (rotF d s m e x) (rotF d s m e y) := by
  have r0 : ∀ x, x < s → rotF d s m e x = d x := fun x hx => by unfold rotF; rw [if_neg (by omega), if_neg (by omega)]
  have r1 : ∀ x, s ≤ x → x < s + (e - m) → rotF d s m e x = d (x - s + m) := fun x q1 q2 => by unfold rotF; rw [if_pos ⟨q1, q2⟩]
  have r2 : ∀ x, s + (e - m) ≤ x → x < e → rotF d s m e x = d (x - (s + (e - m)) + s) := fun x q1 q2 => by unfold rotF; rw [if_neg (by omega), if_pos ⟨q1, q2⟩]
  have r3 : ∀ x, e ≤ x → rotF d s m e x = d x := fun x hx => by unfold rotF; rw [if_neg (by omega), if_neg (by omega)]
  have le : ∀ u v, a ≤ u → u ≤ v → v < m → u = v ∨ Lt key pos (d u) (d v) := fun u v k1 k2 k3 => by
    by_cases z : u = v
    · exact Or.inl z
    · exact Or.inr (hL u v k1 (by omega) k3)
  have ri : ∀ u v, m ≤ u → u ≤ v → v < b → u = v ∨ Lt key pos (d u) (d v) := fun u v k1 k2 k3 => by
    by_cases z : u = v
    · exact Or.inl z
    · exact Or.inr (hR u v k1 (by omega) k3)
  have lr : ∀ u v, a ≤ u → u < s → e ≤ v → v < b → Lt key pos (d u) (d v) := fun u v k1 k2 k3 k4 => by
    have base : Lt key pos (d (s - 1)) (d e) := lt_left hA (by omega) (by omega) (by omega) (by omega) (by omega)
    have a1 := le u (s - 1) k1 (by omega) (by omega)
    have a2 := ri e v (by omega) k3 k4
    have b1 : Lt key pos (d u) (d e) := by
      rcases a1 with z | z
      · rw [z]; exact base
      · exact z.trans _ _ base
    rcases a2 with z | z
    · rw [← z]; exact b1
    · exact b1.trans _ _ z
  have rl : ∀ u v, m ≤ u → u < e → s ≤ v → v < m → Lt key pos (d u) (d v) := fun u v k1 k2 k3 k4 => by
    have base : Lt key pos (d (e - 1)) (d s) := Or.inl (by omega)
    have a1 := ri u (e - 1) k1 (by omega) (by omega)
    have a2 := le s v h1 k3 k4
    have b1 : Lt key pos (d u) (d s) := by
      rcases a1 with z | z
      · rw [z]; exact base
      · exact z.trans _ _ base
    rcases a2 with z | z
    · rw [← z]; exact b1
    · exact b1.trans _ _ z
  intro x y hx hxm hy hyb
  by_cases c1 : x < s
  · rw [r0 x c1]
    by_cases c2 : y < e
    · rw [r2 y hy c2]; exact hL _ _ hx (by omega) (by omega)
    · rw [r3 y (by omega)]; exact lr x y hx c1 (by omega) hyb
  · rw [r1 x (by omega) hxm]
    by_cases c2 : y < e
    · rw [r2 y hy c2]; exact rl _ _ (by omega) (by omega) (by omega) (by omega)
    · rw [r3 y (by omega)]; exact hR _ _ (by omega) (by omega) hyb
end

/-- Two parts that are sorted, the first one all ahead of the second. -/
theorem join_sorted {a m b : Nat} {d d1 d2 : Nat → E} (hx : ∀ x y, a ≤ x → x < m → m ≤ y → y < b → Lt key pos (d x) (d y)) (s1 : Swaps a m d d1) (s2 : Swaps m b d1 d2) (h1 : SortedOn key pos a m d1) (h2 : SortedOn key pos m b d2) : SortedOn key pos a b d2 := by
  intro x y hxa hxy hyb
  by_cases c1 : y < m
  · rw [s2.out x (by omega), s2.out y (by omega)]; exact h1 x y hxa hxy c1
  · by_cases c2 : m ≤ x
    · exact h2 x y c2 hxy hyb
    · rw [s2.out x (by omega)]
      obtain ⟨u, u1, u2, u3⟩ := s1.of x hxa (by omega)
      obtain ⟨v, v1, v2, v3⟩ := s2.of y (by omega) hyb
      rw [u3, v3, s1.out v (by omega)]
      exact hx u v u1 u2 v1 v2
theorem Apart.swaps {a m b a' b' : Nat} {d d' : Nat → E} (h : Apart pos a m b d) (s : Swaps a' b' d d') (hc : (a ≤ a' ∧ b' ≤ m) ∨ (m ≤ a' ∧ b' ≤ b) ∨ b' ≤ a ∨ b ≤ a') : Apart pos a m b d' := by
  intro x y hx hxm hy hyb
  have gx : ∃ u, a ≤ u ∧ u < m ∧ d' x = d u := by
    by_cases c : a' ≤ x ∧ x < b'
    · obtain ⟨u, u1, u2, u3⟩ := s.of x c.1 c.2
      exact ⟨u, by omega, by omega, u3⟩
    · exact ⟨x, hx, hxm, s.out x (by omega)⟩
  have gy : ∃ u, m ≤ u ∧ u < b ∧ d' y = d u := by
    by_cases c : a' ≤ y ∧ y < b'
    · obtain ⟨u, u1, u2, u3⟩ := s.of y c.1 c.2
      exact ⟨u, by omega, by omega, u3⟩
    · exact ⟨y, hy, hyb, s.out y (by omega)⟩
  obtain ⟨u, u1, u2, u3⟩ := gx
  obtain ⟨v, v1, v2, v3⟩ := gy
  rw [u3, v3]
  exact h u v u1 u2 v1 v2
theorem SortedOn.out {a b a' b' : Nat} {d d' : Nat → E} (h : SortedOn key pos a b d) (s : Swaps a' b' d d') (hc : b' ≤ a ∨ b ≤ a') : SortedOn key pos a b d' := by
  intro x y hx hxy hy
  rw [s.out x (by omega), s.out y (by omega)]
  exact h x y hx hxy hy
/-- One more put into a sorted row: where it stands now, those behind it are greater. -/
theorem insert_step {a i j : Nat} {d : Nat → E} (hj : a < j) (hji : j ≤ i) (hs : SortedOn key pos a j d) (hb : SortedOn key pos j (i + 1) d) (hx : ∀ x y, a ≤ x → x < j → j < y → y ≤ i → Lt key pos (d x) (d y)) (hlt : Lt key pos (d j) (d (j - 1))) :
    SortedOn key pos a (j - 1) (swF d j (j - 1)) ∧ SortedOn key pos (j - 1) (i + 1) (swF d j (j - 1)) ∧ ∀ x y, a ≤ x → x < j - 1 → j - 1 < y → y ≤ i → Lt key pos (swF d j (j - 1) x) (swF d j (j - 1) y) := by
  have e0 : ∀ x, x ≠ j → x ≠ j - 1 → swF d j (j - 1) x = d x := fun x h1 h2 => by unfold swF; rw [if_neg h1, if_neg h2]
  have e1 : swF d j (j - 1) j = d (j - 1) := by unfold swF; rw [if_pos rfl]
  have e2 : swF d j (j - 1) (j - 1) = d j := by unfold swF; rw [if_neg (by omega), if_pos rfl]
  refine ⟨fun x y h1 h2 h3 => ?_, fun x y h1 h2 h3 => ?_, fun x y h1 h2 h3 h4 => ?_⟩
  · rw [e0 x (by omega) (by omega), e0 y (by omega) (by omega)]; exact hs x y h1 h2 (by omega)
  · by_cases c : x = j - 1
    · subst c
      rw [e2]
      by_cases c2 : y = j
      · subst c2; rw [e1]; exact hlt
      · rw [e0 y c2 (by omega)]; exact hb j y (Nat.le_refl _) (by omega) h3
    · by_cases c2 : x = j
      · subst c2; rw [e1, e0 y (by omega) (by omega)]; exact hx (x - 1) y (by omega) (by omega) h2 (by omega)
      · rw [e0 x c2 c, e0 y (by omega) (by omega)]; exact hb x y (by omega) h2 h3
  · rw [e0 x (by omega) (by omega)]
    by_cases c : y = j
    · subst c; rw [e1]; exact hs x (y - 1) h1 (by omega) (by omega)
    · rw [e0 y c (by omega)]; exact hx x y h1 (by omega) (by omega) h4
theorem insert_end {a i j : Nat} {d : Nat → E} (hja : a ≤ j) (hs : SortedOn key pos a j d) (hb : SortedOn key pos j (i + 1) d) (hx : ∀ x y, a ≤ x → x < j → j < y → y ≤ i → Lt key pos (d x) (d y)) (hlt : j = a ∨ Lt key pos (d (j - 1)) (d j)) : SortedOn key pos a (i + 1) d := by
  intro x y h1 h2 h3
  by_cases c : y < j
  · exact hs x y h1 h2 c
  · by_cases c2 : j ≤ x
    · exact hb x y c2 h2 h3
    · by_cases c3 : y = j
      · subst c3
        rcases hlt with z | z
        · omega
        · by_cases c4 : x = y - 1
          · rw [c4]; exact z
          · exact (hs x (y - 1) h1 (by omega) (by omega)).trans _ _ z
      · exact hx x y h1 (by omega) (by omega) (by omega)
end

end Go.Proofs.Ytljidfaeljpnpaa

/- Layer 6, pure: the map of any pairs, by sorting the pairs turned round, stably, and keeping the first of each key. No function of the program. -/
import Derived.Test.YtjpfgfcggekklaaMPure4
import Derived.Test.YtjpfgfcggekklaaSPure
namespace Go.Proofs.Ytjpfgfcggekklaa
open Go.RowKit

theorem getK_filter (k : Int) : ∀ l : PL, getK k l = ((l.filter (fun p => decide (p.1 = k))).head?).map (·.2)
  | [] => rfl
  | p :: t => by
    unfold getK
    by_cases h : p.1 = k
    · rw [if_pos h, List.filter_cons_of_pos (by simp [h])]; rfl
    · rw [if_neg h, List.filter_cons_of_neg (by simp [h])]; exact getK_filter k t
theorem pairwise_rangeP {E : Type} (R : E → E → Prop) (d : Nat → E) : ∀ n, (∀ x y, x < y → y < n → R (d x) (d y)) → ((List.range n).map d).Pairwise R
  | 0, _ => List.Pairwise.nil
  | n + 1, h => by
    rw [List.range_succ, List.map_append, List.pairwise_append]
    refine ⟨pairwise_rangeP R d n (fun x y h1 h2 => h x y h1 (by omega)), by simp, fun a ha b hb => ?_⟩
    simp only [List.mem_map, List.mem_range, List.map_cons, List.map_nil, List.mem_singleton] at ha hb
    obtain ⟨x, hx, rfl⟩ := ha
    subst hb
    exact h x n hx (Nat.lt_succ_self _)
section
variable {E : Type} {key : E → Int} {pos : E → Nat} {pr : E → Int × Int}
/-- Sorted stably, the first of each key is the first of before. -/
theorem sorted_getK (hk : ∀ x, key x = (pr x).1) {n : Nat} {d0 d : Nat → E} (s : Swaps 0 n d0 d) (o : SortedOn key pos 0 n d) (hp : ∀ x y, x < y → y < n → pos (d0 x) < pos (d0 y)) (k : Int) :
    getK k ((List.range n).map (fun i => pr (d i))) = getK k ((List.range n).map (fun i => pr (d0 i))) := by
  have e : ∀ f : Nat → E, (List.range n).map (fun i => pr (f i)) = ((List.range n).map f).map pr := fun f => by rw [List.map_map]; rfl
  have f : ∀ l : List E, (l.map pr).filter (fun p => decide (p.1 = k)) = (l.filter (fun x => decide (key x = k))).map pr := by
    intro l
    rw [List.filter_map]
    congr 1
    apply List.filter_congr
    intro x _
    simp [hk]
  rw [getK_filter, getK_filter, e, e, f, f]
  congr 3
  have hp' : (((List.range n).map d).filter (fun x => decide (key x = k))).Perm (((List.range n).map d0).filter (fun x => decide (key x = k))) := s.perm.filter _
  have w1 : (((List.range n).map d).filter (fun x => decide (key x = k))).Pairwise (fun x y => pos x < pos y) := by
    have := (pairwise_rangeP (Lt key pos) d n (fun x y h1 h2 => o x y (Nat.zero_le _) h1 h2)).filter (fun x => decide (key x = k))
    refine this.imp_of_mem ?_
    intro x y hx hy h
    have hx' := (List.mem_filter.1 hx).2
    have hy' := (List.mem_filter.1 hy).2
    simp only [decide_eq_true_eq] at hx' hy'
    rcases h with h | h
    · omega
    · exact h.2
  have w2 : (((List.range n).map d0).filter (fun x => decide (key x = k))).Pairwise (fun x y => pos x < pos y) := (pairwise_rangeP (fun x y => pos x < pos y) d0 n hp).filter _
  exact List.Perm.eq_of_pairwise (fun a b _ _ h1 h2 => by omega) w1 w2 hp'
theorem sorted_keys (hk : ∀ x, key x = (pr x).1) {n : Nat} {d : Nat → E} (o : SortedOn key pos 0 n d) : ∀ x y, x < y → y < n → (pr (d x)).1 ≤ (pr (d y)).1 := by
  intro x y h1 h2
  rw [← hk, ← hk]
  rcases o x y (Nat.zero_le _) h1 h2 with h | h
  · omega
  · have := h.1; omega
end
/-- The first of each run of a key. -/
def cmpN (l : PL) : Nat → PL
  | 0 => []
  | j + 1 => if j = 0 ∨ keyAt l j ≠ keyAt l (j - 1) then cmpN l j ++ [(keyAt l j, valAt l j)] else cmpN l j
theorem cmpN_le (l : PL) : ∀ j, (cmpN l j).length ≤ j
  | 0 => Nat.le_refl _
  | j + 1 => by
    have := cmpN_le l j
    simp only [cmpN]
    split
    · simp; omega
    · omega
theorem cmpN_mem (l : PL) (x : Int × Int) : ∀ j, x ∈ cmpN l j → ∃ i, i < j ∧ x = (keyAt l i, valAt l i)
  | 0, h => by simp [cmpN] at h
  | j + 1, h => by
    simp only [cmpN] at h
    split at h
    · rcases List.mem_append.1 h with q | q
      · obtain ⟨i, h1, h2⟩ := cmpN_mem l x j q; exact ⟨i, by omega, h2⟩
      · exact ⟨j, Nat.lt_succ_self _, List.mem_singleton.1 q⟩
    · obtain ⟨i, h1, h2⟩ := cmpN_mem l x j h; exact ⟨i, by omega, h2⟩
theorem cmpN_srt {l : PL} (hl : ∀ x y, x < y → y < l.length → keyAt l x ≤ keyAt l y) : ∀ j, j ≤ l.length → Srt (cmpN l j)
  | 0, _ => List.Pairwise.nil
  | j + 1, hj => by
    have ih := cmpN_srt hl j (by omega)
    simp only [cmpN]
    split
    · rename_i h
      refine List.pairwise_append.2 ⟨ih, by simp, fun a ha b hb => ?_⟩
      rw [List.mem_singleton] at hb
      subst hb
      obtain ⟨i, hi, rfl⟩ := cmpN_mem l a j ha
      rcases h with h | h
      · omega
      · have h1 := hl (j - 1) j (by omega) (by omega)
        have h2 : keyAt l i ≤ keyAt l (j - 1) := by
          by_cases e : i = j - 1
          · rw [e]; exact Int.le_refl _
          · exact hl i (j - 1) (by omega) (by omega)
        show keyAt l i < keyAt l j
        omega
    · exact ih
theorem getK_mem {k : Int} {x : Int × Int} : ∀ {l : PL}, x ∈ l → x.1 = k → (getK k l).isSome = true
  | p :: t, h, hk => by
    unfold getK
    by_cases e : p.1 = k
    · rw [if_pos e]; rfl
    · rw [if_neg e]
      rcases List.mem_cons.1 h with q | q
      · subst q; exact absurd hk e
      · exact getK_mem q hk
theorem cmpN_getK {l : PL} (k : Int) : ∀ j, j ≤ l.length → getK k (cmpN l j) = getK k (l.take j)
  | 0, _ => rfl
  | j + 1, hj => by
    have ih := cmpN_getK (l := l) k j (by omega)
    rw [take_next l (by omega), getK_append]
    simp only [cmpN]
    split
    · rw [getK_append, ih]
    · rename_i h
      rw [ih]
      cases e : getK k (l.take j) with
      | some v => rfl
      | none =>
        simp only [getK]
        by_cases q : keyAt l j = k
        · exfalso
          have hj0 : j ≠ 0 := fun z => h (Or.inl z)
          have he : keyAt l j = keyAt l (j - 1) := Decidable.byContradiction fun z => h (Or.inr z)
          have hm : (keyAt l (j - 1), valAt l (j - 1)) ∈ l.take j := by
            have := take_next l (j := j - 1) (by omega)
            rw [show j - 1 + 1 = j by omega] at this
            rw [this]
            simp
          have := getK_mem (k := k) hm (by show keyAt l (j - 1) = k; omega)
          rw [e] at this
          cases this
        · rw [if_neg q]
theorem getK_above {k : Int} : ∀ {l : PL}, (∀ x ∈ l, k < x.1) → getK k l = none
  | [], _ => rfl
  | p :: t, h => by
    have := h p (List.mem_cons_self ..)
    unfold getK
    rw [if_neg (by omega)]
    exact getK_above (fun x hx => h x (List.mem_cons_of_mem _ hx))
/-- Lists whose keys rise are told by what they hold. -/
theorem srt_ext : ∀ {x y : PL}, Srt x → Srt y → (∀ k, getK k x = getK k y) → x = y
  | [], [], _, _, _ => rfl
  | [], b :: y, _, _, h => by have := h b.1; simp [getK] at this
  | a :: x, [], _, _, h => by have := h a.1; simp [getK] at this
  | a :: x, b :: y, hx, hy, h => by
    have ax : ∀ z ∈ x, a.1 < z.1 := fun z hz => List.rel_of_pairwise_cons hx hz
    have bx : ∀ z ∈ y, b.1 < z.1 := fun z hz => List.rel_of_pairwise_cons hy hz
    have e : a.1 = b.1 := by
      refine Decidable.byContradiction fun q => ?_
      rcases Int.lt_or_gt_of_ne q with c | c
      · have := h a.1
        rw [getK_above (l := b :: y) (fun z hz => by rcases List.mem_cons.1 hz with r | r; (rw [r]; exact c); (have := bx z r; omega))] at this
        simp [getK] at this
      · have := h b.1
        rw [getK_above (l := a :: x) (fun z hz => by rcases List.mem_cons.1 hz with r | r; (rw [r]; exact c); (have := ax z r; omega))] at this
        simp [getK] at this
    have e2 : a.2 = b.2 := by
      have := h a.1
      unfold getK at this
      rw [if_pos rfl, if_pos e.symm] at this
      exact Option.some.inj this
    have e3 : a = b := Prod.ext e e2
    subst e3
    congr 1
    refine srt_ext (List.Pairwise.of_cons hx) (List.Pairwise.of_cons hy) (fun k => ?_)
    by_cases q : a.1 = k
    · rw [getK_above (fun z hz => by have := ax z hz; omega), getK_above (fun z hz => by have := bx z hz; omega)]
    · have := h k
      unfold getK at this
      rwa [if_neg q, if_neg q] at this
theorem getK_putL (key val k : Int) (h : key ≠ k) : ∀ ps : PL, getK k (putL key val ps) = getK k ps
  | [] => by unfold putL getK; rw [if_neg h]; rfl
  | p :: t => by
    unfold putL
    by_cases c1 : p.1 < key
    · rw [if_pos c1]
      unfold getK
      rw [getK_putL key val k h t]
    · rw [if_neg c1]
      by_cases c2 : p.1 = key
      · rw [if_pos c2]
        unfold getK
        rw [if_neg h, if_neg (by omega)]
      · rw [if_neg c2]
        show getK k ((key, val) :: p :: t) = _
        rw [getK, if_neg h]
theorem ofN_getK (ps : PL) (k : Int) : ∀ j, j ≤ ps.length → getK k (ofN ps j) = getK k (ps.take j).reverse
  | 0, _ => rfl
  | j + 1, hj => by
    have ih := ofN_getK ps k j (by omega)
    rw [take_next ps (by omega), List.reverse_append]
    show getK k (putL (keyAt ps j) (valAt ps j) (ofN ps j)) = getK k ((keyAt ps j, valAt ps j) :: (ps.take j).reverse)
    by_cases q : keyAt ps j = k
    · rw [← q, getK_put]
      unfold getK
      rw [if_pos rfl]
    · rw [getK_putL _ _ _ q, ih]
      conv => rhs; unfold getK
      rw [if_neg q]
/-- Turned round, sorted, the first of each key kept: the map. -/
theorem of_sorted {ps l : PL} (hl : ∀ x y, x < y → y < l.length → keyAt l x ≤ keyAt l y) (hg : ∀ k, getK k l = getK k ps.reverse) : cmpN l l.length = ofL ps := by
  refine srt_ext (cmpN_srt hl _ (Nat.le_refl _)) (ofL_srt ps) (fun k => ?_)
  rw [cmpN_getK k _ (Nat.le_refl _), List.take_length, hg k]
  unfold ofL
  rw [ofN_getK ps k _ (Nat.le_refl _), List.take_length]
end Go.Proofs.Ytjpfgfcggekklaa

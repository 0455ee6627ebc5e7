/- Events sorted by their thread, each thread in its order: what such a list is; two of them. -/
import Derived.Test.YtniognoapcaliaaSEStab
import Derived.Test.YtniognoapcaliaaESam1
namespace Go.Proofs.Ytniognoapcaliaa
open Go.RowKit
attribute [local go_sem ↓] Go.wp_at_zero Go.wp_at_succ

def thF (t : Int) (l : List EvD) : List EvD := l.filter (fun e => decide (e.th = t))
def d0E (hs : List EvD) (pb : Nat → Option Addr) (pc : Nat → Nat) : Nat → EvX := fun i => ⟨evAt hs i, pb i, pc i, i⟩
theorem thN_filter (hs : List EvD) (t : Int) : ∀ n, thN hs t n = thF t ((List.range n).map (fun i => evAt hs i))
  | 0 => rfl
  | n + 1 => by
    rw [List.range_succ, List.map_append]
    unfold thF
    rw [List.filter_append]
    have ih := thN_filter hs t n
    unfold thF at ih
    rw [← ih]
    show (if (evAt hs n).th = t then thN hs t n ++ [evAt hs n] else thN hs t n) = _
    by_cases h : (evAt hs n).th = t
    · rw [if_pos h]; simp [h]
    · rw [if_neg h]; simp [h]
theorem pairwise_range {E : Type} (R : E → E → Prop) (d : Nat → E) : ∀ n, (∀ x y, x < y → y < n → R (d x) (d y)) → ((List.range n).map d).Pairwise R
  | 0, _ => List.Pairwise.nil
  | n + 1, h => by
    rw [List.range_succ, List.map_append, List.pairwise_append]
    refine ⟨pairwise_range R d n (fun x y h1 h2 => h x y h1 (by omega)), by simp, fun a ha b hb => ?_⟩
    simp only [List.mem_map, List.mem_range, List.map_cons, List.map_nil, List.mem_singleton] at ha hb
    obtain ⟨x, hx, rfl⟩ := ha
    subst hb
    exact h x n hx (Nat.lt_succ_self _)
/-- The sorted row, its thread t's: as they came. -/
theorem sorted_filter {hs : List EvD} {pb : Nat → Option Addr} {pc : Nat → Nat} {n : Nat} {d : Nat → EvX} (s : Swaps 0 n (d0E hs pb pc) d) (o : SortedOn keyE EvX.pos 0 n d) (t : Int) :
    thF t ((List.range n).map (fun i => (d i).e)) = thN hs t n := by
  rw [thN_filter]
  have e1 : (List.range n).map (fun i => (d i).e) = ((List.range n).map d).map EvX.e := by rw [List.map_map]; rfl
  have e2 : (List.range n).map (fun i => evAt hs i) = ((List.range n).map (d0E hs pb pc)).map EvX.e := by rw [List.map_map]; rfl
  have f : ∀ l : List EvX, thF t (l.map EvX.e) = (l.filter (fun x => decide (x.e.th = t))).map EvX.e := by
    intro l
    unfold thF
    rw [List.filter_map]
    rfl
  rw [e1, e2, f, f]
  congr 1
  have hp : (((List.range n).map d).filter (fun x => decide (x.e.th = t))).Perm (((List.range n).map (d0E hs pb pc)).filter (fun x => decide (x.e.th = t))) := s.perm.filter _
  have w1 : (((List.range n).map d).filter (fun x => decide (x.e.th = t))).Pairwise (fun x y => x.pos < y.pos) := by
    have := (pairwise_range (Lt keyE EvX.pos) d n (fun x y h1 h2 => o x y (Nat.zero_le _) h1 h2)).filter (fun x => decide (x.e.th = t))
    refine this.imp_of_mem ?_
    intro x y hx hy h
    have hx' := (List.mem_filter.1 hx).2
    have hy' := (List.mem_filter.1 hy).2
    simp only [decide_eq_true_eq] at hx' hy'
    rcases h with h | h
    · unfold keyE at h; omega
    · exact h.2
  have w2 : (((List.range n).map (d0E hs pb pc)).filter (fun x => decide (x.e.th = t))).Pairwise (fun x y => x.pos < y.pos) :=
    (pairwise_range (fun x y => x.pos < y.pos) (d0E hs pb pc) n (fun x y h1 h2 => h1)).filter _
  exact List.Perm.eq_of_pairwise (fun a b _ _ h1 h2 => by omega) w1 w2 hp
theorem sorted_th {n : Nat} {d : Nat → EvX} (o : SortedOn keyE EvX.pos 0 n d) : ((List.range n).map (fun i => (d i).e)).Pairwise (fun x y => x.th ≤ y.th) :=
  pairwise_range (fun x y => x.th ≤ y.th) (fun i => (d i).e) n (fun x y h1 h2 => by
    rcases o x y (Nat.zero_le _) h1 h2 with h | h
    · unfold keyE at h; omega
    · have := h.1; unfold keyE at this; omega)
theorem th_head {t : Int} {b : EvD} {y : List EvD} {a : EvD} (hy : (b :: y).Pairwise (fun x y => x.th ≤ y.th)) (h : a ∈ thF t (b :: y)) : b.th ≤ a.th := by
  have := (List.mem_filter.1 h).1
  rcases List.mem_cons.1 this with e | e
  · rw [e]; exact Int.le_refl _
  · exact List.rel_of_pairwise_cons hy e
theorem th_eq : ∀ (x y : List EvD), x.Pairwise (fun x y => x.th ≤ y.th) → y.Pairwise (fun x y => x.th ≤ y.th) → (∀ t, thF t x = thF t y) → x = y
  | [], [], _, _, _ => rfl
  | [], b :: y, _, _, h => by
    have := h b.th
    simp [thF] at this
  | a :: x, [], _, _, h => by
    have := h a.th
    simp [thF] at this
  | a :: x, b :: y, hx, hy, h => by
    have c : ∀ (e : EvD) (l : List EvD), e ∈ thF e.th (e :: l) := fun e l => List.mem_filter.2 ⟨List.mem_cons_self .., by simp⟩
    have h1 : b.th ≤ a.th := th_head hy (by rw [← h a.th]; exact c a x)
    have h2 : a.th ≤ b.th := th_head hx (by rw [h b.th]; exact c b y)
    have e1 : a.th = b.th := by omega
    have k := h a.th
    unfold thF at k
    rw [List.filter_cons_of_pos (by simp), List.filter_cons_of_pos (by simp [e1])] at k
    obtain ⟨rfl, _⟩ := List.cons.inj k
    congr 1
    refine th_eq x y (List.Pairwise.of_cons hx) (List.Pairwise.of_cons hy) (fun t => ?_)
    have k := h t
    unfold thF at k ⊢
    by_cases q : a.th = t
    · rw [List.filter_cons_of_pos (by simp [q]), List.filter_cons_of_pos (by simp [q])] at k
      exact (List.cons.inj k).2
    · rw [List.filter_cons_of_neg (by simp [q]), List.filter_cons_of_neg (by simp [q])] at k
      exact k
/-- No thread of a history is less than 0 or more than 63. -/
theorem th_none {hs : List EvD} (he : hErr hs = 0) {t : Int} (ht : t < 0 ∨ 64 ≤ t) : ∀ n, n ≤ hs.length → thN hs t n = []
  | 0, _ => rfl
  | n + 1, hn => by
    have ih := th_none he ht n (by omega)
    obtain ⟨o1, o2, _⟩ := own_last he (i := n) (by omega)
    obtain ⟨_, s, hst, hsl⟩ := hErr_zero he
    rw [hsl] at o1 o2
    have o3 := ((stN_ok hst).inv _ o1).2.2
    rw [o2] at o3
    show (if (evAt hs n).th = t then thN hs t n ++ [evAt hs n] else thN hs t n) = []
    rw [if_neg (by omega)]
    exact ih
end Go.Proofs.Ytniognoapcaliaa

/- Layer 6, pure: Differ by walking both maps at once. No function of the program. -/
import Derived.Test.YtjpfgfcggekklaaMOfP
namespace Go.Proofs.Ytjpfgfcggekklaa
open Go.RowKit

/-- The keys of the map whose pairs the walk hasn't passed. -/
def df : PL → PL → List Int
  | [], b => b.map (·.1)
  | p :: a, [] => (p :: a).map (·.1)
  | p :: a, q :: b =>
    if p.1 < q.1 then p.1 :: df a (q :: b)
    else if q.1 < p.1 then q.1 :: df (p :: a) b
    else if p = q then df a b else p.1 :: df a b
termination_by a b => a.length + b.length
theorem df_nil (b : PL) : df [] b = b.map (·.1) := by unfold df; rfl
theorem df_none (a : PL) : df a [] = a.map (·.1) := by cases a <;> (unfold df; rfl)
theorem df_cons (p q : Int × Int) (a b : PL) : df (p :: a) (q :: b) = if p.1 < q.1 then p.1 :: df a (q :: b) else if q.1 < p.1 then q.1 :: df (p :: a) b else if p = q then df a b else p.1 :: df a b := by
  rw [df]
theorem getK_key {k : Int} : ∀ {l : PL}, Srt l → ((getK k l).isSome = true ↔ k ∈ l.map (·.1))
  | [], _ => by simp [getK]
  | p :: t, h => by
    have ih := getK_key (k := k) (List.Pairwise.of_cons h)
    unfold getK
    by_cases e : p.1 = k
    · simp [e]
    · rw [if_neg e, ih]
      simp [Ne.symm e]
theorem getK_cons (k : Int) (p : Int × Int) (t : PL) : getK k (p :: t) = if p.1 = k then some p.2 else getK k t := rfl
theorem srt_above {p : Int × Int} {t : PL} (h : Srt (p :: t)) : ∀ x ∈ t, p.1 < x.1 := fun _ hx => List.rel_of_pairwise_cons h hx
theorem getK_low {k : Int} {p : Int × Int} {t : PL} (h : Srt (p :: t)) (hk : k < p.1) : getK k (p :: t) = none :=
  getK_above (fun x hx => by rcases List.mem_cons.1 hx with e | e; (rw [e]; exact hk); (have := srt_above h x e; omega))
theorem df_mem (k : Int) (n : Nat) : ∀ (a b : PL), a.length + b.length ≤ n → Srt a → Srt b → (k ∈ df a b ↔ getK k a ≠ getK k b) := by
  induction n with
  | zero =>
    intro a b hn _ _
    obtain rfl : a = [] := List.length_eq_zero_iff.1 (by omega)
    obtain rfl : b = [] := List.length_eq_zero_iff.1 (by omega)
    simp [df_nil, getK]
  | succ n ih =>
    intro a b hn ha hb
    match a, b, hn, ha, hb with
    | [], b, _, _, hb =>
      rw [df_nil, ← getK_key hb]
      cases getK k b <;> simp [getK]
    | p :: a, [], _, ha, _ =>
      rw [df_none, ← getK_key ha]
      cases getK k (p :: a) <;> simp [getK]
    | p :: a, q :: b, hn, ha, hb =>
      simp only [List.length_cons] at hn
      have ha' : Srt a := List.Pairwise.of_cons ha
      have hb' : Srt b := List.Pairwise.of_cons hb
      rw [df_cons]
      by_cases c1 : p.1 < q.1
      · rw [if_pos c1, List.mem_cons, ih a (q :: b) (by simp; omega) ha' hb, getK_cons k p a]
        by_cases e : p.1 = k
        · subst e
          rw [if_pos rfl, getK_low hb c1]
          simp
        · rw [if_neg e]
          simp [Ne.symm e]
      · rw [if_neg c1]
        by_cases c2 : q.1 < p.1
        · rw [if_pos c2, List.mem_cons, ih (p :: a) b (by simp; omega) ha hb', getK_cons k q b]
          by_cases e : q.1 = k
          · subst e
            rw [if_pos rfl, getK_low ha c2]
            simp
          · rw [if_neg e]
            simp [Ne.symm e]
        · rw [if_neg c2]
          have e0 : p.1 = q.1 := by omega
          have na : ∀ z, p.1 = z → getK z a = none := fun z hz => getK_above (fun x hx => by have := srt_above ha x hx; omega)
          have nb : ∀ z, q.1 = z → getK z b = none := fun z hz => getK_above (fun x hx => by have := srt_above hb x hx; omega)
          by_cases c3 : p = q
          · rw [if_pos c3, ih a b (by omega) ha' hb', getK_cons k p a, getK_cons k q b]
            by_cases e : p.1 = k
            · rw [if_pos e, if_pos (by omega), na k e, nb k (by omega), c3]
              simp
            · rw [if_neg e, if_neg (by omega)]
          · rw [if_neg c3, List.mem_cons, ih a b (by omega) ha' hb', getK_cons k p a, getK_cons k q b]
            by_cases e : p.1 = k
            · rw [if_pos e, if_pos (by omega), na k e, nb k (by omega)]
              have : p.2 ≠ q.2 := fun z => c3 (Prod.ext e0 z)
              simp [e, this]
            · rw [if_neg e, if_neg (by omega)]
              simp [Ne.symm e]
theorem df_low (x : Int) (n : Nat) : ∀ (a b : PL), a.length + b.length ≤ n → (∀ y ∈ a, x < y.1) → (∀ y ∈ b, x < y.1) → ∀ k ∈ df a b, x < k := by
  induction n with
  | zero =>
    intro a b hn _ _
    obtain rfl : a = [] := List.length_eq_zero_iff.1 (by omega)
    obtain rfl : b = [] := List.length_eq_zero_iff.1 (by omega)
    simp [df_nil]
  | succ n ih =>
    intro a b hn ha hb k hk
    match a, b, hn, ha, hb, hk with
    | [], b, _, _, hb, hk =>
      rw [df_nil] at hk
      obtain ⟨y, hy, rfl⟩ := List.mem_map.1 hk
      exact hb y hy
    | p :: a, [], _, ha, _, hk =>
      rw [df_none] at hk
      obtain ⟨y, hy, rfl⟩ := List.mem_map.1 hk
      exact ha y hy
    | p :: a, q :: b, hn, ha, hb, hk =>
      simp only [List.length_cons] at hn
      have hp := ha p (List.mem_cons_self ..)
      have hq := hb q (List.mem_cons_self ..)
      have ha' : ∀ y ∈ a, x < y.1 := fun y hy => ha y (List.mem_cons_of_mem _ hy)
      have hb' : ∀ y ∈ b, x < y.1 := fun y hy => hb y (List.mem_cons_of_mem _ hy)
      rw [df_cons] at hk
      by_cases c1 : p.1 < q.1
      · rw [if_pos c1] at hk
        rcases List.mem_cons.1 hk with e | e
        · rw [e]; exact hp
        · exact ih a (q :: b) (by simp; omega) ha' hb k e
      · rw [if_neg c1] at hk
        by_cases c2 : q.1 < p.1
        · rw [if_pos c2] at hk
          rcases List.mem_cons.1 hk with e | e
          · rw [e]; exact hq
          · exact ih (p :: a) b (by simp; omega) ha hb' k e
        · rw [if_neg c2] at hk
          by_cases c3 : p = q
          · rw [if_pos c3] at hk
            exact ih a b (by omega) ha' hb' k hk
          · rw [if_neg c3] at hk
            rcases List.mem_cons.1 hk with e | e
            · rw [e]; exact hp
            · exact ih a b (by omega) ha' hb' k e
theorem df_srt (n : Nat) : ∀ (a b : PL), a.length + b.length ≤ n → Srt a → Srt b → (df a b).Pairwise (fun x y => x < y) := by
  induction n with
  | zero =>
    intro a b hn _ _
    obtain rfl : a = [] := List.length_eq_zero_iff.1 (by omega)
    obtain rfl : b = [] := List.length_eq_zero_iff.1 (by omega)
    simp [df_nil]
  | succ n ih =>
    intro a b hn ha hb
    match a, b, hn, ha, hb with
    | [], b, _, _, hb => rw [df_nil]; exact List.pairwise_map.2 hb
    | p :: a, [], _, ha, _ => rw [df_none]; exact List.pairwise_map.2 ha
    | p :: a, q :: b, hn, ha, hb =>
      simp only [List.length_cons] at hn
      have ha' : Srt a := List.Pairwise.of_cons ha
      have hb' : Srt b := List.Pairwise.of_cons hb
      have la := srt_above ha
      have lb := srt_above hb
      rw [df_cons]
      by_cases c1 : p.1 < q.1
      · rw [if_pos c1]
        exact List.pairwise_cons.2 ⟨df_low p.1 _ a (q :: b) (Nat.le_refl _) la (fun y hy => by rcases List.mem_cons.1 hy with e | e; (rw [e]; exact c1); (have := lb y e; omega)), ih a (q :: b) (by simp; omega) ha' hb⟩
      · rw [if_neg c1]
        by_cases c2 : q.1 < p.1
        · rw [if_pos c2]
          exact List.pairwise_cons.2 ⟨df_low q.1 _ (p :: a) b (Nat.le_refl _) (fun y hy => by rcases List.mem_cons.1 hy with e | e; (rw [e]; exact c2); (have := la y e; omega)) lb, ih (p :: a) b (by simp; omega) ha hb'⟩
        · rw [if_neg c2]
          by_cases c3 : p = q
          · rw [if_pos c3]; exact ih a b (by omega) ha' hb'
          · rw [if_neg c3]
            exact List.pairwise_cons.2 ⟨df_low p.1 _ a b (Nat.le_refl _) la (fun y hy => by have := lb y hy; omega), ih a b (by omega) ha' hb'⟩
theorem rise_ext : ∀ {x y : List Int}, x.Pairwise (fun a b => a < b) → y.Pairwise (fun a b => a < b) → (∀ k, k ∈ x ↔ k ∈ y) → x = y
  | [], [], _, _, _ => rfl
  | [], b :: y, _, _, h => by have := (h b).2 (List.mem_cons_self ..); cases this
  | a :: x, [], _, _, h => by have := (h a).1 (List.mem_cons_self ..); cases this
  | a :: x, b :: y, hx, hy, h => by
    have ax : ∀ z ∈ x, a < z := fun z hz => List.rel_of_pairwise_cons hx hz
    have bx : ∀ z ∈ y, b < z := fun z hz => List.rel_of_pairwise_cons hy hz
    have e : a = b := by
      have h1 : b ≤ a := by
        rcases List.mem_cons.1 ((h a).1 (List.mem_cons_self ..)) with r | r
        · omega
        · have := bx a r; omega
      have h2 : a ≤ b := by
        rcases List.mem_cons.1 ((h b).2 (List.mem_cons_self ..)) with r | r
        · omega
        · have := ax b r; omega
      omega
    subst e
    congr 1
    refine rise_ext (List.Pairwise.of_cons hx) (List.Pairwise.of_cons hy) (fun k => ⟨fun q => ?_, fun q => ?_⟩)
    · rcases List.mem_cons.1 ((h k).1 (List.mem_cons_of_mem _ q)) with r | r
      · have := ax k q; omega
      · exact r
    · rcases List.mem_cons.1 ((h k).2 (List.mem_cons_of_mem _ q)) with r | r
      · have := bx k q; omega
      · exact r
theorem getK_rev_some {k : Int} {l : PL} : (getK k l.reverse).isSome = true ↔ k ∈ l.map (·.1) := by
  constructor
  · intro h
    refine Decidable.byContradiction fun q => ?_
    have : getK k l.reverse = none := by
      rw [getK_filter, List.filter_eq_nil_iff.2]
      · rfl
      · intro x hx
        simp only [decide_eq_true_eq]
        intro e
        exact q (List.mem_map.2 ⟨x, List.mem_reverse.1 hx, e⟩)
    rw [this] at h
    cases h
  · intro h
    obtain ⟨x, hx, e⟩ := List.mem_map.1 h
    exact getK_mem (List.mem_reverse.2 hx) e
/-- The walk's keys are the reference's. -/
theorem df_differ {a b : PL} (ha : Srt a) (hb : Srt b) : df a b = differL a b := by
  unfold differL
  rw [differN_filter _ _ _ _ (Nat.le_refl _), List.take_length]
  refine rise_ext (df_srt _ a b (Nat.le_refl _) ha hb) ((List.pairwise_map.2 (ofL_srt (a ++ b))).filter _) (fun k => ?_)
  rw [df_mem k _ a b (Nat.le_refl _) ha hb, List.mem_filter]
  simp only [decide_eq_true_eq]
  refine ⟨fun h => ⟨?_, h⟩, fun h => h.2⟩
  rw [← getK_key (ofL_srt _)]
  unfold ofL
  rw [ofN_getK _ k _ (Nat.le_refl _), List.take_length, getK_rev_some, List.map_append, List.mem_append, ← getK_key ha, ← getK_key hb]
  cases h1 : getK k a with
  | some v => exact Or.inl rfl
  | none =>
    cases h2 : getK k b with
    | some v => exact Or.inr rfl
    | none => rw [h1, h2] at h; exact absurd rfl h
end Go.Proofs.Ytjpfgfcggekklaa

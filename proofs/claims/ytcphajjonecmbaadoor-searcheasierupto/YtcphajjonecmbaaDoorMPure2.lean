
/- Layer 6: the reference's functions as functions on lists that recur on the list; their laws on lists whose keys rise. -/

import Derived.Test.YtcphajjonecmbaaDoorMPure

namespace Go.Proofs.YtcphajjonecmbaaDoor

open Go.RowKit

def getK (key : Int) : PL → Option Int
  | [] => none
  | p :: t => if p.1 = key then some p.2 else getK key t
def putL (key val : Int) : PL → PL
  | [] => [(key, val)]
  | p :: t => if p.1 < key then p :: putL key val t else if p.1 = key then (key, val) :: t else (key, val) :: p :: t
def delL (key : Int) (ps : PL) : PL := ps.filter fun p => decide (p.1 ≠ key)
def inL (lo hi : Int) (ps : PL) : PL := ps.filter fun p => decide (lo ≤ p.1 ∧ p.1 ≤ hi)
/-- The keys rise strictly. -/
def Srt (ps : PL) : Prop := ps.Pairwise fun a b => a.1 < b.1

theorem take_next (ps : PL) {j : Nat} (hj : j < ps.length) : ps.take (j + 1) = ps.take j ++ [(keyAt ps j, valAt ps j)] := by
  rw [List.take_add_one, pair_eta ps j hj]; rfl

/- look -/

theorem getK_append (key : Int) (b : PL) : ∀ a : PL, getK key (a ++ b) = match getK key a with | some v => some v | none => getK key b
  | [] => rfl
  | p :: t => by
    simp only [List.cons_append, getK]
    split
    · rfl
    · exact getK_append key b t
theorem lookN_take (ps : PL) (key : Int) : ∀ j, j ≤ ps.length → lookN ps key j = getK key (ps.take j)
  | 0, _ => rfl
  | j + 1, h => by
    rw [take_next ps (by omega), getK_append, ← lookN_take ps key j (by omega)]
    rfl
theorem lookN_all (ps : PL) (key : Int) : lookN ps key ps.length = getK key ps := by
  rw [lookN_take ps key _ (Nat.le_refl _), List.take_length]

/- Inside -/

theorem insideN_take (ps : PL) (lo hi : Int) : ∀ j, j ≤ ps.length → insideN ps lo hi j = inL lo hi (ps.take j)
  | 0, _ => rfl
  | j + 1, h => by
    have ih := insideN_take ps lo hi j (by omega)
    unfold inL at ih ⊢
    rw [take_next ps (by omega), List.filter_append, ← ih]
    simp only [insideN, List.filter_cons, List.filter_nil]
    by_cases q : lo ≤ keyAt ps j ∧ keyAt ps j ≤ hi
    · simp [q]
    · rw [if_neg q, if_neg (by simpa using q), List.append_nil]
theorem insideN_all (ps : PL) (lo hi : Int) : insideN ps lo hi ps.length = inL lo hi ps := by
  rw [insideN_take ps lo hi _ (Nat.le_refl _), List.take_length]

/- with -/

theorem withN_drop (ps : PL) (key val : Int) : ∀ j, j ≤ ps.length → withN ps key val true j = (delL key (ps.take j), true)
  | 0, _ => rfl
  | j + 1, h => by
    have ih := withN_drop ps key val j (by omega)
    unfold delL at ih ⊢
    rw [take_next ps (by omega), List.filter_append]
    simp only [withN, ih, List.filter_cons, List.filter_nil]
    by_cases q : keyAt ps j = key
    · simp [q]
    · simp [q]
theorem withL_drop (ps : PL) (key val : Int) : withL ps key val true = delL key ps := by
  unfold withL
  rw [withN_drop ps key val _ (Nat.le_refl _), List.take_length]
  rfl
theorem putL_lt (key val : Int) (b : PL) : ∀ a : PL, (∀ x ∈ a, x.1 < key) → putL key val (a ++ b) = a ++ putL key val b
  | [], _ => rfl
  | p :: t, h => by
    simp only [List.cons_append, putL]
    rw [if_pos (h p (by simp)), putL_lt key val b t (fun x hx => h x (by simp [hx]))]
theorem putL_ge (key val : Int) (b : PL) : ∀ a : PL, (∃ x ∈ a, ¬ x.1 < key) → putL key val (a ++ b) = putL key val a ++ b
  | [], h => by obtain ⟨x, hx, _⟩ := h; simp at hx
  | p :: t, h => by
    simp only [List.cons_append, putL]
    by_cases q : p.1 < key
    · rw [if_pos q, if_pos q, putL_ge key val b t ?_, List.cons_append]
      obtain ⟨x, hx, hn⟩ := h
      rcases List.mem_cons.1 hx with rfl | hx
      · exact absurd q hn
      · exact ⟨x, hx, hn⟩
    · rw [if_neg q, if_neg q]
      split <;> rfl
theorem withN_put (ps : PL) (key val : Int) (hs : Srt ps) : ∀ j, j ≤ ps.length →
    ((∀ x ∈ ps.take j, x.1 < key) ∧ withN ps key val false j = (ps.take j, false)) ∨ ((∃ x ∈ ps.take j, ¬ x.1 < key) ∧ withN ps key val false j = (putL key val (ps.take j), true))
  | 0, _ => Or.inl ⟨fun x hx => by simp at hx, rfl⟩
  | j + 1, h => by
    rw [take_next ps (by omega)]
    simp only [withN]
    rcases withN_put ps key val hs j (by omega) with ⟨h1, e⟩ | ⟨⟨x, hx, hn⟩, e⟩
    · rw [e]
      by_cases q : key ≤ keyAt ps j
      · right
        refine ⟨⟨(keyAt ps j, valAt ps j), by simp, by show ¬ keyAt ps j < key; omega⟩, ?_⟩
        rw [putL_lt _ _ _ _ h1]
        by_cases q2 : keyAt ps j = key
        · simp [q2, putL]
        · have : ¬ keyAt ps j < key := by omega
          simp [q, q2, putL, this]
      · left
        have q2 : ¬ keyAt ps j = key := by omega
        refine ⟨fun x hx => ?_, by simp [q, q2]⟩
        rcases List.mem_append.1 hx with hx | hx
        · exact h1 x hx
        · simp at hx; subst hx; show keyAt ps j < key; omega
    · right
      rw [e]
      have hp : (ps.take (j + 1)).Pairwise fun a b => a.1 < b.1 := hs.sublist (List.take_sublist _ _)
      rw [take_next ps (by omega), List.pairwise_append] at hp
      have hl := hp.2.2 x hx (keyAt ps j, valAt ps j) (by simp)
      have q2 : ¬ keyAt ps j = key := by
        have : x.1 < keyAt ps j := hl
        omega
      refine ⟨⟨x, by simp [hx], hn⟩, ?_⟩
      rw [putL_ge _ _ _ _ ⟨x, hx, hn⟩]
      simp [q2]
theorem withL_put (ps : PL) (key val : Int) (hs : Srt ps) : withL ps key val false = putL key val ps := by
  unfold withL
  rcases withN_put ps key val hs ps.length (Nat.le_refl _) with ⟨h1, e⟩ | ⟨_, e⟩
  · rw [e, List.take_length] at *
    have := putL_lt key val [] ps h1
    rw [List.append_nil] at this
    rw [this]; rfl
  · rw [e, List.take_length]; rfl

/- the order -/

theorem rises_iff {ps : PL} : ∀ {n : Nat}, rises ps n = true ↔ ∀ i, i + 1 < n → keyAt ps i < keyAt ps (i + 1)
  | 0 => by simp [rises]
  | 1 => by simp [rises]
  | n + 2 => by
    simp only [rises, Bool.and_eq_true, decide_eq_true_eq, rises_iff (n := n + 1)]
    constructor
    · rintro ⟨h1, h2⟩ i hi
      by_cases e : i = n
      · subst e; exact h2
      · exact h1 i (by omega)
    · intro h
      exact ⟨fun i hi => h i (by omega), h n (by omega)⟩
theorem key_get (ps : PL) (i : Nat) (hi : i < ps.length) : keyAt ps i = ps[i].1 := by
  simp [keyAt, List.getD_eq_getElem?_getD, List.getElem?_eq_getElem hi]
theorem val_get (ps : PL) (i : Nat) (hi : i < ps.length) : valAt ps i = ps[i].2 := by
  simp [valAt, List.getD_eq_getElem?_getD, List.getElem?_eq_getElem hi]
theorem srt_lt {ps : PL} (h : Srt ps) {i j : Nat} (hij : i < j) (hj : j < ps.length) : keyAt ps i < keyAt ps j := by
  rw [key_get ps i (by omega), key_get ps j hj]
  exact List.pairwise_iff_getElem.1 h i j (by omega) hj hij
theorem srt_iff (ps : PL) : rises ps ps.length = true ↔ Srt ps := by
  rw [rises_iff]
  constructor
  · intro h
    have up : ∀ d i, i + d + 1 < ps.length → keyAt ps i < keyAt ps (i + d + 1) := by
      intro d
      induction d with
      | zero => intro i hi; exact h i hi
      | succ d ih =>
        intro i hi
        have h1 := ih i (by omega)
        have h2 := h (i + d + 1) (by omega)
        exact Int.lt_trans h1 h2
    refine List.pairwise_iff_getElem.2 fun i j hi hj hij => ?_
    have := up (j - i - 1) i (by omega)
    rw [show i + (j - i - 1) + 1 = j by omega, key_get ps i hi, key_get ps j hj] at this
    exact this
  · intro h i hi
    exact srt_lt h (by omega) hi
theorem ckErr_zero {ps : PL} : ckErr ps = 0 ↔ Srt ps := by
  unfold ckErr
  split
  · rename_i h; exact ⟨fun _ => (srt_iff ps).1 h, fun _ => rfl⟩
  · rename_i h; exact ⟨fun e => absurd e (by decide), fun e => absurd ((srt_iff ps).2 e) h⟩
theorem mem_putL {key val : Int} {x : Int × Int} : ∀ {ps : PL}, x ∈ putL key val ps → x = (key, val) ∨ x ∈ ps
  | [], h => by simpa [putL] using h
  | p :: t, h => by
    simp only [putL] at h
    split at h
    · rcases List.mem_cons.1 h with rfl | h
      · right; simp
      · rcases mem_putL h with e | e
        · exact Or.inl e
        · right; simp [e]
    · split at h
      · rcases List.mem_cons.1 h with rfl | h
        · exact Or.inl rfl
        · right; simp [h]
      · rcases List.mem_cons.1 h with rfl | h
        · exact Or.inl rfl
        · right; exact h
theorem putL_srt (key val : Int) : ∀ {ps : PL}, Srt ps → Srt (putL key val ps)
  | [], _ => by simp [putL, Srt]
  | p :: t, h => by
    obtain ⟨h1, h2⟩ := List.pairwise_cons.1 h
    simp only [putL]
    split
    · rename_i q
      refine List.pairwise_cons.2 ⟨fun x hx => ?_, putL_srt key val h2⟩
      rcases mem_putL hx with rfl | hx
      · exact q
      · exact h1 x hx
    · split
      · rename_i q
        refine List.pairwise_cons.2 ⟨fun x hx => ?_, h2⟩
        have := h1 x hx
        show key < x.1
        omega
      · refine List.pairwise_cons.2 ⟨fun x hx => ?_, h⟩
        rcases List.mem_cons.1 hx with rfl | hx
        · show key < x.1; omega
        · have := h1 x hx
          show key < x.1
          omega
theorem delL_srt (key : Int) {ps : PL} (h : Srt ps) : Srt (delL key ps) := h.sublist List.filter_sublist
theorem inL_srt (lo hi : Int) {ps : PL} (h : Srt ps) : Srt (inL lo hi ps) := h.sublist List.filter_sublist
theorem getK_put (key val : Int) : ∀ ps : PL, getK key (putL key val ps) = some val
  | [] => by simp [putL, getK]
  | p :: t => by
    simp only [putL]
    split
    · have q : ¬ p.1 = key := by omega
      simp only [getK, if_neg q]
      exact getK_put key val t
    · split <;> simp [getK]
theorem getK_del (key : Int) : ∀ ps : PL, getK key (delL key ps) = none
  | [] => rfl
  | p :: t => by
    have ih := getK_del key t
    unfold delL at ih ⊢
    by_cases q : p.1 = key
    · simpa [List.filter_cons, q] using ih
    · simpa [List.filter_cons, q, getK] using ih
theorem del_above (key : Int) (ps : PL) (h : ∀ x ∈ ps, key < x.1) : delL key ps = ps := by
  unfold delL
  rw [List.filter_eq_self]
  intro x hx
  have := h x hx
  simp; omega
theorem del_put_length (key val : Int) : ∀ {ps : PL}, Srt ps → (delL key (putL key val ps)).length + 1 = (putL key val ps).length
  | [], _ => by simp [putL, delL]
  | p :: t, h => by
    obtain ⟨h1, h2⟩ := List.pairwise_cons.1 h
    simp only [putL]
    split
    · rename_i q
      have q' : ¬ p.1 = key := by omega
      have := del_put_length key val h2
      unfold delL at this ⊢
      simp [q']
      simp at this
      omega
    · split
      · rename_i q
        have : delL key t = t := del_above key t (fun x hx => by have := h1 x hx; omega)
        unfold delL at this ⊢
        rw [List.filter_cons]
        simp only [ne_eq, not_true_eq_false, decide_false, Bool.false_eq_true, if_false]
        simp only [ne_eq] at this
        rw [this]
        rfl
      · have : delL key (p :: t) = p :: t := del_above key (p :: t) (fun x hx => by
          rcases List.mem_cons.1 hx with rfl | hx
          · omega
          · have := h1 x hx; omega)
        unfold delL at this ⊢
        rw [List.filter_cons]
        simp only [ne_eq, not_true_eq_false, decide_false, Bool.false_eq_true, if_false]
        simp only [ne_eq] at this
        rw [this]
        rfl
theorem inL_whole (lo hi : Int) (ps : PL) (h : ∀ x ∈ ps, lo ≤ x.1 ∧ x.1 ≤ hi) : inL lo hi ps = ps := by
  unfold inL
  rw [List.filter_eq_self]
  intro x hx
  simpa using h x hx

/- the place of a key -/

def posL (key : Int) (ps : PL) : Nat := (ps.filter fun p => decide (p.1 < key)).length
theorem posL_le (key : Int) (ps : PL) : posL key ps ≤ ps.length := List.length_filter_le _ _
theorem below_take (key : Int) : ∀ {ps : PL}, Srt ps → ps.filter (fun p => decide (p.1 < key)) = ps.take (posL key ps) ∧ (∀ i, i < ps.length → (i < posL key ps ↔ keyAt ps i < key))
  | [], _ => ⟨rfl, fun i hi => by simp at hi⟩
  | p :: t, h => by
    obtain ⟨h1, h2⟩ := List.pairwise_cons.1 h
    obtain ⟨e, k⟩ := below_take key h2
    by_cases q : p.1 < key
    · have hp : posL key (p :: t) = posL key t + 1 := by simp [posL, q]
      rw [hp]
      refine ⟨by rw [List.take_succ_cons, ← e]; simp [q], fun i hi => ?_⟩
      cases i with
      | zero => simpa [keyAt] using q
      | succ i =>
        have := k i (by simpa using hi)
        rw [show keyAt (p :: t) (i + 1) = keyAt t i by simp [keyAt], ← this]
        omega
    · have hn : (p :: t).filter (fun p => decide (p.1 < key)) = [] := by
        rw [List.filter_eq_nil_iff]
        intro x hx
        rcases List.mem_cons.1 hx with rfl | hx
        · simpa using q
        · have := h1 x hx
          simp; omega
      have hp : posL key (p :: t) = 0 := by unfold posL; rw [hn]; rfl
      rw [hp]
      refine ⟨by rw [hn]; rfl, fun i hi => ?_⟩
      have : p.1 ≤ keyAt (p :: t) i := by
        cases i with
        | zero => simp [keyAt]
        | succ i =>
          have hi' : i < t.length := by simpa using hi
          have := h1 t[i] (List.getElem_mem hi')
          rw [show keyAt (p :: t) (i + 1) = keyAt t i by simp [keyAt], key_get t i hi']
          omega
      omega
end Go.Proofs.YtcphajjonecmbaaDoor

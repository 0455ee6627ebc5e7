/- Layer 5: the spans of a part of a history; orders of neighbours. No function of the program. -/
import Derived.Test.YtniognoapcaliaaECount
import Derived.Test.YtniognoapcaliaaEParts
import Derived.Test.YtniognoapcaliaaEFits
import Derived.Test.YtniognoapcaliaaEAhead1
import Derived.Test.YtniognoapcaliaaERCnt
namespace Go.Proofs.Ytniognoapcaliaa
open Go.RowKit

/-- A span, told by the places that its events have among those that are kept. -/
def renS (hs : List EvD) (K : Nat → Bool) (p : Sp) : Sp := ((keptN hs K p.1).length, if p.2 = -1 then -1 else ((keptN hs K p.2.toNat).length : Int))
def cntK (K : Nat → Bool) : Nat → Nat
  | 0 => 0
  | j + 1 => if K j = true then cntK K j + 1 else cntK K j
theorem pickN_len (sp : List Sp) (K : Nat → Bool) : ∀ j, (pickN sp K j).length = cntK K j
  | 0 => rfl
  | j + 1 => by
    simp only [pickN, cntK]
    split
    · rw [List.length_append, pickN_len sp K j]; rfl
    · exact pickN_len sp K j
theorem pickN_app (sp : List Sp) (x : Sp) (K : Nat → Bool) : ∀ j, j ≤ sp.length → pickN (sp ++ [x]) K j = pickN sp K j
  | 0, _ => rfl
  | j + 1, h => by
    have e : spAt (sp ++ [x]) j = spAt sp j := by rw [spAt_append, if_neg (by omega)]
    simp only [pickN]
    rw [pickN_app sp x K j (by omega), e]
theorem cntK_mono (K : Nat → Bool) {i : Nat} : ∀ {j}, i ≤ j → cntK K i ≤ cntK K j
  | 0, h => by obtain rfl : i = 0 := by omega
               exact Nat.le_refl _
  | j + 1, h => by
    by_cases e : i = j + 1
    · subst e; exact Nat.le_refl _
    · have := cntK_mono K (i := i) (j := j) (by omega)
      simp only [cntK]
      split <;> omega
theorem cntK_lt (K : Nat → Bool) {i j : Nat} (h : i < j) (hK : K i = true) : cntK K i < cntK K j := by
  have h1 : cntK K (i + 1) = cntK K i + 1 := by simp only [cntK]; rw [if_pos hK]
  have := cntK_mono K (i := i + 1) (j := j) h
  omega
theorem pickN_at (sp : List Sp) (K : Nat → Bool) {q : Nat} (hK : K q = true) : ∀ j, q < j → spAt (pickN sp K j) (cntK K q) = spAt sp q
  | 0, h => by omega
  | j + 1, h => by
    simp only [pickN]
    by_cases e : q = j
    · subst e
      rw [if_pos hK, spAt_append, pickN_len, if_pos rfl]
    · have ih := pickN_at sp K hK j (by omega)
      split
      · rw [spAt_append, pickN_len, if_neg (by have := cntK_lt K (i := q) (j := j) (by omega) hK; omega)]
        exact ih
      · exact ih
theorem pickN_set (sp : List Sp) (K : Nat → Bool) (q : Nat) (x : Sp) (hq : q < sp.length) (hK : K q = true) : ∀ j, j ≤ sp.length → pickN (sp.set q x) K j = (pickN sp K j).set (cntK K q) x
  | 0, _ => by simp [pickN]
  | j + 1, hj => by
    have ih := pickN_set sp K q x hq hK j (by omega)
    simp only [pickN]
    rw [ih, spAt_set _ _ _ _ hq]
    by_cases e : j = q
    · subst e
      rw [if_pos hK, if_pos hK, if_pos rfl]
      rw [List.set_eq_of_length_le (by rw [pickN_len]; exact Nat.le_refl _), List.set_append_right _ _ (by rw [pickN_len]; exact Nat.le_refl _), pickN_len, Nat.sub_self]
      rfl
    · rw [if_neg e]
      split
      · by_cases h : q < j
        · rw [List.set_append_left _ _ (by rw [pickN_len]; exact cntK_lt K h hK)]
        · have hc : cntK K j ≤ cntK K q := cntK_mono K (by omega)
          have hc2 : cntK K (j + 1) ≤ cntK K q := cntK_mono K (by omega)
          rename_i hKj
          simp only [cntK] at hc2
          rw [if_pos hKj] at hc2
          rw [List.set_eq_of_length_le (by rw [pickN_len]; exact hc), List.set_eq_of_length_le (by rw [List.length_append, pickN_len]; exact hc2)]
      · rfl
theorem pickN_skip (sp : List Sp) (K : Nat → Bool) (q : Nat) (x : Sp) (hq : q < sp.length) (hK : ¬ K q = true) : ∀ j, pickN (sp.set q x) K j = pickN sp K j
  | 0 => rfl
  | j + 1 => by
    have ih := pickN_skip sp K q x hq hK j
    simp only [pickN]
    rw [ih, spAt_set _ _ _ _ hq]
    by_cases e : j = q
    · subst e; rw [if_neg hK, if_neg hK]
    · rw [if_neg e]
theorem spAt_map (f : Sp → Sp) (l : List Sp) (i : Nat) (h : i < l.length) : spAt (l.map f) i = f (spAt l i) := by
  unfold spAt
  rw [List.getD_eq_getElem?_getD, List.getElem?_map, List.getElem?_eq_getElem h, List.getD_eq_getElem?_getD, List.getElem?_eq_getElem h]
  rfl
/-- The spans of a part are those of its operations, at their new places. -/
theorem kept_spans_sim {hs : List EvD} (K : Nat → Bool) (hs' : List EvD) : ∀ {j : Nat} {s : St}, stN hs j = some s → (∀ i, i < (keptN hs K j).length → evAt hs' i = evAt (keptN hs K j) i) →
    ∃ s', stN hs' (keptN hs K j).length = some s' ∧ s'.spans = (pickN s.spans K s.spans.length).map (renS hs K) ∧ ∀ t, t < 64 → 0 < s'.beg t → s'.beg t = cntK K (s.beg t)
  | 0, s, h, _ => by
    cases h
    exact ⟨⟨[], fun _ => 0⟩, rfl, rfl, fun t _ hc => by simp at hc⟩
  | j + 1, s, h, hp => by
    have h' : (stN hs j).bind (fun s => stepS hs s j) = some s := h
    cases hj : stN hs j with
    | none => rw [hj] at h'; cases h'
    | some s0 =>
      have ok := stN_ok hj
      rw [hj] at h'
      have h2 : stepS hs s0 j = some s := h'
      have hpre : ∀ i, i < (keptN hs K j).length → evAt hs' i = evAt (keptN hs K j) i := by
        intro i hi
        simp only [keptN] at hp
        split at hp
        · rw [hp i (by simp; omega)]
          unfold evAt
          rw [List.getD_eq_getElem?_getD, List.getElem?_append_left hi, List.getD_eq_getElem?_getD]
        · exact hp i hi
      obtain ⟨s', hs1, hsp, hbg⟩ := kept_spans_sim K hs' hj hpre
      obtain ⟨s1, hs1', hR⟩ := kept_sim K hs' hj hpre
      obtain rfl : s1 = s' := by rw [hs1] at hs1'; exact (Option.some.inj hs1').symm
      obtain ⟨s2, hs2, _⟩ := kept_sim K hs' h hp
      have ok' := stN_ok hs1
      have hlen' : s1.spans.length = cntK K s0.spans.length := by rw [hsp, List.length_map, pickN_len]
      obtain ⟨t, ht, h64, q⟩ := stepS_cases h2
      by_cases hK : K (ownN hs j) = true
      · have ek : keptN hs K (j + 1) = keptN hs K j ++ [evAt hs j] := by simp only [keptN]; rw [if_pos hK]
        have em : evAt hs' (keptN hs K j).length = evAt hs j := by
          rw [hp _ (by rw [ek]; simp), ek]
          unfold evAt
          simp [List.getD_eq_getElem?_getD]
        have hstep : stepS hs' s1 (keptN hs K j).length = some s2 := by
          have h3 := hs2
          rw [ek, List.length_append] at h3
          have h4 : (stN hs' (keptN hs K j).length).bind (fun s => stepS hs' s (keptN hs K j).length) = some s2 := h3
          rw [hs1] at h4
          exact h4
        obtain ⟨t', ht', h64', q'⟩ := stepS_cases hstep
        rw [em] at ht' q'
        obtain rfl : t' = t := by omega
        rcases q with ⟨hr, hb, hi, rfl⟩ | ⟨hr, hb, ho, rfl⟩
        · rcases q' with ⟨_, hb', _, rfl⟩ | ⟨hr', _⟩
          · have own : ownN hs j = s0.spans.length := by unfold ownN; rw [hj]; simp [hr]
            rw [own] at hK
            refine ⟨_, hs2, ?_, fun u hu hpos => ?_⟩
            · simp only [List.length_append, List.length_singleton, pickN]
              rw [if_pos hK, pickN_app _ _ _ _ (Nat.le_refl _), spAt_append, if_pos rfl, List.map_append, hsp]
              rfl
            · by_cases e : u = t'
              · subst e
                simp only [upd, if_true, cntK]
                rw [if_pos hK, hlen']
              · simp only [upd, if_neg e] at hpos ⊢
                exact hbg u hu hpos
          · rw [hr] at hr'; cases hr'
        · rcases q' with ⟨hr', _⟩ | ⟨_, hb', _, rfl⟩
          · rw [hr] at hr'; cases hr'
          · have own : ownN hs j = s0.beg t' - 1 := by unfold ownN; rw [hj]; simp [hr, ht]
            have hbl := ok.beg t'
            have hbe := hbg t' h64 hb'
            obtain ⟨q, hq⟩ : ∃ q, s0.beg t' = q + 1 := ⟨s0.beg t' - 1, by omega⟩
            rw [hq, Nat.add_sub_cancel] at own
            rw [own] at hK
            have hc : s1.beg t' - 1 = cntK K q := by rw [hbe, hq]; simp only [cntK]; rw [if_pos hK, Nat.add_sub_cancel]
            refine ⟨_, hs2, ?_, fun u hu hpos => ?_⟩
            · simp only [List.length_set]
              rw [hc, hq, Nat.add_sub_cancel, pickN_set _ _ _ _ (by omega) hK _ (Nat.le_refl _), List.map_set, hsp]
              congr 1
              have hql : cntK K q < (pickN s0.spans K s0.spans.length).length := by rw [pickN_len]; exact cntK_lt K (by omega) hK
              rw [spAt_map _ _ _ hql, pickN_at _ _ hK _ (by omega)]
              unfold renS
              simp only
              rw [if_neg (by omega), Int.toNat_natCast]
            · by_cases e : u = t'
              · subst e
                simp only [upd, if_true] at hpos
                omega
              · simp only [upd, if_neg e] at hpos ⊢
                exact hbg u hu hpos
      · have ek : keptN hs K (j + 1) = keptN hs K j := by simp only [keptN]; rw [if_neg hK]
        rcases q with ⟨hr, hb, hi, rfl⟩ | ⟨hr, hb, ho, rfl⟩
        · have own : ownN hs j = s0.spans.length := by unfold ownN; rw [hj]; simp [hr]
          rw [own] at hK
          refine ⟨s1, by rw [ek]; exact hs1, ?_, fun u hu hpos => ?_⟩
          · simp only [List.length_append, List.length_singleton, pickN]
            rw [if_neg hK, pickN_app _ _ _ _ (Nat.le_refl _), hsp]
          · by_cases e : u = t
            · subst e
              have := ((hR u hu).1.1 hpos).1
              omega
            · simp only [upd, if_neg e]
              exact hbg u hu hpos
        · have own : ownN hs j = s0.beg t - 1 := by unfold ownN; rw [hj]; simp [hr, ht]
          have hbl := ok.beg t
          rw [own] at hK
          refine ⟨s1, by rw [ek]; exact hs1, ?_, fun u hu hpos => ?_⟩
          · simp only [List.length_set]
            rw [pickN_skip _ _ _ _ (by omega) hK, hsp]
          · by_cases e : u = t
            · subst e
              exact absurd ((hR u hu).1.1 hpos).2 hK
            · simp only [upd, if_neg e]
              exact hbg u hu hpos
theorem kept_spans {hs : List EvD} (he : hErr hs = 0) (K : Nat → Bool) : spansL (keptN hs K hs.length) = (pickN (spansL hs) K (spansL hs).length).map (renS hs K) := by
  obtain ⟨hb, s, hst, hsl⟩ := hErr_zero he
  obtain ⟨s', h', hsp, _⟩ := kept_spans_sim K (keptN hs K hs.length) hst (fun _ _ => rfl)
  have hl := keptN_le hs K hs.length
  rw [(hErr_ok (by omega) h').2, hsp, hsl]
theorem keptN_mono (hs : List EvD) (K : Nat → Bool) {i : Nat} : ∀ {j}, i ≤ j → (keptN hs K i).length ≤ (keptN hs K j).length
  | 0, h => by obtain rfl : i = 0 := by omega
               exact Nat.le_refl _
  | j + 1, h => by
    by_cases e : i = j + 1
    · subst e; exact Nat.le_refl _
    · have := keptN_mono hs K (i := i) (j := j) (by omega)
      simp only [keptN]
      split
      · simp; omega
      · exact this
theorem keptN_lt (hs : List EvD) (K : Nat → Bool) {i j : Nat} (h : i < j) (hK : K (ownN hs i) = true) : (keptN hs K i).length < (keptN hs K j).length := by
  have h1 : (keptN hs K (i + 1)).length = (keptN hs K i).length + 1 := by simp only [keptN]; rw [if_pos hK]; simp
  have := keptN_mono hs K (i := i + 1) (j := j) h
  omega
/-- What is ahead of what is told alike by the new places. -/
theorem ren_ahd {hs : List EvD} (he : hErr hs = 0) (K : Nat → Bool) {a b : Nat} (ha : a < (spansL hs).length) (hKa : K a = true) : ahd (renS hs K (spAt (spansL hs) a)) (renS hs K (spAt (spansL hs) b)) = ahd (spAt (spansL hs) a) (spAt (spansL hs) b) := by
  obtain ⟨_, s, hst, hsl⟩ := hErr_zero he
  have ok := stN_ok hst
  rw [hsl] at ha
  have ta := ok.to a ha
  rw [← hsl] at ha ta
  rw [Bool.eq_iff_iff, ahd_true, ahd_true]
  unfold renS
  simp only
  by_cases h : (spAt (spansL hs) a).2 = -1
  · rw [if_pos h]; simp [h]
  · rw [if_neg h]
    rcases ta with q | q
    · exact absurd q h
    · have ow := ((own_last he (i := (spAt (spansL hs) a).2.toNat) (by omega)).2.2 a ha).1 (Or.inr (by omega))
      constructor
      · rintro ⟨_, h2⟩
        refine ⟨h, ?_⟩
        by_cases z : (spAt (spansL hs) a).2 < (spAt (spansL hs) b).1
        · exact z
        · have := keptN_mono hs K (i := (spAt (spansL hs) b).1) (j := (spAt (spansL hs) a).2.toNat) (by omega)
          omega
      · rintro ⟨_, h2⟩
        refine ⟨by omega, ?_⟩
        have := keptN_lt hs K (i := (spAt (spansL hs) a).2.toNat) (j := (spAt (spansL hs) b).1) (by omega) (by rw [← ow]; exact hKa)
        omega
/-- Each picked span is one of the spans, by its number. -/
theorem pickN_from (sp : List Sp) (K : Nat → Bool) : ∀ j i, i < (pickN sp K j).length → ∃ a, a < j ∧ K a = true ∧ cntK K a = i ∧ spAt (pickN sp K j) i = spAt sp a
  | 0, i, h => by simp [pickN] at h
  | j + 1, i, h => by
    simp only [pickN] at h ⊢
    split at h
    · rename_i hK
      rw [if_pos hK]
      rw [List.length_append, pickN_len] at h
      by_cases e : i = cntK K j
      · subst e
        exact ⟨j, by omega, hK, rfl, by rw [spAt_append, pickN_len, if_pos rfl]⟩
      · simp at h
        obtain ⟨a, h1, h2, h3, h4⟩ := pickN_from sp K j i (by rw [pickN_len]; omega)
        exact ⟨a, by omega, h2, h3, by rw [spAt_append, pickN_len, if_neg e]; exact h4⟩
    · rename_i hK
      rw [if_neg hK]
      obtain ⟨a, h1, h2, h3, h4⟩ := pickN_from sp K j i h
      exact ⟨a, by omega, h2, h3, h4⟩
theorem befN_congr {a b : List Sp} {n i : Nat} (h : ∀ k, k < n → ahd (spAt a k) (spAt a i) = ahd (spAt b k) (spAt b i)) : ∀ j, j ≤ n → befN a i j = befN b i j
  | 0, _ => rfl
  | j + 1, hj => by
    simp only [befN]
    rw [befN_congr h j (by omega), h j (by omega)]
theorem inN_congr {a b : List Sp} {n set : Nat} {f : Nat → Nat} (h : ∀ k i, k < n → i < n → ahd (spAt a k) (spAt a i) = ahd (spAt b k) (spAt b i)) : ∀ i, i ≤ n → inN a n set f i = inN b n set f i
  | 0, _ => rfl
  | i + 1, hi => by
    have ih := inN_congr (set := set) (f := f) h i (by omega)
    have hc : condP a n set i = condP b n set i := by unfold condP; rw [befN_congr (fun k hk => h k i hk (by omega)) n (Nat.le_refl _)]
    simp only [inN]
    rw [hc, ih]
theorem outN_congr {a b : List Sp} {n : Nat} (h : ∀ k i, k < n → i < n → ahd (spAt a k) (spAt a i) = ahd (spAt b k) (spAt b i)) : ∀ s, outN a n s = outN b n s
  | 0 => rfl
  | s + 1 => by
    show inN a n s (outN a n s) n = inN b n s (outN b n s) n
    rw [outN_congr h s, inN_congr h n (Nat.le_refl _)]
theorem ordsN_congr {a b : List Sp} (hl : a.length = b.length) (h : ∀ k i, k < a.length → i < a.length → ahd (spAt a k) (spAt a i) = ahd (spAt b k) (spAt b i)) : ordsN a = ordsN b := by
  unfold ordsN
  rw [← hl, outN_congr h]
/-- Rows of spans of a history: none is ahead of an earlier one. -/
theorem later_hist {hs : List EvD} (he : hErr hs = 0) {i k : Nat} (hik : i ≤ k) (hk : k < (spansL hs).length) : ahd (spAt (spansL hs) k) (spAt (spansL hs) i) = false := by
  obtain ⟨_, s, hst, hsl⟩ := hErr_zero he
  have ok := stN_ok hst
  rw [hsl] at hk ⊢
  have t := ok.to k hk
  have r : (spAt s.spans i).1 ≤ (spAt s.spans k).1 := by
    by_cases e : i = k
    · subst e; exact Nat.le_refl _
    · have := ok.rise i k (by omega) hk; omega
  cases h : ahd (spAt s.spans k) (spAt s.spans i)
  · rfl
  · rw [ahd_true] at h
    omega
theorem pick_later {hs : List EvD} (he : hErr hs = 0) (K : Nat → Bool) : Later (pickN (spansL hs) K (spansL hs).length) := by
  intro i k hik hk
  obtain ⟨a, a1, a2, a3, a4⟩ := pickN_from (spansL hs) K (spansL hs).length i (by omega)
  obtain ⟨b, b1, b2, b3, b4⟩ := pickN_from (spansL hs) K (spansL hs).length k hk
  rw [a4, b4]
  refine later_hist he ?_ b1
  by_cases e : a ≤ b
  · exact e
  · have := cntK_lt K (i := b) (j := a) (by omega) b2
    omega
theorem pick_trans {hs : List EvD} (he : hErr hs = 0) (K : Nat → Bool) : ∀ i k, i < k → k < (pickN (spansL hs) K (spansL hs).length).length → ahd (spAt (pickN (spansL hs) K (spansL hs).length) i) (spAt (pickN (spansL hs) K (spansL hs).length) (i + 1)) = true → ahd (spAt (pickN (spansL hs) K (spansL hs).length) i) (spAt (pickN (spansL hs) K (spansL hs).length) k) = true := by
  intro i k hik hk h
  by_cases e : k = i + 1
  · subst e; exact h
  obtain ⟨a, a1, a2, a3, a4⟩ := pickN_from (spansL hs) K (spansL hs).length (i + 1) (by omega)
  obtain ⟨b, b1, b2, b3, b4⟩ := pickN_from (spansL hs) K (spansL hs).length k hk
  rw [a4] at h
  rw [b4]
  rw [ahd_true] at h ⊢
  obtain ⟨_, s, hst, hsl⟩ := hErr_zero he
  have ok := stN_ok hst
  have hab : a < b := by
    by_cases z : a < b
    · exact z
    · have := cntK_mono K (i := b) (j := a) (by omega)
      omega
  have := ok.rise a b hab (by rw [← hsl]; exact b1)
  rw [← hsl] at this
  exact ⟨h.1, by omega⟩
/-- What EventRows asks of the counts. -/
theorem rows_counts {hs : List EvD} (he : hErr hs = 0) (hn : hs.length ≤ 24) : ∃ n : Nat, 1 ≤ n ∧ ordersA hs = ((n : Int), 0) ∧ ordersA (doneL hs) = ((n : Int), 0) ∧ (n = 1 ↔ (decide (hErr (doneL hs) = 0) && decide (widthA (doneL hs) ≤ 1)) = true) := by
  have ed : doneL hs = keptN hs (Kdone hs) hs.length := by simp [doneL, he]
  have hd := doneL_ok hs
  have hR : rtN (spansL hs) (spansL hs).length = pickN (spansL hs) (Kdone hs) (spansL hs).length := (pickN_done hs _).symm
  have hD : spansL (doneL hs) = (rtN (spansL hs) (spansL hs).length).map (renS hs (Kdone hs)) := by rw [ed, kept_spans he, hR]
  have h12 : (rtN (spansL hs) (spansL hs).length).length ≤ 12 := by
    have hc := stN_count (hErr_zero hd).2.choose_spec.1
    have hkl := keptN_le hs (Kdone hs) hs.length
    have hpl := (pickN_places he (Kdone hs) _ (Nat.le_refl _))
    have hpp := places_sorted he (Kdone hs)
    have hlen := congrArg List.length hpp
    rw [List.length_mergeSort] at hlen
    have hk2 : (keptI hs (Kdone hs) hs.length).length = (keptN hs (Kdone hs) hs.length).length := by rw [keptN_map, List.length_map]
    have hall : ∀ p ∈ pickN (spansL hs) (Kdone hs) (spansL hs).length, p.2 ≠ -1 := by
      intro p hp
      obtain ⟨k, _, hk, rfl⟩ := (pickN_mem _ _ _ _).1 hp
      simpa [Kdone] using hk
    have hdbl : ∀ l : List Sp, (∀ p ∈ l, p.2 ≠ -1) → (placesL l).length = 2 * l.length := by
      intro l
      induction l with
      | nil => intro _; rfl
      | cons p t ih =>
        intro h
        simp only [placesL]
        rw [if_neg (h p (by simp))]
        simp only [List.length_cons]
        rw [ih (fun q hq => h q (by simp [hq]))]
        omega
    have := hdbl _ hall
    rw [hR]
    omega
  refine ⟨ordsN (rtN (spansL hs) (spansL hs).length), ?_, ?_, ?_, ?_⟩
  · rw [hR] at h12 ⊢
    exact ords_one h12 (pick_later he _)
  · unfold ordersA
    rw [if_neg (fun q => q he), if_neg (by omega), ords_eq h12]
  · have hall : ∀ k, k < (spansL (doneL hs)).length → (spAt (spansL (doneL hs)) k).2 ≠ -1 := by
      intro k hk
      rw [hD] at hk ⊢
      rw [List.length_map] at hk
      rw [spAt_map _ _ _ hk]
      rw [hR] at hk ⊢
      obtain ⟨a, a1, a2, _, a4⟩ := pickN_from (spansL hs) (Kdone hs) (spansL hs).length k hk
      rw [a4]
      have : (spAt (spansL hs) a).2 ≠ -1 := by simpa [Kdone] using a2
      unfold renS
      simp only
      rw [if_neg this]
      omega
    have er : rtN (spansL (doneL hs)) (spansL (doneL hs)).length = spansL (doneL hs) := by rw [rtN_none _ hall (Nat.le_refl _), List.take_length]
    have hl : (spansL (doneL hs)).length = (rtN (spansL hs) (spansL hs).length).length := by rw [hD, List.length_map]
    unfold ordersA
    rw [if_neg (fun q => q hd), er, if_neg (by omega), ords_eq (by omega)]
    have : ordsN (spansL (doneL hs)) = ordsN (rtN (spansL hs) (spansL hs).length) := by
      refine ordsN_congr hl (fun k i hk hi => ?_)
      rw [hl] at hk hi
      rw [hD, spAt_map _ _ _ hk, spAt_map _ _ _ hi]
      rw [hR] at hk hi ⊢
      obtain ⟨a, a1, a2, _, a4⟩ := pickN_from (spansL hs) (Kdone hs) (spansL hs).length k hk
      obtain ⟨b, b1, b2, _, b4⟩ := pickN_from (spansL hs) (Kdone hs) (spansL hs).length i hi
      rw [a4, b4]
      exact ren_ahd he (Kdone hs) a1 a2
    rw [this]
  · obtain ⟨_, s, hst, hsl⟩ := hErr_zero hd
    have hw := (wd_inv hst).2.2
    rw [← hsl] at hw
    have hwa : widthA (doneL hs) = (wdN (doneL hs) (doneL hs).length).2 := by unfold widthA; rw [if_pos hd]
    simp only [Bool.and_eq_true, decide_eq_true_eq]
    rw [hwa, hw]
    have hl : (spansL (doneL hs)).length = (rtN (spansL hs) (spansL hs).length).length := by rw [hD, List.length_map]
    have hrow := ords_row (sp := pickN (spansL hs) (Kdone hs) (spansL hs).length) (by rw [← hR]; exact h12) (pick_later he _) (pick_trans he _)
    rw [hR, hrow]
    unfold allAhd
    constructor
    · intro h
      refine ⟨hd, fun i k hik hk => ?_⟩
      rw [hl] at hk
      rw [hD, spAt_map _ _ _ hk, spAt_map _ _ _ (by omega)]
      rw [hR] at hk ⊢
      obtain ⟨a, a1, a2, _, a4⟩ := pickN_from (spansL hs) (Kdone hs) (spansL hs).length i (by omega)
      obtain ⟨b, b1, b2, _, b4⟩ := pickN_from (spansL hs) (Kdone hs) (spansL hs).length k hk
      have := h i k hik hk
      rw [a4, b4] at this ⊢
      rw [ren_ahd he (Kdone hs) a1 a2]
      exact this
    · rintro ⟨_, h⟩ i k hik hk
      rw [hR] at hl
      have := h i k hik (by rw [hl]; exact hk)
      rw [hD, hR, spAt_map _ _ _ hk, spAt_map _ _ _ (by omega)] at this
      obtain ⟨a, a1, a2, _, a4⟩ := pickN_from (spansL hs) (Kdone hs) (spansL hs).length i (by omega)
      obtain ⟨b, b1, b2, _, b4⟩ := pickN_from (spansL hs) (Kdone hs) (spansL hs).length k hk
      rw [a4, b4] at this ⊢
      rw [ren_ahd he (Kdone hs) a1 a2] at this
      exact this
end Go.Proofs.Ytniognoapcaliaa

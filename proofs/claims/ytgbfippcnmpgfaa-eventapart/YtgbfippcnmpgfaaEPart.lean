
/- Layer 5: the parts of a history as data: which operation an event belongs to; the events of some operations are a history. No function of the program. -/

import Derived.Test.YtgbfippcnmpgfaaEEvs

namespace Go.Proofs.Ytgbfippcnmpgfaa

open Go.RowKit

/-- The number of the operation that event j belongs to. -/
def ownN (hs : List EvD) (j : Nat) : Nat := match stN hs j with
  | some s => if (evAt hs j).ret then s.beg (evAt hs j).th.toNat - 1 else s.spans.length
  | none => 0
/-- The events of the operations that are kept, among the first j. -/
def keptN (hs : List EvD) (K : Nat → Bool) : Nat → List EvD
  | 0 => []
  | j + 1 => if K (ownN hs j) = true then keptN hs K j ++ [evAt hs j] else keptN hs K j
theorem keptN_le (hs : List EvD) (K : Nat → Bool) : ∀ j, (keptN hs K j).length ≤ j
  | 0 => Nat.le_refl _
  | j + 1 => by
    have := keptN_le hs K j
    simp only [keptN]
    split
    · simp; omega
    · omega
theorem own_iff {hs : List EvD} : ∀ {j : Nat} {s : St}, stN hs j = some s → ∀ i, i < j → ownN hs i < s.spans.length ∧ (evAt hs (spAt s.spans (ownN hs i)).1).th = (evAt hs i).th ∧ ∀ k, k < s.spans.length → (((spAt s.spans k).1 = i ∨ (spAt s.spans k).2 = (i : Int)) ↔ k = ownN hs i)
  | 0, s, h => fun i hi => by omega
  | j + 1, s, h => by
    have h' : (stN hs j).bind (fun s => stepS hs s j) = some s := h
    cases hj : stN hs j with
    | none => rw [hj] at h'; cases h'
    | some s0 =>
      have ok := stN_ok hj
      have ih := own_iff hj
      rw [hj] at h'
      have h2 : stepS hs s0 j = some s := h'
      obtain ⟨t, ht, h64, q⟩ := stepS_cases h2
      rcases q with ⟨hr, hb, hi, rfl⟩ | ⟨hr, hb, ho, rfl⟩
      · have own : ownN hs j = s0.spans.length := by unfold ownN; rw [hj]; simp [hr]
        intro i hi'
        simp only [List.length_append, List.length_singleton]
        by_cases e : i = j
        · subst e
          rw [own]
          refine ⟨by omega, ?_, fun k hk => ?_⟩
          · rw [spAt_append, if_pos rfl]
          · rw [spAt_append]
            by_cases e2 : k = s0.spans.length
            · rw [if_pos e2]; simp [e2]
            · rw [if_neg e2]
              have f := ok.fr k (by omega)
              have g := ok.to k (by omega)
              constructor
              · intro h; omega
              · intro h; omega
        · obtain ⟨a, b, c⟩ := ih i (by omega)
          refine ⟨by omega, ?_, fun k hk => ?_⟩
          · rw [spAt_append, if_neg (by omega)]; exact b
          · rw [spAt_append]
            by_cases e2 : k = s0.spans.length
            · rw [if_pos e2]
              simp only
              constructor
              · intro h; omega
              · intro h; omega
            · rw [if_neg e2]; exact c k (by omega)
      · have hq := ok.beg t
        have own : ownN hs j = s0.beg t - 1 := by unfold ownN; rw [hj]; simp [hr, ht]
        have opn := ok.opn t hb
        obtain ⟨q, hqe⟩ : ∃ q, q = s0.beg t - 1 := ⟨_, rfl⟩
        rw [← hqe] at own opn ⊢
        have hql : q < s0.spans.length := by omega
        intro i hi'
        simp only [List.length_set]
        by_cases e : i = j
        · subst e
          rw [own]
          refine ⟨hql, ?_, fun k hk => ?_⟩
          · rw [spAt_set _ _ _ _ hql, if_pos rfl]
            simp only
            rw [opn.2, ht]
          · rw [spAt_set _ _ _ _ hql]
            by_cases e2 : k = q
            · rw [if_pos e2]; simp [e2]
            · rw [if_neg e2]
              have f := ok.fr k (by omega)
              have g := ok.to k (by omega)
              constructor
              · intro h; omega
              · intro h; omega
        · obtain ⟨a, b, c⟩ := ih i (by omega)
          refine ⟨a, ?_, fun k hk => ?_⟩
          · rw [spAt_set _ _ _ _ hql]
            split
            · rename_i e3; rw [← e3]; exact b
            · exact b
          · have ck := c k hk
            rw [spAt_set _ _ _ _ hql]
            by_cases e2 : k = q
            · subst e2
              rw [if_pos rfl]
              simp only
              rw [← ck]
              have f := opn.1
              constructor
              · intro h; omega
              · intro h; omega
            · rw [if_neg e2]; exact ck
theorem own_last {hs : List EvD} (he : hErr hs = 0) {i : Nat} (hi : i < hs.length) : ownN hs i < (spansL hs).length ∧ (evAt hs (spAt (spansL hs) (ownN hs i)).1).th = (evAt hs i).th ∧ ∀ k, k < (spansL hs).length → (((spAt (spansL hs) k).1 = i ∨ (spAt (spansL hs) k).2 = (i : Int)) ↔ k = ownN hs i) := by
  obtain ⟨_, s, hst, hsl⟩ := hErr_zero he
  rw [hsl]
  exact own_iff hst i hi

theorem kept_sim {hs : List EvD} (K : Nat → Bool) (hs' : List EvD) : ∀ {j : Nat} {s : St}, stN hs j = some s → (∀ i, i < (keptN hs K j).length → evAt hs' i = evAt (keptN hs K j) i) →
    ∃ s', stN hs' (keptN hs K j).length = some s' ∧ ∀ t, t < 64 → (0 < s'.beg t ↔ 0 < s.beg t ∧ K (s.beg t - 1) = true) ∧ (0 < s'.beg t → opOf hs' s' t = opOf hs s t)
  | 0, s, h, _ => by
    cases h
    exact ⟨⟨[], fun _ => 0⟩, rfl, fun t _ => by simp⟩
  | j + 1, s, h, hp => by
    have h' : (stN hs j).bind (fun s => stepS hs s j) = some s := h
    cases hj : stN hs j with
    | none => rw [hj] at h'; cases h'
    | some s0 =>
      have ok := stN_ok hj
      rw [hj] at h'
      have h2 : stepS hs s0 j = some s := h'
      have hpre : ∀ i, i < (keptN hs K j).length → evAt hs' i = evAt (keptN hs K j) i := by
        intro i hi
        simp only [keptN] at hp
        split at hp
        · rw [hp i (by simp; omega)]
          unfold evAt
          rw [List.getD_eq_getElem?_getD, List.getElem?_append_left hi, List.getD_eq_getElem?_getD]
        · exact hp i hi
      obtain ⟨s', hs1, hR⟩ := kept_sim K hs' hj hpre
      have ok' := stN_ok hs1
      obtain ⟨t, ht, h64, q⟩ := stepS_cases h2
      rcases q with ⟨hr, hb, hi, rfl⟩ | ⟨hr, hb, ho, rfl⟩
      · have own : ownN hs j = s0.spans.length := by unfold ownN; rw [hj]; simp [hr]
        have h0 : s'.beg t = 0 := by
          have := (hR t h64).1
          omega
        by_cases hK : K (ownN hs j) = true
        · have ek : keptN hs K (j + 1) = keptN hs K j ++ [evAt hs j] := by simp only [keptN]; rw [if_pos hK]
          have em : evAt hs' (keptN hs K j).length = evAt hs j := by
            rw [hp _ (by rw [ek]; simp), ek]
            unfold evAt
            simp [List.getD_eq_getElem?_getD]
          have hstep := stepS_go (hs := hs') (s := s') (j := (keptN hs K j).length) (t := t) (by rw [em]; exact ht) h64 (by rw [em]; exact hr) h0 (by rw [em]; exact hi)
          refine ⟨_, by rw [ek, List.length_append]; exact stN_next hs1 hstep, fun u hu => ?_⟩
          by_cases e : u = t
          · subst e
            refine ⟨?_, fun _ => ?_⟩
            · simp only [upd, if_true]
              rw [own] at hK
              simp [hK]
            · rw [opOf_new, opOf_new, em]
          · have hRu := hR u hu
            refine ⟨by simpa [upd, e] using hRu.1, fun hpos => ?_⟩
            have hpos' : 0 < s'.beg u := by simpa [upd, e] using hpos
            rw [opOf_go e hpos' (ok'.beg u), opOf_go e (hRu.1.1 hpos').1 (ok.beg u)]
            exact hRu.2 hpos'
        · have ek : keptN hs K (j + 1) = keptN hs K j := by simp only [keptN]; rw [if_neg hK]
          refine ⟨s', by rw [ek]; exact hs1, fun u hu => ?_⟩
          by_cases e : u = t
          · subst e
            rw [own] at hK
            refine ⟨?_, fun hpos => by omega⟩
            simp only [upd, if_true]
            rw [h0]
            simp [hK]
          · have hRu := hR u hu
            refine ⟨by simpa [upd, e] using hRu.1, fun hpos => ?_⟩
            rw [opOf_go e (hRu.1.1 hpos).1 (ok.beg u)]
            exact hRu.2 hpos
      · have own : ownN hs j = s0.beg t - 1 := by unfold ownN; rw [hj]; simp [hr, ht]
        have hbl := ok.beg t
        by_cases hK : K (ownN hs j) = true
        · have ek : keptN hs K (j + 1) = keptN hs K j ++ [evAt hs j] := by simp only [keptN]; rw [if_pos hK]
          have em : evAt hs' (keptN hs K j).length = evAt hs j := by
            rw [hp _ (by rw [ek]; simp), ek]
            unfold evAt
            simp [List.getD_eq_getElem?_getD]
          have hpos : 0 < s'.beg t := (hR t h64).1.2 ⟨hb, by rw [← own]; exact hK⟩
          have hop : opOf hs' s' t = opOf hs s0 t := (hR t h64).2 hpos
          have hbl' := ok'.beg t
          have hstep := stepS_back (hs := hs') (s := s') (j := (keptN hs K j).length) (t := t) (by rw [em]; exact ht) h64 (by rw [em]; exact hr) hpos (by rw [em]; have : opEq (opOf hs s0 t) (evAt hs j).op = true := ho; rw [← hop] at this; exact this)
          refine ⟨_, by rw [ek, List.length_append]; exact stN_next hs1 hstep, fun u hu => ?_⟩
          by_cases e : u = t
          · subst e
            simp [upd]
          · have hRu := hR u hu
            refine ⟨by simpa [upd, e] using hRu.1, fun hpos2 => ?_⟩
            have hpos' : 0 < s'.beg u := by simpa [upd, e] using hpos2
            rw [opOf_back e (by omega), opOf_back e (by omega)]
            exact hRu.2 hpos'
        · have ek : keptN hs K (j + 1) = keptN hs K j := by simp only [keptN]; rw [if_neg hK]
          refine ⟨s', by rw [ek]; exact hs1, fun u hu => ?_⟩
          by_cases e : u = t
          · subst e
            have h0 : ¬ 0 < s'.beg u := by
              intro hc
              have := ((hR u hu).1.1 hc).2
              rw [own] at hK
              exact hK this
            refine ⟨?_, fun hpos => absurd hpos h0⟩
            simp only [upd, if_true]
            constructor
            · intro hc; exact absurd hc h0
            · intro hc; omega
          · have hRu := hR u hu
            refine ⟨by simpa [upd, e] using hRu.1, fun hpos => ?_⟩
            rw [opOf_back e (by omega)]
            exact hRu.2 hpos
/-- The events of any operations of a history are a history. -/
theorem kept_history {hs : List EvD} (he : hErr hs = 0) (K : Nat → Bool) : hErr (keptN hs K hs.length) = 0 := by
  obtain ⟨hb, s, hst, hsl⟩ := hErr_zero he
  obtain ⟨s', h', _⟩ := kept_sim K (keptN hs K hs.length) hst (fun _ _ => rfl)
  have hl := keptN_le hs K hs.length
  exact (hErr_ok (by omega) h').1

/-- The events of one thread, among the first j. -/
def thN (hs : List EvD) (t : Int) : Nat → List EvD
  | 0 => []
  | j + 1 => if (evAt hs j).th = t then thN hs t j ++ [evAt hs j] else thN hs t j
theorem thN_le (hs : List EvD) (t : Int) : ∀ j, (thN hs t j).length ≤ j
  | 0 => Nat.le_refl _
  | j + 1 => by
    have := thN_le hs t j
    simp only [thN]
    split
    · simp; omega
    · omega
def Kof (hs : List EvD) (t : Int) : Nat → Bool := fun k => decide ((evAt hs (spAt (spansL hs) k).1).th = t)
theorem thN_kept {hs : List EvD} (he : hErr hs = 0) (t : Int) : ∀ j, j ≤ hs.length → thN hs t j = keptN hs (Kof hs t) j
  | 0, _ => rfl
  | j + 1, hj => by
    have ih := thN_kept he t j (by omega)
    have ow := (own_last he (i := j) (by omega)).2.1
    simp only [thN, keptN, Kof, decide_eq_true_eq]
    rw [ow, ih]
def Kcut (n : Int) : Nat → Bool := fun k => decide ((k : Int) < n)
def Kdone (hs : List EvD) : Nat → Bool := fun k => decide ((spAt (spansL hs) k).2 ≠ -1)

/-- The places of the events of some spans. -/
def placesL : List Sp → List Int
  | [] => []
  | p :: t => if p.2 = -1 then (p.1 : Int) :: placesL t else (p.1 : Int) :: p.2 :: placesL t
theorem placesL_append : ∀ a b : List Sp, placesL (a ++ b) = placesL a ++ placesL b
  | [], _ => rfl
  | p :: t, b => by
    simp only [List.cons_append, placesL]
    split
    · rw [placesL_append t b]; rfl
    · rw [placesL_append t b]; rfl
theorem placesL_le : ∀ a : List Sp, (placesL a).length ≤ 2 * a.length
  | [] => by simp [placesL]
  | p :: t => by
    have := placesL_le t
    simp only [placesL]
    split <;> simp <;> omega
theorem placesL_mem (x : Int) : ∀ a : List Sp, x ∈ placesL a ↔ ∃ p ∈ a, ((p.1 : Int) = x ∨ p.2 ≠ -1 ∧ p.2 = x)
  | [] => by simp [placesL]
  | p :: t => by
    simp only [placesL]
    split
    · rename_i h
      rw [List.mem_cons, placesL_mem x t]
      simp only [List.mem_cons, exists_eq_or_imp, h]
      constructor
      · rintro (h | h)
        · exact Or.inl (Or.inl h.symm)
        · exact Or.inr h
      · rintro ((h | h) | h)
        · exact Or.inl h.symm
        · exact absurd rfl h.1
        · exact Or.inr h
    · rename_i h
      rw [List.mem_cons, List.mem_cons, placesL_mem x t]
      simp only [List.mem_cons, exists_eq_or_imp]
      constructor
      · rintro (q | q | q)
        · exact Or.inl (Or.inl q.symm)
        · exact Or.inl (Or.inr ⟨h, q.symm⟩)
        · exact Or.inr q
      · rintro ((q | q) | q)
        · exact Or.inl q.symm
        · exact Or.inr (Or.inl q.2.symm)
        · exact Or.inr (Or.inr q)
/-- The numbers of the events that are kept, among the first j. -/
def keptI (hs : List EvD) (K : Nat → Bool) : Nat → List Int
  | 0 => []
  | j + 1 => if K (ownN hs j) = true then keptI hs K j ++ [(j : Int)] else keptI hs K j
theorem keptI_mem (hs : List EvD) (K : Nat → Bool) (x : Int) : ∀ j, x ∈ keptI hs K j ↔ ∃ i : Nat, x = i ∧ i < j ∧ K (ownN hs i) = true
  | 0 => by simp [keptI]
  | j + 1 => by
    simp only [keptI]
    split
    · rename_i h
      rw [List.mem_append, keptI_mem hs K x j, List.mem_singleton]
      constructor
      · rintro (⟨i, e, hi, hk⟩ | e)
        · exact ⟨i, e, by omega, hk⟩
        · exact ⟨j, e, by omega, h⟩
      · rintro ⟨i, e, hi, hk⟩
        by_cases q : i = j
        · subst q; exact Or.inr e
        · exact Or.inl ⟨i, e, by omega, hk⟩
    · rename_i h
      rw [keptI_mem hs K x j]
      constructor
      · rintro ⟨i, e, hi, hk⟩; exact ⟨i, e, by omega, hk⟩
      · rintro ⟨i, e, hi, hk⟩
        by_cases q : i = j
        · subst q; exact absurd hk h
        · exact ⟨i, e, by omega, hk⟩
theorem keptI_rise (hs : List EvD) (K : Nat → Bool) : ∀ j, (keptI hs K j).Pairwise (· < ·)
  | 0 => List.Pairwise.nil
  | j + 1 => by
    simp only [keptI]
    split
    · rw [List.pairwise_append]
      refine ⟨keptI_rise hs K j, List.pairwise_singleton _ _, fun a ha b hb => ?_⟩
      obtain ⟨i, e, hi, _⟩ := (keptI_mem hs K a j).1 ha
      rw [List.mem_singleton] at hb
      omega
    · exact keptI_rise hs K j
theorem keptN_map (hs : List EvD) (K : Nat → Bool) : ∀ j, keptN hs K j = (keptI hs K j).map fun i => evAt hs i.toNat
  | 0 => rfl
  | j + 1 => by
    simp only [keptN, keptI]
    split
    · rw [List.map_append, keptN_map hs K j]; rfl
    · exact keptN_map hs K j
/-- The spans of some numbers. -/
def pickN (sp : List Sp) (K : Nat → Bool) : Nat → List Sp
  | 0 => []
  | j + 1 => if K j = true then pickN sp K j ++ [spAt sp j] else pickN sp K j
theorem pickN_mem (sp : List Sp) (K : Nat → Bool) (p : Sp) : ∀ j, p ∈ pickN sp K j ↔ ∃ k, k < j ∧ K k = true ∧ p = spAt sp k
  | 0 => by simp [pickN]
  | j + 1 => by
    simp only [pickN]
    split
    · rename_i h
      rw [List.mem_append, pickN_mem sp K p j, List.mem_singleton]
      constructor
      · rintro (⟨i, hi, hk, e⟩ | e)
        · exact ⟨i, by omega, hk, e⟩
        · exact ⟨j, by omega, h, e⟩
      · rintro ⟨i, hi, hk, e⟩
        by_cases q : i = j
        · subst q; exact Or.inr e
        · exact Or.inl ⟨i, by omega, hk, e⟩
    · rename_i h
      rw [pickN_mem sp K p j]
      constructor
      · rintro ⟨i, hi, hk, e⟩; exact ⟨i, by omega, hk, e⟩
      · rintro ⟨i, hi, hk, e⟩
        by_cases q : i = j
        · subst q; exact absurd hk h
        · exact ⟨i, by omega, hk, e⟩
theorem pickN_places {hs : List EvD} (he : hErr hs = 0) (K : Nat → Bool) : ∀ j, j ≤ (spansL hs).length → (placesL (pickN (spansL hs) K j)).Nodup ∧ ∀ x, x ∈ placesL (pickN (spansL hs) K j) ↔ ∃ i : Nat, x = i ∧ i < hs.length ∧ K (ownN hs i) = true ∧ ownN hs i < j
  | 0, _ => by simp [pickN, placesL]
  | j + 1, hj => by
    obtain ⟨nd, mem⟩ := pickN_places he K j (by omega)
    obtain ⟨hb, s, hst, hsl⟩ := hErr_zero he
    have ok := stN_ok hst
    have fr := ok.fr j (by rw [← hsl]; omega)
    have to := ok.to j (by rw [← hsl]; omega)
    rw [← hsl] at fr to
    have o1 := ((own_last he fr).2.2 j (by omega)).1 (Or.inl rfl)
    simp only [pickN]
    split
    · rename_i hK
      rw [placesL_append]
      have hnew : ∀ x, x ∈ placesL [spAt (spansL hs) j] ↔ ∃ i : Nat, x = i ∧ i < hs.length ∧ ownN hs i = j := by
        intro x
        rw [placesL_mem]
        simp only [List.mem_singleton, exists_eq_left]
        constructor
        · rintro (h | ⟨h1, h2⟩)
          · exact ⟨_, h.symm, fr, o1.symm⟩
          · rcases to with q | q
            · exact absurd q h1
            · refine ⟨(spAt (spansL hs) j).2.toNat, by omega, by omega, ?_⟩
              exact (((own_last he (i := (spAt (spansL hs) j).2.toNat) (by omega)).2.2 j (by omega)).1 (Or.inr (by omega))).symm
        · rintro ⟨i, rfl, hi, ho⟩
          rcases ((own_last he hi).2.2 j (by omega)).2 ho.symm with q | q
          · exact Or.inl (by omega)
          · exact Or.inr ⟨by omega, q⟩
      refine ⟨?_, fun x => ?_⟩
      · rw [List.nodup_append]
        refine ⟨nd, ?_, fun a ha b hb e => ?_⟩
        · simp only [placesL]
          split
          · simp
          · rename_i h
            rcases to with q | q
            · exact absurd q h
            · simp; omega
        · obtain ⟨i, e1, _, _, o2⟩ := (mem a).1 ha
          obtain ⟨i', e2, _, o3⟩ := (hnew b).1 hb
          have : i = i' := by omega
          subst this
          omega
      · rw [List.mem_append, mem, hnew]
        constructor
        · rintro (⟨i, e, hi, hk, ho⟩ | ⟨i, e, hi, ho⟩)
          · exact ⟨i, e, hi, hk, by omega⟩
          · exact ⟨i, e, hi, by rw [ho]; exact hK, by omega⟩
        · rintro ⟨i, e, hi, hk, ho⟩
          by_cases q : ownN hs i = j
          · exact Or.inr ⟨i, e, hi, q⟩
          · exact Or.inl ⟨i, e, hi, hk, by omega⟩
    · rename_i hK
      refine ⟨nd, fun x => ?_⟩
      rw [mem]
      constructor
      · rintro ⟨i, e, hi, hk, ho⟩; exact ⟨i, e, hi, hk, by omega⟩
      · rintro ⟨i, e, hi, hk, ho⟩
        by_cases q : ownN hs i = j
        · rw [q] at hk; exact absurd hk hK
        · exact ⟨i, e, hi, hk, by omega⟩
/-- Sorted, the places of some operations are the numbers of their events. -/
theorem places_sorted {hs : List EvD} (he : hErr hs = 0) (K : Nat → Bool) : (placesL (pickN (spansL hs) K (spansL hs).length)).mergeSort (fun x y => decide (x ≤ y)) = keptI hs K hs.length := by
  obtain ⟨nd, mem⟩ := pickN_places he K _ (Nat.le_refl _)
  have hr := keptI_rise hs K hs.length
  have nd2 : (keptI hs K hs.length).Nodup := hr.imp (fun h => by omega)
  have perm : ((placesL (pickN (spansL hs) K (spansL hs).length)).mergeSort (fun x y => decide (x ≤ y))).Perm (keptI hs K hs.length) := by
    refine (List.mergeSort_perm _ _).trans ?_
    rw [List.perm_ext_iff_of_nodup nd nd2]
    intro x
    rw [mem, keptI_mem]
    constructor
    · rintro ⟨i, e, hi, hk, _⟩; exact ⟨i, e, hi, hk⟩
    · rintro ⟨i, e, hi, hk⟩; exact ⟨i, e, hi, hk, (own_last he hi).1⟩
  refine List.Perm.eq_of_pairwise (le := fun x y : Int => decide (x ≤ y) = true) ?_ ?_ ?_ perm
  · intro a b _ _ h1 h2
    simp only [decide_eq_true_eq] at h1 h2
    omega
  · exact List.pairwise_mergeSort (by intro a b c h1 h2; simp only [decide_eq_true_eq] at *; omega) (by intro a b; simp only [Bool.or_eq_true, decide_eq_true_eq]; omega) _
  · exact hr.imp (fun h => by simp only [decide_eq_true_eq]; omega)
end Go.Proofs.Ytgbfippcnmpgfaa

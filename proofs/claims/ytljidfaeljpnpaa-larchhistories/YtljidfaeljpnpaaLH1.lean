/- LarchHistories, pure: a row of operations that is stretched in time, and why it is a history in form. No function of the program. Layer 5: the parts of a history as data: which operation an event belongs to; the events of some operations are a history. No function of the program. -/
import Derived.Test.YtljidfaeljpnpaaEEvs
import Derived.Test.YtljidfaeljpnpaaEAbs

namespace Go.Proofs.Ytljidfaeljpnpaa

open Go.RowKit

/-- The number of the operation that event j belongs to. -/
def ownN (hs : List EvD) (j : Nat) : Nat := match stN hs j with
  | some s => if (evAt hs j).ret then s.beg (evAt hs j).th.toNat - 1 else s.spans.length
  | none => 0
/-- The events of the operations that are kept, among the first j. -/
def keptN (hs : List EvD) (K : Nat → Bool) : Nat → List EvD
  | 0 => []
  | j + 1 => if K (ownN hs j) = true then keptN hs K j ++ [evAt hs j] else keptN hs K j
theorem keptN_le (hs : List EvD) (K : Nat → Bool) : ∀ j, (keptN hs K j).length ≤ j
  | 0 => Nat.le_refl _
  | j + 1 => by
    have := keptN_le hs K j
    simp only [keptN]
    split
    · simp; omega
    · omega
theorem own_iff {hs : List EvD} : ∀ {j : Nat} {s : St}, stN hs j = some s → ∀ i, i < j → ownN hs i < s.spans.length ∧ (evAt hs (spAt s.spans (ownN hs i)).1).th = (evAt hs i).th ∧ ∀ k, k < s.spans.length → (((spAt s.spans k).1 = i ∨ (spAt s.spans k).2 = (i : Int)) ↔ k = ownN hs i)
  | 0, s, h => fun i hi => by omega
  | j + 1, s, h => by
    have h' : (stN hs j).bind (fun s => stepS hs s j) = some s := h
    cases hj : stN hs j with
    | none => rw [hj] at h'; cases h'
    | some s0 =>
      have ok := stN_ok hj
      have ih := own_iff hj
      rw [hj] at h'
      have h2 : stepS hs s0 j = some s := h'
      obtain ⟨t, ht, h64, q⟩ := stepS_cases h2
      rcases q with ⟨hr, hb, hi, rfl⟩ | ⟨hr, hb, ho, rfl⟩
      · have own : ownN hs j = s0.spans.length := by unfold ownN; rw [hj]; simp [hr]
        intro i hi'
        simp only [List.length_append, List.length_singleton]
        by_cases e : i = j
        · subst e
          rw [own]
          refine ⟨by omega, ?_, fun k hk => ?_⟩
          · rw [spAt_append, if_pos rfl]
          · rw [spAt_append]
            by_cases e2 : k = s0.spans.length
            · rw [if_pos e2]; simp [e2]
            · rw [if_neg e2]
              have f := ok.fr k (by omega)
              have g := ok.to k (by omega)
              constructor
              · intro h; omega
              · intro h; omega
        · obtain ⟨a, b, c⟩ := ih i (by omega)
          refine ⟨by omega, ?_, fun k hk => ?_⟩
          · rw [spAt_append, if_neg (by omega)]; exact b
          · rw [spAt_append]
            by_cases e2 : k = s0.spans.length
            · rw [if_pos e2]
              simp only
              constructor
              · intro h; omega
              · intro h; omega
            · rw [if_neg e2]; exact c k (by omega)
      · have hq := ok.beg t
        have own : ownN hs j = s0.beg t - 1 := by unfold ownN; rw [hj]; simp [hr, ht]
        have opn := ok.opn t hb
        obtain ⟨q, hqe⟩ : ∃ q, q = s0.beg t - 1 := ⟨_, rfl⟩
        rw [← hqe] at own opn ⊢
        have hql : q < s0.spans.length := by omega
        intro i hi'
        simp only [List.length_set]
        by_cases e : i = j
        · subst e
          rw [own]
          refine ⟨hql, ?_, fun k hk => ?_⟩
          · rw [spAt_set _ _ _ _ hql, if_pos rfl]
            simp only
            rw [opn.2, ht]
          · rw [spAt_set _ _ _ _ hql]
            by_cases e2 : k = q
            · rw [if_pos e2]; simp [e2]
            · rw [if_neg e2]
              have f := ok.fr k (by omega)
              have g := ok.to k (by omega)
              constructor
              · intro h; omega
              · intro h; omega
        · obtain ⟨a, b, c⟩ := ih i (by omega)
          refine ⟨a, ?_, fun k hk => ?_⟩
          · rw [spAt_set _ _ _ _ hql]
            split
            · rename_i e3; rw [← e3]; exact b
            · exact b
          · have ck := c k hk
            rw [spAt_set _ _ _ _ hql]
            by_cases e2 : k = q
            · subst e2
              rw [if_pos rfl]
              simp only
              rw [← ck]
              have f := opn.1
              constructor
              · intro h; omega
              · intro h; omega
            · rw [if_neg e2]; exact ck
theorem own_last {hs : List EvD} (he : hErr hs = 0) {i : Nat} (hi : i < hs.length) : ownN hs i < (spansL hs).length ∧ (evAt hs (spAt (spansL hs) (ownN hs i)).1).th = (evAt hs i).th ∧ ∀ k, k < (spansL hs).length → (((spAt (spansL hs) k).1 = i ∨ (spAt (spansL hs) k).2 = (i : Int)) ↔ k = ownN hs i) := by
  obtain ⟨_, s, hst, hsl⟩ := hErr_zero he
  rw [hsl]
  exact own_iff hst i hi

theorem kept_sim {hs : List EvD} (K : Nat → Bool) (hs' : List EvD) : ∀ {j : Nat} {s : St}, stN hs j = some s → (∀ i, i < (keptN hs K j).length → evAt hs' i = evAt (keptN hs K j) i) →
    ∃ s', stN hs' (keptN hs K j).length = some s' ∧ ∀ t, t < 64 → (0 < s'.beg t ↔ 0 < s.beg t ∧ K (s.beg t - 1) = true) ∧ (0 < s'.beg t → opOf hs' s' t = opOf hs s t)
  | 0, s, h, _ => by
    cases h
    exact ⟨⟨[], fun _ => 0⟩, rfl, fun t _ => by simp⟩
  | j + 1, s, h, hp => by
    have h' : (stN hs j).bind (fun s => stepS hs s j) = some s := h
    cases hj : stN hs j with
    | none => rw [hj] at h'; cases h'
    | some s0 =>
      have ok := stN_ok hj
      rw [hj] at h'
      have h2 : stepS hs s0 j = some s := h'
      have hpre : ∀ i, i < (keptN hs K j).length → evAt hs' i = evAt (keptN hs K j) i := by
        intro i hi
        simp only [keptN] at hp
        split at hp
        · rw [hp i (by simp; omega)]
          unfold evAt
          rw [List.getD_eq_getElem?_getD, List.getElem?_append_left hi, List.getD_eq_getElem?_getD]
        · exact hp i hi
      obtain ⟨s', hs1, hR⟩ := kept_sim K hs' hj hpre
      have ok' := stN_ok hs1
      obtain ⟨t, ht, h64, q⟩ := stepS_cases h2
      rcases q with ⟨hr, hb, hi, rfl⟩ | ⟨hr, hb, ho, rfl⟩
      · have own : ownN hs j = s0.spans.length := by unfold ownN; rw [hj]; simp [hr]
        have h0 : s'.beg t = 0 := by
          have := (hR t h64).1
          omega
        by_cases hK : K (ownN hs j) = true
        · have ek : keptN hs K (j + 1) = keptN hs K j ++ [evAt hs j] := by simp only [keptN]; rw [if_pos hK]
          have em : evAt hs' (keptN hs K j).length = evAt hs j := by
            rw [hp _ (by rw [ek]; simp), ek]
            unfold evAt
            simp [List.getD_eq_getElem?_getD]
          have hstep := stepS_go (hs := hs') (s := s') (j := (keptN hs K j).length) (t := t) (by rw [em]; exact ht) h64 (by rw [em]; exact hr) h0 (by rw [em]; exact hi)
          refine ⟨_, by rw [ek, List.length_append]; exact stN_next hs1 hstep, fun u hu => ?_⟩
          by_cases e : u = t
          · subst e
            refine ⟨?_, fun _ => ?_⟩
            · simp only [upd, if_true]
              rw [own] at hK
              simp [hK]
            · rw [opOf_new, opOf_new, em]
          · have hRu := hR u hu
            refine ⟨by simpa [upd, e] using hRu.1, fun hpos => ?_⟩
            have hpos' : 0 < s'.beg u := by simpa [upd, e] using hpos
            rw [opOf_go e hpos' (ok'.beg u), opOf_go e (hRu.1.1 hpos').1 (ok.beg u)]
            exact hRu.2 hpos'
        · have ek : keptN hs K (j + 1) = keptN hs K j := by simp only [keptN]; rw [if_neg hK]
          refine ⟨s', by rw [ek]; exact hs1, fun u hu => ?_⟩
          by_cases e : u = t
          · subst e
            rw [own] at hK
            refine ⟨?_, fun hpos => by omega⟩
            simp only [upd, if_true]
            rw [h0]
            simp [hK]
          · have hRu := hR u hu
            refine ⟨by simpa [upd, e] using hRu.1, fun hpos => ?_⟩
            rw [opOf_go e (hRu.1.1 hpos).1 (ok.beg u)]
            exact hRu.2 hpos
      · have own : ownN hs j = s0.beg t - 1 := by unfold ownN; rw [hj]; simp [hr, ht]
        have hbl := ok.beg t
        by_cases hK : K (ownN hs j) = true
        · have ek : keptN hs K (j + 1) = keptN hs K j ++ [evAt hs j] := by simp only [keptN]; rw [if_pos hK]
          have em : evAt hs' (keptN hs K j).length = evAt hs j := by
            rw [hp _ (by rw [ek]; simp), ek]
            unfold evAt
            simp [List.getD_eq_getElem?_getD]
          have hpos : 0 < s'.beg t := (hR t h64).1.2 ⟨hb, by rw [← own]; exact hK⟩
          have hop : opOf hs' s' t = opOf hs s0 t := (hR t h64).2 hpos
          have hbl' := ok'.beg t
          have hstep := stepS_back (hs := hs') (s := s') (j := (keptN hs K j).length) (t := t) (by rw [em]; exact ht) h64 (by rw [em]; exact hr) hpos (by rw [em]; have : opEq (opOf hs s0 t) (evAt hs j).op = true := ho; rw [← hop] at this; exact this)
          refine ⟨_, by rw [ek, List.length_append]; exact stN_next hs1 hstep, fun u hu => ?_⟩
          by_cases e : u = t
          · subst e
            simp [upd]
          · have hRu := hR u hu
            refine ⟨by simpa [upd, e] using hRu.1, fun hpos2 => ?_⟩
            have hpos' : 0 < s'.beg u := by simpa [upd, e] using hpos2
            rw [opOf_back e (by omega), opOf_back e (by omega)]
            exact hRu.2 hpos'
        · have ek : keptN hs K (j + 1) = keptN hs K j := by simp only [keptN]; rw [if_neg hK]
          refine ⟨s', by rw [ek]; exact hs1, fun u hu => ?_⟩
          by_cases e : u = t
          · subst e
            have h0 : ¬ 0 < s'.beg u := by
              intro hc
              have := ((hR u hu).1.1 hc).2
              rw [own] at hK
              exact hK this
            refine ⟨?_, fun hpos => absurd hpos h0⟩
            simp only [upd, if_true]
            constructor
            · intro hc; exact absurd hc h0
            · intro hc; omega
          · have hRu := hR u hu
            refine ⟨by simpa [upd, e] using hRu.1, fun hpos => ?_⟩
            rw [opOf_back e (by omega)]
            exact hRu.2 hpos
/-- The events of any operations of a history are a history. -/
theorem kept_history {hs : List EvD} (he : hErr hs = 0) (K : Nat → Bool) : hErr (keptN hs K hs.length) = 0 := by
  obtain ⟨hb, s, hst, hsl⟩ := hErr_zero he
  obtain ⟨s', h', _⟩ := kept_sim K (keptN hs K hs.length) hst (fun _ _ => rfl)
  have hl := keptN_le hs K hs.length
  exact (hErr_ok (by omega) h').1

/-- The events of one thread, among the first j. -/
def thN (hs : List EvD) (t : Int) : Nat → List EvD
  | 0 => []
  | j + 1 => if (evAt hs j).th = t then thN hs t j ++ [evAt hs j] else thN hs t j
theorem thN_le (hs : List EvD) (t : Int) : ∀ j, (thN hs t j).length ≤ j
  | 0 => Nat.le_refl _
  | j + 1 => by
    have := thN_le hs t j
    simp only [thN]
    split
    · simp; omega
    · omega
def Kof (hs : List EvD) (t : Int) : Nat → Bool := fun k => decide ((evAt hs (spAt (spansL hs) k).1).th = t)
theorem thN_kept {hs : List EvD} (he : hErr hs = 0) (t : Int) : ∀ j, j ≤ hs.length → thN hs t j = keptN hs (Kof hs t) j
  | 0, _ => rfl
  | j + 1, hj => by
    have ih := thN_kept he t j (by omega)
    have ow := (own_last he (i := j) (by omega)).2.1
    simp only [thN, keptN, Kof, decide_eq_true_eq]
    rw [ow, ih]
def Kcut (n : Int) : Nat → Bool := fun k => decide ((k : Int) < n)
def Kdone (hs : List EvD) : Nat → Bool := fun k => decide ((spAt (spansL hs) k).2 ≠ -1)

/-- The places of the events of some spans. -/
def placesL : List Sp → List Int
  | [] => []
  | p :: t => if p.2 = -1 then (p.1 : Int) :: placesL t else (p.1 : Int) :: p.2 :: placesL t
theorem placesL_append : ∀ a b : List Sp, placesL (a ++ b) = placesL a ++ placesL b
  | [], _ => rfl
  | p :: t, b => by
    simp only [List.cons_append, placesL]
    split
    · rw [placesL_append t b]; rfl
    · rw [placesL_append t b]; rfl
theorem placesL_le : ∀ a : List Sp, (placesL a).length ≤ 2 * a.length
  | [] => by simp [placesL]
  | p :: t => by
    have := placesL_le t
    simp only [placesL]
    split <;> simp <;> omega
theorem placesL_mem (x : Int) : ∀ a : List Sp, x ∈ placesL a ↔ ∃ p ∈ a, ((p.1 : Int) = x ∨ p.2 ≠ -1 ∧ p.2 = x)
  | [] => by simp [placesL]
  | p :: t => by
    simp only [placesL]
    split
    · rename_i h
      rw [List.mem_cons, placesL_mem x t]
      simp only [List.mem_cons, exists_eq_or_imp, h]
      constructor
      · rintro (h | h)
        · exact Or.inl (Or.inl h.symm)
        · exact Or.inr h
      · rintro ((h | h) | h)
        · exact Or.inl h.symm
        · exact absurd rfl h.1
        · exact Or.inr h
    · rename_i h
      rw [List.mem_cons, List.mem_cons, placesL_mem x t]
      simp only [List.mem_cons, exists_eq_or_imp]
      constructor
      · rintro (q | q | q)
        · exact Or.inl (Or.inl q.symm)
        · exact Or.inl (Or.inr ⟨h, q.symm⟩)
        · exact Or.inr q
      · rintro ((q | q) | q)
        · exact Or.inl q.symm
        · exact Or.inr (Or.inl q.2.symm)
        · exact Or.inr (Or.inr q)
/-- The numbers of the events that are kept, among the first j. -/
def keptI (hs : List EvD) (K : Nat → Bool) : Nat → List Int
  | 0 => []
  | j + 1 => if K (ownN hs j) = true then keptI hs K j ++ [(j : Int)] else keptI hs K j
theorem keptI_mem (hs : List EvD) (K : Nat → Bool) (x : Int) : ∀ j, x ∈ keptI hs K j ↔ ∃ i : Nat, x = i ∧ i < j ∧ K (ownN hs i) = true
  | 0 => by simp [keptI]
  | j + 1 => by
    simp only [keptI]
    split
    · rename_i h
      rw [List.mem_append, keptI_mem hs K x j, List.mem_singleton]
      constructor
      · rintro (⟨i, e, hi, hk⟩ | e)
        · exact ⟨i, e, by omega, hk⟩
        · exact ⟨j, e, by omega, h⟩
      · rintro ⟨i, e, hi, hk⟩
        by_cases q : i = j
        · subst q; exact Or.inr e
        · exact Or.inl ⟨i, e, by omega, hk⟩
    · rename_i h
      rw [keptI_mem hs K x j]
      constructor
      · rintro ⟨i, e, hi, hk⟩; exact ⟨i, e, by omega, hk⟩
      · rintro ⟨i, e, hi, hk⟩
        by_cases q : i = j
        · subst q; exact absurd hk h
        · exact ⟨i, e, by omega, hk⟩
theorem keptI_rise (hs : List EvD) (K : Nat → Bool) : ∀ j, (keptI hs K j).Pairwise (· < ·)
  | 0 => List.Pairwise.nil
  | j + 1 => by
    simp only [keptI]
    split
    · rw [List.pairwise_append]
      refine ⟨keptI_rise hs K j, List.pairwise_singleton _ _, fun a ha b hb => ?_⟩
      obtain ⟨i, e, hi, _⟩ := (keptI_mem hs K a j).1 ha
      rw [List.mem_singleton] at hb
      omega
    · exact keptI_rise hs K j
theorem keptN_map (hs : List EvD) (K : Nat → Bool) : ∀ j, keptN hs K j = (keptI hs K j).map fun i => evAt hs i.toNat
  | 0 => rfl
  | j + 1 => by
    simp only [keptN, keptI]
    split
    · rw [List.map_append, keptN_map hs K j]; rfl
    · exact keptN_map hs K j
/-- The spans of some numbers. -/
def pickN (sp : List Sp) (K : Nat → Bool) : Nat → List Sp
  | 0 => []
  | j + 1 => if K j = true then pickN sp K j ++ [spAt sp j] else pickN sp K j
theorem pickN_mem (sp : List Sp) (K : Nat → Bool) (p : Sp) : ∀ j, p ∈ pickN sp K j ↔ ∃ k, k < j ∧ K k = true ∧ p = spAt sp k
  | 0 => by simp [pickN]
  | j + 1 => by
    simp only [pickN]
    split
    · rename_i h
      rw [List.mem_append, pickN_mem sp K p j, List.mem_singleton]
      constructor
      · rintro (⟨i, hi, hk, e⟩ | e)
        · exact ⟨i, by omega, hk, e⟩
        · exact ⟨j, by omega, h, e⟩
      · rintro ⟨i, hi, hk, e⟩
        by_cases q : i = j
        · subst q; exact Or.inr e
        · exact Or.inl ⟨i, by omega, hk, e⟩
    · rename_i h
      rw [pickN_mem sp K p j]
      constructor
      · rintro ⟨i, hi, hk, e⟩; exact ⟨i, by omega, hk, e⟩
      · rintro ⟨i, hi, hk, e⟩
        by_cases q : i = j
        · subst q; exact absurd hk h
        · exact ⟨i, by omega, hk, e⟩
theorem pickN_places {hs : List EvD} (he : hErr hs = 0) (K : Nat → Bool) : ∀ j, j ≤ (spansL hs).length → (placesL (pickN (spansL hs) K j)).Nodup ∧ ∀ x, x ∈ placesL (pickN (spansL hs) K j) ↔ ∃ i : Nat, x = i ∧ i < hs.length ∧ K (ownN hs i) = true ∧ ownN hs i < j
  | 0, _ => by simp [pickN, placesL]
  | j + 1, hj => by
    obtain ⟨nd, mem⟩ := pickN_places he K j (by omega)
    obtain ⟨hb, s, hst, hsl⟩ := hErr_zero he
    have ok := stN_ok hst
    have fr := ok.fr j (by rw [← hsl]; omega)
    have to := ok.to j (by rw [← hsl]; omega)
    rw [← hsl] at fr to
    have o1 := ((own_last he fr).2.2 j (by omega)).1 (Or.inl rfl)
    simp only [pickN]
    split
    · rename_i hK
      rw [placesL_append]
      have hnew : ∀ x, x ∈ placesL [spAt (spansL hs) j] ↔ ∃ i : Nat, x = i ∧ i < hs.length ∧ ownN hs i = j := by
        intro x
        rw [placesL_mem]
        simp only [List.mem_singleton, exists_eq_left]
        constructor
        · rintro (h | ⟨h1, h2⟩)
          · exact ⟨_, h.symm, fr, o1.symm⟩
          · rcases to with q | q
            · exact absurd q h1
            · refine ⟨(spAt (spansL hs) j).2.toNat, by omega, by omega, ?_⟩
              exact (((own_last he (i := (spAt (spansL hs) j).2.toNat) (by omega)).2.2 j (by omega)).1 (Or.inr (by omega))).symm
        · rintro ⟨i, rfl, hi, ho⟩
          rcases ((own_last he hi).2.2 j (by omega)).2 ho.symm with q | q
          · exact Or.inl (by omega)
          · exact Or.inr ⟨by omega, q⟩
      refine ⟨?_, fun x => ?_⟩
      · rw [List.nodup_append]
        refine ⟨nd, ?_, fun a ha b hb e => ?_⟩
        · simp only [placesL]
          split
          · simp
          · rename_i h
            rcases to with q | q
            · exact absurd q h
            · simp; omega
        · obtain ⟨i, e1, _, _, o2⟩ := (mem a).1 ha
          obtain ⟨i', e2, _, o3⟩ := (hnew b).1 hb
          have : i = i' := by omega
          subst this
          omega
      · rw [List.mem_append, mem, hnew]
        constructor
        · rintro (⟨i, e, hi, hk, ho⟩ | ⟨i, e, hi, ho⟩)
          · exact ⟨i, e, hi, hk, by omega⟩
          · exact ⟨i, e, hi, by rw [ho]; exact hK, by omega⟩
        · rintro ⟨i, e, hi, hk, ho⟩
          by_cases q : ownN hs i = j
          · exact Or.inr ⟨i, e, hi, q⟩
          · exact Or.inl ⟨i, e, hi, hk, by omega⟩
    · rename_i hK
      refine ⟨nd, fun x => ?_⟩
      rw [mem]
      constructor
      · rintro ⟨i, e, hi, hk, ho⟩; exact ⟨i, e, hi, hk, by omega⟩
      · rintro ⟨i, e, hi, hk, ho⟩
        by_cases q : ownN hs i = j
        · rw [q] at hk; exact absurd hk hK
        · exact ⟨i, e, hi, hk, by omega⟩
/-- Sorted, the places of some operations are the numbers of their events. -/
theorem places_sorted {hs : List EvD} (he : hErr hs = 0) (K : Nat → Bool) : (placesL (pickN (spansL hs) K (spansL hs).length)).mergeSort (fun x y => decide (x ≤ y)) = keptI hs K hs.length := by
  obtain ⟨nd, mem⟩ := pickN_places he K _ (Nat.le_refl _)
  have hr := keptI_rise hs K hs.length
  have nd2 : (keptI hs K hs.length).Nodup := hr.imp (fun h => by omega)
  have perm : ((placesL (pickN (spansL hs) K (spansL hs).length)).mergeSort (fun x y => decide (x ≤ y))).Perm (keptI hs K hs.length) := by
    refine (List.mergeSort_perm _ _).trans ?_
    rw [List.perm_ext_iff_of_nodup nd nd2]
    intro x
    rw [mem, keptI_mem]
    constructor
    · rintro ⟨i, e, hi, hk, _⟩; exact ⟨i, e, hi, hk⟩
    · rintro ⟨i, e, hi, hk⟩; exact ⟨i, e, hi, hk, (own_last he hi).1⟩
  refine List.Perm.eq_of_pairwise (le := fun x y : Int => decide (x ≤ y) = true) ?_ ?_ ?_ perm
  · intro a b _ _ h1 h2
    simp only [decide_eq_true_eq] at h1 h2
    omega
  · exact List.pairwise_mergeSort (by intro a b c h1 h2; simp only [decide_eq_true_eq] at *; omega) (by intro a b; simp only [Bool.or_eq_true, decide_eq_true_eq]; omega) _
  · exact hr.imp (fun h => by simp only [decide_eq_true_eq]; omega)
end Go.Proofs.Ytljidfaeljpnpaa


namespace Go.Proofs.Ytljidfaeljpnpaa

open Go.RowKit

/-- The n-th of some numbers, brought to 0 to 3. -/
def atI (l : List Int) (n : Nat) : Int := if n < l.length then (((l.getD n 0).tmod 4).natAbs : Int) else 0
theorem atI_bd (l : List Int) (n : Nat) : 0 ≤ atI l n ∧ atI l n ≤ 3 := by
  unfold atI
  split
  · have h1 := Int.tmod_lt_of_pos (l.getD n 0) (show (0 : Int) < 4 by omega)
    have h2 : -4 < (l.getD n 0).tmod 4 := by
      have := Int.tmod_lt_of_pos (-(l.getD n 0)) (show (0 : Int) < 4 by omega)
      rw [Int.neg_tmod] at this
      omega
    omega
  · omega
/-- How far each is stretched. -/
structure XD where
  th : List Int
  ea : List Int
  la : List Int
structure SS where
  fr : List Int
  to : List Int
  wh : List Int
  bz : Nat → Int
def updI (f : Nat → Int) (t : Nat) (v : Int) : Nat → Int := fun x => if x = t then v else f x
def ssF (x : XD) (i : Nat) (s : SS) : Int := if 10 * (i : Int) + 4 - 10 * atI x.ea i ≤ s.bz (atI x.th i).toNat then s.bz (atI x.th i).toNat + 1 else 10 * (i : Int) + 4 - 10 * atI x.ea i
def ssT (x : XD) (i : Nat) : Int := 10 * (i : Int) + 6 + 10 * atI x.la i
def SS.push (s : SS) (f t w : Int) : SS := ⟨s.fr ++ [f], s.to ++ [t], s.wh ++ [w], updI s.bz w.toNat t⟩
def ssStep (x : XD) (i : Nat) (s : SS) : Option SS :=
  if ssF x i s ≤ 10 * (i : Int) + 4 then some (s.push (ssF x i s) (ssT x i) (atI x.th i))
  else if 10 * (i : Int) + 4 ≤ s.bz (4 + i % 4) then none
  else some (s.push (10 * (i : Int) + 4) (ssT x i) ((4 + i % 4 : Nat) : Int))
def ss0 : SS := ⟨[], [], [], fun _ => 0⟩
def ssN (x : XD) : Nat → Option SS
  | 0 => some ss0
  | i + 1 => (ssN x i).bind fun s => ssStep x i s
structure SSok (n : Nat) (s : SS) : Prop where
  lf : s.fr.length = n
  lt : s.to.length = n
  lw : s.wh.length = n
  bz : ∀ t, 0 ≤ s.bz t ∧ s.bz t ≤ 10 * (n : Int) + 26
  w : ∀ i, i < n → 0 ≤ s.wh.getD i 0 ∧ s.wh.getD i 0 < 8
  f : ∀ i, i < n → 1 ≤ s.fr.getD i 0 ∧ s.fr.getD i 0 ≤ 10 * (i : Int) + 4
  t : ∀ i, i < n → 10 * (i : Int) + 6 ≤ s.to.getD i 0 ∧ s.to.getD i 0 ≤ 10 * (i : Int) + 36
  row : ∀ i j, i < j → j < n → s.wh.getD i 0 = s.wh.getD j 0 → s.to.getD i 0 < s.fr.getD j 0
  top : ∀ i, i < n → s.to.getD i 0 ≤ s.bz (s.wh.getD i 0).toNat
theorem ssok0 : SSok 0 ss0 := ⟨rfl, rfl, rfl, fun t => by simp [ss0], fun i h => by omega, fun i h => by omega, fun i h => by omega, fun i j h h2 => by omega, fun i h => by omega⟩
theorem getD_snoc {l : List Int} {n : Nat} {x : Int} (h : l.length = n) (i : Nat) : (l ++ [x]).getD i 0 = if i = n then x else l.getD i 0 := by
  rw [List.getD_eq_getElem?_getD, List.getD_eq_getElem?_getD]
  by_cases q : i = n
  · subst q; rw [if_pos rfl, ← h]; simp
  · rw [if_neg q]
    by_cases q2 : i < n
    · rw [List.getElem?_append_left (by omega)]
    · rw [List.getElem?_eq_none (by simp; omega), List.getElem?_eq_none (by omega)]
theorem SSok.push {n : Nat} {s : SS} (h : SSok n s) {f t w : Int} (w0 : 0 ≤ w) (w8 : w < 8) (hf : s.bz w.toNat < f) (hf2 : f ≤ 10 * (n : Int) + 4) (ht : 10 * (n : Int) + 6 ≤ t) (ht2 : t ≤ 10 * (n : Int) + 36) : SSok (n + 1) (s.push f t w) := by
  have hb := h.bz w.toNat
  refine ⟨by simp [SS.push, h.lf], by simp [SS.push, h.lt], by simp [SS.push, h.lw], fun u => ?_, fun i hi => ?_, fun i hi => ?_, fun i hi => ?_, fun i j hij hj => ?_, fun i hi => ?_⟩
  · simp only [SS.push, updI]
    split
    · omega
    · have := h.bz u; omega
  · simp only [SS.push]; rw [getD_snoc h.lw]
    split
    · omega
    · exact h.w i (by omega)
  · simp only [SS.push]; rw [getD_snoc h.lf]
    split
    · rename_i e; subst e; omega
    · exact h.f i (by omega)
  · simp only [SS.push]; rw [getD_snoc h.lt]
    split
    · rename_i e; subst e; omega
    · exact h.t i (by omega)
  · simp only [SS.push]
    have hin : i ≠ n := by omega
    rw [getD_snoc h.lw i, getD_snoc h.lw j, getD_snoc h.lt, getD_snoc h.lf, if_neg hin, if_neg hin]
    intro e
    by_cases q : j = n
    · rw [if_pos q] at e ⊢
      have := h.top i (by omega)
      rw [e] at this
      omega
    · rw [if_neg q] at e ⊢
      exact h.row i j hij (by omega) e
  · simp only [SS.push, updI]
    rw [getD_snoc h.lw, getD_snoc h.lt]
    by_cases q : i = n
    · rw [if_pos q, if_pos q, if_pos rfl]; omega
    · rw [if_neg q, if_neg q]
      have := h.top i (by omega)
      split
      · rename_i e; rw [e] at this; omega
      · exact this
theorem ssF_bd {x : XD} {n : Nat} {s : SS} : s.bz (atI x.th n).toNat < ssF x n s := by
  unfold ssF
  split <;> omega
theorem ssStep_ok {x : XD} {n : Nat} {s s' : SS} (h : SSok n s) (hs : ssStep x n s = some s') : SSok (n + 1) s' := by
  have a1 := atI_bd x.th n
  have a3 := atI_bd x.la n
  have t1 : 10 * (n : Int) + 6 ≤ ssT x n ∧ ssT x n ≤ 10 * (n : Int) + 36 := by unfold ssT; omega
  unfold ssStep at hs
  split at hs
  · rename_i q
    injection hs with hs
    subst hs
    exact h.push a1.1 (by omega) ssF_bd q t1.1 t1.2
  · split at hs
    · cases hs
    · rename_i q1 q2
      injection hs with hs
      subst hs
      exact h.push (by omega) (by omega) (by rw [Int.toNat_natCast]; omega) (by omega) t1.1 t1.2
theorem ssN_ok {x : XD} : ∀ {n : Nat} {s : SS}, ssN x n = some s → SSok n s
  | 0, s, h => by cases h; exact ssok0
  | n + 1, s, h => by
    have h' : (ssN x n).bind (fun s => ssStep x n s) = some s := h
    cases hn : ssN x n with
    | none => rw [hn] at h'; cases h'
    | some s0 =>
      rw [hn] at h'
      exact ssStep_ok (ssN_ok hn) h'

/-- The events: those of one moment, and all up to a moment. -/
def frA (s : SS) (i : Nat) : Int := s.fr.getD i 0
def toA (s : SS) (i : Nat) : Int := s.to.getD i 0
def whA (s : SS) (i : Nat) : Int := s.wh.getD i 0
def invX (s : SS) (op : Nat → OpD) (i : Nat) : EvD := ⟨whA s i, false, op i, RetD.zero⟩
def retX (s : SS) (op : Nat → OpD) (rt : Nat → RetD) (i : Nat) : EvD := ⟨whA s i, true, op i, rt i⟩
def hInv (s : SS) (op : Nat → OpD) (now : Int) : Nat → List EvD
  | 0 => []
  | k + 1 => if frA s k = now then hInv s op now k ++ [invX s op k] else hInv s op now k
def hRet (s : SS) (op : Nat → OpD) (rt : Nat → RetD) (now : Int) : Nat → List EvD
  | 0 => []
  | k + 1 => if toA s k = now then hRet s op rt now k ++ [retX s op rt k] else hRet s op rt now k
def hAll (s : SS) (op : Nat → OpD) (rt : Nat → RetD) (n : Nat) : Nat → List EvD
  | 0 => []
  | m + 1 => (hAll s op rt n m ++ hInv s op ((m : Int) - 40) n) ++ hRet s op rt ((m : Int) - 40) n
def absF (f : Nat → Option OpD) (hs : List EvD) : Option (Nat → Option OpD) := hs.foldlM absStep f
theorem absF_app (f : Nat → Option OpD) (a b : List EvD) : absF f (a ++ b) = (absF f a).bind fun g => absF g b := by
  unfold absF
  rw [List.foldlM_append]
  rfl
theorem absF_one (f : Nat → Option OpD) (e : EvD) : absF f [e] = absStep f e := by
  unfold absF
  simp
theorem absN_F (hs : List EvD) : ∀ j, j ≤ hs.length → absN hs j = absF (fun _ => none) (hs.take j)
  | 0, _ => rfl
  | j + 1, h => by
    have e : hs.take (j + 1) = hs.take j ++ [evAt hs j] := by
      rw [List.take_add_one, List.getElem?_eq_getElem (by omega)]
      unfold evAt
      rw [List.getD_eq_getElem?_getD, List.getElem?_eq_getElem (by omega)]
      rfl
    rw [e, absF_app, ← absN_F hs j (by omega)]
    show (absN hs j).bind _ = _
    congr 1
    funext f
    exact (absF_one f _).symm
/-- Operation i is under way: behind all ahead of that moment, the first a invocations and the first b returns of it. -/
def OpenP (s : SS) (now : Int) (a b i : Nat) : Prop := (frA s i < now ∨ frA s i = now ∧ i < a) ∧ ¬ (toA s i < now ∨ toA s i = now ∧ i < b)
structure InvO (s : SS) (op : Nat → OpD) (n : Nat) (f : Nat → Option OpD) (now : Int) (a b : Nat) : Prop where
  opn : ∀ i, i < n → OpenP s now a b i → f (whA s i).toNat = some (op i)
  all : ∀ t o, f t = some o → ∃ i, i < n ∧ OpenP s now a b i ∧ (whA s i).toNat = t ∧ op i = o
theorem two_open {n : Nat} {s : SS} (h : SSok n s) {now : Int} {a b i j : Nat} (hi : i < n) (hj : j < n) (oi : OpenP s now a b i) (oj : OpenP s now a b j) (ew : (whA s i).toNat = (whA s j).toNat) : i = j := by
  have e : s.wh.getD i 0 = s.wh.getD j 0 := by
    have := h.w i hi
    have := h.w j hj
    unfold whA at ew
    omega
  unfold OpenP frA toA at oi oj
  rcases Nat.lt_trichotomy i j with q | q | q
  · have := h.row i j q hj e; omega
  · exact q
  · have := h.row j i q hi e.symm; omega
theorem op_ok (a : OpD) : opEq a a = true := by simp [opEq]
theorem step_inv {n : Nat} {s : SS} (h : SSok n s) {op : Nat → OpD} (hk : ∀ i, i < n → 1 ≤ (op i).kind ∧ (op i).kind ≤ 9) {f : Nat → Option OpD} {now : Int} {a : Nat} (ha : a < n) (hf : frA s a = now) (I : InvO s op n f now a 0) : ∃ f', absStep f (invX s op a) = some f' ∧ InvO s op n f' now (a + 1) 0 := by
  have hw := h.w a ha
  have hwa : 0 ≤ whA s a ∧ whA s a < 8 := hw
  have hto : toA s a = s.to.getD a 0 := rfl
  have ht := h.t a ha
  have hfa := h.f a ha
  have none_ : f (whA s a).toNat = none := by
    cases hq : f (whA s a).toNat with
    | none => rfl
    | some o =>
      exfalso
      obtain ⟨i, hi, ho, ew, -⟩ := I.all _ o hq
      have e : s.wh.getD i 0 = s.wh.getD a 0 := by
        have := h.w i hi
        unfold whA at ew
        omega
      unfold OpenP frA toA at ho
      unfold frA at hf
      rcases Nat.lt_trichotomy i a with q | q | q
      · have := h.row i a q ha e; omega
      · subst q; omega
      · have := h.row a i q hi e.symm; omega
  have hin : isInv (invX s op a) = true := by
    have := hk a ha
    simp [isInv, invX, isZ, RetD.zero, this]
  refine ⟨updO f (whA s a).toNat (some (op a)), ?_, ?_, ?_⟩
  · unfold absStep
    show (nextO (invX s op a) (f (whA s a).toNat)).map (updO f (whA s a).toNat) = _
    rw [none_]
    unfold nextO
    rw [if_pos (by show 0 ≤ whA s a ∧ whA s a < 64; omega), if_neg (by show ¬ (false = true); simp), if_pos ⟨rfl, hin⟩]
    rfl
  · intro i hi ho
    by_cases q : i = a
    · subst q; exact updO_same _ _ _
    · have ho' : OpenP s now a 0 i := by
        unfold OpenP at ho ⊢
        refine ⟨?_, ho.2⟩
        rcases ho.1 with z | ⟨z1, z2⟩
        · exact Or.inl z
        · exact Or.inr ⟨z1, by omega⟩
      have hfi := I.opn i hi ho'
      rw [updO_other _ _ (fun e => by rw [e, none_] at hfi; cases hfi)]
      exact hfi
  · intro t o ho
    by_cases q : t = (whA s a).toNat
    · subst q
      rw [updO_same] at ho
      injection ho with ho
      refine ⟨a, ha, ⟨Or.inr ⟨hf, by omega⟩, ?_⟩, rfl, ho⟩
      unfold frA at hf
      rw [hto]
      omega
    · rw [updO_other _ _ q] at ho
      obtain ⟨i, hi, hoi, e1, e2⟩ := I.all t o ho
      refine ⟨i, hi, ⟨?_, hoi.2⟩, e1, e2⟩
      rcases hoi.1 with z | ⟨z1, z2⟩
      · exact Or.inl z
      · exact Or.inr ⟨z1, by omega⟩
theorem step_ret {n : Nat} {s : SS} (h : SSok n s) {op : Nat → OpD} {rt : Nat → RetD} {f : Nat → Option OpD} {now : Int} {b : Nat} (hb : b < n) (hf : toA s b = now) (I : InvO s op n f now n b) : ∃ f', absStep f (retX s op rt b) = some f' ∧ InvO s op n f' now n (b + 1) := by
  have hw := h.w b hb
  have hwa : 0 ≤ whA s b ∧ whA s b < 8 := hw
  have ht := h.t b hb
  have hfb := h.f b hb
  have ob : OpenP s now n b b := by
    unfold OpenP
    unfold toA at hf ⊢
    unfold frA
    omega
  have hfo := I.opn b hb ob
  refine ⟨updO f (whA s b).toNat none, ?_, ?_, ?_⟩
  · unfold absStep
    show (nextO (retX s op rt b) (f (whA s b).toNat)).map (updO f (whA s b).toNat) = _
    rw [hfo]
    unfold nextO
    rw [if_pos (by show 0 ≤ whA s b ∧ whA s b < 64; omega), if_pos (by rfl)]
    show (if opEq (op b) (op b) = true then some none else none).map _ = _
    rw [if_pos (op_ok _)]
    rfl
  · intro i hi ho
    have ho' : OpenP s now n b i := by
      unfold OpenP at ho ⊢
      refine ⟨ho.1, fun z => ho.2 ?_⟩
      rcases z with z | ⟨z1, z2⟩
      · exact Or.inl z
      · exact Or.inr ⟨z1, by omega⟩
    have hne : i ≠ b := by
      intro q
      subst q
      exact ho.2 (Or.inr ⟨hf, by omega⟩)
    rw [updO_other _ _ (fun e => hne (two_open h hi hb ho' ob e))]
    exact I.opn i hi ho'
  · intro t o ho
    by_cases q : t = (whA s b).toNat
    · subst q; rw [updO_same] at ho; cases ho
    · rw [updO_other _ _ q] at ho
      obtain ⟨i, hi, hoi, e1, e2⟩ := I.all t o ho
      refine ⟨i, hi, ⟨hoi.1, fun z => hoi.2 ?_⟩, e1, e2⟩
      rcases z with z | ⟨z1, z2⟩
      · exact Or.inl z
      · have hne : i ≠ b := fun z => q (by rw [← e1, z])
        exact Or.inr ⟨z1, by omega⟩
theorem InvO.skip {n : Nat} {s : SS} {op : Nat → OpD} {f : Nat → Option OpD} {now : Int} {a : Nat} (hf : frA s a ≠ now) (I : InvO s op n f now a 0) : InvO s op n f now (a + 1) 0 := by
  have e : ∀ i, OpenP s now (a + 1) 0 i ↔ OpenP s now a 0 i := fun i => by
    unfold OpenP
    by_cases q : i = a
    · subst q
      constructor
      · rintro ⟨z | ⟨z, -⟩, h2⟩
        · exact ⟨Or.inl z, h2⟩
        · exact absurd z hf
      · rintro ⟨z | ⟨z, -⟩, h2⟩
        · exact ⟨Or.inl z, h2⟩
        · exact absurd z hf
    · omega
  exact ⟨fun i hi ho => I.opn i hi ((e i).1 ho), fun t o ho => by obtain ⟨i, h1, h2, h3⟩ := I.all t o ho; exact ⟨i, h1, (e i).2 h2, h3⟩⟩
theorem InvO.skip2 {n : Nat} {s : SS} {op : Nat → OpD} {f : Nat → Option OpD} {now : Int} {b : Nat} (hf : toA s b ≠ now) (I : InvO s op n f now n b) : InvO s op n f now n (b + 1) := by
  have e : ∀ i, OpenP s now n (b + 1) i ↔ OpenP s now n b i := fun i => by
    unfold OpenP
    by_cases q : i = b
    · subst q
      constructor
      · rintro ⟨h1, h2⟩
        exact ⟨h1, fun z => h2 (by rcases z with z | ⟨z, -⟩; exact Or.inl z; exact absurd z hf)⟩
      · rintro ⟨h1, h2⟩
        exact ⟨h1, fun z => h2 (by rcases z with z | ⟨z, -⟩; exact Or.inl z; exact absurd z hf)⟩
    · omega
  exact ⟨fun i hi ho => I.opn i hi ((e i).1 ho), fun t o ho => by obtain ⟨i, h1, h2, h3⟩ := I.all t o ho; exact ⟨i, h1, (e i).2 h2, h3⟩⟩
theorem invs_ok {n : Nat} {s : SS} (h : SSok n s) {op : Nat → OpD} (hk : ∀ i, i < n → 1 ≤ (op i).kind ∧ (op i).kind ≤ 9) {f : Nat → Option OpD} {now : Int} (I : InvO s op n f now 0 0) : ∀ k, k ≤ n → ∃ f', absF f (hInv s op now k) = some f' ∧ InvO s op n f' now k 0
  | 0, _ => ⟨f, rfl, I⟩
  | k + 1, hkn => by
    obtain ⟨f1, h1, I1⟩ := invs_ok h hk I k (by omega)
    unfold hInv
    by_cases q : frA s k = now
    · rw [if_pos q, absF_app, h1]
      obtain ⟨f2, h2, I2⟩ := step_inv h hk (by omega) q I1
      exact ⟨f2, (absF_one f1 _).trans h2, I2⟩
    · rw [if_neg q]
      exact ⟨f1, h1, I1.skip q⟩
theorem rets_ok {n : Nat} {s : SS} (h : SSok n s) {op : Nat → OpD} {rt : Nat → RetD} {f : Nat → Option OpD} {now : Int} (I : InvO s op n f now n 0) : ∀ k, k ≤ n → ∃ f', absF f (hRet s op rt now k) = some f' ∧ InvO s op n f' now n k
  | 0, _ => ⟨f, rfl, I⟩
  | k + 1, hkn => by
    obtain ⟨f1, h1, I1⟩ := rets_ok h I k (by omega)
    unfold hRet
    by_cases q : toA s k = now
    · rw [if_pos q, absF_app, h1]
      obtain ⟨f2, h2, I2⟩ := step_ret (rt := rt) h (by omega) q I1
      exact ⟨f2, (absF_one f1 _).trans h2, I2⟩
    · rw [if_neg q]
      exact ⟨f1, h1, I1.skip2 q⟩
theorem InvO.tick {n : Nat} {s : SS} {op : Nat → OpD} {f : Nat → Option OpD} {now : Int} (I : InvO s op n f now n n) : InvO s op n f (now + 1) 0 0 := by
  have e : ∀ i, i < n → (OpenP s (now + 1) 0 0 i ↔ OpenP s now n n i) := fun i hi => by unfold OpenP; omega
  exact ⟨fun i hi ho => I.opn i hi ((e i hi).1 ho), fun t o ho => by obtain ⟨i, h1, h2, h3⟩ := I.all t o ho; exact ⟨i, h1, (e i h1).2 h2, h3⟩⟩
theorem all_ok {n : Nat} {s : SS} (h : SSok n s) {op : Nat → OpD} {rt : Nat → RetD} (hk : ∀ i, i < n → 1 ≤ (op i).kind ∧ (op i).kind ≤ 9) : ∀ m : Nat, ∃ f, absF (fun _ => none) (hAll s op rt n m) = some f ∧ InvO s op n f ((m : Int) - 40) 0 0
  | 0 => ⟨_, rfl, fun i hi ho => by
      have := h.f i hi
      unfold OpenP frA at ho
      omega, fun t o ho => by cases ho⟩
  | m + 1 => by
    obtain ⟨f0, h0, I0⟩ := all_ok (rt := rt) h hk m
    obtain ⟨f1, h1, I1⟩ := invs_ok h hk I0 n (Nat.le_refl _)
    obtain ⟨f2, h2, I2⟩ := rets_ok (rt := rt) h I1 n (Nat.le_refl _)
    refine ⟨f2, ?_, ?_⟩
    · unfold hAll
      rw [absF_app, absF_app, h0]
      show ((some f0).bind fun g => absF g _).bind _ = _
      show (absF f0 (hInv s op ((m : Int) - 40) n)).bind _ = _
      rw [h1]
      exact h2
    · have := I2.tick
      rw [show ((m : Int) - 40 + 1) = ((m + 1 : Nat) : Int) - 40 by omega] at this
      exact this
/-- How many of the first k numbers fit. -/
def cntP (p : Int → Bool) (l : List Int) : Nat → Nat
  | 0 => 0
  | k + 1 => cntP p l k + if p (l.getD k 0) then 1 else 0
theorem cntP_none {p : Int → Bool} {l : List Int} : ∀ k, (∀ i, i < k → p (l.getD i 0) = false) → cntP p l k = 0
  | 0, _ => rfl
  | k + 1, h => by unfold cntP; rw [cntP_none k (fun i hi => h i (by omega)), h k (by omega)]; rfl
theorem cntP_all {p : Int → Bool} {l : List Int} : ∀ k, (∀ i, i < k → p (l.getD i 0) = true) → cntP p l k = k
  | 0, _ => rfl
  | k + 1, h => by unfold cntP; rw [cntP_all k (fun i hi => h i (by omega)), h k (by omega)]; rfl
theorem cntP_next (l : List Int) (now : Int) : ∀ k, cntP (fun x => decide (x < now + 1)) l k = cntP (fun x => decide (x < now)) l k + cntP (fun x => decide (x = now)) l k
  | 0 => rfl
  | k + 1 => by
    have := cntP_next l now k
    unfold cntP
    rw [this]
    generalize l.getD k 0 = y
    simp only [decide_eq_true_eq]
    split <;> split <;> split <;> omega
theorem hInv_len (s : SS) (op : Nat → OpD) (now : Int) : ∀ k, (hInv s op now k).length = cntP (fun x => decide (x = now)) s.fr k
  | 0 => rfl
  | k + 1 => by
    have ih := hInv_len s op now k
    unfold hInv cntP
    show (if frA s k = now then hInv s op now k ++ [invX s op k] else hInv s op now k).length = _ + if decide (frA s k = now) = true then 1 else 0
    by_cases q : frA s k = now
    · rw [if_pos q]; simp [ih, q]
    · rw [if_neg q]; simp [ih, q]
theorem hRet_len (s : SS) (op : Nat → OpD) (rt : Nat → RetD) (now : Int) : ∀ k, (hRet s op rt now k).length = cntP (fun x => decide (x = now)) s.to k
  | 0 => rfl
  | k + 1 => by
    have ih := hRet_len s op rt now k
    unfold hRet cntP
    show (if toA s k = now then hRet s op rt now k ++ [retX s op rt k] else hRet s op rt now k).length = _ + if decide (toA s k = now) = true then 1 else 0
    by_cases q : toA s k = now
    · rw [if_pos q]; simp [ih, q]
    · rw [if_neg q]; simp [ih, q]
theorem hAll_len {n : Nat} {s : SS} (h : SSok n s) (op : Nat → OpD) (rt : Nat → RetD) : ∀ m : Nat, (hAll s op rt n m).length = cntP (fun x => decide (x < (m : Int) - 40)) s.fr n + cntP (fun x => decide (x < (m : Int) - 40)) s.to n
  | 0 => by
    rw [cntP_none n (fun i hi => by have := h.f i hi; simp only [decide_eq_false_iff_not]; omega), cntP_none n (fun i hi => by have := h.t i hi; simp only [decide_eq_false_iff_not]; omega)]
    rfl
  | m + 1 => by
    have ih := hAll_len h op rt m
    have e : ((m + 1 : Nat) : Int) - 40 = (m : Int) - 40 + 1 := by omega
    unfold hAll
    rw [List.length_append, List.length_append, hInv_len, hRet_len, ih, e, cntP_next, cntP_next]
    omega
/-- What is told of the stretched row. -/
structure HistOk (hs : List EvD) (n : Nat) : Prop where
  err : hErr hs = 0
  len : (spansL hs).length = n
  ret : ∀ k, k < (spansL hs).length → (spAt (spansL hs) k).2 ≠ -1
theorem cntS_all : ∀ l : List Sp, (∀ k, k < l.length → (spAt l k).2 ≠ -1) → cntS l = 2 * l.length
  | [], _ => rfl
  | p :: t, h => by
    have h0 : p.2 ≠ -1 := h 0 (by simp)
    have ih := cntS_all t (fun k hk => h (k + 1) (by simp; omega))
    simp only [cntS, List.length_cons, ih, if_neg h0]
    omega
theorem hist_ok {n : Nat} {s : SS} (h : SSok n s) (hn : n ≤ 30) (op : Nat → OpD) (rt : Nat → RetD) (hk : ∀ i, i < n → 1 ≤ (op i).kind ∧ (op i).kind ≤ 9) : (hAll s op rt n (10 * n + 100)).length = 2 * n ∧ HistOk (hAll s op rt n (10 * n + 100)) n := by
  obtain ⟨f, hf, I⟩ := all_ok (rt := rt) h hk (10 * n + 100)
  have hl := hAll_len h op rt (10 * n + 100)
  rw [cntP_all n (fun i hi => by have := h.f i hi; simp only [decide_eq_true_eq]; omega), cntP_all n (fun i hi => by have := h.t i hi; simp only [decide_eq_true_eq]; omega)] at hl
  generalize hAll s op rt n (10 * n + 100) = hs at *
  have hl2 : hs.length = 2 * n := by omega
  have hA : absN hs hs.length = some f := by rw [absN_F hs _ (Nat.le_refl _), List.take_length]; exact hf
  have f0 : ∀ t, f t = none := fun t => by
    cases hq : f t with
    | none => rfl
    | some o =>
      obtain ⟨i, hi, ho, -⟩ := I.all t o hq
      have := h.t i hi
      unfold OpenP toA at ho
      omega
  obtain ⟨a1, a2⟩ := absN_st hs hs.length
  cases hst : stN hs hs.length with
  | none => rw [a2 hst] at hA; cases hA
  | some st =>
    obtain ⟨g, hg, hgt⟩ := a1 st hst
    rw [hA] at hg
    injection hg with hg
    subst hg
    have ok := stN_ok hst
    obtain ⟨e1, e2⟩ := hErr_ok (by omega) hst
    have hret : ∀ k, k < st.spans.length → (spAt st.spans k).2 ≠ -1 := fun k hk1 hp => by
      have hp2 := ok.pend k hk1 hp
      have hv := ok.inv k hk1
      have := hgt (evAt hs (spAt st.spans k).1).th.toNat (by omega)
      rw [f0] at this
      unfold absS at this
      rw [if_pos (by omega)] at this
      cases this
    have hc := (st_cover hst).1
    rw [cntS_all _ hret] at hc
    exact ⟨hl2, e1, by rw [e2]; omega, by rw [e2]; exact hret⟩
theorem keptN_all {hs : List EvD} (he : hErr hs = 0) {K : Nat → Bool} (hK : ∀ k, k < (spansL hs).length → K k = true) : ∀ j, j ≤ hs.length → keptN hs K j = hs.take j
  | 0, _ => rfl
  | j + 1, h => by
    obtain ⟨-, s, hst, hsl⟩ := hErr_zero he
    have hown := (own_iff hst j (by omega)).1
    unfold keptN
    rw [if_pos (hK _ (by rw [hsl]; exact hown)), keptN_all he hK j (by omega), List.take_add_one, List.getElem?_eq_getElem (by omega)]
    unfold evAt
    rw [List.getD_eq_getElem?_getD, List.getElem?_eq_getElem (by omega)]
    rfl
theorem HistOk.done {hs : List EvD} {n : Nat} (h : HistOk hs n) : keptN hs (Kdone hs) hs.length = hs := by
  rw [keptN_all h.err (fun k hk => by unfold Kdone; simp only [decide_eq_true_eq]; exact h.ret k hk) hs.length (Nat.le_refl _), List.take_length]
end Go.Proofs.Ytljidfaeljpnpaa

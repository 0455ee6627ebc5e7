
/- Layer 5: the history of operations, as data. No walk. -/

import Derived.Test.YtgbfippcnmpgfaaECds

namespace Go.Proofs.Ytgbfippcnmpgfaa

open Go.RowKit

/-- An event laid at a place, if there is such a place. -/
def putE (h : List EvD) (p : Int) (e : EvD) : List EvD := if 0 ≤ p ∧ p < h.length then h.set p.toNat e else h
def invE (c : CD) : EvD := ⟨c.th, false, c.op, RetD.zero⟩
def retE (c : CD) : EvD := ⟨c.th, true, c.op, c.rt⟩
def layOne (h : List EvD) (c : CD) : List EvD := if c.to = -1 then putE h c.fr (invE c) else putE (putE h c.fr (invE c)) c.to (retE c)
def layN (l : List CD) (h0 : List EvD) : Nat → List EvD
  | 0 => h0
  | j + 1 => layOne (layN l h0 j) (cdAt l j)
def empties (l : List CD) : List EvD := List.replicate (cntN l l.length) ev0
/-- The events of operations, each at its place. -/
def layL (l : List CD) : List EvD := layN l (empties l) l.length
theorem putE_length (h : List EvD) (p : Int) (e : EvD) : (putE h p e).length = h.length := by unfold putE; split <;> simp
theorem layOne_length (h : List EvD) (c : CD) : (layOne h c).length = h.length := by unfold layOne; split <;> simp [putE_length]
theorem layN_length (l : List CD) (h0 : List EvD) : ∀ j, (layN l h0 j).length = h0.length
  | 0 => rfl
  | j + 1 => by show (layOne _ _).length = _; rw [layOne_length, layN_length l h0 j]
theorem layL_length (l : List CD) : (layL l).length = cntN l l.length := by unfold layL empties; rw [layN_length]; simp
theorem evAt_put (h : List EvD) (p : Int) (e : EvD) (i : Nat) (hi : i < h.length) : evAt (putE h p e) i = if p = i then e else evAt h i := by
  unfold putE
  by_cases hp : 0 ≤ p ∧ p < h.length
  · rw [if_pos hp]
    unfold evAt
    rw [List.getD_eq_getElem?_getD, List.getD_eq_getElem?_getD, List.getElem?_set]
    by_cases e2 : p = i
    · have : p.toNat = i := by omega
      rw [if_pos this, if_pos e2, if_pos (by omega)]; rfl
    · rw [if_neg (by omega), if_neg e2]
  · rw [if_neg hp, if_neg (by omega)]

/-- The spans stand where the operations say. -/
def Matches (sp : List Sp) (l : List CD) : Prop := sp.length = l.length ∧ ∀ k, k < l.length → ((spAt sp k).1 : Int) = (cdAt l k).fr ∧ (spAt sp k).2 = (cdAt l k).to
/-- The program's question. -/
def ProgOk (l : List CD) : Prop := hErr (layL l) = 0 ∧ Matches (spansL (layL l)) l ∧ ∀ k, k < l.length → (cdAt l k).to = -1 → isZ (cdAt l k).rt = true
/-- Is a place taken by one of the first j operations? -/
def Taken (l : List CD) (j : Nat) (p : Int) : Prop := ∃ k, k < j ∧ (p = (cdAt l k).fr ∨ ((cdAt l k).to ≠ -1 ∧ p = (cdAt l k).to))
/-- The reference's question of one operation. -/
structure CondR (l : List CD) (j : Nat) : Prop where
  lo : 0 ≤ (cdAt l j).fr
  hi : (cdAt l j).fr < cntN l l.length
  free : ¬ Taken l j (cdAt l j).fr
  rise : 0 < j → (cdAt l (j - 1)).fr < (cdAt l j).fr
  pend : (cdAt l j).to = -1 → (cdAt l j).rt = RetD.zero
  back : (cdAt l j).to ≠ -1 → (cdAt l j).fr < (cdAt l j).to ∧ (cdAt l j).to < cntN l l.length ∧ ¬ Taken l j (cdAt l j).to
def RefOk (l : List CD) : Prop := cntN l l.length ≤ 100000 ∧ (∀ j, j < l.length → CondR l j) ∧ hErr (layL l) = 0 ∧ Matches (spansL (layL l)) l
theorem isZ_iff {r : RetD} : isZ r = true ↔ r = RetD.zero := by
  obtain ⟨a, b, c, d⟩ := r
  cases a <;> simp [isZ, RetD.zero]
theorem prog_ref (l : List CD) : ProgOk l ↔ RefOk l := by
  constructor
  · rintro ⟨he, hm, hz⟩
    obtain ⟨hb, s, hst, hsl⟩ := hErr_zero he
    have ok := stN_ok hst
    rw [hsl] at hm
    obtain ⟨ml, mk⟩ := hm
    rw [layL_length] at hb
    have hn : (layL l).length = cntN l l.length := layL_length l
    have inv1 : ∀ k, k < l.length → (evAt (layL l) (spAt s.spans k).1).ret = false := fun k hk => (ok.inv k (by omega)).1
    have bk1 : ∀ k, k < l.length → (cdAt l k).to ≠ -1 → (evAt (layL l) (spAt s.spans k).2.toNat).ret = true ∧ (evAt (layL l) (spAt s.spans k).2.toNat).th = (evAt (layL l) (spAt s.spans k).1).th := by
      intro k hk ht
      have := ok.back k (by omega) (by rw [(mk k hk).2]; exact ht)
      exact ⟨this.1, this.2.1⟩
    have to1 : ∀ k, k < l.length → (cdAt l k).to ≠ -1 → (cdAt l k).fr < (cdAt l k).to ∧ (cdAt l k).to < cntN l l.length := by
      intro k hk ht
      obtain ⟨m1, m2⟩ := mk k hk
      rcases ok.to k (by omega) with q | q
      · rw [m2] at q; exact absurd q ht
      · omega
    have fr1 : ∀ k, k < l.length → 0 ≤ (cdAt l k).fr := fun k hk => by have := (mk k hk).1; omega
    refine ⟨hb, fun j hj => ?_, he, by rw [hsl]; exact ⟨ml, mk⟩⟩
    obtain ⟨m1, m2⟩ := mk j hj
    have f1 := ok.fr j (by omega)
    refine ⟨by omega, by omega, ?_, fun h0 => ?_, fun ht => isZ_iff.1 (hz j hj ht), fun ht => ⟨(to1 j hj ht).1, (to1 j hj ht).2, ?_⟩⟩
    · rintro ⟨k, hk, q | ⟨q0, q⟩⟩
      · have := ok.rise k j hk (by omega)
        have := (mk k (by omega)).1
        omega
      · have a := inv1 j hj
        have b := (bk1 k (by omega) q0).1
        rw [(mk k (by omega)).2, ← q, ← m1, Int.toNat_natCast, a] at b
        cases b
    · have := ok.rise (j - 1) j (by omega) (by omega)
      have := (mk (j - 1) (by omega)).1
      omega
    · rintro ⟨k, hk, q | ⟨q0, q⟩⟩
      · have a := inv1 k (by omega)
        have b := (bk1 j hj ht).1
        rw [m2, q, ← (mk k (by omega)).1, Int.toNat_natCast, a] at b
        cases b
      · have a := (bk1 j hj ht).2
        have b := (bk1 k (by omega) q0).2
        rw [m2, q] at a
        rw [(mk k (by omega)).2, a] at b
        have c := ok.row k j hk (by omega) b.symm
        rw [(mk k (by omega)).2] at c
        have := to1 j hj ht
        omega
  · rintro ⟨_, hc, he, hm⟩
    exact ⟨he, hm, fun k hk ht => isZ_iff.2 ((hc k hk).pend ht)⟩
theorem hErr_small {hs : List EvD} (hb : hs.length ≤ 100000) : hErr hs = 0 ∨ hErr hs = 3 := by
  cases h : stN hs hs.length with
  | none => exact Or.inr (hErr_form hb h)
  | some s => exact Or.inl (hErr_ok hb h).1

/-- The operations of a history, as data. -/
def cdsOf (hs : List EvD) (sp : List Sp) : List CD := sp.map fun p => ⟨(evAt hs p.1).th, (evAt hs p.1).op, retOf hs p, p.1, p.2⟩
theorem cdsOf_length (hs : List EvD) (sp : List Sp) : (cdsOf hs sp).length = sp.length := by simp [cdsOf]
theorem cdAt_of {hs : List EvD} {sp : List Sp} {k : Nat} (hk : k < sp.length) : cdAt (cdsOf hs sp) k = ⟨(evAt hs (spAt sp k).1).th, (evAt hs (spAt sp k).1).op, retOf hs (spAt sp k), (spAt sp k).1, (spAt sp k).2⟩ := by
  unfold cdAt cdsOf spAt
  rw [List.getD_eq_getElem?_getD, List.getD_eq_getElem?_getD, List.getElem?_map, List.getElem?_eq_getElem hk]
  rfl
/-- How many events spans have. -/
def cntS : List Sp → Nat
  | [] => 0
  | p :: t => 1 + (if p.2 = -1 then 0 else 1) + cntS t
theorem cntS_append : ∀ a b : List Sp, cntS (a ++ b) = cntS a + cntS b
  | [], b => by simp [cntS]
  | p :: t, b => by simp only [List.cons_append, cntS, cntS_append t b]; omega
theorem cntS_set : ∀ (l : List Sp) (k : Nat) (x : Nat) (v : Int), k < l.length → (spAt l k).2 = -1 → v ≠ -1 → cntS (l.set k (x, v)) = cntS l + 1
  | [], k, _, _, h, _, _ => by simp at h
  | p :: t, 0, x, v, _, h, hv => by
    have h2 : p.2 = -1 := by simpa [spAt] using h
    simp only [List.set_cons_zero, cntS, if_neg hv, if_pos h2]
    omega
  | p :: t, k + 1, x, v, hk, h, hv => by
    have ih := cntS_set t k x v (by simpa using hk) (by simpa [spAt] using h) hv
    simp only [List.set_cons_succ, cntS, ih]
    omega
theorem st_cover {hs : List EvD} : ∀ {j : Nat} {s : St}, stN hs j = some s → cntS s.spans = j ∧ ∀ i, i < j → ∃ k, k < s.spans.length ∧ ((spAt s.spans k).1 = i ∨ (spAt s.spans k).2 = (i : Int))
  | 0, s, h => by cases h; exact ⟨rfl, fun i hi => by omega⟩
  | j + 1, s', h => by
    obtain ⟨s, hs0⟩ := stN_prefix h j (by omega)
    have hst : stepS hs s j = some s' := by
      have h2 : (stN hs j).bind (fun s => stepS hs s j) = some s' := h
      rw [hs0] at h2
      exact h2
    obtain ⟨ih1, ih2⟩ := st_cover hs0
    have ok := stN_ok hs0
    obtain ⟨t, ht, ht64, hc⟩ := stepS_cases hst
    rcases hc with ⟨_, _, _, rfl⟩ | ⟨_, h0, _, rfl⟩
    · refine ⟨by simp only; rw [cntS_append, ih1]; simp [cntS], fun i hi => ?_⟩
      simp only [List.length_append, List.length_cons, List.length_nil]
      by_cases e : i = j
      · exact ⟨s.spans.length, by omega, Or.inl (by rw [spAt_append, if_pos rfl, e])⟩
      · obtain ⟨k, hk, q⟩ := ih2 i (by omega)
        exact ⟨k, by omega, by rw [spAt_append, if_neg (by omega)]; exact q⟩
    · have hb := ok.beg t
      have ho := ok.opn t h0
      refine ⟨by simp only; rw [cntS_set _ _ _ _ (by omega) ho.1 (by omega), ih1], fun i hi => ?_⟩
      simp only [List.length_set]
      by_cases e : i = j
      · exact ⟨s.beg t - 1, by omega, Or.inr (by rw [spAt_set _ _ _ _ (by omega), if_pos rfl, e])⟩
      · obtain ⟨k, hk, q⟩ := ih2 i (by omega)
        refine ⟨k, hk, ?_⟩
        rw [spAt_set _ _ _ _ (by omega)]
        by_cases e2 : k = s.beg t - 1
        · rw [if_pos e2]
          subst e2
          rcases q with q | q
          · exact Or.inl q
          · rw [ho.1] at q; omega
        · rw [if_neg e2]; exact q
theorem cntN_of (hs : List EvD) (sp : List Sp) : ∀ j, j ≤ sp.length → cntN (cdsOf hs sp) j = cntS (sp.take j)
  | 0, _ => by simp [cntN, cntS]
  | j + 1, h => by
    rw [take_snoc_sp (by omega) rfl, cntS_append, ← cntN_of hs sp j (by omega)]
    show cntN _ j + 1 + _ = _
    rw [cdAt_of (by omega)]
    simp only [cntS]
    omega
theorem lay_back {hs : List EvD} (he : hErr hs = 0) : layL (cdsOf hs (spansL hs)) = hs := by
  obtain ⟨hb, s, hst, hsl⟩ := hErr_zero he
  rw [hsl]
  have ok := stN_ok hst
  obtain ⟨hc, hcov⟩ := st_cover hst
  have hn : cntN (cdsOf hs s.spans) (cdsOf hs s.spans).length = hs.length := by
    rw [cdsOf_length, cntN_of _ _ _ (Nat.le_refl _), List.take_length, hc]
  have hlen : (layL (cdsOf hs s.spans)).length = hs.length := by rw [layL_length, hn]
  have hel : (empties (cdsOf hs s.spans)).length = hs.length := by unfold empties; rw [List.length_replicate, hn]
  have key : ∀ j, j ≤ s.spans.length → ∀ i, i < hs.length → (∃ k, k < j ∧ ((spAt s.spans k).1 = i ∨ (spAt s.spans k).2 = (i : Int))) → evAt (layN (cdsOf hs s.spans) (empties (cdsOf hs s.spans)) j) i = evAt hs i := by
    intro j
    induction j with
    | zero => rintro _ i _ ⟨k, hk, _⟩; omega
    | succ j ih =>
      rintro hj i hi ⟨k, hk, hq⟩
      have hl : (layN (cdsOf hs s.spans) (empties (cdsOf hs s.spans)) j).length = hs.length := by rw [layN_length, hel]
      have e1 : evAt hs (spAt s.spans j).1 = invE (cdAt (cdsOf hs s.spans) j) := by
        obtain ⟨a, b, _⟩ := ok.inv j (by omega)
        unfold isInv at b
        simp only [Bool.and_eq_true] at b
        have z := isZ_iff.1 b.2.2
        rw [cdAt_of (by omega)]
        unfold invE
        generalize evAt hs (spAt s.spans j).1 = ev at a z
        obtain ⟨x1, x2, x3, x4⟩ := ev
        simp only at a z ⊢
        rw [a, z]
      have e2 : (spAt s.spans j).2 ≠ -1 → evAt hs (spAt s.spans j).2.toNat = retE (cdAt (cdsOf hs s.spans) j) := by
        intro hp
        obtain ⟨a, b, c⟩ := ok.back j (by omega) hp
        have c2 := opEq_iff.1 c
        rw [cdAt_of (by omega)]
        unfold retE retOf
        simp only
        rw [if_neg hp, ← b, c2]
        generalize evAt hs (spAt s.spans j).2.toNat = ev at a
        obtain ⟨x1, x2, x3, x4⟩ := ev
        simp only at a ⊢
        rw [a]
      have hfr : (cdAt (cdsOf hs s.spans) j).fr = (spAt s.spans j).1 := by rw [cdAt_of (by omega)]
      have hto : (cdAt (cdsOf hs s.spans) j).to = (spAt s.spans j).2 := by rw [cdAt_of (by omega)]
      have ih' := ih (by omega) i hi
      show evAt (layOne _ _) i = _
      unfold layOne
      rw [hfr, hto]
      by_cases hp : (spAt s.spans j).2 = -1
      · rw [if_pos hp, evAt_put _ _ _ _ (by omega)]
        by_cases q : ((spAt s.spans j).1 : Int) = i
        · rw [if_pos q, ← e1]
          congr 1
          omega
        · rw [if_neg q]
          refine ih' ⟨k, ?_, hq⟩
          rcases Nat.lt_or_ge k j with r | r
          · exact r
          · obtain rfl : k = j := by omega
            rcases hq with hq | hq
            · omega
            · omega
      · rw [if_neg hp, evAt_put _ _ _ _ (by rw [putE_length]; omega)]
        by_cases q2 : (spAt s.spans j).2 = i
        · rw [if_pos q2, ← e2 hp]
          congr 1
          omega
        · rw [if_neg q2, evAt_put _ _ _ _ (by omega)]
          by_cases q : ((spAt s.spans j).1 : Int) = i
          · rw [if_pos q, ← e1]
            congr 1
            omega
          · rw [if_neg q]
            refine ih' ⟨k, ?_, hq⟩
            rcases Nat.lt_or_ge k j with r | r
            · exact r
            · obtain rfl : k = j := by omega
              rcases hq with hq | hq
              · omega
              · omega
  refine evAt_ext hlen fun i hi => ?_
  obtain ⟨k, hk, q⟩ := hcov i (by omega)
  have := key s.spans.length (Nat.le_refl _) i (by omega) ⟨k, hk, q⟩
  unfold layL
  rw [cdsOf_length]
  exact this
/-- A history is the history of its operations. -/
theorem prog_back {hs : List EvD} (he : hErr hs = 0) : ProgOk (cdsOf hs (spansL hs)) := by
  have hl := lay_back he
  unfold ProgOk
  rw [hl]
  refine ⟨he, ⟨(cdsOf_length _ _).symm, fun k hk => ?_⟩, fun k hk ht => ?_⟩
  · rw [cdsOf_length] at hk
    rw [cdAt_of hk]
    exact ⟨rfl, rfl⟩
  · rw [cdsOf_length] at hk
    rw [cdAt_of hk] at ht ⊢
    simp only at ht ⊢
    unfold retOf
    rw [if_pos ht]
    exact isZ_iff.2 rfl
end Go.Proofs.Ytgbfippcnmpgfaa

/- Layer 5: where the reference asks all its questions well, the laid history has as many operations as were given. No walk. -/
import Derived.Test.YtniognoapcaliaaETaken
namespace Go.Proofs.Ytniognoapcaliaa
open Go.RowKit

/-- How many of the first events are returns. -/
def rcN (hs : List EvD) : Nat → Nat
  | 0 => 0
  | j + 1 => rcN hs j + if (evAt hs j).ret then 1 else 0
theorem rcN_same {a b : List EvD} : ∀ n, (∀ i, i < n → (evAt a i).ret = (evAt b i).ret) → rcN a n = rcN b n
  | 0, _ => rfl
  | n + 1, h => by
    have ih := rcN_same n (fun i hi => h i (by omega))
    simp only [rcN, ih, h n (by omega)]
theorem rcN_put {a b : List EvD} {f : Nat} {e : EvD} : ∀ n, f < n → (∀ i, i < n → evAt b i = if f = i then e else evAt a i) → (evAt a f).ret = false → rcN b n = rcN a n + if e.ret then 1 else 0
  | 0, h, _, _ => by omega
  | n + 1, hf, h, hr => by
    by_cases q : f = n
    · have := rcN_same (a := b) (b := a) n (fun i hi => by rw [h i (by omega), if_neg (by omega)])
      simp only [rcN, this, h n (by omega), if_pos q]
      rw [← q, hr]
      simp
    · have ih := rcN_put n (by omega) (fun i hi => h i (by omega)) hr
      simp only [rcN, ih, h n (by omega), if_neg q]
      omega
theorem stN_count {hs : List EvD} : ∀ {j : Nat} {s : St}, stN hs j = some s → rcN hs j + s.spans.length = j
  | 0, s, h => by cases h; rfl
  | j + 1, s', h => by
    obtain ⟨s, hs0⟩ := stN_prefix h j (by omega)
    have hst : stepS hs s j = some s' := by
      have h2 : (stN hs j).bind (fun s => stepS hs s j) = some s' := h
      rw [hs0] at h2
      exact h2
    have ih := stN_count hs0
    obtain ⟨t, ht, ht64, hc⟩ := stepS_cases hst
    rcases hc with ⟨hr, _, _, rfl⟩ | ⟨hr, h0, _, rfl⟩
    · simp only [rcN, hr, List.length_append, List.length_cons, List.length_nil]
      simp
      omega
    · simp only [rcN, hr, List.length_set]
      simp
      omega
theorem lay_count {l : List CD} : ∀ j, j ≤ l.length → (∀ k, k < j → CondR l k) → (∀ p, p < cntN l l.length → ¬ Taken l j (p : Int) → (evAt (layN l (empties l) j) p).ret = false) ∧ rcN (layN l (empties l) j) (cntN l l.length) + j = cntN l j
  | 0, _, _ => by
    refine ⟨fun p hp _ => ?_, ?_⟩
    · show (evAt (empties l) p).ret = false
      rw [evAt_empties]; rfl
    · show rcN (empties l) _ + 0 = 0
      have : ∀ n, rcN (empties l) n = 0 := by
        intro n
        induction n with
        | zero => rfl
        | succ n ih => simp only [rcN, ih, evAt_empties]; rfl
      rw [this]
  | j + 1, hj, hc => by
    obtain ⟨h1, h2⟩ := lay_count (l := l) j (by omega) (fun k hk => hc k (by omega))
    have hcj := hc j (by omega)
    have hlen : (layN l (empties l) j).length = cntN l l.length := by rw [layN_length]; unfold empties; rw [List.length_replicate]
    obtain ⟨f, hf⟩ : ∃ f : Nat, (cdAt l j).fr = f := ⟨(cdAt l j).fr.toNat, by have := hcj.lo; omega⟩
    have hfn : f < cntN l l.length := by have := hcj.hi; omega
    have hff := h1 f hfn (by rw [← hf]; exact hcj.free)
    have e1 : ∀ i, i < cntN l l.length → evAt (putE (layN l (empties l) j) (cdAt l j).fr (invE (cdAt l j))) i = if f = i then invE (cdAt l j) else evAt (layN l (empties l) j) i := by
      intro i hi
      rw [evAt_put _ _ _ _ (by omega), hf]
      by_cases q : f = i
      · rw [if_pos (by omega), if_pos q]
      · rw [if_neg (by omega), if_neg q]
    have r1 := rcN_put (cntN l l.length) hfn e1 hff
    have i0 : (invE (cdAt l j)).ret = false := rfl
    rw [i0] at r1
    by_cases ht : (cdAt l j).to = -1
    · have hl : layN l (empties l) (j + 1) = putE (layN l (empties l) j) (cdAt l j).fr (invE (cdAt l j)) := by
        show layOne _ _ = _
        unfold layOne
        rw [if_pos ht]
      have hcn : cntN l (j + 1) = cntN l j + 1 := by
        show cntN l j + 1 + _ = _
        rw [if_pos ht]
      rw [hl]
      refine ⟨fun p hp hfree => ?_, ?_⟩
      · rw [e1 p hp]
        by_cases q : f = p
        · rw [if_pos q]; rfl
        · rw [if_neg q]; exact h1 p hp (fun z => hfree ((taken_succ l j p).2 (Or.inl z)))
      · rw [r1, hcn]
        simp
        omega
    · obtain ⟨b1, b2, b3⟩ := hcj.back ht
      obtain ⟨t, ht2⟩ : ∃ t : Nat, (cdAt l j).to = t := ⟨(cdAt l j).to.toNat, by omega⟩
      have htn : t < cntN l l.length := by omega
      have hl : layN l (empties l) (j + 1) = putE (putE (layN l (empties l) j) (cdAt l j).fr (invE (cdAt l j))) (cdAt l j).to (retE (cdAt l j)) := by
        show layOne _ _ = _
        unfold layOne
        rw [if_neg ht]
      have hcn : cntN l (j + 1) = cntN l j + 1 + 1 := by
        show cntN l j + 1 + _ = _
        rw [if_neg ht]
      have htt : (evAt (putE (layN l (empties l) j) (cdAt l j).fr (invE (cdAt l j))) t).ret = false := by
        rw [e1 t htn, if_neg (by omega)]
        exact h1 t htn (by rw [← ht2]; exact b3)
      have e2 : ∀ i, i < cntN l l.length → evAt (putE (putE (layN l (empties l) j) (cdAt l j).fr (invE (cdAt l j))) (cdAt l j).to (retE (cdAt l j))) i = if t = i then retE (cdAt l j) else evAt (putE (layN l (empties l) j) (cdAt l j).fr (invE (cdAt l j))) i := by
        intro i hi
        rw [evAt_put _ _ _ _ (by rw [putE_length]; omega), ht2]
        by_cases q : t = i
        · rw [if_pos (by omega), if_pos q]
        · rw [if_neg (by omega), if_neg q]
      have r2 := rcN_put (cntN l l.length) htn e2 htt
      have i1 : (retE (cdAt l j)).ret = true := rfl
      rw [i1, r1] at r2
      rw [hl]
      refine ⟨fun p hp hfree => ?_, ?_⟩
      · have hn : t ≠ p := fun q => hfree ((taken_succ l j p).2 (Or.inr (Or.inr ⟨ht, by omega⟩)))
        rw [e2 p hp, if_neg hn, e1 p hp]
        by_cases q : f = p
        · rw [if_pos q]; rfl
        · rw [if_neg q]; exact h1 p hp (fun z => hfree ((taken_succ l j p).2 (Or.inl z)))
      · rw [r2, hcn]
        simp
        omega
theorem spans_count {l : List CD} (hc : ∀ k, k < l.length → CondR l k) (he : hErr (layL l) = 0) : (spansL (layL l)).length = l.length := by
  obtain ⟨_, s, hst, hsl⟩ := hErr_zero he
  have a := stN_count hst
  rw [layL_length] at a
  have b := (lay_count l.length (Nat.le_refl _) hc).2
  rw [hsl]
  unfold layL at a
  omega
end Go.Proofs.Ytniognoapcaliaa

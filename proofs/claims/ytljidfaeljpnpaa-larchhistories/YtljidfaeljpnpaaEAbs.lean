
/- Layer 5, pure: what is open of each thread, apart from the spans. -/

import Derived.Test.YtljidfaeljpnpaaECall

namespace Go.Proofs.Ytljidfaeljpnpaa

open Go.RowKit

/-- What is open of each thread. -/
def updO (f : Nat → Option OpD) (t : Nat) (v : Option OpD) : Nat → Option OpD := fun x => if x = t then v else f x
def nextO (e : EvD) (o : Option OpD) : Option (Option OpD) :=
  if 0 ≤ e.th ∧ e.th < 64 then
    if e.ret = true then (match o with | some p => if opEq p e.op = true then some none else none | none => none)
    else if o = none ∧ isInv e = true then some (some e.op) else none
  else none
def absStep (f : Nat → Option OpD) (e : EvD) : Option (Nat → Option OpD) := (nextO e (f e.th.toNat)).map (updO f e.th.toNat)
def absN (hs : List EvD) : Nat → Option (Nat → Option OpD)
  | 0 => some (fun _ => none)
  | j + 1 => (absN hs j).bind fun f => absStep f (evAt hs j)
def absS (hs : List EvD) (s : St) (t : Nat) : Option OpD := if 0 < s.beg t then some (opOf hs s t) else none
theorem updO_same (f : Nat → Option OpD) (t : Nat) (v : Option OpD) : updO f t v t = v := by simp [updO]
theorem updO_other (f : Nat → Option OpD) {t u : Nat} (v : Option OpD) (h : u ≠ t) : updO f t v u = f u := by simp [updO, h]
theorem absN_st (hs : List EvD) : ∀ j, (∀ s, stN hs j = some s → ∃ f, absN hs j = some f ∧ ∀ t, t < 64 → f t = absS hs s t) ∧ (stN hs j = none → absN hs j = none)
  | 0 => ⟨fun s h => by cases h; exact ⟨_, rfl, fun t _ => by simp [absS]⟩, fun h => by cases h⟩
  | j + 1 => by
    obtain ⟨ih1, ih2⟩ := absN_st hs j
    have ea : absN hs (j + 1) = (absN hs j).bind fun f => absStep f (evAt hs j) := rfl
    have es : stN hs (j + 1) = (stN hs j).bind fun s => stepS hs s j := rfl
    cases hj : stN hs j with
    | none =>
      rw [es, hj, ea, ih2 hj]
      exact ⟨(fun s h => by cases h), fun _ => rfl⟩
    | some s0 =>
      obtain ⟨f0, hf0, hft⟩ := ih1 s0 hj
      have ok := stN_ok hj
      rw [es, hj, ea, hf0]
      show (∀ s, stepS hs s0 j = some s → _) ∧ (stepS hs s0 j = none → absStep f0 (evAt hs j) = none)
      refine ⟨fun s h => ?_, fun h => ?_⟩
      · obtain ⟨t, ht, h64, q⟩ := stepS_cases h
        show ∃ f, absStep f0 (evAt hs j) = some f ∧ _
        unfold absStep
        rw [ht, Int.toNat_natCast, hft t h64]
        rcases q with ⟨hr, hb, hi, rfl⟩ | ⟨hr, hb, ho, rfl⟩
        · have e0 : absS hs s0 t = none := by unfold absS; rw [if_neg (by omega)]
          have e1 : nextO (evAt hs j) none = some (some (evAt hs j).op) := by
            unfold nextO
            rw [if_pos (by omega), if_neg (by simp [hr]), if_pos ⟨rfl, hi⟩]
          rw [e0, e1]
          refine ⟨_, rfl, fun u hu => ?_⟩
          by_cases e : u = t
          · subst e
            rw [updO_same]
            unfold absS
            rw [opOf_new]
            simp [upd]
          · rw [updO_other _ _ e, hft u hu]
            unfold absS
            have : upd s0.beg t (s0.spans.length + 1) u = s0.beg u := by simp [upd, e]
            simp only [this]
            by_cases p : 0 < s0.beg u
            · rw [if_pos p, if_pos p, opOf_go e p (ok.beg u)]
            · rw [if_neg p, if_neg p]
        · have hbl := ok.beg t
          have e0 : absS hs s0 t = some (opOf hs s0 t) := by unfold absS; rw [if_pos hb]
          have e1 : nextO (evAt hs j) (some (opOf hs s0 t)) = some none := by
            unfold nextO
            rw [if_pos (by omega), if_pos hr]
            show (if opEq (opOf hs s0 t) (evAt hs j).op = true then some none else none) = some none
            rw [if_pos (show opEq (opOf hs s0 t) (evAt hs j).op = true from ho)]
          rw [e0, e1]
          refine ⟨_, rfl, fun u hu => ?_⟩
          by_cases e : u = t
          · subst e
            rw [updO_same]
            unfold absS
            simp [upd]
          · rw [updO_other _ _ e, hft u hu]
            unfold absS
            have : upd s0.beg t 0 u = s0.beg u := by simp [upd, e]
            simp only [this]
            by_cases p : 0 < s0.beg u
            · rw [if_pos p, if_pos p, opOf_back e (by omega)]
            · rw [if_neg p, if_neg p]
      · cases hn : nextO (evAt hs j) (f0 (evAt hs j).th.toNat) with
        | none => unfold absStep; rw [hn]; rfl
        | some v =>
          exfalso
          unfold nextO at hn
          by_cases hr : 0 ≤ (evAt hs j).th ∧ (evAt hs j).th < 64
          · rw [if_pos hr, hft _ (by omega)] at hn
            have et : (evAt hs j).th = ((evAt hs j).th.toNat : Int) := by omega
            by_cases hb : (evAt hs j).ret = true
            · rw [if_pos hb] at hn
              unfold absS at hn
              by_cases p : 0 < s0.beg (evAt hs j).th.toNat
              · rw [if_pos p] at hn
                have hn' : (if opEq (opOf hs s0 (evAt hs j).th.toNat) (evAt hs j).op = true then some none else none) = some v := hn
                by_cases o : opEq (opOf hs s0 (evAt hs j).th.toNat) (evAt hs j).op = true
                · rw [stepS_back et (by omega) hb p o] at h; cases h
                · rw [if_neg o] at hn'; cases hn'
              · rw [if_neg p] at hn; cases hn
            · rw [if_neg hb] at hn
              by_cases q : absS hs s0 (evAt hs j).th.toNat = none ∧ isInv (evAt hs j) = true
              · have p : s0.beg (evAt hs j).th.toNat = 0 := by
                  have := q.1
                  unfold absS at this
                  by_cases p : 0 < s0.beg (evAt hs j).th.toNat
                  · rw [if_pos p] at this; cases this
                  · omega
                rw [stepS_go et (by omega) (by simpa using hb) p q.2] at h; cases h
              · rw [if_neg q] at hn; cases hn
          · rw [if_neg hr] at hn; cases hn
end Go.Proofs.Ytljidfaeljpnpaa

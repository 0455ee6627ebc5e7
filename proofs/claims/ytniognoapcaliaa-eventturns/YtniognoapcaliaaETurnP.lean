/- Layer 5, pure: a history whose neighbouring events of unlike threads change places; one event less; cut at its own number. -/
import Derived.Test.YtniognoapcaliaaESam2
namespace Go.Proofs.Ytniognoapcaliaa
open Go.RowKit

/-- What is open of each thread. -/
def updO (f : Nat → Option OpD) (t : Nat) (v : Option OpD) : Nat → Option OpD := fun x => if x = t then v else f x
def nextO (e : EvD) (o : Option OpD) : Option (Option OpD) :=
  if 0 ≤ e.th ∧ e.th < 64 then
    if e.ret = true then (match o with | some p => if opEq p e.op = true then some none else none | none => none)
    else if o = none ∧ isInv e = true then some (some e.op) else none
  else none
def absStep (f : Nat → Option OpD) (e : EvD) : Option (Nat → Option OpD) := (nextO e (f e.th.toNat)).map (updO f e.th.toNat)
def absN (hs : List EvD) : Nat → Option (Nat → Option OpD)
  | 0 => some (fun _ => none)
  | j + 1 => (absN hs j).bind fun f => absStep f (evAt hs j)
def absS (hs : List EvD) (s : St) (t : Nat) : Option OpD := if 0 < s.beg t then some (opOf hs s t) else none
theorem updO_same (f : Nat → Option OpD) (t : Nat) (v : Option OpD) : updO f t v t = v := by simp [updO]
theorem updO_other (f : Nat → Option OpD) {t u : Nat} (v : Option OpD) (h : u ≠ t) : updO f t v u = f u := by simp [updO, h]
theorem absN_st (hs : List EvD) : ∀ j, (∀ s, stN hs j = some s → ∃ f, absN hs j = some f ∧ ∀ t, t < 64 → f t = absS hs s t) ∧ (stN hs j = none → absN hs j = none)
  | 0 => ⟨fun s h => by cases h; exact ⟨_, rfl, fun t _ => by simp [absS]⟩, fun h => by cases h⟩
  | j + 1 => by
    obtain ⟨ih1, ih2⟩ := absN_st hs j
    have ea : absN hs (j + 1) = (absN hs j).bind fun f => absStep f (evAt hs j) := rfl
    have es : stN hs (j + 1) = (stN hs j).bind fun s => stepS hs s j := rfl
    cases hj : stN hs j with
    | none =>
      rw [es, hj, ea, ih2 hj]
      exact ⟨(fun s h => by cases h), fun _ => rfl⟩
    | some s0 =>
      obtain ⟨f0, hf0, hft⟩ := ih1 s0 hj
      have ok := stN_ok hj
      rw [es, hj, ea, hf0]
      show (∀ s, stepS hs s0 j = some s → _) ∧ (stepS hs s0 j = none → absStep f0 (evAt hs j) = none)
      refine ⟨fun s h => ?_, fun h => ?_⟩
      · obtain ⟨t, ht, h64, q⟩ := stepS_cases h
        show ∃ f, absStep f0 (evAt hs j) = some f ∧ _
        unfold absStep
        rw [ht, Int.toNat_natCast, hft t h64]
        rcases q with ⟨hr, hb, hi, rfl⟩ | ⟨hr, hb, ho, rfl⟩
        · have e0 : absS hs s0 t = none := by unfold absS; rw [if_neg (by omega)]
          have e1 : nextO (evAt hs j) none = some (some (evAt hs j).op) := by
            unfold nextO
            rw [if_pos (by omega), if_neg (by simp [hr]), if_pos ⟨rfl, hi⟩]
          rw [e0, e1]
          refine ⟨_, rfl, fun u hu => ?_⟩
          by_cases e : u = t
          · subst e
            rw [updO_same]
            unfold absS
            rw [opOf_new]
            simp [upd]
          · rw [updO_other _ _ e, hft u hu]
            unfold absS
            have : upd s0.beg t (s0.spans.length + 1) u = s0.beg u := by simp [upd, e]
            simp only [this]
            by_cases p : 0 < s0.beg u
            · rw [if_pos p, if_pos p, opOf_go e p (ok.beg u)]
            · rw [if_neg p, if_neg p]
        · have hbl := ok.beg t
          have e0 : absS hs s0 t = some (opOf hs s0 t) := by unfold absS; rw [if_pos hb]
          have e1 : nextO (evAt hs j) (some (opOf hs s0 t)) = some none := by
            unfold nextO
            rw [if_pos (by omega), if_pos hr]
            show (if opEq (opOf hs s0 t) (evAt hs j).op = true then some none else none) = some none
            rw [if_pos (show opEq (opOf hs s0 t) (evAt hs j).op = true from ho)]
          rw [e0, e1]
          refine ⟨_, rfl, fun u hu => ?_⟩
          by_cases e : u = t
          · subst e
            rw [updO_same]
            unfold absS
            simp [upd]
          · rw [updO_other _ _ e, hft u hu]
            unfold absS
            have : upd s0.beg t 0 u = s0.beg u := by simp [upd, e]
            simp only [this]
            by_cases p : 0 < s0.beg u
            · rw [if_pos p, if_pos p, opOf_back e (by omega)]
            · rw [if_neg p, if_neg p]
      · cases hn : nextO (evAt hs j) (f0 (evAt hs j).th.toNat) with
        | none => unfold absStep; rw [hn]; rfl
        | some v =>
          exfalso
          unfold nextO at hn
          by_cases hr : 0 ≤ (evAt hs j).th ∧ (evAt hs j).th < 64
          · rw [if_pos hr, hft _ (by omega)] at hn
            have et : (evAt hs j).th = ((evAt hs j).th.toNat : Int) := by omega
            by_cases hb : (evAt hs j).ret = true
            · rw [if_pos hb] at hn
              unfold absS at hn
              by_cases p : 0 < s0.beg (evAt hs j).th.toNat
              · rw [if_pos p] at hn
                have hn' : (if opEq (opOf hs s0 (evAt hs j).th.toNat) (evAt hs j).op = true then some none else none) = some v := hn
                by_cases o : opEq (opOf hs s0 (evAt hs j).th.toNat) (evAt hs j).op = true
                · rw [stepS_back et (by omega) hb p o] at h; cases h
                · rw [if_neg o] at hn'; cases hn'
              · rw [if_neg p] at hn; cases hn
            · rw [if_neg hb] at hn
              by_cases q : absS hs s0 (evAt hs j).th.toNat = none ∧ isInv (evAt hs j) = true
              · have p : s0.beg (evAt hs j).th.toNat = 0 := by
                  have := q.1
                  unfold absS at this
                  by_cases p : 0 < s0.beg (evAt hs j).th.toNat
                  · rw [if_pos p] at this; cases this
                  · omega
                rw [stepS_go et (by omega) (by simpa using hb) p q.2] at h; cases h
              · rw [if_neg q] at hn; cases hn
          · rw [if_neg hr] at hn; cases hn
theorem absStep_swap (f : Nat → Option OpD) (a b : EvD) (h : a.th ≠ b.th) : (absStep f a).bind (fun g => absStep g b) = (absStep f b).bind (fun g => absStep g a) := by
  by_cases ha : 0 ≤ a.th ∧ a.th < 64
  · by_cases hb : 0 ≤ b.th ∧ b.th < 64
    · have hne : a.th.toNat ≠ b.th.toNat := by omega
      unfold absStep
      cases ea : nextO a (f a.th.toNat) with
      | none =>
        cases eb : nextO b (f b.th.toNat) with
        | none => rfl
        | some v =>
          show none = (nextO a (updO f b.th.toNat v a.th.toNat)).map _
          rw [updO_other _ _ hne, ea]; rfl
      | some u =>
        show (nextO b (updO f a.th.toNat u b.th.toNat)).map (updO (updO f a.th.toNat u) b.th.toNat) = _
        rw [updO_other _ _ hne.symm]
        cases eb : nextO b (f b.th.toNat) with
        | none => rfl
        | some v =>
          show some _ = (nextO a (updO f b.th.toNat v a.th.toNat)).map _
          rw [updO_other _ _ hne, ea]
          show some _ = some _
          congr 1
          funext x
          unfold updO
          by_cases h1 : x = a.th.toNat
          · have h2 : x ≠ b.th.toNat := by omega
            simp [h1, hne]
          · simp [h1]
    · have nb : ∀ g, absStep g b = none := fun g => by unfold absStep nextO; rw [if_neg hb]; rfl
      rw [nb]
      cases absStep f a with
      | none => rfl
      | some g => exact nb g
  · have na : ∀ g, absStep g a = none := fun g => by unfold absStep nextO; rw [if_neg ha]; rfl
    rw [na]
    cases absStep f b with
    | none => rfl
    | some g => exact (na g).symm
/-- hs' is hs with its events i and i + 1 exchanged. -/
def Turned (hs hs' : List EvD) (i : Nat) : Prop := hs'.length = hs.length ∧ i + 1 < hs.length ∧ evAt hs' i = evAt hs (i + 1) ∧ evAt hs' (i + 1) = evAt hs i ∧ ∀ k, k ≠ i → k ≠ i + 1 → evAt hs' k = evAt hs k
theorem turned_abs {hs hs' : List EvD} {i : Nat} (h : Turned hs hs' i) (hne : (evAt hs i).th ≠ (evAt hs (i + 1)).th) : ∀ j, j ≠ i + 1 → absN hs' j = absN hs j := by
  obtain ⟨_, _, h1, h2, h3⟩ := h
  have low : ∀ j, j ≤ i → absN hs' j = absN hs j := by
    intro j
    induction j with
    | zero => intro _; rfl
    | succ j ih => intro hj; show (absN hs' j).bind _ = (absN hs j).bind _; rw [ih (by omega), h3 j (by omega) (by omega)]
  intro j
  induction j with
  | zero => intro _; rfl
  | succ j ih =>
    intro hj
    by_cases c : j ≤ i
    · exact low (j + 1) (by omega)
    · by_cases c2 : j = i + 1
      · subst c2
        show ((absN hs' i).bind fun f => absStep f (evAt hs' i)).bind (fun f => absStep f (evAt hs' (i + 1))) = ((absN hs i).bind fun f => absStep f (evAt hs i)).bind (fun f => absStep f (evAt hs (i + 1)))
        rw [low i (Nat.le_refl _), h1, h2]
        cases absN hs i with
        | none => rfl
        | some f => exact absStep_swap f _ _ (fun q => hne q.symm)
      · show (absN hs' j).bind _ = (absN hs j).bind _
        rw [ih c2, h3 j (by omega) (by omega)]
theorem turned_th {hs hs' : List EvD} {i : Nat} (h : Turned hs hs' i) (hne : (evAt hs i).th ≠ (evAt hs (i + 1)).th) (t : Int) : ∀ j, j ≠ i + 1 → thN hs' t j = thN hs t j := by
  obtain ⟨_, _, h1, h2, h3⟩ := h
  have low : ∀ j, j ≤ i → thN hs' t j = thN hs t j := by
    intro j
    induction j with
    | zero => intro _; rfl
    | succ j ih => intro hj; simp only [thN]; rw [ih (by omega), h3 j (by omega) (by omega)]
  intro j
  induction j with
  | zero => intro _; rfl
  | succ j ih =>
    intro hj
    by_cases c : j ≤ i
    · exact low (j + 1) (by omega)
    · by_cases c2 : j = i + 1
      · subst c2
        simp only [thN]
        rw [low i (Nat.le_refl _), h1, h2]
        by_cases q1 : (evAt hs i).th = t
        · rw [if_pos q1, if_neg (by omega), if_neg (by omega), if_pos q1]
        · rw [if_neg q1, if_neg q1]
      · simp only [thN]
        rw [ih c2, h3 j (by omega) (by omega)]
theorem turned_same {hs hs' : List EvD} {i : Nat} (he : hErr hs = 0) (h : Turned hs hs' i) (hne : (evAt hs i).th ≠ (evAt hs (i + 1)).th) : hErr hs' = 0 ∧ SameP hs hs' := by
  obtain ⟨hb, s, hst, _⟩ := hErr_zero he
  have hl := h.1
  have hi := h.2.1
  have he' : hErr hs' = 0 := by
    obtain ⟨f, hf, _⟩ := (absN_st hs hs.length).1 s hst
    have ha := turned_abs h hne hs.length (by omega)
    cases e : stN hs' hs'.length with
    | none =>
      have := (absN_st hs' hs'.length).2 e
      rw [hl, ha, hf] at this
      cases this
    | some s' => exact (hErr_ok (by omega) e).1
  exact ⟨he', he, he', fun t => by rw [hl, turned_th h hne t _ (by omega)]⟩
theorem evAt_take {hs : List EvD} {m i : Nat} (h : i < m) : evAt (hs.take m) i = evAt hs i := by
  unfold evAt
  rw [List.getD_eq_getElem?_getD, List.getD_eq_getElem?_getD, List.getElem?_take, if_pos h]
theorem absN_take {hs : List EvD} {m : Nat} : ∀ j, j ≤ m → absN (hs.take m) j = absN hs j
  | 0, _ => rfl
  | j + 1, h => by
    show (absN (hs.take m) j).bind _ = (absN hs j).bind _
    rw [absN_take j (by omega), evAt_take (by omega)]
theorem thN_take {hs : List EvD} {m : Nat} (t : Int) : ∀ j, j ≤ m → thN (hs.take m) t j = thN hs t j
  | 0, _ => rfl
  | j + 1, h => by
    simp only [thN]
    rw [thN_take t j (by omega), evAt_take (by omega)]
theorem absN_some {hs : List EvD} {j : Nat} : ∀ m, (absN hs (j + m)).isSome = true → (absN hs j).isSome = true
  | 0, h => h
  | m + 1, h => by
    refine absN_some m ?_
    cases e : absN hs (j + m) with
    | none =>
      have : absN hs (j + m + 1) = none := by show (absN hs (j + m)).bind _ = none; rw [e]; rfl
      rw [show j + (m + 1) = j + m + 1 by omega, this] at h; cases h
    | some f => rfl
/-- An event less: a history still, not the same. -/
theorem less_same {hs : List EvD} (he : hErr hs = 0) (hn : hs.length ≠ 0) : hErr (hs.take (hs.length - 1)) = 0 ∧ ¬ SameP hs (hs.take (hs.length - 1)) := by
  obtain ⟨hb, s, hst, _⟩ := hErr_zero he
  have hl : (hs.take (hs.length - 1)).length = hs.length - 1 := by rw [List.length_take]; omega
  refine ⟨?_, fun q => ?_⟩
  · obtain ⟨f, hf, _⟩ := (absN_st hs hs.length).1 s hst
    have hs1 : (absN hs (hs.length - 1)).isSome = true := absN_some 1 (by rw [show hs.length - 1 + 1 = hs.length by omega, hf]; rfl)
    cases e : stN (hs.take (hs.length - 1)) (hs.take (hs.length - 1)).length with
    | none =>
      have := (absN_st (hs.take (hs.length - 1)) (hs.take (hs.length - 1)).length).2 e
      rw [hl, absN_take _ (Nat.le_refl _)] at this
      rw [this] at hs1
      cases hs1
    | some s' => exact (hErr_ok (by omega) e).1
  · have := q.2.2 (evAt hs (hs.length - 1)).th
    rw [hl, thN_take _ _ (Nat.le_refl _)] at this
    have e : thN hs (evAt hs (hs.length - 1)).th (hs.length - 1 + 1) = thN hs (evAt hs (hs.length - 1)).th (hs.length - 1) ++ [evAt hs (hs.length - 1)] := by simp [thN]
    rw [show hs.length - 1 + 1 = hs.length by omega, this] at e
    have := congrArg List.length e
    simp at this
theorem kept_all {hs : List EvD} {K : Nat → Bool} : ∀ j, j ≤ hs.length → (∀ i, i < j → K (ownN hs i) = true) → keptN hs K j = hs.take j
  | 0, _, _ => by simp [keptN]
  | j + 1, hj, h => by
    simp only [keptN]
    rw [if_pos (h j (Nat.lt_succ_self _)), kept_all j (by omega) (fun i hi => h i (by omega)), take_snoc_ev (by omega)]
theorem cut_all {hs : List EvD} (he : hErr hs = 0) : cutL hs (spansL hs).length = hs := by
  unfold cutL
  rw [if_neg (fun q => q he), if_neg (by omega), kept_all _ (Nat.le_refl _) (fun i hi => ?_), List.take_length]
  have := (own_last he hi).1
  unfold Kcut
  simp only [decide_eq_true_eq]
  omega
theorem same_self {hs : List EvD} (he : hErr hs = 0) : SameP hs hs := ⟨he, he, fun _ => rfl⟩
end Go.Proofs.Ytniognoapcaliaa

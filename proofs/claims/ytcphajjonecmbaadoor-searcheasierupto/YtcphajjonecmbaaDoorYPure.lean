
/- Layer 7, pure: things, their operations, runs; the orders of a history. -/

import Derived.Test.YtcphajjonecmbaaDoorEPure

import Derived.Test.YtcphajjonecmbaaDoorECall

namespace Go.Proofs.YtcphajjonecmbaaDoor

open Go.RowKit

/-- A thing's state as data. -/
structure SD where
  vals : List Int
  prs : PL
/-- The greatest kind of a thing's operations; is it one of them? -/
def kMax (t : Int) : Int := if t = 1 then 3 else if t = 5 then 9 else 2
def kOk (t k : Int) : Bool := decide (1 ≤ k) && decide (k ≤ kMax t)
def inFm (t : Int) (s : SD) : Bool :=
  if t = 1 ∨ t = 2 then decide (s.vals.length = 1) && decide (s.prs.length = 0)
  else if t = 5 then decide (s.vals.length = 0) && decide (ckErr s.prs = 0)
  else decide (s.prs.length = 0)
def sErr (t : Int) (s : SD) : Int := if t < 1 ∨ 5 < t then 5 else if inFm t s then 0 else 3
/-- What a thing that isn't a map holds behind an operation; what it answers. -/
def vStep (t : Int) (vs : List Int) (o : OpD) : List Int :=
  if t = 1 then (if o.kind = 1 then vs else if o.kind = 3 ∧ vs.headD 0 ≠ o.key then vs else [o.val])
  else if t = 2 then (if o.kind = 1 then vs else [wrap64 (vs.headD 0 + o.val)])
  else if o.kind = 1 then vs ++ [o.val]
  else if vs.length = 0 then vs
  else if t = 4 then vs.drop 1 else vs.take (vs.length - 1)
def vRet (t : Int) (vs : List Int) (o : OpD) : RetD :=
  if t = 1 then (if o.kind = 1 then ⟨true, 0, vs.headD 0, []⟩ else if o.kind = 3 ∧ vs.headD 0 ≠ o.key then RetD.zero else ⟨true, 0, 0, []⟩)
  else if t = 2 then ⟨true, 0, (vStep 2 vs o).headD 0, []⟩
  else if o.kind = 1 then ⟨true, 0, 0, []⟩
  else if vs.length = 0 then RetD.zero
  else if t = 4 then ⟨true, 0, vs.getD 0 0, []⟩ else ⟨true, 0, vs.getD (vs.length - 1) 0, []⟩
def sStep (t : Int) (s : SD) (o : OpD) : SD := if t = 5 then ⟨[], stepL s.prs o⟩ else ⟨vStep t s.vals o, []⟩
def sRet (t : Int) (s : SD) (o : OpD) : RetD := if t = 5 then stepR s.prs o else vRet t s.vals o
def sRun (t : Int) (s : SD) : List OpD → SD
  | [] => s
  | o :: l => sRun t (sStep t s o) l
def sRets (t : Int) (s : SD) : List OpD → List RetD
  | [] => []
  | o :: l => sRet t s o :: sRets t (sStep t s o) l
theorem sRun_append (t : Int) (b : List OpD) : ∀ (a : List OpD) (s : SD), sRun t s (a ++ b) = sRun t (sRun t s a) b
  | [], _ => rfl
  | o :: a, s => sRun_append t b a (sStep t s o)
theorem sRets_append (t : Int) (b : List OpD) : ∀ (a : List OpD) (s : SD), sRets t s (a ++ b) = sRets t s a ++ sRets t (sRun t s a) b
  | [], _ => rfl
  | o :: a, s => by
    show sRet t s o :: sRets t (sStep t s o) (a ++ b) = _
    rw [sRets_append t b a]
    rfl
theorem sRets_length (t : Int) : ∀ (a : List OpD) (s : SD), (sRets t s a).length = a.length
  | [], _ => rfl
  | o :: a, s => by simp [sRets, sRets_length t a]
theorem sRun_map (l : List OpD) : ∀ s : SD, s.vals = [] → sRun 5 s l = ⟨[], runL s.prs l⟩ := by
  induction l with
  | nil => intro s h; cases s; simp only at h; subst h; rfl
  | cons o l ih => intro s h; exact ih _ rfl
theorem sRets_map (l : List OpD) : ∀ s : SD, sRets 5 s l = runR s.prs l := by
  induction l with
  | nil => intro s; rfl
  | cons o l ih => intro s; show _ :: sRets 5 _ l = _; rw [ih]; rfl
/-- The kinds of the first j operations are the thing's. -/
def ksN (t : Int) (ops : List OpD) : Bool := ops.all fun o => kOk t o.kind
def rnErr (t : Int) (s : SD) (ops : List OpD) : Int := if sErr t s = 0 then (if ksN t ops then 0 else 5) else sErr t s

/-- The vals behind a run of a thing that isn't a map. -/
def vRun (t : Int) (vs : List Int) : List OpD → List Int
  | [] => vs
  | o :: l => vRun t (vStep t vs o) l
theorem sRun_vals {t : Int} (ht : t ≠ 5) (l : List OpD) : ∀ s : SD, s.prs = [] → sRun t s l = ⟨vRun t s.vals l, []⟩ := by
  induction l with
  | nil => intro s h; cases s; simp only at h; subst h; rfl
  | cons o l ih =>
    intro s h
    have e : sStep t s o = ⟨vStep t s.vals o, []⟩ := if_neg ht
    show sRun t (sStep t s o) l = _
    rw [e]
    exact ih _ rfl
theorem vStep_length (t : Int) (vs : List Int) (o : OpD) : (vStep t vs o).length ≤ vs.length + 1 := by
  unfold vStep
  split
  · split
    · omega
    · split
      · omega
      · simp
  · split
    · split
      · omega
      · simp
    · split
      · simp
      · split
        · omega
        · split
          · simp; omega
          · simp; omega
theorem vRun_length (t : Int) : ∀ (l : List OpD) (vs : List Int), (vRun t vs l).length ≤ vs.length + l.length
  | [], _ => Nat.le_refl _
  | o :: l, vs => by
    have h1 := vRun_length t l (vStep t vs o)
    have h2 := vStep_length t vs o
    show (vRun t (vStep t vs o) l).length ≤ _
    simp
    omega
theorem vStep_one {t : Int} (ht : t = 1 ∨ t = 2) {vs : List Int} (h : vs.length = 1) (o : OpD) : (vStep t vs o).length = 1 := by
  unfold vStep
  rcases ht with rfl | rfl
  · rw [if_pos rfl]
    split
    · exact h
    · split
      · exact h
      · rfl
  · rw [if_neg (by decide), if_pos rfl]
    split
    · exact h
    · rfl
theorem vRun_one {t : Int} (ht : t = 1 ∨ t = 2) : ∀ (l : List OpD) {vs : List Int}, vs.length = 1 → (vRun t vs l).length = 1
  | [], _, h => h
  | o :: l, _, h => vRun_one ht l (vStep_one ht h o)
theorem vRun_append (t : Int) (b : List OpD) : ∀ (a : List OpD) (vs : List Int), vRun t vs (a ++ b) = vRun t (vRun t vs a) b
  | [], _ => rfl
  | o :: a, vs => vRun_append t b a (vStep t vs o)
/-- The state stays in form. -/
theorem inFm_step {t : Int} {s : SD} (h : inFm t s = true) (o : OpD) : inFm t (sStep t s o) = true := by
  unfold inFm at h ⊢
  by_cases h1 : t = 1 ∨ t = 2
  · rw [if_pos h1] at h ⊢
    have h5 : t ≠ 5 := by omega
    rw [Bool.and_eq_true, decide_eq_true_eq, decide_eq_true_eq] at h
    have e : sStep t s o = ⟨vStep t s.vals o, []⟩ := if_neg h5
    rw [e, decide_eq_true (vStep_one h1 h.1 o)]
    rfl
  · rw [if_neg h1] at h ⊢
    by_cases h5 : t = 5
    · rw [if_pos h5] at h ⊢
      rw [Bool.and_eq_true, decide_eq_true_eq, decide_eq_true_eq] at h
      have e : sStep t s o = ⟨[], stepL s.prs o⟩ := if_pos h5
      rw [e, decide_eq_true (ckErr_zero.2 (stepL_srt (ckErr_zero.1 h.2) o))]
      rfl
    · rw [if_neg h5] at h ⊢
      have e : sStep t s o = ⟨vStep t s.vals o, []⟩ := if_neg h5
      rw [e]
      rfl
theorem inFm_run {t : Int} : ∀ (l : List OpD) {s : SD}, inFm t s = true → inFm t (sRun t s l) = true
  | [], _, h => h
  | o :: l, _, h => inFm_run l (inFm_step h o)

/-! The orders of a history: hs its events, sp the spans of its operations. -/
def cOp (hs : List EvD) (sp : List Sp) (i : Nat) : OpD := (evAt hs (spAt sp i).1).op
def agrB (hs : List EvD) (p : Sp) (r : RetD) : Bool := decide (p.2 = -1) || retEq r (retOf hs p)
def wholeB (sp : List Sp) (ord : List Nat) : Bool := (List.range sp.length).all fun j => decide ((spAt sp j).2 = -1) || ord.contains j
def mayB (sp : List Sp) (ord : List Nat) (i : Nat) : Bool := !ord.contains i && (List.range sp.length).all fun j => !(ahd (spAt sp j) (spAt sp i)) || ord.contains j
/-- Goes the order on by i? -/
def onB (t : Int) (hs : List EvD) (sp : List Sp) (ord : List Nat) (s : SD) (i : Nat) : Bool := mayB sp ord i && agrB hs (spAt sp i) (sRet t s (cOp hs sp i))
/-- All orders that go on from this one, f - 1 operations more at most. -/
def allO (t : Int) (hs : List EvD) (sp : List Sp) : Nat → List Nat → SD → List (List Nat × SD)
  | 0, _, _ => []
  | f + 1, ord, s => (if wholeB sp ord then [(ord, s)] else []) ++ (List.range sp.length).flatMap fun i => if onB t hs sp ord s i then allO t hs sp f (ord ++ [i]) (sStep t s (cOp hs sp i)) else []
/-- The same up to operation j. -/
def allN (t : Int) (hs : List EvD) (sp : List Sp) (f : Nat) (ord : List Nat) (s : SD) : Nat → List (List Nat × SD)
  | 0 => if wholeB sp ord then [(ord, s)] else []
  | j + 1 => allN t hs sp f ord s j ++ (if onB t hs sp ord s j then allO t hs sp f (ord ++ [j]) (sStep t s (cOp hs sp j)) else [])
theorem allO_eq (t : Int) (hs : List EvD) (sp : List Sp) (f : Nat) (ord : List Nat) (s : SD) : allO t hs sp (f + 1) ord s = allN t hs sp f ord s sp.length := by
  have key : ∀ j, allN t hs sp f ord s j = (if wholeB sp ord then [(ord, s)] else []) ++ (List.range j).flatMap fun i => if onB t hs sp ord s i then allO t hs sp f (ord ++ [i]) (sStep t s (cOp hs sp i)) else [] := by
    intro j
    induction j with
    | zero => simp [allN]
    | succ j ih => simp only [allN, ih, List.range_succ, List.flatMap_append, List.flatMap_cons, List.flatMap_nil, List.append_nil, List.append_assoc]
  rw [key]
  rfl
/-- An order that has begun: numbers of operations, each once. -/
structure OrdG (n : Nat) (ord : List Nat) : Prop where
  lt : ∀ i ∈ ord, i < n
  nd : ord.Nodup
theorem OrdG.nil (n : Nat) : OrdG n [] := ⟨fun _ h => (by cases h), List.nodup_nil⟩
theorem OrdG.le {n : Nat} {ord : List Nat} (h : OrdG n ord) : ord.length ≤ n := by
  have := List.Nodup.length_le_of_subset (l₁ := ord) (l₂ := List.range n) h.nd (fun i hi => List.mem_range.2 (h.lt i hi))
  simpa using this
theorem OrdG.snoc {n : Nat} {ord : List Nat} {i : Nat} (h : OrdG n ord) (hi : i < n) (hn : ord.contains i = false) : OrdG n (ord ++ [i]) := by
  refine ⟨fun k hk => ?_, ?_⟩
  · rcases List.mem_append.1 hk with q | q
    · exact h.lt k q
    · rw [List.mem_singleton.1 q]; exact hi
  · rw [List.nodup_append]
    refine ⟨h.nd, by simp, fun a ha b hb e => ?_⟩
    rw [List.mem_singleton.1 hb] at e
    subst e
    have : ord.contains a = true := by simpa using ha
    rw [this] at hn
    cases hn
theorem onB_not {t : Int} {hs : List EvD} {sp : List Sp} {ord : List Nat} {s : SD} {i : Nat} (h : onB t hs sp ord s i = true) : ord.contains i = false := by
  unfold onB mayB at h
  simp only [Bool.and_eq_true] at h
  simpa using h.1.1
theorem OrdG.on {t : Int} {hs : List EvD} {sp : List Sp} {ord : List Nat} {s : SD} {i : Nat} (h : OrdG sp.length ord) (hi : i < sp.length) (ho : onB t hs sp ord s i = true) : OrdG sp.length (ord ++ [i]) := h.snoc hi (onB_not ho)
/-- How many there are at most. -/
def mostO (n : Nat) : Nat → Nat
  | 0 => 0
  | f + 1 => 1 + n * mostO n f
theorem flat_le {α β : Type} (g : α → List β) (m : Nat) : ∀ l : List α, (∀ x ∈ l, (g x).length ≤ m) → (l.flatMap g).length ≤ l.length * m
  | [], _ => by simp
  | x :: l, h => by
    have h1 := h x (by simp)
    have h2 := flat_le g m l (fun y hy => h y (by simp [hy]))
    simp only [List.flatMap_cons, List.length_append, List.length_cons, Nat.succ_mul]
    omega
theorem allO_most (t : Int) (hs : List EvD) (sp : List Sp) : ∀ (f : Nat) (ord : List Nat) (s : SD), (allO t hs sp f ord s).length ≤ mostO sp.length f
  | 0, _, _ => by simp [allO]
  | f + 1, ord, s => by
    have h1 := flat_le (fun i => if onB t hs sp ord s i then allO t hs sp f (ord ++ [i]) (sStep t s (cOp hs sp i)) else []) (mostO sp.length f) (List.range sp.length) (fun i _ => by
      split
      · exact allO_most t hs sp f _ _
      · exact Nat.zero_le _)
    rw [List.length_range] at h1
    simp only [allO, List.length_append, mostO]
    have h2 : (if wholeB sp ord then [(ord, s)] else []).length ≤ 1 := by split <;> simp
    omega
theorem mostO_mono {n m : Nat} (h : n ≤ m) : ∀ f, mostO n f ≤ mostO m f
  | 0 => Nat.le_refl _
  | f + 1 => by
    have := Nat.mul_le_mul h (mostO_mono h f)
    simp only [mostO]
    omega
theorem allO_lt (t : Int) (hs : List EvD) {sp : List Sp} (hn : sp.length ≤ 8) (ord : List Nat) (s : SD) : (allO t hs sp (sp.length + 1) ord s).length ≤ 20000000 := by
  refine Nat.le_trans (allO_most t hs sp _ _ _) ?_
  have h : sp.length = 0 ∨ sp.length = 1 ∨ sp.length = 2 ∨ sp.length = 3 ∨ sp.length = 4 ∨ sp.length = 5 ∨ sp.length = 6 ∨ sp.length = 7 ∨ sp.length = 8 := by omega
  rcases h with h | h | h | h | h | h | h | h | h <;> rw [h] <;> decide
/-- All the orders of a history from a state. -/
def ordsO (t : Int) (s : SD) (hs : List EvD) (sp : List Sp) : List (List Nat × SD) := allO t hs sp (sp.length + 1) [] s
end Go.Proofs.YtcphajjonecmbaaDoor

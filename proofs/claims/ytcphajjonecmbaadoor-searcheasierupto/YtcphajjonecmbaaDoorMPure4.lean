
/- Layer 6: an operation on a list, a run of them, the list of pairs in any order: as functions, and P6.3's laws of them. -/

import Derived.Test.YtcphajjonecmbaaDoorMPure3

namespace Go.Proofs.YtcphajjonecmbaaDoor

open Go.RowKit

structure OpD where
  kind : Int
  key : Int
  val : Int
  hi : Int
structure RetD where
  ok : Bool
  key : Int
  val : Int
  pairs : PL
def RetD.zero : RetD := ⟨false, 0, 0, []⟩
/-- The answer that tells a pair, or nothing. -/
def tellR : Option (Int × Int) → RetD
  | none => RetD.zero
  | some p => ⟨true, p.1, p.2, []⟩
/-- The map behind an operation. -/
def stepL (ps : PL) (o : OpD) : PL :=
  if o.kind = 2 ∨ o.kind = 3 ∧ getK o.key ps = none then putL o.key o.val ps else if o.kind = 4 then delL o.key ps else ps
/-- What it answers. -/
def stepR (ps : PL) (o : OpD) : RetD :=
  if o.kind = 1 ∨ o.kind = 2 ∨ o.kind = 4 then ⟨(getK o.key ps).isSome, 0, (getK o.key ps).getD 0, []⟩
  else if o.kind = 3 then ⟨(getK o.key ps).isNone, 0, (getK o.key ps).getD 0, []⟩
  else if o.kind = 9 then ⟨true, 0, 0, inL o.key o.hi ps⟩
  else tellR (nbN ps o.kind o.key ps.length)
def runL (ps : PL) : List OpD → PL
  | [] => ps
  | o :: t => runL (stepL ps o) t
def runR (ps : PL) : List OpD → List RetD
  | [] => []
  | o :: t => stepR ps o :: runR (stepL ps o) t
theorem runL_append (b : List OpD) : ∀ (a : List OpD) (ps : PL), runL ps (a ++ b) = runL (runL ps a) b
  | [], _ => rfl
  | o :: t, ps => runL_append b t (stepL ps o)
theorem runR_append (b : List OpD) : ∀ (a : List OpD) (ps : PL), runR ps (a ++ b) = runR ps a ++ runR (runL ps a) b
  | [], _ => rfl
  | o :: t, ps => by
    show stepR ps o :: runR (stepL ps o) (t ++ b) = _
    rw [runR_append b t (stepL ps o)]
    rfl
theorem runR_length : ∀ (a : List OpD) (ps : PL), (runR ps a).length = a.length
  | [], _ => rfl
  | o :: t, ps => by simp [runR, runR_length t]
theorem runL_next (ps : PL) (a : List OpD) (o : OpD) : runL ps (a ++ [o]) = stepL (runL ps a) o := runL_append [o] a ps
theorem runR_next (ps : PL) (a : List OpD) (o : OpD) : runR ps (a ++ [o]) = runR ps a ++ [stepR (runL ps a) o] := runR_append [o] a ps
theorem putL_length (key val : Int) : ∀ ps : PL, (putL key val ps).length ≤ ps.length + 1
  | [] => by simp [putL]
  | p :: t => by
    have := putL_length key val t
    simp only [putL]
    split
    · simp; omega
    · split <;> simp
theorem stepL_length (ps : PL) (o : OpD) : (stepL ps o).length ≤ ps.length + 1 := by
  unfold stepL
  split
  · exact putL_length _ _ _
  · split
    · have : (delL o.key ps).length ≤ ps.length := List.length_filter_le _ _
      omega
    · omega
theorem runL_length : ∀ (a : List OpD) (ps : PL), (runL ps a).length ≤ ps.length + a.length
  | [], _ => Nat.le_refl _
  | o :: t, ps => by
    have h1 := runL_length t (stepL ps o)
    have h2 := stepL_length ps o
    show (runL (stepL ps o) t).length ≤ _
    simp; omega
theorem stepL_srt {ps : PL} (h : Srt ps) (o : OpD) : Srt (stepL ps o) := by
  unfold stepL
  split
  · exact putL_srt _ _ h
  · split
    · exact delL_srt _ h
    · exact h
theorem runL_srt : ∀ (a : List OpD) {ps : PL}, Srt ps → Srt (runL ps a)
  | [], _, h => h
  | o :: t, _, h => runL_srt t (stepL_srt h o)
theorem stepL_same {ps : PL} {o : OpD} (h : ¬ (2 ≤ o.kind ∧ o.kind ≤ 4)) : stepL ps o = ps := by
  unfold stepL
  rw [if_neg (by omega), if_neg (by omega)]

/-- Of: of one key the last pair counts. -/
def ofN (ps : PL) : Nat → PL
  | 0 => []
  | j + 1 => putL (keyAt ps j) (valAt ps j) (ofN ps j)
def ofL (ps : PL) : PL := ofN ps ps.length
theorem ofN_srt (ps : PL) : ∀ j, Srt (ofN ps j)
  | 0 => List.Pairwise.nil
  | j + 1 => putL_srt _ _ (ofN_srt ps j)
theorem ofN_length (ps : PL) : ∀ j, (ofN ps j).length ≤ j
  | 0 => Nat.le_refl _
  | j + 1 => by
    have h1 := ofN_length ps j
    have h2 := putL_length (keyAt ps j) (valAt ps j) (ofN ps j)
    show (putL _ _ _).length ≤ _
    omega
theorem ofN_mem (ps : PL) (x : Int × Int) : ∀ j, j ≤ ps.length → x ∈ ofN ps j → x ∈ ps
  | 0, _, h => by simp [ofN] at h
  | j + 1, hj, h => by
    rcases mem_putL h with rfl | h
    · exact List.mem_of_getElem? (pair_eta ps j (by omega))
    · exact ofN_mem ps x j (by omega) h
theorem ofL_srt (ps : PL) : Srt (ofL ps) := ofN_srt ps _
theorem ckErr_of (ps : PL) : ckErr (ofL ps) = 0 := ckErr_zero.2 (ofL_srt ps)

/- P6.3's laws -/

theorem law_put_get (ps : PL) (key val : Int) : stepR (putL key val ps) ⟨1, key, 0, 0⟩ = ⟨true, 0, val, []⟩ := by
  simp [stepR, getK_put]
theorem law_put_was (ps : PL) (key val : Int) : stepR ps ⟨2, key, val, 0⟩ = stepR ps ⟨1, key, 0, 0⟩ := by simp [stepR]
theorem law_del_get (ps : PL) (key : Int) : stepR (delL key ps) ⟨1, key, 0, 0⟩ = RetD.zero := by
  simp [stepR, getK_del, RetD.zero]
theorem law_min (ps : PL) (key : Int) : nbN ps 7 key ps.length = ps[0]? := by
  rw [nbN_min ps key _ (Nat.le_refl _), List.take_length, List.head?_eq_getElem?]
theorem law_max (ps : PL) (key : Int) : nbN ps 8 key ps.length = ps[ps.length - 1]? := by
  rw [nbN_max ps key _ (Nat.le_refl _), List.take_length, List.getLast?_eq_getElem?]
/-- The successor is the first of the range above. -/
theorem law_next (ps : PL) (key most : Int) (h : ∀ x ∈ ps, x.1 ≤ most) : nbN ps 5 key ps.length = (inL (key + 1) most ps)[0]? := by
  rw [nbN_next ps key _ (Nat.le_refl _), List.take_length, List.head?_eq_getElem?]
  unfold inL
  congr 1
  apply List.filter_congr
  intro x hx
  have := h x hx
  by_cases q : key < x.1
  · simp [q, this]; omega
  · simp [q]; omega
/-- The predecessor is the last of the range below. -/
theorem law_back (ps : PL) (key least : Int) (h : ∀ x ∈ ps, least ≤ x.1) : nbN ps 6 key ps.length = (inL least (key - 1) ps)[(inL least (key - 1) ps).length - 1]? := by
  rw [nbN_back ps key _ (Nat.le_refl _), List.take_length, ← List.getLast?_eq_getElem?]
  unfold inL
  congr 1
  apply List.filter_congr
  intro x hx
  have := h x hx
  by_cases q : x.1 < key
  · simp [q, this]; omega
  · simp [q]; omega
theorem law_next_none (ps : PL) (key : Int) (h : ∀ x ∈ ps, x.1 ≤ key) : nbN ps 5 key ps.length = none := by
  rw [nbN_next ps key _ (Nat.le_refl _), List.take_length, List.filter_eq_nil_iff.2, List.head?_nil]
  intro x hx
  have := h x hx
  simp; omega
theorem law_back_none (ps : PL) (key : Int) (h : ∀ x ∈ ps, key ≤ x.1) : nbN ps 6 key ps.length = none := by
  rw [nbN_back ps key _ (Nat.le_refl _), List.take_length, List.filter_eq_nil_iff.2, List.getLast?_nil]
  intro x hx
  have := h x hx
  simp; omega

/-- Differ: the keys of both that aren't in both with one value. -/
def differN (a b both : PL) : Nat → List Int
  | 0 => []
  | j + 1 => if (getK (keyAt both j) a).isSome = (getK (keyAt both j) b).isSome ∧ (getK (keyAt both j) a).getD 0 = (getK (keyAt both j) b).getD 0 then differN a b both j else differN a b both j ++ [keyAt both j]
def differL (a b : PL) : List Int := differN a b (ofL (a ++ b)) (ofL (a ++ b)).length
theorem differN_filter (a b both : PL) : ∀ j, j ≤ both.length → differN a b both j = ((both.take j).map (·.1)).filter fun k => decide (getK k a ≠ getK k b)
  | 0, _ => rfl
  | j + 1, h => by
    rw [take_next both (by omega), List.map_append, List.filter_append, ← differN_filter a b both j (by omega)]
    simp only [differN, List.map_cons, List.map_nil, List.filter_cons, List.filter_nil]
    cases h1 : getK (keyAt both j) a <;> cases h2 : getK (keyAt both j) b <;> simp
    split <;> simp_all
end Go.Proofs.YtcphajjonecmbaaDoor


/- Layer 5: operations told with their places, in memory. No walk. -/

import Derived.Test.YtcphajjonecmbaaDoorERef3

namespace Go.Proofs.YtcphajjonecmbaaDoor

open Go.RowKit

theorem stN_prefix {hs : List EvD} {n : Nat} {s : St} (h : stN hs n = some s) : ∀ j, j ≤ n → ∃ s', stN hs j = some s' := by
  intro j hj
  cases e : stN hs j with
  | some s' => exact ⟨s', rfl⟩
  | none =>
    have := stN_none e (n - j)
    rw [show j + (n - j) = n by omega, h] at this
    cases this
theorem stepS_cases {hs : List EvD} {s s' : St} {j : Nat} (h : stepS hs s j = some s') : ∃ t : Nat, (evAt hs j).th = t ∧ t < 64 ∧
    (((evAt hs j).ret = false ∧ s.beg t = 0 ∧ isInv (evAt hs j) = true ∧ s' = ⟨s.spans ++ [(j, -1)], upd s.beg t (s.spans.length + 1)⟩) ∨
     ((evAt hs j).ret = true ∧ 0 < s.beg t ∧ opEq (evAt hs (spAt s.spans (s.beg t - 1)).1).op (evAt hs j).op = true ∧ s' = ⟨s.spans.set (s.beg t - 1) ((spAt s.spans (s.beg t - 1)).1, (j : Int)), upd s.beg t 0⟩)) := by
  unfold stepS at h
  split at h
  · rename_i ht
    refine ⟨(evAt hs j).th.toNat, by omega, by omega, ?_⟩
    split at h
    · rename_i hr
      split at h
      · rename_i hb
        right
        refine ⟨hr, hb.1, hb.2, ?_⟩
        exact (Option.some.inj h).symm
      · cases h
    · rename_i hr
      split at h
      · rename_i hb
        left
        refine ⟨by simpa using hr, hb.1, hb.2, ?_⟩
        exact (Option.some.inj h).symm
      · cases h
  · cases h
theorem stN_succ {hs : List EvD} {j n : Nat} {s sn : St} (h : stN hs j = some s) (hn : stN hs n = some sn) (hj : j < n) : ∃ s', stN hs (j + 1) = some s' ∧ stepS hs s j = some s' := by
  obtain ⟨s', h'⟩ := stN_prefix hn (j + 1) (by omega)
  refine ⟨s', h', ?_⟩
  have h2 : (stN hs j).bind (fun s => stepS hs s j) = some s' := h'
  rw [h] at h2
  exact h2

/-- An answer of an operation, by its span. -/
def retOf (hs : List EvD) (p : Sp) : RetD := if p.2 = -1 then RetD.zero else (evAt hs p.2.toNat).rt
/-- The cells of an operation, v its list of pairs. -/
def callC (hs : List EvD) (p : Sp) (v : Value) : List Value :=
  [.int .i64 (evAt hs p.1).th, .int .i64 (evAt hs p.1).op.kind, .int .i64 (evAt hs p.1).op.key, .int .i64 (evAt hs p.1).op.val, .int .i64 (evAt hs p.1).op.hi, .bool (retOf hs p).ok, .int .i64 (retOf hs p).key, .int .i64 (retOf hs p).val, v, .int .i64 p.1, .int .i64 p.2]
def callsC (hs : List EvD) : List (Sp × Value) → List Value
  | [] => []
  | x :: t => callC hs x.1 x.2 ++ callsC hs t
theorem callsC_append (hs : List EvD) (b : List (Sp × Value)) : ∀ a, callsC hs (a ++ b) = callsC hs a ++ callsC hs b
  | [] => rfl
  | x :: t => by simp [callsC, callsC_append hs b t]
theorem callC_length (hs : List EvD) (p : Sp) (v : Value) : (callC hs p v).length = 11 := rfl
theorem callsC_length (hs : List EvD) : ∀ a, (callsC hs a).length = a.length * 11
  | [] => rfl
  | x :: t => by simp only [callsC, List.length_append, callC_length, callsC_length hs t, List.length_cons]; omega
theorem callsC_get (hs : List EvD) : ∀ (a : List (Sp × Value)) (k i : Nat) (x : Sp × Value), a[k]? = some x → i < 11 → (callsC hs a)[k * 11 + i]? = (callC hs x.1 x.2)[i]?
  | [], k, i, x, h, _ => by simp at h
  | y :: t, 0, i, x, h, hi => by
    simp only [List.getElem?_cons_zero, Option.some.injEq] at h
    subst h
    simp only [callsC, Nat.zero_mul, Nat.zero_add]
    rw [List.getElem?_append_left (by rw [callC_length]; exact hi)]
  | y :: t, k + 1, i, x, h, hi => by
    have ih := callsC_get hs t k i x (by simpa using h) hi
    simp only [callsC]
    rw [List.getElem?_append_right (by rw [callC_length]; omega), callC_length, show (k + 1) * 11 + i - 11 = k * 11 + i by omega]
    exact ih
/-- An operation that returns: five of its cells are written. -/
theorem callsC_set (hs : List EvD) (j : Nat) (v : Value) (hj : (j : Int) ≠ -1) : ∀ (a : List (Sp × Value)) (k : Nat) (x : Sp × Value), a[k]? = some x →
    callsC hs (a.set k ((x.1.1, (j : Int)), v)) = (((((callsC hs a).set (k * 11 + 10) (.int .i64 j)).set (k * 11 + 5) (.bool (evAt hs j).rt.ok)).set (k * 11 + 6) (.int .i64 (evAt hs j).rt.key)).set (k * 11 + 7) (.int .i64 (evAt hs j).rt.val)).set (k * 11 + 8) v
  | [], k, x, h => by simp at h
  | y :: t, 0, x, h => by
    simp only [List.getElem?_cons_zero, Option.some.injEq] at h
    subst h
    have e : retOf hs (y.1.1, (j : Int)) = (evAt hs j).rt := by unfold retOf; rw [if_neg hj]; rfl
    simp [callsC, callC, e]
  | y :: t, k + 1, x, h => by
    have ih := callsC_set hs j v hj t k x (by simpa using h)
    simp only [List.set_cons_succ, callsC]
    rw [ih]
    have g : ∀ (l : List Value) (i : Nat) (u : Value), (callC hs y.1 y.2 ++ l).set ((k + 1) * 11 + i) u = callC hs y.1 y.2 ++ l.set (k * 11 + i) u := by
      intro l i u
      rw [List.set_append_right _ _ (by rw [callC_length]; omega), callC_length, show (k + 1) * 11 + i - 11 = k * 11 + i by omega]
    rw [g, g, g, g, g]
/-- A list of pairs of its own, not in the block 'row'. -/
def RetAt (w : World) (B : Nat) (row : Option Nat) (ps : PL) (v : Value) : Prop :=
  ∃ g cap, v = .slice (some ⟨g, 0, none⟩) ps.length cap ∧ B ≤ g ∧ g < w.heap.size ∧ row ≠ some g ∧ PairsAt w (some ⟨g, 0, none⟩) g 0 ps
/-- The lists of pairs of operations. -/
def RetsAt (hs : List EvD) (w : World) (B : Nat) (row : Option Nat) (l : List (Sp × Value)) : Prop :=
  ∀ x ∈ l, (x.1.2 = -1 → x.2 = .slice none 0 0) ∧ (x.1.2 ≠ -1 → RetAt w B row (retOf hs x.1).pairs x.2)
theorem RetAt.below {w w' : World} {B : Nat} {row : Option Nat} {ps : PL} {v : Value} (h : RetAt w B row ps v) (hb : Below w.heap.size w w') : RetAt w' B row ps v := by
  obtain ⟨g, cap, e, h1, h2, h3, h4⟩ := h
  exact ⟨g, cap, e, h1, Nat.lt_of_lt_of_le h2 hb.size, h3, h4.below hb⟩
theorem RetsAt.below {hs : List EvD} {w w' : World} {B : Nat} {row : Option Nat} {l : List (Sp × Value)} (h : RetsAt hs w B row l) (hb : Below w.heap.size w w') : RetsAt hs w' B row l :=
  fun x hx => ⟨(h x hx).1, fun hn => ((h x hx).2 hn).below hb⟩
theorem PairsAt.apart' {w : World} {base : Option Addr} {b o : Nat} {ps : PL} (h : PairsAt w base b o ps) {g j : Nat} {v : Value} (hg : g ≠ b) : PairsAt (w.setCell ⟨g, j, none⟩ v) base b o ps := by
  refine ⟨h.base, fun hn => by simpa using h.lt hn, fun i hi => ?_, h.len, fun i hi => by simpa using h.thaw i hi⟩
  exact ⟨by rw [World.cell?_setCell_other _ _ _ _ (fun q => hg (congrArg Addr.block q))]; exact (h.cells i hi).1, by rw [World.cell?_setCell_other _ _ _ _ (fun q => hg (congrArg Addr.block q))]; exact (h.cells i hi).2⟩
theorem RetAt.set {w : World} {B : Nat} {row : Option Nat} {ps : PL} {v : Value} (h : RetAt w B row ps v) {g j : Nat} {u : Value} (hg : g < B ∨ row = some g) : RetAt (w.setCell ⟨g, j, none⟩ u) B row ps v := by
  obtain ⟨g', cap, e, h1, h2, h3, h4⟩ := h
  refine ⟨g', cap, e, h1, by simpa using h2, h3, h4.apart' ?_⟩
  rcases hg with hg | hg
  · omega
  · intro q; exact h3 (by rw [hg, q])
theorem RetsAt.set {hs : List EvD} {w : World} {B : Nat} {row : Option Nat} {l : List (Sp × Value)} (h : RetsAt hs w B row l) {g j : Nat} {u : Value} (hg : g < B ∨ row = some g) : RetsAt hs (w.setCell ⟨g, j, none⟩ u) B row l :=
  fun x hx => ⟨(h x hx).1, fun hn => ((h x hx).2 hn).set hg⟩
/-- An append: the row may have moved. -/
theorem RetsAt.grown {hs : List EvD} {w w1 : World} {B : Nat} {row row' : Option Nat} {l : List (Sp × Value)} (h : RetsAt hs w B row l) (hg : w.grownBy w1 row) (hr : ∀ g, row' = some g → row = some g ∨ w.heap.size ≤ g) : RetsAt hs w1 B row' l := by
  intro x hx
  refine ⟨(h x hx).1, fun hn => ?_⟩
  obtain ⟨g, cap, e, h1, h2, h3, h4⟩ := (h x hx).2 hn
  refine ⟨g, cap, e, h1, Nat.lt_of_lt_of_le h2 hg.size, fun q => ?_, ?_⟩
  · rcases hr g q with r | r
    · exact h3 r
    · omega
  · refine ⟨h4.base, fun hn => Nat.lt_of_lt_of_le (h4.lt hn) hg.size, fun i hi => ?_, h4.len, fun i hi => (hg.frozen_far ⟨g, _, none⟩ h2 (fun q => h3 q.symm)).trans (h4.thaw i hi)⟩
    exact ⟨(hg.cell_far ⟨g, _, none⟩ h2 (fun q => h3 q.symm)).trans (h4.cells i hi).1, (hg.cell_far ⟨g, _, none⟩ h2 (fun q => h3 q.symm)).trans (h4.cells i hi).2⟩
theorem rc_info : (Tryd.prog.info? 187).map (fun i => (i.zero, i.size, i.bytes)) = some (some (.agg #[.int .i64 0, .int .i64 0, .int .i64 0, .int .i64 0, .int .i64 0, .bool false, .int .i64 0, .int .i64 0, .slice none 0 0, .int .i64 0, .int .i64 0]), 11, 104) := by kernel_rfl
theorem rcs_under : Tryd.prog.underlying 120 = some (.slice 187) := by kernel_rfl
end Go.Proofs.YtcphajjonecmbaaDoor

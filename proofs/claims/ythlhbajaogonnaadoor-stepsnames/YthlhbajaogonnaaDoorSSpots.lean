
/- Layer 18: Spots of the program. -/

import Derived.Test.YthlhbajaogonnaaDoorSOut

namespace Go.Proofs.YthlhbajaogonnaaDoor

open Go.RowKit

attribute [local go_sem ↓] Go.wp_at_zero Go.wp_at_succ

/-- The places and the moves of the first places. -/
noncomputable def spP (t : NL) : Nat → List Nat
  | 0 => []
  | j + 1 => if ofK t (j : Int) then spP t j ++ List.replicate (mvsA t (j : Int)).length j else spP t j
noncomputable def spV (t : NL) : Nat → List MvD
  | 0 => []
  | j + 1 => if ofK t (j : Int) then spV t j ++ mvsA t (j : Int) else spV t j
theorem mvsA_len (t : NL) (p : Int) : (mvsA t p).length ≤ 21 := by
  have e : (allK 12).length = 21 := by decide
  unfold mvsA mvsB
  exact Nat.le_trans (List.length_filter_le _ _) (by omega)
theorem spP_len (t : NL) : ∀ j, (spP t j).length ≤ 21 * j ∧ (spV t j).length ≤ 21 * j
  | 0 => by simp [spP, spV]
  | j + 1 => by
    have h := spP_len t j
    have e := mvsA_len t (j : Int)
    cases h3 : ofK t (j : Int) <;> simp [spP, spV, h3] <;> omega
/-- Two rows that are ours, and a third that is read. -/
structure InR (w x : World) (u v : Value) (P : List Nat) (V : List MvD) (n ga : Nat) (cur : Array Value) : Prop where
  own1 : x.ownsRow w.heap.size 3 1 u P.length (natC P)
  own2 : x.ownsRow w.heap.size 32 2 v V.length (mvC V)
  below : Below w.heap.size w x
  far : 0 < n → x.heap[ga]? = some (.cells cur 32 (0, 0)) ∧ v.ownBlock ≠ some ga
theorem int_ne {x : World} {B n g : Nat} {u : Value} {xs : List Value} {cur : Array Value} (h : x.ownsRow B 3 1 u n xs) (hg : x.heap[g]? = some (.cells cur 32 (0, 0))) : u.ownBlock ≠ some g := by
  rcases h.2 with ⟨rfl, _⟩ | ⟨g', cap, cur', rfl, _, hgb, _⟩
  · simp [Value.ownBlock]
  · intro e
    have : g' = g := by simpa [Value.ownBlock] using e
    subst this
    rw [hgb] at hg
    simp at hg
theorem rows_ne {x : World} {B n m : Nat} {u v : Value} {xs ys : List Value} (h : x.ownsRow B 3 1 u n xs) (h2 : x.ownsRow B 32 2 v m ys) : v.ownBlock = none ∨ v.ownBlock ≠ u.ownBlock := by
  rcases h2.2 with ⟨rfl, _⟩ | ⟨g', cap, cur', rfl, _, hgb, _⟩
  · exact Or.inl rfl
  · exact Or.inr fun e => int_ne h hgb e.symm
theorem rows_ne' {x : World} {B n m : Nat} {u v : Value} {xs ys : List Value} (h : x.ownsRow B 3 1 u n xs) (h2 : x.ownsRow B 32 2 v m ys) : u.ownBlock = none ∨ u.ownBlock ≠ v.ownBlock := by
  rcases rows_ne h h2 with e | e
  · by_cases q : u.ownBlock = none
    · exact Or.inl q
    · exact Or.inr (by rw [e]; exact q)
  · exact Or.inr (Ne.symm e)
theorem InR.quiet {w x y : World} {u v : Value} {P : List Nat} {V : List MvD} {n ga : Nat} {cur : Array Value} (h : InR w x u v P V n ga cur) (hb : Below x.heap.size x y) : InR w y u v P V n ga cur :=
  ⟨owns_below h.own1 hb, owns_below h.own2 hb, h.below.trans (hb.mono h.below.size), fun hn => ⟨(hb.block ga (Array.getElem?_eq_some_iff.1 (h.far hn).1).1).trans (h.far hn).1, (h.far hn).2⟩⟩
theorem InR.push1 {w x y : World} {u u' v : Value} {P : List Nat} {V : List MvD} {n ga q : Nat} {cur : Array Value} {o : Obj} (h : InR w x u v P V n ga cur) (hg : (x.alloc o).grownBy y u.ownBlock) (ho : y.ownsRow w.heap.size 3 1 u' (P.length + 1) (natC P ++ [.int .i64 (q : Int)])) : InR w y u' v (P ++ [q]) V n ga cur := by
  have k := h.quiet (below_alloc x o)
  refine ⟨by rw [List.length_append, natC_snoc]; exact ho, k.own2.kept hg (rows_ne k.own1 k.own2), Below.grown k.below hg k.below.size (fun b hb => (owns_lt k.own1 b hb).1), fun hn => ⟨?_, (h.far hn).2⟩⟩
  exact (hg.block ga (Array.getElem?_eq_some_iff.1 (k.far hn).1).1 (fun e => int_ne k.own1 (k.far hn).1 e.symm)).trans (k.far hn).1
theorem InR.push2 {w x y : World} {u v : Value} {P : List Nat} {V : List MvD} {n ga g m c H : Nat} {cur : Array Value} {q : MvD} {o : Obj} (h : InR w x u v P V n ga cur) (hg : (x.alloc o).grownBy y v.ownBlock) (hat : v.ownBlock = some g ∨ g = H) (hH : x.heap.size ≤ H) (ho : y.ownsRow w.heap.size 32 2 (.slice (some ⟨g, 0, none⟩) m c) (V.length + 1) (mvC V ++ [.int .i64 q.1, .bool q.2])) : InR w y u (.slice (some ⟨g, 0, none⟩) m c) P (V ++ [q]) n ga cur := by
  have k := h.quiet (below_alloc x o)
  refine ⟨k.own1.kept hg (rows_ne' k.own1 k.own2), by rw [List.length_append, mvC_append]; exact ho, Below.grown k.below hg k.below.size (fun b hb => (owns_lt k.own2 b hb).1), fun hn => ⟨?_, ?_⟩⟩
  · exact (hg.block ga (Array.getElem?_eq_some_iff.1 (k.far hn).1).1 (fun e => (h.far hn).2 e.symm)).trans (k.far hn).1
  · intro e
    have e' : g = ga := by simpa [Value.ownBlock] using e
    subst e'
    rcases hat with q | q
    · exact (h.far hn).2 q
    · have := (Array.getElem?_eq_some_iff.1 (h.far hn).1).1
      omega
theorem InR.box {w x y : World} {u v : Value} {P : List Nat} {V : List MvD} {n ga g : Nat} {cur : Array Value} {o o' : Obj} (h : InR w x u v P V n ga cur) (hg : ((x.alloc o).alloc o').grownBy y u.ownBlock) (e : g = x.heap.size) : y.heap[g]? = (x.alloc o).heap[g]? := by
  subst e
  refine (hg.block _ (by simp; omega) (fun q => ?_)).trans (heap_alloc_old _ _ (by simp))
  have := (owns_lt h.own1 _ q.symm).2
  omega
structure SpotR (w x : World) (u v : Value) (P : List Nat) (V : List MvD) : Prop where
  own1 : x.ownsRow w.heap.size 3 1 u P.length (natC P)
  own2 : x.ownsRow w.heap.size 32 2 v V.length (mvC V)
  below : Below w.heap.size w x
theorem SpotR.quiet {w x y : World} {u v : Value} {P : List Nat} {V : List MvD} (h : SpotR w x u v P V) (hb : Below x.heap.size x y) : SpotR w y u v P V :=
  ⟨owns_below h.own1 hb, owns_below h.own2 hb, h.below.trans (hb.mono h.below.size)⟩
theorem SpotR.nil {w x : World} (h : Below w.heap.size w x) : SpotR w x (.slice none 0 0) (.slice none 0 0) [] [] := ⟨World.ownsRow_nil _ _ _ _, World.ownsRow_nil _ _ _ _, h⟩
/-- The row that movesAt hands over, to be read beside the two. -/
theorem SpotR.into {w x y : World} {u v r : Value} {P : List Nat} {V A : List MvD} (h : SpotR w x u v P V) (hr : MvRow x y r A) : ∃ (a : Option Addr) (c ga : Nat) (cur : Array Value), r = .slice a A.length c ∧ InR w y u v P V A.length ga cur ∧ (0 < A.length → a = some ⟨ga, 0, none⟩) ∧ (∀ j, j < A.length → cur[j * 2]? = some (.int .i64 (A.getD j mv0).1) ∧ cur[j * 2 + 1]? = some (.bool (A.getD j mv0).2)) := by
  have k := h.quiet hr.below
  rcases hr.own.2 with ⟨rfl, e0⟩ | ⟨g, cap, cur, rfl, hB, hgb, h1, h2, h3, h4⟩
  · refine ⟨none, 0, 0, #[], by rw [e0], ⟨k.own1, k.own2, k.below, fun hn => by omega⟩, fun hn => by omega, fun j hj => by omega⟩
  · refine ⟨some ⟨g, 0, none⟩, cap, g, cur, rfl, ⟨k.own1, k.own2, k.below, fun _ => ⟨hgb, fun e => ?_⟩⟩, fun _ => rfl, fun j hj => ?_⟩
    · have := (owns_lt h.own2 _ e).2
      omega
    · have q := mvC_get A j hj
      rw [← h4] at q
      rw [List.getElem?_take, if_pos (by omega), List.getElem?_take, if_pos (by omega)] at q
      simpa using q
theorem InR.out {w x : World} {u v : Value} {P : List Nat} {V : List MvD} {n ga : Nat} {cur : Array Value} (h : InR w x u v P V n ga cur) : SpotR w x u v P V := ⟨h.own1, h.own2, h.below⟩
theorem takeMv_snoc (A : List MvD) (j : Nat) (h : j < A.length) : A.take (j + 1) = A.take j ++ [A.getD j mv0] := by
  rw [List.take_succ_eq_append_getElem h]
  simp [List.getD_eq_getElem?_getD, List.getElem?_eq_getElem h]
end Go.Proofs.YthlhbajaogonnaaDoor

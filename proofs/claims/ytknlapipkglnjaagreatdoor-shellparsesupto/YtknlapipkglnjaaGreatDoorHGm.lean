
/- Layer 28: a game that is being read, in memory of one's own. -/

import Derived.Test.YtknlapipkglnjaaGreatDoorHGd

import Derived.Test.YtknlapipkglnjaaGreatDoorHRg

namespace Go.Proofs.YtknlapipkglnjaaGreatDoor

open Go.RowKit

def inC (l : List Int) : List Value := l.map fun x => .int .i64 x
def opsC (l : List OpD) : List Value := l.flatMap fun o => [.int .i64 o.kind, .int .i64 o.key, .int .i64 o.val, .int .i64 o.hi]
theorem opsC_snoc (l : List OpD) (o : OpD) : opsC (l ++ [o]) = opsC l ++ [.int .i64 o.kind, .int .i64 o.key, .int .i64 o.val, .int .i64 o.hi] := by simp [opsC]
theorem pairC_snoc (l : PL) (k v : Int) : pairCells (l ++ [(k, v)]) = pairCells l ++ [.int .i64 k, .int .i64 v] := by rw [pairCells_append]; rfl
theorem rowApart {w : World} {B B' sz sz' n n' : Nat} {e e' : TypeId} {v v' : Value} {xs xs' : List Value} (h : w.ownsRow B e sz v n xs) (h' : w.ownsRow B' e' sz' v' n' xs') (he : e ≠ e') : v.ownBlock = none ∨ v.ownBlock ≠ v'.ownBlock := by
  rcases h.2 with ⟨rfl, -⟩ | ⟨g, cap, cur, rfl, -, hg, -⟩
  · exact Or.inl rfl
  · refine Or.inr fun q => ?_
    rcases h'.2 with ⟨rfl, -⟩ | ⟨g', cap', cur', rfl, -, hg', -⟩
    · cases q
    · obtain rfl : g = g' := by simpa [Value.ownBlock] using q
      rw [hg] at hg'
      injection hg' with hg'
      injection hg' with _ q2 _
      exact he q2
theorem ownElse {w : World} {B sz : Nat} {e : TypeId} {v : Value} {n : Nat} {xs : List Value} (h : w.ownsRow B e sz v n xs) (b j : Nat) (u : Value) (hb : v.ownBlock ≠ some b) : (w.setCell ⟨b, j, none⟩ u).ownsRow B e sz v n xs := by
  refine ⟨h.1, ?_⟩
  rcases h.2 with ⟨rfl, h0⟩ | ⟨g, cap, cur, rfl, hbg, hg, h1, h2, h3, h4⟩
  · exact Or.inl ⟨rfl, h0⟩
  · refine Or.inr ⟨g, cap, cur, rfl, hbg, ?_, h1, h2, h3, h4⟩
    rw [Below.heap_setCell _ _ _ _ (fun q => hb (by simp [Value.ownBlock, q]))]
    exact hg
/-- A game in rows of B and above: the pairs, the scripts (each in a block of its own), the picks. -/
structure GAt (B : Nat) (z : World) (vS vC vP : Value) (vs : Nat → Value) (g : GD) : Prop where
  st : z.ownsRow B 49 2 vS g.start.length (pairCells g.start)
  pk : z.ownsRow B 3 1 vP g.picks.length (inC g.picks)
  top : z.ownsRow B 37 1 vC g.scripts.length ((List.range g.scripts.length).map vs)
  row : ∀ i, i < g.scripts.length → z.ownsRow B 39 4 (vs i) (g.scripts.getD i []).length (opsC (g.scripts.getD i []))
  sep : ∀ i j, i < g.scripts.length → j < g.scripts.length → i ≠ j → ∀ b, (vs i).ownBlock = some b → (vs j).ownBlock ≠ some b
theorem GAt.quiet {B : Nat} {z y : World} {vS vC vP : Value} {vs : Nat → Value} {g : GD} (h : GAt B z vS vC vP vs g) (hb : Below z.heap.size z y) : GAt B y vS vC vP vs g :=
  ⟨owns_below h.st hb, owns_below h.pk hb, owns_below h.top hb, fun i hi => owns_below (h.row i hi) hb, h.sep⟩
theorem GAt.low {B : Nat} {z : World} {vS vC vP : Value} {vs : Nat → Value} {g : GD} (h : GAt B z vS vC vP vs g) {b : Nat} (hb : b < B) (j : Nat) (u : Value) : GAt B (z.setCell ⟨b, j, none⟩ u) vS vC vP vs g :=
  ⟨owns_apart h.st b j u hb, owns_apart h.pk b j u hb, owns_apart h.top b j u hb, fun i hi => owns_apart (h.row i hi) b j u hb, h.sep⟩
theorem GAt.part {B : Nat} {z : World} {vS vC vP : Value} {vs : Nat → Value} {g : GD} (h : GAt B z vS vC vP vs g) (p : Nat) : GAt B z vS vC vP vs { g with part := p } := ⟨h.st, h.pk, h.top, h.row, h.sep⟩
theorem gat0 (B : Nat) (z : World) (vs : Nat → Value) : GAt B z (.slice none 0 0) (.slice none 0 0) (.slice none 0 0) vs gd0 :=
  ⟨World.ownsRow_nil _ _ _ _, World.ownsRow_nil _ _ _ _, World.ownsRow_nil _ _ _ _, fun i hi => by simp [gd0] at hi, fun i j hi => by simp [gd0] at hi⟩
theorem t_pi : (49 : TypeId) ≠ 3 := by decide
theorem t_pc : (49 : TypeId) ≠ 37 := by decide
theorem t_po : (49 : TypeId) ≠ 39 := by decide
theorem t_ic : (3 : TypeId) ≠ 37 := by decide
theorem t_io : (3 : TypeId) ≠ 39 := by decide
theorem t_co : (37 : TypeId) ≠ 39 := by decide
theorem GAt.pushS {B : Nat} {z x : World} {vS vC vP v' : Value} {vs : Nat → Value} {g : GD} (h : GAt B z vS vC vP vs g) (hg : z.grownBy x vS.ownBlock) (k v : Int) (ho : x.ownsRow B 49 2 v' (g.start.length + 1) (pairCells g.start ++ [.int .i64 k, .int .i64 v])) :
    GAt B x v' vC vP vs { g with start := g.start ++ [(k, v)] } :=
  ⟨by simpa [pairC_snoc] using ho, h.pk.kept hg (rowApart h.pk h.st (Ne.symm t_pi)), h.top.kept hg (rowApart h.top h.st (Ne.symm t_pc)), fun i hi => (h.row i hi).kept hg (rowApart (h.row i hi) h.st (Ne.symm t_po)), h.sep⟩
theorem GAt.pushP {B : Nat} {z x : World} {vS vC vP v' : Value} {vs : Nat → Value} {g : GD} (h : GAt B z vS vC vP vs g) (hg : z.grownBy x vP.ownBlock) (l : List Int) (p : Nat) (ho : x.ownsRow B 3 1 v' (g.picks.length + l.length) (inC g.picks ++ inC l)) :
    GAt B x vS vC v' vs { g with picks := g.picks ++ l, part := p } :=
  ⟨h.st.kept hg (rowApart h.st h.pk t_pi), by simpa [inC] using ho, h.top.kept hg (rowApart h.top h.pk (Ne.symm t_ic)), fun i hi => (h.row i hi).kept hg (rowApart (h.row i hi) h.pk (Ne.symm t_io)), h.sep⟩
theorem GAt.pushT {B : Nat} {z x : World} {vS vC vP v' : Value} {vs : Nat → Value} {g : GD} (h : GAt B z vS vC vP vs g) (hg : z.grownBy x vC.ownBlock) (p : Nat) (ho : x.ownsRow B 37 1 v' (g.scripts.length + 1) ((List.range g.scripts.length).map vs ++ [.slice none 0 0])) :
    GAt B x vS v' vP (fun i => if i < g.scripts.length then vs i else .slice none 0 0) { g with scripts := g.scripts ++ [([] : List OpD)], part := p } := by
  have e : (List.range (g.scripts.length + 1)).map (fun i => if i < g.scripts.length then vs i else Value.slice none 0 0) = (List.range g.scripts.length).map vs ++ [.slice none 0 0] := by
    rw [List.range_succ, List.map_append]
    congr 1
    · exact List.map_congr_left fun i hi => by rw [if_pos (List.mem_range.1 hi)]
    · simp
  refine ⟨h.st.kept hg (rowApart h.st h.top t_pc), h.pk.kept hg (rowApart h.pk h.top t_ic), ?_, fun i hi => ?_, fun i j hi hj hne b hb => ?_⟩
  · simp only [List.length_append, List.length_singleton]
    rw [e]
    exact ho
  · simp only [List.length_append, List.length_singleton] at hi
    by_cases q : i < g.scripts.length
    · rw [if_pos q]
      have e2 : (g.scripts ++ [([] : List OpD)]).getD i [] = g.scripts.getD i [] := by rw [List.getD_eq_getElem?_getD, List.getD_eq_getElem?_getD, List.getElem?_append_left q]
      show x.ownsRow B _ 4 (vs i) ((g.scripts ++ [([] : List OpD)]).getD i []).length _
      rw [e2]
      exact (h.row i q).kept hg (rowApart (h.row i q) h.top (Ne.symm t_co))
    · obtain rfl : i = g.scripts.length := by omega
      rw [if_neg q]
      have e2 : (g.scripts ++ [([] : List OpD)]).getD g.scripts.length [] = [] := by simp
      show x.ownsRow B _ 4 _ ((g.scripts ++ [([] : List OpD)]).getD g.scripts.length []).length _
      rw [e2]
      exact World.ownsRow_nil _ _ _ _
  · simp only [List.length_append, List.length_singleton] at hi hj
    by_cases q : i < g.scripts.length
    · rw [if_pos q] at hb
      by_cases q2 : j < g.scripts.length
      · rw [if_pos q2]
        exact h.sep i j q q2 hne b hb
      · rw [if_neg q2]
        simp [Value.ownBlock]
    · rw [if_neg q] at hb
      simp [Value.ownBlock] at hb
theorem adO_len {α : Type} (l : List (List α)) (x : List α) (h : l ≠ []) : (l.dropLast ++ [x]).length = l.length := by
  have := List.length_pos_iff.2 h
  simp
  omega
theorem adO_lt {α : Type} (l : List (List α)) (x : List α) {i : Nat} (h : i + 1 < l.length) : (l.dropLast ++ [x]).getD i [] = l.getD i [] := by
  rw [List.getD_eq_getElem?_getD, List.getD_eq_getElem?_getD, List.getElem?_append_left (by simp; omega), List.getElem?_dropLast, if_pos (by omega)]
theorem adO_eq {α : Type} (l : List (List α)) (x : List α) {i : Nat} (h : i + 1 = l.length) : (l.dropLast ++ [x]).getD i [] = x := by
  rw [List.getD_eq_getElem?_getD, List.getElem?_append_right (by simp; omega), show i - l.dropLast.length = 0 by simp; omega]
  rfl
theorem last_getD {α : Type} (l : List (List α)) {i : Nat} (h : i + 1 = l.length) : l.getLastD [] = l.getD i [] := by
  rw [List.getLastD_eq_getLast?, List.getLast?_eq_getElem?, List.getD_eq_getElem?_getD, show l.length - 1 = i by omega]
theorem GAt.pushO {B : Nat} {z x : World} {vS vP : Value} {vs : Nat → Value} {g : GD} {m c cap b' cap' : Nat} (h : GAt B z vS (.slice (some ⟨c, 0, none⟩) g.scripts.length cap) vP vs g) (hm : m + 1 = g.scripts.length) (hg : z.grownBy x (vs m).ownBlock) (o : OpD)
    (ho : x.ownsRow B 39 4 (.slice (some ⟨b', 0, none⟩) ((g.scripts.getD m []).length + 1) cap') ((g.scripts.getD m []).length + 1) (opsC (g.scripts.getD m []) ++ [.int .i64 o.kind, .int .i64 o.key, .int .i64 o.val, .int .i64 o.hi])) (hat : (vs m).ownBlock = some b' ∨ b' = z.heap.size) :
    GAt B (x.setCell ⟨c, m, none⟩ (.slice (some ⟨b', 0, none⟩) ((g.scripts.getD m []).length + 1) cap')) vS (.slice (some ⟨c, 0, none⟩) g.scripts.length cap) vP (fun i => if i = m then .slice (some ⟨b', 0, none⟩) ((g.scripts.getD m []).length + 1) cap' else vs i) (addO g o) := by
  have hne : g.scripts ≠ [] := by intro q; rw [q] at hm; simp at hm
  have hmr : m < g.scripts.length := by omega
  have top' := h.top.kept hg (rowApart h.top (h.row m hmr) t_co)
  have st' := h.st.kept hg (rowApart h.st (h.row m hmr) t_po)
  have pk' := h.pk.kept hg (rowApart h.pk (h.row m hmr) t_io)
  have row' : ∀ i, i < g.scripts.length → i ≠ m → x.ownsRow B 39 4 (vs i) (g.scripts.getD i []).length (opsC (g.scripts.getD i [])) := fun i hi hne => (h.row i hi).kept hg (by
    cases e : (vs i).ownBlock with
    | none => exact Or.inl rfl
    | some b => exact Or.inr fun q => h.sep i m hi hmr hne b e q.symm)
  have notc : ∀ {e : TypeId} {sz : Nat} {v : Value} {n : Nat} {xs : List Value}, x.ownsRow B e sz v n xs → e ≠ 37 → v.ownBlock ≠ some c := fun {e sz v n xs} hv he q => by
    rcases rowApart hv top' he with a | a
    · rw [a] at q; cases q
    · exact a q
  have hl : (addO g o).scripts.length = g.scripts.length := adO_len _ _ hne
  refine ⟨ownElse st' c m _ (notc st' t_pc), ownElse pk' c m _ (notc pk' t_ic), ?_, fun i hi => ?_, fun i j hi hj hij b hb => ?_⟩
  · have hp := owns_put top' m (.slice (some ⟨b', 0, none⟩) ((g.scripts.getD m []).length + 1) cap')
    rw [hl]
    have e : (List.range g.scripts.length).map (fun i => if i = m then Value.slice (some ⟨b', 0, none⟩) ((g.scripts.getD m []).length + 1) cap' else vs i) = ((List.range g.scripts.length).map vs).set m (.slice (some ⟨b', 0, none⟩) ((g.scripts.getD m []).length + 1) cap') := by
      apply List.ext_getElem (by simp)
      intro i h1 h2
      rw [List.getElem_set]
      simp only [List.getElem_map, List.getElem_range]
      by_cases q : i = m
      · rw [if_pos q, if_pos q.symm]
      · rw [if_neg q, if_neg (fun z => q z.symm)]
    rw [e]
    exact hp
  · rw [hl] at hi
    by_cases q : i = m
    · subst q
      rw [if_pos rfl]
      have e2 : (addO g o).scripts.getD i [] = g.scripts.getD i [] ++ [o] := by
        show (g.scripts.dropLast ++ [g.scripts.getLastD [] ++ [o]]).getD i [] = _
        rw [adO_eq _ _ hm, last_getD _ hm]
      rw [e2, opsC_snoc, List.length_append, List.length_singleton]
      exact ownElse ho c i _ (notc ho (Ne.symm t_co))
    · rw [if_neg q]
      have e2 : (addO g o).scripts.getD i [] = g.scripts.getD i [] := adO_lt _ _ (by omega)
      rw [e2]
      exact ownElse (row' i hi q) c m _ (notc (row' i hi q) (Ne.symm t_co))
  · rw [hl] at hi hj
    have far : ∀ k, k < g.scripts.length → k ≠ m → (vs k).ownBlock ≠ some b' := fun k hk hkm q => by
      rcases hat with a | a
      · exact h.sep k m hk hmr hkm b' q a
      · have := (owns_lt (h.row k hk) b' q).2
        omega
    by_cases q : i = m
    · rw [if_pos q] at hb
      rw [if_neg (by omega)]
      have : b' = b := by simpa [Value.ownBlock] using hb
      rw [← this]
      exact far j hj (by omega)
    · rw [if_neg q] at hb
      by_cases q2 : j = m
      · rw [if_pos q2]
        intro r
        have : b' = b := by simpa [Value.ownBlock] using r
        rw [← this] at hb
        exact far i hi q hb
      · rw [if_neg q2]
        exact h.sep i j hi hj hij b hb
end Go.Proofs.YtknlapipkglnjaaGreatDoor

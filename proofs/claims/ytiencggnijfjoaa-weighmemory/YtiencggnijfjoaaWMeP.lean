
/- Appends: in a region that draws its order, of a row that may be empty; and what an append leaves of the row that it was given. Layer 17: rows of rows of numbers, each in memory of its own. -/

import Derived.Test.YtiencggnijfjoaaWCopy

import Derived.Deep.RegionHeld3

import Derived.Test.YtiencggnijfjoaaWF4

import Derived.Test.YtiencggnijfjoaaWHvR

import Derived.Test.YtiencggnijfjoaaWBnd

namespace Go.Proofs.Ytiencggnijfjoaa

open Go.RowKit

theorem step_append_all {P : Program} {w : World} {ops : Array Oper} {o : Oper} {a : Act} {K : Act → World → Prop} {Q : Exit → Act → World → Prop} {E : Prop} (hgd : o.guard = none) (s x : Operand) (t : TypeId)
    (ho : o.op = .call { callee := .builtin .append, args := #[s, x], argTypes := #[t, t] })
    (base : Nat) (e : TypeId) (i : TypeInfo) (z : Value) (size bytes : Nat) (ht : P.underlying t = some (.slice e)) (hi : P.info? e = some i) (hz : i.zero = some z)
    (hsize : i.size = size) (hby : i.bytes = bytes) (hzs : z.cells.size = size) (hsz : 0 < size)
    (v : Value) (n : Nat) (xs : List Value) (hs : a.eval s = v) (hown : w.ownsRow base e size v n xs)
    (sd : Option Addr) (m c : Nat) (news : List Value) (hx : a.eval x = .slice sd m c) (hnone : sd = none → m = 0 ∧ c = 0) (hl : news.length = m * size) (hnews : ∀ ad, sd = some ad → ∀ j u, news[j]? = some u → w.cell? (ad.add j) = some u) (h1 : ∀ u ∈ news, u.oneCell' = true)
    (h63 : n + m ≤ maxLen) (hbytes : (n + m) * bytes ≤ 140737488355328) (hbase : base ≤ w.heap.size)
    (h : ∀ v' w', w'.ownsRow base e size v' (n + m) (xs ++ news) → w.grownBy w' v.ownBlock → (v' = .slice none 0 0 ↔ v = .slice none 0 0 ∧ m = 0) → K (a.put o.dst v') w') :
    if Region.wanted o (yielded ops a.tmps) = true then Oper.wp P o a w K Q else E := by
  have hw : Region.wanted o (yielded ops a.tmps) = true := by simp [Region.wanted, hgd]
  rw [if_pos hw]
  cases sd with
  | none =>
    obtain ⟨rfl, rfl⟩ := hnone rfl
    have hrun := run_append_owned_none (P := P) (w := w) base t o.type e i size ht hi v n xs hown
    obtain rfl : news = [] := List.length_eq_zero_iff.1 (by simpa using hl)
    unfold Oper.wp
    simp [execOp, ho, resolve, invoke, builtin, hs, hx, hrun, Result.andThen]
    exact h v w (by simpa using hown) (grown_refl _ _) (by simp)
  | some ad =>
    obtain ⟨v', w', hr, h2, h3, h4, _⟩ := run_append_own_at (P := P) w base t o.type e i z size bytes ht hi hz hsize hby hzs hsz v n xs hown ad m c news hl (hnews ad rfl) h1 h63 hbytes hbase
    unfold Oper.wp
    simp [execOp, ho, resolve, invoke, builtin, hs, hx, hr, Result.andThen]
    exact h v' w' h2 h3 h4
/-- The row that an append was given is still there. -/
theorem run_append_keeps {P : Program} (w : World) (base : Nat) (t ty e : TypeId) (i : TypeInfo) (z : Value) (size bytes : Nat) (ht : P.underlying t = some (.slice e)) (hi : P.info? e = some i) (hz : i.zero = some z)
    (hsize : i.size = size) (hby : i.bytes = bytes) (hzs : z.cells.size = size)
    (v : Value) (n : Nat) (xs : List Value) (hown : w.ownsRow base e size v n xs)
    (a : Addr) (m c : Nat) (news : List Value) (hl : news.length = m * size) (hnews : ∀ j u, news[j]? = some u → w.cell? (a.add j) = some u) (h1 : ∀ u ∈ news, u.oneCell' = true) (hm : 0 < m)
    (h63 : n + m ≤ maxLen) (hbytes : (n + m) * bytes ≤ 140737488355328) :
    ∃ v' w', (Builtin.append_ #[t, t] ty #[v, .slice (some a) m c]).run P w = .ok v' w' ∧ w'.ownsRow base e size v n xs ∧ w.grownBy w' v.ownBlock := by
  subst hsize
  subst hby
  have hsmall : n + m ≤ 9223372036854775807 := by simp only [maxLen] at h63; omega
  rcases hown.2 with ⟨rfl, rfl⟩ | ⟨g, cap, cur, rfl, hbg, hg, hnc, hcm, hcs, htake⟩
  · have hr := run_append_nil (P := P) w t ty e i z ht hi hz a m c news hl hnews (by omega) (by omega) (by have hb := hbytes; simp only [Nat.zero_add] at hb; omega)
    refine ⟨_, _, hr, ?_, ⟨rfl, rfl, rfl, by simp, fun k hk _ => heap_alloc_old w.drew _ hk⟩⟩
    have hx : xs = [] := List.eq_nil_of_length_eq_zero (by simpa using hown.1)
    rw [hx]
    exact World.ownsRow_nil _ _ _ _
  · by_cases hroom : n + m ≤ cap
    · have hfit : n * i.size + news.length ≤ cur.size := by rw [hl, hcs, ← Nat.add_mul]; exact Nat.mul_le_mul_right _ hroom
      have hr := run_append_room (P := P) w t ty e i ht hi g n cap cur hg a m c news hl hnews h1 hroom hfit
      refine ⟨_, _, hr, ⟨hown.1, .inr ⟨g, cap, _, rfl, hbg, setRow_heap w g cur _ e _ hg, hnc, hcm, ?_, ?_⟩⟩, ⟨rfl, rfl, rfl, by simp, fun k _ hk => setRow_other w g k _ (fun e => hk (by simp [Value.ownBlock, e]))⟩⟩
      · simp only [List.size_toArray, List.length_append, List.length_take, List.length_drop, Array.length_toList]
        omega
      · rw [htake, List.append_assoc, ← hown.1]
        exact List.take_left
    · have holds : ∀ j u, xs[j]? = some u → w.cell? ((⟨g, 0, none⟩ : Addr).add j) = some u := hown.cells (g := g) rfl
      have hr := run_append_grow (P := P) w t ty e i z ht hi hz ⟨g, 0, none⟩ n cap xs hown.1 holds a m c news hl hnews (by omega) (by omega) (growslice_fits (by omega) hbytes)
      refine ⟨_, _, hr, ⟨hown.1, .inr ⟨g, cap, cur, rfl, hbg, ?_, hnc, hcm, hcs, htake⟩⟩, ⟨rfl, rfl, rfl, by simp, fun k hk _ => heap_alloc_old w.drew _ hk⟩⟩
      rw [heap_alloc_old w.drew _ (Array.getElem?_eq_some_iff.1 hg).1]
      exact hg
theorem wpList_append_keeps {P : Program} {w : World} {ops : Array Oper} {rest : List Oper} {o : Oper} {a : Act} {Q : Exit → Act → World → Prop} (hgd : o.guard = none) (s x : Operand) (t : TypeId)
    (ho : o.op = .call { callee := .builtin .append, args := #[s, x], argTypes := #[t, t] })
    (base : Nat) (e : TypeId) (i : TypeInfo) (z : Value) (size bytes : Nat) (ht : P.underlying t = some (.slice e)) (hi : P.info? e = some i) (hz : i.zero = some z)
    (hsize : i.size = size) (hby : i.bytes = bytes) (hzs : z.cells.size = size)
    (v : Value) (n : Nat) (xs : List Value) (hs : a.eval s = v) (hown : w.ownsRow base e size v n xs)
    (ad : Addr) (m c : Nat) (news : List Value) (hx : a.eval x = .slice (some ad) m c) (hl : news.length = m * size) (hnews : ∀ j u, news[j]? = some u → w.cell? (ad.add j) = some u) (h1 : ∀ u ∈ news, u.oneCell' = true) (hm : 0 < m)
    (h63 : n + m ≤ maxLen) (hbytes : (n + m) * bytes ≤ 140737488355328)
    (h : ∀ v' w', w'.ownsRow base e size v n xs → w.grownBy w' v.ownBlock → wpList P ops Q rest (a.put o.dst v') w') : wpList P ops Q (o :: rest) a w := by
  refine wpList_plain hgd fun K hK => ?_
  obtain ⟨v', w', hr, h2, h3⟩ := run_append_keeps (P := P) w base t o.type e i z size bytes ht hi hz hsize hby hzs v n xs hown ad m c news hl hnews h1 hm h63 hbytes
  unfold Oper.wp
  simp [execOp, ho, resolve, invoke, builtin, hs, hx, hr, Result.andThen]
  exact hK _ _ (h v' w' h2 h3)
/-- make with room. -/
theorem run_make_room {P : Program} (t e : TypeId) (z : Value) (sz bytes : Nat) (ht : P.underlying t = some (.slice e)) (hinfo : (P.info? e).map (fun i => (i.zero, i.size, i.bytes)) = some (some z, sz, bytes)) (n : Nat) (hn : bytes * n ≤ 281474976710656) (h63 : n ≤ 9223372036854775807) (w : World) :
    (Instr.makeSlice t (.int .i64 0) (.int .i64 (n : Int))).run P w = .ok (.slice (some ⟨w.heap.size, 0, none⟩) 0 n) (w.alloc (.cells (madeCells z.cells (n * sz)) e)) := by
  obtain ⟨i, hi, he⟩ := Option.map_eq_some_iff.1 hinfo
  simp only [Prod.mk.injEq] at he
  obtain ⟨h1, h2, h3⟩ := he
  subst h2 h3
  have hb : (i.bytes : Int) * (n : Int) ≤ 281474976710656 := by
    have h : ((i.bytes * n : Nat) : Int) ≤ 281474976710656 := by omega
    rwa [Int.natCast_mul] at h
  have h := run_make (P := P) w t e i z ht hi h1 .i64 .i64 0 (n : Int) (by omega) (by omega) hb (by omega)
  simpa using h
end Go.Proofs.Ytiencggnijfjoaa

namespace Go.Proofs.Ytiencggnijfjoaa

open Go.RowKit

theorem nodes_row {z : World} {B g c : Nat} {t : NL} (h : z.ownsRow B 54 6 (.slice (some ⟨g, 0, none⟩) t.length c) t.length (ndCells t)) : NodesAt z (some ⟨g, 0, none⟩) g 0 t := by
  obtain ⟨bs, cp, g', hv, -, -, hn⟩ := nodes_of_owns h
  injection hv with h1 _ _
  by_cases q : t.length = 0
  · exact ⟨fun h => absurd q h, fun h => absurd q h, fun i hi => by omega, hn.len⟩
  · have := hn.base q
    rw [← h1] at this
    injection this with this
    injection this with this _ _
    subst this
    rw [← h1] at hn
    exact hn
theorem ws_row {z : World} {B g c : Nat} {L : List Int} (h : z.ownsRow B 3 1 (.slice (some ⟨g, 0, none⟩) L.length c) L.length (isC L)) : WsAt z (some ⟨g, 0, none⟩) g 0 L := by
  obtain ⟨bs, cp, g', hv, -, -, hn⟩ := ws_of_owns h
  injection hv with h1 _ _
  by_cases q : L.length = 0
  · exact ⟨fun h => absurd q h, fun h => absurd q h, fun i hi => by omega, hn.len⟩
  · have := hn.base q
    rw [← h1] at this
    injection this with this
    injection this with this _ _
    subst this
    rw [← h1] at hn
    exact hn
theorem ownN {B n : Nat} {w : World} {e : TypeId} {sz : Nat} {v : Value} {xs : List Value} (h : w.ownsRow B e sz v n xs) (b j : Nat) (u : Value) (hb : ∀ g, v.ownBlock = some g → b ≠ g) : (w.setCell ⟨b, j, none⟩ u).ownsRow B e sz v n xs := by
  rcases Go.Joins.ownsRow_forms h with ⟨rfl, rfl⟩ | ⟨g, cap, rfl⟩
  · obtain ⟨h0, _⟩ := h; exact ⟨h0, Or.inl ⟨rfl, rfl⟩⟩
  · exact owns_other h b j u (hb g rfl)
/-- A row of rows of numbers; each lies in a block of its own. -/
structure LLs (B : Nat) (z : World) (n : Nat) (vL : Value) (vs : Nat → Value) (Ls : Nat → List Int) : Prop where
  row : ∀ i, i < n → z.ownsRow B 3 1 (vs i) (Ls i).length (isC (Ls i))
  sep : ∀ i j, i < n → j < n → i ≠ j → ∀ g, (vs i).ownBlock = some g → (vs j).ownBlock ≠ some g
  small : ∀ i, i < n → (Ls i).length ≤ 100000
  top : z.ownsRow B 23 1 vL n ((List.range n).map vs)
  apart : ∀ i, i < n → ∀ g, (vs i).ownBlock = some g → vL.ownBlock ≠ some g
theorem LLs.quiet {B n : Nat} {z y : World} {vL : Value} {vs : Nat → Value} {Ls : Nat → List Int} (h : LLs B z n vL vs Ls) (hb : Below z.heap.size z y) : LLs B y n vL vs Ls :=
  ⟨fun i hi => owns_below (h.row i hi) hb, h.sep, h.small, owns_below h.top hb, h.apart⟩
theorem LLs.nil (B : Nat) (z : World) (vs : Nat → Value) (Ls : Nat → List Int) : LLs B z 0 (.slice none 0 0) vs Ls :=
  ⟨fun i hi => by omega, fun i j hi => by omega, fun i hi => by omega, World.ownsRow_nil _ _ _ _, fun i hi => by omega⟩
def ext3 {α : Type} (f : Nat → α) (n : Nat) (a b c : α) : Nat → α := fun i => if i < n then f i else if i = n then a else if i = n + 1 then b else c
theorem ext3_0 {α : Type} (f : Nat → α) (n : Nat) (a b c : α) : ext3 f n a b c n = a := by unfold ext3; rw [if_neg (by omega), if_pos rfl]
theorem ext3_1 {α : Type} (f : Nat → α) (n : Nat) (a b c : α) : ext3 f n a b c (n + 1) = b := by unfold ext3; rw [if_neg (by omega), if_neg (by omega), if_pos rfl]
theorem ext3_2 {α : Type} (f : Nat → α) (n : Nat) (a b c : α) : ext3 f n a b c (n + 2) = c := by unfold ext3; rw [if_neg (by omega), if_neg (by omega), if_neg (by omega)]
theorem ext3_map {α : Type} (f : Nat → α) (n : Nat) (a b c : α) : (List.range (n + 3)).map (ext3 f n a b c) = (List.range n).map f ++ [a, b, c] := by
  rw [show n + 3 = n + 1 + 1 + 1 by omega, List.range_succ, List.range_succ, List.range_succ]
  simp only [List.map_append, List.map_cons, List.map_nil, List.append_assoc]
  have e : (List.range n).map (ext3 f n a b c) = (List.range n).map f := List.map_congr_left fun i hi => by
    have := List.mem_range.1 hi
    simp [ext3, this]
  rw [e, ext3_0, ext3_1, ext3_2]
  rfl
theorem LLs.push {B n : Nat} {z y x : World} {o : Obj} {vL s r q : Value} {g' cp : Nat} {vs : Nat → Value} {Ls : Nat → List Int} {S R O : List Int} (h : LLs B z n vL vs Ls) (hb : Below z.heap.size z y)
    (hs : y.ownsRow B 3 1 s S.length (isC S)) (hr : y.ownsRow B 3 1 r R.length (isC R)) (hq : y.ownsRow B 3 1 q O.length (isC O))
    (ls : S.length ≤ 100000) (lr : R.length ≤ 100000) (lq : O.length ≤ 100000)
    (bs : ∀ g, s.ownBlock = some g → z.heap.size ≤ g) (br : ∀ g, r.ownBlock = some g → z.heap.size ≤ g) (bq : ∀ g, q.ownBlock = some g → z.heap.size ≤ g)
    (sr : ∀ g, s.ownBlock = some g → r.ownBlock ≠ some g) (sq : ∀ g, s.ownBlock = some g → q.ownBlock ≠ some g) (rq : ∀ g, r.ownBlock = some g → q.ownBlock ≠ some g)
    (hg : (y.alloc o).grownBy x vL.ownBlock) (ht : x.ownsRow B 23 1 (.slice (some ⟨g', 0, none⟩) (n + 3) cp) (n + 3) ((List.range n).map vs ++ [s, r, q])) (hat : vL.ownBlock = some g' ∨ g' = y.heap.size + 1) :
    LLs B x (n + 3) (.slice (some ⟨g', 0, none⟩) (n + 3) cp) (ext3 vs n s r q) (ext3 Ls n S R O) := by
  have topz : ∀ g, vL.ownBlock = some g → g < z.heap.size := fun g hg => (owns_lt h.top g hg).2
  have hy := h.quiet hb
  have zy := hb.size
  have kept : ∀ {v : Value} {L : List Int}, y.ownsRow B 3 1 v L.length (isC L) → (∀ g, v.ownBlock = some g → vL.ownBlock ≠ some g) → x.ownsRow B 3 1 v L.length (isC L) := fun {v L} hv hne => (hv.alloc o).kept hg (by
    cases e : v.ownBlock with
    | none => exact Or.inl rfl
    | some g => exact Or.inr (fun q => hne g e q.symm))
  have far : ∀ {v : Value}, (∀ g, v.ownBlock = some g → z.heap.size ≤ g) → ∀ g, v.ownBlock = some g → vL.ownBlock ≠ some g := fun hv g hg q => by have := topz g q; have := hv g hg; omega
  have old : ∀ i, i < n → ∀ g, (vs i).ownBlock = some g → g < z.heap.size := fun i hi g hg => (owns_lt (h.row i hi) g hg).2
  have blk : ∀ i, i < n + 3 → (i < n ∧ ext3 vs n s r q i = vs i ∧ ext3 Ls n S R O i = Ls i) ∨ (i = n ∧ ext3 vs n s r q i = s ∧ ext3 Ls n S R O i = S) ∨ (i = n + 1 ∧ ext3 vs n s r q i = r ∧ ext3 Ls n S R O i = R) ∨ (i = n + 2 ∧ ext3 vs n s r q i = q ∧ ext3 Ls n S R O i = O) := fun i hi => by
    rcases Nat.lt_or_ge i n with a | a
    · exact Or.inl ⟨a, by simp [ext3, a], by simp [ext3, a]⟩
    · by_cases e1 : i = n
      · subst e1; exact Or.inr (Or.inl ⟨rfl, ext3_0 _ _ _ _ _, ext3_0 _ _ _ _ _⟩)
      · by_cases e2 : i = n + 1
        · subst e2; exact Or.inr (Or.inr (Or.inl ⟨rfl, ext3_1 _ _ _ _ _, ext3_1 _ _ _ _ _⟩))
        · have e3 : i = n + 2 := by omega
          subst e3; exact Or.inr (Or.inr (Or.inr ⟨rfl, ext3_2 _ _ _ _ _, ext3_2 _ _ _ _ _⟩))
  refine ⟨fun i hi => ?_, fun i j hi hj hij g => ?_, fun i hi => ?_, by rw [ext3_map]; exact ht, fun i hi g => ?_⟩
  · rcases blk i hi with ⟨a, e1, e2⟩ | ⟨a, e1, e2⟩ | ⟨a, e1, e2⟩ | ⟨a, e1, e2⟩ <;> rw [e1, e2]
    · exact kept (hy.row i a) (h.apart i a)
    · exact kept hs (far bs)
    · exact kept hr (far br)
    · exact kept hq (far bq)
  · have sw : ∀ {a b : Value}, (∀ g, a.ownBlock = some g → b.ownBlock ≠ some g) → ∀ g, b.ownBlock = some g → a.ownBlock ≠ some g := fun hab g hb ha => hab g ha hb
    have ob : ∀ i, i < n → ∀ {v : Value}, (∀ g, v.ownBlock = some g → z.heap.size ≤ g) → ∀ g, (vs i).ownBlock = some g → v.ownBlock ≠ some g := fun i hi v hv g h1 h2 => by have := old i hi g h1; have := hv g h2; omega
    rcases blk i hi with ⟨a, e1, -⟩ | ⟨a, e1, -⟩ | ⟨a, e1, -⟩ | ⟨a, e1, -⟩ <;> rcases blk j hj with ⟨a', e1', -⟩ | ⟨a', e1', -⟩ | ⟨a', e1', -⟩ | ⟨a', e1', -⟩ <;> rw [e1, e1']
    · exact h.sep i j a a' hij g
    · exact ob i a bs g
    · exact ob i a br g
    · exact ob i a bq g
    · exact sw (ob j a' bs) g
    · omega
    · exact sr g
    · exact sq g
    · exact sw (ob j a' br) g
    · exact sw sr g
    · omega
    · exact rq g
    · exact sw (ob j a' bq) g
    · exact sw sq g
    · exact sw rq g
    · omega
  · rcases blk i hi with ⟨a, -, e2⟩ | ⟨a, -, e2⟩ | ⟨a, -, e2⟩ | ⟨a, -, e2⟩ <;> rw [e2]
    · exact h.small i a
    · exact ls
    · exact lr
    · exact lq
  · intro hgi q'
    have hg' : g = g' := by simpa [Value.ownBlock] using q'.symm
    subst hg'
    have ylt : g < y.heap.size := by
      rcases blk i hi with ⟨a, e1, -⟩ | ⟨a, e1, -⟩ | ⟨a, e1, -⟩ | ⟨a, e1, -⟩ <;> rw [e1] at hgi
      · have := old i a g hgi; omega
      · exact (owns_lt hs g hgi).2
      · exact (owns_lt hr g hgi).2
      · exact (owns_lt hq g hgi).2
    rcases hat with q | q
    · have q2 := topz g q
      rcases blk i hi with ⟨a, e1, -⟩ | ⟨a, e1, -⟩ | ⟨a, e1, -⟩ | ⟨a, e1, -⟩ <;> rw [e1] at hgi
      · exact h.apart i a g hgi q
      · have := bs g hgi; omega
      · have := br g hgi; omega
      · have := bq g hgi; omega
    · omega
theorem isC_set (L : List Int) (j : Nat) (a : Int) : (isC L).set j (.int .i64 a) = isC (L.set j a) := by
  unfold isC
  rw [List.map_set]
/-- A number written. -/
theorem LLs.put {B n i g cp : Nat} {z : World} {vL : Value} {vs : Nat → Value} {Ls : Nat → List Int} (h : LLs B z n vL vs Ls) (hi : i < n) (hv : vs i = .slice (some ⟨g, 0, none⟩) (Ls i).length cp) (j : Nat) (a : Int) :
    LLs B (z.setCell ⟨g, j, none⟩ (.int .i64 a)) n vL vs (fun q => if q = i then (Ls i).set j a else Ls q) := by
  have hg : (vs i).ownBlock = some g := by rw [hv]; rfl
  refine ⟨fun q hq => ?_, h.sep, fun q hq => ?_, ownN h.top g j _ (fun k hk e => h.apart i hi g hg (by rw [hk, e])), h.apart⟩
  · by_cases e : q = i
    · subst e
      have r := h.row q hq
      rw [hv] at r ⊢
      have := owns_put r j (.int .i64 a)
      rw [isC_set] at this
      simp only [if_pos]
      rw [List.length_set]
      exact this
    · simp only [if_neg e]
      exact ownN (h.row q hq) g j _ (fun k hk e' => h.sep q i hq hi e k hk (by rw [hg, e']))
  · by_cases e : q = i
    · subst e; simp only [if_pos, List.length_set]; exact h.small q hq
    · simp only [if_neg e]; exact h.small q hq
/-- An append to one of the rows. -/
theorem LLs.grow {B n i : Nat} {z x : World} {o : Obj} {vL : Value} {vs : Nat → Value} {Ls : Nat → List Int} (h : LLs B z n vL vs Ls) (hi : i < n) (hg : (z.alloc o).grownBy x (vs i).ownBlock) (hr : x.ownsRow B 3 1 (vs i) (Ls i).length (isC (Ls i))) : LLs B x n vL vs Ls := by
  have ne : ∀ {v : Value}, (∀ g, (vs i).ownBlock = some g → v.ownBlock ≠ some g) → v.ownBlock = none ∨ v.ownBlock ≠ (vs i).ownBlock := fun {v} hv => by
    cases e : v.ownBlock with
    | none => exact Or.inl rfl
    | some g => exact Or.inr (fun q => hv g q.symm e)
  refine ⟨fun q hq => ?_, h.sep, h.small, (h.top.alloc o).kept hg (ne (h.apart i hi)), h.apart⟩
  by_cases e : q = i
  · subst e; exact hr
  · exact ((h.row q hq).alloc o).kept hg (ne (h.sep i q hi hq (fun q' => e q'.symm)))
/-- Where one of the rows stands. -/
theorem LLs.cell {B n : Nat} {z : World} {vL : Value} {vs : Nat → Value} {Ls : Nat → List Int} (h : LLs B z n vL vs Ls) (hn : 0 < n) : ∃ g cp, vL = .slice (some ⟨g, 0, none⟩) n cp ∧ B ≤ g ∧ g < z.heap.size ∧ ∀ i, i < n → z.cell? ⟨g, i, none⟩ = some (vs i) := by
  obtain ⟨g, cp, hv, hB, hl, -, -, hc, -⟩ := owns_some h.top hn
  refine ⟨g, cp, hv, hB, hl, fun i hi => ?_⟩
  rw [hc i (by omega)]
  simp [hi]
theorem MAt.six' {w0 x : World} {g cap : Nat} {T : NL} (h : MAt w0 x g cap T) (i : Nat) (hi : i < T.length) : (x.cell? ⟨g, i * 6, none⟩ = some (.int .i64 (ndAt T i).key) ∧ x.frozen? ⟨g, i * 6, none⟩ = false) ∧ (x.cell? ⟨g, i * 6 + 1, none⟩ = some (.int .i64 (ndAt T i).inf) ∧ x.frozen? ⟨g, i * 6 + 1, none⟩ = false) ∧ (x.cell? ⟨g, i * 6 + 2, none⟩ = some (.int .i64 (ndAt T i).wt) ∧ x.frozen? ⟨g, i * 6 + 2, none⟩ = false) ∧ (x.cell? ⟨g, i * 6 + 3, none⟩ = some (.int .i64 (ndAt T i).val) ∧ x.frozen? ⟨g, i * 6 + 3, none⟩ = false) ∧ (x.cell? ⟨g, i * 6 + 4, none⟩ = some (.int .i64 (ndAt T i).l) ∧ x.frozen? ⟨g, i * 6 + 4, none⟩ = false) ∧ (x.cell? ⟨g, i * 6 + 5, none⟩ = some (.int .i64 (ndAt T i).r) ∧ x.frozen? ⟨g, i * 6 + 5, none⟩ = false) := by
  obtain ⟨g', cap', hv, -, -, -, -, hc, hfr⟩ := owns_some h.own (by omega)
  injection hv with e1 _ _
  injection e1 with e1
  injection e1 with e1 _ _
  subst e1
  obtain ⟨b0, b1, b2, b3, b4, b5⟩ := ndCells_get T i hi
  exact ⟨⟨(hc _ (by omega)).trans b0, hfr _⟩, ⟨(hc _ (by omega)).trans b1, hfr _⟩, ⟨(hc _ (by omega)).trans b2, hfr _⟩, ⟨(hc _ (by omega)).trans b3, hfr _⟩, ⟨(hc _ (by omega)).trans b4, hfr _⟩, (hc _ (by omega)).trans b5, hfr _⟩
theorem MAt.put6' {w0 x : World} {g cap : Nat} {T : NL} (h : MAt w0 x g cap T) (i : Nat) (n : NdD) (hi : i < T.length) (hg : w0.heap.size ≤ g) : MAt w0 ((((((x.setCell ⟨g, i * 6, none⟩ (.int .i64 n.key)).setCell ⟨g, i * 6 + 1, none⟩ (.int .i64 n.inf)).setCell ⟨g, i * 6 + 2, none⟩ (.int .i64 n.wt)).setCell ⟨g, i * 6 + 3, none⟩ (.int .i64 n.val)).setCell ⟨g, i * 6 + 4, none⟩ (.int .i64 n.l)).setCell ⟨g, i * 6 + 5, none⟩ (.int .i64 n.r)) g cap (T.set i n) := by
  refine ⟨?_, below_six h.below hg _ _ _ _ _ _⟩
  rw [ndCells_set _ _ _ hi, List.length_set]
  exact owns_put (owns_put (owns_put (owns_put (owns_put (owns_put h.own _ _) _ _) _ _) _ _) _ _) _ _
end Go.Proofs.Ytiencggnijfjoaa

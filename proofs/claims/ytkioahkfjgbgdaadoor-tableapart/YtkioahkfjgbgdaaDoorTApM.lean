
/- Layer 16: for TableApart: copy between rows of structs; what stays while rows are written over. -/

import Derived.Test.YtkioahkfjgbgdaaDoorTApC

import Derived.Test.YtkioahkfjgbgdaaDoorTGrB

import Derived.Test.YtkioahkfjgbgdaaDoorTMir

import Derived.Test.YtkioahkfjgbgdaaDoorTPrs

import Derived.Laws.CopyOwn

namespace Go.Proofs.YtkioahkfjgbgdaaDoor

open Go.RowKit

theorem copy_sz {P : Program} (w : World) (dT sT ty elem : TypeId) (g o dLen dCap : Nat) (a : Addr) (sLen sCap sz : Nat) (cur : Array Value) (t : TypeId) (cs : List Value)
    (hu : P.underlying dT = some (.slice elem)) (hs : (P.info? elem).map (·.size) = some sz)
    (hg : w.heap[g]? = some (.cells cur t (0, 0))) (hn : cs.length = Nat.min sLen dLen * sz)
    (hsrc : ∀ j v, cs[j]? = some v → w.cell? (a.add j) = some v) (hfit : o + cs.length ≤ cur.size) (h1 : ∀ v ∈ cs, v.oneCell' = true) :
    (Builtin.copy_ #[dT, sT] ty #[.slice (some ⟨g, o, none⟩) dLen dCap, .slice (some a) sLen sCap]).run P w =
      .ok (goInt (Nat.min sLen dLen)) (w.setRow g (cur.toList.take o ++ cs ++ cur.toList.drop (o + cs.length)).toArray) := by
  have hl := run_loadCells_list (P := P) w a cs hsrc
  have hst := run_storeCells_at P g o t cs 0 cur w hg (by simpa using hfit) h1
  cases hq : P.info? elem with
  | none => simp [hq] at hs
  | some i =>
    have hi : i.size = sz := by simpa [hq] using hs
    simp [Builtin.copy_, run_underlying hu, Builtin.lenOf, Builtin.firstCells, sizeOf, typeInfo, hq, hi, ← hn, hl, hst]
theorem copy_zero {P : Program} (w : World) (dT sT ty elem : TypeId) (d a : Option Addr) (dLen dCap sLen sCap sz : Nat) (hu : P.underlying dT = some (.slice elem)) (hs : (P.info? elem).map (·.size) = some sz) (hn : Nat.min sLen dLen = 0) :
    (Builtin.copy_ #[dT, sT] ty #[.slice d dLen dCap, .slice a sLen sCap]).run P w = .ok (goInt 0) w := by
  cases hq : P.info? elem with
  | none => simp [hq] at hs
  | some i =>
    have hl : ∀ (x : Addr), (loadCells x 0).run P w = .ok #[] w := fun x => by simpa using run_loadCells_list (P := P) w x [] (by simp)
    cases d <;> cases a <;> simp [Builtin.copy_, run_underlying hu, Builtin.lenOf, Builtin.firstCells, sizeOf, typeInfo, hq, hn, storeCells, hl]
/-- copy to the head of a row that is known whole: the first cells are the source's, the others stay. -/
theorem copy_head {P : Program} {w : World} (dT sT ty elem : TypeId) (sz : Nat) (hu : P.underlying dT = some (.slice elem)) (hsz : (P.info? elem).map (·.size) = some sz)
    (sp : Option Addr) (dLen dCap sLen sCap g : Nat) (hle : sLen ≤ dLen) (cur : List Value) (t : TypeId) (hg : w.heap[g]? = some (.cells cur.toArray t (0, 0))) (cs : List Value) (hn : cs.length = sLen * sz)
    (hpos : sLen ≠ 0 → ∃ ad, sp = some ad ∧ ∀ j v, cs[j]? = some v → w.cell? (ad.add j) = some v)
    (hfit : cs.length ≤ cur.length) (h1 : ∀ v ∈ cs, v.oneCell' = true) (B : Nat) (w0 : World) (hb : Below B w0 w) (hBg : B ≤ g) :
    ∃ w', (Builtin.copy_ #[dT, sT] ty #[.slice (some ⟨g, 0, none⟩) dLen dCap, .slice sp sLen sCap]).run P w = .ok (goInt sLen) w' ∧ w'.heap[g]? = some (.cells (cs ++ cur.drop cs.length).toArray t (0, 0)) ∧ w'.heap.size = w.heap.size ∧ Below B w0 w' := by
  have hmin : Nat.min sLen dLen = sLen := Nat.min_eq_left hle
  by_cases h0 : sLen = 0
  · subst h0
    obtain rfl : cs = [] := List.eq_nil_of_length_eq_zero (by simpa using hn)
    exact ⟨w, copy_zero (P := P) w dT sT ty elem (some ⟨g, 0, none⟩) sp dLen dCap 0 sCap sz hu hsz hmin, by simpa using hg, rfl, hb⟩
  · obtain ⟨ad, rfl, hsrc⟩ := hpos h0
    have hrun := copy_sz (P := P) w dT sT ty elem g 0 dLen dCap ad sLen sCap sz cur.toArray t cs hu hsz hg (by rw [hmin]; exact hn) hsrc (by simpa using hfit) h1
    rw [hmin] at hrun
    exact ⟨_, hrun, by simpa using setRow_heap w g _ _ t _ hg, by simp [World.setRow], below_setRow hb hBg _⟩

theorem wpList_copy_by {P : Program} (w : World) {ops : Array Oper} {rest : List Oper} {o : Oper} {a : Act} {Q : Exit → Act → World → Prop} (hgd : o.guard = none) (d s : Operand) (t t' : TypeId)
    (ho : o.op = .call { callee := .builtin .copy, args := #[d, s], argTypes := #[t, t'] }) (v u : Value) (hd : a.eval d = v) (hs : a.eval s = u) {v' : Value} {w' : World}
    (hr : (Builtin.copy_ #[t, t'] o.type #[v, u]).run P w = .ok v' w') (h : wpList P ops Q rest (a.put o.dst v') w') : wpList P ops Q (o :: rest) a w :=
  wpList_plain hgd fun _ hK => by
    unfold Oper.wp execOp
    simp only [ho, resolve, invoke, builtin, Sem.run_bind, Sem.run_pure, Result.andThen_ok, List.map_toArray, List.map_cons, List.map_nil, hd, hs, hr]
    exact hK _ _ h
theorem owned_set {w : World} {B sz : Nat} {e : TypeId} {v : Value} {n : Nat} {xs : List Value} (h : w.ownsRow B e sz v n xs) (b j : Nat) (u : Value) : ∃ ys, (w.setCell ⟨b, j, none⟩ u).ownsRow B e sz v n ys := by
  rcases Go.Joins.ownsRow_forms h with ⟨rfl, rfl⟩ | ⟨g, cap, rfl⟩
  · obtain ⟨h0, _⟩ := h
    exact ⟨xs, h0, Or.inl ⟨rfl, rfl⟩⟩
  · by_cases e : b = g
    · subst e; exact ⟨_, owns_put h j u⟩
    · exact ⟨_, owns_other h b j u e⟩
theorem owned_cell {w : World} {B sz : Nat} {e : TypeId} {n g cap : Nat} {xs : List Value} (h : w.ownsRow B e sz (.slice (some ⟨g, 0, none⟩) n cap) n xs) {j : Nat} (hj : j < n * sz) : ∃ u, w.cell? ⟨g, j, none⟩ = some u ∧ w.frozen? ⟨g, j, none⟩ = false := by
  have hn : 0 < n := by
    rcases Nat.eq_zero_or_pos n with e | e
    · subst e; omega
    · exact e
  obtain ⟨g', cap', hv, -, -, -, -, hc, hfr⟩ := owns_some h hn
  injection hv with e1 _ _
  injection e1 with e1
  injection e1 with e1 _ _
  subst e1
  have hl : j < xs.length := by rw [h.1]; exact hj
  exact ⟨xs[j], by rw [hc j hj, List.getElem?_eq_getElem hl], hfr j⟩
theorem NodesAt.keptB {w z : World} {base : Option Addr} {b o : Nat} {t : NL} (h : NodesAt w base b o t) (hs : w.heap.size ≤ z.heap.size) (hk : t.length ≠ 0 → z.heap[b]? = w.heap[b]?) : NodesAt z base b o t := by
  refine ⟨h.base, fun hn => Nat.lt_of_lt_of_le (h.lt hn) hs, fun i hi => ?_, h.len⟩
  have hb := hk (by omega)
  have q : ∀ j, z.cell? ⟨b, j, none⟩ = w.cell? ⟨b, j, none⟩ := fun j => World.cell?_of_block (w := w) hb
  rw [q, q, q, q, q, q]
  exact h.cells i hi

theorem PlsAt.keptB {w z : World} {base : Option Addr} {g : Nat} {L : List Nat} (h : PlsAt w base g L) (hs : w.heap.size ≤ z.heap.size) (hk : L.length ≠ 0 → z.heap[g]? = w.heap[g]?) : PlsAt z base g L := by
  refine ⟨h.base, fun hn => Nat.lt_of_lt_of_le (h.lt hn) hs, fun j hj => ?_, h.len⟩
  rw [World.cell?_of_block (w := w) (a := ⟨g, j, none⟩) (hk (by omega))]
  exact h.cells j hj
theorem Ints.keptB {w z : World} {g n : Nat} {F : Nat → Int} (h : Ints w g n F) (hk : n ≠ 0 → z.heap[g]? = w.heap[g]?) : Ints z g n F := fun j hj =>
  ⟨(World.cell?_of_block (w := w) (a := ⟨g, j, none⟩) (hk (by omega))).trans (h j hj).1, by have := (h j hj).2; unfold World.frozen? at this ⊢; rw [hk (by omega)]; exact this⟩
theorem owns_keptB {w z : World} {B sz : Nat} {e : TypeId} {v : Value} {n : Nat} {xs : List Value} (h : w.ownsRow B e sz v n xs) (hk : ∀ q, v.ownBlock = some q → z.heap[q]? = w.heap[q]?) : z.ownsRow B e sz v n xs := by
  obtain ⟨h1, h2⟩ := h
  refine ⟨h1, ?_⟩
  rcases h2 with ⟨rfl, e0⟩ | ⟨g, cap, cur, rfl, hB, hg, hr⟩
  · exact Or.inl ⟨rfl, e0⟩
  · exact Or.inr ⟨g, cap, cur, rfl, hB, (hk g rfl).trans hg, hr⟩
/-- What stays while rows are written over. -/
structure AK (w W : World) (KS : Nat → Prop) (z : World) : Prop where
  bel : Below w.heap.size w z
  sz : W.heap.size ≤ z.heap.size
  keep : ∀ b, KS b → z.heap[b]? = W.heap[b]?
theorem AK.start {w W : World} {KS : Nat → Prop} (h : Below w.heap.size w W) : AK w W KS W := ⟨h, Nat.le_refl _, fun _ _ => rfl⟩
theorem AK.set {w W z : World} {KS : Nat → Prop} (h : AK w W KS z) {b : Nat} (hb : w.heap.size ≤ b) (hk : ¬ KS b) (j : Nat) (v : Value) : AK w W KS (z.setCell ⟨b, j, none⟩ v) := by
  refine ⟨h.bel.setCell hb _, by simpa using h.sz, fun q hq => ?_⟩
  rw [Below.heap_setCell _ _ _ q (fun e => hk (by have e' : q = b := e; rw [← e']; exact hq))]
  exact h.keep q hq
theorem AK.drew {w W z : World} {KS : Nat → Prop} (h : AK w W KS z) : AK w W KS z.drew := ⟨h.bel.drew, h.sz, h.keep⟩
theorem AK.go {w W z y : World} {KS : Nat → Prop} (h : AK w W KS z) (hb : Below z.heap.size z y) (hl : ∀ b, KS b → b < W.heap.size) : AK w W KS y :=
  ⟨h.bel.trans (hb.mono h.bel.size), Nat.le_trans h.sz hb.size, fun q hq => (hb.block q (Nat.lt_of_lt_of_le (hl q hq) h.sz)).trans (h.keep q hq)⟩
theorem AK.grown {w W z y : World} {KS : Nat → Prop} {o : Obj} {r : Option Nat} (h : AK w W KS z) (hg : (z.alloc o).grownBy y r) (hr : ∀ b, r = some b → w.heap.size ≤ b ∧ ¬ KS b) (hl : ∀ b, KS b → b < W.heap.size) : AK w W KS y := by
  have hz : (z.alloc o).heap.size ≤ y.heap.size := (Below.grown (Below.refl 0 _) hg (Nat.zero_le _) (fun _ _ => Nat.zero_le _)).size
  have ba := below_alloc z o
  refine ⟨Below.grown (h.bel.alloc h.bel.size o) hg (by rw [World.size_alloc]; have := h.bel.size; omega) (fun b hb => (hr b hb).1), Nat.le_trans h.sz (Nat.le_trans ba.size hz), fun b hb => ?_⟩
  have lz : b < z.heap.size := Nat.lt_of_lt_of_le (hl b hb) h.sz
  rw [hg.block b (Nat.lt_of_lt_of_le lz ba.size) (fun e => (hr b e.symm).2 hb), ba.block b lz]
  exact h.keep b hb
/-- The rows of nodes from the i-th on are ours still. -/
def RowsZ (w z : World) (A : Nat → Option Addr) (N C : Nat → Nat) (i : Nat) : Prop := ∀ k, i ≤ k → k < 4 → ∃ xs, z.ownsRow w.heap.size 40 6 (.slice (A k) (N k) (C k)) (N k) xs
theorem RowsZ.set {w z : World} {A : Nat → Option Addr} {N C : Nat → Nat} {i : Nat} (h : RowsZ w z A N C i) (b j : Nat) (v : Value) : RowsZ w (z.setCell ⟨b, j, none⟩ v) A N C i := fun k h1 h2 => by
  obtain ⟨xs, hx⟩ := h k h1 h2
  exact owned_set hx b j v
theorem RowsZ.grown {w z y : World} {A : Nat → Option Addr} {N C : Nat → Nat} {i : Nat} {o : Obj} {r : Option Nat} (h : RowsZ w z A N C i) (hg : (z.alloc o).grownBy y r) (hd : ∀ k q, i + 1 ≤ k → k < 4 → r = some q → Value.ownBlock (.slice (A k) (N k) (C k)) ≠ some q) : RowsZ w y A N C (i + 1) := fun k h1 h2 => by
  obtain ⟨xs, hx⟩ := h k (by omega) h2
  refine ⟨xs, owns_keptB hx fun q hq => ?_⟩
  have lq := (owns_lt hx q hq).2
  have ba := below_alloc z o
  rw [hg.block q (Nat.lt_of_lt_of_le lq ba.size) (fun e => hd k q h1 h2 e.symm hq), ba.block q lq]
theorem normL_le (t : NL) : (normL t).length ≤ 100000 := by
  by_cases h : formE t = 0
  · rw [normL_ok h, partL_length]
    obtain ⟨hb, hf⟩ := formE_ok h
    obtain ⟨-, -, hl⟩ := theL_form hf
    omega
  · rw [normL_bad h]; simp
theorem own_slice3 {w : World} {B sz : Nat} {e : TypeId} {v : Value} {n : Nat} {xs : List Value} (h : w.ownsRow B e sz v n xs) : ∃ (a : Option Addr) (c g : Nat), v = .slice a n c ∧ (n ≠ 0 → a = some ⟨g, 0, none⟩ ∧ B ≤ g ∧ g < w.heap.size) := by
  rcases h.2 with ⟨rfl, e0⟩ | ⟨g, cap, cur, rfl, hB, hg, hr⟩
  · exact ⟨none, 0, 0, by rw [e0], fun q => absurd e0 q⟩
  · exact ⟨_, cap, g, rfl, fun _ => ⟨rfl, hB, (Array.getElem?_eq_some_iff.1 hg).1⟩⟩
theorem head_nodes {w : World} {a : Option Addr} {g : Nat} {t R : NL} (h : NodesAt w a g 0 (t ++ R)) : NodesAt w a g 0 t := by
  refine ⟨fun q => h.base (by rw [List.length_append]; omega), fun q => h.lt (by rw [List.length_append]; omega), fun i hi => ?_, by have := h.len; rw [List.length_append] at this; omega⟩
  have q := h.cells i (by simp; omega)
  have e : ndAt (t ++ R) i = ndAt t i := by
    unfold ndAt
    rw [List.getD_eq_getElem?_getD, List.getD_eq_getElem?_getD, List.getElem?_append_left hi]
  rw [e] at q
  exact q
end Go.Proofs.YtkioahkfjgbgdaaDoor

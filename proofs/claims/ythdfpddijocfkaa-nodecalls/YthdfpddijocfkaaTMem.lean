
/- Layer 16: rows of one's own; nodes in memory. -/

import Derived.Test.YthdfpddijocfkaaTPure

import Derived.Laws.StructEq

import Derived.Laws.OwnMore

import Derived.Lib.SmallJoins

namespace Go.Proofs.Ythdfpddijocfkaa

open Go.RowKit

theorem below_alloc (w : World) (o : Obj) : Below w.heap.size w (w.alloc o) := (Below.refl _ _).alloc (Nat.le_refl _) _
theorem below_drewN {B : Nat} {w w' : World} (h : Below B w w') (n : Nat) : Below B w (w'.drewN n) := ⟨h.os, h.tape, h.output, h.size, h.block⟩
theorem owns_lt {w : World} {B sz : Nat} {e : TypeId} {v : Value} {n : Nat} {xs : List Value} (h : w.ownsRow B e sz v n xs) : ∀ b, v.ownBlock = some b → B ≤ b ∧ b < w.heap.size := by
  intro b hb
  obtain ⟨_, h⟩ := h
  rcases h with ⟨rfl, _⟩ | ⟨g, cap, cur, rfl, hg, hh, _⟩
  · cases hb
  · simp [Value.ownBlock] at hb
    subst hb
    exact ⟨hg, (Array.getElem?_eq_some_iff.1 hh).1⟩
theorem owns_down {w : World} {B B' sz : Nat} {e : TypeId} {v : Value} {n : Nat} {xs : List Value} (h : w.ownsRow B e sz v n xs) (hB : B' ≤ B) : w.ownsRow B' e sz v n xs := by
  obtain ⟨h0, h⟩ := h
  rcases h with h | ⟨g, cap, cur, hv, hg, r⟩
  · exact ⟨h0, Or.inl h⟩
  · exact ⟨h0, Or.inr ⟨g, cap, cur, hv, by omega, r⟩⟩
theorem owns_some {w : World} {B sz : Nat} {e : TypeId} {v : Value} {n : Nat} {xs : List Value} (h : w.ownsRow B e sz v n xs) (hn : 0 < n) : ∃ g cap, v = .slice (some ⟨g, 0, none⟩) n cap ∧ B ≤ g ∧ g < w.heap.size ∧ n ≤ cap ∧ cap ≤ maxLen ∧ (∀ j, j < n * sz → w.cell? ⟨g, j, none⟩ = xs[j]?) ∧ ∀ j, w.frozen? ⟨g, j, none⟩ = false := by
  obtain ⟨_, h⟩ := h
  rcases h with ⟨_, h0⟩ | ⟨g, cap, cur, rfl, hg, hh, h1, h2, h3, h4⟩
  · omega
  · refine ⟨g, cap, rfl, hg, (Array.getElem?_eq_some_iff.1 hh).1, h1, h2, fun j hj => ?_, fun j => ?_⟩
    · rw [← h4, List.getElem?_take, if_pos hj]; simp [World.cell?, hh]
    · simp [World.frozen?, hh]
theorem ne_of_gt' {a b : Nat} (h : a < b) : a ≠ b := by omega
theorem ne_of_lt' {a b : Nat} (h : a + 1 ≤ b) : b ≠ a := by omega
theorem far_cell {w1 w3 : World} {o : Obj} {row : Option Nat} {p : Addr} {v : Value} (hg : (w1.alloc o).grownBy w3 row) (hp : p.block < w1.heap.size) (hr : ∀ b, row = some b → b ≠ p.block) (hc : w1.cell? p = some v) : w3.cell? p = some v :=
  (hg.cell_far p (by simp; omega) (fun q => hr _ q.symm rfl)).trans (((below_alloc w1 o).cell (p := p) hp).trans hc)
theorem far_frozen {w1 w3 : World} {o : Obj} {row : Option Nat} {p : Addr} {v : Bool} (hg : (w1.alloc o).grownBy w3 row) (hp : p.block < w1.heap.size) (hr : ∀ b, row = some b → b ≠ p.block) (hc : w1.frozen? p = v) : w3.frozen? p = v :=
  (hg.frozen_far p (by simp; omega) (fun q => hr _ q.symm rfl)).trans (((below_alloc w1 o).frozen (p := p) hp).trans hc)
theorem cell_new (w : World) (cs : Array Value) (T : TypeId) (k : Nat) : (w.alloc (.cells cs T)).cell? ⟨w.heap.size, k, none⟩ = cs[k]? := by
  simp only [World.cell?, heap_alloc_at w (.cells cs T) w.heap.size rfl]
  rfl
theorem owns_put {w : World} {B sz : Nat} {e : TypeId} {n : Nat} {xs : List Value} {g cap : Nat} (h : w.ownsRow B e sz (.slice (some ⟨g, 0, none⟩) n cap) n xs) (j : Nat) (u : Value) : (w.setCell ⟨g, j, none⟩ u).ownsRow B e sz (.slice (some ⟨g, 0, none⟩) n cap) n (xs.set j u) := by
  obtain ⟨h0, h⟩ := h
  rcases h with ⟨h, _⟩ | ⟨g', cap', cur, hv, hg, hh, h1, h2, h3, h4⟩
  · cases h
  · cases hv
    refine ⟨by simpa using h0, Or.inr ⟨g, cap, cur.setIfInBounds j u, rfl, hg, ?_, h1, h2, by simpa using h3, ?_⟩⟩
    · simp [World.setCell, Array.getElem?_modify, hh]
    · rw [Array.toList_setIfInBounds, List.take_set, h4]
theorem owns_apart {w : World} {B sz : Nat} {e : TypeId} {v : Value} {n : Nat} {xs : List Value} (h : w.ownsRow B e sz v n xs) (b j : Nat) (u : Value) (hb : b < B) : (w.setCell ⟨b, j, none⟩ u).ownsRow B e sz v n xs := by
  obtain ⟨h0, h⟩ := h
  rcases h with h | ⟨g, cap, cur, hv, hg, hh, h1, h2, h3, h4⟩
  · exact ⟨h0, Or.inl h⟩
  · exact ⟨h0, Or.inr ⟨g, cap, cur, hv, hg, by rw [Below.heap_setCell _ _ _ _ (by simp; omega)]; exact hh, h1, h2, h3, h4⟩⟩
theorem owns_below {w w' : World} {B sz : Nat} {e : TypeId} {v : Value} {n : Nat} {xs : List Value} (h : w.ownsRow B e sz v n xs) (hb : Below w.heap.size w w') : w'.ownsRow B e sz v n xs := by
  obtain ⟨h0, h⟩ := h
  rcases h with h | ⟨g, cap, cur, hv, hg, hh, h1, h2, h3, h4⟩
  · exact ⟨h0, Or.inl h⟩
  · have hl : g < w.heap.size := (Array.getElem?_eq_some_iff.1 hh).1
    exact ⟨h0, Or.inr ⟨g, cap, cur, hv, hg, by rw [hb.block g hl]; exact hh, h1, h2, h3, h4⟩⟩
def Ints (w : World) (g n : Nat) (f : Nat → Int) : Prop := ∀ j, j < n → w.cell? ⟨g, j, none⟩ = some (.int .i64 (f j)) ∧ w.frozen? ⟨g, j, none⟩ = false
theorem Ints.below {w w' : World} {g n : Nat} {f : Nat → Int} (h : Ints w g n f) (hg : g < w.heap.size) (hb : Below w.heap.size w w') : Ints w' g n f :=
  fun j hj => ⟨(hb.cell (p := ⟨g, j, none⟩) hg).trans (h j hj).1, (hb.frozen (p := ⟨g, j, none⟩) hg).trans (h j hj).2⟩
theorem Ints.set {w : World} {g n : Nat} {f : Nat → Int} (h : Ints w g n f) (k : Nat) (v : Int) (hk : k < n) : Ints (w.setCell ⟨g, k, none⟩ (.int .i64 v)) g n (fun x => if x = k then v else f x) := by
  intro j hj
  obtain ⟨a, b⟩ := h j hj
  refine ⟨?_, by simpa using b⟩
  by_cases e : j = k
  · subst e
    show _ = some (Value.int .i64 (if j = j then v else f j))
    rw [if_pos rfl]
    exact World.cell?_setCell_same _ _ _ (by rw [a])
  · show _ = some (Value.int .i64 (if j = k then v else f j))
    rw [if_neg e, World.cell?_setCell_other _ _ _ _ (fun q => e (congrArg Addr.off q).symm), a]
theorem Ints.apart {w : World} {g n : Nat} {f : Nat → Int} (h : Ints w g n f) (b k : Nat) (v : Value) (hb : b ≠ g) : Ints (w.setCell ⟨b, k, none⟩ v) g n f := by
  intro j hj
  obtain ⟨a, c⟩ := h j hj
  exact ⟨by rw [World.cell?_setCell_other _ _ _ _ (fun q => hb (congrArg Addr.block q)), a], by simpa using c⟩
theorem Ints.far {w1 w3 : World} {o : Obj} {row : Option Nat} {g n : Nat} {f : Nat → Int} (h : Ints w1 g n f) (hg : (w1.alloc o).grownBy w3 row) (hp : g < w1.heap.size) (hr : ∀ b, row = some b → b ≠ g) : Ints w3 g n f :=
  fun j hj => ⟨far_cell (p := ⟨g, j, none⟩) hg hp hr (h j hj).1, far_frozen (p := ⟨g, j, none⟩) hg hp hr (h j hj).2⟩
theorem zeros_ints (w : World) (T : TypeId) (n : Nat) : Ints (w.alloc (.cells (Array.replicate n (.int .i64 0)) T)) w.heap.size n (fun _ => 0) := by
  intro j hj
  have hh := heap_alloc_at w (.cells (Array.replicate n (.int .i64 0)) T) w.heap.size rfl
  simp only [World.cell?, World.frozen?, hh]
  simp [hj]
theorem grown_refl (w : World) (r : Option Nat) : w.grownBy w r := by constructor <;> simp
theorem wpList_append_all {P : Program} {w : World} {ops : Array Oper} {rest : List Oper} {o : Oper} {a : Act} {Q : Exit → Act → World → Prop} (hgd : o.guard = none) (s x : Operand) (t : TypeId)
    (ho : o.op = .call { callee := .builtin .append, args := #[s, x], argTypes := #[t, t] })
    (base : Nat) (e : TypeId) (i : TypeInfo) (z : Value) (size bytes : Nat) (ht : P.underlying t = some (.slice e)) (hi : P.info? e = some i) (hz : i.zero = some z)
    (hsize : i.size = size) (hby : i.bytes = bytes) (hzs : z.cells.size = size) (hsz : 0 < size)
    (v : Value) (n : Nat) (xs : List Value) (hs : a.eval s = v) (hown : w.ownsRow base e size v n xs)
    (sd : Option Addr) (m c : Nat) (news : List Value) (hx : a.eval x = .slice sd m c) (hnone : sd = none → m = 0 ∧ c = 0) (hl : news.length = m * size) (hnews : ∀ ad, sd = some ad → ∀ j u, news[j]? = some u → w.cell? (ad.add j) = some u) (h1 : ∀ u ∈ news, u.oneCell' = true)
    (h63 : n + m ≤ maxLen) (hbytes : (n + m) * bytes ≤ 140737488355328) (hbase : base ≤ w.heap.size)
    (h : ∀ v' w', w'.ownsRow base e size v' (n + m) (xs ++ news) → w.grownBy w' v.ownBlock → (v' = .slice none 0 0 ↔ v = .slice none 0 0 ∧ m = 0) → wpList P ops Q rest (a.put o.dst v') w') : wpList P ops Q (o :: rest) a w := by
  refine wpList_plain hgd fun K hK => ?_
  cases sd with
  | none =>
    obtain ⟨rfl, rfl⟩ := hnone rfl
    have hrun := run_append_owned_none (P := P) (w := w) base t o.type e i size ht hi v n xs hown
    obtain rfl : news = [] := List.length_eq_zero_iff.1 (by simpa using hl)
    unfold Oper.wp
    simp [execOp, ho, resolve, invoke, builtin, hs, hx, hrun, Result.andThen]
    exact hK _ _ (h v w (by simpa using hown) (grown_refl _ _) (by simp))
  | some ad =>
    obtain ⟨v', w', hr, h2, h3, h4, _⟩ := run_append_own_at (P := P) w base t o.type e i z size bytes ht hi hz hsize hby hzs hsz v n xs hown ad m c news hl (hnews ad rfl) h1 h63 hbytes hbase
    unfold Oper.wp
    simp [execOp, ho, resolve, invoke, builtin, hs, hx, hr, Result.andThen]
    exact hK _ _ (h v' w' h2 h3 h4)
theorem addr_add' (b o i : Nat) : (⟨b, o, none⟩ : Addr).add i = ⟨b, o + i, none⟩ := by
  unfold Addr.add
  by_cases h : i = 0 <;> simp [h]
theorem grown_cells {W w1 : World} {g : Nat} {n c : Nat} (h : W.grownBy w1 (Value.ownBlock (.slice (some ⟨g, 0, none⟩) n c))) : (∀ b o, b < W.heap.size → b ≠ g → w1.cell? ⟨b, o, none⟩ = W.cell? ⟨b, o, none⟩) ∧ (∀ b o, b < W.heap.size → b ≠ g → w1.frozen? ⟨b, o, none⟩ = W.frozen? ⟨b, o, none⟩) :=
  ⟨fun b o hb hn => h.cell_far ⟨b, o, none⟩ hb (fun q => hn (by simpa [Value.ownBlock] using q)), fun b o hb hn => h.frozen_far ⟨b, o, none⟩ hb (fun q => hn (by simpa [Value.ownBlock] using q))⟩
theorem run_make_known {P : Program} (t e : TypeId) (z : Value) (sz bytes : Nat) (ht : P.underlying t = some (.slice e)) (hinfo : (P.info? e).map (fun i => (i.zero, i.size, i.bytes)) = some (some z, sz, bytes)) (n : Nat) (hn : bytes * n ≤ 281474976710656) (h63 : n ≤ 9223372036854775807) (w : World) :
    (Instr.makeSlice t (.int .i64 (n : Int)) (.int .i64 (n : Int))).run P w = .ok (.slice (some ⟨w.heap.size, 0, none⟩) n n) (w.alloc (.cells (madeCells z.cells (n * sz)) e)) := by
  obtain ⟨i, hi, he⟩ := Option.map_eq_some_iff.1 hinfo
  simp only [Prod.mk.injEq] at he
  obtain ⟨h1, h2, h3⟩ := he
  subst h2 h3
  have hb : (i.bytes : Int) * (n : Int) ≤ 281474976710656 := by
    have h : ((i.bytes * n : Nat) : Int) ≤ 281474976710656 := by omega
    rwa [Int.natCast_mul] at h
  have h := run_make (P := P) w t e i z ht hi h1 .i64 .i64 (n : Int) (n : Int) (by omega) (Int.le_refl _) hb (by omega)
  simpa using h

/-- A row of one's own, cut. -/
theorem owns_cut {w : World} {B sz : Nat} {e : TypeId} {n : Nat} {xs : List Value} {g cap : Nat} (h : w.ownsRow B e sz (.slice (some ⟨g, 0, none⟩) n cap) n xs) (m : Nat) (hm : m ≤ n) : w.ownsRow B e sz (.slice (some ⟨g, 0, none⟩) m cap) m (xs.take (m * sz)) := by
  obtain ⟨h0, h⟩ := h
  have hle : m * sz ≤ n * sz := Nat.mul_le_mul_right _ hm
  rcases h with ⟨h, _⟩ | ⟨g', cap', cur, hv, hg, hh, h1, h2, h3, h4⟩
  · cases h
  · cases hv
    refine ⟨by rw [List.length_take, h0]; omega, Or.inr ⟨g, cap, cur, rfl, hg, hh, by omega, h2, h3, ?_⟩⟩
    rw [← h4, List.take_take, Nat.min_eq_left hle]
def slLen : Value → Nat
  | .slice _ n _ => n
  | _ => 0
theorem drew_owns {w : World} {B sz : Nat} {e : TypeId} {v : Value} {n : Nat} {xs : List Value} (h : w.ownsRow B e sz v n xs) (k : Nat) : (w.drewN k).ownsRow B e sz v n xs := h

/-- The nodes lie in memory. -/
structure NodesAt (w : World) (base : Option Addr) (b o : Nat) (t : NL) : Prop where
  base : t.length ≠ 0 → base = some ⟨b, o, none⟩
  lt : t.length ≠ 0 → b < w.heap.size
  cells : ∀ i, i < t.length → w.cell? ⟨b, o + i * 6, none⟩ = some (.int .i64 (ndAt t i).key) ∧ w.cell? ⟨b, o + i * 6 + 1, none⟩ = some (.int .i64 (ndAt t i).inf) ∧ w.cell? ⟨b, o + i * 6 + 2, none⟩ = some (.int .i64 (ndAt t i).wt) ∧ w.cell? ⟨b, o + i * 6 + 3, none⟩ = some (.int .i64 (ndAt t i).val) ∧ w.cell? ⟨b, o + i * 6 + 4, none⟩ = some (.int .i64 (ndAt t i).l) ∧ w.cell? ⟨b, o + i * 6 + 5, none⟩ = some (.int .i64 (ndAt t i).r)
  len : t.length ≤ maxLen
theorem NodesAt.below {w w' : World} {base : Option Addr} {b o : Nat} {t : NL} (h : NodesAt w base b o t) (hb : Below w.heap.size w w') : NodesAt w' base b o t := by
  refine ⟨h.base, fun hn => Nat.lt_of_lt_of_le (h.lt hn) hb.size, fun i hi => ?_, h.len⟩
  have hl := h.lt (by omega)
  have hc : ∀ j, w'.cell? ⟨b, j, none⟩ = w.cell? ⟨b, j, none⟩ := fun j => hb.cell (p := ⟨b, j, none⟩) hl
  simp only [hc]
  exact h.cells i hi
/-- The nodes stand where only blocks from B on have turned. -/
theorem NodesAt.belowB {w w' : World} {B : Nat} {base : Option Addr} {b o : Nat} {t : NL} (h : NodesAt w base b o t) (hb : Below B w w') (hB : t.length ≠ 0 → b < B) : NodesAt w' base b o t := by
  refine ⟨h.base, fun hn => Nat.lt_of_lt_of_le (h.lt hn) hb.size, fun i hi => ?_, h.len⟩
  have hl := hB (by omega)
  have hc : ∀ j, w'.cell? ⟨b, j, none⟩ = w.cell? ⟨b, j, none⟩ := fun j => hb.cell (p := ⟨b, j, none⟩) hl
  simp only [hc]
  exact h.cells i hi

/-- The cells of one node, of a list of nodes. -/
def ndC (n : NdD) : List Value := [.int .i64 n.key, .int .i64 n.inf, .int .i64 n.wt, .int .i64 n.val, .int .i64 n.l, .int .i64 n.r]
def ndCells : NL → List Value
  | [] => []
  | n :: t => .int .i64 n.key :: .int .i64 n.inf :: .int .i64 n.wt :: .int .i64 n.val :: .int .i64 n.l :: .int .i64 n.r :: ndCells t
theorem ndCells_append : ∀ a b : NL, ndCells (a ++ b) = ndCells a ++ ndCells b
  | [], _ => rfl
  | n :: t, b => by simp [ndCells, ndCells_append t b]
theorem ndCells_one (n : NdD) : ndCells [n] = ndC n := rfl
theorem ndCells_length : ∀ t : NL, (ndCells t).length = t.length * 6
  | [] => rfl
  | n :: t => by simp [ndCells, ndCells_length t]; omega
theorem ndCells_get : ∀ (t : NL) (i : Nat), i < t.length → (ndCells t)[i * 6]? = some (.int .i64 (ndAt t i).key) ∧ (ndCells t)[i * 6 + 1]? = some (.int .i64 (ndAt t i).inf) ∧ (ndCells t)[i * 6 + 2]? = some (.int .i64 (ndAt t i).wt) ∧ (ndCells t)[i * 6 + 3]? = some (.int .i64 (ndAt t i).val) ∧ (ndCells t)[i * 6 + 4]? = some (.int .i64 (ndAt t i).l) ∧ (ndCells t)[i * 6 + 5]? = some (.int .i64 (ndAt t i).r)
  | [], i, h => by simp at h
  | p :: t, 0, _ => by simp [ndCells, ndAt]
  | p :: t, i + 1, h => by
    have ih := ndCells_get t i (by simpa using h)
    have e : (i + 1) * 6 = i * 6 + 1 + 1 + 1 + 1 + 1 + 1 := by omega
    rw [e]
    simpa [ndCells, ndAt] using ih
theorem ndCells_all (t : NL) : ∀ u ∈ ndCells t, u.oneCell' = true := by
  induction t with
  | nil => simp [ndCells]
  | cons p t ih => intro u hu; simp [ndCells] at hu; rcases hu with rfl | rfl | rfl | rfl | rfl | rfl | hu <;> first | rfl | exact ih u hu
theorem nodes_of_cells {w : World} {g : Nat} {t : NL} (hc : ∀ j, j < t.length * 6 → w.cell? ⟨g, j, none⟩ = (ndCells t)[j]?) (hg : g < w.heap.size) (hn : t.length ≤ maxLen) : NodesAt w (some ⟨g, 0, none⟩) g 0 t := by
  refine ⟨fun _ => rfl, fun _ => hg, fun i hi => ?_, hn⟩
  obtain ⟨a, b, c, d, e, f⟩ := ndCells_get t i hi
  simp only [Nat.zero_add]
  exact ⟨by rw [hc _ (by omega)]; exact a, by rw [hc _ (by omega)]; exact b, by rw [hc _ (by omega)]; exact c, by rw [hc _ (by omega)]; exact d, by rw [hc _ (by omega)]; exact e, by rw [hc _ (by omega)]; exact f⟩
/-- An owned row of nodes is a slice of nodes. -/
theorem nodes_of_owns {w : World} {B : Nat} {e : TypeId} {v : Value} {t : NL} (h : w.ownsRow B e 6 v t.length (ndCells t)) :
    ∃ base cap g, v = .slice base t.length cap ∧ (t.length ≠ 0 → B ≤ g) ∧ (base = none → t.length = 0 ∧ cap = 0) ∧ NodesAt w base g 0 t := by
  obtain ⟨_, h⟩ := h
  rcases h with ⟨rfl, h0⟩ | ⟨g, cap, cur, rfl, hg, hh, h1, h2, h3, h4⟩
  · exact ⟨none, 0, 0, by rw [h0], fun h => absurd h0 h, fun _ => ⟨h0, rfl⟩, fun h => absurd h0 h, fun h => absurd h0 h, fun i hi => by omega, by rw [h0]; omega⟩
  · refine ⟨_, _, g, rfl, fun _ => hg, (fun h => by cases h), nodes_of_cells (fun j hj => ?_) (Array.getElem?_eq_some_iff.1 hh).1 (by omega)⟩
    rw [← h4, List.getElem?_take, if_pos hj]
    simp [World.cell?, hh]

/-- Rows of places. -/
def natC (L : List Nat) : List Value := L.map (fun x : Nat => Value.int .i64 (x : Int))
theorem natC_length (L : List Nat) : (natC L).length = L.length := by simp [natC]
theorem natC_append (a b : List Nat) : natC (a ++ b) = natC a ++ natC b := by simp [natC]
theorem natC_get (L : List Nat) (i : Nat) (h : i < L.length) : (natC L)[i]? = some (.int .i64 ((L.getD i 0 : Nat) : Int)) := by
  simp [natC, List.getElem?_map, List.getD_eq_getElem?_getD, List.getElem?_eq_getElem h]
theorem natC_all (L : List Nat) : ∀ u ∈ natC L, u.oneCell' = true := by
  intro u hu
  simp [natC] at hu
  obtain ⟨x, _, rfl⟩ := hu
  rfl
/-- A slice of places. -/
structure PlsAt (w : World) (base : Option Addr) (g : Nat) (L : List Nat) : Prop where
  base : L.length ≠ 0 → base = some ⟨g, 0, none⟩
  lt : L.length ≠ 0 → g < w.heap.size
  cells : ∀ i, i < L.length → w.cell? ⟨g, i, none⟩ = some (.int .i64 ((L.getD i 0 : Nat) : Int))
  len : L.length ≤ maxLen
theorem PlsAt.below {w w' : World} {base : Option Addr} {g : Nat} {L : List Nat} (h : PlsAt w base g L) (hb : Below w.heap.size w w') : PlsAt w' base g L :=
  ⟨h.base, fun hn => Nat.lt_of_lt_of_le (h.lt hn) hb.size, fun i hi => (hb.cell (p := ⟨g, i, none⟩) (h.lt (by omega))).trans (h.cells i hi), h.len⟩
theorem PlsAt.belowB {w w' : World} {B : Nat} {base : Option Addr} {g : Nat} {L : List Nat} (h : PlsAt w base g L) (hb : Below B w w') (hB : L.length ≠ 0 → g < B) : PlsAt w' base g L :=
  ⟨h.base, fun hn => Nat.lt_of_lt_of_le (h.lt hn) hb.size, fun i hi => (hb.cell (p := ⟨g, i, none⟩) (hB (by omega))).trans (h.cells i hi), h.len⟩
theorem pls_of_owns {w : World} {B : Nat} {e : TypeId} {v : Value} {L : List Nat} (h : w.ownsRow B e 1 v L.length (natC L)) :
    ∃ base cap g, v = .slice base L.length cap ∧ (L.length ≠ 0 → B ≤ g) ∧ (base = none → L.length = 0 ∧ cap = 0) ∧ PlsAt w base g L := by
  obtain ⟨_, h⟩ := h
  rcases h with ⟨rfl, h0⟩ | ⟨g, cap, cur, rfl, hg, hh, h1, h2, h3, h4⟩
  · exact ⟨none, 0, 0, by rw [h0], fun h => absurd h0 h, fun _ => ⟨h0, rfl⟩, fun h => absurd h0 h, fun h => absurd h0 h, fun i hi => by omega, by rw [h0]; omega⟩
  · refine ⟨_, _, g, rfl, fun _ => hg, (fun h => by cases h), fun _ => rfl, fun _ => (Array.getElem?_eq_some_iff.1 hh).1, fun i hi => ?_, by omega⟩
    rw [← natC_get L i hi, ← h4, List.getElem?_take, if_pos (by omega)]
    simp [World.cell?, hh]
theorem box_cells {w : World} {b : Nat} {v0 v1 v2 v3 v4 v5 : Value} {T : TypeId} (h : w.heap[b]? = some (.cells #[v0, v1, v2, v3, v4, v5] T)) : b < w.heap.size ∧ w.cell? ⟨b, 0, none⟩ = some v0 ∧ w.cell? ⟨b, 1, none⟩ = some v1 ∧ w.cell? ⟨b, 2, none⟩ = some v2 ∧ w.cell? ⟨b, 3, none⟩ = some v3 ∧ w.cell? ⟨b, 4, none⟩ = some v4 ∧ w.cell? ⟨b, 5, none⟩ = some v5 := by
  refine ⟨(Array.getElem?_eq_some_iff.1 h).1, ?_, ?_, ?_, ?_, ?_, ?_⟩ <;> simp [World.cell?, h]
end Go.Proofs.Ythdfpddijocfkaa

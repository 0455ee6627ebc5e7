
/- Layer 16: Leaves of both: slices.IndexFunc and slices.DeleteFunc at places, by the program's question. -/

import Derived.Test.YthdfpddijocfkaaTHgt

import Derived.Lib.SliceRun

import Derived.Laws.IdiomCopy

namespace Go.Proofs.Ythdfpddijocfkaa

open Go.RowKit

attribute [local go_sem ↓] Go.wp_at_zero Go.wp_at_succ

def lfB (t : NL) (x : Nat) : Bool := decide ((ndAt t x).l = -1)
/-- The leaves among places. -/
def lvL (t : NL) (L : List Nat) : List Nat := L.filter (lfB t)
theorem lv_snoc (t : NL) (L : List Nat) (x : Nat) : lvL t (L ++ [x]) = if lfB t x then lvL t L ++ [x] else lvL t L := by
  unfold lvL
  rw [List.filter_append]
  by_cases h : lfB t x = true
  · rw [if_pos h, List.filter_cons_of_pos h, List.filter_nil]
  · rw [if_neg h, List.filter_cons_of_neg h, List.filter_nil, List.append_nil]
theorem take_snocL {L : List Nat} {j : Nat} (h : j < L.length) : L.take (j + 1) = L.take j ++ [L.getD j 0] := by
  rw [List.take_succ_eq_append_getElem h, List.getD_eq_getElem?_getD, List.getElem?_eq_getElem h]
  rfl
theorem lv_all {t : NL} {L : List Nat} (h : ∀ k, k < L.length → lfB t (L.getD k 0) = true) : ∀ j, j ≤ L.length → lvL t (L.take j) = L.take j
  | 0, _ => by simp [lvL]
  | j + 1, hj => by rw [take_snocL (by omega), lv_snoc, if_pos (h j (by omega)), lv_all h j (by omega)]
/-- A place is one of the table, and a leaf or an inner node. -/
def PlOk (t : NL) (x : Nat) : Prop := x < t.length ∧ (((ndAt t x).l = -1 ∧ (ndAt t x).r = -1) ∨ (ndAt t x).l ≠ -1)
theorem pl_leaf {t : NL} {x : Nat} (h : PlOk t x) : leafB (ndAt t x) = lfB t x := by
  rcases h.2 with ⟨h1, h2⟩ | h1
  · rw [leafB_yes h1 h2]; simp [lfB, h1]
  · rw [leafB_no h1]; simp [lfB, h1]
/-- The box that holds the table. -/
structure BoxAt (w : World) (bx : Nat) (b o c : Nat) (t : NL) : Prop where
  cell : w.cell? ⟨bx, 0, none⟩ = some (.slice (some ⟨b, o, none⟩) t.length c)
  lt : bx < w.heap.size
  blt : b < w.heap.size
  nodes : NodesAt w (some ⟨b, o, none⟩) b o t

theorem BoxAt.below {w w' : World} {B bx b o c : Nat} {t : NL} (h : BoxAt w bx b o c t) (hb : Below B w w') (h1 : bx < B) (h2 : b < B) : BoxAt w' bx b o c t :=
  ⟨(hb.cell (p := ⟨bx, 0, none⟩) h1).trans h.cell, Nat.lt_of_lt_of_le h.lt hb.size, Nat.lt_of_lt_of_le h.blt hb.size, h.nodes.belowB hb (fun _ => h2)⟩
theorem run_clear_one {P : Program} (w : World) (t e ty : TypeId) (ht : P.underlying t = some (.slice e)) (hv : ∀ w, (zeroValue e).run P w = .ok (.int .i64 0) w) (b o n c : Nat) (hn : 0 < n)
    (hc : ∀ j, j < n → (w.cell? ⟨b, o + j, none⟩).isSome = true) (hf : ∀ j, j < n → w.frozen? ⟨b, o + j, none⟩ = false) :
    (Builtin.clear_ #[t] ty #[.slice (some ⟨b, o, none⟩) n c]).run P w = .ok (.tuple #[]) (w.setCells b o (List.replicate n (.int .i64 0))) := by
  have hzc : (Builtin.zeroCells (Value.int .i64 0).cells n).toList = List.replicate n (.int .i64 0) := by
    have hcs : (Value.int .i64 0).cells = #[.int .i64 0] := rfl
    rw [hcs]
    simp [Builtin.zeroCells]
    apply List.ext_getElem
    · simp
    · intro i h1 h2
      simp [Nat.mod_one]
  have hst := run_storeCells_cells (P := P) b o (List.replicate n (.int .i64 0)) 0 w (by simpa using hc) (by simpa using hf) (by intro v hv'; rw [List.eq_of_mem_replicate hv']; rfl)
  simp only [Nat.add_zero] at hst
  obtain ⟨m, rfl⟩ : ∃ m, n = m + 1 := ⟨n - 1, by omega⟩
  simp [Builtin.clear_, run_underlying ht, hv, hzc, hst]
theorem below_setCells {B : Nat} {w0 : World} (g : Nat) (hg : B ≤ g) : ∀ (vs : List Value) (o : Nat) (w : World), Below B w0 w → Below B w0 (w.setCells g o vs)
  | [], _, _, h => h
  | v :: vs, o, w, h => below_setCells g hg vs (o + 1) _ (h.setCell (by simpa using hg) v)
theorem getD_snoc (l : List Nat) (x i : Nat) : (l ++ [x]).getD i 0 = if i < l.length then l.getD i 0 else if i = l.length then x else 0 := by
  by_cases h : i < l.length
  · rw [if_pos h, List.getD_eq_getElem?_getD, List.getElem?_append_left h, ← List.getD_eq_getElem?_getD]
  · rw [if_neg h, List.getD_eq_getElem?_getD, List.getElem?_append_right (by omega)]
    by_cases e : i = l.length
    · rw [if_pos e, e]; simp
    · rw [if_neg e, List.getElem?_eq_none (by simp; omega)]; rfl
theorem lv_first {t : NL} {L : List Nat} {k : Nat} (hk : k < L.length) (h1 : lfB t (L.getD k 0) = false) (h2 : ∀ m, m < k → lfB t (L.getD m 0) = true) : lvL t (L.take (k + 1)) = L.take k := by
  have h3 : ∀ j, j ≤ k → lvL t (L.take j) = L.take j := by
    intro j
    induction j with
    | zero => intro _; simp [lvL]
    | succ j ih => intro hj; rw [take_snocL (by omega), lv_snoc, if_pos (h2 j (by omega)), ih (by omega)]
  rw [take_snocL hk, lv_snoc, if_neg (by rw [h1]; exact Bool.false_ne_true), h3 k (Nat.le_refl _)]

end Go.Proofs.Ythdfpddijocfkaa

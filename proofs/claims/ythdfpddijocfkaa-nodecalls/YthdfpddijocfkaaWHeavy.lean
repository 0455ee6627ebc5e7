
/- Layer 17: Heavy. -/

import Derived.Test.YthdfpddijocfkaaWVio

namespace Go.Proofs.Ythdfpddijocfkaa

open Go.RowKit

attribute [local go_sem ↓] Go.wp_at_zero Go.wp_at_succ

/-- A slice of numbers, handed in. -/
structure WsAt (w : World) (base : Option Addr) (g o : Nat) (L : List Int) : Prop where
  base : L.length ≠ 0 → base = some ⟨g, o, none⟩
  lt : L.length ≠ 0 → g < w.heap.size
  cells : ∀ i, i < L.length → w.cell? ⟨g, o + i, none⟩ = some (.int .i64 (L.getD i 0))
  len : L.length ≤ maxLen
theorem WsAt.below {w w' : World} {base : Option Addr} {g o : Nat} {L : List Int} (h : WsAt w base g o L) (hb : Below w.heap.size w w') : WsAt w' base g o L :=
  ⟨h.base, fun hn => Nat.lt_of_lt_of_le (h.lt hn) hb.size, fun i hi => (hb.cell (p := ⟨g, o + i, none⟩) (h.lt (by omega))).trans (h.cells i hi), h.len⟩
theorem isC_get (L : List Int) (i : Nat) (h : i < L.length) : (isC L)[i]? = some (.int .i64 (L.getD i 0)) := by
  simp [isC, List.getElem?_map, List.getD_eq_getElem?_getD, List.getElem?_eq_getElem h]
theorem ws_of_owns {w : World} {B : Nat} {e : TypeId} {v : Value} {L : List Int} (h : w.ownsRow B e 1 v L.length (isC L)) :
    ∃ base cap g, v = .slice base L.length cap ∧ (L.length ≠ 0 → B ≤ g) ∧ (base = none → L.length = 0 ∧ cap = 0) ∧ WsAt w base g 0 L := by
  obtain ⟨_, h⟩ := h
  rcases h with ⟨rfl, h0⟩ | ⟨g, cap, cur, rfl, hg, hh, h1, h2, h3, h4⟩
  · exact ⟨none, 0, 0, by rw [h0], fun h => absurd h0 h, fun _ => ⟨h0, rfl⟩, fun h => absurd h0 h, fun h => absurd h0 h, fun i hi => by omega, by rw [h0]; omega⟩
  · refine ⟨_, _, g, rfl, fun _ => hg, (fun h => by cases h), fun _ => rfl, fun _ => (Array.getElem?_eq_some_iff.1 hh).1, fun i hi => ?_, by omega⟩
    rw [← isC_get L i hi, ← h4, List.getElem?_take, if_pos (by omega), Nat.zero_add]
    simp [World.cell?, hh]
def noW (k : Int) : Bool := decide (k < 0) || decide (1000000 < k)
/-- A node's weight set. -/
def setW (T : NL) (i : Nat) (a : Int) : NL := T.set i ⟨(ndAt T i).key, (ndAt T i).inf, a, (ndAt T i).val, (ndAt T i).l, (ndAt T i).r⟩
theorem setW_length (T : NL) (i : Nat) (a : Int) : (setW T i a).length = T.length := by simp [setW]
def wtN (N : NL) (W : List Int) : Nat → NL
  | 0 => N
  | m + 1 => setW (wtN N W m) (2 + m) (W.getD m 0)
theorem wtN_length (N : NL) (W : List Int) : ∀ m, (wtN N W m).length = N.length
  | 0 => rfl
  | m + 1 => by simp only [wtN]; rw [setW_length, wtN_length N W m]
noncomputable def heavyE (t : NL) (W : List Int) : Int := if keyE t ≠ 0 then keyE t else if W.length ≠ (keysA t).length ∨ W.any noW = true then 1 else 0
noncomputable def heavyA (t : NL) (W : List Int) : NL := if heavyE t W = 0 then wtN (normL t) W W.length else []
theorem keys_room {t : NL} (h : (rootR t).2 = 0) : (keysA t).length + 2 ≤ t.length := by
  have he := rootR_form h
  obtain ⟨-, hf⟩ := formE_ok he
  obtain ⟨x, b, hx, hxl, hb, hk, -, -⟩ := keys_lay h
  obtain ⟨L', hL', hl'⟩ := hb.tree
  rw [hk, BT.lay_length, ← hl']
  obtain ⟨L, h1, -, h3⟩ := hf.tree
  unfold rootR at hx
  rw [if_neg (by simp [he])] at hx
  split at hx
  · simp at hx
  · rename_i q1
    split at hx
    · simp at hx
    · split at hx
      · simp at hx
      · rename_i q2 q3
        split at hx
        · have e := congrArg Prod.fst hx
          simp only at e
          have k1 : leafB (ndAt t 0) = false := by
            unfold archB at q1
            cases q : leafB (ndAt t 0)
            · rfl
            · rw [q] at q1; simp at q1
          obtain ⟨l, r, hl, hr, hll, hrl⟩ := inner_lr hf hf.pos k1
          rw [hl, Int.toNat_natCast] at q3 e
          have k2 : leafB (ndAt t l) = false := by
            unfold archB at q3
            cases q : leafB (ndAt t l)
            · rfl
            · rw [q] at q3; simp at q3
          cases h1 with
          | leaf _ a _ => rw [a] at hl; omega
          | @inner _ l2 r2 L1 R1 _ a1 a2 t1 t2 =>
            have : l2 = l := by rw [a1] at hl; omega
            subst this
            cases t1 with
            | leaf _ a _ => rw [a] at e; omega
            | @inner _ l3 r3 L2 R2 _ a3 a4 t3 t4 =>
              have : l3 = x := by rw [a3] at e; omega
              subst this
              have := (namL_tree t3).det hL'
              subst this
              simp at h3
              omega
        · simp at hx
theorem MAt.wt {w0 x : World} {g cap : Nat} {T : NL} (h : MAt w0 x g cap T) (i : Nat) (hi : i < T.length) : x.cell? ⟨g, i * 6 + 2, none⟩ = some (.int .i64 (ndAt T i).wt) ∧ x.frozen? ⟨g, i * 6 + 2, none⟩ = false := by
  obtain ⟨g', cap', hv, -, -, -, -, hc, hfr⟩ := owns_some h.own (by omega)
  injection hv with e1 _ _
  injection e1 with e1
  injection e1 with e1 _ _
  subst e1
  obtain ⟨-, -, b2, -⟩ := ndCells_get T i hi
  exact ⟨(hc _ (by omega)).trans b2, hfr _⟩
theorem MAt.putW {w0 x : World} {g cap : Nat} {T : NL} (h : MAt w0 x g cap T) (i : Nat) (a : Int) (hi : i < T.length) (hg : w0.heap.size ≤ g) : MAt w0 (x.setCell ⟨g, i * 6 + 2, none⟩ (.int .i64 a)) g cap (setW T i a) := by
  refine ⟨?_, h.below.setCell hg _⟩
  unfold setW
  rw [ndCells_setK 2 (.int .i64 a) T i _ hi (by omega) (fun j hj hn => by
    have c : j = 0 ∨ j = 1 ∨ j = 3 ∨ j = 4 ∨ j = 5 := by omega
    rcases c with rfl | rfl | rfl | rfl | rfl <;> rfl) rfl, List.length_set]
  exact owns_put h.own _ _
end Go.Proofs.Ythdfpddijocfkaa

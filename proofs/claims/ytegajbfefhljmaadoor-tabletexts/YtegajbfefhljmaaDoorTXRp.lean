
/- Layer 16: the document's Read: what it asks, pure; its two rows. -/

import Derived.Test.YtegajbfefhljmaaDoorTXO

import Derived.Test.YtegajbfefhljmaaDoorTRd2

namespace Go.Proofs.YtegajbfefhljmaaDoor

open Go.RowKit

theorem tp_none {k : Nat} {l : List UInt8} {N : NL} {O : List Nat} (h : nodeP l N O = none) : treeP (k + 1) l N O = none := by
  unfold treeP
  rw [h]
theorem tp_in {k : Nat} {l l1 : List UInt8} {N N1 : NL} {O O1 : List Nat} (h : nodeP l N O = some (true, l1, N1, O1)) : treeP (k + 1) l N O = treeP k l1 N1 O1 := by
  conv => lhs; unfold treeP
  rw [h]
theorem tp_lf {k : Nat} {l l1 : List UInt8} {N N1 : NL} {O O1 : List Nat} (h : nodeP l N O = some (false, l1, N1, O1)) : treeP (k + 1) l N O = contP k l1 N1 O1 := by
  conv => lhs; unfold treeP
  rw [h]
  rfl
theorem open_inf {l r : List UInt8} {d : NdD} (h : openR l = some (d, r)) : d.inf = 0 ∨ d.inf = 1 := by
  unfold openR at h
  split at h
  · split at h
    · rename_i d1 l1 hk
      have hd : d1.inf = 0 ∨ d1.inf = 1 := by
        unfold keyR at hk
        split at hk
        · obtain ⟨rfl, -⟩ := Prod.mk.inj (Option.some.inj hk)
          exact Or.inr rfl
        · cases hr : rnum (Lib.trimPrefix l [40]) with
          | none => rw [hr] at hk; cases hk
          | some q =>
            rw [hr] at hk
            obtain ⟨rfl, -⟩ := Prod.mk.inj (Option.some.inj hk)
            exact Or.inl rfl
      split at h
      · unfold weightR at h
        split at h
        · split at h
          · obtain ⟨rfl, -⟩ := Prod.mk.inj (Option.some.inj h)
            exact hd
          · cases h
        · cases h
      · cases h
    · cases h
  · cases h
section
variable {l : List UInt8} {p q : Nat} {N : NL} {O : List Nat} {d : NdD}
theorem nr_no (h : openR (l.drop p) = none) : nodeP (l.drop p) N O = none := by
  rw [← nodeR_eq]
  unfold nodeR
  rw [h]
theorem nr_in (h : openR (l.drop p) = some (d, l.drop q)) (hq : q < l.length) (hc : l.getD q 0 = 32) : nodeP (l.drop p) N O = some (true, l.drop (q + 1), addP N O d, O ++ [N.length]) := by
  rw [← nodeR_eq]
  unfold nodeR
  rw [h]
  simp only
  rw [if_pos (pre_at hq hc).1, (pre_at hq hc).2]
theorem nr_end (h : openR (l.drop p) = some (d, l.drop q)) (hq : l.length ≤ q) : nodeP (l.drop p) N O = none := by
  have e : ∀ c : UInt8, Lib.hasPrefix (l.drop q) [c] = false := fun c => pre_no (fun z => by omega)
  rw [← nodeR_eq]
  unfold nodeR
  rw [h]
  simp only
  rw [if_neg (by rw [e]; simp)]
  split
  · rw [if_neg (by rw [e]; simp)]
  · unfold valueR
    rw [if_neg (by rw [e]; simp)]
theorem nr_i41 (h : openR (l.drop p) = some (d, l.drop q)) (hq : q < l.length) (hi : d.inf = 1) (hc : l.getD q 0 = 41) : nodeP (l.drop p) N O = some (false, l.drop (q + 1), addP N O d, O) := by
  rw [← nodeR_eq]
  unfold nodeR
  rw [h]
  simp only
  rw [if_neg (by rw [pre_no (fun _ => by rw [hc]; decide)]; simp), if_pos hi, if_pos (pre_at hq hc).1, (pre_at hq hc).2]
theorem nr_ibad (h : openR (l.drop p) = some (d, l.drop q)) (hi : d.inf = 1) (h32 : l.getD q 0 ≠ 32) (hc : l.getD q 0 ≠ 41) : nodeP (l.drop p) N O = none := by
  rw [← nodeR_eq]
  unfold nodeR
  rw [h]
  simp only
  rw [if_neg (by rw [pre_no (fun _ => h32)]; simp), if_pos hi, if_neg (by rw [pre_no (fun _ => hc)]; simp)]
theorem nr_v61 (h : openR (l.drop p) = some (d, l.drop q)) (hi : d.inf = 0) (h32 : l.getD q 0 ≠ 32) (hc : l.getD q 0 ≠ 61) : nodeP (l.drop p) N O = none := by
  rw [← nodeR_eq]
  unfold nodeR
  rw [h]
  simp only
  rw [if_neg (by rw [pre_no (fun _ => h32)]; simp), if_neg (by omega)]
  unfold valueR
  rw [if_neg (by rw [pre_no (fun _ => hc)]; simp)]
theorem nr_vn (h : openR (l.drop p) = some (d, l.drop q)) (hq : q < l.length) (hi : d.inf = 0) (hc : l.getD q 0 = 61) (hr : rnum (l.drop (q + 1)) = none) : nodeP (l.drop p) N O = none := by
  rw [← nodeR_eq]
  unfold nodeR
  rw [h]
  simp only
  rw [if_neg (by rw [pre_no (fun _ => by rw [hc]; decide)]; simp), if_neg (by omega)]
  unfold valueR
  rw [if_pos (pre_at hq hc).1, (pre_at hq hc).2, hr]
  rfl
theorem nr_vbad {v : Int} {r : Nat} (h : openR (l.drop p) = some (d, l.drop q)) (hq : q < l.length) (hi : d.inf = 0) (hc : l.getD q 0 = 61) (hr : rnum (l.drop (q + 1)) = some (v, l.drop r)) (hb : r < l.length → l.getD r 0 ≠ 41) : nodeP (l.drop p) N O = none := by
  rw [← nodeR_eq]
  unfold nodeR
  rw [h]
  simp only
  rw [if_neg (by rw [pre_no (fun _ => by rw [hc]; decide)]; simp), if_neg (by omega)]
  unfold valueR
  rw [if_pos (pre_at hq hc).1, (pre_at hq hc).2, hr]
  simp only [Option.map_some]
  rw [if_neg (by rw [pre_no hb]; simp)]
theorem nr_v41 {v : Int} {r : Nat} (h : openR (l.drop p) = some (d, l.drop q)) (hq : q < l.length) (hi : d.inf = 0) (hc : l.getD q 0 = 61) (hr : rnum (l.drop (q + 1)) = some (v, l.drop r)) (hrl : r < l.length) (hb : l.getD r 0 = 41) : nodeP (l.drop p) N O = some (false, l.drop (r + 1), (addP N O d).set ((addP N O d).length - 1) { ndAt (addP N O d) ((addP N O d).length - 1) with val := v }, O) := by
  rw [← nodeR_eq]
  unfold nodeR
  rw [h]
  simp only
  rw [if_neg (by rw [pre_no (fun _ => by rw [hc]; decide)]; simp), if_neg (by omega)]
  unfold valueR
  rw [if_pos (pre_at hq hc).1, (pre_at hq hc).2, hr]
  simp only [Option.map_some]
  rw [if_pos (pre_at hrl hb).1, (pre_at hrl hb).2]
end
section
variable {l : List UInt8} {z j : Nat} {N : NL} {O : List Nat}
theorem cl_more (hr : (ndAt N (O.getD j 0)).r = -1) (hz : z < l.length) (hc : l.getD z 0 = 32) : closeP (j + 1) (l.drop z) N (O.take (j + 1)) = some (true, l.drop (z + 1), O.take (j + 1)) := by
  have e : (O.take (j + 1)).getD j 0 = O.getD j 0 := by rw [List.getD_eq_getElem?_getD, List.getElem?_take_of_lt (by omega), List.getD_eq_getElem?_getD]
  unfold closeP
  rw [e, if_pos hr, if_pos (pre_at hz hc).1, (pre_at hz hc).2, List.take_take, Nat.min_self]
theorem cl_mbad (hr : (ndAt N (O.getD j 0)).r = -1) (hc : z < l.length → l.getD z 0 ≠ 32) : closeP (j + 1) (l.drop z) N (O.take (j + 1)) = none := by
  have e : (O.take (j + 1)).getD j 0 = O.getD j 0 := by rw [List.getD_eq_getElem?_getD, List.getElem?_take_of_lt (by omega), List.getD_eq_getElem?_getD]
  unfold closeP
  rw [e, if_pos hr, if_neg (by rw [pre_no hc]; simp)]
theorem cl_up (hr : (ndAt N (O.getD j 0)).r ≠ -1) (hz : z < l.length) (hc : l.getD z 0 = 41) : closeP (j + 1) (l.drop z) N (O.take (j + 1)) = closeP j (l.drop (z + 1)) N (O.take j) := by
  have e : (O.take (j + 1)).getD j 0 = O.getD j 0 := by rw [List.getD_eq_getElem?_getD, List.getElem?_take_of_lt (by omega), List.getD_eq_getElem?_getD]
  conv => lhs; unfold closeP
  rw [e, if_neg hr, if_pos (pre_at hz hc).1, (pre_at hz hc).2, List.take_take, Nat.min_eq_left (by omega)]
theorem cl_ubad (hr : (ndAt N (O.getD j 0)).r ≠ -1) (hc : z < l.length → l.getD z 0 ≠ 41) : closeP (j + 1) (l.drop z) N (O.take (j + 1)) = none := by
  have e : (O.take (j + 1)).getD j 0 = O.getD j 0 := by rw [List.getD_eq_getElem?_getD, List.getElem?_take_of_lt (by omega), List.getD_eq_getElem?_getD]
  unfold closeP
  rw [e, if_neg hr, if_neg (by rw [pre_no hc]; simp)]
end
section
variable {l : List UInt8} (hl : l.length ≤ 8000000)
include hl
theorem fin_no (h : treeP (l.length + 1) l [] [] = none) : readE l = 7 ∧ readL l = [] := by
  unfold readE readL
  rw [if_neg (by omega), if_neg (by omega), h]
  exact ⟨rfl, rfl⟩
theorem fin_more {z : Nat} {N : NL} (h : treeP (l.length + 1) l [] [] = some (l.drop z, N)) (hz : z < l.length) : readE l = 7 ∧ readL l = [] := by
  unfold readE readL
  rw [if_neg (by omega), if_neg (by omega), h, drop_at hz]
  exact ⟨rfl, rfl⟩
theorem fin_big {N : NL} (h : treeP (l.length + 1) l [] [] = some (l.drop l.length, N)) (hN : 100000 < N.length) : readE l = 2 ∧ readL l = [] := by
  unfold readE readL
  rw [if_neg (by omega), if_neg (by omega), h, List.drop_length]
  simp [rdE, rdL, hN]
theorem fin_ok {N : NL} (h : treeP (l.length + 1) l [] [] = some (l.drop l.length, N)) (hN : N.length ≤ 100000) : readE l = 0 ∧ readL l = N := by
  unfold readE readL
  rw [if_neg (by omega), if_neg (by omega), h, List.drop_length]
  simp [rdE, rdL]
  omega
end
theorem addP_len (N : NL) (O : List Nat) (d : NdD) : (addP N O d).length = N.length + 1 := by
  unfold addP
  split <;> simp
/-- The document's two rows. -/
structure Rr (w0 w : World) (va vo : Value) (N : NL) (O : List Nat) : Prop where
  nod : w.ownsRow w0.heap.size 33 6 va N.length (ndCells N)
  opn : w.ownsRow w0.heap.size 3 1 vo O.length (natC O)
  below : Below w0.heap.size w0 w
theorem Rr.quiet {w0 w w' : World} {va vo : Value} {N : NL} {O : List Nat} (h : Rr w0 w va vo N O) (hb : Below w.heap.size w w') : Rr w0 w' va vo N O := ⟨owns_below h.nod hb, owns_below h.opn hb, h.below.trans (hb.mono h.below.size)⟩
theorem Rr.size {w0 w : World} {va vo : Value} {N : NL} {O : List Nat} (h : Rr w0 w va vo N O) : w0.heap.size ≤ w.heap.size := h.below.size
theorem Rr.pushN {w0 w w' : World} {va va' vo : Value} {N : NL} {O : List Nat} {d : NdD} {o : Obj} (h : Rr w0 w va vo N O) (hg : (w.alloc o).grownBy w' va.ownBlock) (ho : w'.ownsRow w0.heap.size 33 6 va' (N.length + 1) (ndCells N ++ [.int .i64 d.key, .int .i64 d.inf, .int .i64 d.wt, .int .i64 d.val, .int .i64 d.l, .int .i64 d.r])) : Rr w0 w' va' vo (N ++ [d]) O :=
  ⟨by rw [List.length_append, List.length_singleton, ndCells_append]; exact ho, (h.opn.alloc o).kept hg (own_sep h.opn h.nod (by decide)), Below.grown (h.below.alloc h.size o) hg (by have := h.size; rw [World.size_alloc]; omega) (fun k q => (owns_lt h.nod k q).1)⟩
theorem Rr.pushO {w0 w w' : World} {va vo vo' : Value} {N : NL} {O : List Nat} {u : Nat} {o : Obj} (h : Rr w0 w va vo N O) (hg : (w.alloc o).grownBy w' vo.ownBlock) (ho : w'.ownsRow w0.heap.size 3 1 vo' (O.length + 1) (natC O ++ [.int .i64 (u : Int)])) : Rr w0 w' va vo' N (O ++ [u]) :=
  ⟨(h.nod.alloc o).kept hg (own_sep h.nod h.opn (by decide)), by rw [List.length_append, List.length_singleton, natC_snoc]; exact ho, Below.grown (h.below.alloc h.size o) hg (by have := h.size; rw [World.size_alloc]; omega) (fun k q => (owns_lt h.opn k q).1)⟩
theorem Rr.set {w0 w : World} {g n c : Nat} {vo : Value} {N N' : NL} {O : List Nat} (h : Rr w0 w (.slice (some ⟨g, 0, none⟩) n c) vo N O) (j : Nat) (v : Value) (hl : N'.length = N.length) (hc : ndCells N' = (ndCells N).set j v) : Rr w0 (w.setCell ⟨g, j, none⟩ v) (.slice (some ⟨g, 0, none⟩) n c) vo N' O := by
  have ht : Turn (fun k => k = g) w (w.setCell ⟨g, j, none⟩ v) := (Turn.refl _ w).setCell g j v rfl
  have hn : n = N.length := by have := own_len h.nod; simpa [slLen] using this
  subst hn
  refine ⟨?_, owns_turn h.opn ht (fun g' q r => ?_), h.below.setCell (owns_lt h.nod g rfl).1 _⟩
  · rw [hl, hc]; exact owns_put h.nod j v
  · rcases own_sep h.opn h.nod (by decide) with e | e
    · rw [e] at q; cases q
    · exact e (by rw [q, r]; rfl)
theorem Rr.pop {w0 w : World} {g c : Nat} {va : Value} {N : NL} {O : List Nat} {j : Nat} (h : Rr w0 w va (.slice (some ⟨g, 0, none⟩) (j + 1) c) N (O.take (j + 1))) (hj : j < O.length) : Rr w0 w va (.slice (some ⟨g, 0, none⟩) j c) N (O.take j) := by
  have e : (O.take (j + 1)).length = j + 1 := by simp; omega
  have e2 : (O.take j).length = j := by simp; omega
  refine ⟨h.nod, ?_, h.below⟩
  have h1 := h.opn
  rw [e] at h1
  have h2 := owns_cut h1 j (Nat.le_succ _)
  rw [e2]
  have e3 : (natC (O.take (j + 1))).take (j * 1) = natC (O.take j) := by
    simp only [natC, Nat.mul_one]
    rw [← List.map_take, List.take_take, Nat.min_eq_left (by omega)]
  rw [e3] at h2
  exact h2
/-- Where the document's opened stands behind it. -/
theorem open_rest {l r : List UInt8} {p : Nat} {d : NdD} (hp : p ≤ l.length) (h : openR (l.drop p) = some (d, r)) : ∃ q, r = l.drop q ∧ p < q ∧ q ≤ l.length := by
  have key : ∀ {l0 r : List UInt8}, openR l0 = some (d, r) → ∃ x, l0 = 40 :: (x ++ r) := by
    intro l0 r h
    unfold openR at h
    split at h
    · rename_i hp
      have e0 := pre_inv hp
      split at h
      · rename_i d1 l1 hk
        have e1 : ∃ x, Lib.trimPrefix l0 [40] = x ++ l1 := by
          unfold keyR at hk
          split at hk
          · rename_i hi
            obtain ⟨-, rfl⟩ := Prod.mk.inj (Option.some.inj hk)
            exact ⟨_, pre_inv hi⟩
          · cases hr : rnum (Lib.trimPrefix l0 [40]) with
            | none => rw [hr] at hk; cases hk
            | some q =>
              rw [hr] at hk
              obtain ⟨-, rfl⟩ := Prod.mk.inj (Option.some.inj hk)
              exact ⟨_, (rnum_inv hr).1⟩
        obtain ⟨x, ex⟩ := e1
        split at h
        · rename_i h58
          have e2 := pre_inv h58
          unfold weightR at h
          split at h
          · rename_i v r' hv
            split at h
            · obtain ⟨-, rfl⟩ := Prod.mk.inj (Option.some.inj h)
              have e3 := (rnum_inv hv).1
              refine ⟨x ++ 58 :: Lib.itoa v, ?_⟩
              rw [e0, ex, e2, e3]
              simp
            · cases h
          · cases h
        · cases h
      · cases h
    · cases h
  obtain ⟨x, hx⟩ := key h
  have hlen := congrArg List.length hx
  simp only [List.length_drop, List.length_cons, List.length_append] at hlen
  refine ⟨p + 1 + x.length, ?_, by omega, by omega⟩
  have := congrArg (List.drop (1 + x.length)) hx
  rw [List.drop_drop, show (40 :: (x ++ r)).drop (1 + x.length) = r by rw [Nat.add_comm 1]; simp] at this
  rw [← this, show p + (1 + x.length) = p + 1 + x.length by omega]
theorem ro_none (l : List UInt8) (p : Nat) (hp : p ≤ l.length) (hl : l.length ≤ 8000000) (h : openR (l.drop p) = none) (w : World) :
    Calls Tryd.prog 17 #[.string ⟨l.toArray⟩, .int .i64 p] w fun e w' => (∃ a0 a1 a2 a3 a4 a5 : Int, e = .returned (.tuple #[.agg #[.int .i64 a0, .int .i64 a1, .int .i64 a2, .int .i64 a3, .int .i64 a4, .int .i64 a5], .int .i64 (-1)])) ∧ Below w.heap.size w w' := by
  refine (ropened_any l p hp hl w).mono ?_
  rintro e w' ⟨⟨-, d, rfl⟩ | ⟨d, q, h1, -⟩, hb⟩
  · exact ⟨⟨_, _, _, _, _, _, rfl⟩, hb⟩
  · rw [h] at h1; cases h1
theorem ro_some (l : List UInt8) (p q : Nat) (d : NdD) (hp : p ≤ l.length) (hl : l.length ≤ 8000000) (hq : q ≤ l.length) (h : openR (l.drop p) = some (d, l.drop q)) (w : World) :
    Calls Tryd.prog 17 #[.string ⟨l.toArray⟩, .int .i64 p] w fun e w' => e = .returned (.tuple #[.agg #[.int .i64 d.key, .int .i64 d.inf, .int .i64 d.wt, .int .i64 d.val, .int .i64 d.l, .int .i64 d.r], .int .i64 q]) ∧ Below w.heap.size w w' := by
  refine (ropened_any l p hp hl w).mono ?_
  rintro e w' ⟨⟨h1, -⟩ | ⟨d', q', h1, -, hq', rfl⟩, hb⟩
  · rw [h] at h1; cases h1
  · rw [h] at h1
    obtain ⟨e1, e2⟩ := Prod.mk.inj (Option.some.inj h1)
    have e3 := congrArg List.length e2
    simp only [List.length_drop] at e3
    obtain rfl : q = q' := by omega
    rw [e1]
    exact ⟨rfl, hb⟩
end Go.Proofs.YtegajbfefhljmaaDoor


/- Layer 18: a change's box; with, over, less and below on it. -/

import Derived.Test.YthlhbajaogonnaaDoorSSt5

import Derived.Test.YthlhbajaogonnaaDoorSQ8

namespace Go.Proofs.YthlhbajaogonnaaDoor

open Go.RowKit

attribute [local go_sem ↓] Go.wp_at_zero Go.wp_at_succ

/-- A change in its box. -/
structure ChBox (z : World) (cb g cap : Nat) (base : Option Addr) (b o c : Nat) (t : NL) (root : Int) (mi : Bool) (x l r ll lr rl rr rll rlr : Int) : Prop where
  c0 : z.cell? ⟨cb, 0, none⟩ = some (.slice base t.length c)
  c1 : z.cell? ⟨cb, 1, none⟩ = some (.int .i64 root)
  c2 : z.cell? ⟨cb, 2, none⟩ = some (.bool mi)
  c3 : z.cell? ⟨cb, 3, none⟩ = some (.int .i64 x)
  c4 : z.cell? ⟨cb, 4, none⟩ = some (.int .i64 l)
  c5 : z.cell? ⟨cb, 5, none⟩ = some (.int .i64 r)
  c6 : z.cell? ⟨cb, 6, none⟩ = some (.int .i64 ll)
  c7 : z.cell? ⟨cb, 7, none⟩ = some (.int .i64 lr)
  c8 : z.cell? ⟨cb, 8, none⟩ = some (.int .i64 rl)
  c9 : z.cell? ⟨cb, 9, none⟩ = some (.int .i64 rr)
  c10 : z.cell? ⟨cb, 10, none⟩ = some (.int .i64 rll)
  c11 : z.cell? ⟨cb, 11, none⟩ = some (.int .i64 rlr)
  c12 : z.cell? ⟨cb, 12, none⟩ = some (.slice (some ⟨g, 0, none⟩) t.length cap)
  lt : cb < z.heap.size
  ne : cb ≠ g
  nb : b ≠ g
  nodes : NodesAt z base b o t
theorem ChBox.keep {z y : World} {cb g cap : Nat} {base : Option Addr} {b o c : Nat} {t : NL} {root : Int} {mi : Bool} {x l r ll lr rl rr rll rlr : Int} (h : ChBox z cb g cap base b o c t root mi x l r ll lr rl rr rll rlr)
    (hs : z.heap.size ≤ y.heap.size) (hk : ∀ blk off, blk < z.heap.size → blk ≠ g → y.cell? ⟨blk, off, none⟩ = z.cell? ⟨blk, off, none⟩) : ChBox y cb g cap base b o c t root mi x l r ll lr rl rr rll rlr := by
  have k := fun i => hk cb i h.lt h.ne
  refine ⟨(k 0).trans h.c0, (k 1).trans h.c1, (k 2).trans h.c2, (k 3).trans h.c3, (k 4).trans h.c4, (k 5).trans h.c5, (k 6).trans h.c6, (k 7).trans h.c7, (k 8).trans h.c8, (k 9).trans h.c9, (k 10).trans h.c10, (k 11).trans h.c11, (k 12).trans h.c12, Nat.lt_of_lt_of_le h.lt hs, h.ne, h.nb, ⟨h.nodes.base, fun q => Nat.lt_of_lt_of_le (h.nodes.lt q) hs, fun i hi => ?_, h.nodes.len⟩⟩
  have kb := fun j => hk b j (h.nodes.lt (by omega)) h.nb
  simp only [kb]
  exact h.nodes.cells i hi
theorem ChBox.st {z : World} {cb g cap : Nat} {base : Option Addr} {b o c : Nat} {t : NL} {root : Int} {mi : Bool} {x l r ll lr rl rr rll rlr : Int} (h : ChBox z cb g cap base b o c t root mi x l r ll lr rl rr rll rlr) : StAt z cb base b o c t mi := ⟨h.c0, h.c2, h.lt, h.nodes⟩
theorem MAt.putW {w0 x : World} {g cap : Nat} {T : NL} (h : MAt w0 x g cap T) (i : Nat) (a : Int) (hi : i < T.length) (hg : w0.heap.size ≤ g) : MAt w0 (x.setCell ⟨g, i * 6 + 2, none⟩ (.int .i64 a)) g cap (wth T i a) := by
  refine ⟨?_, h.below.setCell hg _⟩
  unfold wth
  rw [ndCells_setK 2 (.int .i64 a) T i _ hi (by omega) (fun j hj hn => by
    have c : j = 0 ∨ j = 1 ∨ j = 3 ∨ j = 4 ∨ j = 5 := by omega
    rcases c with rfl | rfl | rfl | rfl | rfl <;> rfl) rfl, List.length_set]
  exact owns_put h.own _ _
theorem MAt.cell2 {w0 x : World} {g cap : Nat} {T : NL} (h : MAt w0 x g cap T) (i : Nat) (hi : i < T.length) : x.cell? ⟨g, i * 6 + 2, none⟩ = some (.int .i64 (ndAt T i).wt) ∧ x.frozen? ⟨g, i * 6 + 2, none⟩ = false := by
  obtain ⟨g', cap', hv, -, -, -, -, hc, hfr⟩ := owns_some h.own (by omega)
  injection hv with e1 _ _
  injection e1 with e1
  injection e1 with e1 _ _
  subst e1
  obtain ⟨-, -, b2, -, -, -⟩ := ndCells_get T i hi
  exact ⟨(hc _ (by omega)).trans b2, hfr _⟩
theorem mt_wth (mi : Bool) (T : NL) (p : Nat) (a : Int) (hp : p < T.length) : mt mi (wth T p a) = wth (mt mi T) p a := by
  unfold wth
  rw [mt_set, mt_at mi T p hp]
  cases mi <;> rfl
theorem mt_ovr (mi : Bool) (T : NL) (p : Nat) (a l r : Int) (hp : p < T.length) : mt mi (ovr T p a l r) = wth (setR (setL (mt mi T) p (if mi then r else l)) p (if mi then l else r)) p a := by
  have h1 : p < (mt mi T).length := by rw [mt_length]; exact hp
  rw [setLR _ _ _ _ h1]
  unfold wth ovr
  rw [mt_set, ndAt_set _ _ _ h1, List.set_set, mt_at mi T p hp]
  cases mi <;> rfl
/-- A change under way: its box, and the copy as the move sees it. -/
structure Cs (w0 z : World) (cb g cap : Nat) (base : Option Addr) (b o c : Nat) (t : NL) (root : Int) (mi : Bool) (x l r ll lr rl rr rll rlr : Int) (T : NL) : Prop where
  box : ChBox z cb g cap base b o c t root mi x l r ll lr rl rr rll rlr
  row : MAt w0 z g cap (mt mi T)
  len : T.length = t.length
theorem Cs.quiet {w0 z y : World} {cb g cap : Nat} {base : Option Addr} {b o c : Nat} {t T : NL} {root : Int} {mi : Bool} {x l r ll lr rl rr rll rlr : Int} (h : Cs w0 z cb g cap base b o c t root mi x l r ll lr rl rr rll rlr T) (hb : Below z.heap.size z y) : Cs w0 y cb g cap base b o c t root mi x l r ll lr rl rr rll rlr T :=
  ⟨h.box.keep hb.size fun blk off hl _ => hb.cell (p := ⟨blk, off, none⟩) hl, h.row.quiet hb, h.len⟩
theorem Cs.drew {w0 z : World} {cb g cap : Nat} {base : Option Addr} {b o c : Nat} {t T : NL} {root : Int} {mi : Bool} {x l r ll lr rl rr rll rlr : Int} (h : Cs w0 z cb g cap base b o c t root mi x l r ll lr rl rr rll rlr T) : Cs w0 z.drew cb g cap base b o c t root mi x l r ll lr rl rr rll rlr T := h.quiet (Below.refl _ _).drew
theorem Cs.lt {w0 z : World} {cb g cap : Nat} {base : Option Addr} {b o c : Nat} {t T : NL} {root : Int} {mi : Bool} {x l r ll lr rl rr rll rlr : Int} (h : Cs w0 z cb g cap base b o c t root mi x l r ll lr rl rr rll rlr T) {p : Nat} (hp : p < t.length) : p < T.length ∧ p < (mt mi T).length := by
  rw [mt_length, h.len]; exact ⟨hp, hp⟩
theorem cs_with {w0 z : World} {cb g cap : Nat} {base : Option Addr} {b o c : Nat} {t T : NL} {root : Int} {mi : Bool} {x l r ll lr rl rr rll rlr : Int} (h : Cs w0 z cb g cap base b o c t root mi x l r ll lr rl rr rll rlr T) (p : Nat) (a : Int) (hp : p < t.length) :
    Calls Tryd.prog 31 #[.pointer (some ⟨cb, 0, none⟩), .int .i64 (p : Int), .int .i64 a] z fun e w' => e = .returned (.int .i64 (p : Int)) ∧ Cs w0 w' cb g cap base b o c t root mi x l r ll lr rl rr rll rlr (wth T p a) := by
  have hl := h.lt hp
  have hc := h.row.cell2 p hl.2
  refine (with_any cb g t.length cap p a _ z h.box.c12 hp hc.1 hc.2).mono ?_
  rintro e w' ⟨rfl, rfl⟩
  refine ⟨rfl, h.box.keep (by simp) fun blk off _ hn => World.cell?_setCell_far _ _ _ _ (Ne.symm hn), ?_, by rw [wth_length]; exact h.len⟩
  rw [mt_wth mi T p a hl.1]
  exact h.row.putW p a hl.2 h.row.lt.1
theorem cs_over {w0 z : World} {cb g cap : Nat} {base : Option Addr} {b o c : Nat} {t T : NL} {root : Int} {mi : Bool} {x l r ll lr rl rr rll rlr : Int} (h : Cs w0 z cb g cap base b o c t root mi x l r ll lr rl rr rll rlr T) (p : Nat) (a u v : Int) (hp : p < t.length) :
    Calls Tryd.prog 30 #[.pointer (some ⟨cb, 0, none⟩), .int .i64 (p : Int), .int .i64 a, .int .i64 u, .int .i64 v] z fun e w' => e = .returned (.int .i64 (p : Int)) ∧ Cs w0 w' cb g cap base b o c t root mi x l r ll lr rl rr rll rlr (ovr T p a u v) := by
  have hl := h.lt hp
  have hc := h.row.cells p hl.2
  refine (over_any cb g t.length cap p mi a u v _ _ _ z h.box.c12 h.box.c2 (Ne.symm h.box.ne) h.box.lt h.row.lt.2 hp (h.row.cell2 p hl.2) hc.1 hc.2).mono ?_
  rintro e w' ⟨rfl, y, hy, rfl⟩
  have q := h.quiet hy
  refine ⟨rfl, q.box.keep (by simp) fun blk off _ hn => ?_, ?_, by rw [ovr_length]; exact h.len⟩
  · rw [World.cell?_setCell_far _ _ _ _ (Ne.symm hn), World.cell?_setCell_far _ _ _ _ (Ne.symm hn), World.cell?_setCell_far _ _ _ _ (Ne.symm hn)]
  · rw [mt_ovr mi T p a u v hl.1]
    have g0 := q.row.lt.1
    exact ((q.row.putL p _ hl.2 g0).putR p _ (by rw [setL_length]; exact hl.2) g0).putW p a (by rw [setR_length, setL_length]; exact hl.2) g0
theorem cs_less {w0 z : World} {cb g cap : Nat} {base : Option Addr} {b o c : Nat} {t T : NL} {root : Int} {mi : Bool} {x l r ll lr rl rr rll rlr : Int} (h : Cs w0 z cb g cap base b o c t root mi x l r ll lr rl rr rll rlr T) (p : Nat) (hp : p < t.length) (hwt : 0 ≤ (ndAt t p).wt ∧ (ndAt t p).wt ≤ 1000000) :
    Calls Tryd.prog 33 #[.pointer (some ⟨cb, 0, none⟩), .int .i64 (p : Int)] z fun e w' => e = .returned (.int .i64 (p : Int)) ∧ Cs w0 w' cb g cap base b o c t root mi x l r ll lr rl rr rll rlr (wth T p ((ndAt t p).wt - 1)) := by
  have hl := h.lt hp
  refine (less_any cb g t.length cap p base b o c t mi _ z h.box.st h.box.c12 h.row.lt.2 hp hp hwt (h.row.cell2 p hl.2)).mono ?_
  rintro e w' ⟨rfl, y, hy, rfl⟩
  have q := h.quiet hy
  refine ⟨rfl, q.box.keep (by simp) fun blk off _ hn => World.cell?_setCell_far _ _ _ _ (Ne.symm hn), ?_, by rw [wth_length]; exact h.len⟩
  rw [mt_wth mi T p _ hl.1]
  exact q.row.putW p _ hl.2 q.row.lt.1
theorem cs_weight {w0 z : World} {cb g cap : Nat} {base : Option Addr} {b o c : Nat} {t T : NL} {root : Int} {mi : Bool} {x l r ll lr rl rr rll rlr : Int} (h : Cs w0 z cb g cap base b o c t root mi x l r ll lr rl rr rll rlr T) (p : Nat) (hp : p < t.length) :
    Calls Tryd.prog 29 #[.pointer (some ⟨cb, 0, none⟩), .int .i64 (p : Int)] z fun e w' => e = .returned (.int .i64 (ndAt t p).wt) ∧ Cs w0 w' cb g cap base b o c t root mi x l r ll lr rl rr rll rlr T := by
  refine (weight_any cb base b o c t mi (p : Int) z h.box.st (Or.inr ⟨by omega, by omega⟩)).mono ?_
  rintro e w' ⟨rfl, hb⟩
  have F : wtP t (p : Int) = (ndAt t p).wt := by unfold wtP; rw [if_neg (by omega), Int.toNat_natCast]
  exact ⟨by rw [F], h.quiet hb⟩
theorem cs_below {w0 z : World} {cb g cap : Nat} {base : Option Addr} {b o c : Nat} {t T : NL} {root : Int} {mi : Bool} {x l r ll lr rl rr rll rlr : Int} (h : Cs w0 z cb g cap base b o c t root mi x l r ll lr rl rr rll rlr T) (p : Nat) (hp : p < t.length) :
    Calls Tryd.prog 32 #[.pointer (some ⟨cb, 0, none⟩), .int .i64 (p : Int)] z fun e w' => e = .returned (.tuple #[.int .i64 (ndAt (mt mi t) p).l, .int .i64 (ndAt (mt mi t) p).r]) ∧ Cs w0 w' cb g cap base b o c t root mi x l r ll lr rl rr rll rlr T := by
  refine (sbelow_any cb base b o c t mi (p : Int) z h.box.st (Or.inr ⟨by omega, by omega⟩)).mono ?_
  rintro e w' ⟨rfl, hb⟩
  have F1 : belL t mi (p : Int) = (ndAt (mt mi t) p).l := by unfold belL; rw [if_neg (by omega), Int.toNat_natCast, mt_at mi t p hp]; cases mi <;> rfl
  have F2 : belR t mi (p : Int) = (ndAt (mt mi t) p).r := by unfold belR; rw [if_neg (by omega), Int.toNat_natCast, mt_at mi t p hp]; cases mi <;> rfl
  exact ⟨by rw [F1, F2], h.quiet hb⟩
end Go.Proofs.YthlhbajaogonnaaDoor


/- Layer 18: allows: the conditions of each kind. Made by mk_salw.py. -/

import Derived.Test.YthlhbajaogonnaaDoorSSt5

namespace Go.Proofs.YthlhbajaogonnaaDoor

open Go.RowKit

attribute [local go_sem ↓] Go.wp_at_zero Go.wp_at_succ

/-- A site in its box. -/
structure SBox (z : World) (sb : Nat) (base : Option Addr) (b o c : Nat) (t : NL) (root : Int) (mi : Bool) (x l r ll lr rl rr rll rlr : Int) : Prop where
  c0 : z.cell? ⟨sb, 0, none⟩ = some (.slice base t.length c)
  c1 : z.cell? ⟨sb, 1, none⟩ = some (.int .i64 root)
  c2 : z.cell? ⟨sb, 2, none⟩ = some (.bool mi)
  c3 : z.cell? ⟨sb, 3, none⟩ = some (.int .i64 x)
  c4 : z.cell? ⟨sb, 4, none⟩ = some (.int .i64 l)
  c5 : z.cell? ⟨sb, 5, none⟩ = some (.int .i64 r)
  c6 : z.cell? ⟨sb, 6, none⟩ = some (.int .i64 ll)
  c7 : z.cell? ⟨sb, 7, none⟩ = some (.int .i64 lr)
  c8 : z.cell? ⟨sb, 8, none⟩ = some (.int .i64 rl)
  c9 : z.cell? ⟨sb, 9, none⟩ = some (.int .i64 rr)
  c10 : z.cell? ⟨sb, 10, none⟩ = some (.int .i64 rll)
  c11 : z.cell? ⟨sb, 11, none⟩ = some (.int .i64 rlr)
  lt : sb < z.heap.size
  nodes : NodesAt z base b o t
theorem SBox.below {z y : World} {sb : Nat} {base : Option Addr} {b o c : Nat} {t : NL} {root : Int} {mi : Bool} {x l r ll lr rl rr rll rlr : Int} (h : SBox z sb base b o c t root mi x l r ll lr rl rr rll rlr) (hb : Below z.heap.size z y) : SBox y sb base b o c t root mi x l r ll lr rl rr rll rlr := by
  have k := fun i => hb.cell (p := ⟨sb, i, none⟩) h.lt
  exact ⟨(k 0).trans h.c0, (k 1).trans h.c1, (k 2).trans h.c2, (k 3).trans h.c3, (k 4).trans h.c4, (k 5).trans h.c5, (k 6).trans h.c6, (k 7).trans h.c7, (k 8).trans h.c8, (k 9).trans h.c9, (k 10).trans h.c10, (k 11).trans h.c11, Nat.lt_of_lt_of_le h.lt hb.size, h.nodes.below hb⟩
theorem SBox.st {z : World} {sb : Nat} {base : Option Addr} {b o c : Nat} {t : NL} {root : Int} {mi : Bool} {x l r ll lr rl rr rll rlr : Int} (h : SBox z sb base b o c t root mi x l r ll lr rl rr rll rlr) : StAt z sb base b o c t mi := ⟨h.c0, h.c2, h.lt, h.nodes⟩

end Go.Proofs.YthlhbajaogonnaaDoor

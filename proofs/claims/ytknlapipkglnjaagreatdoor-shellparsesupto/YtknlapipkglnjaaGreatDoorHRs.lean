
/- Layer 28: the reader of a text in memory; readStart. -/

import Derived.Test.YtknlapipkglnjaaGreatDoorHRa

import Derived.Test.YtknlapipkglnjaaGreatDoorHPo3

import Derived.Deep.RegionLaw

import Derived.Deep.AppendLies

namespace Go.Proofs.YtknlapipkglnjaaGreatDoor

open Go.RowKit

attribute [local go_sem ↓] Go.wp_at_zero Go.wp_at_succ

/-- The reader's box, and the game that it has. -/
structure RdB (B b : Nat) (z : World) (vS vC vP : Value) (vs : Nat → Value) (g : GD) : Prop where
  box : z.heap[b]? = some (.cells #[vS, vC, vP, .int .i64 (g.part : Int)] 69)
  lt : b < B
  game : GAt B z vS vC vP vs g
theorem RdB.quiet {B b : Nat} {z y : World} {vS vC vP : Value} {vs : Nat → Value} {g : GD} (h : RdB B b z vS vC vP vs g) (hb : Below z.heap.size z y) : RdB B b y vS vC vP vs g :=
  ⟨(hb.block b (Array.getElem?_eq_some_iff.1 h.box).1).trans h.box, h.lt, h.game.quiet hb⟩
theorem RdB.part {B b : Nat} {z : World} {vS vC vP : Value} {vs : Nat → Value} {g : GD} (h : RdB B b z vS vC vP vs g) (p : Nat) : RdB B b (z.setCell ⟨b, 3, none⟩ (.int .i64 (p : Int))) vS vC vP vs { g with part := p } :=
  ⟨by rw [Go.Joins.block_setCell h.box]; rfl, h.lt, (h.game.low h.lt 3 _).part p⟩
theorem ownForm {w : World} {B sz : Nat} {e : TypeId} {v : Value} {n : Nat} {xs : List Value} (h : w.ownsRow B e sz v n xs) : ∃ a c, v = .slice a n c ∧ (∀ g, v.ownBlock = some g → a = some ⟨g, 0, none⟩ ∧ B ≤ g) := by
  rcases h.2 with ⟨rfl, rfl⟩ | ⟨g, cap, cur, rfl, hb, -⟩
  · exact ⟨none, 0, rfl, fun g q => by cases q⟩
  · exact ⟨_, cap, rfl, fun g' q => by
      have : g = g' := by simpa [Value.ownBlock] using q
      subst this
      exact ⟨rfl, hb⟩⟩
theorem far1 {w w3 : World} {o : Obj} {r : Option Nat} {k : Nat} (hg : ((w.alloc o).drew).grownBy w3 r) (hk : k < w.heap.size) (hr : r ≠ some k) : w3.heap[k]? = w.heap[k]? := by
  rw [hg.block k (by show k < (w.alloc o).heap.size; simp; omega) (fun q => hr q.symm)]
  show (w.alloc o).heap[k]? = _
  exact heap_alloc_old _ _ hk
theorem below_far {w w3 : World} {o : Obj} {r : Option Nat} {b : Nat} (hg : ((w.alloc o).drew).grownBy w3 r) (hb : b ≤ w.heap.size) (hr : ∀ k, k < b → r ≠ some k) : Below b w w3 :=
  ⟨hg.os, hg.tape, hg.output, by have := hg.size; have e : ((w.alloc o).drew).heap.size = w.heap.size + 1 := by show (w.alloc o).heap.size = _; simp
                                 omega, fun k hk => far1 hg (by omega) (hr k hk)⟩
theorem GAt.grown0 {B : Nat} {z : World} {vS vC vP : Value} {vs : Nat → Value} {g : GD} (h : GAt B z vS vC vP vs g) (o : Obj) : GAt B ((z.alloc o).drew) vS vC vP vs g := h.quiet ((below_alloc z o).drew)
theorem RdB.addS {B b : Nat} {w w3 : World} {vS vC vP v' : Value} {vs : Nat → Value} {g : GD} {o : Obj} (h : RdB B b w vS vC vP vs g) (hg : ((w.alloc o).drew).grownBy w3 vS.ownBlock) (k v : Int) (ho : w3.ownsRow B 49 2 v' (g.start.length + 1) (pairCells g.start ++ [.int .i64 k, .int .i64 v])) :
    RdB B b (w3.setCell ⟨b, 0, none⟩ v') v' vC vP vs { g with start := g.start ++ [(k, v)] } ∧ Below b w (w3.setCell ⟨b, 0, none⟩ v') := by
  have hb : b < w.heap.size := (Array.getElem?_eq_some_iff.1 h.box).1
  have lt := h.lt
  have hr : ∀ k, k < B → vS.ownBlock ≠ some k := fun k hk q => by have := (owns_lt h.game.st k q).1; omega
  refine ⟨⟨?_, h.lt, ((h.game.grown0 o).pushS hg k v ho).low h.lt 0 _⟩, (below_far (b := b) hg (by omega) (fun k hk => hr k (by omega))).setCell (p := ⟨b, 0, none⟩) (Nat.le_refl _) _⟩
  rw [Go.Joins.block_setCell ((far1 hg hb (hr b h.lt)).trans h.box)]
  rfl
theorem prs_under : Tryz.prog.underlying 22 = some (.slice 49) := by kernel_rfl
theorem pair2 {z : World} {b : Nat} {x0 x1 : Value} {t : TypeId} (h : z.heap[b]? = some (.cells #[x0, x1] t)) : (z.cell? ⟨b, 0, none⟩ = some x0 ∧ z.frozen? ⟨b, 0, none⟩ = false) ∧ (z.cell? ⟨b, 1, none⟩ = some x1 ∧ z.frozen? ⟨b, 1, none⟩ = false) := by
  simp [World.cell?, World.frozen?, h]
theorem pr_info : (Tryz.prog.info? 49).map (fun i => (i.zero, i.size, i.bytes)) = some (some (.agg #[.int .i64 0, .int .i64 0]), 2, 16) := by kernel_rfl
theorem set2 (w : World) (k v : Int) (o2 : Obj) : (setAll ((w.alloc (.cells #[.int .i64 0, .int .i64 0] 49)).alloc o2) [(w.heap.size, 0), (w.heap.size, 1)] [k, v]).heap[w.heap.size]? = some (.cells #[.int .i64 k, .int .i64 v] 49) := by
  have h0 : ((w.alloc (.cells #[.int .i64 0, .int .i64 0] 49)).alloc o2).heap[w.heap.size]? = some (.cells #[.int .i64 0, .int .i64 0] 49) := (heap_alloc_old _ _ (by simp)).trans (heap_alloc_at _ _ _ rfl)
  simp only [setAll]
  rw [Go.Joins.block_setCell (Go.Joins.block_setCell h0 _)]
  rfl
theorem wnt2 (w : World) : Wnt w.heap.size ((w.alloc (.cells #[.int .i64 0, .int .i64 0] 49)).alloc (.cells #[.pointer (some ⟨w.heap.size, 0, none⟩), .pointer (some ⟨w.heap.size, 1, none⟩)] 107)) (w.heap.size + 1) [(w.heap.size, 0), (w.heap.size, 1)] := by
  have h0 : ((w.alloc (.cells #[.int .i64 0, .int .i64 0] 49)).alloc (.cells #[.pointer (some ⟨w.heap.size, 0, none⟩), .pointer (some ⟨w.heap.size, 1, none⟩)] 107)).heap[w.heap.size]? = some (.cells #[.int .i64 0, .int .i64 0] 49) := (heap_alloc_old _ _ (by simp)).trans (heap_alloc_at _ _ _ rfl)
  have h1 : ((w.alloc (.cells #[.int .i64 0, .int .i64 0] 49)).alloc (.cells #[.pointer (some ⟨w.heap.size, 0, none⟩), .pointer (some ⟨w.heap.size, 1, none⟩)] 107)).heap[w.heap.size + 1]? = some (.cells #[.pointer (some ⟨w.heap.size, 0, none⟩), .pointer (some ⟨w.heap.size, 1, none⟩)] 107) := heap_alloc_at _ _ _ (by simp)
  refine ⟨fun j p hj => ?_, fun p hp => ?_, fun p hp => ?_, fun p hp => ?_, fun p hp => ?_⟩
  · match j, hj with
    | 0, hj => obtain rfl := Option.some.inj hj; simp only [World.cell?, h1]; rfl
    | 1, hj => obtain rfl := Option.some.inj hj; simp only [World.cell?, h1]; rfl
    | j + 2, hj => simp at hj
  all_goals (rcases List.mem_cons.1 hp with rfl | hp)
  all_goals (try (obtain rfl := List.mem_singleton.1 hp))
  · simp
  · simp
  · simp
  · simp
  · simp; omega
  · simp; omega
  · exact ⟨_, _, h0, 0, rfl⟩
  · exact ⟨_, _, h0, 0, rfl⟩
end Go.Proofs.YtknlapipkglnjaaGreatDoor

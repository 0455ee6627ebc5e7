
/- Layer 28: the reader's readThread and readOp. -/

import Derived.Test.YtknlapipkglnjaaGreatDoorHRs2

import Derived.Test.YtknlapipkglnjaaGreatDoorHPp

namespace Go.Proofs.YtknlapipkglnjaaGreatDoor

open Go.RowKit

attribute [local go_sem ↓] Go.wp_at_zero Go.wp_at_succ

theorem farG {w y w3 : World} {r : Option Nat} {k : Nat} (hy : Below w.heap.size w y) (hg : y.grownBy w3 r) (hk : k < w.heap.size) (hr : r ≠ some k) : w3.heap[k]? = w.heap[k]? := by
  have := hy.size
  rw [hg.block k (by omega) (fun q => hr q.symm)]
  exact hy.block k hk
theorem belowG {w y w3 : World} {r : Option Nat} {b : Nat} (hy : Below w.heap.size w y) (hg : y.grownBy w3 r) (hb : b ≤ w.heap.size) (hr : ∀ k, k < b → r ≠ some k) : Below b w w3 :=
  ⟨hg.os.trans hy.os, hg.tape.trans hy.tape, hg.output.trans hy.output, Nat.le_trans hy.size hg.size, fun k hk => farG hy hg (by omega) (hr k hk)⟩
theorem RdB.addT {B b : Nat} {w y w3 : World} {vS vC vP v' : Value} {vs : Nat → Value} {g : GD} (h : RdB B b w vS vC vP vs g) (hy : Below w.heap.size w y) (hg : y.grownBy w3 vC.ownBlock) (ho : w3.ownsRow B 37 1 v' (g.scripts.length + 1) ((List.range g.scripts.length).map vs ++ [.slice none 0 0])) :
    RdB B b (w3.setCell ⟨b, 1, none⟩ v') vS v' vP (fun i => if i < g.scripts.length then vs i else .slice none 0 0) { g with scripts := g.scripts ++ [([] : List OpD)] } ∧ Below b w (w3.setCell ⟨b, 1, none⟩ v') := by
  have hb : b < w.heap.size := (Array.getElem?_eq_some_iff.1 h.box).1
  have lt := h.lt
  have hr : ∀ k, k < B → vC.ownBlock ≠ some k := fun k hk q => by have := (owns_lt h.game.top k q).1; omega
  refine ⟨⟨?_, h.lt, ((h.game.quiet hy).pushT hg g.part ho).low h.lt 1 _⟩, (belowG (b := b) hy hg (by omega) (fun k hk => hr k (by omega))).setCell (p := ⟨b, 1, none⟩) (Nat.le_refl _) _⟩
  rw [Go.Joins.block_setCell ((farG hy hg hb (hr b h.lt)).trans h.box)]
  rfl
theorem RdB.addO {B b m c cap b' cap' : Nat} {w y w3 : World} {vS vP : Value} {vs : Nat → Value} {g : GD} (h : RdB B b w vS (.slice (some ⟨c, 0, none⟩) g.scripts.length cap) vP vs g) (hm : m + 1 = g.scripts.length) (hy : Below w.heap.size w y) (hg : y.grownBy w3 (vs m).ownBlock) (o : OpD)
    (ho : w3.ownsRow B 39 4 (.slice (some ⟨b', 0, none⟩) ((g.scripts.getD m []).length + 1) cap') ((g.scripts.getD m []).length + 1) (opsC (g.scripts.getD m []) ++ [.int .i64 o.kind, .int .i64 o.key, .int .i64 o.val, .int .i64 o.hi])) (hat : (vs m).ownBlock = some b' ∨ b' = y.heap.size) :
    RdB B b (w3.setCell ⟨c, m, none⟩ (.slice (some ⟨b', 0, none⟩) ((g.scripts.getD m []).length + 1) cap')) vS (.slice (some ⟨c, 0, none⟩) g.scripts.length cap) vP (fun i => if i = m then .slice (some ⟨b', 0, none⟩) ((g.scripts.getD m []).length + 1) cap' else vs i) (Go.Proofs.YtknlapipkglnjaaGreatDoor.addO g o) ∧ Below b w (w3.setCell ⟨c, m, none⟩ (.slice (some ⟨b', 0, none⟩) ((g.scripts.getD m []).length + 1) cap')) := by
  have hb : b < w.heap.size := (Array.getElem?_eq_some_iff.1 h.box).1
  have lt := h.lt
  have hmr : m < g.scripts.length := by omega
  have hr : ∀ k, k < B → (vs m).ownBlock ≠ some k := fun k hk q => by have := (owns_lt (h.game.row m hmr) k q).1; omega
  have hc : B ≤ c := (owns_lt h.game.top c rfl).1
  refine ⟨⟨?_, h.lt, (h.game.quiet hy).pushO hm hg o ho hat⟩, (belowG (b := b) hy hg (by omega) (fun k hk => hr k (by omega))).setCell (p := ⟨c, m, none⟩) (by show b ≤ c; omega) _⟩
  rw [Below.heap_setCell _ _ _ _ (by show b ≠ c; omega)]
  exact (farG hy hg hb (hr b h.lt)).trans h.box
theorem opss_under : Tryz.prog.underlying 23 = some (.slice 37) := by kernel_rfl
theorem ops_under : Tryz.prog.underlying 37 = some (.slice 39) := by kernel_rfl
theorem ops_info : (Tryz.prog.info? 37).map (fun i => (i.zero, i.size, i.bytes)) = some (some (.slice none 0 0), 1, 24) := by kernel_rfl
theorem op_info : (Tryz.prog.info? 39).map (fun i => (i.zero, i.size, i.bytes)) = some (some (.agg #[.int .i64 0, .int .i64 0, .int .i64 0, .int .i64 0]), 4, 32) := by kernel_rfl
def threadO (g : GD) (ws : List (List UInt8)) : Option GD := if ws = [] then some { g with scripts := g.scripts ++ [([] : List OpD)] } else none
set_option maxRecDepth 100000 in
set_option maxHeartbeats 8000000 in
theorem readThread_any (B b cap : Nat) (base : Option Addr) (ws : List (List UInt8)) (vS vC vP : Value) (vs : Nat → Value) (g : GD) (w : World) (h : RdB B b w vS vC vP vs g) (hB : B ≤ w.heap.size) (hn : ws.length ≤ 4294967295) (hS : g.scripts.length ≤ 2000000) :
    Calls Tryz.prog 56 #[.pointer (some ⟨b, 0, none⟩), .slice base ws.length cap] w fun e w' => RdrOut B b w w' (threadO g ws) e := by
  have hbw : b ≤ w.heap.size := by have := h.lt; omega
  have hlt := h.lt
  by_cases hw : ws = []
  · subst hw
    have HO : Hid (threadO g [] = some { g with scripts := g.scripts ++ [([] : List OpD)] }) := by show threadO g [] = _; unfold threadO; rw [if_pos rfl]
    obtain ⟨va, vc, hv, -⟩ := ownForm h.game.top
    have hvC : Hid (∀ k, k < B → vC.ownBlock ≠ some k) := fun k hk q => by have := (owns_lt h.game.top k q).1; omega
    obtain ⟨i0, hi0, hz0, hz1, hz2⟩ := info_parts ops_info
    subst hv
    have HR : Hid (RdB B b w vS _ vP vs g) := h
    obtain ⟨⟨c0, f0⟩, ⟨c1, f1⟩, ⟨c2, f2⟩, ⟨c3, f3⟩⟩ := cells4 HR.out.box
    have hzb : b < w.heap.size := (Array.getElem?_eq_some_iff.1 h.box).1
    clear h hn
    simp only [List.length_nil]
    go_enter Tryz.func56, Tryz.ntmps56
    go_wp2_with (first | (at_builtin; (refine wpList_append_lies _ (by rfl) _ _ _ (by rfl) B 37 i0 _ 1 24 opss_under hi0 hz0 hz1 hz2 rfl (by omega) _ g.scripts.length _ (by rfl) (HR.out.game.top.alloc _) ⟨w.heap.size, 0, none⟩ 1 1 [.slice none 0 0] (by rfl) (by rfl) (World.news_of_block (cs := #[.slice none 0 0]) (t := 37) (fr := (0, 0)) (heap_alloc_at _ _ _ rfl)) (by simp [Value.oneCell']) (by omega) (by unfold maxLen; omega) (by omega) (by simp; omega) (w.heap.size + 1) (by simp) ?_; intro gg cp w3 hown3 hgrow hat hlt3; have q4 := cells4 ((farG (below_alloc w _) hgrow hzb (hvC.out b hlt)).trans HR.out.box); obtain ⟨⟨r0, s0⟩, ⟨r1, s1⟩, ⟨r2, s2⟩, ⟨r3, s3⟩⟩ := q4; have HAD : Hid _ := HR.out.addT (below_alloc w _) hgrow hown3; clear hgrow hown3 hat)))
    go_ret
    exact ⟨Or.inl ⟨_, _, _, _, _, HO.out, rfl, HAD.out.1⟩, HAD.out.2⟩
  · have HO : Hid (threadO g ws = none) := by show threadO g ws = none; unfold threadO; rw [if_neg hw]
    have n1 : 0 < ws.length := List.length_pos_iff.2 hw
    have n0 : (ws.length : Int) ≤ 4294967295 := by omega
    have n2 : (0 : Int) < (ws.length : Int) := by omega
    clear h hn hw
    go_enter Tryz.func56, Tryz.ntmps56
    go_wp2_with fail
    go_ret
    exact ⟨Or.inr ⟨HO.out, rfl⟩, Below.refl _ _⟩
end Go.Proofs.YtknlapipkglnjaaGreatDoor

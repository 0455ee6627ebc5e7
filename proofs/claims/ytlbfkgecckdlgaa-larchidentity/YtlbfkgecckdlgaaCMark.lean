/- Layer 2: what sync/atomic.Bool's methods do at any place, and cell.Mark's through any gate. -/
import Derived.Test.YtlbfkgecckdlgaaCTape
import Derived.Deep.RegionHeld3
import Derived.Deep.DrawnRows
namespace Go.Proofs.Ytlbfkgecckdlgaa
open Go.RowKit
attribute [local go_sem ↓] Go.wp_at_zero Go.wp_at_succ

/-- A bool as sync/atomic.Bool keeps it. -/
def bI (v : Bool) : Int := if v then 1 else 0
theorem bI_ne (v : Bool) : (bI v != 0) = v := by cases v <;> rfl
theorem bI_inj (a b : Bool) (h : ¬ a = b) : ¬ bI a = bI b := by revert h; cases a <;> cases b <;> decide

/-- One access at block b, place i: the gate's blocks aside, that cell alone has turned. -/
structure VStep (X : Nat → Prop) (b i : Nat) (v : Value) (w w' : World) : Prop where
  kp : Kp (fun k => X k ∨ k = b) w w'
  at_ : w'.heap[b]? = (w.setCell ⟨b, i, none⟩ v).heap[b]?
theorem VStep.cell {X : Nat → Prop} {b i : Nat} {v : Value} {w w' : World} {u : Value} (h : VStep X b i v w w') (hc : w.cell? ⟨b, i, none⟩ = some u) : w'.cell? ⟨b, i, none⟩ = some v := by
  rw [World.cell?_of_block (w := w.setCell ⟨b, i, none⟩ v) (w' := w') (a := ⟨b, i, none⟩) h.at_]
  exact World.cell?_setCell_same _ _ _ hc
theorem VStep.other {X : Nat → Prop} {b i : Nat} {v : Value} {w w' : World} (h : VStep X b i v w w') {j : Nat} (hj : i ≠ j) : w'.cell? ⟨b, j, none⟩ = w.cell? ⟨b, j, none⟩ := by
  rw [World.cell?_of_block (w := w.setCell ⟨b, i, none⟩ v) (w' := w') (a := ⟨b, j, none⟩) h.at_]
  exact World.cell?_setCell_other _ _ _ _ (fun e => hj (congrArg Addr.off e))
theorem VStep.fro {X : Nat → Prop} {b i : Nat} {v : Value} {w w' : World} (h : VStep X b i v w w') (j : Nat) : w'.frozen? ⟨b, j, none⟩ = w.frozen? ⟨b, j, none⟩ := by
  rw [World.frozen?_of_block (w := w.setCell ⟨b, i, none⟩ v) (w' := w') (a := ⟨b, j, none⟩) h.at_]
  simp
theorem v_alloc {X : Nat → Prop} {b i : Nat} {v : Value} {w w' : World} {o : Obj} (hb : b < w.heap.size) (h : VStep X b i v (w.alloc o) w') : VStep X b i v w w' := by
  refine ⟨((Kp.refl _ _).alloc o).trans h.kp, h.at_.trans ?_⟩
  simp only [World.setCell, Array.getElem?_modify, if_true, Below.heap_alloc w o b hb]
theorem v_drew {X : Nat → Prop} {b i : Nat} {v : Value} {w w' : World} (h : VStep X b i v w.drew w') : VStep X b i v w w' := ⟨⟨h.kp.os, h.kp.tape, h.kp.output, h.kp.size, h.kp.block⟩, h.at_⟩
theorem v_drew' {X : Nat → Prop} {b i : Nat} {v : Value} {w w' : World} (h : VStep X b i v w w') : VStep X b i v w w'.drew := ⟨⟨h.kp.os, h.kp.tape, h.kp.output, h.kp.size, h.kp.block⟩, h.at_⟩

theorem b32_any (v : Bool) (w : World) : Calls Try.prog 117 #[.bool v] w fun e w' => e = .returned (.int .u32 (bI v)) ∧ w' = w := by
  cases v
  all_goals
    go_enter Try.func117, Try.ntmps117
    go_wp2
    go_ret
    exact ⟨rfl, rfl⟩

theorem bLoad (b i : Nat) (s : Bool) (w : World) (hc : w.cell? ⟨b, i, none⟩ = some (.int .u32 (bI s))) :
    Calls Try.prog 79 #[.pointer (some ⟨b, i, none⟩)] w fun e w' => e = .returned (.bool s) ∧ w' = w := by
  have hl := run_call_load (P := Try.prog) Try.func118 (by kernel_rfl) (by kernel_rfl) (by kernel_rfl) .u32 (by kernel_rfl) hc
  have hs := bI_ne s
  go_enter Try.func79, Try.ntmps79
  go_wp2
  go_ret
  exact ⟨rfl, rfl⟩

set_option maxRecDepth 100000 in
set_option maxHeartbeats 400000 in
theorem bStore (b i : Nat) (s v : Bool) (w : World) (hc : w.cell? ⟨b, i, none⟩ = some (.int .u32 (bI s))) (hz : w.frozen? ⟨b, i, none⟩ = false) :
    Calls Try.prog 77 #[.pointer (some ⟨b, i, none⟩), .bool v] w fun e w' => e = .returned (.tuple #[]) ∧ w' = (w.setCell ⟨b, i, none⟩ (.int .u32 (bI v))).drew := by
  have hl := run_call_store (P := Try.prog) Try.func116 (by kernel_rfl) (by kernel_rfl) (by kernel_rfl) (by kernel_rfl) (k := .u32) (y := bI v) (w := w.drew) hc hz
  go_enter Try.func77, Try.ntmps77
  go_region_held3 (fun _ => True) (exact trivial) (first | (go_at_call 117; refine (b32_any _ _).mono ?_; rintro e w' ⟨rfl, rfl⟩))
  go_end0
  exact ⟨rfl, rfl⟩

set_option maxRecDepth 100000 in
set_option maxHeartbeats 400000 in
theorem bSwap (b i : Nat) (s v : Bool) (w : World) (hc : w.cell? ⟨b, i, none⟩ = some (.int .u32 (bI s))) (hz : w.frozen? ⟨b, i, none⟩ = false) :
    Calls Try.prog 81 #[.pointer (some ⟨b, i, none⟩), .bool v] w fun e w' => e = .returned (.bool s) ∧ w' = (w.setCell ⟨b, i, none⟩ (.int .u32 (bI v))).drew := by
  have hl := run_call_swap (P := Try.prog) Try.func120 (by kernel_rfl) (by kernel_rfl) (by kernel_rfl) .u32 (by kernel_rfl) (y := bI v) (w := w.drew) hc hz
  have hs := bI_ne s
  go_enter Try.func81, Try.ntmps81
  go_wp2
  go_region_held3 (fun _ => True) (exact trivial) (first | (go_at_call 117; refine (b32_any _ _).mono ?_; rintro e w' ⟨rfl, rfl⟩))
  go_wp2
  go_ret
  exact ⟨rfl, rfl⟩

set_option maxRecDepth 100000 in
set_option maxHeartbeats 400000 in
theorem bHit (b i : Nat) (s v : Bool) (w : World) (hc : w.cell? ⟨b, i, none⟩ = some (.int .u32 (bI s))) (hz : w.frozen? ⟨b, i, none⟩ = false) :
    Calls Try.prog 80 #[.pointer (some ⟨b, i, none⟩), .bool s, .bool v] w fun e w' => e = .returned (.bool true) ∧ w' = (w.setCell ⟨b, i, none⟩ (.int .u32 (bI v))).drew := by
  have hl := run_call_cas_hit (P := Try.prog) Try.func119 (by kernel_rfl) (by kernel_rfl) (by kernel_rfl) .u32 (by kernel_rfl) (y := bI v) (w := w.drew) hc hz
  go_enter Try.func80, Try.ntmps80
  go_wp2
  go_region_held3 (fun _ => True) (exact trivial) (first | (go_at_call 117; refine (b32_any _ _).mono ?_; rintro e w' ⟨rfl, rfl⟩))
  go_wp2
  go_ret
  exact ⟨rfl, rfl⟩

set_option maxRecDepth 100000 in
set_option maxHeartbeats 400000 in
theorem bMiss (b i : Nat) (s o v : Bool) (hne : ¬ s = o) (w : World) (hc : w.cell? ⟨b, i, none⟩ = some (.int .u32 (bI s))) (hz : w.frozen? ⟨b, i, none⟩ = false) :
    Calls Try.prog 80 #[.pointer (some ⟨b, i, none⟩), .bool o, .bool v] w fun e w' => e = .returned (.bool false) ∧ w' = w.drew := by
  have hl := run_call_cas_miss (P := Try.prog) Try.func119 (by kernel_rfl) (by kernel_rfl) (by kernel_rfl) .u32 (by kernel_rfl) (o := bI o) (y := bI v) (w := w.drew) hc hz (bI_inj s o hne)
  clear hne
  go_enter Try.func80, Try.ntmps80
  go_wp2
  go_region_held3 (fun _ => True) (exact trivial) (first | (go_at_call 117; refine (b32_any _ _).mono ?_; rintro e w' ⟨rfl, rfl⟩))
  go_wp2
  go_ret
  exact ⟨rfl, rfl⟩

theorem word_mark (b i : Nat) (w : World) : Calls Try.prog 78 #[.pointer (some ⟨b, i, none⟩)] w fun e w' => e = .returned (.pointer (some ⟨b, i, none⟩)) ∧ w = w' := by
  go_enter Try.func78, Try.ntmps78
  go_wp2
  go_ret
  exact ⟨rfl, rfl⟩

set_option maxRecDepth 100000 in
set_option maxHeartbeats 400000 in
theorem kLoad {gv : Value} {X : Nat → Prop} {most : Nat} {G : List Int → World → Prop} (g : GateOk gv X most G) (ks : List Int) (hk : ks.length < most) (b i : Nat) (s : Bool) (w : World) (hG : G ks w) (hX : ¬ X b) (hb : b < w.heap.size) (hc : w.cell? ⟨b, i, none⟩ = some (.int .u32 (bI s))) (hz : w.frozen? ⟨b, i, none⟩ = false) :
    Calls Try.prog 38 #[.pointer (some ⟨b, i, none⟩), gv] w fun e w' => e = .returned (.bool s) ∧ G (ks ++ [1]) w' ∧ VStep X b i (.int .u32 (bI s)) w w' := by
  have HP : Hid _ := g.pass ks 1 w hG hk
  go_enter Try.func38, Try.ntmps38
  go_wp2_with (first | (go_at_call 59; refine Calls.mono HP.out ?_; rintro e w1 ⟨rfl, hg1, hk1⟩; have hc1 := (hk1.cell (p := ⟨b, i, none⟩) hb hX).trans hc; have hz1 := (hk1.frozen (p := ⟨b, i, none⟩) hb hX).trans hz) | (go_at_call 78; refine (word_mark _ _ _).mono ?_; rintro e w' ⟨rfl, rfl⟩) | (go_at_call 79; refine (bLoad b i s _ hc1).mono ?_; rintro e w' ⟨rfl, rfl⟩))
  go_ret
  exact ⟨rfl, g.keep _ (fun k => k = b) _ _ hg1 (Kp.refl _ _) (fun k e hx => hX (e ▸ hx)), ⟨hk1.mono (fun k h => Or.inl h), num_same hk1 hX hb hc⟩⟩

set_option maxRecDepth 100000 in
set_option maxHeartbeats 400000 in
theorem kStore {gv : Value} {X : Nat → Prop} {most : Nat} {G : List Int → World → Prop} (g : GateOk gv X most G) (ks : List Int) (hk : ks.length < most) (b i : Nat) (s v : Bool) (w : World) (hG : G ks w) (hX : ¬ X b) (hb : b < w.heap.size) (hc : w.cell? ⟨b, i, none⟩ = some (.int .u32 (bI s))) (hz : w.frozen? ⟨b, i, none⟩ = false) :
    Calls Try.prog 99 #[.pointer (some ⟨b, i, none⟩), gv, .bool v] w fun e w' => e = .returned (.tuple #[]) ∧ G (ks ++ [2]) w' ∧ VStep X b i (.int .u32 (bI v)) w w' := by
  have HP : Hid _ := g.pass ks 2 w hG hk
  go_enter Try.func99, Try.ntmps99
  go_wp2_with (first | (go_at_call 59; refine Calls.mono HP.out ?_; rintro e w1 ⟨rfl, hg1, hk1⟩; have hc1 := (hk1.cell (p := ⟨b, i, none⟩) hb hX).trans hc; have hz1 := (hk1.frozen (p := ⟨b, i, none⟩) hb hX).trans hz) | (go_at_call 78; refine (word_mark _ _ _).mono ?_; rintro e w' ⟨rfl, rfl⟩) | (go_at_call 77; refine (bStore b i s v _ hc1 hz1).mono ?_; rintro e w' ⟨rfl, rfl⟩))
  go_end0
  exact ⟨rfl, g.keep _ (fun k => k = b) _ _ hg1 (kp_setb _ _ _ _).drew (fun k e hx => hX (e ▸ hx)), v_drew' ⟨kp_setX hk1 _ _ _, num_at hk1 hX hb _ _⟩⟩

set_option maxRecDepth 100000 in
set_option maxHeartbeats 400000 in
theorem kSwap {gv : Value} {X : Nat → Prop} {most : Nat} {G : List Int → World → Prop} (g : GateOk gv X most G) (ks : List Int) (hk : ks.length < most) (b i : Nat) (s v : Bool) (w : World) (hG : G ks w) (hX : ¬ X b) (hb : b < w.heap.size) (hc : w.cell? ⟨b, i, none⟩ = some (.int .u32 (bI s))) (hz : w.frozen? ⟨b, i, none⟩ = false) :
    Calls Try.prog 40 #[.pointer (some ⟨b, i, none⟩), gv, .bool v] w fun e w' => e = .returned (.bool s) ∧ G (ks ++ [4]) w' ∧ VStep X b i (.int .u32 (bI v)) w w' := by
  have HP : Hid _ := g.pass ks 4 w hG hk
  go_enter Try.func40, Try.ntmps40
  go_wp2_with (first | (go_at_call 59; refine Calls.mono HP.out ?_; rintro e w1 ⟨rfl, hg1, hk1⟩; have hc1 := (hk1.cell (p := ⟨b, i, none⟩) hb hX).trans hc; have hz1 := (hk1.frozen (p := ⟨b, i, none⟩) hb hX).trans hz) | (go_at_call 78; refine (word_mark _ _ _).mono ?_; rintro e w' ⟨rfl, rfl⟩) | (go_at_call 81; refine (bSwap b i s v _ hc1 hz1).mono ?_; rintro e w' ⟨rfl, rfl⟩))
  go_ret
  exact ⟨rfl, g.keep _ (fun k => k = b) _ _ hg1 (kp_setb _ _ _ _).drew (fun k e hx => hX (e ▸ hx)), v_drew' ⟨kp_setX hk1 _ _ _, num_at hk1 hX hb _ _⟩⟩

set_option maxRecDepth 100000 in
set_option maxHeartbeats 400000 in
theorem kHit {gv : Value} {X : Nat → Prop} {most : Nat} {G : List Int → World → Prop} (g : GateOk gv X most G) (ks : List Int) (hk : ks.length < most) (b i : Nat) (s v : Bool) (w : World) (hG : G ks w) (hX : ¬ X b) (hb : b < w.heap.size) (hc : w.cell? ⟨b, i, none⟩ = some (.int .u32 (bI s))) (hz : w.frozen? ⟨b, i, none⟩ = false) :
    Calls Try.prog 39 #[.pointer (some ⟨b, i, none⟩), gv, .bool s, .bool v] w fun e w' => e = .returned (.bool true) ∧ G (ks ++ [5]) w' ∧ VStep X b i (.int .u32 (bI v)) w w' := by
  have HP : Hid _ := g.pass ks 5 w hG hk
  go_enter Try.func39, Try.ntmps39
  go_wp2_with (first | (go_at_call 59; refine Calls.mono HP.out ?_; rintro e w1 ⟨rfl, hg1, hk1⟩; have hc1 := (hk1.cell (p := ⟨b, i, none⟩) hb hX).trans hc; have hz1 := (hk1.frozen (p := ⟨b, i, none⟩) hb hX).trans hz) | (go_at_call 78; refine (word_mark _ _ _).mono ?_; rintro e w' ⟨rfl, rfl⟩) | (go_at_call 80; refine (bHit b i s v _ hc1 hz1).mono ?_; rintro e w' ⟨rfl, rfl⟩))
  go_ret
  exact ⟨rfl, g.keep _ (fun k => k = b) _ _ hg1 (kp_setb _ _ _ _).drew (fun k e hx => hX (e ▸ hx)), v_drew' ⟨kp_setX hk1 _ _ _, num_at hk1 hX hb _ _⟩⟩

set_option maxRecDepth 100000 in
set_option maxHeartbeats 400000 in
theorem kMiss {gv : Value} {X : Nat → Prop} {most : Nat} {G : List Int → World → Prop} (g : GateOk gv X most G) (ks : List Int) (hk : ks.length < most) (b i : Nat) (s o v : Bool) (w : World) (hG : G ks w) (hX : ¬ X b) (hb : b < w.heap.size) (hc : w.cell? ⟨b, i, none⟩ = some (.int .u32 (bI s))) (hz : w.frozen? ⟨b, i, none⟩ = false) (ho : Hid (¬ s = o)) :
    Calls Try.prog 39 #[.pointer (some ⟨b, i, none⟩), gv, .bool o, .bool v] w fun e w' => e = .returned (.bool false) ∧ G (ks ++ [5]) w' ∧ VStep X b i (.int .u32 (bI s)) w w' := by
  have HP : Hid _ := g.pass ks 5 w hG hk
  go_enter Try.func39, Try.ntmps39
  go_wp2_with (first | (go_at_call 59; refine Calls.mono HP.out ?_; rintro e w1 ⟨rfl, hg1, hk1⟩; have hc1 := (hk1.cell (p := ⟨b, i, none⟩) hb hX).trans hc; have hz1 := (hk1.frozen (p := ⟨b, i, none⟩) hb hX).trans hz) | (go_at_call 78; refine (word_mark _ _ _).mono ?_; rintro e w' ⟨rfl, rfl⟩) | (go_at_call 80; refine (bMiss b i s o v ho.out _ hc1 hz1).mono ?_; rintro e w' ⟨rfl, rfl⟩))
  go_ret
  exact ⟨rfl, g.keep _ (fun k => k = b) _ _ hg1 (Kp.refl _ _).drew (fun k e hx => hX (e ▸ hx)), v_drew' ⟨hk1.mono (fun k h => Or.inl h), num_same hk1 hX hb hc⟩⟩

set_option maxRecDepth 100000 in
set_option maxHeartbeats 400000 in
theorem doMark_1 {gv : Value} {X : Nat → Prop} {most : Nat} {G : List Int → World → Prop} (g : GateOk gv X most G) (ks : List Int) (hk : ks.length < most) (b i : Nat) (s : Bool) (at_ a c : Int) (w : World) (hG : G ks w) (hX : ¬ X b) (hb : b < w.heap.size) (hc : w.cell? ⟨b, i, none⟩ = some (.int .u32 (bI s))) (hz : w.frozen? ⟨b, i, none⟩ = false) :
    Calls Try.prog 102 #[gv, .pointer (some ⟨b, i, none⟩), .agg #[.int .i64 1, .int .i64 at_, .int .i64 a, .int .i64 c]] w fun e w' => e = .returned (.bool s) ∧ G (ks ++ [1]) w' ∧ VStep X b i (.int .u32 (bI s)) w w' := by
  have hb1 : b < (w.alloc (.cells #[.int .i64 1, .int .i64 at_, .int .i64 a, .int .i64 c] 36)).heap.size := by simp; omega
  have hk0 : Kp (fun _ => False) w (w.alloc (.cells #[.int .i64 1, .int .i64 at_, .int .i64 a, .int .i64 c] 36)) := (Kp.refl _ _).alloc _
  have hG1 := g.keep ks _ _ _ hG hk0 (fun _ h => h.elim)
  have hc1 := (hk0.cell (p := ⟨b, i, none⟩) hb (fun h => h)).trans hc
  have hz1 := (hk0.frozen (p := ⟨b, i, none⟩) hb (fun h => h)).trans hz
  have HM : Hid _ := kLoad g ks hk b i s _ hG1 hX hb1 hc1 hz1
  clear hG1 hc1 hz1
  go_enter Try.func102, Try.ntmps102
  go_wp2_with (first | (go_at_call 38; refine Calls.mono HM.out ?_; rintro e w1 ⟨rfl, hg1, hs1⟩))
  go_ret
  exact ⟨rfl, hg1, v_alloc hb hs1⟩

set_option maxRecDepth 100000 in
set_option maxHeartbeats 400000 in
theorem doMark_2 {gv : Value} {X : Nat → Prop} {most : Nat} {G : List Int → World → Prop} (g : GateOk gv X most G) (ks : List Int) (hk : ks.length < most) (b i : Nat) (s : Bool) (at_ a c : Int) (w : World) (hG : G ks w) (hX : ¬ X b) (hb : b < w.heap.size) (hc : w.cell? ⟨b, i, none⟩ = some (.int .u32 (bI s))) (hz : w.frozen? ⟨b, i, none⟩ = false) :
    Calls Try.prog 102 #[gv, .pointer (some ⟨b, i, none⟩), .agg #[.int .i64 2, .int .i64 at_, .int .i64 a, .int .i64 c]] w fun e w' => e = .returned (.bool false) ∧ G (ks ++ [2]) w' ∧ VStep X b i (.int .u32 (bI (a != 0))) w w' := by
  have hb1 : b < (w.alloc (.cells #[.int .i64 2, .int .i64 at_, .int .i64 a, .int .i64 c] 36)).heap.size := by simp; omega
  have hk0 : Kp (fun _ => False) w (w.alloc (.cells #[.int .i64 2, .int .i64 at_, .int .i64 a, .int .i64 c] 36)) := (Kp.refl _ _).alloc _
  have hG1 := g.keep ks _ _ _ hG hk0 (fun _ h => h.elim)
  have hc1 := (hk0.cell (p := ⟨b, i, none⟩) hb (fun h => h)).trans hc
  have hz1 := (hk0.frozen (p := ⟨b, i, none⟩) hb (fun h => h)).trans hz
  have HM : Hid _ := kStore g ks hk b i s (a != 0) _ hG1 hX hb1 hc1 hz1
  clear hG1 hc1 hz1
  go_enter Try.func102, Try.ntmps102
  go_wp2_with (first | (go_at_call 99; refine Calls.mono HM.out ?_; rintro e w1 ⟨rfl, hg1, hs1⟩))
  go_ret
  exact ⟨rfl, hg1, v_alloc hb hs1⟩

set_option maxRecDepth 100000 in
set_option maxHeartbeats 400000 in
theorem doMark_4 {gv : Value} {X : Nat → Prop} {most : Nat} {G : List Int → World → Prop} (g : GateOk gv X most G) (ks : List Int) (hk : ks.length < most) (b i : Nat) (s : Bool) (at_ a c : Int) (w : World) (hG : G ks w) (hX : ¬ X b) (hb : b < w.heap.size) (hc : w.cell? ⟨b, i, none⟩ = some (.int .u32 (bI s))) (hz : w.frozen? ⟨b, i, none⟩ = false) :
    Calls Try.prog 102 #[gv, .pointer (some ⟨b, i, none⟩), .agg #[.int .i64 4, .int .i64 at_, .int .i64 a, .int .i64 c]] w fun e w' => e = .returned (.bool s) ∧ G (ks ++ [4]) w' ∧ VStep X b i (.int .u32 (bI (a != 0))) w w' := by
  have hb1 : b < (w.alloc (.cells #[.int .i64 4, .int .i64 at_, .int .i64 a, .int .i64 c] 36)).heap.size := by simp; omega
  have hk0 : Kp (fun _ => False) w (w.alloc (.cells #[.int .i64 4, .int .i64 at_, .int .i64 a, .int .i64 c] 36)) := (Kp.refl _ _).alloc _
  have hG1 := g.keep ks _ _ _ hG hk0 (fun _ h => h.elim)
  have hc1 := (hk0.cell (p := ⟨b, i, none⟩) hb (fun h => h)).trans hc
  have hz1 := (hk0.frozen (p := ⟨b, i, none⟩) hb (fun h => h)).trans hz
  have HM : Hid _ := kSwap g ks hk b i s (a != 0) _ hG1 hX hb1 hc1 hz1
  clear hG1 hc1 hz1
  go_enter Try.func102, Try.ntmps102
  go_wp2_with (first | (go_at_call 40; refine Calls.mono HM.out ?_; rintro e w1 ⟨rfl, hg1, hs1⟩))
  go_ret
  exact ⟨rfl, hg1, v_alloc hb hs1⟩

set_option maxRecDepth 100000 in
set_option maxHeartbeats 400000 in
theorem doMark_hit {gv : Value} {X : Nat → Prop} {most : Nat} {G : List Int → World → Prop} (g : GateOk gv X most G) (ks : List Int) (hk : ks.length < most) (b i : Nat) (s : Bool) (at_ a c : Int) (w : World) (hG : G ks w) (hX : ¬ X b) (hb : b < w.heap.size) (hc : w.cell? ⟨b, i, none⟩ = some (.int .u32 (bI s))) (hz : w.frozen? ⟨b, i, none⟩ = false) (ho : Hid (s = (a != 0))) :
    Calls Try.prog 102 #[gv, .pointer (some ⟨b, i, none⟩), .agg #[.int .i64 5, .int .i64 at_, .int .i64 a, .int .i64 c]] w fun e w' => e = .returned (.bool true) ∧ G (ks ++ [5]) w' ∧ VStep X b i (.int .u32 (bI (c != 0))) w w' := by
  have hb1 : b < (w.alloc (.cells #[.int .i64 5, .int .i64 at_, .int .i64 a, .int .i64 c] 36)).heap.size := by simp; omega
  have hk0 : Kp (fun _ => False) w (w.alloc (.cells #[.int .i64 5, .int .i64 at_, .int .i64 a, .int .i64 c] 36)) := (Kp.refl _ _).alloc _
  have hG1 := g.keep ks _ _ _ hG hk0 (fun _ h => h.elim)
  have hc1 := (hk0.cell (p := ⟨b, i, none⟩) hb (fun h => h)).trans hc
  have hz1 := (hk0.frozen (p := ⟨b, i, none⟩) hb (fun h => h)).trans hz
  have HM : Hid _ := (show Calls Try.prog 39 #[.pointer (some ⟨b, i, none⟩), gv, .bool (a != 0), .bool (c != 0)] _ _ from ho.out ▸ kHit g ks hk b i s (c != 0) _ hG1 hX hb1 hc1 hz1)
  clear hG1 hc1 hz1
  go_enter Try.func102, Try.ntmps102
  go_wp2_with (first | (go_at_call 39; refine Calls.mono HM.out ?_; rintro e w1 ⟨rfl, hg1, hs1⟩))
  go_ret
  exact ⟨rfl, hg1, v_alloc hb hs1⟩

set_option maxRecDepth 100000 in
set_option maxHeartbeats 400000 in
theorem doMark_miss {gv : Value} {X : Nat → Prop} {most : Nat} {G : List Int → World → Prop} (g : GateOk gv X most G) (ks : List Int) (hk : ks.length < most) (b i : Nat) (s : Bool) (at_ a c : Int) (w : World) (hG : G ks w) (hX : ¬ X b) (hb : b < w.heap.size) (hc : w.cell? ⟨b, i, none⟩ = some (.int .u32 (bI s))) (hz : w.frozen? ⟨b, i, none⟩ = false) (ho : Hid (¬ s = (a != 0))) :
    Calls Try.prog 102 #[gv, .pointer (some ⟨b, i, none⟩), .agg #[.int .i64 5, .int .i64 at_, .int .i64 a, .int .i64 c]] w fun e w' => e = .returned (.bool false) ∧ G (ks ++ [5]) w' ∧ VStep X b i (.int .u32 (bI s)) w w' := by
  have hb1 : b < (w.alloc (.cells #[.int .i64 5, .int .i64 at_, .int .i64 a, .int .i64 c] 36)).heap.size := by simp; omega
  have hk0 : Kp (fun _ => False) w (w.alloc (.cells #[.int .i64 5, .int .i64 at_, .int .i64 a, .int .i64 c] 36)) := (Kp.refl _ _).alloc _
  have hG1 := g.keep ks _ _ _ hG hk0 (fun _ h => h.elim)
  have hc1 := (hk0.cell (p := ⟨b, i, none⟩) hb (fun h => h)).trans hc
  have hz1 := (hk0.frozen (p := ⟨b, i, none⟩) hb (fun h => h)).trans hz
  have HM : Hid _ := kMiss g ks hk b i s (a != 0) (c != 0) _ hG1 hX hb1 hc1 hz1 ho
  clear hG1 hc1 hz1
  go_enter Try.func102, Try.ntmps102
  go_wp2_with (first | (go_at_call 39; refine Calls.mono HM.out ?_; rintro e w1 ⟨rfl, hg1, hs1⟩))
  go_ret
  exact ⟨rfl, hg1, v_alloc hb hs1⟩
end Go.Proofs.Ytlbfkgecckdlgaa

/- Layer 2: the closure of Nums and play. -/
import Derived.Test.YtlbfkgecckdlgaaCTape
import Derived.Deep.RegionHeld3
import Derived.Deep.DrawnRows
namespace Go.Proofs.Ytlbfkgecckdlgaa
open Go.RowKit
attribute [local go_sem ↓] Go.wp_at_zero Go.wp_at_succ

theorem num_drew {X : Nat → Prop} {b i : Nat} {v : Int} {w w' : World} (h : NumStep X b i v w.drew w') : NumStep X b i v w w' := ⟨⟨h.kp.os, h.kp.tape, h.kp.output, h.kp.size, h.kp.block⟩, h.at_⟩

set_option maxRecDepth 100000 in
set_option maxHeartbeats 1000000 in
theorem nums2_any {gv : Value} {X : Nat → Prop} {most : Nat} {G : List Int → World → Prop} (g : GateOk gv X most G) (ks : List Int) (hk : ks.length < most) (vb nb m i : Nat) (x d a c : Int) (hd : 1 ≤ d ∧ d ≤ 7) (hi : i < m) (w : World) (hG : G ks w) (hX : ¬ X nb) (hb : nb < w.heap.size) (hv : w.cell? ⟨vb, 0, none⟩ = some (.slice (some ⟨nb, 0, none⟩) m m)) (hvb : vb < w.heap.size) (hc : w.cell? ⟨nb, i, none⟩ = some (.int .i64 x)) (hz : w.frozen? ⟨nb, i, none⟩ = false) :
    Calls Try.prog 56 #[gv, .agg #[.int .i64 d, .int .i64 i, .int .i64 a, .int .i64 c], .pointer (some ⟨vb, 0, none⟩)] w fun e w' => e = .returned (.int .i64 (nO x d a)) ∧ G (ks ++ [d]) w' ∧ NumStep X nb i (nN x d a c) w w' := by
  have hk0 : Kp (fun _ => False) w (w.alloc (.cells #[.int .i64 d, .int .i64 i, .int .i64 a, .int .i64 c] 36)).drew := ((Kp.refl _ _).alloc _).drew
  have hG1 := g.keep ks _ _ _ hG hk0 (fun _ h => h.elim)
  have hc1 := (hk0.cell (p := ⟨nb, i, none⟩) hb (fun h => h)).trans hc
  have hz1 := (hk0.frozen (p := ⟨nb, i, none⟩) hb (fun h => h)).trans hz
  have hv1 := (hk0.cell (p := ⟨vb, 0, none⟩) hvb (fun h => h)).trans hv
  have HM : Hid _ := doNum_any g ks hk nb i x d i a c hd _ hG1 hX (by simp; omega) hc1 hz1
  have i0 : (0 : Int) ≤ (i : Int) := Int.natCast_nonneg _
  have i1 : (i : Int) < (m : Int) := by omega
  have n1 : ¬ vb = w.heap.size := by omega
  clear hG1 hc1 hz1
  go_enter Try.func56, Try.ntmps56
  go_wp2_with fail
  go_region_with
    (first | (go_at_call 57; refine Calls.mono HM.out ?_; rintro e w1 ⟨rfl, hg1, hs1⟩))
  all_goals
    go_wp2
    go_ret
    exact ⟨rfl, hg1, num_alloc hb (num_drew hs1)⟩
end Go.Proofs.Ytlbfkgecckdlgaa

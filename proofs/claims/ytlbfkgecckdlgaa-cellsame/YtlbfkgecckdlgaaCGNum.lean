/- Layer 2: the law file's num, an act each, through any gate. -/
import Derived.Test.YtlbfkgecckdlgaaCTape
namespace Go.Proofs.Ytlbfkgecckdlgaa
open Go.RowKit

set_option maxRecDepth 100000 in
set_option maxHeartbeats 400000 in
theorem gnum_1 {gv : Value} {X : Nat → Prop} {most : Nat} {G : List Int → World → Prop} (g : GateOk gv X most G) (ks : List Int) (hk : ks.length < most) (b i : Nat) (x at_ a c : Int) (w : World) (hG : G ks w) (hX : ¬ X b) (hb : b < w.heap.size) (hc : w.cell? ⟨b, i, none⟩ = some (.int .i64 x)) (hz : w.frozen? ⟨b, i, none⟩ = false) :
    Calls Try.prog 23 #[.pointer (some ⟨b, i, none⟩), gv, .agg #[.int .i64 1, .int .i64 at_, .int .i64 a, .int .i64 c]] w fun e w' => e = .returned (.int .i64 x) ∧ G (ks ++ [1]) w' ∧ NumStep X b i x w w' := by
  have hb1 : b < (w.alloc (.cells #[.int .i64 1, .int .i64 at_, .int .i64 a, .int .i64 c] 52)).heap.size := by simp; omega
  have hk0 : Kp (fun _ => False) w (w.alloc (.cells #[.int .i64 1, .int .i64 at_, .int .i64 a, .int .i64 c] 52)) := (Kp.refl _ _).alloc _
  have hG1 := g.keep ks _ _ _ hG hk0 (fun _ h => h.elim)
  have hc1 := (hk0.cell (p := ⟨b, i, none⟩) hb (fun h => h)).trans hc
  have hz1 := (hk0.frozen (p := ⟨b, i, none⟩) hb (fun h => h)).trans hz
  have HM : Hid _ := nLoad g ks hk b i x _ hG1 hX hb1 hc1 hz1
  clear hG1 hc1 hz1
  go_enter Try.func23, Try.ntmps23
  go_wp2_with (first | (go_at_call 19; refine Calls.mono HM.out ?_; rintro e w1 ⟨rfl, hg1, hs1⟩))
  go_ret
  exact ⟨rfl, hg1, num_alloc hb hs1⟩

set_option maxRecDepth 100000 in
set_option maxHeartbeats 400000 in
theorem gnum_2 {gv : Value} {X : Nat → Prop} {most : Nat} {G : List Int → World → Prop} (g : GateOk gv X most G) (ks : List Int) (hk : ks.length < most) (b i : Nat) (x at_ a c : Int) (w : World) (hG : G ks w) (hX : ¬ X b) (hb : b < w.heap.size) (hc : w.cell? ⟨b, i, none⟩ = some (.int .i64 x)) (hz : w.frozen? ⟨b, i, none⟩ = false) :
    Calls Try.prog 23 #[.pointer (some ⟨b, i, none⟩), gv, .agg #[.int .i64 2, .int .i64 at_, .int .i64 a, .int .i64 c]] w fun e w' => e = .returned (.int .i64 0) ∧ G (ks ++ [2]) w' ∧ NumStep X b i a w w' := by
  have hb1 : b < (w.alloc (.cells #[.int .i64 2, .int .i64 at_, .int .i64 a, .int .i64 c] 52)).heap.size := by simp; omega
  have hk0 : Kp (fun _ => False) w (w.alloc (.cells #[.int .i64 2, .int .i64 at_, .int .i64 a, .int .i64 c] 52)) := (Kp.refl _ _).alloc _
  have hG1 := g.keep ks _ _ _ hG hk0 (fun _ h => h.elim)
  have hc1 := (hk0.cell (p := ⟨b, i, none⟩) hb (fun h => h)).trans hc
  have hz1 := (hk0.frozen (p := ⟨b, i, none⟩) hb (fun h => h)).trans hz
  have HM : Hid _ := nStore g ks hk b i x a _ hG1 hX hb1 hc1 hz1
  clear hG1 hc1 hz1
  go_enter Try.func23, Try.ntmps23
  go_wp2_with (first | (go_at_call 21; refine Calls.mono HM.out ?_; rintro e w1 ⟨rfl, hg1, hs1⟩))
  go_ret
  exact ⟨rfl, hg1, num_alloc hb hs1⟩

set_option maxRecDepth 100000 in
set_option maxHeartbeats 400000 in
theorem gnum_3 {gv : Value} {X : Nat → Prop} {most : Nat} {G : List Int → World → Prop} (g : GateOk gv X most G) (ks : List Int) (hk : ks.length < most) (b i : Nat) (x at_ a c s : Int) (w : World) (hG : G ks w) (hX : ¬ X b) (hb : b < w.heap.size) (hc : w.cell? ⟨b, i, none⟩ = some (.int .i64 x)) (hz : w.frozen? ⟨b, i, none⟩ = false) (hs : Hid (IntKind.i64.wrap (x + a) = s)) :
    Calls Try.prog 23 #[.pointer (some ⟨b, i, none⟩), gv, .agg #[.int .i64 3, .int .i64 at_, .int .i64 a, .int .i64 c]] w fun e w' => e = .returned (.int .i64 s) ∧ G (ks ++ [3]) w' ∧ NumStep X b i s w w' := by
  have hb1 : b < (w.alloc (.cells #[.int .i64 3, .int .i64 at_, .int .i64 a, .int .i64 c] 52)).heap.size := by simp; omega
  have hk0 : Kp (fun _ => False) w (w.alloc (.cells #[.int .i64 3, .int .i64 at_, .int .i64 a, .int .i64 c] 52)) := (Kp.refl _ _).alloc _
  have hG1 := g.keep ks _ _ _ hG hk0 (fun _ h => h.elim)
  have hc1 := (hk0.cell (p := ⟨b, i, none⟩) hb (fun h => h)).trans hc
  have hz1 := (hk0.frozen (p := ⟨b, i, none⟩) hb (fun h => h)).trans hz
  have HM : Hid _ := nAdd g ks hk b i x a s _ hG1 hX hb1 hc1 hz1 hs
  clear hG1 hc1 hz1
  go_enter Try.func23, Try.ntmps23
  go_wp2_with (first | (go_at_call 25; refine Calls.mono HM.out ?_; rintro e w1 ⟨rfl, hg1, hs1⟩))
  go_ret
  exact ⟨rfl, hg1, num_alloc hb hs1⟩

set_option maxRecDepth 100000 in
set_option maxHeartbeats 400000 in
theorem gnum_4 {gv : Value} {X : Nat → Prop} {most : Nat} {G : List Int → World → Prop} (g : GateOk gv X most G) (ks : List Int) (hk : ks.length < most) (b i : Nat) (x at_ a c : Int) (w : World) (hG : G ks w) (hX : ¬ X b) (hb : b < w.heap.size) (hc : w.cell? ⟨b, i, none⟩ = some (.int .i64 x)) (hz : w.frozen? ⟨b, i, none⟩ = false) :
    Calls Try.prog 23 #[.pointer (some ⟨b, i, none⟩), gv, .agg #[.int .i64 4, .int .i64 at_, .int .i64 a, .int .i64 c]] w fun e w' => e = .returned (.int .i64 x) ∧ G (ks ++ [4]) w' ∧ NumStep X b i a w w' := by
  have hb1 : b < (w.alloc (.cells #[.int .i64 4, .int .i64 at_, .int .i64 a, .int .i64 c] 52)).heap.size := by simp; omega
  have hk0 : Kp (fun _ => False) w (w.alloc (.cells #[.int .i64 4, .int .i64 at_, .int .i64 a, .int .i64 c] 52)) := (Kp.refl _ _).alloc _
  have hG1 := g.keep ks _ _ _ hG hk0 (fun _ h => h.elim)
  have hc1 := (hk0.cell (p := ⟨b, i, none⟩) hb (fun h => h)).trans hc
  have hz1 := (hk0.frozen (p := ⟨b, i, none⟩) hb (fun h => h)).trans hz
  have HM : Hid _ := nSwap g ks hk b i x a _ hG1 hX hb1 hc1 hz1
  clear hG1 hc1 hz1
  go_enter Try.func23, Try.ntmps23
  go_wp2_with (first | (go_at_call 26; refine Calls.mono HM.out ?_; rintro e w1 ⟨rfl, hg1, hs1⟩))
  go_ret
  exact ⟨rfl, hg1, num_alloc hb hs1⟩

set_option maxRecDepth 100000 in
set_option maxHeartbeats 400000 in
theorem gnum_hit {gv : Value} {X : Nat → Prop} {most : Nat} {G : List Int → World → Prop} (g : GateOk gv X most G) (ks : List Int) (hk : ks.length < most) (b i : Nat) (x at_ a c : Int) (w : World) (hG : G ks w) (hX : ¬ X b) (hb : b < w.heap.size) (hc : w.cell? ⟨b, i, none⟩ = some (.int .i64 x)) (hz : w.frozen? ⟨b, i, none⟩ = false) (ho : Hid (x = a)) :
    Calls Try.prog 23 #[.pointer (some ⟨b, i, none⟩), gv, .agg #[.int .i64 5, .int .i64 at_, .int .i64 a, .int .i64 c]] w fun e w' => e = .returned (.int .i64 1) ∧ G (ks ++ [5]) w' ∧ NumStep X b i c w w' := by
  have hb1 : b < (w.alloc (.cells #[.int .i64 5, .int .i64 at_, .int .i64 a, .int .i64 c] 52)).heap.size := by simp; omega
  have hk0 : Kp (fun _ => False) w (w.alloc (.cells #[.int .i64 5, .int .i64 at_, .int .i64 a, .int .i64 c] 52)) := (Kp.refl _ _).alloc _
  have hG1 := g.keep ks _ _ _ hG hk0 (fun _ h => h.elim)
  have hc1 := (hk0.cell (p := ⟨b, i, none⟩) hb (fun h => h)).trans hc
  have hz1 := (hk0.frozen (p := ⟨b, i, none⟩) hb (fun h => h)).trans hz
  have HM : Hid _ := nHit g ks hk b i x a c _ hG1 hX hb1 hc1 hz1 ho
  clear hG1 hc1 hz1
  go_enter Try.func23, Try.ntmps23
  go_wp2_with (first | (go_at_call 27; refine Calls.mono HM.out ?_; rintro e w1 ⟨rfl, hg1, hs1⟩))
  go_ret
  exact ⟨rfl, hg1, num_alloc hb hs1⟩

set_option maxRecDepth 100000 in
set_option maxHeartbeats 400000 in
theorem gnum_miss {gv : Value} {X : Nat → Prop} {most : Nat} {G : List Int → World → Prop} (g : GateOk gv X most G) (ks : List Int) (hk : ks.length < most) (b i : Nat) (x at_ a c : Int) (w : World) (hG : G ks w) (hX : ¬ X b) (hb : b < w.heap.size) (hc : w.cell? ⟨b, i, none⟩ = some (.int .i64 x)) (hz : w.frozen? ⟨b, i, none⟩ = false) (ho : Hid (¬ x = a)) :
    Calls Try.prog 23 #[.pointer (some ⟨b, i, none⟩), gv, .agg #[.int .i64 5, .int .i64 at_, .int .i64 a, .int .i64 c]] w fun e w' => e = .returned (.int .i64 0) ∧ G (ks ++ [5]) w' ∧ NumStep X b i x w w' := by
  have hb1 : b < (w.alloc (.cells #[.int .i64 5, .int .i64 at_, .int .i64 a, .int .i64 c] 52)).heap.size := by simp; omega
  have hk0 : Kp (fun _ => False) w (w.alloc (.cells #[.int .i64 5, .int .i64 at_, .int .i64 a, .int .i64 c] 52)) := (Kp.refl _ _).alloc _
  have hG1 := g.keep ks _ _ _ hG hk0 (fun _ h => h.elim)
  have hc1 := (hk0.cell (p := ⟨b, i, none⟩) hb (fun h => h)).trans hc
  have hz1 := (hk0.frozen (p := ⟨b, i, none⟩) hb (fun h => h)).trans hz
  have HM : Hid _ := nMiss g ks hk b i x a c _ hG1 hX hb1 hc1 hz1 ho
  clear hG1 hc1 hz1
  go_enter Try.func23, Try.ntmps23
  go_wp2_with (first | (go_at_call 27; refine Calls.mono HM.out ?_; rintro e w1 ⟨rfl, hg1, hs1⟩))
  go_ret
  exact ⟨rfl, hg1, num_alloc hb hs1⟩

set_option maxRecDepth 100000 in
set_option maxHeartbeats 400000 in
theorem gnum_6 {gv : Value} {X : Nat → Prop} {most : Nat} {G : List Int → World → Prop} (g : GateOk gv X most G) (ks : List Int) (hk : ks.length < most) (b i : Nat) (x at_ a c s : Int) (w : World) (hG : G ks w) (hX : ¬ X b) (hb : b < w.heap.size) (hc : w.cell? ⟨b, i, none⟩ = some (.int .i64 x)) (hz : w.frozen? ⟨b, i, none⟩ = false) (hs : Hid (bits .and .i64 x a = s)) :
    Calls Try.prog 23 #[.pointer (some ⟨b, i, none⟩), gv, .agg #[.int .i64 6, .int .i64 at_, .int .i64 a, .int .i64 c]] w fun e w' => e = .returned (.int .i64 x) ∧ G (ks ++ [6]) w' ∧ NumStep X b i s w w' := by
  have hb1 : b < (w.alloc (.cells #[.int .i64 6, .int .i64 at_, .int .i64 a, .int .i64 c] 52)).heap.size := by simp; omega
  have hk0 : Kp (fun _ => False) w (w.alloc (.cells #[.int .i64 6, .int .i64 at_, .int .i64 a, .int .i64 c] 52)) := (Kp.refl _ _).alloc _
  have hG1 := g.keep ks _ _ _ hG hk0 (fun _ h => h.elim)
  have hc1 := (hk0.cell (p := ⟨b, i, none⟩) hb (fun h => h)).trans hc
  have hz1 := (hk0.frozen (p := ⟨b, i, none⟩) hb (fun h => h)).trans hz
  have HM : Hid _ := nAnd g ks hk b i x a s _ hG1 hX hb1 hc1 hz1 hs
  clear hG1 hc1 hz1
  go_enter Try.func23, Try.ntmps23
  go_wp2_with (first | (go_at_call 29; refine Calls.mono HM.out ?_; rintro e w1 ⟨rfl, hg1, hs1⟩))
  go_ret
  exact ⟨rfl, hg1, num_alloc hb hs1⟩

set_option maxRecDepth 100000 in
set_option maxHeartbeats 400000 in
theorem gnum_7 {gv : Value} {X : Nat → Prop} {most : Nat} {G : List Int → World → Prop} (g : GateOk gv X most G) (ks : List Int) (hk : ks.length < most) (b i : Nat) (x at_ a c s : Int) (w : World) (hG : G ks w) (hX : ¬ X b) (hb : b < w.heap.size) (hc : w.cell? ⟨b, i, none⟩ = some (.int .i64 x)) (hz : w.frozen? ⟨b, i, none⟩ = false) (hs : Hid (bits .or .i64 x a = s)) :
    Calls Try.prog 23 #[.pointer (some ⟨b, i, none⟩), gv, .agg #[.int .i64 7, .int .i64 at_, .int .i64 a, .int .i64 c]] w fun e w' => e = .returned (.int .i64 x) ∧ G (ks ++ [7]) w' ∧ NumStep X b i s w w' := by
  have hb1 : b < (w.alloc (.cells #[.int .i64 7, .int .i64 at_, .int .i64 a, .int .i64 c] 52)).heap.size := by simp; omega
  have hk0 : Kp (fun _ => False) w (w.alloc (.cells #[.int .i64 7, .int .i64 at_, .int .i64 a, .int .i64 c] 52)) := (Kp.refl _ _).alloc _
  have hG1 := g.keep ks _ _ _ hG hk0 (fun _ h => h.elim)
  have hc1 := (hk0.cell (p := ⟨b, i, none⟩) hb (fun h => h)).trans hc
  have hz1 := (hk0.frozen (p := ⟨b, i, none⟩) hb (fun h => h)).trans hz
  have HM : Hid _ := nOr g ks hk b i x a s _ hG1 hX hb1 hc1 hz1 hs
  clear hG1 hc1 hz1
  go_enter Try.func23, Try.ntmps23
  go_wp2_with (first | (go_at_call 28; refine Calls.mono HM.out ?_; rintro e w1 ⟨rfl, hg1, hs1⟩))
  go_ret
  exact ⟨rfl, hg1, num_alloc hb hs1⟩

theorem gnum_any {gv : Value} {X : Nat → Prop} {most : Nat} {G : List Int → World → Prop} (g : GateOk gv X most G) (ks : List Int) (hk : ks.length < most) (b i : Nat) (x d at_ a c : Int) (hd : 1 ≤ d ∧ d ≤ 7) (w : World) (hG : G ks w) (hX : ¬ X b) (hb : b < w.heap.size) (hc : w.cell? ⟨b, i, none⟩ = some (.int .i64 x)) (hz : w.frozen? ⟨b, i, none⟩ = false) :
    Calls Try.prog 23 #[.pointer (some ⟨b, i, none⟩), gv, .agg #[.int .i64 d, .int .i64 at_, .int .i64 a, .int .i64 c]] w fun e w' => e = .returned (.int .i64 (nO x d a)) ∧ G (ks ++ [d]) w' ∧ NumStep X b i (nN x d a c) w w' := by
  have hd' : d = 1 ∨ d = 2 ∨ d = 3 ∨ d = 4 ∨ d = 5 ∨ d = 6 ∨ d = 7 := by omega
  rcases hd' with rfl | rfl | rfl | rfl | rfl | rfl | rfl
  · exact gnum_1 g ks hk b i x at_ a c w hG hX hb hc hz
  · exact gnum_2 g ks hk b i x at_ a c w hG hX hb hc hz
  · exact gnum_3 g ks hk b i x at_ a c _ w hG hX hb hc hz rfl
  · exact gnum_4 g ks hk b i x at_ a c w hG hX hb hc hz
  · by_cases h : x = a
    · rw [show nO x 5 a = 1 from by simp [nO, h], show nN x 5 a c = c from by simp [nN, h]]
      exact gnum_hit g ks hk b i x at_ a c w hG hX hb hc hz h
    · rw [show nO x 5 a = 0 from by simp [nO, h], show nN x 5 a c = x from by simp [nN, h]]
      exact gnum_miss g ks hk b i x at_ a c w hG hX hb hc hz h
  · exact gnum_6 g ks hk b i x at_ a c _ w hG hX hb hc hz rfl
  · exact gnum_7 g ks hk b i x at_ a c _ w hG hX hb hc hz rfl
end Go.Proofs.Ytlbfkgecckdlgaa

/- Layer 2: what an act does to a cell of things, through any gate. -/
import Derived.Test.YtlbfkgecckdlgaaCThing
import Derived.Test.YtlbfkgecckdlgaaCRow
namespace Go.Proofs.Ytlbfkgecckdlgaa
open Go.RowKit

/-- A number that is a thing's, or nil's. -/
def isT (k : Int) (n : Nat) : Prop := -1 ≤ k ∧ k < (n : Int)

theorem th_blk {M n : Nat} {k : Int} (hk : isT k n) {b' : Nat} (h : th M k = some ⟨b', 0, none⟩) : M ≤ b' ∧ b' < M + 1 + n := by
  unfold th at h
  unfold isT at hk
  split at h
  · cases h
  · injection h with h; injection h with h; omega
theorem v_ts {X : Nat → Prop} {M n b i : Nat} {v : Value} {w w' : World} (h : TS M n w) (hv : VStep X b i v w w') (hXM : ∀ k, M ≤ k → k < M + 1 + n → ¬ X k) (hbM : b < M ∨ M + 1 + n ≤ b) : TS M n w' :=
  h.kp hv.kp (fun k h1 h2 => by rintro (h | h); exact hXM k h1 h2 h; omega)

set_option maxRecDepth 100000 in
set_option maxHeartbeats 1000000 in
theorem doT_1 {gv : Value} {X : Nat → Prop} {most : Nat} {G : List Int → World → Prop} (g : GateOk gv X most G) (ks : List Int) (hk : ks.length < most) (M n b i : Nat) (hn : n ≤ 64) (hXM : ∀ k, M ≤ k → k < M + 1 + n → ¬ X k) (hbM : b < M ∨ M + 1 + n ≤ b) (x at_ a c : Int) (hx : isT x n) (w : World) (hG : G ks w) (hX : ¬ X b) (hb : b < w.heap.size) (hT : TS M n w) (hc : w.cell? ⟨b, i, none⟩ = some (.pointer (th M x))) (hz : w.frozen? ⟨b, i, none⟩ = false) :
    Calls Try.prog 93 #[.slice (some ⟨M, 0, none⟩) n n, gv, .pointer (some ⟨b, i, none⟩), .agg #[.int .i64 1, .int .i64 at_, .int .i64 a, .int .i64 c]] w fun e w' => e = .returned (.int .i64 x) ∧ G (ks ++ [1]) w' ∧ VStep X b i (.pointer (th M x)) w w' := by
  have hb1 : b < (w.alloc (.cells #[.int .i64 1, .int .i64 at_, .int .i64 a, .int .i64 c] 36)).heap.size := by simp; omega
  have hk0 : Kp (fun _ => False) w (w.alloc (.cells #[.int .i64 1, .int .i64 at_, .int .i64 a, .int .i64 c] 36)) := ((Kp.refl _ _).alloc _)
  have hG1 := g.keep ks _ _ _ hG hk0 (fun _ h => h.elim)
  have hc1 := (hk0.cell (p := ⟨b, i, none⟩) hb (fun h => h)).trans hc
  have hz1 := (hk0.frozen (p := ⟨b, i, none⟩) hb (fun h => h)).trans hz
  have hT1 := hT.kp hk0 (fun _ _ _ h => h)
  have HM : Hid _ := cLoadT g ks hk b i (th M x) _ hG1 hX hb1 hc1 hz1 (fun w1 hk' => (hT1.kp hk' hXM).ptr hx)
  have HT1 : Hid _ := hT1
  clear hG1 hc1 hz1 hT hc
  go_enter Try.func93, Try.ntmps93
  go_wp2_with (first | (go_at_call 95; refine Calls.mono HM.out ?_; rintro e w1 ⟨rfl, hg1, hs1⟩; have hT2 := v_ts HT1.out hs1 hXM hbM) | (go_at_call 94; refine (number_any M n _ hT2 x hx hn).mono ?_; rintro e w' ⟨rfl, rfl⟩))
  go_ret
  exact ⟨rfl, hg1, v_alloc hb hs1⟩

set_option maxRecDepth 100000 in
set_option maxHeartbeats 1000000 in
theorem doT_2 {gv : Value} {X : Nat → Prop} {most : Nat} {G : List Int → World → Prop} (g : GateOk gv X most G) (ks : List Int) (hk : ks.length < most) (M n b i : Nat) (_hn : n ≤ 64) (hXM : ∀ k, M ≤ k → k < M + 1 + n → ¬ X k) (_hbM : b < M ∨ M + 1 + n ≤ b) (x at_ a c : Int) (_hx : isT x n) (w : World) (hG : G ks w) (hX : ¬ X b) (hb : b < w.heap.size) (hT : TS M n w) (hc : w.cell? ⟨b, i, none⟩ = some (.pointer (th M x))) (hz : w.frozen? ⟨b, i, none⟩ = false) (ha : isT a n) :
    Calls Try.prog 93 #[.slice (some ⟨M, 0, none⟩) n n, gv, .pointer (some ⟨b, i, none⟩), .agg #[.int .i64 2, .int .i64 at_, .int .i64 a, .int .i64 c]] w fun e w' => e = .returned (.int .i64 0) ∧ G (ks ++ [2]) w' ∧ VStep X b i (.pointer (th M a)) w w' := by
  have hb1 : b < (w.alloc (.cells #[.int .i64 2, .int .i64 at_, .int .i64 a, .int .i64 c] 36)).heap.size := by simp; omega
  have hk0 : Kp (fun _ => False) w (w.alloc (.cells #[.int .i64 2, .int .i64 at_, .int .i64 a, .int .i64 c] 36)) := ((Kp.refl _ _).alloc _)
  have hG1 := g.keep ks _ _ _ hG hk0 (fun _ h => h.elim)
  have hc1 := (hk0.cell (p := ⟨b, i, none⟩) hb (fun h => h)).trans hc
  have hz1 := (hk0.frozen (p := ⟨b, i, none⟩) hb (fun h => h)).trans hz
  have hT1 := hT.kp hk0 (fun _ _ _ h => h)
  have HM : Hid _ := cStoreT g ks hk b i (th M x) (th M a) _ hG1 hX hb1 hc1 hz1 (fun w1 hk' => (hT1.kp hk' hXM).ptr ha)
  have HN : Hid _ := numbered_any M n _ hT1 a ha
  clear hG1 hc1 hz1 hT hc
  go_enter Try.func93, Try.ntmps93
  go_wp2_with (first | (go_at_call 90; refine Calls.mono HM.out ?_; rintro e w1 ⟨rfl, hg1, hs1⟩) | (go_at_call 91; refine Calls.mono HN.out ?_; rintro e w' ⟨rfl, rfl⟩))
  go_ret
  exact ⟨rfl, hg1, v_alloc hb hs1⟩

set_option maxRecDepth 100000 in
set_option maxHeartbeats 1000000 in
theorem doT_4 {gv : Value} {X : Nat → Prop} {most : Nat} {G : List Int → World → Prop} (g : GateOk gv X most G) (ks : List Int) (hk : ks.length < most) (M n b i : Nat) (hn : n ≤ 64) (hXM : ∀ k, M ≤ k → k < M + 1 + n → ¬ X k) (hbM : b < M ∨ M + 1 + n ≤ b) (x at_ a c : Int) (hx : isT x n) (w : World) (hG : G ks w) (hX : ¬ X b) (hb : b < w.heap.size) (hT : TS M n w) (hc : w.cell? ⟨b, i, none⟩ = some (.pointer (th M x))) (hz : w.frozen? ⟨b, i, none⟩ = false) (ha : isT a n) :
    Calls Try.prog 93 #[.slice (some ⟨M, 0, none⟩) n n, gv, .pointer (some ⟨b, i, none⟩), .agg #[.int .i64 4, .int .i64 at_, .int .i64 a, .int .i64 c]] w fun e w' => e = .returned (.int .i64 x) ∧ G (ks ++ [4]) w' ∧ VStep X b i (.pointer (th M a)) w w' := by
  have hb1 : b < (w.alloc (.cells #[.int .i64 4, .int .i64 at_, .int .i64 a, .int .i64 c] 36)).heap.size := by simp; omega
  have hk0 : Kp (fun _ => False) w (w.alloc (.cells #[.int .i64 4, .int .i64 at_, .int .i64 a, .int .i64 c] 36)) := ((Kp.refl _ _).alloc _)
  have hG1 := g.keep ks _ _ _ hG hk0 (fun _ h => h.elim)
  have hc1 := (hk0.cell (p := ⟨b, i, none⟩) hb (fun h => h)).trans hc
  have hz1 := (hk0.frozen (p := ⟨b, i, none⟩) hb (fun h => h)).trans hz
  have hT1 := hT.kp hk0 (fun _ _ _ h => h)
  have HM : Hid _ := cSwapT g ks hk b i (th M x) (th M a) _ hG1 hX hb1 hc1 hz1 (fun w1 hk' => (hT1.kp hk' hXM).ptr hx) (fun w1 hk' => (hT1.kp hk' hXM).ptr ha) (fun b' hb' => by have := th_blk hx hb'; omega)
  have HN : Hid _ := numbered_any M n _ hT1 a ha
  have HT1 : Hid _ := hT1
  clear hG1 hc1 hz1 hT hc
  go_enter Try.func93, Try.ntmps93
  go_wp2_with (first | (go_at_call 124; refine Calls.mono HM.out ?_; rintro e w1 ⟨rfl, hg1, hs1⟩; have hT2 := v_ts HT1.out hs1 hXM hbM) | (go_at_call 91; refine Calls.mono HN.out ?_; rintro e w' ⟨rfl, rfl⟩) | (go_at_call 94; refine (number_any M n _ hT2 x hx hn).mono ?_; rintro e w' ⟨rfl, rfl⟩))
  go_ret
  exact ⟨rfl, hg1, v_alloc hb hs1⟩

set_option maxRecDepth 100000 in
set_option maxHeartbeats 1000000 in
theorem doT_hit {gv : Value} {X : Nat → Prop} {most : Nat} {G : List Int → World → Prop} (g : GateOk gv X most G) (ks : List Int) (hk : ks.length < most) (M n b i : Nat) (_hn : n ≤ 64) (hXM : ∀ k, M ≤ k → k < M + 1 + n → ¬ X k) (_hbM : b < M ∨ M + 1 + n ≤ b) (x at_ a c : Int) (hx : isT x n) (w : World) (hG : G ks w) (hX : ¬ X b) (hb : b < w.heap.size) (hT : TS M n w) (hc : w.cell? ⟨b, i, none⟩ = some (.pointer (th M x))) (hz : w.frozen? ⟨b, i, none⟩ = false) (ha : isT a n) (hcc : isT c n) (ho : x = a) :
    Calls Try.prog 93 #[.slice (some ⟨M, 0, none⟩) n n, gv, .pointer (some ⟨b, i, none⟩), .agg #[.int .i64 5, .int .i64 at_, .int .i64 a, .int .i64 c]] w fun e w' => e = .returned (.int .i64 1) ∧ G (ks ++ [5]) w' ∧ VStep X b i (.pointer (th M c)) w w' := by
  have hb1 : b < (w.alloc (.cells #[.int .i64 5, .int .i64 at_, .int .i64 a, .int .i64 c] 36)).drew.heap.size := by simp; omega
  have hk0 : Kp (fun _ => False) w (w.alloc (.cells #[.int .i64 5, .int .i64 at_, .int .i64 a, .int .i64 c] 36)).drew := ((Kp.refl _ _).alloc _).drew
  have hG1 := g.keep ks _ _ _ hG hk0 (fun _ h => h.elim)
  have hc1 := (hk0.cell (p := ⟨b, i, none⟩) hb (fun h => h)).trans hc
  have hz1 := (hk0.frozen (p := ⟨b, i, none⟩) hb (fun h => h)).trans hz
  have hT1 := hT.kp hk0 (fun _ _ _ h => h)
  have HM : Hid _ := cHitT g ks hk b i (th M x) (th M c) _ hG1 hX hb1 hc1 hz1 (fun w1 hk' => (hT1.kp hk' hXM).ptr hx) (fun w1 hk' => (hT1.kp hk' hXM).ptr hcc)
  have HN : Hid _ := numbered_any M n _ hT1 a ha
  have HC : Hid _ := numbered_any M n _ hT1 c hcc
  rw [ho] at HM
  clear hG1 hc1 hz1 hT hc
  go_enter Try.func93, Try.ntmps93
  go_wp2_with fail
  go_region_with (first | (go_at_call 125; refine Calls.mono HM.out ?_; rintro e w1 ⟨rfl, hg1, hs1⟩) | (go_at_call 104; refine (oneIf_any _ _).mono ?_; rintro e w' ⟨rfl, rfl⟩) | (go_at_call_of 91 a; refine Calls.mono HN.out ?_; rintro e w' ⟨rfl, rfl⟩) | (go_at_call_of 91 c; refine Calls.mono HC.out ?_; rintro e w' ⟨rfl, rfl⟩))
  all_goals
    go_wp2
    go_ret
    exact ⟨rfl, hg1, v_alloc hb (v_drew hs1)⟩

set_option maxRecDepth 100000 in
set_option maxHeartbeats 1000000 in
theorem doT_miss {gv : Value} {X : Nat → Prop} {most : Nat} {G : List Int → World → Prop} (g : GateOk gv X most G) (ks : List Int) (hk : ks.length < most) (M n b i : Nat) (_hn : n ≤ 64) (hXM : ∀ k, M ≤ k → k < M + 1 + n → ¬ X k) (_hbM : b < M ∨ M + 1 + n ≤ b) (x at_ a c : Int) (hx : isT x n) (w : World) (hG : G ks w) (hX : ¬ X b) (hb : b < w.heap.size) (hT : TS M n w) (hc : w.cell? ⟨b, i, none⟩ = some (.pointer (th M x))) (hz : w.frozen? ⟨b, i, none⟩ = false) (ha : isT a n) (hcc : isT c n) (ho : ¬ x = a) :
    Calls Try.prog 93 #[.slice (some ⟨M, 0, none⟩) n n, gv, .pointer (some ⟨b, i, none⟩), .agg #[.int .i64 5, .int .i64 at_, .int .i64 a, .int .i64 c]] w fun e w' => e = .returned (.int .i64 0) ∧ G (ks ++ [5]) w' ∧ VStep X b i (.pointer (th M x)) w w' := by
  have hb1 : b < (w.alloc (.cells #[.int .i64 5, .int .i64 at_, .int .i64 a, .int .i64 c] 36)).drew.heap.size := by simp; omega
  have hk0 : Kp (fun _ => False) w (w.alloc (.cells #[.int .i64 5, .int .i64 at_, .int .i64 a, .int .i64 c] 36)).drew := ((Kp.refl _ _).alloc _).drew
  have hG1 := g.keep ks _ _ _ hG hk0 (fun _ h => h.elim)
  have hc1 := (hk0.cell (p := ⟨b, i, none⟩) hb (fun h => h)).trans hc
  have hz1 := (hk0.frozen (p := ⟨b, i, none⟩) hb (fun h => h)).trans hz
  have hT1 := hT.kp hk0 (fun _ _ _ h => h)
  have HM : Hid _ := cMissT g ks hk b i (th M x) (th M a) (th M c) _ hG1 hX hb1 hc1 hz1 (fun w1 hk' => (hT1.kp hk' hXM).ptr hx) (fun w1 hk' => (hT1.kp hk' hXM).ptr ha) (fun w1 hk' => (hT1.kp hk' hXM).ptr hcc) (fun e => ho (th_inj hx.1 ha.1 e))
  have HN : Hid _ := numbered_any M n _ hT1 a ha
  have HC : Hid _ := numbered_any M n _ hT1 c hcc
  clear hG1 hc1 hz1 hT hc
  go_enter Try.func93, Try.ntmps93
  go_wp2_with fail
  go_region_with (first | (go_at_call 125; refine Calls.mono HM.out ?_; rintro e w1 ⟨rfl, hg1, hs1⟩) | (go_at_call 104; refine (oneIf_any _ _).mono ?_; rintro e w' ⟨rfl, rfl⟩) | (go_at_call_of 91 a; refine Calls.mono HN.out ?_; rintro e w' ⟨rfl, rfl⟩) | (go_at_call_of 91 c; refine Calls.mono HC.out ?_; rintro e w' ⟨rfl, rfl⟩))
  all_goals
    go_wp2
    go_ret
    exact ⟨rfl, hg1, v_alloc hb (v_drew hs1)⟩

theorem doT_any {gv : Value} {X : Nat → Prop} {most : Nat} {G : List Int → World → Prop} (g : GateOk gv X most G) (ks : List Int) (hk : ks.length < most) (M n b i : Nat) (hn : n ≤ 64) (hXM : ∀ k, M ≤ k → k < M + 1 + n → ¬ X k) (hbM : b < M ∨ M + 1 + n ≤ b) (x d at_ a c : Int) (hd : d = 1 ∨ d = 2 ∨ d = 4 ∨ d = 5) (hx : isT x n) (ha : d = 1 ∨ isT a n) (hcc : ¬ d = 5 ∨ isT c n) (w : World) (hG : G ks w) (hX : ¬ X b) (hb : b < w.heap.size) (hT : TS M n w) (hc : w.cell? ⟨b, i, none⟩ = some (.pointer (th M x))) (hz : w.frozen? ⟨b, i, none⟩ = false) :
    Calls Try.prog 93 #[.slice (some ⟨M, 0, none⟩) n n, gv, .pointer (some ⟨b, i, none⟩), .agg #[.int .i64 d, .int .i64 at_, .int .i64 a, .int .i64 c]] w fun e w' => e = .returned (.int .i64 (nO x d a)) ∧ G (ks ++ [d]) w' ∧ VStep X b i (.pointer (th M (nN x d a c))) w w' := by
  rcases hd with rfl | rfl | rfl | rfl
  · rw [show nO x 1 a = x from by simp [nO], show nN x 1 a c = x from by simp [nN]]
    exact doT_1 g ks hk M n b i hn hXM hbM x at_ a c hx w hG hX hb hT hc hz
  · rw [show nO x 2 a = 0 from by simp [nO], show nN x 2 a c = a from by simp [nN]]
    exact doT_2 g ks hk M n b i hn hXM hbM x at_ a c hx w hG hX hb hT hc hz (ha.resolve_left (by omega))
  · rw [show nO x 4 a = x from by simp [nO], show nN x 4 a c = a from by simp [nN]]
    exact doT_4 g ks hk M n b i hn hXM hbM x at_ a c hx w hG hX hb hT hc hz (ha.resolve_left (by omega))
  · by_cases h : x = a
    · rw [show nO x 5 a = 1 from by simp [nO, h], show nN x 5 a c = c from by simp [nN, h]]
      exact doT_hit g ks hk M n b i hn hXM hbM x at_ a c hx w hG hX hb hT hc hz (ha.resolve_left (by omega)) (hcc.resolve_left (by omega)) h
    · rw [show nO x 5 a = 0 from by simp [nO, h], show nN x 5 a c = x from by simp [nN, h]]
      exact doT_miss g ks hk M n b i hn hXM hbM x at_ a c hx w hG hX hb hT hc hz (ha.resolve_left (by omega)) (hcc.resolve_left (by omega)) h
end Go.Proofs.Ytlbfkgecckdlgaa

/- Layer 2: Ids' third closure, and the state of its cells. -/
import Derived.Test.YtlbfkgecckdlgaaCIdRef
import Derived.Test.YtlbfkgecckdlgaaCPlay3
import Derived.Deep.RegionHeld3
import Derived.Deep.DrawnRows
namespace Go.Proofs.Ytlbfkgecckdlgaa
open Go.RowKit
attribute [local go_sem ↓] Go.wp_at_zero Go.wp_at_succ

theorem okT_isT {k : Int} {n : Nat} (h : okT k n = true) : isT k n := by unfold okT at h; unfold isT; simpa using h

/-- An act that is not refused. -/
theorem id_zero {d i a c : Int} {m n : Nat} (h : idErr d i a c m n = 0) : (d = 1 ∨ d = 2 ∨ d = 4 ∨ d = 5) ∧ (0 ≤ i ∧ i < (m : Int)) ∧ (d = 1 ∨ isT a n) ∧ (¬ d = 5 ∨ isT c n) := by
  rcases id_cases d i a c m n with ⟨_, e⟩ | ⟨hd, ⟨_, e⟩ | ⟨_, _, e⟩ | ⟨h1, h2, ⟨h3, e⟩ | ⟨_, _, e⟩ | ⟨h3, h4, h5, e⟩ | ⟨_, _, _, e⟩ | ⟨h3, h4, h5, e⟩⟩⟩
  · rw [e] at h; cases h
  · rw [e] at h; cases h
  · rw [e] at h; cases h
  · exact ⟨hd, ⟨h1, h2⟩, Or.inl h3, Or.inl (by omega)⟩
  · rw [e] at h; cases h
  · exact ⟨hd, ⟨h1, h2⟩, Or.inr (okT_isT h5), Or.inl h4⟩
  · rw [e] at h; cases h
  · exact ⟨hd, ⟨h1, h2⟩, Or.inr (okT_isT h4), Or.inr (okT_isT h5)⟩

theorem nN_isT {x d a c : Int} {n : Nat} (hd : d = 1 ∨ d = 2 ∨ d = 4 ∨ d = 5) (hx : isT x n) (ha : d = 1 ∨ isT a n) (hc : ¬ d = 5 ∨ isT c n) : isT (nN x d a c) n := by
  rcases hd with rfl | rfl | rfl | rfl
  · simpa [nN] using hx
  · simpa [nN] using ha.resolve_left (by omega)
  · simpa [nN] using ha.resolve_left (by omega)
  · by_cases e : x = a
    · simpa [nN, e] using hc.resolve_left (by omega)
    · simpa [nN, e] using hx

/-- The row of cells in block nb holds the things of cs. -/
def RowT (w : World) (M nb m j : Nat) (cs : Nat → Int) : Prop := ∀ i, i < m → w.cell? ⟨nb, i, none⟩ = some (.pointer (if i < j then th M (cs i) else none)) ∧ w.frozen? ⟨nb, i, none⟩ = false
theorem RowT.same {w w' : World} {M nb m j : Nat} {cs : Nat → Int} (h : RowT w M nb m j cs) (hb : w'.heap[nb]? = w.heap[nb]?) : RowT w' M nb m j cs := by
  intro i hi
  obtain ⟨a, b⟩ := h i hi
  refine ⟨?_, ?_⟩
  · rw [World.cell?_of_block (w := w) (w' := w') (a := ⟨nb, i, none⟩) hb]; exact a
  · rw [World.frozen?_of_block (w := w) (w' := w') (a := ⟨nb, i, none⟩) hb]; exact b
theorem RowT.fill {X : Nat → Prop} {w w' : World} {M nb m j : Nat} {cs : Nat → Int} (h : RowT w M nb m j cs) (hj : j < m) (hv : VStep X nb j (.pointer (th M (cs j))) w w') : RowT w' M nb m (j + 1) cs := by
  intro i hi
  obtain ⟨a, z⟩ := h i hi
  refine ⟨?_, (hv.fro i).trans z⟩
  by_cases e : i = j
  · subst e; rw [hv.cell a]; simp
  · rw [hv.other (fun q => e q.symm), a]
    by_cases l : i < j
    · rw [if_pos l, if_pos (by omega)]
    · rw [if_neg l, if_neg (by omega)]
theorem RowT.step {X : Nat → Prop} {w w' : World} {M nb m p : Nat} {cs cs' : Nat → Int} (h : RowT w M nb m m cs) (hv : VStep X nb p (.pointer (th M (cs' p))) w w') (ho : ∀ i, i ≠ p → cs' i = cs i) : RowT w' M nb m m cs' := by
  intro i hi
  obtain ⟨a, z⟩ := h i hi
  refine ⟨?_, (hv.fro i).trans z⟩
  rw [if_pos hi] at a ⊢
  by_cases e : i = p
  · subst e; exact hv.cell a
  · rw [hv.other (fun q => e q.symm), a, ho i e]

/-- The state of Ids' cells: made in mv, the list in M, row in rv, the cells in nb. -/
structure IdsJ (mv M n rv nb m : Nat) (cs : Nat → Int) (w : World) : Prop where
  hm : w.cell? ⟨mv, 0, none⟩ = some (.slice (some ⟨M, 0, none⟩) n n)
  hr : w.cell? ⟨rv, 0, none⟩ = some (.slice (some ⟨nb, 0, none⟩) m m)
  row : RowT w M nb m m cs
  ts : TS M n w
  nums : ∀ i, i < m → isT (cs i) n
/-- The blocks that it is made of. -/
def IdsY (mv M n rv nb : Nat) : Nat → Prop := fun k => k = mv ∨ k = rv ∨ k = nb ∨ (M ≤ k ∧ k < M + 1 + n)

set_option maxRecDepth 100000 in
set_option maxHeartbeats 1000000 in
theorem ids3_any {gv : Value} {X : Nat → Prop} {most : Nat} {G : List Int → World → Prop} (g : GateOk gv X most G) (ks : List Int) (hk : ks.length < most) (mv M n rv nb m i : Nat) (hn : n ≤ 64) (hXM : ∀ k, M ≤ k → k < M + 1 + n → ¬ X k) (hbM : nb < M ∨ M + 1 + n ≤ nb) (x d a c : Int) (hd : d = 1 ∨ d = 2 ∨ d = 4 ∨ d = 5) (hx : isT x n) (ha : d = 1 ∨ isT a n) (hcc : ¬ d = 5 ∨ isT c n) (hi : i < m) (w : World) (hG : G ks w) (hX : ¬ X nb) (hb : nb < w.heap.size) (hv : w.cell? ⟨rv, 0, none⟩ = some (.slice (some ⟨nb, 0, none⟩) m m)) (hvb : rv < w.heap.size) (hm : w.cell? ⟨mv, 0, none⟩ = some (.slice (some ⟨M, 0, none⟩) n n)) (hmb : mv < w.heap.size) (hT : TS M n w) (hc : w.cell? ⟨nb, i, none⟩ = some (.pointer (th M x))) (hz : w.frozen? ⟨nb, i, none⟩ = false) :
    Calls Try.prog 92 #[gv, .agg #[.int .i64 d, .int .i64 i, .int .i64 a, .int .i64 c], .pointer (some ⟨mv, 0, none⟩), .pointer (some ⟨rv, 0, none⟩)] w fun e w' => e = .returned (.int .i64 (nO x d a)) ∧ G (ks ++ [d]) w' ∧ VStep X nb i (.pointer (th M (nN x d a c))) w w' := by
  have hk0 : Kp (fun _ => False) w (w.alloc (.cells #[.int .i64 d, .int .i64 i, .int .i64 a, .int .i64 c] 36)).drew := ((Kp.refl _ _).alloc _).drew
  have hG1 := g.keep ks _ _ _ hG hk0 (fun _ h => h.elim)
  have hc1 := (hk0.cell (p := ⟨nb, i, none⟩) hb (fun h => h)).trans hc
  have hz1 := (hk0.frozen (p := ⟨nb, i, none⟩) hb (fun h => h)).trans hz
  have hv1 := (hk0.cell (p := ⟨rv, 0, none⟩) hvb (fun h => h)).trans hv
  have hm1 := (hk0.cell (p := ⟨mv, 0, none⟩) hmb (fun h => h)).trans hm
  have hT1 := hT.kp hk0 (fun _ _ _ h => h)
  have HM : Hid _ := doT_any g ks hk M n nb i hn hXM hbM x d i a c hd hx ha hcc _ hG1 hX (by simp; omega) hT1 hc1 hz1
  have i0 : (0 : Int) ≤ (i : Int) := Int.natCast_nonneg _
  have i1 : (i : Int) < (m : Int) := by omega
  have n1 : ¬ rv = w.heap.size := by omega
  have n2 : ¬ mv = w.heap.size := by omega
  clear hG1 hc1 hz1 hd ha hcc hT1 hT hc hx
  go_enter Try.func92, Try.ntmps92
  go_wp2_with fail
  go_region_with
    (first | (go_at_call 93; refine Calls.mono HM.out ?_; rintro e w1 ⟨rfl, hg1, hs1⟩))
  all_goals
    go_wp2
    go_ret
    exact ⟨rfl, hg1, v_alloc hb (v_drew hs1)⟩
end Go.Proofs.Ytlbfkgecckdlgaa

/- Layer 6: slices.Insert of one pair into an own row. -/
import Derived.Test.YtjpfgfcggekklaaMG8
namespace Go.Proofs.Ytjpfgfcggekklaa
open Go.RowKit

theorem zeroCells_len (z0 z1 : Value) (k : Nat) : (Builtin.zeroCells #[z0, z1] k).size = k * 2 := by simp [Builtin.zeroCells]
/-- What Insert leaves. -/
def InsP (w : World) (B : Nat) (v : Value) (R : PL) (e : Ending) (w' : World) : Prop := ∃ v', e = .returned v' ∧ w'.ownsRow B 59 2 v' R.length (pairCells R) ∧ w.grownBy w' v.ownBlock ∧ (∀ k, v'.ownBlock = some k → v.ownBlock = some k ∨ w.heap.size ≤ k)
theorem grown_any {w w' : World} {x y : Option Nat} (h : w.grownBy w' x) (hx : ∀ k, x = some k → w.heap.size ≤ k ∨ y = some k) : w.grownBy w' y := by
  refine ⟨h.os, h.tape, h.output, h.size, fun k hk hne => h.block k hk (fun e => ?_)⟩
  rcases hx k e.symm with q | q
  · omega
  · exact hne q.symm

theorem ins_grow {w : World} {B : Nat} {ps : PL} {g cap vb : Nat} {cur : Array Value} (m : Nat) (key val : Int) (hg : B ≤ g) (hh : w.heap[g]? = some (.cells cur 59 (0, 0))) (h1 : ps.length ≤ cap) (h3 : cur.size = cap * 2) (h4 : cur.toList.take (ps.length * 2) = pairCells ps)
    (hm : m < ps.length) (hroom : cap < ps.length + 1) (hby : (ps.length + 1) * 16 ≤ 140737488355328) (hv : w.heap[vb]? = some (.cells #[.int .i64 key, .int .i64 val] 59 (0, 0))) :
    Calls Try.prog 70 #[.slice (some ⟨g, 0, none⟩) ps.length cap, .int .i64 m, .slice (some ⟨vb, 0, none⟩) 1 1] w (InsP w B (.slice (some ⟨g, 0, none⟩) ps.length cap) (ps.take m ++ (key, val) :: ps.drop m)) := by
  obtain ⟨i0, hi0, hz0, hz1, hz2⟩ := info_parts pr_info
  obtain ⟨n, hn⟩ : ∃ n, n = ps.length := ⟨_, rfl⟩
  have hgl : g < w.heap.size := (Array.getElem?_eq_some_iff.1 hh).1
  have hvl : vb < w.heap.size := (Array.getElem?_eq_some_iff.1 hv).1
  have hcl : cur.toList.length = cap * 2 := by simpa using h3
  rw [← hn] at h1 h4 hm hroom hby ⊢
  have htl : (pairCells (ps.take m)).length = m * 2 := by rw [pairCells_length, List.length_take]; omega
  have hdl : (pairCells (ps.drop m)).length = (n - m) * 2 := by rw [pairCells_length, List.length_drop, hn]
  have hwh : w.drew.heap[g]? = some (.cells cur 59 (0, 0)) := hh
  have hold : (Builtin.firstCells i0.size m (.slice (some ⟨g, 0, none⟩) m cap)).run Try.prog w.drew = .ok (pairCells (ps.take m)).toArray w.drew := by
    rw [hz1]
    exact run_firstCells_some w.drew 2 m ⟨g, 0, none⟩ m cap (pairCells (ps.take m)) htl (fun j u hu => by
      rw [addr_add', Nat.zero_add, row_cell hwh]
      rw [pairCells_take, ← h4, List.take_take, List.getElem?_take] at hu
      split at hu
      · exact hu
      · cases hu)
  obtain ⟨G, hG⟩ : ∃ G, G = grownCap w (n + 1) cap 59 := ⟨_, rfl⟩
  have hGn : n + 1 ≤ G := by rw [hG]; exact grownCap_ge w _ _ _
  have hGm : G ≤ maxLen := by rw [hG]; exact grownCap_le_maxLen w (n + 1) cap _ (by unfold maxLen; omega)
  obtain ⟨R0, hR0⟩ : ∃ R0 : Array Value, R0 = (pairCells (ps.take m)).toArray ++ Builtin.zeroCells #[.int .i64 0, .int .i64 0] (n + 1 - m) ++ Builtin.zeroCells #[.int .i64 0, .int .i64 0] (G - (n + 1)) := ⟨_, rfl⟩
  have l0 : R0.size = G * 2 := by rw [hR0]; simp only [Array.size_append, zeroCells_len, List.size_toArray, htl]; omega
  have t0 : R0.toList.take (m * 2) = pairCells (ps.take m) := by
    rw [hR0, Array.toList_append, Array.toList_append, List.append_assoc, List.take_append_of_le_length (by simp [htl]), List.take_of_length_le (by simp [htl])]
  obtain ⟨W1, hW1⟩ : ∃ W1, W1 = w.drew.alloc (.cells R0 59) := ⟨_, rfl⟩
  have H1 : ∀ ty, (Builtin.append_ #[ 22, 3 ] ty #[.slice (some ⟨g, 0, none⟩) m cap, .int .i64 ((n : Int) + 1 - (m : Int))]).run Try.prog w = .ok (.slice (some ⟨w.heap.size, 0, none⟩) (n + 1) G) W1 := fun ty => by
    have r := Lib.run_append_grow_zeros (P := Try.prog) w 22 3 ty 59 i0 _ .i64 .i64 prs_under (by kernel_rfl) hi0 hz0 (some ⟨g, 0, none⟩) m cap (pairCells (ps.take m)) hold (n + 1 - m) (by omega) (by omega) (by omega) (by omega) (by rw [hz2]; omega) (by rw [hz2, show m + (n + 1 - m) = n + 1 by omega]; exact growslice_fits hroom hby)
    rw [show m + (n + 1 - m) = n + 1 by omega, ← hG] at r
    rw [show (n : Int) + 1 - (m : Int) = ((n + 1 - m : Nat) : Int) by omega, r, hW1, hR0]
    rfl
  have hb1 : W1.heap[w.heap.size]? = some (.cells R0 59 (0, 0)) := by rw [hW1]; exact heap_alloc_at _ _ _ rfl
  have ho1 : ∀ k, k < w.heap.size → W1.heap[k]? = w.heap[k]? := fun k hk => by
    rw [hW1]; exact (below_alloc w.drew _).block k hk
  -- the pair laid, then the rest
  obtain ⟨c1, hc1⟩ : ∃ c1, c1 = splice R0.toList (m * 2) [.int .i64 key, .int .i64 val] := ⟨_, rfl⟩
  obtain ⟨c2, hc2⟩ : ∃ c2, c2 = splice c1 ((m + 1) * 2) (pairCells (ps.drop m)) := ⟨_, rfl⟩
  have hR0l : R0.toList.length = G * 2 := by simpa using l0
  have l1 : c1.length = G * 2 := by rw [hc1, splice_len _ _ _ (by simp; omega), hR0l]
  have l2 : c2.length = G * 2 := by rw [hc2, splice_len _ _ _ (by rw [hdl, l1]; omega), l1]
  have H2 : ∀ ty, (Builtin.copy_ #[ 22, 22 ] ty #[.slice (some ⟨w.heap.size, m * 2, none⟩) (n + 1 - m) (G - m), .slice (some ⟨vb, 0, none⟩) 1 1]).run Try.prog W1 = .ok (goInt (Nat.min 1 (n + 1 - m))) (W1.setRow w.heap.size c1.toArray) := fun ty => by
    have r := run_copy_sz (P := Try.prog) W1 22 22 ty 59 w.heap.size (m * 2) (n + 1 - m) (G - m) ⟨vb, 0, none⟩ 1 1 2 R0 59 [.int .i64 key, .int .i64 val] prs_under pr_size hb1 (by rw [show Nat.min 1 (n + 1 - m) = 1 from Nat.min_eq_left (by omega)]; rfl) (fun j u hu => by
      rw [addr_add', Nat.zero_add, row_cell ((ho1 vb hvl).trans hv)]
      exact hu) (by rw [l0]; simp; omega) (by simp [Value.oneCell'])
    rw [r, hc1]
    rfl
  have hb2 : (W1.setRow w.heap.size c1.toArray).heap[w.heap.size]? = some (.cells c1.toArray 59 (0, 0)) := setRow_at hb1 _
  have hg2 : (W1.setRow w.heap.size c1.toArray).drew.heap[g]? = some (.cells cur 59 (0, 0)) := by
    have := (setRow_grown W1 w.heap.size c1.toArray).block g (by have := (Array.getElem?_eq_some_iff.1 hb1).1; omega) (fun e => by cases e; omega)
    exact this.trans ((ho1 g hgl).trans hh)
  have H3 : ∀ ty, (Builtin.copy_ #[ 22, 22 ] ty #[.slice (some ⟨w.heap.size, (m + 1) * 2, none⟩) (n + 1 - (m + 1)) (G - (m + 1)), .slice (some ⟨g, m * 2, none⟩) (n - m) (cap - m)]).run Try.prog (W1.setRow w.heap.size c1.toArray).drew = .ok (goInt (Nat.min (n - m) (n + 1 - (m + 1)))) ((W1.setRow w.heap.size c1.toArray).drew.setRow w.heap.size c2.toArray) := fun ty => by
    have r := run_copy_sz (P := Try.prog) (W1.setRow w.heap.size c1.toArray).drew 22 22 ty 59 w.heap.size ((m + 1) * 2) (n + 1 - (m + 1)) (G - (m + 1)) ⟨g, m * 2, none⟩ (n - m) (cap - m) 2 c1.toArray 59 (pairCells (ps.drop m)) prs_under pr_size hb2 (by rw [hdl, show Nat.min (n - m) (n + 1 - (m + 1)) = n - m from Nat.min_eq_left (by omega)]) (fun j u hu => row_news hg2 (by rw [← hn]; exact h4) m j u hu) (by rw [hdl]; simp [l1]; omega) (pairCells_one _)
    rw [r, hc2]
    rfl
  have D := ins_grow_walk g cap n m w.heap.size G vb w hm h1 hroom (by omega) hGn (by unfold maxLen at hGm; omega) _ _ _ _ _ H1 H2 H3
  refine D.mono ?_
  rintro e w' ⟨rfl, rfl⟩
  have hlen : (ps.take m ++ (key, val) :: ps.drop m).length = n + 1 := by simp; omega
  refine ⟨_, rfl, ⟨by rw [pairCells_length], Or.inr ⟨w.heap.size, G, c2.toArray, by rw [hlen], Nat.le_trans hg (by omega), setRow_at (w := (W1.setRow w.heap.size c1.toArray).drew) hb2 _, by rw [hlen]; exact hGn, hGm, by simpa using l2, ?_⟩⟩, ?_, fun k hk => by cases hk; exact Or.inr (Nat.le_refl _)⟩
  · rw [hlen, hc2, splice_take _ _ _ (by omega) _ (by rw [hdl]; omega), hc1, splice_take _ _ _ (by omega) _ (by simp; omega), t0, pairCells_append]
    simp [pairCells]
  · have g1 : w.grownBy W1 (some w.heap.size) := by
      refine ⟨by rw [hW1]; rfl, by rw [hW1]; rfl, by rw [hW1]; rfl, by rw [hW1]; simp, fun k hk _ => ho1 k hk⟩
    exact grown_any (grown_trans (grown_trans (grown_trans g1 (setRow_grown _ _ _)) (drew_grown _ _)) (setRow_grown _ _ _)) (fun k hk => by cases hk; exact Or.inl (Nat.le_refl _))

theorem ins_shift {w : World} {B : Nat} {ps : PL} {g cap vb : Nat} {cur : Array Value} (m : Nat) (key val : Int) (hg : B ≤ g) (hh : w.heap[g]? = some (.cells cur 59 (0, 0))) (h2 : cap ≤ maxLen) (h3 : cur.size = cap * 2) (h4 : cur.toList.take (ps.length * 2) = pairCells ps)
    (hm : m < ps.length) (hroom : ps.length + 1 ≤ cap) (hv : w.heap[vb]? = some (.cells #[.int .i64 key, .int .i64 val] 59 (0, 0))) (hne : vb ≠ g) :
    Calls Try.prog 70 #[.slice (some ⟨g, 0, none⟩) ps.length cap, .int .i64 m, .slice (some ⟨vb, 0, none⟩) 1 1] w (InsP w B (.slice (some ⟨g, 0, none⟩) ps.length cap) (ps.take m ++ (key, val) :: ps.drop m)) := by
  obtain ⟨n, hn⟩ : ∃ n, n = ps.length := ⟨_, rfl⟩
  have hcl : cur.toList.length = cap * 2 := by simpa using h3
  rw [← hn] at h4 hm hroom ⊢
  have hvl : vb < w.heap.size := (Array.getElem?_eq_some_iff.1 hv).1
  have hdl : (pairCells (ps.drop m)).length = (n - m) * 2 := by rw [pairCells_length, List.length_drop, hn]
  have hwh : w.drew.heap[g]? = some (.cells cur 59 (0, 0)) := hh
  obtain ⟨c1, hc1⟩ : ∃ c1, c1 = splice cur.toList ((m + 1) * 2) (pairCells (ps.drop m)) := ⟨_, rfl⟩
  obtain ⟨c2, hc2⟩ : ∃ c2, c2 = splice c1 (m * 2) [.int .i64 key, .int .i64 val] := ⟨_, rfl⟩
  have l1 : c1.length = cap * 2 := by rw [hc1, splice_len _ _ _ (by rw [hdl, hcl]; omega), hcl]
  have l2 : c2.length = cap * 2 := by rw [hc2, splice_len _ _ _ (by simp; omega), l1]
  have hov : ∀ lb cb, (callFunc 75 #[.slice (some ⟨vb, 0, none⟩) 1 1, .slice (some ⟨g, (m + 1) * 2, none⟩) lb cb]).run Try.prog w = .ok (.value (.bool false)) w := fun lb cb => by
    rw [run_callFunc_extern Try.func75 (by kernel_rfl) (by kernel_rfl) (by kernel_rfl) (e := Extern.SlicesOverlaps.overlaps #[ 22, 22 ] #[ 4 ]) (by kernel_rfl),
      Lib.run_overlaps_apart w 22 4 59 prs_under 2 Try.sizeOf59 ⟨vb, 0, none⟩ ⟨g, (m + 1) * 2, none⟩ 1 1 lb cb hne 59 59 2 cur.size (by simp [World.shape?, hv]) (by simp [World.shape?, hh]) (by omega) (by simp [World.frozen?, hv]) (by simp [World.frozen?, hv])]
    rfl
  have H1 : ∀ ty, (Builtin.copy_ #[ 22, 22 ] ty #[.slice (some ⟨g, (m + 1) * 2, none⟩) (n + 1 - (m + 1)) (cap - (m + 1)), .slice (some ⟨g, m * 2, none⟩) (n + 1 - m) (cap - m)]).run Try.prog w.drew = .ok (goInt (Nat.min (n + 1 - m) (n + 1 - (m + 1)))) (w.drew.setRow g c1.toArray) := fun ty => by
    have r := run_copy_sz (P := Try.prog) w.drew 22 22 ty 59 g ((m + 1) * 2) (n + 1 - (m + 1)) (cap - (m + 1)) ⟨g, m * 2, none⟩ (n + 1 - m) (cap - m) 2 cur 59 (pairCells (ps.drop m)) prs_under pr_size hwh (by rw [hdl, show Nat.min (n + 1 - m) (n + 1 - (m + 1)) = n - m from by simp [Nat.min_def]; omega]) (fun j u hu => row_news hwh (by rw [← hn]; exact h4) m j u hu) (by rw [hdl, h3]; omega) (pairCells_one _)
    rw [r, hc1]
    rfl
  have hb1 : (w.drew.setRow g c1.toArray).heap[g]? = some (.cells c1.toArray 59 (0, 0)) := setRow_at hwh _
  have hv1 : (w.drew.setRow g c1.toArray).heap[vb]? = some (.cells #[.int .i64 key, .int .i64 val] 59 (0, 0)) := ((setRow_grown w.drew g c1.toArray).block vb hvl (fun e => by cases e; exact hne rfl)).trans hv
  have H2 : ∀ ty, (Builtin.copy_ #[ 22, 22 ] ty #[.slice (some ⟨g, m * 2, none⟩) (n + 1 - m) (cap - m), .slice (some ⟨vb, 0, none⟩) 1 1]).run Try.prog (w.drew.setRow g c1.toArray) = .ok (goInt (Nat.min 1 (n + 1 - m))) ((w.drew.setRow g c1.toArray).setRow g c2.toArray) := fun ty => by
    have r := run_copy_sz (P := Try.prog) (w.drew.setRow g c1.toArray) 22 22 ty 59 g (m * 2) (n + 1 - m) (cap - m) ⟨vb, 0, none⟩ 1 1 2 c1.toArray 59 [.int .i64 key, .int .i64 val] prs_under pr_size hb1 (by rw [show Nat.min 1 (n + 1 - m) = 1 from Nat.min_eq_left (by omega)]; rfl) (fun j u hu => by
      rw [addr_add', Nat.zero_add, row_cell hv1]
      exact hu) (by simp [l1]; omega) (by simp [Value.oneCell'])
    rw [r, hc2]
    rfl
  unfold maxLen at h2
  have D := ins_shift_walk g cap n m vb w hm hroom (by omega) _ _ _ _ hov H1 H2
  refine D.mono ?_
  rintro e w' ⟨rfl, rfl⟩
  have hlen : (ps.take m ++ (key, val) :: ps.drop m).length = n + 1 := by simp; omega
  refine ⟨_, rfl, ⟨by rw [pairCells_length], Or.inr ⟨g, cap, c2.toArray, by rw [hlen], hg, setRow_at hb1 _, by rw [hlen]; exact hroom, by unfold maxLen; omega, by simpa using l2, ?_⟩⟩, grown_trans (grown_trans (drew_grown _ _) (setRow_grown _ _ _)) (setRow_grown _ _ _), fun k hk => Or.inl hk⟩
  rw [hlen, hc2]
  have e1 : splice c1 (m * 2) [.int .i64 key, .int .i64 val] = (c1.take (m * 2) ++ [.int .i64 key, .int .i64 val]) ++ c1.drop ((m + 1) * 2) := by
    unfold splice
    rw [show m * 2 + ([.int .i64 key, .int .i64 val] : List Value).length = (m + 1) * 2 by simp; omega]
  rw [e1, hc1, splice_take_le _ _ _ (by omega) _ (by omega), splice_drop _ _ _ (by omega), ← List.append_assoc, List.take_append_of_le_length (by simp [hdl, hcl]; omega), List.take_of_length_le (by simp [hdl, hcl]; omega), pairCells_append, pairCells_take, ← h4, List.take_take, Nat.min_eq_left (by omega)]
  simp [pairCells]
end Go.Proofs.Ytjpfgfcggekklaa

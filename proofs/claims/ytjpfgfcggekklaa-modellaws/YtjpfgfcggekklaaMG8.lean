/- Layer 6: lists that are spliced; slices.Delete of one pair from an own row. -/
import Derived.Test.YtjpfgfcggekklaaMG7
namespace Go.Proofs.Ytjpfgfcggekklaa
open Go.RowKit

def splice (l : List Value) (o : Nat) (cs : List Value) : List Value := l.take o ++ cs ++ l.drop (o + cs.length)
theorem splice_len (l : List Value) (o : Nat) (cs : List Value) (h : o + cs.length ≤ l.length) : (splice l o cs).length = l.length := by simp [splice]; omega
theorem splice_take (l : List Value) (o : Nat) (cs : List Value) (h : o ≤ l.length) (k : Nat) (hk : k = o + cs.length) : (splice l o cs).take k = l.take o ++ cs := by
  unfold splice
  rw [List.take_append_of_le_length (by simp; omega), List.take_of_length_le (by simp; omega)]
theorem splice_take_le (l : List Value) (o : Nat) (cs : List Value) (h : o ≤ l.length) (k : Nat) (hk : k ≤ o) : (splice l o cs).take k = l.take k := by
  unfold splice
  rw [List.append_assoc, List.take_append_of_le_length (by simp; omega), List.take_take, Nat.min_eq_left hk]
theorem splice_drop (l : List Value) (o : Nat) (cs : List Value) (h : o ≤ l.length) : (splice l o cs).drop o = cs ++ l.drop (o + cs.length) := by
  unfold splice
  rw [List.append_assoc, List.drop_append_of_le_length (by simp; omega), List.drop_of_length_le (by simp; omega), List.nil_append]
theorem pairCells_drop : ∀ (ps : PL) (k : Nat), pairCells (ps.drop k) = (pairCells ps).drop (k * 2)
  | ps, 0 => by simp
  | [], k + 1 => by simp [pairCells]
  | p :: t, k + 1 => by
    rw [List.drop_succ_cons, pairCells_drop t k, show (k + 1) * 2 = k * 2 + 1 + 1 by omega]
    rfl
theorem pairCells_take : ∀ (ps : PL) (k : Nat), pairCells (ps.take k) = (pairCells ps).take (k * 2)
  | ps, 0 => by simp [pairCells]
  | [], k + 1 => by simp [pairCells]
  | p :: t, k + 1 => by
    rw [List.take_succ_cons, show (k + 1) * 2 = k * 2 + 1 + 1 by omega]
    simp [pairCells, pairCells_take t k]
theorem row_cell {w : World} {g : Nat} {cur : Array Value} {t : TypeId} (hh : w.heap[g]? = some (.cells cur t (0, 0))) (j : Nat) : w.cell? ⟨g, j, none⟩ = cur.toList[j]? := by
  simp [World.cell?, hh]
/-- A piece of the row's cells, read back. -/
theorem row_news {w : World} {g : Nat} {cur : Array Value} {t : TypeId} {ps : PL} (hh : w.heap[g]? = some (.cells cur t (0, 0))) (h4 : cur.toList.take (ps.length * 2) = pairCells ps) (k : Nat) (j : Nat) (u : Value) (hu : (pairCells (ps.drop k))[j]? = some u) : w.cell? ((⟨g, k * 2, none⟩ : Addr).add j) = some u := by
  rw [addr_add', row_cell hh]
  rw [pairCells_drop, ← h4, List.getElem?_drop, List.getElem?_take] at hu
  split at hu
  · exact hu
  · cases hu
theorem pr_size : (Try.prog.info? 59).map (·.size) = some 2 := by kernel_rfl

theorem delete_any {w : World} {B : Nat} {v : Value} {ps : PL} {m : Nat} (h : w.ownsRow B 59 2 v ps.length (pairCells ps)) (hm : m < ps.length) :
    Calls Try.prog 69 #[v, .int .i64 m, .int .i64 ((m : Int) + 1)] w fun e w' => ∃ v', e = .returned v' ∧ w'.ownsRow B 59 2 v' (ps.take m ++ ps.drop (m + 1)).length (pairCells (ps.take m ++ ps.drop (m + 1))) ∧ w.grownBy w' v.ownBlock ∧ v'.ownBlock = v.ownBlock := by
  obtain ⟨i0, hi0, hz0, hz1, hz2⟩ := info_parts pr_info
  obtain ⟨_, h⟩ := h
  rcases h with ⟨rfl, h0⟩ | ⟨g, cap, cur, rfl, hg, hh, h1, h2, h3, h4⟩
  · omega
  obtain ⟨n, hn⟩ : ∃ n, n = ps.length := ⟨_, rfl⟩
  have hcl : cur.toList.length = cap * 2 := by simpa using h3
  have hnl : (pairCells (ps.drop (m + 1))).length = (n - (m + 1)) * 2 := by rw [pairCells_length, List.length_drop, hn]
  have hone := pairCells_one (ps.drop (m + 1))
  have hwh : w.drew.heap[g]? = some (.cells cur 59 (0, 0)) := hh
  unfold maxLen at h2
  -- the row behind the append, behind the clear
  obtain ⟨c1, hc1⟩ : ∃ c1, c1 = splice cur.toList (m * 2) (pairCells (ps.drop (m + 1))) := ⟨_, rfl⟩
  obtain ⟨c2, hc2⟩ : ∃ c2, c2 = splice c1 ((n - 1) * 2) [.int .i64 0, .int .i64 0] := ⟨_, rfl⟩
  have l1 : c1.length = cap * 2 := by rw [hc1, splice_len _ _ _ (by omega), hcl]
  have l2 : c2.length = cap * 2 := by rw [hc2, splice_len _ _ _ (by simp; omega), l1]
  have A1 : ∀ (A : Addr) (c : Nat) ty, (n - (m + 1) ≠ 0 → A = ⟨g, (m + 1) * 2, none⟩) → (Builtin.append_ #[ 22, 22 ] ty #[.slice (some ⟨g, 0, none⟩) m cap, .slice (some A) (n - (m + 1)) c]).run Try.prog w.drew = .ok (.slice (some ⟨g, 0, none⟩) (n - 1) cap) (w.drew.setRow g c1.toArray) := by
    intro A c ty hA
    have r := run_append_room (P := Try.prog) w.drew 22 ty 59 i0 prs_under hi0 g m cap cur hwh A (n - (m + 1)) c (pairCells (ps.drop (m + 1))) (by rw [hz1]; exact hnl) (fun j u hu => by
      by_cases hz : n - (m + 1) = 0
      · rw [hz] at hnl
        have hnil : pairCells (ps.drop (m + 1)) = [] := List.length_eq_zero_iff.1 (by omega)
        rw [hnil] at hu
        simp at hu
      · rw [hA hz]
        exact row_news (w := w.drew) hwh h4 (m + 1) j u hu) hone (by omega) (by rw [hz1, hnl, h3]; omega)
    rw [hz1] at r
    rw [r, show m + (n - (m + 1)) = n - 1 by omega, hc1]
    rfl
  have A2 : ∀ (c : Nat) ty, (Builtin.clear_ #[ 22 ] ty #[.slice (some ⟨g, (n - 1) * 2, none⟩) 1 c]).run Try.prog (w.drew.setRow g c1.toArray) = .ok (.tuple #[]) ((w.drew.setRow g c1.toArray).setRow g c2.toArray) := by
    intro c ty
    have r := run_clear2 (P := Try.prog) (w.drew.setRow g c1.toArray) 22 59 ty (.agg #[.int .i64 0, .int .i64 0]) (.int .i64 0) (.int .i64 0) prs_under pz_value rfl rfl rfl g ((n - 1) * 2) c c1.toArray 59 (setRow_at hwh _) (by simp; omega)
    rw [r, hc2]
    rfl
  have FIN : ∀ (W : World), W = (w.drew.setRow g c1.toArray).setRow g c2.toArray → W.ownsRow B 59 2 (.slice (some ⟨g, 0, none⟩) (n - 1) cap) (ps.take m ++ ps.drop (m + 1)).length (pairCells (ps.take m ++ ps.drop (m + 1))) ∧ w.grownBy W (some g) := by
    rintro W rfl
    have hlen : (ps.take m ++ ps.drop (m + 1)).length = n - 1 := by simp; omega
    refine ⟨⟨by rw [pairCells_length], Or.inr ⟨g, cap, c2.toArray, by rw [hlen], hg, setRow_at (setRow_at hwh _) _, by rw [hlen]; omega, by unfold maxLen; omega, by simpa using l2, ?_⟩⟩, grown_trans (grown_trans (drew_grown _ _) (setRow_grown _ _ _)) (setRow_grown _ _ _)⟩
    rw [hlen, hc2, splice_take_le _ _ _ (by omega) _ (Nat.le_refl _), hc1, splice_take _ _ _ (by omega) _ (by omega), pairCells_append, pairCells_take, ← h4, List.take_take, Nat.min_eq_left (by omega)]
  rw [← hn] at hm h1 ⊢
  by_cases hcm : cap = m + 1
  · obtain rfl : n = m + 1 := by omega
    subst hcm
    have D := del_walk2 g m w (by omega) _ _ (fun ty => by have := A1 ⟨g, 0, none⟩ 0 ty (fun q => by omega); simpa using this) (fun ty => by have := A2 1 ty; simpa using this)
    refine D.mono ?_
    rintro e w' ⟨rfl, hw⟩
    obtain ⟨f1, f2⟩ := FIN w' hw
    exact ⟨_, rfl, by simpa using f1, f2, rfl⟩
  · have D := del_walk g cap n m w hm h1 (by omega) hcm _ _ (fun ty => A1 ⟨g, (m + 1) * 2, none⟩ _ ty (fun _ => rfl)) (fun ty => by rw [show n - (n - 1) = 1 by omega]; exact A2 _ ty)
    refine D.mono ?_
    rintro e w' ⟨rfl, hw⟩
    obtain ⟨f1, f2⟩ := FIN w' hw
    exact ⟨_, rfl, f1, f2, rfl⟩
end Go.Proofs.Ytjpfgfcggekklaa

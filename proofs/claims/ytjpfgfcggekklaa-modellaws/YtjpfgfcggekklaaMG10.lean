/- Layer 6: slices.Insert at the end; Insert whole; what change needs. -/
import Derived.Test.YtjpfgfcggekklaaMG9
import Derived.Test.YtjpfgfcggekklaaMRun
namespace Go.Proofs.Ytjpfgfcggekklaa
open Go.RowKit

set_option maxRecDepth 100000 in
set_option maxHeartbeats 1000000 in
theorem ins_end {w : World} {B : Nat} {v : Value} {ps : PL} {vb : Nat} (key val : Int) (h : w.ownsRow B 59 2 v ps.length (pairCells ps)) (hv : w.heap[vb]? = some (.cells #[.int .i64 key, .int .i64 val] 59 (0, 0))) (hby : (ps.length + 1) * 16 ≤ 140737488355328) (hB : B ≤ w.heap.size) :
    Calls Try.prog 70 #[v, .int .i64 (ps.length : Nat), .slice (some ⟨vb, 0, none⟩) 1 1] w (InsP w B v (ps ++ [(key, val)])) := by
  obtain ⟨i0, hi0, hz0, hz1, hz2⟩ := info_parts pr_info
  have n1 : ps.length + 1 ≤ maxLen := by unfold maxLen; omega
  have HNEWS : Hid (∀ j u, ([.int .i64 key, .int .i64 val] : List Value)[j]? = some u → w.cell? ((⟨vb, 0, none⟩ : Addr).add j) = some u) := fun j u hu => by
    rw [addr_add', Nat.zero_add, row_cell hv]; exact hu
  have HO : Hid (World.ownsRow _ _ _ _ _ _ _) := h
  have hsh : (v = .slice none 0 0 ∧ ps.length = 0) ∨ ∃ g cap, v = .slice (some ⟨g, 0, none⟩) ps.length cap ∧ ps.length ≤ cap ∧ cap ≤ 9223372036854775807 := by
    obtain ⟨_, h⟩ := h
    rcases h with h | ⟨g, cap, cur, e, _, _, h1, h2, _⟩
    · exact Or.inl h
    · exact Or.inr ⟨g, cap, e, h1, by unfold maxLen at h2; omega⟩
  clear h hv
  have FIN : Hid (∀ (gg cap : Nat) (w3 : World), w3.ownsRow B 59 2 (.slice (some ⟨gg, 0, none⟩) (ps.length + 1) cap) (ps.length + 1) (pairCells ps ++ [.int .i64 key, .int .i64 val]) → w.grownBy w3 v.ownBlock → (v.ownBlock = some gg ∨ gg = w.heap.size) → InsP w B v (ps ++ [(key, val)]) (.returned (.slice (some ⟨gg, 0, none⟩) (ps.length + 1) cap)) w3) := by
    intro gg cap w3 h1 h2 h3
    refine ⟨_, rfl, by rw [List.length_append, pair_snoc]; exact h1, h2, fun k hk => ?_⟩
    cases hk
    rcases h3 with q | q
    · exact Or.inl q
    · exact Or.inr (by show w.heap.size ≤ gg; omega)
  rcases hsh with ⟨rfl, h0⟩ | ⟨g, cap, rfl, h1, h2⟩
  · obtain rfl : ps = [] := List.length_eq_zero_iff.1 h0
    have n2 : (0 + 1) * 16 ≤ 140737488355328 := by omega
    show Calls Try.prog _ #[.slice none 0 0, .int .i64 0, _] w _
    go_enter Try.func70, Try.ntmps70
    go_wp2_with (first | (at_builtin; (refine wpList_append_lies _ (by rfl) _ _ _ (by rfl) B 59 i0 _ 2 16 prs_under hi0 hz0 hz1 hz2 rfl (by omega) _ 0 _ (by rfl) HO.out ⟨vb, 0, none⟩ 1 1 [.int .i64 key, .int .i64 val] (by rfl) (by rfl) HNEWS.out (by simp [Value.oneCell']) Nat.one_pos n1 n2 hB w.heap.size rfl ?_); intro gg cap w3 hown hgrow hat hlt))
    go_ret
    exact FIN.out _ _ _ hown hgrow hat
  · have q1 : ((ps.length : Int) == (ps.length : Int)) = true := by simp
    go_enter Try.func70, Try.ntmps70
    go_wp2_with (first | (at_builtin; (refine wpList_append_lies _ (by rfl) _ _ _ (by rfl) B 59 i0 _ 2 16 prs_under hi0 hz0 hz1 hz2 rfl (by omega) _ ps.length _ (by rfl) HO.out ⟨vb, 0, none⟩ 1 1 [.int .i64 key, .int .i64 val] (by rfl) (by rfl) HNEWS.out (by simp [Value.oneCell']) Nat.one_pos n1 hby hB w.heap.size rfl ?_); intro gg cap w3 hown hgrow hat hlt))
    all_goals go_ret
    all_goals exact FIN.out _ _ _ hown hgrow hat

theorem insert_any {w : World} {B : Nat} {v : Value} {ps : PL} {vb : Nat} (m : Nat) (key val : Int) (h : w.ownsRow B 59 2 v ps.length (pairCells ps)) (hm : m ≤ ps.length) (hv : w.heap[vb]? = some (.cells #[.int .i64 key, .int .i64 val] 59 (0, 0))) (hne : v.ownBlock ≠ some vb) (hby : (ps.length + 1) * 16 ≤ 140737488355328) (hB : B ≤ w.heap.size) :
    Calls Try.prog 70 #[v, .int .i64 (m : Nat), .slice (some ⟨vb, 0, none⟩) 1 1] w (InsP w B v (ps.take m ++ (key, val) :: ps.drop m)) := by
  by_cases he : m = ps.length
  · subst he
    have := ins_end key val h hv hby hB
    rw [List.take_length, List.drop_length]
    exact this
  · obtain ⟨_, h⟩ := h
    rcases h with ⟨rfl, h0⟩ | ⟨g, cap, cur, rfl, hg, hh, h1, h2, h3, h4⟩
    · omega
    · by_cases hr : ps.length + 1 ≤ cap
      · exact ins_shift m key val hg hh h2 h3 h4 (by omega) hr hv (fun e => hne (by rw [e]; rfl))
      · exact ins_grow m key val hg hh h1 h3 h4 (by omega) (by omega) hby hv

theorem owns_put {w : World} {B sz : Nat} {e : TypeId} {n : Nat} {xs : List Value} {g cap : Nat} (h : w.ownsRow B e sz (.slice (some ⟨g, 0, none⟩) n cap) n xs) (j : Nat) (u : Value) : (w.setCell ⟨g, j, none⟩ u).ownsRow B e sz (.slice (some ⟨g, 0, none⟩) n cap) n (xs.set j u) := by
  obtain ⟨h0, h⟩ := h
  rcases h with ⟨h, _⟩ | ⟨g', cap', cur, hv, hg, hh, h1, h2, h3, h4⟩
  · cases h
  · cases hv
    refine ⟨by simpa using h0, Or.inr ⟨g, cap, cur.setIfInBounds j u, rfl, hg, ?_, h1, h2, by simpa using h3, ?_⟩⟩
    · simp [World.setCell, Array.getElem?_modify, hh]
    · rw [Array.toList_setIfInBounds, List.take_set, h4]
theorem owns_some {w : World} {B sz : Nat} {e : TypeId} {v : Value} {n : Nat} {xs : List Value} (h : w.ownsRow B e sz v n xs) (hn : 0 < n) : ∃ g cap, v = .slice (some ⟨g, 0, none⟩) n cap ∧ B ≤ g ∧ g < w.heap.size ∧ n ≤ cap ∧ cap ≤ maxLen ∧ (∀ j, j < n * sz → w.cell? ⟨g, j, none⟩ = xs[j]?) ∧ ∀ j, w.frozen? ⟨g, j, none⟩ = false := by
  obtain ⟨_, h⟩ := h
  rcases h with ⟨_, h0⟩ | ⟨g, cap, cur, rfl, hg, hh, h1, h2, h3, h4⟩
  · omega
  · refine ⟨g, cap, rfl, hg, (Array.getElem?_eq_some_iff.1 hh).1, h1, h2, fun j hj => ?_, fun j => ?_⟩
    · rw [← h4, List.getElem?_take, if_pos hj]; simp [World.cell?, hh]
    · simp [World.frozen?, hh]
theorem set_pair : ∀ (ps : PL) (m : Nat) (val : Int), m < ps.length → (pairCells ps).set (m * 2 + 1) (.int .i64 val) = pairCells (ps.take m ++ (keyAt ps m, val) :: ps.drop (m + 1))
  | [], m, _, h => by simp at h
  | p :: t, 0, val, _ => by simp [pairCells, keyAt]
  | p :: t, m + 1, val, h => by
    have ih := set_pair t m val (by simpa using h)
    rw [show (m + 1) * 2 + 1 = m * 2 + 1 + 1 + 1 by omega, key_cons]
    simp only [pairCells, List.set_cons_succ, List.take_succ_cons, List.drop_succ_cons, List.cons_append]
    rw [ih]
theorem grown_of_below {w w1 : World} {x : Option Nat} (h : Below w.heap.size w w1) : w.grownBy w1 x := by
  obtain ⟨h1, h2, h3, h4, h5⟩ := h
  exact ⟨h1, h2, h3, h4, fun k hk _ => h5 k hk⟩
theorem grown_setCell {w : World} {g j : Nat} {u : Value} : w.grownBy (w.setCell ⟨g, j, none⟩ u) (some g) := by
  refine ⟨rfl, rfl, rfl, by simp, fun k hk hne => ?_⟩
  have : g ≠ k := fun e => hne (by rw [e])
  simp [World.setCell, Array.getElem?_modify, this]
theorem clone_own (bp : Option Addr) (gp op cp : Nat) (ps : PL) (w : World) (h : PairsAt w bp gp op ps) (hnil : NilOk bp ps.length cp) (hbig : ps.length * 16 ≤ 140737488355328) :
    Calls Try.prog 43 #[.slice bp ps.length cp] w fun e w' => ∃ v, e = .returned v ∧ w'.ownsRow w.heap.size 59 2 v ps.length (pairCells ps) ∧ Below w.heap.size w w' := by
  have hlen := h.len
  have qn : ∀ (w : World) (a : Option Addr) (n c n' c' : Nat), (binOp .eql 22 (.slice a n c) (.slice none n' c')).run Try.prog w = .ok (.bool a.isNone) w := fun w a n c n' c' => Lib.run_eql_slice_nil w _ _ a n c n' c' prs_under
  cases bp with
  | none =>
    obtain ⟨h0, rfl⟩ := hnil rfl
    clear hnil h
    obtain rfl : ps = [] := List.length_eq_zero_iff.1 h0
    clear hlen h0 hbig
    show Calls Try.prog 43 #[.slice none 0 0] w _
    go_enter Try.func43, Try.ntmps43
    go_wp2_with fail
    go_ret
    exact ⟨_, rfl, World.ownsRow_nil _ _ _ _, Below.refl _ _⟩
  | some ad =>
    obtain ⟨i0, hi0, hz0, hz1, hz2⟩ := info_parts pr_info
    have HA : Hid _ := h
    clear hnil h
    have ho : (w.alloc (.cells #[] 59)).ownsRow w.heap.size 59 2 (.slice (some ⟨w.heap.size, 0, none⟩) 0 0) 0 [] := ⟨rfl, Or.inr ⟨w.heap.size, 0, #[], rfl, Nat.le_refl _, heap_alloc_at _ _ _ rfl, Nat.le_refl _, by unfold maxLen; omega, rfl, rfl⟩⟩
    have HO : Hid (World.ownsRow _ _ _ _ _ _ _) := ho
    have hnews : ∀ a, some ad = some a → ∀ j u, (pairCells ps)[j]? = some u → (w.alloc (.cells #[] 59)).cell? (a.add j) = some u := pairs_news (HA.out.below (below_alloc _ _))
    have HW : Hid _ := hnews
    clear ho hnews
    go_enter Try.func43, Try.ntmps43
    go_wp2_with (first | (at_builtin; (refine wpList_append_all (by rfl) _ _ _ (by rfl) w.heap.size 59 i0 _ 2 16 prs_under hi0 hz0 hz1 hz2 rfl (by omega) _ 0 [] (by rfl) HO.out (some ad) ps.length cp (pairCells ps) (by rfl) (fun h => by cases h) (pairCells_length _) HW.out (pairCells_one _) (by omega) (by omega) (by simp) ?_); intro v' w1 hown1 hgrow hnl))
    go_ret
    refine ⟨_, rfl, ?_, Below.grown (below_alloc _ _) hgrow (by simp) (by intro k hk; simp [Value.ownBlock] at hk; omega)⟩
    rw [Nat.zero_add, List.nil_append] at hown1
    exact hown1
end Go.Proofs.Ytjpfgfcggekklaa

/- Layer 6: the program's change. -/
import Derived.Test.YtjpfgfcggekklaaMG10
namespace Go.Proofs.Ytjpfgfcggekklaa
open Go.RowKit

set_option maxRecDepth 100000 in
set_option maxHeartbeats 1000000 in
theorem chg2 {w : World} {B : Nat} {v : Value} {ps : PL} (key val hi : Int) (h : w.ownsRow B 59 2 v ps.length (pairCells ps)) (hs : Srt ps) (hby : (ps.length + 1) * 16 ≤ 140737488355328) (hB : B ≤ w.heap.size) :
    Calls Try.prog 59 #[v, .agg #[.int .i64 2, .int .i64 key, .int .i64 val, .int .i64 hi]] w (InsP w B v (stepL ps ⟨2, key, val, hi⟩)) := by
  obtain ⟨base, cap, g, rfl, hgB, hnilb, hp⟩ := pairs_of_owns h (by unfold maxLen; omega)
  have HO : Hid (World.ownsRow _ _ _ _ _ _ _) := h
  have HP : Hid (PairsAt _ _ _ _ _) := hp
  have HU : Hid ((ps.length + 1) * 16 ≤ 140737488355328 ∧ B ≤ w.heap.size) := ⟨hby, hB⟩
  have HG : Hid _ := getK_pos key hs
  have HPUT : Hid _ := putL_pos key val hs
  have HDEL : Hid _ := delL_pos key hs
  have hhk := hasK_some key ps
  have hpl := posL_le key ps
  have PLC : Hid (∀ W, PairsAt W base g 0 ps → Calls Try.prog 51 #[.slice base ps.length cap, .int .i64 key] W fun e w' => e = .returned (.tuple #[.int .i64 (posL key ps : Nat), .bool (getK key ps).isSome]) ∧ Below W.heap.size W w') := fun W hW => place_any base g 0 cap ps key W hW hs
  clear h hs hp hby hB hnilb hgB
  cases hg : getK key ps with
  | some v =>
    rw [hg] at PLC hhk
    have hlt : posL key ps < ps.length ∧ keyAt ps (posL key ps) = key := by
      have e := HG.out
      rw [hg] at e
      split at e
      · rename_i hq; exact hq
      · cases e
    simp only [Option.isSome_some, if_true] at hhk
    have EL : Hid (stepL ps ⟨2, key, val, hi⟩ = ps.take (posL key ps) ++ (key, val) :: ps.drop (posL key ps + 1)) := by
      show stepL ps ⟨2, key, val, hi⟩ = _
      have : stepL ps ⟨2, key, val, hi⟩ = putL key val ps := by simp [stepL]
      rw [this, HPUT.out, hhk]
    clear HG hg HPUT HDEL hhk
    obtain ⟨hlt, hke⟩ := hlt
    obtain ⟨m, hm⟩ : ∃ m, m = posL key ps := ⟨_, rfl⟩
    rw [← hm] at PLC hpl EL hlt hke
    clear hm
    have m0 : (0 : Int) ≤ (m : Int) := Int.natCast_nonneg _
    have m1 : (m : Int) < (ps.length : Int) := by omega
    have HKE : Hid _ := hke
    clear hke
    obtain rfl : base = some ⟨g, 0, none⟩ := HP.out.base (by omega)
    go_enter Try.func59, Try.ntmps59
    go_wp2_with fail
    refine (PLC.out _ (HP.out.below (below_alloc _ _))).mono ?_
    rintro e w1 ⟨rfl, hb1⟩
    have HB1 : Hid (Below w.heap.size w w1) := (below_alloc _ _).trans (hb1.mono (by simp))
    have z1 : w.heap.size < w1.heap.size := by have := hb1.size; simp at this; omega
    have a0 : w1.cell? ⟨w.heap.size, 0, none⟩ = some (.int .i64 2) := (hb1.cell (p := ⟨w.heap.size, 0, none⟩) (by simp)).trans (cell_new w _ _ 0)
    have a1 : w1.cell? ⟨w.heap.size, 1, none⟩ = some (.int .i64 key) := (hb1.cell (p := ⟨w.heap.size, 1, none⟩) (by simp)).trans (cell_new w _ _ 1)
    have a2 : w1.cell? ⟨w.heap.size, 2, none⟩ = some (.int .i64 val) := (hb1.cell (p := ⟨w.heap.size, 2, none⟩) (by simp)).trans (cell_new w _ _ 2)
    have a3 : w1.cell? ⟨w.heap.size, 3, none⟩ = some (.int .i64 hi) := (hb1.cell (p := ⟨w.heap.size, 3, none⟩) (by simp)).trans (cell_new w _ _ 3)
    have O1 : Hid (World.ownsRow _ _ _ _ _ _ _) := owns_below HO.out HB1.out
    clear hb1
    obtain ⟨g', cap', hv', _, hgl, _, _, hcs, hfz⟩ := owns_some O1.out (by omega)
    cases hv'
    have d1 : w1.cell? ⟨g, m * 2 + 1, none⟩ = some (.int .i64 (valAt ps m)) := by rw [hcs _ (by omega)]; exact (pairCells_get ps m hlt).2
    have f1 : w1.frozen? ⟨g, m * 2 + 1, none⟩ = false := hfz _
    have R : Hid (InsP w B (.slice (some ⟨g, 0, none⟩) ps.length cap) (stepL ps ⟨2, key, val, hi⟩) (.returned (.slice (some ⟨g, 0, none⟩) ps.length cap)) (w1.setCell ⟨g, m * 2 + 1, none⟩ (.int .i64 val))) := by
      have hl : (ps.take m ++ (key, val) :: ps.drop (m + 1)).length = ps.length := by simp; omega
      refine ⟨_, rfl, ?_, grown_trans (grown_of_below HB1.out) grown_setCell, fun k hk => Or.inl hk⟩
      rw [EL.out, hl]
      have q := owns_put O1.out (m * 2 + 1) (.int .i64 val)
      rw [set_pair ps m val hlt, HKE.out] at q
      exact q
    clear hcs hfz
    go_wp2_with fail
    go_ret
    exact R.out
  | none =>
    rw [hg] at PLC hhk
    simp only [Option.isSome_none, Bool.false_eq_true, if_false] at hhk
    have EL : Hid (stepL ps ⟨2, key, val, hi⟩ = ps.take (posL key ps) ++ (key, val) :: ps.drop (posL key ps)) := by
      show stepL ps ⟨2, key, val, hi⟩ = _
      have : stepL ps ⟨2, key, val, hi⟩ = putL key val ps := by simp [stepL]
      rw [this, HPUT.out, hhk, Nat.add_zero]
    clear HG hg HPUT HDEL hhk
    obtain ⟨m, hm⟩ : ∃ m, m = posL key ps := ⟨_, rfl⟩
    rw [← hm] at PLC hpl EL
    clear hm
    go_enter Try.func59, Try.ntmps59
    go_wp2_with fail
    refine (PLC.out _ (HP.out.below (below_alloc _ _))).mono ?_
    rintro e w1 ⟨rfl, hb1⟩
    have HB1 : Hid (Below w.heap.size w w1) := (below_alloc _ _).trans (hb1.mono (by simp))
    have z1 : w.heap.size < w1.heap.size := by have := hb1.size; simp at this; omega
    have a0 : w1.cell? ⟨w.heap.size, 0, none⟩ = some (.int .i64 2) := (hb1.cell (p := ⟨w.heap.size, 0, none⟩) (by simp)).trans (cell_new w _ _ 0)
    have a1 : w1.cell? ⟨w.heap.size, 1, none⟩ = some (.int .i64 key) := (hb1.cell (p := ⟨w.heap.size, 1, none⟩) (by simp)).trans (cell_new w _ _ 1)
    have a2 : w1.cell? ⟨w.heap.size, 2, none⟩ = some (.int .i64 val) := (hb1.cell (p := ⟨w.heap.size, 2, none⟩) (by simp)).trans (cell_new w _ _ 2)
    have a3 : w1.cell? ⟨w.heap.size, 3, none⟩ = some (.int .i64 hi) := (hb1.cell (p := ⟨w.heap.size, 3, none⟩) (by simp)).trans (cell_new w _ _ 3)
    have O1 : Hid (World.ownsRow _ _ _ _ _ _ _) := owns_below HO.out HB1.out
    clear hb1
    have INS : Hid (Calls _ _ _ _ _) := insert_any m key val (owns_below O1.out (below_alloc w1 (.cells #[.int .i64 key, .int .i64 val] 59))) hpl (heap_alloc_at _ _ _ rfl) (fun e => by have := (owns_lt O1.out _ e).2; omega) HU.out.1 (by simp; have := HU.out.2; omega)
    go_wp2_with fail
    refine INS.out.mono ?_
    rintro e w2 ⟨v', rfl, ho, hgr, hbk⟩
    have HR : Hid (InsP w B (.slice base ps.length cap) (ps.take m ++ (key, val) :: ps.drop m) (.returned v') w2) := ⟨v', rfl, ho, grown_trans (grown_of_below (HB1.out.alloc (by omega) _)) hgr, fun k hk => (hbk k hk).imp id (fun q => by simp at q; omega)⟩
    clear ho hgr hbk
    go_wp2_with fail
    go_ret
    rw [EL.out]
    exact HR.out

set_option maxRecDepth 100000 in
set_option maxHeartbeats 1000000 in
theorem chg3 {w : World} {B : Nat} {v : Value} {ps : PL} (key val hi : Int) (h : w.ownsRow B 59 2 v ps.length (pairCells ps)) (hs : Srt ps) (hby : (ps.length + 1) * 16 ≤ 140737488355328) (hB : B ≤ w.heap.size) :
    Calls Try.prog 59 #[v, .agg #[.int .i64 3, .int .i64 key, .int .i64 val, .int .i64 hi]] w (InsP w B v (stepL ps ⟨3, key, val, hi⟩)) := by
  obtain ⟨base, cap, g, rfl, hgB, hnilb, hp⟩ := pairs_of_owns h (by unfold maxLen; omega)
  have HO : Hid (World.ownsRow _ _ _ _ _ _ _) := h
  have HP : Hid (PairsAt _ _ _ _ _) := hp
  have HU : Hid ((ps.length + 1) * 16 ≤ 140737488355328 ∧ B ≤ w.heap.size) := ⟨hby, hB⟩
  have HG : Hid _ := getK_pos key hs
  have HPUT : Hid _ := putL_pos key val hs
  have HDEL : Hid _ := delL_pos key hs
  have hhk := hasK_some key ps
  have hpl := posL_le key ps
  have PLC : Hid (∀ W, PairsAt W base g 0 ps → Calls Try.prog 51 #[.slice base ps.length cap, .int .i64 key] W fun e w' => e = .returned (.tuple #[.int .i64 (posL key ps : Nat), .bool (getK key ps).isSome]) ∧ Below W.heap.size W w') := fun W hW => place_any base g 0 cap ps key W hW hs
  clear h hs hp hby hB hnilb hgB
  cases hg : getK key ps with
  | some v =>
    rw [hg] at PLC
    have EL : Hid (stepL ps ⟨3, key, val, hi⟩ = ps) := by show stepL ps ⟨3, key, val, hi⟩ = ps; simp [stepL, hg]
    clear HG hg HPUT HDEL hhk
    go_enter Try.func59, Try.ntmps59
    go_wp2_with fail
    refine (PLC.out _ (HP.out.below (below_alloc _ _))).mono ?_
    rintro e w1 ⟨rfl, hb1⟩
    have HB1 : Hid (Below w.heap.size w w1) := (below_alloc _ _).trans (hb1.mono (by simp))
    have z1 : w.heap.size < w1.heap.size := by have := hb1.size; simp at this; omega
    have a0 : w1.cell? ⟨w.heap.size, 0, none⟩ = some (.int .i64 3) := (hb1.cell (p := ⟨w.heap.size, 0, none⟩) (by simp)).trans (cell_new w _ _ 0)
    have a1 : w1.cell? ⟨w.heap.size, 1, none⟩ = some (.int .i64 key) := (hb1.cell (p := ⟨w.heap.size, 1, none⟩) (by simp)).trans (cell_new w _ _ 1)
    have a2 : w1.cell? ⟨w.heap.size, 2, none⟩ = some (.int .i64 val) := (hb1.cell (p := ⟨w.heap.size, 2, none⟩) (by simp)).trans (cell_new w _ _ 2)
    have a3 : w1.cell? ⟨w.heap.size, 3, none⟩ = some (.int .i64 hi) := (hb1.cell (p := ⟨w.heap.size, 3, none⟩) (by simp)).trans (cell_new w _ _ 3)
    have O1 : Hid (World.ownsRow _ _ _ _ _ _ _) := owns_below HO.out HB1.out
    clear hb1
    go_wp2_with fail
    go_ret
    exact ⟨_, rfl, by rw [EL.out]; exact O1.out, grown_of_below HB1.out, fun k hk => Or.inl hk⟩
  | none =>
    rw [hg] at PLC hhk
    simp only [Option.isSome_none, Bool.false_eq_true, if_false] at hhk
    have EL : Hid (stepL ps ⟨3, key, val, hi⟩ = ps.take (posL key ps) ++ (key, val) :: ps.drop (posL key ps)) := by
      show stepL ps ⟨3, key, val, hi⟩ = _
      have : stepL ps ⟨3, key, val, hi⟩ = putL key val ps := by simp [stepL, hg]
      rw [this, HPUT.out, hhk, Nat.add_zero]
    clear HG hg HPUT HDEL hhk
    obtain ⟨m, hm⟩ : ∃ m, m = posL key ps := ⟨_, rfl⟩
    rw [← hm] at PLC hpl EL
    clear hm
    go_enter Try.func59, Try.ntmps59
    go_wp2_with fail
    refine (PLC.out _ (HP.out.below (below_alloc _ _))).mono ?_
    rintro e w1 ⟨rfl, hb1⟩
    have HB1 : Hid (Below w.heap.size w w1) := (below_alloc _ _).trans (hb1.mono (by simp))
    have z1 : w.heap.size < w1.heap.size := by have := hb1.size; simp at this; omega
    have a0 : w1.cell? ⟨w.heap.size, 0, none⟩ = some (.int .i64 3) := (hb1.cell (p := ⟨w.heap.size, 0, none⟩) (by simp)).trans (cell_new w _ _ 0)
    have a1 : w1.cell? ⟨w.heap.size, 1, none⟩ = some (.int .i64 key) := (hb1.cell (p := ⟨w.heap.size, 1, none⟩) (by simp)).trans (cell_new w _ _ 1)
    have a2 : w1.cell? ⟨w.heap.size, 2, none⟩ = some (.int .i64 val) := (hb1.cell (p := ⟨w.heap.size, 2, none⟩) (by simp)).trans (cell_new w _ _ 2)
    have a3 : w1.cell? ⟨w.heap.size, 3, none⟩ = some (.int .i64 hi) := (hb1.cell (p := ⟨w.heap.size, 3, none⟩) (by simp)).trans (cell_new w _ _ 3)
    have O1 : Hid (World.ownsRow _ _ _ _ _ _ _) := owns_below HO.out HB1.out
    clear hb1
    have INS : Hid (Calls _ _ _ _ _) := insert_any m key val (owns_below O1.out (below_alloc w1 (.cells #[.int .i64 key, .int .i64 val] 59))) hpl (heap_alloc_at _ _ _ rfl) (fun e => by have := (owns_lt O1.out _ e).2; omega) HU.out.1 (by simp; have := HU.out.2; omega)
    go_wp2_with fail
    refine INS.out.mono ?_
    rintro e w2 ⟨v', rfl, ho, hgr, hbk⟩
    have HR : Hid (InsP w B (.slice base ps.length cap) (ps.take m ++ (key, val) :: ps.drop m) (.returned v') w2) := ⟨v', rfl, ho, grown_trans (grown_of_below (HB1.out.alloc (by omega) _)) hgr, fun k hk => (hbk k hk).imp id (fun q => by simp at q; omega)⟩
    clear ho hgr hbk
    go_wp2_with fail
    go_ret
    rw [EL.out]
    exact HR.out

set_option maxRecDepth 100000 in
set_option maxHeartbeats 1000000 in
theorem chg4 {w : World} {B : Nat} {v : Value} {ps : PL} (key val hi : Int) (h : w.ownsRow B 59 2 v ps.length (pairCells ps)) (hs : Srt ps) (hby : (ps.length + 1) * 16 ≤ 140737488355328) (hB : B ≤ w.heap.size) :
    Calls Try.prog 59 #[v, .agg #[.int .i64 4, .int .i64 key, .int .i64 val, .int .i64 hi]] w (InsP w B v (stepL ps ⟨4, key, val, hi⟩)) := by
  obtain ⟨base, cap, g, rfl, hgB, hnilb, hp⟩ := pairs_of_owns h (by unfold maxLen; omega)
  have HO : Hid (World.ownsRow _ _ _ _ _ _ _) := h
  have HP : Hid (PairsAt _ _ _ _ _) := hp
  have HU : Hid ((ps.length + 1) * 16 ≤ 140737488355328 ∧ B ≤ w.heap.size) := ⟨hby, hB⟩
  have HG : Hid _ := getK_pos key hs
  have HPUT : Hid _ := putL_pos key val hs
  have HDEL : Hid _ := delL_pos key hs
  have hhk := hasK_some key ps
  have hpl := posL_le key ps
  have PLC : Hid (∀ W, PairsAt W base g 0 ps → Calls Try.prog 51 #[.slice base ps.length cap, .int .i64 key] W fun e w' => e = .returned (.tuple #[.int .i64 (posL key ps : Nat), .bool (getK key ps).isSome]) ∧ Below W.heap.size W w') := fun W hW => place_any base g 0 cap ps key W hW hs
  clear h hs hp hby hB hnilb hgB
  cases hg : getK key ps with
  | some v =>
    rw [hg] at PLC hhk
    have hlt : posL key ps < ps.length ∧ keyAt ps (posL key ps) = key := by
      have e := HG.out
      rw [hg] at e
      split at e
      · rename_i hq; exact hq
      · cases e
    simp only [Option.isSome_some, if_true] at hhk
    have EL : Hid (stepL ps ⟨4, key, val, hi⟩ = ps.take (posL key ps) ++ ps.drop (posL key ps + 1)) := by
      show stepL ps ⟨4, key, val, hi⟩ = _
      have : stepL ps ⟨4, key, val, hi⟩ = delL key ps := by simp [stepL]
      rw [this, HDEL.out, hhk]
    clear HG hg HPUT HDEL hhk
    obtain ⟨hlt, _⟩ := hlt
    obtain ⟨m, hm⟩ : ∃ m, m = posL key ps := ⟨_, rfl⟩
    rw [← hm] at PLC hpl EL hlt
    clear hm
    have m1 : (m : Int) < (ps.length : Int) := by omega
    have q13 : IntKind.i64.wrap ((m : Int) + 1) = (m : Int) + 1 := by have := HP.out.len; unfold maxLen at this; rw [IntKind.wrap_i64]; omega
    have q14 : wrap64 ((m : Int) + 1) = (m : Int) + 1 := by have := HP.out.len; unfold maxLen at this; unfold wrap64; omega
    go_enter Try.func59, Try.ntmps59
    go_wp2_with fail
    refine (PLC.out _ (HP.out.below (below_alloc _ _))).mono ?_
    rintro e w1 ⟨rfl, hb1⟩
    have HB1 : Hid (Below w.heap.size w w1) := (below_alloc _ _).trans (hb1.mono (by simp))
    have z1 : w.heap.size < w1.heap.size := by have := hb1.size; simp at this; omega
    have a0 : w1.cell? ⟨w.heap.size, 0, none⟩ = some (.int .i64 4) := (hb1.cell (p := ⟨w.heap.size, 0, none⟩) (by simp)).trans (cell_new w _ _ 0)
    have a1 : w1.cell? ⟨w.heap.size, 1, none⟩ = some (.int .i64 key) := (hb1.cell (p := ⟨w.heap.size, 1, none⟩) (by simp)).trans (cell_new w _ _ 1)
    have a2 : w1.cell? ⟨w.heap.size, 2, none⟩ = some (.int .i64 val) := (hb1.cell (p := ⟨w.heap.size, 2, none⟩) (by simp)).trans (cell_new w _ _ 2)
    have a3 : w1.cell? ⟨w.heap.size, 3, none⟩ = some (.int .i64 hi) := (hb1.cell (p := ⟨w.heap.size, 3, none⟩) (by simp)).trans (cell_new w _ _ 3)
    have O1 : Hid (World.ownsRow _ _ _ _ _ _ _) := owns_below HO.out HB1.out
    clear hb1
    have DEL : Hid (Calls _ _ _ _ _) := delete_any O1.out hlt
    go_wp2_with fail
    refine DEL.out.mono ?_
    rintro e w2 ⟨v', rfl, ho, hgr, hbk⟩
    have HR : Hid (InsP w B (.slice base ps.length cap) (ps.take m ++ ps.drop (m + 1)) (.returned v') w2) := ⟨v', rfl, ho, grown_trans (grown_of_below HB1.out) hgr, fun k hk => Or.inl (hbk ▸ hk)⟩
    clear ho hgr hbk
    go_wp2_with fail
    go_ret
    rw [EL.out]
    exact HR.out
  | none =>
    rw [hg] at PLC hhk
    simp only [Option.isSome_none, Bool.false_eq_true, if_false] at hhk
    have EL : Hid (stepL ps ⟨4, key, val, hi⟩ = ps) := by
      show stepL ps ⟨4, key, val, hi⟩ = ps
      have : stepL ps ⟨4, key, val, hi⟩ = delL key ps := by simp [stepL]
      rw [this, HDEL.out, hhk, Nat.add_zero, List.take_append_drop]
    clear HG hg HPUT HDEL hhk
    go_enter Try.func59, Try.ntmps59
    go_wp2_with fail
    refine (PLC.out _ (HP.out.below (below_alloc _ _))).mono ?_
    rintro e w1 ⟨rfl, hb1⟩
    have HB1 : Hid (Below w.heap.size w w1) := (below_alloc _ _).trans (hb1.mono (by simp))
    have z1 : w.heap.size < w1.heap.size := by have := hb1.size; simp at this; omega
    have a0 : w1.cell? ⟨w.heap.size, 0, none⟩ = some (.int .i64 4) := (hb1.cell (p := ⟨w.heap.size, 0, none⟩) (by simp)).trans (cell_new w _ _ 0)
    have a1 : w1.cell? ⟨w.heap.size, 1, none⟩ = some (.int .i64 key) := (hb1.cell (p := ⟨w.heap.size, 1, none⟩) (by simp)).trans (cell_new w _ _ 1)
    have a2 : w1.cell? ⟨w.heap.size, 2, none⟩ = some (.int .i64 val) := (hb1.cell (p := ⟨w.heap.size, 2, none⟩) (by simp)).trans (cell_new w _ _ 2)
    have a3 : w1.cell? ⟨w.heap.size, 3, none⟩ = some (.int .i64 hi) := (hb1.cell (p := ⟨w.heap.size, 3, none⟩) (by simp)).trans (cell_new w _ _ 3)
    have O1 : Hid (World.ownsRow _ _ _ _ _ _ _) := owns_below HO.out HB1.out
    clear hb1
    go_wp2_with fail
    go_ret
    exact ⟨_, rfl, by rw [EL.out]; exact O1.out, grown_of_below HB1.out, fun k hk => Or.inl hk⟩

set_option maxRecDepth 100000 in
set_option maxHeartbeats 1000000 in
theorem chgO {w : World} {B : Nat} {v : Value} {ps : PL} (kind key val hi : Int) (h : w.ownsRow B 59 2 v ps.length (pairCells ps)) (hs : Srt ps) (hby : (ps.length + 1) * 16 ≤ 140737488355328) (hB : B ≤ w.heap.size) (hk : ¬ (2 ≤ kind ∧ kind ≤ 4)) :
    Calls Try.prog 59 #[v, .agg #[.int .i64 kind, .int .i64 key, .int .i64 val, .int .i64 hi]] w (InsP w B v (stepL ps ⟨kind, key, val, hi⟩)) := by
  obtain ⟨base, cap, g, rfl, hgB, hnilb, hp⟩ := pairs_of_owns h (by unfold maxLen; omega)
  have HO : Hid (World.ownsRow _ _ _ _ _ _ _) := h
  have HP : Hid (PairsAt _ _ _ _ _) := hp
  have HU : Hid ((ps.length + 1) * 16 ≤ 140737488355328 ∧ B ≤ w.heap.size) := ⟨hby, hB⟩
  have HG : Hid _ := getK_pos key hs
  have HPUT : Hid _ := putL_pos key val hs
  have HDEL : Hid _ := delL_pos key hs
  have hhk := hasK_some key ps
  have hpl := posL_le key ps
  have PLC : Hid (∀ W, PairsAt W base g 0 ps → Calls Try.prog 51 #[.slice base ps.length cap, .int .i64 key] W fun e w' => e = .returned (.tuple #[.int .i64 (posL key ps : Nat), .bool (getK key ps).isSome]) ∧ Below W.heap.size W w') := fun W hW => place_any base g 0 cap ps key W hW hs
  clear h hs hp hby hB hnilb hgB
  have EL : Hid (stepL ps ⟨kind, key, val, hi⟩ = ps) := stepL_same hk
  have k2 : (kind == 2) = false := by simp; omega
  have k3 : (kind == 3) = false := by simp; omega
  have k4 : (kind == 4) = false := by simp; omega
  obtain ⟨q, hq⟩ : ∃ q, q = (getK key ps).isSome := ⟨_, rfl⟩
  rw [← hq] at PLC
  clear HG hq HPUT HDEL hhk hk
  go_enter Try.func59, Try.ntmps59
  go_wp2_with fail
  refine (PLC.out _ (HP.out.below (below_alloc _ _))).mono ?_
  rintro e w1 ⟨rfl, hb1⟩
  have HB1 : Hid (Below w.heap.size w w1) := (below_alloc _ _).trans (hb1.mono (by simp))
  have z1 : w.heap.size < w1.heap.size := by have := hb1.size; simp at this; omega
  have a0 : w1.cell? ⟨w.heap.size, 0, none⟩ = some (.int .i64 kind) := (hb1.cell (p := ⟨w.heap.size, 0, none⟩) (by simp)).trans (cell_new w _ _ 0)
  have a1 : w1.cell? ⟨w.heap.size, 1, none⟩ = some (.int .i64 key) := (hb1.cell (p := ⟨w.heap.size, 1, none⟩) (by simp)).trans (cell_new w _ _ 1)
  have a2 : w1.cell? ⟨w.heap.size, 2, none⟩ = some (.int .i64 val) := (hb1.cell (p := ⟨w.heap.size, 2, none⟩) (by simp)).trans (cell_new w _ _ 2)
  have a3 : w1.cell? ⟨w.heap.size, 3, none⟩ = some (.int .i64 hi) := (hb1.cell (p := ⟨w.heap.size, 3, none⟩) (by simp)).trans (cell_new w _ _ 3)
  have O1 : Hid (World.ownsRow _ _ _ _ _ _ _) := owns_below HO.out HB1.out
  clear hb1
  go_wp2_with fail
  go_ret
  exact ⟨_, rfl, by rw [EL.out]; exact O1.out, grown_of_below HB1.out, fun k hk => Or.inl hk⟩

theorem chg_any {w : World} {B : Nat} {v : Value} {ps : PL} (op : OpD) (h : w.ownsRow B 59 2 v ps.length (pairCells ps)) (hs : Srt ps) (hby : (ps.length + 1) * 16 ≤ 140737488355328) (hB : B ≤ w.heap.size) :
    Calls Try.prog 59 #[v, .agg #[.int .i64 op.kind, .int .i64 op.key, .int .i64 op.val, .int .i64 op.hi]] w (InsP w B v (stepL ps op)) := by
  obtain ⟨kind, key, val, hi⟩ := op
  by_cases hk : 2 ≤ kind ∧ kind ≤ 4
  · have hc : kind = 2 ∨ kind = 3 ∨ kind = 4 := by omega
    rcases hc with rfl | rfl | rfl
    · exact chg2 key val hi h hs hby hB
    · exact chg3 key val hi h hs hby hB
    · exact chg4 key val hi h hs hby hB
  · exact chgO kind key val hi h hs hby hB hk
end Go.Proofs.Ytjpfgfcggekklaa

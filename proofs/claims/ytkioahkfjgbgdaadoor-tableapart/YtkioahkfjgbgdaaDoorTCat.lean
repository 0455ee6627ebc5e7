
/- Layer 16: slices.Grow of nil and slices.Concat of two, at nodes. -/

import Derived.Test.YtkioahkfjgbgdaaDoorTMir

import Derived.Lib.AppendZeros

namespace Go.Proofs.YtkioahkfjgbgdaaDoor

open Go.RowKit

def NilOk (A : Option Addr) (n c : Nat) : Prop := A = none → n = 0 ∧ c = 0
set_option maxRecDepth 100000 in
set_option maxHeartbeats 2000000 in
theorem growN_zero (w : World) :
    Calls Tryd.prog 48 #[.slice none 0 0, .int .i64 0] w fun e w' => e = .returned (.slice none 0 0) ∧ w' = w := by
  go_enter Tryd.func48, Tryd.ntmps48
  go_wp2_with fail
  go_ret
  exact ⟨rfl, rfl⟩

set_option maxRecDepth 100000 in
set_option maxHeartbeats 2000000 in
theorem growN_some (n : Nat) (w : World) (hn : 0 < n) (hm : n ≤ 1000000) :
    Calls Tryd.prog 48 #[.slice none 0 0, .int .i64 n] w fun e w' => ∃ v, e = .returned v ∧ Below w.heap.size w w' ∧ w'.ownsRow w.heap.size 40 6 v 0 [] := by
  obtain ⟨i0, hi0, hz0, hz1, hz2⟩ := info_parts nd_info'
  have H1 := fun ty => Lib.run_append_nil_zeros (P := Tryd.prog) w 22 3 ty 40 i0 _ .i64 .i64 nds_under' Tryd.underlying3 hi0 hz0 n hn (by omega) (by omega) (by rw [hz2]; omega)
  have hG := grownCap_ge w n 0 40
  have hG2 := grownCap_le_maxLen w n 0 40 (by unfold maxLen; omega)
  generalize grownCap w n 0 40 = G at *
  obtain ⟨W, hW⟩ : ∃ W, W = w.drew.alloc (.cells (Builtin.zeroCells (Value.agg #[.int .i64 0, .int .i64 0, .int .i64 0, .int .i64 0, .int .i64 0, .int .i64 0]).cells n ++ Builtin.zeroCells (Value.agg #[.int .i64 0, .int .i64 0, .int .i64 0, .int .i64 0, .int .i64 0, .int .i64 0]).cells (G - n)) 40) := ⟨_, rfl⟩
  rw [← hW] at H1
  have q0 : ¬ (n : Int) < 0 := by omega
  have q1 : (n : Int) > 0 := by omega
  have q2 : (0 : Int) < (n : Int) := by omega
  have BB : Hid (Below w.heap.size w W) := by
    show Below w.heap.size w W
    rw [hW]
    have : Below w.heap.size w w.drew := ⟨rfl, rfl, rfl, Nat.le_refl _, fun _ _ => rfl⟩
    exact this.alloc (Nat.le_refl _) _
  have OO : Hid (W.ownsRow w.heap.size 40 6 (.slice (some ⟨w.heap.size, 0, none⟩) 0 G) 0 []) := by
    show World.ownsRow _ _ _ _ _ _ _
    rw [hW]
    refine ⟨rfl, Or.inr ⟨w.heap.size, G, _, rfl, Nat.le_refl _, heap_alloc_at _ _ _ rfl, Nat.zero_le _, hG2, ?_, rfl⟩⟩
    simp [Builtin.zeroCells, Value.cells]
    omega
  unfold maxLen at hG2
  have g1 : (0 : Int) ≤ (G : Int) := by omega
  clear hW
  go_enter Tryd.func48, Tryd.ntmps48
  go_wp2_with (at_builtin; refine Lib.wpList_append_run _ rfl _ _ _ _ rfl _ _ rfl rfl _ _ (H1 _) ?_)
  go_ret
  exact ⟨_, rfl, BB.out, OO.out⟩
def catN (a b : NL) : Nat → NL
  | 0 => []
  | 1 => a
  | _ => a ++ b
theorem catN_le (a b : NL) (j : Nat) : (catN a b j).length ≤ a.length + b.length := by
  match j with
  | 0 => simp [catN]
  | 1 => simp [catN]
  | j + 2 => simp [catN]

set_option maxRecDepth 100000 in
set_option maxHeartbeats 2000000 in
theorem nconcat_any (ba bb : Option Addr) (ga oa ca gb ob cb g c : Nat) (a b : NL) (w : World) (ha : NodesAt w ba ga oa a) (hna : NilOk ba a.length ca) (hb : NodesAt w bb gb ob b) (hnb : NilOk bb b.length cb) (hl : a.length + b.length ≤ 1000000)
    (hg : g < w.heap.size) (h0 : w.cell? ⟨g, 0, none⟩ = some (.slice ba a.length ca)) (h1 : w.cell? ⟨g, 1, none⟩ = some (.slice bb b.length cb)) :
    Calls Tryd.prog 40 #[.slice (some ⟨g, 0, none⟩) 2 c] w fun e w' => ∃ v, e = .returned v ∧ Below w.heap.size w w' ∧ w'.ownsRow w.heap.size 40 6 v (a ++ b).length (ndCells (a ++ b)) := by
  obtain ⟨i0, hi0, hz0, hz1, hz2⟩ := info_parts nd_info'
  have HA : Hid _ := ha
  have HB : Hid _ := hb
  have HNA : Hid (ba = none → a.length = 0 ∧ ca = 0) := hna
  have HNB : Hid (bb = none → b.length = 0 ∧ cb = 0) := hnb
  clear ha hb hna hnb
  have q2 : ((2 : Nat) : Int) = 2 := rfl
  go_enter Tryd.func40, Tryd.ntmps40
  go_wp2_with fail
  go_loopw [3, 11] (fun s i wr => ∃ j : Nat, j ≤ 2 ∧ i = .int .i64 j ∧ s = .int .i64 ((catN a b j).length : Nat) ∧ w = wr) (fun _ i _ => 2 - (intOf i).toNat)
  case atStart => exact ⟨0, by omega, rfl, rfl, rfl⟩
  case round =>
    obtain ⟨j, hj, rfl, rfl, rfl⟩ := hrel
    by_cases hlt : j < 2
    · have D : j = 0 ∨ j = 1 := by omega
      rcases D with rfl | rfl
      · have e0 : (catN a b 0).length = 0 := rfl
        have r1 : ¬ (a.length : Int) < 0 := by omega
        have r2 : (a.length : Int) ≤ 1000000 := by omega
        rw [e0]
        go_wp2_with fail
        exact ⟨⟨1, by omega, rfl, rfl, by first | rfl | trivial⟩, by simp [intOf]⟩
      · have e0 : (catN a b 1).length = a.length := rfl
        have e1 : (catN a b 2).length = a.length + b.length := by simp [catN]
        have r1 : ¬ (a.length : Int) + (b.length : Int) < 0 := by omega
        have r2 : (a.length : Int) + (b.length : Int) ≤ 1000000 := by omega
        have E1 : Hid _ := e1
        clear e1
        rw [e0]
        go_wp2_with fail
        exact ⟨⟨2, by omega, rfl, by rw [E1.out]; simp, by first | rfl | trivial⟩, by simp [intOf]⟩
    · obtain rfl : j = 2 := by omega
      have e1 : (catN a b 2).length = a.length + b.length := by simp [catN]
      rw [e1]
      have GR : Hid (Calls Tryd.prog 48 #[.slice none 0 0, .int .i64 ((a.length + b.length : Nat) : Int)] w fun e w' => ∃ v, e = .returned v ∧ Below w.heap.size w w' ∧ w'.ownsRow w.heap.size 40 6 v 0 []) := by
        by_cases q : a.length + b.length = 0
        · rw [q]
          refine (growN_zero w).mono ?_
          rintro e w' ⟨rfl, rfl⟩
          exact ⟨_, rfl, Below.refl _ _, World.ownsRow_nil _ _ _ _⟩
        · exact growN_some _ w (by omega) hl
      clear e1
      go_wp2_with fail
      refine GR.out.mono ?_
      rintro e w1 ⟨v1, rfl, hb1, ho1⟩
      have B1 : Hid (Below w.heap.size w w1) := hb1
      have O1 : Hid (World.ownsRow _ _ _ _ _ _ _) := ho1
      clear hb1 ho1
      go_wp2_with fail
      go_loopw [6, 27] (fun v i wr => ∃ j : Nat, j ≤ 2 ∧ i = .int .i64 j ∧ Below w.heap.size w wr ∧ wr.ownsRow w.heap.size 40 6 v (catN a b j).length (ndCells (catN a b j))) (fun _ i _ => 2 - (intOf i).toNat)
      case atStart => exact ⟨0, by omega, rfl, B1.out, O1.out⟩
      case round =>
        obtain ⟨j, hj, rfl, hbq, hown⟩ := hrel
        have BQ : Hid (Below w.heap.size w wr) := hbq
        have OQ : Hid (World.ownsRow _ _ _ _ _ _ _) := hown
        have s1 := hbq.size
        have k0 := (hbq.cell (p := ⟨g, 0, none⟩) hg).trans h0
        have k1 := (hbq.cell (p := ⟨g, 1, none⟩) hg).trans h1
        have zg : g < wr.heap.size := by omega
        have NA : Hid _ := nodes_news (HA.out.below hbq)
        have NB : Hid _ := nodes_news (HB.out.below hbq)
        clear hbq hown
        by_cases hlt : j < 2
        · have D : j = 0 ∨ j = 1 := by omega
          rcases D with rfl | rfl
          · go_wp2_with (first | (at_builtin; (refine wpList_append_all (by rfl) _ _ _ (by rfl) w.heap.size 40 i0 _ 6 48 nds_under' hi0 hz0 hz1 hz2 rfl (by omega) _ 0 [] (by rfl) OQ.out ba a.length ca (ndCells a) (by rfl) HNA.out (ndCells_length _) NA.out (ndCells_all _) (by unfold maxLen; omega) (by omega) s1 ?_); intro v3 w3 hown3 hgrow3 hnl3))
            exact ⟨⟨1, by omega, rfl, Below.grown BQ.out hgrow3 (by omega) (owns_ge OQ.out), by simpa [catN] using hown3⟩, by simp [intOf]⟩
          · go_wp2_with (first | (at_builtin; (refine wpList_append_all (by rfl) _ _ _ (by rfl) w.heap.size 40 i0 _ 6 48 nds_under' hi0 hz0 hz1 hz2 rfl (by omega) _ a.length (ndCells a) (by rfl) OQ.out bb b.length cb (ndCells b) (by rfl) HNB.out (ndCells_length _) NB.out (ndCells_all _) (by unfold maxLen; omega) (by omega) s1 ?_); intro v3 w3 hown3 hgrow3 hnl3))
            exact ⟨⟨2, by omega, rfl, Below.grown BQ.out hgrow3 (by omega) (owns_ge OQ.out), by simpa [catN, ndCells_append] using hown3⟩, by simp [intOf]⟩
        · obtain rfl : j = 2 := by omega
          go_wp2_with fail
          go_ret
          exact ⟨_, rfl, BQ.out, OQ.out⟩
end Go.Proofs.YtkioahkfjgbgdaaDoor


/- Layer 6: the reference's Step, of the kinds that look at one key, and of ranges. -/

import Derived.Test.YtcphajjonecmbaaDoorMS2

namespace Go.Proofs.YtcphajjonecmbaaDoor

open Go.RowKit

theorem StA.made3 (w : World) (o : OpD) (T U V : TypeId) (a : Bool) (x y : Int) (qs : PL) (u : Value) : StA (((w.alloc (.cells #[.int .i64 o.kind, .int .i64 o.key, .int .i64 o.val, .int .i64 o.hi] T)).alloc (.cells #[.bool false, .int .i64 0, .int .i64 0, .slice none 0 0] U)).alloc (.cells #[.bool a, .int .i64 x, .int .i64 y, u] V)) w o ⟨a, x, y, qs⟩ u := by
  generalize hA : Obj.cells #[.int .i64 o.kind, .int .i64 o.key, .int .i64 o.val, .int .i64 o.hi] T = A
  generalize hB : Obj.cells #[.bool false, .int .i64 0, .int .i64 0, .slice none 0 0] U = B
  generalize hC : Obj.cells #[.bool a, .int .i64 x, .int .i64 y, u] V = C
  have z1 : (w.alloc A).heap.size = w.heap.size + 1 := by simp
  have z2 : ((w.alloc A).alloc B).heap.size = w.heap.size + 2 := by simp
  have z3 : (((w.alloc A).alloc B).alloc C).heap.size = w.heap.size + 3 := by simp
  have b1 : Below (w.alloc A).heap.size (w.alloc A) ((w.alloc A).alloc B) := below_allocM _ _
  have b2 : Below ((w.alloc A).alloc B).heap.size ((w.alloc A).alloc B) (((w.alloc A).alloc B).alloc C) := below_allocM _ _
  have ca : ∀ k, (((w.alloc A).alloc B).alloc C).cell? ⟨w.heap.size, k, none⟩ = (#[.int .i64 o.kind, .int .i64 o.key, .int .i64 o.val, .int .i64 o.hi] : Array Value)[k]? := fun k => by
    rw [b2.cell (p := ⟨w.heap.size, k, none⟩) (show w.heap.size < _ by omega), b1.cell (p := ⟨w.heap.size, k, none⟩) (show w.heap.size < _ by omega), ← hA]
    exact cell_newM w _ T k
  have cb : ∀ k, (((w.alloc A).alloc B).alloc C).cell? ⟨w.heap.size + 1, k, none⟩ = (#[.bool false, .int .i64 0, .int .i64 0, .slice none 0 0] : Array Value)[k]? := fun k => by
    rw [b2.cell (p := ⟨w.heap.size + 1, k, none⟩) (show w.heap.size + 1 < _ by omega), ← z1, ← hB]
    exact cell_newM (w.alloc A) _ U k
  have cc : ∀ k, (((w.alloc A).alloc B).alloc C).cell? ⟨w.heap.size + 2, k, none⟩ = (#[.bool a, .int .i64 x, .int .i64 y, u] : Array Value)[k]? := fun k => by
    rw [← z2, ← hC]
    exact cell_newM ((w.alloc A).alloc B) _ V k
  refine ⟨((below_allocM _ _).alloc (by simp) _).alloc (by simp; omega) _, by omega, ⟨ca 0, ca 1, ca 2, ca 3⟩, ⟨cb 0, cb 1, cb 2, cb 3⟩, ⟨cc 0, cc 1, cc 2, cc 3⟩, fun i => ⟨?_, ?_⟩⟩
  · rw [b2.frozen (p := ⟨w.heap.size + 1, i, none⟩) (show w.heap.size + 1 < _ by omega), ← z1, ← hB]
    exact frozen_newM (w.alloc A) _ U i
  · rw [← z2, ← hC]
    exact frozen_newM ((w.alloc A).alloc B) _ V i

set_option maxRecDepth 100000 in
set_option maxHeartbeats 4000000 in
theorem step_1 (base : Option Addr) (b o c : Nat) (ps : PL) (key val hi : Int) (w : World) (h : PairsAt w base b o ps) (hnil : base = none → ps.length = 0 ∧ c = 0) (hby : (ps.length + 2) * 16 ≤ 140737488355328) :
    StepP base c ps ⟨1, key, val, hi⟩ w := by
  unfold StepP
  have ES : stepR ps ⟨1, key, val, hi⟩ = ⟨(getK key ps).isSome, 0, ((getK key ps).getD 0), []⟩ := by simp [stepR]
  have EL : stepL ps ⟨1, key, val, hi⟩ = ps := by simp [stepL]
  rw [ES, EL]
  clear ES EL
  have hl := h.len
  unfold maxLen at hl
  have HA : Hid _ := h
  have HNIL : Hid _ := hnil
  clear h hnil
  have LK : Hid _ := look_any base b o c ps key
  go_enter Tryd.func110, Tryd.ntmps110
  go_wp2_with fail
  refine (LK.out _ (HA.out.below ((below_allocM _ _).alloc (by simp) _))).mono ?_
  rintro e w1 ⟨rfl, rfl⟩
  go_wp2_with fail
  go_loopw [9] (fun i wr => ∃ j : Nat, j ≤ ps.length ∧ i = .int .i64 j ∧ StA wr w ⟨1, key, val, hi⟩ ⟨(getK key ps).isSome, 0, ((getK key ps).getD 0), []⟩ (.slice none 0 0) ∧ OwnPM wr (w.heap.size + 3) [] (.slice none 0 0)) (fun i _ => ps.length - (intOf i).toNat)
  case atStart => exact ⟨0, Nat.zero_le _, rfl, StA.made3 w ⟨1, key, val, hi⟩ _ _ _ _ _ _ [] _, none, 0, 0, rfl, fun q => absurd rfl q, pairs_noneM _, fun _ => rfl⟩
  case round =>
    obtain ⟨j, hj, rfl, hst, hor⟩ := hrel
    by_cases hlt : j < ps.length
    · have HR : Hid (OwnPM _ _ _ _) := hor
      clear hor
      obtain rfl : base = some ⟨b, o, none⟩ := HA.out.base (by omega)
      obtain ⟨c0, c1⟩ := (HA.out.below hst.below).cells j hlt
      have zb : b < w.heap.size := HA.out.lt (by omega)
      have zs := hst.size
      have zb2 : b < wr.heap.size := by omega
      have za2 : w.heap.size < wr.heap.size := by omega
      have j0 : (0 : Int) ≤ (j : Int) := Int.natCast_nonneg _
      have j1 : (j : Int) < (ps.length : Int) := by omega
      obtain ⟨W2, hW2⟩ : ∃ W2, W2 = (wr.alloc (.cells #[.bool true, .int .i64 (keyAt ps j), .int .i64 (valAt ps j), .slice none 0 0] 45)).drew := ⟨_, rfl⟩
      have b2 : Below wr.heap.size wr W2 := by rw [hW2]; exact (below_allocM _ _).drew
      have z2a : wr.heap.size < W2.heap.size := by rw [hW2]; simp
      have p0 : W2.cell? ⟨wr.heap.size, 0, none⟩ = some (.bool true) := by rw [hW2]; exact cell_newM wr _ _ 0
      have p1 : W2.cell? ⟨wr.heap.size, 1, none⟩ = some (.int .i64 (keyAt ps j)) := by rw [hW2]; exact cell_newM wr _ _ 1
      have p2 : W2.cell? ⟨wr.heap.size, 2, none⟩ = some (.int .i64 (valAt ps j)) := by rw [hW2]; exact cell_newM wr _ _ 2
      have p3 : W2.cell? ⟨wr.heap.size, 3, none⟩ = some (.slice none 0 0) := by rw [hW2]; exact cell_newM wr _ _ 3
      have S2 := hst.low b2 zs
      have d0 : W2.cell? ⟨b, o + j * 2, none⟩ = some (.int .i64 (keyAt ps j)) := (b2.cell (p := ⟨b, o + j * 2, none⟩) zb2).trans c0
      have HS2 : Hid (StA _ _ _ _ _) := S2
      have HB2 : Hid (Below wr.heap.size wr W2) := b2
      clear hst b2
      go_wp2_with fail
      go_region
      rw [← hW2]
      clear hW2 c0 c1
      obtain ⟨a0, a1, a2, a3⟩ := S2.op
      obtain ⟨r0, r1, r2, r3⟩ := S2.ret
      have fr := fun i => (S2.free i).2
      simp only at a0 a1 a2 a3 r0 r1 r2 r3
      clear S2
      have zr : w.heap.size + 2 < W2.heap.size := by omega
      have zaa : w.heap.size < W2.heap.size := by omega
      have zbb : b < W2.heap.size := by omega

      go_wp2_with fail
      go_quiet (fail)
      go_wp2_with fail
      exact ⟨⟨j + 1, by omega, by go_num, HS2.out.low (below_drewN (Below.refl _ _) _) (by omega), (HR.out.below HB2.out).below (below_drewN (Below.refl _ _) _)⟩, by simp [intOf]; omega⟩
    · obtain rfl : j = ps.length := by omega
      obtain ⟨i0, hi0, hz0, hz1, hz2⟩ := info_parts pr_infoM
      have zs := hst.size
      have HS : Hid (StA _ _ _ _ _) := hst
      have HR : Hid (OwnPM _ _ _ _) := hor
      have HO : Hid ((wr.alloc (.cells #[] 93)).ownsRow wr.heap.size 93 2 (.slice (some ⟨wr.heap.size, 0, none⟩) 0 0) 0 []) := ⟨rfl, Or.inr ⟨wr.heap.size, 0, #[], rfl, Nat.le_refl _, heap_alloc_at _ _ _ rfl, Nat.le_refl _, by unfold maxLen; omega, rfl, rfl⟩⟩
      have HN : Hid (∀ a, base = some a → ∀ j u, (pairCells ps)[j]? = some u → (wr.alloc (.cells #[] 93)).cell? (a.add j) = some u) := pairs_newsM ((HA.out.below hst.below).below (below_allocM _ _))
      clear hst hor hlt hj
      go_wp2_with (first | (at_builtin; go_must (refine wpList_append_allM (by rfl) _ _ _ (by rfl) wr.heap.size 93 i0 _ 2 16 prs_underM hi0 hz0 hz1 hz2 rfl (by omega) _ 0 [] (by rfl) HO.out base ps.length c (pairCells ps) (by rfl) HNIL.out (pairCells_length _) HN.out (pairCells_oneM _) (by unfold maxLen; omega) (by omega) (by simp) ?_); intro v4 w4 hown4 hgrow4 hnl4; obtain ⟨g4, cap4, rfl, hg4, hgl4, hpa4⟩ := owned_pairsM hown4 (fun q => by cases (hnl4.1 q).1); have B4 : Below wr.heap.size wr w4 := Below.grown (below_allocM _ _) hgrow4 (by simp) (by intro k hk; simp [Value.ownBlock] at hk; omega); have S4 := HS.out.low B4 zs; have HS4 : Hid (StA _ _ _ _ _) := S4; have O4 : Hid (OwnPM w4 wr.heap.size ps (.slice (some ⟨g4, 0, none⟩) ps.length cap4)) := ⟨_, g4, cap4, rfl, fun _ => hg4, hpa4 (by unfold maxLen; omega), fun q => by cases q⟩; have R4 : Hid (OwnPM w4 (w.heap.size + 3) [] (.slice none 0 0)) := HR.out.below B4; have HB4 : Hid (Below wr.heap.size wr w4) := B4; obtain ⟨a0, a1, a2, a3⟩ := S4.op; obtain ⟨r0, r1, r2, r3⟩ := S4.ret; obtain ⟨b0, b1, b2, b3⟩ := S4.res; have fr := fun i => (S4.free i).1; have s4 := S4.size; simp only at a0 a1 a2 a3 r0 r1 r2 r3; clear hown4 hgrow4 hnl4 B4 S4 hpa4))
      have HF : Hid _ := HS4.out.fin ((getK key ps).isSome) (0) (((getK key ps).getD 0)) (.slice none 0 0)
      go_region
      obtain ⟨⟨q0, q1, q2, q3⟩, hbf, hof⟩ := HF.out
      have HBF : Hid _ := hbf
      have HOF : Hid _ := hof
      clear hbf hof
      go_wp2_with fail
      refine bodyPost_ret (v := .tuple #[.slice (some ⟨g4, 0, none⟩) ps.length cap4, .agg #[.bool ((getK key ps).isSome), .int .i64 (0), .int .i64 (((getK key ps).getD 0)), .slice none 0 0]]) (by simp [results, Tryd.results110, go_sem, q0, q1, q2, q3]) rfl ⟨_, _, rfl, HBF.out.drew, ((HOF.out _ _ _ (by omega) O4.out).below (Below.refl _ _).drew).down (by omega), ((HOF.out _ _ _ (by omega) R4.out).below (Below.refl _ _).drew).down (by omega)⟩

set_option maxRecDepth 100000 in
set_option maxHeartbeats 4000000 in
theorem step_2 (base : Option Addr) (b o c : Nat) (ps : PL) (key val hi : Int) (w : World) (h : PairsAt w base b o ps) (hnil : base = none → ps.length = 0 ∧ c = 0) (hby : (ps.length + 2) * 16 ≤ 140737488355328) (hsrt : Srt ps) :
    StepP base c ps ⟨2, key, val, hi⟩ w := by
  unfold StepP
  have ES : stepR ps ⟨2, key, val, hi⟩ = ⟨(getK key ps).isSome, 0, ((getK key ps).getD 0), []⟩ := by simp [stepR]
  have EL : stepL ps ⟨2, key, val, hi⟩ = withL ps key val false := by simp [stepL]; rw [withL_put ps key val hsrt]
  rw [ES, EL]
  clear ES EL hsrt
  have hl := h.len
  unfold maxLen at hl
  have HA : Hid _ := h
  have HNIL : Hid _ := hnil
  clear h hnil
  have LK : Hid _ := look_any base b o c ps key
  go_enter Tryd.func110, Tryd.ntmps110
  go_wp2_with fail
  refine (LK.out _ (HA.out.below ((below_allocM _ _).alloc (by simp) _))).mono ?_
  rintro e w1 ⟨rfl, rfl⟩
  go_wp2_with fail
  go_loopw [9] (fun i wr => ∃ j : Nat, j ≤ ps.length ∧ i = .int .i64 j ∧ StA wr w ⟨2, key, val, hi⟩ ⟨(getK key ps).isSome, 0, ((getK key ps).getD 0), []⟩ (.slice none 0 0) ∧ OwnPM wr (w.heap.size + 3) [] (.slice none 0 0)) (fun i _ => ps.length - (intOf i).toNat)
  case atStart => exact ⟨0, Nat.zero_le _, rfl, StA.made3 w ⟨2, key, val, hi⟩ _ _ _ _ _ _ [] _, none, 0, 0, rfl, fun q => absurd rfl q, pairs_noneM _, fun _ => rfl⟩
  case round =>
    obtain ⟨j, hj, rfl, hst, hor⟩ := hrel
    by_cases hlt : j < ps.length
    · have HR : Hid (OwnPM _ _ _ _) := hor
      clear hor
      obtain rfl : base = some ⟨b, o, none⟩ := HA.out.base (by omega)
      obtain ⟨c0, c1⟩ := (HA.out.below hst.below).cells j hlt
      have zb : b < w.heap.size := HA.out.lt (by omega)
      have zs := hst.size
      have zb2 : b < wr.heap.size := by omega
      have za2 : w.heap.size < wr.heap.size := by omega
      have j0 : (0 : Int) ≤ (j : Int) := Int.natCast_nonneg _
      have j1 : (j : Int) < (ps.length : Int) := by omega
      obtain ⟨W2, hW2⟩ : ∃ W2, W2 = (wr.alloc (.cells #[.bool true, .int .i64 (keyAt ps j), .int .i64 (valAt ps j), .slice none 0 0] 45)).drew := ⟨_, rfl⟩
      have b2 : Below wr.heap.size wr W2 := by rw [hW2]; exact (below_allocM _ _).drew
      have z2a : wr.heap.size < W2.heap.size := by rw [hW2]; simp
      have p0 : W2.cell? ⟨wr.heap.size, 0, none⟩ = some (.bool true) := by rw [hW2]; exact cell_newM wr _ _ 0
      have p1 : W2.cell? ⟨wr.heap.size, 1, none⟩ = some (.int .i64 (keyAt ps j)) := by rw [hW2]; exact cell_newM wr _ _ 1
      have p2 : W2.cell? ⟨wr.heap.size, 2, none⟩ = some (.int .i64 (valAt ps j)) := by rw [hW2]; exact cell_newM wr _ _ 2
      have p3 : W2.cell? ⟨wr.heap.size, 3, none⟩ = some (.slice none 0 0) := by rw [hW2]; exact cell_newM wr _ _ 3
      have S2 := hst.low b2 zs
      have d0 : W2.cell? ⟨b, o + j * 2, none⟩ = some (.int .i64 (keyAt ps j)) := (b2.cell (p := ⟨b, o + j * 2, none⟩) zb2).trans c0
      have HS2 : Hid (StA _ _ _ _ _) := S2
      have HB2 : Hid (Below wr.heap.size wr W2) := b2
      clear hst b2
      go_wp2_with fail
      go_region
      rw [← hW2]
      clear hW2 c0 c1
      obtain ⟨a0, a1, a2, a3⟩ := S2.op
      obtain ⟨r0, r1, r2, r3⟩ := S2.ret
      have fr := fun i => (S2.free i).2
      simp only at a0 a1 a2 a3 r0 r1 r2 r3
      clear S2
      have zr : w.heap.size + 2 < W2.heap.size := by omega
      have zaa : w.heap.size < W2.heap.size := by omega
      have zbb : b < W2.heap.size := by omega

      go_wp2_with fail
      go_quiet (fail)
      go_wp2_with fail
      exact ⟨⟨j + 1, by omega, by go_num, HS2.out.low (below_drewN (Below.refl _ _) _) (by omega), (HR.out.below HB2.out).below (below_drewN (Below.refl _ _) _)⟩, by simp [intOf]; omega⟩
    · obtain rfl : j = ps.length := by omega
      obtain ⟨i0, hi0, hz0, hz1, hz2⟩ := info_parts pr_infoM
      have zs := hst.size
      have HS : Hid (StA _ _ _ _ _) := hst
      have HR : Hid (OwnPM _ _ _ _) := hor
      have HO : Hid ((wr.alloc (.cells #[] 93)).ownsRow wr.heap.size 93 2 (.slice (some ⟨wr.heap.size, 0, none⟩) 0 0) 0 []) := ⟨rfl, Or.inr ⟨wr.heap.size, 0, #[], rfl, Nat.le_refl _, heap_alloc_at _ _ _ rfl, Nat.le_refl _, by unfold maxLen; omega, rfl, rfl⟩⟩
      have HN : Hid (∀ a, base = some a → ∀ j u, (pairCells ps)[j]? = some u → (wr.alloc (.cells #[] 93)).cell? (a.add j) = some u) := pairs_newsM ((HA.out.below hst.below).below (below_allocM _ _))
      clear hst hor hlt hj
      go_wp2_with (first | (at_builtin; go_must (refine wpList_append_allM (by rfl) _ _ _ (by rfl) wr.heap.size 93 i0 _ 2 16 prs_underM hi0 hz0 hz1 hz2 rfl (by omega) _ 0 [] (by rfl) HO.out base ps.length c (pairCells ps) (by rfl) HNIL.out (pairCells_length _) HN.out (pairCells_oneM _) (by unfold maxLen; omega) (by omega) (by simp) ?_); intro v4 w4 hown4 hgrow4 hnl4; obtain ⟨g4, cap4, rfl, hg4, hgl4, hpa4⟩ := owned_pairsM hown4 (fun q => by cases (hnl4.1 q).1); have B4 : Below wr.heap.size wr w4 := Below.grown (below_allocM _ _) hgrow4 (by simp) (by intro k hk; simp [Value.ownBlock] at hk; omega); have S4 := HS.out.low B4 zs; have HS4 : Hid (StA _ _ _ _ _) := S4; have O4 : Hid (OwnPM w4 wr.heap.size ps (.slice (some ⟨g4, 0, none⟩) ps.length cap4)) := ⟨_, g4, cap4, rfl, fun _ => hg4, hpa4 (by unfold maxLen; omega), fun q => by cases q⟩; have R4 : Hid (OwnPM w4 (w.heap.size + 3) [] (.slice none 0 0)) := HR.out.below B4; have HB4 : Hid (Below wr.heap.size wr w4) := B4; obtain ⟨a0, a1, a2, a3⟩ := S4.op; obtain ⟨r0, r1, r2, r3⟩ := S4.ret; obtain ⟨b0, b1, b2, b3⟩ := S4.res; have fr := fun i => (S4.free i).1; have s4 := S4.size; simp only at a0 a1 a2 a3 r0 r1 r2 r3; clear hown4 hgrow4 hnl4 B4 S4 hpa4))
      refine (with_any base b o c ps key val false _ ((HA.out.below HS.out.below).below HB4.out) hby).mono ?_
      rintro e w5 ⟨v5, rfl, hb5, hown5⟩
      have hwl := withL_le ps key val false
      obtain ⟨x5, k5, g5, rfl, hg5, hn5, hp5⟩ := pairs_of_owns hown5 (by unfold maxLen; omega)
      have O5 : Hid (OwnPM w5 w4.heap.size (withL ps key val false) (.slice x5 (withL ps key val false).length k5)) := ⟨x5, g5, k5, rfl, hg5, hp5, fun q => (hn5 q).2⟩
      have R5 : Hid (OwnPM w5 (w.heap.size + 3) [] (.slice none 0 0)) := R4.out.below hb5
      have S5 := HS4.out.low hb5 s4
      have HS5 : Hid (StA _ _ _ _ _) := S5
      have s5 := S5.size
      have z5 := hb5.size
      clear a0 a1 a2 a3 r0 r1 r2 r3 b0 b1 b2 b3 fr
      obtain ⟨a0, a1, a2, a3⟩ := S5.op
      obtain ⟨r0, r1, r2, r3⟩ := S5.ret
      obtain ⟨b0, b1, b2, b3⟩ := S5.res
      have fr := fun i => (S5.free i).1
      simp only at a0 a1 a2 a3 r0 r1 r2 r3
      clear S5 hb5 hown5 hp5 hg5 hn5
      go_wp2_with fail
      have HF : Hid _ := HS5.out.fin ((getK key ps).isSome) (0) (((getK key ps).getD 0)) (.slice none 0 0)
      go_region
      obtain ⟨⟨q0, q1, q2, q3⟩, hbf, hof⟩ := HF.out
      have HBF : Hid _ := hbf
      have HOF : Hid _ := hof
      clear hbf hof
      go_wp2_with fail
      refine bodyPost_ret (v := .tuple #[.slice x5 (withL ps key val false).length k5, .agg #[.bool ((getK key ps).isSome), .int .i64 (0), .int .i64 (((getK key ps).getD 0)), .slice none 0 0]]) (by simp [results, Tryd.results110, go_sem, q0, q1, q2, q3]) rfl ⟨_, _, rfl, HBF.out.drew, ((HOF.out _ _ _ (by omega) O5.out).below (Below.refl _ _).drew).down (by omega), ((HOF.out _ _ _ (by omega) R5.out).below (Below.refl _ _).drew).down (by omega)⟩
end Go.Proofs.YtcphajjonecmbaaDoor

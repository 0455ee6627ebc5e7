
/- Layer 6: the reference's Step, kind by kind. -/

import Derived.Test.YtcphajjonecmbaaDoorMS1

namespace Go.Proofs.YtcphajjonecmbaaDoor

open Go.RowKit

/-- What Step answers. -/
def StepP (base : Option Addr) (c : Nat) (ps : PL) (o : OpD) (w : World) : Prop :=
  Calls Tryd.prog 110 #[.slice base ps.length c, .agg #[.int .i64 o.kind, .int .i64 o.key, .int .i64 o.val, .int .i64 o.hi]] w fun e w' => ∃ v1 v2, e = .returned (.tuple #[v1, .agg #[.bool (stepR ps o).ok, .int .i64 (stepR ps o).key, .int .i64 (stepR ps o).val, v2]]) ∧ Below w.heap.size w w' ∧ OwnPM w' w.heap.size (stepL ps o) v1 ∧ OwnPM w' w.heap.size (stepR ps o).pairs v2

set_option maxRecDepth 100000 in
set_option maxHeartbeats 4000000 in
theorem step_5 (base : Option Addr) (b o c : Nat) (ps : PL) (key val hi : Int) (w : World) (h : PairsAt w base b o ps) (hnil : base = none → ps.length = 0 ∧ c = 0) (hby : (ps.length + 2) * 16 ≤ 140737488355328) :
    StepP base c ps ⟨5, key, val, hi⟩ w := by
  unfold StepP
  have ES : stepR ps ⟨5, key, val, hi⟩ = tellR (nbN ps 5 key ps.length) := by simp [stepR]
  have EL : stepL ps ⟨5, key, val, hi⟩ = ps := by simp [stepL]
  rw [ES, EL]
  clear ES EL
  have hl := h.len
  unfold maxLen at hl
  have HA : Hid _ := h
  have HNIL : Hid _ := hnil
  clear h hnil
  have LK : Hid _ := look_any base b o c ps key
  go_enter Tryd.func110, Tryd.ntmps110
  go_wp2_with fail
  refine (LK.out _ (HA.out.below ((below_allocM _ _).alloc (by simp) _))).mono ?_
  rintro e w1 ⟨rfl, rfl⟩
  go_wp2_with fail
  go_loopw [9] (fun i wr => ∃ j : Nat, j ≤ ps.length ∧ i = .int .i64 j ∧ StA wr w ⟨5, key, val, hi⟩ (tellR (nbN ps 5 key j)) (.slice none 0 0)) (fun i _ => ps.length - (intOf i).toNat)
  case atStart => exact ⟨0, Nat.zero_le _, rfl, StA.made w ⟨5, key, val, hi⟩ _ _ _⟩
  case round =>
    obtain ⟨j, hj, rfl, hst⟩ := hrel
    by_cases hlt : j < ps.length
    · obtain rfl : base = some ⟨b, o, none⟩ := HA.out.base (by omega)
      obtain ⟨c0, c1⟩ := (HA.out.below hst.below).cells j hlt
      have zb : b < w.heap.size := HA.out.lt (by omega)
      have zs := hst.size
      have zb2 : b < wr.heap.size := by omega
      have za2 : w.heap.size < wr.heap.size := by omega
      have j0 : (0 : Int) ≤ (j : Int) := Int.natCast_nonneg _
      have j1 : (j : Int) < (ps.length : Int) := by omega
      obtain ⟨W2, hW2⟩ : ∃ W2, W2 = (wr.alloc (.cells #[.bool true, .int .i64 (keyAt ps j), .int .i64 (valAt ps j), .slice none 0 0] 45)).drew := ⟨_, rfl⟩
      have b2 : Below wr.heap.size wr W2 := by rw [hW2]; exact (below_allocM _ _).drew
      have z2a : wr.heap.size < W2.heap.size := by rw [hW2]; simp
      have p0 : W2.cell? ⟨wr.heap.size, 0, none⟩ = some (.bool true) := by rw [hW2]; exact cell_newM wr _ _ 0
      have p1 : W2.cell? ⟨wr.heap.size, 1, none⟩ = some (.int .i64 (keyAt ps j)) := by rw [hW2]; exact cell_newM wr _ _ 1
      have p2 : W2.cell? ⟨wr.heap.size, 2, none⟩ = some (.int .i64 (valAt ps j)) := by rw [hW2]; exact cell_newM wr _ _ 2
      have p3 : W2.cell? ⟨wr.heap.size, 3, none⟩ = some (.slice none 0 0) := by rw [hW2]; exact cell_newM wr _ _ 3
      have S2 := hst.low b2 zs
      have d0 : W2.cell? ⟨b, o + j * 2, none⟩ = some (.int .i64 (keyAt ps j)) := (b2.cell (p := ⟨b, o + j * 2, none⟩) zb2).trans c0
      have HS2 : Hid (StA _ _ _ _ _) := S2
      have HB2 : Hid (Below wr.heap.size wr W2) := b2
      clear hst b2
      go_wp2_with fail
      go_region
      rw [← hW2]
      clear hW2 c0 c1
      obtain ⟨a0, a1, a2, a3⟩ := S2.op
      obtain ⟨r0, r1, r2, r3⟩ := S2.ret
      have fr := fun i => (S2.free i).2
      simp only at a0 a1 a2 a3 r0 r1 r2 r3
      clear S2
      have zr : w.heap.size + 2 < W2.heap.size := by omega
      have zaa : w.heap.size < W2.heap.size := by omega
      have zbb : b < W2.heap.size := by omega
      cases hnb : nbN ps 5 key j with
      | none =>
        rw [hnb] at r0 HS2
        by_cases hq : key < keyAt ps j
        · have hd : decide (key < keyAt ps j) = true := decide_eq_true hq
          simp only [tellR, RetD.zero] at r0
          have NX : Hid (nbN ps 5 key (j + 1) = some (keyAt ps j, valAt ps j)) := by show nbN ps 5 key (j + 1) = _; simp only [nbN]; rw [if_pos (by simp [hnb, hq])]
          go_wp2_with fail
          go_quiet (fail)
          have F := (HS2.out.low (below_drewN (Below.refl _ _) nq) (by omega)).store true (keyAt ps j) (valAt ps j) [] (.slice none 0 0)
          have HF : Hid (StA _ _ _ _ _) := F
          clear F
          go_wp2_with fail
          refine ⟨⟨j + 1, by omega, by go_num, ?_⟩, by simp [intOf]; omega⟩
          rw [NX.out]
          exact HF.out
        · have hd : decide (key < keyAt ps j) = false := decide_eq_false hq
          rw [← hnb] at HS2
          simp only [tellR, RetD.zero] at r0
          have NX : Hid (nbN ps 5 key (j + 1) = nbN ps 5 key j) := by show nbN ps 5 key (j + 1) = _; simp only [nbN]; rw [if_neg (by simp [hq])]
          go_wp2_with fail
          go_quiet (fail)
          go_wp2_with fail
          refine ⟨⟨j + 1, by omega, by go_num, ?_⟩, by simp [intOf]; omega⟩
          rw [NX.out]
          exact HS2.out.low (below_drewN (Below.refl _ _) _) (by omega)
      | some p =>
        rw [hnb] at r0
        simp only [tellR] at r0
        have NX : Hid (nbN ps 5 key (j + 1) = nbN ps 5 key j) := by show nbN ps 5 key (j + 1) = _; simp only [nbN]; rw [if_neg (by simp [hnb])]
        go_wp2_with fail
        go_quiet (fail)
        go_wp2_with fail
        refine ⟨⟨j + 1, by omega, by go_num, ?_⟩, by simp [intOf]; omega⟩
        rw [NX.out]
        exact HS2.out.low (below_drewN (Below.refl _ _) _) (by omega)
    · obtain rfl : j = ps.length := by omega
      obtain ⟨i0, hi0, hz0, hz1, hz2⟩ := info_parts pr_infoM
      have zs := hst.size
      have HS : Hid (StA _ _ _ _ _) := hst
      have HO : Hid ((wr.alloc (.cells #[] 93)).ownsRow wr.heap.size 93 2 (.slice (some ⟨wr.heap.size, 0, none⟩) 0 0) 0 []) := ⟨rfl, Or.inr ⟨wr.heap.size, 0, #[], rfl, Nat.le_refl _, heap_alloc_at _ _ _ rfl, Nat.le_refl _, by unfold maxLen; omega, rfl, rfl⟩⟩
      have HN : Hid (∀ a, base = some a → ∀ j u, (pairCells ps)[j]? = some u → (wr.alloc (.cells #[] 93)).cell? (a.add j) = some u) := pairs_newsM ((HA.out.below hst.below).below (below_allocM _ _))
      clear hst hlt hj
      go_wp2_with (first | (at_builtin; go_must (refine wpList_append_allM (by rfl) _ _ _ (by rfl) wr.heap.size 93 i0 _ 2 16 prs_underM hi0 hz0 hz1 hz2 rfl (by omega) _ 0 [] (by rfl) HO.out base ps.length c (pairCells ps) (by rfl) HNIL.out (pairCells_length _) HN.out (pairCells_oneM _) (by unfold maxLen; omega) (by omega) (by simp) ?_); intro v4 w4 hown4 hgrow4 hnl4; obtain ⟨g4, cap4, rfl, hg4, hgl4, hpa4⟩ := owned_pairsM hown4 (fun q => by cases (hnl4.1 q).1); have B4 : Below wr.heap.size wr w4 := Below.grown (below_allocM _ _) hgrow4 (by simp) (by intro k hk; simp [Value.ownBlock] at hk; omega); have S4 := HS.out.low B4 zs; have HS4 : Hid (StA _ _ _ _ _) := S4; have O4 : Hid (OwnPM w4 wr.heap.size ps (.slice (some ⟨g4, 0, none⟩) ps.length cap4)) := ⟨_, g4, cap4, rfl, fun _ => hg4, hpa4 (by unfold maxLen; omega), fun q => by cases q⟩; obtain ⟨a0, a1, a2, a3⟩ := S4.op; obtain ⟨r0, r1, r2, r3⟩ := S4.ret; obtain ⟨b0, b1, b2, b3⟩ := S4.res; have fr := fun i => (S4.free i).1; have s4 := S4.size; simp only at a0 a1 a2 a3; clear hown4 hgrow4 hnl4 B4 S4 hpa4))
      have F := HS4.out.fin (tellR (nbN ps 5 key ps.length)).ok (tellR (nbN ps 5 key ps.length)).key (tellR (nbN ps 5 key ps.length)).val (.slice none 0 0)
      have HF : Hid _ := F
      clear F
      go_region
      obtain ⟨⟨q0, q1, q2, q3⟩, hbf, hof⟩ := HF.out
      have HBF : Hid _ := hbf
      have HOF : Hid _ := hof
      clear hbf hof
      have EP : (tellR (nbN ps 5 key ps.length)).pairs = [] := by cases nbN ps 5 key ps.length <;> rfl
      have HEP : Hid _ := EP
      clear EP
      go_wp2_with fail
      refine bodyPost_ret (v := .tuple #[.slice (some ⟨g4, 0, none⟩) ps.length cap4, .agg #[.bool (tellR (nbN ps 5 key ps.length)).ok, .int .i64 (tellR (nbN ps 5 key ps.length)).key, .int .i64 (tellR (nbN ps 5 key ps.length)).val, .slice none 0 0]]) (by simp [results, Tryd.results110, go_sem, q0, q1, q2, q3]) rfl ⟨_, _, rfl, HBF.out.drew, ((HOF.out _ _ _ (by omega) O4.out).below (Below.refl _ _).drew).down (by omega), by rw [HEP.out]; exact ⟨none, 0, 0, rfl, fun q => absurd rfl q, pairs_noneM _, fun _ => rfl⟩⟩

set_option maxRecDepth 100000 in
set_option maxHeartbeats 4000000 in
theorem step_6 (base : Option Addr) (b o c : Nat) (ps : PL) (key val hi : Int) (w : World) (h : PairsAt w base b o ps) (hnil : base = none → ps.length = 0 ∧ c = 0) (hby : (ps.length + 2) * 16 ≤ 140737488355328) :
    StepP base c ps ⟨6, key, val, hi⟩ w := by
  unfold StepP
  have ES : stepR ps ⟨6, key, val, hi⟩ = tellR (nbN ps 6 key ps.length) := by simp [stepR]
  have EL : stepL ps ⟨6, key, val, hi⟩ = ps := by simp [stepL]
  rw [ES, EL]
  clear ES EL
  have hl := h.len
  unfold maxLen at hl
  have HA : Hid _ := h
  have HNIL : Hid _ := hnil
  clear h hnil
  have LK : Hid _ := look_any base b o c ps key
  go_enter Tryd.func110, Tryd.ntmps110
  go_wp2_with fail
  refine (LK.out _ (HA.out.below ((below_allocM _ _).alloc (by simp) _))).mono ?_
  rintro e w1 ⟨rfl, rfl⟩
  go_wp2_with fail
  go_loopw [9] (fun i wr => ∃ j : Nat, j ≤ ps.length ∧ i = .int .i64 j ∧ StA wr w ⟨6, key, val, hi⟩ (tellR (nbN ps 6 key j)) (.slice none 0 0)) (fun i _ => ps.length - (intOf i).toNat)
  case atStart => exact ⟨0, Nat.zero_le _, rfl, StA.made w ⟨6, key, val, hi⟩ _ _ _⟩
  case round =>
    obtain ⟨j, hj, rfl, hst⟩ := hrel
    by_cases hlt : j < ps.length
    · obtain rfl : base = some ⟨b, o, none⟩ := HA.out.base (by omega)
      obtain ⟨c0, c1⟩ := (HA.out.below hst.below).cells j hlt
      have zb : b < w.heap.size := HA.out.lt (by omega)
      have zs := hst.size
      have zb2 : b < wr.heap.size := by omega
      have za2 : w.heap.size < wr.heap.size := by omega
      have j0 : (0 : Int) ≤ (j : Int) := Int.natCast_nonneg _
      have j1 : (j : Int) < (ps.length : Int) := by omega
      obtain ⟨W2, hW2⟩ : ∃ W2, W2 = (wr.alloc (.cells #[.bool true, .int .i64 (keyAt ps j), .int .i64 (valAt ps j), .slice none 0 0] 45)).drew := ⟨_, rfl⟩
      have b2 : Below wr.heap.size wr W2 := by rw [hW2]; exact (below_allocM _ _).drew
      have z2a : wr.heap.size < W2.heap.size := by rw [hW2]; simp
      have p0 : W2.cell? ⟨wr.heap.size, 0, none⟩ = some (.bool true) := by rw [hW2]; exact cell_newM wr _ _ 0
      have p1 : W2.cell? ⟨wr.heap.size, 1, none⟩ = some (.int .i64 (keyAt ps j)) := by rw [hW2]; exact cell_newM wr _ _ 1
      have p2 : W2.cell? ⟨wr.heap.size, 2, none⟩ = some (.int .i64 (valAt ps j)) := by rw [hW2]; exact cell_newM wr _ _ 2
      have p3 : W2.cell? ⟨wr.heap.size, 3, none⟩ = some (.slice none 0 0) := by rw [hW2]; exact cell_newM wr _ _ 3
      have S2 := hst.low b2 zs
      have d0 : W2.cell? ⟨b, o + j * 2, none⟩ = some (.int .i64 (keyAt ps j)) := (b2.cell (p := ⟨b, o + j * 2, none⟩) zb2).trans c0
      have HS2 : Hid (StA _ _ _ _ _) := S2
      have HB2 : Hid (Below wr.heap.size wr W2) := b2
      clear hst b2
      go_wp2_with fail
      go_region
      rw [← hW2]
      clear hW2 c0 c1
      obtain ⟨a0, a1, a2, a3⟩ := S2.op
      obtain ⟨r0, r1, r2, r3⟩ := S2.ret
      have fr := fun i => (S2.free i).2
      simp only at a0 a1 a2 a3 r0 r1 r2 r3
      clear S2
      have zr : w.heap.size + 2 < W2.heap.size := by omega
      have zaa : w.heap.size < W2.heap.size := by omega
      have zbb : b < W2.heap.size := by omega
      by_cases hq : keyAt ps j < key
      · have hd : decide (keyAt ps j < key) = true := decide_eq_true hq
        have NX : Hid (nbN ps 6 key (j + 1) = some (keyAt ps j, valAt ps j)) := by show nbN ps 6 key (j + 1) = _; simp only [nbN]; rw [if_pos (by simp [hq])]
        go_wp2_with fail
        go_quiet (fail)
        have F := (HS2.out.low (below_drewN (Below.refl _ _) nq) (by omega)).store true (keyAt ps j) (valAt ps j) [] (.slice none 0 0)
        have HF : Hid (StA _ _ _ _ _) := F
        clear F
        go_wp2_with fail
        refine ⟨⟨j + 1, by omega, by go_num, ?_⟩, by simp [intOf]; omega⟩
        rw [NX.out]
        exact HF.out
      · have hd : decide (keyAt ps j < key) = false := decide_eq_false hq
        have NX : Hid (nbN ps 6 key (j + 1) = nbN ps 6 key j) := by show nbN ps 6 key (j + 1) = _; simp only [nbN]; rw [if_neg (by simp [hq])]
        go_wp2_with fail
        go_quiet (fail)
        go_wp2_with fail
        refine ⟨⟨j + 1, by omega, by go_num, ?_⟩, by simp [intOf]; omega⟩
        rw [NX.out]
        exact HS2.out.low (below_drewN (Below.refl _ _) _) (by omega)
    · obtain rfl : j = ps.length := by omega
      obtain ⟨i0, hi0, hz0, hz1, hz2⟩ := info_parts pr_infoM
      have zs := hst.size
      have HS : Hid (StA _ _ _ _ _) := hst
      have HO : Hid ((wr.alloc (.cells #[] 93)).ownsRow wr.heap.size 93 2 (.slice (some ⟨wr.heap.size, 0, none⟩) 0 0) 0 []) := ⟨rfl, Or.inr ⟨wr.heap.size, 0, #[], rfl, Nat.le_refl _, heap_alloc_at _ _ _ rfl, Nat.le_refl _, by unfold maxLen; omega, rfl, rfl⟩⟩
      have HN : Hid (∀ a, base = some a → ∀ j u, (pairCells ps)[j]? = some u → (wr.alloc (.cells #[] 93)).cell? (a.add j) = some u) := pairs_newsM ((HA.out.below hst.below).below (below_allocM _ _))
      clear hst hlt hj
      go_wp2_with (first | (at_builtin; go_must (refine wpList_append_allM (by rfl) _ _ _ (by rfl) wr.heap.size 93 i0 _ 2 16 prs_underM hi0 hz0 hz1 hz2 rfl (by omega) _ 0 [] (by rfl) HO.out base ps.length c (pairCells ps) (by rfl) HNIL.out (pairCells_length _) HN.out (pairCells_oneM _) (by unfold maxLen; omega) (by omega) (by simp) ?_); intro v4 w4 hown4 hgrow4 hnl4; obtain ⟨g4, cap4, rfl, hg4, hgl4, hpa4⟩ := owned_pairsM hown4 (fun q => by cases (hnl4.1 q).1); have B4 : Below wr.heap.size wr w4 := Below.grown (below_allocM _ _) hgrow4 (by simp) (by intro k hk; simp [Value.ownBlock] at hk; omega); have S4 := HS.out.low B4 zs; have HS4 : Hid (StA _ _ _ _ _) := S4; have O4 : Hid (OwnPM w4 wr.heap.size ps (.slice (some ⟨g4, 0, none⟩) ps.length cap4)) := ⟨_, g4, cap4, rfl, fun _ => hg4, hpa4 (by unfold maxLen; omega), fun q => by cases q⟩; obtain ⟨a0, a1, a2, a3⟩ := S4.op; obtain ⟨r0, r1, r2, r3⟩ := S4.ret; obtain ⟨b0, b1, b2, b3⟩ := S4.res; have fr := fun i => (S4.free i).1; have s4 := S4.size; simp only at a0 a1 a2 a3; clear hown4 hgrow4 hnl4 B4 S4 hpa4))
      have F := HS4.out.fin (tellR (nbN ps 6 key ps.length)).ok (tellR (nbN ps 6 key ps.length)).key (tellR (nbN ps 6 key ps.length)).val (.slice none 0 0)
      have HF : Hid _ := F
      clear F
      go_region
      obtain ⟨⟨q0, q1, q2, q3⟩, hbf, hof⟩ := HF.out
      have HBF : Hid _ := hbf
      have HOF : Hid _ := hof
      clear hbf hof
      have EP : (tellR (nbN ps 6 key ps.length)).pairs = [] := by cases nbN ps 6 key ps.length <;> rfl
      have HEP : Hid _ := EP
      clear EP
      go_wp2_with fail
      refine bodyPost_ret (v := .tuple #[.slice (some ⟨g4, 0, none⟩) ps.length cap4, .agg #[.bool (tellR (nbN ps 6 key ps.length)).ok, .int .i64 (tellR (nbN ps 6 key ps.length)).key, .int .i64 (tellR (nbN ps 6 key ps.length)).val, .slice none 0 0]]) (by simp [results, Tryd.results110, go_sem, q0, q1, q2, q3]) rfl ⟨_, _, rfl, HBF.out.drew, ((HOF.out _ _ _ (by omega) O4.out).below (Below.refl _ _).drew).down (by omega), by rw [HEP.out]; exact ⟨none, 0, 0, rfl, fun q => absurd rfl q, pairs_noneM _, fun _ => rfl⟩⟩

set_option maxRecDepth 100000 in
set_option maxHeartbeats 4000000 in
theorem step_7 (base : Option Addr) (b o c : Nat) (ps : PL) (key val hi : Int) (w : World) (h : PairsAt w base b o ps) (hnil : base = none → ps.length = 0 ∧ c = 0) (hby : (ps.length + 2) * 16 ≤ 140737488355328) :
    StepP base c ps ⟨7, key, val, hi⟩ w := by
  unfold StepP
  have ES : stepR ps ⟨7, key, val, hi⟩ = tellR (nbN ps 7 key ps.length) := by simp [stepR]
  have EL : stepL ps ⟨7, key, val, hi⟩ = ps := by simp [stepL]
  rw [ES, EL]
  clear ES EL
  have hl := h.len
  unfold maxLen at hl
  have HA : Hid _ := h
  have HNIL : Hid _ := hnil
  clear h hnil
  have LK : Hid _ := look_any base b o c ps key
  go_enter Tryd.func110, Tryd.ntmps110
  go_wp2_with fail
  refine (LK.out _ (HA.out.below ((below_allocM _ _).alloc (by simp) _))).mono ?_
  rintro e w1 ⟨rfl, rfl⟩
  go_wp2_with fail
  go_loopw [9] (fun i wr => ∃ j : Nat, j ≤ ps.length ∧ i = .int .i64 j ∧ StA wr w ⟨7, key, val, hi⟩ (tellR (nbN ps 7 key j)) (.slice none 0 0)) (fun i _ => ps.length - (intOf i).toNat)
  case atStart => exact ⟨0, Nat.zero_le _, rfl, StA.made w ⟨7, key, val, hi⟩ _ _ _⟩
  case round =>
    obtain ⟨j, hj, rfl, hst⟩ := hrel
    by_cases hlt : j < ps.length
    · obtain rfl : base = some ⟨b, o, none⟩ := HA.out.base (by omega)
      obtain ⟨c0, c1⟩ := (HA.out.below hst.below).cells j hlt
      have zb : b < w.heap.size := HA.out.lt (by omega)
      have zs := hst.size
      have zb2 : b < wr.heap.size := by omega
      have za2 : w.heap.size < wr.heap.size := by omega
      have j0 : (0 : Int) ≤ (j : Int) := Int.natCast_nonneg _
      have j1 : (j : Int) < (ps.length : Int) := by omega
      obtain ⟨W2, hW2⟩ : ∃ W2, W2 = (wr.alloc (.cells #[.bool true, .int .i64 (keyAt ps j), .int .i64 (valAt ps j), .slice none 0 0] 45)).drew := ⟨_, rfl⟩
      have b2 : Below wr.heap.size wr W2 := by rw [hW2]; exact (below_allocM _ _).drew
      have z2a : wr.heap.size < W2.heap.size := by rw [hW2]; simp
      have p0 : W2.cell? ⟨wr.heap.size, 0, none⟩ = some (.bool true) := by rw [hW2]; exact cell_newM wr _ _ 0
      have p1 : W2.cell? ⟨wr.heap.size, 1, none⟩ = some (.int .i64 (keyAt ps j)) := by rw [hW2]; exact cell_newM wr _ _ 1
      have p2 : W2.cell? ⟨wr.heap.size, 2, none⟩ = some (.int .i64 (valAt ps j)) := by rw [hW2]; exact cell_newM wr _ _ 2
      have p3 : W2.cell? ⟨wr.heap.size, 3, none⟩ = some (.slice none 0 0) := by rw [hW2]; exact cell_newM wr _ _ 3
      have S2 := hst.low b2 zs
      have d0 : W2.cell? ⟨b, o + j * 2, none⟩ = some (.int .i64 (keyAt ps j)) := (b2.cell (p := ⟨b, o + j * 2, none⟩) zb2).trans c0
      have HS2 : Hid (StA _ _ _ _ _) := S2
      have HB2 : Hid (Below wr.heap.size wr W2) := b2
      clear hst b2
      go_wp2_with fail
      go_region
      rw [← hW2]
      clear hW2 c0 c1
      obtain ⟨a0, a1, a2, a3⟩ := S2.op
      obtain ⟨r0, r1, r2, r3⟩ := S2.ret
      have fr := fun i => (S2.free i).2
      simp only at a0 a1 a2 a3 r0 r1 r2 r3
      clear S2
      have zr : w.heap.size + 2 < W2.heap.size := by omega
      have zaa : w.heap.size < W2.heap.size := by omega
      have zbb : b < W2.heap.size := by omega
      cases hnb : nbN ps 7 key j with
      | none =>
        rw [hnb] at r0 HS2
        simp only [tellR, RetD.zero] at r0
        have NX : Hid (nbN ps 7 key (j + 1) = some (keyAt ps j, valAt ps j)) := by show nbN ps 7 key (j + 1) = _; simp only [nbN]; rw [if_pos (by simp [hnb])]
        go_wp2_with fail
        go_quiet (fail)
        have F := (HS2.out.low (below_drewN (Below.refl _ _) nq) (by omega)).store true (keyAt ps j) (valAt ps j) [] (.slice none 0 0)
        have HF : Hid (StA _ _ _ _ _) := F
        clear F
        go_wp2_with fail
        refine ⟨⟨j + 1, by omega, by go_num, ?_⟩, by simp [intOf]; omega⟩
        rw [NX.out]
        exact HF.out
      | some p =>
        rw [hnb] at r0
        have HNB : Hid _ := hnb
        simp only [tellR] at r0
        have NX : Hid (nbN ps 7 key (j + 1) = nbN ps 7 key j) := by show nbN ps 7 key (j + 1) = _; simp only [nbN]; rw [if_neg (by simp [hnb])]
        go_wp2_with fail
        go_quiet (fail)
        go_wp2_with fail
        refine ⟨⟨j + 1, by omega, by go_num, ?_⟩, by simp [intOf]; omega⟩
        rw [NX.out]
        exact HS2.out.low (below_drewN (Below.refl _ _) _) (by omega)
    · obtain rfl : j = ps.length := by omega
      obtain ⟨i0, hi0, hz0, hz1, hz2⟩ := info_parts pr_infoM
      have zs := hst.size
      have HS : Hid (StA _ _ _ _ _) := hst
      have HO : Hid ((wr.alloc (.cells #[] 93)).ownsRow wr.heap.size 93 2 (.slice (some ⟨wr.heap.size, 0, none⟩) 0 0) 0 []) := ⟨rfl, Or.inr ⟨wr.heap.size, 0, #[], rfl, Nat.le_refl _, heap_alloc_at _ _ _ rfl, Nat.le_refl _, by unfold maxLen; omega, rfl, rfl⟩⟩
      have HN : Hid (∀ a, base = some a → ∀ j u, (pairCells ps)[j]? = some u → (wr.alloc (.cells #[] 93)).cell? (a.add j) = some u) := pairs_newsM ((HA.out.below hst.below).below (below_allocM _ _))
      clear hst hlt hj
      go_wp2_with (first | (at_builtin; go_must (refine wpList_append_allM (by rfl) _ _ _ (by rfl) wr.heap.size 93 i0 _ 2 16 prs_underM hi0 hz0 hz1 hz2 rfl (by omega) _ 0 [] (by rfl) HO.out base ps.length c (pairCells ps) (by rfl) HNIL.out (pairCells_length _) HN.out (pairCells_oneM _) (by unfold maxLen; omega) (by omega) (by simp) ?_); intro v4 w4 hown4 hgrow4 hnl4; obtain ⟨g4, cap4, rfl, hg4, hgl4, hpa4⟩ := owned_pairsM hown4 (fun q => by cases (hnl4.1 q).1); have B4 : Below wr.heap.size wr w4 := Below.grown (below_allocM _ _) hgrow4 (by simp) (by intro k hk; simp [Value.ownBlock] at hk; omega); have S4 := HS.out.low B4 zs; have HS4 : Hid (StA _ _ _ _ _) := S4; have O4 : Hid (OwnPM w4 wr.heap.size ps (.slice (some ⟨g4, 0, none⟩) ps.length cap4)) := ⟨_, g4, cap4, rfl, fun _ => hg4, hpa4 (by unfold maxLen; omega), fun q => by cases q⟩; obtain ⟨a0, a1, a2, a3⟩ := S4.op; obtain ⟨r0, r1, r2, r3⟩ := S4.ret; obtain ⟨b0, b1, b2, b3⟩ := S4.res; have fr := fun i => (S4.free i).1; have s4 := S4.size; simp only at a0 a1 a2 a3; clear hown4 hgrow4 hnl4 B4 S4 hpa4))
      have F := HS4.out.fin (tellR (nbN ps 7 key ps.length)).ok (tellR (nbN ps 7 key ps.length)).key (tellR (nbN ps 7 key ps.length)).val (.slice none 0 0)
      have HF : Hid _ := F
      clear F
      go_region
      obtain ⟨⟨q0, q1, q2, q3⟩, hbf, hof⟩ := HF.out
      have HBF : Hid _ := hbf
      have HOF : Hid _ := hof
      clear hbf hof
      have EP : (tellR (nbN ps 7 key ps.length)).pairs = [] := by cases nbN ps 7 key ps.length <;> rfl
      have HEP : Hid _ := EP
      clear EP
      go_wp2_with fail
      refine bodyPost_ret (v := .tuple #[.slice (some ⟨g4, 0, none⟩) ps.length cap4, .agg #[.bool (tellR (nbN ps 7 key ps.length)).ok, .int .i64 (tellR (nbN ps 7 key ps.length)).key, .int .i64 (tellR (nbN ps 7 key ps.length)).val, .slice none 0 0]]) (by simp [results, Tryd.results110, go_sem, q0, q1, q2, q3]) rfl ⟨_, _, rfl, HBF.out.drew, ((HOF.out _ _ _ (by omega) O4.out).below (Below.refl _ _).drew).down (by omega), by rw [HEP.out]; exact ⟨none, 0, 0, rfl, fun q => absurd rfl q, pairs_noneM _, fun _ => rfl⟩⟩

set_option maxRecDepth 100000 in
set_option maxHeartbeats 4000000 in
theorem step_8 (base : Option Addr) (b o c : Nat) (ps : PL) (key val hi : Int) (w : World) (h : PairsAt w base b o ps) (hnil : base = none → ps.length = 0 ∧ c = 0) (hby : (ps.length + 2) * 16 ≤ 140737488355328) :
    StepP base c ps ⟨8, key, val, hi⟩ w := by
  unfold StepP
  have ES : stepR ps ⟨8, key, val, hi⟩ = tellR (nbN ps 8 key ps.length) := by simp [stepR]
  have EL : stepL ps ⟨8, key, val, hi⟩ = ps := by simp [stepL]
  rw [ES, EL]
  clear ES EL
  have hl := h.len
  unfold maxLen at hl
  have HA : Hid _ := h
  have HNIL : Hid _ := hnil
  clear h hnil
  have LK : Hid _ := look_any base b o c ps key
  go_enter Tryd.func110, Tryd.ntmps110
  go_wp2_with fail
  refine (LK.out _ (HA.out.below ((below_allocM _ _).alloc (by simp) _))).mono ?_
  rintro e w1 ⟨rfl, rfl⟩
  go_wp2_with fail
  go_loopw [9] (fun i wr => ∃ j : Nat, j ≤ ps.length ∧ i = .int .i64 j ∧ StA wr w ⟨8, key, val, hi⟩ (tellR (nbN ps 8 key j)) (.slice none 0 0)) (fun i _ => ps.length - (intOf i).toNat)
  case atStart => exact ⟨0, Nat.zero_le _, rfl, StA.made w ⟨8, key, val, hi⟩ _ _ _⟩
  case round =>
    obtain ⟨j, hj, rfl, hst⟩ := hrel
    by_cases hlt : j < ps.length
    · obtain rfl : base = some ⟨b, o, none⟩ := HA.out.base (by omega)
      obtain ⟨c0, c1⟩ := (HA.out.below hst.below).cells j hlt
      have zb : b < w.heap.size := HA.out.lt (by omega)
      have zs := hst.size
      have zb2 : b < wr.heap.size := by omega
      have za2 : w.heap.size < wr.heap.size := by omega
      have j0 : (0 : Int) ≤ (j : Int) := Int.natCast_nonneg _
      have j1 : (j : Int) < (ps.length : Int) := by omega
      obtain ⟨W2, hW2⟩ : ∃ W2, W2 = (wr.alloc (.cells #[.bool true, .int .i64 (keyAt ps j), .int .i64 (valAt ps j), .slice none 0 0] 45)).drew := ⟨_, rfl⟩
      have b2 : Below wr.heap.size wr W2 := by rw [hW2]; exact (below_allocM _ _).drew
      have z2a : wr.heap.size < W2.heap.size := by rw [hW2]; simp
      have p0 : W2.cell? ⟨wr.heap.size, 0, none⟩ = some (.bool true) := by rw [hW2]; exact cell_newM wr _ _ 0
      have p1 : W2.cell? ⟨wr.heap.size, 1, none⟩ = some (.int .i64 (keyAt ps j)) := by rw [hW2]; exact cell_newM wr _ _ 1
      have p2 : W2.cell? ⟨wr.heap.size, 2, none⟩ = some (.int .i64 (valAt ps j)) := by rw [hW2]; exact cell_newM wr _ _ 2
      have p3 : W2.cell? ⟨wr.heap.size, 3, none⟩ = some (.slice none 0 0) := by rw [hW2]; exact cell_newM wr _ _ 3
      have S2 := hst.low b2 zs
      have d0 : W2.cell? ⟨b, o + j * 2, none⟩ = some (.int .i64 (keyAt ps j)) := (b2.cell (p := ⟨b, o + j * 2, none⟩) zb2).trans c0
      have HS2 : Hid (StA _ _ _ _ _) := S2
      have HB2 : Hid (Below wr.heap.size wr W2) := b2
      clear hst b2
      go_wp2_with fail
      go_region
      rw [← hW2]
      clear hW2 c0 c1
      obtain ⟨a0, a1, a2, a3⟩ := S2.op
      obtain ⟨r0, r1, r2, r3⟩ := S2.ret
      have fr := fun i => (S2.free i).2
      simp only at a0 a1 a2 a3 r0 r1 r2 r3
      clear S2
      have zr : w.heap.size + 2 < W2.heap.size := by omega
      have zaa : w.heap.size < W2.heap.size := by omega
      have zbb : b < W2.heap.size := by omega
      have NX : Hid (nbN ps 8 key (j + 1) = some (keyAt ps j, valAt ps j)) := by show nbN ps 8 key (j + 1) = _; simp only [nbN]; rw [if_pos (by simp)]
      go_wp2_with fail
      go_quiet (fail)
      have F := (HS2.out.low (below_drewN (Below.refl _ _) nq) (by omega)).store true (keyAt ps j) (valAt ps j) [] (.slice none 0 0)
      have HF : Hid (StA _ _ _ _ _) := F
      clear F
      go_wp2_with fail
      refine ⟨⟨j + 1, by omega, by go_num, ?_⟩, by simp [intOf]; omega⟩
      rw [NX.out]
      exact HF.out
    · obtain rfl : j = ps.length := by omega
      obtain ⟨i0, hi0, hz0, hz1, hz2⟩ := info_parts pr_infoM
      have zs := hst.size
      have HS : Hid (StA _ _ _ _ _) := hst
      have HO : Hid ((wr.alloc (.cells #[] 93)).ownsRow wr.heap.size 93 2 (.slice (some ⟨wr.heap.size, 0, none⟩) 0 0) 0 []) := ⟨rfl, Or.inr ⟨wr.heap.size, 0, #[], rfl, Nat.le_refl _, heap_alloc_at _ _ _ rfl, Nat.le_refl _, by unfold maxLen; omega, rfl, rfl⟩⟩
      have HN : Hid (∀ a, base = some a → ∀ j u, (pairCells ps)[j]? = some u → (wr.alloc (.cells #[] 93)).cell? (a.add j) = some u) := pairs_newsM ((HA.out.below hst.below).below (below_allocM _ _))
      clear hst hlt hj
      go_wp2_with (first | (at_builtin; go_must (refine wpList_append_allM (by rfl) _ _ _ (by rfl) wr.heap.size 93 i0 _ 2 16 prs_underM hi0 hz0 hz1 hz2 rfl (by omega) _ 0 [] (by rfl) HO.out base ps.length c (pairCells ps) (by rfl) HNIL.out (pairCells_length _) HN.out (pairCells_oneM _) (by unfold maxLen; omega) (by omega) (by simp) ?_); intro v4 w4 hown4 hgrow4 hnl4; obtain ⟨g4, cap4, rfl, hg4, hgl4, hpa4⟩ := owned_pairsM hown4 (fun q => by cases (hnl4.1 q).1); have B4 : Below wr.heap.size wr w4 := Below.grown (below_allocM _ _) hgrow4 (by simp) (by intro k hk; simp [Value.ownBlock] at hk; omega); have S4 := HS.out.low B4 zs; have HS4 : Hid (StA _ _ _ _ _) := S4; have O4 : Hid (OwnPM w4 wr.heap.size ps (.slice (some ⟨g4, 0, none⟩) ps.length cap4)) := ⟨_, g4, cap4, rfl, fun _ => hg4, hpa4 (by unfold maxLen; omega), fun q => by cases q⟩; obtain ⟨a0, a1, a2, a3⟩ := S4.op; obtain ⟨r0, r1, r2, r3⟩ := S4.ret; obtain ⟨b0, b1, b2, b3⟩ := S4.res; have fr := fun i => (S4.free i).1; have s4 := S4.size; simp only at a0 a1 a2 a3; clear hown4 hgrow4 hnl4 B4 S4 hpa4))
      have F := HS4.out.fin (tellR (nbN ps 8 key ps.length)).ok (tellR (nbN ps 8 key ps.length)).key (tellR (nbN ps 8 key ps.length)).val (.slice none 0 0)
      have HF : Hid _ := F
      clear F
      go_region
      obtain ⟨⟨q0, q1, q2, q3⟩, hbf, hof⟩ := HF.out
      have HBF : Hid _ := hbf
      have HOF : Hid _ := hof
      clear hbf hof
      have EP : (tellR (nbN ps 8 key ps.length)).pairs = [] := by cases nbN ps 8 key ps.length <;> rfl
      have HEP : Hid _ := EP
      clear EP
      go_wp2_with fail
      refine bodyPost_ret (v := .tuple #[.slice (some ⟨g4, 0, none⟩) ps.length cap4, .agg #[.bool (tellR (nbN ps 8 key ps.length)).ok, .int .i64 (tellR (nbN ps 8 key ps.length)).key, .int .i64 (tellR (nbN ps 8 key ps.length)).val, .slice none 0 0]]) (by simp [results, Tryd.results110, go_sem, q0, q1, q2, q3]) rfl ⟨_, _, rfl, HBF.out.drew, ((HOF.out _ _ _ (by omega) O4.out).below (Below.refl _ _).drew).down (by omega), by rw [HEP.out]; exact ⟨none, 0, 0, rfl, fun q => absurd rfl q, pairs_noneM _, fun _ => rfl⟩⟩
end Go.Proofs.YtcphajjonecmbaaDoor

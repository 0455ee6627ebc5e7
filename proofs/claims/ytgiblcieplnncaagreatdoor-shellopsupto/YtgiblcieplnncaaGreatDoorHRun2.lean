
/- Layer 28: the empty text is refused. -/

import Derived.Test.YtgiblcieplnncaaGreatDoorHRun

import Derived.Laws.ResultCell

namespace Go.Proofs.YtgiblcieplnncaaGreatDoor

open Go.RowKit

attribute [local go_sem ↓] Go.wp_at_zero Go.wp_at_succ

theorem results_c2 {fn : Func} {p u v : Tmp} {ty : TypeId} (h : fn.results = #[.cell p ty, .tmp u, .tmp v]) (tmps : Array Value) (P : Program) (w : World) :
    (results fn tmps).run P w =
      ((asAddr (tmps.getD p undef)).run P w).andThen fun a w₁ => ((loadVar ty a).run P w₁).andThen fun x w₂ => .ok (.tuple #[x, tmps.getD u undef, tmps.getD v undef]) w₂ := by
  simp only [results, h]
  simp [Sem.run_bind, Result.andThen]
theorem results_cc {fn : Func} {p q u : Tmp} {ty ty' : TypeId} (h : fn.results = #[.cell p ty, .cell q ty', .tmp u]) (tmps : Array Value) (P : Program) (w : World) :
    (results fn tmps).run P w =
      ((asAddr (tmps.getD p undef)).run P w).andThen fun a w₁ => ((loadVar ty a).run P w₁).andThen fun x w₂ => ((asAddr (tmps.getD q undef)).run P w₂).andThen fun a' w₃ => ((loadVar ty' a').run P w₃).andThen fun y w₄ => .ok (.tuple #[x, y, tmps.getD u undef]) w₄ := by
  simp only [results, h]
  simp [Sem.run_bind, Result.andThen]
theorem fn_eq (f : Fn) (fs cs : Array Value) (w : World) : (Op.equal 142 (.func f fs cs) .nilFunc).run Tryz.prog w = .ok false w := by
  have h := Tryz.underlying142
  unfold Op.equal Op.maxDepth
  unfold Op.equalIn
  simp [run_underlying h]
theorem fn_nil (f : Fn) (fs cs : Array Value) (w : World) : (binOp .eql 142 (.func f fs cs) .nilFunc).run Tryz.prog w = .ok (.bool false) w := by
  simp [binOp, fn_eq, Result.andThen]
set_option maxRecDepth 100000 in
set_option maxHeartbeats 1000000 in
theorem ops_nil (f : Fn) (fs cs : Array Value) (w : World) : Calls Tryz.prog 75 #[.slice none 0 0, .slice none 0 0, .func f fs cs] w fun e w' => e = .returned (.tuple #[.agg #[.slice none 0 0, .slice none 0 0, .slice none 0 0], .slice none 0 0, .int .i64 1]) ∧ Below w.heap.size w w' := by
  have hf1 := fn_eq f fs cs
  have hf2 := fn_nil f fs cs
  go_enter Tryz.func75, Tryz.ntmps75
  go_wp2_with (first | (go_at_call 98; refine (opsError_nil _).mono ?_; rintro e w1 ⟨rfl, rfl⟩))
  refine bodyPost_ret (v := .tuple #[.agg #[.slice none 0 0, .slice none 0 0, .slice none 0 0], .slice none 0 0, .int .i64 1]) ?_ rfl ⟨rfl, below_alloc _ _⟩
  rw [results_c2 rfl]
  go_simp
set_option maxRecDepth 100000 in
set_option maxHeartbeats 1000000 in
theorem parse_nil (w : World) : Calls Tryz.prog 42 #[.string ⟨#[]⟩] w fun e w' => e = .returned (.tuple #[.agg #[.slice none 0 0, .slice none 0 0, .slice none 0 0], .int .i64 0, .int .i64 0]) ∧ Below w.heap.size w w' := by
  go_enter Tryz.func42, Tryz.ntmps42
  go_wp2_with fail
  go_loopw [8] (fun v wr => v = .string ⟨#[]⟩ ∧ wr = (w.alloc (.cells #[.slice none 0 0, .slice none 0 0, .slice none 0 0] 62)).alloc (.cells #[.slice none 0 0, .slice none 0 0, .slice none 0 0, .int .i64 0] 111)) (fun _ _ => 0)
  case atStart => exact ⟨rfl, rfl⟩
  case round =>
    obtain ⟨rfl, rfl⟩ := hrel
    go_wp2_with fail
    refine bodyPost_ret (v := .tuple #[.agg #[.slice none 0 0, .slice none 0 0, .slice none 0 0], .int .i64 0, .int .i64 0]) ?_ rfl ⟨rfl, ((Below.refl _ _).alloc (Nat.le_refl _) _).alloc (by simp) _⟩
    rw [results_c2 rfl]
    go_simp
theorem kept4 {w z : World} {a b c d : Value} {t : TypeId} (h : Below (w.alloc (.cells #[a, b, c, d] t)).heap.size (w.alloc (.cells #[a, b, c, d] t)) z) : (z.cell? ⟨w.heap.size, 0, none⟩ = some a ∧ z.frozen? ⟨w.heap.size, 0, none⟩ = false) ∧ (z.cell? ⟨w.heap.size, 1, none⟩ = some b ∧ z.frozen? ⟨w.heap.size, 1, none⟩ = false) ∧ (z.cell? ⟨w.heap.size, 2, none⟩ = some c ∧ z.frozen? ⟨w.heap.size, 2, none⟩ = false) ∧ (z.cell? ⟨w.heap.size, 3, none⟩ = some d ∧ z.frozen? ⟨w.heap.size, 3, none⟩ = false) := by
  have hb := h.block w.heap.size (by simp)
  rw [heap_alloc_at _ _ _ rfl] at hb
  simp [World.cell?, World.frozen?, hb]
set_option maxRecDepth 100000 in
set_option maxHeartbeats 2000000 in
theorem play_nil (w : World) : Calls Tryz.prog 53 #[.slice none 0 0, .slice none 0 0, .slice none 0 0] w fun e w' => e = .returned (.tuple #[.agg #[.slice none 0 0, .slice none 0 0, .slice none 0 0, .slice none 0 0], .int .i64 1]) ∧ Below w.heap.size w w' := by
  obtain ⟨W, hW⟩ : ∃ W, W = w.alloc (.cells #[.slice none 0 0, .slice none 0 0, .slice none 0 0, .slice none 0 0] 68) := ⟨_, rfl⟩
  have BA : Hid (Below w.heap.size w W) := by rw [hW]; exact below_alloc _ _
  have KW : Hid (∀ z, Below W.heap.size W z → (z.cell? ⟨w.heap.size, 0, none⟩ = some (.slice none 0 0) ∧ z.frozen? ⟨w.heap.size, 0, none⟩ = false) ∧ (z.cell? ⟨w.heap.size, 1, none⟩ = some (.slice none 0 0) ∧ z.frozen? ⟨w.heap.size, 1, none⟩ = false) ∧ (z.cell? ⟨w.heap.size, 2, none⟩ = some (.slice none 0 0) ∧ z.frozen? ⟨w.heap.size, 2, none⟩ = false) ∧ (z.cell? ⟨w.heap.size, 3, none⟩ = some (.slice none 0 0) ∧ z.frozen? ⟨w.heap.size, 3, none⟩ = false)) := by
    rw [hW]
    exact fun z hz => kept4 hz
  have hlt : w.heap.size < W.heap.size := by rw [hW]; simp
  have HW : Hid (w.alloc (.cells #[.slice none 0 0, .slice none 0 0, .slice none 0 0, .slice none 0 0] 68) = W) := hW.symm
  clear hW
  go_enter Tryz.func53, Tryz.ntmps53
  go_wp2_with (first
    | (go_at_call 73; rw [HW.out]; refine (kinds_nil _ _).mono ?_; rintro e w1 ⟨rfl, hb1⟩; have B1 : Hid (Below W.heap.size W w1) := hb1; clear hb1)
    | (go_at_call 74; refine (of_nil _).mono ?_; rintro e w2 ⟨g2, rfl, hb2⟩; have B2 : Hid (Below W.heap.size W w2) := B1.out.trans (hb2.mono B1.out.size); clear hb2 B1)
    | (go_at_call 75; refine (ops_nil _ _ _ _).mono ?_; rintro e w3 ⟨rfl, hb3⟩; have B3 : Hid (Below W.heap.size W w3) := (B2.out.alloc B2.out.size _).trans (hb3.mono (B2.out.alloc B2.out.size _).size); have hs3 := B3.out.size; obtain ⟨r0, r1, r2, r3⟩ := KW.out (w3.alloc (.cells #[.slice none 0 0, .slice none 0 0, .slice none 0 0] 133)) (B3.out.alloc B3.out.size _); have n3 : w.heap.size ≠ w3.heap.size := (by omega); have n4 : w3.heap.size ≠ w.heap.size := (by omega); clear hb3 B2))
  have BX := BA.out.trans (B3.out.mono BA.out.size)
  have BY := BX.alloc BX.size (.cells #[.slice none 0 0, .slice none 0 0, .slice none 0 0] 133)
  refine bodyPost_ret (v := .tuple #[.agg #[.slice none 0 0, .slice none 0 0, .slice none 0 0, .slice none 0 0], .int .i64 1]) ?_ rfl ⟨rfl, (((BY.setCell (p := ⟨w.heap.size, 0, none⟩) (Nat.le_refl _) _).setCell (p := ⟨w.heap.size, 1, none⟩) (Nat.le_refl _) _).setCell (p := ⟨w.heap.size, 2, none⟩) (Nat.le_refl _) _).setCell (p := ⟨w.heap.size, 3, none⟩) (Nat.le_refl _) _⟩
  rw [results_cell_tmp rfl]
  go_simp
theorem keptb {W z : World} {g : Nat} {cs : Array Value} {t : TypeId} (hg : W.heap[g]? = some (.cells cs t)) (h : Below W.heap.size W z) (i : Nat) (v : Value) (hv : cs[i]? = some v) : z.cell? ⟨g, i, none⟩ = some v ∧ z.frozen? ⟨g, i, none⟩ = false := by
  have hb := h.block g (Array.getElem?_eq_some_iff.1 hg).1
  rw [hg] at hb
  refine ⟨?_, ?_⟩
  · simp only [World.cell?, hb]
    exact hv
  · simp [World.frozen?, hb]
set_option maxRecDepth 100000 in
set_option maxHeartbeats 2000000 in
theorem prun_nil (w : World) : Calls Tryz.prog 43 #[.agg #[.slice none 0 0, .slice none 0 0, .slice none 0 0]] w fun e w' => e = .returned (.tuple #[.agg #[.slice none 0 0, .slice none 0 0, .slice none 0 0, .slice none 0 0], .int .i64 1]) ∧ Below w.heap.size w w' := by
  obtain ⟨W, hW⟩ : ∃ W, W = (w.alloc (.cells #[.slice none 0 0, .slice none 0 0, .slice none 0 0] 62)).alloc (.cells #[.slice none 0 0, .slice none 0 0, .slice none 0 0, .slice none 0 0] 68) := ⟨_, rfl⟩
  have BA : Hid (Below w.heap.size w W) := by rw [hW]; exact ((Below.refl _ _).alloc (Nat.le_refl _) _).alloc (by simp) _
  have BL : Hid (W.heap[w.heap.size + 1]? = some (.cells #[.slice none 0 0, .slice none 0 0, .slice none 0 0, .slice none 0 0] 68)) := by rw [hW]; exact heap_alloc_at _ _ _ (by simp)
  have HC : Hid (Calls Tryz.prog 53 #[.slice none 0 0, .slice none 0 0, .slice none 0 0] W fun e w' => e = .returned (.tuple #[.agg #[.slice none 0 0, .slice none 0 0, .slice none 0 0, .slice none 0 0], .int .i64 1]) ∧ Below W.heap.size W w') := play_nil W
  subst hW
  go_enter Tryz.func43, Tryz.ntmps43
  go_wp2_with (first | (go_at_call 53; refine HC.out.mono ?_; rintro e w1 ⟨rfl, hb1⟩; have r0 := keptb BL.out hb1 0 _ rfl; have r1 := keptb BL.out hb1 1 _ rfl; have r2 := keptb BL.out hb1 2 _ rfl; have r3 := keptb BL.out hb1 3 _ rfl; have B1 : Hid (Below w.heap.size w w1) := BA.out.trans (hb1.mono BA.out.size); clear hb1 HC BA BL))
  refine bodyPost_ret (v := .tuple #[.agg #[.slice none 0 0, .slice none 0 0, .slice none 0 0, .slice none 0 0], .int .i64 1]) ?_ rfl ⟨rfl, (((B1.out.setCell (p := ⟨w.heap.size + 1, 0, none⟩) (Nat.le_succ _) _).setCell (p := ⟨w.heap.size + 1, 1, none⟩) (Nat.le_succ _) _).setCell (p := ⟨w.heap.size + 1, 2, none⟩) (Nat.le_succ _) _).setCell (p := ⟨w.heap.size + 1, 3, none⟩) (Nat.le_succ _) _⟩
  rw [results_cell_tmp rfl]
  go_simp
set_option maxRecDepth 100000 in
set_option maxHeartbeats 2000000 in
theorem playText_nil (w : World) (hl : HLB w.heap.size w) : Calls Tryz.prog 27 #[.string ⟨#[]⟩] w fun e w' => e = .returned (.tuple #[.agg #[.slice none 0 0, .slice none 0 0, .slice none 0 0], .agg #[.slice none 0 0, .slice none 0 0, .slice none 0 0, .slice none 0 0], .string ⟨[114, 101, 102, 117, 115, 101, 100, 32, 49, 10].toArray⟩]) ∧ Below w.heap.size w w' := by
  have HL : Hid (HLB _ _) := hl
  clear hl
  obtain ⟨W, hW⟩ : ∃ W, W = (w.alloc (.cells #[.slice none 0 0, .slice none 0 0, .slice none 0 0] 62)).alloc (.cells #[.slice none 0 0, .slice none 0 0, .slice none 0 0, .slice none 0 0] 68) := ⟨_, rfl⟩
  have BA : Hid (Below w.heap.size w W) := by rw [hW]; exact ((Below.refl _ _).alloc (Nat.le_refl _) _).alloc (by simp) _
  have BL : Hid (W.heap[w.heap.size + 1]? = some (.cells #[.slice none 0 0, .slice none 0 0, .slice none 0 0, .slice none 0 0] 68)) := by rw [hW]; exact heap_alloc_at _ _ _ (by simp)
  have BG : Hid (W.heap[w.heap.size]? = some (.cells #[.slice none 0 0, .slice none 0 0, .slice none 0 0] 62)) := by rw [hW, heap_alloc_old _ _ (by simp)]; exact heap_alloc_at _ _ _ rfl
  have HC : Hid (Calls Tryz.prog 42 #[.string ⟨#[]⟩] W fun e w' => e = .returned (.tuple #[.agg #[.slice none 0 0, .slice none 0 0, .slice none 0 0], .int .i64 0, .int .i64 0]) ∧ Below W.heap.size W w') := parse_nil W
  have hs : w.heap.size + 1 < W.heap.size := by rw [hW]; simp
  clear hs
  subst hW
  have e1 : Lib.itoa 1 = [49] := by unfold Lib.itoa; rw [if_neg (by decide)]; rw [show (1 : Int).toNat = 1 from rfl, Lib.decDigits, dif_pos (by omega)]; rfl
  have HE : Hid (Lib.itoa 1 = [49]) := e1
  clear e1
  go_enter Tryz.func27, Tryz.ntmps27
  go_wp2_with (first
    | (go_at_call 42; refine HC.out.mono ?_; rintro e w1 ⟨rfl, hb1⟩; have B1 : Hid (Below _ _ w1) := hb1; clear hb1 HC)
    | (go_at_call 43; refine (prun_nil _).mono ?_; rintro e w2 ⟨rfl, hb2⟩; have B2 : Hid (Below _ _ w2) := (B1.out.alloc B1.out.size (.cells #[.slice none 0 0, .slice none 0 0, .slice none 0 0] 62)).trans (hb2.mono (B1.out.alloc B1.out.size _).size); clear hb2 B1)
    | (go_at_call 16; refine (itoaB 1 ⟨by decide, by decide⟩ _ (HL.out.on (BA.out.trans ((B2.out.alloc B2.out.size _).mono BA.out.size)))).mono ?_; rintro e w3 ⟨rfl, hb3⟩; rw [HE.out]; have B3 : Hid (Below _ _ w3) := (B2.out.alloc B2.out.size (.cells #[.slice none 0 0, .slice none 0 0, .slice none 0 0, .slice none 0 0] 68)).trans (hb3.mono (B2.out.alloc B2.out.size _).size); have g0 := keptb BG.out B3.out 0 _ rfl; have g1 := keptb BG.out B3.out 1 _ rfl; have g2 := keptb BG.out B3.out 2 _ rfl; have r0 := keptb BL.out B3.out 0 _ rfl; have r1 := keptb BL.out B3.out 1 _ rfl; have r2 := keptb BL.out B3.out 2 _ rfl; have r3 := keptb BL.out B3.out 3 _ rfl; clear hb3 B2))
  have BX := BA.out.trans (B3.out.mono BA.out.size)
  refine bodyPost_ret (v := .tuple #[.agg #[.slice none 0 0, .slice none 0 0, .slice none 0 0], .agg #[.slice none 0 0, .slice none 0 0, .slice none 0 0, .slice none 0 0], .string (⟨#[114, 101, 102, 117, 115, 101, 100, 32]⟩ ++ ⟨#[49]⟩ ++ ⟨#[10]⟩)]) ?_ rfl ⟨by rw [ba_app, ba_app]; rfl, ((((((BX.setCell (p := ⟨w.heap.size, 0, none⟩) (Nat.le_refl _) _).setCell (p := ⟨w.heap.size, 1, none⟩) (Nat.le_refl _) _).setCell (p := ⟨w.heap.size, 2, none⟩) (Nat.le_refl _) _).setCell (p := ⟨w.heap.size + 1, 0, none⟩) (Nat.le_succ _) _).setCell (p := ⟨w.heap.size + 1, 1, none⟩) (Nat.le_succ _) _).setCell (p := ⟨w.heap.size + 1, 2, none⟩) (Nat.le_succ _) _).setCell (p := ⟨w.heap.size + 1, 3, none⟩) (Nat.le_succ _) _⟩
  rw [results_cc rfl]
  go_simp
set_option maxRecDepth 100000 in
set_option maxHeartbeats 2000000 in
theorem run_nil (w : World) (hl : HLB w.heap.size w) : Calls Tryz.prog 13 #[.string ⟨#[]⟩] w fun e w' => e = .returned (.string ⟨[114, 101, 102, 117, 115, 101, 100, 32, 49, 10].toArray⟩) ∧ Below w.heap.size w w' := by
  have HL : Hid (HLB _ _) := hl
  clear hl
  go_enter Tryz.func13, Tryz.ntmps13
  go_wp2_with (first | (go_at_call 27; refine (playText_nil _ HL.out).mono ?_; rintro e w1 ⟨rfl, hb1⟩; have B1 : Hid (Below _ _ w1) := hb1; clear hb1))
  go_ret
  exact ⟨rfl, (B1.out.alloc B1.out.size _).alloc (by have := B1.out.size; simp; omega) _⟩
end Go.Proofs.YtgiblcieplnncaaGreatDoor

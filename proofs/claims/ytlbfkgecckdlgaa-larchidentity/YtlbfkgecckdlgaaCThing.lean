/- Layer 2: things: made, numbered, looked up. -/
import Derived.Test.YtlbfkgecckdlgaaCCellT
import Derived.Test.YtlbfkgecckdlgaaCInts
namespace Go.Proofs.Ytlbfkgecckdlgaa
open Go.RowKit

/-- The thing of number k, or nil; the list lies in block M, the things behind it. -/
def th (M : Nat) (k : Int) : Option Addr := if k < 0 then none else some ⟨M + 1 + k.toNat, 0, none⟩

/-- n things that were made: the list in block M, each in a block of its own. -/
structure TS (M n : Nat) (W : World) : Prop where
  cells : ∀ i, i < n → W.cell? ⟨M, i, none⟩ = some (.pointer (some ⟨M + 1 + i, 0, none⟩))
  blocks : ∀ i, i < n → W.heap[M + 1 + i]? = some (.cells #[.int .i64 0] 159 (0, 0))
  size : M + 1 + n ≤ W.heap.size
theorem TS.kp {X : Nat → Prop} {M n : Nat} {W W' : World} (h : TS M n W) (hk : Kp X W W') (hX : ∀ k, M ≤ k → k < M + 1 + n → ¬ X k) : TS M n W' := by
  have hs := h.size
  exact ⟨fun i hi => (hk.cell (p := ⟨M, i, none⟩) (by simp; omega) (hX M (by omega) (by omega))).trans (h.cells i hi), fun i hi => (hk.block (M + 1 + i) (by omega) (hX _ (by omega) (by omega))).trans (h.blocks i hi), Nat.le_trans hs hk.size⟩

theorem thing_cells : Try.prog.cellsOf 159 = 1 := by kernel_rfl
theorem TS.ptr {M n : Nat} {W : World} (h : TS M n W) {k : Int} (hk : -1 ≤ k ∧ k < (n : Int)) : PtrOk Try.prog 159 W (th M k) := by
  unfold th
  split
  · exact Or.inl rfl
  · exact Or.inr ⟨M + 1 + k.toNat, _, rfl, h.blocks k.toNat (by omega), by rw [thing_cells]; rfl⟩
theorem th_inj {M : Nat} {j k : Int} (hj : -1 ≤ j) (hk : -1 ≤ k) (h : th M j = th M k) : j = k := by
  unfold th at h
  split at h <;> split at h
  · omega
  · cases h
  · cases h
  · injection h with h; injection h with h; omega

theorem tp_info : (Try.prog.info? 159).map (fun i => decide (i.size = 0)) = some false := by kernel_rfl
theorem tp_under : Try.prog.underlying 151 = some (.pointer 159) := by kernel_rfl
theorem eqlT {M n : Nat} {W : World} (h : TS M n W) {k : Int} (hk : -1 ≤ k ∧ k < (n : Int)) (i : Nat) (hi : i < n) : (binOp .eql 151 (.pointer (th M k)) (.pointer (some ⟨M + 1 + i, 0, none⟩))).run Try.prog W = .ok (.bool (decide (k = (i : Int)))) W := by
  obtain ⟨j, hj, hz⟩ := Option.map_eq_some_iff.1 tp_info
  have hz' : j.size ≠ 0 := by simpa using hz
  have key : ∀ d, (Op.equalIn (d + 1) 151 (.pointer (th M k)) (.pointer (some ⟨M + 1 + i, 0, none⟩))).run Try.prog W = .ok (decide (k = (i : Int))) W := by
    intro d
    by_cases h0 : k < 0
    · rw [show th M k = none from by simp [th, h0], decide_eq_false (by omega)]
      simp [Op.equalIn, run_underlying (P := Try.prog) tp_under]
    · rw [show th M k = some ⟨M + 1 + k.toNat, 0, none⟩ from by simp [th, h0]]
      by_cases e : k = (i : Int)
      · rw [decide_eq_true e, show k.toNat = i from by omega]
        simp [Op.equalIn, run_underlying (P := Try.prog) tp_under, typeInfo, sizeOf, hj, run_sameAddr_same]
      · rw [decide_eq_false e]
        have hb := run_sameAddr_other (P := Try.prog) W (a := ⟨M + 1 + k.toNat, 0, none⟩) (b := ⟨M + 1 + i, 0, none⟩) (fun q => by injection q; omega) (h.blocks k.toNat (by omega)) (h.blocks i hi)
        simp [Op.equalIn, run_underlying (P := Try.prog) tp_under, typeInfo, sizeOf, hj, hz', hb]
  simp only [binOp]
  simp [Op.equal, Op.maxDepth, key 9999]

theorem numbered_any (M n : Nat) (W : World) (h : TS M n W) (k : Int) (hk : -1 ≤ k ∧ k < (n : Int)) :
    Calls Try.prog 91 #[.slice (some ⟨M, 0, none⟩) n n, .int .i64 k] W fun e W' => e = .returned (.pointer (th M k)) ∧ W' = W := by
  by_cases h0 : k < 0
  · rw [show th M k = none from by simp [th, h0]]
    go_enter Try.func91, Try.ntmps91
    go_wp2
    go_ret
    exact ⟨rfl, rfl⟩
  · rw [show th M k = some ⟨M + 1 + k.toNat, 0, none⟩ from by simp [th, h0]]
    obtain ⟨i, rfl⟩ : ∃ i : Nat, k = (i : Int) := ⟨k.toNat, by omega⟩
    have hc := h.cells i (by omega)
    rw [show ((i : Int)).toNat = i from by omega]
    have i0 : (0 : Int) ≤ (i : Int) := Int.natCast_nonneg _
    have i1 : (i : Int) < (n : Int) := hk.2
    clear hk h
    go_enter Try.func91, Try.ntmps91
    go_wp2
    go_ret
    exact ⟨rfl, rfl⟩

set_option maxRecDepth 100000 in
set_option maxHeartbeats 1000000 in
theorem index_any (M n : Nat) (W : World) (h : TS M n W) (k : Int) (hk : -1 ≤ k ∧ k < (n : Int)) (hn : n ≤ 64) :
    Calls Try.prog 126 #[.slice (some ⟨M, 0, none⟩) n n, .pointer (th M k)] W fun e W' => e = .returned (.int .i64 k) ∧ W' = W := by
  have HT : Hid _ := h
  have hE : ∀ j, j < n → (binOp .eql 151 (.pointer (th M k)) (.pointer (some ⟨M + 1 + j, 0, none⟩))).run Try.prog W = .ok (.bool (decide (k = (j : Int)))) W := fun j hj => eqlT h hk j hj
  have HE : Hid _ := hE
  clear h hE
  generalize th M k = P at *
  go_enter Try.func126, Try.ntmps126
  go_wp2_with fail
  go_loop [8] (fun i => ∃ j : Nat, j ≤ n ∧ i = .int .i64 j ∧ (k < 0 ∨ (j : Int) ≤ k)) (fun i => n - (intOf i).toNat)
  case atStart => exact ⟨0, Nat.zero_le _, rfl, by omega⟩
  case round =>
    obtain ⟨j, hj, rfl, hq⟩ := hrel
    by_cases hlt : j < n
    · have hc := HT.out.cells j hlt
      have he := HE.out j hlt
      have j0 : (0 : Int) ≤ (j : Int) := Int.natCast_nonneg _
      have j1 : (j : Int) < (n : Int) := by omega
      by_cases e : k = (j : Int)
      · have e' : decide (k = (j : Int)) = true := decide_eq_true e
        rw [e'] at he
        clear e'
        have E : Hid _ := e
        clear e hq
        go_wp2
        go_ret
        exact ⟨by rw [E.out]; rfl, rfl⟩
      · have e' : decide (k = (j : Int)) = false := decide_eq_false e
        rw [e'] at he
        clear e'
        go_wp2
        exact ⟨⟨j + 1, by omega, by go_num, by omega⟩, by simp [intOf]; omega⟩
    · have hk' : k = -1 := by omega
      obtain rfl : j = n := by omega
      subst hk'
      go_wp2
      go_ret
      exact ⟨rfl, rfl⟩

theorem number_any (M n : Nat) (W : World) (h : TS M n W) (k : Int) (hk : -1 ≤ k ∧ k < (n : Int)) (hn : n ≤ 64) :
    Calls Try.prog 94 #[.slice (some ⟨M, 0, none⟩) n n, .pointer (th M k)] W fun e W' => e = .returned (.int .i64 k) ∧ W' = W := by
  have HI : Hid _ := index_any M n W h k hk hn
  clear h hk
  generalize th M k = P at *
  go_enter Try.func94, Try.ntmps94
  go_wp2_with (first | (go_at_call 126; refine Calls.mono HI.out ?_; rintro e w' ⟨rfl, rfl⟩))
  go_ret
  exact ⟨rfl, rfl⟩

theorem list_info : (Try.prog.info? 151).map (fun i => (i.zero, i.size, i.bytes)) = some (some (.pointer none), 1, 8) := by kernel_rfl
theorem list_under : Try.prog.underlying 148 = some (.slice 151) := by kernel_rfl

/-- The making, behind j things. -/
structure MT (n j : Nat) (w W : World) : Prop where
  done : ∀ i, i < j → W.cell? ⟨w.heap.size, i, none⟩ = some (.pointer (some ⟨w.heap.size + 1 + i, 0, none⟩))
  rest : ∀ i, j ≤ i → i < n → W.cell? ⟨w.heap.size, i, none⟩ = some (.pointer none)
  fro : ∀ i, i < n → W.frozen? ⟨w.heap.size, i, none⟩ = false
  blocks : ∀ i, i < j → W.heap[w.heap.size + 1 + i]? = some (.cells #[.int .i64 0] 159 (0, 0))
  size : W.heap.size = w.heap.size + 1 + j
  below : Below w.heap.size w W
theorem MT.start (n : Nat) (w : World) : MT n 0 w (w.alloc (.cells (madeCells #[.pointer none] n) 151)) := by
  refine ⟨fun i hi => by omega, fun i _ hi => ?_, fun i hi => by simp, fun i hi => by omega, by simp, (Below.refl _ _).alloc (Nat.le_refl _) _⟩
  have c0 : (madeCells #[.pointer none] n)[i]? = some (.pointer none) := by simp [madeCells, hi, Nat.mod_one]
  simp [c0]
theorem MT.next {n j : Nat} {w W : World} (h : MT n j w W) (hj : j < n) : MT n (j + 1) w ((W.setCell ⟨w.heap.size, j, none⟩ (.pointer (some ⟨W.heap.size, 0, none⟩))).alloc (.cells #[.int .i64 0] 159)) := by
  have hs := h.size
  rw [show (⟨W.heap.size, 0, none⟩ : Addr) = ⟨w.heap.size + 1 + j, 0, none⟩ from by rw [hs]]
  have hb : w.heap.size < W.heap.size := by omega
  have c0 := h.rest j (Nat.le_refl _) hj
  refine ⟨fun i hi => ?_, fun i hi hi' => ?_, fun i hi => ?_, fun i hi => ?_, ?_, ?_⟩
  · rw [World.cell?_alloc_past _ _ _ (by simpa [World.setCell] using hb)]
    by_cases e : i = j
    · subst e; exact World.cell?_setCell_same _ _ _ c0
    · rw [World.cell?_setCell_other _ _ _ _ (fun q => e (congrArg Addr.off q).symm)]; exact h.done i (by omega)
  · rw [World.cell?_alloc_past _ _ _ (by simpa [World.setCell] using hb), World.cell?_setCell_other _ _ _ _ (fun q => by have := congrArg Addr.off q; simp at this; omega)]
    exact h.rest i (by omega) hi'
  · rw [World.frozen?_alloc_past _ _ _ (by simpa [World.setCell] using hb)]; simpa using h.fro i hi
  · by_cases e : i = j
    · subst e; exact heap_alloc_at _ _ _ (by simp [World.setCell, hs])
    · rw [Below.heap_alloc _ _ _ (by simp [World.setCell]; omega), Below.heap_setCell _ _ _ _ (by simp; omega)]; exact h.blocks i (by omega)
  · simp [World.setCell, hs]; omega
  · exact (h.below.setCell (p := ⟨w.heap.size, j, none⟩) (Nat.le_refl _) _).alloc (by have := h.below.size; simpa [World.setCell] using this) _

set_option maxRecDepth 100000 in
set_option maxHeartbeats 1000000 in
theorem makeThings_any (n : Nat) (hn : n ≤ 64) (w : World) :
    Calls Try.prog 89 #[.int .i64 n] w fun e w' => e = .returned (.slice (some ⟨w.heap.size, 0, none⟩) n n) ∧ TS w.heap.size n w' ∧ Below w.heap.size w w' := by
  have hmk := run_make_known (P := Try.prog) 148 151 (.pointer none) 1 8 list_under list_info n (by omega) (by omega)
  have M0 : Hid _ := MT.start n w
  go_enter Try.func89, Try.ntmps89
  go_wp2_with fail
  go_loopw [9] (fun i wr => ∃ j : Nat, j ≤ n ∧ i = .int .i64 j ∧ MT n j w wr) (fun i _ => n - (intOf i).toNat)
  case atStart => exact ⟨0, Nat.zero_le _, rfl, M0.out⟩
  case round =>
    obtain ⟨j, hj, rfl, hp⟩ := hrel
    have HP : Hid _ := hp
    clear M0
    by_cases hlt : j < n
    · have c0 := hp.rest j (Nat.le_refl _) hlt
      have z0 := hp.fro j hlt
      have j0 : (0 : Int) ≤ (j : Int) := Int.natCast_nonneg _
      have j1 : (j : Int) < (n : Int) := by omega
      have hl : w.heap.size < wr.heap.size := by have := hp.size; omega
      have c1 : ∀ o, (wr.alloc o).cell? ⟨w.heap.size, j, none⟩ = some (.pointer none) := fun o => (World.cell?_alloc_past _ _ _ hl).trans c0
      have z1 : ∀ o, (wr.alloc o).frozen? ⟨w.heap.size, j, none⟩ = false := fun o => (World.frozen?_alloc_past _ _ _ hl).trans z0
      clear hp
      go_wp2
      exact ⟨⟨j + 1, by omega, by go_num, HP.out.next hlt⟩, by simp [intOf]; omega⟩
    · obtain rfl : j = n := by omega
      clear hp
      go_wp2
      go_ret
      exact ⟨rfl, ⟨HP.out.done, HP.out.blocks, by have := HP.out.size; omega⟩, HP.out.below⟩
end Go.Proofs.Ytlbfkgecckdlgaa

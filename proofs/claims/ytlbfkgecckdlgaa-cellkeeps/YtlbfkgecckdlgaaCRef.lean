/- Layer 2: the reference's One, an act each. -/
import Derived.Test.YtlbfkgecckdlgaaCInts
namespace Go.Proofs.Ytlbfkgecckdlgaa
open Go.RowKit

theorem bit_any (b : Bool) (w : World) : Calls Try.prog 63 #[.bool b] w fun e w' => e = .returned (.int .i64 (if b then 1 else 0)) ∧ w = w' := by
  cases b
  all_goals
    go_enter Try.func63, Try.ntmps63
    go_wp2
    go_ret
    exact ⟨rfl, rfl⟩

theorem one_step {w : World} {b i : Nat} (y : Int) (o : Obj) (hb : b < w.heap.size) : NumStep (fun _ => False) b i y w ((w.setCell ⟨b, i, none⟩ (.int .i64 y)).alloc o) :=
  ⟨((kp_setb w b i (.int .i64 y)).alloc o).mono (fun _ h => Or.inr h), Below.heap_alloc _ _ _ (by simpa [World.setCell] using hb)⟩
theorem one_still {w : World} {b i : Nat} {x : Int} (o : Obj) (hb : b < w.heap.size) (hc : w.cell? ⟨b, i, none⟩ = some (.int .i64 x)) : NumStep (fun _ => False) b i x w (w.alloc o) :=
  ⟨((Kp.refl _ _).alloc o).mono (fun _ h => Or.inl h), num_same (X := fun _ => False) ((Kp.refl _ _).alloc o) (fun h => h) hb hc⟩

set_option maxRecDepth 100000 in
set_option maxHeartbeats 1000000 in
theorem one_1 (b i m c : Nat) (x A B : Int) (w : World) (hi : i < m) (hb : b < w.heap.size) (hc : w.cell? ⟨b, i, none⟩ = some (.int .i64 x)) :
    Calls Try.prog 22 #[.slice (some ⟨b, 0, none⟩) m c, .agg #[.int .i64 1, .int .i64 i, .int .i64 A, .int .i64 B]] w fun e w' => e = .returned (.int .i64 x) ∧ NumStep (fun _ => False) b i (x) w w' := by
  have h1 := one_still (.cells #[.int .i64 1, .int .i64 i, .int .i64 A, .int .i64 B] 52) hb hc
  have H1 : Hid _ := h1
  have i0 : (0 : Int) ≤ (i : Int) := Int.natCast_nonneg _
  have i1 : (i : Int) < (m : Int) := by omega
  have n1 : ¬ b = w.heap.size := by omega
  clear h1
  go_enter Try.func22, Try.ntmps22
  go_wp2_with (fail)
  go_ret
  exact ⟨rfl, H1.out⟩

set_option maxRecDepth 100000 in
set_option maxHeartbeats 1000000 in
theorem one_2 (b i m c : Nat) (x A B : Int) (w : World) (hi : i < m) (hb : b < w.heap.size) (hc : w.cell? ⟨b, i, none⟩ = some (.int .i64 x)) (hz : w.frozen? ⟨b, i, none⟩ = false) :
    Calls Try.prog 22 #[.slice (some ⟨b, 0, none⟩) m c, .agg #[.int .i64 2, .int .i64 i, .int .i64 A, .int .i64 B]] w fun e w' => e = .returned (.int .i64 0) ∧ NumStep (fun _ => False) b i (A) w w' := by
  have h1 := one_step (b := b) (i := i) (A) (.cells #[.int .i64 2, .int .i64 i, .int .i64 A, .int .i64 B] 52) hb
  have H1 : Hid _ := h1
  have i0 : (0 : Int) ≤ (i : Int) := Int.natCast_nonneg _
  have i1 : (i : Int) < (m : Int) := by omega
  have n1 : ¬ b = w.heap.size := by omega
  have hz1 : ∀ o, (w.alloc o).frozen? ⟨b, i, none⟩ = false := fun o => (World.frozen?_alloc_past _ _ _ hb).trans hz
  clear h1
  go_enter Try.func22, Try.ntmps22
  go_wp2_with (fail)
  go_ret
  exact ⟨rfl, H1.out⟩

set_option maxRecDepth 100000 in
set_option maxHeartbeats 1000000 in
theorem one_3 (b i m c : Nat) (x A B : Int) (w : World) (hi : i < m) (hb : b < w.heap.size) (hc : w.cell? ⟨b, i, none⟩ = some (.int .i64 x)) (hz : w.frozen? ⟨b, i, none⟩ = false) :
    Calls Try.prog 22 #[.slice (some ⟨b, 0, none⟩) m c, .agg #[.int .i64 3, .int .i64 i, .int .i64 A, .int .i64 B]] w fun e w' => e = .returned (.int .i64 (wrap64 (x + A))) ∧ NumStep (fun _ => False) b i (wrap64 (x + A)) w w' := by
  have h1 := one_step (b := b) (i := i) (wrap64 (x + A)) (.cells #[.int .i64 3, .int .i64 i, .int .i64 A, .int .i64 B] 52) hb
  have H1 : Hid _ := h1
  have i0 : (0 : Int) ≤ (i : Int) := Int.natCast_nonneg _
  have i1 : (i : Int) < (m : Int) := by omega
  have n1 : ¬ b = w.heap.size := by omega
  have hz1 : ∀ o, (w.alloc o).frozen? ⟨b, i, none⟩ = false := fun o => (World.frozen?_alloc_past _ _ _ hb).trans hz
  clear h1
  go_enter Try.func22, Try.ntmps22
  go_wp2_with (fail)
  go_ret
  exact ⟨rfl, H1.out⟩

set_option maxRecDepth 100000 in
set_option maxHeartbeats 1000000 in
theorem one_4 (b i m c : Nat) (x A B : Int) (w : World) (hi : i < m) (hb : b < w.heap.size) (hc : w.cell? ⟨b, i, none⟩ = some (.int .i64 x)) (hz : w.frozen? ⟨b, i, none⟩ = false) :
    Calls Try.prog 22 #[.slice (some ⟨b, 0, none⟩) m c, .agg #[.int .i64 4, .int .i64 i, .int .i64 A, .int .i64 B]] w fun e w' => e = .returned (.int .i64 x) ∧ NumStep (fun _ => False) b i (A) w w' := by
  have h1 := one_step (b := b) (i := i) (A) (.cells #[.int .i64 4, .int .i64 i, .int .i64 A, .int .i64 B] 52) hb
  have H1 : Hid _ := h1
  have i0 : (0 : Int) ≤ (i : Int) := Int.natCast_nonneg _
  have i1 : (i : Int) < (m : Int) := by omega
  have n1 : ¬ b = w.heap.size := by omega
  have hz1 : ∀ o, (w.alloc o).frozen? ⟨b, i, none⟩ = false := fun o => (World.frozen?_alloc_past _ _ _ hb).trans hz
  clear h1
  go_enter Try.func22, Try.ntmps22
  go_wp2_with (fail)
  go_ret
  exact ⟨rfl, H1.out⟩

set_option maxRecDepth 100000 in
set_option maxHeartbeats 1000000 in
theorem one_hit (b i m c : Nat) (x A B : Int) (w : World) (hi : i < m) (hb : b < w.heap.size) (hc : w.cell? ⟨b, i, none⟩ = some (.int .i64 x)) (hz : w.frozen? ⟨b, i, none⟩ = false) (hq : (x == A) = true) :
    Calls Try.prog 22 #[.slice (some ⟨b, 0, none⟩) m c, .agg #[.int .i64 5, .int .i64 i, .int .i64 A, .int .i64 B]] w fun e w' => e = .returned (.int .i64 1) ∧ NumStep (fun _ => False) b i (B) w w' := by
  have h1 := one_step (b := b) (i := i) (B) (.cells #[.int .i64 5, .int .i64 i, .int .i64 A, .int .i64 B] 52) hb
  have H1 : Hid _ := h1
  have i0 : (0 : Int) ≤ (i : Int) := Int.natCast_nonneg _
  have i1 : (i : Int) < (m : Int) := by omega
  have n1 : ¬ b = w.heap.size := by omega
  have hz1 : ∀ o, (w.alloc o).frozen? ⟨b, i, none⟩ = false := fun o => (World.frozen?_alloc_past _ _ _ hb).trans hz
  clear h1
  go_enter Try.func22, Try.ntmps22
  go_wp2_with (first | (go_at_call 63; refine (bit_any _ _).mono ?_; rintro e w' ⟨rfl, rfl⟩))
  go_ret
  exact ⟨rfl, H1.out⟩

set_option maxRecDepth 100000 in
set_option maxHeartbeats 1000000 in
theorem one_miss (b i m c : Nat) (x A B : Int) (w : World) (hi : i < m) (hb : b < w.heap.size) (hc : w.cell? ⟨b, i, none⟩ = some (.int .i64 x)) (hq : (x == A) = false) :
    Calls Try.prog 22 #[.slice (some ⟨b, 0, none⟩) m c, .agg #[.int .i64 5, .int .i64 i, .int .i64 A, .int .i64 B]] w fun e w' => e = .returned (.int .i64 0) ∧ NumStep (fun _ => False) b i (x) w w' := by
  have h1 := one_still (.cells #[.int .i64 5, .int .i64 i, .int .i64 A, .int .i64 B] 52) hb hc
  have H1 : Hid _ := h1
  have i0 : (0 : Int) ≤ (i : Int) := Int.natCast_nonneg _
  have i1 : (i : Int) < (m : Int) := by omega
  have n1 : ¬ b = w.heap.size := by omega
  clear h1
  go_enter Try.func22, Try.ntmps22
  go_wp2_with (first | (go_at_call 63; refine (bit_any _ _).mono ?_; rintro e w' ⟨rfl, rfl⟩))
  go_ret
  exact ⟨rfl, H1.out⟩

set_option maxRecDepth 100000 in
set_option maxHeartbeats 1000000 in
theorem one_6 (b i m c : Nat) (x A B s : Int) (w : World) (hi : i < m) (hb : b < w.heap.size) (hc : w.cell? ⟨b, i, none⟩ = some (.int .i64 x)) (hz : w.frozen? ⟨b, i, none⟩ = false) (hs : bits .and .i64 x A = s) :
    Calls Try.prog 22 #[.slice (some ⟨b, 0, none⟩) m c, .agg #[.int .i64 6, .int .i64 i, .int .i64 A, .int .i64 B]] w fun e w' => e = .returned (.int .i64 x) ∧ NumStep (fun _ => False) b i (s) w w' := by
  have h1 := one_step (b := b) (i := i) (s) (.cells #[.int .i64 6, .int .i64 i, .int .i64 A, .int .i64 B] 52) hb
  have H1 : Hid _ := h1
  have i0 : (0 : Int) ≤ (i : Int) := Int.natCast_nonneg _
  have i1 : (i : Int) < (m : Int) := by omega
  have n1 : ¬ b = w.heap.size := by omega
  have hz1 : ∀ o, (w.alloc o).frozen? ⟨b, i, none⟩ = false := fun o => (World.frozen?_alloc_past _ _ _ hb).trans hz
  clear h1
  go_enter Try.func22, Try.ntmps22
  go_wp2_with (fail)
  go_ret
  exact ⟨rfl, H1.out⟩

set_option maxRecDepth 100000 in
set_option maxHeartbeats 1000000 in
theorem one_7 (b i m c : Nat) (x A B s : Int) (w : World) (hi : i < m) (hb : b < w.heap.size) (hc : w.cell? ⟨b, i, none⟩ = some (.int .i64 x)) (hz : w.frozen? ⟨b, i, none⟩ = false) (hs : bits .or .i64 x A = s) :
    Calls Try.prog 22 #[.slice (some ⟨b, 0, none⟩) m c, .agg #[.int .i64 7, .int .i64 i, .int .i64 A, .int .i64 B]] w fun e w' => e = .returned (.int .i64 x) ∧ NumStep (fun _ => False) b i (s) w w' := by
  have h1 := one_step (b := b) (i := i) (s) (.cells #[.int .i64 7, .int .i64 i, .int .i64 A, .int .i64 B] 52) hb
  have H1 : Hid _ := h1
  have i0 : (0 : Int) ≤ (i : Int) := Int.natCast_nonneg _
  have i1 : (i : Int) < (m : Int) := by omega
  have n1 : ¬ b = w.heap.size := by omega
  have hz1 : ∀ o, (w.alloc o).frozen? ⟨b, i, none⟩ = false := fun o => (World.frozen?_alloc_past _ _ _ hb).trans hz
  clear h1
  go_enter Try.func22, Try.ntmps22
  go_wp2_with (fail)
  go_ret
  exact ⟨rfl, H1.out⟩

theorem one_any (b i m c : Nat) (x d A B : Int) (hd : 1 ≤ d ∧ d ≤ 7) (w : World) (hi : i < m) (hb : b < w.heap.size) (hc : w.cell? ⟨b, i, none⟩ = some (.int .i64 x)) (hz : w.frozen? ⟨b, i, none⟩ = false) :
    Calls Try.prog 22 #[.slice (some ⟨b, 0, none⟩) m c, .agg #[.int .i64 d, .int .i64 i, .int .i64 A, .int .i64 B]] w fun e w' => e = .returned (.int .i64 (nO x d A)) ∧ NumStep (fun _ => False) b i (nN x d A B) w w' := by
  have hd' : d = 1 ∨ d = 2 ∨ d = 3 ∨ d = 4 ∨ d = 5 ∨ d = 6 ∨ d = 7 := by omega
  have hw : IntKind.i64.wrap (x + A) = wrap64 (x + A) := by rw [IntKind.wrap_i64]; unfold wrap64; rfl
  rcases hd' with rfl | rfl | rfl | rfl | rfl | rfl | rfl
  · rw [show nO x 1 A = x from by simp [nO], show nN x 1 A B = x from by simp [nN]]
    exact one_1 b i m c x A B w hi hb hc
  · rw [show nO x 2 A = 0 from by simp [nO], show nN x 2 A B = A from by simp [nN]]
    exact one_2 b i m c x A B w hi hb hc hz
  · rw [show nO x 3 A = IntKind.i64.wrap (x + A) from by simp [nO], show nN x 3 A B = IntKind.i64.wrap (x + A) from by simp [nN], hw]
    exact one_3 b i m c x A B w hi hb hc hz
  · rw [show nO x 4 A = x from by simp [nO], show nN x 4 A B = A from by simp [nN]]
    exact one_4 b i m c x A B w hi hb hc hz
  · by_cases hh : x = A
    · rw [show nO x 5 A = 1 from by simp [nO, hh], show nN x 5 A B = B from by simp [nN, hh]]
      exact one_hit b i m c x A B w hi hb hc hz (by simp [hh])
    · rw [show nO x 5 A = 0 from by simp [nO, hh], show nN x 5 A B = x from by simp [nN, hh]]
      exact one_miss b i m c x A B w hi hb hc (by simp [hh])
  · rw [show nO x 6 A = x from by simp [nO], show nN x 6 A B = bits .and .i64 x A from by simp [nN]]
    exact one_6 b i m c x A B _ w hi hb hc hz rfl
  · rw [show nO x 7 A = x from by simp [nO], show nN x 7 A B = bits .or .i64 x A from by simp [nN]]
    exact one_7 b i m c x A B _ w hi hb hc hz rfl
end Go.Proofs.Ytlbfkgecckdlgaa

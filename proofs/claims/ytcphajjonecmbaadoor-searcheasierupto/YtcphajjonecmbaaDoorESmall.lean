
/- Layer 5: the small functions of spans and events. -/

import Derived.Test.YtcphajjonecmbaaDoorEPure

namespace Go.Proofs.YtcphajjonecmbaaDoor

open Go.RowKit

theorem below_alloc (w : World) (o : Obj) : Below w.heap.size w (w.alloc o) := (Below.refl _ _).alloc (Nat.le_refl _) _

set_option maxHeartbeats 400000 in
theorem returned_any (a b : Int) (w : World) :
    Calls Tryd.prog 69 #[.agg #[.int .i64 a, .int .i64 b]] w fun e w' => e = .returned (.bool (decide (b ≠ -1))) ∧ Below w.heap.size w w' := by
  by_cases h : b = -1
  · subst h
    go_enter Tryd.func69, Tryd.ntmps69
    go_wp2
    go_ret
    exact ⟨rfl, below_alloc _ _⟩
  · have hb : (b != -1) = true := by rw [bne_iff_ne]; exact h
    go_enter Tryd.func69, Tryd.ntmps69
    go_wp2
    go_ret
    exact ⟨by simp [h], below_alloc _ _⟩

theorem bcell {W w1 : World} (hb : Below W.heap.size W w1) : (∀ b o, b < W.heap.size → w1.cell? ⟨b, o, none⟩ = W.cell? ⟨b, o, none⟩) ∧ (∀ b o, b < W.heap.size → w1.frozen? ⟨b, o, none⟩ = W.frozen? ⟨b, o, none⟩) :=
  ⟨fun b o h => hb.cell (p := ⟨b, o, none⟩) h, fun b o h => hb.frozen (p := ⟨b, o, none⟩) h⟩

set_option maxHeartbeats 400000 in
theorem ahead_any (a b : Sp) (w : World) :
    Calls Tryd.prog 68 #[.agg #[.int .i64 a.1, .int .i64 a.2], .agg #[.int .i64 b.1, .int .i64 b.2]] w fun e w' => e = .returned (.bool (ahd a b)) ∧ Below w.heap.size w w' := by
  obtain ⟨a1, a2⟩ := a
  obtain ⟨b1, b2⟩ := b
  by_cases h : a2 = -1
  · subst h
    go_enter Tryd.func68, Tryd.ntmps68
    go_wp2_with fail
    refine (returned_any _ _ _).mono ?_
    rintro e w1 ⟨rfl, hb⟩
    go_wp2
    go_ret
    exact ⟨rfl, (((below_alloc _ _).alloc (by simp) _).trans (hb.mono (by simp; omega)))⟩
  · have hd : decide (a2 ≠ -1) = true := by simp [h]
    go_enter Tryd.func68, Tryd.ntmps68
    go_wp2_with fail
    refine (returned_any _ _ _).mono ?_
    rintro e w1 ⟨rfl, hb⟩
    rw [hd]
    obtain ⟨hc, hf⟩ := bcell hb
    go_wp2
    go_ret
    have e : ahd (a1, a2) (b1, b2) = decide (a2 < b1) := by unfold ahd; simp only [hd, Bool.true_and]
    exact ⟨by rw [e]; rfl, (((below_alloc _ _).alloc (by simp) _).trans (hb.mono (by simp; omega)))⟩

set_option maxHeartbeats 400000 in
theorem number_any (i : Int) (base : Option Addr) (n c : Nat) (w : World) :
    Calls Tryd.prog 67 #[.int .i64 i, .slice base n c] w fun e w' => e = .returned (.bool (decide (0 ≤ i) && decide (i < n))) ∧ w = w' := by
  by_cases h : 0 ≤ i
  · go_enter Tryd.func67, Tryd.ntmps67
    go_wp2
    go_ret
    exact ⟨by simp [h], rfl⟩
  · have h' : i < 0 := by omega
    go_enter Tryd.func67, Tryd.ntmps67
    go_wp2
    go_ret
    exact ⟨by simp; omega, rfl⟩

/-- An answer as a value. -/
def rtV (r : RetD) (pb : Option Addr) (pc : Nat) : Value := .agg #[.bool r.ok, .int .i64 r.key, .int .i64 r.val, .slice pb r.pairs.length pc]
set_option maxHeartbeats 1000000 in
theorem zero_any (r : RetD) (pb : Option Addr) (pc : Nat) (w : World) :
    Calls Tryd.prog 118 #[.agg #[.bool r.ok, .int .i64 r.key, .int .i64 r.val, .slice pb r.pairs.length pc]] w fun e w' => e = .returned (.bool (isZ r)) ∧ Below w.heap.size w w' := by
  obtain ⟨ok, key, val, ps⟩ := r
  unfold isZ
  simp only
  generalize ps.length = n
  cases ok
  · by_cases h1 : key = 0
    · subst h1
      by_cases h2 : val = 0
      · subst h2
        by_cases h3 : n = 0
        · subst h3
          go_enter Tryd.func118, Tryd.ntmps118
          go_wp2
          go_ret
          exact ⟨rfl, below_alloc _ _⟩
        · have h4 : ((n : Int) == 0) = false := by rw [beq_eq_false_iff_ne]; omega
          go_enter Tryd.func118, Tryd.ntmps118
          go_wp2
          go_ret
          exact ⟨by simp [h3], below_alloc _ _⟩
      · have h4 : (val == 0) = false := by rw [beq_eq_false_iff_ne]; exact h2
        go_enter Tryd.func118, Tryd.ntmps118
        go_wp2
        go_ret
        exact ⟨by simp [h2], below_alloc _ _⟩
    · have h4 : (key == 0) = false := by rw [beq_eq_false_iff_ne]; exact h1
      go_enter Tryd.func118, Tryd.ntmps118
      go_wp2
      go_ret
      exact ⟨by simp [h1], below_alloc _ _⟩
  · go_enter Tryd.func118, Tryd.ntmps118
    go_wp2
    go_ret
    exact ⟨rfl, below_alloc _ _⟩

set_option maxHeartbeats 1000000 in
theorem invoke_any (e0 : EvD) (pb : Option Addr) (pc : Nat) (w : World) :
    Calls Tryd.prog 100 #[.agg #[.int .i64 e0.th, .bool e0.ret, .int .i64 e0.op.kind, .int .i64 e0.op.key, .int .i64 e0.op.val, .int .i64 e0.op.hi, .bool e0.rt.ok, .int .i64 e0.rt.key, .int .i64 e0.rt.val, .slice pb e0.rt.pairs.length pc]] w fun e w' => e = .returned (.bool (isInv e0)) ∧ Below w.heap.size w w' := by
  obtain ⟨th, ret, ⟨kind, key, val, hi⟩, rt⟩ := e0
  unfold isInv
  simp only
  by_cases h1 : 1 ≤ kind
  · by_cases h2 : kind ≤ 9
    · have d1 : decide (1 ≤ kind) = true := by simpa using h1
      have d2 : decide (kind ≤ 9) = true := by simpa using h2
      go_enter Tryd.func100, Tryd.ntmps100
      go_wp2_with fail
      refine (zero_any _ _ _ _).mono ?_
      rintro e w1 ⟨rfl, hb⟩
      go_wp2
      go_ret
      exact ⟨by simp [h1, h2], (below_alloc _ _).trans (hb.mono (by simp))⟩
    · have h3 : 9 < kind := by omega
      go_enter Tryd.func100, Tryd.ntmps100
      go_wp2
      go_ret
      exact ⟨by simp; omega, below_alloc _ _⟩
  · have h3 : kind < 1 := by omega
    go_enter Tryd.func100, Tryd.ntmps100
    go_wp2
    go_ret
    exact ⟨by simp; omega, below_alloc _ _⟩
end Go.Proofs.YtcphajjonecmbaaDoor

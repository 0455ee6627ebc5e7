/- What the reference's Is and Cut, and the law file's known, answer. -/
import Derived.Test.YtffnoaafmaeihaaGreatRow
namespace Go.Proofs.YtffnoaafmaeihaaGreat
open Go.RowKit

theorem refIs_any (k : Int) (w : World) : Calls Tryz.prog 19 #[.int .i64 k] w fun e w' => e = .returned (.bool (isK k)) ∧ w = w' := by
  by_cases h1 : 1 ≤ k
  · by_cases h2 : k ≤ 6
    · have e : isK k = true := by simp [isK, h1, h2]
      rw [e]
      go_enter Tryz.func19, Tryz.ntmps19
      go_wp2
      go_ret
      exact ⟨by simp, rfl⟩
    · have e : isK k = false := by simp [isK, h2]
      rw [e]
      go_enter Tryz.func19, Tryz.ntmps19
      go_wp2
      go_ret
      exact ⟨by simp, rfl⟩
  · have e : isK k = false := by simp [isK, h1]
    rw [e]
    go_enter Tryz.func19, Tryz.ntmps19
    go_wp2
    go_ret
    exact ⟨by simp, rfl⟩

theorem refCut_any (k v : Int) (hv : U64 v) (w : World) : Calls Tryz.prog 14 #[.int .i64 k, .int .u64 v] w fun e w' => e = .returned (.int .u64 (cut k v)) ∧ w = w' := by
  by_cases h5 : k = 5
  · subst h5
    by_cases h0 : v = 0
    · subst h0
      go_enter Tryz.func14, Tryz.ntmps14
      go_wp2
      go_ret
      exact ⟨rfl, rfl⟩
    · have e : cut 5 v = 1 := by rw [cut_5, if_neg h0]
      have h0' : (v != 0) = true := by simp [h0]
      rw [e]
      clear e h0 hv
      go_enter Tryz.func14, Tryz.ntmps14
      go_wp2
      go_ret
      exact ⟨rfl, rfl⟩
  · have b5 : (k == 5) = false := by simp [h5]
    by_cases h1 : k = 1 ∨ k = 3
    · have e : cut k v = v % 4294967296 := by unfold cut lo32; rw [if_neg h5, if_pos h1]
      rw [e]
      clear e h5
      have hv' : 0 ≤ v := hv.1
      clear hv
      rcases h1 with rfl | rfl
      all_goals
        clear b5
        go_enter Tryz.func14, Tryz.ntmps14
        go_wp2
        go_ret
        exact ⟨rfl, rfl⟩
    · have e : cut k v = v := by
        unfold cut lo64
        rw [if_neg h5, if_neg h1]
        unfold U64 at hv
        omega
      have b1 : (k == 1) = false := by simp; omega
      have b3 : (k == 3) = false := by simp; omega
      rw [e]
      clear e h5 h1 hv
      go_enter Tryz.func14, Tryz.ntmps14
      go_wp2
      go_ret
      exact ⟨rfl, rfl⟩

theorem rowErr_one {k d : Int} (h1 : isK k = true) (h2 : can k d = true) : rowErr k 1 (fun _ => d) = 0 := rowErr_none h1 (by omega) (by simp [allCan, h2])

/-- Do of one access that there is, in a slice that was just laid. -/
theorem Do_one (k start d a b : Int) (hs : U64 start) (ha : U64 a) (hb : U64 b) (h1 : isK k = true) (h2 : can k d = true) (W : World) (g : Nat) (hg : W.heap.size = g) (t : TypeId) :
    Calls Tryz.prog 7 #[.int .i64 k, .int .u64 start, .slice (some ⟨g, 0, none⟩) 1 1] (W.alloc (.cells #[.int .i64 d, .int .u64 a, .int .u64 b] t)) fun e w' =>
      ∃ bo, e = .returned (.tuple #[.slice (some ⟨bo, 0, none⟩) 1 1, .int .u64 (nx k (cut k start) d a b), .int .i64 0]) ∧ W.heap.size + 1 ≤ bo ∧ bo < w'.heap.size ∧ Below (W.heap.size + 1) (W.alloc (.cells #[.int .i64 d, .int .u64 a, .int .u64 b] t)) w' ∧
        w'.cell? ⟨bo, 0, none⟩ = some (.int .u64 (ov k (cut k start) d a)) ∧ w'.cell? ⟨bo, 1, none⟩ = some (.bool (ok k (cut k start) d a)) := by
  subst hg
  refine (Do_ok k start hs W.heap.size 0 1 1 (fun _ => d) (fun _ => a) (fun _ => b) _ _ (Acts.one W d a b ha hb t) (rowErr_one h1 h2)).mono ?_
  rintro e w' ⟨bo, rfl, g1, g2, g3, g4⟩
  obtain ⟨q0, q1, _, _⟩ := g4.done 0 (by omega)
  have hz : (W.alloc (.cells #[.int .i64 d, .int .u64 a, .int .u64 b] t)).heap.size = W.heap.size + 1 := by simp
  rw [hz] at g1 g3
  exact ⟨bo, rfl, g1, g2, g3, q0, q1⟩

theorem bcellB {B : Nat} {W w1 : World} (hb : Below B W w1) : (∀ b o, b < B → w1.cell? ⟨b, o, none⟩ = W.cell? ⟨b, o, none⟩) ∧ (∀ b o, b < B → w1.frozen? ⟨b, o, none⟩ = W.frozen? ⟨b, o, none⟩) :=
  ⟨fun b o h => hb.cell (p := ⟨b, o, none⟩) h, fun b o h => hb.frozen (p := ⟨b, o, none⟩) h⟩

set_option maxRecDepth 100000 in
set_option maxHeartbeats 1000000 in
/-- known: it is so. -/
theorem known_any (w : World) : Calls Tryz.prog 5 #[] w fun e w' => e = .returned (.bool true) ∧ Below w.heap.size w w' := by
  have HD := fun (W : World) (g : Nat) (hg : W.heap.size = g) (t : TypeId) => Do_one 1 2147483647 3 1 0 (by unfold U64; omega) (by unfold U64; omega) (by unfold U64; omega) (by decide) (by decide) W g hg t
  rw [show ov 1 (cut 1 2147483647) 3 1 = 2147483648 from by decide, show ok 1 (cut 1 2147483647) 3 1 = true from by decide, show nx 1 (cut 1 2147483647) 3 1 0 = 2147483648 from by decide] at HD
  have HH : Hid _ := HD
  clear HD
  have heq : ∀ w : World, (binOp .eql 44 (.agg #[.int .u64 2147483648, .bool true]) (.agg #[.int .u64 2147483648, .bool true])).run Tryz.prog w = .ok (.bool true) w := fun _ => by kernel_rfl
  go_enter Tryz.func5, Tryz.ntmps5
  go_wp2_with fail
  refine Calls.mono (Hid.out HH _ _ (by simp) _) ?_
  rintro e w1 ⟨bo, rfl, g1, g2, g3, q0, q1⟩
  go_wp2
  go_ret
  exact ⟨rfl, ((Below.refl _ _).alloc (Nat.le_refl _) _).trans (g3.mono (by omega))⟩
end Go.Proofs.YtffnoaafmaeihaaGreat

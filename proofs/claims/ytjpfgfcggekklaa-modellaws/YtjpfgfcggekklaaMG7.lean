/- Layer 6: the walks of slices.Delete and slices.Insert at pairs, given what the builtins do. -/
import Derived.Test.YtjpfgfcggekklaaMG6
import Derived.Lib.AppendZerosOnto
namespace Go.Proofs.Ytjpfgfcggekklaa
open Go.RowKit

set_option maxRecDepth 100000 in
set_option maxHeartbeats 1000000 in
theorem del_walk (g cap n m : Nat) (w : World) (hm : m < n) (hn : n ≤ cap) (hc : cap ≤ 9223372036854775807) (hcm : ¬ cap = m + 1) (W1 W2 : World) (H : ∀ ty, (Builtin.append_ #[ 22, 22] ty #[.slice (some ⟨g, 0, none⟩) m cap, .slice (some ⟨g, (m + 1) * 2, none⟩) (n - (m + 1)) (cap - (m + 1))]).run Try.prog w.drew = .ok (.slice (some ⟨g, 0, none⟩) (n - 1) cap) W1)
    (H2 : ∀ ty, (Builtin.clear_ #[ 22 ] ty #[.slice (some ⟨g, (n - 1) * 2, none⟩) (n - (n - 1)) (cap - (n - 1))]).run Try.prog W1 = .ok (.tuple #[]) W2) :
    Calls Try.prog 69 #[.slice (some ⟨g, 0, none⟩) n cap, .int .i64 m, .int .i64 ((m : Int) + 1)] w fun e w' => e = .returned (.slice (some ⟨g, 0, none⟩) (n - 1) cap) ∧ w' = W2 := by
  have HU : Hid (cap ≤ 9223372036854775807) := hc
  have q1 : ((m : Int) == (m : Int) + 1) = false := by simp; omega
  have q0 : (m : Int) + 1 ≤ (n : Int) := by omega
  have q2 : m ≤ cap := by omega
  have q3 : m + 1 ≤ cap := by omega
  have q4 : ((m : Int) + 1).toNat = m + 1 := by omega
  have q5 : (m : Int) + 1 ≤ (cap : Int) := by omega
  have q6 : n - 1 ≤ cap := by omega
  have q7 : ¬ cap = n - 1 := by omega
  have q8 : (0 : Int) ≤ (m : Int) + 1 := by omega
  have mixed : Try.prog.follows .mixedOrders = true := by kernel_rfl
  go_enter Try.func69, Try.ntmps69
  go_wp2_with fail
  go_region_law_o (refine step_append_runI rfl (.tmp 22) (.tmp 25) 22 22 rfl (.slice (some ⟨g, 0, none⟩) m cap) (.slice (some ⟨g, (m + 1) * 2, none⟩) (n - (m + 1)) (cap - (m + 1))) (by simp [Act.eval, Act.put]) (by simp [Act.eval, Act.put]) (H _) ?_)
  go_wp2_with fail
  go_ret
  exact ⟨rfl, rfl⟩

set_option maxRecDepth 100000 in
set_option maxHeartbeats 1000000 in
theorem del_walk2 (g m : Nat) (w : World) (hc : m + 1 ≤ 9223372036854775807) (W1 W2 : World) (H : ∀ ty, (Builtin.append_ #[ 22, 22 ] ty #[.slice (some ⟨g, 0, none⟩) m (m + 1), .slice (some ⟨g, 0, none⟩) 0 0]).run Try.prog w.drew = .ok (.slice (some ⟨g, 0, none⟩) m (m + 1)) W1)
    (H2 : ∀ ty, (Builtin.clear_ #[ 22 ] ty #[.slice (some ⟨g, m * 2, none⟩) 1 1]).run Try.prog W1 = .ok (.tuple #[]) W2) :
    Calls Try.prog 69 #[.slice (some ⟨g, 0, none⟩) (m + 1) (m + 1), .int .i64 m, .int .i64 ((m : Int) + 1)] w fun e w' => e = .returned (.slice (some ⟨g, 0, none⟩) m (m + 1)) ∧ w' = W2 := by
  have q1 : ((m : Int) == (m : Int) + 1) = false := by simp; omega
  have q2 : (m : Int) ≤ (m : Int) + 1 := by omega
  have q4 : ((m : Int) + 1).toNat = m + 1 := by omega
  have q7 : ¬ m + 1 = m := by omega
  have q8 : (0 : Int) ≤ (m : Int) + 1 := by omega
  have q9 : m + 1 - m = 1 := by omega
  have HU : Hid (m + 1 ≤ 9223372036854775807) := hc
  have mixed : Try.prog.follows .mixedOrders = true := by kernel_rfl
  go_enter Try.func69, Try.ntmps69
  go_wp2_with fail
  go_region_law_o (refine step_append_runI rfl (.tmp 22) (.tmp 25) 22 22 rfl (.slice (some ⟨g, 0, none⟩) m (m + 1)) (.slice (some ⟨g, 0, none⟩) 0 0) (by simp [Act.eval, Act.put]) (by simp [Act.eval, Act.put]) (H _) ?_)
  go_wp2_with fail
  go_ret
  exact ⟨rfl, rfl⟩

set_option maxRecDepth 100000 in
set_option maxHeartbeats 1000000 in
theorem ins_grow_walk (g cap n m N G vb : Nat) (w : World) (hm : m < n) (hn : n ≤ cap) (hcn : cap < n + 1) (hc : n + 1 ≤ 9223372036854775807) (hG : n + 1 ≤ G) (hG63 : G ≤ 9223372036854775807) (W1 W2 W3 : World) (r2 r3 : Value)
    (H1 : ∀ ty, (Builtin.append_ #[ 22, 3] ty #[.slice (some ⟨g, 0, none⟩) m cap, .int .i64 ((n : Int) + 1 - (m : Int))]).run Try.prog w = .ok (.slice (some ⟨N, 0, none⟩) (n + 1) G) W1)
    (H2 : ∀ ty, (Builtin.copy_ #[ 22, 22] ty #[.slice (some ⟨N, m * 2, none⟩) (n + 1 - m) (G - m), .slice (some ⟨vb, 0, none⟩) 1 1]).run Try.prog W1 = .ok r2 W2)
    (H3 : ∀ ty, (Builtin.copy_ #[ 22, 22] ty #[.slice (some ⟨N, (m + 1) * 2, none⟩) (n + 1 - (m + 1)) (G - (m + 1)), .slice (some ⟨g, m * 2, none⟩) (n - m) (cap - m)]).run Try.prog W2.drew = .ok r3 W3) :
    Calls Try.prog 70 #[.slice (some ⟨g, 0, none⟩) n cap, .int .i64 m, .slice (some ⟨vb, 0, none⟩) 1 1] w fun e w' => e = .returned (.slice (some ⟨N, 0, none⟩) (n + 1) G) ∧ w' = W3 := by
  have q1 : ((m : Int) == (n : Int)) = false := by simp; omega
  have q2 : decide ((cap : Int) < (n : Int) + 1) = true := decide_eq_true (by omega)
  have q3 : (cap : Int) < (n : Int) + 1 := by omega
  have q4 : m ≤ cap := by omega
  have q5 : (m : Int) ≤ (n : Int) := by omega
  have q6 : ¬ cap = m := by omega
  have q7 : ¬ G = m := by omega
  have q8 : ¬ G = m + 1 := by omega
  have q9 : (m : Int) ≤ (n : Int) + 1 := by omega
  have q10 : (m : Int) + 1 ≤ (n : Int) + 1 := by omega
  have q11 : ((m : Int) + 1).toNat = m + 1 := by omega
  have q12 : (0 : Int) ≤ (m : Int) + 1 := by omega
  have q13 : IntKind.i64.wrap ((m : Int) + 1) = (m : Int) + 1 := by rw [IntKind.wrap_i64]; omega
  have q14 : m ≤ n + 1 := by omega
  have q15 : m + 1 ≤ n + 1 := by omega
  have q16 : m ≤ n := by omega
  have mixed : Try.prog.follows .mixedOrders = true := by kernel_rfl
  go_enter Try.func70, Try.ntmps70
  go_wp2_with (first
    | (at_builtin; refine Lib.wpList_append_run _ rfl _ _ _ _ rfl _ _ rfl rfl _ _ (H1 _) ?_)
    | (at_builtin; refine wpList_copy_runI _ rfl _ _ 22 22 rfl _ _ rfl rfl (H2 _) ?_))
  go_region_law_o (refine step_copy_runI rfl _ _ 22 22 rfl (.slice (some ⟨N, (m + 1) * 2, none⟩) (n + 1 - (m + 1)) (G - (m + 1))) (.slice (some ⟨g, m * 2, none⟩) (n - m) (cap - m)) (by simp [Act.eval, Act.put]) (by simp [Act.eval, Act.put]) (H3 _) ?_)
  go_wp2_with fail
  go_ret
  exact ⟨rfl, rfl⟩

set_option maxRecDepth 100000 in
set_option maxHeartbeats 1000000 in
theorem ins_shift_walk (g cap n m vb : Nat) (w : World) (hm : m < n) (hcn : n + 1 ≤ cap) (hc : cap ≤ 9223372036854775807) (W1 W2 : World) (r1 r2 : Value)
    (hov : ∀ lb cb, (callFunc 75 #[.slice (some ⟨vb, 0, none⟩) 1 1, .slice (some ⟨g, (m + 1) * 2, none⟩) lb cb]).run Try.prog w = .ok (.value (.bool false)) w)
    (H1 : ∀ ty, (Builtin.copy_ #[ 22, 22] ty #[.slice (some ⟨g, (m + 1) * 2, none⟩) (n + 1 - (m + 1)) (cap - (m + 1)), .slice (some ⟨g, m * 2, none⟩) (n + 1 - m) (cap - m)]).run Try.prog w.drew = .ok r1 W1)
    (H2 : ∀ ty, (Builtin.copy_ #[ 22, 22] ty #[.slice (some ⟨g, m * 2, none⟩) (n + 1 - m) (cap - m), .slice (some ⟨vb, 0, none⟩) 1 1]).run Try.prog W1 = .ok r2 W2) :
    Calls Try.prog 70 #[.slice (some ⟨g, 0, none⟩) n cap, .int .i64 m, .slice (some ⟨vb, 0, none⟩) 1 1] w fun e w' => e = .returned (.slice (some ⟨g, 0, none⟩) (n + 1) cap) ∧ w' = W2 := by
  have q1 : ((m : Int) == (n : Int)) = false := by simp; omega
  have q2 : decide ((cap : Int) < (n : Int) + 1) = false := decide_eq_false (by omega)
  have q3 : ¬ (cap : Int) < (n : Int) + 1 := by omega
  have q4 : m ≤ cap := by omega
  have q5 : (m : Int) ≤ (n : Int) := by omega
  have q6 : ¬ cap = m := by omega
  have q8 : ¬ cap = m + 1 := by omega
  have q9 : (m : Int) ≤ (n : Int) + 1 := by omega
  have q10 : (m : Int) + 1 ≤ (n : Int) + 1 := by omega
  have q11 : ((m : Int) + 1).toNat = m + 1 := by omega
  have q12 : (0 : Int) ≤ (m : Int) + 1 := by omega
  have q13 : IntKind.i64.wrap ((m : Int) + 1) = (m : Int) + 1 := by rw [IntKind.wrap_i64]; omega
  have q14 : m ≤ n + 1 := by omega
  have q15 : m + 1 ≤ n + 1 := by omega
  have q16 : m ≤ n := by omega
  have q17 : (n : Int) + 1 ≤ (cap : Int) := by omega
  have q18 : ((n : Int) + 1).toNat = n + 1 := by omega
  have q19 : (0 : Int) ≤ (n : Int) + 1 := by omega
  have mixed : Try.prog.follows .mixedOrders = true := by kernel_rfl
  go_enter Try.func70, Try.ntmps70
  go_wp2_with (simp only [hov])
  go_region_law_o (refine step_copy_runI rfl _ _ 22 22 rfl (.slice (some ⟨g, (m + 1) * 2, none⟩) (n + 1 - (m + 1)) (cap - (m + 1))) (.slice (some ⟨g, m * 2, none⟩) (n + 1 - m) (cap - m)) (by simp [Act.eval, Act.put]) (by simp [Act.eval, Act.put]) (H1 _) ?_)
  go_wp2_with (at_builtin; refine wpList_copy_runI _ rfl _ _ 22 22 rfl _ _ rfl rfl (H2 _) ?_)
  go_ret
  exact ⟨rfl, rfl⟩
end Go.Proofs.Ytjpfgfcggekklaa

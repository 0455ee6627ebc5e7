/- What the reference's can, asked and one answer. -/
import Derived.Test.YtffnoaafmaeihaaGreatLaw1
import Derived.Deep.QuietTactic
import Derived.BigQuiet
namespace Go.Proofs.YtffnoaafmaeihaaGreat
open Go.RowKit

theorem refCan_any (k d : Int) (w : World) : Calls Tryz.prog 20 #[.int .i64 k, .int .i64 d] w fun e w' => e = .returned (.bool (can k d)) ∧ w = w' := by
  by_cases h1 : 1 ≤ d
  · by_cases h7 : d ≤ 7
    · have hd : d = 1 ∨ d = 2 ∨ d = 3 ∨ d = 4 ∨ d = 5 ∨ d = 6 ∨ d = 7 := by omega
      by_cases hk : (k != 5) = true
      · have hc : can k d = true := by
          have : k ≠ 5 := by simpa using hk
          rcases hd with rfl | rfl | rfl | rfl | rfl | rfl | rfl <;> simp [can, this]
        rw [hc]
        clear hc hd
        go_enter Tryz.func20, Tryz.ntmps20
        go_wp2
        all_goals
          go_ret
          exact ⟨by simp [*], rfl⟩
      · have hk5 : k = 5 := by simpa using hk
        subst hk5
        clear hk h1 h7
        rcases hd with rfl | rfl | rfl | rfl | rfl | rfl | rfl
        all_goals
          go_enter Tryz.func20, Tryz.ntmps20
          go_wp2
          go_ret
          exact ⟨rfl, rfl⟩
    · have hc : can k d = false := by simp [can]; omega
      have h7' : 7 < d := by omega
      rw [hc]
      clear hc h7
      go_enter Tryz.func20, Tryz.ntmps20
      go_wp2
      all_goals
        go_ret
        exact ⟨by simp [*], rfl⟩
  · have hc : can k d = false := by simp [can]; omega
    have h1' : d < 1 := by omega
    rw [hc]
    clear hc h1
    go_enter Tryz.func20, Tryz.ntmps20
    go_wp2
    all_goals
      go_ret
      exact ⟨by simp [*], rfl⟩

set_option maxHeartbeats 400000 in
theorem asked_any (k : Int) (ab ao n cap : Nat) (dk da db : Nat → Int) (w : World) (base : Option Addr) (h : Acts w base ab ao n dk da db) :
    Calls Tryz.prog 13 #[.int .i64 k, .slice base n cap] w fun e w' => e = .returned (.int .i64 (rowErr k n dk)) ∧ w = w' := by
  have hn := h.len
  unfold maxLen at hn
  by_cases h1 : isK k = true
  · by_cases h2 : 10000 < n
    · have e := rowErr_big (dk := dk) h1 h2
      rw [e]
      go_enter Tryz.func13, Tryz.ntmps13
      go_wp2_with (go_at_call 19; refine (refIs_any _ _).mono ?_; rintro e w' ⟨rfl, rfl⟩)
      go_ret
      exact ⟨rfl, rfl⟩
    · have HA : Hid _ := h
      clear h
      go_enter Tryz.func13, Tryz.ntmps13
      go_wp2_with (go_at_call 19; refine (refIs_any _ _).mono ?_; rintro e w' ⟨rfl, rfl⟩)
      go_loop [5] (fun i => ∃ j : Nat, j ≤ n ∧ i = .int .i64 j ∧ allCan k dk j = true) (fun i => n - (intOf i).toNat)
      case atStart => exact ⟨0, Nat.zero_le _, rfl, rfl⟩
      case round =>
        obtain ⟨j, hj, rfl, hall⟩ := hrel
        by_cases hlt : j < n
        · obtain rfl : base = some ⟨ab, ao, none⟩ := HA.out.base (by omega)
          obtain ⟨c0, _, _⟩ := HA.out.cells j hlt
          have j0 : (0 : Int) ≤ (j : Int) := Int.natCast_nonneg _
          have j1 : (j : Int) < (n : Int) := by omega
          go_wp2_with (go_at_call 20; refine (refCan_any _ _ _).mono ?_; rintro e w' ⟨rfl, rfl⟩)
          · have hcan : can k (dk j) = false := by simpa using ‹(!can k (dk j)) = true›
            have e := rowErr_act (n := n) h1 h2 (allCan_not hlt hcan)
            go_ret
            exact ⟨by simp [e], rfl⟩
          · have hcan : can k (dk j) = true := by simpa using ‹(!can k (dk j)) = false›
            exact ⟨⟨j + 1, by omega, by go_num, by simp [allCan, hall, hcan]⟩, by simp [intOf]; omega⟩
        · have hjn : j = n := by omega
          subst hjn
          have he : Hid (rowErr k j dk = 0) := rowErr_none h1 h2 hall
          go_wp2
          go_ret
          exact ⟨by rw [he.out]; rfl, rfl⟩
  · have h1' : isK k = false := by simpa using h1
    have e := rowErr_kind (n := n) (dk := dk) h1'
    rw [e]
    go_enter Tryz.func13, Tryz.ntmps13
    go_wp2_with (go_at_call 19; refine (refIs_any _ _).mono ?_; rintro e w' ⟨rfl, rfl⟩)
    go_ret
    exact ⟨rfl, rfl⟩

theorem cut_add (k v a : Int) (hk : k ≠ 5) : cut k (IntKind.u64.wrap (v + cut k a)) = cut k (v + a) := by
  rw [IntKind.wrap_u64]
  unfold cut
  rw [if_neg hk, if_neg hk, if_neg hk]
  split
  · unfold lo32; omega
  · unfold lo64; omega

theorem refCut_same (k v : Int) (hv : U64 v) : ∀ w : World, Calls Tryz.prog 14 #[.int .i64 k, .int .u64 v] w fun e w' => e = .returned (.int .u64 (cut k v)) ∧ w' = w := by
  intro w
  refine (refCut_any k v hv w).mono ?_
  rintro e w' ⟨rfl, rfl⟩
  exact ⟨rfl, rfl⟩

theorem below_two (w : World) (o1 o2 : Obj) (n : Nat) : Below w.heap.size w (((w.alloc o1).alloc o2).drewN n) := below_drewN (((Below.refl _ _).alloc (Nat.le_refl _) _).alloc (by simp) _) n
theorem below_set2 {w W : World} (h : Below w.heap.size w W) (u v : Value) : Below w.heap.size w ((W.setCell ⟨w.heap.size + 1, 0, none⟩ u).setCell ⟨w.heap.size + 1, 1, none⟩ v) :=
  (h.setCell (p := ⟨w.heap.size + 1, 0, none⟩) (by simp) _).setCell (p := ⟨w.heap.size + 1, 1, none⟩) (by simp) _

set_option maxRecDepth 100000 in
set_option maxHeartbeats 1000000 in
theorem refOne_1 (k v a b x y : Int) (HA : Hid (∀ w : World, Calls Tryz.prog 14 #[.int .i64 k, .int .u64 a] w fun e w' => e = .returned (.int .u64 x) ∧ w' = w)) (HB : Hid (∀ w : World, Calls Tryz.prog 14 #[.int .i64 k, .int .u64 b] w fun e w' => e = .returned (.int .u64 y) ∧ w' = w)) (w : World) :
    Calls Tryz.prog 15 #[.int .i64 k, .int .u64 v, .agg #[.int .i64 1, .int .u64 a, .int .u64 b]] w fun e w' => e = .returned (.tuple #[.agg #[.int .u64 v, .bool true], .int .u64 v]) ∧ Below w.heap.size w w' := by
  go_enter Tryz.func15, Tryz.ntmps15
  go_wp2_with fail
  go_quiet ((first | (go_at_call_of 14 (Value.int IntKind.u64 a); exact Calls.quiet_of_same (HA.out _)) | (go_at_call 14; exact Calls.quiet_of_same (HB.out _))))
  go_wp2
  refine bodyPost_ret (v := .tuple #[.agg #[.int .u64 v, .bool true], .int .u64 v]) (by simp [results, Tryz.results15, go_sem]) rfl ⟨rfl, ?_⟩
  first
    | exact below_two _ _ _ _
    | exact below_set2 (below_two _ _ _ _) _ _

set_option maxRecDepth 100000 in
set_option maxHeartbeats 1000000 in
theorem refOne_2 (k v a b x y : Int) (HA : Hid (∀ w : World, Calls Tryz.prog 14 #[.int .i64 k, .int .u64 a] w fun e w' => e = .returned (.int .u64 x) ∧ w' = w)) (HB : Hid (∀ w : World, Calls Tryz.prog 14 #[.int .i64 k, .int .u64 b] w fun e w' => e = .returned (.int .u64 y) ∧ w' = w)) (w : World) :
    Calls Tryz.prog 15 #[.int .i64 k, .int .u64 v, .agg #[.int .i64 2, .int .u64 a, .int .u64 b]] w fun e w' => e = .returned (.tuple #[.agg #[.int .u64 0, .bool true], .int .u64 x]) ∧ Below w.heap.size w w' := by
  go_enter Tryz.func15, Tryz.ntmps15
  go_wp2_with fail
  go_quiet ((first | (go_at_call_of 14 (Value.int IntKind.u64 a); exact Calls.quiet_of_same (HA.out _)) | (go_at_call 14; exact Calls.quiet_of_same (HB.out _))))
  go_wp2
  refine bodyPost_ret (v := .tuple #[.agg #[.int .u64 0, .bool true], .int .u64 x]) (by simp [results, Tryz.results15, go_sem]) rfl ⟨rfl, ?_⟩
  first
    | exact below_two _ _ _ _
    | exact below_set2 (below_two _ _ _ _) _ _

set_option maxRecDepth 100000 in
set_option maxHeartbeats 1000000 in
theorem refOne_3 (k v a b x y s : Int) (HA : Hid (∀ w : World, Calls Tryz.prog 14 #[.int .i64 k, .int .u64 a] w fun e w' => e = .returned (.int .u64 x) ∧ w' = w)) (HB : Hid (∀ w : World, Calls Tryz.prog 14 #[.int .i64 k, .int .u64 b] w fun e w' => e = .returned (.int .u64 y) ∧ w' = w)) (HS : Hid (∀ w : World, Calls Tryz.prog 14 #[.int .i64 k, .int .u64 (IntKind.u64.wrap (v + x))] w fun e w' => e = .returned (.int .u64 s) ∧ w' = w)) (w : World) :
    Calls Tryz.prog 15 #[.int .i64 k, .int .u64 v, .agg #[.int .i64 3, .int .u64 a, .int .u64 b]] w fun e w' => e = .returned (.tuple #[.agg #[.int .u64 s, .bool true], .int .u64 s]) ∧ Below w.heap.size w w' := by
  go_enter Tryz.func15, Tryz.ntmps15
  go_wp2_with fail
  go_quiet ((first | (go_at_call_of 14 (Value.int IntKind.u64 a); exact Calls.quiet_of_same (HA.out _)) | (go_at_call 14; exact Calls.quiet_of_same (HB.out _))))
  go_wp2_with (first | (go_at_call 14; refine Calls.mono (HS.out _) ?_; rintro e w' ⟨rfl, rfl⟩))
  refine bodyPost_ret (v := .tuple #[.agg #[.int .u64 s, .bool true], .int .u64 s]) (by simp [results, Tryz.results15, go_sem]) rfl ⟨rfl, ?_⟩
  first
    | exact below_two _ _ _ _
    | exact below_set2 (below_two _ _ _ _) _ _

set_option maxRecDepth 100000 in
set_option maxHeartbeats 1000000 in
theorem refOne_4 (k v a b x y : Int) (HA : Hid (∀ w : World, Calls Tryz.prog 14 #[.int .i64 k, .int .u64 a] w fun e w' => e = .returned (.int .u64 x) ∧ w' = w)) (HB : Hid (∀ w : World, Calls Tryz.prog 14 #[.int .i64 k, .int .u64 b] w fun e w' => e = .returned (.int .u64 y) ∧ w' = w)) (w : World) :
    Calls Tryz.prog 15 #[.int .i64 k, .int .u64 v, .agg #[.int .i64 4, .int .u64 a, .int .u64 b]] w fun e w' => e = .returned (.tuple #[.agg #[.int .u64 v, .bool true], .int .u64 x]) ∧ Below w.heap.size w w' := by
  go_enter Tryz.func15, Tryz.ntmps15
  go_wp2_with fail
  go_quiet ((first | (go_at_call_of 14 (Value.int IntKind.u64 a); exact Calls.quiet_of_same (HA.out _)) | (go_at_call 14; exact Calls.quiet_of_same (HB.out _))))
  go_wp2
  refine bodyPost_ret (v := .tuple #[.agg #[.int .u64 v, .bool true], .int .u64 x]) (by simp [results, Tryz.results15, go_sem]) rfl ⟨rfl, ?_⟩
  first
    | exact below_two _ _ _ _
    | exact below_set2 (below_two _ _ _ _) _ _

set_option maxRecDepth 100000 in
set_option maxHeartbeats 1000000 in
theorem refOne_hit (k v a b x y : Int) (HA : Hid (∀ w : World, Calls Tryz.prog 14 #[.int .i64 k, .int .u64 a] w fun e w' => e = .returned (.int .u64 x) ∧ w' = w)) (HB : Hid (∀ w : World, Calls Tryz.prog 14 #[.int .i64 k, .int .u64 b] w fun e w' => e = .returned (.int .u64 y) ∧ w' = w)) (hq : (v == x) = true) (w : World) :
    Calls Tryz.prog 15 #[.int .i64 k, .int .u64 v, .agg #[.int .i64 5, .int .u64 a, .int .u64 b]] w fun e w' => e = .returned (.tuple #[.agg #[.int .u64 0, .bool true], .int .u64 y]) ∧ Below w.heap.size w w' := by
  go_enter Tryz.func15, Tryz.ntmps15
  go_wp2_with fail
  go_quiet ((first | (go_at_call_of 14 (Value.int IntKind.u64 a); exact Calls.quiet_of_same (HA.out _)) | (go_at_call 14; exact Calls.quiet_of_same (HB.out _))))
  go_wp2
  refine bodyPost_ret (v := .tuple #[.agg #[.int .u64 0, .bool true], .int .u64 y]) (by simp [results, Tryz.results15, go_sem]) rfl ⟨rfl, ?_⟩
  first
    | exact below_two _ _ _ _
    | exact below_set2 (below_two _ _ _ _) _ _

set_option maxRecDepth 100000 in
set_option maxHeartbeats 1000000 in
theorem refOne_miss (k v a b x y : Int) (HA : Hid (∀ w : World, Calls Tryz.prog 14 #[.int .i64 k, .int .u64 a] w fun e w' => e = .returned (.int .u64 x) ∧ w' = w)) (HB : Hid (∀ w : World, Calls Tryz.prog 14 #[.int .i64 k, .int .u64 b] w fun e w' => e = .returned (.int .u64 y) ∧ w' = w)) (hq : (v == x) = false) (w : World) :
    Calls Tryz.prog 15 #[.int .i64 k, .int .u64 v, .agg #[.int .i64 5, .int .u64 a, .int .u64 b]] w fun e w' => e = .returned (.tuple #[.agg #[.int .u64 0, .bool false], .int .u64 v]) ∧ Below w.heap.size w w' := by
  go_enter Tryz.func15, Tryz.ntmps15
  go_wp2_with fail
  go_quiet ((first | (go_at_call_of 14 (Value.int IntKind.u64 a); exact Calls.quiet_of_same (HA.out _)) | (go_at_call 14; exact Calls.quiet_of_same (HB.out _))))
  go_wp2
  refine bodyPost_ret (v := .tuple #[.agg #[.int .u64 0, .bool false], .int .u64 v]) (by simp [results, Tryz.results15, go_sem]) rfl ⟨rfl, ?_⟩
  first
    | exact below_two _ _ _ _
    | exact below_set2 (below_two _ _ _ _) _ _

set_option maxRecDepth 100000 in
set_option maxHeartbeats 1000000 in
theorem refOne_6 (k v a b x y : Int) (HA : Hid (∀ w : World, Calls Tryz.prog 14 #[.int .i64 k, .int .u64 a] w fun e w' => e = .returned (.int .u64 x) ∧ w' = w)) (HB : Hid (∀ w : World, Calls Tryz.prog 14 #[.int .i64 k, .int .u64 b] w fun e w' => e = .returned (.int .u64 y) ∧ w' = w)) (w : World) :
    Calls Tryz.prog 15 #[.int .i64 k, .int .u64 v, .agg #[.int .i64 6, .int .u64 a, .int .u64 b]] w fun e w' => e = .returned (.tuple #[.agg #[.int .u64 v, .bool true], .int .u64 (bits .and .u64 v x)]) ∧ Below w.heap.size w w' := by
  go_enter Tryz.func15, Tryz.ntmps15
  go_wp2_with fail
  go_quiet ((first | (go_at_call_of 14 (Value.int IntKind.u64 a); exact Calls.quiet_of_same (HA.out _)) | (go_at_call 14; exact Calls.quiet_of_same (HB.out _))))
  go_wp2
  refine bodyPost_ret (v := .tuple #[.agg #[.int .u64 v, .bool true], .int .u64 (bits .and .u64 v x)]) (by simp [results, Tryz.results15, go_sem]) rfl ⟨rfl, ?_⟩
  first
    | exact below_two _ _ _ _
    | exact below_set2 (below_two _ _ _ _) _ _

set_option maxRecDepth 100000 in
set_option maxHeartbeats 1000000 in
theorem refOne_7 (k v a b x y : Int) (HA : Hid (∀ w : World, Calls Tryz.prog 14 #[.int .i64 k, .int .u64 a] w fun e w' => e = .returned (.int .u64 x) ∧ w' = w)) (HB : Hid (∀ w : World, Calls Tryz.prog 14 #[.int .i64 k, .int .u64 b] w fun e w' => e = .returned (.int .u64 y) ∧ w' = w)) (w : World) :
    Calls Tryz.prog 15 #[.int .i64 k, .int .u64 v, .agg #[.int .i64 7, .int .u64 a, .int .u64 b]] w fun e w' => e = .returned (.tuple #[.agg #[.int .u64 v, .bool true], .int .u64 (bits .or .u64 v x)]) ∧ Below w.heap.size w w' := by
  go_enter Tryz.func15, Tryz.ntmps15
  go_wp2_with fail
  go_quiet ((first | (go_at_call_of 14 (Value.int IntKind.u64 a); exact Calls.quiet_of_same (HA.out _)) | (go_at_call 14; exact Calls.quiet_of_same (HB.out _))))
  go_wp2
  refine bodyPost_ret (v := .tuple #[.agg #[.int .u64 v, .bool true], .int .u64 (bits .or .u64 v x)]) (by simp [results, Tryz.results15, go_sem]) rfl ⟨rfl, ?_⟩
  first
    | exact below_two _ _ _ _
    | exact below_set2 (below_two _ _ _ _) _ _

theorem refOne_any (k v d a b : Int) (hv : Cn k v) (ha : U64 a) (hb : U64 b) (hd : can k d = true) (w : World) :
    Calls Tryz.prog 15 #[.int .i64 k, .int .u64 v, .agg #[.int .i64 d, .int .u64 a, .int .u64 b]] w fun e w' => e = .returned (.tuple #[.agg #[.int .u64 (ov k v d a), .bool (ok k v d a)], .int .u64 (nx k v d a b)]) ∧ Below w.heap.size w w' := by
  have HA := refCut_same k a ha
  have HB := refCut_same k b hb
  have uv := Cn_u64 hv
  have ux := Cn_u64 (Cn_cut k a)
  have hd' : d = 1 ∨ d = 2 ∨ d = 3 ∨ d = 4 ∨ d = 5 ∨ d = 6 ∨ d = 7 := by simp [can] at hd; omega
  rcases hd' with rfl | rfl | rfl | rfl | rfl | rfl | rfl
  · rw [show ov k v 1 a = v from by simp [ov], show ok k v 1 a = true from by simp [ok], show nx k v 1 a b = v from by simp [nx]]
    exact refOne_1 k v a b _ _ HA HB w
  · rw [show ov k v 2 a = 0 from by simp [ov], show ok k v 2 a = true from by simp [ok], show nx k v 2 a b = cut k a from by simp [nx]]
    exact refOne_2 k v a b _ _ HA HB w
  · rw [show ov k v 3 a = cut k (v + a) from by simp [ov], show ok k v 3 a = true from by simp [ok], show nx k v 3 a b = cut k (v + a) from by simp [nx], ← cut_add k v a (can_and hd (Or.inr (Or.inr rfl)))]
    exact refOne_3 k v a b _ _ _ HA HB (refCut_same k _ (by rw [IntKind.wrap_u64]; unfold U64; omega)) w
  · rw [show ov k v 4 a = v from by simp [ov], show ok k v 4 a = true from by simp [ok], show nx k v 4 a b = cut k a from by simp [nx]]
    exact refOne_4 k v a b _ _ HA HB w
  · by_cases hh : v = cut k a
    · rw [show ov k v 5 a = 0 from by simp [ov], show ok k v 5 a = true from by simp [ok, hh], show nx k v 5 a b = cut k b from by simp [nx, hh]]
      exact refOne_hit k v a b _ _ HA HB (by simp [hh]) w
    · rw [show ov k v 5 a = 0 from by simp [ov], show ok k v 5 a = false from by simp [ok, hh], show nx k v 5 a b = v from by simp [nx, hh]]
      exact refOne_miss k v a b _ _ HA HB (by simp [hh]) w
  · rw [show ov k v 6 a = v from by simp [ov], show ok k v 6 a = true from by simp [ok], show nx k v 6 a b = ((v.toNat &&& (cut k a).toNat : Nat) : Int) from by simp [nx], ← u64_and v (cut k a) uv.1 uv.2 ux.1 ux.2]
    exact refOne_6 k v a b _ _ HA HB w
  · rw [show ov k v 7 a = v from by simp [ov], show ok k v 7 a = true from by simp [ok], show nx k v 7 a b = ((v.toNat ||| (cut k a).toNat : Nat) : Int) from by simp [nx], ← u64_or v (cut k a) uv.1 uv.2 ux.1 ux.2]
    exact refOne_7 k v a b _ _ HA HB w
end Go.Proofs.YtffnoaafmaeihaaGreat

/- Layer 2: where Marks refuses, the program's and the reference's. -/
import Derived.Test.YtlbfkgecckdlgaaCRefM
namespace Go.Proofs.Ytlbfkgecckdlgaa
open Go.RowKit

/-- The error of Marks. -/
def msErr (m n : Nat) (dk di : Nat → Int) : Int := if 64 < m ∨ 1000 < n then 2 else frst (fun j => ceErr (dk j) (di j) m) n

set_option maxRecDepth 100000 in
theorem marks_big (m ca n cap : Nat) (x base : Option Addr) (w : World) (hbig : 64 < m ∨ 1000 < n) :
    Calls Try.prog 44 #[.slice x m ca, .slice base n cap] w fun e w' => e = .returned (.tuple #[.slice none 0 0, .slice none 0 0, .slice none 0 0, .int .i64 2]) ∧ Below w.heap.size w w' := by
  have hb : decide (64 < m ∨ 1000 < n) = true := by rw [decide_eq_true]; exact hbig
  clear hbig
  go_enter Try.func44, Try.ntmps44
  go_wp2_with (first | (go_at_call 51; refine (tooMany_any _ _ _).mono ?_; rintro e w' ⟨rfl, rfl⟩))
  (try simp only [Exit.inBlock, Exit.then]); refine bodyPost_ret (results_tmp4 rfl _ _ _) rfl ?_
  exact ⟨rfl, (Below.refl _ _).alloc (Nat.le_refl _) _⟩

set_option maxRecDepth 100000 in
set_option maxHeartbeats 1000000 in
theorem marks_bad (m ca ab ao n cap : Nat) (x base : Option Addr) (dk di da db : Nat → Int) (w : World) (h : CActs w base ab ao n dk di da db) (hbig : ¬ (64 < m ∨ 1000 < n)) (he : ¬ frst (fun j => ceErr (dk j) (di j) m) n = 0) :
    Calls Try.prog 44 #[.slice x m ca, .slice base n cap] w fun e w' => e = .returned (.tuple #[.slice none 0 0, .slice none 0 0, .slice none 0 0, .int .i64 (frst (fun j => ceErr (dk j) (di j) m) n)]) ∧ Below w.heap.size w w' := by
  have hmf := make_fn
  have hB1 : Below w.heap.size w (w.alloc (.cells #[.slice x m ca] 92)) := (Below.refl _ _).alloc (Nat.le_refl _) _
  have hb : decide (64 < m ∨ 1000 < n) = false := by rw [decide_eq_false]; exact hbig
  have hR := refused_marks w.heap.size x m ca ab ao n cap dk di da db (w.alloc (.cells #[.slice x m ca] 92)) base (h.kp (X := fun _ => False) (Kp.of_below hB1) (fun _ h => h)) (by simp) (by simp)
  generalize frst (fun j => ceErr (dk j) (di j) m) n = E at *
  have he' : (E != 0) = true := bne_iff_ne.2 he
  have HR : Hid _ := hR
  have HB : Hid _ := hB1
  clear hbig h hR he hB1
  go_enter Try.func44, Try.ntmps44
  go_wp2_with (first | (go_at_call 51; refine (tooMany_any _ _ _).mono ?_; rintro e w' ⟨rfl, rfl⟩) | (go_at_call 52; refine Calls.mono HR.out ?_; rintro e w2 ⟨rfl, hb2⟩))
  (try simp only [Exit.inBlock, Exit.then]); refine bodyPost_ret (results_tmp4 rfl _ _ _) rfl ?_
  exact ⟨rfl, HB.out.trans (hb2.mono HB.out.size)⟩

theorem marks_err (m ca ab ao n cap : Nat) (x base : Option Addr) (dk di da db : Nat → Int) (w : World) (h : CActs w base ab ao n dk di da db) (he : ¬ msErr m n dk di = 0) :
    Calls Try.prog 44 #[.slice x m ca, .slice base n cap] w fun e w' => e = .returned (.tuple #[.slice none 0 0, .slice none 0 0, .slice none 0 0, .int .i64 (msErr m n dk di)]) ∧ Below w.heap.size w w' := by
  unfold msErr at *
  by_cases hb : 64 < m ∨ 1000 < n
  · rw [if_pos hb]; exact marks_big m ca n cap x base w hb
  · rw [if_neg hb] at he ⊢; exact marks_bad m ca ab ao n cap x base dk di da db w h hb he


set_option maxRecDepth 100000 in
set_option maxHeartbeats 1000000 in
theorem refMarks_err (m ca ab ao n cap : Nat) (x base : Option Addr) (dk di da db : Nat → Int) (w : World) (h : CActs w base ab ao n dk di da db) (he : ¬ msErr m n dk di = 0) :
    Calls Try.prog 43 #[.slice x m ca, .slice base n cap] w fun e w' => e = .returned (.tuple #[.slice none 0 0, .slice none 0 0, .slice none 0 0, .int .i64 (msErr m n dk di)]) ∧ w = w' := by
  have m0 : (0 : Int) ≤ (m : Int) := Int.natCast_nonneg _
  by_cases h1 : 64 < m
  · have e : msErr m n dk di = 2 := by simp [msErr, h1]
    rw [e]
    have h1' : (64 : Int) < (m : Int) := by omega
    clear he h
    go_enter Try.func43, Try.ntmps43
    go_wp2
    (try simp only [Exit.inBlock, Exit.then]); refine bodyPost_ret (results_tmp4 rfl _ _ _) rfl ?_
    exact ⟨rfl, rfl⟩
  · by_cases h2 : 1000 < n
    · have e : msErr m n dk di = 2 := by simp [msErr, h2]
      rw [e]
      have h1' : ¬ (64 : Int) < (m : Int) := by omega
      have h2' : (1000 : Int) < (n : Int) := by omega
      clear he h
      go_enter Try.func43, Try.ntmps43
      go_wp2
      (try simp only [Exit.inBlock, Exit.then]); refine bodyPost_ret (results_tmp4 rfl _ _ _) rfl ?_
      exact ⟨rfl, rfl⟩
    · have e : msErr m n dk di = frst (fun j => ceErr (dk j) (di j) m) n := by unfold msErr; rw [if_neg]; omega
      rw [e] at he ⊢
      have h1' : ¬ (64 : Int) < (m : Int) := by omega
      have h2' : ¬ (1000 : Int) < (n : Int) := by omega
      have HA : Hid _ := h
      clear h e
      go_enter Try.func43, Try.ntmps43
      go_wp2_with fail
      go_loop [8] (fun i => ∃ j : Nat, j ≤ n ∧ i = .int .i64 j ∧ frst (fun j => ceErr (dk j) (di j) m) j = 0) (fun i => n - (intOf i).toNat)
      case atStart => exact ⟨0, Nat.zero_le _, rfl, rfl⟩
      case round =>
        obtain ⟨j, hj, rfl, hall⟩ := hrel
        by_cases hlt : j < n
        · obtain rfl : base = some ⟨ab, ao, none⟩ := HA.out.base (by omega)
          obtain ⟨c0, c1, _, _⟩ := HA.out.cells j hlt
          have j0 : (0 : Int) ≤ (j : Int) := Int.natCast_nonneg _
          have j1 : (j : Int) < (n : Int) := by omega
          have F0 : ∀ v, ceErr (dk j) (di j) m = v → v ≠ 0 → frst (fun j => ceErr (dk j) (di j) m) n = v := fun v hv h0 => (frst_at (f := fun j => ceErr (dk j) (di j) m) hall (by rw [hv]; exact h0) hlt).trans hv
          by_cases hd : dk j = 1 ∨ dk j = 2 ∨ dk j = 4 ∨ dk j = 5
          · have hd' : decide (dk j = 1 ∨ dk j = 2 ∨ dk j = 4 ∨ dk j = 5) = true := decide_eq_true hd
            by_cases h3 : di j < 0
            · have F : Hid _ := F0 1 (by unfold ceErr; rw [if_pos hd]; simp [plErr, h3]) (by omega)
              clear F0 hall hd he
              go_wp2_with (first | (go_at_call 96; refine (swapping_any _ _).mono ?_; rintro e w' ⟨rfl, rfl⟩))
              (try simp only [Exit.inBlock, Exit.then]); refine bodyPost_ret (results_tmp4 rfl _ _ _) rfl ?_
              exact ⟨by rw [F.out]; rfl, rfl⟩
            · by_cases h4 : (m : Int) ≤ di j
              · have F : Hid _ := F0 1 (by unfold ceErr; rw [if_pos hd]; simp [plErr, h4]) (by omega)
                clear F0 hall hd he
                go_wp2_with (first | (go_at_call 96; refine (swapping_any _ _).mono ?_; rintro e w' ⟨rfl, rfl⟩))
                (try simp only [Exit.inBlock, Exit.then]); refine bodyPost_ret (results_tmp4 rfl _ _ _) rfl ?_
                exact ⟨by rw [F.out]; rfl, rfl⟩
              · have F : Hid (frst (fun j => ceErr (dk j) (di j) m) (j + 1) = 0) := by
                  show frst (fun j => ceErr (dk j) (di j) m) (j + 1) = 0
                  have e : ceErr (dk j) (di j) m = 0 := by unfold ceErr; rw [if_pos hd]; unfold plErr; rw [if_neg (by omega)]
                  simp [frst, hall, e]
                clear F0 hall hd
                go_wp2_with (first | (go_at_call 96; refine (swapping_any _ _).mono ?_; rintro e w' ⟨rfl, rfl⟩))
                exact ⟨⟨j + 1, by omega, by go_num, F.out⟩, by simp [intOf]; omega⟩
          · have hd' : decide (dk j = 1 ∨ dk j = 2 ∨ dk j = 4 ∨ dk j = 5) = false := decide_eq_false hd
            have F : Hid _ := F0 5 (by unfold ceErr; rw [if_neg hd]) (by omega)
            clear F0 hall hd he
            go_wp2_with (first | (go_at_call 96; refine (swapping_any _ _).mono ?_; rintro e w' ⟨rfl, rfl⟩))
            (try simp only [Exit.inBlock, Exit.then]); refine bodyPost_ret (results_tmp4 rfl _ _ _) rfl ?_
            exact ⟨by rw [F.out]; rfl, rfl⟩
        · have hjn : j = n := by omega
          subst hjn
          exact absurd hall he
end Go.Proofs.Ytlbfkgecckdlgaa

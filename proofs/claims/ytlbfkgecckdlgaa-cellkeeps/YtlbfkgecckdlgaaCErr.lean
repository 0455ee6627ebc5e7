/- Layer 2: where Nums refuses, the program's and the reference's. -/
import Derived.Test.YtlbfkgecckdlgaaCRef4
namespace Go.Proofs.Ytlbfkgecckdlgaa
open Go.RowKit

/-- The error of Nums. -/
def nsErr (m n : Nat) (dk di : Nat → Int) : Int := if 64 < m ∨ 1000 < n then 2 else frst (fun j => nmErr (dk j) (di j) m) n

set_option maxRecDepth 100000 in
theorem nums_big (m ca n cap : Nat) (x base : Option Addr) (w : World) (hbig : 64 < m ∨ 1000 < n) :
    Calls Try.prog 13 #[.slice x m ca, .slice base n cap] w fun e w' => e = .returned (.tuple #[.slice none 0 0, .slice none 0 0, .slice none 0 0, .int .i64 2]) ∧ Below w.heap.size w w' := by
  have hb : decide (64 < m ∨ 1000 < n) = true := by rw [decide_eq_true]; exact hbig
  clear hbig
  go_enter Try.func13, Try.ntmps13
  go_wp2_with (first | (go_at_call 51; refine (tooMany_any _ _ _).mono ?_; rintro e w' ⟨rfl, rfl⟩))
  (try simp only [Exit.inBlock, Exit.then]); refine bodyPost_ret (results_tmp4 rfl _ _ _) rfl ?_
  exact ⟨rfl, (Below.refl _ _).alloc (Nat.le_refl _) _⟩

set_option maxRecDepth 100000 in
set_option maxHeartbeats 1000000 in
theorem nums_bad (m ca ab ao n cap : Nat) (x base : Option Addr) (dk di da db : Nat → Int) (w : World) (h : CActs w base ab ao n dk di da db) (hbig : ¬ (64 < m ∨ 1000 < n)) (he : ¬ frst (fun j => nmErr (dk j) (di j) m) n = 0) :
    Calls Try.prog 13 #[.slice x m ca, .slice base n cap] w fun e w' => e = .returned (.tuple #[.slice none 0 0, .slice none 0 0, .slice none 0 0, .int .i64 (frst (fun j => nmErr (dk j) (di j) m) n)]) ∧ Below w.heap.size w w' := by
  have hmf := make_fn
  have hB1 : Below w.heap.size w (w.alloc (.cells #[.slice x m ca] 22)) := (Below.refl _ _).alloc (Nat.le_refl _) _
  have hb : decide (64 < m ∨ 1000 < n) = false := by rw [decide_eq_false]; exact hbig
  have hR := refused_nums w.heap.size x m ca ab ao n cap dk di da db (w.alloc (.cells #[.slice x m ca] 22)) base (h.kp (X := fun _ => False) (Kp.of_below hB1) (fun _ h => h)) (by simp) (by simp)
  generalize frst (fun j => nmErr (dk j) (di j) m) n = E at *
  have he' : (E != 0) = true := bne_iff_ne.2 he
  have HR : Hid _ := hR
  have HB : Hid _ := hB1
  clear hbig h hR he hB1
  go_enter Try.func13, Try.ntmps13
  go_wp2_with (first | (go_at_call 51; refine (tooMany_any _ _ _).mono ?_; rintro e w' ⟨rfl, rfl⟩) | (go_at_call 52; refine Calls.mono HR.out ?_; rintro e w2 ⟨rfl, hb2⟩))
  (try simp only [Exit.inBlock, Exit.then]); refine bodyPost_ret (results_tmp4 rfl _ _ _) rfl ?_
  exact ⟨rfl, HB.out.trans (hb2.mono HB.out.size)⟩

theorem nums_err (m ca ab ao n cap : Nat) (x base : Option Addr) (dk di da db : Nat → Int) (w : World) (h : CActs w base ab ao n dk di da db) (he : ¬ nsErr m n dk di = 0) :
    Calls Try.prog 13 #[.slice x m ca, .slice base n cap] w fun e w' => e = .returned (.tuple #[.slice none 0 0, .slice none 0 0, .slice none 0 0, .int .i64 (nsErr m n dk di)]) ∧ Below w.heap.size w w' := by
  unfold nsErr at *
  by_cases hb : 64 < m ∨ 1000 < n
  · rw [if_pos hb]; exact nums_big m ca n cap x base w hb
  · rw [if_neg hb] at he ⊢; exact nums_bad m ca ab ao n cap x base dk di da db w h hb he

theorem refNums_err (m ca ab ao n cap : Nat) (x base : Option Addr) (dk di da db : Nat → Int) (w : World) (h : CActs w base ab ao n dk di da db) (he : ¬ nsErr m n dk di = 0) :
    Calls Try.prog 12 #[.slice x m ca, .slice base n cap] w fun e w' => e = .returned (.tuple #[.slice none 0 0, .slice none 0 0, .slice none 0 0, .int .i64 (nsErr m n dk di)]) ∧ w = w' := by
  have hB := bad_any m ab ao n cap dk di da db w base h
  have m0 : (0 : Int) ≤ (m : Int) := Int.natCast_nonneg _
  by_cases h1 : 64 < m
  · have e : nsErr m n dk di = 2 := by simp [nsErr, h1]
    rw [e]
    have h1' : (64 : Int) < (m : Int) := by omega
    clear he hB h
    go_enter Try.func12, Try.ntmps12
    go_wp2
    (try simp only [Exit.inBlock, Exit.then]); refine bodyPost_ret (results_tmp4 rfl _ _ _) rfl ?_
    exact ⟨rfl, rfl⟩
  · by_cases h2 : 1000 < n
    · have e : nsErr m n dk di = 2 := by simp [nsErr, h2]
      rw [e]
      have h1' : ¬ (64 : Int) < (m : Int) := by omega
      have h2' : (1000 : Int) < (n : Int) := by omega
      clear he hB h
      go_enter Try.func12, Try.ntmps12
      go_wp2
      (try simp only [Exit.inBlock, Exit.then]); refine bodyPost_ret (results_tmp4 rfl _ _ _) rfl ?_
      exact ⟨rfl, rfl⟩
    · have e : nsErr m n dk di = frst (fun j => nmErr (dk j) (di j) m) n := by unfold nsErr; rw [if_neg]; omega
      rw [e] at he ⊢
      have h1' : ¬ (64 : Int) < (m : Int) := by omega
      have h2' : ¬ (1000 : Int) < (n : Int) := by omega
      generalize frst (fun j => nmErr (dk j) (di j) m) n = E at *
      have he' : (E != 0) = true := bne_iff_ne.2 he
      have HB : Hid _ := hB
      clear he hB h e
      go_enter Try.func12, Try.ntmps12
      go_wp2_with (first | (go_at_call 48; refine Calls.mono HB.out ?_; rintro e w' ⟨rfl, rfl⟩))
      (try simp only [Exit.inBlock, Exit.then]); refine bodyPost_ret (results_tmp4 rfl _ _ _) rfl ?_
      exact ⟨rfl, rfl⟩
end Go.Proofs.Ytlbfkgecckdlgaa

/- Layer 2: where Ids refuses. -/
import Derived.Test.YtlbfkgecckdlgaaCIds2
namespace Go.Proofs.Ytlbfkgecckdlgaa
open Go.RowKit

/-- The error of Ids. -/
def isErr (m N : Nat) (T : Int) (f dk di da db : Nat → Int) : Int := if 64 < m ∨ 64 < T ∨ 1000 < N then 2 else if T < 0 then 1 else if allT f T m = false then 1 else frst (fun j => idErr (dk j) (di j) (da j) (db j) m T) N

set_option maxRecDepth 100000 in
set_option maxHeartbeats 1000000 in
theorem ids_err (cb co m ca ab ao N cap : Nat) (T : Int) (x base : Option Addr) (f dk di da db : Nat → Int) (w : World) (hx : NumsAt w x cb co m f) (h : CActs w base ab ao N dk di da db) (he : ¬ isErr m N T f dk di da db = 0) :
    Calls Try.prog 42 #[.slice x m ca, .int .i64 T, .slice base N cap] w fun e w' => e = .returned (.tuple #[.slice none 0 0, .slice none 0 0, .slice none 0 0, .int .i64 (isErr m N T f dk di da db)]) ∧ Below w.heap.size w w' := by
  have hmf := make_fn
  generalize hW0 : (w.alloc (.cells #[.slice x m ca] 22)).alloc (.cells #[.int .i64 T] 3) = W0
  have hB0 : Below w.heap.size w W0 := by rw [← hW0]; exact ((Below.refl _ _).alloc (Nat.le_refl _) _).alloc (by simp) _
  have HB0 : Hid _ := hB0
  have s0 : W0.heap.size = w.heap.size + 2 := by rw [← hW0]; simp
  have cv0 : W0.cell? ⟨w.heap.size, 0, none⟩ = some (.slice x m ca) := by rw [← hW0]; simp
  have ct0 : W0.cell? ⟨w.heap.size + 1, 0, none⟩ = some (.int .i64 T) := by rw [← hW0]; simp
  by_cases h1 : 64 < m ∨ 1000 < N
  · have e : isErr m N T f dk di da db = 2 := by unfold isErr; rw [if_pos (by omega)]
    rw [e]
    have hb : decide (64 < m ∨ 1000 < N) = true := decide_eq_true h1
    clear he h hx h1 e hB0
    go_enter Try.func42, Try.ntmps42
    go_wp2_with (first | (go_at_call 51; refine (tooMany_any _ _ _).mono ?_; rintro e w' ⟨rfl, rfl⟩))
    (try simp only [Exit.inBlock, Exit.then]); refine bodyPost_ret (results_tmp4 rfl _ _ _) rfl ?_
    exact ⟨rfl, HB0.out⟩
  · have hb : decide (64 < m ∨ 1000 < N) = false := decide_eq_false h1
    by_cases h2 : 64 < T
    · have e : isErr m N T f dk di da db = 2 := by unfold isErr; rw [if_pos (by omega)]
      rw [e]
      clear he h hx h1 e hB0
      go_enter Try.func42, Try.ntmps42
      go_wp2_with (first | (go_at_call 51; refine (tooMany_any _ _ _).mono ?_; rintro e w' ⟨rfl, rfl⟩))
      (try simp only [Exit.inBlock, Exit.then]); refine bodyPost_ret (results_tmp4 rfl _ _ _) rfl ?_
      exact ⟨rfl, HB0.out⟩
    · by_cases h3 : T < 0
      · have e : isErr m N T f dk di da db = 1 := by unfold isErr; rw [if_neg (by omega), if_pos h3]
        rw [e]
        clear he h hx h1 e hB0
        go_enter Try.func42, Try.ntmps42
        go_wp2_with (first | (go_at_call 51; refine (tooMany_any _ _ _).mono ?_; rintro e w' ⟨rfl, rfl⟩))
        (try simp only [Exit.inBlock, Exit.then]); refine bodyPost_ret (results_tmp4 rfl _ _ _) rfl ?_
        exact ⟨rfl, HB0.out⟩
      · have HCo : Hid _ := contains_any cb co m ca x f (w.heap.size + 1) T W0 (hx.below hB0) ct0
        by_cases h4 : allT f T m = false
        · have e : isErr m N T f dk di da db = 1 := by unfold isErr; rw [if_neg (by omega), if_neg h3, if_pos h4]
          rw [e]
          rw [h4] at HCo
          clear he h hx h1 e hB0 h4
          go_enter Try.func42, Try.ntmps42
          go_wp2_with (first | (go_at_call 51; refine (tooMany_any _ _ _).mono ?_; rintro e w' ⟨rfl, rfl⟩))
          refine Calls.mono HCo.out ?_
          rintro e w1 ⟨rfl, hb1⟩
          clear HCo
          go_wp2_with fail
          (try simp only [Exit.inBlock, Exit.then]); refine bodyPost_ret (results_tmp4 rfl _ _ _) rfl ?_
          exact ⟨rfl, HB0.out.trans (hb1.mono HB0.out.size)⟩
        · have h4' : allT f T m = true := by simpa using h4
          have e : isErr m N T f dk di da db = frst (fun j => idErr (dk j) (di j) (da j) (db j) m T) N := by unfold isErr; rw [if_neg (by omega), if_neg h3, if_neg h4]
          rw [e] at he ⊢
          rw [h4'] at HCo
          have HRe : Hid (∀ W : World, Below W0.heap.size W0 W → Calls Try.prog 52 #[.slice base N cap, .func (.func 87) #[] #[.pointer (some ⟨w.heap.size, 0, none⟩), .pointer (some ⟨w.heap.size + 1, 0, none⟩)]] W fun e w' => e = .returned (.int .i64 (frst (fun j => idErr (dk j) (di j) (da j) (db j) m T) N)) ∧ Below W.heap.size W w') := fun W hW =>
            refused_ids w.heap.size (w.heap.size + 1) x m ca T ab ao N cap dk di da db W base ((h.kp (X := fun _ => False) (Kp.of_below hB0) (fun _ h => h)).kp (X := fun _ => False) (Kp.of_below hW) (fun _ h => h)) ((hW.cell (p := ⟨w.heap.size, 0, none⟩) (by simp; omega)).trans cv0) (by have := hW.size; omega) ((hW.cell (p := ⟨w.heap.size + 1, 0, none⟩) (by simp; omega)).trans ct0) (by have := hW.size; omega)
          generalize frst (fun j => idErr (dk j) (di j) (da j) (db j) m T) N = E at *
          have he' : (E != 0) = true := bne_iff_ne.2 he
          clear he h hx h1 e hB0 h4 h4'
          go_enter Try.func42, Try.ntmps42
          go_wp2_with (first | (go_at_call 51; refine (tooMany_any _ _ _).mono ?_; rintro e w' ⟨rfl, rfl⟩))
          refine Calls.mono HCo.out ?_
          rintro e w1 ⟨rfl, hb1⟩
          clear HCo
          go_wp2_with fail
          refine Calls.mono (HRe.out w1 hb1) ?_
          rintro e w2 ⟨rfl, hb2⟩
          clear HRe
          go_wp2_with fail
          (try simp only [Exit.inBlock, Exit.then]); refine bodyPost_ret (results_tmp4 rfl _ _ _) rfl ?_
          have q1 := hb1.size
          have q2 := HB0.out.size
          exact ⟨rfl, (HB0.out.trans (hb1.mono q2)).trans (hb2.mono (by omega))⟩
end Go.Proofs.Ytlbfkgecckdlgaa

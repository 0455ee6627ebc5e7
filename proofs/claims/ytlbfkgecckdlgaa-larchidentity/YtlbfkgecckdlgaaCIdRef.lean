/- Layer 2: Ids' closures that refuse; ContainsFunc; the reference's badId. -/
import Derived.Test.YtlbfkgecckdlgaaCIdErr
namespace Go.Proofs.Ytlbfkgecckdlgaa
open Go.RowKit

def allT (f : Nat → Int) (T : Int) : Nat → Bool
  | 0 => true
  | k + 1 => allT f T k && okT (f k) T
theorem allT_of {f : Nat → Int} {T : Int} : ∀ {n : Nat}, allT f T n = true → ∀ i, i < n → okT (f i) T = true
  | 0, _, i, hi => by omega
  | n + 1, h, i, hi => by
    simp [allT] at h
    by_cases e : i = n
    · subst e; exact h.2
    · exact allT_of h.1 i (by omega)
theorem allT_not {f : Nat → Int} {T : Int} {j : Nat} : ∀ {n : Nat}, j < n → okT (f j) T = false → allT f T n = false
  | 0, h, _ => by omega
  | n + 1, h, hj => by
    by_cases e : j = n
    · subst e; simp [allT, hj]
    · simp [allT, allT_not (n := n) (by omega) hj]

set_option maxRecDepth 100000 in
set_option maxHeartbeats 400000 in
theorem ids2_any (d i a c : Int) (vb tv : Nat) (bs : Option Addr) (m cp : Nat) (T : Int) (w : World) (hv : w.cell? ⟨vb, 0, none⟩ = some (.slice bs m cp)) (hvb : vb < w.heap.size) (ht : w.cell? ⟨tv, 0, none⟩ = some (.int .i64 T)) (htv : tv < w.heap.size) :
    Calls Try.prog 87 #[.agg #[.int .i64 d, .int .i64 i, .int .i64 a, .int .i64 c], .pointer (some ⟨vb, 0, none⟩), .pointer (some ⟨tv, 0, none⟩)] w fun e w' => e = .returned (.int .i64 (idErr d i a c m T)) ∧ Below w.heap.size w w' := by
  have hB : Below w.heap.size w (w.alloc (.cells #[.int .i64 d, .int .i64 i, .int .i64 a, .int .i64 c] 36)) := (Below.refl _ _).alloc (Nat.le_refl _) _
  have HB : Hid _ := hB
  have n1 : ¬ vb = w.heap.size := by omega
  have n2 : ¬ tv = w.heap.size := by omega
  clear hB
  go_enter Try.func87, Try.ntmps87
  go_wp2_with (first | (go_at_call 88; refine (idError_any _ _ _ _ _ _ _).mono ?_; rintro e w1 ⟨rfl, hb1⟩))
  go_ret
  exact ⟨rfl, HB.out.trans (hb1.mono HB.out.size)⟩

set_option maxRecDepth 100000 in
set_option maxHeartbeats 1000000 in
theorem refused_ids (vb tv : Nat) (bs : Option Addr) (m cp : Nat) (T : Int) (ab ao n cap : Nat) (dk di da db : Nat → Int) (w : World) (base : Option Addr) (h : CActs w base ab ao n dk di da db) (hv : w.cell? ⟨vb, 0, none⟩ = some (.slice bs m cp)) (hvb : vb < w.heap.size) (ht : w.cell? ⟨tv, 0, none⟩ = some (.int .i64 T)) (htv : tv < w.heap.size) :
    Calls Try.prog 52 #[.slice base n cap, .func (.func 87) #[] #[.pointer (some ⟨vb, 0, none⟩), .pointer (some ⟨tv, 0, none⟩)]] w fun e w' => e = .returned (.int .i64 (frst (fun j => idErr (dk j) (di j) (da j) (db j) m T) n)) ∧ Below w.heap.size w w' := by
  have hn := h.len
  unfold maxLen at hn
  go_enter Try.func52, Try.ntmps52
  go_wp2_with fail
  go_loopw [10] (fun i wr => ∃ j : Nat, j ≤ n ∧ i = .int .i64 j ∧ Below w.heap.size w wr ∧ frst (fun j => idErr (dk j) (di j) (da j) (db j) m T) j = 0) (fun i _ => n - (intOf i).toNat)
  case atStart => exact ⟨0, Nat.zero_le _, rfl, Below.refl _ _, rfl⟩
  case round =>
    obtain ⟨j, hj, rfl, hnx, hall⟩ := hrel
    by_cases hlt : j < n
    · obtain rfl : base = some ⟨ab, ao, none⟩ := h.base (by omega)
      obtain ⟨c0, c1, c2, c3⟩ := h.cells j hlt
      have hA : ab < w.heap.size := h.lt (by omega)
      have d0 : wr.cell? ⟨ab, ao + j * 4, none⟩ = some (.int .i64 (dk j)) := (hnx.cell (p := ⟨ab, ao + j * 4, none⟩) hA).trans c0
      have d1 : wr.cell? ⟨ab, ao + j * 4 + 1, none⟩ = some (.int .i64 (di j)) := (hnx.cell (p := ⟨ab, ao + j * 4 + 1, none⟩) hA).trans c1
      have d2 : wr.cell? ⟨ab, ao + j * 4 + 1 + 1, none⟩ = some (.int .i64 (da j)) := (hnx.cell (p := ⟨ab, ao + j * 4 + 2, none⟩) hA).trans c2
      have d3 : wr.cell? ⟨ab, ao + j * 4 + 1 + 1 + 1, none⟩ = some (.int .i64 (db j)) := (hnx.cell (p := ⟨ab, ao + j * 4 + 3, none⟩) hA).trans c3
      have hv1 := ((hnx.alloc hnx.size (.cells #[.int .i64 (dk j), .int .i64 (di j), .int .i64 (da j), .int .i64 (db j)] 36)).cell (p := ⟨vb, 0, none⟩) hvb).trans hv
      have hvr : vb < wr.heap.size := Nat.lt_of_lt_of_le hvb hnx.size
      have htr : tv < wr.heap.size := Nat.lt_of_lt_of_le htv hnx.size
      have ht1 := ((hnx.alloc hnx.size (.cells #[.int .i64 (dk j), .int .i64 (di j), .int .i64 (da j), .int .i64 (db j)] 36)).cell (p := ⟨tv, 0, none⟩) htv).trans ht
      have HC : Hid _ := ids2_any (dk j) (di j) (da j) (db j) vb tv bs m cp T (wr.alloc (.cells #[.int .i64 (dk j), .int .i64 (di j), .int .i64 (da j), .int .i64 (db j)] 36)) hv1 (by simp; omega) ht1 (by simp; omega)
      have HF : Hid _ := fun (hne : idErr (dk j) (di j) (da j) (db j) m T ≠ 0) => frst_at (f := fun j => idErr (dk j) (di j) (da j) (db j) m T) hall hne hlt
      clear c0 c1 c2 c3 hv1 ht1 h
      go_wp2_with (first | (go_at_call 87; refine Calls.mono HC.out ?_; rintro e w1 ⟨rfl, hb1⟩; have hB1 : Below w.heap.size w w1 := (hnx.alloc hnx.size _).trans (hb1.mono (hnx.alloc hnx.size _).size)))
      · have hne : idErr (dk j) (di j) (da j) (db j) m T ≠ 0 := by simpa using ‹(idErr (dk j) (di j) (da j) (db j) m T != 0) = true›
        have e := HF.out hne
        go_ret
        exact ⟨by rw [e]; rfl, hB1⟩
      · have hz : idErr (dk j) (di j) (da j) (db j) m T = 0 := by simpa using ‹(idErr (dk j) (di j) (da j) (db j) m T != 0) = false›
        exact ⟨⟨j + 1, by omega, by go_num, hB1, by simp [frst, hall, hz]⟩, by simp [intOf]; omega⟩
    · have hjn : j = n := by omega
      subst hjn
      have he : Hid _ := hall
      clear hall
      go_wp2
      go_ret
      exact ⟨by rw [he.out]; rfl, hnx⟩

theorem ids1_any (k : Int) (tv : Nat) (T : Int) (w : World) (ht : w.cell? ⟨tv, 0, none⟩ = some (.int .i64 T)) :
    Calls Try.prog 85 #[.int .i64 k, .pointer (some ⟨tv, 0, none⟩)] w fun e w' => e = .returned (.bool (!okT k T)) ∧ w' = w := by
  go_enter Try.func85, Try.ntmps85
  go_wp2_with (first | (go_at_call 86; refine (isThing_any _ _ _).mono ?_; rintro e w' ⟨rfl, rfl⟩))
  go_ret
  exact ⟨rfl, rfl⟩

set_option maxRecDepth 100000 in
set_option maxHeartbeats 1000000 in
theorem indexFunc_any (cb co m ca : Nat) (x : Option Addr) (f : Nat → Int) (tv : Nat) (T : Int) (w : World) (hx : NumsAt w x cb co m f) (ht : w.cell? ⟨tv, 0, none⟩ = some (.int .i64 T)) :
    Calls Try.prog 121 #[.slice x m ca, .func (.func 85) #[] #[.pointer (some ⟨tv, 0, none⟩)]] w fun e w' => ∃ r : Int, e = .returned (.int .i64 r) ∧ (allT f T m = decide (r < 0)) ∧ Below w.heap.size w w' := by
  have hn := hx.len
  unfold maxLen at hn
  have HX : Hid _ := hx
  have HT : Hid _ := ht
  clear hx ht
  go_enter Try.func121, Try.ntmps121
  go_wp2_with fail
  go_loop [8] (fun i => ∃ j : Nat, j ≤ m ∧ i = .int .i64 j ∧ allT f T j = true) (fun i => m - (intOf i).toNat)
  case atStart => exact ⟨0, Nat.zero_le _, rfl, rfl⟩
  case round =>
    obtain ⟨j, hj, rfl, hall⟩ := hrel
    by_cases hlt : j < m
    · obtain rfl : x = some ⟨cb, co, none⟩ := HX.out.base (by omega)
      have c0 := HX.out.cells j hlt
      have j0 : (0 : Int) ≤ (j : Int) := Int.natCast_nonneg _
      have j1 : (j : Int) < (m : Int) := by omega
      by_cases e : okT (f j) T = true
      · have HA : Hid (allT f T (j + 1) = true) := by show allT f T (j + 1) = true; simp [allT, hall, e]
        have e' : (!okT (f j) T) = false := by simp [e]
        clear hall
        go_wp2_with (first | (go_at_call 85; refine (ids1_any _ _ T _ HT.out).mono ?_; rw [e']; rintro e w' ⟨rfl, rfl⟩))
        exact ⟨⟨j + 1, by omega, by go_num, HA.out⟩, by simp [intOf]; omega⟩
      · have e2 : okT (f j) T = false := by simpa using e
        have HA : Hid (allT f T m = false) := allT_not hlt e2
        have e' : (!okT (f j) T) = true := by simp [e2]
        clear hall e e2
        go_wp2_with (first | (go_at_call 85; refine (ids1_any _ _ T _ HT.out).mono ?_; rw [e']; rintro e w' ⟨rfl, rfl⟩))
        go_ret
        exact ⟨j, rfl, by rw [HA.out, decide_eq_false (by omega)], Below.refl _ _⟩
    · obtain rfl : j = m := by omega
      have HA : Hid _ := hall
      clear hall
      go_wp2
      go_ret
      exact ⟨-1, rfl, by rw [HA.out]; rfl, Below.refl _ _⟩

set_option maxRecDepth 100000 in
set_option maxHeartbeats 1000000 in
theorem contains_any (cb co m ca : Nat) (x : Option Addr) (f : Nat → Int) (tv : Nat) (T : Int) (w : World) (hx : NumsAt w x cb co m f) (ht : w.cell? ⟨tv, 0, none⟩ = some (.int .i64 T)) :
    Calls Try.prog 84 #[.slice x m ca, .func (.func 85) #[] #[.pointer (some ⟨tv, 0, none⟩)]] w fun e w' => e = .returned (.bool (!allT f T m)) ∧ Below w.heap.size w w' := by
  have HI : Hid _ := indexFunc_any cb co m ca x f tv T w hx ht
  clear hx ht
  go_enter Try.func84, Try.ntmps84
  go_wp2_with (first | (go_at_call 121; refine Calls.mono HI.out ?_; rintro e w1 ⟨r, rfl, hr, hb⟩))
  go_ret
  have hq : (!decide (r < 0)) = decide (0 ≤ r) := by rw [Bool.eq_iff_iff]; simp
  exact ⟨by rw [hr, hq]; rfl, hb⟩

theorem id_cases (d i a c m T : Int) : (¬ (d = 1 ∨ d = 2 ∨ d = 4 ∨ d = 5) ∧ idErr d i a c m T = 5) ∨ ((d = 1 ∨ d = 2 ∨ d = 4 ∨ d = 5) ∧ ((i < 0 ∧ idErr d i a c m T = 1) ∨ (0 ≤ i ∧ m ≤ i ∧ idErr d i a c m T = 1) ∨ (0 ≤ i ∧ i < m ∧
    ((d = 1 ∧ idErr d i a c m T = 0) ∨ (d ≠ 1 ∧ okT a T = false ∧ idErr d i a c m T = 1) ∨ (d ≠ 1 ∧ d ≠ 5 ∧ okT a T = true ∧ idErr d i a c m T = 0) ∨ (d = 5 ∧ okT a T = true ∧ okT c T = false ∧ idErr d i a c m T = 1) ∨ (d = 5 ∧ okT a T = true ∧ okT c T = true ∧ idErr d i a c m T = 0))))) := by
  by_cases hd : d = 1 ∨ d = 2 ∨ d = 4 ∨ d = 5
  · right
    refine ⟨hd, ?_⟩
    by_cases h1 : i < 0
    · left; exact ⟨h1, by simp [idErr, ceErr, plErr, hd, h1]⟩
    · right
      by_cases h2 : m ≤ i
      · left; exact ⟨by omega, h2, by simp [idErr, ceErr, plErr, hd, h2]⟩
      · right
        have z : ceErr d i m = 0 := by unfold ceErr; rw [if_pos hd]; unfold plErr; rw [if_neg (by omega)]
        refine ⟨by omega, by omega, ?_⟩
        unfold idErr
        rw [if_neg (by simp [z])]
        by_cases q1 : d = 1
        · left; exact ⟨q1, by subst q1; simp⟩
        · right
          by_cases qa : okT a T = false
          · left; exact ⟨q1, qa, by simp [q1, qa]⟩
          · right
            have qa' : okT a T = true := by simpa using qa
            by_cases q5 : d = 5
            · right
              by_cases qc : okT c T = false
              · left; exact ⟨q5, qa', qc, by simp [q5, qc]⟩
              · right
                have qc' : okT c T = true := by simpa using qc
                exact ⟨q5, qa', qc', by simp [qa', qc']⟩
            · left; exact ⟨q1, q5, qa', by simp [qa', q5]⟩
  · left; exact ⟨hd, by simp [idErr, ceErr, hd]⟩

theorem swapping_true (d : Int) (hd : d = 1 ∨ d = 2 ∨ d = 4 ∨ d = 5) (w : World) : Calls Try.prog 96 #[.int .i64 d] w fun e w' => e = .returned (.bool true) ∧ w = w' := by
  have := swapping_any d w
  rw [decide_eq_true hd] at this
  exact this

set_option maxRecDepth 100000 in
set_option maxHeartbeats 2000000 in
theorem badId_any (m : Nat) (T : Int) (ab ao n cap : Nat) (dk di da db : Nat → Int) (w : World) (base : Option Addr) (h : CActs w base ab ao n dk di da db) :
    Calls Try.prog 83 #[.int .i64 m, .int .i64 T, .slice base n cap] w fun e w' => e = .returned (.int .i64 (frst (fun j => idErr (dk j) (di j) (da j) (db j) m T) n)) ∧ Below w.heap.size w w' := by
  have hn := h.len
  unfold maxLen at hn
  have HA : Hid _ := h
  clear h
  go_enter Try.func83, Try.ntmps83
  go_wp2_with fail
  go_loopw [7] (fun i wr => ∃ j : Nat, j ≤ n ∧ i = .int .i64 j ∧ frst (fun j => idErr (dk j) (di j) (da j) (db j) m T) j = 0 ∧ Below w.heap.size w wr) (fun i _ => n - (intOf i).toNat)
  case atStart => exact ⟨0, Nat.zero_le _, rfl, rfl, Below.refl _ _⟩
  case round =>
    obtain ⟨j, hj, rfl, hall, hnx⟩ := hrel
    by_cases hlt : j < n
    · obtain rfl : base = some ⟨ab, ao, none⟩ := HA.out.base (by omega)
      obtain ⟨c0, c1, c2, c3⟩ := (HA.out.kp (X := fun _ => False) (Kp.of_below hnx) (fun _ h => h)).cells j hlt
      have j0 : (0 : Int) ≤ (j : Int) := Int.natCast_nonneg _
      have j1 : (j : Int) < (n : Int) := by omega
      have F1 : ∀ v, idErr (dk j) (di j) (da j) (db j) m T = v → v ≠ 0 → Hid (frst (fun j => idErr (dk j) (di j) (da j) (db j) m T) n = v) := fun v hv h0 => (frst_at (f := fun j => idErr (dk j) (di j) (da j) (db j) m T) hall (by rw [hv]; exact h0) hlt).trans hv
      have F0 : idErr (dk j) (di j) (da j) (db j) m T = 0 → Hid (frst (fun j => idErr (dk j) (di j) (da j) (db j) m T) (j + 1) = 0) := fun e => by show frst (fun j => idErr (dk j) (di j) (da j) (db j) m T) (j + 1) = 0; simp [frst, hall, e]
      have HN : Hid (∀ o, Below w.heap.size w (wr.alloc o)) := fun o => hnx.alloc hnx.size o
      have hA : ab < wr.heap.size := by have := HA.out.lt (by omega); have := hnx.size; omega
      have hna : ¬ ab = wr.heap.size := by omega
      clear hnx hall
      rcases id_cases (dk j) (di j) (da j) (db j) m T with ⟨hd, e⟩ | ⟨hd, ⟨h1, e⟩ | ⟨h1, h2, e⟩ | ⟨h1, h2, ⟨h3, e⟩ | ⟨h3, h4, e⟩ | ⟨h3, h4, h5, e⟩ | ⟨h3, h4, h5, e⟩ | ⟨h3, h4, h5, e⟩⟩⟩
      · have F := F1 _ e (by omega)
        have HSw : Hid (∀ W : World, Calls Try.prog 96 #[.int .i64 (dk j)] W fun e w' => e = .returned (.bool false) ∧ W = w') := fun W => by have := swapping_any (dk j) W; rw [decide_eq_false hd] at this; exact this
        clear F1 F0 hd e
        go_wp2_with (first | (go_at_call 96; refine Calls.mono (HSw.out _) ?_; rintro e w' ⟨rfl, rfl⟩) | (go_at_call 82; refine (rthing_any _ _ _).mono ?_; rintro e w' ⟨rfl, rfl⟩))
        go_ret
        exact ⟨by rw [F.out]; rfl, HN.out _⟩
      all_goals
        have HD : Hid _ := hd
        clear hd
      · have F := F1 _ e (by omega)
        clear F1 F0 e
        go_wp2_with (first | (go_at_call 96; refine (swapping_true _ (by first | exact HD.out | decide) _).mono ?_; rintro e w' ⟨rfl, rfl⟩) | (go_at_call 82; refine (rthing_any _ _ _).mono ?_; rintro e w' ⟨rfl, rfl⟩))
        go_ret
        exact ⟨by rw [F.out]; rfl, HN.out _⟩
      · have F := F1 _ e (by omega)
        clear F1 F0 e
        go_wp2_with (first | (go_at_call 96; refine (swapping_true _ (by first | exact HD.out | decide) _).mono ?_; rintro e w' ⟨rfl, rfl⟩) | (go_at_call 82; refine (rthing_any _ _ _).mono ?_; rintro e w' ⟨rfl, rfl⟩))
        go_ret
        exact ⟨by rw [F.out]; rfl, HN.out _⟩
      · have F := F0 e
        clear F1 F0 e
        go_wp2_with (first | (go_at_call 96; refine (swapping_true _ (by first | exact HD.out | decide) _).mono ?_; rintro e w' ⟨rfl, rfl⟩) | (go_at_call 82; refine (rthing_any _ _ _).mono ?_; rintro e w' ⟨rfl, rfl⟩))
        exact ⟨⟨j + 1, by omega, by go_num, F.out, HN.out _⟩, by simp [intOf]; omega⟩
      · have F := F1 _ e (by omega)
        clear F1 F0 e
        go_wp2_with (first | (go_at_call 96; refine (swapping_true _ (by first | exact HD.out | decide) _).mono ?_; rintro e w' ⟨rfl, rfl⟩) | (go_at_call 82; refine (rthing_any _ _ _).mono ?_; rintro e w' ⟨rfl, rfl⟩))
        go_ret
        exact ⟨by rw [F.out]; rfl, HN.out _⟩
      · have F := F0 e
        clear F1 F0 e
        go_wp2_with (first | (go_at_call 96; refine (swapping_true _ (by first | exact HD.out | decide) _).mono ?_; rintro e w' ⟨rfl, rfl⟩) | (go_at_call 82; refine (rthing_any _ _ _).mono ?_; rintro e w' ⟨rfl, rfl⟩))
        exact ⟨⟨j + 1, by omega, by go_num, F.out, HN.out _⟩, by simp [intOf]; omega⟩
      · have F := F1 _ e (by omega)
        clear F1 F0 e
        go_wp2_with (first | (go_at_call 96; refine (swapping_true _ (by first | exact HD.out | decide) _).mono ?_; rintro e w' ⟨rfl, rfl⟩) | (go_at_call 82; refine (rthing_any _ _ _).mono ?_; rintro e w' ⟨rfl, rfl⟩))
        go_ret
        exact ⟨by rw [F.out]; rfl, HN.out _⟩
      · have F := F0 e
        clear F1 F0 e
        go_wp2_with (first | (go_at_call 96; refine (swapping_true _ (by first | exact HD.out | decide) _).mono ?_; rintro e w' ⟨rfl, rfl⟩) | (go_at_call 82; refine (rthing_any _ _ _).mono ?_; rintro e w' ⟨rfl, rfl⟩))
        exact ⟨⟨j + 1, by omega, by go_num, F.out, HN.out _⟩, by simp [intOf]; omega⟩
    · have hjn : j = n := by omega
      subst hjn
      have he : Hid _ := hall
      clear hall
      go_wp2
      go_ret
      exact ⟨by rw [he.out]; rfl, hnx⟩
end Go.Proofs.Ytlbfkgecckdlgaa

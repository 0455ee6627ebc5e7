/- The walk of WordRows. -/
import Derived.Test.YtieanmpldcibcaaRows2
import Derived.Test.YtieanmpldcibcaaLaw1
import Derived.Deep.QuietTactic
import Derived.BigQuiet
namespace Go.Proofs.Ytieanmpldcibcaa
open Go.RowKit

set_option maxRecDepth 100000 in
set_option maxHeartbeats 1000000 in
theorem rows_err (k start : Int) (ab ao n cap : Nat) (dk da db : Nat → Int) (w : World) (base : Option Addr) (h : Acts w base ab ao n dk da db) (hbytes : n * 24 ≤ 140737488355328) (he : ¬ rowErr k n dk = 0) :
    Calls Try.prog 3 #[.int .i64 k, .int .u64 start, .slice base n cap] w fun e w' => e = .returned (.bool true) ∧ Below w.heap.size w w' := by
  have H : Hid _ := h
  have HE : Hid _ := he
  have hne : (rowErr k n dk != 0) = true := bne_iff_ne.2 he
  clear h he
  go_enter Try.func3, Try.ntmps3
  go_wp2_with (first
    | (go_at_call 6; refine (known_any _).mono ?_; rintro e w1 ⟨rfl, hb1⟩))
  refine (our_acts ab ao n cap dk da db _ base ((Hid.out H).below hb1) hbytes).mono ?_
  rintro e w2 ⟨b2, c2, g2, rfl, hb2, ha2⟩
  have H2 : Hid _ := ha2
  clear ha2
  go_wp2_with fail
  refine Calls.mono (Do_err k start g2 0 n c2 dk da db _ b2 (Hid.out H2) (Hid.out HE)) ?_
  rintro e w3 ⟨rfl, hb3⟩
  go_wp2
  go_ret
  exact ⟨rfl, (hb1.trans (hb2.mono hb1.size)).trans (hb3.mono (Nat.le_trans hb1.size hb2.size))⟩

/-- Do of the second part, from what the first part left. -/
theorem Do_right (k start : Int) (g n m cap : Nat) (dk da db : Nat → Int) (w : World) (base : Option Addr) (h : Acts w base g 0 (n - m) (fun i => dk (m + i)) (fun i => da (m + i)) (fun i => db (m + i))) (he : rowErr k n dk = 0) (hm : m ≤ n) :
    Calls Try.prog 7 #[.int .i64 k, .int .u64 (st k start dk da db m), .slice base (n - m) cap] w fun e w' => ∃ bo, e = .returned (.tuple #[.slice (some ⟨bo, 0, none⟩) (n - m) (n - m), .int .u64 (st k start dk da db n), .int .i64 0]) ∧ w.heap.size ≤ bo ∧ bo < w'.heap.size ∧ Below w.heap.size w w' ∧ OutsTo w' bo (n - m) (n - m) (fun j => ov k (st k start dk da db (m + j)) (dk (m + j)) (da (m + j))) (fun j => ok k (st k start dk da db (m + j)) (dk (m + j)) (da (m + j))) := by
  obtain ⟨h1, h2, h3⟩ := rowErr_zero he
  have hc := Cn_st (start := start) (da := da) (db := db) h3 m hm
  have hr : rowErr k (n - m) (fun i => dk (m + i)) = 0 := rowErr_none h1 (by omega) (allCan_shift h3 hm)
  have hs := st_split k start dk da db m hc
  have hd := Do_ok k _ (Cn_u64 hc) g 0 (n - m) cap (fun i => dk (m + i)) (fun i => da (m + i)) (fun i => db (m + i)) w base h hr
  rw [hs (n - m), show m + (n - m) = n by omega] at hd
  refine hd.mono ?_
  rintro e w' ⟨bo, rfl, g1, g2, g3, g4⟩
  refine ⟨bo, rfl, g1, g2, g3, ?_⟩
  simpa only [hs] using g4

theorem OutsTo.at' {w w' : World} {bo n : Nat} {O : Nat → Int} {V : Nat → Bool} (h : OutsTo w bo n n O V) (hlt : bo < w.heap.size) (hb : Below w.heap.size w w') : OutsTo w' bo n n O V := h.same (hb.block bo hlt)
theorem NumsTo.at' {w w' : World} {bo n : Nat} {O : Nat → Int} (h : NumsTo w bo n n O) (hlt : bo < w.heap.size) (hb : Below w.heap.size w w') : NumsTo w' bo n n O := h.same (hb.block bo hlt)

set_option maxRecDepth 100000 in
set_option maxHeartbeats 1000000 in
theorem rows_ok (k start : Int) (hs : U64 start) (ab ao n m cap : Nat) (dk da db : Nat → Int) (w : World) (h : Acts w (some ⟨ab, ao, none⟩) ab ao n dk da db) (hcap : n ≤ cap) (he : rowErr k n dk = 0) (hn : n ≤ 10000) (h0 : 0 < n) (hm : (n : Int) / 2 = (m : Int)) (hlt : m < n) :
    Calls Try.prog 3 #[.int .i64 k, .int .u64 start, .slice (some ⟨ab, ao, none⟩) n cap] w fun e w' => e = .returned (.bool true) ∧ Below w.heap.size w w' := by
  have hmn : m ≤ n := by omega
  have hbytes : n * 24 ≤ 140737488355328 := by omega
  have m3 : ¬ cap - m = 0 := by omega
  have f1 : (m : Int) + ((n - m : Nat) : Int) = (n : Int) := by omega
  have H : Hid _ := h
  have HE : Hid _ := he
  have m0 : (0 : Int) ≤ (m : Int) := Int.natCast_nonneg _
  have m1 : (m : Int) ≤ (n : Int) := by omega
  have m2 : (m : Int) ≤ (cap : Int) := by omega
  clear h he
  go_enter Try.func3, Try.ntmps3
  go_wp2_with (first
    | (go_at_call 6; refine (known_any _).mono ?_; rintro e w1 ⟨rfl, hb1⟩))
  refine (our_acts ab ao n cap dk da db _ _ ((Hid.out H).below hb1) hbytes).mono ?_
  rintro e w2 ⟨b2, c2, g2, rfl, hb2, ha2⟩
  have hB2 : Below w.heap.size w w2 := hb1.trans (hb2.mono hb1.size)
  have H2 : Hid _ := ha2
  clear ha2 hb1 hb2
  go_wp2_with fail
  refine Calls.mono (Do_ok k start hs g2 0 n c2 dk da db _ b2 (Hid.out H2) (Hid.out HE)) ?_
  rintro e w3 ⟨bo, rfl, q1, q2, hb3, ho3⟩
  have hB3 : Below w.heap.size w w3 := hB2.trans (hb3.mono hB2.size)
  have O3 : Hid _ := ho3
  have s3 : Hid (w.heap.size ≤ bo) := Nat.le_trans hB2.size q1
  have t3 : Hid (bo < w3.heap.size) := q2
  clear hb3 ho3 q1 q2 hB2 H2
  go_wp2_with fail
  refine (our_acts ab ao m cap dk da db _ _ ((Acts.left (Hid.out H) hmn).below hB3) (by omega)).mono ?_
  rintro e w4 ⟨b4, c4, g4, rfl, hb4, ha4⟩
  have hB4 : Below w.heap.size w w4 := hB3.trans (hb4.mono hB3.size)
  have O4 : Hid _ := OutsTo.at' O3.out t3.out hb4
  have t4 : Hid (bo < w4.heap.size) := Nat.lt_of_lt_of_le t3.out hb4.size
  have H4 : Hid _ := ha4
  clear ha4 hb4 O3 t3 hB3
  go_wp2_with fail
  refine Calls.mono (Do_ok k start hs g4 0 m c4 dk da db _ b4 (Hid.out H4) (rowErr_none (rowErr_zero HE.out).1 (by omega) (allCan_le (rowErr_zero HE.out).2.2 hmn))) ?_
  rintro e w5 ⟨bp, rfl, q1, q2, hb5, ho5⟩
  have hB5 : Below w.heap.size w w5 := hB4.trans (hb5.mono hB4.size)
  have O5 : Hid _ := OutsTo.at' O4.out t4.out hb5
  have t5 : Hid (bo < w5.heap.size) := Nat.lt_of_lt_of_le t4.out hb5.size
  have P5 : Hid _ := ho5
  have u5 : Hid (bp < w5.heap.size) := q2
  clear hb5 ho5 q1 q2 hB4 H4 O4 t4
  go_wp2_with fail
  refine (our_acts ab (ao + m * 3) (n - m) (cap - m) (fun i => dk (m + i)) (fun i => da (m + i)) (fun i => db (m + i)) _ _ ((acts_right (Hid.out H) hmn).below hB5) (by omega)).mono ?_
  rintro e w6 ⟨b6, c6, g6, rfl, hb6, ha6⟩
  have hB6 : Below w.heap.size w w6 := hB5.trans (hb6.mono hB5.size)
  have O6 : Hid _ := OutsTo.at' O5.out t5.out hb6
  have t6 : Hid (bo < w6.heap.size) := Nat.lt_of_lt_of_le t5.out hb6.size
  have P6 : Hid _ := OutsTo.at' P5.out u5.out hb6
  have u6 : Hid (bp < w6.heap.size) := Nat.lt_of_lt_of_le u5.out hb6.size
  have H6 : Hid _ := ha6
  clear ha6 hb6 O5 t5 P5 u5 hB5
  go_wp2_with fail
  refine Calls.mono (Do_right k start g6 n m c6 dk da db _ b6 (Hid.out H6) HE.out hmn) ?_
  rintro e w7 ⟨bq, rfl, q1, q2, hb7, ho7⟩
  have hB7 : Below w.heap.size w w7 := hB6.trans (hb7.mono hB6.size)
  have O7 : Hid _ := OutsTo.at' O6.out t6.out hb7
  have t7 : Hid (bo < w7.heap.size) := Nat.lt_of_lt_of_le t6.out hb7.size
  have P7 : Hid _ := OutsTo.at' P6.out u6.out hb7
  have u7 : Hid (bp < w7.heap.size) := Nat.lt_of_lt_of_le u6.out hb7.size
  have Q7 : Hid _ := ho7
  have v7 : Hid (bq < w7.heap.size) := q2
  clear hb7 ho7 q1 q2 hB6 H6 O6 t6 P6 u6
  go_wp2_with fail
  refine (our_acts ab ao n cap dk da db _ _ ((Hid.out H).below hB7) hbytes).mono ?_
  rintro e w8 ⟨b8, c8, g8, rfl, hb8, ha8⟩
  have hB8 : Below w.heap.size w w8 := hB7.trans (hb8.mono hB7.size)
  have O8 : Hid _ := OutsTo.at' O7.out t7.out hb8
  have t8 : Hid (bo < w8.heap.size) := Nat.lt_of_lt_of_le t7.out hb8.size
  have P8 : Hid _ := OutsTo.at' P7.out u7.out hb8
  have u8 : Hid (bp < w8.heap.size) := Nat.lt_of_lt_of_le u7.out hb8.size
  have Q8 : Hid _ := OutsTo.at' Q7.out v7.out hb8
  have v8 : Hid (bq < w8.heap.size) := Nat.lt_of_lt_of_le v7.out hb8.size
  have H8 : Hid _ := ha8
  clear ha8 hb8 O7 t7 P7 u7 Q7 v7 hB7
  go_wp2_with fail
  refine Calls.mono (Steps_ok k start hs g8 0 n c8 dk da db _ b8 (Hid.out H8) HE.out) ?_
  rintro e w9 ⟨bs, rfl, q1, q2, hb9, ho9⟩
  have hB9 : Below w.heap.size w w9 := hB8.trans (hb9.mono hB8.size)
  have O9 : Hid _ := OutsTo.at' O8.out t8.out hb9
  have P9 : Hid _ := OutsTo.at' P8.out u8.out hb9
  have Q9 : Hid _ := OutsTo.at' Q8.out v8.out hb9
  have t9 : Hid (bo < w9.heap.size) := Nat.lt_of_lt_of_le t8.out hb9.size
  have u9 : Hid (bp < w9.heap.size) := Nat.lt_of_lt_of_le u8.out hb9.size
  have v9 : Hid (bq < w9.heap.size) := Nat.lt_of_lt_of_le v8.out hb9.size
  obtain ⟨z0, _⟩ := ho9.done (n - 1) (by omega)
  have ez : n - 1 + 1 = n := by omega
  rw [ez] at z0
  have i0 : (0 : Int) ≤ (n : Int) - 1 := by omega
  have i1 : (n : Int) - 1 < (n : Int) := by omega
  have i2 : ((n : Int) - 1).toNat = n - 1 := by omega
  have i3 : (0 : Int) < (n : Int) := by omega
  clear hb9 ho9 q1 q2 hB8 H8 O8 t8 P8 u8 Q8 v8 ez H hs HE
  have hneq := out_neq
  go_wp2_with fail
  go_loopw [19] (fun i wr => ∃ j : Nat, j ≤ n ∧ i = .int .i64 j ∧ Below w9.heap.size w9 wr) (fun i _ => n - (intOf i).toNat)
  case atStart => exact ⟨0, Nat.zero_le _, rfl, Below.refl _ _⟩
  case round =>
    obtain ⟨j, hj, rfl, hnx⟩ := hrel
    clear z0 i0 i1 i2 i3 m0 m1 m2 m3 f1 hm
    by_cases hjn : j < n
    · obtain ⟨a0, a1, _, _⟩ := (OutsTo.at' O9.out t9.out hnx).done j hjn
      have hP := OutsTo.at' P9.out u9.out hnx
      have hQ := OutsTo.at' Q9.out v9.out hnx
      have j0 : (0 : Int) ≤ (j : Int) := Int.natCast_nonneg _
      have j1 : (j : Int) < (n : Int) := by omega
      have hNX : Hid _ := hnx
      clear O9 P9 Q9 t9 u9 v9 hB9 hnx
      by_cases hjm : j < m
      · obtain ⟨p0, p1, _, _⟩ := hP.done j hjm
        have j2 : (j : Int) < (m : Int) := by omega
        have d2 : decide ((j : Int) < (m : Int)) = true := decide_eq_true j2
        have d3 : decide ((m : Int) ≤ (j : Int)) = false := decide_eq_false (by omega)
        have d4 : decide (m ≤ j) = false := decide_eq_false (by omega)
        have d5 : ¬ m ≤ j := by omega
        have d6 : ¬ (m : Int) ≤ (j : Int) := by omega
        clear hP hQ
        go_wp2_with fail
        go_quiet (fail)
        go_wp2
        exact ⟨⟨j + 1, by omega, by go_num, below_drewN hNX.out _⟩, by simp [intOf]; omega⟩
      · obtain ⟨p0, p1, _, _⟩ := hQ.done (j - m) (by omega)
        have ej : m + (j - m) = j := by omega
        rw [ej] at p0 p1
        have j2 : ¬ (j : Int) < (m : Int) := by omega
        have d2 : decide ((j : Int) < (m : Int)) = false := decide_eq_false j2
        have j3 : (m : Int) ≤ (j : Int) := by omega
        have d3 : decide ((m : Int) ≤ (j : Int)) = true := decide_eq_true j3
        have d4 : decide (j < m) = false := decide_eq_false (by omega)
        have d5 : ¬ j < m := by omega
        have d6 : m ≤ j := by omega
        have j4 : (0 : Int) ≤ (j : Int) - (m : Int) := by omega
        have j5 : (j : Int) - (m : Int) < ((n - m : Nat) : Int) := by omega
        have j6 : ((j : Int) - (m : Int)).toNat = j - m := by omega
        clear hP hQ ej
        go_wp2_with fail
        go_quiet (fail)
        go_wp2
        exact ⟨⟨j + 1, by omega, by go_num, below_drewN hNX.out _⟩, by simp [intOf]; omega⟩
    · obtain rfl : j = n := by omega
      go_wp2
      go_ret
      exact ⟨rfl, hB9.trans (hnx.mono hB9.size)⟩

set_option maxRecDepth 100000 in
set_option maxHeartbeats 1000000 in
theorem rows_zero (k start : Int) (hs : U64 start) (cap : Nat) (w : World) (base : Option Addr) (hbc : base = none ∧ cap = 0 ∨ ∃ a, base = some a) (he : isK k = true) :
    Calls Try.prog 3 #[.int .i64 k, .int .u64 start, .slice base 0 cap] w fun e w' => e = .returned (.bool true) ∧ Below w.heap.size w w' := by
  have hr : rowErr k 0 (fun _ => 0) = 0 := rowErr_none he (by omega) rfl
  have H : Hid (∀ (b : Option Addr) (W : World), Acts W b 0 0 0 (fun _ => 0) (fun _ => 0) (fun _ => 0)) := fun b W => ⟨fun h => absurd rfl h, fun h => absurd rfl h, fun i hi => by omega, fun i hi => by omega, by unfold maxLen; omega⟩
  have HO : Hid (∀ (b : Option Addr) (c : Nat) (W : World), Calls Try.prog 8 #[.slice b 0 c] W fun e w' => ∃ b' c', e = .returned (.slice b' 0 c') ∧ Below W.heap.size W w') := by
    intro b c W
    refine (our_acts 0 0 0 c (fun _ => 0) (fun _ => 0) (fun _ => 0) W b (H.out b W) (by omega)).mono ?_
    rintro e w' ⟨b', c', g', rfl, hb, _⟩
    exact ⟨b', c', rfl, hb⟩
  have HD : Hid (∀ (x : Int) (b : Option Addr) (c : Nat) (W : World), U64 x → Calls Try.prog 7 #[.int .i64 k, .int .u64 x, .slice b 0 c] W fun e w' => ∃ bo, e = .returned (.tuple #[.slice (some ⟨bo, 0, none⟩) 0 0, .int .u64 (cut k x), .int .i64 0]) ∧ Below W.heap.size W w') := by
    intro x b c W hx
    refine (Do_ok k x hx 0 0 0 c (fun _ => 0) (fun _ => 0) (fun _ => 0) W b (H.out b W) hr).mono ?_
    rintro e w' ⟨bo, rfl, _, _, hb, _⟩
    exact ⟨bo, rfl, hb⟩
  have HS : Hid (∀ (x : Int) (b : Option Addr) (c : Nat) (W : World), U64 x → Calls Try.prog 9 #[.int .i64 k, .int .u64 x, .slice b 0 c] W fun e w' => ∃ bo, e = .returned (.tuple #[.slice (some ⟨bo, 0, none⟩) 0 0, .int .i64 0]) ∧ Below W.heap.size W w') := by
    intro x b c W hx
    refine (Steps_ok k x hx 0 0 0 c (fun _ => 0) (fun _ => 0) (fun _ => 0) W b (H.out b W) hr).mono ?_
    rintro e w' ⟨bo, rfl, _, _, hb, _⟩
    exact ⟨bo, rfl, hb⟩
  have hcc := cut_cut k start
  have hu : Hid (U64 (cut k start)) := Cn_u64 (Cn_cut k start)
  have hs' : Hid (U64 start) := hs
  clear hr H hs he
  rcases hbc with ⟨rfl, rfl⟩ | ⟨a, rfl⟩
  all_goals
    go_enter Try.func3, Try.ntmps3
    go_wp2_with (first
      | (go_at_call 6; refine (known_any _).mono ?_; rintro e w1 ⟨rfl, hb1⟩))
    refine Calls.mono (HO.out _ _ _) ?_
    rintro e w2 ⟨b2, c2, rfl, hb2⟩
    go_wp2_with fail
    refine Calls.mono (HD.out _ _ _ _ hs'.out) ?_
    rintro e w3 ⟨bo, rfl, hb3⟩
    go_wp2_with fail
    all_goals
      refine Calls.mono (HO.out _ _ _) ?_
      rintro e w4 ⟨b4, c4, rfl, hb4⟩
      go_wp2_with fail
      refine Calls.mono (HD.out _ _ _ _ hs'.out) ?_
      rintro e w5 ⟨bp, rfl, hb5⟩
      go_wp2_with fail
      all_goals
        refine Calls.mono (HO.out _ _ _) ?_
        rintro e w6 ⟨b6, c6, rfl, hb6⟩
        go_wp2_with fail
        refine Calls.mono (HD.out _ _ _ _ hu.out) ?_
        rintro e w7 ⟨bq, rfl, hb7⟩
        go_wp2_with fail
        refine Calls.mono (HO.out _ _ _) ?_
        rintro e w8 ⟨b8, c8, rfl, hb8⟩
        go_wp2_with fail
        refine Calls.mono (HS.out _ _ _ _ hs'.out) ?_
        rintro e w9 ⟨bs, rfl, hb9⟩
        have hB2 : Below w.heap.size w w2 := hb1.trans (hb2.mono hb1.size)
        have hB3 : Below w.heap.size w w3 := hB2.trans (hb3.mono hB2.size)
        have hB4 : Below w.heap.size w w4 := hB3.trans (hb4.mono hB3.size)
        have hB5 : Below w.heap.size w w5 := hB4.trans (hb5.mono hB4.size)
        have hB6 : Below w.heap.size w w6 := hB5.trans (hb6.mono hB5.size)
        have hB7 : Below w.heap.size w w7 := hB6.trans (hb7.mono hB6.size)
        have hB8 : Below w.heap.size w w8 := hB7.trans (hb8.mono hB7.size)
        have hB9 : Below w.heap.size w w9 := hB8.trans (hb9.mono hB8.size)
        have HB : Hid _ := hB9
        clear hB2 hB3 hB4 hB5 hB6 hB7 hB8 hB9 hb1 hb2 hb3 hb4 hb5 hb6 hb7 hb8 hb9
        go_wp2_with fail
        refine wp_loop_rounds 1 ?_
        rw [rounds_succ]
        go_wp2
        go_ret
        exact ⟨rfl, HB.out⟩
end Go.Proofs.Ytieanmpldcibcaa

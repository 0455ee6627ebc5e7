/- The walk of LarchOneWins where there are more than 200 accesses. -/
import Derived.Test.YtieanmpldcibcaaWins
namespace Go.Proofs.Ytieanmpldcibcaa
open Go.RowKit

set_option maxRecDepth 100000 in
set_option maxHeartbeats 1000000 in
theorem wins_ok200 (k start : Int) (hs : U64 start) (ab ao N cap : Nat) (dk da db : Nat → Int) (w : World) (h : Acts w (some ⟨ab, ao, none⟩) ab ao 200 dk da db) (hN : 200 < N) (hcap : N ≤ cap) (he : rowErr k 200 dk = 0) :
    Calls Try.prog 4 #[.int .i64 k, .int .u64 start, .slice (some ⟨ab, ao, none⟩) N cap] w fun e w' => e = .returned (.bool true) ∧ Below w.heap.size w w' := by
  obtain ⟨i0, hi0, hz0, hz1, hz2⟩ := info_parts act_info
  have n0 : (200 : Int) < (N : Int) := by omega
  have n1 : (200 : Int) ≤ (cap : Int) := by omega
  have h0 : 0 < 200 := by omega
  have H : Hid _ := h
  have HE : Hid _ := he
  clear h he
  go_enter Try.func4, Try.ntmps4
  go_wp2_with fail
  refine (Do_two w _ rfl _).mono ?_
  rintro e w1 ⟨bo, rfl, q2, hb1, x1, x2⟩
  have s1 : w.heap.size ≤ w1.heap.size := hb1.size
  have A1 : Hid _ := (Hid.out H).below (hb1.alloc s1 (.cells #[] 38))
  go_wp2_with (first | (at_builtin; (refine wpList_append_lies _ (by rfl) _ _ _ (by rfl) w.heap.size 38 i0 _ 3 24 acts_under hi0 hz0 hz1 hz2 rfl (by omega) _ 0 [] (by rfl) (owns_empty w1 _ _ _ s1) ⟨ab, ao, none⟩ 200 cap (actCells dk da db 200) (by rfl) (actCells_length dk da db 200) (acts_news A1.out) (actCells_one dk da db 200) h0 (by unfold maxLen; omega) (by omega) (by simp; omega) (w1.heap.size + 1) (by simp) ?_); intro g2 cap2 w2 hown2 hgrow2 hat2 hlt2))
  have hB2 : Below w.heap.size w w2 := Below.grown (hb1.alloc s1 _) hgrow2 (by simp; omega) (fun b hb => by simp [Value.ownBlock] at hb; omega)
  have hA2 := acts_copied hown2 (Hid.out H).u64 (Hid.out H).len h0
  clear hown2 hgrow2 hat2 hlt2 A1 x1 x2 q2 hb1 s1
  refine Calls.mono (Do_ok k start hs g2 0 200 cap2 dk da db _ _ hA2 HE.out) ?_
  rintro e w3 ⟨bp, rfl, q1, q2, hb3, ho3⟩
  have hB3 : Below w.heap.size w w3 := hB2.trans (hb3.mono hB2.size)
  have s3 : w.heap.size ≤ w3.heap.size := hB3.size
  have O3 : Hid _ := ho3
  have t3 : Hid (bp < w3.heap.size) := q2
  have A3 : Hid _ := (Hid.out H).below (hB3.alloc s3 (.cells #[] 38))
  clear hb3 ho3 q1 q2 hA2 hB2
  go_wp2_with (first | (at_builtin; (refine wpList_append_lies _ (by rfl) _ _ _ (by rfl) w.heap.size 38 i0 _ 3 24 acts_under hi0 hz0 hz1 hz2 rfl (by omega) _ 0 [] (by rfl) (owns_empty w3 _ _ _ s3) ⟨ab, ao, none⟩ 200 cap (actCells dk da db 200) (by rfl) (actCells_length dk da db 200) (acts_news A3.out) (actCells_one dk da db 200) h0 (by unfold maxLen; omega) (by omega) (by simp; omega) (w3.heap.size + 1) (by simp) ?_); intro g4 cap4 w4 hown4 hgrow4 hat4 hlt4))
  have hB4 : Below w.heap.size w w4 := Below.grown (hB3.alloc s3 _) hgrow4 (by simp; omega) (fun b hb => by simp [Value.ownBlock] at hb; omega)
  have hb34 : Below w3.heap.size w3 w4 := Below.grown ((Below.refl _ _).alloc (Nat.le_refl _) _) hgrow4 (by simp) (fun b hb => by simp [Value.ownBlock] at hb; omega)
  have O4 : Hid _ := OutsTo.same O3.out (hb34.block bp t3.out)
  have t4 : Hid (bp < w4.heap.size) := Nat.lt_of_lt_of_le t3.out hb34.size
  have hA4 := acts_copied hown4 (Hid.out H).u64 (Hid.out H).len h0
  clear hown4 hgrow4 hat4 hlt4 A3 O3 t3 hB3 s3 hb34
  refine Calls.mono (Steps_ok k start hs g4 0 200 cap4 dk da db _ _ hA4 HE.out) ?_
  rintro e w5 ⟨bs, rfl, q1, q2, hb5, ho5⟩
  have hB5 : Below w.heap.size w w5 := hB4.trans (hb5.mono hB4.size)
  have O5 : Hid _ := OutsTo.same O4.out (hb5.block bp t4.out)
  have t5 : Hid (bp < w5.heap.size) := Nat.lt_of_lt_of_le t4.out hb5.size
  have S5 : Hid _ := ho5
  have v5 : Hid (bs < w5.heap.size) := q2
  clear hb5 ho5 q1 q2 hA4 hB4 O4 t4
  go_wp2_with (first | (go_at_call 10; refine (topWrap_any k start hs _).mono ?_; rintro e w' ⟨rfl, rfl⟩))
  have hneq := out_neq
  obtain ⟨k1, k2, k3⟩ := rowErr_zero HE.out
  go_loopw [12, 109] (fun v i wr => ∃ j : Nat, j ≤ 200 ∧ i = .int .i64 j ∧ v = .int .u64 (st k start dk da db j) ∧ Below w5.heap.size w5 wr) (fun _ i _ => 200 - (intOf i).toNat)
  case atStart => exact ⟨0, Nat.zero_le _, rfl, rfl, Below.refl _ _⟩
  case round =>
    obtain ⟨j, hj, rfl, rfl, hnx⟩ := hrel
    by_cases hlt : j < 200
    · obtain ⟨c0, c1, c2⟩ := (Hid.out H).cells j hlt
      obtain ⟨ua, ub⟩ := (Hid.out H).u64 j hlt
      have hA : ab < w.heap.size := (Hid.out H).lt (by omega)
      have hW : Below w.heap.size w wr := hB5.trans (hnx.mono hB5.size)
      have d0 : wr.cell? ⟨ab, ao + j * 3, none⟩ = some (.int .i64 (dk j)) := (hW.cell (p := ⟨ab, ao + j * 3, none⟩) hA).trans c0
      have d1 : wr.cell? ⟨ab, ao + j * 3 + 1, none⟩ = some (.int .u64 (da j)) := (hW.cell (p := ⟨ab, ao + j * 3 + 1, none⟩) hA).trans c1
      have d2 : wr.cell? ⟨ab, ao + j * 3 + 1 + 1, none⟩ = some (.int .u64 (db j)) := (hW.cell (p := ⟨ab, ao + j * 3 + 2, none⟩) hA).trans c2
      have j0 : (0 : Int) ≤ (j : Int) := Int.natCast_nonneg _
      have j1 : (j : Int) < (200 : Int) := by omega
      have HD : Hid _ := Do_step k start dk da db j (Cn_st k3 j (by omega)) ua ub k1 (allCan_of k3 j hlt)
      have HW : Hid _ := wrap_same k (st k start dk da db (j + 1)) (Cn_st k3 (j + 1) (by omega))
      have HX : Hid _ := hnx
      clear c0 c1 c2 ua ub hW hnx
      go_wp2_with fail
      refine Calls.mono (HD.out _ _ (by simp) _) ?_
      rintro e w6 ⟨bq, rfl, hb6, y0, y1⟩
      have hb6' : Below wr.heap.size wr w6 := ((((Below.refl _ _).alloc (Nat.le_refl _) _).alloc (by simp) _).trans (hb6.mono (by simp; omega)))
      have hB6 : Below w5.heap.size w5 w6 := HX.out.trans (hb6'.mono HX.out.size)
      obtain ⟨a0, a1, _, _⟩ := (OutsTo.same O5.out (hB6.block bp t5.out)).done j hlt
      obtain ⟨z0, _⟩ := (NumsTo.same S5.out (hB6.block bs v5.out)).done j hlt
      have HB : Hid _ := hB6
      clear hb6 hb6' hB6 d0 d1 d2 HD HX O5 S5 t5 v5
      go_wp2_with fail
      go_quiet ((go_at_call 10; exact Calls.quiet_of_same (HW.out _)))
      go_wp2
      exact ⟨⟨j + 1, by omega, by go_num, rfl, below_drewN HB.out _⟩, by simp [intOf]; omega⟩
    · obtain rfl : j = 200 := by omega
      go_wp2
      go_ret
      exact ⟨by simp, hB5.trans (hnx.mono hB5.size)⟩
set_option maxRecDepth 100000 in
set_option maxHeartbeats 1000000 in
theorem wins_err200 (k start : Int) (ab ao N cap : Nat) (dk da db : Nat → Int) (w : World) (h : Acts w (some ⟨ab, ao, none⟩) ab ao 200 dk da db) (hN : 200 < N) (hcap : N ≤ cap) (he : rowErr k 200 dk = 5) :
    Calls Try.prog 4 #[.int .i64 k, .int .u64 start, .slice (some ⟨ab, ao, none⟩) N cap] w fun e w' => e = .returned (.bool true) ∧ Below w.heap.size w w' := by
  obtain ⟨i0, hi0, hz0, hz1, hz2⟩ := info_parts act_info
  have n0 : (200 : Int) < (N : Int) := by omega
  have n1 : (200 : Int) ≤ (cap : Int) := by omega
  have h0 : 0 < 200 := by omega
  have H : Hid _ := h
  have HE : Hid _ := he
  have hne : ¬ rowErr k 200 dk = 0 := by rw [he]; decide
  have HN : Hid _ := hne
  clear hne
  clear h he
  go_enter Try.func4, Try.ntmps4
  go_wp2_with fail
  refine (Do_two w _ rfl _).mono ?_
  rintro e w1 ⟨bo, rfl, q2, hb1, x1, x2⟩
  have s1 : w.heap.size ≤ w1.heap.size := hb1.size
  have A1 : Hid _ := (Hid.out H).below (hb1.alloc s1 (.cells #[] 38))
  go_wp2_with (first | (at_builtin; (refine wpList_append_lies _ (by rfl) _ _ _ (by rfl) w.heap.size 38 i0 _ 3 24 acts_under hi0 hz0 hz1 hz2 rfl (by omega) _ 0 [] (by rfl) (owns_empty w1 _ _ _ s1) ⟨ab, ao, none⟩ 200 cap (actCells dk da db 200) (by rfl) (actCells_length dk da db 200) (acts_news A1.out) (actCells_one dk da db 200) h0 (by unfold maxLen; omega) (by omega) (by simp; omega) (w1.heap.size + 1) (by simp) ?_); intro g2 cap2 w2 hown2 hgrow2 hat2 hlt2))
  have hB2 : Below w.heap.size w w2 := Below.grown (hb1.alloc s1 _) hgrow2 (by simp; omega) (fun b hb => by simp [Value.ownBlock] at hb; omega)
  have hA2 := acts_copied hown2 (Hid.out H).u64 (Hid.out H).len h0
  clear hown2 hgrow2 hat2 hlt2 A1 x1 x2 q2 hb1 s1
  refine Calls.mono (Do_err k start g2 0 200 cap2 dk da db _ _ hA2 HN.out) ?_
  rw [HE.out]
  rintro e w3 ⟨rfl, hb3⟩
  have hB3 : Below w.heap.size w w3 := hB2.trans (hb3.mono hB2.size)
  have s3 : w.heap.size ≤ w3.heap.size := hB3.size
  have A3 : Hid _ := (Hid.out H).below (hB3.alloc s3 (.cells #[] 38))
  clear hb3 hA2 hB2
  go_wp2_with (first | (at_builtin; (refine wpList_append_lies _ (by rfl) _ _ _ (by rfl) w.heap.size 38 i0 _ 3 24 acts_under hi0 hz0 hz1 hz2 rfl (by omega) _ 0 [] (by rfl) (owns_empty w3 _ _ _ s3) ⟨ab, ao, none⟩ 200 cap (actCells dk da db 200) (by rfl) (actCells_length dk da db 200) (acts_news A3.out) (actCells_one dk da db 200) h0 (by unfold maxLen; omega) (by omega) (by simp; omega) (w3.heap.size + 1) (by simp) ?_); intro g4 cap4 w4 hown4 hgrow4 hat4 hlt4))
  have hB4 : Below w.heap.size w w4 := Below.grown (hB3.alloc s3 _) hgrow4 (by simp; omega) (fun b hb => by simp [Value.ownBlock] at hb; omega)
  have hA4 := acts_copied hown4 (Hid.out H).u64 (Hid.out H).len h0
  clear hown4 hgrow4 hat4 hlt4 A3 hB3 s3
  refine Calls.mono (Steps_err k start g4 0 200 cap4 dk da db _ _ hA4 HN.out) ?_
  rw [HE.out]
  rintro e w5 ⟨rfl, hb5⟩
  have HB : Hid _ := hB4.trans (hb5.mono hB4.size)
  clear hb5 hA4 hB4
  go_wp2
  go_ret
  exact ⟨by simp, HB.out⟩

end Go.Proofs.Ytieanmpldcibcaa

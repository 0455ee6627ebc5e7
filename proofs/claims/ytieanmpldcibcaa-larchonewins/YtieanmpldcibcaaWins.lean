/- The walk of LarchOneWins. -/
import Derived.Test.YtieanmpldcibcaaRows2
import Derived.Test.YtieanmpldcibcaaLaw1
import Derived.Deep.QuietTactic
import Derived.BigQuiet
import Derived.Deep.AppendLies
namespace Go.Proofs.Ytieanmpldcibcaa
open Go.RowKit

theorem and_mask (x : Int) (hx : U64 x) : bits .and .u64 x 4294967295 = x % 4294967296 := by
  have h := u64_and x 4294967295 hx.1 hx.2 (by omega) (by omega)
  rw [h]
  have e : (4294967295 : Int).toNat = 2 ^ 32 - 1 := rfl
  rw [e, Nat.and_two_pow_sub_one_eq_mod]
  have := hx.1
  show ((x.toNat % 4294967296 : Nat) : Int) = _
  omega

theorem topWrap_any (k v : Int) (hv : U64 v) (w : World) : Calls Try.prog 10 #[.int .i64 k, .int .u64 v] w fun e w' => e = .returned (.int .u64 (cut k v)) ∧ w = w' := by
  by_cases h5 : k = 5
  · subst h5
    by_cases h0 : v = 0
    · subst h0
      go_enter Try.func10, Try.ntmps10
      go_wp2
      go_ret
      exact ⟨rfl, rfl⟩
    · have e : cut 5 v = 1 := by rw [cut_5, if_neg h0]
      have h0' : (v != 0) = true := by simp [h0]
      rw [e]
      clear e h0 hv
      go_enter Try.func10, Try.ntmps10
      go_wp2
      go_ret
      exact ⟨rfl, rfl⟩
  · have b5 : (k == 5) = false := by simp [h5]
    by_cases h1 : k = 1 ∨ k = 3
    · have e : cut k v = bits .and .u64 v 4294967295 := by rw [and_mask v hv]; unfold cut lo32; rw [if_neg h5, if_pos h1]
      rw [e]
      clear e h5 hv
      rcases h1 with rfl | rfl
      all_goals
        clear b5
        go_enter Try.func10, Try.ntmps10
        go_wp2
        go_ret
        exact ⟨rfl, rfl⟩
    · have e : cut k v = v := by
        unfold cut lo64
        rw [if_neg h5, if_neg h1]
        unfold U64 at hv
        omega
      have b1 : (k == 1) = false := by simp; omega
      have b3 : (k == 3) = false := by simp; omega
      rw [e]
      clear e h5 h1 hv
      go_enter Try.func10, Try.ntmps10
      go_wp2
      go_ret
      exact ⟨rfl, rfl⟩

def two (x y : Int) (i : Nat) : Int := if i = 0 then x else y
/-- The fixed row ahead of all. -/
theorem Do_two (W : World) (g : Nat) (hg : W.heap.size = g) (t : TypeId) :
    Calls Try.prog 7 #[.int .i64 2, .int .u64 7, .slice (some ⟨g, 0, none⟩) 2 2] (W.alloc (.cells #[.int .i64 5, .int .u64 7, .int .u64 9, .int .i64 4, .int .u64 1, .int .u64 0] t)) fun e w' =>
      ∃ bo, e = .returned (.tuple #[.slice (some ⟨bo, 0, none⟩) 2 2, .int .u64 1, .int .i64 0]) ∧ bo < w'.heap.size ∧ Below W.heap.size W w' ∧ w'.cell? ⟨bo, 1, none⟩ = some (.bool true) ∧ w'.cell? ⟨bo, 2, none⟩ = some (.int .u64 9) := by
  subst hg
  have ha : Acts (W.alloc (.cells #[.int .i64 5, .int .u64 7, .int .u64 9, .int .i64 4, .int .u64 1, .int .u64 0] t)) (some ⟨W.heap.size, 0, none⟩) W.heap.size 0 2 (two 5 4) (two 7 1) (two 9 0) := by
    refine ⟨fun _ => rfl, fun _ => by simp, fun i hi => ?_, fun i hi => ?_, by unfold maxLen; omega⟩
    · have : i = 0 ∨ i = 1 := by omega
      rcases this with rfl | rfl <;> simp [two]
    · have : i = 0 ∨ i = 1 := by omega
      rcases this with rfl | rfl <;> simp [two, U64]
  refine (Do_ok 2 7 (by unfold U64; omega) W.heap.size 0 2 2 (two 5 4) (two 7 1) (two 9 0) _ _ ha (by decide)).mono ?_
  rintro e w' ⟨bo, rfl, g1, g2, g3, g4⟩
  obtain ⟨_, q1, _, _⟩ := g4.done 0 (by omega)
  obtain ⟨q2, _, _, _⟩ := g4.done 1 (by omega)
  exact ⟨bo, rfl, g2, ((Below.refl _ _).alloc (Nat.le_refl _) _).trans (g3.mono (by simp)), q1, q2⟩

theorem actCells_one (dk da db : Nat → Int) : ∀ n, ∀ u ∈ actCells dk da db n, u.oneCell' = true
  | 0, u, h => by cases h
  | n + 1, u, h => by
    rw [actCells, List.mem_append] at h
    rcases h with h | h
    · exact actCells_one dk da db n u h
    · simp at h; rcases h with rfl | rfl | rfl <;> rfl

theorem addr_plus (b o i : Nat) : (⟨b, o, none⟩ : Addr).add i = ⟨b, o + i, none⟩ := by
  unfold Addr.add
  by_cases h : i = 0 <;> simp [h]

theorem acts_news {w : World} {ab ao n : Nat} {dk da db : Nat → Int} {base : Option Addr} (h : Acts w base ab ao n dk da db) : ∀ j u, (actCells dk da db n)[j]? = some u → w.cell? ((⟨ab, ao, none⟩ : Addr).add j) = some u := by
  intro j u hj
  have hl : j < n * 3 := by rw [← actCells_length dk da db n]; exact (List.getElem?_eq_some_iff.1 hj).1
  obtain ⟨i, r, hr, rfl⟩ : ∃ i r, r < 3 ∧ j = i * 3 + r := ⟨j / 3, j % 3, Nat.mod_lt _ (by omega), by omega⟩
  obtain ⟨a, b, c⟩ := h.cells i (by omega)
  obtain ⟨a', b', c'⟩ := actCells_get dk da db n i (by omega)
  rw [addr_plus]
  have : r = 0 ∨ r = 1 ∨ r = 2 := by omega
  rcases this with rfl | rfl | rfl
  · rw [Nat.add_zero] at hj ⊢; rw [a'] at hj; cases hj; exact a
  · rw [b'] at hj; cases hj; rw [← Nat.add_assoc]; exact b
  · rw [c'] at hj; cases hj; rw [← Nat.add_assoc]; exact c

theorem owns_empty (w : World) (B : Nat) (e : TypeId) (sz : Nat) (hB : B ≤ w.heap.size) : (w.alloc (.cells #[] e)).ownsRow B e sz (.slice (some ⟨w.heap.size, 0, none⟩) 0 0) 0 [] := by
  refine ⟨by simp, Or.inr ⟨w.heap.size, 0, #[], rfl, hB, heap_alloc_new w _, Nat.le_refl _, by unfold maxLen; omega, by simp, by simp⟩⟩

/-- A copy that was just appended is a slice of accesses. -/
theorem acts_copied {w : World} {B : Nat} {e : TypeId} {g n cap : Nat} {dk da db : Nat → Int} (h : w.ownsRow B e 3 (.slice (some ⟨g, 0, none⟩) (0 + n) cap) (0 + n) ([] ++ actCells dk da db n)) (hU : ∀ i, i < n → U64 (da i) ∧ U64 (db i)) (hn : n ≤ maxLen) (h0 : 0 < n) : Acts w (some ⟨g, 0, none⟩) g 0 n dk da db := by
  rw [Nat.zero_add, List.nil_append] at h
  obtain ⟨b, c, g', hv, _, ha⟩ := acts_of_owns h hU hn
  simp only [Value.slice.injEq] at hv
  obtain ⟨hb, _, _⟩ := hv
  have := ha.base (by omega)
  rw [← hb] at this ha
  simp at this
  subst this
  exact ha

/-- Do of the j-th access alone, from what the row held there. -/
theorem Do_step (k start : Int) (dk da db : Nat → Int) (j : Nat) (hc : Cn k (st k start dk da db j)) (ua : U64 (da j)) (ub : U64 (db j)) (h1 : isK k = true) (h2 : can k (dk j) = true) (W : World) (g : Nat) (hg : W.heap.size = g) (t : TypeId) :
    Calls Try.prog 7 #[.int .i64 k, .int .u64 (st k start dk da db j), .slice (some ⟨g, 0, none⟩) 1 1] (W.alloc (.cells #[.int .i64 (dk j), .int .u64 (da j), .int .u64 (db j)] t)) fun e w' =>
      ∃ bo, e = .returned (.tuple #[.slice (some ⟨bo, 0, none⟩) 1 1, .int .u64 (st k start dk da db (j + 1)), .int .i64 0]) ∧ Below (W.heap.size + 1) (W.alloc (.cells #[.int .i64 (dk j), .int .u64 (da j), .int .u64 (db j)] t)) w' ∧
        w'.cell? ⟨bo, 0, none⟩ = some (.int .u64 (ov k (st k start dk da db j) (dk j) (da j))) ∧ w'.cell? ⟨bo, 1, none⟩ = some (.bool (ok k (st k start dk da db j) (dk j) (da j))) := by
  have hd := Do_one k (st k start dk da db j) (dk j) (da j) (db j) (Cn_u64 hc) ua ub h1 h2 W g hg t
  have e : cut k (st k start dk da db j) = st k start dk da db j := hc
  rw [e] at hd
  refine hd.mono ?_
  rintro e w' ⟨bo, rfl, _, _, g3, q0, q1⟩
  exact ⟨bo, rfl, g3, q0, q1⟩
theorem wrap_same (k v : Int) (hv : Cn k v) : ∀ w : World, Calls Try.prog 10 #[.int .i64 k, .int .u64 v] w fun e w' => e = .returned (.int .u64 v) ∧ w' = w := by
  intro w
  have h := topWrap_any k v (Cn_u64 hv) w
  have e : cut k v = v := hv
  rw [e] at h
  refine h.mono ?_
  rintro e w' ⟨rfl, rfl⟩
  exact ⟨rfl, rfl⟩

set_option maxRecDepth 100000 in
set_option maxHeartbeats 1000000 in
theorem wins_ok (k start : Int) (hs : U64 start) (ab ao n cap : Nat) (dk da db : Nat → Int) (w : World) (h : Acts w (some ⟨ab, ao, none⟩) ab ao n dk da db) (hn : n ≤ 200) (h0 : 0 < n) (he : rowErr k n dk = 0) :
    Calls Try.prog 4 #[.int .i64 k, .int .u64 start, .slice (some ⟨ab, ao, none⟩) n cap] w fun e w' => e = .returned (.bool true) ∧ Below w.heap.size w w' := by
  obtain ⟨i0, hi0, hz0, hz1, hz2⟩ := info_parts act_info
  have n0 : ¬ (200 : Int) < (n : Int) := by omega
  have H : Hid _ := h
  have HE : Hid _ := he
  clear h he
  go_enter Try.func4, Try.ntmps4
  go_wp2_with fail
  refine (Do_two w _ rfl _).mono ?_
  rintro e w1 ⟨bo, rfl, q2, hb1, x1, x2⟩
  have s1 : w.heap.size ≤ w1.heap.size := hb1.size
  have A1 : Hid _ := (Hid.out H).below (hb1.alloc s1 (.cells #[] 38))
  go_wp2_with (first | (at_builtin; (refine wpList_append_lies _ (by rfl) _ _ _ (by rfl) w.heap.size 38 i0 _ 3 24 acts_under hi0 hz0 hz1 hz2 rfl (by omega) _ 0 [] (by rfl) (owns_empty w1 _ _ _ s1) ⟨ab, ao, none⟩ n cap (actCells dk da db n) (by rfl) (actCells_length dk da db n) (acts_news A1.out) (actCells_one dk da db n) h0 (by unfold maxLen; omega) (by omega) (by simp; omega) (w1.heap.size + 1) (by simp) ?_); intro g2 cap2 w2 hown2 hgrow2 hat2 hlt2))
  have hB2 : Below w.heap.size w w2 := Below.grown (hb1.alloc s1 _) hgrow2 (by simp; omega) (fun b hb => by simp [Value.ownBlock] at hb; omega)
  have hA2 := acts_copied hown2 (Hid.out H).u64 (Hid.out H).len h0
  clear hown2 hgrow2 hat2 hlt2 A1 x1 x2 q2 hb1 s1
  refine Calls.mono (Do_ok k start hs g2 0 n cap2 dk da db _ _ hA2 HE.out) ?_
  rintro e w3 ⟨bp, rfl, q1, q2, hb3, ho3⟩
  have hB3 : Below w.heap.size w w3 := hB2.trans (hb3.mono hB2.size)
  have s3 : w.heap.size ≤ w3.heap.size := hB3.size
  have O3 : Hid _ := ho3
  have t3 : Hid (bp < w3.heap.size) := q2
  have A3 : Hid _ := (Hid.out H).below (hB3.alloc s3 (.cells #[] 38))
  clear hb3 ho3 q1 q2 hA2 hB2
  go_wp2_with (first | (at_builtin; (refine wpList_append_lies _ (by rfl) _ _ _ (by rfl) w.heap.size 38 i0 _ 3 24 acts_under hi0 hz0 hz1 hz2 rfl (by omega) _ 0 [] (by rfl) (owns_empty w3 _ _ _ s3) ⟨ab, ao, none⟩ n cap (actCells dk da db n) (by rfl) (actCells_length dk da db n) (acts_news A3.out) (actCells_one dk da db n) h0 (by unfold maxLen; omega) (by omega) (by simp; omega) (w3.heap.size + 1) (by simp) ?_); intro g4 cap4 w4 hown4 hgrow4 hat4 hlt4))
  have hB4 : Below w.heap.size w w4 := Below.grown (hB3.alloc s3 _) hgrow4 (by simp; omega) (fun b hb => by simp [Value.ownBlock] at hb; omega)
  have hb34 : Below w3.heap.size w3 w4 := Below.grown ((Below.refl _ _).alloc (Nat.le_refl _) _) hgrow4 (by simp) (fun b hb => by simp [Value.ownBlock] at hb; omega)
  have O4 : Hid _ := OutsTo.same O3.out (hb34.block bp t3.out)
  have t4 : Hid (bp < w4.heap.size) := Nat.lt_of_lt_of_le t3.out hb34.size
  have hA4 := acts_copied hown4 (Hid.out H).u64 (Hid.out H).len h0
  clear hown4 hgrow4 hat4 hlt4 A3 O3 t3 hB3 s3 hb34
  refine Calls.mono (Steps_ok k start hs g4 0 n cap4 dk da db _ _ hA4 HE.out) ?_
  rintro e w5 ⟨bs, rfl, q1, q2, hb5, ho5⟩
  have hB5 : Below w.heap.size w w5 := hB4.trans (hb5.mono hB4.size)
  have O5 : Hid _ := OutsTo.same O4.out (hb5.block bp t4.out)
  have t5 : Hid (bp < w5.heap.size) := Nat.lt_of_lt_of_le t4.out hb5.size
  have S5 : Hid _ := ho5
  have v5 : Hid (bs < w5.heap.size) := q2
  clear hb5 ho5 q1 q2 hA4 hB4 O4 t4
  go_wp2_with (first | (go_at_call 10; refine (topWrap_any k start hs _).mono ?_; rintro e w' ⟨rfl, rfl⟩))
  have hneq := out_neq
  obtain ⟨k1, k2, k3⟩ := rowErr_zero HE.out
  go_loopw [12, 109] (fun v i wr => ∃ j : Nat, j ≤ n ∧ i = .int .i64 j ∧ v = .int .u64 (st k start dk da db j) ∧ Below w5.heap.size w5 wr) (fun _ i _ => n - (intOf i).toNat)
  case atStart => exact ⟨0, Nat.zero_le _, rfl, rfl, Below.refl _ _⟩
  case round =>
    obtain ⟨j, hj, rfl, rfl, hnx⟩ := hrel
    by_cases hlt : j < n
    · obtain ⟨c0, c1, c2⟩ := (Hid.out H).cells j hlt
      obtain ⟨ua, ub⟩ := (Hid.out H).u64 j hlt
      have hA : ab < w.heap.size := (Hid.out H).lt (by omega)
      have hW : Below w.heap.size w wr := hB5.trans (hnx.mono hB5.size)
      have d0 : wr.cell? ⟨ab, ao + j * 3, none⟩ = some (.int .i64 (dk j)) := (hW.cell (p := ⟨ab, ao + j * 3, none⟩) hA).trans c0
      have d1 : wr.cell? ⟨ab, ao + j * 3 + 1, none⟩ = some (.int .u64 (da j)) := (hW.cell (p := ⟨ab, ao + j * 3 + 1, none⟩) hA).trans c1
      have d2 : wr.cell? ⟨ab, ao + j * 3 + 1 + 1, none⟩ = some (.int .u64 (db j)) := (hW.cell (p := ⟨ab, ao + j * 3 + 2, none⟩) hA).trans c2
      have j0 : (0 : Int) ≤ (j : Int) := Int.natCast_nonneg _
      have j1 : (j : Int) < (n : Int) := by omega
      have HD : Hid _ := Do_step k start dk da db j (Cn_st k3 j (by omega)) ua ub k1 (allCan_of k3 j hlt)
      have HW : Hid _ := wrap_same k (st k start dk da db (j + 1)) (Cn_st k3 (j + 1) (by omega))
      have HX : Hid _ := hnx
      clear c0 c1 c2 ua ub hW hnx
      go_wp2_with fail
      refine Calls.mono (HD.out _ _ (by simp) _) ?_
      rintro e w6 ⟨bq, rfl, hb6, y0, y1⟩
      have hb6' : Below wr.heap.size wr w6 := ((((Below.refl _ _).alloc (Nat.le_refl _) _).alloc (by simp) _).trans (hb6.mono (by simp; omega)))
      have hB6 : Below w5.heap.size w5 w6 := HX.out.trans (hb6'.mono HX.out.size)
      obtain ⟨a0, a1, _, _⟩ := (OutsTo.same O5.out (hB6.block bp t5.out)).done j hlt
      obtain ⟨z0, _⟩ := (NumsTo.same S5.out (hB6.block bs v5.out)).done j hlt
      have HB : Hid _ := hB6
      clear hb6 hb6' hB6 d0 d1 d2 HD HX O5 S5 t5 v5
      go_wp2_with fail
      go_quiet ((go_at_call 10; exact Calls.quiet_of_same (HW.out _)))
      go_wp2
      exact ⟨⟨j + 1, by omega, by go_num, rfl, below_drewN HB.out _⟩, by simp [intOf]; omega⟩
    · obtain rfl : j = n := by omega
      go_wp2
      go_ret
      exact ⟨by simp, hB5.trans (hnx.mono hB5.size)⟩
set_option maxRecDepth 100000 in
set_option maxHeartbeats 1000000 in
theorem wins_err (k start : Int) (ab ao n cap : Nat) (dk da db : Nat → Int) (w : World) (h : Acts w (some ⟨ab, ao, none⟩) ab ao n dk da db) (hn : n ≤ 200) (h0 : 0 < n) (he : rowErr k n dk = 5) :
    Calls Try.prog 4 #[.int .i64 k, .int .u64 start, .slice (some ⟨ab, ao, none⟩) n cap] w fun e w' => e = .returned (.bool true) ∧ Below w.heap.size w w' := by
  obtain ⟨i0, hi0, hz0, hz1, hz2⟩ := info_parts act_info
  have n0 : ¬ (200 : Int) < (n : Int) := by omega
  have H : Hid _ := h
  have HE : Hid _ := he
  have hne : ¬ rowErr k n dk = 0 := by rw [he]; decide
  have HN : Hid _ := hne
  clear hne
  clear h he
  go_enter Try.func4, Try.ntmps4
  go_wp2_with fail
  refine (Do_two w _ rfl _).mono ?_
  rintro e w1 ⟨bo, rfl, q2, hb1, x1, x2⟩
  have s1 : w.heap.size ≤ w1.heap.size := hb1.size
  have A1 : Hid _ := (Hid.out H).below (hb1.alloc s1 (.cells #[] 38))
  go_wp2_with (first | (at_builtin; (refine wpList_append_lies _ (by rfl) _ _ _ (by rfl) w.heap.size 38 i0 _ 3 24 acts_under hi0 hz0 hz1 hz2 rfl (by omega) _ 0 [] (by rfl) (owns_empty w1 _ _ _ s1) ⟨ab, ao, none⟩ n cap (actCells dk da db n) (by rfl) (actCells_length dk da db n) (acts_news A1.out) (actCells_one dk da db n) h0 (by unfold maxLen; omega) (by omega) (by simp; omega) (w1.heap.size + 1) (by simp) ?_); intro g2 cap2 w2 hown2 hgrow2 hat2 hlt2))
  have hB2 : Below w.heap.size w w2 := Below.grown (hb1.alloc s1 _) hgrow2 (by simp; omega) (fun b hb => by simp [Value.ownBlock] at hb; omega)
  have hA2 := acts_copied hown2 (Hid.out H).u64 (Hid.out H).len h0
  clear hown2 hgrow2 hat2 hlt2 A1 x1 x2 q2 hb1 s1
  refine Calls.mono (Do_err k start g2 0 n cap2 dk da db _ _ hA2 HN.out) ?_
  rw [HE.out]
  rintro e w3 ⟨rfl, hb3⟩
  have hB3 : Below w.heap.size w w3 := hB2.trans (hb3.mono hB2.size)
  have s3 : w.heap.size ≤ w3.heap.size := hB3.size
  have A3 : Hid _ := (Hid.out H).below (hB3.alloc s3 (.cells #[] 38))
  clear hb3 hA2 hB2
  go_wp2_with (first | (at_builtin; (refine wpList_append_lies _ (by rfl) _ _ _ (by rfl) w.heap.size 38 i0 _ 3 24 acts_under hi0 hz0 hz1 hz2 rfl (by omega) _ 0 [] (by rfl) (owns_empty w3 _ _ _ s3) ⟨ab, ao, none⟩ n cap (actCells dk da db n) (by rfl) (actCells_length dk da db n) (acts_news A3.out) (actCells_one dk da db n) h0 (by unfold maxLen; omega) (by omega) (by simp; omega) (w3.heap.size + 1) (by simp) ?_); intro g4 cap4 w4 hown4 hgrow4 hat4 hlt4))
  have hB4 : Below w.heap.size w w4 := Below.grown (hB3.alloc s3 _) hgrow4 (by simp; omega) (fun b hb => by simp [Value.ownBlock] at hb; omega)
  have hA4 := acts_copied hown4 (Hid.out H).u64 (Hid.out H).len h0
  clear hown4 hgrow4 hat4 hlt4 A3 hB3 s3
  refine Calls.mono (Steps_err k start g4 0 n cap4 dk da db _ _ hA4 HN.out) ?_
  rw [HE.out]
  rintro e w5 ⟨rfl, hb5⟩
  have HB : Hid _ := hB4.trans (hb5.mono hB4.size)
  clear hb5 hA4 hB4
  go_wp2
  go_ret
  exact ⟨by simp, HB.out⟩

end Go.Proofs.Ytieanmpldcibcaa


/- Layer 18: a change's hang. -/

import Derived.Test.YtfjkddjjpbdjkaaSSt4

namespace Go.Proofs.Ytfjkddjjpbdjkaa

open Go.RowKit

attribute [local go_sem ↓] Go.wp_at_zero Go.wp_at_succ

/-- Whoever led to x leads to top, among the first places. -/
def hangN (t : NL) (x top : Int) (T : NL) : Nat → NL
  | 0 => T
  | j + 1 => if (ndAt t j).l = x then setL (hangN t x top T j) j top else if (ndAt t j).r = x then setR (hangN t x top T j) j top else hangN t x top T j
theorem hangN_length (t : NL) (x top : Int) (T : NL) : ∀ j, (hangN t x top T j).length = T.length
  | 0 => rfl
  | j + 1 => by
    unfold hangN
    split
    · unfold setL; rw [List.length_set]; exact hangN_length t x top T j
    · split
      · unfold setR; rw [List.length_set]; exact hangN_length t x top T j
      · exact hangN_length t x top T j
/-- The copy's row, and all else as it was. -/
structure Hg (w0 X z : World) (g cap : Nat) (T : NL) : Prop where
  row : MAt w0 z g cap T
  size : X.heap.size ≤ z.heap.size
  rest : ∀ blk off, blk < X.heap.size → blk ≠ g → z.cell? ⟨blk, off, none⟩ = X.cell? ⟨blk, off, none⟩
theorem Hg.alloc {w0 X z : World} {g cap : Nat} {T : NL} (h : Hg w0 X z g cap T) (o : Obj) : Hg w0 X (z.alloc o) g cap T :=
  ⟨h.row.quiet (below_alloc _ _), by have := h.size; simp; omega, fun blk off h1 h2 => ((below_alloc z o).cell (p := ⟨blk, off, none⟩) (Nat.lt_of_lt_of_le h1 h.size)).trans (h.rest blk off h1 h2)⟩
theorem Hg.drew {w0 X z : World} {g cap : Nat} {T : NL} (h : Hg w0 X z g cap T) : Hg w0 X z.drew g cap T := ⟨h.row.drew, h.size, h.rest⟩
theorem Hg.setL {w0 X z : World} {g cap : Nat} {T : NL} (h : Hg w0 X z g cap T) (i : Nat) (a : Int) (hi : i < T.length) : Hg w0 X (z.setCell ⟨g, i * 6 + 4, none⟩ (.int .i64 a)) g cap (Go.Proofs.Ytfjkddjjpbdjkaa.setL T i a) :=
  ⟨h.row.putL i a hi h.row.lt.1, by simpa using h.size, fun blk off h1 h2 => (World.cell?_setCell_far _ _ _ _ (Ne.symm h2)).trans (h.rest blk off h1 h2)⟩
theorem Hg.setR {w0 X z : World} {g cap : Nat} {T : NL} (h : Hg w0 X z g cap T) (i : Nat) (a : Int) (hi : i < T.length) : Hg w0 X (z.setCell ⟨g, i * 6 + 5, none⟩ (.int .i64 a)) g cap (Go.Proofs.Ytfjkddjjpbdjkaa.setR T i a) :=
  ⟨h.row.putR i a hi h.row.lt.1, by simpa using h.size, fun blk off h1 h2 => (World.cell?_setCell_far _ _ _ _ (Ne.symm h2)).trans (h.rest blk off h1 h2)⟩
theorem Hg.drewN {w0 X z : World} {g cap : Nat} {T : NL} (h : Hg w0 X z g cap T) (n : Nat) : Hg w0 X (z.drewN n) g cap T := ⟨⟨h.row.own, below_drewN h.row.below _⟩, h.size, h.rest⟩
set_option maxRecDepth 100000 in
set_option maxHeartbeats 2000000 in
theorem hang_any (cb g cap : Nat) (b o c : Nat) (base : Option Addr) (t T : NL) (x top : Int) (w0 w : World) (h0 : w.cell? ⟨cb, 0, none⟩ = some (.slice base t.length c)) (h3 : w.cell? ⟨cb, 3, none⟩ = some (.int .i64 x)) (h12 : w.cell? ⟨cb, 12, none⟩ = some (.slice (some ⟨g, 0, none⟩) t.length cap)) (hl : cb < w.heap.size) (hgc : cb ≠ g) (hn : NodesAt w base b o t) (hgb : b ≠ g) (hT : T.length = t.length) (hbig : t.length ≤ 100000) (hM : MAt w0 w g cap T) :
    Calls Try.prog 59 #[.pointer (some ⟨cb, 0, none⟩), .int .i64 top] w fun e w' => e = .returned (.tuple #[]) ∧ Hg w0 w w' g cap (hangN t x top T t.length) := by
  have HN : Hid (NodesAt w base b o t) := hn
  have H0 : Hid (Hg w0 w w g cap T) := ⟨hM, Nat.le_refl _, fun _ _ _ _ => rfl⟩
  have HT : Hid (T.length = t.length) := hT
  clear hn hM hT
  go_enter Try.func59, Try.ntmps59
  go_wp2_with fail
  go_loopw [12] (fun i wr => ∃ j : Nat, j ≤ t.length ∧ i = .int .i64 j ∧ Hg w0 w wr g cap (hangN t x top T j)) (fun i _ => t.length - (intOf i).toNat)
  case atStart => exact ⟨0, Nat.zero_le _, rfl, H0.out⟩
  case round =>
    obtain ⟨j, hj, rfl, hH⟩ := hrel
    by_cases hlt : j < t.length
    · obtain rfl : base = some ⟨b, o, none⟩ := HN.out.base (by omega)
      have hb := HN.out.lt (by omega)
      have hT2 : j < (hangN t x top T j).length := by rw [hangN_length, HT.out]; exact hlt
      obtain ⟨c0, c1, c2, c3, c4, c5⟩ := HN.out.cells j hlt
      rw [← hH.rest b _ hb hgb] at c0 c1 c2 c3 c4 c5
      have b0 := (hH.rest cb 0 hl hgc).trans h0
      have b3 := (hH.rest cb 3 hl hgc).trans h3
      have b12 := (hH.rest cb 12 hl hgc).trans h12
      have zs := hH.size
      obtain ⟨⟨m4, f4⟩, m5, f5⟩ := hH.row.cells j hT2
      have gl := hH.row.lt.2
      have cl : cb < wr.heap.size := by omega
      have bl : b < wr.heap.size := by omega
      have j0 : (0 : Int) ≤ (j : Int) := Int.natCast_nonneg _
      have j1 : (j : Int) < (t.length : Int) := by omega
      have HS : Hid (hangN t x top T (j + 1) = if (ndAt t j).l = x then setL (hangN t x top T j) j top else if (ndAt t j).r = x then setR (hangN t x top T j) j top else hangN t x top T j) := rfl
      have HH : Hid (Hg w0 w wr g cap (hangN t x top T j)) := hH
      clear hH
      generalize hangN t x top T j = Tj at *
      generalize ndAt t j = nd at *
      obtain ⟨k0, k1, k2, k3, k4, k5⟩ := nd
      simp only at c0 c1 c2 c3 c4 c5 HS
      by_cases q4 : k4 = x
      · have d4 : (k4 == x) = true := by simp [q4]
        have HS' : Hid (hangN t x top T (j + 1) = setL Tj j top) := by show _ = _; rw [HS.out, if_pos q4]
        clear q4
        go_wp2_with fail
        go_quiet (fail)
        go_wp2_with fail
        exact ⟨⟨j + 1, by omega, by go_num, by rw [HS'.out]; exact ((HH.out.alloc _).drewN _).setL j top hT2⟩, by simp [intOf]; omega⟩
      · have d4 : (k4 == x) = false := by simp [q4]
        by_cases q5 : k5 = x
        · have d5 : (k5 == x) = true := by simp [q5]
          have HS' : Hid (hangN t x top T (j + 1) = setR Tj j top) := by show _ = _; rw [HS.out, if_neg q4, if_pos q5]
          clear q4 q5
          go_wp2_with fail
          go_quiet (fail)
          go_wp2_with fail
          generalize nq = n1 at *
          go_quiet (fail)
          go_wp2_with fail
          exact ⟨⟨j + 1, by omega, by go_num, by rw [HS'.out]; exact ((HH.out.alloc _).drewN _).setR j top hT2⟩, by simp [intOf]; omega⟩
        · have d5 : (k5 == x) = false := by simp [q5]
          have HS' : Hid (hangN t x top T (j + 1) = Tj) := by show _ = _; rw [HS.out, if_neg q4, if_neg q5]
          clear q4 q5
          go_wp2_with fail
          go_quiet (fail)
          go_wp2_with fail
          generalize nq = n1 at *
          go_quiet (fail)
          go_wp2_with fail
          exact ⟨⟨j + 1, by omega, by go_num, by rw [HS'.out]; exact (HH.out.alloc _).drewN _⟩, by simp [intOf]; omega⟩
    · obtain rfl : j = t.length := by omega
      have HH : Hid (Hg w0 w wr g cap (hangN t x top T t.length)) := hH
      clear hH
      go_wp2_with fail
      (try simp only [Exit.inBlock, Exit.then])
      first | (go_end0; exact ⟨rfl, HH.out⟩) | (refine bodyPost_end0 rfl rfl ?_; exact ⟨rfl, HH.out⟩) | (refine bodyPost_ret (v := .tuple #[]) ?_ rfl ?_; · rfl; · exact ⟨rfl, HH.out⟩)
end Go.Proofs.Ytfjkddjjpbdjkaa

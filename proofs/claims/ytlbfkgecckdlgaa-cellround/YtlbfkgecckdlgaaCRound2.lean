/- Layer 2: CellRound's walk. -/
import Derived.Test.YtlbfkgecckdlgaaCRound
namespace Go.Proofs.Ytlbfkgecckdlgaa
open Go.RowKit

set_option maxRecDepth 100000 in
set_option maxHeartbeats 1000000 in
theorem round_walk (n d s g r : Int) (w : World) (e1 : wrap64 (n + d) = s) (e2 : wrap64 (-d) = g) (h1 : Hid (IntKind.i64.wrap (n + d) = s)) (h3 : Hid (IntKind.i64.wrap (s + g) = n)) (e4 : bits .or .i64 n d = r) (h5 : Hid (bits .and .i64 r d = d)) :
    Calls Try.prog 6 #[.int .i64 n, .int .i64 d] w fun e w' => e = .returned (.bool true) ∧ Below w.heap.size w w' := by
  have h4 : Hid _ := e4
  go_enter Try.func6, Try.ntmps6
  go_wp2_with (first | (go_at_call 11; refine (awake_any _).mono ?_; rintro e w1 ⟨rfl, hb1⟩) | (go_at_call 18; refine (newNum_any _ _).mono ?_; rintro e w2 ⟨rfl, hs2, hb2⟩; have S2 : Hid _ := hs2; clear hs2))
  refine Calls.mono (rAdd S2.out d s h1.out) ?_
  rintro e w3 ⟨rfl, hs3, hb3⟩
  have S3 : Hid _ := hs3
  clear hs3 S2
  go_wp2_with fail
  refine Calls.mono (rAdd S3.out g n h3.out) ?_
  rintro e w4 ⟨rfl, hs4, hb4⟩
  have S4 : Hid _ := hs4
  clear hs4 S3
  go_wp2_with fail
  refine Calls.mono (rSwap S4.out d) ?_
  rintro e w5 ⟨rfl, hs5, hb5⟩
  have S5 : Hid _ := hs5
  clear hs5 S4
  go_wp2_with fail
  refine Calls.mono (rSwap S5.out n) ?_
  rintro e w6 ⟨rfl, hs6, hb6⟩
  have S6 : Hid _ := hs6
  clear hs6 S5
  go_wp2_with fail
  refine Calls.mono (rCas S6.out n d) ?_
  rw [if_pos rfl, show (n == n) = true from by simp]
  rintro e w7 ⟨rfl, hs7, hb7⟩
  have S7 : Hid _ := hs7
  clear hs7 S6
  go_wp2_with fail
  refine Calls.mono (rCas S7.out d n) ?_
  rw [if_pos rfl, show (d == d) = true from by simp]
  rintro e w8 ⟨rfl, hs8, hb8⟩
  have S8 : Hid _ := hs8
  clear hs8 S7
  go_wp2_with fail
  refine Calls.mono (rOr S8.out d r h4.out) ?_
  rintro e w9 ⟨rfl, hs9, hb9⟩
  have S9 : Hid _ := hs9
  clear hs9 S8
  go_wp2_with fail
  refine Calls.mono (rAnd S9.out d d h5.out) ?_
  rintro e w10 ⟨rfl, hs10, hb10⟩
  have S10 : Hid _ := hs10
  clear hs10 S9
  go_wp2_with fail
  refine Calls.mono (rLoad S10.out) ?_
  rintro e w11 ⟨rfl, hs11, hb11⟩
  have S11 : Hid _ := hs11
  clear hs11 S10
  go_wp2_with fail
  refine Calls.mono (rCas S11.out n 0) ?_
  rintro e w12 ⟨rfl, hs12, hb12⟩
  clear hs12 S11
  have q : (d == n) = (n == d) := by rw [Bool.eq_iff_iff]; simp; omega
  rw [q]
  go_wp2
  go_ret
  have q2 : w.heap.size ≤ w1.heap.size := hb1.size
  have b2 := hb1.trans (hb2.mono q2)
  have b3 := b2.trans (hb3.mono q2)
  have b4 := b3.trans (hb4.mono q2)
  have b5 := b4.trans (hb5.mono q2)
  have b6 := b5.trans (hb6.mono q2)
  have b7 := b6.trans (hb7.mono q2)
  have b8 := b7.trans (hb8.mono q2)
  have b9 := b8.trans (hb9.mono q2)
  have b10 := b9.trans (hb10.mono q2)
  have b11 := b10.trans (hb11.mono q2)
  exact ⟨by simp, b11.trans (hb12.mono q2)⟩
end Go.Proofs.Ytlbfkgecckdlgaa

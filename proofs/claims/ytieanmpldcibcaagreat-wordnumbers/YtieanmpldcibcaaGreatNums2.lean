/- What Plain, Ends and Less answer, the program's and the reference's. -/
import Derived.Test.YtieanmpldcibcaaGreatNums
namespace Go.Proofs.YtieanmpldcibcaaGreat
open Go.RowKit

/-- Below 0? of held bits. -/
def bl (k v : Int) : Bool := (k == 1 && decide (2147483648 ≤ v)) || (k == 2 && decide (9223372036854775808 ≤ v))

theorem below_any (k v : Int) (w : World) : Calls Tryz.prog 28 #[.int .i64 k, .int .u64 v] w fun e w' => e = .returned (.bool (bl k v)) ∧ w = w' := by
  by_cases h1 : k = 1
  · subst h1
    have e : bl 1 v = decide (2147483648 ≤ v) := by simp [bl]
    rw [e]
    go_enter Tryz.func28, Tryz.ntmps28
    go_wp2
    all_goals
      go_ret
      exact ⟨by simp [*], rfl⟩
  · by_cases h2 : k = 2
    · subst h2
      have e : bl 2 v = decide (9223372036854775808 ≤ v) := by simp [bl]
      rw [e]
      go_enter Tryz.func28, Tryz.ntmps28
      go_wp2
      all_goals
        go_ret
        exact ⟨by simp [*], rfl⟩
    · have b1 : (k == 1) = false := by simp [h1]
      have b2 : (k == 2) = false := by simp [h2]
      have e : bl k v = false := by simp [bl, h1, h2]
      rw [e]
      clear e h1 h2
      go_enter Tryz.func28, Tryz.ntmps28
      go_wp2
      all_goals
        go_ret
        exact ⟨by simp [*], rfl⟩

theorem leastOf_any (k : Int) (w : World) : Calls Tryz.prog 29 #[.int .i64 k] w fun e w' => e = .returned (.int .u64 (if k = 1 then 2147483648 else if k = 2 then 9223372036854775808 else 0)) ∧ w = w' := by
  by_cases h1 : k = 1
  · subst h1
    go_enter Tryz.func29, Tryz.ntmps29
    go_wp2
    go_ret
    exact ⟨rfl, rfl⟩
  · by_cases h2 : k = 2
    · subst h2
      go_enter Tryz.func29, Tryz.ntmps29
      go_wp2
      go_ret
      exact ⟨rfl, rfl⟩
    · have b1 : (k == 1) = false := by simp [h1]
      have b2 : (k == 2) = false := by simp [h2]
      rw [if_neg h1, if_neg h2]
      clear h1 h2
      go_enter Tryz.func29, Tryz.ntmps29
      go_wp2
      go_ret
      exact ⟨rfl, rfl⟩

/-- Less over held bits, the reference's way. -/
def un (k a b : Int) : Bool := if bl k a != bl k b then bl k a else decide (a < b)

theorem under_any (k a b : Int) (w : World) : Calls Tryz.prog 30 #[.int .i64 k, .int .u64 a, .int .u64 b] w fun e w' => e = .returned (.bool (un k a b)) ∧ w = w' := by
  have HA : Hid _ := below_any k a
  have HB : Hid _ := below_any k b
  unfold un
  generalize bl k a = p at *
  generalize bl k b = q at *
  go_enter Tryz.func30, Tryz.ntmps30
  go_wp2_with fail
  refine Calls.mono (HA.out _) ?_
  rintro e w' ⟨rfl, rfl⟩
  go_wp2_with fail
  refine Calls.mono (HB.out _) ?_
  rintro e w' ⟨rfl, rfl⟩
  cases p <;> cases q
  · go_wp2
    go_ret
    exact ⟨by simp, rfl⟩
  · go_wp2_with fail
    refine Calls.mono (HA.out _) ?_
    rintro e w' ⟨rfl, rfl⟩
    go_wp2
    go_ret
    exact ⟨by simp, rfl⟩
  · go_wp2_with fail
    refine Calls.mono (HA.out _) ?_
    rintro e w' ⟨rfl, rfl⟩
    go_wp2
    go_ret
    exact ⟨by simp, rfl⟩
  · go_wp2
    go_ret
    exact ⟨by simp, rfl⟩

/-- Less over held bits, the program's way: it is the reference's. -/
theorem less_is (k a b : Int) (ha : Cn k a) (hb : Cn k b) (x y : Int) (hx : bits .xor .u64 a (if k = 1 then 2147483648 else if k = 2 then 9223372036854775808 else 0) = x) (hy : bits .xor .u64 b (if k = 1 then 2147483648 else if k = 2 then 9223372036854775808 else 0) = y) : decide (x < y) = un k a b := by
  have ua := Cn_u64 ha
  have ub := Cn_u64 hb
  unfold un bl
  by_cases h1 : k = 1
  · subst h1
    have ha' : a % 4294967296 = a := ha
    have hb' : b % 4294967296 = b := hb
    rw [if_pos rfl, xor_31 a (by omega) (by omega)] at hx
    rw [if_pos rfl, xor_31 b (by omega) (by omega)] at hy
    rw [← hx, ← hy]
    by_cases p : 2147483648 ≤ a <;> by_cases q : 2147483648 ≤ b
    · rw [if_neg (by omega), if_neg (by omega)]; simp [p, q] <;> omega
    · rw [if_neg (by omega), if_pos (by omega)]; simp [p, q] <;> omega
    · rw [if_pos (by omega), if_neg (by omega)]; simp [p, q] <;> omega
    · rw [if_pos (by omega), if_pos (by omega)]; simp [p, q]
  · by_cases h2 : k = 2
    · subst h2
      rw [if_neg h1, if_pos rfl, xor_63 a ua.1 ua.2] at hx
      rw [if_neg h1, if_pos rfl, xor_63 b ub.1 ub.2] at hy
      unfold U64 at ua ub
      rw [← hx, ← hy]
      by_cases p : 9223372036854775808 ≤ a <;> by_cases q : 9223372036854775808 ≤ b
      · rw [if_neg (by omega), if_neg (by omega)]; simp [p, q] <;> omega
      · rw [if_neg (by omega), if_pos (by omega)]; simp [p, q] <;> omega
      · rw [if_pos (by omega), if_neg (by omega)]; simp [p, q] <;> omega
      · rw [if_pos (by omega), if_pos (by omega)]; simp [p, q]
    · rw [if_neg h1, if_neg h2, xor_zero a ua] at hx
      rw [if_neg h1, if_neg h2, xor_zero b ub] at hy
      subst hx hy
      have b1 : (k == 1) = false := by simp [h1]
      have b2 : (k == 2) = false := by simp [h2]
      simp [b1, b2]

theorem less_any (k a b : Int) (ha : Cn k a) (hb : Cn k b) (w : World) : Calls Tryz.prog 31 #[.int .i64 k, .int .u64 a, .int .u64 b] w fun e w' => e = .returned (.bool (un k a b)) ∧ w = w' := by
  rw [← less_is k a b ha hb _ _ rfl rfl]
  have HL : Hid _ := leastOf_any k
  generalize (if k = 1 then (2147483648 : Int) else if k = 2 then 9223372036854775808 else 0) = l at *
  go_enter Tryz.func31, Tryz.ntmps31
  go_wp2_with (first | (go_at_call 29; refine Calls.mono (HL.out _) ?_; rintro e w' ⟨rfl, rfl⟩))
  go_ret
  exact ⟨rfl, rfl⟩

/-- The answer of Less. -/
def lv (k a b : Int) : Bool := isK k && un k (cut k a) (cut k b)

theorem refLess_any (k a b : Int) (ha : U64 a) (hb : U64 b) (w : World) : Calls Tryz.prog 15 #[.int .i64 k, .int .u64 a, .int .u64 b] w fun e w' => e = .returned (.tuple #[.bool (lv k a b), .int .i64 (ne k)]) ∧ w = w' := by
  by_cases hk : isK k = true
  · rw [show lv k a b = un k (cut k a) (cut k b) from by simp [lv, hk], show ne k = 0 from by simp [ne, hk]]
    have HA : Hid _ := refCut_any k a ha
    have HB : Hid _ := refCut_any k b hb
    have HU : Hid _ := under_any k (cut k a) (cut k b)
    go_enter Tryz.func15, Tryz.ntmps15
    go_wp2_with (first | (go_at_call 24; refine (refIs_any _ _).mono ?_; rintro e w' ⟨rfl, rfl⟩))
    refine Calls.mono (HA.out _) ?_
    rintro e w' ⟨rfl, rfl⟩
    go_wp2_with fail
    refine Calls.mono (HB.out _) ?_
    rintro e w' ⟨rfl, rfl⟩
    go_wp2_with fail
    refine Calls.mono (HU.out _) ?_
    rintro e w' ⟨rfl, rfl⟩
    go_wp2
    go_ret2
    exact ⟨rfl, rfl⟩
  · have hk' : isK k = false := by simpa using hk
    rw [show lv k a b = false from by simp [lv, hk], show ne k = 5 from by simp [ne, hk]]
    go_enter Tryz.func15, Tryz.ntmps15
    go_wp2_with (first | (go_at_call 24; refine (refIs_any _ _).mono ?_; rintro e w' ⟨rfl, rfl⟩))
    go_ret2
    exact ⟨rfl, rfl⟩

theorem wordLess_any (k a b : Int) (ha : U64 a) (hb : U64 b) (w : World) : Calls Tryz.prog 16 #[.int .i64 k, .int .u64 a, .int .u64 b] w fun e w' => e = .returned (.tuple #[.bool (lv k a b), .int .i64 (ne k)]) ∧ w = w' := by
  by_cases hk : isK k = true
  · rw [show lv k a b = un k (cut k a) (cut k b) from by simp [lv, hk], show ne k = 0 from by simp [ne, hk]]
    have HA : Hid _ := narrow_any k a hk ha
    have HB : Hid _ := narrow_any k b hk hb
    have HU : Hid _ := less_any k (cut k a) (cut k b) (Cn_cut k a) (Cn_cut k b)
    go_enter Tryz.func16, Tryz.ntmps16
    go_wp2_with (first | (go_at_call 26; refine (isKind_any _ _).mono ?_; rintro e w' ⟨rfl, rfl⟩))
    refine Calls.mono (HA.out _) ?_
    rintro e w' ⟨rfl, rfl⟩
    go_wp2_with fail
    refine Calls.mono (HB.out _) ?_
    rintro e w' ⟨rfl, rfl⟩
    go_wp2_with fail
    refine Calls.mono (HU.out _) ?_
    rintro e w' ⟨rfl, rfl⟩
    go_wp2
    go_ret2
    exact ⟨rfl, rfl⟩
  · have hk' : isK k = false := by simpa using hk
    rw [show lv k a b = false from by simp [lv, hk], show ne k = 5 from by simp [ne, hk]]
    go_enter Tryz.func16, Tryz.ntmps16
    go_wp2_with (first | (go_at_call 26; refine (isKind_any _ _).mono ?_; rintro e w' ⟨rfl, rfl⟩))
    go_ret2
    exact ⟨rfl, rfl⟩

/-- The number and the error of Plain, of held bits. -/
def pv (k c : Int) : Int := if k = 1 then (if c < 2147483648 then c else c - 4294967296) else if c < 9223372036854775808 then c else if k = 2 then c - 18446744073709551616 else 0
def pe (k c : Int) : Int := if k = 1 ∨ k = 2 then 0 else if c < 9223372036854775808 then 0 else 1
def plV (k x : Int) : Int := if isK k then pv k (cut k x) else 0
def plE (k x : Int) : Int := if isK k then pe k (cut k x) else 5

theorem ret_tup {a b c d : Int} (h : a = b) (h' : c = d) : Ending.returned (.tuple #[.int .i64 a, .int .i64 c]) = .returned (.tuple #[.int .i64 b, .int .i64 d]) := by rw [h, h']

theorem pv_1 (c : Int) (hc : Cn 1 c) : wrap64 (wrap32 c) = pv 1 c := by
  have hc' : c % 4294967296 = c := hc
  unfold pv wrap64 wrap32
  rw [if_pos rfl]
  split <;> omega
theorem pv_2 (c : Int) (hc : Cn 2 c) : wrap64 c = pv 2 c := by
  have hc' : c % 18446744073709551616 = c := hc
  unfold pv wrap64
  rw [if_neg (by decide)]
  split
  · omega
  · rw [if_pos rfl]; omega
theorem pv_lo (k c : Int) (h1 : k ≠ 1) (h0 : 0 ≤ c) (h : c < 9223372036854775808) : wrap64 c = pv k c ∧ pv k c = c := by
  unfold pv wrap64
  rw [if_neg h1, if_pos h]
  omega
theorem pv_hi (k c : Int) (h1 : k ≠ 1) (h2 : k ≠ 2) (h : ¬ c < 9223372036854775808) : pv k c = 0 ∧ pe k c = 1 := by
  unfold pv pe
  rw [if_neg h1, if_neg h, if_neg h2, if_neg (by omega), if_neg h]
  exact ⟨rfl, rfl⟩
theorem pe_lo (k c : Int) (h : c < 9223372036854775808) : pe k c = 0 := by
  unfold pe
  rw [if_pos h]
  split <;> rfl

set_option maxHeartbeats 400000 in
theorem wordPlain_any (k x : Int) (hx : U64 x) (w : World) : Calls Tryz.prog 12 #[.int .i64 k, .int .u64 x] w fun e w' => e = .returned (.tuple #[.int .i64 (plV k x), .int .i64 (plE k x)]) ∧ w = w' := by
  by_cases hk : isK k = true
  · rw [show plV k x = pv k (cut k x) from by simp [plV, hk], show plE k x = pe k (cut k x) from by simp [plE, hk]]
    have HN : Hid _ := narrow_any k x hk hx
    have hc := Cn_cut k x
    have hu := Cn_u64 hc
    generalize cut k x = c at *
    by_cases h1 : k = 1
    · subst h1
      have E : Hid _ := pv_1 c hc
      clear hc hu
      go_enter Tryz.func12, Tryz.ntmps12
      go_wp2_with (first | (go_at_call 26; refine (isKind_any _ _).mono ?_; rintro e w' ⟨rfl, rfl⟩) | (go_at_call 27; refine Calls.mono (HN.out _) ?_; rintro e w' ⟨rfl, rfl⟩))
      go_ret2
      exact ⟨ret_tup E.out rfl, rfl⟩
    · have b1 : (k == 1) = false := by simp [h1]
      by_cases h2 : k = 2
      · subst h2
        have E : Hid _ := pv_2 c hc
        clear hc hu b1 h1
        go_enter Tryz.func12, Tryz.ntmps12
        go_wp2_with (first | (go_at_call 26; refine (isKind_any _ _).mono ?_; rintro e w' ⟨rfl, rfl⟩) | (go_at_call 27; refine Calls.mono (HN.out _) ?_; rintro e w' ⟨rfl, rfl⟩))
        go_ret2
        exact ⟨ret_tup E.out rfl, rfl⟩
      · have b2 : (k == 2) = false := by simp [h2]
        by_cases h : c < 9223372036854775808
        · have E : Hid _ := pv_lo k c h1 hu.1 h
          have E' : Hid _ := pe_lo k c h
          have h' : ¬ 9223372036854775807 < c := by omega
          have h0 : 0 ≤ c := hu.1
          clear hc hu h1 h2 h
          go_enter Tryz.func12, Tryz.ntmps12
          go_wp2_with (first | (go_at_call 26; refine (isKind_any _ _).mono ?_; rintro e w' ⟨rfl, rfl⟩) | (go_at_call 27; refine Calls.mono (HN.out _) ?_; rintro e w' ⟨rfl, rfl⟩))
          go_ret2
          first
            | exact ⟨ret_tup E.out.1 E'.out.symm, rfl⟩
            | exact ⟨ret_tup E.out.2.symm E'.out.symm, rfl⟩
        · have E : Hid _ := pv_hi k c h1 h2 h
          have h' : 9223372036854775807 < c := by omega
          clear hc hu h1 h2 h
          go_enter Tryz.func12, Tryz.ntmps12
          go_wp2_with (first | (go_at_call 26; refine (isKind_any _ _).mono ?_; rintro e w' ⟨rfl, rfl⟩) | (go_at_call 27; refine Calls.mono (HN.out _) ?_; rintro e w' ⟨rfl, rfl⟩))
          go_ret2
          exact ⟨ret_tup E.out.1.symm E.out.2.symm, rfl⟩
  · have hk' : isK k = false := by simpa using hk
    rw [show plV k x = 0 from by simp [plV, hk], show plE k x = 5 from by simp [plE, hk]]
    go_enter Tryz.func12, Tryz.ntmps12
    go_wp2_with (first | (go_at_call 26; refine (isKind_any _ _).mono ?_; rintro e w' ⟨rfl, rfl⟩))
    go_ret2
    exact ⟨rfl, rfl⟩

theorem not_xor (c : Int) (hu : U64 c) : bits .xor .u64 IntKind.u64.max c = 18446744073709551615 - c := by
  have hm : IntKind.u64.max = 18446744073709551615 := by decide
  rw [hm, bits_xor_of _ _ (by unfold U64; omega) hu]
  unfold U64 at hu
  have hb : BitVec.ofNat 64 c.toNat = BitVec.ofNat 64 c.toNat := rfl
  have h1 : ((18446744073709551615 : Int).toNat ^^^ c.toNat) = (~~~ (BitVec.ofNat 64 c.toNat)).toNat := by
    rw [← BitVec.allOnes_xor, BitVec.toNat_xor, BitVec.toNat_allOnes, BitVec.toNat_ofNat, Nat.mod_eq_of_lt (by show c.toNat < 18446744073709551616; omega)]
    rfl
  rw [h1, BitVec.toNat_not, BitVec.toNat_ofNat, Nat.mod_eq_of_lt (by show c.toNat < 18446744073709551616; omega)]
  show ((18446744073709551616 - 1 - c.toNat : Nat) : Int) = _
  omega
theorem pv_2' (c : Int) (hu : U64 c) (h : 9223372036854775808 ≤ c) : wrap64 (wrap64 (-wrap64 (bits .xor .u64 IntKind.u64.max c)) - 1) = pv 2 c := by
  rw [not_xor c hu]
  unfold U64 at hu
  unfold pv wrap64
  rw [if_neg (by decide), if_neg (by omega), if_pos rfl]
  omega

theorem bl_1 (c : Int) : bl 1 c = decide (2147483648 ≤ c) := by simp [bl]
theorem bl_2 (c : Int) : bl 2 c = decide (9223372036854775808 ≤ c) := by simp [bl]
theorem bl_no {k c : Int} (h1 : (k == 1) = false) (h2 : (k == 2) = false) : bl k c = false := by simp [bl, h1, h2]

set_option maxHeartbeats 400000 in
theorem refPlain_any (k x : Int) (hx : U64 x) (w : World) : Calls Tryz.prog 11 #[.int .i64 k, .int .u64 x] w fun e w' => e = .returned (.tuple #[.int .i64 (plV k x), .int .i64 (plE k x)]) ∧ w = w' := by
  by_cases hk : isK k = true
  · rw [show plV k x = pv k (cut k x) from by simp [plV, hk], show plE k x = pe k (cut k x) from by simp [plE, hk]]
    have HC : Hid _ := refCut_any k x hx
    have hc := Cn_cut k x
    have hu := Cn_u64 hc
    generalize cut k x = c at *
    have HB : Hid _ := below_any k c
    by_cases hb : bl k c = true
    · by_cases h1 : k = 1
      · subst h1
        rw [hb] at HB
        have hc' : c % 4294967296 = c := hc
        have hb' : 2147483648 ≤ c := by rw [bl_1] at hb; simpa using hb
        have E : Hid (c - 4294967296 = pv 1 c) := by
          show c - 4294967296 = pv 1 c
          unfold pv; rw [if_pos rfl, if_neg (by omega)]
        have c0 : 0 ≤ c := by omega
        have c1 : c ≤ 4294967295 := by omega
        clear hc hu hc' hb
        go_enter Tryz.func11, Tryz.ntmps11
        go_wp2_with (first | (go_at_call 24; refine (refIs_any _ _).mono ?_; rintro e w' ⟨rfl, rfl⟩) | (go_at_call 25; refine Calls.mono (HC.out _) ?_; rintro e w' ⟨rfl, rfl⟩) | (go_at_call 28; refine Calls.mono (HB.out _) ?_; rintro e w' ⟨rfl, rfl⟩))
        go_ret2
        exact ⟨ret_tup E.out rfl, rfl⟩
      · have h2 : k = 2 := by
          have := hb
          simp [bl, h1] at this
          exact this.1
        subst h2
        rw [hb] at HB
        have hb' : 9223372036854775808 ≤ c := by rw [bl_2] at hb; simpa using hb
        have E : Hid _ := pv_2' c hu hb'
        clear hc hu hb hb' h1
        go_enter Tryz.func11, Tryz.ntmps11
        go_wp2_with (first | (go_at_call 24; refine (refIs_any _ _).mono ?_; rintro e w' ⟨rfl, rfl⟩) | (go_at_call 25; refine Calls.mono (HC.out _) ?_; rintro e w' ⟨rfl, rfl⟩) | (go_at_call 28; refine Calls.mono (HB.out _) ?_; rintro e w' ⟨rfl, rfl⟩))
        go_ret2
        exact ⟨ret_tup E.out rfl, rfl⟩
    · have hb0 : bl k c = false := by simpa using hb
      rw [hb0] at HB
      have c0 : 0 ≤ c := hu.1
      by_cases h : c < 9223372036854775808
      · have E : Hid (c = pv k c) := by
          show c = pv k c
          by_cases h1 : k = 1
          · subst h1
            rw [bl_1] at hb0
            unfold pv
            rw [if_pos rfl, if_pos (by simpa using hb0)]
          · exact (pv_lo k c h1 c0 h).2.symm
        have E' : Hid _ := pe_lo k c h
        have h' : ¬ 9223372036854775808 ≤ c := by omega
        have c1 : c ≤ 9223372036854775807 := by omega
        clear hc hu hb hb0 h
        by_cases h1 : (k == 1) = true
        all_goals
          go_enter Tryz.func11, Tryz.ntmps11
          go_wp2_with (first | (go_at_call 24; refine (refIs_any _ _).mono ?_; rintro e w' ⟨rfl, rfl⟩) | (go_at_call 25; refine Calls.mono (HC.out _) ?_; rintro e w' ⟨rfl, rfl⟩) | (go_at_call 28; refine Calls.mono (HB.out _) ?_; rintro e w' ⟨rfl, rfl⟩))
          go_ret2
          exact ⟨ret_tup E.out E'.out.symm, rfl⟩
      · have h1 : k ≠ 1 := by
          intro e
          subst e
          have hc' : c % 4294967296 = c := hc
          omega
        have h2 : k ≠ 2 := by
          intro e
          subst e
          rw [bl_2] at hb0
          have := of_decide_eq_false hb0
          omega
        have E : Hid _ := pv_hi k c h1 h2 h
        have b1 : (k == 1) = false := by simp [h1]
        have h' : 9223372036854775808 ≤ c := by omega
        clear hc hu hb hb0 h h1 h2
        go_enter Tryz.func11, Tryz.ntmps11
        go_wp2_with (first | (go_at_call 24; refine (refIs_any _ _).mono ?_; rintro e w' ⟨rfl, rfl⟩) | (go_at_call 25; refine Calls.mono (HC.out _) ?_; rintro e w' ⟨rfl, rfl⟩) | (go_at_call 28; refine Calls.mono (HB.out _) ?_; rintro e w' ⟨rfl, rfl⟩))
        go_ret2
        exact ⟨ret_tup E.out.1.symm E.out.2.symm, rfl⟩
  · have hk' : isK k = false := by simpa using hk
    rw [show plV k x = 0 from by simp [plV, hk], show plE k x = 5 from by simp [plE, hk]]
    go_enter Tryz.func11, Tryz.ntmps11
    go_wp2_with (first | (go_at_call 24; refine (refIs_any _ _).mono ?_; rintro e w' ⟨rfl, rfl⟩))
    go_ret2
    exact ⟨rfl, rfl⟩

/-- The ends of a kind. -/
def loK (k : Int) : Int := if k = 1 then 2147483648 else if k = 2 then 9223372036854775808 else 0
def hiK (k : Int) : Int := if k = 1 then 2147483647 else if k = 2 then 9223372036854775807 else if k = 3 then 4294967295 else if k = 5 then 1 else if isK k then 18446744073709551615 else 0

theorem ret_tup3 {a b c d : Int} {x y : Int} (h : a = b) (h' : c = d) (h'' : x = y) : Ending.returned (.tuple #[.int .u64 a, .int .u64 c, .int .i64 x]) = .returned (.tuple #[.int .u64 b, .int .u64 d, .int .i64 y]) := by rw [h, h', h'']

theorem refEnds_any (k : Int) (w : World) : Calls Tryz.prog 13 #[.int .i64 k] w fun e w' => e = .returned (.tuple #[.int .u64 (loK k), .int .u64 (hiK k), .int .i64 (ne k)]) ∧ w = w' := by
  by_cases hk : isK k = true
  · rcases isK_cases hk with rfl | rfl | rfl | rfl | rfl | rfl
    all_goals
      go_enter Tryz.func13, Tryz.ntmps13
      go_wp2
      go_ret3
      exact ⟨ret_tup3 (by decide) (by decide) (by decide), rfl⟩
  · have hk' : isK k = false := by simpa using hk
    have hr : k < 1 ∨ 6 < k := by simp [isK] at hk'; omega
    have b1 : (k == 1) = false := by simp; omega
    have b2 : (k == 2) = false := by simp; omega
    have b3 : (k == 3) = false := by simp; omega
    have b4 : (k == 4) = false := by simp; omega
    have b5 : (k == 5) = false := by simp; omega
    have b6 : (k == 6) = false := by simp; omega
    have e1 : Hid (0 = loK k) := by show 0 = loK k; unfold loK; rw [if_neg (by omega), if_neg (by omega)]
    have e2 : Hid (0 = hiK k) := by show 0 = hiK k; unfold hiK; rw [if_neg (by omega), if_neg (by omega), if_neg (by omega), if_neg (by omega), hk']; rfl
    have e3 : Hid (5 = ne k) := by show 5 = ne k; unfold ne; rw [hk']; rfl
    clear hk hk' hr
    go_enter Tryz.func13, Tryz.ntmps13
    go_wp2
    go_ret3
    exact ⟨ret_tup3 e1.out e2.out e3.out, rfl⟩

theorem wordEnds_any (k : Int) (w : World) : Calls Tryz.prog 14 #[.int .i64 k] w fun e w' => e = .returned (.tuple #[.int .u64 (loK k), .int .u64 (hiK k), .int .i64 (ne k)]) ∧ w = w' := by
  by_cases hk : isK k = true
  · have HL : Hid _ := leastOf_any k
    have hu : U64 (IntKind.u64.wrap (loK k - 1)) := wrap_u64 _
    have HN : Hid _ := narrow_any k (IntKind.u64.wrap (loK k - 1)) hk hu
    have e2 : Hid (cut k (IntKind.u64.wrap (loK k - 1)) = hiK k) := by
      show cut k (IntKind.u64.wrap (loK k - 1)) = hiK k
      rw [IntKind.wrap_u64]
      rcases isK_cases hk with rfl | rfl | rfl | rfl | rfl | rfl <;> decide
    have e3 : Hid (0 = ne k) := by show 0 = ne k; unfold ne; rw [hk]; rfl
    have el : (if k = 1 then (2147483648 : Int) else if k = 2 then 9223372036854775808 else 0) = loK k := rfl
    rw [el] at HL
    generalize loK k = l at *
    clear hu el
    go_enter Tryz.func14, Tryz.ntmps14
    go_wp2_with (first | (go_at_call 26; refine (isKind_any _ _).mono ?_; rintro e w' ⟨rfl, rfl⟩) | (go_at_call 29; refine Calls.mono (HL.out _) ?_; rintro e w' ⟨rfl, rfl⟩) | (go_at_call 27; refine Calls.mono (HN.out _) ?_; rintro e w' ⟨rfl, rfl⟩))
    go_ret3
    exact ⟨ret_tup3 rfl e2.out e3.out, rfl⟩
  · have hk' : isK k = false := by simpa using hk
    have hr : k < 1 ∨ 6 < k := by simp [isK] at hk'; omega
    have e1 : Hid (0 = loK k) := by show 0 = loK k; unfold loK; rw [if_neg (by omega), if_neg (by omega)]
    have e2 : Hid (0 = hiK k) := by show 0 = hiK k; unfold hiK; rw [if_neg (by omega), if_neg (by omega), if_neg (by omega), if_neg (by omega), hk']; rfl
    have e3 : Hid (5 = ne k) := by show 5 = ne k; unfold ne; rw [hk']; rfl
    clear hk hr
    go_enter Tryz.func14, Tryz.ntmps14
    go_wp2_with (first | (go_at_call 26; refine (isKind_any _ _).mono ?_; rintro e w' ⟨rfl, rfl⟩))
    go_ret3
    exact ⟨ret_tup3 e1.out e2.out e3.out, rfl⟩
end Go.Proofs.YtieanmpldcibcaaGreat

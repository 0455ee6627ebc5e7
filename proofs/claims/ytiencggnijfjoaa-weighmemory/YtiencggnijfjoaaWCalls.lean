
/- Layer 17: Sums, Violations, check, First; Bound of 7. -/

import Derived.Test.YtiencggnijfjoaaWReds

import Derived.Test.YtiencggnijfjoaaTSrch

namespace Go.Proofs.Ytiencggnijfjoaa

open Go.RowKit

attribute [local go_sem ↓] Go.wp_at_zero Go.wp_at_succ

/-- The tree of the keys; none: an empty map, or no table. -/
def Keyed (t : NL) : Option BT → Prop
  | none => keysA t = []
  | some B => keyE t = 0 ∧ keysA t = B.lay 0 ∧ B.ok ∧ B.size ≤ 100000
theorem keyed_of (t : NL) : ∃ o, Keyed t o := by
  by_cases h : (rootR t).2 = 0
  · obtain ⟨x, b, -, -, -, h4, h5, h6⟩ := keys_lay h
    exact ⟨some b, by unfold keyE; rw [if_neg (by omega), h], h4, h5, h6⟩
  · exact ⟨none, by show keysA t = []; unfold keysA; rw [if_neg h]⟩
theorem keyed_bad {t : NL} {o : Option BT} (h : Keyed t o) (he : keyE t ≠ 0) : o = none := by
  cases o with
  | none => rfl
  | some B => exact absurd h.1 he
def sumsO : Option BT → List Int
  | none => []
  | some B => sumsB B
/-- The overs among the first m nodes, each as often as it is too heavy. -/
def ovN (K : NL) : Nat → Int
  | 0 => 0
  | m + 1 => ovN K m + max ((ndAt K m).wt - 1) 0
theorem ovN_le {K : NL} (h : ∀ i, i < K.length → NodeOk (ndAt K i) K.length) : ∀ m, m ≤ K.length → 0 ≤ ovN K m ∧ ovN K m ≤ 1000000 * (m : Int)
  | 0, _ => by simp [ovN]
  | m + 1, hm => by
    have h1 := ovN_le h m (by omega)
    have h2 := h m (by omega)
    have w1 := h2.2.2.1
    have w2 := h2.2.2.2
    simp only [ovN]
    omega
def vioO : Option BT → Int
  | none => 0
  | some B => (redsB B).length + ovN (B.lay 0) (B.lay 0).length
set_option maxRecDepth 100000 in
set_option maxHeartbeats 1000000 in
theorem wsums_none (base : Option Addr) (c : Nat) (w : World) :
    Calls Try.prog 45 #[.slice base 0 c] w fun e w' => e = .returned (.slice none 0 0) ∧ Below w.heap.size w w' := by
  have hmi := run_make_known (P := Try.prog) 23 3 (.int .i64 0) 1 8 ins_under in_info 0 (by omega) (by omega)
  simp only [Int.natCast_zero] at hmi
  go_enter Try.func45, Try.ntmps45
  go_wp2_with fail
  go_loopw [3, 13] (fun v i wr => v = .slice none 0 0 ∧ i = .int .i64 0 ∧ Below w.heap.size w wr) (fun _ _ _ => 0)
  case atStart => exact ⟨rfl, rfl, below_alloc _ _⟩
  case round =>
    obtain ⟨rfl, rfl, hb⟩ := hrel
    have HB : Hid (Below w.heap.size w wr) := hb
    clear hb
    go_wp2_with fail
    go_ret
    exact ⟨rfl, HB.out⟩
set_option maxRecDepth 100000 in
set_option maxHeartbeats 1000000 in
theorem Sums_any (base : Option Addr) (b o c : Nat) (t : NL) (k : Option BT) (w : World) (h : NodesAt w base b o t) (hk : Keyed t k) :
    Calls Try.prog 9 #[.slice base t.length c] w fun e w' => ∃ v, e = .returned (.tuple #[v, .int .i64 (keyE t)]) ∧ w'.ownsRow w.heap.size 3 1 v (sumsO k).length (isC (sumsO k)) ∧ Below w.heap.size w w' := by
  have HA : Hid (NodesAt _ _ _ _ _) := h
  have HK : Hid (Keyed t k) := hk
  clear h
  by_cases he : keyE t = 0
  · have d : (keyE t != 0) = false := by simp [he]
    have HE : Hid (keyE t = 0) := he
    clear he
    go_enter Try.func9, Try.ntmps9
    go_wp2_with fail
    refine (keysOf_any base b o c t _ HA.out).mono ?_
    rintro e w1 ⟨v1, rfl, ho1, hb1⟩
    obtain ⟨bs1, cp1, g1, rfl, -, -, hn1⟩ := nodes_of_owns ho1
    have N1 : Hid (NodesAt _ _ _ _ _) := hn1
    have B1 : Hid (Below w.heap.size w w1) := hb1
    clear ho1 hn1 hb1
    cases k with
    | none =>
      have hkk : keysA t = [] := HK.out
      rw [hkk]
      clear hkk hk
      go_wp2_with (first | (go_at_call 45; refine (wsums_none _ _ _).mono ?_; rintro e w2 ⟨rfl, hb2⟩; have B2 : Hid (Below w.heap.size w w2) := B1.out.trans (hb2.mono B1.out.size); clear hb2))
      go_ret2
      exact ⟨_, by rw [HE.out]; rfl, World.ownsRow_nil _ _ _ _, B2.out⟩
    | some B =>
      have HC : Hid (Calls _ _ _ _ _) := wsums_any bs1 g1 0 cp1 B (keysA t) w1 N1.out hk.2.1 hk.2.2.1 hk.2.2.2
      clear hk
      go_wp2_with fail
      refine HC.out.mono ?_
      rintro e w2 ⟨v2, rfl, ho2, hb2⟩
      have O2 : Hid (World.ownsRow _ _ _ _ _ _ _) := ho2
      have B2 : Hid (Below w.heap.size w w2) := B1.out.trans (hb2.mono B1.out.size)
      clear ho2 hb2
      go_wp2_with fail
      go_ret2
      exact ⟨_, by rw [HE.out]; rfl, owns_down O2.out B1.out.size, B2.out⟩
  · have d : (keyE t != 0) = true := by simp [he]
    obtain rfl := keyed_bad hk he
    clear he hk
    go_enter Try.func9, Try.ntmps9
    go_wp2_with (first | (go_at_call 44; refine (keysOf_any base b o c t _ HA.out).mono ?_; rintro e w1 ⟨v1, rfl, -, hb1⟩; have B1 : Hid (Below w.heap.size w w1) := hb1; clear hb1))
    go_ret2
    exact ⟨_, rfl, World.ownsRow_nil _ _ _ _, B1.out⟩
set_option maxRecDepth 100000 in
set_option maxHeartbeats 1000000 in
theorem wcheck_any (base : Option Addr) (b o c : Nat) (t : NL) (w : World) (h : NodesAt w base b o t) :
    Calls Try.prog 52 #[.slice base t.length c] w fun e w' => e = .returned (.int .i64 (keyE t)) ∧ Below w.heap.size w w' := by
  have HA : Hid (NodesAt _ _ _ _ _) := h
  clear h
  by_cases h4 : (rootR t).2 = 4
  · have F : Hid (keyE t = 0) := by show keyE t = _; unfold keyE; rw [if_pos h4]
    have d : ((rootR t).2 != 4) = false := by simp [h4]
    clear h4
    go_enter Try.func52, Try.ntmps52
    go_wp2_with (first | (go_at_call 66; refine (Root_any _ b o c t _ HA.out).mono ?_; rintro e w1 ⟨rfl, hb1⟩; have B1 : Hid (Below w.heap.size w w1) := hb1; clear hb1))
    go_ret
    exact ⟨by rw [F.out]; rfl, B1.out⟩
  · have F : Hid (keyE t = (rootR t).2) := by show keyE t = _; unfold keyE; rw [if_neg h4]
    have d : ((rootR t).2 != 4) = true := by simp [h4]
    clear h4
    go_enter Try.func52, Try.ntmps52
    go_wp2_with (first | (go_at_call 66; refine (Root_any _ b o c t _ HA.out).mono ?_; rintro e w1 ⟨rfl, hb1⟩; have B1 : Hid (Below w.heap.size w w1) := hb1; clear hb1))
    go_ret
    exact ⟨by rw [F.out]; rfl, B1.out⟩
theorem keyE_form {t : NL} (h : keyE t = 0) : formE t = 0 := by
  unfold keyE rootR at h
  by_cases q : formE t = 0
  · exact q
  · rw [if_pos q] at h
    simp only at h
    split at h
    · rename_i e
      unfold formE at e
      split at e
      · omega
      · split at e <;> omega
    · exact h
/-- The first violation among places, below a weight. -/
def fstL (t : NL) : Int → List Nat → Int
  | _, [] => -1
  | a, x :: P => if faultQ a (ndAt t x).wt then (x : Int) else fstL t (ndAt t x).wt P
noncomputable def firstA (t : NL) (key : Int) : Int := if keyE t = 0 then fstL t 1 (wayL t key) else 0
theorem Way.all {t : NL} {key : Int} {p : Nat} {P : List Nat} (h : Way t key p P) : ∀ x ∈ P, x < t.length := by
  induction h with
  | leaf hp => intro x hx; simp at hx; subst hx; exact hp
  | inner hp _ _ _ _ ih => intro x hx; simp at hx; rcases hx with rfl | hx; exact hp; exact ih x hx
set_option maxRecDepth 100000 in
set_option maxHeartbeats 1000000 in
theorem First_any (base : Option Addr) (b o c : Nat) (t : NL) (key : Int) (w : World) (h : NodesAt w base b o t) :
    Calls Try.prog 31 #[.slice base t.length c, .int .i64 key] w fun e w' => e = .returned (.tuple #[.int .i64 (firstA t key), .int .i64 (keyE t)]) ∧ Below w.heap.size w w' := by
  have HA : Hid (NodesAt _ _ _ _ _) := h
  clear h
  by_cases he : keyE t = 0
  · have F : Hid (firstA t key = fstL t 1 (wayL t key)) := by show firstA t key = _; unfold firstA; rw [if_pos he]
    have hfe := keyE_form he
    obtain ⟨hbig, hf⟩ := formE_ok hfe
    have hpos := hf.pos
    obtain ⟨hT, -, hlen⟩ := theL_form hf
    obtain ⟨X, hX, hXl⟩ := way_of key hT
    have HX : Hid (wayL t key = X) := wayL_of hfe hX
    have HXA : Hid (∀ x ∈ X, x < t.length) := hX.all
    have HFE : Hid (formE t = 0) := hfe
    have HE : Hid (keyE t = 0) := he
    have hX1 : X.length ≤ 100000 := by omega
    obtain rfl : base = some ⟨b, o, none⟩ := HA.out.base (by omega)
    have hbl := HA.out.lt (by omega)
    clear he hfe hf hT hX hXl hlen
    go_enter Try.func31, Try.ntmps31
    go_wp2_with (first | (go_at_call 52; refine (wcheck_any _ b o c t _ HA.out).mono ?_; rintro e w1 ⟨rfl, hb1⟩; rw [HE.out]; have B1 : Hid (Below w.heap.size w w1) := hb1; clear hb1))
    refine (Search_any _ b o c t key _ (HA.out.below B1.out)).mono ?_
    rintro e w2 ⟨v2, rfl, ho2, hb2⟩
    rw [HX.out] at ho2
    rw [HFE.out]
    obtain ⟨bs2, cp2, g2, rfl, -, -, hp2⟩ := pls_of_owns ho2
    have P2 : Hid (PlsAt _ _ _ _) := hp2
    have B2 : Hid (Below w.heap.size w w2) := B1.out.trans (hb2.mono B1.out.size)
    clear ho2 hp2 hb2
    go_wp2_with fail
    go_loopw [9, 26] (fun a i wr => ∃ (m : Nat) (v : Int), m ≤ X.length ∧ i = .int .i64 m ∧ a = .int .i64 v ∧ fstL t v (X.drop m) = fstL t 1 X ∧ Below w2.heap.size w2 wr) (fun _ i _ => X.length - (intOf i).toNat)
    case atStart => exact ⟨0, 1, Nat.zero_le _, rfl, rfl, rfl, Below.refl _ _⟩
    case round =>
      obtain ⟨m, v, hm, rfl, rfl, hfs, hbw⟩ := hrel
      have BW : Hid (Below w.heap.size w wr) := B2.out.trans (hbw.mono B2.out.size)
      have BV : Hid (Below w2.heap.size w2 wr) := hbw
      by_cases hlm : m < X.length
      · obtain rfl : bs2 = some ⟨g2, 0, none⟩ := P2.out.base (by omega)
        have hg2 := P2.out.lt (by omega)
        have p0 := (P2.out.below hbw).cells m hlm
        have hz := hbw.size
        have hgr : g2 < wr.heap.size := by omega
        have hbr : b < wr.heap.size := by have := B2.out.size; omega
        have m0 : (0 : Int) ≤ (m : Int) := Int.natCast_nonneg _
        have m1 : (m : Int) < (X.length : Int) := by omega
        have hxe : X.drop m = X.getD m 0 :: X.drop (m + 1) := by rw [List.drop_eq_getElem_cons hlm, List.getD_eq_getElem?_getD, List.getElem?_eq_getElem hlm]; rfl
        have hxl : X.getD m 0 < t.length := HXA.out _ (by rw [List.getD_eq_getElem?_getD, List.getElem?_eq_getElem hlm]; exact List.getElem_mem hlm)
        rw [hxe] at hfs
        generalize X.getD m 0 = x at *
        have x0 : (0 : Int) ≤ (x : Int) := Int.natCast_nonneg _
        have x1 : (x : Int) < (t.length : Int) := by omega
        have p1 := ((HA.out.below BW.out).cells x hxl).2.2.1
        cases hq : faultQ v (ndAt t x).wt
        · have HQ : Hid (faultQ v (ndAt t x).wt = false) := hq
          have HF : Hid (fstL t (ndAt t x).wt (X.drop (m + 1)) = fstL t 1 X) := by show _ = _; rw [← hfs]; simp only [fstL]; rw [hq]; rfl
          clear hq hfs hxe hbw
          generalize (ndAt t x).wt = k2 at *
          go_wp2_with (first | (go_at_call 59; refine (isFault_any _ _ _).mono ?_; rintro e w3 ⟨rfl, hb3⟩; rw [HQ.out]; have B3 : Hid (Below w2.heap.size w2 w3) := BV.out.trans (hb3.mono BV.out.size); clear hb3))
          exact ⟨⟨m + 1, k2, by omega, by go_num, rfl, HF.out, B3.out⟩, by simp [intOf]; omega⟩
        · have HQ : Hid (faultQ v (ndAt t x).wt = true) := hq
          have HF : Hid (fstL t 1 X = (x : Int)) := by show _ = _; rw [← hfs]; simp only [fstL]; rw [hq]; rfl
          clear hq hfs hxe hbw
          generalize (ndAt t x).wt = k2 at *
          go_wp2_with (first | (go_at_call 59; refine (isFault_any _ _ _).mono ?_; rintro e w3 ⟨rfl, hb3⟩; rw [HQ.out]; have B3 : Hid (Below w.heap.size w w3) := BW.out.trans (hb3.mono BW.out.size); clear hb3))
          go_ret2
          exact ⟨by rw [F.out, HX.out, HF.out, HE.out]; rfl, B3.out⟩
      · obtain rfl : m = X.length := by omega
        have HF : Hid (fstL t 1 X = -1) := by show _ = _; rw [← hfs, List.drop_length]; rfl
        clear hfs hbw
        go_wp2_with fail
        go_ret2
        exact ⟨by rw [F.out, HX.out, HF.out, HE.out]; rfl, BW.out⟩
  · have F : Hid (firstA t key = 0) := by show firstA t key = _; unfold firstA; rw [if_neg he]
    have d : (keyE t != 0) = true := by simp [he]
    clear he
    go_enter Try.func31, Try.ntmps31
    go_wp2_with (first | (go_at_call 52; refine (wcheck_any _ b o c t _ HA.out).mono ?_; rintro e w1 ⟨rfl, hb1⟩; have B1 : Hid (Below w.heap.size w w1) := hb1; clear hb1))
    go_ret2
    exact ⟨by rw [F.out]; rfl, B1.out⟩
set_option maxRecDepth 100000 in
theorem bound_seven (w : World) :
    Calls Try.prog 21 #[.int .i64 7] w fun e w' => e = .returned (.tuple #[.int .i64 12, .int .i64 0]) ∧ Below w.heap.size w w' := by
  have hL : ∀ x : World, Calls Try.prog 54 #[.int .u64 8] x fun e w' => e = .returned (.int .i64 4) ∧ Below x.heap.size x w' := by
    intro x
    go_enter Try.func54, Try.ntmps54
    go_wp2
    go_ret
    exact ⟨by kernel_rfl, Below.refl _ _⟩
  have HL : Hid _ := hL
  clear hL
  go_enter Try.func21, Try.ntmps21
  go_wp2_with (first | (go_at_call 54; refine (HL.out _).mono ?_; rintro e w1 ⟨rfl, hb1⟩; have B1 : Hid (Below w.heap.size w w1) := hb1; clear hb1))
  go_ret2
  exact ⟨rfl, B1.out⟩
end Go.Proofs.Ytiencggnijfjoaa

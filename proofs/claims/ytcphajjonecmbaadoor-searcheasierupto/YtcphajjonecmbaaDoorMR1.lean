
/- Layer 6: the reference's Same, SameRet, Check, Kind, look. -/

import Derived.Test.YtcphajjonecmbaaDoorMPure4

import Derived.Laws.StructEq

import Derived.Laws.OwnMore

namespace Go.Proofs.YtcphajjonecmbaaDoor

open Go.RowKit

theorem below_allocM (w : World) (o : Obj) : Below w.heap.size w (w.alloc o) := (Below.refl _ _).alloc (Nat.le_refl _) _
theorem pair_neqM (a b c d : Int) (w : World) : (binOp .neq 93 (.agg #[.int .i64 a, .int .i64 b]) (.agg #[.int .i64 c, .int .i64 d])).run Tryd.prog w = .ok (.bool (!(decide (a = c) && decide (b = d)))) w := by
  have u3 := Tryd.underlying3
  have a3 := Tryd.isAgg3
  have z3 := Tryd.sizeOf3
  have hS : Tryd.prog.underlying 93 = some (.struct (Tryd.prog.fieldsOf 93)) := by kernel_rfl
  have hp : Tryd.prog.stoodInHeld 93 = false := by kernel_rfl
  rw [run_neq_struct, show (10000 : Nat) = 9999 + 1 from rfl, run_equalIn_agg w 9999 93 _ _ hS hp]
  simp only [Program.fieldsOf, Tryd.underlying93]
  go_simp
  by_cases h1 : a = c <;> by_cases h2 : b = d <;> simp [h1, h2]
def plEqM (a b : PL) : Bool := decide (a = b)
def retEqM (a b : RetD) : Bool := (a.ok == b.ok) && (decide (a.key = b.key) && (decide (a.val = b.val) && plEqM a.pairs b.pairs))

set_option maxRecDepth 100000 in
set_option maxHeartbeats 1000000 in
theorem samePairs_anyM (ba bb : Option Addr) (ga oa ca gb ob cb : Nat) (a b : PL) (w : World) (ha : PairsAt w ba ga oa a) (hb : PairsAt w bb gb ob b) :
    Calls Tryd.prog 59 #[.slice ba a.length ca, .slice bb b.length cb] w fun e w' => e = .returned (.bool (plEqM a b)) ∧ Below w.heap.size w w' := by
  have la := ha.len
  have lb := hb.len
  unfold maxLen at la lb
  have HA : Hid _ := ha
  have HB : Hid _ := hb
  clear ha hb
  have hpn := pair_neqM
  by_cases hl : a.length = b.length
  · have hd : ((a.length : Int) != (b.length : Int)) = false := by simp [hl]
    have HL : Hid _ := hl
    clear hl
    go_enter Tryd.func59, Tryd.ntmps59
    go_wp2_with fail
    go_loopw [5] (fun i wr => ∃ j : Nat, j ≤ a.length ∧ i = .int .i64 j ∧ (∀ k, k < j → keyAt a k = keyAt b k ∧ valAt a k = valAt b k) ∧ Below w.heap.size w wr) (fun i _ => a.length - (intOf i).toNat)
    case atStart => exact ⟨0, Nat.zero_le _, rfl, fun k hk => by omega, Below.refl _ _⟩
    case round =>
      obtain ⟨j, hj, rfl, hall, hbw⟩ := hrel
      have HAL : Hid _ := hall
      clear hall
      by_cases hlt : j < a.length
      · have hlb : j < b.length := by have := HL.out; omega
        obtain rfl : ba = some ⟨ga, oa, none⟩ := HA.out.base (by omega)
        obtain rfl : bb = some ⟨gb, ob, none⟩ := HB.out.base (by omega)
        obtain ⟨c0, c1⟩ := (HA.out.below hbw).cells j hlt
        obtain ⟨c2, c3⟩ := (HB.out.below hbw).cells j hlb
        have j0 : (0 : Int) ≤ (j : Int) := Int.natCast_nonneg _
        have j1 : (j : Int) < (a.length : Int) := by omega
        have j2 : (j : Int) < (b.length : Int) := by omega
        by_cases hq : keyAt a j = keyAt b j ∧ valAt a j = valAt b j
        · have hx : (decide (keyAt a j = keyAt b j) && decide (valAt a j = valAt b j)) = true := by simp [hq.1, hq.2]
          have HQ : Hid _ := hq
          clear hq
          go_wp2_with fail
          go_quiet (fail)
          go_wp2_with fail
          refine ⟨⟨j + 1, by omega, by go_num, fun k hk => ?_, below_drewN hbw _⟩, by simp [intOf]; omega⟩
          by_cases e : k = j
          · subst e; exact HQ.out
          · exact HAL.out k (by omega)
        · have hx : (decide (keyAt a j = keyAt b j) && decide (valAt a j = valAt b j)) = false := by simp; intro h1 h2; exact hq ⟨h1, h2⟩
          have F : Hid (plEqM a b = false) := by
            show plEqM a b = false
            unfold plEqM
            simp only [decide_eq_false_iff_not]
            intro h
            exact hq (by rw [h]; exact ⟨rfl, rfl⟩)
          clear hq
          go_wp2_with fail
          go_quiet (fail)
          go_wp2_with fail
          go_ret
          exact ⟨by rw [F.out]; rfl, below_drewN hbw _⟩
      · have F : Hid (plEqM a b = true) := by
          show plEqM a b = true
          unfold plEqM
          simp only [decide_eq_true_eq]
          exact pl_ext HL.out (fun i hi => HAL.out i (by omega))
        go_wp2_with fail
        go_ret
        exact ⟨by rw [F.out]; rfl, hbw⟩
  · have hd : ((a.length : Int) != (b.length : Int)) = true := by simp; omega
    have F : Hid (plEqM a b = false) := by
      show plEqM a b = false
      unfold plEqM
      simp only [decide_eq_false_iff_not]
      intro h
      exact hl (by rw [h])
    clear hl
    go_enter Tryd.func59, Tryd.ntmps59
    go_wp2_with fail
    go_ret
    exact ⟨by rw [F.out]; rfl, Below.refl _ _⟩

set_option maxRecDepth 100000 in
set_option maxHeartbeats 1000000 in
theorem sameRet_anyM (ba bb : Option Addr) (ga oa ca gb ob cb : Nat) (a b : RetD) (w : World) (ha : PairsAt w ba ga oa a.pairs) (hb : PairsAt w bb gb ob b.pairs) :
    Calls Tryd.prog 22 #[.agg #[.bool a.ok, .int .i64 a.key, .int .i64 a.val, .slice ba a.pairs.length ca], .agg #[.bool b.ok, .int .i64 b.key, .int .i64 b.val, .slice bb b.pairs.length cb]] w fun e w' => e = .returned (.bool (retEqM a b)) ∧ Below w.heap.size w w' := by
  have HA : Hid _ := ha
  have HB : Hid _ := hb
  clear ha hb
  obtain ⟨ok, key, val, ps⟩ := a
  obtain ⟨ok', key', val', ps'⟩ := b
  unfold retEqM
  simp only at HA HB ⊢
  by_cases h1 : (ok == ok') = true
  · by_cases h2 : key = key'
    · by_cases h3 : val = val'
      · subst h2 h3
        go_enter Tryd.func22, Tryd.ntmps22
        go_wp2_with fail
        refine (samePairs_anyM _ _ ga oa _ gb ob _ ps ps' _ (HA.out.below ((below_allocM _ _).alloc (by simp) _)) (HB.out.below ((below_allocM _ _).alloc (by simp) _))).mono ?_
        rintro e w1 ⟨rfl, hb⟩
        go_wp2_with fail
        go_ret
        exact ⟨by simp [h1], ((below_allocM _ _).alloc (by simp) _).trans (hb.mono (by simp; omega))⟩
      · have h4 : (val == val') = false := by rw [beq_eq_false_iff_ne]; exact h3
        subst h2
        go_enter Tryd.func22, Tryd.ntmps22
        go_wp2_with fail
        go_ret
        exact ⟨by simp [h3], (below_allocM _ _).alloc (by simp) _⟩
    · have h4 : (key == key') = false := by rw [beq_eq_false_iff_ne]; exact h2
      go_enter Tryd.func22, Tryd.ntmps22
      go_wp2_with fail
      go_ret
      exact ⟨by simp [h2], (below_allocM _ _).alloc (by simp) _⟩
  · have h4 : (ok == ok') = false := by simpa using h1
    clear h1
    go_enter Tryd.func22, Tryd.ntmps22
    go_wp2_with fail
    go_ret
    exact ⟨by simp [h4], (below_allocM _ _).alloc (by simp) _⟩
theorem pr_infoM : (Tryd.prog.info? 93).map (fun i => (i.zero, i.size, i.bytes)) = some (some (.agg #[.int .i64 0, .int .i64 0]), 2, 16) := by kernel_rfl
theorem prs_underM : Tryd.prog.underlying 23 = some (.slice 93) := by kernel_rfl


set_option maxRecDepth 100000 in
set_option maxHeartbeats 1000000 in
theorem rcheck_anyM (base : Option Addr) (b o c : Nat) (ps : PL) (w : World) (h : PairsAt w base b o ps) :
    Calls Tryd.prog 54 #[.slice base ps.length c] w fun e w' => e = .returned (.int .i64 (ckErr ps)) ∧ Below w.heap.size w w' := by
  have hl := h.len
  unfold maxLen at hl
  have HA : Hid _ := h
  clear h
  go_enter Tryd.func54, Tryd.ntmps54
  go_wp2_with fail
  go_loopw [3] (fun i wr => ∃ j : Nat, 1 ≤ j ∧ (j ≤ ps.length ∨ j = 1) ∧ i = .int .i64 j ∧ rises ps j = true ∧ Below w.heap.size w wr) (fun i _ => ps.length - (intOf i).toNat)
  case atStart => exact ⟨1, Nat.le_refl _, Or.inr rfl, rfl, rfl, Below.refl _ _⟩
  case round =>
    obtain ⟨j, hj1, hj, rfl, hr, hbw⟩ := hrel
    have HR : Hid _ := hr
    clear hr
    by_cases hlt : j < ps.length
    · obtain rfl : base = some ⟨b, o, none⟩ := HA.out.base (by omega)
      obtain ⟨k, rfl⟩ : ∃ k, j = k + 1 := ⟨j - 1, by omega⟩
      obtain ⟨c0, _⟩ := (HA.out.below hbw).cells (k + 1) hlt
      obtain ⟨c1, _⟩ := (HA.out.below hbw).cells k (by omega)
      have j0 : (0 : Int) ≤ ((k + 1 : Nat) : Int) := Int.natCast_nonneg _
      have j1 : ((k + 1 : Nat) : Int) < (ps.length : Int) := by omega
      have k0 : (0 : Int) ≤ (k : Int) := Int.natCast_nonneg _
      have k1 : (k : Int) < (ps.length : Int) := by omega
      have hw : IntKind.i64.wrap (((k + 1 : Nat) : Int) - 1) = (k : Int) := by rw [show ((k + 1 : Nat) : Int) - 1 = (k : Int) by omega, IntKind.wrap_i64] <;> omega
      have HW : Hid _ := hbw
      clear hbw
      generalize hq : k + 1 = q at *
      by_cases hd : keyAt ps q ≤ keyAt ps k
      · have hd1 : decide (keyAt ps q ≤ keyAt ps k) = true := decide_eq_true hd
        have F : Hid (ckErr ps = 11) := by
          show ckErr ps = 11
          unfold ckErr
          rw [rises_not (j := k) (by omega) (by rw [hq]; omega)]
          rfl
        clear hd
        go_wp2_with fail
        go_quiet (fail)
        go_wp2_with fail
        go_ret
        exact ⟨by rw [F.out]; rfl, below_drewN HW.out _⟩
      · have hd1 : decide (keyAt ps q ≤ keyAt ps k) = false := decide_eq_false hd
        have R2 : Hid (rises ps (q + 1) = true) := by
          show rises ps (q + 1) = true
          subst hq
          show (rises ps (k + 1) && decide (keyAt ps k < keyAt ps (k + 1))) = true
          rw [HR.out, Bool.true_and]
          exact decide_eq_true (by omega)
        clear hd
        go_wp2_with fail
        go_quiet (fail)
        go_wp2_with fail
        exact ⟨⟨q + 1, by omega, Or.inl (by omega), by go_num, R2.out, below_drewN HW.out _⟩, by simp [intOf]; omega⟩
    · have F : Hid (ckErr ps = 0) := by
        show ckErr ps = 0
        unfold ckErr
        rcases hj with q | q
        · have : j = ps.length := by omega
          rw [← this, HR.out]; rfl
        · have : ps.length = 0 ∨ ps.length = 1 := by omega
          rcases this with z | z <;> rw [z] <;> rfl
      go_wp2_with fail
      go_ret
      exact ⟨by rw [F.out]; rfl, hbw⟩

theorem rkind_any (k : Int) (w : World) : Calls Tryd.prog 109 #[.int .i64 k] w fun e w' => e = .returned (.int .i64 (kdErr k)) ∧ w = w' := by
  unfold kdErr
  by_cases h1 : k < 1
  · rw [if_pos (Or.inl h1)]
    go_enter Tryd.func109, Tryd.ntmps109
    go_wp2_with fail
    go_ret
    exact ⟨rfl, rfl⟩
  · by_cases h2 : 9 < k
    · rw [if_pos (Or.inr h2)]
      go_enter Tryd.func109, Tryd.ntmps109
      go_wp2_with fail
      go_ret
      exact ⟨rfl, rfl⟩
    · rw [if_neg (by omega)]
      go_enter Tryd.func109, Tryd.ntmps109
      go_wp2_with fail
      go_ret
      exact ⟨rfl, rfl⟩

set_option maxRecDepth 100000 in
set_option maxHeartbeats 1000000 in
theorem look_any (base : Option Addr) (b o c : Nat) (ps : PL) (key : Int) (w : World) (h : PairsAt w base b o ps) :
    Calls Tryd.prog 126 #[.slice base ps.length c, .int .i64 key] w fun e w' => e = .returned (.tuple #[.int .i64 ((getK key ps).getD 0), .bool (getK key ps).isSome]) ∧ w = w' := by
  have hl := h.len
  unfold maxLen at hl
  have HA : Hid _ := h
  clear h
  go_enter Tryd.func126, Tryd.ntmps126
  go_wp2_with fail
  go_loopw [6] (fun i wr => ∃ j : Nat, j ≤ ps.length ∧ i = .int .i64 j ∧ lookN ps key j = none ∧ w = wr) (fun i _ => ps.length - (intOf i).toNat)
  case atStart => exact ⟨0, Nat.zero_le _, rfl, rfl, rfl⟩
  case round =>
    obtain ⟨j, hj, rfl, hn, rfl⟩ := hrel
    have HN : Hid _ := hn
    clear hn
    by_cases hlt : j < ps.length
    · obtain rfl : base = some ⟨b, o, none⟩ := HA.out.base (by omega)
      obtain ⟨c0, c1⟩ := HA.out.cells j hlt
      have j0 : (0 : Int) ≤ (j : Int) := Int.natCast_nonneg _
      have j1 : (j : Int) < (ps.length : Int) := by omega
      by_cases hq : keyAt ps j = key
      · have hd : (keyAt ps j == key) = true := by simp [hq]
        have F : Hid (getK key ps = some (valAt ps j)) := by show getK key ps = _; rw [← lookN_all, lookN_at HN.out hq hlt]
        clear hq
        go_wp2_with fail
        go_ret2
        exact ⟨by rw [F.out]; rfl, rfl⟩
      · have hd : (keyAt ps j == key) = false := by simp [hq]
        have R : Hid (lookN ps key (j + 1) = none) := lookN_next HN.out hq
        clear hq
        go_wp2_with fail
        exact ⟨⟨j + 1, by omega, by go_num, R.out, trivial⟩, by simp [intOf]; omega⟩
    · have F : Hid (getK key ps = none) := by
        show getK key ps = none
        obtain rfl : j = ps.length := by omega
        rw [← lookN_all]; exact HN.out
      go_wp2_with fail
      go_ret2
      exact ⟨by rw [F.out]; rfl, rfl⟩
end Go.Proofs.YtcphajjonecmbaaDoor

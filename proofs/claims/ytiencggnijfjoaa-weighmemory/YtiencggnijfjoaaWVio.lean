
/- Layer 17: Violations. -/

import Derived.Test.YtiencggnijfjoaaWCalls

namespace Go.Proofs.Ytiencggnijfjoaa

open Go.RowKit

attribute [local go_sem ↓] Go.wp_at_zero Go.wp_at_succ

theorem own_slice {w : World} {B : Nat} {e : TypeId} {k n : Nat} {v : Value} {cs : List Value} (h : w.ownsRow B e k v n cs) : ∃ bs cp, v = .slice bs n cp := by
  rcases Go.Joins.ownsRow_forms h with ⟨rfl, q⟩ | ⟨_, _, rfl⟩
  · exact ⟨none, 0, by rw [q]⟩
  · exact ⟨_, _, rfl⟩
def redsO : Option BT → List Int
  | none => []
  | some B => redsB B
theorem wredsO_any (base : Option Addr) (b o c : Nat) (t : NL) (k : Option BT) (w : World) (h : NodesAt w base b o (keysA t)) (hk : Keyed t k) :
    Calls Try.prog 55 #[.slice base (keysA t).length c] w fun e w' => ∃ v, e = .returned v ∧ w'.ownsRow w.heap.size 3 1 v (redsO k).length (isC (redsO k)) ∧ Below w.heap.size w w' := by
  cases k with
  | none =>
    have hkk : keysA t = [] := hk
    rw [hkk]
    refine (wreds_none base c w).mono ?_
    rintro e w' ⟨rfl, hb⟩
    exact ⟨_, rfl, World.ownsRow_nil _ _ _ _, hb⟩
  | some B => exact wreds_any base b o c B (keysA t) w h hk.2.1 hk.2.2.2
theorem keys_ok {t : NL} {k : Option BT} (hk : Keyed t k) : (keysA t).length ≤ 100000 ∧ (∀ i, i < (keysA t).length → NodeOk (ndAt (keysA t) i) (keysA t).length) ∧ (redsO k).length ≤ 100000 ∧ vioO k = (redsO k).length + ovN (keysA t) (keysA t).length := by
  cases k with
  | none =>
    have hkk : keysA t = [] := hk
    rw [hkk]
    exact ⟨by simp, fun i hi => by simp at hi, by simp [redsO], by simp [redsO, vioO, ovN]⟩
  | some B =>
    rw [hk.2.1]
    exact ⟨by rw [BT.lay_length]; exact hk.2.2.2, (lay_form hk.2.2.1).good.node, Nat.le_trans (inh_len _ _ redO_len B 1) hk.2.2.2, rfl⟩
set_option maxRecDepth 100000 in
set_option maxHeartbeats 1000000 in
theorem Violations_any (base : Option Addr) (b o c : Nat) (t : NL) (k : Option BT) (w : World) (h : NodesAt w base b o t) (hk : Keyed t k) :
    Calls Try.prog 29 #[.slice base t.length c] w fun e w' => e = .returned (.tuple #[.int .i64 (vioO k), .int .i64 (keyE t)]) ∧ Below w.heap.size w w' := by
  have HA : Hid (NodesAt _ _ _ _ _) := h
  have HK : Hid (Keyed t k) := hk
  clear h
  by_cases he : keyE t = 0
  · have d : (keyE t != 0) = false := by simp [he]
    have HE : Hid (keyE t = 0) := he
    obtain ⟨hK1, hK2, hK3, hK4⟩ := keys_ok hk
    have HOV : Hid (∀ m, m ≤ (keysA t).length → 0 ≤ ovN (keysA t) m ∧ ovN (keysA t) m ≤ 1000000 * (m : Int)) := ovN_le hK2
    have HNK : Hid (∀ i, i < (keysA t).length → NodeOk (ndAt (keysA t) i) (keysA t).length) := hK2
    have HV : Hid (vioO k = _) := hK4
    clear he hK2 hK4 hk
    go_enter Try.func29, Try.ntmps29
    go_wp2_with fail
    refine (keysOf_any base b o c t _ HA.out).mono ?_
    rintro e w1 ⟨v1, rfl, ho1, hb1⟩
    obtain ⟨bs1, cp1, g1, rfl, -, -, hn1⟩ := nodes_of_owns ho1
    have N1 : Hid (NodesAt _ _ _ _ _) := hn1
    have B1 : Hid (Below w.heap.size w w1) := hb1
    have HC : Hid (Calls _ _ _ _ _) := wredsO_any bs1 g1 0 cp1 t k w1 hn1 HK.out
    clear ho1 hn1 hb1
    generalize keysA t = K at *
    go_wp2_with fail
    refine HC.out.mono ?_
    rintro e w2 ⟨v2, rfl, ho2, hb2⟩
    obtain ⟨bs2, cp2, rfl⟩ := own_slice ho2
    have B2 : Hid (Below w.heap.size w w2) := B1.out.trans (hb2.mono B1.out.size)
    have N2 : Hid (NodesAt w2 bs1 g1 0 K) := N1.out.below hb2
    clear ho2 hb2
    generalize redsO k = R at *
    go_wp2_with fail
    go_loopw [6, 22] (fun n i wr => ∃ m : Nat, m ≤ K.length ∧ i = .int .i64 m ∧ n = .int .i64 ((R.length : Int) + ovN K m) ∧ Below w2.heap.size w2 wr) (fun _ i _ => K.length - (intOf i).toNat)
    case atStart => exact ⟨0, Nat.zero_le _, rfl, by simp [ovN], Below.refl _ _⟩
    case round =>
      obtain ⟨m, hm, rfl, rfl, hb⟩ := hrel
      have BW : Hid (Below w2.heap.size w2 wr) := hb
      by_cases hlm : m < K.length
      · obtain rfl : bs1 = some ⟨g1, 0, none⟩ := N2.out.base (by omega)
        have hg1 := N2.out.lt (by omega)
        have HCC : Hid _ := (N2.out.below hb).cells m hlm
        have hz := hb.size
        have hgr : g1 < wr.heap.size := by omega
        have m0 : (0 : Int) ≤ (m : Int) := Int.natCast_nonneg _
        have m1 : (m : Int) < (K.length : Int) := by omega
        have hok := HNK.out m hlm
        have w1' := hok.2.2.1
        have w2' := hok.2.2.2
        obtain ⟨o1, o2⟩ := HOV.out m (by omega)
        have HS : Hid (ovN K (m + 1) = ovN K m + max ((ndAt K m).wt - 1) 0) := rfl
        clear hb hok
        generalize ovN K m = s at *
        generalize ndAt K m = nd at *
        obtain ⟨k0, k1, k2, k3, k4, k5⟩ := nd
        simp only at HCC HS w1' w2'
        obtain ⟨c0, c1, c2, c3, c4, c5⟩ := HCC.out
        simp only [Nat.zero_add] at c0 c1 c2 c3 c4 c5
        have e1 : IntKind.i64.wrap (k2 - 1) = k2 - 1 := wrap_ok _ (by omega) (by omega)
        have e2 : IntKind.i64.wrap ((R.length : Int) + s + max (k2 - 1) 0) = (R.length : Int) + s + max (k2 - 1) 0 := wrap_ok _ (by omega) (by omega)
        go_wp2_with fail
        refine ⟨⟨m + 1, by omega, by go_num, ?_, BW.out.trans ((below_alloc _ _).mono BW.out.size)⟩, by simp [intOf]; omega⟩
        rw [HS.out]
        rw [Int.add_assoc]
      · obtain rfl : m = K.length := by omega
        clear hb
        go_wp2_with fail
        go_ret2
        exact ⟨by rw [HV.out, HE.out]; rfl, B2.out.trans (BW.out.mono B2.out.size)⟩
  · have d : (keyE t != 0) = true := by simp [he]
    obtain rfl := keyed_bad hk he
    clear he hk
    go_enter Try.func29, Try.ntmps29
    go_wp2_with (first | (go_at_call 44; refine (keysOf_any base b o c t _ HA.out).mono ?_; rintro e w1 ⟨v1, rfl, -, hb1⟩; have B1 : Hid (Below w.heap.size w w1) := hb1; clear hb1))
    go_ret2
    exact ⟨rfl, B1.out⟩
end Go.Proofs.Ytiencggnijfjoaa

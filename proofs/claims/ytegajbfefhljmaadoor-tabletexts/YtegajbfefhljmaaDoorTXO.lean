
/- Layer 16: the document's opened. -/

import Derived.Test.YtegajbfefhljmaaDoorTXN

namespace Go.Proofs.YtegajbfefhljmaaDoor

open Go.RowKit

attribute [local go_sem ↓] Go.wp_at_zero Go.wp_at_succ

theorem rnumber_at (l : List UInt8) (z : Int) (a : Nat) (hz : z = a) (ha : a ≤ l.length) (hl : l.length ≤ 8000000) (w : World) :
    Calls Tryd.prog 18 #[.string ⟨l.toArray⟩, .int .i64 z] w fun e w' => e = .returned (.tuple #[.int .i64 (rV l a), .int .i64 (rK l a)]) ∧ w' = w := by
  subst hz
  exact rnumber_any l a ha hl w
theorem rk_cases {l : List UInt8} {a : Nat} (ha : a ≤ l.length) : (rnum (l.drop a) = none ∧ rV l a = 0 ∧ rK l a = -1) ∨ ∃ p : Nat, a ≤ p ∧ p ≤ l.length ∧ rK l a = (p : Int) ∧ rnum (l.drop a) = some (rV l a, l.drop p) ∧ In64 (rV l a) := by
  cases h : rnum (l.drop a) with
  | none => exact Or.inl ⟨rfl, r_no h⟩
  | some q =>
    obtain ⟨v, r⟩ := q
    right
    obtain ⟨h1, h2⟩ := rnum_inv h
    have hlen := congrArg List.length h1
    rw [List.length_drop, List.length_append] at hlen
    have hr : r = l.drop (a + (Lib.itoa v).length) := by
      have := congrArg (List.drop (Lib.itoa v).length) h1
      rw [List.drop_drop, List.drop_left' rfl] at this
      rw [← this]
    have hp : a + (Lib.itoa v).length ≤ l.length := by omega
    rw [hr] at h
    obtain ⟨e1, e2⟩ := r_yes hp h
    exact ⟨a + (Lib.itoa v).length, by omega, hp, e2, by rw [e1, hr], by rw [e1]; exact h2⟩
def midR (l : List UInt8) (p : Nat) (d : NdD) : Option (NdD × List UInt8) := if Lib.hasPrefix (l.drop p) [58] = true then weightR (Lib.trimPrefix (l.drop p) [58]) d else none
theorem pre_at {l : List UInt8} {p : Nat} {c : UInt8} (hp : p < l.length) (hc : l.getD p 0 = c) : Lib.hasPrefix (l.drop p) [c] = true ∧ Lib.trimPrefix (l.drop p) [c] = l.drop (p + 1) := by
  rw [drop_at hp, hc]
  exact pre1 c _
theorem pre_no {l : List UInt8} {p : Nat} {c : UInt8} (h : p < l.length → l.getD p 0 ≠ c) : Lib.hasPrefix (l.drop p) [c] = false := by
  by_cases hp : p < l.length
  · rw [drop_at hp]
    exact pre1_no _ c _ (Ne.symm (h hp))
  · rw [List.drop_of_length_le (by omega)]
    rfl
theorem op_no {l : List UInt8} {a : Nat} (h : a < l.length → l.getD a 0 ≠ 40) : openR (l.drop a) = none := by
  unfold openR
  rw [if_neg (by rw [pre_no h]; simp)]
theorem op_inf {l : List UInt8} {a : Nat} (ha : a < l.length) (h : l.getD a 0 = 40) (hi : Lib.hasPrefix (l.drop (a + 1)) [105, 110, 102] = true) : openR (l.drop a) = midR l (a + 4) ⟨0, 1, 0, 0, -1, -1⟩ := by
  unfold openR
  rw [if_pos (pre_at ha h).1, (pre_at ha h).2]
  unfold keyR
  rw [if_pos hi]
  unfold Lib.trimPrefix
  rw [if_pos hi, List.drop_drop]
  rfl
theorem op_num {l : List UInt8} {a p : Nat} {v : Int} (ha : a < l.length) (h : l.getD a 0 = 40) (hi : Lib.hasPrefix (l.drop (a + 1)) [105, 110, 102] = false) (hr : rnum (l.drop (a + 1)) = some (v, l.drop p)) : openR (l.drop a) = midR l p ⟨v, 0, 0, 0, -1, -1⟩ := by
  unfold openR
  rw [if_pos (pre_at ha h).1, (pre_at ha h).2]
  unfold keyR
  rw [if_neg (by rw [hi]; simp), hr]
  rfl
theorem op_none {l : List UInt8} {a : Nat} (ha : a < l.length) (h : l.getD a 0 = 40) (hi : Lib.hasPrefix (l.drop (a + 1)) [105, 110, 102] = false) (hr : rnum (l.drop (a + 1)) = none) : openR (l.drop a) = none := by
  unfold openR
  rw [if_pos (pre_at ha h).1, (pre_at ha h).2]
  unfold keyR
  rw [if_neg (by rw [hi]; simp), hr]
  rfl
theorem mid_no {l : List UInt8} {p : Nat} {d : NdD} (h : p < l.length → l.getD p 0 ≠ 58) : midR l p d = none := by
  unfold midR
  rw [if_neg (by rw [pre_no h]; simp)]
theorem mid_none {l : List UInt8} {p : Nat} {d : NdD} (hp : p < l.length) (h : l.getD p 0 = 58) (hr : rnum (l.drop (p + 1)) = none) : midR l p d = none := by
  unfold midR
  rw [if_pos (pre_at hp h).1, (pre_at hp h).2]
  unfold weightR
  rw [hr]
theorem mid_bad {l : List UInt8} {p q : Nat} {v : Int} {d : NdD} (hp : p < l.length) (h : l.getD p 0 = 58) (hr : rnum (l.drop (p + 1)) = some (v, l.drop q)) (hv : ¬ (0 ≤ v ∧ v ≤ 1000000)) : midR l p d = none := by
  unfold midR
  rw [if_pos (pre_at hp h).1, (pre_at hp h).2]
  unfold weightR
  rw [hr]
  simp only
  rw [if_neg hv]
theorem mid_yes {l : List UInt8} {p q : Nat} {v : Int} {d : NdD} (hp : p < l.length) (h : l.getD p 0 = 58) (hr : rnum (l.drop (p + 1)) = some (v, l.drop q)) (hv : 0 ≤ v ∧ v ≤ 1000000) : midR l p d = some ({ d with wt := v }, l.drop q) := by
  unfold midR
  rw [if_pos (pre_at hp h).1, (pre_at hp h).2]
  unfold weightR
  rw [hr]
  simp only
  rw [if_pos hv]
/-- What opened answers. -/
def OpA (l : List UInt8) (a : Nat) (e : Ending) : Prop := (openR (l.drop a) = none ∧ ∃ d : NdD, e = .returned (.tuple #[.agg #[.int .i64 d.key, .int .i64 d.inf, .int .i64 d.wt, .int .i64 d.val, .int .i64 d.l, .int .i64 d.r], .int .i64 (-1)])) ∨
  ∃ (d : NdD) (q : Nat), openR (l.drop a) = some (d, l.drop q) ∧ a < q ∧ q ≤ l.length ∧ e = .returned (.tuple #[.agg #[.int .i64 d.key, .int .i64 d.inf, .int .i64 d.wt, .int .i64 d.val, .int .i64 d.l, .int .i64 d.r], .int .i64 q])
theorem by_ne {l : List UInt8} {j : Nat} {c : UInt8} (hj : j < l.length) (h : l.getD j 0 ≠ c) : (((⟨l.toArray⟩ : ByteArray)[j].toNat : Int) == (c.toNat : Int)) = false := by
  have h1 : (l.getD j 0).toNat ≠ c.toNat := fun q => h (UInt8.toNat_inj.1 q)
  have h2 := getElem_mk l j hj
  exact beq_eq_false_iff_ne.2 (by omega)
theorem by_bne {l : List UInt8} {j : Nat} {c : UInt8} (hj : j < l.length) (h : l.getD j 0 ≠ c) : (((⟨l.toArray⟩ : ByteArray)[j].toNat : Int) != (c.toNat : Int)) = true := by
  have := by_ne hj h
  rw [bne, this]
  rfl
theorem by_eq {l : List UInt8} {j : Nat} {c : UInt8} (hj : j < l.length) (h : l.getD j 0 = c) : (⟨l.toArray⟩ : ByteArray)[j].toNat = c.toNat := by
  rw [← h]
  exact getElem_mk l j hj

set_option maxRecDepth 100000 in
set_option maxHeartbeats 4000000 in
theorem ropened_no (l : List UInt8) (a : Nat) (ha : a ≤ l.length) (h : a < l.length → l.getD a 0 ≠ 40) (w : World) :
    Calls Tryd.prog 17 #[.string ⟨l.toArray⟩, .int .i64 a] w fun e w' => OpA l a e ∧ Below w.heap.size w w' := by
  have hsz : (⟨l.toArray⟩ : ByteArray).size = l.length := by simp [ByteArray.size]
  have a0 : (0 : Int) ≤ (a : Int) := Int.natCast_nonneg _
  have HO : Hid (openR (l.drop a) = none) := op_no h
  by_cases hal : a < l.length
  · have a1 : (a : Int) < (l.length : Int) := by omega
    have q0 := by_bne hal (h hal)
    have q1 : (((⟨l.toArray⟩ : ByteArray)[a].toNat : Int) != 40) = true := q0
    clear h q0
    go_enter Tryd.func17, Tryd.ntmps17
    go_wp2_with fail
    refine bodyPost_ret (by rw [results_cell_tmp rfl]; go_simp; rfl) rfl ?_
    exact ⟨Or.inl ⟨HO.out, ⟨_, _, _, _, _, _⟩, rfl⟩, by repeat first | exact Below.refl _ _ | refine Below.setCell ?_ (by simp) _ | refine Below.alloc ?_ (by simp) _⟩
  · have a1 : (l.length : Int) ≤ (a : Int) := by omega
    clear h
    go_enter Tryd.func17, Tryd.ntmps17
    go_wp2_with fail
    refine bodyPost_ret (by rw [results_cell_tmp rfl]; go_simp; rfl) rfl ?_
    exact ⟨Or.inl ⟨HO.out, ⟨_, _, _, _, _, _⟩, rfl⟩, by repeat first | exact Below.refl _ _ | refine Below.setCell ?_ (by simp) _ | refine Below.alloc ?_ (by simp) _⟩
set_option maxRecDepth 100000 in
set_option maxHeartbeats 4000000 in
theorem ropened_inf (l : List UInt8) (a : Nat) (hl : l.length ≤ 8000000) (hal : a < l.length) (h : l.getD a 0 = 40) (hi : (l.drop (a + 1)).take 3 = [105, 110, 102]) (w : World) :
    Calls Tryd.prog 17 #[.string ⟨l.toArray⟩, .int .i64 a] w fun e w' => OpA l a e ∧ Below w.heap.size w w' := by
  have hsz : (⟨l.toArray⟩ : ByteArray).size = l.length := by simp [ByteArray.size]
  have a0 : (0 : Int) ≤ (a : Int) := Int.natCast_nonneg _
  have a1 : (a : Int) < (l.length : Int) := by omega
  have b0 : (⟨l.toArray⟩ : ByteArray)[a].toNat = 40 := by_eq hal (c := 40) h
  have i4 : a + 4 ≤ l.length := by have := congrArg List.length hi; simp at this; omega
  have i5 : (a : Int) + 1 + 3 ≤ (l.length : Int) := by omega
  have hx : (⟨l.toArray⟩ : ByteArray).extract (a + 1) (a + 1 + 3) = ⟨[105, 110, 102].toArray⟩ := by rw [ByteArray.extract_mk]; congr 1; rw [← hi]; simp [List.take_drop]
  have hx2 : (⟨l.toArray⟩ : ByteArray).extract (a + 1) (a + 4) = ⟨[105, 110, 102].toArray⟩ := hx
  have hpre : Lib.hasPrefix (l.drop (a + 1)) [105, 110, 102] = true := by
    unfold Lib.hasPrefix
    rw [List.isPrefixOf_iff_prefix, ← hi]
    exact List.take_prefix _ _
  have HM : Hid (openR (l.drop a) = midR l (a + 4) ⟨0, 1, 0, 0, -1, -1⟩) := op_inf hal h hpre
  have K1 : Hid True := trivial
  have pz : ((a : Int) + 1 + 3 == -1) = false := beq_eq_false_iff_ne.2 (by omega)
  clear hpre hi h
  by_cases hp : a + 4 < l.length
  · have p1 : ((a + 4 : Nat) : Int) < (l.length : Int) := by omega
    have p1' : (a : Int) + 1 + 3 < (l.length : Int) := by omega
    by_cases hc : l.getD (a + 4) 0 = 58
    · have c0 : (⟨l.toArray⟩ : ByteArray)[a + 1 + 3].toNat = 58 := by_eq (by show a + 1 + 3 < l.length; omega) (c := 58) hc
      have c1 : (⟨l.toArray⟩ : ByteArray)[a + 4].toNat = 58 := by_eq (by show a + 4 < l.length; omega) (c := 58) hc
      rcases rk_cases (l := l) (a := a + 4 + 1) (by omega) with ⟨r1, r2, r3⟩ | ⟨q, q0, q1, r3, r1, r2⟩
      · have HO : Hid (openR (l.drop a) = none) := HM.out.trans (mid_none hp hc r1)
        have HWq : Hid (rK l (a + 4 + 1) = -1) := r3
        clear hc r1 r2 r3
        go_enter Tryd.func17, Tryd.ntmps17
        go_wp2_with (first | (go_at_call 18; have hq := K1; refine (rnumber_at l _ (a + 4 + 1) (by omega) (by omega) hl _).mono ?_; rintro e w1 ⟨rfl, rfl⟩; rw [HWq.out]; clear hq K1))
        refine bodyPost_ret (by rw [results_cell_tmp rfl]; go_simp; rfl) rfl ?_
        exact ⟨Or.inl ⟨HO.out, ⟨_, _, _, _, _, _⟩, rfl⟩, by repeat first | exact Below.refl _ _ | refine Below.setCell ?_ (by simp) _ | refine Below.alloc ?_ (by simp) _⟩
      · have HWq : Hid (rK l (a + 4 + 1) = (q : Int)) := r3
        have HR : Hid _ := r1
        obtain ⟨v0, v1⟩ := r2
        have qz : ((q : Int) == -1) = false := beq_eq_false_iff_ne.2 (by omega)
        by_cases hv : 0 ≤ rV l (a + 4 + 1)
        · by_cases hv2 : rV l (a + 4 + 1) ≤ 1000000
          · have HO : Hid (openR (l.drop a) = _) := HM.out.trans (mid_yes hp hc r1 ⟨hv, hv2⟩)
            clear hc r1 r3
            go_enter Tryd.func17, Tryd.ntmps17
            go_wp2_with (first | (go_at_call 18; have hq := K1; refine (rnumber_at l _ (a + 4 + 1) (by omega) (by omega) hl _).mono ?_; rintro e w1 ⟨rfl, rfl⟩; rw [HWq.out]; clear hq K1))
            refine bodyPost_ret (by rw [results_cell_tmp rfl]; go_simp; rfl) rfl ?_
            exact ⟨Or.inr ⟨_, q, HO.out, by omega, q1, rfl⟩, by repeat first | exact Below.refl _ _ | refine Below.setCell ?_ (by simp) _ | refine Below.alloc ?_ (by simp) _⟩
          · have HO : Hid (openR (l.drop a) = none) := HM.out.trans (mid_bad hp hc r1 (fun z => hv2 z.2))
            have hv3 : 1000000 < rV l (a + 4 + 1) := by omega
            clear hc r1 r3 hv2
            go_enter Tryd.func17, Tryd.ntmps17
            go_wp2_with (first | (go_at_call 18; have hq := K1; refine (rnumber_at l _ (a + 4 + 1) (by omega) (by omega) hl _).mono ?_; rintro e w1 ⟨rfl, rfl⟩; rw [HWq.out]; clear hq K1))
            refine bodyPost_ret (by rw [results_cell_tmp rfl]; go_simp; rfl) rfl ?_
            exact ⟨Or.inl ⟨HO.out, ⟨_, _, _, _, _, _⟩, rfl⟩, by repeat first | exact Below.refl _ _ | refine Below.setCell ?_ (by simp) _ | refine Below.alloc ?_ (by simp) _⟩
        · have HO : Hid (openR (l.drop a) = none) := HM.out.trans (mid_bad hp hc r1 (fun z => hv z.1))
          have hv3 : rV l (a + 4 + 1) < 0 := by omega
          clear hc r1 r3 hv
          go_enter Tryd.func17, Tryd.ntmps17
          go_wp2_with (first | (go_at_call 18; have hq := K1; refine (rnumber_at l _ (a + 4 + 1) (by omega) (by omega) hl _).mono ?_; rintro e w1 ⟨rfl, rfl⟩; rw [HWq.out]; clear hq K1))
          refine bodyPost_ret (by rw [results_cell_tmp rfl]; go_simp; rfl) rfl ?_
          exact ⟨Or.inl ⟨HO.out, ⟨_, _, _, _, _, _⟩, rfl⟩, by repeat first | exact Below.refl _ _ | refine Below.setCell ?_ (by simp) _ | refine Below.alloc ?_ (by simp) _⟩
    · have HO : Hid (openR (l.drop a) = none) := HM.out.trans (mid_no (fun _ => hc))
      have c0 : (((⟨l.toArray⟩ : ByteArray)[a + 1 + 3].toNat : Int) != 58) = true := by_bne (by show a + 1 + 3 < l.length; omega) (c := 58) hc
      have c1 : (((⟨l.toArray⟩ : ByteArray)[a + 4].toNat : Int) != 58) = true := by_bne (by show a + 4 < l.length; omega) (c := 58) hc
      clear hc
      go_enter Tryd.func17, Tryd.ntmps17
      go_wp2_with fail
      refine bodyPost_ret (by rw [results_cell_tmp rfl]; go_simp; rfl) rfl ?_
      exact ⟨Or.inl ⟨HO.out, ⟨_, _, _, _, _, _⟩, rfl⟩, by repeat first | exact Below.refl _ _ | refine Below.setCell ?_ (by simp) _ | refine Below.alloc ?_ (by simp) _⟩
  · have HO : Hid (openR (l.drop a) = none) := HM.out.trans (mid_no (fun z => absurd z hp))
    have p1 : (l.length : Int) ≤ ((a + 4 : Nat) : Int) := by omega
    have p1' : (l.length : Int) ≤ (a : Int) + 1 + 3 := by omega
    go_enter Tryd.func17, Tryd.ntmps17
    go_wp2_with fail
    refine bodyPost_ret (by rw [results_cell_tmp rfl]; go_simp; rfl) rfl ?_
    exact ⟨Or.inl ⟨HO.out, ⟨_, _, _, _, _, _⟩, rfl⟩, by repeat first | exact Below.refl _ _ | refine Below.setCell ?_ (by simp) _ | refine Below.alloc ?_ (by simp) _⟩
set_option maxRecDepth 100000 in
set_option maxHeartbeats 4000000 in
theorem ropened_far (l : List UInt8) (a : Nat) (hl : l.length ≤ 8000000) (hal : a < l.length) (h : l.getD a 0 = 40) (hi : l.length < a + 4) (w : World) :
    Calls Tryd.prog 17 #[.string ⟨l.toArray⟩, .int .i64 a] w fun e w' => OpA l a e ∧ Below w.heap.size w w' := by
  have hsz : (⟨l.toArray⟩ : ByteArray).size = l.length := by simp [ByteArray.size]
  have a0 : (0 : Int) ≤ (a : Int) := Int.natCast_nonneg _
  have a1 : (a : Int) < (l.length : Int) := by omega
  have b0 : (⟨l.toArray⟩ : ByteArray)[a].toNat = 40 := by_eq hal (c := 40) h
  have i5 : (l.length : Int) < (a : Int) + 1 + 3 := by omega
  have hpre : Lib.hasPrefix (l.drop (a + 1)) [105, 110, 102] = false := by
    cases hq : Lib.hasPrefix (l.drop (a + 1)) [105, 110, 102] with
    | false => rfl
    | true =>
      have := congrArg List.length (pre_inv hq)
      simp at this
      omega
  clear hi
  have K0 : Hid True := trivial
  rcases rk_cases (l := l) (a := a + 1) (by omega) with ⟨r1, r2, r3⟩ | ⟨p, pa, pl, r3, r1, r2⟩
  · have HO : Hid (openR (l.drop a) = none) := op_none hal h hpre r1
    have HKp : Hid (rK l (a + 1) = -1) := r3
    clear r1 r2 r3 h hpre
    go_enter Tryd.func17, Tryd.ntmps17
    go_wp2_with (first | (go_at_call 18; have hq := K0; refine (rnumber_at l _ (a + 1) (by omega) (by omega) hl _).mono ?_; rintro e w1 ⟨rfl, rfl⟩; rw [HKp.out]; have K1 : Hid True := trivial; clear hq K0))
    refine bodyPost_ret (by rw [results_cell_tmp rfl]; go_simp; rfl) rfl ?_
    exact ⟨Or.inl ⟨HO.out, ⟨_, _, _, _, _, _⟩, rfl⟩, by repeat first | exact Below.refl _ _ | refine Below.setCell ?_ (by simp) _ | refine Below.alloc ?_ (by simp) _⟩
  have HM : Hid _ := op_num hal h hpre r1
  have HKp : Hid (rK l (a + 1) = (p : Int)) := r3
  have pz : ((p : Int) == -1) = false := beq_eq_false_iff_ne.2 (by omega)
  have pn : (0 : Int) ≤ (p : Int) := Int.natCast_nonneg _
  clear r1 r2 r3 h hpre
  by_cases hp : p < l.length
  · have p1 : ((p : Nat) : Int) < (l.length : Int) := by omega
    have p1' : True := trivial
    by_cases hc : l.getD (p) 0 = 58
    · have c0 : (⟨l.toArray⟩ : ByteArray)[p].toNat = 58 := by_eq (by show p < l.length; omega) (c := 58) hc
      rcases rk_cases (l := l) (a := p + 1) (by omega) with ⟨r1, r2, r3⟩ | ⟨q, q0, q1, r3, r1, r2⟩
      · have HO : Hid (openR (l.drop a) = none) := HM.out.trans (mid_none hp hc r1)
        have HWq : Hid (rK l (p + 1) = -1) := r3
        clear hc r1 r2 r3
        go_enter Tryd.func17, Tryd.ntmps17
        go_wp2_with (first | (go_at_call 18; have hq := K0; refine (rnumber_at l _ (a + 1) (by omega) (by omega) hl _).mono ?_; rintro e w1 ⟨rfl, rfl⟩; rw [HKp.out]; have K1 : Hid True := trivial; clear hq K0) | (go_at_call 18; have hq := K1; refine (rnumber_at l _ (p + 1) (by omega) (by omega) hl _).mono ?_; rintro e w1 ⟨rfl, rfl⟩; rw [HWq.out]; clear hq K1))
        refine bodyPost_ret (by rw [results_cell_tmp rfl]; go_simp; rfl) rfl ?_
        exact ⟨Or.inl ⟨HO.out, ⟨_, _, _, _, _, _⟩, rfl⟩, by repeat first | exact Below.refl _ _ | refine Below.setCell ?_ (by simp) _ | refine Below.alloc ?_ (by simp) _⟩
      · have HWq : Hid (rK l (p + 1) = (q : Int)) := r3
        have HR : Hid _ := r1
        obtain ⟨v0, v1⟩ := r2
        have qz : ((q : Int) == -1) = false := beq_eq_false_iff_ne.2 (by omega)
        by_cases hv : 0 ≤ rV l (p + 1)
        · by_cases hv2 : rV l (p + 1) ≤ 1000000
          · have HO : Hid (openR (l.drop a) = _) := HM.out.trans (mid_yes hp hc r1 ⟨hv, hv2⟩)
            clear hc r1 r3
            go_enter Tryd.func17, Tryd.ntmps17
            go_wp2_with (first | (go_at_call 18; have hq := K0; refine (rnumber_at l _ (a + 1) (by omega) (by omega) hl _).mono ?_; rintro e w1 ⟨rfl, rfl⟩; rw [HKp.out]; have K1 : Hid True := trivial; clear hq K0) | (go_at_call 18; have hq := K1; refine (rnumber_at l _ (p + 1) (by omega) (by omega) hl _).mono ?_; rintro e w1 ⟨rfl, rfl⟩; rw [HWq.out]; clear hq K1))
            refine bodyPost_ret (by rw [results_cell_tmp rfl]; go_simp; rfl) rfl ?_
            exact ⟨Or.inr ⟨_, q, HO.out, by omega, q1, rfl⟩, by repeat first | exact Below.refl _ _ | refine Below.setCell ?_ (by simp) _ | refine Below.alloc ?_ (by simp) _⟩
          · have HO : Hid (openR (l.drop a) = none) := HM.out.trans (mid_bad hp hc r1 (fun z => hv2 z.2))
            have hv3 : 1000000 < rV l (p + 1) := by omega
            clear hc r1 r3 hv2
            go_enter Tryd.func17, Tryd.ntmps17
            go_wp2_with (first | (go_at_call 18; have hq := K0; refine (rnumber_at l _ (a + 1) (by omega) (by omega) hl _).mono ?_; rintro e w1 ⟨rfl, rfl⟩; rw [HKp.out]; have K1 : Hid True := trivial; clear hq K0) | (go_at_call 18; have hq := K1; refine (rnumber_at l _ (p + 1) (by omega) (by omega) hl _).mono ?_; rintro e w1 ⟨rfl, rfl⟩; rw [HWq.out]; clear hq K1))
            refine bodyPost_ret (by rw [results_cell_tmp rfl]; go_simp; rfl) rfl ?_
            exact ⟨Or.inl ⟨HO.out, ⟨_, _, _, _, _, _⟩, rfl⟩, by repeat first | exact Below.refl _ _ | refine Below.setCell ?_ (by simp) _ | refine Below.alloc ?_ (by simp) _⟩
        · have HO : Hid (openR (l.drop a) = none) := HM.out.trans (mid_bad hp hc r1 (fun z => hv z.1))
          have hv3 : rV l (p + 1) < 0 := by omega
          clear hc r1 r3 hv
          go_enter Tryd.func17, Tryd.ntmps17
          go_wp2_with (first | (go_at_call 18; have hq := K0; refine (rnumber_at l _ (a + 1) (by omega) (by omega) hl _).mono ?_; rintro e w1 ⟨rfl, rfl⟩; rw [HKp.out]; have K1 : Hid True := trivial; clear hq K0) | (go_at_call 18; have hq := K1; refine (rnumber_at l _ (p + 1) (by omega) (by omega) hl _).mono ?_; rintro e w1 ⟨rfl, rfl⟩; rw [HWq.out]; clear hq K1))
          refine bodyPost_ret (by rw [results_cell_tmp rfl]; go_simp; rfl) rfl ?_
          exact ⟨Or.inl ⟨HO.out, ⟨_, _, _, _, _, _⟩, rfl⟩, by repeat first | exact Below.refl _ _ | refine Below.setCell ?_ (by simp) _ | refine Below.alloc ?_ (by simp) _⟩
    · have HO : Hid (openR (l.drop a) = none) := HM.out.trans (mid_no (fun _ => hc))
      have c0 : (((⟨l.toArray⟩ : ByteArray)[p].toNat : Int) != 58) = true := by_bne (by show p < l.length; omega) (c := 58) hc
      clear hc
      go_enter Tryd.func17, Tryd.ntmps17
      go_wp2_with (first | (go_at_call 18; have hq := K0; refine (rnumber_at l _ (a + 1) (by omega) (by omega) hl _).mono ?_; rintro e w1 ⟨rfl, rfl⟩; rw [HKp.out]; have K1 : Hid True := trivial; clear hq K0))
      refine bodyPost_ret (by rw [results_cell_tmp rfl]; go_simp; rfl) rfl ?_
      exact ⟨Or.inl ⟨HO.out, ⟨_, _, _, _, _, _⟩, rfl⟩, by repeat first | exact Below.refl _ _ | refine Below.setCell ?_ (by simp) _ | refine Below.alloc ?_ (by simp) _⟩
  · have HO : Hid (openR (l.drop a) = none) := HM.out.trans (mid_no (fun z => absurd z hp))
    have p1 : (l.length : Int) ≤ ((p : Nat) : Int) := by omega
    have p1' : True := trivial
    go_enter Tryd.func17, Tryd.ntmps17
    go_wp2_with (first | (go_at_call 18; have hq := K0; refine (rnumber_at l _ (a + 1) (by omega) (by omega) hl _).mono ?_; rintro e w1 ⟨rfl, rfl⟩; rw [HKp.out]; have K1 : Hid True := trivial; clear hq K0))
    refine bodyPost_ret (by rw [results_cell_tmp rfl]; go_simp; rfl) rfl ?_
    exact ⟨Or.inl ⟨HO.out, ⟨_, _, _, _, _, _⟩, rfl⟩, by repeat first | exact Below.refl _ _ | refine Below.setCell ?_ (by simp) _ | refine Below.alloc ?_ (by simp) _⟩
set_option maxRecDepth 100000 in
set_option maxHeartbeats 4000000 in
theorem ropened_num (l : List UInt8) (a : Nat) (hl : l.length ≤ 8000000) (hal : a < l.length) (h : l.getD a 0 = 40) (hi4 : a + 4 ≤ l.length) (hi : (l.drop (a + 1)).take 3 ≠ [105, 110, 102]) (w : World) :
    Calls Tryd.prog 17 #[.string ⟨l.toArray⟩, .int .i64 a] w fun e w' => OpA l a e ∧ Below w.heap.size w w' := by
  have hsz : (⟨l.toArray⟩ : ByteArray).size = l.length := by simp [ByteArray.size]
  have a0 : (0 : Int) ≤ (a : Int) := Int.natCast_nonneg _
  have a1 : (a : Int) < (l.length : Int) := by omega
  have b0 : (⟨l.toArray⟩ : ByteArray)[a].toNat = 40 := by_eq hal (c := 40) h
  have i5 : (a : Int) + 1 + 3 ≤ (l.length : Int) := by omega
  have hpre : Lib.hasPrefix (l.drop (a + 1)) [105, 110, 102] = false := by
    cases hq : Lib.hasPrefix (l.drop (a + 1)) [105, 110, 102] with
    | false => rfl
    | true => exact absurd (by rw [pre_inv hq]; rfl) hi
  obtain ⟨sb, hsb⟩ : ∃ sb, sb = (l.drop (a + 1)).take 3 := ⟨_, rfl⟩
  have hx : (⟨l.toArray⟩ : ByteArray).extract (a + 1) (a + 1 + 3) = ⟨sb.toArray⟩ := by rw [ByteArray.extract_mk]; congr 1; rw [hsb]; simp [List.take_drop]
  have hx2 : (⟨l.toArray⟩ : ByteArray).extract (a + 1) (a + 4) = ⟨sb.toArray⟩ := hx
  have hsn : (sb == [105, 110, 102]) = false := beq_eq_false_iff_ne.2 (by rw [hsb]; exact hi)
  clear hsb hi
  have K0 : Hid True := trivial
  rcases rk_cases (l := l) (a := a + 1) (by omega) with ⟨r1, r2, r3⟩ | ⟨p, pa, pl, r3, r1, r2⟩
  · have HO : Hid (openR (l.drop a) = none) := op_none hal h hpre r1
    have HKp : Hid (rK l (a + 1) = -1) := r3
    clear r1 r2 r3 h hpre
    go_enter Tryd.func17, Tryd.ntmps17
    go_wp2_with (first | (go_at_call 18; have hq := K0; refine (rnumber_at l _ (a + 1) (by omega) (by omega) hl _).mono ?_; rintro e w1 ⟨rfl, rfl⟩; rw [HKp.out]; have K1 : Hid True := trivial; clear hq K0))
    refine bodyPost_ret (by rw [results_cell_tmp rfl]; go_simp; rfl) rfl ?_
    exact ⟨Or.inl ⟨HO.out, ⟨_, _, _, _, _, _⟩, rfl⟩, by repeat first | exact Below.refl _ _ | refine Below.setCell ?_ (by simp) _ | refine Below.alloc ?_ (by simp) _⟩
  have HM : Hid _ := op_num hal h hpre r1
  have HKp : Hid (rK l (a + 1) = (p : Int)) := r3
  have pz : ((p : Int) == -1) = false := beq_eq_false_iff_ne.2 (by omega)
  have pn : (0 : Int) ≤ (p : Int) := Int.natCast_nonneg _
  clear r1 r2 r3 h hpre
  by_cases hp : p < l.length
  · have p1 : ((p : Nat) : Int) < (l.length : Int) := by omega
    have p1' : True := trivial
    by_cases hc : l.getD (p) 0 = 58
    · have c0 : (⟨l.toArray⟩ : ByteArray)[p].toNat = 58 := by_eq (by show p < l.length; omega) (c := 58) hc
      rcases rk_cases (l := l) (a := p + 1) (by omega) with ⟨r1, r2, r3⟩ | ⟨q, q0, q1, r3, r1, r2⟩
      · have HO : Hid (openR (l.drop a) = none) := HM.out.trans (mid_none hp hc r1)
        have HWq : Hid (rK l (p + 1) = -1) := r3
        clear hc r1 r2 r3
        go_enter Tryd.func17, Tryd.ntmps17
        go_wp2_with (first | (go_at_call 18; have hq := K0; refine (rnumber_at l _ (a + 1) (by omega) (by omega) hl _).mono ?_; rintro e w1 ⟨rfl, rfl⟩; rw [HKp.out]; have K1 : Hid True := trivial; clear hq K0) | (go_at_call 18; have hq := K1; refine (rnumber_at l _ (p + 1) (by omega) (by omega) hl _).mono ?_; rintro e w1 ⟨rfl, rfl⟩; rw [HWq.out]; clear hq K1))
        refine bodyPost_ret (by rw [results_cell_tmp rfl]; go_simp; rfl) rfl ?_
        exact ⟨Or.inl ⟨HO.out, ⟨_, _, _, _, _, _⟩, rfl⟩, by repeat first | exact Below.refl _ _ | refine Below.setCell ?_ (by simp) _ | refine Below.alloc ?_ (by simp) _⟩
      · have HWq : Hid (rK l (p + 1) = (q : Int)) := r3
        have HR : Hid _ := r1
        obtain ⟨v0, v1⟩ := r2
        have qz : ((q : Int) == -1) = false := beq_eq_false_iff_ne.2 (by omega)
        by_cases hv : 0 ≤ rV l (p + 1)
        · by_cases hv2 : rV l (p + 1) ≤ 1000000
          · have HO : Hid (openR (l.drop a) = _) := HM.out.trans (mid_yes hp hc r1 ⟨hv, hv2⟩)
            clear hc r1 r3
            go_enter Tryd.func17, Tryd.ntmps17
            go_wp2_with (first | (go_at_call 18; have hq := K0; refine (rnumber_at l _ (a + 1) (by omega) (by omega) hl _).mono ?_; rintro e w1 ⟨rfl, rfl⟩; rw [HKp.out]; have K1 : Hid True := trivial; clear hq K0) | (go_at_call 18; have hq := K1; refine (rnumber_at l _ (p + 1) (by omega) (by omega) hl _).mono ?_; rintro e w1 ⟨rfl, rfl⟩; rw [HWq.out]; clear hq K1))
            refine bodyPost_ret (by rw [results_cell_tmp rfl]; go_simp; rfl) rfl ?_
            exact ⟨Or.inr ⟨_, q, HO.out, by omega, q1, rfl⟩, by repeat first | exact Below.refl _ _ | refine Below.setCell ?_ (by simp) _ | refine Below.alloc ?_ (by simp) _⟩
          · have HO : Hid (openR (l.drop a) = none) := HM.out.trans (mid_bad hp hc r1 (fun z => hv2 z.2))
            have hv3 : 1000000 < rV l (p + 1) := by omega
            clear hc r1 r3 hv2
            go_enter Tryd.func17, Tryd.ntmps17
            go_wp2_with (first | (go_at_call 18; have hq := K0; refine (rnumber_at l _ (a + 1) (by omega) (by omega) hl _).mono ?_; rintro e w1 ⟨rfl, rfl⟩; rw [HKp.out]; have K1 : Hid True := trivial; clear hq K0) | (go_at_call 18; have hq := K1; refine (rnumber_at l _ (p + 1) (by omega) (by omega) hl _).mono ?_; rintro e w1 ⟨rfl, rfl⟩; rw [HWq.out]; clear hq K1))
            refine bodyPost_ret (by rw [results_cell_tmp rfl]; go_simp; rfl) rfl ?_
            exact ⟨Or.inl ⟨HO.out, ⟨_, _, _, _, _, _⟩, rfl⟩, by repeat first | exact Below.refl _ _ | refine Below.setCell ?_ (by simp) _ | refine Below.alloc ?_ (by simp) _⟩
        · have HO : Hid (openR (l.drop a) = none) := HM.out.trans (mid_bad hp hc r1 (fun z => hv z.1))
          have hv3 : rV l (p + 1) < 0 := by omega
          clear hc r1 r3 hv
          go_enter Tryd.func17, Tryd.ntmps17
          go_wp2_with (first | (go_at_call 18; have hq := K0; refine (rnumber_at l _ (a + 1) (by omega) (by omega) hl _).mono ?_; rintro e w1 ⟨rfl, rfl⟩; rw [HKp.out]; have K1 : Hid True := trivial; clear hq K0) | (go_at_call 18; have hq := K1; refine (rnumber_at l _ (p + 1) (by omega) (by omega) hl _).mono ?_; rintro e w1 ⟨rfl, rfl⟩; rw [HWq.out]; clear hq K1))
          refine bodyPost_ret (by rw [results_cell_tmp rfl]; go_simp; rfl) rfl ?_
          exact ⟨Or.inl ⟨HO.out, ⟨_, _, _, _, _, _⟩, rfl⟩, by repeat first | exact Below.refl _ _ | refine Below.setCell ?_ (by simp) _ | refine Below.alloc ?_ (by simp) _⟩
    · have HO : Hid (openR (l.drop a) = none) := HM.out.trans (mid_no (fun _ => hc))
      have c0 : (((⟨l.toArray⟩ : ByteArray)[p].toNat : Int) != 58) = true := by_bne (by show p < l.length; omega) (c := 58) hc
      clear hc
      go_enter Tryd.func17, Tryd.ntmps17
      go_wp2_with (first | (go_at_call 18; have hq := K0; refine (rnumber_at l _ (a + 1) (by omega) (by omega) hl _).mono ?_; rintro e w1 ⟨rfl, rfl⟩; rw [HKp.out]; have K1 : Hid True := trivial; clear hq K0))
      refine bodyPost_ret (by rw [results_cell_tmp rfl]; go_simp; rfl) rfl ?_
      exact ⟨Or.inl ⟨HO.out, ⟨_, _, _, _, _, _⟩, rfl⟩, by repeat first | exact Below.refl _ _ | refine Below.setCell ?_ (by simp) _ | refine Below.alloc ?_ (by simp) _⟩
  · have HO : Hid (openR (l.drop a) = none) := HM.out.trans (mid_no (fun z => absurd z hp))
    have p1 : (l.length : Int) ≤ ((p : Nat) : Int) := by omega
    have p1' : True := trivial
    go_enter Tryd.func17, Tryd.ntmps17
    go_wp2_with (first | (go_at_call 18; have hq := K0; refine (rnumber_at l _ (a + 1) (by omega) (by omega) hl _).mono ?_; rintro e w1 ⟨rfl, rfl⟩; rw [HKp.out]; have K1 : Hid True := trivial; clear hq K0))
    refine bodyPost_ret (by rw [results_cell_tmp rfl]; go_simp; rfl) rfl ?_
    exact ⟨Or.inl ⟨HO.out, ⟨_, _, _, _, _, _⟩, rfl⟩, by repeat first | exact Below.refl _ _ | refine Below.setCell ?_ (by simp) _ | refine Below.alloc ?_ (by simp) _⟩
theorem ropened_any (l : List UInt8) (a : Nat) (ha : a ≤ l.length) (hl : l.length ≤ 8000000) (w : World) :
    Calls Tryd.prog 17 #[.string ⟨l.toArray⟩, .int .i64 a] w fun e w' => OpA l a e ∧ Below w.heap.size w w' := by
  by_cases h : a < l.length ∧ l.getD a 0 = 40
  · by_cases h4 : a + 4 ≤ l.length
    · by_cases hi : (l.drop (a + 1)).take 3 = [105, 110, 102]
      · exact ropened_inf l a hl h.1 h.2 hi w
      · exact ropened_num l a hl h.1 h.2 h4 hi w
    · exact ropened_far l a hl h.1 h.2 (by omega) w
  · exact ropened_no l a ha (fun q z => h ⟨q, z⟩) w
end Go.Proofs.YtegajbfefhljmaaDoor

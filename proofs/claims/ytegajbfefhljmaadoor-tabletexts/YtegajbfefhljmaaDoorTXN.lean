
/- Layer 16: the document's number. -/

import Derived.Test.YtegajbfefhljmaaDoorTXQ

import Derived.Test.YtegajbfefhljmaaDoorTRd1

namespace Go.Proofs.YtegajbfefhljmaaDoor

open Go.RowKit

attribute [local go_sem ↓] Go.wp_at_zero Go.wp_at_succ

def rV (l : List UInt8) (a : Nat) : Int := match rnum (l.drop a) with
  | some (x, _) => x
  | none => 0
def rK (l : List UInt8) (a : Nat) : Int := match rnum (l.drop a) with
  | some (_, r) => (l.length : Int) - r.length
  | none => -1
theorem r_no {l : List UInt8} {a : Nat} (h : rnum (l.drop a) = none) : rV l a = 0 ∧ rK l a = -1 := by
  unfold rV rK
  rw [h]
  exact ⟨rfl, rfl⟩
theorem r_yes {l : List UInt8} {a j : Nat} {x : Int} (hj : j ≤ l.length) (h : rnum (l.drop a) = some (x, l.drop j)) : rV l a = x ∧ rK l a = j := by
  unfold rV rK
  rw [h]
  refine ⟨rfl, ?_⟩
  simp only [List.length_drop]
  omega
theorem drop_at {l : List UInt8} {j : Nat} (h : j < l.length) : l.drop j = l.getD j 0 :: l.drop (j + 1) := by
  rw [List.getD_eq_getElem?_getD, List.getElem?_eq_getElem h]
  exact List.drop_eq_getElem_cons h
theorem head_at {l : List UInt8} {j : Nat} (h : j < l.length) : (l.drop j).head? = some (l.getD j 0) := by rw [drop_at h]; rfl
theorem rn_neg {l : List UInt8} {a j : Nat} {n : Int} (ha : a < l.length) (h45 : l.getD a 0 = 45) (hj : a + 1 ≤ j) (hjl : j ≤ l.length) (hd : digs 0 (l.drop (a + 1)) = some (n, l.drop j)) :
    (j = a + 1 → rnum (l.drop a) = none) ∧ (j ≠ a + 1 → l.getD (a + 1) 0 = 48 → rnum (l.drop a) = none) ∧ (j ≠ a + 1 → l.getD (a + 1) 0 ≠ 48 → rnum (l.drop a) = some (n, l.drop j)) := by
  have h1 : (l.drop a).head? = some 45 := by rw [head_at ha, h45]
  have h2 : unsg (l.drop a) = l.drop (a + 1) := by
    unfold unsg
    rw [if_pos h1, drop_at ha]
    rfl
  have hlen : (l.drop j).length = (l.drop (a + 1)).length ↔ j = a + 1 := by
    simp only [List.length_drop]
    omega
  refine ⟨fun q => ?_, fun q q2 => ?_, fun q q2 => ?_⟩
  · unfold rnum
    rw [h2, hd]
    simp only
    rw [if_pos (hlen.2 q)]
  · unfold rnum
    rw [h2, hd]
    simp only
    rw [if_neg (fun z => q (hlen.1 z)), if_pos ⟨by rw [head_at (by omega), q2], Or.inr h1⟩]
  · unfold rnum
    rw [h2, hd]
    simp only
    rw [if_neg (fun z => q (hlen.1 z)), if_neg (fun z => q2 (by have := z.1; rw [head_at (by omega)] at this; exact Option.some.inj this)), if_pos h1]
theorem rn_pos {l : List UInt8} {a j : Nat} {n : Int} (h45 : a < l.length → l.getD a 0 ≠ 45) (hj : a ≤ j) (hjl : j ≤ l.length) (hd : digs 0 (l.drop a) = some (n, l.drop j)) :
    (j = a → rnum (l.drop a) = none) ∧ (a + 1 < j → l.getD a 0 = 48 → rnum (l.drop a) = none) ∧ (j ≠ a → (l.getD a 0 ≠ 48 ∨ j ≤ a + 1) → n = -9223372036854775808 → rnum (l.drop a) = none) ∧ (j ≠ a → (l.getD a 0 ≠ 48 ∨ j ≤ a + 1) → n ≠ -9223372036854775808 → rnum (l.drop a) = some (-n, l.drop j)) := by
  have h1 : ¬ (l.drop a).head? = some 45 := by
    by_cases ha : a < l.length
    · rw [head_at ha]
      intro q
      exact h45 ha (Option.some.inj q)
    · rw [List.drop_of_length_le (by omega)]
      simp
  have h2 : unsg (l.drop a) = l.drop a := by
    unfold unsg
    rw [if_neg h1]
  have hlen : (l.drop j).length = (l.drop a).length ↔ j = a := by
    simp only [List.length_drop]
    omega
  have hz : ∀ q : j ≠ a, (l.getD a 0 ≠ 48 ∨ j ≤ a + 1) → ¬ ((l.drop a).head? = some 48 ∧ ((l.drop j).length + 1 < (l.drop a).length ∨ (l.drop a).head? = some 45)) := by
    rintro q hc ⟨z1, z2⟩
    rcases z2 with z2 | z2
    · rcases hc with hc | hc
      · rw [head_at (by omega)] at z1
        exact hc (Option.some.inj z1)
      · simp only [List.length_drop] at z2
        omega
    · exact h1 z2
  refine ⟨fun q => ?_, fun q q2 => ?_, fun q q2 q3 => ?_, fun q q2 q3 => ?_⟩
  · unfold rnum
    rw [h2, hd]
    simp only
    rw [if_pos (hlen.2 q)]
  · unfold rnum
    rw [h2, hd]
    simp only
    rw [if_neg (fun z => by have := hlen.1 z; omega), if_pos ⟨by rw [head_at (by omega), q2], Or.inl (by simp only [List.length_drop]; omega)⟩]
  · unfold rnum
    rw [h2, hd]
    simp only
    rw [if_neg (fun z => q (hlen.1 z)), if_neg (hz q q2), if_neg h1, if_pos q3]
  · unfold rnum
    rw [h2, hd]
    simp only
    rw [if_neg (fun z => q (hlen.1 z)), if_neg (hz q q2), if_neg h1, if_neg q3]
theorem rn_none {l : List UInt8} (h : digs 0 (unsg l) = none) : rnum l = none := by
  unfold rnum
  rw [h]
theorem over_iff (n : Int) (X : Nat) (h1 : 48 ≤ X) (h2 : X ≤ 57) : n < (-9223372036854775808 + ((X : Int) - 48)).tdiv 10 ↔ n * 10 - ((X : Int) - 48) < -9223372036854775808 := by
  rw [tdiv_eq_if, if_neg (by omega)]
  omega
theorem un_neg {l : List UInt8} {a : Nat} (ha : a < l.length) (h45 : l.getD a 0 = 45) : unsg (l.drop a) = l.drop (a + 1) := by
  unfold unsg
  rw [if_pos (by rw [head_at ha, h45]), drop_at ha]
  rfl
theorem un_pos {l : List UInt8} {a : Nat} (h45 : a < l.length → l.getD a 0 ≠ 45) : unsg (l.drop a) = l.drop a := by
  unfold unsg
  rw [if_neg]
  by_cases ha : a < l.length
  · rw [head_at ha]
    intro q
    exact h45 ha (Option.some.inj q)
  · rw [List.drop_of_length_le (by omega)]
    simp
theorem dig_more {l : List UInt8} {j : Nat} {n : Int} (hj : j < l.length) (h1 : 48 ≤ (l.getD j 0).toNat) (h2 : (l.getD j 0).toNat ≤ 57) : digs n (l.drop j) = if n * 10 - (((l.getD j 0).toNat : Int) - 48) < -9223372036854775808 then none else digs (n * 10 - (((l.getD j 0).toNat : Int) - 48)) (l.drop (j + 1)) := by
  rw [drop_at hj]
  conv => lhs; unfold digs
  rw [if_pos ⟨h1, h2⟩]
theorem dig_end {l : List UInt8} {j : Nat} {n : Int} (h : j < l.length → ¬ (48 ≤ (l.getD j 0).toNat ∧ (l.getD j 0).toNat ≤ 57)) : digs n (l.drop j) = some (n, l.drop j) := by
  by_cases hj : j < l.length
  · rw [drop_at hj]
    conv => lhs; unfold digs
    rw [if_neg (h hj)]
  · rw [List.drop_of_length_le (by omega)]
    rfl

set_option maxRecDepth 100000 in
set_option maxHeartbeats 4000000 in
theorem rnumber_neg (l : List UInt8) (a : Nat) (hl : l.length ≤ 8000000) (hal : a < l.length) (hc : l.getD a 0 = 45) (w : World) :
    Calls Tryd.prog 18 #[.string ⟨l.toArray⟩, .int .i64 a] w fun e w' => e = .returned (.tuple #[.int .i64 (rV l a), .int .i64 (rK l a)]) ∧ w' = w := by
    have hsz : (⟨l.toArray⟩ : ByteArray).size = l.length := by simp [ByteArray.size]
    have HSZ : Hid _ := hsz
    have a0 : (0 : Int) ≤ (a : Int) := Int.natCast_nonneg _
    have h48 : ∀ {c : UInt8}, c.toNat = 48 → c = 48 := fun h => UInt8.toNat_inj.1 h
    have a1 : (a : Int) < (l.length : Int) := by omega
    have hge : (⟨l.toArray⟩ : ByteArray)[a].toNat = 45 := by rw [getElem_mk l a (by rw [HSZ.out]; exact hal), hc]; rfl
    have HC : Hid (l.getD a 0 = 45) := hc
    clear hc
    go_enter Tryd.func18, Tryd.ntmps18
    go_wp2_with fail
    go_loopw [1, 8] (fun i v wr => ∃ (j : Nat) (n : Int), a + 1 ≤ j ∧ j ≤ l.length ∧ i = .int .i64 j ∧ v = .int .i64 n ∧ -9223372036854775808 ≤ n ∧ n ≤ 0 ∧ digs 0 (l.drop (a + 1)) = digs n (l.drop j) ∧ w = wr) (fun i _ _ => l.length - (intOf i).toNat)
    case atStart => exact ⟨a + 1, 0, by omega, by omega, by go_num, rfl, by omega, by omega, rfl, rfl⟩
    case round =>
      obtain ⟨j, n, j0, hj, rfl, rfl, n0, n1, hd, rfl⟩ := hrel
      have HD : Hid (digs 0 (l.drop (a + 1)) = digs n (l.drop j)) := hd
      have jz : (0 : Int) ≤ (j : Int) := Int.natCast_nonneg _
      have js : (a : Int) + 1 ≤ (j : Int) := by omega
      clear hd
      by_cases hjl : j < l.length
      · have j1 : (j : Int) < (l.length : Int) := by omega
        have hel : l[j].toNat = (l.getD j 0).toNat := getElem_mk l j (by rw [HSZ.out]; exact hjl)
        by_cases hdig : 48 ≤ (l.getD j 0).toNat ∧ (l.getD j 0).toNat ≤ 57
        · have hov := over_iff n l[j].toNat (by rw [hel]; omega) (by rw [hel]; omega)
          have HM : Hid _ := dig_more (n := n) hjl hdig.1 hdig.2
          rw [← hel] at HM
          have x0 : (48 : Int) ≤ (l[j].toNat : Int) := by rw [hel]; omega
          have x1 : (l[j].toNat : Int) ≤ 57 := by rw [hel]; omega
          have y0 : (48 : Int) ≤ ((⟨l.toArray⟩ : ByteArray)[j].toNat : Int) := x0
          have y1 : ((⟨l.toArray⟩ : ByteArray)[j].toNat : Int) ≤ 57 := x1
          by_cases ho : n * 10 - ((l[j].toNat : Int) - 48) < -9223372036854775808
          · have hov' := hov.2 ho
            have hov2 : n < (-9223372036854775808 + (((⟨l.toArray⟩ : ByteArray)[j].toNat : Int) - 48)).tdiv 10 := hov'
            have HN : Hid (rnum (l.drop a) = none) := rn_none (by rw [un_neg hal HC.out, HD.out, HM.out, if_pos ho])
            clear hov ho hdig hel
            go_wp2_with fail
            go_ret2
            exact ⟨by rw [(r_no HN.out).1, (r_no HN.out).2]; rfl, rfl⟩
          · have hov' : (-9223372036854775808 + ((l[j].toNat : Int) - 48)).tdiv 10 ≤ n := by
              exact Int.not_lt.1 (fun z => ho (hov.1 z))
            have hov2 : (-9223372036854775808 + (((⟨l.toArray⟩ : ByteArray)[j].toNat : Int) - 48)).tdiv 10 ≤ n := hov'
            have HN : Hid _ := HD.out.trans (HM.out.trans (if_neg ho))
            have b0 : -9223372036854775808 ≤ n * 10 - ((l[j].toNat : Int) - 48) := by omega
            have c0 : -9223372036854775808 ≤ n * 10 - (((⟨l.toArray⟩ : ByteArray)[j].toNat : Int) - 48) := b0
            have b1 : n * 10 ≤ 0 := by omega
            have b2 : -9223372036854775808 ≤ n * 10 := by omega
            have b3 : n * 10 - ((l[j].toNat : Int) - 48) ≤ 0 := by omega
            clear hov ho hdig HM hel
            go_wp2_with fail
            exact ⟨⟨j + 1, n * 10 - (((⟨l.toArray⟩ : ByteArray)[j].toNat : Int) - 48), by omega, by omega, by go_num, by go_num, b0, b3, HN.out, trivial⟩, by simp [intOf]; omega⟩
        · have HE : Hid (digs 0 (l.drop (a + 1)) = some (n, l.drop j)) := HD.out.trans (dig_end (fun _ => hdig))
          rcases Nat.lt_or_ge (l.getD j 0).toNat 48 with g0 | g0
          · have x0 : ((⟨l.toArray⟩ : ByteArray)[j].toNat : Int) < 48 := (by rw [hel]; omega : ((l[j].toNat : Int)) < 48)
            clear g0 hdig hel
            obtain ⟨p1, p2, p3⟩ := rn_neg hal HC.out j0 hj HE.out
            by_cases e0 : j = a + 1
            · have HN : Hid _ := r_no (p1 e0)
              clear p1 p2 p3 HE HD
              subst e0
              have q0 : (((a + 1 : Nat) : Int) == (a : Int) + 1) = true := by simp
              go_wp2_with fail
              go_ret2
              exact ⟨by rw [HN.out.1, HN.out.2]; rfl, rfl⟩
            · have q0 : ((j : Int) == (a : Int) + 1) = false := beq_eq_false_iff_ne.2 (by omega)
              have hf : a + 1 < l.length := by omega
              have f1 : (a : Int) + 1 < (l.length : Int) := by omega
              have f2 := getElem_mk l (a + 1) (by rw [HSZ.out]; exact hf)
              by_cases e1 : l.getD (a + 1) 0 = 48
              · have HN : Hid _ := r_no (p2 e0 e1)
                have q2 : ((⟨l.toArray⟩ : ByteArray)[a + 1].toNat) = 48 := by rw [f2, e1]; rfl
                clear p1 p2 p3 HE HD e0 e1 f2
                go_wp2_with fail
                all_goals (go_ret2; exact ⟨by rw [HN.out.1, HN.out.2]; rfl, rfl⟩)
              · have HN : Hid _ := r_yes hj (p3 e0 e1)
                have q2 : (((⟨l.toArray⟩ : ByteArray)[a + 1].toNat : Int) == 48) = false := beq_eq_false_iff_ne.2 (fun z => e1 (h48 (by rw [← f2]; omega)))
                clear p1 p2 p3 HE HD e0 e1 f2
                go_wp2_with fail
                go_ret2
                exact ⟨by rw [HN.out.1, HN.out.2]; rfl, rfl⟩
          · have x0 : (48 : Int) ≤ ((⟨l.toArray⟩ : ByteArray)[j].toNat : Int) := (by rw [hel]; omega : (48 : Int) ≤ (l[j].toNat : Int))
            have x1 : (57 : Int) < ((⟨l.toArray⟩ : ByteArray)[j].toNat : Int) := (by rw [hel]; omega : (57 : Int) < (l[j].toNat : Int))
            clear g0 hdig hel
            obtain ⟨p1, p2, p3⟩ := rn_neg hal HC.out j0 hj HE.out
            by_cases e0 : j = a + 1
            · have HN : Hid _ := r_no (p1 e0)
              clear p1 p2 p3 HE HD
              subst e0
              have q0 : (((a + 1 : Nat) : Int) == (a : Int) + 1) = true := by simp
              go_wp2_with fail
              go_ret2
              exact ⟨by rw [HN.out.1, HN.out.2]; rfl, rfl⟩
            · have q0 : ((j : Int) == (a : Int) + 1) = false := beq_eq_false_iff_ne.2 (by omega)
              have hf : a + 1 < l.length := by omega
              have f1 : (a : Int) + 1 < (l.length : Int) := by omega
              have f2 := getElem_mk l (a + 1) (by rw [HSZ.out]; exact hf)
              by_cases e1 : l.getD (a + 1) 0 = 48
              · have HN : Hid _ := r_no (p2 e0 e1)
                have q2 : ((⟨l.toArray⟩ : ByteArray)[a + 1].toNat) = 48 := by rw [f2, e1]; rfl
                clear p1 p2 p3 HE HD e0 e1 f2
                go_wp2_with fail
                all_goals (go_ret2; exact ⟨by rw [HN.out.1, HN.out.2]; rfl, rfl⟩)
              · have HN : Hid _ := r_yes hj (p3 e0 e1)
                have q2 : (((⟨l.toArray⟩ : ByteArray)[a + 1].toNat : Int) == 48) = false := beq_eq_false_iff_ne.2 (fun z => e1 (h48 (by rw [← f2]; omega)))
                clear p1 p2 p3 HE HD e0 e1 f2
                go_wp2_with fail
                go_ret2
                exact ⟨by rw [HN.out.1, HN.out.2]; rfl, rfl⟩
      · have j1 : (l.length : Int) ≤ (j : Int) := by omega
        have HE : Hid (digs 0 (l.drop (a + 1)) = some (n, l.drop j)) := HD.out.trans (dig_end (fun q => absurd q hjl))
        obtain ⟨p1, p2, p3⟩ := rn_neg hal HC.out j0 hj HE.out
        by_cases e0 : j = a + 1
        · have HN : Hid _ := r_no (p1 e0)
          clear p1 p2 p3 HE HD
          subst e0
          have q0 : (((a + 1 : Nat) : Int) == (a : Int) + 1) = true := by simp
          go_wp2_with fail
          go_ret2
          exact ⟨by rw [HN.out.1, HN.out.2]; rfl, rfl⟩
        · have q0 : ((j : Int) == (a : Int) + 1) = false := beq_eq_false_iff_ne.2 (by omega)
          have hf : a + 1 < l.length := by omega
          have f1 : (a : Int) + 1 < (l.length : Int) := by omega
          have f2 := getElem_mk l (a + 1) (by rw [HSZ.out]; exact hf)
          by_cases e1 : l.getD (a + 1) 0 = 48
          · have HN : Hid _ := r_no (p2 e0 e1)
            have q2 : ((⟨l.toArray⟩ : ByteArray)[a + 1].toNat) = 48 := by rw [f2, e1]; rfl
            clear p1 p2 p3 HE HD e0 e1 f2
            go_wp2_with fail
            all_goals (go_ret2; exact ⟨by rw [HN.out.1, HN.out.2]; rfl, rfl⟩)
          · have HN : Hid _ := r_yes hj (p3 e0 e1)
            have q2 : (((⟨l.toArray⟩ : ByteArray)[a + 1].toNat : Int) == 48) = false := beq_eq_false_iff_ne.2 (fun z => e1 (h48 (by rw [← f2]; omega)))
            clear p1 p2 p3 HE HD e0 e1 f2
            go_wp2_with fail
            go_ret2
            exact ⟨by rw [HN.out.1, HN.out.2]; rfl, rfl⟩

set_option maxRecDepth 100000 in
set_option maxHeartbeats 4000000 in
theorem rnumber_pos (l : List UInt8) (a : Nat) (ha : a ≤ l.length) (hl : l.length ≤ 8000000) (hc : a < l.length → l.getD a 0 ≠ 45) (w : World) :
    Calls Tryd.prog 18 #[.string ⟨l.toArray⟩, .int .i64 a] w fun e w' => e = .returned (.tuple #[.int .i64 (rV l a), .int .i64 (rK l a)]) ∧ w' = w := by
  have hsz : (⟨l.toArray⟩ : ByteArray).size = l.length := by simp [ByteArray.size]
  have HSZ : Hid _ := hsz
  have a0 : (0 : Int) ≤ (a : Int) := Int.natCast_nonneg _
  have h48 : ∀ {c : UInt8}, c.toNat = 48 → c = 48 := fun h => UInt8.toNat_inj.1 h
  have HC : Hid (a < l.length → l.getD a 0 ≠ 45) := hc
  clear hc
  by_cases hal : a < l.length
  · have a1 : (a : Int) < (l.length : Int) := by omega
    have hge : (((⟨l.toArray⟩ : ByteArray)[a].toNat : Int) == 45) = false := by
      have : (l.getD a 0).toNat ≠ (45 : UInt8).toNat := fun q => HC.out hal (UInt8.toNat_inj.1 q)
      rw [getElem_mk l a (by rw [HSZ.out]; exact hal)]
      exact beq_eq_false_iff_ne.2 (fun q => this (by show (l.getD a 0).toNat = 45; omega))
    go_enter Tryd.func18, Tryd.ntmps18
    go_wp2_with fail
    go_loopw [1, 8] (fun i v wr => ∃ (j : Nat) (n : Int), a ≤ j ∧ j ≤ l.length ∧ i = .int .i64 j ∧ v = .int .i64 n ∧ -9223372036854775808 ≤ n ∧ n ≤ 0 ∧ digs 0 (l.drop (a)) = digs n (l.drop j) ∧ w = wr) (fun i _ _ => l.length - (intOf i).toNat)
    case atStart => exact ⟨a, 0, by omega, by omega, rfl, rfl, by omega, by omega, rfl, rfl⟩
    case round =>
      obtain ⟨j, n, j0, hj, rfl, rfl, n0, n1, hd, rfl⟩ := hrel
      have HD : Hid (digs 0 (l.drop (a)) = digs n (l.drop j)) := hd
      have jz : (0 : Int) ≤ (j : Int) := Int.natCast_nonneg _
      have js : (a : Int) ≤ (j : Int) := by omega
      clear hd
      by_cases hjl : j < l.length
      · have j1 : (j : Int) < (l.length : Int) := by omega
        have hel : l[j].toNat = (l.getD j 0).toNat := getElem_mk l j (by rw [HSZ.out]; exact hjl)
        by_cases hdig : 48 ≤ (l.getD j 0).toNat ∧ (l.getD j 0).toNat ≤ 57
        · have hov := over_iff n l[j].toNat (by rw [hel]; omega) (by rw [hel]; omega)
          have HM : Hid _ := dig_more (n := n) hjl hdig.1 hdig.2
          rw [← hel] at HM
          have x0 : (48 : Int) ≤ (l[j].toNat : Int) := by rw [hel]; omega
          have x1 : (l[j].toNat : Int) ≤ 57 := by rw [hel]; omega
          have y0 : (48 : Int) ≤ ((⟨l.toArray⟩ : ByteArray)[j].toNat : Int) := x0
          have y1 : ((⟨l.toArray⟩ : ByteArray)[j].toNat : Int) ≤ 57 := x1
          by_cases ho : n * 10 - ((l[j].toNat : Int) - 48) < -9223372036854775808
          · have hov' := hov.2 ho
            have hov2 : n < (-9223372036854775808 + (((⟨l.toArray⟩ : ByteArray)[j].toNat : Int) - 48)).tdiv 10 := hov'
            have HN : Hid (rnum (l.drop a) = none) := rn_none (by rw [un_pos HC.out, HD.out, HM.out, if_pos ho])
            clear hov ho hdig hel
            go_wp2_with fail
            go_ret2
            exact ⟨by rw [(r_no HN.out).1, (r_no HN.out).2]; rfl, rfl⟩
          · have hov' : (-9223372036854775808 + ((l[j].toNat : Int) - 48)).tdiv 10 ≤ n := by
              exact Int.not_lt.1 (fun z => ho (hov.1 z))
            have hov2 : (-9223372036854775808 + (((⟨l.toArray⟩ : ByteArray)[j].toNat : Int) - 48)).tdiv 10 ≤ n := hov'
            have HN : Hid _ := HD.out.trans (HM.out.trans (if_neg ho))
            have b0 : -9223372036854775808 ≤ n * 10 - ((l[j].toNat : Int) - 48) := by omega
            have c0 : -9223372036854775808 ≤ n * 10 - (((⟨l.toArray⟩ : ByteArray)[j].toNat : Int) - 48) := b0
            have b1 : n * 10 ≤ 0 := by omega
            have b2 : -9223372036854775808 ≤ n * 10 := by omega
            have b3 : n * 10 - ((l[j].toNat : Int) - 48) ≤ 0 := by omega
            clear hov ho hdig HM hel
            go_wp2_with fail
            exact ⟨⟨j + 1, n * 10 - (((⟨l.toArray⟩ : ByteArray)[j].toNat : Int) - 48), by omega, by omega, by go_num, by go_num, b0, b3, HN.out, trivial⟩, by simp [intOf]; omega⟩
        · have HE : Hid (digs 0 (l.drop (a)) = some (n, l.drop j)) := HD.out.trans (dig_end (fun _ => hdig))
          rcases Nat.lt_or_ge (l.getD j 0).toNat 48 with g0 | g0
          · have x0 : ((⟨l.toArray⟩ : ByteArray)[j].toNat : Int) < 48 := (by rw [hel]; omega : ((l[j].toNat : Int)) < 48)
            clear g0 hdig hel
            obtain ⟨p1, p2, p3, p4⟩ := rn_pos HC.out j0 hj HE.out
            by_cases e0 : j = a
            · have HN : Hid _ := r_no (p1 e0)
              clear p1 p2 p3 p4 HE HD
              subst e0
              go_wp2_with fail
              go_ret2
              exact ⟨by rw [HN.out.1, HN.out.2]; rfl, rfl⟩
            · have q0 : ((j : Int) == (a : Int)) = false := beq_eq_false_iff_ne.2 (by omega)
              have hf : a < l.length := by omega
              have f1 : (a : Int) < (l.length : Int) := by omega
              have f2 := getElem_mk l a (by rw [HSZ.out]; exact hf)
              by_cases e1 : l.getD a 0 = 48
              · have q2 : ((⟨l.toArray⟩ : ByteArray)[a].toNat) = 48 := by rw [f2, e1]; rfl
                by_cases e2 : a + 1 < j
                · have HN : Hid _ := r_no (p2 e2 e1)
                  have q3 : (a : Int) + 1 < (j : Int) := by omega
                  clear p1 p2 p3 p4 HE HD e0 e1 f2 e2
                  go_wp2_with fail
                  go_ret2
                  exact ⟨by rw [HN.out.1, HN.out.2]; rfl, rfl⟩
                · have q3 : (j : Int) ≤ (a : Int) + 1 := by omega
                  by_cases e3 : n = -9223372036854775808
                  · have HN : Hid _ := r_no (p3 e0 (Or.inr (by omega)) e3)
                    clear p1 p2 p3 p4 HE HD e0 e1 f2 e2
                    subst e3
                    go_wp2_with fail
                    go_ret2
                    exact ⟨by rw [HN.out.1, HN.out.2]; rfl, rfl⟩
                  · have HN : Hid _ := r_yes hj (p4 e0 (Or.inr (by omega)) e3)
                    have q4 : (n == -9223372036854775808) = false := beq_eq_false_iff_ne.2 e3
                    have q5 : -9223372036854775807 ≤ n := by omega
                    clear p1 p2 p3 p4 HE HD e0 e1 f2 e2 e3
                    go_wp2_with fail
                    go_ret2
                    exact ⟨by rw [HN.out.1, HN.out.2]; rfl, rfl⟩
              · have q2 : (((⟨l.toArray⟩ : ByteArray)[a].toNat : Int) == 48) = false := beq_eq_false_iff_ne.2 (fun z => e1 (h48 (by rw [← f2]; omega)))
                by_cases e3 : n = -9223372036854775808
                · have HN : Hid _ := r_no (p3 e0 (Or.inl e1) e3)
                  clear p1 p2 p3 p4 HE HD e0 e1 f2
                  subst e3
                  go_wp2_with fail
                  go_ret2
                  exact ⟨by rw [HN.out.1, HN.out.2]; rfl, rfl⟩
                · have HN : Hid _ := r_yes hj (p4 e0 (Or.inl e1) e3)
                  have q4 : (n == -9223372036854775808) = false := beq_eq_false_iff_ne.2 e3
                  have q5 : -9223372036854775807 ≤ n := by omega
                  clear p1 p2 p3 p4 HE HD e0 e1 f2 e3
                  go_wp2_with fail
                  go_ret2
                  exact ⟨by rw [HN.out.1, HN.out.2]; rfl, rfl⟩
          · have x0 : (48 : Int) ≤ ((⟨l.toArray⟩ : ByteArray)[j].toNat : Int) := (by rw [hel]; omega : (48 : Int) ≤ (l[j].toNat : Int))
            have x1 : (57 : Int) < ((⟨l.toArray⟩ : ByteArray)[j].toNat : Int) := (by rw [hel]; omega : (57 : Int) < (l[j].toNat : Int))
            clear g0 hdig hel
            obtain ⟨p1, p2, p3, p4⟩ := rn_pos HC.out j0 hj HE.out
            by_cases e0 : j = a
            · have HN : Hid _ := r_no (p1 e0)
              clear p1 p2 p3 p4 HE HD
              subst e0
              go_wp2_with fail
              go_ret2
              exact ⟨by rw [HN.out.1, HN.out.2]; rfl, rfl⟩
            · have q0 : ((j : Int) == (a : Int)) = false := beq_eq_false_iff_ne.2 (by omega)
              have hf : a < l.length := by omega
              have f1 : (a : Int) < (l.length : Int) := by omega
              have f2 := getElem_mk l a (by rw [HSZ.out]; exact hf)
              by_cases e1 : l.getD a 0 = 48
              · have q2 : ((⟨l.toArray⟩ : ByteArray)[a].toNat) = 48 := by rw [f2, e1]; rfl
                by_cases e2 : a + 1 < j
                · have HN : Hid _ := r_no (p2 e2 e1)
                  have q3 : (a : Int) + 1 < (j : Int) := by omega
                  clear p1 p2 p3 p4 HE HD e0 e1 f2 e2
                  go_wp2_with fail
                  go_ret2
                  exact ⟨by rw [HN.out.1, HN.out.2]; rfl, rfl⟩
                · have q3 : (j : Int) ≤ (a : Int) + 1 := by omega
                  by_cases e3 : n = -9223372036854775808
                  · have HN : Hid _ := r_no (p3 e0 (Or.inr (by omega)) e3)
                    clear p1 p2 p3 p4 HE HD e0 e1 f2 e2
                    subst e3
                    go_wp2_with fail
                    go_ret2
                    exact ⟨by rw [HN.out.1, HN.out.2]; rfl, rfl⟩
                  · have HN : Hid _ := r_yes hj (p4 e0 (Or.inr (by omega)) e3)
                    have q4 : (n == -9223372036854775808) = false := beq_eq_false_iff_ne.2 e3
                    have q5 : -9223372036854775807 ≤ n := by omega
                    clear p1 p2 p3 p4 HE HD e0 e1 f2 e2 e3
                    go_wp2_with fail
                    go_ret2
                    exact ⟨by rw [HN.out.1, HN.out.2]; rfl, rfl⟩
              · have q2 : (((⟨l.toArray⟩ : ByteArray)[a].toNat : Int) == 48) = false := beq_eq_false_iff_ne.2 (fun z => e1 (h48 (by rw [← f2]; omega)))
                by_cases e3 : n = -9223372036854775808
                · have HN : Hid _ := r_no (p3 e0 (Or.inl e1) e3)
                  clear p1 p2 p3 p4 HE HD e0 e1 f2
                  subst e3
                  go_wp2_with fail
                  go_ret2
                  exact ⟨by rw [HN.out.1, HN.out.2]; rfl, rfl⟩
                · have HN : Hid _ := r_yes hj (p4 e0 (Or.inl e1) e3)
                  have q4 : (n == -9223372036854775808) = false := beq_eq_false_iff_ne.2 e3
                  have q5 : -9223372036854775807 ≤ n := by omega
                  clear p1 p2 p3 p4 HE HD e0 e1 f2 e3
                  go_wp2_with fail
                  go_ret2
                  exact ⟨by rw [HN.out.1, HN.out.2]; rfl, rfl⟩
      · have j1 : (l.length : Int) ≤ (j : Int) := by omega
        have HE : Hid (digs 0 (l.drop (a)) = some (n, l.drop j)) := HD.out.trans (dig_end (fun q => absurd q hjl))
        obtain ⟨p1, p2, p3, p4⟩ := rn_pos HC.out j0 hj HE.out
        by_cases e0 : j = a
        · exact absurd e0 (by omega)
        · have q0 : ((j : Int) == (a : Int)) = false := beq_eq_false_iff_ne.2 (by omega)
          have hf : a < l.length := by omega
          have f1 : (a : Int) < (l.length : Int) := by omega
          have f2 := getElem_mk l a (by rw [HSZ.out]; exact hf)
          by_cases e1 : l.getD a 0 = 48
          · have q2 : ((⟨l.toArray⟩ : ByteArray)[a].toNat) = 48 := by rw [f2, e1]; rfl
            by_cases e2 : a + 1 < j
            · have HN : Hid _ := r_no (p2 e2 e1)
              have q3 : (a : Int) + 1 < (j : Int) := by omega
              clear p1 p2 p3 p4 HE HD e0 e1 f2 e2
              go_wp2_with fail
              go_ret2
              exact ⟨by rw [HN.out.1, HN.out.2]; rfl, rfl⟩
            · have q3 : (j : Int) ≤ (a : Int) + 1 := by omega
              by_cases e3 : n = -9223372036854775808
              · have HN : Hid _ := r_no (p3 e0 (Or.inr (by omega)) e3)
                clear p1 p2 p3 p4 HE HD e0 e1 f2 e2
                subst e3
                go_wp2_with fail
                go_ret2
                exact ⟨by rw [HN.out.1, HN.out.2]; rfl, rfl⟩
              · have HN : Hid _ := r_yes hj (p4 e0 (Or.inr (by omega)) e3)
                have q4 : (n == -9223372036854775808) = false := beq_eq_false_iff_ne.2 e3
                have q5 : -9223372036854775807 ≤ n := by omega
                clear p1 p2 p3 p4 HE HD e0 e1 f2 e2 e3
                go_wp2_with fail
                go_ret2
                exact ⟨by rw [HN.out.1, HN.out.2]; rfl, rfl⟩
          · have q2 : (((⟨l.toArray⟩ : ByteArray)[a].toNat : Int) == 48) = false := beq_eq_false_iff_ne.2 (fun z => e1 (h48 (by rw [← f2]; omega)))
            by_cases e3 : n = -9223372036854775808
            · have HN : Hid _ := r_no (p3 e0 (Or.inl e1) e3)
              clear p1 p2 p3 p4 HE HD e0 e1 f2
              subst e3
              go_wp2_with fail
              go_ret2
              exact ⟨by rw [HN.out.1, HN.out.2]; rfl, rfl⟩
            · have HN : Hid _ := r_yes hj (p4 e0 (Or.inl e1) e3)
              have q4 : (n == -9223372036854775808) = false := beq_eq_false_iff_ne.2 e3
              have q5 : -9223372036854775807 ≤ n := by omega
              clear p1 p2 p3 p4 HE HD e0 e1 f2 e3
              go_wp2_with fail
              go_ret2
              exact ⟨by rw [HN.out.1, HN.out.2]; rfl, rfl⟩
  · have a1 : (l.length : Int) ≤ (a : Int) := by omega
    obtain rfl : a = l.length := by omega
    have HN : Hid _ := r_no (l := l) (a := l.length) ((rn_pos (j := l.length) (n := 0) (fun q => absurd q (Nat.lt_irrefl _)) (Nat.le_refl _) (Nat.le_refl _) (by rw [List.drop_length]; rfl)).1 rfl)
    go_enter Tryd.func18, Tryd.ntmps18
    go_wp2_with fail
    go_loopw [1, 8] (fun i v wr => i = .int .i64 l.length ∧ v = .int .i64 0 ∧ w = wr) (fun i _ _ => 0)
    case atStart => exact ⟨rfl, rfl, rfl⟩
    case round =>
      obtain ⟨rfl, rfl, rfl⟩ := hrel
      go_wp2_with fail
      go_ret2
      exact ⟨by rw [HN.out.1, HN.out.2]; rfl, rfl⟩
theorem rnumber_any (l : List UInt8) (a : Nat) (ha : a ≤ l.length) (hl : l.length ≤ 8000000) (w : World) :
    Calls Tryd.prog 18 #[.string ⟨l.toArray⟩, .int .i64 a] w fun e w' => e = .returned (.tuple #[.int .i64 (rV l a), .int .i64 (rK l a)]) ∧ w' = w := by
  by_cases h : a < l.length ∧ l.getD a 0 = 45
  · exact rnumber_neg l a hl h.1 h.2 w
  · exact rnumber_pos l a ha hl (fun q z => h ⟨q, z⟩) w
end Go.Proofs.YtegajbfefhljmaaDoor

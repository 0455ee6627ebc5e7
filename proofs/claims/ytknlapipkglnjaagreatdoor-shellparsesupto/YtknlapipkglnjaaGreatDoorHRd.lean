
/- Layer 28: the document's read. Made by mk_hrd.py. -/

import Derived.Test.YtknlapipkglnjaaGreatDoorHWd3

import Derived.Test.YtknlapipkglnjaaGreatDoorHNm

namespace Go.Proofs.YtknlapipkglnjaaGreatDoor

open Go.RowKit

attribute [local go_sem ↓] Go.wp_at_zero Go.wp_at_succ

theorem head_of {l : List UInt8} {c : UInt8} (h : 0 < l.length) (q : l.getD 0 0 = c) : l.head? = some c := by
  cases l with
  | nil => cases h
  | cons x y => exact congrArg some q
def RdOut (l : List UInt8) (e : Ending) : Prop := match numOf l with
  | some v => e = .returned (.tuple #[.int .i64 v, .bool true])
  | none => e = .returned (.tuple #[.int .i64 0, .bool false])
theorem rd_no {l : List UInt8} (h : ∀ v, numOf l ≠ some v) : RdOut l (.returned (.tuple #[.int .i64 0, .bool false])) := by
  unfold RdOut
  cases hn : numOf l with
  | some v => exact absurd hn (h v)
  | none => rfl
theorem rd_yes {l : List UInt8} {v : Int} (h : numOf l = some v) : RdOut l (.returned (.tuple #[.int .i64 v, .bool true])) := by
  unfold RdOut
  rw [h]
set_option maxRecDepth 100000 in
set_option maxHeartbeats 4000000 in
theorem read_neg (l d : List UInt8) (hld : l = 45 :: d) (hl : l.length ≤ 2000000) (w : World) :
    Calls Tryz.prog 32 #[.string ⟨l.toArray⟩] w fun e w' => RdOut l e ∧ w' = w := by
  have NG : Hid (∀ v, numOf l = some v ↔ DigV true d v) := fun v => by rw [hld]; exact num_neg d v
  have hl0 : 0 < l.length := by rw [hld]; simp
  have h45 : (⟨l.toArray⟩ : ByteArray)[0].toNat = 45 := hb_eq hl0 (c := 45) (by rw [hld]; rfl)
  have hlen : (l.length : Int) = (d.length : Int) + 1 := by rw [hld]; simp
  have hx : (⟨l.toArray⟩ : ByteArray).extract 1 l.length = ⟨d.toArray⟩ := by rw [hld, ByteArray.extract_mk]; simp
  have b0 : (l.length : Int) ≤ 2000000 := by omega
  have hsz : (⟨l.toArray⟩ : ByteArray).size = l.length := by simp [ByteArray.size]
  have hsd : (⟨d.toArray⟩ : ByteArray).size = d.length := by simp [ByteArray.size]
  clear hld
  go_enter Tryz.func32, Tryz.ntmps32
  by_cases g0 : d.length = 0
  · have HB : Hid (∀ v, ¬ DigV true d v) := fun v => by rw [List.length_eq_zero_iff.1 g0]; exact dig_nil
    have g0' : (d.length : Int) = 0 := by omega
    go_wp2_with fail
    all_goals
      go_ret2
      exact ⟨rd_no (fun v q => HB.out v ((NG.out v).1 q)), rfl⟩
  · have g0' : 1 ≤ (d.length : Int) := by omega
    have z0 : ((d.length : Int) == 0) = false := beq_eq_false_iff_ne.2 (by omega)
    by_cases g1 : 19 < d.length
    · have HB : Hid (∀ v, ¬ DigV true d v) := fun v => dig_long g1
      have g1' : 19 < (d.length : Int) := by omega
      clear g0 g1
      go_wp2_with fail
      all_goals
        go_ret2
        exact ⟨rd_no (fun v q => HB.out v ((NG.out v).1 q)), rfl⟩
    · have g1' : (d.length : Int) ≤ 19 := by omega
      have d0 : 0 < d.length := by omega
      by_cases g2 : d.getD 0 0 = 48
      · have HB : Hid (∀ v, ¬ DigV true d v) := fun v => dig_zero g2 (Or.inr rfl)
        have c2 : (⟨d.toArray⟩ : ByteArray)[0].toNat = 48 := hb_eq d0 (c := 48) g2
        clear g0 g1 g2
        go_wp2_with fail
        all_goals
          go_ret2
          exact ⟨rd_no (fun v q => HB.out v ((NG.out v).1 q)), rfl⟩
      · have c2 : (((⟨d.toArray⟩ : ByteArray)[0].toNat : Int) == 48) = false := hb_nei d0 (c := 48) g2
        have HZ0 : Hid (d.getD 0 0 ≠ 48) := g2
        have HZ : Hid (d.getD 0 0 ≠ 48 ∨ d.length ≤ 1) := Or.inl g2
        clear g0 g1 g2
        go_wp2_with fail
        go_loopw [6, 7] (fun vn vi wr => ∃ (i u : Nat), vn = .int .i64 (-(u : Int)) ∧ vi = .int .i64 i ∧ Rdd d i u ∧ wr = w) (fun _ vi _ => d.length - (intOf vi).toNat)
        case atStart => exact ⟨0, 0, rfl, rfl, ⟨Nat.zero_le _, by omega, Or.inl ⟨rfl, rfl⟩⟩, rfl⟩
        case round =>
          obtain ⟨i, u, rfl, rfl, hR, rfl⟩ := hrel
          have HR : Hid (Rdd d i u) := hR
          have hu0 : (u : Int) ≤ 9223372036854775808 := by have := hR.2.1; omega
          have hu1 : (0 : Int) ≤ (u : Int) := Int.natCast_nonneg _
          have hil := hR.1
          clear hR
          by_cases hi : i < d.length
          · have j0 : (0 : Int) ≤ (i : Int) := Int.natCast_nonneg _
            have j1 : (i : Int) < (d.length : Int) := by omega
            obtain ⟨c, hc⟩ : ∃ c : Nat, c = (d.getD i 0).toNat := ⟨_, rfl⟩
            have c0 : (⟨d.toArray⟩ : ByteArray)[i].toNat = c := (hb_at d i hi).trans hc.symm
            have c1 : c < 256 := by rw [hc]; exact UInt8.toNat_lt _
            have HC : Hid (c = (d.getD i 0).toNat) := hc
            clear hc
            by_cases h1 : c < 48
            · have h1' : (c : Int) < 48 := by omega
              have HB : Hid (∀ v, ¬ DigV true d v) := fun v => dig_bad hi (by rw [← HC.out]; exact Or.inl h1)
              clear h1
              go_wp2_with fail
              go_ret2
              exact ⟨rd_no (fun v q => HB.out v ((NG.out v).1 q)), rfl⟩
            · have h1' : 48 ≤ (c : Int) := by omega
              by_cases h2 : 57 < c
              · have h2' : 57 < (c : Int) := by omega
                have HB : Hid (∀ v, ¬ DigV true d v) := fun v => dig_bad hi (by rw [← HC.out]; exact Or.inr h2)
                clear h1 h2
                go_wp2_with fail
                go_ret2
                exact ⟨rd_no (fun v q => HB.out v ((NG.out v).1 q)), rfl⟩
              · have h2' : (c : Int) ≤ 57 := by omega
                obtain ⟨q, hq, hq2⟩ : ∃ q : Nat, (-9223372036854775808 + ((c : Int) - 48)).tdiv 10 = -(q : Int) ∧ q = (9223372036854775808 - (c - 48)) / 10 := ⟨_, by rw [tdiv_eq_if]; split <;> omega, rfl⟩
                have q0 : (0 : Int) ≤ (q : Int) := Int.natCast_nonneg _
                have q1 : (q : Int) ≤ 922337203685477580 := by omega
                by_cases hb : 9223372036854775808 < u * 10 + (c - 48)
                · have hb' : -(u : Int) < -(q : Int) := by omega
                  have HB : Hid (∀ v, ¬ DigV true d v) := fun v => HR.out.over hi HZ.out (by rw [← HC.out]; omega) (by rw [← HC.out]; omega) (by rw [← HC.out]; exact hb)
                  clear h1 h2 hb hq2
                  go_wp2_with fail
                  go_ret2
                  exact ⟨rd_no (fun v q => HB.out v ((NG.out v).1 q)), rfl⟩
                · have hb' : -(q : Int) ≤ -(u : Int) := by omega
                  have hb2 : -9223372036854775808 ≤ 10 * -(u : Int) - ((c : Int) - 48) := by omega
                  have hb3 : -9223372036854775808 ≤ 10 * -(u : Int) := by omega
                  have HS : Hid (Rdd d (i + 1) (u * 10 + (c - 48))) := by
                    have := HR.out.step hi HZ.out (by rw [← HC.out]; omega) (by rw [← HC.out]; omega) (by rw [← HC.out]; omega)
                    rw [← HC.out] at this
                    exact this
                  have HE : Hid (10 * -(u : Int) - ((c : Int) - 48) = -((u * 10 + (c - 48) : Nat) : Int)) := by show _ = _; omega
                  clear h1 h2 hb hq2
                  go_wp2_with fail
                  exact ⟨⟨i + 1, u * 10 + (c - 48), by rw [← HE.out], by go_num, HS.out, trivial⟩, by simp [intOf]; omega⟩
          · obtain rfl : i = d.length := by omega
            clear hi hil
            obtain ⟨e1, e2⟩ := HR.out.all (by omega)
            have HD : Hid (d = Lib.decDigits u) := e1
            clear e1 e2
            have HU : Hid (1 ≤ u) := by
              show 1 ≤ u
              rcases Nat.eq_zero_or_pos u with h | h
              · subst h
                exfalso
                have := HD.out
                rw [dec0] at this
                apply HZ0.out
                rw [this]
                rfl
              · exact h
            go_wp2_with fail
            go_ret2
            exact ⟨rd_yes ((NG.out _).2 ⟨u, HD.out, by rw [if_pos rfl]; have := HU.out; omega⟩), rfl⟩
set_option maxRecDepth 100000 in
set_option maxHeartbeats 4000000 in
theorem read_pos (l : List UInt8) (hld : l.head? ≠ some 45) (hl : l.length ≤ 2000000) (w : World) :
    Calls Tryz.prog 32 #[.string ⟨l.toArray⟩] w fun e w' => RdOut l e ∧ w' = w := by
  have NG : Hid (∀ v, numOf l = some v ↔ DigV false l v) := fun v => num_pos l v hld
  have b0 : (l.length : Int) ≤ 2000000 := by omega
  have hsz : (⟨l.toArray⟩ : ByteArray).size = l.length := by simp [ByteArray.size]
  by_cases g0 : l.length = 0
  · have HB : Hid (∀ v, ¬ DigV false l v) := fun v => by rw [List.length_eq_zero_iff.1 g0]; exact dig_nil
    have g0' : (l.length : Int) = 0 := by omega
    go_enter Tryz.func32, Tryz.ntmps32
    go_wp2_with fail
    all_goals
      go_ret2
      exact ⟨rd_no (fun v q => HB.out v ((NG.out v).1 q)), rfl⟩
  · have g0' : 1 ≤ (l.length : Int) := by omega
    have z0 : ((l.length : Int) == 0) = false := beq_eq_false_iff_ne.2 (by omega)
    have d0 : 0 < l.length := by omega
    have h45 : (((⟨l.toArray⟩ : ByteArray)[0].toNat : Int) == 45) = false := hb_nei d0 (c := 45) (fun q => hld (head_of d0 q))
    clear hld g0
    go_enter Tryz.func32, Tryz.ntmps32
    by_cases g1 : 19 < l.length
    · have HB : Hid (∀ v, ¬ DigV false l v) := fun v => dig_long g1
      have g1' : 19 < (l.length : Int) := by omega
      clear g1
      go_wp2_with fail
      all_goals
        go_ret2
        exact ⟨rd_no (fun v q => HB.out v ((NG.out v).1 q)), rfl⟩
    · have g1' : (l.length : Int) ≤ 19 := by omega
      by_cases g2 : l.getD 0 0 = 48
      · have c2 : (⟨l.toArray⟩ : ByteArray)[0].toNat = 48 := hb_eq d0 (c := 48) g2
        by_cases g3 : 1 < l.length
        · have HB : Hid (∀ v, ¬ DigV false l v) := fun v => dig_zero g2 (Or.inl g3)
          have g3' : 1 < (l.length : Int) := by omega
          clear g1 g2 g3
          go_wp2_with fail
          all_goals
            go_ret2
            exact ⟨rd_no (fun v q => HB.out v ((NG.out v).1 q)), rfl⟩
        · have g3' : (l.length : Int) ≤ 1 := by omega
          have HZ : Hid (l.getD 0 0 ≠ 48 ∨ l.length ≤ 1) := Or.inr (by omega)
          clear g1 g2 g3
          go_wp2_with fail
          go_loopw [6, 7] (fun vn vi wr => ∃ (i u : Nat), vn = .int .i64 (-(u : Int)) ∧ vi = .int .i64 i ∧ Rdd l i u ∧ wr = w) (fun _ vi _ => l.length - (intOf vi).toNat)
          case atStart => exact ⟨0, 0, rfl, rfl, ⟨Nat.zero_le _, by omega, Or.inl ⟨rfl, rfl⟩⟩, rfl⟩
          case round =>
            obtain ⟨i, u, rfl, rfl, hR, rfl⟩ := hrel
            have HR : Hid (Rdd l i u) := hR
            have hu0 : (u : Int) ≤ 9223372036854775808 := by have := hR.2.1; omega
            have hu1 : (0 : Int) ≤ (u : Int) := Int.natCast_nonneg _
            have hil := hR.1
            clear hR
            by_cases hi : i < l.length
            · have j0 : (0 : Int) ≤ (i : Int) := Int.natCast_nonneg _
              have j1 : (i : Int) < (l.length : Int) := by omega
              obtain ⟨c, hc⟩ : ∃ c : Nat, c = (l.getD i 0).toNat := ⟨_, rfl⟩
              have c0 : (⟨l.toArray⟩ : ByteArray)[i].toNat = c := (hb_at l i hi).trans hc.symm
              have c1 : c < 256 := by rw [hc]; exact UInt8.toNat_lt _
              have HC : Hid (c = (l.getD i 0).toNat) := hc
              clear hc
              by_cases h1 : c < 48
              · have h1' : (c : Int) < 48 := by omega
                have HB : Hid (∀ v, ¬ DigV false l v) := fun v => dig_bad hi (by rw [← HC.out]; exact Or.inl h1)
                clear h1
                go_wp2_with fail
                go_ret2
                exact ⟨rd_no (fun v q => HB.out v ((NG.out v).1 q)), rfl⟩
              · have h1' : 48 ≤ (c : Int) := by omega
                by_cases h2 : 57 < c
                · have h2' : 57 < (c : Int) := by omega
                  have HB : Hid (∀ v, ¬ DigV false l v) := fun v => dig_bad hi (by rw [← HC.out]; exact Or.inr h2)
                  clear h1 h2
                  go_wp2_with fail
                  go_ret2
                  exact ⟨rd_no (fun v q => HB.out v ((NG.out v).1 q)), rfl⟩
                · have h2' : (c : Int) ≤ 57 := by omega
                  obtain ⟨q, hq, hq2⟩ : ∃ q : Nat, (-9223372036854775808 + ((c : Int) - 48)).tdiv 10 = -(q : Int) ∧ q = (9223372036854775808 - (c - 48)) / 10 := ⟨_, by rw [tdiv_eq_if]; split <;> omega, rfl⟩
                  have q0 : (0 : Int) ≤ (q : Int) := Int.natCast_nonneg _
                  have q1 : (q : Int) ≤ 922337203685477580 := by omega
                  by_cases hb : 9223372036854775808 < u * 10 + (c - 48)
                  · have hb' : -(u : Int) < -(q : Int) := by omega
                    have HB : Hid (∀ v, ¬ DigV false l v) := fun v => HR.out.over hi HZ.out (by rw [← HC.out]; omega) (by rw [← HC.out]; omega) (by rw [← HC.out]; exact hb)
                    clear h1 h2 hb hq2
                    go_wp2_with fail
                    go_ret2
                    exact ⟨rd_no (fun v q => HB.out v ((NG.out v).1 q)), rfl⟩
                  · have hb' : -(q : Int) ≤ -(u : Int) := by omega
                    have hb2 : -9223372036854775808 ≤ 10 * -(u : Int) - ((c : Int) - 48) := by omega
                    have hb3 : -9223372036854775808 ≤ 10 * -(u : Int) := by omega
                    have HS : Hid (Rdd l (i + 1) (u * 10 + (c - 48))) := by
                      have := HR.out.step hi HZ.out (by rw [← HC.out]; omega) (by rw [← HC.out]; omega) (by rw [← HC.out]; omega)
                      rw [← HC.out] at this
                      exact this
                    have HE : Hid (10 * -(u : Int) - ((c : Int) - 48) = -((u * 10 + (c - 48) : Nat) : Int)) := by show _ = _; omega
                    clear h1 h2 hb hq2
                    go_wp2_with fail
                    exact ⟨⟨i + 1, u * 10 + (c - 48), by rw [← HE.out], by go_num, HS.out, trivial⟩, by simp [intOf]; omega⟩
            · obtain rfl : i = l.length := by omega
              clear hi hil
              obtain ⟨e1, e2⟩ := HR.out.all (by omega)
              have HD : Hid (l = Lib.decDigits u) := e1
              clear e1 e2
              by_cases ht : u = 9223372036854775808
              · subst ht
                have HB : Hid (∀ v, ¬ DigV false l v) := fun v => dig_top HD.out
                clear hu0 hu1
                go_wp2_with fail
                go_ret2
                exact ⟨rd_no (fun v q => HB.out v ((NG.out v).1 q)), rfl⟩
              · have ht' : ((-(u : Int)) == -9223372036854775808) = false := beq_eq_false_iff_ne.2 (by omega)
                have ht2 : (u : Int) ≤ 9223372036854775807 := by omega
                clear ht
                go_wp2_with fail
                go_ret2
                exact ⟨rd_yes ((NG.out _).2 ⟨u, HD.out, by rw [if_neg (by simp)]; omega⟩), rfl⟩
      · have c2 : (((⟨l.toArray⟩ : ByteArray)[0].toNat : Int) == 48) = false := hb_nei d0 (c := 48) g2
        have HZ : Hid (l.getD 0 0 ≠ 48 ∨ l.length ≤ 1) := Or.inl g2
        clear g1 g2
        go_wp2_with fail
        go_loopw [6, 7] (fun vn vi wr => ∃ (i u : Nat), vn = .int .i64 (-(u : Int)) ∧ vi = .int .i64 i ∧ Rdd l i u ∧ wr = w) (fun _ vi _ => l.length - (intOf vi).toNat)
        case atStart => exact ⟨0, 0, rfl, rfl, ⟨Nat.zero_le _, by omega, Or.inl ⟨rfl, rfl⟩⟩, rfl⟩
        case round =>
          obtain ⟨i, u, rfl, rfl, hR, rfl⟩ := hrel
          have HR : Hid (Rdd l i u) := hR
          have hu0 : (u : Int) ≤ 9223372036854775808 := by have := hR.2.1; omega
          have hu1 : (0 : Int) ≤ (u : Int) := Int.natCast_nonneg _
          have hil := hR.1
          clear hR
          by_cases hi : i < l.length
          · have j0 : (0 : Int) ≤ (i : Int) := Int.natCast_nonneg _
            have j1 : (i : Int) < (l.length : Int) := by omega
            obtain ⟨c, hc⟩ : ∃ c : Nat, c = (l.getD i 0).toNat := ⟨_, rfl⟩
            have c0 : (⟨l.toArray⟩ : ByteArray)[i].toNat = c := (hb_at l i hi).trans hc.symm
            have c1 : c < 256 := by rw [hc]; exact UInt8.toNat_lt _
            have HC : Hid (c = (l.getD i 0).toNat) := hc
            clear hc
            by_cases h1 : c < 48
            · have h1' : (c : Int) < 48 := by omega
              have HB : Hid (∀ v, ¬ DigV false l v) := fun v => dig_bad hi (by rw [← HC.out]; exact Or.inl h1)
              clear h1
              go_wp2_with fail
              go_ret2
              exact ⟨rd_no (fun v q => HB.out v ((NG.out v).1 q)), rfl⟩
            · have h1' : 48 ≤ (c : Int) := by omega
              by_cases h2 : 57 < c
              · have h2' : 57 < (c : Int) := by omega
                have HB : Hid (∀ v, ¬ DigV false l v) := fun v => dig_bad hi (by rw [← HC.out]; exact Or.inr h2)
                clear h1 h2
                go_wp2_with fail
                go_ret2
                exact ⟨rd_no (fun v q => HB.out v ((NG.out v).1 q)), rfl⟩
              · have h2' : (c : Int) ≤ 57 := by omega
                obtain ⟨q, hq, hq2⟩ : ∃ q : Nat, (-9223372036854775808 + ((c : Int) - 48)).tdiv 10 = -(q : Int) ∧ q = (9223372036854775808 - (c - 48)) / 10 := ⟨_, by rw [tdiv_eq_if]; split <;> omega, rfl⟩
                have q0 : (0 : Int) ≤ (q : Int) := Int.natCast_nonneg _
                have q1 : (q : Int) ≤ 922337203685477580 := by omega
                by_cases hb : 9223372036854775808 < u * 10 + (c - 48)
                · have hb' : -(u : Int) < -(q : Int) := by omega
                  have HB : Hid (∀ v, ¬ DigV false l v) := fun v => HR.out.over hi HZ.out (by rw [← HC.out]; omega) (by rw [← HC.out]; omega) (by rw [← HC.out]; exact hb)
                  clear h1 h2 hb hq2
                  go_wp2_with fail
                  go_ret2
                  exact ⟨rd_no (fun v q => HB.out v ((NG.out v).1 q)), rfl⟩
                · have hb' : -(q : Int) ≤ -(u : Int) := by omega
                  have hb2 : -9223372036854775808 ≤ 10 * -(u : Int) - ((c : Int) - 48) := by omega
                  have hb3 : -9223372036854775808 ≤ 10 * -(u : Int) := by omega
                  have HS : Hid (Rdd l (i + 1) (u * 10 + (c - 48))) := by
                    have := HR.out.step hi HZ.out (by rw [← HC.out]; omega) (by rw [← HC.out]; omega) (by rw [← HC.out]; omega)
                    rw [← HC.out] at this
                    exact this
                  have HE : Hid (10 * -(u : Int) - ((c : Int) - 48) = -((u * 10 + (c - 48) : Nat) : Int)) := by show _ = _; omega
                  clear h1 h2 hb hq2
                  go_wp2_with fail
                  exact ⟨⟨i + 1, u * 10 + (c - 48), by rw [← HE.out], by go_num, HS.out, trivial⟩, by simp [intOf]; omega⟩
          · obtain rfl : i = l.length := by omega
            clear hi hil
            obtain ⟨e1, e2⟩ := HR.out.all (by omega)
            have HD : Hid (l = Lib.decDigits u) := e1
            clear e1 e2
            by_cases ht : u = 9223372036854775808
            · subst ht
              have HB : Hid (∀ v, ¬ DigV false l v) := fun v => dig_top HD.out
              clear hu0 hu1
              go_wp2_with fail
              go_ret2
              exact ⟨rd_no (fun v q => HB.out v ((NG.out v).1 q)), rfl⟩
            · have ht' : ((-(u : Int)) == -9223372036854775808) = false := beq_eq_false_iff_ne.2 (by omega)
              have ht2 : (u : Int) ≤ 9223372036854775807 := by omega
              clear ht
              go_wp2_with fail
              go_ret2
              exact ⟨rd_yes ((NG.out _).2 ⟨u, HD.out, by rw [if_neg (by simp)]; omega⟩), rfl⟩
theorem read_any (l : List UInt8) (hl : l.length ≤ 2000000) (w : World) :
    Calls Tryz.prog 32 #[.string ⟨l.toArray⟩] w fun e w' => RdOut l e ∧ w' = w := by
  by_cases h : l.head? = some 45
  · obtain ⟨d, rfl⟩ : ∃ d, l = 45 :: d := by
      cases l with
      | nil => cases h
      | cons c y => exact ⟨y, by rw [show c = 45 from Option.some.inj h]⟩
    exact read_neg _ d rfl hl w
  · exact read_pos l h hl w
end Go.Proofs.YtknlapipkglnjaaGreatDoor

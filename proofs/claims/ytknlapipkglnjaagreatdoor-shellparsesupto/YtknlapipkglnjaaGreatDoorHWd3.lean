
/- Layer 28: the document's Words. -/

import Derived.Test.YtknlapipkglnjaaGreatDoorHWd2

namespace Go.Proofs.YtknlapipkglnjaaGreatDoor

open Go.RowKit

attribute [local go_sem ↓] Go.wp_at_zero Go.wp_at_succ

theorem hb_at (l : List UInt8) (j : Nat) (h : j < l.length) : ((⟨l.toArray⟩ : ByteArray)[j]'(by simpa [ByteArray.size] using h)).toNat = (l.getD j 0).toNat := by
  have : (⟨l.toArray⟩ : ByteArray)[j]'(by simpa [ByteArray.size] using h) = l[j] := rfl
  rw [this, List.getD_eq_getElem?_getD, List.getElem?_eq_getElem h]
  rfl
theorem hb_ne {l : List UInt8} {j : Nat} {c : UInt8} (hj : j < l.length) (h : l.getD j 0 ≠ c) : (((⟨l.toArray⟩ : ByteArray)[j]'(by simpa [ByteArray.size] using hj)).toNat == (c.toNat)) = false := by
  have h1 : (l.getD j 0).toNat ≠ c.toNat := fun q => h (UInt8.toNat_inj.1 q)
  have h2 := hb_at l j hj
  exact beq_eq_false_iff_ne.2 (by omega)
theorem hb_nei {l : List UInt8} {j : Nat} {c : UInt8} (hj : j < l.length) (h : l.getD j 0 ≠ c) : (((((⟨l.toArray⟩ : ByteArray)[j]'(by simpa [ByteArray.size] using hj)).toNat : Nat) : Int) == (c.toNat : Int)) = false := by
  have h1 : (l.getD j 0).toNat ≠ c.toNat := fun q => h (UInt8.toNat_inj.1 q)
  have h2 := hb_at l j hj
  exact beq_eq_false_iff_ne.2 (by omega)
theorem hb_eq {l : List UInt8} {j : Nat} {c : UInt8} (hj : j < l.length) (h : l.getD j 0 = c) : ((⟨l.toArray⟩ : ByteArray)[j]'(by simpa [ByteArray.size] using hj)).toNat = c.toNat := by
  rw [← h]
  exact hb_at l j hj
def atV : Option Nat → Int
  | none => -1
  | some a => a
theorem sp_next (l : List UInt8) {i : Nat} (hi : i < l.length) (st : Option Nat) (acc : List (Nat × Nat)) : spB l (l.length - i) i st acc = (if blkB (l.getD i 0) then (match st with | some a => spB l (l.length - (i + 1)) (i + 1) none (acc ++ [(a, i)]) | none => spB l (l.length - (i + 1)) (i + 1) none acc) else spB l (l.length - (i + 1)) (i + 1) (some (st.getD i)) acc) := by
  obtain ⟨k, hk⟩ : ∃ k, l.length - i = k + 1 := ⟨l.length - i - 1, by omega⟩
  rw [hk, show l.length - (i + 1) = k by omega]
  conv => lhs; unfold spB
  rw [if_pos hi]
  rfl
set_option maxRecDepth 100000 in
set_option maxHeartbeats 8000000 in
theorem rWords_any (l : List UInt8) (hl : l.length ≤ 2000000) (w : World) :
    Calls Tryz.prog 31 #[.string ⟨l.toArray⟩] w fun e w' => ∃ v, e = .returned v ∧ w'.ownsRow w.heap.size 9 1 v (wordsL l).length (strC (wordsL l)) ∧ Below w.heap.size w w' := by
  have hsz : (⟨l.toArray⟩ : ByteArray).size = l.length := by simp [ByteArray.size]
  have b0 : (l.length : Int) ≤ 2000000 := by omega
  obtain ⟨i0, hi0, hz0, hz1, hz2⟩ := info_parts st_info
  go_enter Tryz.func31, Tryz.ntmps31
  go_wp2_with fail
  go_loopw [3, 4, 5] (fun vo va vi wr => ∃ (i : Nat) (st : Option Nat) (acc : List (Nat × Nat)), i ≤ l.length ∧ vi = .int .i64 i ∧ va = .int .i64 (atV st) ∧ (∀ a, st = some a → a < i) ∧ acc.length ≤ i ∧ Wd w wr vo (acc.map (cutL l)) ∧ spB l l.length 0 none [] = spB l (l.length - i) i st acc) (fun _ _ vi _ => l.length - (intOf vi).toNat)
  case atStart => exact ⟨0, none, [], Nat.zero_le _, rfl, rfl, (fun a h => by cases h), Nat.zero_le _, ⟨World.ownsRow_lit w #[] 0 (Nat.le_refl _) (by unfold maxLen; omega) rfl, below_alloc _ _⟩, by simp⟩
  case round =>
    obtain ⟨i, st, acc, hil, rfl, rfl, hst, hac, hwd, hsp⟩ := hrel
    rename World => wr
    obtain ⟨A, hA⟩ : ∃ A, A = acc.map (cutL l) := ⟨_, rfl⟩
    have HA : Hid (A = acc.map (cutL l)) := hA
    rw [← hA] at hwd
    have Al : A.length ≤ 2000000 := by rw [hA]; simp; omega
    have TR : Hid (Wd w wr _ A) := hwd
    have HSP : Hid (spB l l.length 0 none [] = spB l (l.length - i) i st acc) := hsp
    have HST : Hid (∀ a, st = some a → a < i) := hst
    have HAC : Hid (acc.length ≤ i) := hac
    have hsw := hwd.size
    clear hwd hsp hst hac hA
    by_cases hi : i < l.length
    · have j0 : (0 : Int) ≤ (i : Int) := Int.natCast_nonneg _
      have j1 : (i : Int) < (l.length : Int) := by omega
      have HN : Hid _ := sp_next l hi st acc
      by_cases hbk : blkB (l.getD i 0) = true
      · have hcs : l.getD i 0 = 32 ∨ l.getD i 0 = 9 ∨ l.getD i 0 = 13 := by simpa [blkB, or_assoc] using hbk
        cases st with
        | none =>
          have HX : Hid (spB l l.length 0 none [] = spB l (l.length - (i + 1)) (i + 1) none acc) := HSP.out.trans (HN.out.trans (by rw [if_pos hbk]))
          simp only [atV]
          clear hbk HN
          rcases hcs with hc | hc | hc
          · have c0 : (⟨l.toArray⟩ : ByteArray)[i].toNat = 32 := hb_eq hi (c := 32) hc
            clear hc
            go_wp2_with fail
            exact ⟨⟨i + 1, none, acc, by omega, by go_num, rfl, (fun a h => by cases h), by have := HAC.out; omega, by rw [← HA.out]; exact TR.out, HX.out⟩, by simp [intOf]; omega⟩
          · have c0 : (((⟨l.toArray⟩ : ByteArray)[i].toNat : Int) == 32) = false := hb_nei hi (c := 32) (by rw [hc]; decide)
            have c1 : (⟨l.toArray⟩ : ByteArray)[i].toNat = 9 := hb_eq hi (c := 9) hc
            clear hc
            go_wp2_with fail
            exact ⟨⟨i + 1, none, acc, by omega, by go_num, rfl, (fun a h => by cases h), by have := HAC.out; omega, by rw [← HA.out]; exact TR.out, HX.out⟩, by simp [intOf]; omega⟩
          · have c0 : (((⟨l.toArray⟩ : ByteArray)[i].toNat : Int) == 32) = false := hb_nei hi (c := 32) (by rw [hc]; decide)
            have c1 : (((⟨l.toArray⟩ : ByteArray)[i].toNat : Int) == 9) = false := hb_nei hi (c := 9) (by rw [hc]; decide)
            have c2 : (⟨l.toArray⟩ : ByteArray)[i].toNat = 13 := hb_eq hi (c := 13) hc
            clear hc
            go_wp2_with fail
            exact ⟨⟨i + 1, none, acc, by omega, by go_num, rfl, (fun a h => by cases h), by have := HAC.out; omega, by rw [← HA.out]; exact TR.out, HX.out⟩, by simp [intOf]; omega⟩
        | some a =>
          have HX : Hid (spB l l.length 0 none [] = spB l (l.length - (i + 1)) (i + 1) none (acc ++ [(a, i)])) := HSP.out.trans (HN.out.trans (by rw [if_pos hbk]))
          have hai := HST.out a rfl
          have a0 : (0 : Int) ≤ (a : Int) := Int.natCast_nonneg _
          have a1 : (a : Int) ≤ (i : Int) := by omega
          have HXT : Hid ((⟨l.toArray⟩ : ByteArray).extract a i = ⟨(cutL l (a, i)).toArray⟩) := by show _ = _; rw [ByteArray.extract_mk]; simp [cutL]
          have HAP : Hid ((acc ++ [(a, i)]).map (cutL l) = A ++ [cutL l (a, i)]) := by show _ = _; rw [HA.out]; simp
          simp only [atV]
          clear hbk HN
          rcases hcs with hc | hc | hc
          · have c0 : (⟨l.toArray⟩ : ByteArray)[i].toNat = 32 := hb_eq hi (c := 32) hc
            clear hc
            go_wp2_with (first | (at_builtin; have q := TR; (refine wpList_append_lies _ (by rfl) _ _ _ (by rfl) w.heap.size 9 i0 _ 1 16 strs_under hi0 hz0 hz1 hz2 rfl (by omega) _ A.length _ (by rfl) (TR.out.own.alloc _) ⟨wr.heap.size, 0, none⟩ 1 1 [.string ((⟨l.toArray⟩ : ByteArray).extract a i)] (by rfl) (by rfl) (World.news_of_block (cs := #[.string ((⟨l.toArray⟩ : ByteArray).extract a i)]) (t := 9) (fr := (0, 0)) (heap_alloc_at _ _ _ (by simp))) (by simp [Value.oneCell']) (by omega) (by unfold maxLen; first | omega | (simp; omega)) (by first | omega | (simp; omega)) (by have := TR.out.size; simp at this ⊢; omega) (wr.heap.size + 1) (by simp) ?_); intro g4 p4 x4 ho hg hat hl4; rw [HXT.out] at ho; have T4 : Hid (Wd w x4 _ (A ++ [cutL l (a, i)])) := TR.out.push hg ho; clear ho hg hat hl4 q TR))
            exact ⟨⟨i + 1, none, acc ++ [(a, i)], by omega, by go_num, rfl, (fun a h => by cases h), by have := HAC.out; simp; omega, by rw [HAP.out]; exact T4.out, HX.out⟩, by simp [intOf]; omega⟩
          · have c0 : (((⟨l.toArray⟩ : ByteArray)[i].toNat : Int) == 32) = false := hb_nei hi (c := 32) (by rw [hc]; decide)
            have c1 : (⟨l.toArray⟩ : ByteArray)[i].toNat = 9 := hb_eq hi (c := 9) hc
            clear hc
            go_wp2_with (first | (at_builtin; have q := TR; (refine wpList_append_lies _ (by rfl) _ _ _ (by rfl) w.heap.size 9 i0 _ 1 16 strs_under hi0 hz0 hz1 hz2 rfl (by omega) _ A.length _ (by rfl) (TR.out.own.alloc _) ⟨wr.heap.size, 0, none⟩ 1 1 [.string ((⟨l.toArray⟩ : ByteArray).extract a i)] (by rfl) (by rfl) (World.news_of_block (cs := #[.string ((⟨l.toArray⟩ : ByteArray).extract a i)]) (t := 9) (fr := (0, 0)) (heap_alloc_at _ _ _ (by simp))) (by simp [Value.oneCell']) (by omega) (by unfold maxLen; first | omega | (simp; omega)) (by first | omega | (simp; omega)) (by have := TR.out.size; simp at this ⊢; omega) (wr.heap.size + 1) (by simp) ?_); intro g4 p4 x4 ho hg hat hl4; rw [HXT.out] at ho; have T4 : Hid (Wd w x4 _ (A ++ [cutL l (a, i)])) := TR.out.push hg ho; clear ho hg hat hl4 q TR))
            exact ⟨⟨i + 1, none, acc ++ [(a, i)], by omega, by go_num, rfl, (fun a h => by cases h), by have := HAC.out; simp; omega, by rw [HAP.out]; exact T4.out, HX.out⟩, by simp [intOf]; omega⟩
          · have c0 : (((⟨l.toArray⟩ : ByteArray)[i].toNat : Int) == 32) = false := hb_nei hi (c := 32) (by rw [hc]; decide)
            have c1 : (((⟨l.toArray⟩ : ByteArray)[i].toNat : Int) == 9) = false := hb_nei hi (c := 9) (by rw [hc]; decide)
            have c2 : (⟨l.toArray⟩ : ByteArray)[i].toNat = 13 := hb_eq hi (c := 13) hc
            clear hc
            go_wp2_with (first | (at_builtin; have q := TR; (refine wpList_append_lies _ (by rfl) _ _ _ (by rfl) w.heap.size 9 i0 _ 1 16 strs_under hi0 hz0 hz1 hz2 rfl (by omega) _ A.length _ (by rfl) (TR.out.own.alloc _) ⟨wr.heap.size, 0, none⟩ 1 1 [.string ((⟨l.toArray⟩ : ByteArray).extract a i)] (by rfl) (by rfl) (World.news_of_block (cs := #[.string ((⟨l.toArray⟩ : ByteArray).extract a i)]) (t := 9) (fr := (0, 0)) (heap_alloc_at _ _ _ (by simp))) (by simp [Value.oneCell']) (by omega) (by unfold maxLen; first | omega | (simp; omega)) (by first | omega | (simp; omega)) (by have := TR.out.size; simp at this ⊢; omega) (wr.heap.size + 1) (by simp) ?_); intro g4 p4 x4 ho hg hat hl4; rw [HXT.out] at ho; have T4 : Hid (Wd w x4 _ (A ++ [cutL l (a, i)])) := TR.out.push hg ho; clear ho hg hat hl4 q TR))
            exact ⟨⟨i + 1, none, acc ++ [(a, i)], by omega, by go_num, rfl, (fun a h => by cases h), by have := HAC.out; simp; omega, by rw [HAP.out]; exact T4.out, HX.out⟩, by simp [intOf]; omega⟩
      · have hn1 : l.getD i 0 ≠ 32 := fun z => hbk (by rw [z]; rfl)
        have hn2 : l.getD i 0 ≠ 9 := fun z => hbk (by rw [z]; rfl)
        have hn3 : l.getD i 0 ≠ 13 := fun z => hbk (by rw [z]; rfl)
        have c0 : (((⟨l.toArray⟩ : ByteArray)[i].toNat : Int) == 32) = false := hb_nei hi hn1
        have c1 : (((⟨l.toArray⟩ : ByteArray)[i].toNat : Int) == 9) = false := hb_nei hi hn2
        have c2 : (((⟨l.toArray⟩ : ByteArray)[i].toNat : Int) == 13) = false := hb_nei hi hn3
        have HX : Hid (spB l l.length 0 none [] = spB l (l.length - (i + 1)) (i + 1) (some (st.getD i)) acc) := HSP.out.trans (HN.out.trans (by rw [if_neg hbk]))
        clear hn1 hn2 hn3 hbk HN
        cases st with
        | none =>
          simp only [atV]
          go_wp2_with fail
          exact ⟨⟨i + 1, some i, acc, by omega, by go_num, rfl, (fun a h => by cases h; omega), by have := HAC.out; omega, by rw [← HA.out]; exact TR.out, HX.out⟩, by simp [intOf]; omega⟩
        | some a =>
          have hai := HST.out a rfl
          have a0 : (0 : Int) ≤ (a : Int) := Int.natCast_nonneg _
          simp only [atV]
          go_wp2_with fail
          exact ⟨⟨i + 1, some a, acc, by omega, by go_num, rfl, (fun b h => by cases h; omega), by have := HAC.out; omega, by rw [← HA.out]; exact TR.out, HX.out⟩, by simp [intOf]; omega⟩
    · obtain rfl : i = l.length := by omega
      have HE : Hid (spB l l.length 0 none [] = (acc, st)) := HSP.out.trans (by rw [Nat.sub_self]; rfl)
      clear hi
      cases st with
      | none =>
        have HW : Hid (wordsL l = A) := by show _ = _; unfold wordsL; rw [HE.out, HA.out]; rfl
        simp only [atV]
        go_wp2_with fail
        go_ret
        rw [HW.out]
        exact ⟨_, rfl, TR.out.own, TR.out.below⟩
      | some a =>
        have hai := HST.out a rfl
        have a0 : (0 : Int) ≤ (a : Int) := Int.natCast_nonneg _
        have a1 : (a : Int) ≤ (l.length : Int) := by omega
        have HXT : Hid ((⟨l.toArray⟩ : ByteArray).extract a l.length = ⟨(cutL l (a, l.length)).toArray⟩) := by show _ = _; rw [ByteArray.extract_mk]; simp [cutL]
        have HW : Hid (wordsL l = A ++ [cutL l (a, l.length)]) := by show _ = _; unfold wordsL; rw [HE.out, HA.out]; simp [spW]
        simp only [atV]
        go_wp2_with (first | (at_builtin; have q := TR; (refine wpList_append_lies _ (by rfl) _ _ _ (by rfl) w.heap.size 9 i0 _ 1 16 strs_under hi0 hz0 hz1 hz2 rfl (by omega) _ A.length _ (by rfl) (TR.out.own.alloc _) ⟨wr.heap.size, 0, none⟩ 1 1 [.string ((⟨l.toArray⟩ : ByteArray).extract a l.length)] (by rfl) (by rfl) (World.news_of_block (cs := #[.string ((⟨l.toArray⟩ : ByteArray).extract a l.length)]) (t := 9) (fr := (0, 0)) (heap_alloc_at _ _ _ (by simp))) (by simp [Value.oneCell']) (by omega) (by unfold maxLen; first | omega | (simp; omega)) (by first | omega | (simp; omega)) (by have := TR.out.size; simp at this ⊢; omega) (wr.heap.size + 1) (by simp) ?_); intro g4 p4 x4 ho hg hat hl4; rw [HXT.out] at ho; have T4 : Hid (Wd w x4 _ (A ++ [cutL l (a, l.length)])) := TR.out.push hg ho; clear ho hg hat hl4 q TR))
        go_ret
        rw [HW.out]
        exact ⟨_, rfl, T4.out.own, T4.out.below⟩
end Go.Proofs.YtknlapipkglnjaaGreatDoor


/- Layer 28: wordsOf of the program. -/

import Derived.Test.YtknlapipkglnjaaGreatDoorHWds

import Derived.Test.YtknlapipkglnjaaGreatDoorHShelf2

import Derived.Test.YtknlapipkglnjaaGreatDoorHTl3

namespace Go.Proofs.YtknlapipkglnjaaGreatDoor

open Go.RowKit

attribute [local go_sem ↓] Go.wp_at_zero Go.wp_at_succ

set_option maxRecDepth 100000 in
theorem isBlank_any (x : Nat) (hx : x ≤ 1114111) (w : World) : Calls Tryz.prog 52 #[.int .i32 (x : Int)] w fun e w' => e = .returned (.bool (blkR x)) ∧ w' = w := by
  by_cases h1 : x = 32
  · subst h1
    go_enter Tryz.func52, Tryz.ntmps52
    go_wp2_with fail
    go_ret
    exact ⟨rfl, rfl⟩
  · by_cases h2 : x = 9
    · subst h2
      go_enter Tryz.func52, Tryz.ntmps52
      go_wp2_with fail
      go_ret
      exact ⟨rfl, rfl⟩
    · by_cases h3 : x = 13
      · subst h3
        go_enter Tryz.func52, Tryz.ntmps52
        go_wp2_with fail
        go_ret
        exact ⟨rfl, rfl⟩
      · have e1 : ((x : Int) == 32) = false := beq_eq_false_iff_ne.2 (by omega)
        have e2 : ((x : Int) == 9) = false := beq_eq_false_iff_ne.2 (by omega)
        have e3 : ((x : Int) == 13) = false := beq_eq_false_iff_ne.2 (by omega)
        have e4 : blkR x = false := by simp [blkR]; omega
        have H4 : Hid (blkR x = false) := e4
        clear h1 h2 h3 e4
        go_enter Tryz.func52, Tryz.ntmps52
        go_wp2_with fail
        go_ret
        rw [H4.out]
        exact ⟨rfl, rfl⟩
theorem wordsOf_any (l : List UInt8) (hl : l.length ≤ 4294967296) (w : World) :
    Calls Tryz.prog 26 #[.string ⟨l.toArray⟩] w fun e w' => ∃ v, e = .returned v ∧ w'.ownsRow w.heap.size 9 1 v (wordsL l).length (strC (wordsL l)) ∧ Below w.heap.size w w' := by
  have HF : Hid (Calls Tryz.prog 51 #[.string ⟨l.toArray⟩, .func (.func 52) #[] #[]] w fun e w' => ∃ v, e = .returned v ∧ w'.ownsRow w.heap.size 9 1 v (wordsL l).length (strC (wordsL l)) ∧ Below w.heap.size w w') := by
    have h := strings_FieldsFunc_grows 52 #[] (enters_of Tryz.func52 (by kernel_rfl) rfl) blkR ⟨l.toArray⟩ w (by simpa [ByteArray.size] using hl) (fun W x hx hb => (isBlank_any x hx W).mono fun e w' ⟨he, hw⟩ => ⟨he, hw ▸ Below.refl _ _⟩)
    rw [fields_words, List.length_map] at h
    refine h.mono ?_
    rintro e w' ⟨A, rfl, -, ho, hb⟩
    refine ⟨_, rfl, ?_, hb⟩
    rw [List.map_map] at ho
    exact ho
  clear hl
  go_enter Tryz.func26, Tryz.ntmps26
  go_wp2_with (first | (go_at_call 51; refine HF.out.mono ?_; rintro e w1 ⟨v1, rfl, ho1, hb1⟩; have O1 : Hid (World.ownsRow _ _ _ _ _ _ _) := ho1; have B1 : Hid (Below _ _ w1) := hb1; clear ho1 hb1))
  go_ret
  exact ⟨_, rfl, O1.out, B1.out⟩
end Go.Proofs.YtknlapipkglnjaaGreatDoor

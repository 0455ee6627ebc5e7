/- Layer 5: the reference's Events, where there is too much. -/
import Derived.Test.YtlciogcdpiomhaaETaken
namespace Go.Proofs.Ytlciogcdpiomhaa
open Go.RowKit
attribute [local go_sem ↓] Go.wp_at_zero Go.wp_at_succ

set_option maxRecDepth 100000 in
set_option maxHeartbeats 2000000 in
theorem rEvents_big (a1 : Option Addr) (c1 : Nat) (l : List CD) (w : World) (hlen : l.length ≤ maxLen) (hbig : 100000 < l.length) :
    Calls Try.prog 19 #[.slice a1 l.length c1] w fun e w' => e = .returned (.tuple #[.slice none 0 0, .int .i64 2]) ∧ Below w.heap.size w w' := by
  unfold maxLen at hlen
  have hb : (100000 : Int) < (l.length : Int) := by omega
  go_enter Try.func19, Try.ntmps19
  go_wp2_with fail
  go_ret2
  exact ⟨rfl, Below.refl _ _⟩

set_option maxRecDepth 100000 in
set_option maxHeartbeats 2000000 in
theorem rEvents_wide (a1 : Option Addr) (b1 o1 c1 : Nat) (l : List CD) (pb : Nat → Option Addr) (pc pg po : Nat → Nat) (w : World) (hx : CdsAt w a1 b1 o1 l pb pc pg po) (hsm : l.length ≤ 100000) (hwide : 100000 < cntN l l.length) :
    Calls Try.prog 19 #[.slice a1 l.length c1] w fun e w' => e = .returned (.tuple #[.slice none 0 0, .int .i64 3]) ∧ Below w.heap.size w w' := by
  have HX : Hid _ := hx
  clear hx
  have hb : (l.length : Int) ≤ 100000 := by omega
  go_enter Try.func19, Try.ntmps19
  go_wp2_with fail
  go_loopw [4, 5] (fun n i wr => ∃ j : Nat, j ≤ l.length ∧ i = .int .i64 j ∧ n = .int .i64 (cntN l j) ∧ Below w.heap.size w wr) (fun _ i _ => l.length - (intOf i).toNat)
  case atStart => exact ⟨0, Nat.zero_le _, rfl, rfl, Below.refl _ _⟩
  case round =>
    obtain ⟨j, hj, rfl, rfl, hbw⟩ := hrel
    have HW : Hid _ := hbw
    have hcn := cntN_le l j
    by_cases hlt : j < l.length
    · obtain rfl : a1 = some ⟨b1, o1, none⟩ := HX.out.base (by omega)
      have EX := HX.out.below hbw
      have zx : b1 < wr.heap.size := EX.lt (by omega)
      obtain ⟨d9, d10⟩ := EX.c2 j hlt
      have j0 : (0 : Int) ≤ (j : Int) := Int.natCast_nonneg _
      have j1 : (j : Int) < (l.length : Int) := by omega
      have HC : Hid (cntN l (j + 1) = cntN l j + 1 + (if (cdAt l j).to = -1 then 0 else 1)) := rfl
      clear EX hbw
      by_cases ht : (cdAt l j).to = -1
      · have hd : ((cdAt l j).to != -1) = false := by simp [ht]
        have HT : Hid _ := ht
        clear ht
        go_wp2_with fail
        refine ⟨⟨j + 1, by omega, by go_num, ?_, HW.out⟩, by simp [intOf]; omega⟩
        rw [HC.out, if_pos HT.out]
        congr 1
      · have hd : ((cdAt l j).to != -1) = true := by simp [ht]
        have HT : Hid ((cdAt l j).to = -1 → False) := ht
        clear ht
        go_wp2_with fail
        refine ⟨⟨j + 1, by omega, by go_num, ?_, HW.out⟩, by simp [intOf]; omega⟩
        rw [HC.out, if_neg HT.out]
        congr 1
    · obtain rfl : j = l.length := by omega
      have hw2 : (100000 : Int) < (cntN l l.length : Int) := by omega
      clear hbw
      go_wp2_with fail
      go_ret2
      exact ⟨rfl, HW.out⟩
end Go.Proofs.Ytlciogcdpiomhaa


/- Layer 28: the document's Number. -/

import Derived.Test.YtknlapipkglnjaaGreatDoorHPure

import Derived.Test.YtknlapipkglnjaaGreatDoorTMem

import Derived.Laws.IdiomStrings

import Derived.Deep.DrawnRows

namespace Go.Proofs.YtknlapipkglnjaaGreatDoor

open Go.RowKit

attribute [local go_sem ↓] Go.wp_at_zero Go.wp_at_succ

theorem bys_under : Tryz.prog.underlying 57 = some (.slice 5) := by kernel_rfl
theorem str_under : Tryz.prog.underlying 9 = some .string := by kernel_rfl
theorem cell_dig (w : World) (X : Nat) (hX : X < 10) (j : Nat) (hj : j < [UInt8.ofNat (48 + X)].length) : (w.alloc (.cells #[.int .u8 (48 + (X : Int))] 5)).cell? ((⟨w.heap.size, 0, none⟩ : Addr).add j) = some (.int .u8 ([UInt8.ofNat (48 + X)][j].toNat : Int)) := by
  obtain rfl : j = 0 := by simpa using hj
  have hb : (w.alloc (.cells #[.int .u8 (48 + (X : Int))] 5)).heap[w.heap.size]? = some (.cells #[.int .u8 (48 + (X : Int))] 5) := heap_alloc_at _ _ _ rfl
  have hd := dig_toNat X hX
  rw [addr_add']
  simp only [World.cell?, hb, List.getElem_cons_zero, hd]
  simp
theorem ba_app (a b : List UInt8) : (⟨a.toArray⟩ : ByteArray) ++ ⟨b.toArray⟩ = ⟨(a ++ b).toArray⟩ := by
  apply ByteArray.ext
  simp
set_option maxRecDepth 100000 in
set_option maxHeartbeats 4000000 in
theorem number_any (n : Int) (hn : In64 n) (w : World) :
    Calls Tryz.prog 23 #[.int .i64 n] w fun e w' => e = .returned (.string ⟨(Lib.itoa n).toArray⟩) ∧ Below w.heap.size w w' := by
  obtain ⟨n0, n1⟩ := hn
  have HN : Hid (In64 n) := ⟨n0, n1⟩
  by_cases h0 : n = 0
  · subst h0
    go_enter Tryz.func23, Tryz.ntmps23
    go_wp2_with fail
    go_ret
    have e : Lib.itoa 0 = [48] := by unfold Lib.itoa; rw [if_neg (by decide)]; exact dec0
    rw [e]
    exact ⟨rfl, Below.refl _ _⟩
  · have z0 : (n == 0) = false := by simp [h0]
    have HZ : Hid (n ≠ 0) := h0
    clear h0
    go_enter Tryz.func23, Tryz.ntmps23
    go_wp2_with fail
    go_loopw [3, 4] (fun vs vm wr => ∃ (m : Int) (V : List UInt8), vs = .string ⟨V.toArray⟩ ∧ vm = .int .i64 m ∧ Dg n m V ∧ Below w.heap.size w wr) (fun _ vm _ => (intOf vm).natAbs)
    case atStart => exact ⟨n, [], rfl, rfl, ⟨by rw [if_neg HZ.out]; simp, n0, n1, by simp⟩, Below.refl _ _⟩
    case round =>
      obtain ⟨m, V, rfl, rfl, hD, hT0⟩ := hrel
      rename World => wq
      have HD : Hid (Dg n m V) := hD
      have T0 : Hid (Below _ _ _) := hT0
      have m0 := hD.lo
      have m1 := hD.hi
      have ml := hD.len
      have hs0 := hT0.size
      clear hD hT0
      by_cases hm : m = 0
      · subst hm
        by_cases hneg : n < 0
        · have HK : Hid (45 :: V = Lib.itoa n) := by
            show 45 :: V = _
            have := HD.out.eq
            rw [if_pos rfl] at this
            unfold Lib.itoa
            rw [if_pos hneg, this]
            simp
          go_wp2_with fail
          go_ret
          rw [← HK.out]
          refine ⟨?_, T0.out⟩
          show Ending.returned (.string (⟨#[45]⟩ ++ ⟨V.toArray⟩)) = _
          rw [show (⟨#[45]⟩ : ByteArray) ++ ⟨V.toArray⟩ = ⟨(45 :: V).toArray⟩ from ba_app [45] V]
        · have HK : Hid (V = Lib.itoa n) := by
            show V = _
            have := HD.out.eq
            rw [if_pos rfl] at this
            unfold Lib.itoa
            rw [if_neg hneg, show n.toNat = n.natAbs by omega, this]
            simp
          have hge : (0 : Int) ≤ n := by omega
          clear hneg
          go_wp2_with fail
          go_ret
          rw [← HK.out]
          exact ⟨rfl, T0.out⟩
      · have z1 : (m == 0) = false := by simp [hm]
        have HM : Hid (m ≠ 0) := hm
        have hq0 : -9223372036854775808 ≤ m.tdiv 10 := by rw [tdiv_eq_if]; split <;> omega
        have hq1 : m.tdiv 10 ≤ 9223372036854775807 := by rw [tdiv_eq_if]; split <;> omega
        have HQ : Hid ((m.tdiv 10).natAbs < m.natAbs) := by show (m.tdiv 10).natAbs < m.natAbs; rw [tdiv_eq_if]; split <;> omega
        obtain ⟨X, x1, hX, hx | ⟨hx, hx2⟩⟩ := dig_cases m
        all_goals
          have HX : Hid (X = m.natAbs % 10) := hX
          have x0 : (0 : Int) ≤ (X : Int) := Int.natCast_nonneg _
          have x2 : (X : Int) < 10 := by omega
          have hcv := run_convert_bytes_back (P := Tryz.prog) (wq.alloc (.cells #[.int .u8 (48 + (X : Int))] 5)) 57 9 5 ⟨wq.heap.size, 0, none⟩ 1 [UInt8.ofNat (48 + X)] bys_under Tryz.underlying5 str_under (cell_dig wq X x1)
          rw [List.length_singleton] at hcv
          clear hX hm
          try (have x3 : -(X : Int) < 0 := by omega)
          go_wp2_with fail
          refine ⟨⟨m.tdiv 10, UInt8.ofNat (48 + X) :: V, by rw [show (48 : UInt8) + UInt8.ofNat X = UInt8.ofNat (48 + X) from (UInt8.ofNat_add 48 X).symm]; exact congrArg _ (ba_app [UInt8.ofNat (48 + X)] V), rfl, ?_, T0.out.alloc T0.out.size _⟩, ?_⟩
          · have := HD.out.step HN.out HM.out
            rw [← HX.out] at this
            exact this
          · show (m.tdiv 10).natAbs < m.natAbs
            exact HQ.out
end Go.Proofs.YtknlapipkglnjaaGreatDoor

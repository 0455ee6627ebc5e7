/- Layer 6: the reference's SameRets of equal lists. -/
import Derived.Test.YtjpfgfcggekklaaMQuiet
namespace Go.Proofs.Ytjpfgfcggekklaa
open Go.RowKit

theorem retEq_refl (r : RetD) : retEq r r = true := by simp [retEq, plEq]
set_option maxRecDepth 100000 in
set_option maxHeartbeats 1000000 in
theorem sameRets_any (ba bb : Option Addr) (ga oa ca gb ob cb : Nat) (rs : List RetD) (w : World) (ha : RetsAt w ba ga oa rs) (hb : RetsAt w bb gb ob rs) :
    Calls Try.prog 36 #[.slice ba rs.length ca, .slice bb rs.length cb] w fun e w' => e = .returned (.bool true) ∧ Below w.heap.size w w' := by
  have la := ha.len
  unfold maxLen at la
  have HA : Hid _ := ha
  have HB : Hid _ := hb
  clear ha hb
  have hd : ((rs.length : Int) != (rs.length : Int)) = false := by simp
  go_enter Try.func36, Try.ntmps36
  go_wp2_with fail
  go_loopw [5] (fun i wr => ∃ j : Nat, j ≤ rs.length ∧ i = .int .i64 j ∧ Below w.heap.size w wr) (fun i _ => rs.length - (intOf i).toNat)
  case atStart => exact ⟨0, Nat.zero_le _, rfl, Below.refl _ _⟩
  case round =>
    obtain ⟨j, hj, rfl, hbw⟩ := hrel
    have HW : Hid _ := hbw
    by_cases hlt : j < rs.length
    · obtain rfl : ba = some ⟨ga, oa, none⟩ := HA.out.base (by omega)
      obtain rfl : bb = some ⟨gb, ob, none⟩ := HB.out.base (by omega)
      have EX := HA.out.below hbw
      have EY := HB.out.below hbw
      have zx : ga < wr.heap.size := EX.lt (by omega)
      have zy : gb < wr.heap.size := EY.lt (by omega)
      obtain ⟨a1, g1, p1, c1, d0, d1, d2, d3, hp1⟩ := EX.cells j hlt
      obtain ⟨a2, g2, p2, c2, e0, e1, e2, e3, hp2⟩ := EY.cells j hlt
      have y0 := BelowBy.cell zx d0
      have y1 := BelowBy.cell zx d1
      have y2 := BelowBy.cell zx d2
      have y3 := BelowBy.cell zx d3
      have z0 := BelowBy.cell zy e0
      have z1 := BelowBy.cell zy e1
      have z2 := BelowBy.cell zy e2
      have z3 := BelowBy.cell zy e3
      have SE : Hid (∀ p : BelowBy wr, Calls Try.prog 30 #[.agg #[.bool (retAt rs j).ok, .int .i64 (retAt rs j).key, .int .i64 (retAt rs j).val, .slice a1 (retAt rs j).pairs.length c1], .agg #[.bool (retAt rs j).ok, .int .i64 (retAt rs j).key, .int .i64 (retAt rs j).val, .slice a2 (retAt rs j).pairs.length c2]] p.W fun e w' => e = .returned (.bool true) ∧ Below p.W.heap.size p.W w') := fun p => by
        have := sameRet_any a1 a2 g1 p1 c1 g2 p2 c2 (retAt rs j) (retAt rs j) p.W (hp1.below p.h) (hp2.below p.h)
        rw [retEq_refl] at this
        exact this
      have j0 : (0 : Int) ≤ (j : Int) := Int.natCast_nonneg _
      have j1 : (j : Int) < (rs.length : Int) := by omega
      clear EX EY hbw d0 d1 d2 d3 e0 e1 e2 e3 hp1 hp2
      go_wp2_with fail
      refine wp_region_below (by kernel_rfl) (by kernel_rfl) ?_
      repeat (go_big_quiet_step ((go_at_call 30; exact below_call (SE.out _))))
      refine wpQuiet_nil ?_
      rintro _ ⟨p, rfl⟩
      have PB : Hid (Below wr.heap.size wr p.W) := p.h
      clear y0 y1 y2 y3 z0 z1 z2 z3
      go_wp2_with fail
      exact ⟨⟨j + 1, by omega, by go_num, HW.out.trans (PB.out.mono HW.out.size)⟩, by simp [intOf]; omega⟩
    · clear hbw
      go_wp2_with fail
      go_ret
      exact ⟨rfl, HW.out⟩
end Go.Proofs.Ytjpfgfcggekklaa

/- Layer 6: the law's less. -/
import Derived.Test.YtjpfgfcggekklaaML2
import Derived.Test.YtjpfgfcggekklaaSBase
import Derived.Deep.RegionWith
namespace Go.Proofs.Ytjpfgfcggekklaa
open Go.RowKit

theorem setMany_out {g : Nat} : ∀ (vs : List Value) {W : World} {b k : Nat}, k < b → (setMany g W b vs).cell? ⟨g, k, none⟩ = W.cell? ⟨g, k, none⟩
  | [], _, _, _, _ => rfl
  | v :: t, W, b, k, h => by
    show (setMany g (W.setCell ⟨g, b, none⟩ v) (b + 1) t).cell? _ = _
    rw [setMany_out t (by omega), World.cell?_setCell_other _ _ _ _ (fun q => by have := congrArg Addr.off q; simp at this; omega)]
theorem setMany_in {g : Nat} : ∀ (vs : List Value) {W : World} {b : Nat}, (∀ k, k < vs.length → ∃ u, W.cell? ⟨g, b + k, none⟩ = some u) → ∀ i, i < vs.length → (setMany g W b vs).cell? ⟨g, b + i, none⟩ = vs[i]?
  | [], _, _, _, i, h => by simp at h
  | v :: t, W, b, hc, i, h => by
    show (setMany g (W.setCell ⟨g, b, none⟩ v) (b + 1) t).cell? _ = _
    cases i with
    | zero =>
      obtain ⟨u, hu⟩ := hc 0 (by simp)
      rw [Nat.add_zero] at hu; rw [setMany_out t (by omega), Nat.add_zero, World.cell?_setCell_same _ _ _ hu]; rfl
    | succ i =>
      have := setMany_in t (W := W.setCell ⟨g, b, none⟩ v) (b := b + 1) (fun k hk => by
        obtain ⟨u, hu⟩ := hc (k + 1) (by simpa using hk)
        refine ⟨u, ?_⟩
        rw [World.cell?_setCell_other _ _ _ _ (fun q => by have := congrArg Addr.off q; simp at this; omega), show b + 1 + k = b + (k + 1) by omega]
        exact hu) i (by simpa using h)
      rw [show b + (i + 1) = b + 1 + i by omega, this]; rfl
theorem setMany_ops {g B : Nat} {base : Option Addr} {b o : Nat} {l : List OpD} (hg : l.length ≠ 0 → b ≠ g) : ∀ (vs : List Value) {W : World} {k : Nat}, OpsAt W base b o l → OpsAt (setMany g W k vs) base b o l
  | [], _, _, h => h
  | v :: t, W, k, h => setMany_ops (B := B) hg t (by
    refine ⟨h.base, fun q => by simpa using h.lt q, fun i hi => ?_, h.len⟩
    have hn := hg (by omega)
    obtain ⟨c0, c1, c2, c3⟩ := h.cells i hi
    exact ⟨by rw [World.cell?_setCell_other _ _ _ _ (fun q => hn (congrArg Addr.block q).symm)]; exact c0, by rw [World.cell?_setCell_other _ _ _ _ (fun q => hn (congrArg Addr.block q).symm)]; exact c1, by rw [World.cell?_setCell_other _ _ _ _ (fun q => hn (congrArg Addr.block q).symm)]; exact c2, by rw [World.cell?_setCell_other _ _ _ _ (fun q => hn (congrArg Addr.block q).symm)]; exact c3⟩)


theorem ops_set {W : World} {g j : Nat} {u : Value} {base : Option Addr} {b o : Nat} {l : List OpD} (hg : l.length ≠ 0 → b ≠ g) (h : OpsAt W base b o l) : OpsAt (W.setCell ⟨g, j, none⟩ u) base b o l := by
  refine ⟨h.base, fun q => by simpa using h.lt q, fun i hi => ?_, h.len⟩
  have hn := hg (by omega)
  obtain ⟨c0, c1, c2, c3⟩ := h.cells i hi
  exact ⟨by rw [World.cell?_setCell_other _ _ _ _ (fun q => hn (congrArg Addr.block q).symm)]; exact c0, by rw [World.cell?_setCell_other _ _ _ _ (fun q => hn (congrArg Addr.block q).symm)]; exact c1, by rw [World.cell?_setCell_other _ _ _ _ (fun q => hn (congrArg Addr.block q).symm)]; exact c2, by rw [World.cell?_setCell_other _ _ _ _ (fun q => hn (congrArg Addr.block q).symm)]; exact c3⟩

set_option maxRecDepth 100000 in
set_option maxHeartbeats 4000000 in
theorem less_raw (ma na oa qa : Option Addr) (ml mc nl nc oc qc og oo qg qo : Nat) (Os Qs : List OpD) (op : OpD) (ro : Bool) (rk rv x y : Int) (ra : Option Addr) (rl rc : Nat) (w : World) (tm tn : Nat)
    (m2 : min (ml : Int) 300 = (tm : Int)) (n2 : min (nl : Int) 300 = (tn : Int)) (hmc : tm ≤ mc) (hnc : tn ≤ nc) (ho : OpsAt w oa og oo Os) (hon : NilOk oa Os.length oc) (hoc : Os.length ≤ oc) (hq : OpsAt w qa qg qo Qs) (hqn : NilOk qa Qs.length qc) (hqc : Qs.length ≤ qc) :
    Calls Try.prog 9 #[.agg #[.slice ma ml mc, .slice na nl nc, .slice oa Os.length oc, .slice qa Qs.length qc, .int .i64 op.kind, .int .i64 op.key, .int .i64 op.val, .int .i64 op.hi, .bool ro, .int .i64 rk, .int .i64 rv, (.slice ra rl rc), .int .i64 x, .int .i64 y]] w fun e w' => ∃ b1 c1 g1 b2 c2, e = .returned (.agg #[.slice ma tm mc, .slice na tn nc, .slice b1 (Os.take 300).length c1, .slice b2 (Qs.take 300).length c2, .int .i64 op.kind, .int .i64 op.key, .int .i64 op.val, .int .i64 op.hi, .bool ro, .int .i64 rk, .int .i64 rv, (.slice ra rl rc), .int .i64 x, .int .i64 y]) ∧ Below w.heap.size w w' ∧ OpsAt w' b1 g1 0 (Os.take 300) ∧ NilOk b1 (Os.take 300).length c1 ∧ (Os.take 300).length ≤ c1 ∧ ((Os.take 300).length ≠ 0 → w.heap.size ≤ g1) := by
  obtain ⟨WB, hWB⟩ : ∃ WB, WB = ((w.alloc (.cells #[.slice ma tm mc, .slice na tn nc, .slice oa Os.length oc, .slice qa Qs.length qc, .int .i64 op.kind, .int .i64 op.key, .int .i64 op.val, .int .i64 op.hi, .bool ro, .int .i64 rk, .int .i64 rv, (.slice ra rl rc), .int .i64 x, .int .i64 y] 29)).alloc (.cells #[.slice none 0 0, .slice none 0 0, .slice none 0 0, .slice none 0 0, .int .i64 0, .int .i64 0, .int .i64 0, .int .i64 0, .bool false, .int .i64 0, .int .i64 0, .slice none 0 0, .int .i64 0, .int .i64 0] 29)).drew := ⟨_, rfl⟩
  have zA : (w.alloc (.cells #[.slice ma tm mc, .slice na tn nc, .slice oa Os.length oc, .slice qa Qs.length qc, .int .i64 op.kind, .int .i64 op.key, .int .i64 op.val, .int .i64 op.hi, .bool ro, .int .i64 rk, .int .i64 rv, (.slice ra rl rc), .int .i64 x, .int .i64 y] 29)).heap.size = w.heap.size + 1 := by simp
  have zB : WB.heap.size = w.heap.size + 2 := by rw [hWB]; simp
  have BW : Hid (Below w.heap.size w WB) := by show Below w.heap.size w WB; rw [hWB]; exact ((below_alloc _ _).alloc (by simp) _).drew
  have CA : Hid (∀ w' : World, Below WB.heap.size WB w' → ∀ k, w'.cell? ⟨w.heap.size, k, none⟩ = (#[.slice ma tm mc, .slice na tn nc, .slice oa Os.length oc, .slice qa Qs.length qc, .int .i64 op.kind, .int .i64 op.key, .int .i64 op.val, .int .i64 op.hi, .bool ro, .int .i64 rk, .int .i64 rv, (.slice ra rl rc), .int .i64 x, .int .i64 y] : Array Value)[k]?) := by
    intro w' hb k
    rw [hb.cell (p := ⟨w.heap.size, k, none⟩) (show w.heap.size < _ by omega), hWB]
    show ((w.alloc _).alloc _).cell? _ = _
    rw [(below_alloc _ _).cell (p := ⟨w.heap.size, k, none⟩) (show w.heap.size < _ by simp)]
    exact cell_new w _ _ k
  have CZ : Hid (∀ w' : World, Below WB.heap.size WB w' → ∀ k, w'.cell? ⟨w.heap.size + 1, k, none⟩ = (#[.slice none 0 0, .slice none 0 0, .slice none 0 0, .slice none 0 0, .int .i64 0, .int .i64 0, .int .i64 0, .int .i64 0, .bool false, .int .i64 0, .int .i64 0, .slice none 0 0, .int .i64 0, .int .i64 0] : Array Value)[k]?) := by
    intro w' hb k
    rw [hb.cell (p := ⟨w.heap.size + 1, k, none⟩) (show w.heap.size + 1 < _ by omega), hWB]
    show ((w.alloc _).alloc _).cell? _ = _
    rw [← zA]
    exact cell_new _ _ _ k
  have FA : Hid (∀ w' : World, Below WB.heap.size WB w' → ∀ k, w'.frozen? ⟨w.heap.size, k, none⟩ = false ∧ w'.frozen? ⟨w.heap.size + 1, k, none⟩ = false) := by
    intro w' hb k
    rw [hb.frozen (p := ⟨w.heap.size, k, none⟩) (show w.heap.size < _ by omega), hb.frozen (p := ⟨w.heap.size + 1, k, none⟩) (show w.heap.size + 1 < _ by omega), hWB]
    refine ⟨?_, ?_⟩
    · show ((w.alloc _).alloc _).frozen? _ = _
      rw [(below_alloc _ _).frozen (p := ⟨w.heap.size, k, none⟩) (show w.heap.size < _ by simp)]
      exact frozen_new w _ _ k
    · show ((w.alloc _).alloc _).frozen? _ = _
      rw [← zA]
      exact frozen_new _ _ _ k
  have HO : Hid (OpsAt _ _ _ _ _) := ho
  have HQ : Hid (OpsAt _ _ _ _ _) := hq
  obtain ⟨T1, hT1⟩ : ∃ T1, Os.take 300 = T1 := ⟨_, rfl⟩
  obtain ⟨T2, hT2⟩ : ∃ T2, Qs.take 300 = T2 := ⟨_, rfl⟩
  rw [hT1, hT2]
  have F1 : Hid (∀ W, OpsAt W oa og oo Os → Calls Try.prog 34 #[.slice oa Os.length oc] W fun e w' => ∃ base cap g, e = .returned (.slice base T1.length cap) ∧ Below W.heap.size W w' ∧ OpsAt w' base g 0 T1 ∧ NilOk base T1.length cap ∧ T1.length ≤ cap ∧ (T1.length ≠ 0 → W.heap.size ≤ g)) := fun W hW => by rw [← hT1]; exact few_any oa og oo oc Os W hW hon hoc
  have F2 : Hid (∀ W, OpsAt W qa qg qo Qs → Calls Try.prog 34 #[.slice qa Qs.length qc] W fun e w' => ∃ base cap g, e = .returned (.slice base T2.length cap) ∧ Below W.heap.size W w' ∧ OpsAt w' base g 0 T2 ∧ NilOk base T2.length cap ∧ T2.length ≤ cap ∧ (T2.length ≠ 0 → W.heap.size ≤ g)) := fun W hW => by rw [← hT2]; exact few_any qa qg qo qc Qs W hW hqn hqc
  clear ho hq hon hoc hqn hqc hT1 hT2 zA
  have zB1 : w.heap.size + 1 < WB.heap.size := by omega
  have zB2 : WB.heap.size ≤ w.heap.size + 2 := by omega
  clear zB
  have c1' : (tm : Int) ≤ (mc : Int) := by omega
  have c2' : (tn : Int) ≤ (nc : Int) := by omega
  have c3' : (0 : Int) ≤ (tm : Int) := Int.natCast_nonneg _
  have c4' : (0 : Int) ≤ (tn : Int) := Int.natCast_nonneg _
  go_enter Try.func9, Try.ntmps9
  go_wp2_with fail
  go_region
  go_wp2_with fail
  rw [← hWB]
  clear hWB
  have BD : Hid (Below WB.heap.size WB WB.drew) := (Below.refl _ _).drew
  have k2 : WB.cell? ⟨w.heap.size, 2, none⟩ = some (.slice oa Os.length oc) := CA.out WB (Below.refl _ _) 2
  have k3 : WB.cell? ⟨w.heap.size, 3, none⟩ = some (.slice qa Qs.length qc) := CA.out WB (Below.refl _ _) 3
  go_region_with
    (first
      | (have HX2 := HB2; go_at_call 34; clear HX2; refine (F2.out w2 (HQ.out.below (BW.out.trans (HB2.out.mono (by omega))))).mono ?_; rintro e w3 ⟨b2, c2, g2, rfl, hb3, hp3, hn3, hc3, _⟩; have HB3 : Hid (Below WB.heap.size WB w3) := HB2.out.trans (hb3.mono HB2.out.size); have X3 : Hid (w3.cell? ⟨w.heap.size, 2, none⟩ = some (.slice oa Os.length oc) ∧ w3.cell? ⟨w.heap.size, 3, none⟩ = some (.slice qa Qs.length qc)) := ⟨CA.out _ HB3.out 2, CA.out _ HB3.out 3⟩; have HP3 : Hid (OpsAt w3 b1 g1 0 T1) := HP2.out.below hb3; obtain ⟨y2, y3⟩ := X3.out; have f2 := ((FA.out _ HB3.out) 2).1; have f3 := ((FA.out _ HB3.out) 3).1; have zz3 := HB3.out.size; clear hb3 hp3 hn3 hc3)
      | (go_at_call 34; refine (F1.out WB.drew (HO.out.below (BW.out.trans (BD.out.mono (by omega))))).mono ?_; rintro e w2 ⟨b1, c1, g1, rfl, hb2, hp2, hn2, hc2, hge2⟩; have HB2 : Hid (Below WB.heap.size WB w2) := BD.out.trans hb2; have X2 : Hid (w2.cell? ⟨w.heap.size, 2, none⟩ = some (.slice oa Os.length oc) ∧ w2.cell? ⟨w.heap.size, 3, none⟩ = some (.slice qa Qs.length qc)) := ⟨CA.out _ HB2.out 2, CA.out _ HB2.out 3⟩; have HP2 : Hid (OpsAt _ _ _ _ _) := hp2; have HN2 : Hid (NilOk b1 T1.length c1 ∧ T1.length ≤ c1) := ⟨hn2, hc2⟩; obtain ⟨x2, x3⟩ := X2.out; have HGE : Hid (T1.length ≠ 0 → WB.heap.size ≤ g1) := hge2; clear hb2 hp2 hn2 hc2 hge2))
  all_goals
    have p0 : w3.cell? ⟨w.heap.size, 0, none⟩ = some (.slice ma tm mc) := CA.out _ HB3.out 0
    have r0 : w3.cell? ⟨w.heap.size + 1, 0, none⟩ = some (.slice none 0 0) := CZ.out _ HB3.out 0
    have fr0 : w3.frozen? ⟨w.heap.size + 1, 0, none⟩ = false := ((FA.out _ HB3.out) 0).2
    have p1 : w3.cell? ⟨w.heap.size, 1, none⟩ = some (.slice na tn nc) := CA.out _ HB3.out 1
    have r1 : w3.cell? ⟨w.heap.size + 1, 1, none⟩ = some (.slice none 0 0) := CZ.out _ HB3.out 1
    have fr1 : w3.frozen? ⟨w.heap.size + 1, 1, none⟩ = false := ((FA.out _ HB3.out) 1).2
    have p2 : w3.cell? ⟨w.heap.size, 2, none⟩ = some (.slice oa Os.length oc) := CA.out _ HB3.out 2
    have r2 : w3.cell? ⟨w.heap.size + 1, 2, none⟩ = some (.slice none 0 0) := CZ.out _ HB3.out 2
    have fr2 : w3.frozen? ⟨w.heap.size + 1, 2, none⟩ = false := ((FA.out _ HB3.out) 2).2
    have p3 : w3.cell? ⟨w.heap.size, 3, none⟩ = some (.slice qa Qs.length qc) := CA.out _ HB3.out 3
    have r3 : w3.cell? ⟨w.heap.size + 1, 3, none⟩ = some (.slice none 0 0) := CZ.out _ HB3.out 3
    have fr3 : w3.frozen? ⟨w.heap.size + 1, 3, none⟩ = false := ((FA.out _ HB3.out) 3).2
    have p4 : w3.cell? ⟨w.heap.size, 4, none⟩ = some (.int .i64 op.kind) := CA.out _ HB3.out 4
    have r4 : w3.cell? ⟨w.heap.size + 1, 4, none⟩ = some (.int .i64 0) := CZ.out _ HB3.out 4
    have fr4 : w3.frozen? ⟨w.heap.size + 1, 4, none⟩ = false := ((FA.out _ HB3.out) 4).2
    have p5 : w3.cell? ⟨w.heap.size, 5, none⟩ = some (.int .i64 op.key) := CA.out _ HB3.out 5
    have r5 : w3.cell? ⟨w.heap.size + 1, 5, none⟩ = some (.int .i64 0) := CZ.out _ HB3.out 5
    have fr5 : w3.frozen? ⟨w.heap.size + 1, 5, none⟩ = false := ((FA.out _ HB3.out) 5).2
    have p6 : w3.cell? ⟨w.heap.size, 6, none⟩ = some (.int .i64 op.val) := CA.out _ HB3.out 6
    have r6 : w3.cell? ⟨w.heap.size + 1, 6, none⟩ = some (.int .i64 0) := CZ.out _ HB3.out 6
    have fr6 : w3.frozen? ⟨w.heap.size + 1, 6, none⟩ = false := ((FA.out _ HB3.out) 6).2
    have p7 : w3.cell? ⟨w.heap.size, 7, none⟩ = some (.int .i64 op.hi) := CA.out _ HB3.out 7
    have r7 : w3.cell? ⟨w.heap.size + 1, 7, none⟩ = some (.int .i64 0) := CZ.out _ HB3.out 7
    have fr7 : w3.frozen? ⟨w.heap.size + 1, 7, none⟩ = false := ((FA.out _ HB3.out) 7).2
    have p8 : w3.cell? ⟨w.heap.size, 8, none⟩ = some (.bool ro) := CA.out _ HB3.out 8
    have r8 : w3.cell? ⟨w.heap.size + 1, 8, none⟩ = some (.bool false) := CZ.out _ HB3.out 8
    have fr8 : w3.frozen? ⟨w.heap.size + 1, 8, none⟩ = false := ((FA.out _ HB3.out) 8).2
    have p9 : w3.cell? ⟨w.heap.size, 9, none⟩ = some (.int .i64 rk) := CA.out _ HB3.out 9
    have r9 : w3.cell? ⟨w.heap.size + 1, 9, none⟩ = some (.int .i64 0) := CZ.out _ HB3.out 9
    have fr9 : w3.frozen? ⟨w.heap.size + 1, 9, none⟩ = false := ((FA.out _ HB3.out) 9).2
    have p10 : w3.cell? ⟨w.heap.size, 10, none⟩ = some (.int .i64 rv) := CA.out _ HB3.out 10
    have r10 : w3.cell? ⟨w.heap.size + 1, 10, none⟩ = some (.int .i64 0) := CZ.out _ HB3.out 10
    have fr10 : w3.frozen? ⟨w.heap.size + 1, 10, none⟩ = false := ((FA.out _ HB3.out) 10).2
    have p11 : w3.cell? ⟨w.heap.size, 11, none⟩ = some (.slice ra rl rc) := CA.out _ HB3.out 11
    have r11 : w3.cell? ⟨w.heap.size + 1, 11, none⟩ = some (.slice none 0 0) := CZ.out _ HB3.out 11
    have fr11 : w3.frozen? ⟨w.heap.size + 1, 11, none⟩ = false := ((FA.out _ HB3.out) 11).2
    have p12 : w3.cell? ⟨w.heap.size, 12, none⟩ = some (.int .i64 x) := CA.out _ HB3.out 12
    have r12 : w3.cell? ⟨w.heap.size + 1, 12, none⟩ = some (.int .i64 0) := CZ.out _ HB3.out 12
    have fr12 : w3.frozen? ⟨w.heap.size + 1, 12, none⟩ = false := ((FA.out _ HB3.out) 12).2
    have p13 : w3.cell? ⟨w.heap.size, 13, none⟩ = some (.int .i64 y) := CA.out _ HB3.out 13
    have r13 : w3.cell? ⟨w.heap.size + 1, 13, none⟩ = some (.int .i64 0) := CZ.out _ HB3.out 13
    have fr13 : w3.frozen? ⟨w.heap.size + 1, 13, none⟩ = false := ((FA.out _ HB3.out) 13).2
    have zw3 : w.heap.size + 1 < w3.heap.size := by omega
    have FIN : Hid ((∀ k, k < 14 → (setMany (w.heap.size + 1) ((w3.setCell ⟨w.heap.size, 2, none⟩ (.slice b1 T1.length c1)).setCell ⟨w.heap.size, 3, none⟩ (.slice b2 T2.length c2)) 0 [.slice ma tm mc, .slice na tn nc, .slice b1 T1.length c1, .slice b2 T2.length c2, .int .i64 op.kind, .int .i64 op.key, .int .i64 op.val, .int .i64 op.hi, .bool ro, .int .i64 rk, .int .i64 rv, (.slice ra rl rc), .int .i64 x, .int .i64 y]).cell? ⟨w.heap.size + 1, 0 + k, none⟩ = ([.slice ma tm mc, .slice na tn nc, .slice b1 T1.length c1, .slice b2 T2.length c2, .int .i64 op.kind, .int .i64 op.key, .int .i64 op.val, .int .i64 op.hi, .bool ro, .int .i64 rk, .int .i64 rv, (.slice ra rl rc), .int .i64 x, .int .i64 y] : List Value)[k]?) ∧ Below w.heap.size w (setMany (w.heap.size + 1) ((w3.setCell ⟨w.heap.size, 2, none⟩ (.slice b1 T1.length c1)).setCell ⟨w.heap.size, 3, none⟩ (.slice b2 T2.length c2)) 0 [.slice ma tm mc, .slice na tn nc, .slice b1 T1.length c1, .slice b2 T2.length c2, .int .i64 op.kind, .int .i64 op.key, .int .i64 op.val, .int .i64 op.hi, .bool ro, .int .i64 rk, .int .i64 rv, (.slice ra rl rc), .int .i64 x, .int .i64 y]) ∧ OpsAt (setMany (w.heap.size + 1) ((w3.setCell ⟨w.heap.size, 2, none⟩ (.slice b1 T1.length c1)).setCell ⟨w.heap.size, 3, none⟩ (.slice b2 T2.length c2)) 0 [.slice ma tm mc, .slice na tn nc, .slice b1 T1.length c1, .slice b2 T2.length c2, .int .i64 op.kind, .int .i64 op.key, .int .i64 op.val, .int .i64 op.hi, .bool ro, .int .i64 rk, .int .i64 rv, (.slice ra rl rc), .int .i64 x, .int .i64 y]) b1 g1 0 T1) := by
      refine ⟨fun k hk => setMany_in _ (fun j hj => ?_) k hk, setMany_below (by omega) _ (((BW.out.trans (HB3.out.mono (by omega))).setCell (show w.heap.size ≤ w.heap.size by omega) _).setCell (show w.heap.size ≤ w.heap.size by omega) _), ?_⟩
      · rw [World.cell?_setCell_other _ _ _ _ (fun q => absurd (congrArg Addr.block q) (by simp)), World.cell?_setCell_other _ _ _ _ (fun q => absurd (congrArg Addr.block q) (by simp)), CZ.out _ HB3.out]
        exact ⟨_, Array.getElem?_eq_getElem (by simpa using hj)⟩
      · have q3 := HGE.out
        have e1 := ops_set (g := w.heap.size) (j := 2) (u := .slice b1 T1.length c1) (fun q => by have := q3 q; omega) HP3.out
        have e2 := ops_set (g := w.heap.size) (j := 3) (u := .slice b2 T2.length c2) (fun q => by have := q3 q; omega) e1
        exact setMany_ops (B := 0) (fun q => by have := q3 q; omega) _ e2
    clear X3 X2 x2 x3 y2 y3
    go_wp2_with fail
    obtain ⟨hq, hbf, hops⟩ := FIN.out
    simp only [setMany, Nat.zero_add, Nat.reduceAdd] at hq hbf hops
    have q0 := hq 0 (by omega)
    have q1 := hq 1 (by omega)
    have q2 := hq 2 (by omega)
    have q3 := hq 3 (by omega)
    have q4 := hq 4 (by omega)
    have q5 := hq 5 (by omega)
    have q6 := hq 6 (by omega)
    have q7 := hq 7 (by omega)
    have q8 := hq 8 (by omega)
    have q9 := hq 9 (by omega)
    have q10 := hq 10 (by omega)
    have q11 := hq 11 (by omega)
    have q12 := hq 12 (by omega)
    have q13 := hq 13 (by omega)
    refine bodyPost_ret (v := .agg #[.slice ma tm mc, .slice na tn nc, .slice b1 T1.length c1, .slice b2 T2.length c2, .int .i64 op.kind, .int .i64 op.key, .int .i64 op.val, .int .i64 op.hi, .bool ro, .int .i64 rk, .int .i64 rv, .slice ra rl rc, .int .i64 x, .int .i64 y]) (by simp [results, Try.results9, go_sem, q0, q1, q2, q3, q4, q5, q6, q7, q8, q9, q10, q11, q12, q13]) rfl ⟨b1, c1, g1, b2, c2, rfl, hbf, hops, HN2.out.1, HN2.out.2, fun q => by have := HGE.out q; omega⟩
end Go.Proofs.Ytjpfgfcggekklaa

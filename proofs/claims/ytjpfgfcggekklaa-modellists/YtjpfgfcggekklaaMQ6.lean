/- Layer 6: the law ModelLists. -/
import Derived.Test.YtjpfgfcggekklaaML4
import Derived.Test.YtjpfgfcggekklaaMQ4
import Derived.Test.YtjpfgfcggekklaaMOf
import Derived.Test.YtjpfgfcggekklaaMP2
import Derived.Deep.DeepCutAuto
namespace Go.Proofs.Ytjpfgfcggekklaa
open Go.RowKit

/-- A list of ints that lies in memory. -/
structure IntsAt (w : World) (a : Option Addr) (g : Nat) (l : List Int) : Prop where
  base : l.length ≠ 0 → a = some ⟨g, 0, none⟩
  lt : l.length ≠ 0 → g < w.heap.size
  cells : ∀ j, j < l.length → w.cell? ⟨g, j, none⟩ = some (.int .i64 (l.getD j 0))
theorem IntsAt.below {w w' : World} {a : Option Addr} {g : Nat} {l : List Int} (h : IntsAt w a g l) (hb : Below w.heap.size w w') : IntsAt w' a g l :=
  ⟨h.base, fun q => Nat.lt_of_lt_of_le (h.lt q) hb.size, fun j hj => (hb.cell (p := ⟨g, j, none⟩) (h.lt (by omega))).trans (h.cells j hj)⟩
theorem ints_of_owns {w : World} {B : Nat} {e : TypeId} {v : Value} {l : List Int} (h : w.ownsRow B e 1 v l.length (intsC l)) : ∃ a k g, v = .slice a l.length k ∧ IntsAt w a g l := by
  obtain ⟨_, h⟩ := h
  rcases h with ⟨rfl, h0⟩ | ⟨g, cap, cur, rfl, hg, hh, h1, h2, h3, h4⟩
  · exact ⟨none, 0, 0, by rw [h0], fun h => absurd h0 h, fun h => absurd h0 h, fun i hi => by omega⟩
  · refine ⟨_, _, g, rfl, fun _ => rfl, fun _ => (Array.getElem?_eq_some_iff.1 hh).1, fun j hj => ?_⟩
    have hc : w.cell? ⟨g, j, none⟩ = (intsC l)[j]? := by
      rw [← h4, List.getElem?_take, if_pos (by omega)]
      simp [World.cell?, hh]
    rw [hc]
    simp [intsC, List.getD_eq_getElem?_getD, hj]
theorem op_neq_self (a b c d : Int) (w : World) : (binOp .neq 25 (.agg #[.int .i64 a, .int .i64 b, .int .i64 c, .int .i64 d]) (.agg #[.int .i64 a, .int .i64 b, .int .i64 c, .int .i64 d])).run Try.prog w = .ok (.bool false) w := by
  have u3 := Try.underlying3
  have a3 := Try.isAgg3
  have z3 := Try.sizeOf3
  have hS : Try.prog.underlying 25 = some (.struct (Try.prog.fieldsOf 25)) := by kernel_rfl
  have hp : Try.prog.stoodInHeld 25 = false := by kernel_rfl
  rw [run_neq_struct, show (10000 : Nat) = 9999 + 1 from rfl, run_equalIn_agg w 9999 25 _ _ hS hp]
  simp only [Program.fieldsOf, Try.underlying25]
  go_simp

set_option maxRecDepth 100000 in
set_option maxHeartbeats 1600000 in
theorem lists_any (ma na oa qa ra : Option Addr) (ml mc nl nc oc qc og oo qg qo mg mo ng no rg ro rc : Nat) (ms ns : PL) (Os Qs : List OpD) (op : OpD) (rt : RetD) (x y : Int) (w : World)
    (m2 : min (ml : Int) 300 = (ms.length : Int)) (n2 : min (nl : Int) 300 = (ns.length : Int)) (hmc : ms.length ≤ mc) (hnc : ns.length ≤ nc) (hms : ms.length ≤ 300) (hns : ns.length ≤ 300) (hm : PairsAt w ma mg mo ms) (hmn : NilOk ma ms.length mc) (hn : PairsAt w na ng no ns) (hnn : NilOk na ns.length nc)
    (ho : OpsAt w oa og oo Os) (hon : NilOk oa Os.length oc) (hoc : Os.length ≤ oc) (hq : OpsAt w qa qg qo Qs) (hqn : NilOk qa Qs.length qc) (hqc : Qs.length ≤ qc) (hr : PairsAt w ra rg ro rt.pairs) :
    Calls Try.prog 3 #[.agg #[.slice ma ml mc, .slice na nl nc, .slice oa Os.length oc, .slice qa Qs.length qc, .int .i64 op.kind, .int .i64 op.key, .int .i64 op.val, .int .i64 op.hi, .bool rt.ok, .int .i64 rt.key, .int .i64 rt.val, .slice ra rt.pairs.length rc, .int .i64 x, .int .i64 y]] w fun e w' => e = .returned (.bool true) ∧ Below w.heap.size w w' := by
  have HM : Hid (PairsAt w ma mg mo ms) := hm
  have HN : Hid (PairsAt w na ng no ns) := hn
  have HR : Hid (PairsAt w ra rg ro rt.pairs) := hr
  obtain ⟨ol, hol⟩ : ∃ ol, (Os.take 300).length = ol := ⟨_, rfl⟩
  obtain ⟨ql, hql⟩ : ∃ ql, (Qs.take 300).length = ql := ⟨_, rfl⟩
  have LESS : Hid (∀ W, OpsAt W oa og oo Os → OpsAt W qa qg qo Qs → Calls Try.prog 9 #[.agg #[.slice ma ml mc, .slice na nl nc, .slice oa Os.length oc, .slice qa Qs.length qc, .int .i64 op.kind, .int .i64 op.key, .int .i64 op.val, .int .i64 op.hi, .bool rt.ok, .int .i64 rt.key, .int .i64 rt.val, .slice ra rt.pairs.length rc, .int .i64 x, .int .i64 y]] W fun e w' => ∃ b1 c1 b2 c2, e = .returned (.agg #[.slice ma ms.length mc, .slice na ns.length nc, .slice b1 ol c1, .slice b2 ql c2, .int .i64 op.kind, .int .i64 op.key, .int .i64 op.val, .int .i64 op.hi, .bool rt.ok, .int .i64 rt.key, .int .i64 rt.val, .slice ra rt.pairs.length rc, .int .i64 x, .int .i64 y]) ∧ Below W.heap.size W w') := fun W h1 h2 => by
    have := less_raw ma na oa qa ml mc nl nc oc qc og oo qg qo Os Qs op rt.ok rt.key rt.val x y ra rt.pairs.length rc W ms.length ns.length m2 n2 hmc hnc h1 hon hoc h2 hqn hqc
    rw [hol, hql] at this
    refine this.mono ?_
    rintro e w' ⟨b1, c1, g1, b2, c2, e1, h5, _⟩
    exact ⟨b1, c1, b2, c2, e1, h5⟩
  have HO : Hid (OpsAt w oa og oo Os) := ho
  have HQ : Hid (OpsAt w qa qg qo Qs) := hq
  have y3 : ms.length * 16 ≤ 140737488355328 := Nat.le_trans (Nat.mul_le_mul_right 16 hms) (by decide)
  have y4 : ns.length * 16 ≤ 140737488355328 := Nat.le_trans (Nat.mul_le_mul_right 16 hns) (by decide)
  have COPM : Hid (∀ W, PairsAt W ma mg mo ms → CopQ ma mc ms W) := fun W hW => copied_any ma mg mo mc ms W hW hmn y3
  have COPN : Hid (∀ W, PairsAt W na ng no ns → CopQ na nc ns W) := fun W hW => copied_any na ng no nc ns W hW hnn y4
  unfold CopQ at COPM COPN
  obtain ⟨CE, hCE⟩ : ∃ z, ckErr ms = z := ⟨_, rfl⟩
  obtain ⟨KE, hKE⟩ : ∃ z, kdErr op.kind = z := ⟨_, rfl⟩
  obtain ⟨pd, hpd⟩ : ∃ z, plainD op = z := ⟨_, rfl⟩
  obtain ⟨cb, hcb⟩ : ∃ z, chB op.kind = z := ⟨_, rfl⟩
  obtain ⟨om, hom⟩ : ∃ z, ofL ms = z := ⟨_, rfl⟩
  obtain ⟨fn, hfn⟩ : ∃ z, findN ms x = z := ⟨_, rfl⟩
  obtain ⟨fb, hfb⟩ : ∃ z, findB ms x = z := ⟨_, rfl⟩
  obtain ⟨pt, hpt⟩ : ∃ z, partL ms x y = z := ⟨_, rfl⟩
  obtain ⟨de, hde⟩ : ∃ z, dfErr ms ns = z := ⟨_, rfl⟩
  obtain ⟨dl, hdl⟩ : ∃ z, dfL ms ns = z := ⟨_, rfl⟩
  obtain ⟨pb, hpb⟩ : ∃ z, plEq ms ns = z := ⟨_, rfl⟩
  obtain ⟨rb, hrb⟩ : ∃ z, retEq rt ⟨rt.ok, rt.key, rt.val, ns⟩ = z := ⟨_, rfl⟩
  have oml : om.length ≤ 300 := by rw [← hom]; exact Nat.le_trans (ofN_length _ _) hms
  have ptl : pt.length ≤ 300 := by rw [← hpt]; unfold partL; split; (simp); (exact Nat.le_trans (List.length_filter_le _ _) hms)
  have CK : Hid (∀ W base g cap, PairsAt W base g 0 ms → Calls Try.prog 10 #[.slice base ms.length cap] W fun e w' => e = .returned (.int .i64 CE) ∧ Below W.heap.size W w') := fun W base g cap h => by
    have := pcheck_any base g 0 cap ms W h
    rw [hCE] at this; exact this
  have RCK : Hid (∀ W, PairsAt W ma mg mo ms → Calls Try.prog 12 #[.slice ma ms.length mc] W fun e w' => e = .returned (.int .i64 CE) ∧ Below W.heap.size W w') := fun W h => by
    have := rcheck_any ma mg mo mc ms W h
    rw [hCE] at this; exact this
  have KD : Hid (∀ W, Calls Try.prog 13 #[.int .i64 op.kind] W fun e w' => e = .returned (.int .i64 KE) ∧ W = w') := fun W => by
    have := pkind_any op.kind W
    rw [hKE] at this; exact this
  have RKD : Hid (∀ W, Calls Try.prog 14 #[.int .i64 op.kind] W fun e w' => e = .returned (.int .i64 KE) ∧ W = w') := fun W => by
    have := rkind_any op.kind W
    rw [hKE] at this; exact this
  have PLN : Hid (∀ W, Calls Try.prog 15 #[.agg #[.int .i64 op.kind, .int .i64 op.key, .int .i64 op.val, .int .i64 op.hi]] W fun e w' => e = .returned (.agg #[.int .i64 pd.kind, .int .i64 pd.key, .int .i64 pd.val, .int .i64 pd.hi]) ∧ Below W.heap.size W w') := fun W => by
    have := pPlain_any op W
    rw [hpd] at this; exact this
  have RPL : Hid (∀ W, Calls Try.prog 16 #[.agg #[.int .i64 op.kind, .int .i64 op.key, .int .i64 op.val, .int .i64 op.hi]] W fun e w' => e = .returned (.agg #[.int .i64 pd.kind, .int .i64 pd.key, .int .i64 pd.val, .int .i64 pd.hi]) ∧ Below W.heap.size W w') := fun W => by
    have := rPlain_any op W
    rw [hpd] at this; exact this
  have CH : Hid (∀ W, Calls Try.prog 17 #[.int .i64 op.kind] W fun e w' => e = .returned (.bool cb) ∧ W = w') := fun W => by
    have := pChanges_any op.kind W
    rw [hcb] at this; exact this
  have RCH : Hid (∀ W, Calls Try.prog 18 #[.int .i64 op.kind] W fun e w' => e = .returned (.bool cb) ∧ W = w') := fun W => by
    have := rChanges_any op.kind W
    rw [hcb] at this; exact this
  have OF : Hid (∀ W base g cap, PairsAt W base g 0 ms → Calls Try.prog 20 #[.slice base ms.length cap] W fun e w' => ∃ a k h, e = .returned (.slice a om.length k) ∧ Below W.heap.size W w' ∧ PairsAt w' a h 0 om) := fun W base g cap h => by
    have := Of_map base g 0 cap ms W h (by omega)
    rw [hom] at this
    refine this.mono ?_
    rintro e w' ⟨a, g', k, e1, h1, _, h2, _⟩
    exact ⟨a, k, g', e1, h1, h2⟩
  have ROF : Hid (∀ W, PairsAt W ma mg mo ms → Calls Try.prog 21 #[.slice ma ms.length mc] W fun e w' => ∃ a k h, e = .returned (.slice a om.length k) ∧ Below W.heap.size W w' ∧ PairsAt w' a h 0 om) := fun W h => by
    have := rOf_any ma mg mo mc ms W h (by omega)
    rw [hom] at this
    refine this.mono ?_
    rintro e w' ⟨v, rfl, h1, h2⟩
    obtain ⟨a, k, g', rfl, _, _, hp⟩ := pairs_of_owns h2 (by unfold maxLen; omega)
    exact ⟨a, k, g', rfl, h1, hp⟩
  have FI : Hid (∀ W base g cap, PairsAt W base g 0 ms → Calls Try.prog 22 #[.slice base ms.length cap, .int .i64 x] W fun e w' => e = .returned (.tuple #[.int .i64 fn, .bool fb, .int .i64 CE]) ∧ Below W.heap.size W w') := fun W base g cap h => by
    have := pFind_any base g 0 cap ms x W h
    rw [hfn, hfb, hCE] at this; exact this
  have RFI : Hid (∀ W, PairsAt W ma mg mo ms → Calls Try.prog 23 #[.slice ma ms.length mc, .int .i64 x] W fun e w' => e = .returned (.tuple #[.int .i64 fn, .bool fb, .int .i64 CE]) ∧ Below W.heap.size W w') := fun W h => by
    have := rFind_any ma mg mo mc ms x W h
    rw [hfn, hfb, hCE] at this; exact this
  have PA : Hid (∀ W base g cap, PairsAt W base g 0 ms → NilOk base ms.length cap → ms.length ≤ cap → cap ≤ maxLen → Calls Try.prog 24 #[.slice base ms.length cap, .int .i64 x, .int .i64 y] W fun e w' => ∃ a k h, e = .returned (.tuple #[.slice a pt.length k, .int .i64 CE]) ∧ Below W.heap.size W w' ∧ PairsAt w' a h 0 pt) := fun W base g cap h1 h2 h3 h4 => by
    have := pPart_any base g 0 cap ms x y W h1 h2 h3 h4 (by omega)
    rw [hpt, hCE] at this
    refine this.mono ?_
    rintro e w' ⟨v, rfl, hb, a, h, k, rfl, _, hp, _⟩
    exact ⟨a, k, h, rfl, hb, hp⟩
  have RPA : Hid (∀ W, PairsAt W ma mg mo ms → Calls Try.prog 25 #[.slice ma ms.length mc, .int .i64 x, .int .i64 y] W fun e w' => ∃ a k h, e = .returned (.tuple #[.slice a pt.length k, .int .i64 CE]) ∧ Below W.heap.size W w' ∧ PairsAt w' a h 0 pt) := fun W h1 => by
    have := rPart_any ma mg mo mc ms x y W h1 y3
    rw [hpt, hCE] at this
    refine this.mono ?_
    rintro e w' ⟨v, rfl, hb, ho⟩
    obtain ⟨a, k, h, rfl, _, _, hp⟩ := pairs_of_owns ho (by unfold maxLen; omega)
    exact ⟨a, k, h, rfl, hb, hp⟩
  have DI : Hid (∀ W a1 g1 k1 a2 g2 k2, PairsAt W a1 g1 0 ms → NilOk a1 ms.length k1 → ms.length ≤ k1 → k1 ≤ maxLen → PairsAt W a2 g2 0 ns → NilOk a2 ns.length k2 → ns.length ≤ k2 → k2 ≤ maxLen → Calls Try.prog 26 #[.slice a1 ms.length k1, .slice a2 ns.length k2] W fun e w' => ∃ a k h, e = .returned (.tuple #[.slice a dl.length k, .int .i64 de]) ∧ Below W.heap.size W w' ∧ IntsAt w' a h dl) := fun W a1 g1 k1 a2 g2 k2 p1 p2 p3 p4 p5 p6 p7 p8 => by
    have := pDiffer_any a1 a2 g1 0 k1 g2 0 k2 ms ns W p1 p2 p3 p4 p5 p6 p7 p8 (by omega)
    rw [hde, hdl] at this
    refine this.mono ?_
    rintro e w' ⟨v, rfl, hb, ho⟩
    obtain ⟨a, k, h, rfl, hp⟩ := ints_of_owns ho
    exact ⟨a, k, h, rfl, hb, hp⟩
  have RDI : Hid (∀ W, PairsAt W ma mg mo ms → PairsAt W na ng no ns → Calls Try.prog 27 #[.slice ma ms.length mc, .slice na ns.length nc] W fun e w' => ∃ a k h, e = .returned (.tuple #[.slice a dl.length k, .int .i64 de]) ∧ Below W.heap.size W w' ∧ IntsAt w' a h dl) := fun W p1 p2 => by
    have := rDiffer_any ma na mg mo mc ng no nc ms ns W p1 hmn p2 hnn (by omega)
    rw [hde, hdl] at this
    refine this.mono ?_
    rintro e w' ⟨v, rfl, hb, ho⟩
    obtain ⟨a, k, h, rfl, hp⟩ := ints_of_owns ho
    exact ⟨a, k, h, rfl, hb, hp⟩
  have SM : Hid (∀ W a g k b h d, PairsAt W a g 0 ms → PairsAt W b h 0 ns → Calls Try.prog 28 #[.slice a ms.length k, .slice b ns.length d] W fun e w' => e = .returned (.bool pb) ∧ Below W.heap.size W w') := fun W a g k b h d p1 p2 => by
    have := psame_any a b g 0 k h 0 d ms ns W p1 p2
    rw [hpb] at this; exact this
  have RSM : Hid (∀ W, PairsAt W ma mg mo ms → PairsAt W na ng no ns → Calls Try.prog 19 #[.slice ma ms.length mc, .slice na ns.length nc] W fun e w' => e = .returned (.bool pb) ∧ Below W.heap.size W w') := fun W p1 p2 => by
    have := samePairs_any ma na mg mo mc ng no nc ms ns W p1 p2
    rw [hpb] at this; exact this
  have SM1 : Hid (∀ W a g k, PairsAt W a g 0 ms → PairsAt W ma mg mo ms → Calls Try.prog 28 #[.slice a ms.length k, .slice ma ms.length mc] W fun e w' => e = .returned (.bool true) ∧ Below W.heap.size W w') := fun W a g k p1 p2 => by
    have := psame_any a ma g 0 k mg mo mc ms ms W p1 p2
    rw [show plEq ms ms = true by simp [plEq]] at this; exact this
  have SR : Hid (∀ W a h k, PairsAt W ra rg ro rt.pairs → PairsAt W a h 0 ns → Calls Try.prog 29 #[.agg #[.bool rt.ok, .int .i64 rt.key, .int .i64 rt.val, .slice ra rt.pairs.length rc], .agg #[.bool rt.ok, .int .i64 rt.key, .int .i64 rt.val, .slice a ns.length k]] W fun e w' => e = .returned (.bool rb) ∧ Below W.heap.size W w') := fun W a h k p1 p2 => by
    have := psameRet_any ra a rg ro rc h 0 k rt ⟨rt.ok, rt.key, rt.val, ns⟩ W p1 p2
    rw [hrb] at this; exact this
  have RSR : Hid (∀ W a h k, PairsAt W ra rg ro rt.pairs → PairsAt W a h 0 ns → Calls Try.prog 30 #[.agg #[.bool rt.ok, .int .i64 rt.key, .int .i64 rt.val, .slice ra rt.pairs.length rc], .agg #[.bool rt.ok, .int .i64 rt.key, .int .i64 rt.val, .slice a ns.length k]] W fun e w' => e = .returned (.bool rb) ∧ Below W.heap.size W w') := fun W a h k p1 p2 => by
    have := sameRet_any ra a rg ro rc h 0 k rt ⟨rt.ok, rt.key, rt.val, ns⟩ W p1 p2
    rw [hrb] at this; exact this
  have SR1 : Hid (∀ W a h k, PairsAt W a h 0 ns → Calls Try.prog 29 #[.agg #[.bool rt.ok, .int .i64 rt.key, .int .i64 rt.val, .slice a ns.length k], .agg #[.bool rt.ok, .int .i64 rt.key, .int .i64 rt.val, .slice a ns.length k]] W fun e w' => e = .returned (.bool true) ∧ Below W.heap.size W w') := fun W a h k p2 => by
    have := psameRet_any a a h 0 k h 0 k ⟨rt.ok, rt.key, rt.val, ns⟩ ⟨rt.ok, rt.key, rt.val, ns⟩ W p2 p2
    rw [retEq_refl] at this; exact this
  have dll : dl.length ≤ 600 := by
    rw [← hdl]; unfold dfL; split
    · have := differ_length ms ns; omega
    · simp
  clear hm hn hr ho hq hmn hnn hon hoc hqn hqc hol hql m2 n2 hmc hnc hms hns y3 y4 hCE hKE hpd hcb hom hfn hfb hpt hde hdl hpb hrb oml ptl
  go_enter Try.func3, Try.ntmps3
  go_wp2_with fail
  obtain ⟨WA, hWA⟩ : ∃ WA, WA = w.alloc (.cells #[.slice ma ml mc, .slice na nl nc, .slice oa Os.length oc, .slice qa Qs.length qc, .int .i64 op.kind, .int .i64 op.key, .int .i64 op.val, .int .i64 op.hi, .bool rt.ok, .int .i64 rt.key, .int .i64 rt.val, .slice ra rt.pairs.length rc, .int .i64 x, .int .i64 y] 29) := ⟨_, rfl⟩
  rw [← hWA]
  have bA : Below w.heap.size w WA := by rw [hWA]; exact below_alloc _ _
  have zA : WA.heap.size = w.heap.size + 1 := by rw [hWA]; simp
  have CIN : Hid (∀ k, WA.cell? ⟨w.heap.size, k, none⟩ = (#[.slice ma ml mc, .slice na nl nc, .slice oa Os.length oc, .slice qa Qs.length qc, .int .i64 op.kind, .int .i64 op.key, .int .i64 op.val, .int .i64 op.hi, .bool rt.ok, .int .i64 rt.key, .int .i64 rt.val, .slice ra rt.pairs.length rc, .int .i64 x, .int .i64 y] : Array Value)[k]?) := fun k => by rw [hWA]; exact cell_new w _ _ k
  have FIN0 : Hid (∀ k, WA.frozen? ⟨w.heap.size, k, none⟩ = false) := fun k => by rw [hWA]; exact frozen_new w _ _ k
  have zA1 : w.heap.size < WA.heap.size := by omega
  have BA : Hid (Below w.heap.size w WA) := bA
  clear hWA bA zA
  refine (fixed_any WA).mono ?_
  rintro e w1 ⟨rfl, hb1⟩
  have B1 : Hid (Below WA.heap.size WA w1) := hb1
  clear hb1
  have i0 : w1.cell? ⟨w.heap.size, 0, none⟩ = some (.slice ma ml mc) := (B1.out.cell (p := ⟨w.heap.size, 0, none⟩) zA1).trans (CIN.out 0)
  have i1 : w1.cell? ⟨w.heap.size, 1, none⟩ = some (.slice na nl nc) := (B1.out.cell (p := ⟨w.heap.size, 1, none⟩) zA1).trans (CIN.out 1)
  have i2 : w1.cell? ⟨w.heap.size, 2, none⟩ = some (.slice oa Os.length oc) := (B1.out.cell (p := ⟨w.heap.size, 2, none⟩) zA1).trans (CIN.out 2)
  have i3 : w1.cell? ⟨w.heap.size, 3, none⟩ = some (.slice qa Qs.length qc) := (B1.out.cell (p := ⟨w.heap.size, 3, none⟩) zA1).trans (CIN.out 3)
  have i4 : w1.cell? ⟨w.heap.size, 4, none⟩ = some (.int .i64 op.kind) := (B1.out.cell (p := ⟨w.heap.size, 4, none⟩) zA1).trans (CIN.out 4)
  have i5 : w1.cell? ⟨w.heap.size, 5, none⟩ = some (.int .i64 op.key) := (B1.out.cell (p := ⟨w.heap.size, 5, none⟩) zA1).trans (CIN.out 5)
  have i6 : w1.cell? ⟨w.heap.size, 6, none⟩ = some (.int .i64 op.val) := (B1.out.cell (p := ⟨w.heap.size, 6, none⟩) zA1).trans (CIN.out 6)
  have i7 : w1.cell? ⟨w.heap.size, 7, none⟩ = some (.int .i64 op.hi) := (B1.out.cell (p := ⟨w.heap.size, 7, none⟩) zA1).trans (CIN.out 7)
  have i8 : w1.cell? ⟨w.heap.size, 8, none⟩ = some (.bool rt.ok) := (B1.out.cell (p := ⟨w.heap.size, 8, none⟩) zA1).trans (CIN.out 8)
  have i9 : w1.cell? ⟨w.heap.size, 9, none⟩ = some (.int .i64 rt.key) := (B1.out.cell (p := ⟨w.heap.size, 9, none⟩) zA1).trans (CIN.out 9)
  have i10 : w1.cell? ⟨w.heap.size, 10, none⟩ = some (.int .i64 rt.val) := (B1.out.cell (p := ⟨w.heap.size, 10, none⟩) zA1).trans (CIN.out 10)
  have i11 : w1.cell? ⟨w.heap.size, 11, none⟩ = some (.slice ra rt.pairs.length rc) := (B1.out.cell (p := ⟨w.heap.size, 11, none⟩) zA1).trans (CIN.out 11)
  have i12 : w1.cell? ⟨w.heap.size, 12, none⟩ = some (.int .i64 x) := (B1.out.cell (p := ⟨w.heap.size, 12, none⟩) zA1).trans (CIN.out 12)
  have i13 : w1.cell? ⟨w.heap.size, 13, none⟩ = some (.int .i64 y) := (B1.out.cell (p := ⟨w.heap.size, 13, none⟩) zA1).trans (CIN.out 13)
  go_wp2_with fail
  refine (LESS.out w1 (HO.out.below (BA.out.trans (B1.out.mono (by omega)))) (HQ.out.below (BA.out.trans (B1.out.mono (by omega))))).mono ?_
  rintro e w2 ⟨b1, c1, b2, c2, rfl, hb2⟩
  have B2 : Hid (Below WA.heap.size WA w2) := B1.out.trans (hb2.mono B1.out.size)
  clear hb2 i0 i1 i2 i3 i4 i5 i6 i7 i8 i9 i10 i11 i12 i13
  have j0 : w2.cell? ⟨w.heap.size, 0, none⟩ = some (.slice ma ml mc) := (B2.out.cell (p := ⟨w.heap.size, 0, none⟩) zA1).trans (CIN.out 0)
  have k0 : w2.frozen? ⟨w.heap.size, 0, none⟩ = false := (B2.out.frozen (p := ⟨w.heap.size, 0, none⟩) zA1).trans (FIN0.out 0)
  have j1 : w2.cell? ⟨w.heap.size, 1, none⟩ = some (.slice na nl nc) := (B2.out.cell (p := ⟨w.heap.size, 1, none⟩) zA1).trans (CIN.out 1)
  have k1 : w2.frozen? ⟨w.heap.size, 1, none⟩ = false := (B2.out.frozen (p := ⟨w.heap.size, 1, none⟩) zA1).trans (FIN0.out 1)
  have j2 : w2.cell? ⟨w.heap.size, 2, none⟩ = some (.slice oa Os.length oc) := (B2.out.cell (p := ⟨w.heap.size, 2, none⟩) zA1).trans (CIN.out 2)
  have k2 : w2.frozen? ⟨w.heap.size, 2, none⟩ = false := (B2.out.frozen (p := ⟨w.heap.size, 2, none⟩) zA1).trans (FIN0.out 2)
  have j3 : w2.cell? ⟨w.heap.size, 3, none⟩ = some (.slice qa Qs.length qc) := (B2.out.cell (p := ⟨w.heap.size, 3, none⟩) zA1).trans (CIN.out 3)
  have k3 : w2.frozen? ⟨w.heap.size, 3, none⟩ = false := (B2.out.frozen (p := ⟨w.heap.size, 3, none⟩) zA1).trans (FIN0.out 3)
  have j4 : w2.cell? ⟨w.heap.size, 4, none⟩ = some (.int .i64 op.kind) := (B2.out.cell (p := ⟨w.heap.size, 4, none⟩) zA1).trans (CIN.out 4)
  have k4 : w2.frozen? ⟨w.heap.size, 4, none⟩ = false := (B2.out.frozen (p := ⟨w.heap.size, 4, none⟩) zA1).trans (FIN0.out 4)
  have j5 : w2.cell? ⟨w.heap.size, 5, none⟩ = some (.int .i64 op.key) := (B2.out.cell (p := ⟨w.heap.size, 5, none⟩) zA1).trans (CIN.out 5)
  have k5 : w2.frozen? ⟨w.heap.size, 5, none⟩ = false := (B2.out.frozen (p := ⟨w.heap.size, 5, none⟩) zA1).trans (FIN0.out 5)
  have j6 : w2.cell? ⟨w.heap.size, 6, none⟩ = some (.int .i64 op.val) := (B2.out.cell (p := ⟨w.heap.size, 6, none⟩) zA1).trans (CIN.out 6)
  have k6 : w2.frozen? ⟨w.heap.size, 6, none⟩ = false := (B2.out.frozen (p := ⟨w.heap.size, 6, none⟩) zA1).trans (FIN0.out 6)
  have j7 : w2.cell? ⟨w.heap.size, 7, none⟩ = some (.int .i64 op.hi) := (B2.out.cell (p := ⟨w.heap.size, 7, none⟩) zA1).trans (CIN.out 7)
  have k7 : w2.frozen? ⟨w.heap.size, 7, none⟩ = false := (B2.out.frozen (p := ⟨w.heap.size, 7, none⟩) zA1).trans (FIN0.out 7)
  have j8 : w2.cell? ⟨w.heap.size, 8, none⟩ = some (.bool rt.ok) := (B2.out.cell (p := ⟨w.heap.size, 8, none⟩) zA1).trans (CIN.out 8)
  have k8 : w2.frozen? ⟨w.heap.size, 8, none⟩ = false := (B2.out.frozen (p := ⟨w.heap.size, 8, none⟩) zA1).trans (FIN0.out 8)
  have j9 : w2.cell? ⟨w.heap.size, 9, none⟩ = some (.int .i64 rt.key) := (B2.out.cell (p := ⟨w.heap.size, 9, none⟩) zA1).trans (CIN.out 9)
  have k9 : w2.frozen? ⟨w.heap.size, 9, none⟩ = false := (B2.out.frozen (p := ⟨w.heap.size, 9, none⟩) zA1).trans (FIN0.out 9)
  have j10 : w2.cell? ⟨w.heap.size, 10, none⟩ = some (.int .i64 rt.val) := (B2.out.cell (p := ⟨w.heap.size, 10, none⟩) zA1).trans (CIN.out 10)
  have k10 : w2.frozen? ⟨w.heap.size, 10, none⟩ = false := (B2.out.frozen (p := ⟨w.heap.size, 10, none⟩) zA1).trans (FIN0.out 10)
  have j11 : w2.cell? ⟨w.heap.size, 11, none⟩ = some (.slice ra rt.pairs.length rc) := (B2.out.cell (p := ⟨w.heap.size, 11, none⟩) zA1).trans (CIN.out 11)
  have k11 : w2.frozen? ⟨w.heap.size, 11, none⟩ = false := (B2.out.frozen (p := ⟨w.heap.size, 11, none⟩) zA1).trans (FIN0.out 11)
  have j12 : w2.cell? ⟨w.heap.size, 12, none⟩ = some (.int .i64 x) := (B2.out.cell (p := ⟨w.heap.size, 12, none⟩) zA1).trans (CIN.out 12)
  have k12 : w2.frozen? ⟨w.heap.size, 12, none⟩ = false := (B2.out.frozen (p := ⟨w.heap.size, 12, none⟩) zA1).trans (FIN0.out 12)
  have j13 : w2.cell? ⟨w.heap.size, 13, none⟩ = some (.int .i64 y) := (B2.out.cell (p := ⟨w.heap.size, 13, none⟩) zA1).trans (CIN.out 13)
  have k13 : w2.frozen? ⟨w.heap.size, 13, none⟩ = false := (B2.out.frozen (p := ⟨w.heap.size, 13, none⟩) zA1).trans (FIN0.out 13)
  obtain ⟨W3, hW3⟩ : ∃ W3, W3 = setMany w.heap.size w2 0 [.slice ma ms.length mc, .slice na ns.length nc, .slice b1 ol c1, .slice b2 ql c2, .int .i64 op.kind, .int .i64 op.key, .int .i64 op.val, .int .i64 op.hi, .bool rt.ok, .int .i64 rt.key, .int .i64 rt.val, .slice ra rt.pairs.length rc, .int .i64 x, .int .i64 y] := ⟨_, rfl⟩
  have CASE : Hid (∀ w' : World, Below W3.heap.size W3 w' → ∀ k, k < 14 → w'.cell? ⟨w.heap.size, k, none⟩ = ([.slice ma ms.length mc, .slice na ns.length nc, .slice b1 ol c1, .slice b2 ql c2, .int .i64 op.kind, .int .i64 op.key, .int .i64 op.val, .int .i64 op.hi, .bool rt.ok, .int .i64 rt.key, .int .i64 rt.val, .slice ra rt.pairs.length rc, .int .i64 x, .int .i64 y] : List Value)[k]?) := by
    intro w' hb k hk
    have zz : w.heap.size < W3.heap.size := by rw [hW3, setMany_size]; have := B2.out.size; omega
    rw [hb.cell (p := ⟨w.heap.size, k, none⟩) zz]
    have := setMany_in (g := w.heap.size) [.slice ma ms.length mc, .slice na ns.length nc, .slice b1 ol c1, .slice b2 ql c2, .int .i64 op.kind, .int .i64 op.key, .int .i64 op.val, .int .i64 op.hi, .bool rt.ok, .int .i64 rt.key, .int .i64 rt.val, .slice ra rt.pairs.length rc, .int .i64 x, .int .i64 y] (W := w2) (b := 0) (fun j hj => by
      rw [Nat.zero_add, B2.out.cell (p := ⟨w.heap.size, j, none⟩) zA1, CIN.out]
      exact ⟨_, Array.getElem?_eq_getElem (by simpa using hj)⟩) k (by simpa using hk)
    rw [Nat.zero_add] at this
    rw [hW3]; exact this
  have z3 : WA.heap.size ≤ W3.heap.size := by rw [hW3, setMany_size]; exact B2.out.size
  have B3 : Hid (Below w.heap.size w W3) := by show Below w.heap.size w W3; rw [hW3]; exact setMany_below (Nat.le_refl _) _ (BA.out.trans (B2.out.mono (by omega)))
  simp only [setMany, Nat.zero_add, Nat.reduceAdd] at hW3
  go_wp2_with fail
  rw [← hW3]
  clear hW3 j0 k0 j1 k1 j2 k2 j3 k3 j4 k4 j5 k5 j6 k6 j7 k7 j8 k8 j9 k9 j10 k10 j11 k11 j12 k12 j13 k13
  have BD3 : Hid (Below W3.heap.size W3 W3.drew) := (Below.refl _ _).drew
  have z3w : w.heap.size < W3.heap.size := by omega
  have M3 : Hid (∀ w', Below W3.heap.size W3 w' → PairsAt w' ma mg mo ms) := fun w' hb => HM.out.below (B3.out.trans (hb.mono (by omega)))
  have N3 : Hid (∀ w', Below W3.heap.size W3 w' → PairsAt w' na ng no ns) := fun w' hb => HN.out.below (B3.out.trans (hb.mono (by omega)))
  have R3 : Hid (∀ w', Below W3.heap.size W3 w' → PairsAt w' ra rg ro rt.pairs) := fun w' hb => HR.out.below (B3.out.trans (hb.mono (by omega)))
  have qCE : (CE != CE) = false := by simp
  have qKE : (KE != KE) = false := by simp
  have qfn : (fn != fn) = false := by simp
  have qde : (de != de) = false := by simp
  have qop := op_neq_self
  have qpb : (pb == pb) = true := by simp
  have qrb : (rb == rb) = true := by simp
  have e0 : W3.cell? ⟨w.heap.size, 0, none⟩ = some (.slice ma ms.length mc) := CASE.out _ (Below.refl _ _) 0 (by omega)
  have e4 : W3.cell? ⟨w.heap.size, 4, none⟩ = some (.int .i64 op.kind) := CASE.out _ (Below.refl _ _) 4 (by omega)
  have e5 : W3.cell? ⟨w.heap.size, 5, none⟩ = some (.int .i64 op.key) := CASE.out _ (Below.refl _ _) 5 (by omega)
  have e6 : W3.cell? ⟨w.heap.size, 6, none⟩ = some (.int .i64 op.val) := CASE.out _ (Below.refl _ _) 6 (by omega)
  have e7 : W3.cell? ⟨w.heap.size, 7, none⟩ = some (.int .i64 op.hi) := CASE.out _ (Below.refl _ _) 7 (by omega)
  go_region_held3 (fun w' => w'.cell? ⟨w.heap.size, 0, none⟩ = some (.slice ma ms.length mc) ∧ w'.cell? ⟨w.heap.size, 4, none⟩ = some (.int .i64 op.kind) ∧ w'.cell? ⟨w.heap.size, 5, none⟩ = some (.int .i64 op.key) ∧ w'.cell? ⟨w.heap.size, 6, none⟩ = some (.int .i64 op.val) ∧ w'.cell? ⟨w.heap.size, 7, none⟩ = some (.int .i64 op.hi))
    (first
      | (with_reducible exact X4.out)
      | (with_reducible exact X5.out)
      | (with_reducible exact X6.out)
      | (with_reducible exact X7.out)
      | (with_reducible exact X8.out)
      | (with_reducible exact X9.out)
      | (with_reducible exact X10.out)
      | (with_reducible exact X11.out)
      | (with_reducible exact X12.out)
      | go_keep)
    (first
      | (go_at_call 19; refine (same_self o1 o2 oh1 0 ok1 oh2 0 ok2 om _ PO11.out PQ11.out).mono ?_; rintro e w12 ⟨rfl, hb12⟩; have BX12 : Hid (Below W3.heap.size W3 w12) := BX11.out.trans (hb12.mono BX11.out.size); have X12 : Hid (w12.cell? ⟨w.heap.size, 0, none⟩ = some (.slice ma ms.length mc) ∧ w12.cell? ⟨w.heap.size, 4, none⟩ = some (.int .i64 op.kind) ∧ w12.cell? ⟨w.heap.size, 5, none⟩ = some (.int .i64 op.key) ∧ w12.cell? ⟨w.heap.size, 6, none⟩ = some (.int .i64 op.val) ∧ w12.cell? ⟨w.heap.size, 7, none⟩ = some (.int .i64 op.hi)) := ⟨CASE.out _ (BX12.out) 0 (by omega), CASE.out _ (BX12.out) 4 (by omega), CASE.out _ (BX12.out) 5 (by omega), CASE.out _ (BX12.out) 6 (by omega), CASE.out _ (BX12.out) 7 (by omega)⟩; clear hb12)
      | (go_at_call 21; refine (ROF.out _ (M3.out _ BX10.out)).mono ?_; rintro e w11 ⟨o2, ok2, oh2, rfl, hb11, hp11⟩; have BX11 : Hid (Below W3.heap.size W3 w11) := BX10.out.trans (hb11.mono BX10.out.size); have X11 : Hid (w11.cell? ⟨w.heap.size, 0, none⟩ = some (.slice ma ms.length mc) ∧ w11.cell? ⟨w.heap.size, 4, none⟩ = some (.int .i64 op.kind) ∧ w11.cell? ⟨w.heap.size, 5, none⟩ = some (.int .i64 op.key) ∧ w11.cell? ⟨w.heap.size, 6, none⟩ = some (.int .i64 op.val) ∧ w11.cell? ⟨w.heap.size, 7, none⟩ = some (.int .i64 op.hi)) := ⟨CASE.out _ (BX11.out) 0 (by omega), CASE.out _ (BX11.out) 4 (by omega), CASE.out _ (BX11.out) 5 (by omega), CASE.out _ (BX11.out) 6 (by omega), CASE.out _ (BX11.out) 7 (by omega)⟩; have PO11 : Hid (PairsAt w11 o1 oh1 0 om) := PO10.out.below hb11; have PQ11 : Hid (PairsAt w11 o2 oh2 0 om) := hp11; clear hp11; clear hb11)
      | (go_at_call 20; refine (OF.out _ bd gd cd PC9.out).mono ?_; rintro e w10 ⟨o1, ok1, oh1, rfl, hb10, hp10⟩; have BX10 : Hid (Below W3.heap.size W3 w10) := BX9.out.trans (hb10.mono BX9.out.size); have X10 : Hid (w10.cell? ⟨w.heap.size, 0, none⟩ = some (.slice ma ms.length mc) ∧ w10.cell? ⟨w.heap.size, 4, none⟩ = some (.int .i64 op.kind) ∧ w10.cell? ⟨w.heap.size, 5, none⟩ = some (.int .i64 op.key) ∧ w10.cell? ⟨w.heap.size, 6, none⟩ = some (.int .i64 op.val) ∧ w10.cell? ⟨w.heap.size, 7, none⟩ = some (.int .i64 op.hi)) := ⟨CASE.out _ (BX10.out) 0 (by omega), CASE.out _ (BX10.out) 4 (by omega), CASE.out _ (BX10.out) 5 (by omega), CASE.out _ (BX10.out) 6 (by omega), CASE.out _ (BX10.out) 7 (by omega)⟩; have PO10 : Hid (PairsAt w10 o1 oh1 0 om) := hp10; clear hp10; clear hb10)
      | (have h_apart := BX8.out; go_at_call 11; refine (COPM.out _ (M3.out _ BX8.out)).mono ?_; rintro e w9 ⟨bd, cd, gd, rfl, hb9, hp9, _, _, _, _⟩; have BX9 : Hid (Below W3.heap.size W3 w9) := BX8.out.trans (hb9.mono BX8.out.size); have X9 : Hid (w9.cell? ⟨w.heap.size, 0, none⟩ = some (.slice ma ms.length mc) ∧ w9.cell? ⟨w.heap.size, 4, none⟩ = some (.int .i64 op.kind) ∧ w9.cell? ⟨w.heap.size, 5, none⟩ = some (.int .i64 op.key) ∧ w9.cell? ⟨w.heap.size, 6, none⟩ = some (.int .i64 op.val) ∧ w9.cell? ⟨w.heap.size, 7, none⟩ = some (.int .i64 op.hi)) := ⟨CASE.out _ (BX9.out) 0 (by omega), CASE.out _ (BX9.out) 4 (by omega), CASE.out _ (BX9.out) 5 (by omega), CASE.out _ (BX9.out) 6 (by omega), CASE.out _ (BX9.out) 7 (by omega)⟩; have PC9 : Hid (PairsAt w9 bd gd 0 ms) := hp9; clear hp9; clear hb9; clear h_apart)
      | (go_at_call 18; refine (RCH.out _).mono ?_; rintro e wz ⟨rfl, rfl⟩)
      | (go_at_call 17; refine (CH.out _).mono ?_; rintro e wz ⟨rfl, rfl⟩)
      | (go_at_call 16; refine (RPL.out _).mono ?_; rintro e w8 ⟨rfl, hb8⟩; have BX8 : Hid (Below W3.heap.size W3 w8) := BX7.out.trans (hb8.mono BX7.out.size); have X8 : Hid (w8.cell? ⟨w.heap.size, 0, none⟩ = some (.slice ma ms.length mc) ∧ w8.cell? ⟨w.heap.size, 4, none⟩ = some (.int .i64 op.kind) ∧ w8.cell? ⟨w.heap.size, 5, none⟩ = some (.int .i64 op.key) ∧ w8.cell? ⟨w.heap.size, 6, none⟩ = some (.int .i64 op.val) ∧ w8.cell? ⟨w.heap.size, 7, none⟩ = some (.int .i64 op.hi)) := ⟨CASE.out _ (BX8.out) 0 (by omega), CASE.out _ (BX8.out) 4 (by omega), CASE.out _ (BX8.out) 5 (by omega), CASE.out _ (BX8.out) 6 (by omega), CASE.out _ (BX8.out) 7 (by omega)⟩; clear hb8)
      | (go_at_call 15; refine (PLN.out _).mono ?_; rintro e w7 ⟨rfl, hb7⟩; have BX7 : Hid (Below W3.heap.size W3 w7) := BX6.out.trans (hb7.mono BX6.out.size); have X7 : Hid (w7.cell? ⟨w.heap.size, 0, none⟩ = some (.slice ma ms.length mc) ∧ w7.cell? ⟨w.heap.size, 4, none⟩ = some (.int .i64 op.kind) ∧ w7.cell? ⟨w.heap.size, 5, none⟩ = some (.int .i64 op.key) ∧ w7.cell? ⟨w.heap.size, 6, none⟩ = some (.int .i64 op.val) ∧ w7.cell? ⟨w.heap.size, 7, none⟩ = some (.int .i64 op.hi)) := ⟨CASE.out _ (BX7.out) 0 (by omega), CASE.out _ (BX7.out) 4 (by omega), CASE.out _ (BX7.out) 5 (by omega), CASE.out _ (BX7.out) 6 (by omega), CASE.out _ (BX7.out) 7 (by omega)⟩; clear hb7)
      | (go_at_call 14; refine (RKD.out _).mono ?_; rintro e wz ⟨rfl, rfl⟩)
      | (go_at_call 13; refine (KD.out _).mono ?_; rintro e wz ⟨rfl, rfl⟩)
      | (go_at_call 12; refine (RCK.out _ (M3.out _ BX5.out)).mono ?_; rintro e w6 ⟨rfl, hb6⟩; have BX6 : Hid (Below W3.heap.size W3 w6) := BX5.out.trans (hb6.mono BX5.out.size); have X6 : Hid (w6.cell? ⟨w.heap.size, 0, none⟩ = some (.slice ma ms.length mc) ∧ w6.cell? ⟨w.heap.size, 4, none⟩ = some (.int .i64 op.kind) ∧ w6.cell? ⟨w.heap.size, 5, none⟩ = some (.int .i64 op.key) ∧ w6.cell? ⟨w.heap.size, 6, none⟩ = some (.int .i64 op.val) ∧ w6.cell? ⟨w.heap.size, 7, none⟩ = some (.int .i64 op.hi)) := ⟨CASE.out _ (BX6.out) 0 (by omega), CASE.out _ (BX6.out) 4 (by omega), CASE.out _ (BX6.out) 5 (by omega), CASE.out _ (BX6.out) 6 (by omega), CASE.out _ (BX6.out) 7 (by omega)⟩; clear hb6)
      | (go_at_call 10; refine (CK.out _ bc gc cc PC4.out).mono ?_; rintro e w5 ⟨rfl, hb5⟩; have BX5 : Hid (Below W3.heap.size W3 w5) := BX4.out.trans (hb5.mono BX4.out.size); have X5 : Hid (w5.cell? ⟨w.heap.size, 0, none⟩ = some (.slice ma ms.length mc) ∧ w5.cell? ⟨w.heap.size, 4, none⟩ = some (.int .i64 op.kind) ∧ w5.cell? ⟨w.heap.size, 5, none⟩ = some (.int .i64 op.key) ∧ w5.cell? ⟨w.heap.size, 6, none⟩ = some (.int .i64 op.val) ∧ w5.cell? ⟨w.heap.size, 7, none⟩ = some (.int .i64 op.hi)) := ⟨CASE.out _ (BX5.out) 0 (by omega), CASE.out _ (BX5.out) 4 (by omega), CASE.out _ (BX5.out) 5 (by omega), CASE.out _ (BX5.out) 6 (by omega), CASE.out _ (BX5.out) 7 (by omega)⟩; clear hb5)
      | (go_at_call 11; refine (COPM.out _ (M3.out _ BD3.out)).mono ?_; rintro e w4 ⟨bc, cc, gc, rfl, hb4, hp4, _, _, _, _⟩; have BX4 : Hid (Below W3.heap.size W3 w4) := BD3.out.trans (hb4.mono BD3.out.size); have X4 : Hid (w4.cell? ⟨w.heap.size, 0, none⟩ = some (.slice ma ms.length mc) ∧ w4.cell? ⟨w.heap.size, 4, none⟩ = some (.int .i64 op.kind) ∧ w4.cell? ⟨w.heap.size, 5, none⟩ = some (.int .i64 op.key) ∧ w4.cell? ⟨w.heap.size, 6, none⟩ = some (.int .i64 op.val) ∧ w4.cell? ⟨w.heap.size, 7, none⟩ = some (.int .i64 op.hi)) := ⟨CASE.out _ (BX4.out) 0 (by omega), CASE.out _ (BX4.out) 4 (by omega), CASE.out _ (BX4.out) 5 (by omega), CASE.out _ (BX4.out) 6 (by omega), CASE.out _ (BX4.out) 7 (by omega)⟩; have PC4 : Hid (PairsAt w4 bc gc 0 ms) := hp4; clear hp4; clear hb4))
  clear e0 e4 e5 e6 e7
  have BD12 : Hid (Below W3.heap.size W3 w12.drew) := BX12.out.drew
  have e0 : w12.cell? ⟨w.heap.size, 0, none⟩ = some (.slice ma ms.length mc) := CASE.out _ (BX12.out) 0 (by omega)
  have e12 : w12.cell? ⟨w.heap.size, 12, none⟩ = some (.int .i64 x) := CASE.out _ (BX12.out) 12 (by omega)
  go_wp2_with fail
  go_region_held3 (fun w' => w'.cell? ⟨w.heap.size, 0, none⟩ = some (.slice ma ms.length mc) ∧ w'.cell? ⟨w.heap.size, 12, none⟩ = some (.int .i64 x))
    (first
      | (with_reducible exact X13.out)
      | (with_reducible exact X14.out)
      | go_keep)
    (first
      | (go_at_call 22; refine (FI.out _ be ge ce PC13.out).mono ?_; rintro e w14 ⟨rfl, hb14⟩; have BX14 : Hid (Below W3.heap.size W3 w14) := BX13.out.trans (hb14.mono BX13.out.size); have X14 : Hid (w14.cell? ⟨w.heap.size, 0, none⟩ = some (.slice ma ms.length mc) ∧ w14.cell? ⟨w.heap.size, 12, none⟩ = some (.int .i64 x)) := ⟨CASE.out _ (BX14.out) 0 (by omega), CASE.out _ (BX14.out) 12 (by omega)⟩; clear hb14)
      | (go_at_call 11; refine (COPM.out _ (M3.out _ BD12.out)).mono ?_; rintro e w13 ⟨be, ce, ge, rfl, hb13, hp13, _, _, _, _⟩; have BX13 : Hid (Below W3.heap.size W3 w13) := BD12.out.trans (hb13.mono BD12.out.size); have X13 : Hid (w13.cell? ⟨w.heap.size, 0, none⟩ = some (.slice ma ms.length mc) ∧ w13.cell? ⟨w.heap.size, 12, none⟩ = some (.int .i64 x)) := ⟨CASE.out _ (BX13.out) 0 (by omega), CASE.out _ (BX13.out) 12 (by omega)⟩; have PC13 : Hid (PairsAt w13 be ge 0 ms) := hp13; clear hp13; clear hb13))
  clear e0 e12
  have e0 : w14.cell? ⟨w.heap.size, 0, none⟩ = some (.slice ma ms.length mc) := CASE.out _ (BX14.out) 0 (by omega)
  have e12 : w14.cell? ⟨w.heap.size, 12, none⟩ = some (.int .i64 x) := CASE.out _ (BX14.out) 12 (by omega)
  go_wp2_with fail
  refine (RFI.out _ (M3.out _ BX14.out)).mono ?_
  rintro e w15 ⟨rfl, hb15⟩
  have BX15 : Hid (Below W3.heap.size W3 w15) := BX14.out.trans (hb15.mono BX14.out.size)
  have BD15 : Hid (Below W3.heap.size W3 w15.drew) := BX15.out.drew
  clear hb15 e0 e12
  have e0 : w15.cell? ⟨w.heap.size, 0, none⟩ = some (.slice ma ms.length mc) := CASE.out _ (BX15.out) 0 (by omega)
  have e12 : w15.cell? ⟨w.heap.size, 12, none⟩ = some (.int .i64 x) := CASE.out _ (BX15.out) 12 (by omega)
  have e13 : w15.cell? ⟨w.heap.size, 13, none⟩ = some (.int .i64 y) := CASE.out _ (BX15.out) 13 (by omega)
  go_wp2_with fail
  go_region_held3 (fun w' => w'.cell? ⟨w.heap.size, 0, none⟩ = some (.slice ma ms.length mc) ∧ w'.cell? ⟨w.heap.size, 12, none⟩ = some (.int .i64 x) ∧ w'.cell? ⟨w.heap.size, 13, none⟩ = some (.int .i64 y))
    (first
      | (with_reducible exact X16.out)
      | (with_reducible exact X17.out)
      | go_keep)
    (first
      | (go_at_call 24; refine (PA.out _ bf gf cf PC16.out NC16.out.1 NC16.out.2.1 NC16.out.2.2).mono ?_; rintro e w17 ⟨p1, pk1, ph1, rfl, hb17, hp17⟩; have BX17 : Hid (Below W3.heap.size W3 w17) := BX16.out.trans (hb17.mono BX16.out.size); have X17 : Hid (w17.cell? ⟨w.heap.size, 0, none⟩ = some (.slice ma ms.length mc) ∧ w17.cell? ⟨w.heap.size, 12, none⟩ = some (.int .i64 x) ∧ w17.cell? ⟨w.heap.size, 13, none⟩ = some (.int .i64 y)) := ⟨CASE.out _ (BX17.out) 0 (by omega), CASE.out _ (BX17.out) 12 (by omega), CASE.out _ (BX17.out) 13 (by omega)⟩; have PP17 : Hid (PairsAt w17 p1 ph1 0 pt) := hp17; clear hp17; clear hb17)
      | (go_at_call 11; refine (COPM.out _ (M3.out _ BD15.out)).mono ?_; rintro e w16 ⟨bf, cf, gf, rfl, hb16, hp16, hn16, hc16, hd16, _⟩; have BX16 : Hid (Below W3.heap.size W3 w16) := BD15.out.trans (hb16.mono BD15.out.size); have X16 : Hid (w16.cell? ⟨w.heap.size, 0, none⟩ = some (.slice ma ms.length mc) ∧ w16.cell? ⟨w.heap.size, 12, none⟩ = some (.int .i64 x) ∧ w16.cell? ⟨w.heap.size, 13, none⟩ = some (.int .i64 y)) := ⟨CASE.out _ (BX16.out) 0 (by omega), CASE.out _ (BX16.out) 12 (by omega), CASE.out _ (BX16.out) 13 (by omega)⟩; have PC16 : Hid (PairsAt w16 bf gf 0 ms) := hp16; have NC16 : Hid (NilOk bf ms.length cf ∧ ms.length ≤ cf ∧ cf ≤ maxLen) := ⟨hn16, hc16, hd16⟩; clear hp16 hn16 hc16 hd16; clear hb16))
  clear e0 e12 e13
  have e0 : w17.cell? ⟨w.heap.size, 0, none⟩ = some (.slice ma ms.length mc) := CASE.out _ (BX17.out) 0 (by omega)
  have e12 : w17.cell? ⟨w.heap.size, 12, none⟩ = some (.int .i64 x) := CASE.out _ (BX17.out) 12 (by omega)
  have e13 : w17.cell? ⟨w.heap.size, 13, none⟩ = some (.int .i64 y) := CASE.out _ (BX17.out) 13 (by omega)
  go_wp2_with fail
  refine (RPA.out _ (M3.out _ BX17.out)).mono ?_
  rintro e w18 ⟨p2, pk2, ph2, rfl, hb18, hp18⟩
  have BX18 : Hid (Below W3.heap.size W3 w18) := BX17.out.trans (hb18.mono BX17.out.size)
  have PP18 : Hid (PairsAt w18 p1 ph1 0 pt) := PP17.out.below hb18
  have PQ18 : Hid (PairsAt w18 p2 ph2 0 pt) := hp18
  clear hb18 hp18 e0 e12 e13
  go_wp2_with fail
  refine (same_self p1 p2 ph1 0 pk1 ph2 0 pk2 pt _ PP18.out PQ18.out).mono ?_
  rintro e w19 ⟨rfl, hb19⟩
  have BX19 : Hid (Below W3.heap.size W3 w19) := BX18.out.trans (hb19.mono BX18.out.size)
  have BD19 : Hid (Below W3.heap.size W3 w19.drew) := BX19.out.drew
  clear hb19
  have e0 : w19.cell? ⟨w.heap.size, 0, none⟩ = some (.slice ma ms.length mc) := CASE.out _ (BX19.out) 0 (by omega)
  have e1 : w19.cell? ⟨w.heap.size, 1, none⟩ = some (.slice na ns.length nc) := CASE.out _ (BX19.out) 1 (by omega)
  go_wp2_with fail
  go_region_held3 (fun w' => w'.cell? ⟨w.heap.size, 0, none⟩ = some (.slice ma ms.length mc) ∧ w'.cell? ⟨w.heap.size, 1, none⟩ = some (.slice na ns.length nc))
    (first
      | (with_reducible exact X20.out)
      | (with_reducible exact X21.out)
      | (with_reducible exact X22.out)
      | go_keep)
    (first
      | (go_at_call 26; refine (DI.out _ bg gg cg bh gh ch PC21.out NC20.out.1 NC20.out.2.1 NC20.out.2.2 PD21.out NC21.out.1 NC21.out.2.1 NC21.out.2.2).mono ?_; rintro e w22 ⟨d1, dk1, dh1, rfl, hb22, hp22⟩; have BX22 : Hid (Below W3.heap.size W3 w22) := BX21.out.trans (hb22.mono BX21.out.size); have X22 : Hid (w22.cell? ⟨w.heap.size, 0, none⟩ = some (.slice ma ms.length mc) ∧ w22.cell? ⟨w.heap.size, 1, none⟩ = some (.slice na ns.length nc)) := ⟨CASE.out _ (BX22.out) 0 (by omega), CASE.out _ (BX22.out) 1 (by omega)⟩; have PI22 : Hid (IntsAt w22 d1 dh1 dl) := hp22; clear hp22; clear hb22)
      | (have h_apart := BX20.out; go_at_call 11; refine (COPN.out _ (N3.out _ BX20.out)).mono ?_; rintro e w21 ⟨bh, ch, gh, rfl, hb21, hp21, hn21, hc21, hd21, _⟩; have BX21 : Hid (Below W3.heap.size W3 w21) := BX20.out.trans (hb21.mono BX20.out.size); have X21 : Hid (w21.cell? ⟨w.heap.size, 0, none⟩ = some (.slice ma ms.length mc) ∧ w21.cell? ⟨w.heap.size, 1, none⟩ = some (.slice na ns.length nc)) := ⟨CASE.out _ (BX21.out) 0 (by omega), CASE.out _ (BX21.out) 1 (by omega)⟩; have PC21 : Hid (PairsAt w21 bg gg 0 ms) := PC20.out.below hb21; have PD21 : Hid (PairsAt w21 bh gh 0 ns) := hp21; have NC21 : Hid (NilOk bh ns.length ch ∧ ns.length ≤ ch ∧ ch ≤ maxLen) := ⟨hn21, hc21, hd21⟩; clear hp21 hn21 hc21 hd21; clear hb21; clear h_apart)
      | (go_at_call 11; refine (COPM.out _ (M3.out _ BD19.out)).mono ?_; rintro e w20 ⟨bg, cg, gg, rfl, hb20, hp20, hn20, hc20, hd20, _⟩; have BX20 : Hid (Below W3.heap.size W3 w20) := BD19.out.trans (hb20.mono BD19.out.size); have X20 : Hid (w20.cell? ⟨w.heap.size, 0, none⟩ = some (.slice ma ms.length mc) ∧ w20.cell? ⟨w.heap.size, 1, none⟩ = some (.slice na ns.length nc)) := ⟨CASE.out _ (BX20.out) 0 (by omega), CASE.out _ (BX20.out) 1 (by omega)⟩; have PC20 : Hid (PairsAt w20 bg gg 0 ms) := hp20; have NC20 : Hid (NilOk bg ms.length cg ∧ ms.length ≤ cg ∧ cg ≤ maxLen) := ⟨hn20, hc20, hd20⟩; clear hp20 hn20 hc20 hd20; clear hb20))
  clear e0 e1
  have e0 : w22.cell? ⟨w.heap.size, 0, none⟩ = some (.slice ma ms.length mc) := CASE.out _ (BX22.out) 0 (by omega)
  have e1 : w22.cell? ⟨w.heap.size, 1, none⟩ = some (.slice na ns.length nc) := CASE.out _ (BX22.out) 1 (by omega)
  go_wp2_with fail
  refine (RDI.out _ (M3.out _ BX22.out) (N3.out _ BX22.out)).mono ?_
  rintro e w23 ⟨d2, dk2, dh2, rfl, hb23, hp23⟩
  have BX23 : Hid (Below W3.heap.size W3 w23) := BX22.out.trans (hb23.mono BX22.out.size)
  have PI23 : Hid (IntsAt w23 d1 dh1 dl) := PI22.out.below hb23
  have PJ23 : Hid (IntsAt w23 d2 dh2 dl) := hp23
  clear hb23 hp23 e0 e1
  have qdl : ((dl.length : Int) != (dl.length : Int)) = false := by simp
  go_wp2_with fail
  go_loopw [13] (fun i wr => ∃ j : Nat, j ≤ dl.length ∧ i = .int .i64 j ∧ Below w23.heap.size w23 wr) (fun i _ => dl.length - (intOf i).toNat)
  case atStart => exact ⟨0, Nat.zero_le _, rfl, Below.refl _ _⟩
  case round =>
    obtain ⟨j, hj, rfl, hbw⟩ := hrel
    have BW : Hid (Below w23.heap.size w23 wr) := hbw
    clear hbw
    by_cases hlt : j < dl.length
    · obtain rfl : d1 = some ⟨dh1, 0, none⟩ := PI23.out.base (by omega)
      obtain rfl : d2 = some ⟨dh2, 0, none⟩ := PJ23.out.base (by omega)
      have c0 := (PI23.out.below BW.out).cells j hlt
      have c1 := (PJ23.out.below BW.out).cells j hlt
      have zb0 : dh1 < wr.heap.size := (PI23.out.below BW.out).lt (by omega)
      have zb1 : dh2 < wr.heap.size := (PJ23.out.below BW.out).lt (by omega)
      have j0 : (0 : Int) ≤ (j : Int) := Int.natCast_nonneg _
      have j1 : (j : Int) < (dl.length : Int) := by omega
      obtain ⟨dv, hdv⟩ : ∃ dv, dl.getD j 0 = dv := ⟨_, rfl⟩
      rw [hdv] at c0 c1
      clear hdv
      have qdv : (dv != dv) = false := by simp
      go_wp2_with fail
      go_quiet (fail)
      go_wp2_with fail
      exact ⟨⟨j + 1, by omega, by go_num, below_drewN BW.out _⟩, by simp [intOf]; omega⟩
    · have BX24 : Hid (Below W3.heap.size W3 wr) := BX23.out.trans (BW.out.mono BX23.out.size)
      generalize wr = w24 at *
      have e1 : w24.cell? ⟨w.heap.size, 1, none⟩ = some (.slice na ns.length nc) := CASE.out _ (BX24.out) 1 (by omega)
      have e8 : w24.cell? ⟨w.heap.size, 8, none⟩ = some (.bool rt.ok) := CASE.out _ (BX24.out) 8 (by omega)
      have e9 : w24.cell? ⟨w.heap.size, 9, none⟩ = some (.int .i64 rt.key) := CASE.out _ (BX24.out) 9 (by omega)
      have e10 : w24.cell? ⟨w.heap.size, 10, none⟩ = some (.int .i64 rt.val) := CASE.out _ (BX24.out) 10 (by omega)
      have BD24 : Hid (Below W3.heap.size W3 w24.drew) := BX24.out.drew
      have BZ24 : Hid (Below W3.heap.size W3 (w24.alloc (.cells #[.bool false, .int .i64 0, .int .i64 0, .slice none 0 0] 27)).drew) := (BX24.out.alloc BX24.out.size _).drew
      have z24 := BX24.out.size
      go_wp2_with fail
      go_cut [14] (fun s wx => Did2 W3 ⟨rt.ok, rt.key, rt.val, ns⟩ s wx)
      case first =>
        go_region_held3 (fun w' => w'.cell? ⟨w.heap.size, 1, none⟩ = some (.slice na ns.length nc) ∧ w'.cell? ⟨w.heap.size, 8, none⟩ = some (.bool rt.ok) ∧ w'.cell? ⟨w.heap.size, 9, none⟩ = some (.int .i64 rt.key) ∧ w'.cell? ⟨w.heap.size, 10, none⟩ = some (.int .i64 rt.val))
          (first
            | (with_reducible exact X25.out)
            | (with_reducible exact X25a.out)
            | (with_reducible exact X25c.out)
            | go_keep)
          (first
            | (go_at_call 11; refine (COPN.out _ (N3.out _ ?_)).mono ?_; (focus (first | exact BD24.out | exact BZ24.out)); rintro e w25 ⟨bi, ci, gi, rfl, hb25, hp25, _, _, _, hg25⟩; have B25 : Hid (Below W3.heap.size W3 w25) := (by first | exact BD24.out.trans (hb25.mono z24) | exact BZ24.out.trans (hb25.mono (by simp; omega))); have X25 : Hid (w25.cell? ⟨w.heap.size, 1, none⟩ = some (.slice na ns.length nc) ∧ w25.cell? ⟨w.heap.size, 8, none⟩ = some (.bool rt.ok) ∧ w25.cell? ⟨w.heap.size, 9, none⟩ = some (.int .i64 rt.key) ∧ w25.cell? ⟨w.heap.size, 10, none⟩ = some (.int .i64 rt.val)) := ⟨CASE.out _ (B25.out) 1 (by omega), CASE.out _ (B25.out) 8 (by omega), CASE.out _ (B25.out) 9 (by omega), CASE.out _ (B25.out) 10 (by omega)⟩; have X25a : Hid ((w25.alloc (.cells #[.bool rt.ok, .int .i64 rt.key, .int .i64 rt.val, .slice bi ns.length ci] 27)).cell? ⟨w.heap.size, 1, none⟩ = some (.slice na ns.length nc) ∧ (w25.alloc (.cells #[.bool rt.ok, .int .i64 rt.key, .int .i64 rt.val, .slice bi ns.length ci] 27)).cell? ⟨w.heap.size, 8, none⟩ = some (.bool rt.ok) ∧ (w25.alloc (.cells #[.bool rt.ok, .int .i64 rt.key, .int .i64 rt.val, .slice bi ns.length ci] 27)).cell? ⟨w.heap.size, 9, none⟩ = some (.int .i64 rt.key) ∧ (w25.alloc (.cells #[.bool rt.ok, .int .i64 rt.key, .int .i64 rt.val, .slice bi ns.length ci] 27)).cell? ⟨w.heap.size, 10, none⟩ = some (.int .i64 rt.val)) := ⟨CASE.out _ (B25.out.alloc B25.out.size _) 1 (by omega), CASE.out _ (B25.out.alloc B25.out.size _) 8 (by omega), CASE.out _ (B25.out.alloc B25.out.size _) 9 (by omega), CASE.out _ (B25.out.alloc B25.out.size _) 10 (by omega)⟩; have P25 : Hid (PairsAt w25 bi gi 0 ns) := hp25; (first | (have NB25 : Hid (NbAt w25 w24.heap.size) := ((NbAt.made w24).below (Below.refl _ _).drew).below hb25; have G25 : Hid (ns.length ≠ 0 → w24.heap.size < gi) := (fun q => by have := hg25 q; simp at this; omega); have X25c : Hid (((((w25.setCell ⟨w24.heap.size, 0, none⟩ (.bool rt.ok)).setCell ⟨w24.heap.size, 1, none⟩ (.int .i64 rt.key)).setCell ⟨w24.heap.size, 2, none⟩ (.int .i64 rt.val)).setCell ⟨w24.heap.size, 3, none⟩ (.slice bi ns.length ci)).cell? ⟨w.heap.size, 1, none⟩ = some (.slice na ns.length nc) ∧ ((((w25.setCell ⟨w24.heap.size, 0, none⟩ (.bool rt.ok)).setCell ⟨w24.heap.size, 1, none⟩ (.int .i64 rt.key)).setCell ⟨w24.heap.size, 2, none⟩ (.int .i64 rt.val)).setCell ⟨w24.heap.size, 3, none⟩ (.slice bi ns.length ci)).cell? ⟨w.heap.size, 8, none⟩ = some (.bool rt.ok) ∧ ((((w25.setCell ⟨w24.heap.size, 0, none⟩ (.bool rt.ok)).setCell ⟨w24.heap.size, 1, none⟩ (.int .i64 rt.key)).setCell ⟨w24.heap.size, 2, none⟩ (.int .i64 rt.val)).setCell ⟨w24.heap.size, 3, none⟩ (.slice bi ns.length ci)).cell? ⟨w.heap.size, 9, none⟩ = some (.int .i64 rt.key) ∧ ((((w25.setCell ⟨w24.heap.size, 0, none⟩ (.bool rt.ok)).setCell ⟨w24.heap.size, 1, none⟩ (.int .i64 rt.key)).setCell ⟨w24.heap.size, 2, none⟩ (.int .i64 rt.val)).setCell ⟨w24.heap.size, 3, none⟩ (.slice bi ns.length ci)).cell? ⟨w.heap.size, 10, none⟩ = some (.int .i64 rt.val)) := ⟨CASE.out _ (below4 B25.out z24 _ _ _ _) 1 (by omega), CASE.out _ (below4 B25.out z24 _ _ _ _) 8 (by omega), CASE.out _ (below4 B25.out z24 _ _ _ _) 9 (by omega), CASE.out _ (below4 B25.out z24 _ _ _ _) 10 (by omega)⟩; have y0 : w25.cell? ⟨w24.heap.size, 0, none⟩ = some (.bool false) := NB25.out.cells 0; have y1 : w25.cell? ⟨w24.heap.size, 1, none⟩ = some (.int .i64 0) := NB25.out.cells 1; have y2 : w25.cell? ⟨w24.heap.size, 2, none⟩ = some (.int .i64 0) := NB25.out.cells 2; have y3 : w25.cell? ⟨w24.heap.size, 3, none⟩ = some (.slice none 0 0) := NB25.out.cells 3; have yf : ∀ k, w25.frozen? ⟨w24.heap.size, k, none⟩ = false := NB25.out.free; have yl : w24.heap.size < w25.heap.size := NB25.out.lt) | skip); clear hb25 hp25 hg25))
        all_goals
          go_wp2_with fail
          go_meet
          first
            | exact did2_set (r := ⟨rt.ok, rt.key, rt.val, ns⟩) B25.out NB25.out z24 P25.out G25.out
            | exact did2_new (r := ⟨rt.ok, rt.key, rt.val, ns⟩) B25.out P25.out
      case rest =>
        obtain ⟨ga, gk, gj, gb, rfl, hby, hgl, hgc, hgp⟩ := hcut
        clear e1 e8 e9 e10
        generalize wc = w26 at *
        have BX26 : Hid (Below W3.heap.size W3 w26) := hby
        have BY26 : Hid (Below w26.heap.size w26 w26) := Below.refl _ _
        have BXd : Hid (Below W3.heap.size W3 w26.drew) := BX26.out.drew
        have BYd : Hid (Below w26.heap.size w26 w26.drew) := (Below.refl _ _).drew
        have GC : Hid (∀ w', Below w26.heap.size w26 w' → ∀ k, w'.cell? ⟨gb, k, none⟩ = (#[.bool rt.ok, .int .i64 rt.key, .int .i64 rt.val, .slice ga ns.length gk] : Array Value)[k]?) := fun w' hb k => by
          rw [hb.cell (p := ⟨gb, k, none⟩) hgl]; exact hgc k
        have PG : Hid (∀ w', Below w26.heap.size w26 w' → PairsAt w' ga gj 0 ns) := fun w' hb => hgp.below hb
        have HGL : Hid (gb < w26.heap.size) := hgl
        clear hby hgc hgp
        have e0 : w26.cell? ⟨w.heap.size, 0, none⟩ = some (.slice ma ms.length mc) := CASE.out _ (BX26.out) 0 (by omega)
        have e1 : w26.cell? ⟨w.heap.size, 1, none⟩ = some (.slice na ns.length nc) := CASE.out _ (BX26.out) 1 (by omega)
        have e8 : w26.cell? ⟨w.heap.size, 8, none⟩ = some (.bool rt.ok) := CASE.out _ (BX26.out) 8 (by omega)
        have e9 : w26.cell? ⟨w.heap.size, 9, none⟩ = some (.int .i64 rt.key) := CASE.out _ (BX26.out) 9 (by omega)
        have e10 : w26.cell? ⟨w.heap.size, 10, none⟩ = some (.int .i64 rt.val) := CASE.out _ (BX26.out) 10 (by omega)
        have e11 : w26.cell? ⟨w.heap.size, 11, none⟩ = some (.slice ra rt.pairs.length rc) := CASE.out _ (BX26.out) 11 (by omega)
        have g0 : w26.cell? ⟨gb, 0, none⟩ = some (.bool rt.ok) := GC.out _ BY26.out 0
        have g1 : w26.cell? ⟨gb, 1, none⟩ = some (.int .i64 rt.key) := GC.out _ BY26.out 1
        have g2 : w26.cell? ⟨gb, 2, none⟩ = some (.int .i64 rt.val) := GC.out _ BY26.out 2
        have g3 : w26.cell? ⟨gb, 3, none⟩ = some (.slice ga ns.length gk) := GC.out _ BY26.out 3
        go_wp2_with fail
        go_region_held3 (fun w' => w'.cell? ⟨w.heap.size, 0, none⟩ = some (.slice ma ms.length mc) ∧ w'.cell? ⟨w.heap.size, 1, none⟩ = some (.slice na ns.length nc) ∧ w'.cell? ⟨w.heap.size, 8, none⟩ = some (.bool rt.ok) ∧ w'.cell? ⟨w.heap.size, 9, none⟩ = some (.int .i64 rt.key) ∧ w'.cell? ⟨w.heap.size, 10, none⟩ = some (.int .i64 rt.val) ∧ w'.cell? ⟨w.heap.size, 11, none⟩ = some (.slice ra rt.pairs.length rc) ∧ w'.cell? ⟨gb, 0, none⟩ = some (.bool rt.ok) ∧ w'.cell? ⟨gb, 1, none⟩ = some (.int .i64 rt.key) ∧ w'.cell? ⟨gb, 2, none⟩ = some (.int .i64 rt.val) ∧ w'.cell? ⟨gb, 3, none⟩ = some (.slice ga ns.length gk))
          (first
            | (with_reducible exact X27.out)
            | (with_reducible exact X28.out)
            | (with_reducible exact X29.out)
            | (with_reducible exact X30.out)
            | (with_reducible exact X31.out)
            | (with_reducible exact X32.out)
            | (with_reducible exact X33.out)
            | (with_reducible exact X34.out)
            | (with_reducible exact X35.out)
            | go_keep)
          (first
            | (have h_apart := BX34.out; go_at_call 29; refine (SR1.out _ ga gj gk (PG.out _ BY34.out)).mono ?_; rintro e w35 ⟨rfl, hb35⟩; have BX35 : Hid (Below W3.heap.size W3 w35) := BX34.out.trans (hb35.mono BX34.out.size); have BY35 : Hid (Below w26.heap.size w26 w35) := BY34.out.trans (hb35.mono BY34.out.size); have X35 : Hid (w35.cell? ⟨w.heap.size, 0, none⟩ = some (.slice ma ms.length mc) ∧ w35.cell? ⟨w.heap.size, 1, none⟩ = some (.slice na ns.length nc) ∧ w35.cell? ⟨w.heap.size, 8, none⟩ = some (.bool rt.ok) ∧ w35.cell? ⟨w.heap.size, 9, none⟩ = some (.int .i64 rt.key) ∧ w35.cell? ⟨w.heap.size, 10, none⟩ = some (.int .i64 rt.val) ∧ w35.cell? ⟨w.heap.size, 11, none⟩ = some (.slice ra rt.pairs.length rc) ∧ w35.cell? ⟨gb, 0, none⟩ = some (.bool rt.ok) ∧ w35.cell? ⟨gb, 1, none⟩ = some (.int .i64 rt.key) ∧ w35.cell? ⟨gb, 2, none⟩ = some (.int .i64 rt.val) ∧ w35.cell? ⟨gb, 3, none⟩ = some (.slice ga ns.length gk)) := ⟨CASE.out _ (BX35.out) 0 (by omega), CASE.out _ (BX35.out) 1 (by omega), CASE.out _ (BX35.out) 8 (by omega), CASE.out _ (BX35.out) 9 (by omega), CASE.out _ (BX35.out) 10 (by omega), CASE.out _ (BX35.out) 11 (by omega), GC.out _ (BY35.out) 0, GC.out _ (BY35.out) 1, GC.out _ (BY35.out) 2, GC.out _ (BY35.out) 3⟩; clear hb35; clear h_apart)
            | (have h_apart := BX33.out; go_at_call 28; refine (SM1.out _ bl gt cl PC33.out (M3.out _ BX33.out)).mono ?_; rintro e w34 ⟨rfl, hb34⟩; have BX34 : Hid (Below W3.heap.size W3 w34) := BX33.out.trans (hb34.mono BX33.out.size); have BY34 : Hid (Below w26.heap.size w26 w34) := BY33.out.trans (hb34.mono BY33.out.size); have X34 : Hid (w34.cell? ⟨w.heap.size, 0, none⟩ = some (.slice ma ms.length mc) ∧ w34.cell? ⟨w.heap.size, 1, none⟩ = some (.slice na ns.length nc) ∧ w34.cell? ⟨w.heap.size, 8, none⟩ = some (.bool rt.ok) ∧ w34.cell? ⟨w.heap.size, 9, none⟩ = some (.int .i64 rt.key) ∧ w34.cell? ⟨w.heap.size, 10, none⟩ = some (.int .i64 rt.val) ∧ w34.cell? ⟨w.heap.size, 11, none⟩ = some (.slice ra rt.pairs.length rc) ∧ w34.cell? ⟨gb, 0, none⟩ = some (.bool rt.ok) ∧ w34.cell? ⟨gb, 1, none⟩ = some (.int .i64 rt.key) ∧ w34.cell? ⟨gb, 2, none⟩ = some (.int .i64 rt.val) ∧ w34.cell? ⟨gb, 3, none⟩ = some (.slice ga ns.length gk)) := ⟨CASE.out _ (BX34.out) 0 (by omega), CASE.out _ (BX34.out) 1 (by omega), CASE.out _ (BX34.out) 8 (by omega), CASE.out _ (BX34.out) 9 (by omega), CASE.out _ (BX34.out) 10 (by omega), CASE.out _ (BX34.out) 11 (by omega), GC.out _ (BY34.out) 0, GC.out _ (BY34.out) 1, GC.out _ (BY34.out) 2, GC.out _ (BY34.out) 3⟩; clear hb34; clear h_apart)
            | (have h_apart := BX32.out; go_at_call 11; refine (COPM.out _ (M3.out _ BX32.out)).mono ?_; rintro e w33 ⟨bl, cl, gt, rfl, hb33, hp33, _, _, _, _⟩; have BX33 : Hid (Below W3.heap.size W3 w33) := BX32.out.trans (hb33.mono BX32.out.size); have BY33 : Hid (Below w26.heap.size w26 w33) := BY32.out.trans (hb33.mono BY32.out.size); have X33 : Hid (w33.cell? ⟨w.heap.size, 0, none⟩ = some (.slice ma ms.length mc) ∧ w33.cell? ⟨w.heap.size, 1, none⟩ = some (.slice na ns.length nc) ∧ w33.cell? ⟨w.heap.size, 8, none⟩ = some (.bool rt.ok) ∧ w33.cell? ⟨w.heap.size, 9, none⟩ = some (.int .i64 rt.key) ∧ w33.cell? ⟨w.heap.size, 10, none⟩ = some (.int .i64 rt.val) ∧ w33.cell? ⟨w.heap.size, 11, none⟩ = some (.slice ra rt.pairs.length rc) ∧ w33.cell? ⟨gb, 0, none⟩ = some (.bool rt.ok) ∧ w33.cell? ⟨gb, 1, none⟩ = some (.int .i64 rt.key) ∧ w33.cell? ⟨gb, 2, none⟩ = some (.int .i64 rt.val) ∧ w33.cell? ⟨gb, 3, none⟩ = some (.slice ga ns.length gk)) := ⟨CASE.out _ (BX33.out) 0 (by omega), CASE.out _ (BX33.out) 1 (by omega), CASE.out _ (BX33.out) 8 (by omega), CASE.out _ (BX33.out) 9 (by omega), CASE.out _ (BX33.out) 10 (by omega), CASE.out _ (BX33.out) 11 (by omega), GC.out _ (BY33.out) 0, GC.out _ (BY33.out) 1, GC.out _ (BY33.out) 2, GC.out _ (BY33.out) 3⟩; have PC33 : Hid (PairsAt w33 bl gt 0 ms) := hp33; clear hp33; clear hb33; clear h_apart)
            | (go_at_call 30; refine (RSR.out _ ga gj gk (R3.out _ BX31.out) (PG.out _ BY31.out)).mono ?_; rintro e w32 ⟨rfl, hb32⟩; have BX32 : Hid (Below W3.heap.size W3 w32) := BX31.out.trans (hb32.mono BX31.out.size); have BY32 : Hid (Below w26.heap.size w26 w32) := BY31.out.trans (hb32.mono BY31.out.size); have X32 : Hid (w32.cell? ⟨w.heap.size, 0, none⟩ = some (.slice ma ms.length mc) ∧ w32.cell? ⟨w.heap.size, 1, none⟩ = some (.slice na ns.length nc) ∧ w32.cell? ⟨w.heap.size, 8, none⟩ = some (.bool rt.ok) ∧ w32.cell? ⟨w.heap.size, 9, none⟩ = some (.int .i64 rt.key) ∧ w32.cell? ⟨w.heap.size, 10, none⟩ = some (.int .i64 rt.val) ∧ w32.cell? ⟨w.heap.size, 11, none⟩ = some (.slice ra rt.pairs.length rc) ∧ w32.cell? ⟨gb, 0, none⟩ = some (.bool rt.ok) ∧ w32.cell? ⟨gb, 1, none⟩ = some (.int .i64 rt.key) ∧ w32.cell? ⟨gb, 2, none⟩ = some (.int .i64 rt.val) ∧ w32.cell? ⟨gb, 3, none⟩ = some (.slice ga ns.length gk)) := ⟨CASE.out _ (BX32.out) 0 (by omega), CASE.out _ (BX32.out) 1 (by omega), CASE.out _ (BX32.out) 8 (by omega), CASE.out _ (BX32.out) 9 (by omega), CASE.out _ (BX32.out) 10 (by omega), CASE.out _ (BX32.out) 11 (by omega), GC.out _ (BY32.out) 0, GC.out _ (BY32.out) 1, GC.out _ (BY32.out) 2, GC.out _ (BY32.out) 3⟩; clear hb32)
            | (go_at_call 29; refine (SR.out _ ga gj gk (R3.out _ BX30.out) (PG.out _ BY30.out)).mono ?_; rintro e w31 ⟨rfl, hb31⟩; have BX31 : Hid (Below W3.heap.size W3 w31) := BX30.out.trans (hb31.mono BX30.out.size); have BY31 : Hid (Below w26.heap.size w26 w31) := BY30.out.trans (hb31.mono BY30.out.size); have X31 : Hid (w31.cell? ⟨w.heap.size, 0, none⟩ = some (.slice ma ms.length mc) ∧ w31.cell? ⟨w.heap.size, 1, none⟩ = some (.slice na ns.length nc) ∧ w31.cell? ⟨w.heap.size, 8, none⟩ = some (.bool rt.ok) ∧ w31.cell? ⟨w.heap.size, 9, none⟩ = some (.int .i64 rt.key) ∧ w31.cell? ⟨w.heap.size, 10, none⟩ = some (.int .i64 rt.val) ∧ w31.cell? ⟨w.heap.size, 11, none⟩ = some (.slice ra rt.pairs.length rc) ∧ w31.cell? ⟨gb, 0, none⟩ = some (.bool rt.ok) ∧ w31.cell? ⟨gb, 1, none⟩ = some (.int .i64 rt.key) ∧ w31.cell? ⟨gb, 2, none⟩ = some (.int .i64 rt.val) ∧ w31.cell? ⟨gb, 3, none⟩ = some (.slice ga ns.length gk)) := ⟨CASE.out _ (BX31.out) 0 (by omega), CASE.out _ (BX31.out) 1 (by omega), CASE.out _ (BX31.out) 8 (by omega), CASE.out _ (BX31.out) 9 (by omega), CASE.out _ (BX31.out) 10 (by omega), CASE.out _ (BX31.out) 11 (by omega), GC.out _ (BY31.out) 0, GC.out _ (BY31.out) 1, GC.out _ (BY31.out) 2, GC.out _ (BY31.out) 3⟩; clear hb31)
            | (go_at_call 19; refine (RSM.out _ (M3.out _ BX29.out) (N3.out _ BX29.out)).mono ?_; rintro e w30 ⟨rfl, hb30⟩; have BX30 : Hid (Below W3.heap.size W3 w30) := BX29.out.trans (hb30.mono BX29.out.size); have BY30 : Hid (Below w26.heap.size w26 w30) := BY29.out.trans (hb30.mono BY29.out.size); have X30 : Hid (w30.cell? ⟨w.heap.size, 0, none⟩ = some (.slice ma ms.length mc) ∧ w30.cell? ⟨w.heap.size, 1, none⟩ = some (.slice na ns.length nc) ∧ w30.cell? ⟨w.heap.size, 8, none⟩ = some (.bool rt.ok) ∧ w30.cell? ⟨w.heap.size, 9, none⟩ = some (.int .i64 rt.key) ∧ w30.cell? ⟨w.heap.size, 10, none⟩ = some (.int .i64 rt.val) ∧ w30.cell? ⟨w.heap.size, 11, none⟩ = some (.slice ra rt.pairs.length rc) ∧ w30.cell? ⟨gb, 0, none⟩ = some (.bool rt.ok) ∧ w30.cell? ⟨gb, 1, none⟩ = some (.int .i64 rt.key) ∧ w30.cell? ⟨gb, 2, none⟩ = some (.int .i64 rt.val) ∧ w30.cell? ⟨gb, 3, none⟩ = some (.slice ga ns.length gk)) := ⟨CASE.out _ (BX30.out) 0 (by omega), CASE.out _ (BX30.out) 1 (by omega), CASE.out _ (BX30.out) 8 (by omega), CASE.out _ (BX30.out) 9 (by omega), CASE.out _ (BX30.out) 10 (by omega), CASE.out _ (BX30.out) 11 (by omega), GC.out _ (BY30.out) 0, GC.out _ (BY30.out) 1, GC.out _ (BY30.out) 2, GC.out _ (BY30.out) 3⟩; clear hb30)
            | (go_at_call 28; refine (SM.out _ bj gq cj bk gr ck PC28.out PD28.out).mono ?_; rintro e w29 ⟨rfl, hb29⟩; have BX29 : Hid (Below W3.heap.size W3 w29) := BX28.out.trans (hb29.mono BX28.out.size); have BY29 : Hid (Below w26.heap.size w26 w29) := BY28.out.trans (hb29.mono BY28.out.size); have X29 : Hid (w29.cell? ⟨w.heap.size, 0, none⟩ = some (.slice ma ms.length mc) ∧ w29.cell? ⟨w.heap.size, 1, none⟩ = some (.slice na ns.length nc) ∧ w29.cell? ⟨w.heap.size, 8, none⟩ = some (.bool rt.ok) ∧ w29.cell? ⟨w.heap.size, 9, none⟩ = some (.int .i64 rt.key) ∧ w29.cell? ⟨w.heap.size, 10, none⟩ = some (.int .i64 rt.val) ∧ w29.cell? ⟨w.heap.size, 11, none⟩ = some (.slice ra rt.pairs.length rc) ∧ w29.cell? ⟨gb, 0, none⟩ = some (.bool rt.ok) ∧ w29.cell? ⟨gb, 1, none⟩ = some (.int .i64 rt.key) ∧ w29.cell? ⟨gb, 2, none⟩ = some (.int .i64 rt.val) ∧ w29.cell? ⟨gb, 3, none⟩ = some (.slice ga ns.length gk)) := ⟨CASE.out _ (BX29.out) 0 (by omega), CASE.out _ (BX29.out) 1 (by omega), CASE.out _ (BX29.out) 8 (by omega), CASE.out _ (BX29.out) 9 (by omega), CASE.out _ (BX29.out) 10 (by omega), CASE.out _ (BX29.out) 11 (by omega), GC.out _ (BY29.out) 0, GC.out _ (BY29.out) 1, GC.out _ (BY29.out) 2, GC.out _ (BY29.out) 3⟩; clear hb29)
            | (have h_apart := BX27.out; go_at_call 11; refine (COPN.out _ (N3.out _ BX27.out)).mono ?_; rintro e w28 ⟨bk, ck, gr, rfl, hb28, hp28, _, _, _, _⟩; have BX28 : Hid (Below W3.heap.size W3 w28) := BX27.out.trans (hb28.mono BX27.out.size); have BY28 : Hid (Below w26.heap.size w26 w28) := BY27.out.trans (hb28.mono BY27.out.size); have X28 : Hid (w28.cell? ⟨w.heap.size, 0, none⟩ = some (.slice ma ms.length mc) ∧ w28.cell? ⟨w.heap.size, 1, none⟩ = some (.slice na ns.length nc) ∧ w28.cell? ⟨w.heap.size, 8, none⟩ = some (.bool rt.ok) ∧ w28.cell? ⟨w.heap.size, 9, none⟩ = some (.int .i64 rt.key) ∧ w28.cell? ⟨w.heap.size, 10, none⟩ = some (.int .i64 rt.val) ∧ w28.cell? ⟨w.heap.size, 11, none⟩ = some (.slice ra rt.pairs.length rc) ∧ w28.cell? ⟨gb, 0, none⟩ = some (.bool rt.ok) ∧ w28.cell? ⟨gb, 1, none⟩ = some (.int .i64 rt.key) ∧ w28.cell? ⟨gb, 2, none⟩ = some (.int .i64 rt.val) ∧ w28.cell? ⟨gb, 3, none⟩ = some (.slice ga ns.length gk)) := ⟨CASE.out _ (BX28.out) 0 (by omega), CASE.out _ (BX28.out) 1 (by omega), CASE.out _ (BX28.out) 8 (by omega), CASE.out _ (BX28.out) 9 (by omega), CASE.out _ (BX28.out) 10 (by omega), CASE.out _ (BX28.out) 11 (by omega), GC.out _ (BY28.out) 0, GC.out _ (BY28.out) 1, GC.out _ (BY28.out) 2, GC.out _ (BY28.out) 3⟩; have PC28 : Hid (PairsAt w28 bj gq 0 ms) := PC27.out.below hb28; have PD28 : Hid (PairsAt w28 bk gr 0 ns) := hp28; clear hp28; clear hb28; clear h_apart)
            | (go_at_call 11; refine (COPM.out _ (M3.out _ BXd.out)).mono ?_; rintro e w27 ⟨bj, cj, gq, rfl, hb27, hp27, _, _, _, _⟩; have BX27 : Hid (Below W3.heap.size W3 w27) := BXd.out.trans (hb27.mono BXd.out.size); have BY27 : Hid (Below w26.heap.size w26 w27) := BYd.out.trans (hb27.mono BYd.out.size); have X27 : Hid (w27.cell? ⟨w.heap.size, 0, none⟩ = some (.slice ma ms.length mc) ∧ w27.cell? ⟨w.heap.size, 1, none⟩ = some (.slice na ns.length nc) ∧ w27.cell? ⟨w.heap.size, 8, none⟩ = some (.bool rt.ok) ∧ w27.cell? ⟨w.heap.size, 9, none⟩ = some (.int .i64 rt.key) ∧ w27.cell? ⟨w.heap.size, 10, none⟩ = some (.int .i64 rt.val) ∧ w27.cell? ⟨w.heap.size, 11, none⟩ = some (.slice ra rt.pairs.length rc) ∧ w27.cell? ⟨gb, 0, none⟩ = some (.bool rt.ok) ∧ w27.cell? ⟨gb, 1, none⟩ = some (.int .i64 rt.key) ∧ w27.cell? ⟨gb, 2, none⟩ = some (.int .i64 rt.val) ∧ w27.cell? ⟨gb, 3, none⟩ = some (.slice ga ns.length gk)) := ⟨CASE.out _ (BX27.out) 0 (by omega), CASE.out _ (BX27.out) 1 (by omega), CASE.out _ (BX27.out) 8 (by omega), CASE.out _ (BX27.out) 9 (by omega), CASE.out _ (BX27.out) 10 (by omega), CASE.out _ (BX27.out) 11 (by omega), GC.out _ (BY27.out) 0, GC.out _ (BY27.out) 1, GC.out _ (BY27.out) 2, GC.out _ (BY27.out) 3⟩; have PC27 : Hid (PairsAt w27 bj gq 0 ms) := hp27; clear hp27; clear hb27))
        go_wp2_with fail
        go_ret
        exact ⟨by simp, B3.out.trans (BX35.out.mono (by omega))⟩
end Go.Proofs.Ytjpfgfcggekklaa

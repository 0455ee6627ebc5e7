
/- Layer 6: the reference's Do. -/

import Derived.Test.YtcphajjonecmbaaDoorMS4

namespace Go.Proofs.YtcphajjonecmbaaDoor

open Go.RowKit

/-- The operation and the answer to be, in the two blocks behind w. -/
structure StB (wr w : World) (o : OpD) : Prop where
  below : Below w.heap.size w wr
  size : w.heap.size + 1 < wr.heap.size
  op : wr.cell? ⟨w.heap.size, 0, none⟩ = some (.int .i64 o.kind) ∧ wr.cell? ⟨w.heap.size, 1, none⟩ = some (.int .i64 o.key) ∧ wr.cell? ⟨w.heap.size, 2, none⟩ = some (.int .i64 o.val) ∧ wr.cell? ⟨w.heap.size, 3, none⟩ = some (.int .i64 o.hi)
  res : wr.cell? ⟨w.heap.size + 1, 0, none⟩ = some (.bool false) ∧ wr.cell? ⟨w.heap.size + 1, 1, none⟩ = some (.int .i64 0) ∧ wr.cell? ⟨w.heap.size + 1, 2, none⟩ = some (.int .i64 0) ∧ wr.cell? ⟨w.heap.size + 1, 3, none⟩ = some (.slice none 0 0)
  free : ∀ i, wr.frozen? ⟨w.heap.size + 1, i, none⟩ = false
theorem StB.low {wr wr' w : World} {o : OpD} {B : Nat} (h : StB wr w o) (hb : Below B wr wr') (hB : w.heap.size + 1 < B) : StB wr' w o := by
  have hs := h.size
  have hz := hb.size
  have q : ∀ i, wr'.cell? ⟨w.heap.size, i, none⟩ = wr.cell? ⟨w.heap.size, i, none⟩ := fun i => hb.cell (p := ⟨w.heap.size, i, none⟩) (show w.heap.size < B by omega)
  have q1 : ∀ i, wr'.cell? ⟨w.heap.size + 1, i, none⟩ = wr.cell? ⟨w.heap.size + 1, i, none⟩ := fun i => hb.cell (p := ⟨w.heap.size + 1, i, none⟩) (show w.heap.size + 1 < B by omega)
  refine ⟨h.below.trans (hb.mono (by omega)), by omega, ?_, ?_, fun i => (hb.frozen (p := ⟨w.heap.size + 1, i, none⟩) (show w.heap.size + 1 < B by omega)).trans (h.free i)⟩
  · simp only [q]; exact h.op
  · simp only [q1]; exact h.res
theorem StB.made (w : World) (o : OpD) (T U : TypeId) : StB ((w.alloc (.cells #[.int .i64 o.kind, .int .i64 o.key, .int .i64 o.val, .int .i64 o.hi] T)).alloc (.cells #[.bool false, .int .i64 0, .int .i64 0, .slice none 0 0] U)) w o := by
  generalize hA : Obj.cells #[.int .i64 o.kind, .int .i64 o.key, .int .i64 o.val, .int .i64 o.hi] T = A
  generalize hB : Obj.cells #[.bool false, .int .i64 0, .int .i64 0, .slice none 0 0] U = B
  have z1 : (w.alloc A).heap.size = w.heap.size + 1 := by simp
  have z2 : ((w.alloc A).alloc B).heap.size = w.heap.size + 2 := by simp
  have b1 : Below (w.alloc A).heap.size (w.alloc A) ((w.alloc A).alloc B) := below_allocM _ _
  have ca : ∀ k, ((w.alloc A).alloc B).cell? ⟨w.heap.size, k, none⟩ = (#[.int .i64 o.kind, .int .i64 o.key, .int .i64 o.val, .int .i64 o.hi] : Array Value)[k]? := fun k => by
    rw [b1.cell (p := ⟨w.heap.size, k, none⟩) (show w.heap.size < _ by omega), ← hA]
    exact cell_newM w _ T k
  have cb : ∀ k, ((w.alloc A).alloc B).cell? ⟨w.heap.size + 1, k, none⟩ = (#[.bool false, .int .i64 0, .int .i64 0, .slice none 0 0] : Array Value)[k]? := fun k => by
    rw [← z1, ← hB]
    exact cell_newM (w.alloc A) _ U k
  refine ⟨(below_allocM _ _).alloc (by simp) _, by omega, ⟨ca 0, ca 1, ca 2, ca 3⟩, ⟨cb 0, cb 1, cb 2, cb 3⟩, fun i => ?_⟩
  rw [← z1, ← hB]
  exact frozen_newM (w.alloc A) _ U i
theorem StB.fin {wr w : World} {o : OpD} (h : StB wr w o) (a : Bool) (x y : Int) (u : Value) :
    let W := (((wr.setCell ⟨w.heap.size + 1, 0, none⟩ (.bool a)).setCell ⟨w.heap.size + 1, 1, none⟩ (.int .i64 x)).setCell ⟨w.heap.size + 1, 2, none⟩ (.int .i64 y)).setCell ⟨w.heap.size + 1, 3, none⟩ u
    (W.cell? ⟨w.heap.size + 1, 0, none⟩ = some (.bool a) ∧ W.cell? ⟨w.heap.size + 1, 1, none⟩ = some (.int .i64 x) ∧ W.cell? ⟨w.heap.size + 1, 2, none⟩ = some (.int .i64 y) ∧ W.cell? ⟨w.heap.size + 1, 3, none⟩ = some u) ∧ Below w.heap.size w W ∧ ∀ B ps z, w.heap.size + 1 < B → OwnPM wr B ps z → OwnPM W B ps z := by
  intro W
  obtain ⟨b0, b1, b2, b3⟩ := h.res
  have hn : ∀ {i j : Nat}, i ≠ j → (⟨w.heap.size + 1, i, none⟩ : Addr) ≠ ⟨w.heap.size + 1, j, none⟩ := fun e q => e (congrArg Addr.off q)
  refine ⟨⟨?_, ?_, ?_, ?_⟩, (((h.below.setCell (show w.heap.size ≤ w.heap.size + 1 by omega) _).setCell (show w.heap.size ≤ w.heap.size + 1 by omega) _).setCell (show w.heap.size ≤ w.heap.size + 1 by omega) _).setCell (show w.heap.size ≤ w.heap.size + 1 by omega) _, fun B ps z hB ho => (((ho.set hB).set hB).set hB).set hB⟩
  · show World.cell? (World.setCell _ _ _) _ = _
    rw [World.cell?_setCell_other _ _ _ _ (hn (by omega)), World.cell?_setCell_other _ _ _ _ (hn (by omega)), World.cell?_setCell_other _ _ _ _ (hn (by omega)), World.cell?_setCell_same _ _ _ b0]
  · show World.cell? (World.setCell _ _ _) _ = _
    rw [World.cell?_setCell_other _ _ _ _ (hn (by omega)), World.cell?_setCell_other _ _ _ _ (hn (by omega))]
    exact World.cell?_setCell_same _ _ _ (by rw [World.cell?_setCell_other _ _ _ _ (hn (by omega))]; exact b1)
  · show World.cell? (World.setCell _ _ _) _ = _
    rw [World.cell?_setCell_other _ _ _ _ (hn (by omega))]
    exact World.cell?_setCell_same _ _ _ (by rw [World.cell?_setCell_other _ _ _ _ (hn (by omega)), World.cell?_setCell_other _ _ _ _ (hn (by omega))]; exact b2)
  · exact World.cell?_setCell_same _ _ _ (by rw [World.cell?_setCell_other _ _ _ _ (hn (by omega)), World.cell?_setCell_other _ _ _ _ (hn (by omega)), World.cell?_setCell_other _ _ _ _ (hn (by omega))]; exact b3)

/-- The error of an operation on a list; what is answered beside it. -/
def doErr (ps : PL) (o : OpD) : Int := if ckErr ps = 0 then kdErr o.kind else 11
def doL (ps : PL) (o : OpD) : PL := if doErr ps o = 0 then stepL ps o else []
def doR (ps : PL) (o : OpD) : RetD := if doErr ps o = 0 then stepR ps o else RetD.zero
theorem OwnPM.nil (w : World) (B : Nat) : OwnPM w B [] (.slice none 0 0) := ⟨none, 0, 0, rfl, fun q => absurd rfl q, pairs_noneM _, fun _ => rfl⟩
def DoP (f : FuncId) (base : Option Addr) (c : Nat) (ps : PL) (o : OpD) (w : World) : Prop :=
  Calls Tryd.prog f #[.slice base ps.length c, .agg #[.int .i64 o.kind, .int .i64 o.key, .int .i64 o.val, .int .i64 o.hi]] w fun e w' => ∃ v1 a2 n2 c2, e = .returned (.tuple #[v1, .agg #[.bool (doR ps o).ok, .int .i64 (doR ps o).key, .int .i64 (doR ps o).val, .slice a2 n2 c2], .int .i64 (doErr ps o)]) ∧ Below w.heap.size w w' ∧ OwnPM w' w.heap.size (doL ps o) v1 ∧ OwnPM w' w.heap.size (doR ps o).pairs (.slice a2 n2 c2)

set_option maxRecDepth 100000 in
set_option maxHeartbeats 4000000 in
theorem rDo_any (base : Option Addr) (b o c : Nat) (ps : PL) (op : OpD) (w : World) (h : PairsAt w base b o ps) (hnil : base = none → ps.length = 0 ∧ c = 0) (hby : (ps.length + 2) * 16 ≤ 140737488355328) : DoP 89 base c ps op w := by
  obtain ⟨kind, key, val, hi⟩ := op
  have HA : Hid _ := h
  have HNIL : Hid _ := hnil
  clear h hnil
  have S0 := StB.made w ⟨kind, key, val, hi⟩ 43 45
  have HS0 : Hid (StB _ _ _) := S0
  clear S0
  unfold DoP
  by_cases hc : ckErr ps = 0
  · by_cases hk : kdErr kind = 0
    · have E0 : doErr ps ⟨kind, key, val, hi⟩ = 0 := by unfold doErr; rw [if_pos hc]; exact hk
      have EL : doL ps ⟨kind, key, val, hi⟩ = stepL ps ⟨kind, key, val, hi⟩ := by unfold doL; rw [if_pos E0]
      have ER : doR ps ⟨kind, key, val, hi⟩ = stepR ps ⟨kind, key, val, hi⟩ := by unfold doR; rw [if_pos E0]
      rw [E0, EL, ER]
      clear E0 EL ER
      obtain ⟨r, hr⟩ : ∃ r, r = stepR ps ⟨kind, key, val, hi⟩ := ⟨_, rfl⟩
      obtain ⟨L, hL⟩ : ∃ L, L = stepL ps ⟨kind, key, val, hi⟩ := ⟨_, rfl⟩
      rw [← hr, ← hL]
      have HR : Hid _ := hr
      have HL : Hid _ := hL
      clear hr hL
      have q1 : (ckErr ps != 0) = false := by simp [hc]
      have q2 : (kdErr kind != 0) = false := by simp [hk]
      have HC : Hid _ := hc
      have HK : Hid _ := hk
      clear hc hk
      go_enter Tryd.func89, Tryd.ntmps89
      go_wp2_with fail
      refine (rcheck_anyM base b o c ps _ (HA.out.below HS0.out.below)).mono ?_
      rintro e w1 ⟨rfl, hb1⟩
      have S1 := HS0.out.low hb1 (by simp)
      have HS1 : Hid (StB _ _ _) := S1
      obtain ⟨a0, a1, a2, a3⟩ := S1.op
      have z1 := S1.size
      simp only at a0 a1 a2 a3
      clear S1 hb1
      go_wp2_with fail
      refine (rkind_any kind _).mono ?_
      rintro e w2 ⟨rfl, rfl⟩
      go_wp2_with fail
      have SP := rStep_any base b o c ps ⟨kind, key, val, hi⟩ w1 (HA.out.below HS1.out.below) HNIL.out hby (ckErr_zero.1 HC.out) HK.out
      unfold StepP at SP
      rw [← HR.out, ← HL.out] at SP
      refine SP.mono ?_
      clear SP
      rintro e w3 ⟨v1, v2, rfl, hb3, ho1, ho2⟩
      obtain ⟨x2, g2, k2, rfl, hq⟩ := ho2
      have P2 : Hid (OwnPM w3 w1.heap.size r.pairs (.slice x2 r.pairs.length k2)) := ⟨x2, g2, k2, rfl, hq⟩
      have P1 : Hid (OwnPM w3 w1.heap.size L v1) := ho1
      clear hq ho1
      have S3 := HS1.out.low hb3 z1
      have HS3 : Hid (StB _ _ _) := S3
      have z3 := hb3.size
      obtain ⟨W4, hW4⟩ : ∃ W4, W4 = w3.alloc (.cells #[.bool r.ok, .int .i64 r.key, .int .i64 r.val, .slice x2 r.pairs.length k2] 45) := ⟨_, rfl⟩
      have b4 : Below w3.heap.size w3 W4 := by rw [hW4]; exact below_allocM _ _
      have c0 : W4.cell? ⟨w3.heap.size, 0, none⟩ = some (.bool r.ok) := by rw [hW4]; exact cell_newM w3 _ _ 0
      have c1 : W4.cell? ⟨w3.heap.size, 1, none⟩ = some (.int .i64 r.key) := by rw [hW4]; exact cell_newM w3 _ _ 1
      have c2 : W4.cell? ⟨w3.heap.size, 2, none⟩ = some (.int .i64 r.val) := by rw [hW4]; exact cell_newM w3 _ _ 2
      have c3 : W4.cell? ⟨w3.heap.size, 3, none⟩ = some (.slice x2 r.pairs.length k2) := by rw [hW4]; exact cell_newM w3 _ _ 3
      have z4 : w3.heap.size < W4.heap.size := by rw [hW4]; simp
      have S4 := S3.low b4 (by omega)
      have HS4 : Hid (StB _ _ _) := S4
      have P14 : Hid (OwnPM W4 w1.heap.size L v1) := P1.out.below b4
      have P24 : Hid (OwnPM W4 w1.heap.size r.pairs (.slice x2 r.pairs.length k2)) := P2.out.below b4
      clear S3 hb3 b4
      go_wp2_with fail
      rw [← hW4]
      clear hW4 a0 a1 a2 a3
      obtain ⟨b0, b1, b2, b3⟩ := S4.res
      have fr := fun i => S4.free i
      have z5 := S4.size
      have HF : Hid _ := HS4.out.fin r.ok r.key r.val (.slice x2 r.pairs.length k2)
      clear S4
      go_region
      obtain ⟨⟨q0, q1, q2, q3⟩, hbf, hof⟩ := HF.out
      have HBF : Hid _ := hbf
      have HOF : Hid _ := hof
      clear hbf hof
      go_wp2_with fail
      refine bodyPost_ret (v := .tuple #[v1, .agg #[.bool r.ok, .int .i64 r.key, .int .i64 r.val, .slice x2 r.pairs.length k2], .int .i64 0]) (by simp [results, Tryd.results89, go_sem, q0, q1, q2, q3]) rfl ⟨v1, x2, r.pairs.length, k2, rfl, HBF.out.drew, OwnPM.down (B := w1.heap.size) ((HOF.out w1.heap.size _ _ (by omega) P14.out).below (Below.refl _ _).drew) (by omega), OwnPM.down (B := w1.heap.size) ((HOF.out w1.heap.size _ _ (by omega) P24.out).below (Below.refl _ _).drew) (by omega)⟩
    · have E0 : doErr ps ⟨kind, key, val, hi⟩ = 5 := by unfold doErr; rw [if_pos hc]; unfold kdErr at hk ⊢; split at hk; rw [if_pos (by assumption)]; exact absurd rfl hk
      have EL : doL ps ⟨kind, key, val, hi⟩ = [] := by unfold doL; rw [if_neg (by rw [E0]; omega)]
      have ER : doR ps ⟨kind, key, val, hi⟩ = RetD.zero := by unfold doR; rw [if_neg (by rw [E0]; omega)]
      rw [E0, EL, ER]
      clear E0 EL ER
      have q1 : (ckErr ps != 0) = false := by simp [hc]
      have q2 : (kdErr kind != 0) = true := by simp [hk]
      clear hc hk
      go_enter Tryd.func89, Tryd.ntmps89
      go_wp2_with fail
      refine (rcheck_anyM base b o c ps _ (HA.out.below HS0.out.below)).mono ?_
      rintro e w1 ⟨rfl, hb1⟩
      have S1 := HS0.out.low hb1 (by simp)
      have HS1 : Hid (StB _ _ _) := S1
      obtain ⟨a0, a1, a2, a3⟩ := S1.op
      obtain ⟨b0, b1, b2, b3⟩ := S1.res
      have fr := fun i => S1.free i
      have z1 := S1.size
      simp only at a0 a1 a2 a3
      have HF : Hid _ := HS1.out.fin false 0 0 (.slice none 0 0)
      clear S1 hb1
      go_wp2_with fail
      refine (rkind_any kind _).mono ?_
      rintro e w2 ⟨rfl, rfl⟩
      go_wp2_with fail
      obtain ⟨⟨q0, q1, q2, q3⟩, hbf, hof⟩ := HF.out
      refine bodyPost_ret (v := .tuple #[.slice none 0 0, .agg #[.bool false, .int .i64 0, .int .i64 0, .slice none 0 0], .int .i64 5]) (by simp [results, Tryd.results89, go_sem, q0, q1, q2, q3]) rfl ⟨_, none, 0, 0, rfl, hbf, OwnPM.nil _ _, OwnPM.nil _ _⟩
  · have E0 : doErr ps ⟨kind, key, val, hi⟩ = 11 := by unfold doErr; rw [if_neg hc]
    have EL : doL ps ⟨kind, key, val, hi⟩ = [] := by unfold doL; rw [if_neg (by rw [E0]; omega)]
    have ER : doR ps ⟨kind, key, val, hi⟩ = RetD.zero := by unfold doR; rw [if_neg (by rw [E0]; omega)]
    rw [E0, EL, ER]
    clear E0 EL ER
    have q1 : (ckErr ps != 0) = true := by simp [hc]
    clear hc
    go_enter Tryd.func89, Tryd.ntmps89
    go_wp2_with fail
    refine (rcheck_anyM base b o c ps _ (HA.out.below HS0.out.below)).mono ?_
    rintro e w1 ⟨rfl, hb1⟩
    have S1 := HS0.out.low hb1 (by simp)
    have HS1 : Hid (StB _ _ _) := S1
    obtain ⟨b0, b1, b2, b3⟩ := S1.res
    have fr := fun i => S1.free i
    have z1 := S1.size
    have HF : Hid _ := HS1.out.fin false 0 0 (.slice none 0 0)
    clear S1 hb1
    go_wp2_with fail
    obtain ⟨⟨q0, q1, q2, q3⟩, hbf, hof⟩ := HF.out
    refine bodyPost_ret (v := .tuple #[.slice none 0 0, .agg #[.bool false, .int .i64 0, .int .i64 0, .slice none 0 0], .int .i64 11]) (by simp [results, Tryd.results89, go_sem, q0, q1, q2, q3]) rfl ⟨_, none, 0, 0, rfl, hbf, OwnPM.nil _ _, OwnPM.nil _ _⟩
end Go.Proofs.YtcphajjonecmbaaDoor

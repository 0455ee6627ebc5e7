/- Layer 6: the program's Do and Fits. -/
import Derived.Test.YtjpfgfcggekklaaMG12
import Derived.Test.YtjpfgfcggekklaaMD2
import Derived.Deep.RegionHeld3
namespace Go.Proofs.Ytjpfgfcggekklaa
open Go.RowKit

set_option maxRecDepth 100000 in
set_option maxHeartbeats 2000000 in
theorem pDo_any (base : Option Addr) (b o c : Nat) (ps : PL) (op : OpD) (w : World) (h : PairsAt w base b o ps) (hnil : NilOk base ps.length c) (hcap : ps.length ≤ c) (hcm : c ≤ maxLen) (hby : (ps.length + 2) * 16 ≤ 140737488355328) : DoP 31 base c ps op w := by
  obtain ⟨kind, key, val, hi⟩ := op
  have HA : Hid _ := h
  have HU : Hid (NilOk base ps.length c ∧ ps.length ≤ c ∧ c ≤ maxLen ∧ ps.length * 16 ≤ 140737488355328 ∧ (ps.length + 1) * 16 ≤ 140737488355328) := ⟨hnil, hcap, hcm, by omega, by omega⟩
  clear h hnil hcap hcm
  have S0 := StB.made w ⟨kind, key, val, hi⟩ 25 27
  obtain ⟨W0, hW0⟩ : ∃ W0, W0 = (w.alloc (.cells #[.int .i64 kind, .int .i64 key, .int .i64 val, .int .i64 hi] 25)).alloc (.cells #[.bool false, .int .i64 0, .int .i64 0, .slice none 0 0] 27) := ⟨_, rfl⟩
  simp only at S0
  rw [← hW0] at S0
  have HS0 : Hid (StB _ _ _) := S0
  have zz0 : W0.heap.size = w.heap.size + 2 := by rw [hW0]; simp
  obtain ⟨W1, hW1⟩ : ∃ W1, W1 = W0.alloc (.cells #[.int .i64 kind, .int .i64 key, .int .i64 val, .int .i64 hi] 25) := ⟨_, rfl⟩
  have b01 : Below W0.heap.size W0 W1 := by rw [hW1]; exact below_alloc _ _
  have HS1 : Hid (StB W1 w ⟨kind, key, val, hi⟩) := S0.low b01 S0.size
  have OPS : Hid (OpsAt W1 (some ⟨W0.heap.size, 0, none⟩) W0.heap.size 0 [⟨kind, key, val, hi⟩]) := ops_one (by rw [hW1]; simp) ⟨by rw [hW1]; exact cell_new W0 _ _ 0, by rw [hW1]; exact cell_new W0 _ _ 1, by rw [hW1]; exact cell_new W0 _ _ 2, by rw [hW1]; exact cell_new W0 _ _ 3⟩
  have REF : Hid (Calls Try.prog 58 #[.slice base ps.length c, .slice (some ⟨w.heap.size + 2, 0, none⟩) 1 1] W1 fun e w' => e = .returned (.int .i64 (doErr ps ⟨kind, key, val, hi⟩)) ∧ Below W1.heap.size W1 w') := by
    have := refusal_any base b o c ps _ _ _ 1 _ W1 (HA.out.below HS1.out.below) OPS.out
    rw [runErr_one, zz0] at this
    exact this
  clear S0 b01 OPS zz0
  unfold DoP
  by_cases he : doErr ps ⟨kind, key, val, hi⟩ = 0
  · have hck : ckErr ps = 0 := by
      rcases ckErr_cases ps with q | q
      · exact q
      · unfold doErr at he; rw [if_neg (by rw [q]; omega)] at he; cases he
    have hkd : kdErr kind = 0 := by unfold doErr at he; rw [if_pos hck] at he; exact he
    have hsr : Srt ps := ckErr_zero.1 hck
    have EL : doL ps ⟨kind, key, val, hi⟩ = stepL ps ⟨kind, key, val, hi⟩ := by unfold doL; rw [if_pos he]
    have ER : doR ps ⟨kind, key, val, hi⟩ = stepR ps ⟨kind, key, val, hi⟩ := by unfold doR; rw [if_pos he]
    have SL := stepL_length ps ⟨kind, key, val, hi⟩
    have CLO : Hid (∀ W, PairsAt W base b o ps → Calls Try.prog 43 #[.slice base ps.length c] W fun e w' => ∃ v, e = .returned v ∧ w'.ownsRow W.heap.size 59 2 v ps.length (pairCells ps) ∧ Below W.heap.size W w') := fun W hW => clone_own base b o c ps W hW HU.out.1 HU.out.2.2.2.1
    have CHG : Hid (∀ (W : World) (B : Nat) (v : Value), W.ownsRow B 59 2 v ps.length (pairCells ps) → B ≤ W.heap.size → Calls Try.prog 59 #[v, .agg #[.int .i64 kind, .int .i64 key, .int .i64 val, .int .i64 hi]] W (InsP W B v (stepL ps ⟨kind, key, val, hi⟩))) := fun W B v hO hB => chg_any ⟨kind, key, val, hi⟩ hO hsr HU.out.2.2.2.2 hB
    have ANS : Hid (∀ W, PairsAt W base b o ps → AnsP base c ps ⟨kind, key, val, hi⟩ W) := fun W hW => ans_any base b o c ps ⟨kind, key, val, hi⟩ W hW hsr HU.out.1 HU.out.2.1 HU.out.2.2.1 HU.out.2.2.2.1 hkd
    unfold AnsP at ANS
    rw [he] at REF
    rw [he, EL, ER]
    obtain ⟨L, hL⟩ : ∃ L, L = stepL ps ⟨kind, key, val, hi⟩ := ⟨_, rfl⟩
    obtain ⟨r, hr⟩ : ∃ r, r = stepR ps ⟨kind, key, val, hi⟩ := ⟨_, rfl⟩
    rw [← hr] at ANS ⊢
    rw [← hL] at CHG SL ⊢
    have hLm : L.length ≤ maxLen := by unfold maxLen; omega
    clear hL hr he EL ER hck hkd hsr SL
    simp only at ANS
    go_enter Try.func31, Try.ntmps31
    go_wp2_with fail
    rw [← hW0, ← hW1]
    refine REF.out.mono ?_
    rintro e w1 ⟨rfl, hb1⟩
    have S1 := HS1.out.low hb1 HS1.out.size
    have HS2 : Hid (StB _ _ _) := S1
    obtain ⟨a0, a1, a2, a3⟩ := S1.op
    have z1 := S1.size
    simp only at a0 a1 a2 a3
    clear S1 hb1 hW0 hW1
    have HS2d : Hid (StB w1.drew w ⟨kind, key, val, hi⟩) := HS2.out.low (B := w1.heap.size) (Below.refl _ _).drew z1
    go_wp2_with fail
    go_region_held3 (fun w' => w'.cell? ⟨w.heap.size, 0, none⟩ = some (.int .i64 kind) ∧ w'.cell? ⟨w.heap.size, 1, none⟩ = some (.int .i64 key) ∧ w'.cell? ⟨w.heap.size, 2, none⟩ = some (.int .i64 val) ∧ w'.cell? ⟨w.heap.size, 3, none⟩ = some (.int .i64 hi))
      (first
        | (with_reducible exact X4.out)
        | (with_reducible exact X3.out)
        | (with_reducible exact X2.out)
        | go_keep)
      (first
        | (go_at_call 43; refine (CLO.out _ (HA.out.below HS2d.out.below)).mono ?_; rintro e w2 ⟨v2, rfl, ho2, hb2⟩; have HS3 : Hid (StB w2 w ⟨kind, key, val, hi⟩) := HS2d.out.low hb2 z1; have X2 : Hid (w2.cell? ⟨w.heap.size, 0, none⟩ = some (.int .i64 kind) ∧ w2.cell? ⟨w.heap.size, 1, none⟩ = some (.int .i64 key) ∧ w2.cell? ⟨w.heap.size, 2, none⟩ = some (.int .i64 val) ∧ w2.cell? ⟨w.heap.size, 3, none⟩ = some (.int .i64 hi)) := HS3.out.op; have HO2 : Hid (World.ownsRow _ _ _ _ _ _ _) := ho2; have HB2 : Hid (Below _ _ _) := hb2; clear ho2 hb2)
        | (go_at_call 59; refine (CHG.out w2 w1.heap.size v2 HO2.out HB2.out.size).mono ?_; rintro e w3 ⟨v3, rfl, ho3, hg3, hk3⟩; have HB3 : Hid (Below w1.heap.size w1.drew w3) := Below.grown HB2.out hg3 HB2.out.size (owns_ge HO2.out); have HS4 : Hid (StB w3 w ⟨kind, key, val, hi⟩) := HS2d.out.low HB3.out z1; have X3 : Hid (w3.cell? ⟨w.heap.size, 0, none⟩ = some (.int .i64 kind) ∧ w3.cell? ⟨w.heap.size, 1, none⟩ = some (.int .i64 key) ∧ w3.cell? ⟨w.heap.size, 2, none⟩ = some (.int .i64 val) ∧ w3.cell? ⟨w.heap.size, 3, none⟩ = some (.int .i64 hi)) := HS4.out.op; have HO3 : Hid (World.ownsRow _ _ _ _ _ _ _) := ho3; clear ho3 hg3 hk3)
        | (go_at_call 60; refine (ANS.out w3 (HA.out.below HS4.out.below)).mono ?_; rintro e w4 ⟨a4, n4, k4, rfl, hb4, ho4⟩; have HS5 : Hid (StB w4 w ⟨kind, key, val, hi⟩) := HS4.out.low hb4 HS4.out.size; have P1 : Hid (OwnP w4 w1.heap.size L v3) := own_of_row (owns_below HO3.out hb4) hLm; have z3 : w1.heap.size ≤ w3.heap.size := HB3.out.size; have P2 : Hid (OwnP w4 w3.heap.size r.pairs (.slice a4 n4 k4)) := ho4; have X4 : Hid (w4.cell? ⟨w.heap.size, 0, none⟩ = some (.int .i64 kind) ∧ w4.cell? ⟨w.heap.size, 1, none⟩ = some (.int .i64 key) ∧ w4.cell? ⟨w.heap.size, 2, none⟩ = some (.int .i64 val) ∧ w4.cell? ⟨w.heap.size, 3, none⟩ = some (.int .i64 hi)) := HS5.out.op; obtain ⟨x0, x1, x2, x3⟩ := HS5.out.op; simp only at x0 x1 x2 x3; obtain ⟨b0, b1, b2, b3⟩ := HS5.out.res; have fr := fun i => HS5.out.free i; have z4 := HS5.out.size; clear ho4 hb4))
    have HF : Hid _ := HS5.out.fin r.ok r.key r.val (.slice a4 n4 k4)
    go_wp2_with fail
    obtain ⟨⟨q0, q1, q2, q3⟩, hbf, hof⟩ := HF.out
    refine bodyPost_ret (v := .tuple #[v3, .agg #[.bool r.ok, .int .i64 r.key, .int .i64 r.val, .slice a4 n4 k4], .int .i64 0]) (by simp [results, Try.results31, go_sem, q0, q1, q2, q3]) rfl ⟨v3, a4, n4, k4, rfl, hbf, (hof w1.heap.size _ _ z1 P1.out).down (by omega), (hof w3.heap.size _ _ (by omega) P2.out).down (by omega)⟩
  · have EL : doL ps ⟨kind, key, val, hi⟩ = [] := by unfold doL; rw [if_neg he]
    have ER : doR ps ⟨kind, key, val, hi⟩ = RetD.zero := by unfold doR; rw [if_neg he]
    rw [EL, ER]
    have q1 : (doErr ps ⟨kind, key, val, hi⟩ != 0) = true := by simp [he]
    obtain ⟨E, hE⟩ : ∃ E, E = doErr ps ⟨kind, key, val, hi⟩ := ⟨_, rfl⟩
    rw [← hE] at REF q1 ⊢
    clear he hE EL ER
    go_enter Try.func31, Try.ntmps31
    go_wp2_with fail
    rw [← hW0, ← hW1]
    refine REF.out.mono ?_
    rintro e w1 ⟨rfl, hb1⟩
    have S1 := HS1.out.low hb1 HS1.out.size
    have HS2 : Hid (StB _ _ _) := S1
    obtain ⟨b0, b1, b2, b3⟩ := S1.res
    have fr := fun i => S1.free i
    have z1 := S1.size
    clear S1 hb1 hW0 hW1
    have HF : Hid _ := HS2.out.fin false 0 0 (.slice none 0 0)
    go_wp2_with fail
    obtain ⟨⟨q0, q1, q2, q3⟩, hbf, hof⟩ := HF.out
    refine bodyPost_ret (v := .tuple #[.slice none 0 0, .agg #[.bool false, .int .i64 0, .int .i64 0, .slice none 0 0], .int .i64 E]) (by simp [results, Try.results31, go_sem, q0, q1, q2, q3]) rfl ⟨_, none, 0, 0, rfl, hbf, OwnP.nil _ _, OwnP.nil _ _⟩
end Go.Proofs.Ytjpfgfcggekklaa

/- Layer 6: the program's Fits. -/
import Derived.Test.YtjpfgfcggekklaaMG13
namespace Go.Proofs.Ytjpfgfcggekklaa
open Go.RowKit

set_option maxRecDepth 100000 in
set_option maxHeartbeats 2000000 in
theorem pFits_any (base : Option Addr) (b o c : Nat) (ps : PL) (op : OpD) (r : RetD) (ra : Option Addr) (rg ro rc : Nat) (w : World) (h : PairsAt w base b o ps) (hnil : NilOk base ps.length c) (hcap : ps.length ≤ c) (hcm : c ≤ maxLen) (hby : (ps.length + 2) * 16 ≤ 140737488355328) (hrp : PairsAt w ra rg ro r.pairs) :
    Calls Try.prog 37 #[.slice base ps.length c, .agg #[.int .i64 op.kind, .int .i64 op.key, .int .i64 op.val, .int .i64 op.hi], .agg #[.bool r.ok, .int .i64 r.key, .int .i64 r.val, .slice ra r.pairs.length rc]] w fun e w' => e = .returned (.tuple #[.bool (fitB ps op r), .int .i64 (doErr ps op)]) ∧ Below w.heap.size w w' := by
  obtain ⟨kind, key, val, hi⟩ := op
  have HA : Hid _ := h
  have HRP : Hid (PairsAt _ _ _ _ _) := hrp
  have HU : Hid (NilOk base ps.length c ∧ ps.length ≤ c ∧ c ≤ maxLen ∧ ps.length * 16 ≤ 140737488355328) := ⟨hnil, hcap, hcm, by omega⟩
  clear h hnil hcap hcm hrp
  obtain ⟨WA, hWA⟩ : ∃ WA, WA = w.alloc (.cells #[.int .i64 kind, .int .i64 key, .int .i64 val, .int .i64 hi] 25) := ⟨_, rfl⟩
  have zA : WA.heap.size = w.heap.size + 1 := by rw [hWA]; simp
  obtain ⟨W0, hW0⟩ : ∃ W0, W0 = WA.alloc (.cells #[.bool r.ok, .int .i64 r.key, .int .i64 r.val, .slice ra r.pairs.length rc] 27) := ⟨_, rfl⟩
  have zz0 : W0.heap.size = w.heap.size + 2 := by rw [hW0]; simp [zA]
  have bA : Below w.heap.size w WA := by rw [hWA]; exact below_alloc _ _
  have b0 : Below WA.heap.size WA W0 := by rw [hW0]; exact below_alloc _ _
  have BW : Hid (Below w.heap.size w W0) := bA.trans (b0.mono bA.size)
  obtain ⟨W1, hW1⟩ : ∃ W1, W1 = W0.alloc (.cells #[.int .i64 kind, .int .i64 key, .int .i64 val, .int .i64 hi] 25) := ⟨_, rfl⟩
  have b01 : Below W0.heap.size W0 W1 := by rw [hW1]; exact below_alloc _ _
  have B1 : Hid (Below W0.heap.size W0 W1) := b01
  have OPS : Hid (OpsAt W1 (some ⟨W0.heap.size, 0, none⟩) W0.heap.size 0 [⟨kind, key, val, hi⟩]) := ops_one (by rw [hW1]; simp) ⟨by rw [hW1]; exact cell_new W0 _ _ 0, by rw [hW1]; exact cell_new W0 _ _ 1, by rw [hW1]; exact cell_new W0 _ _ 2, by rw [hW1]; exact cell_new W0 _ _ 3⟩
  have REF : Hid (Calls Try.prog 58 #[.slice base ps.length c, .slice (some ⟨w.heap.size + 2, 0, none⟩) 1 1] W1 fun e w' => e = .returned (.int .i64 (doErr ps ⟨kind, key, val, hi⟩)) ∧ Below W1.heap.size W1 w') := by
    have := refusal_any base b o c ps _ _ _ 1 _ W1 ((HA.out.below BW.out).below B1.out) OPS.out
    rw [runErr_one, zz0] at this
    exact this
  have CELLS : Hid (∀ w' : World, Below W0.heap.size W0 w' → w'.cell? ⟨w.heap.size, 0, none⟩ = some (.int .i64 kind) ∧ w'.cell? ⟨w.heap.size, 1, none⟩ = some (.int .i64 key) ∧ w'.cell? ⟨w.heap.size, 2, none⟩ = some (.int .i64 val) ∧ w'.cell? ⟨w.heap.size, 3, none⟩ = some (.int .i64 hi) ∧ w'.cell? ⟨w.heap.size + 1, 0, none⟩ = some (.bool r.ok) ∧ w'.cell? ⟨w.heap.size + 1, 1, none⟩ = some (.int .i64 r.key) ∧ w'.cell? ⟨w.heap.size + 1, 2, none⟩ = some (.int .i64 r.val) ∧ w'.cell? ⟨w.heap.size + 1, 3, none⟩ = some (.slice ra r.pairs.length rc)) := by
    intro w' hb
    have ca : ∀ k, w'.cell? ⟨w.heap.size, k, none⟩ = (#[.int .i64 kind, .int .i64 key, .int .i64 val, .int .i64 hi] : Array Value)[k]? := fun k => by
      rw [hb.cell (p := ⟨w.heap.size, k, none⟩) (show w.heap.size < _ by omega), b0.cell (p := ⟨w.heap.size, k, none⟩) (show w.heap.size < _ by omega), hWA]
      exact cell_new w _ _ k
    have cb : ∀ k, w'.cell? ⟨w.heap.size + 1, k, none⟩ = (#[.bool r.ok, .int .i64 r.key, .int .i64 r.val, .slice ra r.pairs.length rc] : Array Value)[k]? := fun k => by
      rw [hb.cell (p := ⟨w.heap.size + 1, k, none⟩) (show w.heap.size + 1 < _ by omega), ← zA, hW0]
      exact cell_new WA _ _ k
    exact ⟨ca 0, ca 1, ca 2, ca 3, cb 0, cb 1, cb 2, cb 3⟩
  have zle : w.heap.size ≤ W0.heap.size := by omega
  clear b01 OPS bA b0 zA zz0
  by_cases he : doErr ps ⟨kind, key, val, hi⟩ = 0
  · have hck : ckErr ps = 0 := by
      rcases ckErr_cases ps with q | q
      · exact q
      · unfold doErr at he; rw [if_neg (by rw [q]; omega)] at he; cases he
    have hkd : kdErr kind = 0 := by unfold doErr at he; rw [if_pos hck] at he; exact he
    have hsr : Srt ps := ckErr_zero.1 hck
    have EF : fitB ps ⟨kind, key, val, hi⟩ r = retEq (stepR ps ⟨kind, key, val, hi⟩) r := by unfold fitB; rw [if_pos he, retEq_comm]; unfold doR; rw [if_pos he]
    have ANS : Hid (∀ W, PairsAt W base b o ps → AnsP base c ps ⟨kind, key, val, hi⟩ W) := fun W hW => ans_any base b o c ps ⟨kind, key, val, hi⟩ W hW hsr HU.out.1 HU.out.2.1 HU.out.2.2.1 HU.out.2.2.2 hkd
    unfold AnsP at ANS
    rw [he] at REF
    rw [he, EF]
    obtain ⟨r', hr⟩ : ∃ r', r' = stepR ps ⟨kind, key, val, hi⟩ := ⟨_, rfl⟩
    rw [← hr] at ANS ⊢
    clear hr he EF hck hkd hsr
    simp only at ANS
    go_enter Try.func37, Try.ntmps37
    go_wp2_with fail
    rw [← hWA, ← hW0, ← hW1]
    refine REF.out.mono ?_
    rintro e w1 ⟨rfl, hb1⟩
    have HB1 : Hid (Below W0.heap.size W0 w1) := B1.out.trans (hb1.mono B1.out.size)
    have HB1d : Hid (Below W0.heap.size W0 w1.drew) := HB1.out.drew
    obtain ⟨a0, a1, a2, a3, a4, a5, a6, a7⟩ := CELLS.out _ HB1.out
    have z1 := HB1.out.size
    clear hb1 hWA hW0 hW1
    go_wp2_with fail
    go_region_held3 (fun w' => w'.cell? ⟨w.heap.size, 0, none⟩ = some (.int .i64 kind) ∧ w'.cell? ⟨w.heap.size, 1, none⟩ = some (.int .i64 key) ∧ w'.cell? ⟨w.heap.size, 2, none⟩ = some (.int .i64 val) ∧ w'.cell? ⟨w.heap.size, 3, none⟩ = some (.int .i64 hi) ∧ w'.cell? ⟨w.heap.size + 1, 0, none⟩ = some (.bool r.ok) ∧ w'.cell? ⟨w.heap.size + 1, 1, none⟩ = some (.int .i64 r.key) ∧ w'.cell? ⟨w.heap.size + 1, 2, none⟩ = some (.int .i64 r.val) ∧ w'.cell? ⟨w.heap.size + 1, 3, none⟩ = some (.slice ra r.pairs.length rc))
      (first
        | (with_reducible exact X5.out)
        | (with_reducible exact X4.out)
        | go_keep)
      (first
        | (go_at_call 60; refine (ANS.out w1.drew (HA.out.below (BW.out.trans (HB1d.out.mono zle)))).mono ?_; rintro e w4 ⟨a4, n4, k4, rfl, hb4, ho4⟩; obtain ⟨rfl, g4, hp4⟩ := ho4.pairs; have HP4 : Hid (PairsAt _ _ _ _ _) := hp4; have HB4 : Hid (Below W0.heap.size W0 w4) := HB1d.out.trans (hb4.mono z1); have X4 : Hid (w4.cell? ⟨w.heap.size, 0, none⟩ = some (.int .i64 kind) ∧ w4.cell? ⟨w.heap.size, 1, none⟩ = some (.int .i64 key) ∧ w4.cell? ⟨w.heap.size, 2, none⟩ = some (.int .i64 val) ∧ w4.cell? ⟨w.heap.size, 3, none⟩ = some (.int .i64 hi) ∧ w4.cell? ⟨w.heap.size + 1, 0, none⟩ = some (.bool r.ok) ∧ w4.cell? ⟨w.heap.size + 1, 1, none⟩ = some (.int .i64 r.key) ∧ w4.cell? ⟨w.heap.size + 1, 2, none⟩ = some (.int .i64 r.val) ∧ w4.cell? ⟨w.heap.size + 1, 3, none⟩ = some (.slice ra r.pairs.length rc)) := CELLS.out _ HB4.out; clear ho4 hb4 hp4)
        | (go_at_call 29; refine (psameRet_any a4 ra g4 0 k4 rg ro rc r' r w4 HP4.out (HRP.out.below (BW.out.trans (HB4.out.mono zle)))).mono ?_; rintro e w5 ⟨rfl, hb5⟩; have HB5 : Hid (Below W0.heap.size W0 w5) := HB4.out.trans (hb5.mono HB4.out.size); have X5 : Hid (w5.cell? ⟨w.heap.size, 0, none⟩ = some (.int .i64 kind) ∧ w5.cell? ⟨w.heap.size, 1, none⟩ = some (.int .i64 key) ∧ w5.cell? ⟨w.heap.size, 2, none⟩ = some (.int .i64 val) ∧ w5.cell? ⟨w.heap.size, 3, none⟩ = some (.int .i64 hi) ∧ w5.cell? ⟨w.heap.size + 1, 0, none⟩ = some (.bool r.ok) ∧ w5.cell? ⟨w.heap.size + 1, 1, none⟩ = some (.int .i64 r.key) ∧ w5.cell? ⟨w.heap.size + 1, 2, none⟩ = some (.int .i64 r.val) ∧ w5.cell? ⟨w.heap.size + 1, 3, none⟩ = some (.slice ra r.pairs.length rc)) := CELLS.out _ HB5.out; clear hb5))
    go_wp2_with fail
    go_ret2
    exact ⟨rfl, BW.out.trans (HB5.out.mono zle)⟩
  · have EF : fitB ps ⟨kind, key, val, hi⟩ r = false := by unfold fitB; rw [if_neg he]
    rw [EF]
    have q1 : (doErr ps ⟨kind, key, val, hi⟩ != 0) = true := by simp [he]
    obtain ⟨E, hE⟩ : ∃ E, E = doErr ps ⟨kind, key, val, hi⟩ := ⟨_, rfl⟩
    rw [← hE] at REF q1 ⊢
    clear he hE EF
    go_enter Try.func37, Try.ntmps37
    go_wp2_with fail
    rw [← hWA, ← hW0, ← hW1]
    refine REF.out.mono ?_
    rintro e w1 ⟨rfl, hb1⟩
    have HB1 : Hid (Below W0.heap.size W0 w1) := B1.out.trans (hb1.mono B1.out.size)
    clear hb1 hWA hW0 hW1
    go_wp2_with fail
    go_ret2
    exact ⟨rfl, BW.out.trans (HB1.out.mono zle)⟩
end Go.Proofs.Ytjpfgfcggekklaa

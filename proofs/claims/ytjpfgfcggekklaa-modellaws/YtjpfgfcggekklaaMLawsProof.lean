/- Proved: whatever the Case, ModelLaws returns true, and its argument reads as before: by the landed calls alone, runs go one behind the other, put, get and delete belong together, neighbours and ends are those of ranges. -/
import Derived.Test.YtjpfgfcggekklaaMX12
import Derived.Test.YtjpfgfcggekklaaMX16
import Derived.Test.YtjpfgfcggekklaaMX23
import Derived.Test.YtjpfgfcggekklaaMX27
import Derived.Test.YtjpfgfcggekklaaMP2
import Derived.Deep.DeepCutAuto
import Derived.Deep.CutRange
import Derived.Test.YtjpfgfcggekklaaMOpen3
namespace Go.Proofs.Ytjpfgfcggekklaa
open Go.RowKit

theorem laws9 : LawsAt9 := lawsat9 (lawsat10 (lawsat11 (lawsat12 (lawsat13 (lawsat14 (lawsat15 (lawsat16 (lawsat17 (lawsat19 (lawsat20 (lawsat21 (lawsat22 (lawsat23 (lawsat24 (lawsat26 (lawsat27 ))))))))))))))))
set_option maxRecDepth 100000 in
set_option maxHeartbeats 3000000 in
theorem laws_any (ma na oa qa ra : Option Addr) (ml mc nl nc oc qc og oo qg qo mg mo rc : Nat) (ms ns : PL) (Os Qs os qs : List OpD) (op : OpD) (rt : RetD) (x y : Int) (w : World)
    (m2 : min (ml : Int) 300 = (ms.length : Int)) (n2 : min (nl : Int) 300 = (ns.length : Int)) (hmc : ms.length ≤ mc) (hnc : ns.length ≤ nc) (hms : ms.length ≤ 300) (hm : PairsAt w ma mg mo ms) (hmn : NilOk ma ms.length mc) (hos : Os.take 300 = os) (hqs : Qs.take 300 = qs)
    (ho : OpsAt w oa og oo Os) (hon : NilOk oa Os.length oc) (hoc : Os.length ≤ oc) (hq : OpsAt w qa qg qo Qs) (hqn : NilOk qa Qs.length qc) (hqc : Qs.length ≤ qc) (hkeys : ∀ p ∈ ms, (-9223372036854775808) ≤ p.1 ∧ p.1 ≤ 9223372036854775807) (hx : (-9223372036854775808) ≤ x ∧ x ≤ 9223372036854775807) :
    Calls Try.prog 5 #[.agg #[.slice ma ml mc, .slice na nl nc, .slice oa Os.length oc, .slice qa Qs.length qc, .int .i64 op.kind, .int .i64 op.key, .int .i64 op.val, .int .i64 op.hi, .bool rt.ok, .int .i64 rt.key, .int .i64 rt.val, .slice ra rt.pairs.length rc, .int .i64 x, .int .i64 y]] w fun e w' => e = .returned (.bool true) ∧ Below w.heap.size w w' := by
  have HM : Hid (PairsAt w ma mg mo ms) := hm
  have HO : Hid (OpsAt w oa og oo Os) := ho
  have HQ : Hid (OpsAt w qa qg qo Qs) := hq
  have hol : os.length ≤ 300 := by rw [← hos, List.length_take]; omega
  have hql : qs.length ≤ 300 := by rw [← hqs, List.length_take]; omega
  have hot : os.take 300 = os := List.take_of_length_le hol
  have hqt : qs.take 300 = qs := List.take_of_length_le hql
  have LESS : Hid (∀ W, OpsAt W oa og oo Os → OpsAt W qa qg qo Qs → Calls Try.prog 9 #[.agg #[.slice ma ml mc, .slice na nl nc, .slice oa Os.length oc, .slice qa Qs.length qc, .int .i64 op.kind, .int .i64 op.key, .int .i64 op.val, .int .i64 op.hi, .bool rt.ok, .int .i64 rt.key, .int .i64 rt.val, .slice ra rt.pairs.length rc, .int .i64 x, .int .i64 y]] W fun e w' => ∃ b1 c1 g1 b2 c2 g2, e = .returned (.agg #[.slice ma ms.length mc, .slice na ns.length nc, .slice b1 os.length c1, .slice b2 qs.length c2, .int .i64 op.kind, .int .i64 op.key, .int .i64 op.val, .int .i64 op.hi, .bool rt.ok, .int .i64 rt.key, .int .i64 rt.val, .slice ra rt.pairs.length rc, .int .i64 x, .int .i64 y]) ∧ Below W.heap.size W w' ∧ OpsAt w' b1 g1 0 os ∧ NilOk b1 os.length c1 ∧ os.length ≤ c1 ∧ (os.length ≠ 0 → W.heap.size ≤ g1) ∧ OpsAt w' b2 g2 0 qs ∧ NilOk b2 qs.length c2 ∧ qs.length ≤ c2 ∧ (qs.length ≠ 0 → W.heap.size ≤ g2)) := fun W h1 h2 => by
    have := less_two ma na oa qa ml mc nl nc oc qc og oo qg qo Os Qs op rt.ok rt.key rt.val x y ra rt.pairs.length rc W ms.length ns.length m2 n2 hmc hnc h1 hon hoc h2 hqn hqc
    rw [hos, hqs] at this
    exact this
  have y3 : ms.length * 16 ≤ 140737488355328 := Nat.le_trans (Nat.mul_le_mul_right 16 hms) (by decide)
  have COPM : Hid (∀ W, PairsAt W ma mg mo ms → CopQ ma mc ms W) := fun W hW => copied_any ma mg mo mc ms W hW hmn y3
  have COP : Hid (∀ X : PL, X.length ≤ 2000 → ∀ W a g k, PairsAt W a g 0 X → NilOk a X.length k → CopQ a k X W) := fun X hX W a g k h1 h2 => copied_any a g 0 k X W h1 h2 (by omega)
  unfold CopQ at COPM COP
  have FEWO : Hid (∀ W b g c, OpsAt W b g 0 os → NilOk b os.length c → os.length ≤ c → Calls Try.prog 34 #[.slice b os.length c] W fun e w' => ∃ v, e = .returned v ∧ Below W.heap.size W w' ∧ w'.ownsRow W.heap.size 25 4 v os.length (opsC os)) := fun W b g c h1 h2 h3 => by
    have := few_own b g 0 c os W h1 h2 h3
    rw [hot] at this; exact this
  have FEW1 : Hid (∀ W b g c, OpsAt W b g 0 os → NilOk b os.length c → os.length ≤ c → Calls Try.prog 34 #[.slice b os.length c] W fun e w' => ∃ base cap g, e = .returned (.slice base os.length cap) ∧ Below W.heap.size W w' ∧ OpsAt w' base g 0 os) := fun W b g c h1 h2 h3 => by
    have := few_any b g 0 c os W h1 h2 h3
    rw [hot] at this
    refine this.mono ?_
    rintro e w' ⟨base, cap, g, e1, h5, h6, _⟩
    exact ⟨base, cap, g, e1, h5, h6⟩
  have FEW2 : Hid (∀ W b g c, OpsAt W b g 0 qs → NilOk b qs.length c → qs.length ≤ c → Calls Try.prog 34 #[.slice b qs.length c] W fun e w' => ∃ base cap g, e = .returned (.slice base qs.length cap) ∧ Below W.heap.size W w' ∧ OpsAt w' base g 0 qs) := fun W b g c h1 h2 h3 => by
    have := few_any b g 0 c qs W h1 h2 h3
    rw [hqt] at this
    refine this.mono ?_
    rintro e w' ⟨base, cap, g, e1, h5, h6, _⟩
    exact ⟨base, cap, g, e1, h5, h6⟩
  obtain ⟨O, hO⟩ : ∃ z, ofL ms = z := ⟨_, rfl⟩
  have sO : Srt O := by rw [← hO]; exact ofL_srt ms
  have lO : O.length ≤ 300 := by rw [← hO]; exact Nat.le_trans (ofN_length _ _) hms
  have kO : ∀ p ∈ O, (-9223372036854775808) ≤ p.1 ∧ p.1 ≤ 9223372036854775807 := fun p hp => hkeys p (by rw [← hO] at hp; exact ofN_mem ms p _ (Nat.le_refl _) hp)
  have OF : Hid (∀ W base g cap, PairsAt W base g 0 ms → Calls Try.prog 20 #[.slice base ms.length cap] W fun e w' => ∃ a k h, e = .returned (.slice a O.length k) ∧ Below W.heap.size W w' ∧ PairsAt w' a h 0 O ∧ NilOk a O.length k) := fun W base g cap h => by
    have := Of_map base g 0 cap ms W h (by omega)
    rw [hO] at this
    refine this.mono ?_
    rintro e w' ⟨a, g', k, e1, h1, _, h2, h3⟩
    exact ⟨a, k, g', e1, h1, h2, nil_of h2 h3⟩
  have CKS : Hid (∀ X : PL, Srt X → ∀ W base g cap, PairsAt W base g 0 X → Calls Try.prog 10 #[.slice base X.length cap] W fun e w' => e = .returned (.int .i64 0) ∧ Below W.heap.size W w') := fun X hX W base g cap h => by
    have := pcheck_any base g 0 cap X W h
    rw [ckErr_zero.2 hX] at this; exact this
  obtain ⟨KE, hKE⟩ : ∃ z, kdErr op.kind = z := ⟨_, rfl⟩
  have KD : Hid (∀ W, Calls Try.prog 13 #[.int .i64 op.kind] W fun e w' => e = .returned (.int .i64 KE) ∧ W = w') := fun W => by
    have := pkind_any op.kind W
    rw [hKE] at this; exact this
  have SO : Hid (Srt O) := sO
  clear hm ho hq hmn hon hoc hqn hqc hos hqs hot hqt m2 n2 hmc hnc hms hkeys y3
  by_cases hz : KE = 0
  · have qz : (KE != 0) = false := by simp [hz]
    obtain ⟨bo, hbo⟩ : ∃ z, os ++ qs = z := ⟨_, rfl⟩
    have bol : bo.length ≤ 600 := by rw [← hbo, List.length_append]; omega
    have BOL : Hid (bo.length = os.length + qs.length ∧ opsC bo = opsC os ++ opsC qs) := ⟨by rw [← hbo, List.length_append], by rw [← hbo, opsC_app]⟩
    obtain ⟨E1, hE1⟩ : ∃ z, kErr bo = z := ⟨_, rfl⟩
    obtain ⟨L1, hL1⟩ : ∃ z, runLd O bo = z := ⟨_, rfl⟩
    obtain ⟨R1, hR1⟩ : ∃ z, runRd O bo = z := ⟨_, rfl⟩
    obtain ⟨E2, hE2⟩ : ∃ z, kErr os = z := ⟨_, rfl⟩
    obtain ⟨L2, hL2⟩ : ∃ z, runLd O os = z := ⟨_, rfl⟩
    obtain ⟨R2, hR2⟩ : ∃ z, runRd O os = z := ⟨_, rfl⟩
    obtain ⟨E3, hE3⟩ : ∃ z, kErr qs = z := ⟨_, rfl⟩
    obtain ⟨L3, hL3⟩ : ∃ z, runLd L2 qs = z := ⟨_, rfl⟩
    obtain ⟨R3, hR3⟩ : ∃ z, runRd L2 qs = z := ⟨_, rfl⟩
    have l2l : L2.length ≤ 600 := by rw [← hL2]; have := (run_len (X := O) os).1; omega
    have r2l : R2.length ≤ 300 := by rw [← hR2]; have := (run_len (X := O) os).2; omega
    have r3l : R3.length ≤ 300 := by rw [← hR3]; have := (run_len (X := L2) qs).2; omega
    have RUN1 : Hid (RunN O bo E1 L1 R1) := runN_of sO (by omega) (by omega) hE1 hL1 hR1
    have RUN2 : Hid (RunN O os E2 L2 R2) := runN_of sO (by omega) (by omega) hE2 hL2 hR2
    have RUN3 : Hid (E2 = 0 → RunN L2 qs E3 L3 R3) := fun h => by
      have s2 : Srt L2 := by
        rw [← hL2]; unfold runLd
        rw [if_pos (by rw [runErr_srt sO, hE2, h])]
        exact runL_srt os sO
      exact runN_of s2 (by omega) (by omega) hE3 hL3 hR3
    have EJ : Hid (E1 = if E2 = 0 then E3 else E2) := by show E1 = _; rw [← hE1, ← hE2, ← hE3, ← hbo, kErr_app]
    have TWO : Hid (E2 = 0 → E3 = 0 → L1 = L3 ∧ R1 = R2 ++ R3) := fun h2 h3 => by
      obtain ⟨q1, q2, _⟩ := run_two sO os qs (by rw [hE2, h2]) (by rw [hE3, h3])
      rw [hbo, hL1, hL2, hL3] at q1
      rw [hbo, hR1, hL2, hR2, hR3] at q2
      exact ⟨q1, q2⟩
    obtain ⟨N1, P, G, ab, be, r1, wa, rlo, rhi, rne, rba, cb, hLC⟩ := lc_of O op x y sO lO kO (by rw [hKE, hz]) hx
    have HLC : Hid (LC O N1 P G ab be r1 wa rlo rhi rne rba cb op x y) := hLC
    unfold RunN at RUN1 RUN2 RUN3
    clear hbo hz hKE hE1 hL1 hR1 hE2 hL2 hR2 hE3 hL3 hR3 sO kO hO hLC hx
    go_enter Try.func5, Try.ntmps5
    go_wp2_with fail
    obtain ⟨WA, hWA⟩ : ∃ WA, WA = w.alloc (.cells #[.slice ma ml mc, .slice na nl nc, .slice oa Os.length oc, .slice qa Qs.length qc, .int .i64 op.kind, .int .i64 op.key, .int .i64 op.val, .int .i64 op.hi, .bool rt.ok, .int .i64 rt.key, .int .i64 rt.val, .slice ra rt.pairs.length rc, .int .i64 x, .int .i64 y] 29) := ⟨_, rfl⟩
    rw [← hWA]
    have bA : Below w.heap.size w WA := by rw [hWA]; exact below_alloc _ _
    have zA : WA.heap.size = w.heap.size + 1 := by rw [hWA]; simp
    have CIN : Hid (∀ k, WA.cell? ⟨w.heap.size, k, none⟩ = (#[.slice ma ml mc, .slice na nl nc, .slice oa Os.length oc, .slice qa Qs.length qc, .int .i64 op.kind, .int .i64 op.key, .int .i64 op.val, .int .i64 op.hi, .bool rt.ok, .int .i64 rt.key, .int .i64 rt.val, .slice ra rt.pairs.length rc, .int .i64 x, .int .i64 y] : Array Value)[k]?) := fun k => by rw [hWA]; exact cell_new w _ _ k
    have FIN0 : Hid (∀ k, WA.frozen? ⟨w.heap.size, k, none⟩ = false) := fun k => by rw [hWA]; exact frozen_new w _ _ k
    have zA1 : w.heap.size < WA.heap.size := by omega
    have BA : Hid (Below w.heap.size w WA) := bA
    clear hWA bA zA
    refine (fixed_any WA).mono ?_
    rintro e w1 ⟨rfl, hb1⟩
    have B1 : Hid (Below WA.heap.size WA w1) := hb1
    clear hb1
    have i0 : w1.cell? ⟨w.heap.size, 0, none⟩ = some (.slice ma ml mc) := (B1.out.cell (p := ⟨w.heap.size, 0, none⟩) zA1).trans (CIN.out 0)
    have i1 : w1.cell? ⟨w.heap.size, 1, none⟩ = some (.slice na nl nc) := (B1.out.cell (p := ⟨w.heap.size, 1, none⟩) zA1).trans (CIN.out 1)
    have i2 : w1.cell? ⟨w.heap.size, 2, none⟩ = some (.slice oa Os.length oc) := (B1.out.cell (p := ⟨w.heap.size, 2, none⟩) zA1).trans (CIN.out 2)
    have i3 : w1.cell? ⟨w.heap.size, 3, none⟩ = some (.slice qa Qs.length qc) := (B1.out.cell (p := ⟨w.heap.size, 3, none⟩) zA1).trans (CIN.out 3)
    have i4 : w1.cell? ⟨w.heap.size, 4, none⟩ = some (.int .i64 op.kind) := (B1.out.cell (p := ⟨w.heap.size, 4, none⟩) zA1).trans (CIN.out 4)
    have i5 : w1.cell? ⟨w.heap.size, 5, none⟩ = some (.int .i64 op.key) := (B1.out.cell (p := ⟨w.heap.size, 5, none⟩) zA1).trans (CIN.out 5)
    have i6 : w1.cell? ⟨w.heap.size, 6, none⟩ = some (.int .i64 op.val) := (B1.out.cell (p := ⟨w.heap.size, 6, none⟩) zA1).trans (CIN.out 6)
    have i7 : w1.cell? ⟨w.heap.size, 7, none⟩ = some (.int .i64 op.hi) := (B1.out.cell (p := ⟨w.heap.size, 7, none⟩) zA1).trans (CIN.out 7)
    have i8 : w1.cell? ⟨w.heap.size, 8, none⟩ = some (.bool rt.ok) := (B1.out.cell (p := ⟨w.heap.size, 8, none⟩) zA1).trans (CIN.out 8)
    have i9 : w1.cell? ⟨w.heap.size, 9, none⟩ = some (.int .i64 rt.key) := (B1.out.cell (p := ⟨w.heap.size, 9, none⟩) zA1).trans (CIN.out 9)
    have i10 : w1.cell? ⟨w.heap.size, 10, none⟩ = some (.int .i64 rt.val) := (B1.out.cell (p := ⟨w.heap.size, 10, none⟩) zA1).trans (CIN.out 10)
    have i11 : w1.cell? ⟨w.heap.size, 11, none⟩ = some (.slice ra rt.pairs.length rc) := (B1.out.cell (p := ⟨w.heap.size, 11, none⟩) zA1).trans (CIN.out 11)
    have i12 : w1.cell? ⟨w.heap.size, 12, none⟩ = some (.int .i64 x) := (B1.out.cell (p := ⟨w.heap.size, 12, none⟩) zA1).trans (CIN.out 12)
    have i13 : w1.cell? ⟨w.heap.size, 13, none⟩ = some (.int .i64 y) := (B1.out.cell (p := ⟨w.heap.size, 13, none⟩) zA1).trans (CIN.out 13)
    go_wp2_with fail
    refine (LESS.out w1 (HO.out.below (BA.out.trans (B1.out.mono (by omega)))) (HQ.out.below (BA.out.trans (B1.out.mono (by omega))))).mono ?_
    rintro e w2 ⟨b1, c1, g1, b2, c2, g2, rfl, hb2, hop, hon1, hoc1, hge1, hoq, hon2, hoc2, hge2⟩
    have HGE1 : Hid (os.length ≠ 0 → w1.heap.size ≤ g1) := hge1
    have HGE2 : Hid (qs.length ≠ 0 → w1.heap.size ≤ g2) := hge2
    have B2 : Hid (Below WA.heap.size WA w2) := B1.out.trans (hb2.mono B1.out.size)
    have HOP : Hid (OpsAt w2 b1 g1 0 os) := hop
    have HOQ : Hid (OpsAt w2 b2 g2 0 qs) := hoq
    have HN1 : Hid (NilOk b1 os.length c1 ∧ os.length ≤ c1) := ⟨hon1, hoc1⟩
    have HN2 : Hid (NilOk b2 qs.length c2 ∧ qs.length ≤ c2) := ⟨hon2, hoc2⟩
    clear hb2 hop hon1 hoc1 hge1 hoq hon2 hoc2 hge2 i0 i1 i2 i3 i4 i5 i6 i7 i8 i9 i10 i11 i12 i13
    have j0 : w2.cell? ⟨w.heap.size, 0, none⟩ = some (.slice ma ml mc) := (B2.out.cell (p := ⟨w.heap.size, 0, none⟩) zA1).trans (CIN.out 0)
    have k0 : w2.frozen? ⟨w.heap.size, 0, none⟩ = false := (B2.out.frozen (p := ⟨w.heap.size, 0, none⟩) zA1).trans (FIN0.out 0)
    have j1 : w2.cell? ⟨w.heap.size, 1, none⟩ = some (.slice na nl nc) := (B2.out.cell (p := ⟨w.heap.size, 1, none⟩) zA1).trans (CIN.out 1)
    have k1 : w2.frozen? ⟨w.heap.size, 1, none⟩ = false := (B2.out.frozen (p := ⟨w.heap.size, 1, none⟩) zA1).trans (FIN0.out 1)
    have j2 : w2.cell? ⟨w.heap.size, 2, none⟩ = some (.slice oa Os.length oc) := (B2.out.cell (p := ⟨w.heap.size, 2, none⟩) zA1).trans (CIN.out 2)
    have k2 : w2.frozen? ⟨w.heap.size, 2, none⟩ = false := (B2.out.frozen (p := ⟨w.heap.size, 2, none⟩) zA1).trans (FIN0.out 2)
    have j3 : w2.cell? ⟨w.heap.size, 3, none⟩ = some (.slice qa Qs.length qc) := (B2.out.cell (p := ⟨w.heap.size, 3, none⟩) zA1).trans (CIN.out 3)
    have k3 : w2.frozen? ⟨w.heap.size, 3, none⟩ = false := (B2.out.frozen (p := ⟨w.heap.size, 3, none⟩) zA1).trans (FIN0.out 3)
    have j4 : w2.cell? ⟨w.heap.size, 4, none⟩ = some (.int .i64 op.kind) := (B2.out.cell (p := ⟨w.heap.size, 4, none⟩) zA1).trans (CIN.out 4)
    have k4 : w2.frozen? ⟨w.heap.size, 4, none⟩ = false := (B2.out.frozen (p := ⟨w.heap.size, 4, none⟩) zA1).trans (FIN0.out 4)
    have j5 : w2.cell? ⟨w.heap.size, 5, none⟩ = some (.int .i64 op.key) := (B2.out.cell (p := ⟨w.heap.size, 5, none⟩) zA1).trans (CIN.out 5)
    have k5 : w2.frozen? ⟨w.heap.size, 5, none⟩ = false := (B2.out.frozen (p := ⟨w.heap.size, 5, none⟩) zA1).trans (FIN0.out 5)
    have j6 : w2.cell? ⟨w.heap.size, 6, none⟩ = some (.int .i64 op.val) := (B2.out.cell (p := ⟨w.heap.size, 6, none⟩) zA1).trans (CIN.out 6)
    have k6 : w2.frozen? ⟨w.heap.size, 6, none⟩ = false := (B2.out.frozen (p := ⟨w.heap.size, 6, none⟩) zA1).trans (FIN0.out 6)
    have j7 : w2.cell? ⟨w.heap.size, 7, none⟩ = some (.int .i64 op.hi) := (B2.out.cell (p := ⟨w.heap.size, 7, none⟩) zA1).trans (CIN.out 7)
    have k7 : w2.frozen? ⟨w.heap.size, 7, none⟩ = false := (B2.out.frozen (p := ⟨w.heap.size, 7, none⟩) zA1).trans (FIN0.out 7)
    have j8 : w2.cell? ⟨w.heap.size, 8, none⟩ = some (.bool rt.ok) := (B2.out.cell (p := ⟨w.heap.size, 8, none⟩) zA1).trans (CIN.out 8)
    have k8 : w2.frozen? ⟨w.heap.size, 8, none⟩ = false := (B2.out.frozen (p := ⟨w.heap.size, 8, none⟩) zA1).trans (FIN0.out 8)
    have j9 : w2.cell? ⟨w.heap.size, 9, none⟩ = some (.int .i64 rt.key) := (B2.out.cell (p := ⟨w.heap.size, 9, none⟩) zA1).trans (CIN.out 9)
    have k9 : w2.frozen? ⟨w.heap.size, 9, none⟩ = false := (B2.out.frozen (p := ⟨w.heap.size, 9, none⟩) zA1).trans (FIN0.out 9)
    have j10 : w2.cell? ⟨w.heap.size, 10, none⟩ = some (.int .i64 rt.val) := (B2.out.cell (p := ⟨w.heap.size, 10, none⟩) zA1).trans (CIN.out 10)
    have k10 : w2.frozen? ⟨w.heap.size, 10, none⟩ = false := (B2.out.frozen (p := ⟨w.heap.size, 10, none⟩) zA1).trans (FIN0.out 10)
    have j11 : w2.cell? ⟨w.heap.size, 11, none⟩ = some (.slice ra rt.pairs.length rc) := (B2.out.cell (p := ⟨w.heap.size, 11, none⟩) zA1).trans (CIN.out 11)
    have k11 : w2.frozen? ⟨w.heap.size, 11, none⟩ = false := (B2.out.frozen (p := ⟨w.heap.size, 11, none⟩) zA1).trans (FIN0.out 11)
    have j12 : w2.cell? ⟨w.heap.size, 12, none⟩ = some (.int .i64 x) := (B2.out.cell (p := ⟨w.heap.size, 12, none⟩) zA1).trans (CIN.out 12)
    have k12 : w2.frozen? ⟨w.heap.size, 12, none⟩ = false := (B2.out.frozen (p := ⟨w.heap.size, 12, none⟩) zA1).trans (FIN0.out 12)
    have j13 : w2.cell? ⟨w.heap.size, 13, none⟩ = some (.int .i64 y) := (B2.out.cell (p := ⟨w.heap.size, 13, none⟩) zA1).trans (CIN.out 13)
    have k13 : w2.frozen? ⟨w.heap.size, 13, none⟩ = false := (B2.out.frozen (p := ⟨w.heap.size, 13, none⟩) zA1).trans (FIN0.out 13)
    obtain ⟨W3, hW3⟩ : ∃ W3, W3 = setMany w.heap.size w2 0 [.slice ma ms.length mc, .slice na ns.length nc, .slice b1 os.length c1, .slice b2 qs.length c2, .int .i64 op.kind, .int .i64 op.key, .int .i64 op.val, .int .i64 op.hi, .bool rt.ok, .int .i64 rt.key, .int .i64 rt.val, .slice ra rt.pairs.length rc, .int .i64 x, .int .i64 y] := ⟨_, rfl⟩
    have CASE : Hid (∀ w' : World, Below W3.heap.size W3 w' → ∀ k, k < 14 → w'.cell? ⟨w.heap.size, k, none⟩ = ([.slice ma ms.length mc, .slice na ns.length nc, .slice b1 os.length c1, .slice b2 qs.length c2, .int .i64 op.kind, .int .i64 op.key, .int .i64 op.val, .int .i64 op.hi, .bool rt.ok, .int .i64 rt.key, .int .i64 rt.val, .slice ra rt.pairs.length rc, .int .i64 x, .int .i64 y] : List Value)[k]?) := by
      intro w' hb k hk
      have zz : w.heap.size < W3.heap.size := by rw [hW3, setMany_size]; have := B2.out.size; omega
      rw [hb.cell (p := ⟨w.heap.size, k, none⟩) zz]
      have := setMany_in (g := w.heap.size) [.slice ma ms.length mc, .slice na ns.length nc, .slice b1 os.length c1, .slice b2 qs.length c2, .int .i64 op.kind, .int .i64 op.key, .int .i64 op.val, .int .i64 op.hi, .bool rt.ok, .int .i64 rt.key, .int .i64 rt.val, .slice ra rt.pairs.length rc, .int .i64 x, .int .i64 y] (W := w2) (b := 0) (fun j hj => by
        rw [Nat.zero_add, B2.out.cell (p := ⟨w.heap.size, j, none⟩) zA1, CIN.out]
        exact ⟨_, Array.getElem?_eq_getElem (by simpa using hj)⟩) k (by simpa using hk)
      rw [Nat.zero_add] at this
      rw [hW3]; exact this
    have z3 : WA.heap.size ≤ W3.heap.size := by rw [hW3, setMany_size]; exact B2.out.size
    have B3 : Hid (Below w.heap.size w W3) := by show Below w.heap.size w W3; rw [hW3]; exact setMany_below (Nat.le_refl _) _ (BA.out.trans (B2.out.mono (by omega)))
    have O3 : Hid (∀ w', Below W3.heap.size W3 w' → OpsAt w' b1 g1 0 os) := by
      have : OpsAt W3 b1 g1 0 os := by rw [hW3]; exact setMany_ops (B := 0) (fun q => by have := HGE1.out q; have := B1.out.size; omega) _ HOP.out
      exact fun w' hb => this.below hb
    have Q3 : Hid (∀ w', Below W3.heap.size W3 w' → OpsAt w' b2 g2 0 qs) := by
      have : OpsAt W3 b2 g2 0 qs := by rw [hW3]; exact setMany_ops (B := 0) (fun q => by have := HGE2.out q; have := B1.out.size; omega) _ HOQ.out
      exact fun w' hb => this.below hb
    simp only [setMany, Nat.zero_add, Nat.reduceAdd] at hW3
    go_wp2_with fail
    rw [← hW3]
    clear hW3 j0 k0 j1 k1 j2 k2 j3 k3 j4 k4 j5 k5 j6 k6 j7 k7 j8 k8 j9 k9 j10 k10 j11 k11 j12 k12 j13 k13
    have z3w : w.heap.size < W3.heap.size := by omega
    have M3 : Hid (∀ w', Below W3.heap.size W3 w' → PairsAt w' ma mg mo ms) := fun w' hb => HM.out.below (B3.out.trans (hb.mono (by omega)))
    have e0 : W3.cell? ⟨w.heap.size, 0, none⟩ = some (.slice ma ms.length mc) := CASE.out _ (Below.refl _ _) 0 (by omega)
    go_wp2_with fail
    refine (COPM.out _ (M3.out _ (Below.refl _ _))).mono ?_
    rintro e w4 ⟨bc, cc, gc, rfl, hb4, hp4, _, _, _, _⟩
    have BX4 : Hid (Below W3.heap.size W3 w4) := hb4
    have PC4 : Hid (PairsAt w4 bc gc 0 ms) := hp4
    clear hb4 hp4 e0
    go_wp2_with fail
    refine (OF.out _ bc gc cc PC4.out).mono ?_
    rintro e w5 ⟨m1, mk, mh, rfl, hb5, hp5, hn5⟩
    have BX5 : Hid (Below W3.heap.size W3 w5) := BX4.out.trans (hb5.mono BX4.out.size)
    have PM : Hid (∀ w', Below w5.heap.size w5 w' → PairsAt w' m1 mh 0 O) := fun w' hb => hp5.below hb
    have NM : Hid (NilOk m1 O.length mk) := hn5
    have P5 : Hid (PairsAt w5 m1 mh 0 O) := hp5
    clear hb5 hp5 hn5
    go_wp2_with fail
    refine (COP.out O (by omega) _ m1 mh mk P5.out NM.out).mono ?_
    rintro e w6 ⟨bd, cd, gd, rfl, hb6, hp6, _, _, _, _⟩
    have Y6 : Hid (Below w5.heap.size w5 w6) := hb6
    have PC6 : Hid (PairsAt w6 bd gd 0 O) := hp6
    clear hb6 hp6
    go_wp2_with fail
    refine (CKS.out O SO.out _ bd gd cd PC6.out).mono ?_
    rintro e w7 ⟨rfl, hb7⟩
    have Y7 : Hid (Below w5.heap.size w5 w7) := Y6.out.trans (hb7.mono Y6.out.size)
    have TOW : Hid (∀ w', Below w5.heap.size w5 w' → Below W3.heap.size W3 w') := fun w' hb => BX5.out.trans (hb.mono BX5.out.size)
    clear hb7
    have e4 : w7.cell? ⟨w.heap.size, 4, none⟩ = some (.int .i64 op.kind) := CASE.out _ (TOW.out _ Y7.out) 4 (by omega)
    go_wp2_with fail
    refine (KD.out _).mono ?_
    rintro e wz ⟨rfl, rfl⟩
    clear e4
    have qE0 : ((0 : Int) != 0) = false := by simp
    have e2 : w7.cell? ⟨w.heap.size, 2, none⟩ = some (.slice b1 os.length c1) := CASE.out _ (TOW.out _ Y7.out) 2 (by omega)
    have e3 : w7.cell? ⟨w.heap.size, 3, none⟩ = some (.slice b2 qs.length c2) := CASE.out _ (TOW.out _ Y7.out) 3 (by omega)
    obtain ⟨i4, hi4, hf0, hf1, hf2⟩ := info_parts op_info
    have y600 : os.length + qs.length ≤ maxLen := by unfold maxLen; omega
    have y32 : (os.length + qs.length) * 32 ≤ 140737488355328 := Nat.le_trans (Nat.mul_le_mul_right 32 (show os.length + qs.length ≤ 600 by omega)) (by decide)
    have Y7d : Hid (Below W3.heap.size W3 w7.drew) := (TOW.out _ Y7.out).drew
    have HNQ : Hid (b2 = none → qs.length = 0 ∧ c2 = 0) := HN2.out.1
    go_wp2_with fail
    go_region_held3 (fun w' => w'.cell? ⟨w.heap.size, 2, none⟩ = some (.slice b1 os.length c1) ∧ w'.cell? ⟨w.heap.size, 3, none⟩ = some (.slice b2 qs.length c2))
      (first
        | (with_reducible exact X8.out)
        | (with_reducible exact X9.out)
        | go_keep)
      (first
        | (go_at_call 34; refine (FEWO.out _ b1 g1 c1 (O3.out _ Y7d.out) HN1.out.1 HN1.out.2).mono ?_; rintro e w8 ⟨v8, rfl, hb8, ho8⟩; have Z8 : Hid (Below w7.heap.size w7 w8) := Below.trans (Below.drew (Below.refl _ _)) hb8; have BX8 : Hid (Below W3.heap.size W3 w8) := (TOW.out _ Y7.out).trans (Z8.out.mono (TOW.out _ Y7.out).size); have X8 : Hid (w8.cell? ⟨w.heap.size, 2, none⟩ = some (.slice b1 os.length c1) ∧ w8.cell? ⟨w.heap.size, 3, none⟩ = some (.slice b2 qs.length c2)) := ⟨CASE.out _ (BX8.out) 2 (by omega), CASE.out _ (BX8.out) 3 (by omega)⟩; have OW8 : Hid (w8.ownsRow w7.heap.size 25 4 v8 os.length (opsC os)) := ho8; have NW8 : Hid _ := ops_news (Q3.out _ BX8.out); have sz8 := Z8.out.size; clear hb8 ho8)
        | (refine step_append_free (by rfl) _ _ _ (by rfl) w7.heap.size 25 i4 _ 4 32 ops_under hi4 hf0 hf1 hf2 rfl (by omega) v8 os.length (opsC os) (by rfl) OW8.out b2 qs.length c2 (opsC qs) (by rfl) (fun h => (HNQ.out h).1) (opsC_length _) NW8.out (opsC_one _) y600 y32 sz8 ?_; intro v9 w9 hown9 hgrow9; have Z9 : Hid (Below w7.heap.size w7 w9) := Below.grown Z8.out hgrow9 sz8 (owns_ge OW8.out); have BX9 : Hid (Below W3.heap.size W3 w9) := (TOW.out _ Y7.out).trans (Z9.out.mono (TOW.out _ Y7.out).size); have X9 : Hid (w9.cell? ⟨w.heap.size, 2, none⟩ = some (.slice b1 os.length c1) ∧ w9.cell? ⟨w.heap.size, 3, none⟩ = some (.slice b2 qs.length c2)) := ⟨CASE.out _ (BX9.out) 2 (by omega), CASE.out _ (BX9.out) 3 (by omega)⟩; have OW9 : Hid (World.ownsRow _ _ _ _ _ _ _) := hown9; clear hown9 hgrow9))
    have OB : Hid (w9.ownsRow w7.heap.size 25 4 v9 bo.length (opsC bo)) := by
      show World.ownsRow _ _ _ _ _ _ _
      rw [BOL.out.1, BOL.out.2]; exact OW9.out
    obtain ⟨ba, bk, bh, rfl, hpb, _, _⟩ := ops_of_owns OB.out (by unfold maxLen; omega)
    have PB : Hid (OpsAt w9 ba bh 0 bo) := hpb
    clear hpb OB OW9
    clear e2 e3
    have Cw5_w9 : Hid (Below w5.heap.size w5 w9) := Y7.out.trans (Z9.out.mono Y7.out.size)
    go_wp2_with fail
    refine (COP.out O (by omega) _ m1 mh mk (PM.out _ Cw5_w9.out) NM.out).mono ?_
    rintro e w10 ⟨be1, ce1, ge1, rfl, hb10, hp10, hn10, _, _, _⟩
    have PC10 : Hid (PairsAt w10 be1 ge1 0 O) := hp10
    have NC10 : Hid (NilOk be1 O.length ce1) := hn10
    have PB10 : Hid (OpsAt w10 ba bh 0 bo) := PB.out.below hb10
    have Cw5_w10 : Hid (Below w5.heap.size w5 w10) := Cw5_w9.out.trans (hb10.mono Cw5_w9.out.size)
    clear hb10 hp10 hn10
    go_wp2_with fail
    refine (RUN1.out _ be1 ge1 ce1 ba bh bk PC10.out NC10.out PB10.out).mono ?_
    rintro e w11 ⟨la, lk, lh, ra1, rk1, rh1, rfl, hb11, hp11, hn11, hr11⟩
    have PL1 : Hid (∀ w', Below w11.heap.size w11 w' → PairsAt w' la lh 0 L1) := fun w' hb => hp11.below hb
    have PR1 : Hid (∀ w', Below w11.heap.size w11 w' → RetsAt w' ra1 rh1 0 R1) := fun w' hb => hr11.below hb
    have Cw5_w11 : Hid (Below w5.heap.size w5 w11) := Cw5_w10.out.trans (hb11.mono Cw5_w10.out.size)
    clear hb11 hp11 hn11 hr11
    have e2 : w11.cell? ⟨w.heap.size, 2, none⟩ = some (.slice b1 os.length c1) := CASE.out _ (TOW.out _ Cw5_w11.out) 2 (by omega)
    have Hd12 : Hid (Below w11.heap.size w11 w11.drew) := (Below.refl _ _).drew
    have Bd12 : Hid (Below W3.heap.size W3 w11.drew) := (TOW.out _ Cw5_w11.out).drew
    go_wp2_with fail
    go_region_held3 (fun w' => w'.cell? ⟨w.heap.size, 2, none⟩ = some (.slice b1 os.length c1))
      (first
        | (with_reducible exact X12.out)
        | (with_reducible exact X13.out)
        | (with_reducible exact X14.out)
        | go_keep)
      (first
        | (go_at_call 11; refine (COP.out O (by omega) _ m1 mh mk (PM.out _ (Cw5_w11.out.trans (Hd12.out.mono Cw5_w11.out.size))) NM.out).mono ?_; rintro e w12 ⟨ua12, uk12, ug12, rfl, hb12, hp12, hn12, _, _, _⟩; have Z12 : Hid (Below w11.heap.size w11 w12) := Hd12.out.trans hb12; have BX12 : Hid (Below W3.heap.size W3 w12) := (TOW.out _ Cw5_w11.out).trans (Z12.out.mono (TOW.out _ Cw5_w11.out).size); have X12 : Hid (w12.cell? ⟨w.heap.size, 2, none⟩ = some (.slice b1 os.length c1)) := CASE.out _ (BX12.out) 2 (by omega); have PC12 : Hid (PairsAt w12 ua12 ug12 0 O) := hp12; have NC12 : Hid (NilOk ua12 O.length uk12) := hn12; clear hb12 hp12 hn12)
        | (go_at_call 34; refine (FEW1.out _ b1 g1 c1 (O3.out _ BX12.out) HN1.out.1 HN1.out.2).mono ?_; rintro e w13 ⟨ua13, uk13, ug13, rfl, hb13, hp13⟩; have Z13 : Hid (Below w11.heap.size w11 w13) := Z12.out.trans (hb13.mono Z12.out.size); have BX13 : Hid (Below W3.heap.size W3 w13) := BX12.out.trans (hb13.mono BX12.out.size); have X13 : Hid (w13.cell? ⟨w.heap.size, 2, none⟩ = some (.slice b1 os.length c1)) := CASE.out _ (BX13.out) 2 (by omega); have PC13 : Hid (PairsAt w13 ua12 ug12 0 O) := PC12.out.below hb13; have PO13 : Hid (OpsAt w13 ua13 ug13 0 os) := hp13; clear hb13 hp13)
        | (go_at_call 33; refine (RUN2.out w13 ua12 ug12 uk12 ua13 ug13 uk13 PC13.out NC12.out PO13.out).mono ?_; rintro e w14 ⟨fa, fk, fh, ra2, rk2, rh2, rfl, hb14, hp14, hn14, hr14⟩; have Z14 : Hid (Below w11.heap.size w11 w14) := Z13.out.trans (hb14.mono Z13.out.size); have BX14 : Hid (Below W3.heap.size W3 w14) := BX13.out.trans (hb14.mono BX13.out.size); have X14 : Hid (w14.cell? ⟨w.heap.size, 2, none⟩ = some (.slice b1 os.length c1)) := CASE.out _ (BX14.out) 2 (by omega); have PL2 : Hid (∀ w', Below w14.heap.size w14 w' → PairsAt w' fa fh 0 L2) := (fun w' hb => hp14.below hb); have PR2 : Hid (∀ w', Below w14.heap.size w14 w' → RetsAt w' ra2 rh2 0 R2) := (fun w' hb => hr14.below hb); have NL2 : Hid (NilOk fa L2.length fk) := hn14; clear hp14 hn14 hr14; clear hb14))
    clear e2
    have Cw5_w14 : Hid (Below w5.heap.size w5 w14) := Cw5_w11.out.trans (Z14.out.mono Cw5_w11.out.size)
    have Cw11_w14 : Hid (Below w11.heap.size w11 w14) := Z14.out
    go_upto_if 95 with fail
    go_cut [] from 94 to 131 (fun wx => Below w14.heap.size w14 wx)
    case first =>
      by_cases h2 : E2 = 0
      · have qe2 : (E2 == 0) = true := by simp [h2]
        have HE2 : Hid (E2 = 0) := h2
        have e13 : E1 = E3 := by rw [EJ.out, if_pos h2]
        have qq : (E1 != E3) = false := by rw [e13]; simp
        have E13 : Hid (E1 = E3) := e13
        clear h2 e13
        have e3 : w14.cell? ⟨w.heap.size, 3, none⟩ = some (.slice b2 qs.length c2) := CASE.out _ (TOW.out _ Cw5_w14.out) 3 (by omega)
        have Hd15 : Hid (Below w14.heap.size w14 w14.drew) := (Below.refl _ _).drew
        have Bd15 : Hid (Below W3.heap.size W3 w14.drew) := (TOW.out _ Cw5_w14.out).drew
        go_wp2_with fail
        go_region_held3 (fun w' => w'.cell? ⟨w.heap.size, 3, none⟩ = some (.slice b2 qs.length c2))
          (first
            | (with_reducible exact X15.out)
            | (with_reducible exact X16.out)
            | (with_reducible exact X17.out)
            | go_keep)
          (first
            | (go_at_call 11; refine (COP.out L2 (by omega) _ fa fh fk (PL2.out _ Hd15.out) NL2.out).mono ?_; rintro e w15 ⟨ua15, uk15, ug15, rfl, hb15, hp15, hn15, _, _, _⟩; have Z15 : Hid (Below w14.heap.size w14 w15) := Hd15.out.trans hb15; have BX15 : Hid (Below W3.heap.size W3 w15) := (TOW.out _ Cw5_w14.out).trans (Z15.out.mono (TOW.out _ Cw5_w14.out).size); have X15 : Hid (w15.cell? ⟨w.heap.size, 3, none⟩ = some (.slice b2 qs.length c2)) := CASE.out _ (BX15.out) 3 (by omega); have PC15 : Hid (PairsAt w15 ua15 ug15 0 L2) := hp15; have NC15 : Hid (NilOk ua15 L2.length uk15) := hn15; clear hb15 hp15 hn15)
            | (go_at_call 34; refine (FEW2.out _ b2 g2 c2 (Q3.out _ BX15.out) HN2.out.1 HN2.out.2).mono ?_; rintro e w16 ⟨ua16, uk16, ug16, rfl, hb16, hp16⟩; have Z16 : Hid (Below w14.heap.size w14 w16) := Z15.out.trans (hb16.mono Z15.out.size); have BX16 : Hid (Below W3.heap.size W3 w16) := BX15.out.trans (hb16.mono BX15.out.size); have X16 : Hid (w16.cell? ⟨w.heap.size, 3, none⟩ = some (.slice b2 qs.length c2)) := CASE.out _ (BX16.out) 3 (by omega); have PC16 : Hid (PairsAt w16 ua15 ug15 0 L2) := PC15.out.below hb16; have PO16 : Hid (OpsAt w16 ua16 ug16 0 qs) := hp16; clear hb16 hp16)
            | (go_at_call 33; refine (RUN3.out HE2.out w16 ua15 ug15 uk15 ua16 ug16 uk16 PC16.out NC15.out PO16.out).mono ?_; rintro e w17 ⟨ta, tk, th, ra3, rk3, rh3, rfl, hb17, hp17, hn17, hr17⟩; have Z17 : Hid (Below w14.heap.size w14 w17) := Z16.out.trans (hb17.mono Z16.out.size); have BX17 : Hid (Below W3.heap.size W3 w17) := BX16.out.trans (hb17.mono BX16.out.size); have X17 : Hid (w17.cell? ⟨w.heap.size, 3, none⟩ = some (.slice b2 qs.length c2)) := CASE.out _ (BX17.out) 3 (by omega); have PL3 : Hid (PairsAt w17 ta th 0 L3) := hp17; have PR3 : Hid (RetsAt w17 ra3 rh3 0 R3) := hr17; clear hp17 hn17 hr17; clear hb17))
        clear e3
        have Cw5_w17 : Hid (Below w5.heap.size w5 w17) := Cw5_w14.out.trans (Z17.out.mono Cw5_w14.out.size)
        have Cw11_w17 : Hid (Below w11.heap.size w11 w17) := Cw11_w14.out.trans (Z17.out.mono Cw11_w14.out.size)
        have Cw14_w17 : Hid (Below w14.heap.size w14 w17) := Z17.out
        by_cases h3 : E3 = 0
        · have qe1 : (E1 == 0) = true := by rw [E13.out]; simp [h3]
          obtain ⟨t1, t2⟩ := TWO.out HE2.out h3
          have T1 : Hid (L1 = L3) := t1
          have RL : Hid (R1.length = R2.length + R3.length) := by show R1.length = _; rw [t2, List.length_append]
          have T2 : Hid (R1 = R2 ++ R3) := t2
          have PL3' : Hid (PairsAt w17 ta th 0 L1) := by show PairsAt w17 ta th 0 L1; rw [t1]; exact PL3.out
          have SM13 : Hid (Calls Try.prog 19 #[.slice la L1.length lk, .slice ta L3.length tk] w17 fun e w' => e = .returned (.bool true) ∧ Below w17.heap.size w17 w') := by
            have := same_self la ta lh 0 lk th 0 tk L1 w17 (PL1.out _ Cw11_w17.out) PL3'.out
            rw [show L3.length = L1.length by rw [T1.out]]; exact this
          clear t1 t2 h3
          go_wp2_with fail
          refine SM13.out.mono ?_
          rintro e w18 ⟨rfl, hb18⟩
          have Z18 : Hid (Below w17.heap.size w17 w18) := hb18
          clear hb18
          obtain ⟨us2, ul2, uc2⟩ := ((PR2.out _ Cw14_w17.out).below Z18.out).cellsL
          obtain ⟨us3, ul3, uc3⟩ := (PR3.out.below Z18.out).cellsL
          have UL2 : Hid (RetL w18 R2 us2) := ul2
          have UL3 : Hid (RetL w18 R3 us3) := ul3
          have n2' : ra2 = none → R2.length = 0 := fun q => Decidable.byContradiction fun z => by have := (PR2.out _ (Below.refl _ _)).base z; rw [q] at this; cases this
          have n3' : ra3 = none → R3.length = 0 := fun q => Decidable.byContradiction fun z => by have := PR3.out.base z; rw [q] at this; cases this
          have NN2 : Hid (ra2 = none → R2.length = 0) := n2'
          have NN3 : Hid (ra3 = none → R3.length = 0) := n3'
          have LC2 : Hid ((retsC R2 us2).length = R2.length * 4) := retsC_len R2 us2 ul2.1
          have LC3 : Hid ((retsC R3 us3).length = R3.length * 4) := retsC_len R3 us3 ul3.1
          have oo0 : (w18.alloc (.cells #[] 27)).ownsRow w18.heap.size 27 4 (.slice (some ⟨w18.heap.size, 0, none⟩) 0 0) 0 [] := ⟨rfl, Or.inr ⟨w18.heap.size, 0, #[], rfl, Nat.le_refl _, heap_alloc_at _ _ _ rfl, Nat.le_refl _, by unfold maxLen; omega, rfl, rfl⟩⟩
          have OO0 : Hid (World.ownsRow _ _ _ _ _ _ _) := oo0
          have below_news : ∀ {W W' : World} {a : Option Addr} {news : List Value}, Below W.heap.size W W' → (∀ ad, a = some ad → ∀ j u, news[j]? = some u → W.cell? (ad.add j) = some u) → (∀ ad, a = some ad → ∀ j u, news[j]? = some u → W'.cell? (ad.add j) = some u) := fun hb h ad had j u hu => by
            have q := h ad had j u hu
            exact (hb.cell (World.block_lt_of_cell? _ _ q)).trans q
          have UC2 : Hid _ := below_news (below_alloc w18 (.cells #[] 27)) uc2
          have UC3 : Hid _ := uc3
          have BN : Hid (∀ {W W' : World} {a : Option Addr} {news : List Value}, Below W.heap.size W W' → (∀ ad, a = some ad → ∀ j u, news[j]? = some u → W.cell? (ad.add j) = some u) → (∀ ad, a = some ad → ∀ j u, news[j]? = some u → W'.cell? (ad.add j) = some u)) := below_news
          obtain ⟨i5, hi5, hr0, hr1, hr2⟩ := info_parts ret_info
          have y48a : 0 + R2.length ≤ maxLen := by unfold maxLen; omega
          have y48b : (0 + R2.length) * 48 ≤ 140737488355328 := Nat.le_trans (Nat.mul_le_mul_right 48 (show 0 + R2.length ≤ 600 by omega)) (by decide)
          have y48c : 0 + R2.length + R3.length ≤ maxLen := by unfold maxLen; omega
          have y48d : (0 + R2.length + R3.length) * 48 ≤ 140737488355328 := Nat.le_trans (Nat.mul_le_mul_right 48 (show 0 + R2.length + R3.length ≤ 600 by omega)) (by decide)
          clear ul2 ul3 uc2 uc3 n2' n3' oo0 below_news
          go_wp2_with (first
            | (at_builtin; (refine wpList_append_want (by rfl) _ _ _ (by rfl) w18.heap.size 27 i5 _ 4 48 rets_under hi5 hr0 hr1 hr2 rfl (by omega) (.slice (some ⟨w18.heap.size, 0, none⟩) 0 0) 0 [] (by rfl) OO0.out ra2 R2.length rk2 (retsC R2 us2) (by rfl) NN2.out LC2.out UC2.out (retl_one UL2.out) y48a y48b (by simp) ?_); intro v19 w19 hown19 hgrow19; have Z19 : Hid (Below w18.heap.size w18 w19) := Below.grown (below_alloc _ _) hgrow19 (by simp) (owns_ge OO0.out); have O19 : Hid (w19.ownsRow w18.heap.size 27 4 v19 (0 + R2.length) ([] ++ retsC R2 us2)) := hown19; have UC3b : Hid _ := BN.out Z19.out UC3.out; have s19 := Z19.out.size; clear hown19 hgrow19)
            | (at_builtin; (refine wpList_append_want (by rfl) _ _ _ (by rfl) w18.heap.size 27 i5 _ 4 48 rets_under hi5 hr0 hr1 hr2 rfl (by omega) v19 (0 + R2.length) ([] ++ retsC R2 us2) (by rfl) O19.out ra3 R3.length rk3 (retsC R3 us3) (by rfl) NN3.out LC3.out UC3b.out (retl_one UL3.out) y48c y48d s19 ?_); intro v20 w20 hown20 hgrow20; have Z20 : Hid (Below w18.heap.size w18 w20) := Below.grown Z19.out hgrow20 s19 (owns_ge O19.out); have O20 : Hid (w20.ownsRow w18.heap.size 27 4 v20 R1.length (retsC R1 (us2 ++ us3))) := (by show World.ownsRow _ _ _ _ _ _ _; rw [RL.out, T2.out, retsC_app R2 us2 R3 us3 UL2.out.1]; simpa using hown20); clear hown20 hgrow20))
          have ulx : RetL w20 R1 (us2 ++ us3) := by rw [T2.out]; exact (UL2.out.app UL3.out).below Z20.out
          obtain ⟨va, vk, vh, rfl, hrv⟩ := rets_row O20.out ulx (by rw [RL.out]; unfold maxLen; omega)
          have PV : Hid (RetsAt w20 va vh 0 R1) := hrv
          have Z1720 : Hid (Below w17.heap.size w17 w20) := Z18.out.trans (Z20.out.mono Z18.out.size)
          have F11x : Hid (Below w11.heap.size w11 w20) := Cw11_w17.out.trans (Z1720.out.mono Cw11_w17.out.size)
          clear ulx hrv
          refine (sameRets_any ra1 va rh1 0 rk1 vh 0 vk R1 w20 (PR1.out _ F11x.out) PV.out).mono ?_
          rintro e w21 ⟨rfl, hb21⟩
          have F14x : Hid (Below w14.heap.size w14 w20) := Cw14_w17.out.trans (Z1720.out.mono Cw14_w17.out.size)
          have F14y : Hid (Below w14.heap.size w14 w21) := F14x.out.trans (hb21.mono F14x.out.size)
          clear hb21
          go_wp2_with fail
          go_meet
          exact F14y.out
        · have qe1 : (E1 == 0) = false := by rw [E13.out]; simp [h3]
          clear h3
          go_wp2_with fail
          go_meet
          exact Cw14_w17.out
      · have qe2 : (E2 == 0) = false := by simp [h2]
        have qq : (E1 != E2) = false := by rw [EJ.out, if_neg h2]; simp
        clear h2
        go_wp2_with fail
        go_meet
        exact Below.refl _ _
    case rest =>
      rename_i hK
      generalize wc = w22 at *
      have Zc22 : Hid (Below w14.heap.size w14 w22) := hcut
      clear hcut
      have Cw5_w22 : Hid (Below w5.heap.size w5 w22) := Cw5_w14.out.trans (Zc22.out.mono Cw5_w14.out.size)
      have Cw11_w22 : Hid (Below w11.heap.size w11 w22) := Cw11_w14.out.trans (Zc22.out.mono Cw11_w14.out.size)
      have Cw14_w22 : Hid (Below w14.heap.size w14 w22) := Zc22.out
      have ZV : Hid (w.heap.size < w5.heap.size) := (by show w.heap.size < w5.heap.size; have := BX5.out.size; omega)
      have HV : Hid (Below w.heap.size w w5) := B3.out.trans (BX5.out.mono (by omega))
      refine hK _ _ ?_
      exact laws9 w w5 w22 ma na b1 b2 ra mc nc c1 c2 rc ms ns os qs rt O N1 P G ab be r1 wa rlo rhi rne rba cb op x y m1 mk mh _ _ _ _ _ _ _ _ _ _ _ _ _ _ _ _ _ _ _ _ _ _ _ _ _ _ _ _ _ _ _ _ _ _ _ _ _ _ _ _ _ _ _ _ _ _ _ _ _ _ _ _ _ _ _ _ _ _ _ _ _ _ _ _ _ _ _ _ _ _ _ _ _ _ _ _ _ _ _ _ _ _ _ _ _ _ _ _ _ _ _ _ _ _ _ _ _ _ _ _ _ _ _ _ _ _ _ _ _ _ _ _ _ _ _ _ _ _ _ _ _ _ _ _ _ _ _ _ _ _ _ _ _ _ _ _ _ _ _ _ _ _ _ _ _ _ _ _ _ _ _ _ _ _ _ _ _ _ _ _ _ _ _ _ _ _ _ _ _ _ _ _ _ _ _ _ _ _ _ _ _ _ _ _ _ _ _ _ _ _ _ _ _ _ _ _ _ _ _ _ _ _ _ _ _ _ _ _ _ _ _ _ _ _ _ _ _ _ _ _ _ _ _ _ _ _ _ _ _ _ _ _ _ _ _ _ _ _ _ _ _ _ _ _ _ _ _ _ _ _ _ _ _ _ _ _ _ _ _ _ _ _ _ _ _ _ _ _ _ _ _ _ _ _ _ _ _ _ _ _ _ _ _ _ _ _ _ _ _ _ _ _ _ _ _ _ _ _ _ _ _ _ _ _ _ _ _ _ _ _ _ _ _ _ _ _ _ _ _ _ _ _ _ _ _ _ _ _ _ _ _ _ _ _ _ _ _ _ _ _ _ _ _ _ _ _ _ _ _ _ _ _ _ _ _ _ _ _ _ _ _ _ _ _ _ _ _ _ _ _ _ _ _ _ _ _ _ _ _ _ _ _ _ _ _ _ _ _ _ _ _ _ _ _ _ _ _ _ _ _ HLC.out (fun w' hb => CASE.out w' (TOW.out w' hb)) HV.out ZV.out P5.out NM.out Cw5_w22.out
  · have qz : (KE != 0) = true := by simp [hz]
    clear hz hKE kO sO hO FEWO FEW1 FEW2 hx
    go_enter Try.func5, Try.ntmps5
    go_wp2_with fail
    obtain ⟨WA, hWA⟩ : ∃ WA, WA = w.alloc (.cells #[.slice ma ml mc, .slice na nl nc, .slice oa Os.length oc, .slice qa Qs.length qc, .int .i64 op.kind, .int .i64 op.key, .int .i64 op.val, .int .i64 op.hi, .bool rt.ok, .int .i64 rt.key, .int .i64 rt.val, .slice ra rt.pairs.length rc, .int .i64 x, .int .i64 y] 29) := ⟨_, rfl⟩
    rw [← hWA]
    have bA : Below w.heap.size w WA := by rw [hWA]; exact below_alloc _ _
    have zA : WA.heap.size = w.heap.size + 1 := by rw [hWA]; simp
    have CIN : Hid (∀ k, WA.cell? ⟨w.heap.size, k, none⟩ = (#[.slice ma ml mc, .slice na nl nc, .slice oa Os.length oc, .slice qa Qs.length qc, .int .i64 op.kind, .int .i64 op.key, .int .i64 op.val, .int .i64 op.hi, .bool rt.ok, .int .i64 rt.key, .int .i64 rt.val, .slice ra rt.pairs.length rc, .int .i64 x, .int .i64 y] : Array Value)[k]?) := fun k => by rw [hWA]; exact cell_new w _ _ k
    have FIN0 : Hid (∀ k, WA.frozen? ⟨w.heap.size, k, none⟩ = false) := fun k => by rw [hWA]; exact frozen_new w _ _ k
    have zA1 : w.heap.size < WA.heap.size := by omega
    have BA : Hid (Below w.heap.size w WA) := bA
    clear hWA bA zA
    refine (fixed_any WA).mono ?_
    rintro e w1 ⟨rfl, hb1⟩
    have B1 : Hid (Below WA.heap.size WA w1) := hb1
    clear hb1
    have i0 : w1.cell? ⟨w.heap.size, 0, none⟩ = some (.slice ma ml mc) := (B1.out.cell (p := ⟨w.heap.size, 0, none⟩) zA1).trans (CIN.out 0)
    have i1 : w1.cell? ⟨w.heap.size, 1, none⟩ = some (.slice na nl nc) := (B1.out.cell (p := ⟨w.heap.size, 1, none⟩) zA1).trans (CIN.out 1)
    have i2 : w1.cell? ⟨w.heap.size, 2, none⟩ = some (.slice oa Os.length oc) := (B1.out.cell (p := ⟨w.heap.size, 2, none⟩) zA1).trans (CIN.out 2)
    have i3 : w1.cell? ⟨w.heap.size, 3, none⟩ = some (.slice qa Qs.length qc) := (B1.out.cell (p := ⟨w.heap.size, 3, none⟩) zA1).trans (CIN.out 3)
    have i4 : w1.cell? ⟨w.heap.size, 4, none⟩ = some (.int .i64 op.kind) := (B1.out.cell (p := ⟨w.heap.size, 4, none⟩) zA1).trans (CIN.out 4)
    have i5 : w1.cell? ⟨w.heap.size, 5, none⟩ = some (.int .i64 op.key) := (B1.out.cell (p := ⟨w.heap.size, 5, none⟩) zA1).trans (CIN.out 5)
    have i6 : w1.cell? ⟨w.heap.size, 6, none⟩ = some (.int .i64 op.val) := (B1.out.cell (p := ⟨w.heap.size, 6, none⟩) zA1).trans (CIN.out 6)
    have i7 : w1.cell? ⟨w.heap.size, 7, none⟩ = some (.int .i64 op.hi) := (B1.out.cell (p := ⟨w.heap.size, 7, none⟩) zA1).trans (CIN.out 7)
    have i8 : w1.cell? ⟨w.heap.size, 8, none⟩ = some (.bool rt.ok) := (B1.out.cell (p := ⟨w.heap.size, 8, none⟩) zA1).trans (CIN.out 8)
    have i9 : w1.cell? ⟨w.heap.size, 9, none⟩ = some (.int .i64 rt.key) := (B1.out.cell (p := ⟨w.heap.size, 9, none⟩) zA1).trans (CIN.out 9)
    have i10 : w1.cell? ⟨w.heap.size, 10, none⟩ = some (.int .i64 rt.val) := (B1.out.cell (p := ⟨w.heap.size, 10, none⟩) zA1).trans (CIN.out 10)
    have i11 : w1.cell? ⟨w.heap.size, 11, none⟩ = some (.slice ra rt.pairs.length rc) := (B1.out.cell (p := ⟨w.heap.size, 11, none⟩) zA1).trans (CIN.out 11)
    have i12 : w1.cell? ⟨w.heap.size, 12, none⟩ = some (.int .i64 x) := (B1.out.cell (p := ⟨w.heap.size, 12, none⟩) zA1).trans (CIN.out 12)
    have i13 : w1.cell? ⟨w.heap.size, 13, none⟩ = some (.int .i64 y) := (B1.out.cell (p := ⟨w.heap.size, 13, none⟩) zA1).trans (CIN.out 13)
    go_wp2_with fail
    refine (LESS.out w1 (HO.out.below (BA.out.trans (B1.out.mono (by omega)))) (HQ.out.below (BA.out.trans (B1.out.mono (by omega))))).mono ?_
    rintro e w2 ⟨b1, c1, g1, b2, c2, g2, rfl, hb2, hop, hon1, hoc1, hge1, hoq, hon2, hoc2, hge2⟩
    have HGE1 : Hid (os.length ≠ 0 → w1.heap.size ≤ g1) := hge1
    have HGE2 : Hid (qs.length ≠ 0 → w1.heap.size ≤ g2) := hge2
    have B2 : Hid (Below WA.heap.size WA w2) := B1.out.trans (hb2.mono B1.out.size)
    have HOP : Hid (OpsAt w2 b1 g1 0 os) := hop
    have HOQ : Hid (OpsAt w2 b2 g2 0 qs) := hoq
    have HN1 : Hid (NilOk b1 os.length c1 ∧ os.length ≤ c1) := ⟨hon1, hoc1⟩
    have HN2 : Hid (NilOk b2 qs.length c2 ∧ qs.length ≤ c2) := ⟨hon2, hoc2⟩
    clear hb2 hop hon1 hoc1 hge1 hoq hon2 hoc2 hge2 i0 i1 i2 i3 i4 i5 i6 i7 i8 i9 i10 i11 i12 i13
    have j0 : w2.cell? ⟨w.heap.size, 0, none⟩ = some (.slice ma ml mc) := (B2.out.cell (p := ⟨w.heap.size, 0, none⟩) zA1).trans (CIN.out 0)
    have k0 : w2.frozen? ⟨w.heap.size, 0, none⟩ = false := (B2.out.frozen (p := ⟨w.heap.size, 0, none⟩) zA1).trans (FIN0.out 0)
    have j1 : w2.cell? ⟨w.heap.size, 1, none⟩ = some (.slice na nl nc) := (B2.out.cell (p := ⟨w.heap.size, 1, none⟩) zA1).trans (CIN.out 1)
    have k1 : w2.frozen? ⟨w.heap.size, 1, none⟩ = false := (B2.out.frozen (p := ⟨w.heap.size, 1, none⟩) zA1).trans (FIN0.out 1)
    have j2 : w2.cell? ⟨w.heap.size, 2, none⟩ = some (.slice oa Os.length oc) := (B2.out.cell (p := ⟨w.heap.size, 2, none⟩) zA1).trans (CIN.out 2)
    have k2 : w2.frozen? ⟨w.heap.size, 2, none⟩ = false := (B2.out.frozen (p := ⟨w.heap.size, 2, none⟩) zA1).trans (FIN0.out 2)
    have j3 : w2.cell? ⟨w.heap.size, 3, none⟩ = some (.slice qa Qs.length qc) := (B2.out.cell (p := ⟨w.heap.size, 3, none⟩) zA1).trans (CIN.out 3)
    have k3 : w2.frozen? ⟨w.heap.size, 3, none⟩ = false := (B2.out.frozen (p := ⟨w.heap.size, 3, none⟩) zA1).trans (FIN0.out 3)
    have j4 : w2.cell? ⟨w.heap.size, 4, none⟩ = some (.int .i64 op.kind) := (B2.out.cell (p := ⟨w.heap.size, 4, none⟩) zA1).trans (CIN.out 4)
    have k4 : w2.frozen? ⟨w.heap.size, 4, none⟩ = false := (B2.out.frozen (p := ⟨w.heap.size, 4, none⟩) zA1).trans (FIN0.out 4)
    have j5 : w2.cell? ⟨w.heap.size, 5, none⟩ = some (.int .i64 op.key) := (B2.out.cell (p := ⟨w.heap.size, 5, none⟩) zA1).trans (CIN.out 5)
    have k5 : w2.frozen? ⟨w.heap.size, 5, none⟩ = false := (B2.out.frozen (p := ⟨w.heap.size, 5, none⟩) zA1).trans (FIN0.out 5)
    have j6 : w2.cell? ⟨w.heap.size, 6, none⟩ = some (.int .i64 op.val) := (B2.out.cell (p := ⟨w.heap.size, 6, none⟩) zA1).trans (CIN.out 6)
    have k6 : w2.frozen? ⟨w.heap.size, 6, none⟩ = false := (B2.out.frozen (p := ⟨w.heap.size, 6, none⟩) zA1).trans (FIN0.out 6)
    have j7 : w2.cell? ⟨w.heap.size, 7, none⟩ = some (.int .i64 op.hi) := (B2.out.cell (p := ⟨w.heap.size, 7, none⟩) zA1).trans (CIN.out 7)
    have k7 : w2.frozen? ⟨w.heap.size, 7, none⟩ = false := (B2.out.frozen (p := ⟨w.heap.size, 7, none⟩) zA1).trans (FIN0.out 7)
    have j8 : w2.cell? ⟨w.heap.size, 8, none⟩ = some (.bool rt.ok) := (B2.out.cell (p := ⟨w.heap.size, 8, none⟩) zA1).trans (CIN.out 8)
    have k8 : w2.frozen? ⟨w.heap.size, 8, none⟩ = false := (B2.out.frozen (p := ⟨w.heap.size, 8, none⟩) zA1).trans (FIN0.out 8)
    have j9 : w2.cell? ⟨w.heap.size, 9, none⟩ = some (.int .i64 rt.key) := (B2.out.cell (p := ⟨w.heap.size, 9, none⟩) zA1).trans (CIN.out 9)
    have k9 : w2.frozen? ⟨w.heap.size, 9, none⟩ = false := (B2.out.frozen (p := ⟨w.heap.size, 9, none⟩) zA1).trans (FIN0.out 9)
    have j10 : w2.cell? ⟨w.heap.size, 10, none⟩ = some (.int .i64 rt.val) := (B2.out.cell (p := ⟨w.heap.size, 10, none⟩) zA1).trans (CIN.out 10)
    have k10 : w2.frozen? ⟨w.heap.size, 10, none⟩ = false := (B2.out.frozen (p := ⟨w.heap.size, 10, none⟩) zA1).trans (FIN0.out 10)
    have j11 : w2.cell? ⟨w.heap.size, 11, none⟩ = some (.slice ra rt.pairs.length rc) := (B2.out.cell (p := ⟨w.heap.size, 11, none⟩) zA1).trans (CIN.out 11)
    have k11 : w2.frozen? ⟨w.heap.size, 11, none⟩ = false := (B2.out.frozen (p := ⟨w.heap.size, 11, none⟩) zA1).trans (FIN0.out 11)
    have j12 : w2.cell? ⟨w.heap.size, 12, none⟩ = some (.int .i64 x) := (B2.out.cell (p := ⟨w.heap.size, 12, none⟩) zA1).trans (CIN.out 12)
    have k12 : w2.frozen? ⟨w.heap.size, 12, none⟩ = false := (B2.out.frozen (p := ⟨w.heap.size, 12, none⟩) zA1).trans (FIN0.out 12)
    have j13 : w2.cell? ⟨w.heap.size, 13, none⟩ = some (.int .i64 y) := (B2.out.cell (p := ⟨w.heap.size, 13, none⟩) zA1).trans (CIN.out 13)
    have k13 : w2.frozen? ⟨w.heap.size, 13, none⟩ = false := (B2.out.frozen (p := ⟨w.heap.size, 13, none⟩) zA1).trans (FIN0.out 13)
    obtain ⟨W3, hW3⟩ : ∃ W3, W3 = setMany w.heap.size w2 0 [.slice ma ms.length mc, .slice na ns.length nc, .slice b1 os.length c1, .slice b2 qs.length c2, .int .i64 op.kind, .int .i64 op.key, .int .i64 op.val, .int .i64 op.hi, .bool rt.ok, .int .i64 rt.key, .int .i64 rt.val, .slice ra rt.pairs.length rc, .int .i64 x, .int .i64 y] := ⟨_, rfl⟩
    have CASE : Hid (∀ w' : World, Below W3.heap.size W3 w' → ∀ k, k < 14 → w'.cell? ⟨w.heap.size, k, none⟩ = ([.slice ma ms.length mc, .slice na ns.length nc, .slice b1 os.length c1, .slice b2 qs.length c2, .int .i64 op.kind, .int .i64 op.key, .int .i64 op.val, .int .i64 op.hi, .bool rt.ok, .int .i64 rt.key, .int .i64 rt.val, .slice ra rt.pairs.length rc, .int .i64 x, .int .i64 y] : List Value)[k]?) := by
      intro w' hb k hk
      have zz : w.heap.size < W3.heap.size := by rw [hW3, setMany_size]; have := B2.out.size; omega
      rw [hb.cell (p := ⟨w.heap.size, k, none⟩) zz]
      have := setMany_in (g := w.heap.size) [.slice ma ms.length mc, .slice na ns.length nc, .slice b1 os.length c1, .slice b2 qs.length c2, .int .i64 op.kind, .int .i64 op.key, .int .i64 op.val, .int .i64 op.hi, .bool rt.ok, .int .i64 rt.key, .int .i64 rt.val, .slice ra rt.pairs.length rc, .int .i64 x, .int .i64 y] (W := w2) (b := 0) (fun j hj => by
        rw [Nat.zero_add, B2.out.cell (p := ⟨w.heap.size, j, none⟩) zA1, CIN.out]
        exact ⟨_, Array.getElem?_eq_getElem (by simpa using hj)⟩) k (by simpa using hk)
      rw [Nat.zero_add] at this
      rw [hW3]; exact this
    have z3 : WA.heap.size ≤ W3.heap.size := by rw [hW3, setMany_size]; exact B2.out.size
    have B3 : Hid (Below w.heap.size w W3) := by show Below w.heap.size w W3; rw [hW3]; exact setMany_below (Nat.le_refl _) _ (BA.out.trans (B2.out.mono (by omega)))
    have O3 : Hid (∀ w', Below W3.heap.size W3 w' → OpsAt w' b1 g1 0 os) := by
      have : OpsAt W3 b1 g1 0 os := by rw [hW3]; exact setMany_ops (B := 0) (fun q => by have := HGE1.out q; have := B1.out.size; omega) _ HOP.out
      exact fun w' hb => this.below hb
    have Q3 : Hid (∀ w', Below W3.heap.size W3 w' → OpsAt w' b2 g2 0 qs) := by
      have : OpsAt W3 b2 g2 0 qs := by rw [hW3]; exact setMany_ops (B := 0) (fun q => by have := HGE2.out q; have := B1.out.size; omega) _ HOQ.out
      exact fun w' hb => this.below hb
    simp only [setMany, Nat.zero_add, Nat.reduceAdd] at hW3
    go_wp2_with fail
    rw [← hW3]
    clear hW3 j0 k0 j1 k1 j2 k2 j3 k3 j4 k4 j5 k5 j6 k6 j7 k7 j8 k8 j9 k9 j10 k10 j11 k11 j12 k12 j13 k13
    have z3w : w.heap.size < W3.heap.size := by omega
    have M3 : Hid (∀ w', Below W3.heap.size W3 w' → PairsAt w' ma mg mo ms) := fun w' hb => HM.out.below (B3.out.trans (hb.mono (by omega)))
    have e0 : W3.cell? ⟨w.heap.size, 0, none⟩ = some (.slice ma ms.length mc) := CASE.out _ (Below.refl _ _) 0 (by omega)
    go_wp2_with fail
    refine (COPM.out _ (M3.out _ (Below.refl _ _))).mono ?_
    rintro e w4 ⟨bc, cc, gc, rfl, hb4, hp4, _, _, _, _⟩
    have BX4 : Hid (Below W3.heap.size W3 w4) := hb4
    have PC4 : Hid (PairsAt w4 bc gc 0 ms) := hp4
    clear hb4 hp4 e0
    go_wp2_with fail
    refine (OF.out _ bc gc cc PC4.out).mono ?_
    rintro e w5 ⟨m1, mk, mh, rfl, hb5, hp5, hn5⟩
    have BX5 : Hid (Below W3.heap.size W3 w5) := BX4.out.trans (hb5.mono BX4.out.size)
    have PM : Hid (∀ w', Below w5.heap.size w5 w' → PairsAt w' m1 mh 0 O) := fun w' hb => hp5.below hb
    have NM : Hid (NilOk m1 O.length mk) := hn5
    have P5 : Hid (PairsAt w5 m1 mh 0 O) := hp5
    clear hb5 hp5 hn5
    go_wp2_with fail
    refine (COP.out O (by omega) _ m1 mh mk P5.out NM.out).mono ?_
    rintro e w6 ⟨bd, cd, gd, rfl, hb6, hp6, _, _, _, _⟩
    have Y6 : Hid (Below w5.heap.size w5 w6) := hb6
    have PC6 : Hid (PairsAt w6 bd gd 0 O) := hp6
    clear hb6 hp6
    go_wp2_with fail
    refine (CKS.out O SO.out _ bd gd cd PC6.out).mono ?_
    rintro e w7 ⟨rfl, hb7⟩
    have Y7 : Hid (Below w5.heap.size w5 w7) := Y6.out.trans (hb7.mono Y6.out.size)
    have TOW : Hid (∀ w', Below w5.heap.size w5 w' → Below W3.heap.size W3 w') := fun w' hb => BX5.out.trans (hb.mono BX5.out.size)
    clear hb7
    have e4 : w7.cell? ⟨w.heap.size, 4, none⟩ = some (.int .i64 op.kind) := CASE.out _ (TOW.out _ Y7.out) 4 (by omega)
    go_wp2_with fail
    refine (KD.out _).mono ?_
    rintro e wz ⟨rfl, rfl⟩
    clear e4
    go_wp2_with fail
    refine (CKS.out O SO.out _ m1 mh mk (PM.out _ Y7.out)).mono ?_
    rintro e w8 ⟨rfl, hb8⟩
    go_wp2_with fail
    go_ret
    exact ⟨rfl, B3.out.trans (((TOW.out _ Y7.out).trans (hb8.mono (TOW.out _ Y7.out).size)).mono (by omega))⟩
end Go.Proofs.Ytjpfgfcggekklaa
namespace Go.Proofs.Ytjpfgfcggekklaa
open Go.ChangeShapes Go.WideShapes Go.ChangeAt Go.RowKit Go.Deep

set_option maxRecDepth 100000 in
theorem laws_lifted (os : Os) (started : os.Started) (H : Type) (enc : TypeId × Value → H) :
    ReturnsInHanded {} Try.checked os 5 .any (Rows.modelLawsSpec.pre6 enc Try.prog Try.f5 Rows.modelLawsRow.domain false) (Rows.modelLawsSpec.post enc Try.prog Try.f5 false true false false) := by
  refine returnsInHanded_of_change_sized (C := Try.checked) own started (by kernel_rfl) Try.func5
    (ChangeSpec.witness6 (enc := enc) (C := Try.checked) false ⟨#[], #[.agg #[.slice none 0 0, .slice none 0 0, .slice none 0 0, .slice none 0 0, .int .i64 0, .int .i64 0, .int .i64 0, .int .i64 0, .bool false, .int .i64 0, .int .i64 0, .slice none 0 0, .int .i64 0, .int .i64 0]], []⟩ 8 (by kernel_rfl) (by kernel_rfl) (by kernel_rfl) (by kernel_rfl)) ?_
  intro W base args ds gs before hval0 hW _ hsz0 _
  have hsz : (DataW.weightsEach Try.prog (Try.f5.params.toList ++ Rows.modelLawsSpec.plain.varTypes Try.prog) (ds ++ gs)).all (· ≤ reachBytes) = true := hsz0
  have hval : ∀ (j : Nat) t v, Try.f5.params[j]? = some t → args[j]? = some v → Value.okWide Try.prog W .any base t v := hval0
  have hW' := hW
  obtain ⟨p, q, hA0, hV, rfl, hfz, hnd⟩ := hW
  have hA : DataW.TrodAll enc Try.prog W 0 (fun _ => true) true Try.f5.params.toList args.toList ds p := hA0
  rw [Try.params5] at hA hval hsz
  obtain ⟨v0, d0, rfl, rfl, h0⟩ := trodAll_one hA
  obtain ⟨rfl, rfl⟩ := trodVars_none hV
  obtain ⟨cs, rfl, hcs⟩ := okWide_struct Try.underlying29 (hval 0 29 v0 rfl rfl)
  have k0 := h0
  have lt0 : ∀ x ∈ p, x.block < W.heap.size := by obtain ⟨m, hm⟩ := k0; exact DataW.trod_lt m _ _ _ hm
  obtain ⟨fuel0, hf0⟩ := h0
  obtain ⟨ma, na, oa, qa, ra, mc, mg, mo, nc, ng, no, og, oo, oc, qg, qo, qc, rg, ro, rc, Ms, Ns, Os, Qs, op, rt, u, v, e, hm1, hm2, hm3, _, _, hn3, ho1, ho2, ho3, hq1, hq2, hq3, _, _, hk, hu, _⟩ := open_case3 hf0
  have hcs2 : cs = #[.slice ma Ms.length mc, .slice na Ns.length nc, .slice oa Os.length oc, .slice qa Qs.length qc, .int .i64 op.kind, .int .i64 op.key, .int .i64 op.val, .int .i64 op.hi, .bool rt.ok, .int .i64 rt.key, .int .i64 rt.val, .slice ra rt.pairs.length rc, .int .i64 u, .int .i64 v] := by
    apply Array.ext'
    simpa [Value.cells] using e
  subst hcs2
  have hmt : (Ms.take 300).length = min 300 Ms.length := List.length_take
  have hm300 : (Ms.take 300).length ≤ 300 := by rw [hmt]; omega
  have hmle : (Ms.take 300).length ≤ Ms.length := List.length_take_le' _ _
  have hnt : (Ns.take 300).length = min 300 Ns.length := List.length_take
  have hnle : (Ns.take 300).length ≤ Ns.length := List.length_take_le' _ _
  have wfr : ∀ z : Int, (Lit.int .i64 z).wf = true → -9223372036854775808 ≤ z ∧ z ≤ 9223372036854775807 := fun z h => by
    simp only [Lit.wf, Bool.and_eq_true, decide_eq_true_eq] at h
    exact h
  have hkeys : ∀ p ∈ Ms.take 300, -9223372036854775808 ≤ p.1 ∧ p.1 ≤ 9223372036854775807 := fun p hp => by
    obtain ⟨i, hi, e⟩ := List.getElem_of_mem hp
    have hi2 : i < Ms.length := by omega
    have := wfr _ (hk i hi2)
    rw [List.getElem_take] at e
    have ek : keyAt Ms i = p.1 := by rw [← e]; simp [keyAt, List.getD_eq_getElem?_getD, List.getElem?_eq_getElem hi2]
    rw [ek] at this; exact this
  clear hA0 hval0
  refine (laws_any ma na oa qa ra Ms.length mc Ns.length nc oc qc og oo qg qo mg mo rc (Ms.take 300) (Ns.take 300) Os Qs (Os.take 300) (Qs.take 300) op rt u v W (by rw [hmt]; omega) (by rw [hnt]; omega) (by omega) (by omega) hm300 (hm1.take 300) (fun z => ⟨by have := (hm2 z).1; omega, (hm2 z).2⟩) rfl rfl ho1 ho2 ho3 hq1 hq2 hq3 hkeys (wfr u hu)).mono fun e W' ⟨he, bel⟩ => ?_
  subst he
  exact ⟨_, rfl, _, _, _, [], _, [], hW', trodAll_mk1 (shut_bool Try.underlying4 _), trodAll_mk1 (Below.trod laidOut (by kernel_rfl) (of_decide_eq_true (by kernel_rfl)) k0 bel lt0), rfl, bel.frame _, fun h => by cases h⟩

/-- For every input ModelLaws returns true, and its argument reads as before. -/
theorem modelLaws_proved : Rows.ModelLawsSaid :=
  OpenClaim.holds_of_wide 5 Try.f5 rfl rfl rfl rfl rfl rfl rfl ⟨rfl, rfl, rfl, rfl, rfl⟩ rfl rfl rfl rfl rfl (by kernel_rfl) Try.func5 (by kernel_rfl)
    (of_decide_eq_true (by kernel_rfl)) (by unfold Func.isWrapper; first | (rw [if_pos (by decide +kernel)]; kernel_rfl) | (rw [if_neg (by decide +kernel)]; exact ⟨rfl, rfl⟩))
    (fun os started H enc _ => laws_lifted os started H enc)
#print axioms modelLaws_proved
end Go.Proofs.Ytjpfgfcggekklaa

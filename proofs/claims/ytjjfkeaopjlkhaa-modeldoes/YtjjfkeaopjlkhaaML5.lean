/- Layer 6: the law ModelDoes. UNDER WAY: not clean (a template without .t: see NOTES.md). -/
import Derived.Test.YtjjfkeaopjlkhaaML4
import Derived.Deep.DeepCutAuto
namespace Go.Proofs.Ytjjfkeaopjlkhaa
open Go.RowKit

set_option maxRecDepth 100000 in
set_option maxHeartbeats 800000 in
theorem law_any (ma na oa qa ra : Option Addr) (ml mc nl nc oc qc og oo qg qo mg mo rg ro rc tn : Nat) (ms : PL) (Os Qs os : List OpD) (op : OpD) (rt : RetD) (x y : Int) (w : World)
    (m2 : min (ml : Int) 300 = (ms.length : Int)) (n2 : min (nl : Int) 300 = (tn : Int)) (hmc : ms.length ≤ mc) (hnc : tn ≤ nc) (hms : ms.length ≤ 300) (hm : PairsAt w ma mg mo ms) (hmn : NilOk ma ms.length mc) (hos : Os.take 300 = os)
    (ho : OpsAt w oa og oo Os) (hon : NilOk oa Os.length oc) (hoc : Os.length ≤ oc) (hq : OpsAt w qa qg qo Qs) (hqn : NilOk qa Qs.length qc) (hqc : Qs.length ≤ qc) (hr : PairsAt w ra rg ro rt.pairs) (hrn : NilOk ra rt.pairs.length rc) (hrb : rt.pairs.length * 16 ≤ 140737488355328) :
    Calls Try.prog 4 #[.agg #[.slice ma ml mc, .slice na nl nc, .slice oa Os.length oc, .slice qa Qs.length qc, .int .i64 op.kind, .int .i64 op.key, .int .i64 op.val, .int .i64 op.hi, .bool rt.ok, .int .i64 rt.key, .int .i64 rt.val, .slice ra rt.pairs.length rc, .int .i64 x, .int .i64 y]] w fun e w' => e = .returned (.bool true) ∧ Below w.heap.size w w' := by
  have hol : os.length ≤ 300 := by rw [← hos, List.length_take]; omega
  have hot : os.take 300 = os := List.take_of_length_le hol
  have HM : Hid (PairsAt w ma mg mo ms) := hm
  have HR : Hid (PairsAt w ra rg ro rt.pairs) := hr
  have LESS : Hid (∀ W, OpsAt W oa og oo Os → OpsAt W qa qg qo Qs → Calls Try.prog 9 #[.agg #[.slice ma ml mc, .slice na nl nc, .slice oa Os.length oc, .slice qa Qs.length qc, .int .i64 op.kind, .int .i64 op.key, .int .i64 op.val, .int .i64 op.hi, .bool rt.ok, .int .i64 rt.key, .int .i64 rt.val, .slice ra rt.pairs.length rc, .int .i64 x, .int .i64 y]] W fun e w' => ∃ b1 c1 g1 b2 c2, e = .returned (.agg #[.slice ma ms.length mc, .slice na tn nc, .slice b1 os.length c1, .slice b2 (Qs.take 300).length c2, .int .i64 op.kind, .int .i64 op.key, .int .i64 op.val, .int .i64 op.hi, .bool rt.ok, .int .i64 rt.key, .int .i64 rt.val, .slice ra rt.pairs.length rc, .int .i64 x, .int .i64 y]) ∧ Below W.heap.size W w' ∧ OpsAt w' b1 g1 0 os ∧ NilOk b1 os.length c1 ∧ os.length ≤ c1 ∧ (os.length ≠ 0 → W.heap.size ≤ g1)) := fun W h1 h2 => by
    have := less_raw ma na oa qa ml mc nl nc oc qc og oo qg qo Os Qs op rt.ok rt.key rt.val x y ra rt.pairs.length rc W ms.length tn m2 n2 hmc hnc h1 hon hoc h2 hqn hqc
    rw [hos] at this
    exact this
  obtain ⟨E, hE⟩ : ∃ E, doErr ms op = E := ⟨_, rfl⟩
  obtain ⟨L, hL⟩ : ∃ L, doL ms op = L := ⟨_, rfl⟩
  obtain ⟨r, hrr⟩ : ∃ r, doR ms op = r := ⟨_, rfl⟩
  obtain ⟨E2, hE2⟩ : ∃ E, runErr ms os = E := ⟨_, rfl⟩
  obtain ⟨L2, hL2⟩ : ∃ L, runLd ms os = L := ⟨_, rfl⟩
  obtain ⟨R2, hR2⟩ : ∃ R, runRd ms os = R := ⟨_, rfl⟩
  obtain ⟨f1, hf1⟩ : ∃ f, fitB ms op rt = f := ⟨_, rfl⟩
  obtain ⟨f2, hf2⟩ : ∃ f, fitB ms op r = f := ⟨_, rfl⟩
  have y1 : (ms.length + 2) * 16 ≤ 140737488355328 := Nat.le_trans (Nat.mul_le_mul_right 16 (show ms.length + 2 ≤ 302 by omega)) (by decide)
  have y2 : (ms.length + os.length + 2) * 48 ≤ 140737488355328 := Nat.le_trans (Nat.mul_le_mul_right 48 (show ms.length + os.length + 2 ≤ 602 by omega)) (by decide)
  have y3 : ms.length * 16 ≤ 140737488355328 := Nat.le_trans (Nat.mul_le_mul_right 16 hms) (by decide)
  have COPM : Hid (∀ W, PairsAt W ma mg mo ms → CopQ ma mc ms W) := fun W hW => copied_any ma mg mo mc ms W hW hmn y3
  have COPR : Hid (∀ W, PairsAt W ra rg ro rt.pairs → CopQ ra rc rt.pairs W) := fun W hW => copied_any ra rg ro rc rt.pairs W hW hrn hrb
  have DO : Hid (∀ W base g cap, PairsAt W base g 0 ms → NilOk base ms.length cap → ms.length ≤ cap → cap ≤ maxLen → DoQ 31 base cap ms op E L r W) := fun W base g cap h1 h2 h3 h4 => doQ_of (pDo_any base g 0 cap ms op W h1 h2 h3 h4 y1) hE hL hrr
  have RDO : Hid (∀ W, PairsAt W ma mg mo ms → DoQ 32 ma mc ms op E L r W) := fun W h1 => doQ_of (rDo_any ma mg mo mc ms op W h1 hmn y1) hE hL hrr
  have FEW : Hid (∀ W b1 g1 c1, OpsAt W b1 g1 0 os → NilOk b1 os.length c1 → os.length ≤ c1 → Calls Try.prog 34 #[.slice b1 os.length c1] W fun e w' => ∃ base cap g, e = .returned (.slice base os.length cap) ∧ Below W.heap.size W w' ∧ OpsAt w' base g 0 os) := fun W b1 g1 c1 h1 h2 h3 => by
    have := few_any b1 g1 0 c1 os W h1 h2 h3
    rw [hot] at this
    refine this.mono ?_
    rintro e w' ⟨base, cap, g, e1, h5, h6, _⟩
    exact ⟨base, cap, g, e1, h5, h6⟩
  have RUN : Hid (∀ W base g cap ob og oc, PairsAt W base g 0 ms → NilOk base ms.length cap → OpsAt W ob og 0 os → RunQ 33 base cap ms ob oc os E2 L2 R2 W) := fun W base g cap ob og oc h1 h2 h3 => runQ_of (pRun_any base g 0 cap ms ob og 0 oc os W h1 h2 h3 y2) hE2 hL2 hR2
  have RRUN : Hid (∀ W b1 g1 c1, PairsAt W ma mg mo ms → OpsAt W b1 g1 0 os → RunQ 35 ma mc ms b1 c1 os E2 L2 R2 W) := fun W b1 g1 c1 h1 h3 => runQ_of (rRun_any ma mg mo mc ms b1 g1 0 c1 os W h1 hmn h3 y2) hE2 hL2 hR2
  have FIT1 : Hid (∀ W base g cap ga gg gc, PairsAt W base g 0 ms → NilOk base ms.length cap → ms.length ≤ cap → cap ≤ maxLen → PairsAt W ga gg 0 rt.pairs → FitQ 37 base cap ms op rt ga gc f1 E W) := fun W base g cap ga gg gc h1 h2 h3 h4 h5 => by
    have := pFits_any base g 0 cap ms op rt ga gg 0 gc W h1 h2 h3 h4 y1 h5
    rw [hf1, hE] at this
    exact this
  have RFIT1 : Hid (∀ W, PairsAt W ma mg mo ms → PairsAt W ra rg ro rt.pairs → FitQ 38 ma mc ms op rt ra rc f1 E W) := fun W h1 h5 => by
    have := rFits_any ma mg mo mc ms op rt ra rg ro rc W h1 hmn y1 h5
    rw [hf1, hE] at this
    exact this
  have FIT2 : Hid (∀ W base g cap ga gg gc, PairsAt W base g 0 ms → NilOk base ms.length cap → ms.length ≤ cap → cap ≤ maxLen → PairsAt W ga gg 0 r.pairs → FitQ 37 base cap ms op r ga gc f2 E W) := fun W base g cap ga gg gc h1 h2 h3 h4 h5 => by
    have := pFits_any base g 0 cap ms op r ga gg 0 gc W h1 h2 h3 h4 y1 h5
    rw [hf2, hE] at this
    exact this
  have RFIT2 : Hid (∀ W ga gg gc, PairsAt W ma mg mo ms → PairsAt W ga gg 0 r.pairs → FitQ 38 ma mc ms op r ga gc f2 E W) := fun W ga gg gc h1 h5 => by
    have := rFits_any ma mg mo mc ms op r ga gg 0 gc W h1 hmn y1 h5
    rw [hf2, hE] at this
    exact this
  have HO : Hid (OpsAt w oa og oo Os) := ho
  have HQ : Hid (OpsAt w qa qg qo Qs) := hq
  obtain ⟨ql, hql⟩ : ∃ ql, (Qs.take 300).length = ql := ⟨_, rfl⟩
  rw [hql] at LESS
  clear hE hL hrr hE2 hL2 hR2 hf1 hf2 hol hot hm hr ho hq hmn hrn hrb hon hoc hqn hqc hos hql m2 n2 hmc hnc hms y1 y2 y3
  unfold CopQ at COPM COPR
  unfold DoQ at DO RDO
  unfold RunQ at RUN RRUN
  unfold FitQ at FIT1 RFIT1 FIT2 RFIT2
  go_enter Try.func4, Try.ntmps4
  go_wp2_with fail
  obtain ⟨WA, hWA⟩ : ∃ WA, WA = w.alloc (.cells #[.slice ma ml mc, .slice na nl nc, .slice oa Os.length oc, .slice qa Qs.length qc, .int .i64 op.kind, .int .i64 op.key, .int .i64 op.val, .int .i64 op.hi, .bool rt.ok, .int .i64 rt.key, .int .i64 rt.val, .slice ra rt.pairs.length rc, .int .i64 x, .int .i64 y] 29) := ⟨_, rfl⟩
  rw [← hWA]
  have bA : Below w.heap.size w WA := by rw [hWA]; exact below_alloc _ _
  have zA : WA.heap.size = w.heap.size + 1 := by rw [hWA]; simp
  have CIN : Hid (∀ k, WA.cell? ⟨w.heap.size, k, none⟩ = (#[.slice ma ml mc, .slice na nl nc, .slice oa Os.length oc, .slice qa Qs.length qc, .int .i64 op.kind, .int .i64 op.key, .int .i64 op.val, .int .i64 op.hi, .bool rt.ok, .int .i64 rt.key, .int .i64 rt.val, .slice ra rt.pairs.length rc, .int .i64 x, .int .i64 y] : Array Value)[k]?) := fun k => by rw [hWA]; exact cell_new w _ _ k
  have FIN0 : Hid (∀ k, WA.frozen? ⟨w.heap.size, k, none⟩ = false) := fun k => by rw [hWA]; exact frozen_new w _ _ k
  have zA1 : w.heap.size < WA.heap.size := by omega
  have BA : Hid (Below w.heap.size w WA) := bA
  clear hWA bA zA
  refine (fixed_any WA).mono ?_
  rintro e w1 ⟨rfl, hb1⟩
  have B1 : Hid (Below WA.heap.size WA w1) := hb1
  clear hb1
  have i0 : w1.cell? ⟨w.heap.size, 0, none⟩ = some (.slice ma ml mc) := (B1.out.cell (p := ⟨w.heap.size, 0, none⟩) zA1).trans (CIN.out 0)
  have i1 : w1.cell? ⟨w.heap.size, 1, none⟩ = some (.slice na nl nc) := (B1.out.cell (p := ⟨w.heap.size, 1, none⟩) zA1).trans (CIN.out 1)
  have i2 : w1.cell? ⟨w.heap.size, 2, none⟩ = some (.slice oa Os.length oc) := (B1.out.cell (p := ⟨w.heap.size, 2, none⟩) zA1).trans (CIN.out 2)
  have i3 : w1.cell? ⟨w.heap.size, 3, none⟩ = some (.slice qa Qs.length qc) := (B1.out.cell (p := ⟨w.heap.size, 3, none⟩) zA1).trans (CIN.out 3)
  have i4 : w1.cell? ⟨w.heap.size, 4, none⟩ = some (.int .i64 op.kind) := (B1.out.cell (p := ⟨w.heap.size, 4, none⟩) zA1).trans (CIN.out 4)
  have i5 : w1.cell? ⟨w.heap.size, 5, none⟩ = some (.int .i64 op.key) := (B1.out.cell (p := ⟨w.heap.size, 5, none⟩) zA1).trans (CIN.out 5)
  have i6 : w1.cell? ⟨w.heap.size, 6, none⟩ = some (.int .i64 op.val) := (B1.out.cell (p := ⟨w.heap.size, 6, none⟩) zA1).trans (CIN.out 6)
  have i7 : w1.cell? ⟨w.heap.size, 7, none⟩ = some (.int .i64 op.hi) := (B1.out.cell (p := ⟨w.heap.size, 7, none⟩) zA1).trans (CIN.out 7)
  have i8 : w1.cell? ⟨w.heap.size, 8, none⟩ = some (.bool rt.ok) := (B1.out.cell (p := ⟨w.heap.size, 8, none⟩) zA1).trans (CIN.out 8)
  have i9 : w1.cell? ⟨w.heap.size, 9, none⟩ = some (.int .i64 rt.key) := (B1.out.cell (p := ⟨w.heap.size, 9, none⟩) zA1).trans (CIN.out 9)
  have i10 : w1.cell? ⟨w.heap.size, 10, none⟩ = some (.int .i64 rt.val) := (B1.out.cell (p := ⟨w.heap.size, 10, none⟩) zA1).trans (CIN.out 10)
  have i11 : w1.cell? ⟨w.heap.size, 11, none⟩ = some (.slice ra rt.pairs.length rc) := (B1.out.cell (p := ⟨w.heap.size, 11, none⟩) zA1).trans (CIN.out 11)
  have i12 : w1.cell? ⟨w.heap.size, 12, none⟩ = some (.int .i64 x) := (B1.out.cell (p := ⟨w.heap.size, 12, none⟩) zA1).trans (CIN.out 12)
  have i13 : w1.cell? ⟨w.heap.size, 13, none⟩ = some (.int .i64 y) := (B1.out.cell (p := ⟨w.heap.size, 13, none⟩) zA1).trans (CIN.out 13)
  go_wp2_with fail
  refine (LESS.out w1 (HO.out.below (BA.out.trans (B1.out.mono (by omega)))) (HQ.out.below (BA.out.trans (B1.out.mono (by omega))))).mono ?_
  rintro e w2 ⟨b1, c1, g1, b2, c2, rfl, hb2, hop, hon, hoc, hge⟩
  have HGE : Hid (os.length ≠ 0 → w1.heap.size ≤ g1) := hge
  have B2 : Hid (Below WA.heap.size WA w2) := B1.out.trans (hb2.mono B1.out.size)
  have HOP : Hid (OpsAt w2 b1 g1 0 os) := hop
  have HON : Hid (NilOk b1 os.length c1 ∧ os.length ≤ c1) := ⟨hon, hoc⟩
  clear hge hb2 hop hon hoc i0 i1 i2 i3 i4 i5 i6 i7 i8 i9 i10 i11 i12 i13
  have j0 : w2.cell? ⟨w.heap.size, 0, none⟩ = some (.slice ma ml mc) := (B2.out.cell (p := ⟨w.heap.size, 0, none⟩) zA1).trans (CIN.out 0)
  have k0 : w2.frozen? ⟨w.heap.size, 0, none⟩ = false := (B2.out.frozen (p := ⟨w.heap.size, 0, none⟩) zA1).trans (FIN0.out 0)
  have j1 : w2.cell? ⟨w.heap.size, 1, none⟩ = some (.slice na nl nc) := (B2.out.cell (p := ⟨w.heap.size, 1, none⟩) zA1).trans (CIN.out 1)
  have k1 : w2.frozen? ⟨w.heap.size, 1, none⟩ = false := (B2.out.frozen (p := ⟨w.heap.size, 1, none⟩) zA1).trans (FIN0.out 1)
  have j2 : w2.cell? ⟨w.heap.size, 2, none⟩ = some (.slice oa Os.length oc) := (B2.out.cell (p := ⟨w.heap.size, 2, none⟩) zA1).trans (CIN.out 2)
  have k2 : w2.frozen? ⟨w.heap.size, 2, none⟩ = false := (B2.out.frozen (p := ⟨w.heap.size, 2, none⟩) zA1).trans (FIN0.out 2)
  have j3 : w2.cell? ⟨w.heap.size, 3, none⟩ = some (.slice qa Qs.length qc) := (B2.out.cell (p := ⟨w.heap.size, 3, none⟩) zA1).trans (CIN.out 3)
  have k3 : w2.frozen? ⟨w.heap.size, 3, none⟩ = false := (B2.out.frozen (p := ⟨w.heap.size, 3, none⟩) zA1).trans (FIN0.out 3)
  have j4 : w2.cell? ⟨w.heap.size, 4, none⟩ = some (.int .i64 op.kind) := (B2.out.cell (p := ⟨w.heap.size, 4, none⟩) zA1).trans (CIN.out 4)
  have k4 : w2.frozen? ⟨w.heap.size, 4, none⟩ = false := (B2.out.frozen (p := ⟨w.heap.size, 4, none⟩) zA1).trans (FIN0.out 4)
  have j5 : w2.cell? ⟨w.heap.size, 5, none⟩ = some (.int .i64 op.key) := (B2.out.cell (p := ⟨w.heap.size, 5, none⟩) zA1).trans (CIN.out 5)
  have k5 : w2.frozen? ⟨w.heap.size, 5, none⟩ = false := (B2.out.frozen (p := ⟨w.heap.size, 5, none⟩) zA1).trans (FIN0.out 5)
  have j6 : w2.cell? ⟨w.heap.size, 6, none⟩ = some (.int .i64 op.val) := (B2.out.cell (p := ⟨w.heap.size, 6, none⟩) zA1).trans (CIN.out 6)
  have k6 : w2.frozen? ⟨w.heap.size, 6, none⟩ = false := (B2.out.frozen (p := ⟨w.heap.size, 6, none⟩) zA1).trans (FIN0.out 6)
  have j7 : w2.cell? ⟨w.heap.size, 7, none⟩ = some (.int .i64 op.hi) := (B2.out.cell (p := ⟨w.heap.size, 7, none⟩) zA1).trans (CIN.out 7)
  have k7 : w2.frozen? ⟨w.heap.size, 7, none⟩ = false := (B2.out.frozen (p := ⟨w.heap.size, 7, none⟩) zA1).trans (FIN0.out 7)
  have j8 : w2.cell? ⟨w.heap.size, 8, none⟩ = some (.bool rt.ok) := (B2.out.cell (p := ⟨w.heap.size, 8, none⟩) zA1).trans (CIN.out 8)
  have k8 : w2.frozen? ⟨w.heap.size, 8, none⟩ = false := (B2.out.frozen (p := ⟨w.heap.size, 8, none⟩) zA1).trans (FIN0.out 8)
  have j9 : w2.cell? ⟨w.heap.size, 9, none⟩ = some (.int .i64 rt.key) := (B2.out.cell (p := ⟨w.heap.size, 9, none⟩) zA1).trans (CIN.out 9)
  have k9 : w2.frozen? ⟨w.heap.size, 9, none⟩ = false := (B2.out.frozen (p := ⟨w.heap.size, 9, none⟩) zA1).trans (FIN0.out 9)
  have j10 : w2.cell? ⟨w.heap.size, 10, none⟩ = some (.int .i64 rt.val) := (B2.out.cell (p := ⟨w.heap.size, 10, none⟩) zA1).trans (CIN.out 10)
  have k10 : w2.frozen? ⟨w.heap.size, 10, none⟩ = false := (B2.out.frozen (p := ⟨w.heap.size, 10, none⟩) zA1).trans (FIN0.out 10)
  have j11 : w2.cell? ⟨w.heap.size, 11, none⟩ = some (.slice ra rt.pairs.length rc) := (B2.out.cell (p := ⟨w.heap.size, 11, none⟩) zA1).trans (CIN.out 11)
  have k11 : w2.frozen? ⟨w.heap.size, 11, none⟩ = false := (B2.out.frozen (p := ⟨w.heap.size, 11, none⟩) zA1).trans (FIN0.out 11)
  have j12 : w2.cell? ⟨w.heap.size, 12, none⟩ = some (.int .i64 x) := (B2.out.cell (p := ⟨w.heap.size, 12, none⟩) zA1).trans (CIN.out 12)
  have k12 : w2.frozen? ⟨w.heap.size, 12, none⟩ = false := (B2.out.frozen (p := ⟨w.heap.size, 12, none⟩) zA1).trans (FIN0.out 12)
  have j13 : w2.cell? ⟨w.heap.size, 13, none⟩ = some (.int .i64 y) := (B2.out.cell (p := ⟨w.heap.size, 13, none⟩) zA1).trans (CIN.out 13)
  have k13 : w2.frozen? ⟨w.heap.size, 13, none⟩ = false := (B2.out.frozen (p := ⟨w.heap.size, 13, none⟩) zA1).trans (FIN0.out 13)
  obtain ⟨W3, hW3⟩ : ∃ W3, W3 = setMany w.heap.size w2 0 [.slice ma ms.length mc, .slice na tn nc, .slice b1 os.length c1, .slice b2 ql c2, .int .i64 op.kind, .int .i64 op.key, .int .i64 op.val, .int .i64 op.hi, .bool rt.ok, .int .i64 rt.key, .int .i64 rt.val, .slice ra rt.pairs.length rc, .int .i64 x, .int .i64 y] := ⟨_, rfl⟩
  have CASE : Hid (∀ w' : World, Below W3.heap.size W3 w' → ∀ k, k < 14 → w'.cell? ⟨w.heap.size, k, none⟩ = ([.slice ma ms.length mc, .slice na tn nc, .slice b1 os.length c1, .slice b2 ql c2, .int .i64 op.kind, .int .i64 op.key, .int .i64 op.val, .int .i64 op.hi, .bool rt.ok, .int .i64 rt.key, .int .i64 rt.val, .slice ra rt.pairs.length rc, .int .i64 x, .int .i64 y] : List Value)[k]?) := by
    intro w' hb k hk
    have zz : w.heap.size < W3.heap.size := by rw [hW3, setMany_size]; have := B2.out.size; omega
    rw [hb.cell (p := ⟨w.heap.size, k, none⟩) zz]
    have := setMany_in (g := w.heap.size) [.slice ma ms.length mc, .slice na tn nc, .slice b1 os.length c1, .slice b2 ql c2, .int .i64 op.kind, .int .i64 op.key, .int .i64 op.val, .int .i64 op.hi, .bool rt.ok, .int .i64 rt.key, .int .i64 rt.val, .slice ra rt.pairs.length rc, .int .i64 x, .int .i64 y] (W := w2) (b := 0) (fun j hj => by
      rw [Nat.zero_add, B2.out.cell (p := ⟨w.heap.size, j, none⟩) zA1, CIN.out]
      exact ⟨_, Array.getElem?_eq_getElem (by simpa using hj)⟩) k (by simpa using hk)
    rw [Nat.zero_add] at this
    rw [hW3]; exact this
  have z3 : WA.heap.size ≤ W3.heap.size := by rw [hW3, setMany_size]; exact B2.out.size
  have B3 : Hid (Below w.heap.size w W3) := by show Below w.heap.size w W3; rw [hW3]; exact setMany_below (Nat.le_refl _) _ (BA.out.trans (B2.out.mono (by omega)))
  have O3 : Hid (OpsAt W3 b1 g1 0 os) := by show OpsAt W3 b1 g1 0 os; rw [hW3]; exact setMany_ops (B := 0) (fun q => by have := HGE.out q; have := B1.out.size; omega) _ HOP.out
  simp only [setMany, Nat.zero_add, Nat.reduceAdd] at hW3
  go_wp2_with fail
  rw [← hW3]
  clear hW3 j0 k0 j1 k1 j2 k2 j3 k3 j4 k4 j5 k5 j6 k6 j7 k7 j8 k8 j9 k9 j10 k10 j11 k11 j12 k12 j13 k13
  have BD3 : Hid (Below W3.heap.size W3 W3.drew) := (Below.refl _ _).drew
  have z3w : w.heap.size < W3.heap.size := by omega
  have e0 : W3.cell? ⟨w.heap.size, 0, none⟩ = some (.slice ma ms.length mc) := CASE.out _ (Below.refl _ _) 0 (by omega)
  have e4 : W3.cell? ⟨w.heap.size, 4, none⟩ = some (.int .i64 op.kind) := CASE.out _ (Below.refl _ _) 4 (by omega)
  have e5 : W3.cell? ⟨w.heap.size, 5, none⟩ = some (.int .i64 op.key) := CASE.out _ (Below.refl _ _) 5 (by omega)
  have e6 : W3.cell? ⟨w.heap.size, 6, none⟩ = some (.int .i64 op.val) := CASE.out _ (Below.refl _ _) 6 (by omega)
  have e7 : W3.cell? ⟨w.heap.size, 7, none⟩ = some (.int .i64 op.hi) := CASE.out _ (Below.refl _ _) 7 (by omega)
  have BZ3 : Hid (Below W3.heap.size W3 (W3.alloc (.cells #[.bool false, .int .i64 0, .int .i64 0, .slice none 0 0] 27)).drew) := (below_alloc _ _).drew
  go_cut [3, 4, 5] (fun s3 s4 s5 wx => Did W3 E L r s3 s4 s5 wx)
  case first =>
    go_region_held3 (fun w' => w'.cell? ⟨w.heap.size, 0, none⟩ = some (.slice ma ms.length mc) ∧ w'.cell? ⟨w.heap.size, 4, none⟩ = some (.int .i64 op.kind) ∧ w'.cell? ⟨w.heap.size, 5, none⟩ = some (.int .i64 op.key) ∧ w'.cell? ⟨w.heap.size, 6, none⟩ = some (.int .i64 op.val) ∧ w'.cell? ⟨w.heap.size, 7, none⟩ = some (.int .i64 op.hi))
      (first
        | (with_reducible exact X4.out)
        | (with_reducible exact X4z.out)
        | (with_reducible exact X5.out)
        | (with_reducible exact X6.out)
        | (with_reducible exact X7.out)
        | go_keep)
      (first
        | (go_at_call 11; refine (COPM.out _ (HM.out.below ?_)).mono ?_; (focus (first | exact B3.out.trans (BD3.out.mono (by omega)) | exact B3.out.trans (BZ3.out.mono (by omega)))); rintro e w4 ⟨bc, cc, gc, rfl, hb4, hp4, hn4, hc4, hd4, _⟩; have B4 : Hid (Below W3.heap.size W3 w4) := (by first | exact BD3.out.trans hb4 | exact BZ3.out.trans (hb4.mono (by simp))); have X4 : Hid (w4.cell? ⟨w.heap.size, 0, none⟩ = some (.slice ma ms.length mc) ∧ w4.cell? ⟨w.heap.size, 4, none⟩ = some (.int .i64 op.kind) ∧ w4.cell? ⟨w.heap.size, 5, none⟩ = some (.int .i64 op.key) ∧ w4.cell? ⟨w.heap.size, 6, none⟩ = some (.int .i64 op.val) ∧ w4.cell? ⟨w.heap.size, 7, none⟩ = some (.int .i64 op.hi)) := ⟨CASE.out _ (B4.out) 0 (by omega), CASE.out _ (B4.out) 4 (by omega), CASE.out _ (B4.out) 5 (by omega), CASE.out _ (B4.out) 6 (by omega), CASE.out _ (B4.out) 7 (by omega)⟩; have X4z : Hid ((w4.alloc (.cells #[.bool false, .int .i64 0, .int .i64 0, .slice none 0 0] 27)).cell? ⟨w.heap.size, 0, none⟩ = some (.slice ma ms.length mc) ∧ (w4.alloc (.cells #[.bool false, .int .i64 0, .int .i64 0, .slice none 0 0] 27)).cell? ⟨w.heap.size, 4, none⟩ = some (.int .i64 op.kind) ∧ (w4.alloc (.cells #[.bool false, .int .i64 0, .int .i64 0, .slice none 0 0] 27)).cell? ⟨w.heap.size, 5, none⟩ = some (.int .i64 op.key) ∧ (w4.alloc (.cells #[.bool false, .int .i64 0, .int .i64 0, .slice none 0 0] 27)).cell? ⟨w.heap.size, 6, none⟩ = some (.int .i64 op.val) ∧ (w4.alloc (.cells #[.bool false, .int .i64 0, .int .i64 0, .slice none 0 0] 27)).cell? ⟨w.heap.size, 7, none⟩ = some (.int .i64 op.hi)) := ⟨CASE.out _ (B4.out.alloc B4.out.size _) 0 (by omega), CASE.out _ (B4.out.alloc B4.out.size _) 4 (by omega), CASE.out _ (B4.out.alloc B4.out.size _) 5 (by omega), CASE.out _ (B4.out.alloc B4.out.size _) 6 (by omega), CASE.out _ (B4.out.alloc B4.out.size _) 7 (by omega)⟩; have PC4 : Hid (PairsAt w4 bc gc 0 ms) := hp4; have NC4 : Hid (NilOk bc ms.length cc ∧ ms.length ≤ cc ∧ cc ≤ maxLen) := ⟨hn4, hc4, hd4⟩; (first | (have NB4 : Hid (NbAt w4 W3.heap.size) := ((NbAt.made W3).below (Below.refl _ _).drew).below hb4) | skip); clear hb4 hp4 hn4 hc4 hd4)
        | (go_at_call 31; refine (DO.out _ bc gc cc ?_ NC4.out.1 NC4.out.2.1 NC4.out.2.2).mono ?_; (focus (first | exact PC4.out | exact PC4.out.below (below_alloc _ _))); rintro e w5 ⟨a1, k1, h1, a2, k2, h2, rfl, hb5, hp5, hq5, hg5, hh5⟩; have B5 : Hid (Below W3.heap.size W3 w5) := (by first | exact B4.out.trans (hb5.mono B4.out.size) | exact (B4.out.alloc B4.out.size _).trans (hb5.mono (by have := B4.out.size; simp; omega))); have X5 : Hid (w5.cell? ⟨w.heap.size, 0, none⟩ = some (.slice ma ms.length mc) ∧ w5.cell? ⟨w.heap.size, 4, none⟩ = some (.int .i64 op.kind) ∧ w5.cell? ⟨w.heap.size, 5, none⟩ = some (.int .i64 op.key) ∧ w5.cell? ⟨w.heap.size, 6, none⟩ = some (.int .i64 op.val) ∧ w5.cell? ⟨w.heap.size, 7, none⟩ = some (.int .i64 op.hi)) := ⟨CASE.out _ (B5.out) 0 (by omega), CASE.out _ (B5.out) 4 (by omega), CASE.out _ (B5.out) 5 (by omega), CASE.out _ (B5.out) 6 (by omega), CASE.out _ (B5.out) 7 (by omega)⟩; have X6 : Hid ((w5.alloc (.cells #[.bool r.ok, .int .i64 r.key, .int .i64 r.val, .slice a2 r.pairs.length k2] 27)).cell? ⟨w.heap.size, 0, none⟩ = some (.slice ma ms.length mc) ∧ (w5.alloc (.cells #[.bool r.ok, .int .i64 r.key, .int .i64 r.val, .slice a2 r.pairs.length k2] 27)).cell? ⟨w.heap.size, 4, none⟩ = some (.int .i64 op.kind) ∧ (w5.alloc (.cells #[.bool r.ok, .int .i64 r.key, .int .i64 r.val, .slice a2 r.pairs.length k2] 27)).cell? ⟨w.heap.size, 5, none⟩ = some (.int .i64 op.key) ∧ (w5.alloc (.cells #[.bool r.ok, .int .i64 r.key, .int .i64 r.val, .slice a2 r.pairs.length k2] 27)).cell? ⟨w.heap.size, 6, none⟩ = some (.int .i64 op.val) ∧ (w5.alloc (.cells #[.bool r.ok, .int .i64 r.key, .int .i64 r.val, .slice a2 r.pairs.length k2] 27)).cell? ⟨w.heap.size, 7, none⟩ = some (.int .i64 op.hi)) := ⟨CASE.out _ (B5.out.alloc B5.out.size _) 0 (by omega), CASE.out _ (B5.out.alloc B5.out.size _) 4 (by omega), CASE.out _ (B5.out.alloc B5.out.size _) 5 (by omega), CASE.out _ (B5.out.alloc B5.out.size _) 6 (by omega), CASE.out _ (B5.out.alloc B5.out.size _) 7 (by omega)⟩; have PL5 : Hid (PairsAt w5 a1 h1 0 L) := hp5; have PR5 : Hid (PairsAt w5 a2 h2 0 r.pairs) := hq5; (first | (have NB5 : Hid (NbAt w5 W3.heap.size) := NB4.out.below hb5; have G1 : Hid (L.length ≠ 0 → W3.heap.size < h1) := (fun q => by have := hg5 q; have := NB4.out.lt; omega); have G2 : Hid (r.pairs.length ≠ 0 → W3.heap.size < h2) := (fun q => by have := hh5 q; have := NB4.out.lt; omega); have X7 : Hid (((((w5.setCell ⟨W3.heap.size, 0, none⟩ (.bool r.ok)).setCell ⟨W3.heap.size, 1, none⟩ (.int .i64 r.key)).setCell ⟨W3.heap.size, 2, none⟩ (.int .i64 r.val)).setCell ⟨W3.heap.size, 3, none⟩ (.slice a2 r.pairs.length k2)).cell? ⟨w.heap.size, 0, none⟩ = some (.slice ma ms.length mc) ∧ ((((w5.setCell ⟨W3.heap.size, 0, none⟩ (.bool r.ok)).setCell ⟨W3.heap.size, 1, none⟩ (.int .i64 r.key)).setCell ⟨W3.heap.size, 2, none⟩ (.int .i64 r.val)).setCell ⟨W3.heap.size, 3, none⟩ (.slice a2 r.pairs.length k2)).cell? ⟨w.heap.size, 4, none⟩ = some (.int .i64 op.kind) ∧ ((((w5.setCell ⟨W3.heap.size, 0, none⟩ (.bool r.ok)).setCell ⟨W3.heap.size, 1, none⟩ (.int .i64 r.key)).setCell ⟨W3.heap.size, 2, none⟩ (.int .i64 r.val)).setCell ⟨W3.heap.size, 3, none⟩ (.slice a2 r.pairs.length k2)).cell? ⟨w.heap.size, 5, none⟩ = some (.int .i64 op.key) ∧ ((((w5.setCell ⟨W3.heap.size, 0, none⟩ (.bool r.ok)).setCell ⟨W3.heap.size, 1, none⟩ (.int .i64 r.key)).setCell ⟨W3.heap.size, 2, none⟩ (.int .i64 r.val)).setCell ⟨W3.heap.size, 3, none⟩ (.slice a2 r.pairs.length k2)).cell? ⟨w.heap.size, 6, none⟩ = some (.int .i64 op.val) ∧ ((((w5.setCell ⟨W3.heap.size, 0, none⟩ (.bool r.ok)).setCell ⟨W3.heap.size, 1, none⟩ (.int .i64 r.key)).setCell ⟨W3.heap.size, 2, none⟩ (.int .i64 r.val)).setCell ⟨W3.heap.size, 3, none⟩ (.slice a2 r.pairs.length k2)).cell? ⟨w.heap.size, 7, none⟩ = some (.int .i64 op.hi)) := ⟨CASE.out _ (below4 B5.out (Nat.le_refl _) _ _ _ _) 0 (by omega), CASE.out _ (below4 B5.out (Nat.le_refl _) _ _ _ _) 4 (by omega), CASE.out _ (below4 B5.out (Nat.le_refl _) _ _ _ _) 5 (by omega), CASE.out _ (below4 B5.out (Nat.le_refl _) _ _ _ _) 6 (by omega), CASE.out _ (below4 B5.out (Nat.le_refl _) _ _ _ _) 7 (by omega)⟩; have y0 : w5.cell? ⟨W3.heap.size, 0, none⟩ = some (.bool false) := NB5.out.cells 0; have y1 : w5.cell? ⟨W3.heap.size, 1, none⟩ = some (.int .i64 0) := NB5.out.cells 1; have y2 : w5.cell? ⟨W3.heap.size, 2, none⟩ = some (.int .i64 0) := NB5.out.cells 2; have y3 : w5.cell? ⟨W3.heap.size, 3, none⟩ = some (.slice none 0 0) := NB5.out.cells 3; have yf : ∀ k, w5.frozen? ⟨W3.heap.size, k, none⟩ = false := NB5.out.free; have yl : W3.heap.size < w5.heap.size := NB5.out.lt) | (have NB5 : Hid (NbAt w5 w4.heap.size) := (NbAt.made w4).below hb5; have G1 : Hid (L.length ≠ 0 → w4.heap.size < h1) := (fun q => by have := hg5 q; simp at this; omega); have G2 : Hid (r.pairs.length ≠ 0 → w4.heap.size < h2) := (fun q => by have := hh5 q; simp at this; omega); have X7 : Hid (((((w5.setCell ⟨w4.heap.size, 0, none⟩ (.bool r.ok)).setCell ⟨w4.heap.size, 1, none⟩ (.int .i64 r.key)).setCell ⟨w4.heap.size, 2, none⟩ (.int .i64 r.val)).setCell ⟨w4.heap.size, 3, none⟩ (.slice a2 r.pairs.length k2)).cell? ⟨w.heap.size, 0, none⟩ = some (.slice ma ms.length mc) ∧ ((((w5.setCell ⟨w4.heap.size, 0, none⟩ (.bool r.ok)).setCell ⟨w4.heap.size, 1, none⟩ (.int .i64 r.key)).setCell ⟨w4.heap.size, 2, none⟩ (.int .i64 r.val)).setCell ⟨w4.heap.size, 3, none⟩ (.slice a2 r.pairs.length k2)).cell? ⟨w.heap.size, 4, none⟩ = some (.int .i64 op.kind) ∧ ((((w5.setCell ⟨w4.heap.size, 0, none⟩ (.bool r.ok)).setCell ⟨w4.heap.size, 1, none⟩ (.int .i64 r.key)).setCell ⟨w4.heap.size, 2, none⟩ (.int .i64 r.val)).setCell ⟨w4.heap.size, 3, none⟩ (.slice a2 r.pairs.length k2)).cell? ⟨w.heap.size, 5, none⟩ = some (.int .i64 op.key) ∧ ((((w5.setCell ⟨w4.heap.size, 0, none⟩ (.bool r.ok)).setCell ⟨w4.heap.size, 1, none⟩ (.int .i64 r.key)).setCell ⟨w4.heap.size, 2, none⟩ (.int .i64 r.val)).setCell ⟨w4.heap.size, 3, none⟩ (.slice a2 r.pairs.length k2)).cell? ⟨w.heap.size, 6, none⟩ = some (.int .i64 op.val) ∧ ((((w5.setCell ⟨w4.heap.size, 0, none⟩ (.bool r.ok)).setCell ⟨w4.heap.size, 1, none⟩ (.int .i64 r.key)).setCell ⟨w4.heap.size, 2, none⟩ (.int .i64 r.val)).setCell ⟨w4.heap.size, 3, none⟩ (.slice a2 r.pairs.length k2)).cell? ⟨w.heap.size, 7, none⟩ = some (.int .i64 op.hi)) := ⟨CASE.out _ (below4 B5.out B4.out.size _ _ _ _) 0 (by omega), CASE.out _ (below4 B5.out B4.out.size _ _ _ _) 4 (by omega), CASE.out _ (below4 B5.out B4.out.size _ _ _ _) 5 (by omega), CASE.out _ (below4 B5.out B4.out.size _ _ _ _) 6 (by omega), CASE.out _ (below4 B5.out B4.out.size _ _ _ _) 7 (by omega)⟩; have y0 : w5.cell? ⟨w4.heap.size, 0, none⟩ = some (.bool false) := NB5.out.cells 0; have y1 : w5.cell? ⟨w4.heap.size, 1, none⟩ = some (.int .i64 0) := NB5.out.cells 1; have y2 : w5.cell? ⟨w4.heap.size, 2, none⟩ = some (.int .i64 0) := NB5.out.cells 2; have y3 : w5.cell? ⟨w4.heap.size, 3, none⟩ = some (.slice none 0 0) := NB5.out.cells 3; have yf : ∀ k, w5.frozen? ⟨w4.heap.size, k, none⟩ = false := NB5.out.free; have yl : w4.heap.size < w5.heap.size := NB5.out.lt) | skip); clear hb5 hp5 hq5 hg5 hh5))
    all_goals
      go_wp2_with fail
      go_meet
      first
        | exact did_set B5.out NB5.out (Nat.le_refl _) PL5.out PR5.out G1.out G2.out
        | exact did_set B5.out NB5.out B4.out.size PL5.out PR5.out G1.out G2.out
        | exact did_new B5.out PL5.out PR5.out
  case rest =>
    obtain ⟨a1, k1, h1, a2, k2, h2, nb, rfl, rfl, rfl, hbx, hnb, hnx, hcx, hpx, hqx⟩ := hcut
    clear e0 e4 e5 e6 e7
    have BX0 : Hid (Below W3.heap.size W3 wc) := hbx
    have zc := hbx.size
    have qE : (E != E) = false := by simp
    have qE2 : (E2 != E2) = false := by simp
    have qf1 : (f1 != f1) = false := by simp
    have qf2 : (f2 == f2) = true := by simp
    have qE3 : (E == E) = true := by simp
    have e0 : wc.cell? ⟨w.heap.size, 0, none⟩ = some (.slice ma ms.length mc) := CASE.out _ BX0.out 0 (by omega)
    have e4 : wc.cell? ⟨w.heap.size, 4, none⟩ = some (.int .i64 op.kind) := CASE.out _ BX0.out 4 (by omega)
    have e5 : wc.cell? ⟨w.heap.size, 5, none⟩ = some (.int .i64 op.key) := CASE.out _ BX0.out 5 (by omega)
    have e6 : wc.cell? ⟨w.heap.size, 6, none⟩ = some (.int .i64 op.val) := CASE.out _ BX0.out 6 (by omega)
    have e7 : wc.cell? ⟨w.heap.size, 7, none⟩ = some (.int .i64 op.hi) := CASE.out _ BX0.out 7 (by omega)
    go_wp2_with fail
    refine (RDO.out wc (HM.out.below (B3.out.trans (BX0.out.mono (by omega))))).mono ?_
    rintro e w7 ⟨a3, k3, h3, a4, k4, h4, rfl, hb7, hp7, hq7, _, _⟩
    obtain ⟨W8, hW8⟩ : ∃ W8, W8 = w7.alloc (.cells #[.bool r.ok, .int .i64 r.key, .int .i64 r.val, .slice a4 r.pairs.length k4] 27) := ⟨_, rfl⟩
    have b8 : Below w7.heap.size w7 W8 := by rw [hW8]; exact below_alloc _ _
    have z8 : w7.heap.size < W8.heap.size := by rw [hW8]; simp
    have z7 := hb7.size
    have bc8 : Below wc.heap.size wc W8 := hb7.trans (b8.mono z7)
    have B8 : Hid (Below W3.heap.size W3 W8) := BX0.out.trans (bc8.mono zc)
    have NC : Hid (∀ w', Below W8.heap.size W8 w' → ∀ k, w'.cell? ⟨nb, k, none⟩ = (#[.bool r.ok, .int .i64 r.key, .int .i64 r.val, .slice a2 r.pairs.length k2] : Array Value)[k]?) := fun w' hb k => by
      rw [hb.cell (p := ⟨nb, k, none⟩) (show nb < _ by omega), bc8.cell (p := ⟨nb, k, none⟩) hnx]; exact hcx k
    have SC : Hid (∀ w', Below W8.heap.size W8 w' → ∀ k, w'.cell? ⟨w7.heap.size, k, none⟩ = (#[.bool r.ok, .int .i64 r.key, .int .i64 r.val, .slice a4 r.pairs.length k4] : Array Value)[k]?) := fun w' hb k => by
      rw [hb.cell (p := ⟨w7.heap.size, k, none⟩) z8, hW8]; exact cell_new w7 _ _ k
    have P1 : Hid (PairsAt W8 a1 h1 0 L) := hpx.below bc8
    have P2 : Hid (PairsAt W8 a2 h2 0 r.pairs) := hqx.below bc8
    have P3 : Hid (PairsAt W8 a3 h3 0 L) := hp7.below b8
    have P4 : Hid (PairsAt W8 a4 h4 0 r.pairs) := hq7.below b8
    have zw8 : w.heap.size < W8.heap.size := by omega
    have z38 : W3.heap.size ≤ W8.heap.size := by omega
    have C8 : Hid (∀ w', Below W8.heap.size W8 w' → Below W3.heap.size W3 w') := fun w' hb => B8.out.trans (hb.mono z38)
    have M8 : Hid (∀ w', Below W8.heap.size W8 w' → PairsAt w' ma mg mo ms) := fun w' hb => HM.out.below (B3.out.trans ((C8.out w' hb).mono (by omega)))
    have O8 : Hid (∀ w', Below W8.heap.size W8 w' → OpsAt w' b1 g1 0 os) := fun w' hb => O3.out.below (C8.out w' hb)
    have R8 : Hid (∀ w', Below W8.heap.size W8 w' → PairsAt w' ra rg ro rt.pairs) := fun w' hb => HR.out.below (B3.out.trans ((C8.out w' hb).mono (by omega)))
    have HNB : Hid (nb < W8.heap.size) := by show nb < W8.heap.size; omega
    clear hb7 hp7 hq7 b8 bc8 hcx hpx hqx hbx e0 e4 e5 e6 e7
    go_wp2_with fail
    rw [← hW8]
    clear hW8
    refine (same_self a1 a3 h1 0 k1 h3 0 k3 L W8 P1.out P3.out).mono ?_
    rintro e w9 ⟨rfl, hb9⟩
    have BX9 : Hid (Below W8.heap.size W8 w9) := hb9
    clear hb9
    have n0 : w9.cell? ⟨nb, 0, none⟩ = some (.bool r.ok) := NC.out _ BX9.out 0
    have n1 : w9.cell? ⟨nb, 1, none⟩ = some (.int .i64 r.key) := NC.out _ BX9.out 1
    have n2 : w9.cell? ⟨nb, 2, none⟩ = some (.int .i64 r.val) := NC.out _ BX9.out 2
    have n3 : w9.cell? ⟨nb, 3, none⟩ = some (.slice a2 r.pairs.length k2) := NC.out _ BX9.out 3
    have s0 : w9.cell? ⟨w7.heap.size, 0, none⟩ = some (.bool r.ok) := SC.out _ BX9.out 0
    have s1 : w9.cell? ⟨w7.heap.size, 1, none⟩ = some (.int .i64 r.key) := SC.out _ BX9.out 1
    have s2 : w9.cell? ⟨w7.heap.size, 2, none⟩ = some (.int .i64 r.val) := SC.out _ BX9.out 2
    have s3 : w9.cell? ⟨w7.heap.size, 3, none⟩ = some (.slice a4 r.pairs.length k4) := SC.out _ BX9.out 3
    go_wp2_with fail
    refine (sameRet_self a2 a4 h2 0 k2 h4 0 k4 r w9 (P2.out.below BX9.out) (P4.out.below BX9.out)).mono ?_
    rintro e w10 ⟨rfl, hb10⟩
    have BX10 : Hid (Below W8.heap.size W8 w10) := BX9.out.trans (hb10.mono BX9.out.size)
    have BX10d : Hid (Below W8.heap.size W8 w10.drew) := BX10.out.drew
    clear hb10 n0 n1 n2 n3 s0 s1 s2 s3
    have e0 : w10.cell? ⟨w.heap.size, 0, none⟩ = some (.slice ma ms.length mc) := CASE.out _ (C8.out _ BX10.out) 0 (by omega)
    have e2 : w10.cell? ⟨w.heap.size, 2, none⟩ = some (.slice b1 os.length c1) := CASE.out _ (C8.out _ BX10.out) 2 (by omega)
    go_wp2_with fail
    go_region_held3 (fun w' => w'.cell? ⟨w.heap.size, 0, none⟩ = some (.slice ma ms.length mc) ∧ w'.cell? ⟨w.heap.size, 2, none⟩ = some (.slice b1 os.length c1))
      (first
        | (with_reducible exact X11.out)
        | (with_reducible exact X12.out)
        | (with_reducible exact X13.out)
        | go_keep)
      (first
        | (go_at_call 11; refine (COPM.out _ (M8.out _ BX10d.out)).mono ?_; rintro e w11 ⟨bd, cd, gd, rfl, hb11, hp11, hn11, _, _, _⟩; have BX11 : Hid (Below W8.heap.size W8 w11) := BX10d.out.trans (hb11.mono BX10d.out.size); have X11 : Hid (w11.cell? ⟨w.heap.size, 0, none⟩ = some (.slice ma ms.length mc) ∧ w11.cell? ⟨w.heap.size, 2, none⟩ = some (.slice b1 os.length c1)) := ⟨CASE.out _ (C8.out _ BX11.out) 0 (by omega), CASE.out _ (C8.out _ BX11.out) 2 (by omega)⟩; have PC11 : Hid (PairsAt w11 bd gd 0 ms) := hp11; have NC11 : Hid (NilOk bd ms.length cd) := hn11; clear hb11 hp11 hn11)
        | (go_at_call 34; refine (FEW.out w11 b1 g1 c1 (O8.out _ BX11.out) HON.out.1 HON.out.2).mono ?_; rintro e w12 ⟨be, ce, ge, rfl, hb12, hp12⟩; have BX12 : Hid (Below W8.heap.size W8 w12) := BX11.out.trans (hb12.mono BX11.out.size); have X12 : Hid (w12.cell? ⟨w.heap.size, 0, none⟩ = some (.slice ma ms.length mc) ∧ w12.cell? ⟨w.heap.size, 2, none⟩ = some (.slice b1 os.length c1)) := ⟨CASE.out _ (C8.out _ BX12.out) 0 (by omega), CASE.out _ (C8.out _ BX12.out) 2 (by omega)⟩; have PC12 : Hid (PairsAt w12 bd gd 0 ms) := PC11.out.below hb12; have PO12 : Hid (OpsAt w12 be ge 0 os) := hp12; clear hb12 hp12)
        | (go_at_call 33; refine (RUN.out w12 bd gd cd be ge ce PC12.out NC11.out PO12.out).mono ?_; rintro e w13 ⟨a5, k5, h5, a6, k6, h6, rfl, hb13, hp13, hq13⟩; have BX13 : Hid (Below W8.heap.size W8 w13) := BX12.out.trans (hb13.mono BX12.out.size); have X13 : Hid (w13.cell? ⟨w.heap.size, 0, none⟩ = some (.slice ma ms.length mc) ∧ w13.cell? ⟨w.heap.size, 2, none⟩ = some (.slice b1 os.length c1)) := ⟨CASE.out _ (C8.out _ BX13.out) 0 (by omega), CASE.out _ (C8.out _ BX13.out) 2 (by omega)⟩; have P5 : Hid (PairsAt w13 a5 h5 0 L2) := hp13; have P6 : Hid (RetsAt w13 a6 h6 0 R2) := hq13; clear hb13 hp13 hq13))
    clear e0 e2
    have e0 : w13.cell? ⟨w.heap.size, 0, none⟩ = some (.slice ma ms.length mc) := CASE.out _ (C8.out _ BX13.out) 0 (by omega)
    have e2 : w13.cell? ⟨w.heap.size, 2, none⟩ = some (.slice b1 os.length c1) := CASE.out _ (C8.out _ BX13.out) 2 (by omega)
    go_wp2_with fail
    refine (RRUN.out w13 b1 g1 c1 (M8.out _ BX13.out) (O8.out _ BX13.out)).mono ?_
    rintro e w14 ⟨a7, k7, h7, a8, k8, h8, rfl, hb14, hp14, hq14⟩
    have BX14 : Hid (Below W8.heap.size W8 w14) := BX13.out.trans (hb14.mono BX13.out.size)
    have P5' : Hid (PairsAt w14 a5 h5 0 L2) := P5.out.below hb14
    have P6' : Hid (RetsAt w14 a6 h6 0 R2) := P6.out.below hb14
    have P7 : Hid (PairsAt w14 a7 h7 0 L2) := hp14
    have P8 : Hid (RetsAt w14 a8 h8 0 R2) := hq14
    clear hb14 hp14 hq14 e0 e2
    go_wp2_with fail
    refine (same_self a5 a7 h5 0 k5 h7 0 k7 L2 w14 P5'.out P7.out).mono ?_
    rintro e w15 ⟨rfl, hb15⟩
    have BX15 : Hid (Below W8.heap.size W8 w15) := BX14.out.trans (hb15.mono BX14.out.size)
    have P6'' : Hid (RetsAt w15 a6 h6 0 R2) := P6'.out.below hb15
    have P8' : Hid (RetsAt w15 a8 h8 0 R2) := P8.out.below hb15
    clear hb15
    go_wp2_with fail
    refine (sameRets_any a6 a8 h6 0 k6 h8 0 k8 R2 w15 P6''.out P8'.out).mono ?_
    rintro e w16 ⟨rfl, hb16⟩
    have BX16 : Hid (Below W8.heap.size W8 w16) := BX15.out.trans (hb16.mono BX15.out.size)
    clear hb16
    have e8 : w16.cell? ⟨w.heap.size, 8, none⟩ = some (.bool rt.ok) := CASE.out _ (C8.out _ BX16.out) 8 (by omega)
    have e9 : w16.cell? ⟨w.heap.size, 9, none⟩ = some (.int .i64 rt.key) := CASE.out _ (C8.out _ BX16.out) 9 (by omega)
    have e10 : w16.cell? ⟨w.heap.size, 10, none⟩ = some (.int .i64 rt.val) := CASE.out _ (C8.out _ BX16.out) 10 (by omega)
    have e11 : w16.cell? ⟨w.heap.size, 11, none⟩ = some (.slice ra rt.pairs.length rc) := CASE.out _ (C8.out _ BX16.out) 11 (by omega)
    have BX16d : Hid (Below W8.heap.size W8 w16.drew) := BX16.out.drew
    have BZ16 : Hid (Below W8.heap.size W8 (w16.alloc (.cells #[.bool false, .int .i64 0, .int .i64 0, .slice none 0 0] 27)).drew) := (BX16.out.alloc BX16.out.size _).drew
    have z16 := BX16.out.size
    go_wp2_with fail
    go_cut [11] (fun s wx => Did2 W8 rt s wx)
    case first =>
      go_region_held3 (fun w' => w'.cell? ⟨w.heap.size, 8, none⟩ = some (.bool rt.ok) ∧ w'.cell? ⟨w.heap.size, 9, none⟩ = some (.int .i64 rt.key) ∧ w'.cell? ⟨w.heap.size, 10, none⟩ = some (.int .i64 rt.val) ∧ w'.cell? ⟨w.heap.size, 11, none⟩ = some (.slice ra rt.pairs.length rc))
        (first
          | (with_reducible exact X17.out)
          | (with_reducible exact X17a.out)
          | (with_reducible exact X17c.out)
          | go_keep)
        (first
          | (go_at_call 11; refine (COPR.out _ (R8.out _ ?_)).mono ?_; (focus (first | exact BX16d.out | exact BZ16.out)); rintro e w17 ⟨bf, cf, gf, rfl, hb17, hp17, _, _, _, hg17⟩; have B17 : Hid (Below W8.heap.size W8 w17) := (by first | exact BX16d.out.trans (hb17.mono z16) | exact BZ16.out.trans (hb17.mono (by simp; omega))); have X17 : Hid (w17.cell? ⟨w.heap.size, 8, none⟩ = some (.bool rt.ok) ∧ w17.cell? ⟨w.heap.size, 9, none⟩ = some (.int .i64 rt.key) ∧ w17.cell? ⟨w.heap.size, 10, none⟩ = some (.int .i64 rt.val) ∧ w17.cell? ⟨w.heap.size, 11, none⟩ = some (.slice ra rt.pairs.length rc)) := ⟨CASE.out _ (C8.out _ B17.out) 8 (by omega), CASE.out _ (C8.out _ B17.out) 9 (by omega), CASE.out _ (C8.out _ B17.out) 10 (by omega), CASE.out _ (C8.out _ B17.out) 11 (by omega)⟩; have X17a : Hid ((w17.alloc (.cells #[.bool rt.ok, .int .i64 rt.key, .int .i64 rt.val, .slice bf rt.pairs.length cf] 27)).cell? ⟨w.heap.size, 8, none⟩ = some (.bool rt.ok) ∧ (w17.alloc (.cells #[.bool rt.ok, .int .i64 rt.key, .int .i64 rt.val, .slice bf rt.pairs.length cf] 27)).cell? ⟨w.heap.size, 9, none⟩ = some (.int .i64 rt.key) ∧ (w17.alloc (.cells #[.bool rt.ok, .int .i64 rt.key, .int .i64 rt.val, .slice bf rt.pairs.length cf] 27)).cell? ⟨w.heap.size, 10, none⟩ = some (.int .i64 rt.val) ∧ (w17.alloc (.cells #[.bool rt.ok, .int .i64 rt.key, .int .i64 rt.val, .slice bf rt.pairs.length cf] 27)).cell? ⟨w.heap.size, 11, none⟩ = some (.slice ra rt.pairs.length rc)) := ⟨CASE.out _ (C8.out _ (B17.out.alloc B17.out.size _)) 8 (by omega), CASE.out _ (C8.out _ (B17.out.alloc B17.out.size _)) 9 (by omega), CASE.out _ (C8.out _ (B17.out.alloc B17.out.size _)) 10 (by omega), CASE.out _ (C8.out _ (B17.out.alloc B17.out.size _)) 11 (by omega)⟩; have P17 : Hid (PairsAt w17 bf gf 0 rt.pairs) := hp17; (first | (have NB17 : Hid (NbAt w17 w16.heap.size) := ((NbAt.made w16).below (Below.refl _ _).drew).below hb17; have G17 : Hid (rt.pairs.length ≠ 0 → w16.heap.size < gf) := (fun q => by have := hg17 q; simp at this; omega); have X17c : Hid (((((w17.setCell ⟨w16.heap.size, 0, none⟩ (.bool rt.ok)).setCell ⟨w16.heap.size, 1, none⟩ (.int .i64 rt.key)).setCell ⟨w16.heap.size, 2, none⟩ (.int .i64 rt.val)).setCell ⟨w16.heap.size, 3, none⟩ (.slice bf rt.pairs.length cf)).cell? ⟨w.heap.size, 8, none⟩ = some (.bool rt.ok) ∧ ((((w17.setCell ⟨w16.heap.size, 0, none⟩ (.bool rt.ok)).setCell ⟨w16.heap.size, 1, none⟩ (.int .i64 rt.key)).setCell ⟨w16.heap.size, 2, none⟩ (.int .i64 rt.val)).setCell ⟨w16.heap.size, 3, none⟩ (.slice bf rt.pairs.length cf)).cell? ⟨w.heap.size, 9, none⟩ = some (.int .i64 rt.key) ∧ ((((w17.setCell ⟨w16.heap.size, 0, none⟩ (.bool rt.ok)).setCell ⟨w16.heap.size, 1, none⟩ (.int .i64 rt.key)).setCell ⟨w16.heap.size, 2, none⟩ (.int .i64 rt.val)).setCell ⟨w16.heap.size, 3, none⟩ (.slice bf rt.pairs.length cf)).cell? ⟨w.heap.size, 10, none⟩ = some (.int .i64 rt.val) ∧ ((((w17.setCell ⟨w16.heap.size, 0, none⟩ (.bool rt.ok)).setCell ⟨w16.heap.size, 1, none⟩ (.int .i64 rt.key)).setCell ⟨w16.heap.size, 2, none⟩ (.int .i64 rt.val)).setCell ⟨w16.heap.size, 3, none⟩ (.slice bf rt.pairs.length cf)).cell? ⟨w.heap.size, 11, none⟩ = some (.slice ra rt.pairs.length rc)) := ⟨CASE.out _ (C8.out _ (below4 B17.out z16 _ _ _ _)) 8 (by omega), CASE.out _ (C8.out _ (below4 B17.out z16 _ _ _ _)) 9 (by omega), CASE.out _ (C8.out _ (below4 B17.out z16 _ _ _ _)) 10 (by omega), CASE.out _ (C8.out _ (below4 B17.out z16 _ _ _ _)) 11 (by omega)⟩; have y0 : w17.cell? ⟨w16.heap.size, 0, none⟩ = some (.bool false) := NB17.out.cells 0; have y1 : w17.cell? ⟨w16.heap.size, 1, none⟩ = some (.int .i64 0) := NB17.out.cells 1; have y2 : w17.cell? ⟨w16.heap.size, 2, none⟩ = some (.int .i64 0) := NB17.out.cells 2; have y3 : w17.cell? ⟨w16.heap.size, 3, none⟩ = some (.slice none 0 0) := NB17.out.cells 3; have yf : ∀ k, w17.frozen? ⟨w16.heap.size, k, none⟩ = false := NB17.out.free; have yl : w16.heap.size < w17.heap.size := NB17.out.lt) | skip); clear hb17 hp17 hg17))
      all_goals
        go_wp2_with fail
        go_meet
        first
          | exact did2_set B17.out NB17.out z16 P17.out G17.out
          | exact did2_new B17.out P17.out
    case rest =>
      obtain ⟨ga, gk, gg, gb, rfl, hby, hgl, hgc, hgp⟩ := hcut
      clear e8 e9 e10 e11
      generalize wc = w18 at *
      have BX18 : Hid (Below W8.heap.size W8 w18) := hby
      have z18 := hby.size
      have GC : Hid (∀ w', Below w18.heap.size w18 w' → ∀ k, w'.cell? ⟨gb, k, none⟩ = (#[.bool rt.ok, .int .i64 rt.key, .int .i64 rt.val, .slice ga rt.pairs.length gk] : Array Value)[k]?) := fun w' hb k => by
        rw [hb.cell (p := ⟨gb, k, none⟩) hgl]; exact hgc k
      have PG : Hid (PairsAt w18 ga gg 0 rt.pairs) := hgp
      have BY18d : Hid (Below w18.heap.size w18 w18.drew) := (Below.refl _ _).drew
      have BXY : Hid (∀ w', Below w18.heap.size w18 w' → Below W8.heap.size W8 w') := fun w' hb => BX18.out.trans (hb.mono z18)
      clear hby hgc hgp
      have e0 : w18.cell? ⟨w.heap.size, 0, none⟩ = some (.slice ma ms.length mc) := CASE.out _ (C8.out _ BX18.out) 0 (by omega)
      have e4 : w18.cell? ⟨w.heap.size, 4, none⟩ = some (.int .i64 op.kind) := CASE.out _ (C8.out _ BX18.out) 4 (by omega)
      have e5 : w18.cell? ⟨w.heap.size, 5, none⟩ = some (.int .i64 op.key) := CASE.out _ (C8.out _ BX18.out) 5 (by omega)
      have e6 : w18.cell? ⟨w.heap.size, 6, none⟩ = some (.int .i64 op.val) := CASE.out _ (C8.out _ BX18.out) 6 (by omega)
      have e7 : w18.cell? ⟨w.heap.size, 7, none⟩ = some (.int .i64 op.hi) := CASE.out _ (C8.out _ BX18.out) 7 (by omega)
      have g0 : w18.cell? ⟨gb, 0, none⟩ = some (.bool rt.ok) := GC.out _ (Below.refl _ _) 0
      have g1 : w18.cell? ⟨gb, 1, none⟩ = some (.int .i64 rt.key) := GC.out _ (Below.refl _ _) 1
      have g2 : w18.cell? ⟨gb, 2, none⟩ = some (.int .i64 rt.val) := GC.out _ (Below.refl _ _) 2
      have g3 : w18.cell? ⟨gb, 3, none⟩ = some (.slice ga rt.pairs.length gk) := GC.out _ (Below.refl _ _) 3
      go_wp2_with fail
      go_region_held3 (fun w' => w'.cell? ⟨w.heap.size, 0, none⟩ = some (.slice ma ms.length mc) ∧ w'.cell? ⟨w.heap.size, 4, none⟩ = some (.int .i64 op.kind) ∧ w'.cell? ⟨w.heap.size, 5, none⟩ = some (.int .i64 op.key) ∧ w'.cell? ⟨w.heap.size, 6, none⟩ = some (.int .i64 op.val) ∧ w'.cell? ⟨w.heap.size, 7, none⟩ = some (.int .i64 op.hi) ∧ w'.cell? ⟨gb, 0, none⟩ = some (.bool rt.ok) ∧ w'.cell? ⟨gb, 1, none⟩ = some (.int .i64 rt.key) ∧ w'.cell? ⟨gb, 2, none⟩ = some (.int .i64 rt.val) ∧ w'.cell? ⟨gb, 3, none⟩ = some (.slice ga rt.pairs.length gk))
        (first
          | (with_reducible exact X19.out)
          | (with_reducible exact X20.out)
          | go_keep)
        (first
          | (go_at_call 11; refine (COPM.out _ (M8.out _ (BXY.out _ BY18d.out))).mono ?_; rintro e w19 ⟨bh, ck, gh, rfl, hb19, hp19, hn19, hc19, hd19, _⟩; have BY19 : Hid (Below w18.heap.size w18 w19) := BY18d.out.trans hb19; have X19 : Hid (w19.cell? ⟨w.heap.size, 0, none⟩ = some (.slice ma ms.length mc) ∧ w19.cell? ⟨w.heap.size, 4, none⟩ = some (.int .i64 op.kind) ∧ w19.cell? ⟨w.heap.size, 5, none⟩ = some (.int .i64 op.key) ∧ w19.cell? ⟨w.heap.size, 6, none⟩ = some (.int .i64 op.val) ∧ w19.cell? ⟨w.heap.size, 7, none⟩ = some (.int .i64 op.hi) ∧ w19.cell? ⟨gb, 0, none⟩ = some (.bool rt.ok) ∧ w19.cell? ⟨gb, 1, none⟩ = some (.int .i64 rt.key) ∧ w19.cell? ⟨gb, 2, none⟩ = some (.int .i64 rt.val) ∧ w19.cell? ⟨gb, 3, none⟩ = some (.slice ga rt.pairs.length gk)) := ⟨CASE.out _ (C8.out _ (BXY.out _ BY19.out)) 0 (by omega), CASE.out _ (C8.out _ (BXY.out _ BY19.out)) 4 (by omega), CASE.out _ (C8.out _ (BXY.out _ BY19.out)) 5 (by omega), CASE.out _ (C8.out _ (BXY.out _ BY19.out)) 6 (by omega), CASE.out _ (C8.out _ (BXY.out _ BY19.out)) 7 (by omega), GC.out _ BY19.out 0, GC.out _ BY19.out 1, GC.out _ BY19.out 2, GC.out _ BY19.out 3⟩; have PC19 : Hid (PairsAt w19 bh gh 0 ms) := hp19; have NC19 : Hid (NilOk bh ms.length ck ∧ ms.length ≤ ck ∧ ck ≤ maxLen) := ⟨hn19, hc19, hd19⟩; clear hb19 hp19 hn19 hc19 hd19)
          | (go_at_call 37; refine (FIT1.out w19 bh gh ck ga gg gk PC19.out NC19.out.1 NC19.out.2.1 NC19.out.2.2 (PG.out.below BY19.out)).mono ?_; rintro e w20 ⟨rfl, hb20⟩; have BY20 : Hid (Below w18.heap.size w18 w20) := BY19.out.trans (hb20.mono BY19.out.size); have X20 : Hid (w20.cell? ⟨w.heap.size, 0, none⟩ = some (.slice ma ms.length mc) ∧ w20.cell? ⟨w.heap.size, 4, none⟩ = some (.int .i64 op.kind) ∧ w20.cell? ⟨w.heap.size, 5, none⟩ = some (.int .i64 op.key) ∧ w20.cell? ⟨w.heap.size, 6, none⟩ = some (.int .i64 op.val) ∧ w20.cell? ⟨w.heap.size, 7, none⟩ = some (.int .i64 op.hi) ∧ w20.cell? ⟨gb, 0, none⟩ = some (.bool rt.ok) ∧ w20.cell? ⟨gb, 1, none⟩ = some (.int .i64 rt.key) ∧ w20.cell? ⟨gb, 2, none⟩ = some (.int .i64 rt.val) ∧ w20.cell? ⟨gb, 3, none⟩ = some (.slice ga rt.pairs.length gk)) := ⟨CASE.out _ (C8.out _ (BXY.out _ BY20.out)) 0 (by omega), CASE.out _ (C8.out _ (BXY.out _ BY20.out)) 4 (by omega), CASE.out _ (C8.out _ (BXY.out _ BY20.out)) 5 (by omega), CASE.out _ (C8.out _ (BXY.out _ BY20.out)) 6 (by omega), CASE.out _ (C8.out _ (BXY.out _ BY20.out)) 7 (by omega), GC.out _ BY20.out 0, GC.out _ BY20.out 1, GC.out _ BY20.out 2, GC.out _ BY20.out 3⟩; clear hb20))
      have BX20 : Hid (Below W8.heap.size W8 w20) := BXY.out _ BY20.out
      clear e0 e4 e5 e6 e7
      have e0 : w20.cell? ⟨w.heap.size, 0, none⟩ = some (.slice ma ms.length mc) := CASE.out _ (C8.out _ BX20.out) 0 (by omega)
      have e4 : w20.cell? ⟨w.heap.size, 4, none⟩ = some (.int .i64 op.kind) := CASE.out _ (C8.out _ BX20.out) 4 (by omega)
      have e5 : w20.cell? ⟨w.heap.size, 5, none⟩ = some (.int .i64 op.key) := CASE.out _ (C8.out _ BX20.out) 5 (by omega)
      have e6 : w20.cell? ⟨w.heap.size, 6, none⟩ = some (.int .i64 op.val) := CASE.out _ (C8.out _ BX20.out) 6 (by omega)
      have e7 : w20.cell? ⟨w.heap.size, 7, none⟩ = some (.int .i64 op.hi) := CASE.out _ (C8.out _ BX20.out) 7 (by omega)
      have e8 : w20.cell? ⟨w.heap.size, 8, none⟩ = some (.bool rt.ok) := CASE.out _ (C8.out _ BX20.out) 8 (by omega)
      have e9 : w20.cell? ⟨w.heap.size, 9, none⟩ = some (.int .i64 rt.key) := CASE.out _ (C8.out _ BX20.out) 9 (by omega)
      have e10 : w20.cell? ⟨w.heap.size, 10, none⟩ = some (.int .i64 rt.val) := CASE.out _ (C8.out _ BX20.out) 10 (by omega)
      have e11 : w20.cell? ⟨w.heap.size, 11, none⟩ = some (.slice ra rt.pairs.length rc) := CASE.out _ (C8.out _ BX20.out) 11 (by omega)
      go_wp2_with fail
      refine (RFIT1.out w20 (M8.out _ BX20.out) (R8.out _ BX20.out)).mono ?_
      rintro e w21 ⟨rfl, hb21⟩
      have BX21 : Hid (Below W8.heap.size W8 w21) := BX20.out.trans (hb21.mono BX20.out.size)
      have BX21d : Hid (Below W8.heap.size W8 w21.drew) := BX21.out.drew
      clear hb21 e0 e4 e5 e6 e7 e8 e9 e10 e11
      have e0 : w21.cell? ⟨w.heap.size, 0, none⟩ = some (.slice ma ms.length mc) := CASE.out _ (C8.out _ BX21.out) 0 (by omega)
      have e4 : w21.cell? ⟨w.heap.size, 4, none⟩ = some (.int .i64 op.kind) := CASE.out _ (C8.out _ BX21.out) 4 (by omega)
      have e5 : w21.cell? ⟨w.heap.size, 5, none⟩ = some (.int .i64 op.key) := CASE.out _ (C8.out _ BX21.out) 5 (by omega)
      have e6 : w21.cell? ⟨w.heap.size, 6, none⟩ = some (.int .i64 op.val) := CASE.out _ (C8.out _ BX21.out) 6 (by omega)
      have e7 : w21.cell? ⟨w.heap.size, 7, none⟩ = some (.int .i64 op.hi) := CASE.out _ (C8.out _ BX21.out) 7 (by omega)
      have s0 : w21.cell? ⟨w7.heap.size, 0, none⟩ = some (.bool r.ok) := SC.out _ BX21.out 0
      have s1 : w21.cell? ⟨w7.heap.size, 1, none⟩ = some (.int .i64 r.key) := SC.out _ BX21.out 1
      have s2 : w21.cell? ⟨w7.heap.size, 2, none⟩ = some (.int .i64 r.val) := SC.out _ BX21.out 2
      have s3 : w21.cell? ⟨w7.heap.size, 3, none⟩ = some (.slice a4 r.pairs.length k4) := SC.out _ BX21.out 3
      go_wp2_with fail
      go_region_held3 (fun w' => w'.cell? ⟨w.heap.size, 0, none⟩ = some (.slice ma ms.length mc) ∧ w'.cell? ⟨w.heap.size, 4, none⟩ = some (.int .i64 op.kind) ∧ w'.cell? ⟨w.heap.size, 5, none⟩ = some (.int .i64 op.key) ∧ w'.cell? ⟨w.heap.size, 6, none⟩ = some (.int .i64 op.val) ∧ w'.cell? ⟨w.heap.size, 7, none⟩ = some (.int .i64 op.hi) ∧ w'.cell? ⟨w7.heap.size, 0, none⟩ = some (.bool r.ok) ∧ w'.cell? ⟨w7.heap.size, 1, none⟩ = some (.int .i64 r.key) ∧ w'.cell? ⟨w7.heap.size, 2, none⟩ = some (.int .i64 r.val) ∧ w'.cell? ⟨w7.heap.size, 3, none⟩ = some (.slice a4 r.pairs.length k4))
        (first
          | (with_reducible exact X22.out)
          | (with_reducible exact X23.out)
          | go_keep)
        (first
          | (go_at_call 11; refine (COPM.out _ (M8.out _ BX21d.out)).mono ?_; rintro e w22 ⟨bi, cj, gi, rfl, hb22, hp22, hn22, hc22, hd22, _⟩; have BX22 : Hid (Below W8.heap.size W8 w22) := BX21d.out.trans (hb22.mono BX21d.out.size); have X22 : Hid (w22.cell? ⟨w.heap.size, 0, none⟩ = some (.slice ma ms.length mc) ∧ w22.cell? ⟨w.heap.size, 4, none⟩ = some (.int .i64 op.kind) ∧ w22.cell? ⟨w.heap.size, 5, none⟩ = some (.int .i64 op.key) ∧ w22.cell? ⟨w.heap.size, 6, none⟩ = some (.int .i64 op.val) ∧ w22.cell? ⟨w.heap.size, 7, none⟩ = some (.int .i64 op.hi) ∧ w22.cell? ⟨w7.heap.size, 0, none⟩ = some (.bool r.ok) ∧ w22.cell? ⟨w7.heap.size, 1, none⟩ = some (.int .i64 r.key) ∧ w22.cell? ⟨w7.heap.size, 2, none⟩ = some (.int .i64 r.val) ∧ w22.cell? ⟨w7.heap.size, 3, none⟩ = some (.slice a4 r.pairs.length k4)) := ⟨CASE.out _ (C8.out _ (BX22.out)) 0 (by omega), CASE.out _ (C8.out _ (BX22.out)) 4 (by omega), CASE.out _ (C8.out _ (BX22.out)) 5 (by omega), CASE.out _ (C8.out _ (BX22.out)) 6 (by omega), CASE.out _ (C8.out _ (BX22.out)) 7 (by omega), SC.out _ BX22.out 0, SC.out _ BX22.out 1, SC.out _ BX22.out 2, SC.out _ BX22.out 3⟩; have PC22 : Hid (PairsAt w22 bi gi 0 ms) := hp22; have NC22 : Hid (NilOk bi ms.length cj ∧ ms.length ≤ cj ∧ cj ≤ maxLen) := ⟨hn22, hc22, hd22⟩; clear hb22 hp22 hn22 hc22 hd22)
          | (go_at_call 37; refine (FIT2.out w22 bi gi cj a4 h4 k4 PC22.out NC22.out.1 NC22.out.2.1 NC22.out.2.2 (P4.out.below BX22.out)).mono ?_; rintro e w23 ⟨rfl, hb23⟩; have BX23 : Hid (Below W8.heap.size W8 w23) := BX22.out.trans (hb23.mono BX22.out.size); have X23 : Hid (w23.cell? ⟨w.heap.size, 0, none⟩ = some (.slice ma ms.length mc) ∧ w23.cell? ⟨w.heap.size, 4, none⟩ = some (.int .i64 op.kind) ∧ w23.cell? ⟨w.heap.size, 5, none⟩ = some (.int .i64 op.key) ∧ w23.cell? ⟨w.heap.size, 6, none⟩ = some (.int .i64 op.val) ∧ w23.cell? ⟨w.heap.size, 7, none⟩ = some (.int .i64 op.hi) ∧ w23.cell? ⟨w7.heap.size, 0, none⟩ = some (.bool r.ok) ∧ w23.cell? ⟨w7.heap.size, 1, none⟩ = some (.int .i64 r.key) ∧ w23.cell? ⟨w7.heap.size, 2, none⟩ = some (.int .i64 r.val) ∧ w23.cell? ⟨w7.heap.size, 3, none⟩ = some (.slice a4 r.pairs.length k4)) := ⟨CASE.out _ (C8.out _ (BX23.out)) 0 (by omega), CASE.out _ (C8.out _ (BX23.out)) 4 (by omega), CASE.out _ (C8.out _ (BX23.out)) 5 (by omega), CASE.out _ (C8.out _ (BX23.out)) 6 (by omega), CASE.out _ (C8.out _ (BX23.out)) 7 (by omega), SC.out _ BX23.out 0, SC.out _ BX23.out 1, SC.out _ BX23.out 2, SC.out _ BX23.out 3⟩; clear hb23))
      clear e0 e4 e5 e6 e7 s0 s1 s2 s3
      have e0 : w23.cell? ⟨w.heap.size, 0, none⟩ = some (.slice ma ms.length mc) := CASE.out _ (C8.out _ BX23.out) 0 (by omega)
      have e4 : w23.cell? ⟨w.heap.size, 4, none⟩ = some (.int .i64 op.kind) := CASE.out _ (C8.out _ BX23.out) 4 (by omega)
      have e5 : w23.cell? ⟨w.heap.size, 5, none⟩ = some (.int .i64 op.key) := CASE.out _ (C8.out _ BX23.out) 5 (by omega)
      have e6 : w23.cell? ⟨w.heap.size, 6, none⟩ = some (.int .i64 op.val) := CASE.out _ (C8.out _ BX23.out) 6 (by omega)
      have e7 : w23.cell? ⟨w.heap.size, 7, none⟩ = some (.int .i64 op.hi) := CASE.out _ (C8.out _ BX23.out) 7 (by omega)
      have s0 : w23.cell? ⟨w7.heap.size, 0, none⟩ = some (.bool r.ok) := SC.out _ BX23.out 0
      have s1 : w23.cell? ⟨w7.heap.size, 1, none⟩ = some (.int .i64 r.key) := SC.out _ BX23.out 1
      have s2 : w23.cell? ⟨w7.heap.size, 2, none⟩ = some (.int .i64 r.val) := SC.out _ BX23.out 2
      have s3 : w23.cell? ⟨w7.heap.size, 3, none⟩ = some (.slice a4 r.pairs.length k4) := SC.out _ BX23.out 3
      go_wp2_with fail
      refine (RFIT2.out w23 a4 h4 k4 (M8.out _ BX23.out) (P4.out.below BX23.out)).mono ?_
      rintro e w24 ⟨rfl, hb24⟩
      have BX24 : Hid (Below W8.heap.size W8 w24) := BX23.out.trans (hb24.mono BX23.out.size)
      clear hb24 e0 e4 e5 e6 e7 s0 s1 s2 s3
      go_wp2_with fail
      go_ret
      exact ⟨by simp, B3.out.trans ((C8.out _ BX24.out).mono (by omega))⟩
end Go.Proofs.Ytjjfkeaopjlkhaa

/- LarchHistories: the law. -/
import Derived.Test.YtljidfaeljpnpaaLH7
import Derived.Test.YtljidfaeljpnpaaECdsOf
import Derived.Test.YtljidfaeljpnpaaEParts
import Derived.BigQuiet




namespace Go.Proofs.Ytljidfaeljpnpaa

open Go.RowKit Go.Deep

attribute [local go_sem ↓] Go.wp_at_zero Go.wp_at_succ

theorem pendN_none {sp : List Sp} (h : ∀ k, k < sp.length → (spAt sp k).2 ≠ -1) : ∀ j, j ≤ sp.length → pendN sp j = []
  | 0, _ => rfl
  | j + 1, hj => by
    unfold pendN
    rw [if_neg (h j (by omega)), pendN_none h j (by omega)]
/-- What Ahead answers of a history whose operations have all returned. -/
theorem ahead_of {hs : List EvD} {n : Nat} (h : HistOk hs n) {i j : Nat} (hi : i < n) (hj : j < n) : aheadA hs i j = (decide ((spAt (spansL hs) i).2 < ((spAt (spansL hs) j).1 : Int)), 0) ∧ 0 ≤ (spAt (spansL hs) i).2 ∧ ¬ (i = j ∧ (spAt (spansL hs) i).2 < ((spAt (spansL hs) j).1 : Int)) := by
  obtain ⟨-, s, hst, hsl⟩ := hErr_zero h.err
  have ok := stN_ok hst
  have hl := h.len
  have hr := h.ret i (by omega)
  have ht := ok.to i (by rw [← hsl]; omega)
  rw [← hsl] at ht
  have hto : ((spAt (spansL hs) i).1 : Int) < (spAt (spansL hs) i).2 := by
    rcases ht with q | q
    · exact absurd q hr
    · exact q.1
  refine ⟨?_, by omega, fun q => by obtain ⟨rfl, q⟩ := q; omega⟩
  unfold aheadA
  rw [if_neg (by rw [h.err]; simp), if_pos (by omega)]
  simp [ahd, hr]
theorem cds_drewN {w : World} {base : Option Addr} {b o : Nat} {l : List CD} {pb : Nat → Option Addr} {pc pg po : Nat → Nat} (h : CdsAt w base b o l pb pc pg po) (n : Nat) : CdsAt (w.drewN n) base b o l pb pc pg po := h.below ⟨rfl, by simp, rfl, Nat.le_refl _, fun _ _ => rfl⟩
theorem nAt_b {w W : World} {a : Option Addr} {g o : Nat} {l : List Int} (h : NAt w a g o l) (hW : Below w.heap.size w W) : NAt W a g o l := h.below (Nat.le_refl _) hW
theorem histOk_big {hs : List EvD} {n : Nat} (h : HistOk hs n) : (cdsOf hs (spansL hs)).length = n := by rw [cdsOf_length]; exact h.len
set_option maxRecDepth 100000 in
set_option maxHeartbeats 8000000 in
theorem histories_any (x : XD) (S : PL) (Os : List OpD) (pa oa a1 a2 a3 : Option Addr) (pg po pc og oo oc g1 o1 c1 g2 o2 c2 g3 o3 c3 : Nat) (w : World) (hS : PairsAt w pa pg po S) (hSn : NilOk pa S.length pc) (hSc : S.length ≤ pc) (hO : OpsAt w oa og oo Os) (h1 : NAt w a1 g1 o1 x.th) (h2 : NAt w a2 g2 o2 x.ea) (h3 : NAt w a3 g3 o3 x.la) :
    Calls Try.prog 4 #[.agg #[.slice pa S.length pc, .slice oa Os.length oc, .slice a1 x.th.length c1, .slice a2 x.ea.length c2, .slice a3 x.la.length c3]] w fun e w' => e = .returned (.bool true) ∧ Below w.heap.size w w' := by
  have B0 : Hid (Below w.heap.size w (w.alloc (.cells #[.slice pa S.length pc, .slice oa Os.length oc, .slice a1 x.th.length c1, .slice a2 x.ea.length c2, .slice a3 x.la.length c3] 52))) := below_alloc w _
  have X0 : Hid ((w.alloc (.cells #[.slice pa S.length pc, .slice oa Os.length oc, .slice a1 x.th.length c1, .slice a2 x.ea.length c2, .slice a3 x.la.length c3] 52)).heap[w.heap.size]? = some (.cells #[.slice pa S.length pc, .slice oa Os.length oc, .slice a1 x.th.length c1, .slice a2 x.ea.length c2, .slice a3 x.la.length c3] 52)) := heap_alloc_at _ _ _ rfl
  have SPR : Hid (∀ W, Below w.heap.size w W → Calls Try.prog 20 #[.agg #[.slice pa S.length pc, .slice oa Os.length oc, .slice a1 x.th.length c1, .slice a2 x.ea.length c2, .slice a3 x.la.length c3], .int .i64 30] W fun e w' => ∃ v0 k0 v1 k1 n base cap g hs pb pc pg po, e = .returned (.tuple #[.slice v0 n k0, .slice v1 n k1, .slice base hs.length cap, .bool true]) ∧ Below w.heap.size w w' ∧ EvsAt w' base g 0 hs pb pc pg po ∧ n ≤ 30 ∧ hs.length ≤ 60 ∧ (hs = [] ∨ (hs.length = 2 * n ∧ HistOk hs n))) := fun W hW => (spread_any x S Os pa oa a1 a2 a3 pg po pc og oo oc g1 o1 c1 g2 o2 c2 g3 o3 c3 W (hS.below hW) hSn hSc (hO.below hW) (nAt_b h1 hW) (nAt_b h2 hW) (nAt_b h3 hW)).mono (by
    rintro e w' ⟨v0, k0, v1, k1, n, vh, hs, rfl, hb, ⟨base, cap, g, pb, pc, pg, po, rfl, hE, -⟩, r1, r2, r3⟩
    exact ⟨v0, k0, v1, k1, n, base, cap, g, hs, pb, pc, pg, po, rfl, hW.trans (hb.mono hW.size), hE, r1, r2, r3⟩)
  obtain ⟨sl, hsl⟩ : ∃ sl, sl = S.length := ⟨_, rfl⟩
  obtain ⟨ol, hol⟩ : ∃ ol, ol = Os.length := ⟨_, rfl⟩
  obtain ⟨t1, ht1⟩ : ∃ t1, t1 = x.th.length := ⟨_, rfl⟩
  obtain ⟨t2, ht2⟩ : ∃ t2, t2 = x.ea.length := ⟨_, rfl⟩
  obtain ⟨t3, ht3⟩ : ∃ t3, t3 = x.la.length := ⟨_, rfl⟩
  rw [← hsl, ← hol, ← ht1, ← ht2, ← ht3] at SPR X0 B0 ⊢
  clear hS hSn hSc hO h1 h2 h3 hsl hol ht1 ht2 ht3
  go_enter Try.func4, Try.ntmps4
  go_upto_region 4 with (first | (go_at_call 19; refine (rows_any _).mono ?_; rintro e z1 ⟨rfl, hb1⟩; have B1 : Hid (Below w.heap.size w z1) := B0.out.trans (hb1.mono B0.out.size); have bx := (hb1.block w.heap.size (by simp)).trans X0.out; have x0 : z1.cell? ⟨w.heap.size, 0, none⟩ = some (.slice pa sl pc) := (by simp [World.cell?, bx]); have x1 : z1.cell? ⟨w.heap.size, 1, none⟩ = some (.slice oa ol oc) := (by simp [World.cell?, bx]); have x2 : z1.cell? ⟨w.heap.size, 2, none⟩ = some (.slice a1 t1 c1) := (by simp [World.cell?, bx]); have x3 : z1.cell? ⟨w.heap.size, 3, none⟩ = some (.slice a2 t2 c2) := (by simp [World.cell?, bx]); have x4 : z1.cell? ⟨w.heap.size, 4, none⟩ = some (.slice a3 t3 c3) := (by simp [World.cell?, bx]); clear hb1 bx) | (go_at_call 20; refine (SPR.out _ B1.out).mono ?_; rintro e w5 ⟨v0, k0, v1, k1, n, base, cap, g, hs, pb, pc', pg', po', rfl, hb5, hE5, n30, h60, hok⟩; have B5 : Hid (Below w.heap.size w w5) := hb5; have E5 : Hid (EvsAt w5 base g 0 hs pb pc' pg' po') := hE5; have HOK : Hid (hs = [] ∨ (hs.length = 2 * n ∧ HistOk hs n)) := hok; have N30 : Hid (n ≤ 30 ∧ hs.length ≤ 60) := ⟨n30, h60⟩; clear hb5 hE5 n30 h60 hok x0 x1 x2 x3 x4))
  have CPY : Hid (∀ W, Below w5.heap.size w5 W → Calls Try.prog 22 #[.slice base hs.length cap] W fun e w' => ∃ base cap g pb pc pg po, e = .returned (.slice base hs.length cap) ∧ EvsAt w' base g 0 hs pb pc pg po ∧ Below w5.heap.size w5 w') := fun W hW => (tCopyEvents_any base g 0 cap hs pb pc' pg' po' W (E5.out.below hW) (by have := N30.out.2; omega)).mono (by
    rintro e w' ⟨v, rfl, hb, ⟨base, cap, g, pb, pc, pg, po, rfl, hE, -⟩⟩
    exact ⟨base, cap, g, pb, pc, pg, po, rfl, hE, hW.trans (hb.mono hW.size)⟩)
  have herr : hErr hs = 0 := by
    rcases HOK.out with q | q
    · rw [q]; rfl
    · exact q.2.err
  have CHK : Hid (∀ W base cap g pb pc pg po, Below w5.heap.size w5 W → EvsAt W base g 0 hs pb pc pg po → Calls Try.prog 21 #[.slice base hs.length cap] W fun e w' => e = .returned (.int .i64 0) ∧ Below w5.heap.size w5 w') := fun W base cap g pb pc pg po hW hE => (check_any base g 0 cap hs pb pc pg po W hE).mono (by
    rintro e w' ⟨rfl, hb⟩
    exact ⟨by rw [herr], hW.trans (hb.mono hW.size)⟩)
  by_cases hnil : hs = []
  · have l0 : hs.length = 0 := by rw [hnil]; rfl
    rw [l0] at CPY CHK ⊢
    clear hnil herr l0
    go_wp2_with (first | (go_at_call 22; refine (CPY.out _ (Below.refl _ _)).mono ?_; rintro e w6 ⟨base6, cap6, g6, pb6, pc6, pg6, po6, rfl, hE6, hb6⟩; have B6 : Hid (Below w5.heap.size w5 w6) := hb6; have E6 : Hid (EvsAt w6 base6 g6 0 hs pb6 pc6 pg6 po6) := hE6; clear hb6 hE6) | (go_at_call 21; refine (CHK.out _ _ _ _ _ _ _ _ B6.out E6.out).mono ?_; rintro e w7 ⟨rfl, hb7⟩; have B7 : Hid (Below w5.heap.size w5 w7) := hb7; clear hb7))
    go_ret
    exact ⟨rfl, B5.out.trans (B7.out.mono B5.out.size)⟩
  · obtain ⟨hn2, hk⟩ := HOK.out.resolve_left hnil
    have lh : hs.length = 2 * n := hn2
    have npos : 0 < hs.length := List.length_pos_iff.2 hnil
    have HH : Hid (HistOk hs n) := hk
    have hcl := histOk_big hk
    have CAL : Hid (∀ W base cap g pb pc pg po, Below w5.heap.size w5 W → EvsAt W base g 0 hs pb pc pg po → Calls Try.prog 7 #[.slice base hs.length cap] W fun e w' => ∃ g2 qb qc qg qo, e = .returned (.tuple #[.slice (some ⟨g2, 0, none⟩) n n, .int .i64 0]) ∧ CdsAt w' (some ⟨g2, 0, none⟩) g2 0 (cdsOf hs (spansL hs)) qb qc qg qo ∧ Below w5.heap.size w5 w') := fun W base cap g pb pc pg po hW hE => (Calls_any base g 0 cap hs pb pc pg po W hE).mono (by
      rintro e w' ⟨v, rfl, hb, -, hv⟩
      obtain ⟨g2, l, -, -, rfl, hm, hca, how⟩ := hv herr
      obtain ⟨qb, qc, qg, qo, hcd⟩ := calls_cds hm hca how (by unfold maxLen; rw [hk.len]; have := N30.out.1; omega) (fun i hi => (hE.prs i hi).2.2)
      exact ⟨g2, qb, qc, qg, qo, by rw [herr, hk.len], hcd, hW.trans (hb.mono hW.size)⟩)
    have EVT : Hid (∀ W g2 qb qc qg qo, Below w5.heap.size w5 W → CdsAt W (some ⟨g2, 0, none⟩) g2 0 (cdsOf hs (spansL hs)) qb qc qg qo → Calls Try.prog 11 #[.slice (some ⟨g2, 0, none⟩) n n] W fun e w' => ∃ g3 pb pc pg po, e = .returned (.tuple #[.slice (some ⟨g3, 0, none⟩) hs.length hs.length, .int .i64 0]) ∧ EvsAt w' (some ⟨g3, 0, none⟩) g3 0 hs pb pc pg po ∧ Below w5.heap.size w5 w' ∧ Below W.heap.size W w') := fun W g2 qb qc qg qo hW hC => by
      have h := Events_any (some ⟨g2, 0, none⟩) g2 0 n (cdsOf hs (spansL hs)) qb qc qg qo W hC
      rw [hcl] at h
      refine h.mono ?_
      rintro e w' ⟨v, err, rfl, hb, ha⟩
      obtain ⟨rfl, g3, pb, pc, pg, po, -, rfl, hE⟩ := ha.good (by rw [hcl]; have := N30.out.1; omega) (prog_back herr)
      rw [lay_back herr] at hE ⊢
      exact ⟨g3, pb, pc, pg, po, rfl, hE, hW.trans (hb.mono hW.size), hb⟩
    have SAM : Hid (∀ W bq cq gq p1 p2 p3 p4, Below w5.heap.size w5 W → EvsAt W bq gq 0 hs p1 p2 p3 p4 → Calls Try.prog 23 #[.slice bq hs.length cq, .slice base hs.length cap] W fun e w' => e = .returned (.bool true) ∧ Below W.heap.size W w') := fun W bq cq gq p1 p2 p3 p4 hW hE => tSameEvents_any bq base gq 0 cq g 0 cap hs p1 pb p2 p3 p4 pc' pg' po' W hE (E5.out.below hW) (by have := N30.out.2; omega)
    have AHD : Hid (∀ W base cap g pb pc pg po (i j : Nat), Below w5.heap.size w5 W → EvsAt W base g 0 hs pb pc pg po → i < n → j < n → Calls Try.prog 24 #[.slice base hs.length cap, .int .i64 (i : Int), .int .i64 (j : Int)] W fun e w' => e = .returned (.tuple #[.bool (decide ((spAt (spansL hs) i).2 < ((spAt (spansL hs) j).1 : Int))), .int .i64 0]) ∧ Below W.heap.size W w') := fun W base cap g pb pc pg po i j hW hE hi hj => (Ahead_any base g 0 cap hs pb pc pg po W hE (i : Int) (j : Int)).mono (by
      rintro e w' ⟨rfl, hb⟩
      rw [(ahead_of hk hi hj).1]
      exact ⟨rfl, hb⟩)
    have PEN : Hid (∀ W base cap g pb pc pg po, Below w5.heap.size w5 W → EvsAt W base g 0 hs pb pc pg po → Calls Try.prog 25 #[.slice base hs.length cap] W fun e w' => ∃ a c, e = .returned (.tuple #[.slice a 0 c, .int .i64 0]) ∧ Below w5.heap.size w5 w') := fun W base cap g pb pc pg po hW hE => (Pending_any base g 0 cap hs pb pc pg po W hE).mono (by
      rintro e w' ⟨v, rfl, hb, -, hv⟩
      have := hv herr
      rw [pendN_none hk.ret _ (Nat.le_refl _)] at this
      obtain ⟨a, c, rfl⟩ := owns_form this
      exact ⟨a, c, by rw [herr]; rfl, hW.trans (hb.mono hW.size)⟩)
    have DON : Hid (∀ W base cap g pb pc pg po, Below w5.heap.size w5 W → EvsAt W base g 0 hs pb pc pg po → Calls Try.prog 9 #[.slice base hs.length cap] W fun e w' => ∃ base cap g pb pc pg po, e = .returned (.tuple #[.slice base hs.length cap, .int .i64 0]) ∧ EvsAt w' base g 0 hs pb pc pg po ∧ Below w5.heap.size w5 w') := fun W base cap g pb pc pg po hW hE => (Done_any base g 0 cap hs pb pc pg po W hE).mono (by
      rintro e w' ⟨v, rfl, hb, hd⟩
      have hdl : doneL hs = hs := by unfold doneL; rw [if_neg (by rw [herr]; simp)]; exact hk.done
      rw [hdl] at hd
      obtain ⟨base, cap, g, pb, pc, pg, po, rfl, hE, -⟩ := hd
      exact ⟨base, cap, g, pb, pc, pg, po, by rw [herr], hE, hW.trans (hb.mono hW.size)⟩)
    have CPZ : Hid (∀ W, Below w5.heap.size w5 W → Calls Try.prog 22 #[.slice base hs.length cap] W fun e w' => ∃ base cap g pb pc pg po, e = .returned (.slice base hs.length cap) ∧ EvsAt w' base g 0 hs pb pc pg po ∧ Below w5.heap.size w5 w' ∧ Below W.heap.size W w') := fun W hW => (tCopyEvents_any base g 0 cap hs pb pc' pg' po' W (E5.out.below hW) (by have := N30.out.2; omega)).mono (by
      rintro e w' ⟨v, rfl, hb, ⟨base, cap, g, pb, pc, pg, po, rfl, hE, -⟩⟩
      exact ⟨base, cap, g, pb, pc, pg, po, rfl, hE, hW.trans (hb.mono hW.size), hb⟩)
    obtain ⟨m, hm⟩ : ∃ m, m = hs.length := ⟨_, rfl⟩
    have HM : Hid (m = hs.length) := hm
    rw [← hm] at CPY CPZ CHK CAL EVT SAM AHD PEN DON npos ⊢
    have m60 : m ≤ 60 := by have := N30.out.2; omega
    have mz : ((m : Int) == 0) = false := beq_eq_false_iff_ne.2 (by omega)
    have m0 : (0 : Int) ≤ (m : Int) := Int.natCast_nonneg _
    have n0 : (0 : Int) ≤ (n : Int) := Int.natCast_nonneg _
    have n30i : (n : Int) ≤ 30 := by have := N30.out.1; omega
    have K1 : Hid True := trivial
    have K2 : Hid True := trivial
    have K3 : Hid True := trivial
    have K4 : Hid True := trivial
    clear hnil herr hn2 hk lh hm
    go_wp2_with (first | (go_at_call 22; have q := K1; refine (CPY.out _ (Below.refl _ _)).mono ?_; rintro e w6 ⟨base6, cap6, g6, pb6, pc6, pg6, po6, rfl, hE6, hb6⟩; have B6 : Hid (Below w5.heap.size w5 w6) := hb6; have E6 : Hid (EvsAt w6 base6 g6 0 hs pb6 pc6 pg6 po6) := hE6; clear q hb6 hE6 K1) | (go_at_call 21; refine (CHK.out _ _ _ _ _ _ _ _ B6.out E6.out).mono ?_; rintro e w7 ⟨rfl, hb7⟩; have B7 : Hid (Below w5.heap.size w5 w7) := hb7; clear hb7) | (go_at_call 22; have q := K2; refine (CPY.out _ B7.out).mono ?_; rintro e w8 ⟨base8, cap8, g8, pb8, pc8, pg8, po8, rfl, hE8, hb8⟩; have B8 : Hid (Below w5.heap.size w5 w8) := hb8; have E8 : Hid (EvsAt w8 base8 g8 0 hs pb8 pc8 pg8 po8) := hE8; clear q hb8 hE8 K2) | (go_at_call 7; refine (CAL.out _ _ _ _ _ _ _ _ B8.out E8.out).mono ?_; rintro e w9 ⟨h2, qb, qc, qg, qo, rfl, hC9, hb9⟩; have B9 : Hid (Below w5.heap.size w5 w9) := hb9; have C9 : Hid (CdsAt w9 (some ⟨h2, 0, none⟩) h2 0 (cdsOf hs (spansL hs)) qb qc qg qo) := hC9; clear hb9 hC9) | (go_at_call 11; refine (EVT.out _ _ _ _ _ _ B9.out C9.out).mono ?_; rintro e w10 ⟨h3, rb, rc, rg, ro, rfl, hE10, hb10, hc10⟩; have B10 : Hid (Below w5.heap.size w5 w10) := hb10; have C10 : Hid (CdsAt w10 (some ⟨h2, 0, none⟩) h2 0 (cdsOf hs (spansL hs)) qb qc qg qo) := C9.out.below hc10; have E10 : Hid (EvsAt w10 (some ⟨h3, 0, none⟩) h3 0 hs rb rc rg ro) := hE10; clear hb10 hE10 hc10) | (go_at_call 23; refine (SAM.out _ _ _ _ _ _ _ _ B10.out E10.out).mono ?_; rintro e w11 ⟨rfl, hb11⟩; have B11 : Hid (Below w5.heap.size w5 w11) := B10.out.trans (hb11.mono B10.out.size); have C11 : Hid (CdsAt w11 (some ⟨h2, 0, none⟩) h2 0 (cdsOf hs (spansL hs)) qb qc qg qo) := C10.out.below hb11; clear hb11))
    go_loopw [69] (fun vi wr => ∃ i : Nat, i ≤ n ∧ vi = .int .i64 i ∧ Below w5.heap.size w5 wr ∧ CdsAt wr (some ⟨h2, 0, none⟩) h2 0 (cdsOf hs (spansL hs)) qb qc qg qo) (fun vi _ => n - (intOf vi).toNat)
    case atStart => exact ⟨0, Nat.zero_le _, rfl, B11.out, C11.out⟩
    case round =>
      obtain ⟨i, hin, rfl, hb, hc⟩ := hrel
      rename World => wr
      have BR : Hid (Below w5.heap.size w5 wr) := hb
      have CR : Hid (CdsAt wr (some ⟨h2, 0, none⟩) h2 0 (cdsOf hs (spansL hs)) qb qc qg qo) := hc
      have i0 : (0 : Int) ≤ (i : Int) := Int.natCast_nonneg _
      clear hb hc
      by_cases hi : i < n
      · have i1 : (i : Int) < (n : Int) := by omega
        have HI : Hid (i < n) := hi
        clear hi
        go_wp2_with fail
        go_loopw [74] (fun vj wz => ∃ j : Nat, j ≤ n ∧ vj = .int .i64 j ∧ Below w5.heap.size w5 wz ∧ CdsAt wz (some ⟨h2, 0, none⟩) h2 0 (cdsOf hs (spansL hs)) qb qc qg qo) (fun vj _ => n - (intOf vj).toNat)
        case atStart => exact ⟨0, Nat.zero_le _, rfl, BR.out, CR.out⟩
        case round =>
          obtain ⟨j, hjn, rfl, hb, hc⟩ := hrel
          rename World => wz
          have BZ : Hid (Below w5.heap.size w5 wz) := hb
          have CZ : Hid (CdsAt wz (some ⟨h2, 0, none⟩) h2 0 (cdsOf hs (spansL hs)) qb qc qg qo) := hc
          have j0 : (0 : Int) ≤ (j : Int) := Int.natCast_nonneg _
          clear hb hc
          by_cases hj : j < n
          · have j1 : (j : Int) < (n : Int) := by omega
            obtain ⟨-, a2, a3⟩ := ahead_of HH.out HI.out hj
            have AH : Hid (∀ W base cap g pb pc pg po, Below w5.heap.size w5 W → EvsAt W base g 0 hs pb pc pg po → Calls Try.prog 24 #[.slice base m cap, .int .i64 (i : Int), .int .i64 (j : Int)] W fun e w' => e = .returned (.tuple #[.bool (decide ((spAt (spansL hs) i).2 < ((spAt (spansL hs) j).1 : Int))), .int .i64 0]) ∧ Below W.heap.size W w') := fun W base cap g pb pc pg po h1 h2 => AHD.out W base cap g pb pc pg po i j h1 h2 HI.out hj
            have ci := (cdAt_of (hs := hs) (sp := spansL hs) (k := i) (by rw [HH.out.len]; exact HI.out))
            have cj := (cdAt_of (hs := hs) (sp := spansL hs) (k := j) (by rw [HH.out.len]; exact hj))
            have CL : Hid (∀ W, CdsAt W (some ⟨h2, 0, none⟩) h2 0 (cdsOf hs (spansL hs)) qb qc qg qo → W.cell? ⟨h2, i * 11 + 10, none⟩ = some (.int .i64 (spAt (spansL hs) i).2) ∧ W.cell? ⟨h2, j * 11 + 9, none⟩ = some (.int .i64 ((spAt (spansL hs) j).1 : Int))) := fun W hW => by
              have u := (hW.c2 i (by rw [hcl]; exact HI.out)).2
              have v := (hW.c2 j (by rw [hcl]; exact hj)).1
              rw [ci, Nat.zero_add] at u
              rw [cj, Nat.zero_add] at v
              exact ⟨u, v⟩
            have hjj : j < n := hj
            clear ci cj hj
            generalize (spAt (spansL hs) i).2 = p at *
            generalize ((spAt (spansL hs) j).1 : Int) = q at *
            by_cases hpq : p < q
            · have d1 : decide (p < q) = true := decide_eq_true hpq
              have d2 : ((i : Int) == (j : Int)) = false := beq_eq_false_iff_ne.2 (fun e => a3 ⟨by omega, hpq⟩)
              rw [d1] at AH
              clear a3
              go_wp2_with (first | (go_at_call 22; refine (CPZ.out _ BZ.out).mono ?_; rintro e w12 ⟨base12, cap12, g12, pb12, pc12, pg12, po12, rfl, hE12, hb12, hc12⟩; have B12 : Hid (Below w5.heap.size w5 w12) := hb12; have E12 : Hid (EvsAt w12 base12 g12 0 hs pb12 pc12 pg12 po12) := hE12; have C12 : Hid (CdsAt w12 (some ⟨h2, 0, none⟩) h2 0 (cdsOf hs (spansL hs)) qb qc qg qo) := CZ.out.below hc12; clear hb12 hE12 hc12) | (go_at_call 24; refine (AH.out _ _ _ _ _ _ _ _ B12.out E12.out).mono ?_; rintro e w13 ⟨rfl, hb13⟩; have B13 : Hid (Below w5.heap.size w5 w13) := B12.out.trans (hb13.mono B12.out.size); have C13 : Hid (CdsAt w13 (some ⟨h2, 0, none⟩) h2 0 (cdsOf hs (spansL hs)) qb qc qg qo) := C12.out.below hb13; have cl := CL.out _ C13.out; obtain ⟨l1, l2⟩ := cl; clear hb13))
              go_quiet (fail)
              go_wp2_with fail
              exact ⟨⟨j + 1, by omega, by go_num, below_drewN B13.out _, cds_drewN C13.out _⟩, by simp [intOf]; omega⟩
            · have d1 : decide (p < q) = false := decide_eq_false hpq
              rw [d1] at AH
              clear a3
              go_wp2_with (first | (go_at_call 22; refine (CPZ.out _ BZ.out).mono ?_; rintro e w12 ⟨base12, cap12, g12, pb12, pc12, pg12, po12, rfl, hE12, hb12, hc12⟩; have B12 : Hid (Below w5.heap.size w5 w12) := hb12; have E12 : Hid (EvsAt w12 base12 g12 0 hs pb12 pc12 pg12 po12) := hE12; have C12 : Hid (CdsAt w12 (some ⟨h2, 0, none⟩) h2 0 (cdsOf hs (spansL hs)) qb qc qg qo) := CZ.out.below hc12; clear hb12 hE12 hc12) | (go_at_call 24; refine (AH.out _ _ _ _ _ _ _ _ B12.out E12.out).mono ?_; rintro e w13 ⟨rfl, hb13⟩; have B13 : Hid (Below w5.heap.size w5 w13) := B12.out.trans (hb13.mono B12.out.size); have C13 : Hid (CdsAt w13 (some ⟨h2, 0, none⟩) h2 0 (cdsOf hs (spansL hs)) qb qc qg qo) := C12.out.below hb13; have cl := CL.out _ C13.out; obtain ⟨l1, l2⟩ := cl; clear hb13))
              go_quiet (fail)
              go_wp2_with fail
              exact ⟨⟨j + 1, by omega, by go_num, below_drewN B13.out _, cds_drewN C13.out _⟩, by simp [intOf]; omega⟩
          · obtain rfl : n = j := by omega
            clear hj hjn
            go_wp2_with fail
            exact ⟨⟨i + 1, by have := HI.out; omega, by go_num, BZ.out, CZ.out⟩, by have := HI.out; simp [intOf]; omega⟩
      · obtain rfl : n = i := by omega
        clear hi hin
        go_wp2_with (first | (go_at_call 22; have q := K3; refine (CPY.out _ BR.out).mono ?_; rintro e w14 ⟨base14, cap14, g14, pb14, pc14, pg14, po14, rfl, hE14, hb14⟩; have B14 : Hid (Below w5.heap.size w5 w14) := hb14; have E14 : Hid (EvsAt w14 base14 g14 0 hs pb14 pc14 pg14 po14) := hE14; clear q hb14 hE14 K3) | (go_at_call 25; refine (PEN.out _ _ _ _ _ _ _ _ B14.out E14.out).mono ?_; rintro e w15 ⟨pa15, pc15, rfl, hb15⟩; have B15 : Hid (Below w5.heap.size w5 w15) := hb15; clear hb15) | (go_at_call 22; have q := K4; refine (CPY.out _ B15.out).mono ?_; rintro e w16 ⟨base16, cap16, g16, pb16, pc16, pg16, po16, rfl, hE16, hb16⟩; have B16 : Hid (Below w5.heap.size w5 w16) := hb16; have E16 : Hid (EvsAt w16 base16 g16 0 hs pb16 pc16 pg16 po16) := hE16; clear q hb16 hE16 K4) | (go_at_call 9; refine (DON.out _ _ _ _ _ _ _ _ B16.out E16.out).mono ?_; rintro e w17 ⟨base17, cap17, g17, pb17, pc17, pg17, po17, rfl, hE17, hb17⟩; have B17 : Hid (Below w5.heap.size w5 w17) := hb17; have E17 : Hid (EvsAt w17 base17 g17 0 hs pb17 pc17 pg17 po17) := hE17; clear hb17 hE17) | (go_at_call 23; refine (SAM.out _ _ _ _ _ _ _ _ B17.out E17.out).mono ?_; rintro e w18 ⟨rfl, hb18⟩; have B18 : Hid (Below w5.heap.size w5 w18) := B17.out.trans (hb18.mono B17.out.size); clear hb18))
        go_ret
        exact ⟨rfl, B5.out.trans (B18.out.mono B5.out.size)⟩
end Go.Proofs.Ytljidfaeljpnpaa

/- LarchHistories: spread. LarchHistories: larchtop's sameEvents of one history in two rows; copyOps; spread. LarchHistories: copyOps; answers in memory; spread. -/
import Derived.Test.YtljidfaeljpnpaaLH4
import Derived.Test.YtljidfaeljpnpaaMOf


namespace Go.Proofs.Ytljidfaeljpnpaa

open Go.RowKit Go.Deep

attribute [local go_sem ↓] Go.wp_at_zero Go.wp_at_succ

theorem retEqM_self (r : RetD) : retEqM r r = true := by simp [retEqM, plEqM]
set_option maxRecDepth 100000 in
set_option maxHeartbeats 4000000 in
theorem tSameEvents_any (a1 a2 : Option Addr) (b1 o1 c1 b2 o2 c2 : Nat) (x : List EvD) (pb qb : Nat → Option Addr) (pc pg po qc qg qo : Nat → Nat) (w : World) (hx : EvsAt w a1 b1 o1 x pb pc pg po) (hy : EvsAt w a2 b2 o2 x qb qc qg qo) (hl : x.length ≤ 1000000) :
    Calls Try.prog 23 #[.slice a1 x.length c1, .slice a2 x.length c2] w fun e w' => e = .returned (.bool true) ∧ Below w.heap.size w w' := by
  have HX : Hid _ := hx
  have HY : Hid _ := hy
  have n0 : (x.length : Int) ≤ 1000000 := by omega
  clear hx hy hl
  go_enter Try.func23, Try.ntmps23
  go_wp2_with fail
  go_loopw [13] (fun i wr => ∃ j : Nat, j ≤ x.length ∧ i = .int .i64 j ∧ Below w.heap.size w wr) (fun i _ => x.length - (intOf i).toNat)
  case atStart => exact ⟨0, Nat.zero_le _, rfl, Below.refl _ _⟩
  case round =>
    obtain ⟨j, hj, rfl, hbw⟩ := hrel
    rename World => wr
    have HW : Hid (Below w.heap.size w wr) := hbw
    by_cases hlt : j < x.length
    · obtain rfl : a1 = some ⟨b1, o1, none⟩ := HX.out.base (by omega)
      obtain rfl : a2 = some ⟨b2, o2, none⟩ := HY.out.base (by omega)
      have EX := HX.out.below hbw
      have EY := HY.out.below hbw
      have zx : b1 < wr.heap.size := EX.lt (by omega)
      have zy : b2 < wr.heap.size := EY.lt (by omega)
      obtain ⟨d0, d1⟩ := EX.c0 j hlt
      obtain ⟨d2, d3, d4, d5⟩ := EX.c1 j hlt
      obtain ⟨d6, d7, d8, d9⟩ := EX.c2 j hlt
      obtain ⟨e0, e1⟩ := EY.c0 j hlt
      obtain ⟨e2, e3, e4, e5⟩ := EY.c1 j hlt
      obtain ⟨e6, e7, e8, e9⟩ := EY.c2 j hlt
      have SE : Hid (∀ p : BelowBy wr, Calls Try.prog 51 #[.agg #[.bool (evAt x j).rt.ok, .int .i64 (evAt x j).rt.key, .int .i64 (evAt x j).rt.val, .slice (pb j) (evAt x j).rt.pairs.length (pc j)], .agg #[.bool (evAt x j).rt.ok, .int .i64 (evAt x j).rt.key, .int .i64 (evAt x j).rt.val, .slice (qb j) (evAt x j).rt.pairs.length (qc j)]] p.W fun e w' => e = .returned (.bool true) ∧ Below p.W.heap.size p.W w') := fun p => (tSameRet_any (pb j) (qb j) (pg j) (po j) (pc j) (qg j) (qo j) (qc j) (evAt x j).rt (evAt x j).rt _ ((EX.prs j hlt).1.below p.h) ((EY.prs j hlt).1.below p.h)).mono (by rintro e w' ⟨rfl, hb⟩; exact ⟨by rw [retEqM_self], hb⟩)
      generalize (evAt x j).th = t0 at *
      generalize (evAt x j).ret = t1 at *
      generalize (evAt x j).op.kind = t2 at *
      generalize (evAt x j).op.key = t3 at *
      generalize (evAt x j).op.val = t4 at *
      generalize (evAt x j).op.hi = t5 at *
      generalize (evAt x j).rt.ok = t6 at *
      generalize (evAt x j).rt.key = t7 at *
      generalize (evAt x j).rt.val = t8 at *
      generalize (evAt x j).rt.pairs.length = t9 at *
      have y0 := BelowBy.cell zx d0
      have y1 := BelowBy.cell zx d1
      have y2 := BelowBy.cell zx d2
      have y3 := BelowBy.cell zx d3
      have y4 := BelowBy.cell zx d4
      have y5 := BelowBy.cell zx d5
      have y6 := BelowBy.cell zx d6
      have y7 := BelowBy.cell zx d7
      have y8 := BelowBy.cell zx d8
      have y9 := BelowBy.cell zx d9
      have z0 := BelowBy.cell zy e0
      have z1 := BelowBy.cell zy e1
      have z2 := BelowBy.cell zy e2
      have z3 := BelowBy.cell zy e3
      have z4 := BelowBy.cell zy e4
      have z5 := BelowBy.cell zy e5
      have z6 := BelowBy.cell zy e6
      have z7 := BelowBy.cell zy e7
      have z8 := BelowBy.cell zy e8
      have z9 := BelowBy.cell zy e9
      have j0 : (0 : Int) ≤ (j : Int) := Int.natCast_nonneg _
      have j1 : (j : Int) < (x.length : Int) := by omega
      clear EX EY hbw d0 d1 d2 d3 d4 d5 d6 d7 d8 d9 e0 e1 e2 e3 e4 e5 e6 e7 e8 e9
      go_wp2_with fail
      refine wp_region_below (by kernel_rfl) (by kernel_rfl) ?_
      repeat (go_big_quiet_step ((go_at_call 51; exact below_call (SE.out _))))
      refine wpQuiet_nil ?_
      rintro _ ⟨p, rfl⟩
      have PB : Hid (Below wr.heap.size wr p.W) := p.h
      clear y0 y1 y2 y3 y4 y5 y6 y7 y8 y9 z0 z1 z2 z3 z4 z5 z6 z7 z8 z9
      go_wp2_with fail
      exact ⟨⟨j + 1, by omega, by go_num, HW.out.trans (PB.out.mono HW.out.size)⟩, by simp [intOf]; omega⟩
    · obtain rfl : j = x.length := by omega
      clear hbw hlt
      go_wp2_with fail
      go_ret
      exact ⟨rfl, HW.out⟩
end Go.Proofs.Ytljidfaeljpnpaa

namespace Go.Proofs.Ytljidfaeljpnpaa

open Go.RowKit Go.Deep

attribute [local go_sem ↓] Go.wp_at_zero Go.wp_at_succ

set_option maxRecDepth 100000 in
set_option maxHeartbeats 1000000 in
theorem tCopyOps_any (bp : Option Addr) (gp op cp : Nat) (T : List OpD) (w : World) (h : OpsAt w bp gp op T) (hnil : NilOk bp T.length cp) (hl : T.length ≤ 1000000) :
    Calls Try.prog 48 #[.slice bp T.length cp] w fun e w' => ∃ base cap g, e = .returned (.slice base T.length cap) ∧ Below w.heap.size w w' ∧ OpsAt w' base g 0 T := by
  obtain ⟨i0, hi0, hz0, hz1, hz2⟩ := info_parts op_infoM
  have HA : Hid (OpsAt w bp gp op T) := h
  have HNIL : Hid (bp = none → T.length = 0 ∧ cp = 0) := hnil
  clear hnil h
  have ho : (w.alloc (.cells #[] 39)).ownsRow w.heap.size 39 4 (.slice (some ⟨w.heap.size, 0, none⟩) 0 0) 0 [] := ⟨rfl, Or.inr ⟨w.heap.size, 0, #[], rfl, Nat.le_refl _, heap_alloc_at _ _ _ rfl, Nat.le_refl _, by unfold maxLen; omega, rfl, rfl⟩⟩
  have HO : Hid (World.ownsRow _ _ _ _ _ _ _) := ho
  have hnews : ∀ a, bp = some a → ∀ j u, (opsC T)[j]? = some u → (w.alloc (.cells #[] 39)).cell? (a.add j) = some u := ops_news (HA.out.below (below_alloc _ _))
  have HW : Hid _ := hnews
  have HNL : Hid ((opsC T).length = T.length * 4) := opsC_length T
  have n1 : 0 + T.length ≤ maxLen := by unfold maxLen; omega
  have n2 : (0 + T.length) * 32 ≤ 140737488355328 := by omega
  clear ho hnews
  have FIN : Hid (∀ (v' : Value) (w1 : World), w1.ownsRow w.heap.size 39 4 v' (0 + T.length) ([] ++ opsC T) → (w.alloc (.cells #[] 39)).grownBy w1 (Value.ownBlock (.slice (some ⟨w.heap.size, 0, none⟩) 0 0)) → ∃ base cap g, Ending.returned v' = .returned (.slice base T.length cap) ∧ Below w.heap.size w w1 ∧ OpsAt w1 base g 0 T) := by
    intro v' w1 h1 h2
    rw [Nat.zero_add, List.nil_append] at h1
    obtain ⟨base, cap, g, e, hp, hn, hge⟩ := ops_of_owns h1 (by unfold maxLen; omega)
    exact ⟨base, cap, g, by rw [e], Below.grown (below_alloc _ _) h2 (by simp) (by intro k hk; simp [Value.ownBlock] at hk; omega), hp⟩
  go_enter Try.func48, Try.ntmps48
  go_wp2_with (first | (at_builtin; (refine wpList_append_allM (by rfl) _ _ _ (by rfl) w.heap.size 39 i0 _ 4 32 ops_underM hi0 hz0 hz1 hz2 rfl (by omega) _ 0 [] (by rfl) HO.out bp T.length cp (opsC T) (by rfl) HNIL.out HNL.out HW.out (opsC_one _) n1 n2 (by simp) ?_); intro v' w1 hown1 hgrow hnl))
  go_ret
  exact FIN.out _ _ hown1 hgrow
theorem tellR_pairs (x : Option (Int × Int)) : (tellR x).pairs = [] := by cases x <;> rfl
theorem stepR_pairs (ps : PL) (o : OpD) : (stepR ps o).pairs.length ≤ ps.length := by
  unfold stepR
  split
  · exact Nat.zero_le _
  · split
    · exact Nat.zero_le _
    · split
      · exact List.length_filter_le _ _
      · rw [tellR_pairs]; exact Nat.zero_le _
theorem runR_pairs : ∀ (a : List OpD) (ps : PL), ∀ r ∈ runR ps a, r.pairs.length ≤ ps.length + a.length
  | [], _, r, h => by cases h
  | o :: t, ps, r, h => by
    rcases List.mem_cons.1 h with q | q
    · rw [q]; have := stepR_pairs ps o; simp; omega
    · have := runR_pairs t (stepL ps o) r q
      have := stepL_length ps o
      simp
      omega
theorem rAt_of {w : World} {a : Option Addr} {g : Nat} {rs : List RetD} (h : RetsAtM w a g 0 rs) (hz : NilZ w g rs.length) (hb : ∀ r ∈ rs, r.pairs.length ≤ 1000000) : ∃ pb pc pg po, RAt w a g 0 rs.length (fun i => retAt rs i) pb pc pg po := by
  have key : ∀ i, ∃ y : (Option Addr) × Nat × Nat × Nat, i < rs.length → w.cell? ⟨g, 0 + i * 4, none⟩ = some (.bool (retAt rs i).ok) ∧ w.cell? ⟨g, 0 + i * 4 + 1, none⟩ = some (.int .i64 (retAt rs i).key) ∧ w.cell? ⟨g, 0 + i * 4 + 2, none⟩ = some (.int .i64 (retAt rs i).val) ∧ w.cell? ⟨g, 0 + i * 4 + 3, none⟩ = some (.slice y.1 (retAt rs i).pairs.length y.2.1) ∧ PairsAt w y.1 y.2.2.1 y.2.2.2 (retAt rs i).pairs := by
    intro i
    by_cases hi : i < rs.length
    · obtain ⟨a', g', p', c', c0, c1, c2, c3, hp⟩ := h.cells i hi
      exact ⟨(a', c', g', p'), fun _ => ⟨c0, c1, c2, c3, hp⟩⟩
    · exact ⟨(none, 0, 0, 0), fun q => absurd q hi⟩
  refine ⟨fun i => (key i).choose.1, fun i => (key i).choose.2.1, fun i => (key i).choose.2.2.1, fun i => (key i).choose.2.2.2, h.base, h.lt, fun i hi => ?_, fun i hi => ?_⟩
  · obtain ⟨c0, c1, c2, c3, -⟩ := (key i).choose_spec hi
    exact ⟨c0, c1, c2, c3⟩
  · obtain ⟨-, -, -, c3, hp⟩ := (key i).choose_spec hi
    have hm : retAt rs i ∈ rs := by
      unfold retAt
      rw [List.getD_eq_getElem?_getD, List.getElem?_eq_getElem hi]
      exact List.getElem_mem hi
    refine ⟨hp, fun q => ⟨?_, ?_⟩, by have := hb _ hm; omega⟩
    · by_cases z : (retAt rs i).pairs.length = 0
      · exact z
      · have := hp.base z
        rw [q] at this
        cases this
    · exact hz i hi _ _ _ ((congrArg (fun z => w.cell? ⟨g, z, none⟩) (show 0 + i * 4 + 3 = i * 4 + 3 by omega)).symm.trans c3) q
theorem oAt_of {w : World} {a : Option Addr} {g o : Nat} {ops : List OpD} (h : OpsAt w a g o ops) : OAt w a g o ops.length (fun i => opAt ops i) := ⟨h.base, h.lt, h.cells⟩
/-- The operations of a right kind among the first j, thirty at most. -/
def fitT (Os : List OpD) : Nat → List OpD
  | 0 => []
  | j + 1 => if kdErr (opAt Os j).kind = 0 ∧ (fitT Os j).length < 30 then fitT Os j ++ [opAt Os j] else fitT Os j
theorem fitT_le (Os : List OpD) : ∀ j, (fitT Os j).length ≤ 30
  | 0 => by simp [fitT]
  | j + 1 => by
    have := fitT_le Os j
    simp only [fitT]
    split
    · rename_i q; simp; omega
    · exact this
theorem fitT_kind (Os : List OpD) : ∀ j, ∀ o ∈ fitT Os j, kdErr o.kind = 0
  | 0, o, h => by simp [fitT] at h
  | j + 1, o, h => by
    simp only [fitT] at h
    split at h
    · rename_i q
      rcases List.mem_append.1 h with r | r
      · exact fitT_kind Os j o r
      · simp at r; rw [r]; exact q.1
    · exact fitT_kind Os j o h
theorem opAt_mem {ops : List OpD} {i : Nat} (hi : i < ops.length) : opAt ops i ∈ ops := by
  simp only [opAt, List.getD_eq_getElem?_getD, List.getElem?_eq_getElem hi]
  exact List.getElem_mem hi
theorem kErr_fitT (Os : List OpD) (j : Nat) : kErr (fitT Os j) = 0 := by
  unfold kErr
  rw [kN_all]
  · rfl
  · exact fun i hi => fitT_kind Os j _ (opAt_mem hi)
theorem run_fitT (S : PL) (Os : List OpD) (j : Nat) : runErr (ofL S) (fitT Os j) = 0 ∧ runRd (ofL S) (fitT Os j) = runR (ofL S) (fitT Os j) := by
  have h1 : ckErr (ofL S) = 0 := ckErr_zero.2 (ofL_srt S)
  have h2 : runErr (ofL S) (fitT Os j) = 0 := by unfold runErr; rw [if_pos h1, kErr_fitT]
  exact ⟨h2, by unfold runRd; rw [if_pos h2]⟩
end Go.Proofs.Ytljidfaeljpnpaa

namespace Go.Proofs.Ytljidfaeljpnpaa

open Go.RowKit Go.Deep

attribute [local go_sem ↓] Go.wp_at_zero Go.wp_at_succ

theorem four_results {fn : Func} {a b c d : Tmp} (h : fn.results = #[.tmp a, .tmp b, .tmp c, .tmp d]) (ts : Array Value) (P : Program) (w : World) : (results fn ts).run P w = .ok (.tuple #[ts.getD a undef, ts.getD b undef, ts.getD c undef, ts.getD d undef]) w := by
  simp [results, h]
theorem nilOk_p {w : World} {a : Option Addr} {g o c : Nat} {ps : PL} (h : PairsAt w a g o ps) (hz : a = none → c = 0) : NilOk a ps.length c := fun q => by
  refine ⟨?_, hz q⟩
  by_cases z : ps.length = 0
  · exact z
  · have := h.base z
    rw [q] at this
    cases this
theorem kind_of {k : Int} (h : kdErr k = 0) : 1 ≤ k ∧ k ≤ 9 := by
  unfold kdErr at h
  split at h <;> omega
set_option maxRecDepth 100000 in
set_option maxHeartbeats 8000000 in
theorem spread_any (x : XD) (S : PL) (Os : List OpD) (pa oa a1 a2 a3 : Option Addr) (pg po pc og oo oc g1 o1 c1 g2 o2 c2 g3 o3 c3 : Nat) (w : World) (hS : PairsAt w pa pg po S) (hSn : NilOk pa S.length pc) (hSc : S.length ≤ pc) (hO : OpsAt w oa og oo Os) (h1 : NAt w a1 g1 o1 x.th) (h2 : NAt w a2 g2 o2 x.ea) (h3 : NAt w a3 g3 o3 x.la) :
    Calls Try.prog 20 #[.agg #[.slice pa S.length pc, .slice oa Os.length oc, .slice a1 x.th.length c1, .slice a2 x.ea.length c2, .slice a3 x.la.length c3], .int .i64 30] w fun e w' => ∃ v0 k0 v1 k1 n vh hs, e = .returned (.tuple #[.slice v0 n k0, .slice v1 n k1, vh, .bool true]) ∧ Below w.heap.size w w' ∧ EvsNew w' w.heap.size 0 vh hs ∧ n ≤ 30 ∧ hs.length ≤ 60 ∧ (hs = [] ∨ (hs.length = 2 * n ∧ HistOk hs n)) := by
  have HS : Hid (PairsAt w pa pg po S) := hS
  have HSN : Hid (NilOk pa S.length pc ∧ S.length ≤ pc) := ⟨hSn, hSc⟩
  have HO : Hid (OpsAt w oa og oo Os) := hO
  have N1 : Hid (NAt w a1 g1 o1 x.th) := h1
  have N2 : Hid (NAt w a2 g2 o2 x.ea) := h2
  have N3 : Hid (NAt w a3 g3 o3 x.la) := h3
  have lO := hO.len
  unfold maxLen at lO
  obtain ⟨i0, hi0, hz0, hz1, hz2⟩ := info_parts op_infoM
  have B0 : Hid (Below w.heap.size w ((w.alloc (.cells #[.slice pa S.length pc, .slice oa Os.length oc, .slice a1 x.th.length c1, .slice a2 x.ea.length c2, .slice a3 x.la.length c3] 52)).alloc (.cells #[] 39))) := (below_alloc w _).alloc (by simp) _
  have X0 : Hid (((w.alloc (.cells #[.slice pa S.length pc, .slice oa Os.length oc, .slice a1 x.th.length c1, .slice a2 x.ea.length c2, .slice a3 x.la.length c3] 52)).alloc (.cells #[] 39)).heap[w.heap.size]? = some (.cells #[.slice pa S.length pc, .slice oa Os.length oc, .slice a1 x.th.length c1, .slice a2 x.ea.length c2, .slice a3 x.la.length c3] 52)) := (heap_alloc_old _ _ (by simp)).trans (heap_alloc_at _ _ _ rfl)
  have W0 : Hid (((w.alloc (.cells #[.slice pa S.length pc, .slice oa Os.length oc, .slice a1 x.th.length c1, .slice a2 x.ea.length c2, .slice a3 x.la.length c3] 52)).alloc (.cells #[] 39)).ownsRow (w.heap.size + 1) 39 4 (.slice (some ⟨w.heap.size + 1, 0, none⟩) 0 0) 0 []) := ⟨rfl, Or.inr ⟨w.heap.size + 1, 0, #[], rfl, Nat.le_refl _, heap_alloc_at _ _ _ (by simp), Nat.le_refl _, by unfold maxLen; omega, rfl, rfl⟩⟩
  clear hS hSn hSc hO h1 h2 h3
  go_enter Try.func20, Try.ntmps20
  go_wp2_with fail
  go_loopw [8, 18] (fun v i wr => ∃ j : Nat, j ≤ Os.length ∧ i = .int .i64 j ∧ Below w.heap.size w wr ∧ wr.heap[w.heap.size]? = some (.cells #[.slice pa S.length pc, .slice oa Os.length oc, .slice a1 x.th.length c1, .slice a2 x.ea.length c2, .slice a3 x.la.length c3] 52) ∧ wr.ownsRow (w.heap.size + 1) 39 4 v (fitT Os j).length (opsC (fitT Os j))) (fun _ i _ => Os.length - (intOf i).toNat)
  case atStart => exact ⟨0, Nat.zero_le _, rfl, B0.out, X0.out, W0.out⟩
  case round =>
    obtain ⟨j, hj, rfl, hb, hx, ho⟩ := hrel
    rename World => wr
    have HB : Hid (Below w.heap.size w wr) := hb
    have HX : Hid (wr.heap[w.heap.size]? = some (.cells #[.slice pa S.length pc, .slice oa Os.length oc, .slice a1 x.th.length c1, .slice a2 x.ea.length c2, .slice a3 x.la.length c3] 52)) := hx
    have hzw : w.heap.size < wr.heap.size := (Array.getElem?_eq_some_iff.1 hx).1
    have hf30 := fitT_le Os j
    have j0 : (0 : Int) ≤ (j : Int) := Int.natCast_nonneg _
    obtain ⟨n, hn⟩ : ∃ n, n = (fitT Os j).length := ⟨_, rfl⟩
    have HN : Hid (n = (fitT Os j).length) := hn
    rw [← hn] at hf30 ho
    obtain ⟨va, vc, rfl⟩ := owns_form ho
    have HW : Hid (wr.ownsRow (w.heap.size + 1) 39 4 (.slice va n vc) n (opsC (fitT Os j))) := ho
    have n0 : (0 : Int) ≤ (n : Int) := Int.natCast_nonneg _
    clear hb hx ho
    by_cases hlt : j < Os.length
    · obtain rfl := HO.out.base (by omega)
      have EO := (HO.out.below HB.out).cells j hlt
      obtain ⟨d0, d1, d2, d3⟩ := EO
      have j1 : (j : Int) < (Os.length : Int) := by omega
      have KD : Hid (∀ W, Calls Try.prog 45 #[.int .i64 (opAt Os j).kind] W fun e w' => e = .returned (.int .i64 (kdErr (opAt Os j).kind)) ∧ W = w') := fun W => pkind_any _ W
      have HF : Hid (fitT Os (j + 1) = if kdErr (opAt Os j).kind = 0 ∧ (fitT Os j).length < 30 then fitT Os j ++ [opAt Os j] else fitT Os j) := rfl
      rw [← hn] at HF
      have OE : Hid (opC (opAt Os j) = [.int .i64 (opAt Os j).kind, .int .i64 (opAt Os j).key, .int .i64 (opAt Os j).val, .int .i64 (opAt Os j).hi]) := rfl
      obtain ⟨o, ho⟩ : ∃ o, o = opAt Os j := ⟨_, rfl⟩
      rw [← ho] at d0 d1 d2 d3 KD HF OE
      obtain ⟨q1, q2, q3, q4⟩ := o
      obtain ⟨kd, hkd⟩ : ∃ kd, kd = kdErr q1 := ⟨_, rfl⟩
      simp only at d0 d1 d2 d3 KD HF OE
      rw [← hkd] at KD HF
      clear ho hn hkd
      by_cases hk : kd = 0
      · have k0 : (kd == 0) = true := by rw [hk]; rfl
        by_cases hl : n < 30
        · have l0 : (n : Int) < 30 := by omega
          have HG : Hid (fitT Os (j + 1) = fitT Os j ++ [⟨q1, q2, q3, q4⟩]) := by show _ = _; rw [HF.out, if_pos ⟨hk, hl⟩]
          clear hk hl hlt
          go_wp2_with (first | (go_at_call 45; refine (KD.out _).mono ?_; rintro e w1 ⟨rfl, rfl⟩) | (at_builtin; (refine wpList_append_lies _ (by rfl) _ _ _ (by rfl) (w.heap.size + 1) 39 i0 _ 4 32 ops_underM hi0 hz0 hz1 hz2 rfl (by omega) _ n _ (by rfl) ((HW.out.alloc _).alloc _) ⟨wr.heap.size + 1, 0, none⟩ 1 1 [.int .i64 q1, .int .i64 q2, .int .i64 q3, .int .i64 q4] (by rfl) (by rfl) (World.news_of_block (cs := #[.int .i64 q1, .int .i64 q2, .int .i64 q3, .int .i64 q4]) (t := 39) (fr := (0, 0)) (heap_alloc_at _ _ _ (by simp))) (by simp [Value.oneCell']) (by omega) (by unfold maxLen; omega) (by omega) (by simp; omega) (wr.heap.size + 2) (by simp) ?_); intro g5 c5 w5 ho5 hg5 hat5 hl5; have H5 : Hid (World.ownsRow _ _ _ _ _ _ _) := ho5; have G5 : Hid (World.grownBy _ _ _) := hg5; clear ho5 hg5 hat5))
          refine ⟨⟨j + 1, by omega, by go_num, Below.grown ((HB.out.alloc HB.out.size _).alloc (by have := HB.out.size; simp; omega) _) G5.out (by have := HB.out.size; simp; omega) (fun k q => by have := (owns_lt HW.out k q).1; omega), ?_, ?_⟩, by simp [intOf]; omega⟩
          · refine (block_of ((below_alloc wr _).alloc (by simp) _) G5.out hzw (fun q => by have := (owns_lt HW.out _ q).1; omega)).trans HX.out
          · rw [HG.out, List.length_append, opsC_snoc, ← HN.out]
            exact H5.out
        · have l0 : ¬ (n : Int) < 30 := by omega
          have HG : Hid (fitT Os (j + 1) = fitT Os j) := by show _ = _; rw [HF.out, if_neg (fun q => hl q.2)]
          clear hk hl hlt
          go_wp2_with (first | (go_at_call 45; refine (KD.out _).mono ?_; rintro e w1 ⟨rfl, rfl⟩))
          exact ⟨⟨j + 1, by omega, by go_num, HB.out.alloc HB.out.size _, (heap_alloc_old _ _ hzw).trans HX.out, by rw [HG.out, ← HN.out]; exact HW.out.alloc _⟩, by simp [intOf]; omega⟩
      · have k0 : (kd == 0) = false := beq_eq_false_iff_ne.2 hk
        have HG : Hid (fitT Os (j + 1) = fitT Os j) := by show _ = _; rw [HF.out, if_neg (fun q => hk q.1)]
        clear hk hlt
        go_wp2_with (first | (go_at_call 45; refine (KD.out _).mono ?_; rintro e w1 ⟨rfl, rfl⟩))
        exact ⟨⟨j + 1, by omega, by go_num, HB.out.alloc HB.out.size _, (heap_alloc_old _ _ hzw).trans HX.out, by rw [HG.out, ← HN.out]; exact HW.out.alloc _⟩, by simp [intOf]; omega⟩
    · obtain rfl : j = Os.length := by omega
      obtain ⟨P, hP⟩ : ∃ P, P = fitT Os Os.length := ⟨_, rfl⟩
      obtain ⟨T, hT⟩ : ∃ T, T = S.take 40 := ⟨_, rfl⟩
      obtain ⟨R, hR⟩ : ∃ R, R = ofL T := ⟨_, rfl⟩
      have hlT : T.length ≤ 40 := by rw [hT, List.length_take]; omega
      have lR : R.length ≤ 40 := by rw [hR]; exact Nat.le_trans (ofN_length T _) hlT
      have hrun := run_fitT T Os Os.length
      have hkd := fitT_kind Os Os.length
      rw [← hP] at HW HN hrun hkd hn
      rw [← hR] at hrun
      have hW := HW.out
      rw [hn] at hW
      obtain ⟨vo, ko, go2, hvo, OP, hno, -⟩ := ops_of_owns (l := P) hW (by unfold maxLen; omega)
      injection hvo with hvo1 hvo2 hvo3
      subst hvo1 hvo3
      have FEW : Hid (∀ W, PairsAt W pa pg po S → Calls Try.prog 47 #[.slice pa S.length pc, .int .i64 40] W fun e w' => ∃ base cap g, e = .returned (.slice base T.length cap) ∧ Below W.heap.size W w' ∧ PairsAt w' base g 0 T) := fun W h => by
        have := fewPairs_any pa pg po pc 40 S W h HSN.out.1 HSN.out.2 (by omega)
        rw [← hT] at this
        refine this.mono ?_
        rintro e w' ⟨base, cap, g, e1, h1, h2, _⟩
        exact ⟨base, cap, g, e1, h1, h2⟩
      have OF : Hid (∀ W base g cap, PairsAt W base g 0 T → Calls Try.prog 46 #[.slice base T.length cap] W fun e w' => ∃ a k h, e = .returned (.slice a R.length k) ∧ Below W.heap.size W w' ∧ PairsAt w' a h 0 R ∧ NilOk a R.length k) := fun W base g cap h => by
        have := Of_map base g 0 cap T W h (by omega)
        rw [← hR] at this
        refine this.mono ?_
        rintro e w' ⟨a, g', k, e1, h1, _, h2, h3⟩
        exact ⟨a, k, g', e1, h1, h2, nilOk_p h2 h3⟩
      have CPO : Hid (∀ W, OpsAt W va go2 0 P → Calls Try.prog 48 #[.slice va n vc] W fun e w' => ∃ base cap g, e = .returned (.slice base n cap) ∧ Below W.heap.size W w' ∧ OpsAt w' base g 0 P) := fun W h => by
        have := tCopyOps_any va go2 0 vc P W h hno (by omega)
        rw [← hn] at this
        exact this
      have RUN : Hid (∀ W a h k b g c, PairsAt W a h 0 R → NilOk a R.length k → OpsAt W b g 0 P → Calls Try.prog 42 #[.slice a R.length k, .slice b n c] W fun e w' => ∃ v1 m1 k1 ra rk rg pb pc' pg' po', e = .returned (.tuple #[.slice v1 m1 k1, .slice ra n rk, .int .i64 0]) ∧ Below W.heap.size W w' ∧ RAt w' ra rg 0 n (fun i => retAt (runR R P) i) pb pc' pg' po') := fun W a h k b g c p1 p2 p3 => by
        have := pRunZ_any a h 0 k R b g 0 c P W p1 p2 p3 (by omega)
        rw [hrun.1, hrun.2, runR_length, ← hn] at this
        refine this.mono ?_
        rintro e w' ⟨v1, a2, c2, g2, rfl, hb, ⟨a1, g1, c1, rfl, _, hp, _⟩, hr, hz⟩
        obtain ⟨pb, pc', pg', po', hA⟩ := rAt_of hr (by rw [runR_length, ← hn]; exact hz) (fun r q => by have := runR_pairs P R r q; omega)
        rw [runR_length, ← hn] at hA
        exact ⟨_, _, _, a2, c2, g2, pb, pc', pg', po', rfl, hb, hA⟩
      have STR : Hid (∀ W ra rk rg pb pc' pg' po', Below w.heap.size w W → OpsAt W va go2 0 P → RAt W ra rg 0 n (fun i => retAt (runR R P) i) pb pc' pg' po' → Calls Try.prog 49 #[.agg #[.slice pa S.length pc, .slice oa Os.length oc, .slice a1 x.th.length c1, .slice a2 x.ea.length c2, .slice a3 x.la.length c3], .slice va n vc, .slice ra n rk] W fun e w' => ∃ v hs, e = .returned v ∧ Below W.heap.size W w' ∧ EvsNew w' w.heap.size 0 v hs ∧ hs.length ≤ 60 ∧ (hs = [] ∨ (hs.length = 2 * n ∧ HistOk hs n))) := fun W ra rk rg pb pc' pg' po' hW hop hra => by
        refine (stretched_any x n (fun i => opAt P i) (fun i => retAt (runR R P) i) pa oa a1 a2 a3 va ra S.length Os.length pc oc c1 c2 c3 vc rk g1 o1 g2 o2 g3 o3 go2 0 rg 0 pb pc' pg' po' W hf30 (N1.out.below (Nat.le_refl _) hW) (N2.out.below (Nat.le_refl _) hW) (N3.out.below (Nat.le_refl _) hW) (by rw [hn]; exact oAt_of hop) hra).mono ?_
        rintro e w' ⟨v, hs, rfl, hb, hE, hh⟩
        refine ⟨v, hs, rfl, hb, ?_, ?_⟩
        · obtain ⟨base, cap, g, pb, pc, pg, po, e1, e2, e3, e4, e5⟩ := hE
          exact ⟨base, cap, g, pb, pc, pg, po, e1, e2, fun q => by have := e3 q; have := hW.size; omega, e4, e5⟩
        · rcases hh with rfl | ⟨s, hs1, he⟩
          · exact ⟨by simp, Or.inl rfl⟩
          · have hok := hist_ok (ssN_ok hs1) hf30 (fun i => opAt P i) (fun i => retAt (runR R P) i) (fun i hi => kind_of (hkd _ (opAt_mem (ops := P) (by rw [← hn]; exact hi))))
            rw [← he] at hok
            clear he
            obtain ⟨hok1, hok2⟩ := hok
            exact ⟨by omega, Or.inr ⟨hok1, hok2⟩⟩
      have OPA : Hid (OpsAt wr va go2 0 P) := OP
      have F30 : Hid (n ≤ 30) := hf30
      have x0 : wr.cell? ⟨w.heap.size, 0, none⟩ = some (.slice pa S.length pc) := by simp [World.cell?, HX.out]
      have x1 : wr.cell? ⟨w.heap.size, 1, none⟩ = some (.slice oa Os.length oc) := by simp [World.cell?, HX.out]
      have x2 : wr.cell? ⟨w.heap.size, 2, none⟩ = some (.slice a1 x.th.length c1) := by simp [World.cell?, HX.out]
      have x3 : wr.cell? ⟨w.heap.size, 3, none⟩ = some (.slice a2 x.ea.length c2) := by simp [World.cell?, HX.out]
      have x4 : wr.cell? ⟨w.heap.size, 4, none⟩ = some (.slice a3 x.la.length c3) := by simp [World.cell?, HX.out]
      clear hP hT hR hlT lR hrun hkd hn hW OP hno hvo2 hlt hj hf30
      obtain ⟨tl, htl⟩ : ∃ tl, tl = T.length := ⟨_, rfl⟩
      obtain ⟨rl, hrl⟩ : ∃ rl, rl = R.length := ⟨_, rfl⟩
      rw [← htl] at FEW OF
      rw [← hrl] at OF RUN
      clear htl hrl
      go_wp2_with (first | (go_at_call 47; refine (FEW.out _ (HS.out.below HB.out)).mono ?_; rintro e w1 ⟨fa, fc, fg, rfl, hb1, hp1⟩; have B1 : Hid (Below wr.heap.size wr w1) := hb1; have P1 : Hid (PairsAt w1 fa fg 0 T) := hp1; clear hb1 hp1) | (go_at_call 46; refine (OF.out _ _ _ _ P1.out).mono ?_; rintro e w2 ⟨ra0, rk0, rh0, rfl, hb2, hp2, hn2⟩; have B2 : Hid (Below wr.heap.size wr w2) := B1.out.trans (hb2.mono B1.out.size); have P2 : Hid (PairsAt w2 ra0 rh0 0 R ∧ NilOk ra0 rl rk0) := ⟨hp2, hn2⟩; clear hb2 hp2 hn2) | (go_at_call 48; refine (CPO.out _ (OPA.out.below B2.out)).mono ?_; rintro e w3 ⟨ca, ck, cg, rfl, hb3, hp3⟩; have B3 : Hid (Below wr.heap.size wr w3) := B2.out.trans (hb3.mono B2.out.size); have P3 : Hid (PairsAt w3 ra0 rh0 0 R) := P2.out.1.below hb3; have O3 : Hid (OpsAt w3 ca cg 0 P) := hp3; clear hb3 hp3) | (go_at_call 42; refine (RUN.out _ _ _ _ _ _ _ P3.out P2.out.2 O3.out).mono ?_; rintro e w4 ⟨v1, m1, k1, ra, rk, rg, pb, pc', pg', po', rfl, hb4, hA4⟩; have B4 : Hid (Below wr.heap.size wr w4) := B3.out.trans (hb4.mono B3.out.size); have A4 : Hid (RAt w4 ra rg 0 n (fun i => retAt (runR R P) i) pb pc' pg' po') := hA4; have y0 := (B4.out.cell (p := ⟨w.heap.size, 0, none⟩) hzw).trans x0; have y1 := (B4.out.cell (p := ⟨w.heap.size, 1, none⟩) hzw).trans x1; have y2 := (B4.out.cell (p := ⟨w.heap.size, 2, none⟩) hzw).trans x2; have y3 := (B4.out.cell (p := ⟨w.heap.size, 3, none⟩) hzw).trans x3; have y4 := (B4.out.cell (p := ⟨w.heap.size, 4, none⟩) hzw).trans x4; clear hb4 hA4) | (go_at_call 49; refine (STR.out _ _ _ _ _ _ _ _ (HB.out.trans (B4.out.mono HB.out.size)) (OPA.out.below B4.out) A4.out).mono ?_; rintro e w5 ⟨vh, hs, rfl, hb5, hE5, hl5, hh5⟩; have B5 : Hid (Below w.heap.size w w5) := HB.out.trans ((B4.out.trans (hb5.mono B4.out.size)).mono HB.out.size); have E5 : Hid (EvsNew w5 w.heap.size 0 vh hs) := hE5; have L5 : Hid (hs.length ≤ 60) := hl5; have H5 : Hid (hs = [] ∨ (hs.length = 2 * n ∧ HistOk hs n)) := hh5; clear hb5 hE5 hl5 hh5))
      refine bodyPost_ret (four_results rfl _ _ _) rfl ?_
      exact ⟨_, _, _, _, _, _, hs, rfl, B5.out, E5.out, F30.out, L5.out, H5.out⟩
end Go.Proofs.Ytljidfaeljpnpaa

/- Layer 20: larchref06.SameRets of equal answers without pairs. Layer 20: Read, walked. Layer 20: Read, Path, Get over the nodes of a table. Layer 2: the closure of Nums and play. Layer 2: acts in memory, rows of numbers, and the errors that Nums tells. Layer 2: NewTape, slices.Clone of numbers, Kinds. Layer 20: Make, Round, Walk and Seek. Layer 20: Walk. Layer 20: Seek. Layer 20: Seek, walked. Layer 20: what every law asks first. Layer 20: copies; the document's loads, Round and Walk. Layer 20: the document's Round. Layer 20: a search in a table, and in the table numbered from its root, end at leaves that hold the same. Layer 20: the document's Seek. -/
import Derived.Test.YthdfpddijocfkaaNRun2
import Derived.Deep.CutRange
import Derived.Test.YthdfpddijocfkaaTSrch
import Derived.Test.YthdfpddijocfkaaNGate
import Derived.Deep.RegionHeld3
import Derived.Deep.DrawnRows
import Derived.Laws.MakeOwn
import Derived.Test.YthdfpddijocfkaaWHeavy
import Derived.Test.YthdfpddijocfkaaWSame
import Derived.Test.YthdfpddijocfkaaWEq
import Derived.Test.YthdfpddijocfkaaWF4
import Derived.BigQuiet


namespace Go.Proofs.Ythdfpddijocfkaa

open Go.RowKit

attribute [local go_sem ↓] Go.wp_at_zero Go.wp_at_succ

theorem ah_info : (Try.prog.info? 108).map (fun i => (i.zero, i.size, i.bytes)) = some (some (.agg #[.pointer none, .int .i64 0]), 2, 16) := by kernel_rfl
theorem ahs_under : Try.prog.underlying 109 = some (.slice 108) := by kernel_rfl
theorem setmap_under : Try.prog.underlying 106 = some (.map 41 50) := by kernel_rfl
theorem unit_zero (w : World) : (zeroValue 50).run Try.prog w = .ok (.agg #[]) w := by kernel_rfl
theorem wpList_lookupP {P : Program} {ops : Array Oper} {rest : List Oper} {o : Oper} {a : Act} {Q : Exit → Act → World → Prop} {w : World} (hgd : o.guard = none) (m x : Operand) (t : TypeId) (ok : Bool) (hop : o.op = Op.lookup t m x ok) {mv xv r : Value} (hm : a.eval m = mv) (hx : a.eval x = xv) (hr : (Instr.lookup t mv xv ok).run P w = .ok r w) (hK : wpList P ops Q rest (a.put o.dst r) w) : wpList P ops Q (o :: rest) a w := by
  refine wpList_plain hgd fun K' hK' => ?_
  unfold Oper.wp
  simp [execOp, hop, hm, hx, hr, Result.andThen]
  exact hK' _ _ hK
theorem wpList_updateP {P : Program} {ops : Array Oper} {rest : List Oper} {o : Oper} {a : Act} {Q : Exit → Act → World → Prop} {w w' : World} (hgd : o.guard = none) (m x v : Operand) (t : TypeId) (hop : o.op = Op.mapUpdate t m x v) {mv xv vv : Value} (hm : a.eval m = mv) (hx : a.eval x = xv) (hv : a.eval v = vv) (hr : (Instr.mapUpdate t mv xv vv).run P w = .ok () w') (hK : wpList P ops Q rest (a.put o.dst undef) w') : wpList P ops Q (o :: rest) a w := by
  refine wpList_plain hgd fun K' hK' => ?_
  unfold Oper.wp
  simp [execOp, hop, hm, hx, hv, hr, Result.andThen]
  exact hK' _ _ hK

theorem fnd_val (q : Option Nat) : ∀ l : List Nat, (fnd q (l.map fun x => (x, .agg #[]))).getD (.agg #[]) = .agg #[]
  | [] => rfl
  | x :: t => by
    simp only [List.map_cons, fnd]
    split
    · rfl
    · exact fnd_val q t
theorem last_cells {w : World} {B n : Nat} {a : Option Addr} {c : Nat} {rest : List (Option Nat × Int)} {x : Option Nat} {ab : Int} (h : w.ownsRow B 108 2 (.slice a n c) n (ahC (rest ++ [(x, ab)]))) (hn : n = rest.length + 1) :
    ∃ rb, a = some ⟨rb, 0, none⟩ ∧ rb < w.heap.size ∧ n ≤ c ∧ c ≤ maxLen ∧ w.cell? ⟨rb, rest.length * 2, none⟩ = some (ptrO x) ∧ w.cell? ⟨rb, rest.length * 2 + 1, none⟩ = some (.int .i64 ab) := by
  obtain ⟨l1, l2⟩ := ahC_last rest x ab
  obtain ⟨_, h2⟩ := h
  rcases h2 with ⟨_, h0⟩ | ⟨g, cap, cur, e, hB, hg, q1, q2, q3, q4⟩
  · omega
  · injection e with e1 _ e3
    subst e1
    subst e3
    have hc : ∀ i, i < n * 2 → w.cell? ⟨g, i, none⟩ = (ahC (rest ++ [(x, ab)]))[i]? := by
      intro i hi
      rw [← q4, List.getElem?_take, if_pos hi]
      simp [World.cell?, hg]
    exact ⟨g, rfl, (Array.getElem?_eq_some_iff.1 hg).1, q1, q2, by rw [hc _ (by omega)]; exact l1, by rw [hc _ (by omega)]; exact l2⟩

set_option maxRecDepth 100000 in
set_option maxHeartbeats 4000000 in
theorem Read_any {gv : Value} {Tb : Nat → Prop} {most : Nat} {G : List Int → World → Prop} (gt : GateS gv Tb most G) (ks : List Int) (N : Nat) (hNt : ∀ t, Tb t → N ≤ t) (gr : Nat → Option (Nat × GN)) (tr : Nat → RS) (m : Nat) (hm : m ≤ 100000) (run : RRun gr tr m) (g0 : Nat) (h0 : tr 0 = ⟨[], [], [(some g0, -1)], []⟩) (w : World) (hNw : N ≤ w.heap.size) (hgr : GrAt w N gr) (hk : ∀ j, j ≤ m → ks.length + (tr j).ks.length < most) (hG : G ks w) (hT : Tbs Tb w) :
    Calls Try.prog 28 #[gv, .pointer (some ⟨g0, 0, none⟩)] w fun e w' => ((tr m).row = [] → ∃ v, e = .returned (.tuple #[v, .int .i64 0]) ∧ w'.ownsRow w.heap.size 81 6 v (tr m).T.length (ndCells (tr m).T)) ∧ ((tr m).row ≠ [] → e = .returned (.tuple #[.slice none 0 0, .int .i64 3])) ∧ G (ks ++ (tr m).ks) w' ∧ Tbs Tb w' ∧ Below N w w' := by
  have HR : Hid (RRun gr tr m) := run
  have HGR : Hid (GrAt w N gr) := hgr
  have HK : Hid (∀ j, j ≤ m → ks.length + (tr j).ks.length < most) := hk
  have HG0 : Hid (G ks w) := hG
  have HT0 : Hid (Tbs Tb w) := hT
  have H0 : Hid (tr 0 = ⟨[], [], [(some g0, -1)], []⟩) := h0
  have HM : Hid (m ≤ 100000) := hm
  have HNt : Hid (∀ t, Tb t → N ≤ t) := hNt
  obtain ⟨i0, hi0, hz0, hz1, hz2⟩ := info_parts ah_info
  obtain ⟨i1, hi1, hy0, hy1, hy2⟩ := info_parts nd_info'
  have hmkm := @run_makeMap Try.prog
  clear run hgr hk hG hT h0 hm hNt
  go_enter Try.func28, Try.ntmps28
  go_wp2_with fail
  clear hmkm
  go_loopw [6, 8] (fun vt vr wr => ∃ j, j ≤ m ∧ RI Tb G ks N w.heap.size w.heap.size w vt vr (tr j).T (tr j).row (tr j).met (tr j).ks wr) (fun vt _ _ => m - slLen vt)
  case atStart =>
    refine ⟨0, Nat.zero_le _, ?_⟩
    rw [H0.out]
    have hb0 : Below w.heap.size w (w.alloc (.map #[] 0)) := below_alloc _ _
    have hb1 : Below w.heap.size w ((w.alloc (.map #[] 0)).alloc (.cells #[.pointer (some ⟨g0, 0, none⟩), .int .i64 (-1)] 108)) := hb0.alloc (by simp) _
    refine ⟨World.ownsRow_nil _ _ _ _, ⟨rfl, Or.inr ⟨w.heap.size + 1, 1, _, rfl, by omega, heap_alloc_at _ _ _ (by simp), Nat.le_refl _, by unfold maxLen; omega, by rfl, by rfl⟩⟩, (PMap.made w).same (heap_alloc_old _ _ (by simp)), ?_, HT0.out.od (Od.of_below hb1), hb1.mono hNw, by simp; omega⟩
    have := gt.keep _ _ _ HG0.out (Od.of_below (Tb := Tb) hb1)
    simpa using this
  case round =>
    obtain ⟨j, hj, hri⟩ := hrel
    rename World => wr
    obtain ⟨at_, ct, rfl⟩ := owns_slice hri.ot
    obtain ⟨ar, cr, rfl⟩ := owns_slice hri.oa
    have RI0 : Hid (RI Tb G ks N w.heap.size w.heap.size w (.slice at_ (tr j).T.length ct) (.slice ar (tr j).row.length cr) (tr j).T (tr j).row (tr j).met (tr j).ks wr) := hri
    clear hri
    have lT := HR.out.lenT j hj
    by_cases hrow : (tr j).row = []
    · -- the row is empty: the end
      have hjm : j = m := by
        rcases Nat.lt_or_ge j m with q | q
        · obtain ⟨rest, g, ab, fb, n, st⟩ := HR.out.step j q
          have := st.row
          rw [hrow] at this
          simp at this
        · omega
      subst hjm
      have l0 : (tr j).row.length = 0 := by rw [hrow]; rfl
      rw [l0]
      have HROW : Hid ((tr j).row = []) := hrow
      have HTV : Hid (wr.ownsRow w.heap.size 81 6 (.slice at_ (tr j).T.length ct) (tr j).T.length (ndCells (tr j).T)) := RI0.out.ot
      clear hrow l0
      generalize hv : Value.slice at_ (tr j).T.length ct = vt at HTV ⊢
      have HV : Hid (Value.slice at_ (tr j).T.length ct = vt) := hv
      clear hv
      go_wp2_with fail
      go_ret2
      exact ⟨fun _ => ⟨_, rfl, HTV.out⟩, fun q => absurd HROW.out q, RI0.out.g, RI0.out.tb, RI0.out.bl⟩
    · obtain ⟨rest, x, ab, hrw, hcase⟩ : ∃ rest x ab, (tr j).row = rest ++ [(x, ab)] ∧ ((j < m ∧ ∃ g fb n, x = some g ∧ RStep gr (tr j) (tr (j + 1)) rest g ab fb n) ∨ (j = m ∧ (x = none ∨ ∃ q, x = some q ∧ q ∈ (tr m).met))) := by
        by_cases hjm : j < m
        · obtain ⟨rest, g, ab, fb, n, st⟩ := HR.out.step j hjm
          exact ⟨rest, some g, ab, st.row, Or.inl ⟨hjm, g, fb, n, rfl, st⟩⟩
        · obtain rfl : j = m := by omega
          rcases HR.out.fin with q | ⟨rest, x, ab, h1, h2⟩
          · exact absurd q hrow
          · exact ⟨rest, x, ab, h1, Or.inr ⟨rfl, h2⟩⟩
      have HROW : Hid ((tr j).row ≠ []) := hrow
      have HRW : Hid ((tr j).row = rest ++ [(x, ab)]) := hrw
      have HC : Hid _ := hcase
      have HMG := HR.out.metg j hj
      have HOK : Hid (∀ W, Below N wr W → (∀ y ∈ ((tr j).met.map fun x => (x, Value.agg #[])), OkR W (some y.1)) ∧ OkR W x) := fun W hb => by
        have hg := HGR.out.below (RI0.out.bl.trans hb)
        refine ⟨fun y hy => ?_, ?_⟩
        · obtain ⟨q, hq, rfl⟩ := List.mem_map.1 hy
          exact hg.okr (HMG q hq)
        · rcases hcase with ⟨_, g, fb, n, rfl, st⟩ | ⟨rfl, rfl | ⟨q, rfl, hq⟩⟩
          · exact hg.okr (by rw [st.at_]; rfl)
          · exact OkR.none _
          · exact hg.okr (HR.out.metg _ hj q hq)
      have RI1 := RI0.out
      obtain ⟨n1, hn1⟩ : ∃ n1, (tr j).row.length = n1 := ⟨_, rfl⟩
      have hn2 : n1 = rest.length + 1 := by rw [← hn1, hrw]; simp
      have hb1 : n1 ≤ 200001 := by rw [← hn1]; exact HR.out.lenR j hj
      rw [hn1] at RI1 ⊢
      have oa1 := RI1.oa
      rw [hn1, hrw] at oa1
      obtain ⟨rb, rfl, hrb, hnc, hcm, d0, d1⟩ := last_cells oa1 hn2
      rw [hrw, hn2] at RI1
      have RC : Hid _ := RI1.cut
      obtain ⟨px, hpx⟩ : ∃ px, ptrO x = .pointer px := ⟨_, rfl⟩
      have HPX : Hid (ptrO x = .pointer px) := hpx
      rw [hpx] at d0
      obtain ⟨r1, hr1⟩ : ∃ r1, r1 = rest.length := ⟨_, rfl⟩
      rw [← hr1] at d0 d1 hn2
      have HR1 : Hid (rest.length = r1) := hr1.symm
      have w1 : wrap64 ((n1 : Int) - 1) = (r1 : Int) := by unfold wrap64; omega
      have w2 : IntKind.i64.wrap ((n1 : Int) - 1) = (r1 : Int) := by rw [IntKind.wrap_i64] <;> omega
      have z0 : (0 : Int) ≤ (r1 : Int) := Int.natCast_nonneg _
      have z1 : (r1 : Int) < (n1 : Int) := by omega
      have z2 : (r1 : Int) ≤ (cr : Int) := by omega
      have z3 : (0 : Int) < (n1 : Int) := by omega
      have z4 : (cr : Int) ≤ 9223372036854775807 := by unfold maxLen at hcm; omega
      have RA : Hid (RI Tb G ks N w.heap.size w.heap.size w (.slice at_ (tr j).T.length ct) (.slice (some ⟨rb, 0, none⟩) rest.length cr) (tr j).T rest (tr j).met (tr j).ks (wr.alloc (.cells #[.pointer px, .int .i64 ab] 108))) := RC.out.below gt hNw (below_alloc _ _)
      have BN : Below N wr (wr.alloc (.cells #[.pointer px, .int .i64 ab] 108)) := (below_alloc wr _).mono (by have := RC.out.hb; omega)
      have hlook := lookup_run setmap_under RA.out.pm (HOK.out _ BN).1 (HOK.out _ BN).2 (unit_zero _) true
      rw [fnd_val, hpx] at hlook
      have HZX : Hid (wr.heap.size < (wr.alloc (.cells #[.pointer px, .int .i64 ab] 108)).heap.size) := by show _ < _; simp
      clear hrow RI1 oa1 hpx hr1 hcase HMG BN hn1 hcm hrw
      obtain ⟨fnb, hfnb⟩ : ∃ b, (fnd x ((tr j).met.map fun x => (x, Value.agg #[]))).isSome = b := ⟨_, rfl⟩
      rw [hfnb] at hlook
      have HF : Hid ((fnd x ((tr j).met.map fun x => (x, Value.agg #[]))).isSome = fnb) := hfnb
      clear hfnb
      rcases HC.out with ⟨hjm, g, fb, n, rfl, st⟩ | ⟨hjm, hbad⟩
      · skip
        -- STEP BEGIN
        have hjb : j < 100000 := by have := HM.out; omega
        have qj : ((j : Int) == 100000) = false := by rw [beq_eq_false_iff_ne]; omega
        have j0 : (0 : Int) ≤ (j : Int) := Int.natCast_nonneg _
        have ST : Hid (RStep gr (tr j) (tr (j + 1)) rest g ab fb n) := st
        obtain rfl : px = some ⟨g, 0, none⟩ := by have := HPX.out; simp only [ptrO, Option.map_some, Value.pointer.injEq] at this; exact this.symm
        obtain rfl : fnb = false := by have h2 := HF.out; rw [fnd_met, decide_eq_false st.new] at h2; exact h2.symm
        have RB1 := RA.out
        rw [lT, HR1.out] at RB1
        obtain ⟨W2, hW2⟩ : ∃ W2, W2 = (wr.alloc (.cells #[.pointer (some ⟨g, 0, none⟩), .int .i64 ab] 108)).alloc (.cells #[] 50) := ⟨_, rfl⟩
        have hx2 : W2.heap[wr.heap.size]? = some (.cells #[.pointer (some ⟨g, 0, none⟩), .int .i64 ab] 108 (0, 0)) := by rw [hW2]; exact (heap_alloc_old _ _ (by simp)).trans (heap_alloc_at _ _ _ rfl)
        have RB : Hid (RI Tb G ks N w.heap.size w.heap.size w (.slice at_ j ct) (.slice (some ⟨rb, 0, none⟩) r1 cr) (tr j).T rest (tr j).met (tr j).ks W2) := by show RI _ _ _ _ _ _ _ _ _ _ _ _ _ _; rw [hW2]; exact RB1.below gt hNw (below_alloc _ _)
        have bw2 : Below N wr W2 := by rw [hW2]; exact ((below_alloc wr _).alloc (by simp) _).mono (by have := RC.out.hb; omega)
        obtain ⟨W3, hup, hpm, hgw⟩ := update_run setmap_under RB.out.pm (HOK.out _ bw2).1 (HOK.out _ bw2).2 (by have h2 := HF.out; cases e : fnd (some g) ((tr j).met.map fun x => (x, Value.agg #[])) with | none => rfl | some y => rw [e] at h2; cases h2) (.agg #[])
        have RP : Hid (RI Tb G ks N w.heap.size w.heap.size w (.slice at_ j ct) (.slice (some ⟨rb, 0, none⟩) r1 cr) (tr j).T rest ((tr j).met ++ [g]) (tr j).ks W3) := RB.out.put gt hNw (by rw [List.map_append]; exact hpm) hgw
        have HX3 : Hid (W3.heap[wr.heap.size]? = some (.cells #[.pointer (some ⟨g, 0, none⟩), .int .i64 ab] 108 (0, 0))) := (hgw.block _ (Array.getElem?_eq_some_iff.1 hx2).1 (fun e => RB.out.pm.notyp _ (by injection e with e; rw [← e]; exact ⟨_, _, hx2⟩))).trans hx2
        have HGN : Hid (∀ W, Below N w W → RcAt W g fb n ∧ g < N ∧ fb < N) := fun W hb => HGR.out.below hb g fb n st.at_
        have x20 : W2.cell? ⟨wr.heap.size, 0, none⟩ = some (.pointer (some ⟨g, 0, none⟩)) := by simp only [World.cell?, hx2]; rfl
        have x30 : W3.cell? ⟨wr.heap.size, 0, none⟩ = some (.pointer (some ⟨g, 0, none⟩)) := by simp only [World.cell?, HX3.out]; rfl
        have hup' : (Instr.mapUpdate 106 (.map (some w.heap.size)) (.pointer (some ⟨g, 0, none⟩)) (.agg #[])).run Try.prog W2 = .ok () W3 := hup
        clear st hup hpm hgw RB1 hx2 bw2
        subst hW2
        go_wp2_with fail
        refine (plain_any g fb j n _ (HGN.out _ RP.out.bl).1 (by omega)).mono ?_
        rintro e w4 ⟨rfl, hb4⟩
        generalize hPN : plainN n j = PN
        have HPN : Hid (plainN n j = PN) := hPN
        have RQ : Hid (RI Tb G ks N w.heap.size w.heap.size w (.slice at_ j ct) (.slice (some ⟨rb, 0, none⟩) r1 cr) (tr j).T rest ((tr j).met ++ [g]) (tr j).ks w4) := RP.out.below gt hNw hb4
        have HX4 : Hid (w4.heap[wr.heap.size]? = some (.cells #[.pointer (some ⟨g, 0, none⟩), .int .i64 ab] 108 (0, 0))) := (hb4.block _ (Array.getElem?_eq_some_iff.1 HX3.out).1).trans HX3.out
        have OT4 := RQ.out.ot
        rw [lT] at OT4
        have hB4 : w.heap.size ≤ w4.heap.size := RQ.out.hb
        clear hb4 hPN x20 x30 hup' hlook
        go_upto_region 17 with (first | (at_builtin; (refine wpList_append_lies _ (by rfl) _ _ _ (by rfl) w.heap.size 81 i1 _ 6 48 nds_under' hi1 hy0 hy1 hy2 rfl (by omega) _ j (ndCells (tr j).T) (by rfl) (OT4.alloc _) ⟨w4.heap.size, 0, none⟩ 1 1 [.int .i64 PN.key, .int .i64 PN.inf, .int .i64 PN.wt, .int .i64 PN.val, .int .i64 PN.l, .int .i64 PN.r] (by rfl) (by rfl) (World.news_of_block (cs := #[.int .i64 PN.key, .int .i64 PN.inf, .int .i64 PN.wt, .int .i64 PN.val, .int .i64 PN.l, .int .i64 PN.r]) (t := 81) (fr := (0, 0)) (heap_alloc_at _ _ _ (by simp))) (by simp [Value.oneCell']) (by omega) (by unfold maxLen; omega) (by omega) (by simp; omega) (w4.heap.size + 1) (by simp) ?_); intro gg cap w5 hown5 hgrow hat hlt5; obtain ⟨T1, hT1⟩ : ∃ T1, T1 = (tr j).T ++ [PN] := ⟨_, rfl⟩; have lT1 : Hid (T1.length = j + 1) := (by show _ = _; rw [hT1, List.length_append, lT]; rfl); have HT1 : Hid (T1 = (tr j).T ++ [PN]) := hT1; have RT : Hid (RI Tb G ks N w.heap.size w.heap.size w (.slice (some ⟨gg, 0, none⟩) (j + 1) cap) (.slice (some ⟨rb, 0, none⟩) r1 cr) T1 rest ((tr j).met ++ [g]) (tr j).ks w5) := RI.growT gt RQ.out hNw (by rw [lT1.out, hT1, ndCells_append, ndCells_one]; exact hown5) hgrow; have HX5 : Hid (w5.heap[wr.heap.size]? = some (.cells #[.pointer (some ⟨g, 0, none⟩), .int .i64 ab] 108 (0, 0))) := (hgrow.block _ (by simp; have := (Array.getElem?_eq_some_iff.1 HX4.out).1; omega) (fun e => absurd ((owns_typ OT4 e.symm).one ⟨_, _, HX4.out⟩) (by decide))).trans ((heap_alloc_old _ _ (Array.getElem?_eq_some_iff.1 HX4.out).1).trans HX4.out); have x51 : w5.cell? ⟨wr.heap.size, 1, none⟩ = some (.int .i64 ab) := (by simp only [World.cell?, HX5.out]; rfl); clear hown5 hgrow hat hlt5 hT1))
        rcases ST.out.up with rfl | ⟨i, rfl, hi⟩
        · skip
          have x60 : w5.cell? ⟨wr.heap.size, 0, none⟩ = some (.pointer (some ⟨g, 0, none⟩)) := by simp only [World.cell?, HX5.out]; rfl
          obtain ⟨_, _, _, _, c4, _⟩ := (HGN.out _ RT.out.bl).1.cells
          cases hlf : n.lf
          · rw [hlf] at c4
            have HL : Hid (n.lf = false) := hlf
            clear hlf
            have HKJ : Hid (ks.length + (tr j).ks.length + 1 < most) := by
              show _ < _
              have h1 := HK.out (j + 1) (by omega)
              rw [ST.out.ks', List.length_append, List.length_append] at h1
              have h2 : (chK n).length = 1 := by unfold chK; rw [HL.out]; rfl
              omega
            have HCK : Hid (chK n = [1]) := by show _ = _; unfold chK; rw [HL.out]; rfl
            have HOC : Hid (∀ W, Below N w W → ∀ i, OkR W (n.ch.getD i none)) := fun W hb i => by
              cases e : n.ch.getD i none with
              | none => exact OkR.none _
              | some q => exact (HGR.out.below hb).okr (ST.out.chs i q HL.out e)
            go_wp2_with fail
            have RTd : Hid _ := RT.out.drew gt
            have HXd : Hid (w5.drew.heap[wr.heap.size]? = some (.cells #[.pointer (some ⟨g, 0, none⟩), .int .i64 (-1)] 108 (0, 0))) := HX5.out
            go_region_held3 (fun w' => w'.cell? ⟨wr.heap.size, 0, none⟩ = some (.pointer (some ⟨g, 0, none⟩)))
              (first | go_keep | exact x70 | exact x80)
              (first
                | (go_at_call 23; refine (Left_any gt (ks ++ (tr j).ks) (by have := HKJ.out; rw [List.length_append]; omega) g fb n _ RTd.out.g (HGN.out _ RTd.out.bl).1 ST.out.two ST.out.le2 (fun q => by have := HNt.out _ q; have := (HGN.out _ RTd.out.bl).2.2; omega) (fun _ w1 hp => HOC.out _ (RTd.out.bl.trans (hp.below (by have := RTd.out.hb; omega) HNt.out)) 0)).mono ?_; rintro e w7 ⟨rfl, hg7, hp7⟩; have RL : Hid (RI Tb G ks N w.heap.size w.heap.size w (.slice (some ⟨gg, 0, none⟩) (j + 1) cap) (.slice (some ⟨rb, 0, none⟩) r1 cr) T1 rest ((tr j).met ++ [g]) ((tr j).ks ++ chK n) w7) := RTd.out.pd hNw HNt.out (by rw [← List.append_assoc]; exact hg7) hp7; have x7 := (hp7.blk _ (Array.getElem?_eq_some_iff.1 HXd.out).1 (RTd.out.tb.not ⟨_, _, HXd.out⟩ (by decide)) (fun q => absurd (typ.one ⟨_, _, HXd.out⟩ q) (by decide))).trans HXd.out; have HX7 : Hid _ := x7; have x70 : w7.cell? ⟨wr.heap.size, 0, none⟩ = some (.pointer (some ⟨g, 0, none⟩)) := (by simp only [World.cell?, x7]; rfl); clear hg7 hp7 x7)
                | (go_at_call 24; refine (Right_any gt (ks ++ ((tr j).ks ++ chK n)) (by have := HKJ.out; rw [HCK.out, List.length_append, List.length_append]; simp; omega) g fb n _ RL.out.g (HGN.out _ RL.out.bl).1 ST.out.two ST.out.le2 (fun q => by have := HNt.out _ q; have := (HGN.out _ RL.out.bl).2.2; omega) (fun _ w1 hp => HOC.out _ (RL.out.bl.trans (hp.below (by have := RL.out.hb; omega) HNt.out)) 1)).mono ?_; rintro e w8 ⟨rfl, hg8, hp8⟩; have RR : Hid (RI Tb G ks N w.heap.size w.heap.size w (.slice (some ⟨gg, 0, none⟩) (j + 1) cap) (.slice (some ⟨rb, 0, none⟩) r1 cr) T1 rest ((tr j).met ++ [g]) ((tr j).ks ++ (chK n ++ chK n)) w8) := RL.out.pd hNw HNt.out (by simpa only [List.append_assoc] using hg8) hp8; have x8 := (hp8.blk _ (Array.getElem?_eq_some_iff.1 HX7.out).1 (RL.out.tb.not ⟨_, _, HX7.out⟩ (by decide)) (fun q => absurd (typ.one ⟨_, _, HX7.out⟩ q) (by decide))).trans HX7.out; have x80 : w8.cell? ⟨wr.heap.size, 0, none⟩ = some (.pointer (some ⟨g, 0, none⟩)) := (by simp only [World.cell?, x8]; rfl); clear hg8 hp8 x8))
            have RD : Hid (RI Tb G ks N w.heap.size w.heap.size w (.slice (some ⟨gg, 0, none⟩) (j + 1) cap) (.slice (some ⟨rb, 0, none⟩) r1 cr) T1 rest ((tr j).met ++ [g]) ((tr j).ks ++ (chK n ++ chK n)) w8) := RR.out
            have OA8 := RD.out.oa
            rw [HR1.out] at OA8
            have hB8 : w.heap.size ≤ w8.heap.size := RD.out.hb
            have hc0 : ∃ y0, ptrO (chO n 0) = .pointer y0 := ⟨_, rfl⟩
            have hc1 : ∃ y1, ptrO (chO n 1) = .pointer y1 := ⟨_, rfl⟩
            obtain ⟨y0, hy0'⟩ := hc0
            obtain ⟨y1, hy1'⟩ := hc1
            have HY0 : Hid (ptrO (chO n 0) = .pointer y0) := hy0'
            have HY1 : Hid (ptrO (chO n 1) = .pointer y1) := hy1'
            rw [hy0', hy1']
            clear hy0' hy1'
            go_wp2_with (first | (at_builtin; (refine wpList_append_lies _ (by rfl) _ _ _ (by rfl) w.heap.size 108 i0 _ 2 16 ahs_under hi0 hz0 hz1 hz2 rfl (by omega) _ r1 (ahC rest) (by rfl) (OA8.alloc _) ⟨w8.heap.size, 0, none⟩ 2 2 [.pointer y1, .int .i64 j, .pointer y0, .int .i64 (-1)] (by rfl) (by rfl) (World.news_of_block (cs := #[.pointer y1, .int .i64 j, .pointer y0, .int .i64 (-1)]) (t := 108) (fr := (0, 0)) (heap_alloc_at _ _ _ (by simp))) (by simp [Value.oneCell']) (by omega) (by unfold maxLen; omega) (by omega) (by simp; omega) (w8.heap.size + 1) (by simp) ?_); intro gh caph w9 hown9 hgrow9 hat9 hlt9; have RF : Hid (RI Tb G ks N w.heap.size w.heap.size w (.slice (some ⟨gg, 0, none⟩) (j + 1) cap) (.slice (some ⟨gh, 0, none⟩) (r1 + 2) caph) T1 (rest ++ [(chO n 1, (j : Int)), (chO n 0, -1)]) ((tr j).met ++ [g]) ((tr j).ks ++ (chK n ++ chK n)) w9) := RI.growA gt RD.out hNw (by rw [List.length_append, HR1.out, ahC_append]; simp only [ahC, HY0.out, HY1.out]; exact hown9) hgrow9; clear hown9 hgrow9 hat9 hlt9))
            refine ⟨⟨j + 1, by omega, ?_⟩, by simp [slLen]; omega⟩
            rw [ST.out.T', ST.out.row', ST.out.met', ST.out.ks', lT, HPN.out, HL.out]
            simp only [Bool.false_eq_true, if_false]
            first | (rw [if_pos rfl, ← HT1.out]; exact RF.out) | (rw [← HT1.out]; exact RF.out)
          · rw [hlf] at c4
            have HL : Hid (n.lf = true) := hlf
            have HCK : Hid (chK n ++ chK n = []) := by show _ = _; unfold chK; rw [hlf]; rfl
            clear hlf
            go_wp2_with fail
            refine ⟨⟨j + 1, by omega, ?_⟩, by simp [slLen]; omega⟩
            rw [ST.out.T', ST.out.row', ST.out.met', ST.out.ks', lT, HPN.out, HL.out, HCK.out, List.append_nil]
            simp only [if_true]
            first | (rw [if_pos rfl, ← HT1.out]; exact RT.out) | (rw [← HT1.out]; exact RT.out)
        · rw [lT] at hi
          have i0' : (0 : Int) ≤ (i : Int) := Int.natCast_nonneg _
          have i1' : (i : Int) < ((j + 1 : Nat) : Int) := by omega
          have hi2 : i < j + 1 := by omega
          have x5c := (RT.out.ot).2
          obtain ⟨u5, hu5⟩ : ∃ u5, w5.cell? ⟨gg, i * 6 + 5, none⟩ = some u5 := by
            rcases x5c with ⟨e, _⟩ | ⟨g', cap', cur, e, _, hg', q1, q2, q3, _⟩
            · cases e
            · injection e with e1 _ _
              injection e1 with e1
              injection e1 with e1 _ _
              subst e1
              refine ⟨cur[i * 6 + 5]'(by have := lT1.out; omega), ?_⟩
              simp only [World.cell?, hg']
              exact Array.getElem?_eq_getElem _
          have hz5 : w5.frozen? ⟨gg, i * 6 + 5, none⟩ = false := by
            rcases x5c with ⟨e, _⟩ | ⟨g', cap', cur, e, _, hg', q1, q2, q3, _⟩
            · cases e
            · injection e with e1 _ _
              injection e1 with e1
              injection e1 with e1 _ _
              subst e1
              simp [World.frozen?, hg']
          clear x5c
          have RS5 := RT.out
          rw [← lT1.out] at RS5
          have RS6 := RI.setT (i := i) (v := (j : Int)) gt RS5 hNw (by rw [lT1.out]; exact hi2)
          rw [lT1.out] at RS6
          have RS : Hid (RI Tb G ks N w.heap.size w.heap.size w (.slice (some ⟨gg, 0, none⟩) (j + 1) cap) (.slice (some ⟨rb, 0, none⟩) r1 cr) (setRt T1 i (j : Int)) rest ((tr j).met ++ [g]) (tr j).ks (w5.setCell ⟨gg, i * 6 + 5, none⟩ (.int .i64 (j : Int)))) := RS6
          have HXS : Hid ((w5.setCell ⟨gg, i * 6 + 5, none⟩ (.int .i64 (j : Int))).heap[wr.heap.size]? = some (.cells #[.pointer (some ⟨g, 0, none⟩), .int .i64 (i : Int)] 108 (0, 0))) := (Below.heap_setCell _ _ _ _ (fun e => by
            have e' : wr.heap.size = gg := e
            have h1 := owns_typ RT.out.ot (b := gg) rfl
            rw [← e'] at h1
            exact absurd (h1.one ⟨_, _, HX5.out⟩) (by decide))).trans HX5.out
          clear RS5 RS6
          go_upto_region 19 with fail
          obtain ⟨w6, hw6⟩ : ∃ w6, w6 = w5.setCell ⟨gg, i * 6 + 5, none⟩ (.int .i64 (j : Int)) := ⟨_, rfl⟩
          rw [← hw6] at RS HXS ⊢
          clear hw6
          have x60 : w6.cell? ⟨wr.heap.size, 0, none⟩ = some (.pointer (some ⟨g, 0, none⟩)) := by simp only [World.cell?, HXS.out]; rfl
          obtain ⟨_, _, _, _, c4, _⟩ := (HGN.out _ RS.out.bl).1.cells
          cases hlf : n.lf
          · rw [hlf] at c4
            have HL : Hid (n.lf = false) := hlf
            clear hlf
            have HKJ : Hid (ks.length + (tr j).ks.length + 1 < most) := by
              show _ < _
              have h1 := HK.out (j + 1) (by omega)
              rw [ST.out.ks', List.length_append, List.length_append] at h1
              have h2 : (chK n).length = 1 := by unfold chK; rw [HL.out]; rfl
              omega
            have HCK : Hid (chK n = [1]) := by show _ = _; unfold chK; rw [HL.out]; rfl
            have HOC : Hid (∀ W, Below N w W → ∀ i, OkR W (n.ch.getD i none)) := fun W hb i => by
              cases e : n.ch.getD i none with
              | none => exact OkR.none _
              | some q => exact (HGR.out.below hb).okr (ST.out.chs i q HL.out e)
            go_wp2_with fail
            have RTd : Hid _ := RS.out.drew gt
            have HXd : Hid (w6.drew.heap[wr.heap.size]? = some (.cells #[.pointer (some ⟨g, 0, none⟩), .int .i64 (i : Int)] 108 (0, 0))) := HXS.out
            go_region_held3 (fun w' => w'.cell? ⟨wr.heap.size, 0, none⟩ = some (.pointer (some ⟨g, 0, none⟩)))
              (first | go_keep | exact x70 | exact x80)
              (first
                | (go_at_call 23; refine (Left_any gt (ks ++ (tr j).ks) (by have := HKJ.out; rw [List.length_append]; omega) g fb n _ RTd.out.g (HGN.out _ RTd.out.bl).1 ST.out.two ST.out.le2 (fun q => by have := HNt.out _ q; have := (HGN.out _ RTd.out.bl).2.2; omega) (fun _ w1 hp => HOC.out _ (RTd.out.bl.trans (hp.below (by have := RTd.out.hb; omega) HNt.out)) 0)).mono ?_; rintro e w7 ⟨rfl, hg7, hp7⟩; have RL : Hid (RI Tb G ks N w.heap.size w.heap.size w (.slice (some ⟨gg, 0, none⟩) (j + 1) cap) (.slice (some ⟨rb, 0, none⟩) r1 cr) (setRt T1 i (j : Int)) rest ((tr j).met ++ [g]) ((tr j).ks ++ chK n) w7) := RTd.out.pd hNw HNt.out (by rw [← List.append_assoc]; exact hg7) hp7; have x7 := (hp7.blk _ (Array.getElem?_eq_some_iff.1 HXd.out).1 (RTd.out.tb.not ⟨_, _, HXd.out⟩ (by decide)) (fun q => absurd (typ.one ⟨_, _, HXd.out⟩ q) (by decide))).trans HXd.out; have HX7 : Hid _ := x7; have x70 : w7.cell? ⟨wr.heap.size, 0, none⟩ = some (.pointer (some ⟨g, 0, none⟩)) := (by simp only [World.cell?, x7]; rfl); clear hg7 hp7 x7)
                | (go_at_call 24; refine (Right_any gt (ks ++ ((tr j).ks ++ chK n)) (by have := HKJ.out; rw [HCK.out, List.length_append, List.length_append]; simp; omega) g fb n _ RL.out.g (HGN.out _ RL.out.bl).1 ST.out.two ST.out.le2 (fun q => by have := HNt.out _ q; have := (HGN.out _ RL.out.bl).2.2; omega) (fun _ w1 hp => HOC.out _ (RL.out.bl.trans (hp.below (by have := RL.out.hb; omega) HNt.out)) 1)).mono ?_; rintro e w8 ⟨rfl, hg8, hp8⟩; have RR : Hid (RI Tb G ks N w.heap.size w.heap.size w (.slice (some ⟨gg, 0, none⟩) (j + 1) cap) (.slice (some ⟨rb, 0, none⟩) r1 cr) (setRt T1 i (j : Int)) rest ((tr j).met ++ [g]) ((tr j).ks ++ (chK n ++ chK n)) w8) := RL.out.pd hNw HNt.out (by simpa only [List.append_assoc] using hg8) hp8; have x8 := (hp8.blk _ (Array.getElem?_eq_some_iff.1 HX7.out).1 (RL.out.tb.not ⟨_, _, HX7.out⟩ (by decide)) (fun q => absurd (typ.one ⟨_, _, HX7.out⟩ q) (by decide))).trans HX7.out; have x80 : w8.cell? ⟨wr.heap.size, 0, none⟩ = some (.pointer (some ⟨g, 0, none⟩)) := (by simp only [World.cell?, x8]; rfl); clear hg8 hp8 x8))
            have RD : Hid (RI Tb G ks N w.heap.size w.heap.size w (.slice (some ⟨gg, 0, none⟩) (j + 1) cap) (.slice (some ⟨rb, 0, none⟩) r1 cr) (setRt T1 i (j : Int)) rest ((tr j).met ++ [g]) ((tr j).ks ++ (chK n ++ chK n)) w8) := RR.out
            have OA8 := RD.out.oa
            rw [HR1.out] at OA8
            have hB8 : w.heap.size ≤ w8.heap.size := RD.out.hb
            have hc0 : ∃ y0, ptrO (chO n 0) = .pointer y0 := ⟨_, rfl⟩
            have hc1 : ∃ y1, ptrO (chO n 1) = .pointer y1 := ⟨_, rfl⟩
            obtain ⟨y0, hy0'⟩ := hc0
            obtain ⟨y1, hy1'⟩ := hc1
            have HY0 : Hid (ptrO (chO n 0) = .pointer y0) := hy0'
            have HY1 : Hid (ptrO (chO n 1) = .pointer y1) := hy1'
            rw [hy0', hy1']
            clear hy0' hy1'
            go_wp2_with (first | (at_builtin; (refine wpList_append_lies _ (by rfl) _ _ _ (by rfl) w.heap.size 108 i0 _ 2 16 ahs_under hi0 hz0 hz1 hz2 rfl (by omega) _ r1 (ahC rest) (by rfl) (OA8.alloc _) ⟨w8.heap.size, 0, none⟩ 2 2 [.pointer y1, .int .i64 j, .pointer y0, .int .i64 (-1)] (by rfl) (by rfl) (World.news_of_block (cs := #[.pointer y1, .int .i64 j, .pointer y0, .int .i64 (-1)]) (t := 108) (fr := (0, 0)) (heap_alloc_at _ _ _ (by simp))) (by simp [Value.oneCell']) (by omega) (by unfold maxLen; omega) (by omega) (by simp; omega) (w8.heap.size + 1) (by simp) ?_); intro gh caph w9 hown9 hgrow9 hat9 hlt9; have RF : Hid (RI Tb G ks N w.heap.size w.heap.size w (.slice (some ⟨gg, 0, none⟩) (j + 1) cap) (.slice (some ⟨gh, 0, none⟩) (r1 + 2) caph) (setRt T1 i (j : Int)) (rest ++ [(chO n 1, (j : Int)), (chO n 0, -1)]) ((tr j).met ++ [g]) ((tr j).ks ++ (chK n ++ chK n)) w9) := RI.growA gt RD.out hNw (by rw [List.length_append, HR1.out, ahC_append]; simp only [ahC, HY0.out, HY1.out]; exact hown9) hgrow9; clear hown9 hgrow9 hat9 hlt9))
            refine ⟨⟨j + 1, by omega, ?_⟩, by simp [slLen]; omega⟩
            rw [ST.out.T', ST.out.row', ST.out.met', ST.out.ks', lT, HPN.out, HL.out]
            simp only [Bool.false_eq_true, if_false]
            first | (rw [if_neg (by omega), Int.toNat_natCast, ← HT1.out]; exact RF.out) | (rw [← HT1.out]; exact RF.out)
          · rw [hlf] at c4
            have HL : Hid (n.lf = true) := hlf
            have HCK : Hid (chK n ++ chK n = []) := by show _ = _; unfold chK; rw [hlf]; rfl
            clear hlf
            go_wp2_with fail
            refine ⟨⟨j + 1, by omega, ?_⟩, by simp [slLen]; omega⟩
            rw [ST.out.T', ST.out.row', ST.out.met', ST.out.ks', lT, HPN.out, HL.out, HCK.out, List.append_nil]
            simp only [if_true]
            first | (rw [if_neg (by omega), Int.toNat_natCast, ← HT1.out]; exact RS.out) | (rw [← HT1.out]; exact RS.out)
        -- STEP END
      · -- a node that was met, or nil: the end
        subst hjm
        have hv : fnb = true ∨ fnb = false ∧ px = none := by
          rcases hbad with rfl | ⟨q, rfl, hq⟩
          · have h1 := HPX.out
            simp only [ptrO, Option.map_none, Value.pointer.injEq] at h1
            have h2 := HF.out
            rw [fnd_none] at h2
            exact Or.inr ⟨h2.symm, h1.symm⟩
          · have h2 := HF.out
            rw [fnd_met, decide_eq_true hq] at h2
            exact Or.inl h2.symm
        have HE : Hid (RI Tb G ks N w.heap.size w.heap.size w (.slice at_ (tr j).T.length ct) (.slice (some ⟨rb, 0, none⟩) rest.length cr) (tr j).T rest (tr j).met (tr j).ks ((wr.alloc (.cells #[.pointer px, .int .i64 ab] 108)).alloc (.cells #[] 50))) := RA.out.below gt hNw (below_alloc _ _)
        clear hbad
        rcases hv with rfl | ⟨rfl, rfl⟩
        all_goals
          go_wp2_with fail
          go_ret2
          exact ⟨fun q => absurd q HROW.out, fun _ => rfl, HE.out.g, HE.out.tb, HE.out.bl⟩
end Go.Proofs.Ythdfpddijocfkaa



namespace Go.Proofs.Ythdfpddijocfkaa

open Go.RowKit

/-- The nodes of a table lie below N. -/
structure NdsAt (w : World) (N : Nat) (T : NL) (G F : Nat → Nat) : Prop where
  rc : ∀ i, i < T.length → RcAt w (G i) (F i) (gnT T G i) ∧ G i < N ∧ F i < N
  inj : ∀ i j, i < T.length → j < T.length → G i = G j → i = j
theorem NdsAt.below {w w' : World} {N : Nat} {T : NL} {G F : Nat → Nat} (h : NdsAt w N T G F) (hb : Below N w w') : NdsAt w' N T G F :=
  ⟨fun i hi => by
    obtain ⟨h1, h2, h3⟩ := h.rc i hi
    exact ⟨⟨by obtain ⟨a, b, e⟩ := h1.rc; exact ⟨a, b, (hb.block _ h2).trans e⟩, (hb.block _ h3).trans h1.fl⟩, h2, h3⟩, h.inj⟩
theorem MdAt.nds {T : NL} {nb : Nat} {G F : Nat → Nat} {w : World} (h : MdAt T nb 0 G F w) : NdsAt w w.heap.size T G F := by
  refine ⟨fun i hi => ⟨(h.rcd i (Nat.zero_le _) hi).1, (h.rcd i (Nat.zero_le _) hi).1.lt, (h.rcd i (Nat.zero_le _) hi).1.ltf⟩, fun i j hi hj e => ?_⟩
  rcases Nat.lt_trichotomy i j with q | q | q
  · have := h.dec i j (Nat.zero_le _) q hj; omega
  · exact q
  · have := h.dec j i (Nat.zero_le _) q hi; omega
theorem NdsAt.gr {w : World} {N : Nat} {T : NL} {G F : Nat → Nat} (h : NdsAt w N T G F) : GrAt w N (grT T G F) := fun g fb n e => by
  obtain ⟨i, h1, rfl, h3⟩ := grT_some e
  injection h3 with h4 h5
  subst h4
  subst h5
  exact h.rc i h1
theorem ReadT {gv : Value} {Tb : Nat → Prop} {most : Nat} {G0 : List Int → World → Prop} (gt : GateS gv Tb most G0) (ks : List Int) (N : Nat) (hNt : ∀ t, Tb t → N ≤ t) (b : BT) (hs : b.size ≤ 100000) (ok : LaidOk (b.lay 0)) (G F : Nat → Nat) (w : World) (hNw : N ≤ w.heap.size) (h : NdsAt w N (b.lay 0) G F) (hk : ks.length + (trK (b.lay 0) b.size).length < most) (hG : G0 ks w) (hT : Tbs Tb w) :
    Calls Try.prog 28 #[gv, .pointer (some ⟨G 0, 0, none⟩)] w fun e w' => ∃ v, e = .returned (.tuple #[v, .int .i64 0]) ∧ w'.ownsRow w.heap.size 81 6 v (b.lay 0).length (ndCells (b.lay 0)) ∧ G0 (ks ++ trK (b.lay 0) b.size) w' ∧ Tbs Tb w' ∧ Below N w w' := by
  have hrun := lay_run (F := F) hs ok h.inj
  have h0 : trS b G 0 = ⟨[], [], [(some (G 0), -1)], []⟩ := by
    have : pend b 0 (-1) 0 = [(0, -1)] := by cases b <;> simp [pend]
    simp [trS, trT, trK, this]
  refine (Read_any gt ks N hNt (grT (b.lay 0) G F) (trS b G) b.size hs hrun (G 0) h0 w hNw h.gr (fun j hj => ?_) hG hT).mono ?_
  · have := trK_mono (b.lay 0) hj
    show ks.length + (trK (b.lay 0) j).length < most
    omega
  · rintro e w' ⟨h1, _, h3, h4, h5⟩
    have hrow : (trS b G b.size).row = [] := by show (pend b 0 (-1) b.size).map _ = []; rw [pend_end]; rfl
    obtain ⟨v, e1, e2⟩ := h1 hrow
    have hT : (trS b G b.size).T = b.lay 0 := by
      show trT (b.lay 0) b.size = _
      have := trT_all ok
      rwa [BT.lay_length] at this
    rw [hT] at e2
    exact ⟨v, e1, e2, h3, h4, h5⟩

/-! ### The way of a search. -/
theorem way_next {T : NL} {key : Int} {p : Nat} {P : List Nat} (h : Way T key p P) : ∀ j x, P[j]? = some x → x < T.length ∧ (((ndAt T x).l = -1 ∧ P[j + 1]? = none) ∨ ∃ l r : Nat, (ndAt T x).l = (l : Int) ∧ (ndAt T x).r = (r : Int) ∧ P[j + 1]? = some (if goesL (ndAt T x) key then l else r)) := by
  induction h with
  | leaf h1 h2 h3 =>
    intro j x hj
    cases j with
    | zero => simp at hj; subst hj; exact ⟨h1, Or.inl ⟨h2, rfl⟩⟩
    | succ j => simp at hj
  | @inner p l r q P h1 h2 h3 h4 hw ih =>
    intro j x hj
    cases j with
    | zero =>
      simp at hj
      subst hj
      obtain ⟨P', rfl⟩ := hw.head
      refine ⟨h1, Or.inr ⟨l, r, h2, h3, ?_⟩⟩
      rw [← h4]
      rfl
    | succ j =>
      rw [List.getElem?_cons_succ] at hj
      have := ih j x hj
      rw [List.getElem?_cons_succ]
      exact this
theorem way_rises {T : NL} (ok : LaidOk T) {key : Int} {p : Nat} {P : List Nat} (h : Way T key p P) : P.Pairwise (· < ·) ∧ ∀ x ∈ P, p ≤ x := by
  induction h with
  | leaf h1 h2 h3 => exact ⟨by simp, fun x hx => by simp at hx; omega⟩
  | @inner p l r q P h1 h2 h3 h4 hw ih =>
    have hq : p < q := by
      rcases (ok.each p h1).2 with ⟨e, _⟩ | ⟨r', e1, e2, e3, _⟩
      · rw [h2] at e; omega
      · rw [h2] at e1; rw [h3] at e2
        rw [h4]
        split <;> omega
    refine ⟨List.pairwise_cons.2 ⟨fun x hx => by have := ih.2 x hx; omega, ih.1⟩, fun x hx => ?_⟩
    rcases List.mem_cons.1 hx with rfl | hx
    · exact Nat.le_refl _
    · have := ih.2 x hx; omega
def wst (T : NL) (G F : Nat → Nat) (P : List Nat) : List Stp := P.map fun p => ⟨G p, F p, gnT T G p⟩
theorem belowN_gnT (T : NL) (G : Nat → Nat) (key : Int) (p : Nat) : belowN key (gnT T G p) = decide (goesL (ndAt T p) key) := by
  unfold belowN gnT goesL
  split <;> exact (Bool.decide_or _ _).symm
theorem wayChain_at {w : World} {N : Nat} {T : NL} {G F : Nat → Nat} (ok : LaidOk T) (h : NdsAt w N T G F) {key : Int} {P : List Nat} (hP : Way T key 0 P) : ChainAt w key N (wst T G F P) := by
  have hn := way_next hP
  refine ⟨fun s hs => ?_, fun j s hs => ?_, ?_⟩
  · obtain ⟨p, hp, rfl⟩ := List.mem_map.1 hs
    obtain ⟨j, hj, e⟩ := List.getElem_of_mem hp
    have hlt := (hn j p (by rw [← e]; exact List.getElem?_eq_getElem hj)).1
    obtain ⟨h1, h2, h3⟩ := h.rc p hlt
    exact ⟨h1, h2, h3, gnT_two _ _ _⟩
  · unfold wst at hs ⊢
    rw [List.getElem?_map] at hs ⊢
    cases e : P[j]? with
    | none => rw [e] at hs; cases hs
    | some p =>
      rw [e] at hs
      simp only [Option.map_some, Option.some.injEq] at hs
      subst hs
      obtain ⟨hlt, hc⟩ := hn j p e
      unfold nxt
      rw [belowN_gnT]
      rcases hc with ⟨e1, e2⟩ | ⟨l, r, e1, e2, e3⟩
      · rw [e2]
        unfold chO
        simp [gnT_lf, e1]
      · rw [e3]
        have hch : ∀ i, chO (gnT T G p) i = [some (G l), some (G r)].getD i none := by
          intro i
          unfold chO gnT
          rw [if_neg (show ¬ (ndAt T p).l = -1 by rw [e1]; omega), e1, e2]
          rfl
        rw [hch, hch]
        by_cases hg : goesL (ndAt T p) key
        · simp [hg]
        · simp [hg]
  · unfold wst
    rw [List.map_map]
    have hp := (way_rises ok hP).1
    refine List.Pairwise.map _ (fun a b hab => ?_) ((List.Pairwise.imp_of_mem (S := fun a b => a < b ∧ a < T.length ∧ b < T.length) (fun {a b} ha hb hab => ?_) hp))
    · intro e
      have := h.inj a b hab.2.1 hab.2.2 e
      omega
    · obtain ⟨i, hi, e1⟩ := List.getElem_of_mem ha
      obtain ⟨j, hj, e2⟩ := List.getElem_of_mem hb
      exact ⟨hab, (hn i a (by rw [← e1]; exact List.getElem?_eq_getElem hi)).1, (hn j b (by rw [← e2]; exact List.getElem?_eq_getElem hj)).1⟩
theorem way_kinds {T : NL} {G F : Nat → Nat} {key : Int} {p : Nat} {P : List Nat} (h : Way T key p P) : kdL (wst T G F P) = List.replicate (P.length - 1) 1 := by
  induction h with
  | leaf h1 h2 h3 => simp [wst, kdL, chK, gnT_lf, h2]
  | @inner p l r q P h1 h2 h3 h4 hw ih =>
    obtain ⟨P', rfl⟩ := hw.head
    have hlf : (gnT T G p).lf = false := by rw [gnT_lf, h2]; exact decide_eq_false (by omega)
    have e : wst T G F (p :: q :: P') = ⟨G p, F p, gnT T G p⟩ :: wst T G F (q :: P') := rfl
    rw [e]
    simp only [kdL, ih]
    unfold chK
    rw [hlf]
    simp [List.replicate_succ]
theorem way_last {T : NL} {G F : Nat → Nat} {key : Int} {P : List Nat} (h : Way T key 0 P) : ∃ x, P.getLast? = some x ∧ x < T.length ∧ (ndAt T x).l = -1 ∧ (wst T G F P).getLast? = some ⟨G x, F x, gnT T G x⟩ ∧ (wst T G F P)[0]?.map (·.g) = some (G 0) := by
  have hn := way_next h
  obtain ⟨P', rfl⟩ := h.head
  obtain ⟨x, hx⟩ : ∃ x, (0 :: P').getLast? = some x := ⟨(0 :: P').getLast (by simp), List.getLast?_eq_some_getLast (by simp)⟩
  have hx2 := hx
  rw [List.getLast?_eq_getElem?] at hx2
  obtain ⟨h1, h2⟩ := hn _ x hx2
  refine ⟨x, hx, h1, ?_, ?_, rfl⟩
  · rcases h2 with ⟨e, _⟩ | ⟨l, r, _, _, e⟩
    · exact e
    · rw [List.getElem?_eq_none (by simp)] at e; cases e
  · unfold wst
    rw [List.getLast?_map, hx]
    rfl
end Go.Proofs.Ythdfpddijocfkaa



namespace Go.Proofs.Ythdfpddijocfkaa

open Go.RowKit

attribute [local go_sem ↓] Go.wp_at_zero Go.wp_at_succ

theorem num_drew {X : Nat → Prop} {b i : Nat} {v : Int} {w w' : World} (h : NumStep X b i v w.drew w') : NumStep X b i v w w' := ⟨⟨h.kp.os, h.kp.tape, h.kp.output, h.kp.size, h.kp.block⟩, h.at_⟩

end Go.Proofs.Ythdfpddijocfkaa


namespace Go.Proofs.Ythdfpddijocfkaa

open Go.RowKit

/-- n acts lie in memory. -/
structure CActs (w : World) (base : Option Addr) (ab ao n : Nat) (dk di da db : Nat → Int) : Prop where
  base : n ≠ 0 → base = some ⟨ab, ao, none⟩
  lt : n ≠ 0 → ab < w.heap.size
  cells : ∀ i, i < n → w.cell? ⟨ab, ao + i * 4, none⟩ = some (.int .i64 (dk i)) ∧ w.cell? ⟨ab, ao + i * 4 + 1, none⟩ = some (.int .i64 (di i)) ∧ w.cell? ⟨ab, ao + i * 4 + 2, none⟩ = some (.int .i64 (da i)) ∧ w.cell? ⟨ab, ao + i * 4 + 3, none⟩ = some (.int .i64 (db i))
  len : n ≤ maxLen

theorem CActs.kp {X : Nat → Prop} {w w' : World} {base : Option Addr} {ab ao n : Nat} {dk di da db : Nat → Int} (h : CActs w base ab ao n dk di da db) (hk : Kp X w w') (hX : n ≠ 0 → ¬ X ab) : CActs w' base ab ao n dk di da db := by
  refine ⟨h.base, fun hn => Nat.lt_of_lt_of_le (h.lt hn) hk.size, fun i hi => ?_, h.len⟩
  obtain ⟨a, b, c, d⟩ := h.cells i hi
  have hl := h.lt (by omega)
  have hx := hX (by omega)
  exact ⟨(hk.cell (p := ⟨ab, ao + i * 4, none⟩) hl hx).trans a, (hk.cell (p := ⟨ab, ao + i * 4 + 1, none⟩) hl hx).trans b, (hk.cell (p := ⟨ab, ao + i * 4 + 2, none⟩) hl hx).trans c, (hk.cell (p := ⟨ab, ao + i * 4 + 3, none⟩) hl hx).trans d⟩

/-- The first of f 0, .. f (n - 1) that is not 0, or 0. -/
def frst (f : Nat → Int) : Nat → Int
  | 0 => 0
  | k + 1 => if frst f k = 0 then f k else frst f k
theorem frst_stays {f : Nat → Int} {j : Nat} (h : frst f j ≠ 0) : ∀ m, frst f (j + m) = frst f j
  | 0 => rfl
  | m + 1 => by show (if frst f (j + m) = 0 then f (j + m) else frst f (j + m)) = _; rw [frst_stays h m, if_neg h]
theorem frst_at {f : Nat → Int} {j n : Nat} (h0 : frst f j = 0) (h : f j ≠ 0) (hn : j < n) : frst f n = f j := by
  have e : frst f (j + 1) = f j := by simp [frst, h0]
  have := frst_stays (f := f) (j := j + 1) (by rw [e]; exact h) (n - (j + 1))
  rw [show j + 1 + (n - (j + 1)) = n by omega] at this
  rw [this, e]

def plErr (i m : Int) : Int := if i < 0 ∨ m ≤ i then 1 else 0
def nmErr (d i m : Int) : Int := if d < 1 ∨ 7 < d then 5 else plErr i m

end Go.Proofs.Ythdfpddijocfkaa

namespace Go.Proofs.Ythdfpddijocfkaa

open Go.RowKit

theorem newTape_any (w : World) : Calls Try.prog 22 #[] w fun e w' => e = .returned (.pointer (some ⟨w.heap.size, 0, none⟩)) ∧ w' = w.alloc (.cells #[.slice none 0 0] 102) := by
  go_enter Try.func22, Try.ntmps22
  go_wp2
  go_ret
  exact ⟨rfl, rfl⟩

theorem ints_nil (w : World) : (binOp .eql 23 (.slice none 0 0) (.slice none 0 0)).run Try.prog w = .ok (.bool true) w := by kernel_rfl
theorem ints_not (a : Addr) (n c : Nat) (w : World) : (binOp .eql 23 (.slice (some a) n c) (.slice none 0 0)).run Try.prog w = .ok (.bool false) w := by kernel_rfl

theorem clone_nil (w : World) : Calls Try.prog 47 #[.slice none 0 0] w fun e w' => e = .returned (.slice none 0 0) ∧ w = w' := by
  have h := ints_nil
  go_enter Try.func47, Try.ntmps47
  go_wp2
  go_ret
  exact ⟨rfl, rfl⟩

set_option maxRecDepth 100000 in
set_option maxHeartbeats 1000000 in
theorem clone_any (B : Nat) (v : Value) (ks : List Int) (w : World) (ho : w.ownsRow B 3 1 v ks.length (ks.map (Value.int .i64))) (hk : ks.length ≤ 17592186044415) (hp : 0 < ks.length) :
    Calls Try.prog 47 #[v] w fun e w' => ∃ v', e = .returned v' ∧ w'.ownsRow w.heap.size 3 1 v' ks.length (ks.map (Value.int .i64)) ∧ Below w.heap.size w w' := by
  obtain ⟨i0, hi0, hz0, hz1, hz2⟩ := info_parts int_info
  obtain ⟨hl, h⟩ := ho
  rcases h with ⟨rfl, h0⟩ | ⟨g, cap, cur, rfl, hg, hh, hc1, hc2, hc3, hc4⟩
  · omega
  · have hgl : g < w.heap.size := (Array.getElem?_eq_some_iff.1 hh).1
    have hnews : ∀ j u, (ks.map (Value.int .i64))[j]? = some u → w.cell? ((⟨g, 0, none⟩ : Addr).add j) = some u := by
      intro j u hu
      refine World.news_of_block hh j u ?_
      rw [← hc4] at hu
      rw [List.getElem?_take] at hu
      split at hu
      · exact hu
      · cases hu
    have h := ints_not
    have hnews' : ∀ j u, (ks.map (Value.int .i64))[j]? = some u → (w.alloc (.cells #[] 3)).cell? ((⟨g, 0, none⟩ : Addr).add j) = some u := fun j u hu => (((Below.refl w.heap.size w).alloc (Nat.le_refl _) (.cells #[] 3)).cell (p := (⟨g, 0, none⟩ : Addr).add j) (by unfold Addr.add; split <;> exact hgl)).trans (hnews j u hu)
    have HN : Hid _ := hnews'
    have ho : (w.alloc (.cells #[] 3)).ownsRow w.heap.size 3 1 (.slice (some ⟨w.heap.size, 0, none⟩) 0 0) 0 [] := ⟨rfl, Or.inr ⟨w.heap.size, 0, #[], rfl, Nat.le_refl _, heap_alloc_atM _ _ _ rfl, Nat.le_refl _, by unfold maxLen; omega, rfl, rfl⟩⟩
    have HO : Hid (World.ownsRow _ _ _ _ _ _ _) := ho
    clear hnews hc4 hnews' ho
    go_enter Try.func47, Try.ntmps47
    go_wp2_with (first | (at_builtin; (refine wpList_append_lies _ (by rfl) _ _ _ (by rfl) w.heap.size 3 i0 _ 1 8 ints_under hi0 hz0 hz1 hz2 rfl (by omega) _ 0 [] (by rfl) HO.out ⟨g, 0, none⟩ ks.length cap (ks.map (Value.int .i64)) (by rfl) (by simp) HN.out (by simp [Value.oneCell']) hp (by unfold maxLen; omega) (by omega) (by simp) (w.heap.size + 1) (by simp) ?_); intro gg cap' w1 hown1 hgrow hat hlt1; have hB1 : Below w.heap.size w w1 := Below.grown ((Below.refl _ w).alloc (Nat.le_refl _) _) hgrow (by simp) (by intro b hb; simp [Value.ownBlock] at hb; omega)))
    go_ret
    exact ⟨_, rfl, by simpa using hown1, hB1⟩

theorem kinds_nil (tb : Nat) (w : World) (h : w.cell? ⟨tb, 0, none⟩ = some (.slice none 0 0)) : Calls Try.prog 25 #[.pointer (some ⟨tb, 0, none⟩)] w fun e w' => e = .returned (.slice none 0 0) ∧ w = w' := by
  go_enter Try.func25, Try.ntmps25
  go_wp2_with (first | (go_at_call 47; refine (clone_nil _).mono ?_; rintro e w' ⟨rfl, rfl⟩))
  go_ret
  exact ⟨rfl, rfl⟩

set_option maxRecDepth 100000 in
set_option maxHeartbeats 1000000 in
theorem kinds_any (tb B : Nat) (ks : List Int) (w : World) (h : TapeAt tb B ks w) (hk : ks.length ≤ 17592186044415) (hp : 0 < ks.length) : Calls Try.prog 25 #[.pointer (some ⟨tb, 0, none⟩)] w fun e w' => ∃ v', e = .returned v' ∧ w'.ownsRow w.heap.size 3 1 v' ks.length (ks.map (Value.int .i64)) ∧ Below w.heap.size w w' := by
  obtain ⟨⟨kv, hc, ho⟩, hz, hlt, hsz⟩ := h
  have HC : Hid _ := clone_any B kv ks w ho hk hp
  clear ho
  go_enter Try.func25, Try.ntmps25
  go_wp2_with (first | (go_at_call 47; refine Calls.mono HC.out ?_; rintro e w1 ⟨v1, rfl, ho1, hb1⟩))
  go_ret
  exact ⟨_, rfl, ho1, hb1⟩
end Go.Proofs.Ythdfpddijocfkaa


namespace Go.Proofs.Ythdfpddijocfkaa

open Go.RowKit

attribute [local go_sem ↓] Go.wp_at_zero Go.wp_at_succ

def TNil : Nat → Prop := fun _ => False
theorem Tbs.nil (w : World) : Tbs TNil w := fun _ h => h.elim
def TOne (tb : Nat) : Nat → Prop := fun t => t = tb
/-- A tape whose row is nil as long as nothing is noted. -/
def NilTape (tb B : Nat) (ks : List Int) (w : World) : Prop := TapeAt tb B ks w ∧ (ks = [] → w.cell? ⟨tb, 0, none⟩ = some (.slice none 0 0))
theorem gateS_nilT (tb B most : Nat) (hm : most ≤ 100000) : GateS (.iface 64 (.pointer (some ⟨tb, 0, none⟩))) (TOne tb) most (NilTape tb B) := by
  have g := gateS_tape tb B most hm
  refine ⟨fun ks kd w hG hk => (g.pass ks kd w hG.1 hk).mono (fun e w' ⟨h1, h2, h3⟩ => ⟨h1, ⟨h2, fun q => ?_⟩, h3⟩), fun ks w w' hG k => ⟨g.keep ks w w' hG.1 k, fun q => ?_⟩⟩
  · simp at q
  · obtain ⟨_, _, hlt, hsz⟩ := hG.1
    have hb := k.here tb rfl (by omega)
    exact (World.cell?_of_block (w := w) (a := ⟨tb, 0, none⟩) hb).trans (hG.2 q)
theorem tape_new (w : World) : NilTape w.heap.size (w.heap.size + 1) [] (w.alloc (.cells #[.slice none 0 0] 102)) ∧ Tbs (TOne w.heap.size) (w.alloc (.cells #[.slice none 0 0] 102)) := by
  have h : (w.alloc (.cells #[.slice none 0 0] 102)).heap[w.heap.size]? = some (.cells #[.slice none 0 0] 102 (0, 0)) := heap_alloc_at _ _ _ rfl
  have c : (w.alloc (.cells #[.slice none 0 0] 102)).cell? ⟨w.heap.size, 0, none⟩ = some (.slice none 0 0) := by
    unfold World.cell?
    rw [h]
    rfl
  have z : (w.alloc (.cells #[.slice none 0 0] 102)).frozen? ⟨w.heap.size, 0, none⟩ = false := by
    unfold World.frozen?
    rw [h]
    simp
  refine ⟨⟨⟨⟨.slice none 0 0, c, World.ownsRow_nil _ _ _ _⟩, z, by simp, by simp⟩, fun _ => c⟩, fun t ht => ?_⟩
  have e : t = w.heap.size := ht
  subst e
  exact ⟨_, _, h⟩
theorem kinds_all (tb B : Nat) (ks : List Int) (w : World) (h : NilTape tb B ks w) (hk : ks.length ≤ 17592186044415) : Calls Try.prog 25 #[.pointer (some ⟨tb, 0, none⟩)] w fun e w' => ∃ v', e = .returned v' ∧ w'.ownsRow w.heap.size 3 1 v' ks.length (ks.map (Value.int .i64)) ∧ Below w.heap.size w w' := by
  by_cases hp : 0 < ks.length
  · exact kinds_any tb B ks w h.1 hk hp
  · obtain rfl : ks = [] := List.length_eq_zero_iff.1 (by omega)
    refine (kinds_nil tb w (h.2 rfl)).mono ?_
    rintro e w' ⟨rfl, rfl⟩
    exact ⟨_, rfl, World.ownsRow_nil _ _ _ _, Below.refl _ _⟩

set_option maxRecDepth 100000 in
set_option maxHeartbeats 1000000 in
theorem Make_any (base : Option Addr) (b o c : Nat) (t : NL) (w : World) (h : NodesAt w base b o t) :
    Calls Try.prog 34 #[.slice base t.length c] w fun e w' => Below w.heap.size w w' ∧ (formE t ≠ 0 → e = .returned (.tuple #[.pointer none, .int .i64 (formE t)])) ∧ (formE t = 0 → ∃ G F, e = .returned (.tuple #[.pointer (some ⟨G 0, 0, none⟩), .int .i64 0]) ∧ w.heap.size ≤ G 0 ∧ NdsAt w' w'.heap.size (normL t) G F ∧ ∀ i, i < (normL t).length → w.heap.size ≤ G i ∧ w.heap.size ≤ F i) := by
  have HM : Hid _ := made_any base b o c t w h
  by_cases he : formE t = 0
  · have HE : Hid (formE t = 0) := he
    have OK : Hid (LaidOk (normL t)) := norm_ok he
    clear h he
    go_enter Try.func34, Try.ntmps34
    go_wp2_with fail
    refine Calls.mono HM.out ?_
    rintro e w1 ⟨hb, _, h2⟩
    obtain ⟨nb, G, F, rfl, hnb, hmd⟩ := h2 HE.out
    have HB : Hid (Below w.heap.size w w1) := hb
    have MD : Hid _ := hmd
    have lp := OK.out.pos
    have c0 := (hmd.cell (i := 0) lp).2.2 (Nat.le_refl _)
    have l0 : (0 : Int) < ((normL t).length : Int) := by omega
    clear hb hmd h2
    go_wp2_with fail
    go_ret2
    refine ⟨HB.out, fun q => absurd HE.out q, fun _ => ⟨G, F, rfl, ?_, MD.out.nds, fun i hi => ?_⟩⟩
    · have := (MD.out.rcd 0 (Nat.le_refl _) lp).2.1; omega
    · have := (MD.out.rcd i (Nat.zero_le _) hi).2; omega
  · have HE : Hid (formE t = 0 → False) := he
    have q : (formE t != 0) = true := by simp [he]
    clear h he
    go_enter Try.func34, Try.ntmps34
    go_wp2_with fail
    refine Calls.mono HM.out ?_
    rintro e w1 ⟨hb, h1, _⟩
    obtain rfl := h1 HE.out
    have HB : Hid (Below w.heap.size w w1) := hb
    clear hb h1
    go_wp2_with fail
    go_ret2
    exact ⟨HB.out, fun _ => rfl, fun q => absurd q HE.out⟩
/-- How many numbers Read notes of a table's tree. -/
noncomputable def rdK (t : NL) : List Int := trK (normL t) (normL t).length
theorem trK_ones (T : NL) : ∀ j, trK T j = List.replicate (trK T j).length 1
  | 0 => rfl
  | j + 1 => by
    have ih := trK_ones T j
    simp only [trK]
    split
    · simpa using ih
    · generalize trK T j = L at ih ⊢
      have e2 : ([1, 1] : List Int) = List.replicate 2 1 := rfl
      rw [List.length_append, show ([1, 1] : List Int).length = 2 from rfl, ← List.replicate_append_replicate, ← ih, e2]

set_option maxRecDepth 100000 in
set_option maxHeartbeats 1000000 in
theorem Round_any (base : Option Addr) (b o c : Nat) (t : NL) (w : World) (h : NodesAt w base b o t) (hk : formE t = 0 → (rdK t).length < 100000) :
    Calls Try.prog 8 #[.slice base t.length c] w fun e w' => ∃ v u, e = .returned (.tuple #[v, u, .int .i64 (formE t)]) ∧ w'.ownsRow w.heap.size 81 6 v (normL t).length (ndCells (normL t)) ∧ w'.ownsRow w.heap.size 3 1 u (if formE t = 0 then rdK t else []).length ((if formE t = 0 then rdK t else []).map (Value.int .i64)) ∧ Below w.heap.size w w' := by
  have HM : Hid _ := Make_any base b o c t w h
  by_cases he : formE t = 0
  · have HE : Hid (formE t = 0) := he
    have HK : Hid ((rdK t).length < 100000) := hk he
    obtain ⟨bt, hbt, hbok, hbs, _⟩ := norm_lay he
    have HBT : Hid (normL t = bt.lay 0) := hbt
    rw [if_pos he]
    have q : (formE t != 0) = false := by simp [he]
    clear h he hk hbt
    go_enter Try.func8, Try.ntmps8
    go_wp2_with fail
    refine Calls.mono HM.out ?_
    rintro e w1 ⟨hb, _, h2⟩
    obtain ⟨G, F, rfl, hg0, hnd, hge⟩ := h2 HE.out
    have HB : Hid (Below w.heap.size w w1) := hb
    have ND : Hid _ := hnd
    clear hb hnd h2 hge
    go_wp2_with fail
    refine (newTape_any _).mono ?_
    rintro e w2 ⟨rfl, hw2⟩
    obtain ⟨ht1, ht2⟩ := tape_new w1
    rw [← hw2] at ht1 ht2
    have b12 : Below w1.heap.size w1 w2 := by rw [hw2]; exact below_alloc _ _
    have HT1 : Hid (NilTape w1.heap.size (w1.heap.size + 1) [] w2) := ht1
    have HT2 : Hid (Tbs (TOne w1.heap.size) w2) := ht2
    have HB2 : Hid (Below w1.heap.size w1 w2) := b12
    clear ht1 ht2 b12 hw2
    go_wp2_with fail
    have ND2 := ND.out.below HB2.out
    rw [HBT.out] at ND2
    have hkk : ([] : List Int).length + (trK (bt.lay 0) bt.size).length < 100000 := by
      have := HK.out
      unfold rdK at this
      rw [HBT.out, BT.lay_length] at this
      simpa using this
    refine (ReadT (gateS_nilT w1.heap.size (w1.heap.size + 1) 100000 (Nat.le_refl _)) [] w1.heap.size (fun t ht => by have e : t = w1.heap.size := ht; omega) bt hbs (lay_ok hbok hbs) G F w2 HB2.out.size ND2 hkk HT1.out HT2.out).mono ?_
    rintro e w3 ⟨v3, rfl, ho3, hg3, ht3, hb3⟩
    have HO3 : Hid (w3.ownsRow w2.heap.size 81 6 v3 (bt.lay 0).length (ndCells (bt.lay 0))) := ho3
    have HG3 : Hid (NilTape w1.heap.size (w1.heap.size + 1) (trK (bt.lay 0) bt.size) w3) := by rw [List.nil_append] at hg3; exact hg3
    have HB3 : Hid (Below w1.heap.size w1 w3) := HB2.out.trans hb3
    have z3 : w2.heap.size ≤ w3.heap.size := hb3.size
    have z2 : w1.heap.size ≤ w2.heap.size := HB2.out.size
    clear ho3 hg3 ht3 hb3 hkk ND2
    go_wp2_with fail
    refine (kinds_all _ _ _ _ HG3.out (by have := HK.out; unfold rdK at this; rw [HBT.out, BT.lay_length] at this; omega)).mono ?_
    rintro e w4 ⟨v4, rfl, ho4, hb4⟩
    have HO4 : Hid (w4.ownsRow w3.heap.size 3 1 v4 (trK (bt.lay 0) bt.size).length ((trK (bt.lay 0) bt.size).map (Value.int .i64))) := ho4
    have HB4 : Hid (Below w3.heap.size w3 w4) := hb4
    clear ho4 hb4
    go_wp2_with fail
    have e1 : rdK t = trK (bt.lay 0) bt.size := by unfold rdK; rw [HBT.out, BT.lay_length]
    go_ret3
    rw [e1, HBT.out, HE.out]
    exact ⟨_, _, rfl, owns_down (owns_below HO3.out HB4.out) (by have := HB.out.size; omega), owns_down HO4.out (by have := HB.out.size; omega), HB.out.trans ((HB3.out.trans (HB4.out.mono (by omega))).mono HB.out.size)⟩
  · have HE : Hid (formE t = 0 → False) := he
    have q : (formE t != 0) = true := by simp [he]
    rw [if_neg he]
    clear h he hk
    go_enter Try.func8, Try.ntmps8
    go_wp2_with fail
    refine Calls.mono HM.out ?_
    rintro e w1 ⟨hb, h1, _⟩
    obtain rfl := h1 HE.out
    have HB : Hid (Below w.heap.size w w1) := hb
    clear hb h1
    go_wp2_with fail
    go_ret3
    exact ⟨_, _, rfl, by rw [normL_bad (fun q => HE.out q)]; exact World.ownsRow_nil _ _ _ _, World.ownsRow_nil _ _ _ _, HB.out⟩
end Go.Proofs.Ythdfpddijocfkaa

namespace Go.Proofs.Ythdfpddijocfkaa

open Go.RowKit

attribute [local go_sem ↓] Go.wp_at_zero Go.wp_at_succ

theorem norm_form {t : NL} (he : formE t = 0) : formE (normL t) = 0 := by
  obtain ⟨b, h1, h2, h3, _⟩ := norm_lay he
  rw [h1]
  exact lay_formE h2 h3
theorem wayN {t : NL} (he : formE t = 0) (key : Int) : Way t key 0 (wayL t key) ∧ 0 < (wayL t key).length ∧ (wayL t key).length ≤ 100000 := by
  obtain ⟨hbig, hf⟩ := formE_ok he
  obtain ⟨hT, -, hlen⟩ := theL_form hf
  obtain ⟨P, hP, hl⟩ := way_of key hT
  rw [wayL_of he hP]
  refine ⟨hP, ?_, by omega⟩
  obtain ⟨P', hP'⟩ := hP.head
  rw [hP']
  simp
theorem placemap_under : Try.prog.underlying 97 = some (.map 41 3) := by kernel_rfl
theorem makeH (n : Int) (w : World) : (Instr.makeMap 97 (some (.int .i64 n))).run Try.prog w = .ok (.map (some w.heap.size)) (w.alloc (.map #[] 0)) := by
  unfold Instr.makeMap
  simp [run_underlying (P := Try.prog) placemap_under, Sem.run_bind, Result.andThen, asInt]
  first | rfl | done
theorem int_zero (w : World) : (zeroValue 3).run Try.prog w = .ok (.int .i64 0) w := by kernel_rfl
def pls (G : Nat → Nat) (k : Nat) : List (Nat × Value) := (List.range k).map fun i => (G i, .int .i64 (i : Int))
theorem pls_succ (G : Nat → Nat) (k : Nat) : pls G (k + 1) = pls G k ++ [(G k, .int .i64 (k : Int))] := by simp [pls, List.range_succ]
theorem fnd_off {q : Option Nat} : ∀ {l : List (Nat × Value)}, (∀ x ∈ l, q ≠ some x.1) → fnd q l = none
  | [], _ => rfl
  | x :: t, h => by
    simp only [fnd]
    rw [if_neg (h x (List.mem_cons_self))]
    exact fnd_off fun y hy => h y (List.mem_cons_of_mem _ hy)
theorem fnd_at {q : Nat} {v : Value} : ∀ {l : List (Nat × Value)}, (q, v) ∈ l → (∀ x ∈ l, x.1 = q → x.2 = v) → fnd (some q) l = some v
  | [], h, _ => by cases h
  | x :: t, h, hu => by
    simp only [fnd]
    by_cases e : x.1 = q
    · rw [if_pos (by rw [e]), hu x (List.mem_cons_self) e]
    · rw [if_neg (fun c => e (by injection c with c; exact c.symm))]
      rcases List.mem_cons.1 h with rfl | h
      · exact absurd rfl e
      · exact fnd_at h fun y hy => hu y (List.mem_cons_of_mem _ hy)
theorem pls_none {G : Nat → Nat} {n k : Nat} (inj : ∀ i j, i < n → j < n → G i = G j → i = j) (hk : k < n) : fnd (some (G k)) (pls G k) = none := by
  refine fnd_off fun x hx e => ?_
  obtain ⟨i, hi, rfl⟩ := List.mem_map.1 hx
  injection e with e
  have := List.mem_range.1 hi
  have := inj k i hk (by omega) e
  omega
theorem pls_at {G : Nat → Nat} {n p : Nat} (inj : ∀ i j, i < n → j < n → G i = G j → i = j) (hp : p < n) : fnd (some (G p)) (pls G n) = some (.int .i64 (p : Int)) := by
  refine fnd_at (List.mem_map.2 ⟨p, List.mem_range.2 hp, rfl⟩) fun x hx e => ?_
  obtain ⟨i, hi, rfl⟩ := List.mem_map.1 hx
  have := inj i p (List.mem_range.1 hi) hp e
  simp [this]
theorem NdsAt.okr {w : World} {N : Nat} {T : NL} {G F : Nat → Nat} (h : NdsAt w N T G F) {i : Nat} (hi : i < T.length) : OkR w (some (G i)) := h.gr.okr (by rw [grT_at h.inj hi]; rfl)
theorem NdsAt.mono {w : World} {N M : Nat} {T : NL} {G F : Nat → Nat} (h : NdsAt w N T G F) (hm : N ≤ M) : NdsAt w M T G F := ⟨fun i hi => ⟨(h.rc i hi).1, by have := (h.rc i hi).2; omega⟩, h.inj⟩
/-- The cells of an own row of single values. -/
theorem own_row1 {w : World} {B : Nat} {e : TypeId} {a : Option Addr} {n c : Nat} {xs : List Value} (h : w.ownsRow B e 1 (.slice a n c) n xs) (hn : 0 < n) : ∃ g, a = some ⟨g, 0, none⟩ ∧ B ≤ g ∧ g < w.heap.size ∧ n ≤ c ∧ ∀ j, j < n → w.cell? ⟨g, j, none⟩ = xs[j]? := by
  obtain ⟨_, h2⟩ := h
  rcases h2 with ⟨_, h0⟩ | ⟨g, cap, cur, e, hB, hg, q1, q2, q3, q4⟩
  · omega
  · injection e with e1 _ e3
    subst e1
    subst e3
    refine ⟨g, rfl, hB, (Array.getElem?_eq_some_iff.1 hg).1, q1, fun j hj => ?_⟩
    rw [← q4, List.getElem?_take, if_pos (by omega)]
    simp [World.cell?, hg]
/-- What Walk tells of a table: the way to the key, and the kinds of its accesses. -/
noncomputable def wkL (t : NL) (key : Int) : List Nat := if formE t = 0 then wayL (normL t) key else []
noncomputable def wkK (t : NL) (key : Int) : List Int := List.replicate ((wkL t key).length - 1) 1

set_option maxRecDepth 100000 in
set_option maxHeartbeats 4000000 in
theorem Walk_any (base : Option Addr) (b o c : Nat) (t : NL) (key : Int) (w : World) (h : NodesAt w base b o t) :
    Calls Try.prog 13 #[.slice base t.length c, .int .i64 key] w fun e w' => ∃ v u, e = .returned (.tuple #[v, u, .int .i64 (formE t)]) ∧ w'.ownsRow w.heap.size 3 1 v (wkL t key).length (natC (wkL t key)) ∧ w'.ownsRow w.heap.size 3 1 u (wkK t key).length ((wkK t key).map (Value.int .i64)) ∧ Below w.heap.size w w' := by
  have HM : Hid _ := made_any base b o c t w h
  by_cases he : formE t = 0
  · have HE : Hid (formE t = 0) := he
    have OK : Hid (LaidOk (normL t)) := norm_ok he
    obtain ⟨hw1, hw2, hw3⟩ := wayN (norm_form he) key
    have e1 : wkL t key = wayL (normL t) key := if_pos he
    have e2 : wkK t key = List.replicate ((wayL (normL t) key).length - 1) 1 := by unfold wkK; rw [e1]
    rw [e1, e2]
    clear e1 e2
    generalize normL t = T at *
    generalize wayL T key = P at *
    have WY : Hid (Way T key 0 P) := hw1
    obtain ⟨i0, hi0, hz0, hz1, hz2⟩ := info_parts int_info
    have q : (formE t != 0) = false := by simp [he]
    have hmkm := makeH
    have lp := OK.out.pos
    have lb := OK.out.big
    clear h he hw1
    go_enter Try.func13, Try.ntmps13
    go_wp2_with fail
    refine Calls.mono HM.out ?_
    rintro e w1 ⟨hb, _, h2⟩
    obtain ⟨nb, G, F, rfl, hnb, hmd⟩ := h2 HE.out
    have HB : Hid (Below w.heap.size w w1) := hb
    have MD : Hid (MdAt T nb 0 G F w1) := hmd
    have ND : Hid (NdsAt w1 w1.heap.size T G F) := hmd.nds
    have l0 : (0 : Int) < (T.length : Int) := by omega
    have l1 : (T.length : Int) ≤ 100000 := by omega
    clear hb hmd h2
    go_wp2_with fail
    clear hmkm
    go_loopw [29] (fun vi wr => ∃ k : Nat, k ≤ T.length ∧ vi = .int .i64 (k : Int) ∧ PMap wr w1.heap.size (pls G k) ∧ Below w1.heap.size w1 wr) (fun vi _ => T.length - (intOf vi).toNat)
    case atStart =>
      exact ⟨0, Nat.zero_le _, rfl, PMap.made w1, below_alloc _ _⟩
    case round =>
      obtain ⟨k, hk, rfl, hpm, hbw⟩ := hrel
      rename World => wr
      have PM : Hid (PMap wr w1.heap.size (pls G k)) := hpm
      have HW : Hid (Below w1.heap.size w1 wr) := hbw
      clear hpm hbw
      have k0 : (0 : Int) ≤ (k : Int) := Int.natCast_nonneg _
      by_cases hkl : k < T.length
      · have k1 : (k : Int) < (T.length : Int) := by omega
        have c0 := ((MD.out.below HW.out).cell hkl).2.2 (Nat.zero_le _)
        have ND1 := ND.out.below HW.out
        obtain ⟨W3, hup, hpm, hgw⟩ := update_run placemap_under PM.out (fun x hx => by obtain ⟨i, hi, rfl⟩ := List.mem_map.1 hx; exact ND1.okr (by have := List.mem_range.1 hi; omega)) (ND1.okr hkl) (pls_none ND1.inj hkl) (.int .i64 (k : Int))
        have hup' : (Instr.mapUpdate 97 (.map (some w1.heap.size)) (.pointer (some ⟨G k, 0, none⟩)) (.int .i64 (k : Int))).run Try.prog wr = .ok () W3 := hup
        have PM3 : Hid (PMap W3 w1.heap.size (pls G (k + 1))) := by show PMap _ _ _; rw [pls_succ]; exact hpm
        have HW3 : Hid (Below w1.heap.size w1 W3) := HW.out.grown hgw HW.out.size (fun q e => by injection e with e; omega)
        clear hup hpm hgw ND1
        go_wp2_with fail
        exact ⟨⟨k + 1, by omega, by first | rfl | go_num, PM3.out, HW3.out⟩, by simp [intOf]; omega⟩
      · obtain rfl : k = T.length := by omega
        go_wp2_with fail
        refine (newTape_any _).mono ?_
        rintro e w2 ⟨rfl, hw2⟩
        obtain ⟨ht1, ht2⟩ := tape_new wr
        rw [← hw2] at ht1 ht2
        have b12 : Below wr.heap.size wr w2 := by rw [hw2]; exact below_alloc _ _
        have HT1 : Hid (NilTape wr.heap.size (wr.heap.size + 1) [] w2) := ht1
        have HT2 : Hid (Tbs (TOne wr.heap.size) w2) := ht2
        have HB2 : Hid (Below wr.heap.size wr w2) := b12
        have z1 : w1.heap.size ≤ wr.heap.size := HW.out.size
        have HB12 : Hid (Below w1.heap.size w1 w2) := HW.out.trans (b12.mono z1)
        have z2 : wr.heap.size ≤ w2.heap.size := b12.size
        have hmb : w1.heap.size < wr.heap.size := PM.out.lt
        have PM2 : Hid (PMap w2 w1.heap.size (pls G T.length)) := PM.out.same (b12.block _ PM.out.lt)
        have c0 := ((MD.out.below HB12.out).cell (i := 0) lp).2.2 (Nat.zero_le _)
        have CH : Hid (ChainAt w2 key wr.heap.size (wst T G F P)) := wayChain_at OK.out ((ND.out.below HB12.out).mono z1) WY.out
        obtain ⟨x, hx1, hx2, hx3, hx4, hx5⟩ := way_last (G := G) (F := F) WY.out
        have HP : Hid _ := Path_any (gateS_nilT wr.heap.size (wr.heap.size + 1) 100000 (Nat.le_refl _)) [] key wr.heap.size (fun t ht => by have e : t = wr.heap.size := ht; omega) (wst T G F P) w2 (by omega) CH.out (by unfold wst; simpa using hw3) (by rw [way_kinds WY.out]; simp; omega) HT1.out HT2.out
        rw [hx5] at HP
        clear ht1 ht2 b12 hw2 hx1 hx2 hx3 hx4 hx5 PM
        go_wp2_with fail
        refine Calls.mono HP.out ?_
        rintro e w3 ⟨v3, rfl, ho3, hg3, ht3, hb3⟩
        have l3 : (wst T G F P).length = P.length := by unfold wst; simp
        rw [l3] at ho3
        obtain ⟨a3, c3, rfl⟩ := owns_slice ho3
        have HO3 : Hid (w3.ownsRow w2.heap.size 41 1 (.slice a3 P.length c3) P.length (ptC (wst T G F P))) := ho3
        have HG3 : Hid (NilTape wr.heap.size (wr.heap.size + 1) (List.replicate (P.length - 1) 1) w3) := by rw [List.nil_append, way_kinds WY.out] at hg3; exact hg3
        have HB3 : Hid (Below w1.heap.size w1 w3) := HB12.out.trans (hb3.mono z1)
        have z3 : w2.heap.size ≤ w3.heap.size := hb3.size
        have PM3 : Hid (PMap w3 w1.heap.size (pls G T.length)) := PM2.out.same (hb3.block _ hmb)
        obtain ⟨gp, ha3, -, hgp, hgc, hgx⟩ := own_row1 HO3.out hw2
        subst ha3
        have HGX : Hid (∀ j, j < P.length → w3.cell? ⟨gp, j, none⟩ = (ptC (wst T G F P))[j]?) := hgx
        clear ho3 hg3 ht3 hb3 PM2 CH c0 hgx
        have p0 : (0 : Int) < (P.length : Int) := by omega
        have p1 : (P.length : Int) ≤ 100000 := by omega
        go_wp2_with fail
        go_loopw [47, 13] (fun vi vp wr' => ∃ j : Nat, j ≤ P.length ∧ vi = .int .i64 (j : Int) ∧ wr'.ownsRow w3.heap.size 3 1 vp j (natC (P.take j)) ∧ Below w3.heap.size w3 wr') (fun vi _ _ => P.length - (intOf vi).toNat)
        case atStart =>
          exact ⟨0, Nat.zero_le _, rfl, World.ownsRow_nil _ _ _ _, Below.refl _ _⟩
        case round =>
          obtain ⟨j, hj, rfl, ho, hb⟩ := hrel
          rename World => wj
          have HJ : Hid (Below w3.heap.size w3 wj) := hb
          obtain ⟨aj, cj, rfl⟩ := owns_slice ho
          have j0 : (0 : Int) ≤ (j : Int) := Int.natCast_nonneg _
          have OJ := ho
          have OJ1 : Hid (wj.ownsRow w3.heap.size 3 1 (.slice aj j cj) j (natC (P.take j))) := ho
          have zj : w3.heap.size ≤ wj.heap.size := hb.size
          clear ho hb
          by_cases hjl : j < P.length
          · have j1 : (j : Int) < (P.length : Int) := by omega
            obtain ⟨p, hp⟩ : ∃ p, P[j]? = some p := ⟨P[j], List.getElem?_eq_getElem hjl⟩
            have hpT : p < T.length := (way_next WY.out j p hp).1
            have ND1 := ND.out.below (HB3.out.trans (HJ.out.mono (by omega)))
            have PMj : PMap wj w1.heap.size (pls G T.length) := PM3.out.same (HJ.out.block _ PM3.out.lt)
            have hlk := lookup_run placemap_under PMj (fun x hx => by obtain ⟨i, hi, rfl⟩ := List.mem_map.1 hx; exact ND1.okr (by have := List.mem_range.1 hi; omega)) (ND1.okr hpT) (int_zero wj) false
            rw [pls_at ND1.inj hpT] at hlk
            have hlk' : (Instr.lookup 97 (.map (some w1.heap.size)) (.pointer (some ⟨G p, 0, none⟩)) false).run Try.prog wj = .ok (.int .i64 (p : Int)) wj := hlk
            have HTK : Hid (P.take (j + 1) = P.take j ++ [p]) := by show _ = _; rw [List.take_add_one, hp]; rfl
            have c0 : wj.cell? ⟨gp, j, none⟩ = some (.pointer (some ⟨G p, 0, none⟩)) := by
              rw [HJ.out.cell (p := ⟨gp, j, none⟩) hgp, HGX.out j hjl]
              unfold ptC wst
              rw [List.getElem?_map, List.getElem?_map, hp]
              rfl
            clear hlk ND1 PMj hp hpT
            go_wp2_with (first | (at_builtin; (refine wpList_append_lies _ (by rfl) _ _ _ (by rfl) w3.heap.size 3 i0 _ 1 8 ints_under hi0 hz0 hz1 hz2 rfl (by omega) _ j (natC (P.take j)) (by rfl) (OJ.alloc _) ⟨wj.heap.size, 0, none⟩ 1 1 [.int .i64 (p : Int)] (by rfl) (by rfl) (World.news_of_block (cs := #[.int .i64 (p : Int)]) (t := 3) (fr := (0, 0)) (heap_alloc_at _ _ _ rfl)) (by simp [Value.oneCell']) (by omega) (by unfold maxLen; omega) (by omega) (by simp; omega) (wj.heap.size + 1) (by simp) ?_); intro gg cap wk hown1 hgrow hat hlt1; have HK1 : Hid (wk.ownsRow w3.heap.size 3 1 (.slice (some ⟨gg, 0, none⟩) (j + 1) cap) (j + 1) (natC (P.take j) ++ [.int .i64 (p : Int)])) := hown1; have HKB : Hid (Below w3.heap.size w3 wk) := HJ.out.trans (Below.grown ((Below.refl w3.heap.size wj).alloc zj _) hgrow (by simp; omega) (owns_ge OJ1.out)); clear hgrow hat hlt1))
            refine ⟨⟨j + 1, by omega, by first | rfl | go_num, ?_, HKB.out⟩, by simp [intOf]; omega⟩
            rw [HTK.out, natC_snoc]
            exact HK1.out
          · obtain rfl : j = P.length := by omega
            have HTj : Hid (NilTape wr.heap.size (wr.heap.size + 1) (List.replicate (P.length - 1) 1) wj) := (gateS_nilT wr.heap.size (wr.heap.size + 1) 100000 (Nat.le_refl _)).keep _ _ _ HG3.out (Od.of_below HJ.out)
            have HV : Hid (wj.ownsRow w3.heap.size 3 1 (.slice aj P.length cj) P.length (natC P)) := by
              have := OJ
              rwa [List.take_length] at this
            clear OJ OJ1
            generalize hv : Value.slice aj P.length cj = vj at HV ⊢
            clear hv
            go_wp2_with fail
            refine (kinds_all _ _ _ _ HTj.out (by simp; omega)).mono ?_
            rintro e w4 ⟨v4, rfl, ho4, hb4⟩
            have HO4 : Hid _ := ho4
            have HB4 : Hid (Below wj.heap.size wj w4) := hb4
            clear ho4 hb4
            go_wp2_with fail
            go_ret3
            rw [HE.out]
            refine ⟨_, _, rfl, owns_down (owns_below HV.out HB4.out) (by have := HB.out.size; omega), owns_down HO4.out (by have := HB.out.size; omega), ?_⟩
            exact HB.out.trans ((HB3.out.trans ((HJ.out.trans (HB4.out.mono zj)).mono (by omega))).mono HB.out.size)
  · have HE : Hid (formE t = 0 → False) := he
    have q : (formE t != 0) = true := by simp [he]
    have e1 : wkL t key = [] := if_neg he
    have e2 : wkK t key = [] := by unfold wkK; rw [e1]; rfl
    rw [e1, e2]
    clear h he e1 e2
    go_enter Try.func13, Try.ntmps13
    go_wp2_with fail
    refine Calls.mono HM.out ?_
    rintro e w1 ⟨hb, h1, _⟩
    obtain rfl := h1 HE.out
    have HB : Hid (Below w.heap.size w w1) := hb
    clear hb h1
    go_wp2_with fail
    go_ret3
    exact ⟨_, _, rfl, World.ownsRow_nil _ _ _ _, World.ownsRow_nil _ _ _ _, HB.out⟩
end Go.Proofs.Ythdfpddijocfkaa


namespace Go.Proofs.Ythdfpddijocfkaa

open Go.RowKit

attribute [local go_sem ↓] Go.wp_at_zero Go.wp_at_succ

/-! ### Answers without pairs, in rows. -/
def skC : List (Option Int) → List Value
  | [] => []
  | r :: t => .bool r.isSome :: .int .i64 0 :: .int .i64 (r.getD 0) :: .slice none 0 0 :: skC t
theorem skC_append : ∀ a b : List (Option Int), skC (a ++ b) = skC a ++ skC b
  | [], _ => rfl
  | x :: t, b => by simp [skC, skC_append t b]
theorem skC_length : ∀ a : List (Option Int), (skC a).length = a.length * 4
  | [] => rfl
  | x :: t => by simp [skC, skC_length t]; omega
theorem skC_set : ∀ (L : List (Option Int)) (i : Nat) (r : Option Int), i < L.length → skC (L.set i r) = ((skC L).set (i * 4 + 2) (.int .i64 (r.getD 0))).set (i * 4) (.bool r.isSome)
  | [], i, _, h => by simp at h
  | p :: t, 0, r, _ => by simp [skC]
  | p :: t, i + 1, r, h => by
    have ih := skC_set t i r (by simpa using h)
    have e : (i + 1) * 4 = i * 4 + 1 + 1 + 1 + 1 := by omega
    rw [e, show i * 4 + 1 + 1 + 1 + 1 + 2 = i * 4 + 2 + 1 + 1 + 1 + 1 by omega]
    simp only [List.set_cons_succ, skC]
    rw [ih]
theorem zeros_rets : ∀ n, skC (List.replicate n none) = (List.replicate n [Value.bool false, .int .i64 0, .int .i64 0, .slice none 0 0]).flatten
  | 0 => rfl
  | n + 1 => by
    simp only [List.replicate_succ, List.flatten_cons, ← zeros_rets n]
    rfl
theorem skC_none (n i : Nat) (h : i < n * 4) : (skC (List.replicate n none))[i]? = some ((#[Value.bool false, .int .i64 0, .int .i64 0, .slice none 0 0] : Array Value)[i % 4]!) := by
  induction n generalizing i with
  | zero => omega
  | succ n ih =>
    simp only [List.replicate_succ, skC]
    match i, h with
    | 0, _ => rfl
    | 1, _ => rfl
    | 2, _ => rfl
    | 3, _ => rfl
    | j + 4, h =>
      rw [show (j + 4) % 4 = j % 4 by omega]
      simpa using ih j (by omega)
theorem made_rets (n : Nat) : (madeCells #[Value.bool false, .int .i64 0, .int .i64 0, .slice none 0 0] (n * 4)).toList = skC (List.replicate n none) := by
  apply List.ext_getElem?
  intro i
  by_cases h : i < n * 4
  · rw [skC_none n i h]
    simp [madeCells, h]
  · rw [List.getElem?_eq_none (by simp [madeCells]; omega), List.getElem?_eq_none (by rw [skC_length]; simp; omega)]
theorem isC_setL (L : List Int) (j : Nat) (a : Int) : isC (L.set j a) = (isC L).set j (.int .i64 a) := by simp [isC, List.map_set]
theorem made_isC (n : Nat) : (madeCells #[Value.int .i64 0] n).toList = isC (List.replicate n 0) := by rw [made_zeros]; simp [isC]
theorem rets_under : Try.prog.underlying 35 = some (.slice 93) := by kernel_rfl
theorem ret_info : (Try.prog.info? 93).map (fun i => (i.zero, i.size, i.bytes)) = some (some (.agg #[.bool false, .int .i64 0, .int .i64 0, .slice none 0 0]), 4, 48) := by kernel_rfl
theorem set_mid {α : Type} (a : List α) (m : Nat) (z v : α) : (a ++ List.replicate (m + 1) z).set a.length v = (a ++ [v]) ++ List.replicate m z := by
  rw [List.set_append_right _ _ (Nat.le_refl _)]
  simp [List.replicate_succ]

/-! ### What Seek answers. -/
def ansN (n : NdD) (k : Int) : Option Int := if n.l = -1 ∧ n.inf = 0 ∧ n.key = k then some n.val else none
theorem getN_ans (T : NL) (G : Nat → Nat) (x : Nat) (k : Int) : getN k (gnT T G x) = ansN (ndAt T x) k := by
  unfold getN ansN gnT
  by_cases h : (ndAt T x).l = -1
  · rw [if_pos h]; simp [h]
  · rw [if_neg h]; simp [h]
noncomputable def ansK (t : NL) (k : Int) : Option Int := ansN (ndAt (normL t) ((wayL (normL t) k).getLastD 0)) k
noncomputable def skE (t : NL) (keys : List Int) : Int := if formE t ≠ 0 then formE t else if 1000 < keys.length then 2 else 0
noncomputable def skA (t : NL) (keys : List Int) : List (Option Int) := keys.map (ansK t)
noncomputable def skN (t : NL) (keys : List Int) : List Int := keys.map fun k => (((wayL (normL t) k).length - 1 : Nat) : Int)
/-- Where Seek's loop stands. -/
def skH {α : Type} (z : α) (L : List α) (i : Nat) : List α := L.take i ++ List.replicate (L.length - i) z
theorem skH_zero {α : Type} (z : α) (L : List α) : skH z L 0 = List.replicate L.length z := by simp [skH]
theorem skH_end {α : Type} (z : α) (L : List α) : skH z L L.length = L := by simp [skH]
theorem skH_length {α : Type} (z : α) (L : List α) {i : Nat} (h : i ≤ L.length) : (skH z L i).length = L.length := by simp [skH]; omega
theorem skH_succ {α : Type} (z : α) (L : List α) {i : Nat} {v : α} (h : L[i]? = some v) : skH z L (i + 1) = (skH z L i).set i v := by
  have hi := (List.getElem?_eq_some_iff.1 h).1
  obtain ⟨m, hm⟩ : ∃ m, L.length - i = m + 1 := ⟨L.length - i - 1, by omega⟩
  have hl : (L.take i).length = i := by simp; omega
  have e := set_mid (L.take i) m z v
  rw [hl] at e
  unfold skH
  rw [hm, e, show L.length - (i + 1) = m by omega, List.take_add_one, h]
  rfl
theorem own_sk {w : World} {B rb n : Nat} {L : List (Option Int)} (h : w.heap[rb]? = some (.cells (skC L).toArray 93 (0, 0))) (hn : L.length = n) (hB : B ≤ rb) (hm : n ≤ maxLen) : w.ownsRow B 93 4 (.slice (some ⟨rb, 0, none⟩) n n) n (skC L) := by
  have l := skC_length L
  rw [hn] at l
  exact ⟨l, Or.inr ⟨rb, n, (skC L).toArray, rfl, hB, h, Nat.le_refl _, hm, by simpa using l, by rw [← l]; simp⟩⟩
theorem own_is {w : World} {B rb n : Nat} {L : List Int} (h : w.heap[rb]? = some (.cells (isC L).toArray 3 (0, 0))) (hn : L.length = n) (hB : B ≤ rb) (hm : n ≤ maxLen) : w.ownsRow B 3 1 (.slice (some ⟨rb, 0, none⟩) n n) n (isC L) := by
  have l : (isC L).length = n * 1 := by rw [isC_length, hn]; omega
  exact ⟨l, Or.inr ⟨rb, n, (isC L).toArray, rfl, hB, h, Nat.le_refl _, hm, by simpa using l, by rw [← l]; simp⟩⟩
theorem sk_set {w : World} {rb : Nat} {L : List (Option Int)} (h : w.heap[rb]? = some (.cells (skC L).toArray 93 (0, 0))) {i : Nat} (hi : i < L.length) (r : Option Int) :
    ((w.setCell ⟨rb, i * 4 + 2, none⟩ (.int .i64 (r.getD 0))).setCell ⟨rb, i * 4, none⟩ (.bool r.isSome)).heap[rb]? = some (.cells (skC (L.set i r)).toArray 93 (0, 0)) := by
  rw [Go.Joins.block_setCell (Go.Joins.block_setCell h _), skC_set L i r hi]
  simp
theorem is_set {w : World} {rb : Nat} {L : List Int} (h : w.heap[rb]? = some (.cells (isC L).toArray 3 (0, 0))) {i : Nat} (a : Int) :
    (w.setCell ⟨rb, i, none⟩ (.int .i64 a)).heap[rb]? = some (.cells (isC (L.set i a)).toArray 3 (0, 0)) := by
  rw [Go.Joins.block_setCell h, isC_setL]
  simp
end Go.Proofs.Ythdfpddijocfkaa

namespace Go.Proofs.Ythdfpddijocfkaa

open Go.RowKit

attribute [local go_sem ↓] Go.wp_at_zero Go.wp_at_succ

/-- What Seek's loop has. -/
structure SkI (A : List (Option Int)) (K : List Int) (N rb mb i : Nat) (w0 w : World) : Prop where
  rets : w.heap[rb]? = some (.cells (skC (skH none A i)).toArray 93 (0, 0))
  many : w.heap[mb]? = some (.cells (isC (skH 0 K i)).toArray 3 (0, 0))
  bl : Below N w0 w
theorem SkI.below {A : List (Option Int)} {K : List Int} {N rb mb i : Nat} {w0 w w' : World} (h : SkI A K N rb mb i w0 w) (hb : Below w.heap.size w w') (hN : N ≤ w.heap.size) : SkI A K N rb mb i w0 w' :=
  ⟨(hb.block _ (Array.getElem?_eq_some_iff.1 h.rets).1).trans h.rets, (hb.block _ (Array.getElem?_eq_some_iff.1 h.many).1).trans h.many, h.bl.trans (hb.mono hN)⟩
theorem sk_cell {w : World} {rb : Nat} {L : List (Option Int)} (h : w.heap[rb]? = some (.cells (skC L).toArray 93 (0, 0))) {i k : Nat} (hi : i < L.length) (hk : k < 4) : (∃ u, w.cell? ⟨rb, i * 4 + k, none⟩ = some u) ∧ w.frozen? ⟨rb, i * 4 + k, none⟩ = false := by
  have l := skC_length L
  simp only [World.cell?, World.frozen?, h]
  refine ⟨⟨(skC L)[i * 4 + k]'(by omega), by simp⟩, by simp⟩
theorem is_cell {w : World} {rb : Nat} {L : List Int} (h : w.heap[rb]? = some (.cells (isC L).toArray 3 (0, 0))) {i : Nat} (hi : i < L.length) : (∃ u, w.cell? ⟨rb, i, none⟩ = some u) ∧ w.frozen? ⟨rb, i, none⟩ = false := by
  have l := isC_length L
  simp only [World.cell?, World.frozen?, h]
  refine ⟨⟨(isC L)[i]'(by omega), by simp⟩, by simp⟩

set_option maxRecDepth 100000 in
set_option maxHeartbeats 4000000 in
theorem Seek_any (base : Option Addr) (b o c : Nat) (t : NL) (bk : Option Addr) (gk ok ck : Nat) (keys : List Int) (w : World) (h : NodesAt w base b o t) (hk : WsAt w bk gk ok keys) :
    Calls Try.prog 15 #[.slice base t.length c, .slice bk keys.length ck] w fun e w' => ∃ v u, e = .returned (.tuple #[v, u, .int .i64 (skE t keys)]) ∧ w'.ownsRow w.heap.size 93 4 v (if skE t keys = 0 then keys.length else 0) (if skE t keys = 0 then skC (skA t keys) else []) ∧ w'.ownsRow w.heap.size 3 1 u (if skE t keys = 0 then keys.length else 0) (if skE t keys = 0 then isC (skN t keys) else []) ∧ Below w.heap.size w w' := by
  have HC : Hid _ := check_any base b o c t w h
  have HN : Hid (NodesAt w base b o t) := h
  have HK : Hid (WsAt w bk gk ok keys) := hk
  by_cases he : formE t = 0
  · have HE : Hid (formE t = 0) := he
    have q : (formE t != 0) = false := by simp [he]
    by_cases hl : 1000 < keys.length
    · have e1 : skE t keys = 2 := by unfold skE; rw [if_neg (by simp [he]), if_pos hl]
      rw [e1]
      have HL : Hid (1000 < keys.length) := hl
      have q2 : ((1000 : Int) < (keys.length : Int)) := by omega
      clear h hk he e1
      go_enter Try.func15, Try.ntmps15
      go_wp2_with fail
      refine Calls.mono HC.out ?_
      rintro e w1 ⟨rfl, hb1⟩
      have HB : Hid (Below w.heap.size w w1) := hb1
      clear hb1
      go_wp2_with fail
      go_ret3
      exact ⟨_, _, rfl, World.ownsRow_nil _ _ _ _, World.ownsRow_nil _ _ _ _, HB.out⟩
    · have e1 : skE t keys = 0 := by unfold skE; rw [if_neg (by simp [he]), if_neg hl]
      rw [e1]
      simp only [if_true]
      have OK : Hid (LaidOk (normL t)) := norm_ok he
      have WY : Hid (∀ k, Way (normL t) k 0 (wayL (normL t) k) ∧ 0 < (wayL (normL t) k).length ∧ (wayL (normL t) k).length ≤ 100000) := fun k => wayN (norm_form he) k
      have lA : (skA t keys).length = keys.length := by simp [skA]
      have lK : (skN t keys).length = keys.length := by simp [skN]
      have GA : Hid (∀ i : Nat, i < keys.length → (skA t keys)[i]? = some (ansK t (keys.getD i 0)) ∧ (skN t keys)[i]? = some (((wayL (normL t) (keys.getD i 0)).length - 1 : Nat) : Int)) := fun i hi => by simp [skA, skN, List.getD_eq_getElem?_getD, List.getElem?_eq_getElem hi]
      have hmr := run_make_known (P := Try.prog) 35 93 (.agg #[.bool false, .int .i64 0, .int .i64 0, .slice none 0 0]) 4 48 rets_under ret_info keys.length (by omega) (by omega)
      have hmi := run_make_known (P := Try.prog) 23 3 (.int .i64 0) 1 8 ints_under int_info keys.length (by omega) (by omega)
      have q2 : (keys.length : Int) ≤ 1000 := by omega
      have q3 : (0 : Int) ≤ (keys.length : Int) := Int.natCast_nonneg _
      generalize hA : skA t keys = A at *
      generalize hK : skN t keys = K at *
      have HAN : Hid (∀ k, ansK t k = ansN (ndAt (normL t) ((wayL (normL t) k).getLastD 0)) k) := fun k => rfl
      generalize hT : normL t = T at *
      clear h hk he e1 hA hK
      go_enter Try.func15, Try.ntmps15
      go_wp2_with fail
      refine Calls.mono HC.out ?_
      rintro e w1 ⟨rfl, hb1⟩
      have HB1 : Hid (Below w.heap.size w w1) := hb1
      have HM : Hid _ := Make_any base b o c t w1 (HN.out.below hb1)
      clear hb1
      go_wp2_with fail
      refine Calls.mono HM.out ?_
      rintro e w2 ⟨hb2, _, h2⟩
      obtain ⟨G, F, rfl, hg0, hnd, -⟩ := h2 HE.out
      rw [hT] at hnd
      have HB2 : Hid (Below w.heap.size w w2) := HB1.out.trans (hb2.mono HB1.out.size)
      have ND : Hid (NdsAt w2 w2.heap.size T G F) := hnd
      clear hb2 hnd h2
      go_wp2_with fail
      clear hmr hmi
      go_loopw [39] (fun vi wr => ∃ i : Nat, i ≤ keys.length ∧ vi = .int .i64 (i : Int) ∧ SkI A K w2.heap.size w2.heap.size (w2.heap.size + 1) i w2 wr) (fun vi _ => keys.length - (intOf vi).toNat)
      case atStart =>
        refine ⟨0, Nat.zero_le _, rfl, ?_, ?_, ((below_alloc w2 _).alloc (by simp) _)⟩
        · rw [heap_alloc_old _ _ (by simp), heap_alloc_at _ _ _ rfl, skH_zero, lA, ← made_rets]
        · rw [heap_alloc_at _ _ _ (by simp), skH_zero, lK, ← made_isC]
      case round =>
        obtain ⟨i, hi, rfl, hsk⟩ := hrel
        rename World => wr
        have SK : Hid (SkI A K w2.heap.size w2.heap.size (w2.heap.size + 1) i w2 wr) := hsk
        have zw : w2.heap.size + 1 < wr.heap.size := (Array.getElem?_eq_some_iff.1 hsk.many).1
        clear hsk
        have i0 : (0 : Int) ≤ (i : Int) := Int.natCast_nonneg _
        by_cases hil : i < keys.length
        · have i1 : (i : Int) < (keys.length : Int) := by omega
          obtain rfl : bk = some ⟨gk, ok, none⟩ := HK.out.base (by omega)
          have b02 : Below w.heap.size w wr := HB2.out.trans (SK.out.bl.mono HB2.out.size)
          have c0 := (b02.cell (p := ⟨gk, ok + i, none⟩) (HK.out.lt (by omega))).trans (HK.out.cells i hil)
          obtain ⟨gA, gK⟩ := GA.out i hil
          generalize keys.getD i 0 = key at c0 gA gK
          have GAi : Hid (A[i]? = some (ansK t key)) := gA
          have GKi : Hid (K[i]? = some (((wayL T key).length - 1 : Nat) : Int)) := gK
          clear b02 gA gK
          go_wp2_with fail
          refine (newTape_any _).mono ?_
          rintro e w3 ⟨rfl, hw3⟩
          obtain ⟨ht1, ht2⟩ := tape_new wr
          rw [← hw3] at ht1 ht2
          have b3 : Below wr.heap.size wr w3 := by rw [hw3]; exact below_alloc _ _
          have HT1 : Hid (NilTape wr.heap.size (wr.heap.size + 1) [] w3) := ht1
          have HT2 : Hid (Tbs (TOne wr.heap.size) w3) := ht2
          have z3 : wr.heap.size ≤ w3.heap.size := b3.size
          obtain ⟨y1, y2, y3⟩ := WY.out key
          have CH : Hid (ChainAt w3 key wr.heap.size (wst T G F (wayL T key))) := wayChain_at OK.out ((ND.out.below (SK.out.bl.trans (b3.mono (by omega)))).mono (by omega)) y1
          obtain ⟨x, hx1, hx2, hx3, hx4, hx5⟩ := way_last (G := G) (F := F) y1
          have HG : Hid _ := Get_any (gateS_nilT wr.heap.size (wr.heap.size + 1) 100000 (Nat.le_refl _)) [] key wr.heap.size (fun t ht => by have e : t = wr.heap.size := ht; omega) (wst T G F (wayL T key)) w3 (by omega) CH.out (by unfold wst; simpa using y3) (by rw [way_kinds y1]; simp; omega) HT1.out HT2.out _ hx4
          rw [hx5] at HG
          have HX : Hid (getN key (gnT T G x) = ansK t key) := by
            show _ = _
            rw [getN_ans, HAN.out key, List.getLastD_eq_getLast?, hx1]
            rfl
          have HKD : Hid (kdL (wst T G F (wayL T key)) = List.replicate ((wayL T key).length - 1) 1) := way_kinds y1
          have SK3 : Hid (SkI A K w2.heap.size w2.heap.size (w2.heap.size + 1) i w2 w3) := SK.out.below b3 (by omega)
          have B3 : Hid (Below wr.heap.size wr w3) := b3
          have y4 : (wayL T key).length - 1 ≤ 100000 := by omega
          generalize (wayL T key).length - 1 = nk at GKi HKD y4
          clear ht1 ht2 b3 hw3 hx1 hx2 hx3 hx4 hx5 CH y1 y2 y3
          go_wp2_with fail
          refine Calls.mono HG.out ?_
          rintro e w4 ⟨rfl, hg4, ht4, hb4⟩
          rw [List.nil_append, HKD.out] at hg4
          rw [HX.out]
          have SK4 : Hid (SkI A K w2.heap.size w2.heap.size (w2.heap.size + 1) i w2 w4) := by
            refine ⟨(hb4.block _ (by omega)).trans SK3.out.rets, (hb4.block _ (by omega)).trans SK3.out.many, SK3.out.bl.trans (hb4.mono (by omega))⟩
          have HG4 : Hid (NilTape wr.heap.size (wr.heap.size + 1) (List.replicate nk 1) w4) := hg4
          have z4 : wr.heap.size < w4.heap.size := by obtain ⟨_, _, h1, h2⟩ := hg4.1; omega
          have HXF : Hid (getN key (gnT T G x) = ansK t key) := HX.out
          have AL : (skH none A i).length = keys.length := by rw [skH_length _ _ (by omega), lA]
          have KL : (skH 0 K i).length = keys.length := by rw [skH_length _ _ (by omega), lK]
          generalize ansK t key = r at GAi HX HXF ⊢
          clear hg4 ht4 hb4 HG
          unfold getA
          obtain ⟨⟨u2, c2⟩, f2⟩ := sk_cell (k := 2) SK4.out.rets (i := i) (by omega) (by omega)
          have W5 : ∃ W, W = w4.setCell ⟨w2.heap.size, i * 4 + 2, none⟩ (.int .i64 (r.getD 0)) := ⟨_, rfl⟩
          obtain ⟨W5, hW5⟩ := W5
          have c50 : ∃ u, W5.cell? ⟨w2.heap.size, i * 4, none⟩ = some u ∧ W5.frozen? ⟨w2.heap.size, i * 4, none⟩ = false := by
            have h5 : W5.heap[w2.heap.size]? = some (.cells ((skC (skH none A i)).toArray.setIfInBounds (i * 4 + 2) (.int .i64 (r.getD 0))) 93 (0, 0)) := by rw [hW5]; exact Go.Joins.block_setCell SK4.out.rets _
            have l5 := skC_length (skH none A i)
            simp only [World.cell?, World.frozen?, h5]
            refine ⟨_, Array.getElem?_eq_getElem (by simp; omega), by simp⟩
          obtain ⟨u0, c5, f5⟩ := c50
          have S5 : Hid (SkI A K w2.heap.size w2.heap.size (w2.heap.size + 1) i w2 w4) := SK4.out
          rw [hW5] at c5 f5
          have OD5 : Hid (Od (TOne wr.heap.size) w4 ((w4.setCell ⟨w2.heap.size, i * 4 + 2, none⟩ (.int .i64 (r.getD 0))).setCell ⟨w2.heap.size, i * 4, none⟩ (.bool r.isSome))) := by
            have t4 : typ w4 w2.heap.size 93 := ⟨_, _, SK4.out.rets⟩
            have nb : ¬ TOne wr.heap.size w2.heap.size := fun e => by have e' : w2.heap.size = wr.heap.size := e; omega
            exact (Od.set t4 (by decide) nb).trans (Od.set (t4.set _ _) (by decide) nb)
          have HR6 : Hid (((w4.setCell ⟨w2.heap.size, i * 4 + 2, none⟩ (.int .i64 (r.getD 0))).setCell ⟨w2.heap.size, i * 4, none⟩ (.bool r.isSome)).heap[w2.heap.size]? = some (.cells (skC (skH none A (i + 1))).toArray 93 (0, 0))) := by
            show _ = _
            rw [skH_succ _ _ GAi.out]
            exact sk_set SK4.out.rets (by omega) r
          have HM6 : Hid (((w4.setCell ⟨w2.heap.size, i * 4 + 2, none⟩ (.int .i64 (r.getD 0))).setCell ⟨w2.heap.size, i * 4, none⟩ (.bool r.isSome)).heap[w2.heap.size + 1]? = some (.cells (isC (skH 0 K i)).toArray 3 (0, 0))) := by
            show _ = _
            rw [Below.heap_setCell _ _ _ _ (by simp), Below.heap_setCell _ _ _ _ (by simp)]
            exact SK4.out.many
          have HB6 : Hid (Below w2.heap.size w2 ((w4.setCell ⟨w2.heap.size, i * 4 + 2, none⟩ (.int .i64 (r.getD 0))).setCell ⟨w2.heap.size, i * 4, none⟩ (.bool r.isSome))) := (SK4.out.bl.setCell (Nat.le_refl _) _).setCell (Nat.le_refl _) _
          clear hW5
          go_upto_region 16 with fail
          obtain ⟨W6, hW6⟩ : ∃ W, W = (w4.setCell ⟨w2.heap.size, i * 4 + 2, none⟩ (.int .i64 (r.getD 0))).setCell ⟨w2.heap.size, i * 4, none⟩ (.bool r.isSome) := ⟨_, rfl⟩
          rw [← hW6] at OD5 HR6 HM6 HB6 ⊢
          have HT6 : Hid (NilTape wr.heap.size (wr.heap.size + 1) (List.replicate nk 1) W6) := (gateS_nilT wr.heap.size (wr.heap.size + 1) 100000 (Nat.le_refl _)).keep _ _ _ HG4.out OD5.out
          have z6 : w2.heap.size + 1 < W6.heap.size := (Array.getElem?_eq_some_iff.1 HM6.out).1
          clear hW6 c5 f5 c2 f2 OD5
          go_wp2_with fail
          refine (kinds_all _ _ _ _ HT6.out (by simp; omega)).mono ?_
          rintro e w7 ⟨v7, rfl, ho7, hb7⟩
          rw [List.length_replicate] at ho7
          obtain ⟨a7, c7, rfl⟩ := owns_slice ho7
          obtain ⟨⟨u8, c8⟩, f8⟩ := is_cell ((hb7.block _ (by omega)).trans HM6.out) (i := i) (by omega)
          have HR7 : Hid (w7.heap[w2.heap.size]? = some (.cells (skC (skH none A (i + 1))).toArray 93 (0, 0))) := (hb7.block _ (by omega)).trans HR6.out
          have HM8 : Hid ((w7.setCell ⟨w2.heap.size + 1, i, none⟩ (.int .i64 (nk : Int))).heap[w2.heap.size + 1]? = some (.cells (isC (skH 0 K (i + 1))).toArray 3 (0, 0))) := by
            show _ = _
            rw [skH_succ _ _ GKi.out]
            exact is_set ((hb7.block _ (by omega)).trans HM6.out) _
          have HB8 : Hid (Below w2.heap.size w2 (w7.setCell ⟨w2.heap.size + 1, i, none⟩ (.int .i64 (nk : Int)))) := (HB6.out.trans (hb7.mono (by omega))).setCell (by simp) _
          clear ho7 hb7
          go_wp2_with fail
          refine ⟨⟨i + 1, by omega, by first | rfl | go_num, ⟨?_, HM8.out, HB8.out⟩⟩, by simp [intOf]; omega⟩
          rw [Below.heap_setCell _ _ _ _ (by simp)]
          exact HR7.out
        · obtain rfl : i = keys.length := by omega
          go_wp2_with fail
          go_ret3
          have sk := SK.out
          have r1 := sk.rets
          have m1 := sk.many
          rw [← lA, skH_end] at r1
          rw [← lK, skH_end] at m1
          have z2 := HB2.out.size
          have e0 : keys.length ≤ maxLen := by unfold maxLen; omega
          first
            | (rw [HE.out]; exact ⟨_, _, rfl, own_sk r1 lA (by omega) e0, own_is m1 lK (by omega) e0, HB2.out.trans (sk.bl.mono z2)⟩)
            | exact ⟨_, _, rfl, own_sk r1 lA (by omega) e0, own_is m1 lK (by omega) e0, HB2.out.trans (sk.bl.mono z2)⟩
  · have HE : Hid (formE t = 0 → False) := he
    have q : (formE t != 0) = true := by simp [he]
    have e1 : skE t keys = formE t := by unfold skE; rw [if_pos he]
    rw [e1, if_neg he, if_neg he, if_neg he]
    clear h hk he e1
    go_enter Try.func15, Try.ntmps15
    go_wp2_with fail
    refine Calls.mono HC.out ?_
    rintro e w1 ⟨rfl, hb1⟩
    have HB : Hid (Below w.heap.size w w1) := hb1
    clear hb1
    go_wp2_with fail
    go_ret3
    exact ⟨_, _, rfl, World.ownsRow_nil _ _ _ _, World.ownsRow_nil _ _ _ _, HB.out⟩
end Go.Proofs.Ythdfpddijocfkaa



namespace Go.Proofs.Ythdfpddijocfkaa

open Go.RowKit

attribute [local go_sem ↓] Go.wp_at_zero Go.wp_at_succ

def nB : BT := .node ⟨0, 1, 1, 0⟩ (.node ⟨0, 1, 1, 0⟩ (.node ⟨7, 0, 1, 0⟩ (.leaf ⟨5, 0, 1, 50⟩) (.leaf ⟨7, 0, 1, 70⟩)) (.leaf ⟨0, 1, 1, 0⟩)) (.leaf ⟨0, 1, 1, 0⟩)
def nT : NL := [⟨0, 1, 1, 0, 1, 6⟩, ⟨0, 1, 1, 0, 2, 5⟩, ⟨7, 0, 1, 0, 3, 4⟩, ⟨5, 0, 1, 50, -1, -1⟩, ⟨7, 0, 1, 70, -1, -1⟩, ⟨0, 1, 1, 0, -1, -1⟩, ⟨0, 1, 1, 0, -1, -1⟩]
theorem n_lay : nB.lay 0 = nT := rfl
theorem nB_ok : nB.ok := by
  have one : PD.ok ⟨0, 1, 1, 0⟩ := ⟨Or.inr ⟨rfl, rfl, rfl⟩, by decide, by decide⟩
  have w1 : ∀ k v, PD.ok ⟨k, 0, 1, v⟩ := fun k v => ⟨Or.inl rfl, by show (0 : Int) ≤ 1; decide, by show (1 : Int) ≤ 1000000; decide⟩
  exact ⟨one, rfl, ⟨one, rfl, ⟨w1 _ _, rfl, w1 _ _, w1 _ _⟩, one⟩, one⟩
theorem n_form : formE nT = 0 := by rw [← n_lay]; exact lay_formE nB_ok (by show 7 ≤ 100000; omega)
theorem n_norm : normL nT = nT := by
  obtain ⟨-, hf⟩ := formE_ok n_form
  obtain ⟨h1, h2, -⟩ := theL_form hf
  rw [normL_ok n_form]
  have := part_lay h1 h2 (lay_abs0 nB)
  rw [n_lay] at this
  exact this
theorem n_way {key : Int} (a : Nat) (ha : a = if goesL (ndAt nT 2) key then 3 else 4) : wayL nT key = [0, 1, 2, a] := by
  refine wayL_of n_form ?_
  refine Way.inner (l := 1) (r := 6) (q := 1) (by decide) rfl rfl (by rw [if_pos]; exact Or.inl rfl)
    (Way.inner (l := 2) (r := 5) (q := 2) (by decide) rfl rfl (by rw [if_pos]; exact Or.inl rfl)
      (Way.inner (l := 3) (r := 4) (q := a) (by decide) rfl rfl ha ?_))
  by_cases h : goesL (ndAt nT 2) key
  · rw [if_pos h] at ha; subst ha; exact Way.leaf (by decide) rfl rfl
  · rw [if_neg h] at ha; subst ha; exact Way.leaf (by decide) rfl rfl
theorem n_way9 : wayL nT 9 = [0, 1, 2, 4] := n_way 4 (by rw [if_neg]; unfold goesL; decide)
theorem n_way5 : wayL nT 5 = [0, 1, 2, 3] := n_way 3 (by rw [if_pos]; unfold goesL; decide)
theorem n_way6 : wayL nT 6 = [0, 1, 2, 3] := n_way 3 (by rw [if_pos]; unfold goesL; decide)
theorem n_kinds : rdK nT = [1, 1, 1, 1, 1, 1] := by unfold rdK; rw [n_norm]; rfl
theorem n_walk : wkL nT 9 = [0, 1, 2, 4] := by unfold wkL; rw [if_pos n_form, n_norm, n_way9]
theorem n_walkK : wkK nT 9 = [1, 1, 1] := by unfold wkK; rw [n_walk]; rfl
theorem n_skE : skE nT [5, 6] = 0 := by unfold skE; rw [if_neg (by simp [n_form]), if_neg (by decide)]
theorem n_skA : skA nT [5, 6] = [some 50, none] := by
  unfold skA ansK
  simp only [List.map_cons, List.map_nil, n_norm, n_way5, n_way6]
  rfl
theorem n_skN : skN nT [5, 6] = [3, 3] := by
  unfold skN
  simp only [List.map_cons, List.map_nil, n_norm, n_way5, n_way6]
  rfl
theorem ws_litN (w : World) (L : List Int) (T : TypeId) (hn : L.length ≤ maxLen) : WsAt (w.alloc (.cells (isC L).toArray T)) (some ⟨w.heap.size, 0, none⟩) w.heap.size 0 L := by
  refine ⟨fun _ => rfl, fun _ => by simp, fun i hi => ?_, hn⟩
  rw [Nat.zero_add, ← isC_get L i hi]
  have h := heap_alloc_at w (.cells (isC L).toArray T) w.heap.size rfl
  unfold World.cell?
  simp only [h]
  simp
theorem natC_isC (L : List Nat) : natC L = isC (L.map fun x : Nat => (x : Int)) := by simp [natC, isC]
theorem map_isC (L : List Int) : L.map (Value.int .i64) = isC L := rfl
/-- The cells of an own row. -/
theorem own_rowC {w : World} {B sz : Nat} {e : TypeId} {v : Value} {n : Nat} {xs : List Value} (h : w.ownsRow B e sz v n xs) (hn : 0 < n) : ∃ g c, v = .slice (some ⟨g, 0, none⟩) n c ∧ B ≤ g ∧ g < w.heap.size ∧ n ≤ c ∧ ∀ j, j < n * sz → w.cell? ⟨g, j, none⟩ = xs[j]? := by
  obtain ⟨_, h2⟩ := h
  rcases h2 with ⟨_, h0⟩ | ⟨g, cap, cur, rfl, hB, hg, q1, q2, q3, q4⟩
  · omega
  · refine ⟨g, cap, rfl, hB, (Array.getElem?_eq_some_iff.1 hg).1, q1, fun j hj => ?_⟩
    rw [← q4, List.getElem?_take, if_pos (by omega)]
    simp [World.cell?, hg]
set_option maxRecDepth 100000 in
theorem na_any (w : World) : Calls Try.prog 39 #[] w fun e w' => e = .returned (.slice (some ⟨w.heap.size, 0, none⟩) 7 7) ∧ NodesAt w' (some ⟨w.heap.size, 0, none⟩) w.heap.size 0 nT ∧ Below w.heap.size w w' := by
  go_enter Try.func39, Try.ntmps39
  go_wp2_with fail
  go_ret
  have O : (w.alloc (.cells #[Value.int .i64 0, Value.int .i64 1, Value.int .i64 1, Value.int .i64 0, Value.int .i64 1, Value.int .i64 6, Value.int .i64 0, Value.int .i64 1, Value.int .i64 1, Value.int .i64 0, Value.int .i64 2, Value.int .i64 5, Value.int .i64 7, Value.int .i64 0, Value.int .i64 1, Value.int .i64 0, Value.int .i64 3, Value.int .i64 4, Value.int .i64 5, Value.int .i64 0, Value.int .i64 1, Value.int .i64 50, Value.int .i64 (-1), Value.int .i64 (-1), Value.int .i64 7, Value.int .i64 0, Value.int .i64 1, Value.int .i64 70, Value.int .i64 (-1), Value.int .i64 (-1), Value.int .i64 0, Value.int .i64 1, Value.int .i64 1, Value.int .i64 0, Value.int .i64 (-1), Value.int .i64 (-1), Value.int .i64 0, Value.int .i64 1, Value.int .i64 1, Value.int .i64 0, Value.int .i64 (-1), Value.int .i64 (-1)] 81)).ownsRow w.heap.size 81 6 (.slice (some ⟨w.heap.size, 0, none⟩) 7 7) 7 (ndCells nT) := World.ownsRow_lit w #[Value.int .i64 0, Value.int .i64 1, Value.int .i64 1, Value.int .i64 0, Value.int .i64 1, Value.int .i64 6, Value.int .i64 0, Value.int .i64 1, Value.int .i64 1, Value.int .i64 0, Value.int .i64 2, Value.int .i64 5, Value.int .i64 7, Value.int .i64 0, Value.int .i64 1, Value.int .i64 0, Value.int .i64 3, Value.int .i64 4, Value.int .i64 5, Value.int .i64 0, Value.int .i64 1, Value.int .i64 50, Value.int .i64 (-1), Value.int .i64 (-1), Value.int .i64 7, Value.int .i64 0, Value.int .i64 1, Value.int .i64 70, Value.int .i64 (-1), Value.int .i64 (-1), Value.int .i64 0, Value.int .i64 1, Value.int .i64 1, Value.int .i64 0, Value.int .i64 (-1), Value.int .i64 (-1), Value.int .i64 0, Value.int .i64 1, Value.int .i64 1, Value.int .i64 0, Value.int .i64 (-1), Value.int .i64 (-1)] 7 (Nat.le_refl _) (by unfold maxLen; omega) rfl
  exact ⟨rfl, nodes_of_cells (fun j hj => O.cellAt j hj) (by simp) (by decide), below_alloc _ _⟩

set_option maxRecDepth 100000 in
set_option maxHeartbeats 1000000 in
theorem nfix_any (w : World) : Calls Try.prog 7 #[] w fun e w' => e = .returned (.bool true) ∧ Below w.heap.size w w' := by
  go_enter Try.func7, Try.ntmps7
  go_wp2_with fail
  refine (na_any _).mono ?_
  rintro e w1 ⟨rfl, hn1, hb1⟩
  have R2 : Hid _ := Round_any (some ⟨w.heap.size, 0, none⟩) w.heap.size 0 7 nT w1 hn1 (fun _ => by rw [n_kinds]; decide)
  rw [n_form, n_kinds, n_norm] at R2
  have B1 : Hid (Below w.heap.size w w1) := hb1
  clear hn1 hb1
  go_wp2_with fail
  refine Calls.mono R2.out ?_
  rintro e w2 ⟨v2, u2, rfl, ho2, hk2, hb2⟩
  obtain ⟨bs2, cp2, g2, rfl, -, -, hs2⟩ := nodes_of_owns ho2
  obtain ⟨gk2, ck2, rfl, -, -, -, -⟩ := own_rowC hk2 (by decide)
  have N2 : Hid (NodesAt _ _ _ _ _) := hs2
  have B2 : Hid (Below w.heap.size w w2) := B1.out.trans (hb2.mono B1.out.size)
  clear ho2 hk2 hs2 hb2 B1 R2
  go_wp2_with fail
  refine (na_any _).mono ?_
  rintro e w3 ⟨rfl, hn3, hb3⟩
  have R4 : Hid _ := Walk_any (some ⟨w2.heap.size, 0, none⟩) w2.heap.size 0 7 nT 9 w3 hn3
  rw [n_form, n_walk, n_walkK] at R4
  have N3 : Hid (NodesAt _ _ _ _ _) := N2.out.below hb3
  have B3 : Hid (Below w.heap.size w w3) := B2.out.trans (hb3.mono B2.out.size)
  clear hn3 hb3 N2 B2
  go_wp2_with fail
  refine Calls.mono R4.out ?_
  rintro e w4 ⟨v4, u4, rfl, ho4, hk4, hb4⟩
  rw [natC_isC] at ho4
  obtain ⟨bs4, cp4, g4, rfl, -, -, hs4⟩ := ws_of_owns (L := [0, 1, 2, 4]) ho4
  obtain ⟨gk4, ck4, rfl, -, -, -, -⟩ := own_rowC hk4 (by decide)
  have W4 : Hid (WsAt w4 bs4 g4 0 [0, 1, 2, 4]) := hs4
  have N4 : Hid (NodesAt _ _ _ _ _) := N3.out.below hb4
  have B4 : Hid (Below w.heap.size w w4) := B3.out.trans (hb4.mono B3.out.size)
  clear ho4 hk4 hs4 hb4 N3 B3 R4
  go_wp2_with fail
  refine (na_any _).mono ?_
  rintro e w5 ⟨rfl, hn5, hb5⟩
  have L5 := ws_litN w5 [5, 6] 3 (by decide)
  have R6 : Hid _ := Seek_any (some ⟨w4.heap.size, 0, none⟩) w4.heap.size 0 7 nT (some ⟨w5.heap.size, 0, none⟩) w5.heap.size 0 2 [5, 6] _ (hn5.below (below_alloc w5 (.cells (isC [5, 6]).toArray 3))) L5
  rw [n_skE, n_skA, n_skN] at R6
  have W5 : Hid (WsAt _ _ _ _ _) := (W4.out.below hb5).below (below_alloc w5 (.cells (isC [5, 6]).toArray 3))
  have N5 : Hid (NodesAt _ _ _ _ _) := (N4.out.below hb5).below (below_alloc w5 (.cells (isC [5, 6]).toArray 3))
  have B5 : Hid (Below w.heap.size w (w5.alloc (.cells (isC [5, 6]).toArray 3))) := (B4.out.trans (hb5.mono B4.out.size)).trans ((below_alloc w5 _).mono (Nat.le_trans B4.out.size hb5.size))
  clear hn5 hb5 N4 W4 B4 L5
  go_wp2_with fail
  refine Calls.mono R6.out ?_
  rintro e w6 ⟨v6, u6, rfl, ho6, hk6, hb6⟩
  simp only [if_true, List.length_cons, List.length_nil] at ho6 hk6
  obtain ⟨g6, c6, rfl, -, lg6, -, hc6⟩ := own_rowC ho6 (by decide)
  obtain ⟨bs6, cp6, gs6, rfl, -, -, hs6⟩ := ws_of_owns (L := [3, 3]) hk6
  have C6 : Hid (∀ W, Below w6.heap.size w6 W → W.cell? ⟨g6, 0, none⟩ = some (.bool true) ∧ W.cell? ⟨g6, 2, none⟩ = some (.int .i64 50) ∧ W.cell? ⟨g6, 4, none⟩ = some (.bool false)) := fun W hb => ⟨(hb.cell (p := ⟨g6, 0, none⟩) lg6).trans (hc6 0 (by decide)), (hb.cell (p := ⟨g6, 2, none⟩) lg6).trans (hc6 2 (by decide)), (hb.cell (p := ⟨g6, 4, none⟩) lg6).trans (hc6 4 (by decide))⟩
  have S6 : Hid (WsAt w6 bs6 gs6 0 [3, 3]) := hs6
  have N6 : Hid (NodesAt _ _ _ _ _) := N5.out.below hb6
  have W6 : Hid (WsAt _ _ _ _ _) := W5.out.below hb6
  have B6 : Hid (Below w.heap.size w w6) := B5.out.trans (hb6.mono B5.out.size)
  clear ho6 hk6 hs6 hb6 hc6 N5 W5 B5 R6
  go_wp2_with fail
  refine (na_any _).mono ?_
  rintro e w7 ⟨rfl, hn7, hb7⟩
  have N7 : Hid (NodesAt _ _ _ _ _) := hn7
  have NN7 : Hid (NodesAt _ _ _ _ _) := N6.out.below hb7
  have W7 : Hid (WsAt _ _ _ _ _) := W6.out.below hb7
  have B67 : Hid (Below w6.heap.size w6 w7) := hb7
  clear hn7 hb7 N6 W6
  go_wp2_with fail
  refine (vSame_any bs2 (some ⟨w6.heap.size, 0, none⟩) g2 0 cp2 w6.heap.size 0 7 nT nT _ NN7.out N7.out).mono ?_
  rintro e w8 ⟨rfl, hb8⟩
  rw [show nlEq nT nT = true by decide]
  have W8 : Hid (WsAt _ _ _ _ _) := W7.out.below hb8
  have B68 : Hid (Below w6.heap.size w6 w8) := B67.out.trans (hb8.mono B67.out.size)
  clear hb8 N7 NN7 W7 B67
  go_wp2_with fail
  refine (sameInts_any bs4 (some ⟨w8.heap.size, 0, none⟩) g4 0 cp4 w8.heap.size 0 4 [0, 1, 2, 4] [0, 1, 2, 4] _ (W8.out.below (below_alloc w8 (.cells (isC [0, 1, 2, 4]).toArray 3))) (ws_litN w8 [0, 1, 2, 4] 3 (by decide))).mono ?_
  rintro e w9 ⟨rfl, hb9⟩
  rw [show isEq [0, 1, 2, 4] [0, 1, 2, 4] = true by decide]
  have b9 : Below w8.heap.size w8 w9 := (below_alloc w8 _).trans (hb9.mono (by simp))
  have B69 : Hid (Below w6.heap.size w6 w9) := B68.out.trans (b9.mono B68.out.size)
  obtain ⟨d0, d1, d2⟩ := C6.out w9 B69.out
  have L10 : Hid (WsAt _ _ _ _ _) := ws_litN w9 [3, 3] 3 (by decide)
  have S10 : Hid (WsAt _ _ _ _ _) := (S6.out.below B69.out).below (below_alloc w9 (.cells (isC [3, 3]).toArray 3))
  clear hb9 b9 W8 B68
  go_wp2_with fail
  refine (sameInts_any bs6 (some ⟨w9.heap.size, 0, none⟩) gs6 0 cp6 w9.heap.size 0 2 [3, 3] [3, 3] _ S10.out L10.out).mono ?_
  rintro e w10 ⟨rfl, hb10⟩
  rw [show isEq [3, 3] [3, 3] = true by decide]
  have b10 : Below w9.heap.size w9 w10 := (below_alloc w9 _).trans (hb10.mono (by simp))
  have B10 : Hid (Below w.heap.size w w10) := B6.out.trans ((B69.out.trans (b10.mono B69.out.size)).mono B6.out.size)
  clear hb10 b10
  go_wp2_with fail
  go_ret
  exact ⟨rfl, B10.out⟩
end Go.Proofs.Ythdfpddijocfkaa


namespace Go.Proofs.Ythdfpddijocfkaa

open Go.RowKit

attribute [local go_sem ↓] Go.wp_at_zero Go.wp_at_succ

set_option maxRecDepth 100000 in
theorem nCopied_any (ba : Option Addr) (ga oa ca : Nat) (t : NL) (w : World) (h : NodesAt w ba ga oa t) (hnil : ba = none → t.length = 0 ∧ ca = 0) (hby : t.length * 48 ≤ 140737488355328) :
    Calls Try.prog 9 #[.slice ba t.length ca] w fun e w' => ∃ v, e = .returned v ∧ w'.ownsRow w.heap.size 81 6 v t.length (ndCells t) ∧ Below w.heap.size w w' := by
  have HA : Hid (NodesAt _ _ _ _ _) := h
  have HN : Hid (ba = none → t.length = 0 ∧ ca = 0) := hnil
  clear h hnil
  obtain ⟨i0, hi0, hz0, hz1, hz2⟩ := info_parts nd_info'
  go_enter Try.func9, Try.ntmps9
  go_wp2_with (first | (at_builtin; (refine wpList_append_all (by rfl) _ _ _ (by rfl) w.heap.size 81 i0 _ 6 48 nds_under' hi0 hz0 hz1 hz2 rfl (by omega) _ 0 [] (by rfl) ⟨rfl, Or.inr ⟨w.heap.size, 0, #[], rfl, Nat.le_refl _, heap_alloc_at _ _ _ rfl, Nat.le_refl _, (by unfold maxLen; omega), rfl, rfl⟩⟩ ba t.length ca (ndCells t) (by rfl) HN.out (ndCells_length _) (nodes_news (HA.out.below (below_alloc _ _))) (ndCells_all _) (by unfold maxLen; omega) (by omega) (by simp) ?_); intro v2 w2 ho2 hgrow hnl; rw [Nat.zero_add, List.nil_append] at ho2; have O2 : Hid (World.ownsRow _ _ _ _ _ _ _) := ho2; have B2 : Hid (Below w.heap.size w w2) := Below.grown (below_alloc _ _) hgrow (by simp) (by intro k hk; simp [Value.ownBlock] at hk; omega); clear hgrow hnl ho2))
  go_ret
  exact ⟨_, rfl, O2.out, B2.out⟩
set_option maxRecDepth 100000 in
theorem nInts_any (ba : Option Addr) (ga oa ca : Nat) (L : List Int) (w : World) (h : WsAt w ba ga oa L) (hnil : ba = none → L.length = 0 ∧ ca = 0) (hby : L.length * 8 ≤ 140737488355328) :
    Calls Try.prog 16 #[.slice ba L.length ca] w fun e w' => ∃ v, e = .returned v ∧ w'.ownsRow w.heap.size 3 1 v L.length (isC L) ∧ Below w.heap.size w w' := by
  have HA : Hid (WsAt _ _ _ _ _) := h
  have HN : Hid (ba = none → L.length = 0 ∧ ca = 0) := hnil
  clear h hnil
  obtain ⟨i0, hi0, hz0, hz1, hz2⟩ := info_parts in_info
  go_enter Try.func16, Try.ntmps16
  go_wp2_with (first | (at_builtin; (refine wpList_append_all (by rfl) _ _ _ (by rfl) w.heap.size 3 i0 _ 1 8 ins_under hi0 hz0 hz1 hz2 rfl (by omega) _ 0 [] (by rfl) ⟨rfl, Or.inr ⟨w.heap.size, 0, #[], rfl, Nat.le_refl _, heap_alloc_at _ _ _ rfl, Nat.le_refl _, (by unfold maxLen; omega), rfl, rfl⟩⟩ ba L.length ca (isC L) (by rfl) HN.out (by rw [isC_length]; omega) (ws_news (HA.out.below (below_alloc _ _))) (isC_all _) (by unfold maxLen; omega) (by omega) (by simp) ?_); intro v2 w2 ho2 hgrow hnl; rw [Nat.zero_add, List.nil_append] at ho2; have O2 : Hid (World.ownsRow _ _ _ _ _ _ _) := ho2; have B2 : Hid (Below w.heap.size w w2) := Below.grown (below_alloc _ _) hgrow (by simp) (by intro k hk; simp [Value.ownBlock] at hk; omega); clear hgrow hnl ho2))
  go_ret
  exact ⟨_, rfl, O2.out, B2.out⟩

set_option maxRecDepth 100000 in
set_option maxHeartbeats 1000000 in
theorem loads_any (n : Nat) (hn : n ≤ 1000000) (w : World) : Calls Try.prog 40 #[.int .i64 (n : Int)] w fun e w' => ∃ v, e = .returned v ∧ w'.ownsRow w.heap.size 3 1 v n (isC (List.replicate n 1)) ∧ Below w.heap.size w w' := by
  obtain ⟨i0, hi0, hz0, hz1, hz2⟩ := info_parts int_info
  have n0 : (0 : Int) ≤ (n : Int) := Int.natCast_nonneg _
  have n1 : (n : Int) ≤ 1000000 := by omega
  go_enter Try.func40, Try.ntmps40
  go_wp2_with fail
  go_loopw [4, 3] (fun vi vl wr => ∃ j : Nat, j ≤ n ∧ vi = .int .i64 (j : Int) ∧ wr.ownsRow w.heap.size 3 1 vl j (isC (List.replicate j 1)) ∧ Below w.heap.size w wr) (fun vi _ _ => n - (intOf vi).toNat)
  case atStart => exact ⟨0, Nat.zero_le _, rfl, World.ownsRow_nil _ _ _ _, Below.refl _ _⟩
  case round =>
    obtain ⟨j, hj, rfl, ho, hb⟩ := hrel
    rename World => wj
    have HJ : Hid (Below w.heap.size w wj) := hb
    obtain ⟨aj, cj, rfl⟩ := owns_slice ho
    have j0 : (0 : Int) ≤ (j : Int) := Int.natCast_nonneg _
    have OJ : Hid (wj.ownsRow w.heap.size 3 1 (.slice aj j cj) j (isC (List.replicate j 1))) := ho
    have zj : w.heap.size ≤ wj.heap.size := hb.size
    clear hb
    by_cases hjl : j < n
    · have j1 : (j : Int) < (n : Int) := by omega
      go_wp2_with (first | (at_builtin; (refine wpList_append_lies _ (by rfl) _ _ _ (by rfl) w.heap.size 3 i0 _ 1 8 ints_under hi0 hz0 hz1 hz2 rfl (by omega) _ j (isC (List.replicate j 1)) (by rfl) (ho.alloc _) ⟨wj.heap.size, 0, none⟩ 1 1 [.int .i64 1] (by rfl) (by rfl) (World.news_of_block (cs := #[.int .i64 1]) (t := 3) (fr := (0, 0)) (heap_alloc_at _ _ _ rfl)) (by simp [Value.oneCell']) (by omega) (by unfold maxLen; omega) (by omega) (by simp; omega) (wj.heap.size + 1) (by simp) ?_); intro gg cap wk hown1 hgrow hat hlt1; have HK1 : Hid (wk.ownsRow w.heap.size 3 1 (.slice (some ⟨gg, 0, none⟩) (j + 1) cap) (j + 1) (isC (List.replicate j 1) ++ [.int .i64 1])) := hown1; have HKB : Hid (Below w.heap.size w wk) := HJ.out.trans (Below.grown ((Below.refl w.heap.size wj).alloc zj _) hgrow (by simp; omega) (owns_ge OJ.out)); clear hgrow hat hlt1))
      refine ⟨⟨j + 1, by omega, by first | rfl | go_num, ?_, HKB.out⟩, by simp [intOf]; omega⟩
      rw [List.replicate_succ', isC_append]
      exact HK1.out
    · obtain rfl : j = n := by omega
      clear ho
      generalize hv : Value.slice aj j cj = vj at OJ ⊢
      clear hv
      go_wp2_with fail
      go_ret
      exact ⟨_, rfl, OJ.out, HJ.out⟩
set_option maxRecDepth 100000 in
set_option maxHeartbeats 1000000 in
theorem rWalk_any (base : Option Addr) (b o c : Nat) (t : NL) (key : Int) (w : World) (h : NodesAt w base b o t) :
    Calls Try.prog 14 #[.slice base t.length c, .int .i64 key] w fun e w' => ∃ v u, e = .returned (.tuple #[v, u, .int .i64 (formE t)]) ∧ w'.ownsRow w.heap.size 3 1 v (wkL t key).length (natC (wkL t key)) ∧ w'.ownsRow w.heap.size 3 1 u (wkK t key).length (isC (wkK t key)) ∧ Below w.heap.size w w' := by
  have HC : Hid _ := vcheck_any base b o c t w h
  by_cases he : formE t = 0
  · have HE : Hid (formE t = 0) := he
    have HN : Hid (NodesAt w base b o t) := h
    obtain ⟨hw1, hw2, hw3⟩ := wayN (norm_form he) key
    have e1 : wkL t key = wayL (normL t) key := if_pos he
    have e2 : wkK t key = List.replicate ((wayL (normL t) key).length - 1) 1 := by unfold wkK; rw [e1]
    rw [e1, e2]
    have q : (formE t != 0) = false := by simp [he]
    clear h he e1 e2
    go_enter Try.func14, Try.ntmps14
    go_wp2_with fail
    refine Calls.mono HC.out ?_
    rintro e w1 ⟨rfl, hb1⟩
    have HM : Hid _ := vNorm_any base b o c t w1 (HN.out.below hb1) HE.out
    have B1 : Hid (Below w.heap.size w w1) := hb1
    clear hb1
    go_wp2_with fail
    refine Calls.mono HM.out ?_
    rintro e w2 ⟨v2, rfl, ho2, hb2⟩
    obtain ⟨bs2, cp2, g2, rfl, -, -, hs2⟩ := nodes_of_owns ho2
    have HP : Hid _ := vPath_any bs2 g2 0 cp2 (normL t) key _ w2 hs2 hw1 hw3
    have B2 : Hid (Below w.heap.size w w2) := B1.out.trans (hb2.mono B1.out.size)
    clear ho2 hs2 hb2 B1 HM
    go_wp2_with fail
    refine Calls.mono HP.out ?_
    rintro e w3 ⟨v3, rfl, ho3, hb3⟩
    obtain ⟨a3, c3, rfl⟩ := owns_slice ho3
    have HO3 : Hid (w3.ownsRow w2.heap.size 3 1 (.slice a3 (wayL (normL t) key).length c3) (wayL (normL t) key).length (natC (wayL (normL t) key))) := ho3
    have B3 : Hid (Below w.heap.size w w3) := B2.out.trans (hb3.mono B2.out.size)
    have z3 : w.heap.size ≤ w2.heap.size := B2.out.size
    have z4 : w2.heap.size ≤ w3.heap.size := hb3.size
    obtain ⟨m, hm⟩ : ∃ m, (wayL (normL t) key).length = m + 1 := ⟨(wayL (normL t) key).length - 1, by omega⟩
    have em : ((m + 1 : Nat) : Int) - 1 = (m : Int) := by omega
    have HL : Hid _ := loads_any m (by omega) w3
    rw [hm] at HO3 ⊢
    have m0 : (0 : Int) ≤ (m : Int) := Int.natCast_nonneg _
    have m1 : (m : Int) ≤ 100000 := by omega
    have wr : IntKind.i64.wrap (((m + 1 : Nat) : Int) - 1) = (m : Int) := by rw [IntKind.wrap_i64] <;> omega
    have wr2 : wrap64 (((m + 1 : Nat) : Int) - 1) = (m : Int) := by unfold wrap64; omega
    clear ho3 hb3 B2 HP hw1 hw2 hw3
    go_wp2_with fail
    refine Calls.mono HL.out ?_
    rintro e w4 ⟨v4, rfl, ho4, hb4⟩
    have HO4 : Hid _ := ho4
    have HB4 : Hid (Below w3.heap.size w3 w4) := hb4
    clear ho4 hb4
    go_wp2_with fail
    go_ret3
    rw [HE.out]
    refine ⟨.slice a3 (m + 1) c3, v4, rfl, by rw [hm]; exact owns_down (owns_below HO3.out HB4.out) z3, ?_, B3.out.trans (HB4.out.mono B3.out.size)⟩
    have := owns_down HO4.out (B3.out.size)
    rw [hm]
    simpa using this
  · have HE : Hid (formE t = 0 → False) := he
    have q : (formE t != 0) = true := by simp [he]
    have e1 : wkL t key = [] := if_neg he
    have e2 : wkK t key = [] := by unfold wkK; rw [e1]; rfl
    rw [e1, e2]
    clear h he e1 e2
    go_enter Try.func14, Try.ntmps14
    go_wp2_with fail
    refine Calls.mono HC.out ?_
    rintro e w1 ⟨rfl, hb1⟩
    have HB : Hid (Below w.heap.size w w1) := hb1
    clear hb1
    go_wp2_with fail
    go_ret3
    exact ⟨_, _, rfl, World.ownsRow_nil _ _ _ _, World.ownsRow_nil _ _ _ _, HB.out⟩
end Go.Proofs.Ythdfpddijocfkaa

namespace Go.Proofs.Ythdfpddijocfkaa

open Go.RowKit

attribute [local go_sem ↓] Go.wp_at_zero Go.wp_at_succ

def innB (t : NL) (i : Nat) : Bool := decide (0 ≤ (ndAt t i).l)
theorem tree_inn {t : NL} {p : Nat} {L : List Nat} (h : Tree t p L) : 2 * (L.filter (innB t)).length + 1 = L.length := by
  induction h with
  | leaf h1 h2 h3 =>
    rw [List.filter_cons_of_neg (by simp [innB, h2])]
    rfl
  | inner h1 h2 h3 a b ih1 ih2 =>
    rw [List.filter_cons_of_pos (by simp [innB, h2])]
    simp only [List.length_cons, List.filter_append, List.length_append]
    omega
theorem inn_count {t : NL} (he : formE t = 0) : 2 * cntB (innB t) t.length + 1 = t.length := by
  obtain ⟨-, hf⟩ := formE_ok he
  obtain ⟨h1, h2, h3⟩ := theL_form hf
  have := tree_inn h1
  rw [nodup_count (innB t) h2 h1.all h3, h3] at this
  exact this
theorem trK_count {T : NL} (ok : LaidOk T) : ∀ j, j ≤ T.length → (trK T j).length = 2 * cntB (innB T) j
  | 0, _ => rfl
  | j + 1, h => by
    have ih := trK_count ok j (by omega)
    simp only [trK, cntB, List.length_append, ih]
    rcases (ok.each j (by omega)).2 with ⟨e, _⟩ | ⟨r, e, _⟩
    · rw [if_pos e, if_neg (by simp [innB, e])]; simp
    · rw [if_neg (by rw [e]; omega), if_pos (by simp only [innB, e]; exact decide_eq_true (Int.natCast_nonneg _))]; simp; omega
theorem norm_len {t : NL} (he : formE t = 0) : (normL t).length = t.length := by
  obtain ⟨-, hf⟩ := formE_ok he
  obtain ⟨h1, h2, h3⟩ := theL_form hf
  rw [normL_ok he, partL_length, h3]
theorem rdK_len {t : NL} (he : formE t = 0) : (rdK t).length = 2 * cntB (innB t) t.length := by
  have a := inn_count he
  have b := inn_count (norm_form he)
  have c := trK_count (norm_ok he) (normL t).length (Nat.le_refl _)
  have d := norm_len he
  unfold rdK
  omega
theorem rdK_is {t : NL} (he : formE t = 0) : rdK t = List.replicate (2 * cntB (innB t) t.length) 1 := by
  rw [← rdK_len he]
  exact trK_ones _ _
theorem cntB_succ (f : Nat → Bool) (n : Nat) : cntB f (n + 1) = cntB f n + if f n then 1 else 0 := rfl
theorem cntB_le (f : Nat → Bool) : ∀ n, cntB f n ≤ n
  | 0 => Nat.le_refl _
  | n + 1 => by
    have := cntB_le f n
    unfold cntB
    split <;> omega

set_option maxRecDepth 100000 in
set_option maxHeartbeats 1000000 in
theorem rRound_any (base : Option Addr) (b o c : Nat) (t : NL) (w : World) (h : NodesAt w base b o t) :
    Calls Try.prog 10 #[.slice base t.length c] w fun e w' => ∃ v u, e = .returned (.tuple #[v, u, .int .i64 (formE t)]) ∧ w'.ownsRow w.heap.size 81 6 v (normL t).length (ndCells (normL t)) ∧ w'.ownsRow w.heap.size 3 1 u (if formE t = 0 then rdK t else []).length ((if formE t = 0 then rdK t else []).map (Value.int .i64)) ∧ Below w.heap.size w w' := by
  have HC : Hid _ := vcheck_any base b o c t w h
  by_cases he : formE t = 0
  · have HE : Hid (formE t = 0) := he
    have HN : Hid (NodesAt w base b o t) := h
    obtain ⟨hbig, hf⟩ := formE_ok he
    have HBG : Hid (t.length ≤ 100000) := hbig
    rw [if_pos he]
    have q : (formE t != 0) = false := by simp [he]
    have t0 : (0 : Int) ≤ (t.length : Int) := Int.natCast_nonneg _
    have t1 : (t.length : Int) ≤ 100000 := by omega
    clear h he hf hbig
    go_enter Try.func10, Try.ntmps10
    go_wp2_with fail
    refine Calls.mono HC.out ?_
    rintro e w1 ⟨rfl, hb1⟩
    have N1 : Hid (NodesAt w1 base b o t) := HN.out.below hb1
    have B1 : Hid (Below w.heap.size w w1) := hb1
    clear hb1
    go_wp2_with fail
    go_loopw [7, 6] (fun vi vn wr => ∃ j n : Nat, j ≤ t.length ∧ vi = .int .i64 (j : Int) ∧ vn = .int .i64 (n : Int) ∧ n = 2 * cntB (innB t) j ∧ wr = w1) (fun vi _ _ => t.length - (intOf vi).toNat)
    case atStart => exact ⟨0, 0, Nat.zero_le _, rfl, rfl, rfl, rfl⟩
    case round =>
      obtain ⟨j, n, hj, rfl, rfl, hn, hw⟩ := hrel
      have HNN : Hid (n = 2 * cntB (innB t) j) := hn
      rename World => wj
      subst hw
      have j0 : (0 : Int) ≤ (j : Int) := Int.natCast_nonneg _
      have hcle := cntB_le (innB t) j
      have n0 : (0 : Int) ≤ (n : Int) := Int.natCast_nonneg _
      have n1 : (n : Int) ≤ 200000 := by omega
      clear hn hcle
      by_cases hjl : j < t.length
      · have j1 : (j : Int) < (t.length : Int) := by omega
        obtain ⟨d0, d1, d2, d3, d4, d5⟩ := N1.out.cells j hjl
        obtain rfl : base = some ⟨b, o, none⟩ := N1.out.base (by omega)
        by_cases hp : 0 ≤ (ndAt t j).l
        · have HP : Hid (innB t j = true) := by show _ = _; simp [innB, hp]
          go_wp2_with fail
          exact ⟨⟨j + 1, n + 2, by omega, by first | rfl | go_num, by first | rfl | go_num, by have := HNN.out; rw [cntB_succ, HP.out]; simp; omega, by first | rfl | trivial⟩, by simp [intOf]; omega⟩
        · have HP : Hid (innB t j = false) := by show _ = _; simp [innB]; omega
          go_wp2_with fail
          exact ⟨⟨j + 1, n, by omega, by first | rfl | go_num, by first | rfl | go_num, by have := HNN.out; rw [cntB_succ, HP.out]; simpa using this, by first | rfl | trivial⟩, by simp [intOf]; omega⟩
      · obtain rfl : j = t.length := by omega
        have HKI : Hid (rdK t = List.replicate n 1) := by show _ = _; rw [HNN.out]; exact rdK_is HE.out
        have HM : Hid _ := vNorm_any base b o c t wj N1.out HE.out
        go_wp2_with fail
        refine Calls.mono HM.out ?_
        rintro e w2 ⟨v2, rfl, ho2, hb2⟩
        have HO2 : Hid (w2.ownsRow wj.heap.size 81 6 v2 (normL t).length (ndCells (normL t))) := ho2
        have HB2 : Hid (Below wj.heap.size wj w2) := hb2
        have HL : Hid _ := loads_any n (by have := HBG.out; omega) w2
        clear ho2 hb2
        go_wp2_with fail
        refine Calls.mono HL.out ?_
        rintro e w3 ⟨v3, rfl, ho3, hb3⟩
        have HO3 : Hid (w3.ownsRow w2.heap.size 3 1 v3 n (isC (List.replicate n 1))) := ho3
        have HB3 : Hid (Below w2.heap.size w2 w3) := hb3
        clear ho3 hb3
        go_wp2_with fail
        go_ret3
        rw [HE.out, HKI.out]
        refine ⟨v2, v3, rfl, owns_down (owns_below HO2.out HB3.out) B1.out.size, ?_, B1.out.trans ((HB2.out.trans (HB3.out.mono HB2.out.size)).mono B1.out.size)⟩
        have := owns_down HO3.out (show w.heap.size ≤ w2.heap.size from Nat.le_trans B1.out.size HB2.out.size)
        rw [map_isC, List.length_replicate]
        exact this
  · have HE : Hid (formE t = 0 → False) := he
    have q : (formE t != 0) = true := by simp [he]
    rw [if_neg he]
    clear h he
    go_enter Try.func10, Try.ntmps10
    go_wp2_with fail
    refine Calls.mono HC.out ?_
    rintro e w1 ⟨rfl, hb1⟩
    have HB : Hid (Below w.heap.size w w1) := hb1
    clear hb1
    go_wp2_with fail
    go_ret3
    exact ⟨_, _, rfl, by rw [normL_bad (fun q => HE.out q)]; exact World.ownsRow_nil _ _ _ _, World.ownsRow_nil _ _ _ _, HB.out⟩
end Go.Proofs.Ythdfpddijocfkaa

namespace Go.Proofs.Ythdfpddijocfkaa

open Go.RowKit

theorem goesL_ndP {n m : NdD} (h : ndP n = ndP m) (key : Int) : goesL n key ↔ goesL m key := by
  have h1 : n.key = m.key := congrArg PD.key h
  have h2 : n.inf = m.inf := congrArg PD.inf h
  unfold goesL
  rw [h1, h2]
theorem abs_way {t T : NL} {key : Int} {b : BT} {p : Nat} (h : Abs t p b) : ∀ {q : Nat}, Abs T q b → ∃ P Q, Way t key p P ∧ Way T key q Q ∧ P.length = Q.length ∧ ndP (ndAt t (P.getLastD 0)) = ndP (ndAt T (Q.getLastD 0)) ∧ (ndAt t (P.getLastD 0)).l = -1 ∧ (ndAt T (Q.getLastD 0)).l = -1 := by
  induction h with
  | @leaf p h1 h2 h3 =>
    intro q hq
    generalize hb : BT.leaf (ndP (ndAt t p)) = b at hq
    cases hq with
    | leaf g1 g2 g3 =>
      injection hb with hb
      exact ⟨[p], [q], Way.leaf h1 h2 h3, Way.leaf g1 g2 g3, rfl, hb, h2, g2⟩
    | node => cases hb
  | @node p l r a b h1 h2 h3 ha hb iha ihb =>
    intro q hq
    generalize hc : BT.node (ndP (ndAt t p)) a b = c at hq
    cases hq with
    | leaf => cases hc
    | @node _ l' r' a' b' g1 g2 g3 ga gb =>
      injection hc with hd e1 e2
      subst e1
      subst e2
      have hg := goesL_ndP hd key
      by_cases g : goesL (ndAt t p) key
      · obtain ⟨P, Q, w1, w2, w3, w4, w5, w6⟩ := iha ga
        obtain ⟨P', rfl⟩ := w1.head
        obtain ⟨Q', rfl⟩ := w2.head
        exact ⟨p :: l :: P', q :: l' :: Q', Way.inner h1 h2 h3 (by rw [if_pos g]) w1, Way.inner g1 g2 g3 (by rw [if_pos (hg.1 g)]) w2, by simpa using w3, by simpa [List.getLastD_cons] using w4, by simpa [List.getLastD_cons] using w5, by simpa [List.getLastD_cons] using w6⟩
      · obtain ⟨P, Q, w1, w2, w3, w4, w5, w6⟩ := ihb gb
        obtain ⟨P', rfl⟩ := w1.head
        obtain ⟨Q', rfl⟩ := w2.head
        exact ⟨p :: r :: P', q :: r' :: Q', Way.inner h1 h2 h3 (by rw [if_neg g]) w1, Way.inner g1 g2 g3 (by rw [if_neg (fun c => g (hg.2 c))]) w2, by simpa using w3, by simpa [List.getLastD_cons] using w4, by simpa [List.getLastD_cons] using w5, by simpa [List.getLastD_cons] using w6⟩
/-- A search in the raw table. -/
theorem way_raw {t : NL} (he : formE t = 0) (key : Int) : ansK t key = (if (ndAt t ((wayL t key).getLastD 0)).inf = 0 ∧ (ndAt t ((wayL t key).getLastD 0)).key = key then some (ndAt t ((wayL t key).getLastD 0)).val else none) ∧ (wayL (normL t) key).length = (wayL t key).length := by
  obtain ⟨b, hl, hok, hs, ha⟩ := norm_lay he
  have hb : Abs (normL t) 0 b := by rw [hl]; exact lay_abs0 b
  obtain ⟨P, Q, w1, w2, w3, w4, w5, w6⟩ := abs_way (key := key) ha hb
  rw [wayL_of he w1, wayL_of (norm_form he) w2]
  refine ⟨?_, w3.symm⟩
  unfold ansK ansN
  rw [wayL_of (norm_form he) w2]
  have k1 : (ndAt t (P.getLastD 0)).key = (ndAt (normL t) (Q.getLastD 0)).key := congrArg PD.key w4
  have k2 : (ndAt t (P.getLastD 0)).inf = (ndAt (normL t) (Q.getLastD 0)).inf := congrArg PD.inf w4
  have k3 : (ndAt t (P.getLastD 0)).val = (ndAt (normL t) (Q.getLastD 0)).val := congrArg PD.val w4
  rw [k1, k2, k3]
  generalize Q.getLastD 0 = x at w6 ⊢
  simp [w6]
end Go.Proofs.Ythdfpddijocfkaa


namespace Go.Proofs.Ythdfpddijocfkaa

open Go.RowKit

attribute [local go_sem ↓] Go.wp_at_zero Go.wp_at_succ

/-- An own row stands where a row of another type grows. -/
theorem owns_grownT {w w' : World} {B B' sz sz' n n' : Nat} {e e' : TypeId} {v v' : Value} {xs xs' : List Value} {o : Obj} (h : w.ownsRow B e sz v n xs) (k : w.ownsRow B' e' sz' v' n' xs') (ht : e ≠ e') (hg : (w.alloc o).grownBy w' v'.ownBlock) : w'.ownsRow B e sz v n xs := by
  obtain ⟨a1, a2⟩ := h
  refine ⟨a1, ?_⟩
  rcases a2 with ⟨rfl, e0⟩ | ⟨g, cap, cur, rfl, hB, hh, hr⟩
  · exact Or.inl ⟨rfl, e0⟩
  · have hl := (Array.getElem?_eq_some_iff.1 hh).1
    refine Or.inr ⟨g, cap, cur, rfl, hB, ?_, hr⟩
    rw [hg.block g (by simp; omega) (fun q => ht (typ.one ⟨_, _, hh⟩ (owns_typ k q.symm))), heap_alloc_old _ _ hl]
    exact hh
set_option maxRecDepth 100000 in
set_option maxHeartbeats 4000000 in
theorem rSeek_any (base : Option Addr) (b o c : Nat) (t : NL) (bk : Option Addr) (gk ok ck : Nat) (keys : List Int) (w : World) (h : NodesAt w base b o t) (hk : WsAt w bk gk ok keys) :
    Calls Try.prog 17 #[.slice base t.length c, .slice bk keys.length ck] w fun e w' => ∃ v u, e = .returned (.tuple #[v, u, .int .i64 (skE t keys)]) ∧ w'.ownsRow w.heap.size 93 4 v (if skE t keys = 0 then keys.length else 0) (if skE t keys = 0 then skC (skA t keys) else []) ∧ w'.ownsRow w.heap.size 3 1 u (if skE t keys = 0 then keys.length else 0) (if skE t keys = 0 then isC (skN t keys) else []) ∧ Below w.heap.size w w' := by
  have HC : Hid _ := vcheck_any base b o c t w h
  have HN : Hid (NodesAt w base b o t) := h
  have HK : Hid (WsAt w bk gk ok keys) := hk
  by_cases he : formE t = 0
  · have HE : Hid (formE t = 0) := he
    have q : (formE t != 0) = false := by simp [he]
    by_cases hl : 1000 < keys.length
    · have e1 : skE t keys = 2 := by unfold skE; rw [if_neg (by simp [he]), if_pos hl]
      rw [e1]
      have q2 : ((1000 : Int) < (keys.length : Int)) := by omega
      clear h hk he e1
      go_enter Try.func17, Try.ntmps17
      go_wp2_with fail
      refine Calls.mono HC.out ?_
      rintro e w1 ⟨rfl, hb1⟩
      have HB : Hid (Below w.heap.size w w1) := hb1
      clear hb1
      go_wp2_with fail
      go_ret3
      exact ⟨_, _, rfl, World.ownsRow_nil _ _ _ _, World.ownsRow_nil _ _ _ _, HB.out⟩
    · have e1 : skE t keys = 0 := by unfold skE; rw [if_neg (by simp [he]), if_neg hl]
      rw [e1]
      simp only [if_true]
      obtain ⟨i0, hi0, hz0, hz1, hz2⟩ := info_parts int_info
      obtain ⟨i1, hi1, hy0, hy1, hy2⟩ := info_parts ret_info
      have q2 : (keys.length : Int) ≤ 1000 := by omega
      have q3 : (0 : Int) ≤ (keys.length : Int) := Int.natCast_nonneg _
      have WY : Hid (∀ k, Way t k 0 (wayL t k) ∧ 0 < (wayL t k).length ∧ (wayL t k).length ≤ 100000 ∧ ∀ y ∈ wayL t k, y < t.length) := fun k => way_all he k
      have WR : Hid (∀ k, ansK t k = (if (ndAt t ((wayL t k).getLastD 0)).inf = 0 ∧ (ndAt t ((wayL t k).getLastD 0)).key = k then some (ndAt t ((wayL t k).getLastD 0)).val else none) ∧ (wayL (normL t) k).length = (wayL t k).length) := fun k => way_raw he k
      have hbig := (formE_ok he).1
      have t0 : (0 : Int) ≤ (t.length : Int) := Int.natCast_nonneg _
      have t1 : (t.length : Int) ≤ 100000 := by omega
      clear h hk he e1 hbig
      go_enter Try.func17, Try.ntmps17
      go_wp2_with fail
      refine Calls.mono HC.out ?_
      rintro e w1 ⟨rfl, hb1⟩
      have HB1 : Hid (Below w.heap.size w w1) := hb1
      clear hb1
      go_wp2_with fail
      go_loopw [10, 8, 9] (fun vi vr vn wr => ∃ i : Nat, i ≤ keys.length ∧ vi = .int .i64 (i : Int) ∧ wr.ownsRow w.heap.size 93 4 vr i (skC (skA t (keys.take i))) ∧ wr.ownsRow w.heap.size 3 1 vn i (isC (skN t (keys.take i))) ∧ Below w.heap.size w wr) (fun vi _ _ _ => keys.length - (intOf vi).toNat)
      case atStart => exact ⟨0, Nat.zero_le _, rfl, World.ownsRow_nil _ _ _ _, World.ownsRow_nil _ _ _ _, HB1.out⟩
      case round =>
        obtain ⟨i, hi, rfl, hor, hon, hbw⟩ := hrel
        rename World => wr
        obtain ⟨ar, cr, rfl⟩ := owns_slice hor
        obtain ⟨an, cn, rfl⟩ := owns_slice hon
        have OR : Hid (wr.ownsRow w.heap.size 93 4 (.slice ar i cr) i (skC (skA t (keys.take i)))) := hor
        have ON : Hid (wr.ownsRow w.heap.size 3 1 (.slice an i cn) i (isC (skN t (keys.take i)))) := hon
        have HW : Hid (Below w.heap.size w wr) := hbw
        have zr : w.heap.size ≤ wr.heap.size := hbw.size
        clear hor hon hbw
        have i0' : (0 : Int) ≤ (i : Int) := Int.natCast_nonneg _
        by_cases hil : i < keys.length
        · have i1' : (i : Int) < (keys.length : Int) := by omega
          obtain rfl : bk = some ⟨gk, ok, none⟩ := HK.out.base (by omega)
          have ck0 := (HW.out.cell (p := ⟨gk, ok + i, none⟩) (HK.out.lt (by omega))).trans (HK.out.cells i hil)
          obtain ⟨key, hkey⟩ : ∃ key, keys.getD i 0 = key := ⟨_, rfl⟩
          rw [hkey] at ck0
          have HKY : Hid (keys[i]? = some key) := by show _ = _; rw [← hkey, List.getD_eq_getElem?_getD, List.getElem?_eq_getElem hil]; rfl
          have HKW : Hid (∀ W, Below w.heap.size w W → W.cell? ⟨gk, ok + i, none⟩ = some (.int .i64 key)) := fun W hb => by
            rw [← hkey]
            exact (hb.cell (p := ⟨gk, ok + i, none⟩) (HK.out.lt (by omega))).trans (HK.out.cells i hil)
          obtain ⟨y1, y2, y3, y4⟩ := WY.out key
          obtain ⟨r1, r2⟩ := WR.out key
          have HP : Hid _ := vPath_any base b o c t key _ wr (HN.out.below (HW.out)) y1 y3
          clear hkey
          go_wp2_with fail
          refine Calls.mono HP.out ?_
          rintro e w2 ⟨v2, rfl, ho2, hb2⟩
          obtain ⟨g2, c2, rfl, hB2, hg2, hc2, hx2⟩ := own_rowC ho2 y2
          obtain ⟨m, hm⟩ : ∃ m, (wayL t key).length = m + 1 := ⟨(wayL t key).length - 1, by omega⟩
          obtain ⟨x, hx⟩ : ∃ x, (wayL t key).getLastD 0 = x := ⟨_, rfl⟩
          have hx3 : (wayL t key)[m]? = some x := by
            rw [← hx, List.getLastD_eq_getLast?, List.getLast?_eq_getElem?, hm, Nat.add_sub_cancel, List.getElem?_eq_getElem (by omega)]
            rfl
          have hxt : x < t.length := y4 x (List.mem_of_getElem? hx3)
          have cx : w2.cell? ⟨g2, m, none⟩ = some (.int .i64 (x : Int)) := by
            rw [hx2 m (by omega), natC, List.getElem?_map, hx3]
            rfl
          rw [hx] at r1
          rw [hm] at hc2 r2 ⊢
          have m0 : (0 : Int) ≤ (m : Int) := Int.natCast_nonneg _
          have m1 : (m : Int) ≤ 100000 := by omega
          have x0 : (0 : Int) ≤ (x : Int) := Int.natCast_nonneg _
          have x1 : (x : Int) < (t.length : Int) := by omega
          have em : (((m + 1 : Nat) : Int) - 1) = (m : Int) := by omega
          have wr1 : IntKind.i64.wrap (((m + 1 : Nat) : Int) - 1) = (m : Int) := by rw [IntKind.wrap_i64] <;> omega
          have wr2 : wrap64 (((m + 1 : Nat) : Int) - 1) = (m : Int) := by unfold wrap64; omega
          have B02 : Hid (Below w.heap.size w w2) := HW.out.trans (hb2.mono zr)
          obtain ⟨d0, d1, d2, d3, d4, d5⟩ := (HN.out.below B02.out).cells x hxt
          obtain rfl : base = some ⟨b, o, none⟩ := HN.out.base (by omega)
          have OR2 : Hid (w2.ownsRow w.heap.size 93 4 (.slice ar i cr) i (skC (skA t (keys.take i)))) := owns_below OR.out hb2
          have ON2 : Hid (w2.ownsRow w.heap.size 3 1 (.slice an i cn) i (isC (skN t (keys.take i)))) := owns_below ON.out hb2
          have ck2 := HKW.out w2 B02.out
          have z2 : w.heap.size ≤ w2.heap.size := B02.out.size
          have HTA : Hid (skA t (keys.take (i + 1)) = skA t (keys.take i) ++ [ansK t key]) := by show _ = _; rw [List.take_add_one, HKY.out]; simp [skA]
          have HTN : Hid (skN t (keys.take (i + 1)) = skN t (keys.take i) ++ [(m : Int)]) := by
            show _ = _
            rw [List.take_add_one, HKY.out]
            simp [skN, r2]
          have R1 : Hid _ := r1
          have hce : (m + 1 : Int) ≤ (c2 : Int) := by omega
          clear ho2 hb2 hx2 y1 y2 y3 y4 hx hx3 r1 r2 hm hB2 hg2 ck0
          generalize ndAt t x = nd at d0 d1 d2 d3 d4 d5 R1
          by_cases hf : nd.inf = 0
          · by_cases hq : nd.key = key
            · have g1 : (nd.inf == 0) = true := by simp [hf]
              have g2 : (nd.key == key) = true := by simp [hq]
              have RR : Hid (ansK t key = some nd.val) := by show _ = _; rw [R1.out, if_pos ⟨hf, hq⟩]
              clear R1 hf hq
              go_upto_region 14 with fail
              generalize hW1 : World.alloc (World.alloc w2 _) _ = W1 at *
              have bw1 : Below w2.heap.size w2 W1 := by rw [← hW1]; exact (below_alloc w2 _).alloc (by simp) _
              have r12 : W1.heap[w2.heap.size]? = some (.cells #[.int .i64 nd.key, .int .i64 nd.inf, .int .i64 nd.wt, .int .i64 nd.val, .int .i64 nd.l, .int .i64 nd.r] 81 (0, 0)) := by rw [← hW1]; exact (heap_alloc_old _ _ (by simp)).trans (heap_alloc_at _ _ _ rfl)
              have r13 : W1.heap[w2.heap.size + 1]? = some (.cells #[.bool false, .int .i64 0, .int .i64 0, .slice none 0 0] 93 (0, 0)) := by rw [← hW1]; exact heap_alloc_at _ _ _ (by simp)
              have n0 : W1.cell? ⟨w2.heap.size, 0, none⟩ = some (.int .i64 nd.key) := by simp only [World.cell?, r12]; rfl
              have n1 : W1.cell? ⟨w2.heap.size, 1, none⟩ = some (.int .i64 nd.inf) := by simp only [World.cell?, r12]; rfl
              have n3 : W1.cell? ⟨w2.heap.size, 3, none⟩ = some (.int .i64 nd.val) := by simp only [World.cell?, r12]; rfl
              have q0 : W1.cell? ⟨w2.heap.size + 1, 0, none⟩ = some (.bool false) := by simp only [World.cell?, r13]; rfl
              have q1 : W1.cell? ⟨w2.heap.size + 1, 1, none⟩ = some (.int .i64 0) := by simp only [World.cell?, r13]; rfl
              have q2 : W1.cell? ⟨w2.heap.size + 1, 2, none⟩ = some (.int .i64 0) := by simp only [World.cell?, r13]; rfl
              have q3 : W1.cell? ⟨w2.heap.size + 1, 3, none⟩ = some (.slice none 0 0) := by simp only [World.cell?, r13]; rfl
              have ck3 := HKW.out W1 (B02.out.trans (bw1.mono z2))
              have BW1 : Hid (Below w2.heap.size w2 W1) := bw1
              have R13 : Hid (W1.heap[w2.heap.size + 1]? = some (.cells #[.bool false, .int .i64 0, .int .i64 0, .slice none 0 0] 93 (0, 0))) := r13
              clear hW1 r12 r13 bw1
              go_quiet (fail)
              have z0 : W1.frozen? ⟨w2.heap.size + 1, 0, none⟩ = false := by simp [World.frozen?, R13.out]
              have z1 : W1.frozen? ⟨w2.heap.size + 1, 1, none⟩ = false := by simp [World.frozen?, R13.out]
              have z2' : W1.frozen? ⟨w2.heap.size + 1, 2, none⟩ = false := by simp [World.frozen?, R13.out]
              have z3 : W1.frozen? ⟨w2.heap.size + 1, 3, none⟩ = false := by simp [World.frozen?, R13.out]
              go_upto_region 16 with fail
              generalize hW0 : World.setCell (World.setCell (World.setCell (World.setCell (World.drewN W1 _) _ _) _ _) _ _) _ _ = W0 at *
              have bw0 : Below w2.heap.size w2 W0 := by rw [← hW0]; exact ((((below_drewN BW1.out _).setCell (by simp) _).setCell (by simp) _).setCell (by simp) _).setCell (by simp) _
              have r13 : W0.heap[w2.heap.size + 1]? = some (.cells #[.bool true, .int .i64 0, .int .i64 nd.val, .slice none 0 0] 93 (0, 0)) := by
                rw [← hW0, Go.Joins.block_setCell (Go.Joins.block_setCell (Go.Joins.block_setCell (Go.Joins.block_setCell (w := W1.drewN _) R13.out _) _) _)]
                rfl
              have p0 : W0.cell? ⟨w2.heap.size + 1, 0, none⟩ = some (.bool true) := by simp only [World.cell?, r13]; rfl
              have p1 : W0.cell? ⟨w2.heap.size + 1, 1, none⟩ = some (.int .i64 0) := by simp only [World.cell?, r13]; rfl
              have p2 : W0.cell? ⟨w2.heap.size + 1, 2, none⟩ = some (.int .i64 nd.val) := by simp only [World.cell?, r13]; rfl
              have p3 : W0.cell? ⟨w2.heap.size + 1, 3, none⟩ = some (.slice none 0 0) := by simp only [World.cell?, r13]; rfl
              clear hW0 r13
              have BW0 : Hid (Below w2.heap.size w2 W0) := bw0
              have ORW : Hid (W0.ownsRow w.heap.size 93 4 (.slice ar i cr) i (skC (skA t (keys.take i)))) := owns_below OR2.out bw0
              have ONW : Hid (W0.ownsRow w.heap.size 3 1 (.slice an i cn) i (isC (skN t (keys.take i)))) := owns_below ON2.out bw0
              have zw : w.heap.size ≤ W0.heap.size := Nat.le_trans z2 bw0.size
              clear bw0
              go_wp2_with (first
                | (at_builtin; (refine wpList_append_lies _ (by rfl) _ _ _ (by rfl) w.heap.size 93 i1 _ 4 48 rets_under hi1 hy0 hy1 hy2 rfl (by omega) _ i (skC (skA t (keys.take i))) (by rfl) (ORW.out.alloc _) ⟨W0.heap.size, 0, none⟩ 1 1 [.bool true, .int .i64 0, .int .i64 nd.val, .slice none 0 0] (by rfl) (by rfl) (World.news_of_block (cs := #[.bool true, .int .i64 0, .int .i64 nd.val, .slice none 0 0]) (t := 93) (fr := (0, 0)) (heap_alloc_at _ _ _ rfl)) (by simp [Value.oneCell']) (by omega) (by unfold maxLen; omega) (by omega) (by simp; omega) (W0.heap.size + 1) (by simp) ?_); intro gg cap wk hown1 hgrow hat hlt1; have HK1 : Hid (wk.ownsRow w.heap.size 93 4 (.slice (some ⟨gg, 0, none⟩) (i + 1) cap) (i + 1) (skC (skA t (keys.take i)) ++ [.bool true, .int .i64 0, .int .i64 nd.val, .slice none 0 0])) := hown1; have hbk : Below w.heap.size W0 wk := Below.grown ((Below.refl w.heap.size W0).alloc zw _) hgrow (by simp; omega) (owns_ge ORW.out); have hbk2 : wk.ownsRow w.heap.size 3 1 (.slice an i cn) i (isC (skN t (keys.take i))) := owns_grownT ONW.out (ORW.out) (by decide) hgrow; have ONK : Hid (wk.ownsRow w.heap.size 3 1 (.slice an i cn) i (isC (skN t (keys.take i)))) := hbk2; have HKB : Hid (Below w.heap.size W0 wk) := hbk; have zk : w.heap.size ≤ wk.heap.size := Nat.le_trans zw hbk.size; clear hown1 hgrow hat hlt1 hbk hbk2)
                | (at_builtin; (refine wpList_append_lies _ (by rfl) _ _ _ (by rfl) w.heap.size 3 i0 _ 1 8 ints_under hi0 hz0 hz1 hz2 rfl (by omega) _ i (isC (skN t (keys.take i))) (by rfl) (ONK.out.alloc _) ⟨wk.heap.size, 0, none⟩ 1 1 [.int .i64 (m : Int)] (by rfl) (by rfl) (World.news_of_block (cs := #[.int .i64 (m : Int)]) (t := 3) (fr := (0, 0)) (heap_alloc_at _ _ _ rfl)) (by simp [Value.oneCell']) (by omega) (by unfold maxLen; omega) (by omega) (by simp; omega) (wk.heap.size + 1) (by simp) ?_); intro gh caph wl hown2 hgrow2 hat2 hlt2; have HL1 : Hid (wl.ownsRow w.heap.size 3 1 (.slice (some ⟨gh, 0, none⟩) (i + 1) caph) (i + 1) (isC (skN t (keys.take i)) ++ [.int .i64 (m : Int)])) := hown2; have hbl2 : wl.ownsRow w.heap.size 93 4 (.slice (some ⟨gg, 0, none⟩) (i + 1) cap) (i + 1) (skC (skA t (keys.take i)) ++ [.bool true, .int .i64 0, .int .i64 nd.val, .slice none 0 0]) := owns_grownT HK1.out (ONK.out) (by decide) hgrow2; have HK2 : Hid (wl.ownsRow w.heap.size 93 4 (.slice (some ⟨gg, 0, none⟩) (i + 1) cap) (i + 1) (skC (skA t (keys.take i)) ++ [.bool true, .int .i64 0, .int .i64 nd.val, .slice none 0 0])) := hbl2; have HLB : Hid (Below w.heap.size W0 wl) := HKB.out.trans (Below.grown ((Below.refl w.heap.size wk).alloc zk _) hgrow2 (by simp; omega) (owns_ge ONK.out)); clear hown2 hgrow2 hat2 hlt2 hbl2))
              refine ⟨⟨i + 1, by omega, by first | rfl | go_num, ?_, ?_, B02.out.trans ((BW0.out.mono z2).trans HLB.out)⟩, by simp [intOf]; omega⟩
              · rw [HTA.out, skC_append, RR.out]
                exact HK2.out
              · rw [HTN.out, isC_append]
                exact HL1.out
            · have g1 : (nd.inf == 0) = true := by simp [hf]
              have g2 : (nd.key == key) = false := by simp [hq]
              have RR : Hid (ansK t key = none) := by show _ = _; rw [R1.out, if_neg (fun q => hq q.2)]
              clear R1 hf hq
              go_upto_region 14 with fail
              generalize hW1 : World.alloc (World.alloc w2 _) _ = W1 at *
              have bw1 : Below w2.heap.size w2 W1 := by rw [← hW1]; exact (below_alloc w2 _).alloc (by simp) _
              have r12 : W1.heap[w2.heap.size]? = some (.cells #[.int .i64 nd.key, .int .i64 nd.inf, .int .i64 nd.wt, .int .i64 nd.val, .int .i64 nd.l, .int .i64 nd.r] 81 (0, 0)) := by rw [← hW1]; exact (heap_alloc_old _ _ (by simp)).trans (heap_alloc_at _ _ _ rfl)
              have r13 : W1.heap[w2.heap.size + 1]? = some (.cells #[.bool false, .int .i64 0, .int .i64 0, .slice none 0 0] 93 (0, 0)) := by rw [← hW1]; exact heap_alloc_at _ _ _ (by simp)
              have n0 : W1.cell? ⟨w2.heap.size, 0, none⟩ = some (.int .i64 nd.key) := by simp only [World.cell?, r12]; rfl
              have n1 : W1.cell? ⟨w2.heap.size, 1, none⟩ = some (.int .i64 nd.inf) := by simp only [World.cell?, r12]; rfl
              have n3 : W1.cell? ⟨w2.heap.size, 3, none⟩ = some (.int .i64 nd.val) := by simp only [World.cell?, r12]; rfl
              have q0 : W1.cell? ⟨w2.heap.size + 1, 0, none⟩ = some (.bool false) := by simp only [World.cell?, r13]; rfl
              have q1 : W1.cell? ⟨w2.heap.size + 1, 1, none⟩ = some (.int .i64 0) := by simp only [World.cell?, r13]; rfl
              have q2 : W1.cell? ⟨w2.heap.size + 1, 2, none⟩ = some (.int .i64 0) := by simp only [World.cell?, r13]; rfl
              have q3 : W1.cell? ⟨w2.heap.size + 1, 3, none⟩ = some (.slice none 0 0) := by simp only [World.cell?, r13]; rfl
              have ck3 := HKW.out W1 (B02.out.trans (bw1.mono z2))
              have BW1 : Hid (Below w2.heap.size w2 W1) := bw1
              have R13 : Hid (W1.heap[w2.heap.size + 1]? = some (.cells #[.bool false, .int .i64 0, .int .i64 0, .slice none 0 0] 93 (0, 0))) := r13
              clear hW1 r12 r13 bw1
              go_quiet (fail)
              go_upto_region 16 with fail
              generalize hW0 : World.drewN W1 _ = W0 at *
              have bw0 : Below w2.heap.size w2 W0 := by rw [← hW0]; exact below_drewN BW1.out _
              have p0 : W0.cell? ⟨w2.heap.size + 1, 0, none⟩ = some (.bool false) := by rw [← hW0]; exact q0
              have p1 : W0.cell? ⟨w2.heap.size + 1, 1, none⟩ = some (.int .i64 0) := by rw [← hW0]; exact q1
              have p2 : W0.cell? ⟨w2.heap.size + 1, 2, none⟩ = some (.int .i64 0) := by rw [← hW0]; exact q2
              have p3 : W0.cell? ⟨w2.heap.size + 1, 3, none⟩ = some (.slice none 0 0) := by rw [← hW0]; exact q3
              clear hW0
              have BW0 : Hid (Below w2.heap.size w2 W0) := bw0
              have ORW : Hid (W0.ownsRow w.heap.size 93 4 (.slice ar i cr) i (skC (skA t (keys.take i)))) := owns_below OR2.out bw0
              have ONW : Hid (W0.ownsRow w.heap.size 3 1 (.slice an i cn) i (isC (skN t (keys.take i)))) := owns_below ON2.out bw0
              have zw : w.heap.size ≤ W0.heap.size := Nat.le_trans z2 bw0.size
              clear bw0
              go_wp2_with (first
                | (at_builtin; (refine wpList_append_lies _ (by rfl) _ _ _ (by rfl) w.heap.size 93 i1 _ 4 48 rets_under hi1 hy0 hy1 hy2 rfl (by omega) _ i (skC (skA t (keys.take i))) (by rfl) (ORW.out.alloc _) ⟨W0.heap.size, 0, none⟩ 1 1 [.bool false, .int .i64 0, .int .i64 0, .slice none 0 0] (by rfl) (by rfl) (World.news_of_block (cs := #[.bool false, .int .i64 0, .int .i64 0, .slice none 0 0]) (t := 93) (fr := (0, 0)) (heap_alloc_at _ _ _ rfl)) (by simp [Value.oneCell']) (by omega) (by unfold maxLen; omega) (by omega) (by simp; omega) (W0.heap.size + 1) (by simp) ?_); intro gg cap wk hown1 hgrow hat hlt1; have HK1 : Hid (wk.ownsRow w.heap.size 93 4 (.slice (some ⟨gg, 0, none⟩) (i + 1) cap) (i + 1) (skC (skA t (keys.take i)) ++ [.bool false, .int .i64 0, .int .i64 0, .slice none 0 0])) := hown1; have hbk : Below w.heap.size W0 wk := Below.grown ((Below.refl w.heap.size W0).alloc zw _) hgrow (by simp; omega) (owns_ge ORW.out); have hbk2 : wk.ownsRow w.heap.size 3 1 (.slice an i cn) i (isC (skN t (keys.take i))) := owns_grownT ONW.out (ORW.out) (by decide) hgrow; have ONK : Hid (wk.ownsRow w.heap.size 3 1 (.slice an i cn) i (isC (skN t (keys.take i)))) := hbk2; have HKB : Hid (Below w.heap.size W0 wk) := hbk; have zk : w.heap.size ≤ wk.heap.size := Nat.le_trans zw hbk.size; clear hown1 hgrow hat hlt1 hbk hbk2)
                | (at_builtin; (refine wpList_append_lies _ (by rfl) _ _ _ (by rfl) w.heap.size 3 i0 _ 1 8 ints_under hi0 hz0 hz1 hz2 rfl (by omega) _ i (isC (skN t (keys.take i))) (by rfl) (ONK.out.alloc _) ⟨wk.heap.size, 0, none⟩ 1 1 [.int .i64 (m : Int)] (by rfl) (by rfl) (World.news_of_block (cs := #[.int .i64 (m : Int)]) (t := 3) (fr := (0, 0)) (heap_alloc_at _ _ _ rfl)) (by simp [Value.oneCell']) (by omega) (by unfold maxLen; omega) (by omega) (by simp; omega) (wk.heap.size + 1) (by simp) ?_); intro gh caph wl hown2 hgrow2 hat2 hlt2; have HL1 : Hid (wl.ownsRow w.heap.size 3 1 (.slice (some ⟨gh, 0, none⟩) (i + 1) caph) (i + 1) (isC (skN t (keys.take i)) ++ [.int .i64 (m : Int)])) := hown2; have hbl2 : wl.ownsRow w.heap.size 93 4 (.slice (some ⟨gg, 0, none⟩) (i + 1) cap) (i + 1) (skC (skA t (keys.take i)) ++ [.bool false, .int .i64 0, .int .i64 0, .slice none 0 0]) := owns_grownT HK1.out (ONK.out) (by decide) hgrow2; have HK2 : Hid (wl.ownsRow w.heap.size 93 4 (.slice (some ⟨gg, 0, none⟩) (i + 1) cap) (i + 1) (skC (skA t (keys.take i)) ++ [.bool false, .int .i64 0, .int .i64 0, .slice none 0 0])) := hbl2; have HLB : Hid (Below w.heap.size W0 wl) := HKB.out.trans (Below.grown ((Below.refl w.heap.size wk).alloc zk _) hgrow2 (by simp; omega) (owns_ge ONK.out)); clear hown2 hgrow2 hat2 hlt2 hbl2))
              refine ⟨⟨i + 1, by omega, by first | rfl | go_num, ?_, ?_, B02.out.trans ((BW0.out.mono z2).trans HLB.out)⟩, by simp [intOf]; omega⟩
              · rw [HTA.out, skC_append, RR.out]
                exact HK2.out
              · rw [HTN.out, isC_append]
                exact HL1.out
          · have g1 : (nd.inf == 0) = false := by simp [hf]
            have RR : Hid (ansK t key = none) := by show _ = _; rw [R1.out, if_neg (fun q => hf q.1)]
            clear R1 hf
            go_upto_region 14 with fail
            generalize hW1 : World.alloc (World.alloc w2 _) _ = W1 at *
            have bw1 : Below w2.heap.size w2 W1 := by rw [← hW1]; exact (below_alloc w2 _).alloc (by simp) _
            have r12 : W1.heap[w2.heap.size]? = some (.cells #[.int .i64 nd.key, .int .i64 nd.inf, .int .i64 nd.wt, .int .i64 nd.val, .int .i64 nd.l, .int .i64 nd.r] 81 (0, 0)) := by rw [← hW1]; exact (heap_alloc_old _ _ (by simp)).trans (heap_alloc_at _ _ _ rfl)
            have r13 : W1.heap[w2.heap.size + 1]? = some (.cells #[.bool false, .int .i64 0, .int .i64 0, .slice none 0 0] 93 (0, 0)) := by rw [← hW1]; exact heap_alloc_at _ _ _ (by simp)
            have n0 : W1.cell? ⟨w2.heap.size, 0, none⟩ = some (.int .i64 nd.key) := by simp only [World.cell?, r12]; rfl
            have n1 : W1.cell? ⟨w2.heap.size, 1, none⟩ = some (.int .i64 nd.inf) := by simp only [World.cell?, r12]; rfl
            have n3 : W1.cell? ⟨w2.heap.size, 3, none⟩ = some (.int .i64 nd.val) := by simp only [World.cell?, r12]; rfl
            have q0 : W1.cell? ⟨w2.heap.size + 1, 0, none⟩ = some (.bool false) := by simp only [World.cell?, r13]; rfl
            have q1 : W1.cell? ⟨w2.heap.size + 1, 1, none⟩ = some (.int .i64 0) := by simp only [World.cell?, r13]; rfl
            have q2 : W1.cell? ⟨w2.heap.size + 1, 2, none⟩ = some (.int .i64 0) := by simp only [World.cell?, r13]; rfl
            have q3 : W1.cell? ⟨w2.heap.size + 1, 3, none⟩ = some (.slice none 0 0) := by simp only [World.cell?, r13]; rfl
            have ck3 := HKW.out W1 (B02.out.trans (bw1.mono z2))
            have BW1 : Hid (Below w2.heap.size w2 W1) := bw1
            have R13 : Hid (W1.heap[w2.heap.size + 1]? = some (.cells #[.bool false, .int .i64 0, .int .i64 0, .slice none 0 0] 93 (0, 0))) := r13
            clear hW1 r12 r13 bw1
            go_quiet (fail)
            go_upto_region 16 with fail
            generalize hW0 : World.drewN W1 _ = W0 at *
            have bw0 : Below w2.heap.size w2 W0 := by rw [← hW0]; exact below_drewN BW1.out _
            have p0 : W0.cell? ⟨w2.heap.size + 1, 0, none⟩ = some (.bool false) := by rw [← hW0]; exact q0
            have p1 : W0.cell? ⟨w2.heap.size + 1, 1, none⟩ = some (.int .i64 0) := by rw [← hW0]; exact q1
            have p2 : W0.cell? ⟨w2.heap.size + 1, 2, none⟩ = some (.int .i64 0) := by rw [← hW0]; exact q2
            have p3 : W0.cell? ⟨w2.heap.size + 1, 3, none⟩ = some (.slice none 0 0) := by rw [← hW0]; exact q3
            clear hW0
            have BW0 : Hid (Below w2.heap.size w2 W0) := bw0
            have ORW : Hid (W0.ownsRow w.heap.size 93 4 (.slice ar i cr) i (skC (skA t (keys.take i)))) := owns_below OR2.out bw0
            have ONW : Hid (W0.ownsRow w.heap.size 3 1 (.slice an i cn) i (isC (skN t (keys.take i)))) := owns_below ON2.out bw0
            have zw : w.heap.size ≤ W0.heap.size := Nat.le_trans z2 bw0.size
            clear bw0
            go_wp2_with (first
              | (at_builtin; (refine wpList_append_lies _ (by rfl) _ _ _ (by rfl) w.heap.size 93 i1 _ 4 48 rets_under hi1 hy0 hy1 hy2 rfl (by omega) _ i (skC (skA t (keys.take i))) (by rfl) (ORW.out.alloc _) ⟨W0.heap.size, 0, none⟩ 1 1 [.bool false, .int .i64 0, .int .i64 0, .slice none 0 0] (by rfl) (by rfl) (World.news_of_block (cs := #[.bool false, .int .i64 0, .int .i64 0, .slice none 0 0]) (t := 93) (fr := (0, 0)) (heap_alloc_at _ _ _ rfl)) (by simp [Value.oneCell']) (by omega) (by unfold maxLen; omega) (by omega) (by simp; omega) (W0.heap.size + 1) (by simp) ?_); intro gg cap wk hown1 hgrow hat hlt1; have HK1 : Hid (wk.ownsRow w.heap.size 93 4 (.slice (some ⟨gg, 0, none⟩) (i + 1) cap) (i + 1) (skC (skA t (keys.take i)) ++ [.bool false, .int .i64 0, .int .i64 0, .slice none 0 0])) := hown1; have hbk : Below w.heap.size W0 wk := Below.grown ((Below.refl w.heap.size W0).alloc zw _) hgrow (by simp; omega) (owns_ge ORW.out); have hbk2 : wk.ownsRow w.heap.size 3 1 (.slice an i cn) i (isC (skN t (keys.take i))) := owns_grownT ONW.out (ORW.out) (by decide) hgrow; have ONK : Hid (wk.ownsRow w.heap.size 3 1 (.slice an i cn) i (isC (skN t (keys.take i)))) := hbk2; have HKB : Hid (Below w.heap.size W0 wk) := hbk; have zk : w.heap.size ≤ wk.heap.size := Nat.le_trans zw hbk.size; clear hown1 hgrow hat hlt1 hbk hbk2)
              | (at_builtin; (refine wpList_append_lies _ (by rfl) _ _ _ (by rfl) w.heap.size 3 i0 _ 1 8 ints_under hi0 hz0 hz1 hz2 rfl (by omega) _ i (isC (skN t (keys.take i))) (by rfl) (ONK.out.alloc _) ⟨wk.heap.size, 0, none⟩ 1 1 [.int .i64 (m : Int)] (by rfl) (by rfl) (World.news_of_block (cs := #[.int .i64 (m : Int)]) (t := 3) (fr := (0, 0)) (heap_alloc_at _ _ _ rfl)) (by simp [Value.oneCell']) (by omega) (by unfold maxLen; omega) (by omega) (by simp; omega) (wk.heap.size + 1) (by simp) ?_); intro gh caph wl hown2 hgrow2 hat2 hlt2; have HL1 : Hid (wl.ownsRow w.heap.size 3 1 (.slice (some ⟨gh, 0, none⟩) (i + 1) caph) (i + 1) (isC (skN t (keys.take i)) ++ [.int .i64 (m : Int)])) := hown2; have hbl2 : wl.ownsRow w.heap.size 93 4 (.slice (some ⟨gg, 0, none⟩) (i + 1) cap) (i + 1) (skC (skA t (keys.take i)) ++ [.bool false, .int .i64 0, .int .i64 0, .slice none 0 0]) := owns_grownT HK1.out (ONK.out) (by decide) hgrow2; have HK2 : Hid (wl.ownsRow w.heap.size 93 4 (.slice (some ⟨gg, 0, none⟩) (i + 1) cap) (i + 1) (skC (skA t (keys.take i)) ++ [.bool false, .int .i64 0, .int .i64 0, .slice none 0 0])) := hbl2; have HLB : Hid (Below w.heap.size W0 wl) := HKB.out.trans (Below.grown ((Below.refl w.heap.size wk).alloc zk _) hgrow2 (by simp; omega) (owns_ge ONK.out)); clear hown2 hgrow2 hat2 hlt2 hbl2))
            refine ⟨⟨i + 1, by omega, by first | rfl | go_num, ?_, ?_, B02.out.trans ((BW0.out.mono z2).trans HLB.out)⟩, by simp [intOf]; omega⟩
            · rw [HTA.out, skC_append, RR.out]
              exact HK2.out
            · rw [HTN.out, isC_append]
              exact HL1.out
        · obtain rfl : i = keys.length := by omega
          have OR1 := OR.out
          have ON1 := ON.out
          rw [List.take_length] at OR1 ON1
          have OR2 : Hid _ := OR1
          have ON2 : Hid _ := ON1
          clear OR1 ON1 OR ON
          generalize hv : Value.slice ar keys.length cr = vr at OR2 ⊢
          generalize hu : Value.slice an keys.length cn = vn at ON2 ⊢
          clear hv hu
          go_wp2_with fail
          go_ret3
          rw [HE.out]
          exact ⟨vr, vn, rfl, OR2.out, ON2.out, HW.out⟩
  · have HE : Hid (formE t = 0 → False) := he
    have q : (formE t != 0) = true := by simp [he]
    have e1 : skE t keys = formE t := by unfold skE; rw [if_pos he]
    rw [e1, if_neg he, if_neg he, if_neg he]
    clear h hk he e1
    go_enter Try.func17, Try.ntmps17
    go_wp2_with fail
    refine Calls.mono HC.out ?_
    rintro e w1 ⟨rfl, hb1⟩
    have HB : Hid (Below w.heap.size w w1) := hb1
    clear hb1
    go_wp2_with fail
    go_ret3
    exact ⟨_, _, rfl, World.ownsRow_nil _ _ _ _, World.ownsRow_nil _ _ _ _, HB.out⟩
end Go.Proofs.Ythdfpddijocfkaa

namespace Go.Proofs.Ythdfpddijocfkaa

open Go.RowKit

attribute [local go_sem ↓] Go.wp_at_zero Go.wp_at_succ

structure RtAt (w : World) (base : Option Addr) (g : Nat) (L : List (Option Int)) : Prop where
  base : L.length ≠ 0 → base = some ⟨g, 0, none⟩
  lt : L.length ≠ 0 → g < w.heap.size
  cells : ∀ i, i < L.length → w.cell? ⟨g, i * 4, none⟩ = some (.bool (L.getD i none).isSome) ∧ w.cell? ⟨g, i * 4 + 1, none⟩ = some (.int .i64 0) ∧ w.cell? ⟨g, i * 4 + 2, none⟩ = some (.int .i64 ((L.getD i none).getD 0)) ∧ w.cell? ⟨g, i * 4 + 3, none⟩ = some (.slice none 0 0)
  len : L.length ≤ maxLen
theorem RtAt.below {w w' : World} {base : Option Addr} {g : Nat} {L : List (Option Int)} (h : RtAt w base g L) (hb : Below w.heap.size w w') : RtAt w' base g L := by
  refine ⟨h.base, fun hn => Nat.lt_of_lt_of_le (h.lt hn) hb.size, fun i hi => ?_, h.len⟩
  have hl := h.lt (by omega)
  obtain ⟨a, b, c, d⟩ := h.cells i hi
  exact ⟨(hb.cell (p := ⟨g, _, none⟩) hl).trans a, (hb.cell (p := ⟨g, _, none⟩) hl).trans b, (hb.cell (p := ⟨g, _, none⟩) hl).trans c, (hb.cell (p := ⟨g, _, none⟩) hl).trans d⟩
theorem skC_at : ∀ (L : List (Option Int)) (i : Nat), i < L.length → (skC L)[i * 4]? = some (.bool (L.getD i none).isSome) ∧ (skC L)[i * 4 + 1]? = some (.int .i64 0) ∧ (skC L)[i * 4 + 2]? = some (.int .i64 ((L.getD i none).getD 0)) ∧ (skC L)[i * 4 + 3]? = some (.slice none 0 0)
  | [], i, h => by simp at h
  | x :: t, 0, _ => ⟨rfl, rfl, rfl, rfl⟩
  | x :: t, i + 1, h => by
    have ih := skC_at t i (by simpa using h)
    have e : (i + 1) * 4 = i * 4 + 1 + 1 + 1 + 1 := by omega
    rw [e, show i * 4 + 1 + 1 + 1 + 1 + 1 = i * 4 + 1 + 1 + 1 + 1 + 1 from rfl, show i * 4 + 1 + 1 + 1 + 1 + 2 = i * 4 + 2 + 1 + 1 + 1 + 1 by omega, show i * 4 + 1 + 1 + 1 + 1 + 3 = i * 4 + 3 + 1 + 1 + 1 + 1 by omega]
    simp only [skC, List.getElem?_cons_succ, List.getD_cons_succ]
    exact ih
theorem rt_of_owns {w : World} {B : Nat} {v : Value} {n : Nat} {L : List (Option Int)} (h : w.ownsRow B 93 4 v n (skC L)) (hn : L.length = n) : ∃ base c g, v = .slice base n c ∧ RtAt w base g L := by
  by_cases h0 : 0 < n
  · have hle : n ≤ maxLen := by
      obtain ⟨_, h2⟩ := h
      rcases h2 with ⟨_, e⟩ | ⟨g, cap, cur, _, _, _, q1, q2, _⟩ <;> omega
    obtain ⟨g, c, rfl, _, hg, _, hc⟩ := own_rowC h h0
    refine ⟨_, c, g, rfl, fun _ => rfl, fun _ => hg, fun i hi => ?_, by omega⟩
    obtain ⟨a1, a2, a3, a4⟩ := skC_at L i hi
    exact ⟨(hc _ (by omega)).trans a1, (hc _ (by omega)).trans a2, (hc _ (by omega)).trans a3, (hc _ (by omega)).trans a4⟩
  · obtain ⟨a, c, rfl⟩ := owns_slice h
    exact ⟨a, c, 0, rfl, fun q => by omega, fun q => by omega, fun i hi => by omega, by unfold maxLen; omega⟩

set_option maxRecDepth 100000 in
theorem same_nil (w : World) : Calls Try.prog 60 #[.slice none 0 0, .slice none 0 0] w fun e w' => e = .returned (.bool true) ∧ Below w.heap.size w w' := by
  go_enter Try.func60, Try.ntmps60
  go_wp2_with fail
  go_loopw [5] (fun i wr => i = .int .i64 0 ∧ wr = w) (fun i _ => 0)
  case atStart => exact ⟨rfl, rfl⟩
  case round =>
    obtain ⟨rfl, hw⟩ := hrel
    rename World => wr
    subst hw
    go_wp2_with fail
    go_ret
    exact ⟨rfl, Below.refl _ _⟩
set_option maxRecDepth 100000 in
set_option maxHeartbeats 1000000 in
theorem sameRet_self (r : Option Int) (w : World) : Calls Try.prog 44 #[.agg #[.bool r.isSome, .int .i64 0, .int .i64 (r.getD 0), .slice none 0 0], .agg #[.bool r.isSome, .int .i64 0, .int .i64 (r.getD 0), .slice none 0 0]] w fun e w' => e = .returned (.bool true) ∧ Below w.heap.size w w' := by
  have e0 : (r.isSome == r.isSome) = true := by simp
  have e2 : (r.getD 0 == r.getD 0) = true := by simp
  generalize r.isSome = a at *
  generalize r.getD 0 = b at *
  have HBB : Hid (∀ A B : Obj, Below w.heap.size w ((w.alloc A).alloc B)) := fun A B => (below_alloc w A).alloc (by simp) B
  go_enter Try.func44, Try.ntmps44
  go_wp2_with fail
  refine (same_nil _).mono ?_
  rintro e w2 ⟨rfl, hb2⟩
  have B2 : Hid (Below w.heap.size w w2) := (HBB.out _ _).trans (hb2.mono (by simp; omega))
  clear hb2
  go_wp2_with fail
  go_ret
  exact ⟨rfl, B2.out⟩
set_option maxRecDepth 100000 in
set_option maxHeartbeats 1000000 in
theorem nSameRets_any (ba bb : Option Addr) (ga ca gb cb : Nat) (rs : List (Option Int)) (w : World) (ha : RtAt w ba ga rs) (hb : RtAt w bb gb rs) :
    Calls Try.prog 18 #[.slice ba rs.length ca, .slice bb rs.length cb] w fun e w' => e = .returned (.bool true) ∧ Below w.heap.size w w' := by
  have la := ha.len
  unfold maxLen at la
  have HA : Hid (RtAt _ _ _ _) := ha
  have HB : Hid (RtAt _ _ _ _) := hb
  clear ha hb
  have hd : ((rs.length : Int) != (rs.length : Int)) = false := by simp
  go_enter Try.func18, Try.ntmps18
  go_wp2_with fail
  go_loopw [5] (fun i wr => ∃ j : Nat, j ≤ rs.length ∧ i = .int .i64 j ∧ Below w.heap.size w wr) (fun i _ => rs.length - (intOf i).toNat)
  case atStart => exact ⟨0, Nat.zero_le _, rfl, Below.refl _ _⟩
  case round =>
    obtain ⟨j, hj, rfl, hbw⟩ := hrel
    rename World => wr
    have HW : Hid (Below w.heap.size w wr) := hbw
    by_cases hlt : j < rs.length
    · obtain rfl : ba = some ⟨ga, 0, none⟩ := HA.out.base (by omega)
      obtain rfl : bb = some ⟨gb, 0, none⟩ := HB.out.base (by omega)
      have EX := HA.out.below hbw
      have EY := HB.out.below hbw
      have zx : ga < wr.heap.size := EX.lt (by omega)
      have zy : gb < wr.heap.size := EY.lt (by omega)
      obtain ⟨d0, d1, d2, d3⟩ := EX.cells j hlt
      obtain ⟨e0, e1, e2, e3⟩ := EY.cells j hlt
      have SE : Hid (∀ p : BelowBy wr, Calls Try.prog 44 #[.agg #[.bool (rs.getD j none).isSome, .int .i64 0, .int .i64 ((rs.getD j none).getD 0), .slice none 0 0], .agg #[.bool (rs.getD j none).isSome, .int .i64 0, .int .i64 ((rs.getD j none).getD 0), .slice none 0 0]] p.W fun e w' => e = .returned (.bool true) ∧ Below p.W.heap.size p.W w') := fun p => sameRet_self _ _
      generalize (rs.getD j none).isSome = x at *
      generalize (rs.getD j none).getD 0 = y at *
      have y0 := BelowBy.cell zx d0
      have y1 := BelowBy.cell zx d1
      have y2 := BelowBy.cell zx d2
      have y3 := BelowBy.cell zx d3
      have z0 := BelowBy.cell zy e0
      have z1 := BelowBy.cell zy e1
      have z2 := BelowBy.cell zy e2
      have z3 := BelowBy.cell zy e3
      have j0 : (0 : Int) ≤ (j : Int) := Int.natCast_nonneg _
      have j1 : (j : Int) < (rs.length : Int) := by omega
      clear EX EY hbw d0 d1 d2 d3 e0 e1 e2 e3
      go_wp2_with fail
      refine wp_region_below (by kernel_rfl) (by kernel_rfl) ?_
      repeat (go_big_quiet_step ((go_at_call 44; exact below_call (SE.out _))))
      refine wpQuiet_nil ?_
      rintro _ ⟨p, rfl⟩
      have PB : Hid (Below wr.heap.size wr p.W) := p.h
      clear y0 y1 y2 y3 z0 z1 z2 z3
      go_wp2_with fail
      exact ⟨⟨j + 1, by omega, by first | rfl | go_num, HW.out.trans (PB.out.mono HW.out.size)⟩, by simp [intOf]; omega⟩
    · clear hbw
      go_wp2_with fail
      go_ret
      exact ⟨rfl, HW.out⟩
end Go.Proofs.Ythdfpddijocfkaa

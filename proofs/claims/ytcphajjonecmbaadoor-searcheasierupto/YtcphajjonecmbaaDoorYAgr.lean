/- Layer 7: the program's hasReturned and agrees. Layer 7: the program's run of a thing that isn't a map. Layer 7: the program's run of a map; of any thing; Run and Do. Layer 7: the program's Run and Do. Layer 7: the program's Do. -/
import Derived.Test.YtcphajjonecmbaaDoorYChg2
import Derived.Test.YtcphajjonecmbaaDoorMG15
import Derived.Deep.RegionLaw



namespace Go.Proofs.YtcphajjonecmbaaDoor

open Go.RowKit Go.Deep

attribute [local go_sem ↓] Go.wp_at_zero Go.wp_at_succ

theorem results_ct {fn : Func} {a p : Tmp} {ty : TypeId} (h : fn.results = #[.cell p ty, .tmp a]) (tmps : Array Value) (P : Program) (w : World) :
    (results fn tmps).run P w = ((asAddr (tmps.getD p undef)).run P w).andThen fun ad w₁ => ((loadVar ty ad).run P w₁).andThen fun v w₂ => .ok (.tuple #[v, tmps.getD a undef]) w₂ := by
  simp only [results, h]
  simp [Sem.run_bind, Result.andThen]
theorem prt_info : (Tryd.prog.info? 45).map (fun i => (i.zero, i.size, i.bytes)) = some (some (.agg #[.bool false, .int .i64 0, .int .i64 0, .slice none 0 0]), 4, 48) := by kernel_rfl
theorem prts_under : Tryd.prog.underlying 34 = some (.slice 45) := by kernel_rfl
theorem intC_one (xs : List Int) : ∀ u ∈ intC xs, u.oneCell' = true := by
  intro u hu
  simp only [intC, List.mem_map] at hu
  obtain ⟨x, -, rfl⟩ := hu
  rfl
theorem OrdAt.news {w : World} {a : Option Addr} {g o : Nat} {xs : List Int} (h : OrdAt w a g o xs) : ∀ ad, a = some ad → ∀ j u, (intC xs)[j]? = some u → w.cell? (ad.add j) = some u := by
  intro ad e j u hj
  have hl : j < xs.length := by have := (List.getElem?_eq_some_iff.1 hj).1; simpa [intC] using this
  have hb := h.base (by omega)
  rw [e] at hb
  cases hb
  rw [intC_get xs j hl] at hj
  rw [Addr.add_lit, h.cells j hl]
  exact hj
/-- The answers without pairs that lie in a row so far. -/
def RZs (F : Nat → Value) (rs : List RetD) : Prop := ∀ k, k < rs.length → F (k * 4) = .bool (retAt rs k).ok ∧ F (k * 4 + 1) = .int .i64 (retAt rs k).key ∧ F (k * 4 + 2) = .int .i64 (retAt rs k).val ∧ F (k * 4 + 3) = .slice none 0 0 ∧ (retAt rs k).pairs = []
theorem RZs.snoc {F : Nat → Value} {rs : List RetD} {r : RetD} (h : RZs F rs) (hp : r.pairs = []) : RZs (putV (putV (putV (putV F (rs.length * 4) (.bool r.ok)) (rs.length * 4 + 1) (.int .i64 r.key)) (rs.length * 4 + 2) (.int .i64 r.val)) (rs.length * 4 + 3) (.slice none 0 0)) (rs ++ [r]) := by
  intro k hk
  by_cases e : k = rs.length
  · subst e
    rw [retAt_last]
    refine ⟨?_, ?_, ?_, ?_, hp⟩
    · rw [putV_other _ _ _ _ (by omega), putV_other _ _ _ _ (by omega), putV_other _ _ _ _ (by omega), putV_same]
    · rw [putV_other _ _ _ _ (by omega), putV_other _ _ _ _ (by omega), putV_same]
    · rw [putV_other _ _ _ _ (by omega), putV_same]
    · rw [putV_same]
  · have hl : k < rs.length := by simp at hk; omega
    rw [retAt_left _ _ _ hl]
    obtain ⟨a, b, c, d, p⟩ := h k hl
    refine ⟨?_, ?_, ?_, ?_, p⟩
    · rw [putV_other _ _ _ _ (by omega), putV_other _ _ _ _ (by omega), putV_other _ _ _ _ (by omega), putV_other _ _ _ _ (by omega)]; exact a
    · rw [putV_other _ _ _ _ (by omega), putV_other _ _ _ _ (by omega), putV_other _ _ _ _ (by omega), putV_other _ _ _ _ (by omega)]; exact b
    · rw [putV_other _ _ _ _ (by omega), putV_other _ _ _ _ (by omega), putV_other _ _ _ _ (by omega), putV_other _ _ _ _ (by omega)]; exact c
    · rw [putV_other _ _ _ _ (by omega), putV_other _ _ _ _ (by omega), putV_other _ _ _ _ (by omega), putV_other _ _ _ _ (by omega)]; exact d
theorem vRet_pairs (t : Int) (vs : List Int) (o : OpD) : (vRet t vs o).pairs = [] := by
  unfold vRet
  repeat' split
  all_goals rfl
/-- The answers of a run of a thing that isn't a map. -/
def vRets (t : Int) (vs : List Int) : List OpD → List RetD
  | [] => []
  | o :: l => vRet t vs o :: vRets t (vStep t vs o) l
theorem vRets_append (t : Int) (b : List OpD) : ∀ (a : List OpD) (vs : List Int), vRets t vs (a ++ b) = vRets t vs a ++ vRets t (vRun t vs a) b
  | [], _ => rfl
  | o :: a, vs => by
    show vRet t vs o :: vRets t (vStep t vs o) (a ++ b) = _
    rw [vRets_append t b a]
    rfl
theorem vRets_length (t : Int) : ∀ (l : List OpD) (vs : List Int), (vRets t vs l).length = l.length
  | [], _ => rfl
  | o :: l, vs => by simp [vRets, vRets_length t l]
theorem sRets_vals {t : Int} (ht : t ≠ 5) (l : List OpD) : ∀ s : SD, sRets t s l = vRets t s.vals l := by
  induction l with
  | nil => intro s; rfl
  | cons o l ih =>
    intro s
    have e1 : sStep t s o = ⟨vStep t s.vals o, []⟩ := if_neg ht
    have e2 : sRet t s o = vRet t s.vals o := if_neg ht
    show sRet t s o :: sRets t (sStep t s o) l = _
    rw [e2, ih, e1]
    rfl
theorem rets_of_vals {w : World} {gr n : Nat} {F : Nat → Value} {rs : List RetD} (h : Vals w gr (n * 4) F) (hz : RZs F rs) (hn : rs.length = n) (hg : gr < w.heap.size) (hm : n ≤ maxLen) (B : Nat) : RetsAtM w (some ⟨gr, 0, none⟩) gr 0 rs ∧ NilZ w gr n ∧ LowZ w B gr n := by
  refine ⟨⟨fun _ => rfl, fun _ => hg, fun i hi => ?_, by omega⟩, fun i hi a m c e q => ?_, fun i hi a m c e q => ?_⟩
  · obtain ⟨a, b, c, d, p⟩ := hz i hi
    refine ⟨none, 0, 0, 0, ?_, ?_, ?_, ?_, by rw [p]; exact pairs_none _⟩
    · rw [Nat.zero_add, ← a]; exact (h _ (by omega)).1
    · rw [Nat.zero_add, ← b]; exact (h _ (by omega)).1
    · rw [Nat.zero_add, ← c]; exact (h _ (by omega)).1
    · rw [Nat.zero_add, p, (h _ (by omega)).1, d]; rfl
  · obtain ⟨-, -, -, d, -⟩ := hz i (by omega)
    rw [(h _ (by omega)).1, d] at e
    simp only [Option.some.injEq, Value.slice.injEq] at e
    exact e.2.2.symm
  · obtain ⟨-, -, -, d, -⟩ := hz i (by omega)
    rw [(h _ (by omega)).1, d] at e
    simp only [Option.some.injEq, Value.slice.injEq] at e
    exact absurd e.2.1.symm q
theorem heap_four (w : World) {N k : Nat} (hk : k ≠ N) (a b c d : Nat) (v0 v1 v2 v3 : Value) : ((((w.setCell ⟨N, a, none⟩ v0).setCell ⟨N, b, none⟩ v1).setCell ⟨N, c, none⟩ v2).setCell ⟨N, d, none⟩ v3).heap[k]? = w.heap[k]? := by
  have key : ∀ (W : World) (j : Nat) (v : Value), (W.setCell ⟨N, j, none⟩ v).heap[k]? = W.heap[k]? := fun W j v => Below.heap_setCell W _ _ k hk
  rw [key, key, key, key]
theorem vRun_next {t : Int} {vs : List Int} (ops : List OpD) {j : Nat} (hj : j < ops.length) : vRun t vs (ops.take (j + 1)) = vStep t (vRun t vs (ops.take j)) (opAt ops j) ∧ vRets t vs (ops.take (j + 1)) = vRets t vs (ops.take j) ++ [vRet t (vRun t vs (ops.take j)) (opAt ops j)] := by
  rw [op_take _ hj, vRun_append, vRets_append]
  exact ⟨rfl, rfl⟩
/-- What run leaves. -/
def RunP (t : Int) (s : SD) (ops : List OpD) (w : World) (e : Ending) (w' : World) : Prop :=
  ∃ x ra rg rk, e = .returned (.tuple #[x.v (sRun t s ops), .slice ra ops.length rk]) ∧ Below w.heap.size w w' ∧ StNew w' w.heap.size x (sRun t s ops) ∧ RetsAtM w' ra rg 0 (sRets t s ops) ∧ NilZ w' rg ops.length ∧ (ops.length ≠ 0 → ra = some ⟨rg, 0, none⟩) ∧ LowZ w' w.heap.size rg ops.length ∧ (ops.length ≠ 0 → w.heap.size ≤ rg)
set_option maxRecDepth 100000 in
set_option maxHeartbeats 2000000 in
theorem runV_any (t : Int) (x : SX) (s : SD) (ob : Option Addr) (bo oo co : Nat) (ops : List OpD) (w : World) (h : StAt w x s) (hop : OpsAt w ob bo oo ops) (ht : 1 ≤ t ∧ t ≤ 4) (hf : inFm t s = true) (hv : s.vals.length ≤ 1000000000) (ho : ops.length ≤ 1000000000) :
    Calls Tryd.prog 58 #[.int .i64 t, x.v s, .slice ob ops.length co] w (RunP t s ops w) := by
  have h5 : t ≠ 5 := by omega
  have hp0 : s.prs = [] := by
    have hf0 := hf
    unfold inFm at hf
    split at hf
    · simp at hf; exact hf.2
    · rw [inFm_row (by omega)] at hf0; simpa using hf0
  have h1 : t = 1 ∨ t = 2 → s.vals.length = 1 := fun q => by rw [inFm_one q] at hf; simp at hf; exact hf.1
  obtain ⟨i0, hi0, hz0, hz1, hz2⟩ := info_parts int_info
  have HOP : Hid (OpsAt w ob bo oo ops) := hop
  have HSV : Hid (OrdAt w x.va x.vg x.vo s.vals) := h.vals
  have HVN : Hid (x.va = none → s.vals.length = 0 ∧ x.vc = 0) := h.vnil
  have H1 : Hid (t = 1 ∨ t = 2 → s.vals.length = 1) := h1
  have ER : Hid (sRun t s ops = ⟨vRun t s.vals ops, []⟩ ∧ sRets t s ops = vRets t s.vals ops) := ⟨sRun_vals h5 ops s hp0, sRets_vals h5 ops s⟩
  have T14 : Hid (1 ≤ t ∧ t ≤ 4) := ht
  have HLV : Hid (s.vals.length ≤ 1000000000) := hv
  have t5 : (t == 5) = false := beq_eq_false_iff_ne.2 h5
  obtain ⟨W0, hW0⟩ : ∃ W0, W0 = (w.alloc (.cells #[.slice x.va s.vals.length x.vc, .slice x.pa s.prs.length x.pc] 31)).alloc (.cells #[.slice none 0 0, .slice none 0 0] 31) := ⟨_, rfl⟩
  have B0 : Hid (Below w.heap.size w W0) := by show Below w.heap.size w W0; rw [hW0]; exact two_blocks _ _ _ _ _
  have z0 : W0.heap.size = w.heap.size + 2 := by rw [hW0]; simp
  have RS : Hid (W0.heap[w.heap.size + 1]? = some (.cells #[.slice none 0 0, .slice none 0 0] 31)) := by
    show W0.heap[w.heap.size + 1]? = _
    rw [hW0]; exact heap_alloc_at _ _ _ (by simp)
  have R0 : W0.heap[w.heap.size]? = some (.cells #[.slice x.va s.vals.length x.vc, .slice x.pa s.prs.length x.pc] 31) := by
    rw [hW0]; exact (heap_alloc_old _ _ (by simp)).trans (heap_alloc_at _ _ _ rfl)
  have a0 : (W0.alloc (.cells #[] 3)).cell? ⟨w.heap.size, 0, none⟩ = some (.slice x.va s.vals.length x.vc) := by
    rw [(below_alloc W0 _).cell (p := ⟨w.heap.size, 0, none⟩) (show w.heap.size < W0.heap.size by omega)]
    simp [World.cell?, R0]
  have HNW : Hid (∀ ad, x.va = some ad → ∀ j u, (intC s.vals)[j]? = some u → (W0.alloc (.cells #[] 3)).cell? (ad.add j) = some u) := ((HSV.out.below B0.out).below (below_alloc _ _)).news
  have OW : Hid ((W0.alloc (.cells #[] 3)).ownsRow (w.heap.size + 2) 3 1 (.slice (some ⟨w.heap.size + 2, 0, none⟩) 0 0) 0 []) := ⟨rfl, Or.inr ⟨w.heap.size + 2, 0, #[], rfl, by omega, heap_alloc_at _ _ _ z0.symm, Nat.le_refl _, by unfold maxLen; omega, rfl, rfl⟩⟩
  have HIL : Hid ((intC s.vals).length = s.vals.length * 1) := by show _ = _; simp [intC]
  have n1 : 0 + s.vals.length ≤ maxLen := by unfold maxLen; omega
  have n2 : (0 + s.vals.length) * 8 ≤ 140737488355328 := by omega
  have MK : ∀ w : World, (Instr.makeSlice 34 (.int .i64 ops.length) (.int .i64 ops.length)).run Tryd.prog w = .ok (.slice (some ⟨w.heap.size, 0, none⟩) ops.length ops.length) (w.alloc (.cells (madeCells #[.bool false, .int .i64 0, .int .i64 0, .slice none 0 0] (ops.length * 4)) 45)) := fun w => run_make_known (P := Tryd.prog) 34 45 (.agg #[.bool false, .int .i64 0, .int .i64 0, .slice none 0 0]) 4 48 prts_under prt_info ops.length (by omega) (by omega) w
  unfold SX.v
  clear h hop ht hf hv hp0 h1 h5 R0
  go_enter Tryd.func58, Tryd.ntmps58
  go_upto_region 6 with fail
  rw [← hW0]
  clear hW0
  go_wp2_with (first | (at_builtin; (refine wpList_append_all (by rfl) _ _ _ (by rfl) (w.heap.size + 2) 3 i0 _ 1 8 ints_under hi0 hz0 hz1 hz2 rfl (by omega) _ 0 [] (by rfl) OW.out x.va s.vals.length x.vc (intC s.vals) (by rfl) HVN.out HIL.out HNW.out (intC_one _) n1 n2 (by simp; omega) ?_); intro v' w1 hown1 hgrow hnl; have R1 : Hid (∃ g c, v' = .slice (some ⟨g, 0, none⟩) s.vals.length c ∧ RoO w1 (w.heap.size + 2) g 0 c s.vals) := (by
      have h1 : w1.ownsRow (w.heap.size + 2) 3 1 v' s.vals.length (intC s.vals) := by simpa using hown1
      exact roO_of_owns h1 rfl (fun q => by have := (hnl.1 q).1; cases this)); obtain ⟨gv, cv, rfl, hRv⟩ := R1.out; have HV : Hid (RoO w1 (w.heap.size + 2) gv 0 cv s.vals) := hRv; have B1 : Hid (Below w.heap.size w w1) := (Below.grown (B0.out.alloc (by omega) _) hgrow (by simp; omega) (by intro k hk; simp [Value.ownBlock] at hk; omega)); have RS1 : Hid (w1.heap[w.heap.size + 1]? = some (.cells #[.slice none 0 0, .slice none 0 0] 31)) := (hgrow.block _ (by simp; omega) (by simp [Value.ownBlock])).trans ((heap_alloc_old _ _ (by omega)).trans RS.out); have z1 : w.heap.size + 3 ≤ w1.heap.size := (by have := hgrow.size; simp at this; omega); clear hown1 hgrow hnl R1 hRv))
  obtain ⟨gr, hgr⟩ : ∃ gr, gr = w1.heap.size := ⟨_, rfl⟩
  obtain ⟨W3, hW3⟩ : ∃ W3, W3 = w1.alloc (.cells (madeCells #[.bool false, .int .i64 0, .int .i64 0, .slice none 0 0] (ops.length * 4)) 45) := ⟨_, rfl⟩
  have B3 : Hid (Below w.heap.size w W3) := by show Below w.heap.size w W3; rw [hW3]; exact B1.out.alloc (by omega) _
  have V3 : Hid (RoO W3 (w.heap.size + 2) gv 0 cv s.vals) := by show RoO W3 _ _ _ _ _; rw [hW3]; exact HV.out.alloc _
  have F3 : Hid (∃ F, Vals W3 gr (ops.length * 4) F) := ⟨_, by rw [hW3, hgr]; exact Vals.anyMade w1 _ _ _ (size_madeCells _ _)⟩
  have RS3 : Hid (W3.heap[w.heap.size + 1]? = some (.cells #[.slice none 0 0, .slice none 0 0] 31)) := by
    show W3.heap[w.heap.size + 1]? = _
    rw [hW3]
    exact (heap_alloc_old _ _ (by omega)).trans RS1.out
  have zgr : gr < W3.heap.size := by rw [hW3, hgr]; simp
  have zgw : w.heap.size + 3 ≤ gr := by omega
  have hgg : gv ≠ gr := by have := HV.out.lt; omega
  rw [← hW3, ← hgr]
  clear hW3 hgr a0 B1 HV RS1 z1 B0 RS OW HNW
  go_loopw [11, 41] (fun v i wr => ∃ (j g o c : Nat) (F : Nat → Value), j ≤ ops.length ∧ i = .int .i64 j ∧ v = .slice (some ⟨g, o, none⟩) (vRun t s.vals (ops.take j)).length c ∧ RoO wr (w.heap.size + 2) g o c (vRun t s.vals (ops.take j)) ∧ g ≠ gr ∧ gr < wr.heap.size ∧ Below w.heap.size w wr ∧ Vals wr gr (ops.length * 4) F ∧ RZs F (vRets t s.vals (ops.take j)) ∧ wr.heap[w.heap.size + 1]? = some (.cells #[.slice none 0 0, .slice none 0 0] 31)) (fun _ i _ => ops.length - (intOf i).toNat)
  case atStart =>
    obtain ⟨F, hF⟩ := F3.out
    exact ⟨0, gv, 0, cv, F, Nat.zero_le _, rfl, rfl, V3.out, hgg, zgr, B3.out, hF, fun k hk => by simp [vRets] at hk, RS3.out⟩
  case round =>
    obtain ⟨j, g, o, c, F, hj, rfl, rfl, hR, hgr, zg, hb, hF, hz, hs⟩ := hrel
    rename World => wr
    have HR : Hid (RoO wr (w.heap.size + 2) g o c (vRun t s.vals (ops.take j))) := hR
    have HB : Hid (Below w.heap.size w wr) := hb
    have HF : Hid (Vals wr gr (ops.length * 4) F) := hF
    have HZ : Hid (RZs F (vRets t s.vals (ops.take j))) := hz
    have HS : Hid (wr.heap[w.heap.size + 1]? = some (.cells #[.slice none 0 0, .slice none 0 0] 31)) := hs
    clear hR hb hF hz hs
    by_cases hlt : j < ops.length
    · obtain rfl := HOP.out.base (by omega)
      obtain ⟨d0, d1, d2, d3⟩ := (HOP.out.below HB.out).cells j hlt
      have hbz : bo < wr.heap.size := Nat.lt_of_lt_of_le (HOP.out.lt (by omega)) HB.out.size
      have j0 : (0 : Int) ≤ (j : Int) := Int.natCast_nonneg _
      have j1 : (j : Int) < (ops.length : Int) := by omega
      have LR : Hid ((vRets t s.vals (ops.take j)).length = j) := by show _ = _; rw [vRets_length, List.length_take]; omega
      have LV : Hid ((vRun t s.vals (ops.take j)).length ≤ s.vals.length + j) := by
        have := vRun_length t (ops.take j) s.vals
        rw [List.length_take] at this
        show _ ≤ _
        omega
      have NX : Hid _ := vRun_next (t := t) (vs := s.vals) ops hlt
      obtain ⟨W4, hW4⟩ : ∃ W4, W4 = wr.alloc (.cells #[.int .i64 (opAt ops j).kind, .int .i64 (opAt ops j).key, .int .i64 (opAt ops j).val, .int .i64 (opAt ops j).hi] 43) := ⟨_, rfl⟩
      have b4 : Below wr.heap.size wr W4 := by rw [hW4]; exact below_alloc _ _
      have B4 : Hid (Below wr.heap.size wr W4) := b4
      have H4 : Hid (RoO W4 (w.heap.size + 2) g o c (vRun t s.vals (ops.take j))) := HR.out.below b4
      have z4 : W4.heap.size = wr.heap.size + 1 := by rw [hW4]; simp
      have OC : W4.heap[wr.heap.size]? = some (.cells #[.int .i64 (opAt ops j).kind, .int .i64 (opAt ops j).key, .int .i64 (opAt ops j).val, .int .i64 (opAt ops j).hi] 43) := by rw [hW4]; exact heap_alloc_at _ _ _ rfl
      obtain ⟨⟨a0, _⟩, ⟨a1, _⟩, ⟨a2, _⟩, ⟨a3, _⟩⟩ := cells4 OC
      have zw : w.heap.size + 2 ≤ W4.heap.size := by have := HR.out.gB; have := HR.out.lt; omega
      have hone : t = 1 ∨ t = 2 → (vRun t s.vals (ops.take j)).length = 1 := fun q => vRun_one q _ (H1.out q)
      have CH0 := change_any t T14.out _ g o c _ (opAt ops j) W4 H4.out zw hone (by have := LV.out; have := HLV.out; omega)
      have HPR : Hid ((vRet t (vRun t s.vals (ops.take j)) (opAt ops j)).pairs = []) := vRet_pairs _ _ _
      obtain ⟨V, hV⟩ : ∃ V, V = vRun t s.vals (ops.take j) := ⟨_, rfl⟩
      rw [← hV] at CH0 NX HPR
      rw [← hV]
      obtain ⟨N, hN⟩ : ∃ N, N = vStep t V (opAt ops j) := ⟨_, rfl⟩
      obtain ⟨r, hr⟩ : ∃ r, r = vRet t V (opAt ops j) := ⟨_, rfl⟩
      have CH : Hid (Calls Tryd.prog 92 #[.int .i64 t, .slice (some ⟨g, o, none⟩) V.length c, .agg #[.int .i64 (opAt ops j).kind, .int .i64 (opAt ops j).key, .int .i64 (opAt ops j).val, .int .i64 (opAt ops j).hi]] W4 fun e w' => ∃ g' o' c', e = .returned (.tuple #[.slice (some ⟨g', o', none⟩) N.length c', .agg #[.bool r.ok, .int .i64 r.key, .int .i64 r.val, .slice none 0 0]]) ∧ RoO w' (w.heap.size + 2) g' o' c' N ∧ (g' = g ∨ W4.heap.size ≤ g') ∧ W4.grownBy w' (some g)) := by
        refine CH0.mono ?_
        rintro e w' ⟨g', o', c', he, h1, h2, h3⟩
        rw [← hN] at he h1
        rw [← hr] at he
        exact ⟨g', o', c', he, h1, h2, h3⟩
      rw [← hN, ← hr] at NX
      rw [← hr] at HPR
      obtain ⟨r1, r2, r3, r4⟩ := r
      simp only at CH
      generalize V.length = vl at *
      generalize (opAt ops j).kind = q1 at *
      generalize (opAt ops j).key = q2 at *
      generalize (opAt ops j).val = q3 at *
      generalize (opAt ops j).hi = q4 at *
      have hgB : w.heap.size + 2 ≤ g := HR.out.gB
      have zs := HB.out.size
      clear OC hone hV hN hr b4 HR H4 CH0
      go_upto_region 11 with fail
      rw [← hW4]
      clear hW4
      go_wp2_with (first | (go_at_call 92; refine CH.out.mono ?_; rintro e w5 ⟨g5, o5, c5, rfl, h5, hg5, hw5⟩; have H5 : Hid (RoO w5 (w.heap.size + 2) g5 o5 c5 N) := h5; have G5 : Hid (g5 = g ∨ W4.heap.size ≤ g5) := hg5; have W5 : Hid (W4.grownBy w5 (some g)) := hw5; have F5 : Hid (Vals w5 gr (ops.length * 4) F) := (fun k hk => by
          have e := W5.out.block gr (by omega) (fun q => hgr (Option.some.inj q).symm)
          have hq := (HF.out.below zg B4.out) k hk
          exact ⟨(World.cell?_of_block (a := ⟨gr, k, none⟩) e).trans hq.1, (World.frozen?_of_block (a := ⟨gr, k, none⟩) e).trans hq.2⟩); have u0 := F5.out (j * 4) (by omega); have u1 := F5.out (j * 4 + 1) (by omega); have u2 := F5.out (j * 4 + 2) (by omega); have u3 := F5.out (j * 4 + 3) (by omega); clear h5 hg5 hw5))
      have hg5r : g5 ≠ gr := by
        rcases G5.out with e | e
        · rw [e]; exact hgr
        · omega
      have z5 := W5.out.size
      refine ⟨⟨j + 1, g5, o5, c5, _, by omega, by go_num, by rw [NX.out.1], ?_, hg5r, ?_, ?_, (((F5.out.set _ _).set _ _).set _ _).set _ _, ?_, ?_⟩, by simp [intOf]; omega⟩
      · rw [NX.out.1]
        exact H5.out.kept (by simp) (heap_four _ hg5r _ _ _ _ _ _ _ _)
      · simp; omega
      · refine ((((Below.grown (HB.out.trans (B4.out.mono zs)) W5.out (by omega) (fun k q => by cases q; omega)).setCell ?_ _).setCell ?_ _).setCell ?_ _).setCell ?_ _ <;> (show w.heap.size ≤ gr; omega)
      · rw [NX.out.2]
        have := HZ.out.snoc (r := ⟨r1, r2, r3, r4⟩) HPR.out
        rw [LR.out] at this
        exact this
      · rw [heap_four _ (by omega), W5.out.block _ (by omega) (fun q => by have := Option.some.inj q; omega), B4.out.block _ (by omega)]
        exact HS.out
    · obtain rfl : j = ops.length := by omega
      have ET : Hid (ops.take ops.length = ops) := List.take_length
      have HRF := HR.out
      rw [ET.out] at HRF
      have HRF : Hid (RoO wr (w.heap.size + 2) g o c (vRun t s.vals ops)) := HRF
      have HZF := HZ.out
      rw [ET.out] at HZF
      have HVF : Hid (Vals wr gr (ops.length * 4) F ∧ RZs F (vRets t s.vals ops)) := ⟨HF.out, HZF⟩
      rw [ET.out]
      obtain ⟨⟨p0, p1⟩, ⟨p2, p3⟩⟩ : (wr.cell? ⟨w.heap.size + 1, 0, none⟩ = some (.slice none 0 0) ∧ wr.frozen? ⟨w.heap.size + 1, 0, none⟩ = false) ∧ (wr.cell? ⟨w.heap.size + 1, 1, none⟩ = some (.slice none 0 0) ∧ wr.frozen? ⟨w.heap.size + 1, 1, none⟩ = false) := by
        simp [World.cell?, World.frozen?, HS.out]
      have hzz : w.heap.size + 1 < wr.heap.size := by omega
      obtain ⟨V, hV⟩ : ∃ V, V = vRun t s.vals ops := ⟨_, rfl⟩
      have HVV : Hid (V = vRun t s.vals ops) := hV
      rw [← hV] at HRF ⊢
      have hgB : w.heap.size + 2 ≤ g := HRF.out.gB
      have zs := HB.out.size
      clear HR HZ HF hV HZF hlt hj
      go_wp2_with fail
      have hnr : w.heap.size + 1 ≠ gr := by omega
      have VX : Hid (Vals (((wr.setCell ⟨w.heap.size + 1, 0, none⟩ (.slice (some ⟨g, o, none⟩) V.length c)).setCell ⟨w.heap.size + 1, 1, none⟩ (.slice (some ⟨wr.heap.size, 0, none⟩) 0 0)).alloc (.cells #[] 93)) gr (ops.length * 4) F) := ((HVF.out.1.apart _ _ _ hnr).apart _ _ _ hnr).below (by simpa using zg) (below_alloc _ _)
      have RT := rets_of_vals VX.out HVF.out.2 (vRets_length _ _ _) (by simp; omega) HOP.out.len w.heap.size
      have RX : Hid (RoO (((wr.setCell ⟨w.heap.size + 1, 0, none⟩ (.slice (some ⟨g, o, none⟩) V.length c)).setCell ⟨w.heap.size + 1, 1, none⟩ (.slice (some ⟨wr.heap.size, 0, none⟩) 0 0)).alloc (.cells #[] 93)) (w.heap.size + 2) g o c V) := by
        refine RoO.alloc (HRF.out.kept (by simp) ?_) _
        have key : ∀ (W : World) (j : Nat) (v : Value), (W.setCell ⟨w.heap.size + 1, j, none⟩ v).heap[g]? = W.heap[g]? := fun W j v => Below.heap_setCell W _ _ g (show g ≠ w.heap.size + 1 by omega)
        rw [key, key]
      refine bodyPost_ret (v := .tuple #[.agg #[.slice (some ⟨g, o, none⟩) V.length c, .slice (some ⟨wr.heap.size, 0, none⟩) 0 0], .slice (some ⟨gr, 0, none⟩) ops.length ops.length]) ?_ rfl ⟨⟨some ⟨g, o, none⟩, g, o, c, some ⟨wr.heap.size, 0, none⟩, wr.heap.size, 0, 0⟩, some ⟨gr, 0, none⟩, gr, ops.length, ?_, ?_, ?_, ?_, ?_, fun _ => rfl, ?_, fun _ => by omega⟩
      · rw [results_ct rfl]; go_simp
      · rw [ER.out.1, ← HVV.out]; rfl
      · exact ((HB.out.setCell (Nat.le_succ _) _).setCell (Nat.le_succ _) _).alloc (by simpa using HB.out.size) _
      · rw [ER.out.1, ← HVV.out]
        exact ⟨⟨RX.out.ord, ⟨fun q => absurd rfl q, fun q => absurd rfl q, fun i hi => by simp at hi, by simp, fun i hi => by simp at hi⟩, (fun q => by cases q), (fun q => by cases q)⟩, (fun _ => by show w.heap.size ≤ g; omega), fun q => absurd rfl q, fun i hi => (RX.out.there i (by have := RX.out.le; simp only at hi; omega)).2⟩
      · rw [ER.out.2]; exact RT.1
      · exact RT.2.1
      · exact RT.2.2
end Go.Proofs.YtcphajjonecmbaaDoor

namespace Go.Proofs.YtcphajjonecmbaaDoor

open Go.RowKit Go.Deep

attribute [local go_sem ↓] Go.wp_at_zero Go.wp_at_succ

theorem pairs_empty (w : World) (a : Option Addr) (g o : Nat) : PairsAt w a g o [] := ⟨fun q => absurd rfl q, fun q => absurd rfl q, fun i hi => by simp at hi, by simp, fun i hi => by simp at hi⟩
theorem ord_empty (w : World) (a : Option Addr) (g o : Nat) : OrdAt w a g o [] := ⟨fun q => absurd rfl q, fun q => absurd rfl q, by simp, fun i hi => by simp at hi⟩
theorem RetsAtM.below' {w w' : World} {B : Nat} {a : Option Addr} {g o : Nat} {rs : List RetD} (h : RetsAtM w a g o rs) (hb : Below B w w') (hB : w.heap.size ≤ B) : RetsAtM w' a g o rs := h.below (hb.mono hB)
theorem kN_all7 {ops : List OpD} : ∀ n, (∀ i, i < n → kdErr (opAt ops i).kind = 0) → kN ops n = true
  | 0, _ => rfl
  | n + 1, h => by
    show (kN ops n && decide (kdErr (opAt ops n).kind = 0)) = true
    rw [kN_all7 n (fun i hi => h i (by omega)), decide_eq_true (h n (by omega))]
    rfl
/-- A cell that holds a list's head is written: no pair is. -/
theorem cell_setS {w : World} {N p : Nat} {a : Option Addr} {m c : Nat} (hs : w.cell? ⟨N, p, none⟩ = some (.slice a m c)) (v : Value) {b j : Nat} {u : Value} (hc : w.cell? ⟨b, j, none⟩ = some u) (hu : ∀ a m c, u ≠ .slice a m c) : (w.setCell ⟨N, p, none⟩ v).cell? ⟨b, j, none⟩ = some u := by
  rw [World.cell?_setCell_other _ _ _ _ (fun q => ?_)]
  · exact hc
  · rw [q, hc] at hs
    exact hu _ _ _ (Option.some.inj hs)
theorem PairsAt.setS {w : World} {N p : Nat} {a : Option Addr} {m c : Nat} (hs : w.cell? ⟨N, p, none⟩ = some (.slice a m c)) (v : Value) {base : Option Addr} {b o : Nat} {ps : PL} (h : PairsAt w base b o ps) : PairsAt (w.setCell ⟨N, p, none⟩ v) base b o ps :=
  ⟨h.base, fun q => by simpa using h.lt q, fun i hi => ⟨cell_setS hs v (h.cells i hi).1 (fun _ _ _ q => by cases q), cell_setS hs v (h.cells i hi).2 (fun _ _ _ q => by cases q)⟩, h.len, fun i hi => by simpa using h.thaw i hi⟩
theorem cell_setN {w : World} {N p b j : Nat} (hp : p < 3) (hj : 3 ≤ j) (v : Value) : (w.setCell ⟨N, p, none⟩ v).cell? ⟨b, j, none⟩ = w.cell? ⟨b, j, none⟩ :=
  World.cell?_setCell_other _ _ _ _ (fun q => by have := congrArg Addr.off q; simp at this; omega)
theorem RetsAtM.setS {w : World} {N p : Nat} {a : Option Addr} {m c : Nat} (hs : w.cell? ⟨N, p, none⟩ = some (.slice a m c)) (hp : p < 3) (v : Value) {base : Option Addr} {b : Nat} {rs : List RetD} (h : RetsAtM w base b 0 rs) : RetsAtM (w.setCell ⟨N, p, none⟩ v) base b 0 rs := by
  refine ⟨h.base, fun q => by simpa using h.lt q, fun i hi => ?_, h.len⟩
  obtain ⟨a', g, q, c', c0, c1, c2, c3, hp'⟩ := h.cells i hi
  exact ⟨a', g, q, c', cell_setS hs v c0 (fun _ _ _ q => by cases q), cell_setS hs v c1 (fun _ _ _ q => by cases q), cell_setS hs v c2 (fun _ _ _ q => by cases q), (cell_setN hp (by omega) v).trans c3, hp'.setS hs v⟩
theorem NilZ.setS {w : World} {N p g n : Nat} (hp : p < 3) (v : Value) (h : NilZ w g n) : NilZ (w.setCell ⟨N, p, none⟩ v) g n := by
  intro i hi a m c hc
  rw [cell_setN hp (by omega)] at hc
  exact h i hi a m c hc
theorem NilZ.below {w w' : World} {g n : Nat} (hg : n ≠ 0 → g < w.heap.size) (hb : Below w.heap.size w w') (h : NilZ w g n) : NilZ w' g n := by
  intro i hi a m c hc
  rw [hb.cell (p := ⟨g, i * 4 + 3, none⟩) (hg (by omega))] at hc
  exact h i hi a m c hc
theorem LowZ.setS {w : World} {N p B g n : Nat} (hp : p < 3) (v : Value) (h : LowZ w B g n) : LowZ (w.setCell ⟨N, p, none⟩ v) B g n := by
  intro i hi a m c hc
  rw [cell_setN hp (by omega)] at hc
  exact h i hi a m c hc
theorem LowZ.below {w w' : World} {B g n : Nat} (hg : n ≠ 0 → g < w.heap.size) (hb : Below w.heap.size w w') (h : LowZ w B g n) : LowZ w' B g n := by
  intro i hi a m c hc
  rw [hb.cell (p := ⟨g, i * 4 + 3, none⟩) (hg (by omega))] at hc
  exact h i hi a m c hc
theorem LowZ.down {w : World} {B B' g n : Nat} (h : LowZ w B g n) (hB : B' ≤ B) : LowZ w B' g n := fun i hi a m c hc hm => by
  obtain ⟨k, p, e, hk⟩ := h i hi a m c hc hm
  exact ⟨k, p, e, Nat.le_trans hB hk⟩
set_option maxRecDepth 100000 in
set_option maxHeartbeats 2000000 in
theorem runM_any (x : SX) (s : SD) (ob : Option Addr) (bo oo co : Nat) (ops : List OpD) (w : World) (h : StAt w x s) (hop : OpsAt w ob bo oo ops) (hf : inFm 5 s = true) (hk : ksN 5 ops = true) (hp : s.prs.length ≤ 1000000000) (ho : ops.length ≤ 1000000000) :
    Calls Tryd.prog 58 #[.int .i64 5, x.v s, .slice ob ops.length co] w (RunP 5 s ops w) := by
  rw [inFm_map] at hf
  rw [Bool.and_eq_true, decide_eq_true_eq, decide_eq_true_eq] at hf
  have hv0 : s.vals = [] := List.length_eq_zero_iff.1 hf.1
  have hRE : runErr s.prs ops = 0 := by
    unfold runErr
    rw [if_pos hf.2]
    unfold kErr
    rw [kN_all7]
    · rfl
    · intro i hi
      have := ksN_iff.1 hk i hi
      simp [kOk, kMax] at this
      unfold kdErr
      rw [if_neg (by omega)]
  have ER : Hid (sRun 5 s ops = ⟨[], runL s.prs ops⟩ ∧ sRets 5 s ops = runR s.prs ops) := ⟨sRun_map ops s hv0, sRets_map ops s⟩
  have HLR : Hid ((runR s.prs ops).length = ops.length) := runR_length _ _
  obtain ⟨W0, hW0⟩ : ∃ W0, W0 = (w.alloc (.cells #[.slice x.va s.vals.length x.vc, .slice x.pa s.prs.length x.pc] 31)).alloc (.cells #[.slice none 0 0, .slice none 0 0] 31) := ⟨_, rfl⟩
  have b0 : Below w.heap.size w W0 := by rw [hW0]; exact two_blocks _ _ _ _ _
  have B0 : Hid (Below w.heap.size w W0) := b0
  have z0 : W0.heap.size = w.heap.size + 2 := by rw [hW0]; simp
  have RS : Hid (W0.heap[w.heap.size + 1]? = some (.cells #[.slice none 0 0, .slice none 0 0] 31)) := by
    show W0.heap[w.heap.size + 1]? = _
    rw [hW0]; exact heap_alloc_at _ _ _ (by simp)
  have R0 : W0.heap[w.heap.size]? = some (.cells #[.slice x.va s.vals.length x.vc, .slice x.pa s.prs.length x.pc] 31) := by
    rw [hW0]; exact (heap_alloc_old _ _ (by simp)).trans (heap_alloc_at _ _ _ rfl)
  have a0 : W0.cell? ⟨w.heap.size, 1, none⟩ = some (.slice x.pa s.prs.length x.pc) := by simp [World.cell?, R0]
  have RUN : Hid (Calls Tryd.prog 47 #[.slice x.pa s.prs.length x.pc, .slice ob ops.length co] W0 fun e w' => ∃ a1 g1 c1 a2 c2 g2, e = .returned (.tuple #[.slice a1 (runL s.prs ops).length c1, .slice a2 ops.length c2, .int .i64 0]) ∧ Below W0.heap.size W0 w' ∧ ((runL s.prs ops).length ≠ 0 → W0.heap.size ≤ g1) ∧ PairsAt w' a1 g1 0 (runL s.prs ops) ∧ (a1 = none → c1 = 0) ∧ RetsAtM w' a2 g2 0 (runR s.prs ops) ∧ NilZ w' g2 ops.length ∧ LowZ w' W0.heap.size g2 ops.length ∧ (ops.length ≠ 0 → W0.heap.size ≤ g2)) := by
    have h1 := pRunB_any x.pa x.pg x.po x.pc s.prs ob bo oo co ops W0 (h.prs.below b0) h.pnil (hop.below b0) (by omega)
    have e1 : runLd s.prs ops = runL s.prs ops := by unfold runLd; rw [if_pos hRE]
    have e2 : runRd s.prs ops = runR s.prs ops := by unfold runRd; rw [if_pos hRE]
    rw [hRE, e1, e2, HLR.out] at h1
    refine h1.mono ?_
    rintro e w' ⟨v1, a2, c2, g2, rfl, hb, ⟨a1, g1, c1, rfl, hg, hpp, hn⟩, hr, hz, hlz, hrz⟩
    exact ⟨a1, g1, c1, a2, c2, g2, rfl, hb, hg, hpp, hn, hr, hz, hlz, hrz⟩
  have qn : ∀ (w : World) (a : Option Addr) (n c n' c' : Nat), (binOp .eql 23 (.slice a n c) (.slice none n' c')).run Tryd.prog w = .ok (.bool a.isNone) w := fun w a n c n' c' => Lib.run_eql_slice_nil w _ _ a n c n' c' prs_under
  obtain ⟨L, hL⟩ : ∃ L, L = runL s.prs ops := ⟨_, rfl⟩
  obtain ⟨R, hR⟩ : ∃ R, R = runR s.prs ops := ⟨_, rfl⟩
  rw [← hL, ← hR] at ER
  rw [← hR] at HLR
  simp only [← hL, ← hR] at RUN
  unfold SX.v
  obtain ⟨l, hl⟩ : ∃ l, l = L.length := ⟨_, rfl⟩
  have HL : Hid (l = L.length) := hl
  simp only [← hl] at RUN
  clear h hop hf hk hv0 hRE b0 R0 hL hR hl
  go_enter Tryd.func58, Tryd.ntmps58
  go_upto_region 2 with fail
  rw [← hW0]
  clear hW0
  go_upto_region 3 with (first | (go_at_call 47; refine RUN.out.mono ?_; rintro e w1 ⟨a1, g1, c1, a2, c2, g2, rfl, hb1, hg1, hp1, hn1, hr1, hz1, hlz1, hrz1⟩; have B1 : Hid (Below w.heap.size w w1) := B0.out.trans (hb1.mono B0.out.size); have BB : Hid (Below W0.heap.size W0 w1) := hb1; have G1 : Hid (l ≠ 0 → W0.heap.size ≤ g1) := hg1; have P1 : Hid (PairsAt w1 a1 g1 0 L) := hp1; have N1 : Hid (a1 = none → c1 = 0) := hn1; have R1 : Hid (RetsAtM w1 a2 g2 0 R ∧ NilZ w1 g2 ops.length) := ⟨hr1, hz1⟩; have R2 : Hid (LowZ w1 W0.heap.size g2 ops.length ∧ (ops.length ≠ 0 → W0.heap.size ≤ g2)) := ⟨hlz1, hrz1⟩; clear hb1 hg1 hp1 hn1 hr1 hz1 hlz1 hrz1))
  have RS1 : Hid (w1.heap[w.heap.size + 1]? = some (.cells #[.slice none 0 0, .slice none 0 0] 31)) := (BB.out.block _ (by omega)).trans RS.out
  have hzz : w.heap.size + 1 < w1.heap.size := by have := BB.out.size; omega
  have L0 : Hid (ops.length ≠ 0 → a2 = some ⟨g2, 0, none⟩) := fun q => R1.out.1.base (by rw [HLR.out]; exact q)
  have LT : Hid (ops.length ≠ 0 → g2 < w1.heap.size) := fun q => R1.out.1.lt (by rw [HLR.out]; exact q)
  have FIN : Hid (∀ (W : World) (u v : Value) (T : TypeId) (a' : Option Addr) (g' c' : Nat), Below w1.heap.size w1 W → PairsAt W a' g' 0 L → (L.length ≠ 0 → w.heap.size ≤ g') → (a' = none → L.length = 0 ∧ c' = 0) → RunP 5 s ops w (.returned (.tuple #[.agg #[.slice (some ⟨W.heap.size, 0, none⟩) 0 0, .slice a' l c'], .slice a2 ops.length c2])) (((W.setCell ⟨w.heap.size + 1, 0, none⟩ u).setCell ⟨w.heap.size + 1, 1, none⟩ v).alloc (.cells #[] T))) := by
    intro W u v T a' g' c' hW hP hg' hn'
    have RSW : W.heap[w.heap.size + 1]? = some (.cells #[.slice none 0 0, .slice none 0 0] 31) := (hW.block _ hzz).trans RS1.out
    have p0 : W.cell? ⟨w.heap.size + 1, 0, none⟩ = some (.slice none 0 0) := by simp [World.cell?, RSW]
    have p2 : W.cell? ⟨w.heap.size + 1, 1, none⟩ = some (.slice none 0 0) := by simp [World.cell?, RSW]
    have q2 : (W.setCell ⟨w.heap.size + 1, 0, none⟩ u).cell? ⟨w.heap.size + 1, 1, none⟩ = some (.slice none 0 0) := by
      rw [World.cell?_setCell_other _ _ _ _ (fun q => by have := congrArg Addr.off q; simp at this)]
      exact p2
    have bX : Below (((W.setCell ⟨w.heap.size + 1, 0, none⟩ u).setCell ⟨w.heap.size + 1, 1, none⟩ v)).heap.size ((W.setCell ⟨w.heap.size + 1, 0, none⟩ u).setCell ⟨w.heap.size + 1, 1, none⟩ v) (((W.setCell ⟨w.heap.size + 1, 0, none⟩ u).setCell ⟨w.heap.size + 1, 1, none⟩ v).alloc (.cells #[] T)) := below_alloc _ _
    have RW : RetsAtM W a2 g2 0 R := R1.out.1.below hW
    have NW : NilZ W g2 ops.length := R1.out.2.below (fun q => LT.out q) hW
    have hzW := hW.size
    have LW : LowZ W w.heap.size g2 ops.length := (R2.out.1.below (fun q => LT.out q) hW).down (by omega)
    refine ⟨⟨some ⟨W.heap.size, 0, none⟩, W.heap.size, 0, 0, a', g', 0, c'⟩, a2, g2, c2, ?_, ?_, ?_, ?_, ?_, L0.out, ?_, fun q => by have := R2.out.2 q; omega⟩
    · rw [ER.out.1, HL.out]; rfl
    · exact (((B1.out.trans (hW.mono (by omega))).setCell (Nat.le_succ _) _).setCell (Nat.le_succ _) _).alloc (by simp; omega) _
    · rw [ER.out.1]
      exact ⟨⟨ord_empty _ _ _ _, ((hP.setS p0 u).setS q2 v).below bX, (fun q => by cases q), hn'⟩, fun q => absurd rfl q, hg', fun i hi => by simp at hi⟩
    · rw [ER.out.2]
      exact ((RW.setS p0 (by omega) u).setS q2 (by omega) v).below bX
    · exact ((NW.setS (by omega) u).setS (by omega) v).below (fun q => by have := LT.out q; simp; omega) bX
    · exact ((LW.setS (by omega) u).setS (by omega) v).below (fun q => by have := LT.out q; simp; omega) bX
  have hz1 := B1.out.size
  have hz0 : W0.heap.size ≤ w1.heap.size := BB.out.size
  clear BB
  cases a1 with
  | none =>
    have hl0 : l = 0 := by
      by_cases q : l = 0
      · exact q
      · have := P1.out.base (by rw [← HL.out]; exact q)
        cases this
    have hL0 : Hid (L = []) := List.length_eq_zero_iff.1 (by rw [← HL.out]; exact hl0)
    subst hl0
    go_upto_region 5 with fail
    obtain ⟨w2, hw2⟩ : ∃ w2, w2 = w1.alloc (.cells #[] 93) := ⟨_, rfl⟩
    have b2 : Below w1.heap.size w1 w2 := by rw [hw2]; exact below_alloc _ _
    have B2 : Hid (Below w1.heap.size w1 w2) := b2
    have z2 : w2.heap.size = w1.heap.size + 1 := by rw [hw2]; simp
    have RS2 := (b2.block _ hzz).trans RS1.out
    obtain ⟨⟨p0, p1⟩, ⟨p2, p3⟩⟩ : (w2.cell? ⟨w.heap.size + 1, 0, none⟩ = some (.slice none 0 0) ∧ w2.frozen? ⟨w.heap.size + 1, 0, none⟩ = false) ∧ (w2.cell? ⟨w.heap.size + 1, 1, none⟩ = some (.slice none 0 0) ∧ w2.frozen? ⟨w.heap.size + 1, 1, none⟩ = false) := by
      simp [World.cell?, World.frozen?, RS2]
    have hzz2 : w.heap.size + 1 < w2.heap.size := by omega
    rw [← hw2]
    have F2 : Hid _ := FIN.out w2 (.slice (some ⟨w2.heap.size, 0, none⟩) 0 0) (.slice (some ⟨w1.heap.size, 0, none⟩) 0 0) 3 (some ⟨w1.heap.size, 0, none⟩) w1.heap.size 0 b2 (by rw [hL0.out]; exact pairs_empty _ _ _ _) (fun _ => by omega) (fun q => by cases q)
    rw [z2] at F2
    have hzz3 : w.heap.size + 1 < w1.heap.size + 1 := by omega
    have hzz4 : w.heap.size < w1.heap.size := by omega
    clear hw2 b2 RS2 FIN
    go_wp2_with fail
    refine bodyPost_ret (v := .tuple #[.agg #[.slice (some ⟨w1.heap.size + 1, 0, none⟩) 0 0, .slice (some ⟨w1.heap.size, 0, none⟩) 0 0], .slice a2 ops.length c2]) ?_ rfl ?_
    · rw [results_ct rfl]; go_simp
    · exact F2.out
  | some ad =>
    obtain ⟨⟨p0, p1⟩, ⟨p2, p3⟩⟩ : (w1.cell? ⟨w.heap.size + 1, 0, none⟩ = some (.slice none 0 0) ∧ w1.frozen? ⟨w.heap.size + 1, 0, none⟩ = false) ∧ (w1.cell? ⟨w.heap.size + 1, 1, none⟩ = some (.slice none 0 0) ∧ w1.frozen? ⟨w.heap.size + 1, 1, none⟩ = false) := by
      simp [World.cell?, World.frozen?, RS1.out]
    have F2 : Hid _ := FIN.out w1 (.slice (some ⟨w1.heap.size, 0, none⟩) 0 0) (.slice (some ad) l c1) 3 (some ad) g1 c1 (Below.refl _ _) P1.out (fun q => by have := G1.out (by rw [HL.out]; exact q); omega) (fun q => by cases q)
    clear FIN
    go_wp2_with fail
    refine bodyPost_ret (v := .tuple #[.agg #[.slice (some ⟨w1.heap.size, 0, none⟩) 0 0, .slice (some ad) l c1], .slice a2 ops.length c2]) ?_ rfl ?_
    · rw [results_ct rfl]; go_simp
    · exact F2.out
end Go.Proofs.YtcphajjonecmbaaDoor

namespace Go.Proofs.YtcphajjonecmbaaDoor

open Go.RowKit Go.Deep

attribute [local go_sem ↓] Go.wp_at_zero Go.wp_at_succ

theorem run_any (t : Int) (x : SX) (s : SD) (ob : Option Addr) (bo oo co : Nat) (ops : List OpD) (w : World) (h : StAt w x s) (hop : OpsAt w ob bo oo ops) (he : sErr t s = 0) (hk : ksN t ops = true) (hv : s.vals.length ≤ 1000000000) (hp : s.prs.length ≤ 1000000000) (ho : ops.length ≤ 1000000000) :
    Calls Tryd.prog 58 #[.int .i64 t, x.v s, .slice ob ops.length co] w (RunP t s ops w) := by
  obtain ⟨ht, hf⟩ := sErr_zero.1 he
  by_cases h5 : t = 5
  · subst h5
    exact runM_any x s ob bo oo co ops w h hop hf hk hp ho
  · exact runV_any t x s ob bo oo co ops w h hop (by omega) hf hv ho
theorem results_ctt {fn : Func} {a b p : Tmp} {ty : TypeId} (h : fn.results = #[.cell p ty, .tmp a, .tmp b]) (tmps : Array Value) (P : Program) (w : World) :
    (results fn tmps).run P w = ((asAddr (tmps.getD p undef)).run P w).andThen fun ad w₁ => ((loadVar ty ad).run P w₁).andThen fun v w₂ => .ok (.tuple #[v, tmps.getD a undef, tmps.getD b undef]) w₂ := by
  simp only [results, h]
  simp [Sem.run_bind, Result.andThen]
theorem results_cct {fn : Func} {b p q : Tmp} {ty ty' : TypeId} (h : fn.results = #[.cell p ty, .cell q ty', .tmp b]) (tmps : Array Value) (P : Program) (w : World) :
    (results fn tmps).run P w = ((asAddr (tmps.getD p undef)).run P w).andThen fun ad w₁ => ((loadVar ty ad).run P w₁).andThen fun v w₂ => ((asAddr (tmps.getD q undef)).run P w₂).andThen fun ad' w₃ => ((loadVar ty' ad').run P w₃).andThen fun v' w₄ => .ok (.tuple #[v, v', tmps.getD b undef]) w₄ := by
  simp only [results, h]
  simp [Sem.run_bind, Result.andThen]
def SD.zero : SD := ⟨[], []⟩
def sRunD (t : Int) (s : SD) (ops : List OpD) : SD := if rnErr t s ops = 0 then sRun t s ops else SD.zero
def sRetsD (t : Int) (s : SD) (ops : List OpD) : List RetD := if rnErr t s ops = 0 then sRets t s ops else []
theorem rnErr_zero {t : Int} {s : SD} {ops : List OpD} : rnErr t s ops = 0 ↔ sErr t s = 0 ∧ ksN t ops = true := by
  unfold rnErr
  split
  · rename_i h
    split
    · rename_i q; exact ⟨fun _ => ⟨h, q⟩, fun _ => rfl⟩
    · rename_i q
      constructor
      · intro z; cases z
      · rintro ⟨-, z⟩; exact absurd z q
  · rename_i h; exact ⟨fun q => absurd q h, fun q => absurd q.1 h⟩
theorem OrdAt.setS {w : World} {N p : Nat} {a : Option Addr} {m c : Nat} (hs : w.cell? ⟨N, p, none⟩ = some (.slice a m c)) (v : Value) {base : Option Addr} {b o : Nat} {xs : List Int} (h : OrdAt w base b o xs) : OrdAt (w.setCell ⟨N, p, none⟩ v) base b o xs :=
  ⟨h.base, fun q => by simpa using h.lt q, h.len, fun i hi => cell_setS hs v (h.cells i hi) (fun _ _ _ q => by cases q)⟩
theorem StAt.setS {w : World} {N p : Nat} {a : Option Addr} {m c : Nat} (hs : w.cell? ⟨N, p, none⟩ = some (.slice a m c)) (v : Value) {x : SX} {s : SD} (h : StAt w x s) : StAt (w.setCell ⟨N, p, none⟩ v) x s := ⟨h.vals.setS hs v, h.prs.setS hs v, h.vnil, h.pnil⟩
theorem StNew.setS {w : World} {N p : Nat} {a : Option Addr} {m c : Nat} (hs : w.cell? ⟨N, p, none⟩ = some (.slice a m c)) (v : Value) {B : Nat} {x : SX} {s : SD} (h : StNew w B x s) : StNew (w.setCell ⟨N, p, none⟩ v) B x s := ⟨h.at_.setS hs v, h.vB, h.pB, fun i hi => by simpa using h.vthaw i hi⟩
theorem cells2 {w : World} {b : Nat} {c0 c1 : Value} {T : TypeId} (h : w.heap[b]? = some (.cells #[c0, c1] T)) : (w.cell? ⟨b, 0, none⟩ = some c0 ∧ w.frozen? ⟨b, 0, none⟩ = false) ∧ (w.cell? ⟨b, 1, none⟩ = some c1 ∧ w.frozen? ⟨b, 1, none⟩ = false) := by simp [World.cell?, World.frozen?, h]
theorem set_keeps2 {w : World} {N : Nat} {u : Value} {a : Option Addr} {m c : Nat} (h : w.cell? ⟨N, 1, none⟩ = some (.slice a m c)) : (w.setCell ⟨N, 0, none⟩ u).cell? ⟨N, 1, none⟩ = some (.slice a m c) := by
  rw [World.cell?_setCell_other _ _ _ _ (fun q => by have := congrArg Addr.off q; simp at this)]
  exact h
def RunsP (t : Int) (s : SD) (ops : List OpD) (w : World) (e : Ending) (w' : World) : Prop :=
  ∃ x ra rg rk, e = .returned (.tuple #[x.v (sRunD t s ops), .slice ra (sRetsD t s ops).length rk, .int .i64 (rnErr t s ops)]) ∧ Below w.heap.size w w' ∧ StNew w' w.heap.size x (sRunD t s ops) ∧ RetsAtM w' ra rg 0 (sRetsD t s ops) ∧ NilZ w' rg (sRetsD t s ops).length ∧ LowZ w' w.heap.size rg (sRetsD t s ops).length ∧ ((sRetsD t s ops).length ≠ 0 → w.heap.size ≤ rg)
theorem StNew.zero (w : World) (B : Nat) : StNew w B ⟨none, 0, 0, 0, none, 0, 0, 0⟩ SD.zero := ⟨⟨ord_empty _ _ _ _, pairs_empty _ _ _ _, fun _ => ⟨rfl, rfl⟩, fun _ => ⟨rfl, rfl⟩⟩, fun q => absurd rfl q, fun q => absurd rfl q, fun i hi => by simp [SD.zero] at hi⟩
theorem RetsAtM.empty (w : World) (a : Option Addr) (g o : Nat) : RetsAtM w a g o [] := ⟨fun q => absurd rfl q, fun q => absurd rfl q, fun i hi => by simp at hi, by simp⟩
set_option maxRecDepth 100000 in
set_option maxHeartbeats 2000000 in
theorem Run_any (t : Int) (x : SX) (s : SD) (ob : Option Addr) (bo oo co : Nat) (ops : List OpD) (w : World) (h : StAt w x s) (hkd : KdAt w) (hop : OpsAt w ob bo oo ops) (hv : s.vals.length ≤ 1000000000) (hp : s.prs.length ≤ 1000000000) (ho : ops.length ≤ 1000000000) :
    Calls Tryd.prog 16 #[.int .i64 t, x.v s, .slice ob ops.length co] w (RunsP t s ops w) := by
  obtain ⟨W0, hW0⟩ : ∃ W0, W0 = (w.alloc (.cells #[.slice x.va s.vals.length x.vc, .slice x.pa s.prs.length x.pc] 31)).alloc (.cells #[.slice none 0 0, .slice none 0 0] 31) := ⟨_, rfl⟩
  have b0 : Below w.heap.size w W0 := by rw [hW0]; exact two_blocks _ _ _ _ _
  have B0 : Hid (Below w.heap.size w W0) := b0
  have z0 : w.heap.size + 2 ≤ W0.heap.size := by rw [hW0]; simp
  have RS : Hid (W0.heap[w.heap.size + 1]? = some (.cells #[.slice none 0 0, .slice none 0 0] 31)) := by
    show W0.heap[w.heap.size + 1]? = _
    rw [hW0]; exact heap_alloc_at _ _ _ (by simp)
  have R0 : Hid (W0.heap[w.heap.size]? = some (.cells #[.slice x.va s.vals.length x.vc, .slice x.pa s.prs.length x.pc] 31)) := by
    show W0.heap[w.heap.size]? = _
    rw [hW0]; exact (heap_alloc_old _ _ (by simp)).trans (heap_alloc_at _ _ _ rfl)
  obtain ⟨a0, a1⟩ : W0.cell? ⟨w.heap.size, 0, none⟩ = some (.slice x.va s.vals.length x.vc) ∧ W0.cell? ⟨w.heap.size, 1, none⟩ = some (.slice x.pa s.prs.length x.pc) := by simp [World.cell?, R0.out]
  have RF : Hid (Calls Tryd.prog 57 #[.int .i64 t, .agg #[.slice x.va s.vals.length x.vc, .slice x.pa s.prs.length x.pc], .slice ob ops.length co] W0 fun e w' => e = .returned (.int .i64 (rnErr t s ops)) ∧ Below W0.heap.size W0 w') := srefusal_any t x s ob bo oo co ops W0 (h.below b0) (hkd.below b0) (hop.below b0)
  have RN : Hid (rnErr t s ops = 0 → ∀ W, Below w.heap.size w W → Calls Tryd.prog 58 #[.int .i64 t, .agg #[.slice x.va s.vals.length x.vc, .slice x.pa s.prs.length x.pc], .slice ob ops.length co] W (RunP t s ops W)) := fun q W hW => run_any t x s ob bo oo co ops W (h.below hW) (hop.below hW) (rnErr_zero.1 q).1 (rnErr_zero.1 q).2 hv hp ho
  have E0 : Hid (rnErr t s ops = 0 → sRunD t s ops = sRun t s ops ∧ sRetsD t s ops = sRets t s ops) := fun q => ⟨if_pos q, if_pos q⟩
  have E1 : Hid (rnErr t s ops ≠ 0 → sRunD t s ops = SD.zero ∧ sRetsD t s ops = []) := fun q => ⟨if_neg q, if_neg q⟩
  have SL : Hid ((sRets t s ops).length = ops.length) := sRets_length _ _ _
  obtain ⟨E, hE⟩ : ∃ E, E = rnErr t s ops := ⟨_, rfl⟩
  have HE : Hid (E = rnErr t s ops) := hE
  simp only [← hE] at RF RN E0 E1
  unfold SX.v
  clear h hkd hop hE b0
  by_cases h0 : E = 0
  · subst h0
    have RUN := RN.out rfl
    have RU : Hid (∀ W, Below w.heap.size w W → Calls Tryd.prog 58 #[.int .i64 t, .agg #[.slice x.va s.vals.length x.vc, .slice x.pa s.prs.length x.pc], .slice ob ops.length co] W (RunP t s ops W)) := RUN
    obtain ⟨e0, e1⟩ := E0.out rfl
    have EE : Hid (sRunD t s ops = sRun t s ops ∧ sRetsD t s ops = sRets t s ops) := ⟨e0, e1⟩
    obtain ⟨S, hS⟩ : ∃ S, S = sRun t s ops := ⟨_, rfl⟩
    have HS : Hid (S = sRun t s ops) := hS
    obtain ⟨vl, hvl⟩ : ∃ vl, vl = S.vals.length := ⟨_, rfl⟩
    obtain ⟨pl, hpl⟩ : ∃ pl, pl = S.prs.length := ⟨_, rfl⟩
    have HVL : Hid (vl = S.vals.length ∧ pl = S.prs.length) := ⟨hvl, hpl⟩
    clear RN E0 E1 RUN e0 e1 hS hvl hpl
    go_enter Tryd.func16, Tryd.ntmps16
    go_upto_region 1 with fail
    rw [← hW0]
    clear hW0
    go_wp2_with (first | (go_at_call 57; refine RF.out.mono ?_; rintro e w1 ⟨rfl, hb1⟩; have B1 : Hid (Below W0.heap.size W0 w1) := hb1; have BW1 : Hid (Below w.heap.size w w1) := B0.out.trans (hb1.mono B0.out.size); have a2 := (hb1.cell (p := ⟨w.heap.size, 0, none⟩) (by show w.heap.size < W0.heap.size; omega)).trans a0; have a3 := (hb1.cell (p := ⟨w.heap.size, 1, none⟩) (by show w.heap.size < W0.heap.size; omega)).trans a1; clear hb1) | (go_at_call 58; refine (RU.out _ BW1.out).mono ?_; rintro e w2 ⟨y, ra, rg, rk, rfl, hb2, hs2, hr2, hz2, -, hlz2, hrz2⟩; rw [← HS.out] at hs2; have B2 : Hid (Below w1.heap.size w1 w2) := hb2; have S2 : Hid (StNew w2 w1.heap.size y S) := hs2; have R2 : Hid (RetsAtM w2 ra rg 0 (sRets t s ops) ∧ NilZ w2 rg ops.length) := ⟨hr2, hz2⟩; have R3 : Hid (LowZ w2 w1.heap.size rg ops.length ∧ (ops.length ≠ 0 → w1.heap.size ≤ rg)) := ⟨hlz2, hrz2⟩; have zz2 : w.heap.size + 1 < w2.heap.size := (by have := hb2.size; have := B1.out.size; omega); obtain ⟨⟨p0, p1⟩, ⟨p2, p3⟩⟩ := cells2 ((hb2.block _ (by have := B1.out.size; omega)).trans ((B1.out.block _ (by omega)).trans RS.out)); clear hb2 hs2 hr2 hz2 hlz2 hrz2; rw [← HS.out]; unfold SX.v; rw [← HVL.out.1, ← HVL.out.2]))
    have zw := B0.out.size
    have z1 := BW1.out.size
    have bX := below_alloc ((w2.setCell ⟨w.heap.size + 1, 0, none⟩ (.slice y.va vl y.vc)).setCell ⟨w.heap.size + 1, 1, none⟩ (.slice y.pa pl y.pc)) (.cells #[.slice y.va vl y.vc, .slice y.pa pl y.pc] 31)
    have q2 : (w2.setCell ⟨w.heap.size + 1, 0, none⟩ (.slice y.va vl y.vc)).cell? ⟨w.heap.size + 1, 1, none⟩ = some (.slice none 0 0) := set_keeps2 p2
    refine bodyPost_ret (v := .tuple #[.agg #[.slice y.va vl y.vc, .slice y.pa pl y.pc], .slice ra ops.length rk, .int .i64 0]) ?_ rfl ⟨y, ra, rg, rk, ?_, ?_, ?_, ?_, ?_, ?_, ?_⟩
    · rw [results_ctt rfl]; go_simp
    · rw [EE.out.1, EE.out.2, ← HS.out, SL.out, ← HE.out, HVL.out.1, HVL.out.2]; rfl
    · exact (((BW1.out.trans (B2.out.mono (by omega))).setCell (Nat.le_succ _) _).setCell (Nat.le_succ _) _).alloc (by simp; omega) _
    · rw [EE.out.1, ← HS.out]
      exact (((S2.out.setS p0 _).setS q2 _).below bX).down (by omega)
    · rw [EE.out.2]
      exact ((R2.out.1.setS p0 (by omega) _).setS q2 (by omega) _).below bX
    · rw [EE.out.2, SL.out]
      refine ((R2.out.2.setS (by omega) _).setS (by omega) _).below (fun q => ?_) bX
      have := R2.out.1.lt (by rw [SL.out]; exact q)
      simpa using this
    · rw [EE.out.2, SL.out]
      refine (((R3.out.1.down (by omega)).setS (by omega) _).setS (by omega) _).below (fun q => ?_) bX
      have := R2.out.1.lt (by rw [SL.out]; exact q)
      simpa using this
    · rw [EE.out.2, SL.out]
      intro q
      have := R3.out.2 q
      omega
  · have hne : (E != 0) = true := by simp [h0]
    have EE := E1.out h0
    have EE : Hid (sRunD t s ops = SD.zero ∧ sRetsD t s ops = []) := EE
    clear RN E0 E1 h0
    go_enter Tryd.func16, Tryd.ntmps16
    go_upto_region 1 with fail
    rw [← hW0]
    clear hW0
    go_wp2_with (first | (go_at_call 57; refine RF.out.mono ?_; rintro e w1 ⟨rfl, hb1⟩; have B1 : Hid (Below W0.heap.size W0 w1) := hb1; have BW1 : Hid (Below w.heap.size w w1) := B0.out.trans (hb1.mono B0.out.size); obtain ⟨⟨p0, p1⟩, ⟨p2, p3⟩⟩ := cells2 ((B1.out.block _ (by omega)).trans RS.out); clear hb1))
    refine bodyPost_ret (v := .tuple #[.agg #[.slice none 0 0, .slice none 0 0], .slice none 0 0, .int .i64 E]) ?_ rfl ⟨⟨none, 0, 0, 0, none, 0, 0, 0⟩, none, 0, 0, ?_, ?_, ?_, ?_, ?_, ?_, ?_⟩
    · rw [results_ctt rfl]; go_simp
    · rw [EE.out.1, EE.out.2, ← HE.out]; rfl
    · exact (BW1.out.setCell (Nat.le_succ _) _).setCell (Nat.le_succ _) _
    · rw [EE.out.1]; exact StNew.zero _ _
    · rw [EE.out.2]; exact RetsAtM.empty _ _ _ _
    · rw [EE.out.2]; exact fun i hi => by simp at hi
    · rw [EE.out.2]; exact fun i hi => by simp at hi
    · rw [EE.out.2]; exact fun q => absurd rfl q
/-- What Do leaves. -/
def sDoR (t : Int) (s : SD) (o : OpD) : RetD := if rnErr t s [o] = 0 then sRet t s o else RetD.zero
def DosP (t : Int) (s : SD) (o : OpD) (w : World) (e : Ending) (w' : World) : Prop :=
  ∃ x pa pg pc, e = .returned (.tuple #[x.v (sRunD t s [o]), .agg #[.bool (sDoR t s o).ok, .int .i64 (sDoR t s o).key, .int .i64 (sDoR t s o).val, .slice pa (sDoR t s o).pairs.length pc], .int .i64 (rnErr t s [o])]) ∧ Below w.heap.size w w' ∧ StNew w' w.heap.size x (sRunD t s [o]) ∧ (∃ po, PairsAt w' pa pg po (sDoR t s o).pairs) ∧ ((sDoR t s o).pairs.length ≠ 0 → w.heap.size ≤ pg) ∧ (pa = none → pc = 0)
theorem ops_one7 {w : World} {N : Nat} {o : OpD} {T : TypeId} (h : w.heap[N]? = some (.cells #[.int .i64 o.kind, .int .i64 o.key, .int .i64 o.val, .int .i64 o.hi] T)) : OpsAt w (some ⟨N, 0, none⟩) N 0 [o] := by
  obtain ⟨⟨a, _⟩, ⟨b, _⟩, ⟨c, _⟩, ⟨d, _⟩⟩ := cells4 h
  exact ops_one (Array.getElem?_eq_some_iff.1 h).1 ⟨a, b, c, d⟩
end Go.Proofs.YtcphajjonecmbaaDoor

namespace Go.Proofs.YtcphajjonecmbaaDoor

open Go.RowKit Go.Deep

attribute [local go_sem ↓] Go.wp_at_zero Go.wp_at_succ

theorem RetsAtM.one {w : World} {a : Option Addr} {g : Nat} {r : RetD} (h : RetsAtM w a g 0 [r]) : ∃ pa pg po pc, a = some ⟨g, 0, none⟩ ∧ g < w.heap.size ∧ w.cell? ⟨g, 0, none⟩ = some (.bool r.ok) ∧ w.cell? ⟨g, 1, none⟩ = some (.int .i64 r.key) ∧ w.cell? ⟨g, 2, none⟩ = some (.int .i64 r.val) ∧ w.cell? ⟨g, 3, none⟩ = some (.slice pa r.pairs.length pc) ∧ PairsAt w pa pg po r.pairs := by
  obtain ⟨pa, pg, po, pc, c0, c1, c2, c3, hp⟩ := h.cells 0 (by simp)
  exact ⟨pa, pg, po, pc, h.base (by simp), h.lt (by simp), c0, c1, c2, c3, hp⟩
theorem PairsAt.high {w w' : World} {B : Nat} {a : Option Addr} {g o : Nat} {ps : PL} (h : PairsAt w a g o ps) (hs : w.heap.size ≤ w'.heap.size) (hb : ∀ k, B ≤ k → k < w.heap.size → w'.heap[k]? = w.heap[k]?) (hg : ps.length ≠ 0 → B ≤ g) : PairsAt w' a g o ps := by
  refine ⟨h.base, fun q => Nat.lt_of_lt_of_le (h.lt q) hs, fun i hi => ?_, h.len, fun i hi => ?_⟩
  · have e := hb g (hg (by omega)) (h.lt (by omega))
    exact ⟨(World.cell?_of_block (a := ⟨g, _, none⟩) e).trans (h.cells i hi).1, (World.cell?_of_block (a := ⟨g, _, none⟩) e).trans (h.cells i hi).2⟩
  · have e := hb g (hg (by omega)) (h.lt (by omega))
    exact (World.frozen?_of_block (a := ⟨g, _, none⟩) e).trans (h.thaw i hi)
theorem OrdAt.high {w w' : World} {B : Nat} {a : Option Addr} {g o : Nat} {xs : List Int} (h : OrdAt w a g o xs) (hs : w.heap.size ≤ w'.heap.size) (hb : ∀ k, B ≤ k → k < w.heap.size → w'.heap[k]? = w.heap[k]?) (hg : xs.length ≠ 0 → B ≤ g) : OrdAt w' a g o xs := by
  refine ⟨h.base, fun q => Nat.lt_of_lt_of_le (h.lt q) hs, h.len, fun i hi => ?_⟩
  have e := hb g (hg (by omega)) (h.lt (by omega))
  exact (World.cell?_of_block (a := ⟨g, _, none⟩) e).trans (h.cells i hi)
theorem StNew.high {w w' : World} {B : Nat} {x : SX} {s : SD} (h : StNew w B x s) (hs : w.heap.size ≤ w'.heap.size) (hb : ∀ k, B ≤ k → k < w.heap.size → w'.heap[k]? = w.heap[k]?) : StNew w' B x s := by
  refine ⟨⟨h.at_.vals.high hs hb h.vB, h.at_.prs.high hs hb h.pB, h.at_.vnil, h.at_.pnil⟩, h.vB, h.pB, fun i hi => ?_⟩
  have e := hb x.vg (h.vB (by omega)) (h.at_.vals.lt (by omega))
  exact (World.frozen?_of_block (a := ⟨x.vg, _, none⟩) e).trans (h.vthaw i hi)
theorem heap_two (w : World) {N k : Nat} (hk : k ≠ N) (a b : Nat) (v0 v1 : Value) : ((w.setCell ⟨N, a, none⟩ v0).setCell ⟨N, b, none⟩ v1).heap[k]? = w.heap[k]? := by
  have key : ∀ (W : World) (j : Nat) (v : Value), (W.setCell ⟨N, j, none⟩ v).heap[k]? = W.heap[k]? := fun W j v => Below.heap_setCell W _ _ k hk
  rw [key, key]
set_option maxRecDepth 100000 in
set_option maxHeartbeats 2000000 in
theorem Do_any (t : Int) (x : SX) (s : SD) (o : OpD) (w : World) (h : StAt w x s) (hkd : KdAt w) (hv : s.vals.length ≤ 1000000000) (hp : s.prs.length ≤ 1000000000) :
    Calls Tryd.prog 21 #[.int .i64 t, x.v s, .agg #[.int .i64 o.kind, .int .i64 o.key, .int .i64 o.val, .int .i64 o.hi]] w (DosP t s o w) := by
  obtain ⟨W0, hW0⟩ : ∃ W0, W0 = (((w.alloc (.cells #[.slice x.va s.vals.length x.vc, .slice x.pa s.prs.length x.pc] 31)).alloc (.cells #[.int .i64 o.kind, .int .i64 o.key, .int .i64 o.val, .int .i64 o.hi] 43)).alloc (.cells #[.slice none 0 0, .slice none 0 0] 31)).alloc (.cells #[.bool false, .int .i64 0, .int .i64 0, .slice none 0 0] 45) := ⟨_, rfl⟩
  have b0 : Below w.heap.size w W0 := by rw [hW0]; exact ((two_blocks _ _ _ _ _).alloc (by simp; omega) _).alloc (by simp; omega) _
  have B0 : Hid (Below w.heap.size w W0) := b0
  have z0 : W0.heap.size = w.heap.size + 4 := by rw [hW0]; simp
  have R0 : Hid (W0.heap[w.heap.size]? = some (.cells #[.slice x.va s.vals.length x.vc, .slice x.pa s.prs.length x.pc] 31)) := by
    show W0.heap[w.heap.size]? = _
    rw [hW0]; exact (heap_alloc_old _ _ (by simp; omega)).trans ((heap_alloc_old _ _ (by simp; omega)).trans ((heap_alloc_old _ _ (by simp)).trans (heap_alloc_at _ _ _ rfl)))
  have R1 : Hid (W0.heap[w.heap.size + 1]? = some (.cells #[.int .i64 o.kind, .int .i64 o.key, .int .i64 o.val, .int .i64 o.hi] 43)) := by
    show W0.heap[w.heap.size + 1]? = _
    rw [hW0]; exact (heap_alloc_old _ _ (by simp)).trans ((heap_alloc_old _ _ (by simp)).trans (heap_alloc_at _ _ _ (by simp)))
  have R2 : Hid (W0.heap[w.heap.size + 1 + 1]? = some (.cells #[.slice none 0 0, .slice none 0 0] 31)) := by
    show W0.heap[w.heap.size + 1 + 1]? = _
    rw [hW0]; exact (heap_alloc_old _ _ (by simp)).trans (heap_alloc_at _ _ _ (by simp))
  have R3 : Hid (W0.heap[w.heap.size + 1 + 1 + 1]? = some (.cells #[.bool false, .int .i64 0, .int .i64 0, .slice none 0 0] 45)) := by
    show W0.heap[w.heap.size + 1 + 1 + 1]? = _
    rw [hW0]; exact heap_alloc_at _ _ _ (by simp)
  obtain ⟨⟨a0, _⟩, ⟨a1, _⟩⟩ := cells2 R0.out
  obtain ⟨⟨b0', _⟩, ⟨b1', _⟩, ⟨b2', _⟩, ⟨b3', _⟩⟩ := cells4 R1.out
  have RF : Hid (∀ W, Below w.heap.size w W → OpsAt W (some ⟨W0.heap.size, 0, none⟩) W0.heap.size 0 [o] → Calls Tryd.prog 57 #[.int .i64 t, .agg #[.slice x.va s.vals.length x.vc, .slice x.pa s.prs.length x.pc], .slice (some ⟨W0.heap.size, 0, none⟩) 1 1] W fun e w' => e = .returned (.int .i64 (rnErr t s [o])) ∧ Below W.heap.size W w') := fun W hW hO => srefusal_any t x s _ _ 0 1 [o] W (h.below hW) (hkd.below hW) hO
  have RN : Hid (rnErr t s [o] = 0 → ∀ W g, Below w.heap.size w W → OpsAt W (some ⟨g, 0, none⟩) g 0 [o] → Calls Tryd.prog 58 #[.int .i64 t, .agg #[.slice x.va s.vals.length x.vc, .slice x.pa s.prs.length x.pc], .slice (some ⟨g, 0, none⟩) 1 1] W (RunP t s [o] W)) := fun q W g hW hO => run_any t x s _ g 0 1 [o] W (h.below hW) hO (rnErr_zero.1 q).1 (rnErr_zero.1 q).2 hv hp (by simp)
  have E0 : Hid (rnErr t s [o] = 0 → sRunD t s [o] = sRun t s [o] ∧ sDoR t s o = sRet t s o) := fun q => ⟨if_pos q, if_pos q⟩
  have E1 : Hid (rnErr t s [o] ≠ 0 → sRunD t s [o] = SD.zero ∧ sDoR t s o = RetD.zero) := fun q => ⟨if_neg q, if_neg q⟩
  have OP : Hid (∀ W g T, W.heap[g]? = some (.cells #[.int .i64 o.kind, .int .i64 o.key, .int .i64 o.val, .int .i64 o.hi] T) → OpsAt W (some ⟨g, 0, none⟩) g 0 [o]) := fun W g T q => ops_one7 q
  obtain ⟨E, hE⟩ : ∃ E, E = rnErr t s [o] := ⟨_, rfl⟩
  have HE : Hid (E = rnErr t s [o]) := hE
  simp only [← hE] at RF RN E0 E1
  rw [z0] at RF
  unfold SX.v
  clear h hkd hE b0
  have O1 : Hid (OpsAt (W0.alloc (.cells #[.int .i64 o.kind, .int .i64 o.key, .int .i64 o.val, .int .i64 o.hi] 43)) (some ⟨w.heap.size + 4, 0, none⟩) (w.heap.size + 4) 0 [o]) := OP.out _ _ _ (heap_alloc_at _ _ _ z0.symm)
  have BA : Hid (Below w.heap.size w (W0.alloc (.cells #[.int .i64 o.kind, .int .i64 o.key, .int .i64 o.val, .int .i64 o.hi] 43))) := B0.out.alloc (by omega) _
  have BO : Hid (Below W0.heap.size W0 (W0.alloc (.cells #[.int .i64 o.kind, .int .i64 o.key, .int .i64 o.val, .int .i64 o.hi] 43))) := below_alloc _ _
  have RF1 : Hid (Calls Tryd.prog 57 #[.int .i64 t, .agg #[.slice x.va s.vals.length x.vc, .slice x.pa s.prs.length x.pc], .slice (some ⟨w.heap.size + 4, 0, none⟩) 1 1] (W0.alloc (.cells #[.int .i64 o.kind, .int .i64 o.key, .int .i64 o.val, .int .i64 o.hi] 43)) fun e w' => e = .returned (.int .i64 E) ∧ Below W0.heap.size W0 w') := (RF.out _ BA.out O1.out).mono (fun e w' q => ⟨q.1, BO.out.trans (q.2.mono BO.out.size)⟩)
  generalize hq1 : o.kind = q1 at *
  generalize hq2 : o.key = q2 at *
  generalize hq3 : o.val = q3 at *
  generalize hq4 : o.hi = q4 at *
  by_cases h0 : E = 0
  · subst h0
    have RUN := RN.out rfl
    have RU : Hid (∀ W g, Below w.heap.size w W → OpsAt W (some ⟨g, 0, none⟩) g 0 [o] → Calls Tryd.prog 58 #[.int .i64 t, .agg #[.slice x.va s.vals.length x.vc, .slice x.pa s.prs.length x.pc], .slice (some ⟨g, 0, none⟩) 1 1] W (RunP t s [o] W)) := RUN
    have EE0 := E0.out rfl
    have EE : Hid (sRunD t s [o] = sRun t s [o] ∧ sDoR t s o = sRet t s o) := EE0
    obtain ⟨S, hS⟩ : ∃ S, S = sRun t s [o] := ⟨_, rfl⟩
    have HS : Hid (S = sRun t s [o]) := hS
    obtain ⟨r, hr⟩ : ∃ r, r = sRet t s o := ⟨_, rfl⟩
    have HR : Hid (r = sRet t s o) := hr
    obtain ⟨vl, hvl⟩ : ∃ vl, vl = S.vals.length := ⟨_, rfl⟩
    obtain ⟨pl, hpl⟩ : ∃ pl, pl = S.prs.length := ⟨_, rfl⟩
    have HVL : Hid (vl = S.vals.length ∧ pl = S.prs.length) := ⟨hvl, hpl⟩
    obtain ⟨r1, r2, r3, r4⟩ := r
    obtain ⟨rl, hrl⟩ : ∃ rl, rl = r4.length := ⟨_, rfl⟩
    have HRL : Hid (rl = r4.length) := hrl
    clear RN E0 E1 RUN EE0 hS hvl hpl hr hrl RF O1 BA BO
    go_enter Tryd.func21, Tryd.ntmps21
    go_upto_region 1 with fail
    rw [← hW0]
    clear hW0
    go_upto_region 4 with (first | (go_at_call 57; refine RF1.out.mono ?_; rintro e w1 ⟨rfl, hb1⟩; have B1 : Hid (Below W0.heap.size W0 w1) := hb1; have BW1 : Hid (Below w.heap.size w w1) := B0.out.trans (hb1.mono B0.out.size); have z1 := hb1.size; have HR0 := (hb1.block (w.heap.size) (by omega)).trans R0.out; have HR1 := (hb1.block (w.heap.size + 1) (by omega)).trans R1.out; obtain ⟨⟨a2, _⟩, ⟨a3, _⟩⟩ := cells2 HR0; obtain ⟨⟨b2, _⟩, ⟨b3, _⟩, ⟨b4, _⟩, ⟨b5, _⟩⟩ := cells4 HR1; clear hb1 HR0 HR1))
    have O2 : Hid (OpsAt (w1.alloc (.cells #[.int .i64 q1, .int .i64 q2, .int .i64 q3, .int .i64 q4] 43)) (some ⟨w1.heap.size, 0, none⟩) w1.heap.size 0 [o]) := OP.out _ _ _ (heap_alloc_at _ _ _ rfl)
    have B2 : Hid (Below w1.heap.size w1 (w1.alloc (.cells #[.int .i64 q1, .int .i64 q2, .int .i64 q3, .int .i64 q4] 43))) := below_alloc _ _
    have BW2 : Hid (Below w.heap.size w (w1.alloc (.cells #[.int .i64 q1, .int .i64 q2, .int .i64 q3, .int .i64 q4] 43))) := BW1.out.alloc BW1.out.size _
    have RU2 : Hid (Calls Tryd.prog 58 #[.int .i64 t, .agg #[.slice x.va s.vals.length x.vc, .slice x.pa s.prs.length x.pc], .slice (some ⟨w1.heap.size, 0, none⟩) 1 1] (w1.alloc (.cells #[.int .i64 q1, .int .i64 q2, .int .i64 q3, .int .i64 q4] 43)) fun e w' => ∃ y rg rk pa pg po pc, e = .returned (.tuple #[.agg #[.slice y.va vl y.vc, .slice y.pa pl y.pc], .slice (some ⟨rg, 0, none⟩) 1 rk]) ∧ Below w1.heap.size w1 w' ∧ StNew w' w1.heap.size y S ∧ rg < w'.heap.size ∧ w'.cell? ⟨rg, 0, none⟩ = some (.bool r1) ∧ w'.cell? ⟨rg, 1, none⟩ = some (.int .i64 r2) ∧ w'.cell? ⟨rg, 2, none⟩ = some (.int .i64 r3) ∧ w'.cell? ⟨rg, 3, none⟩ = some (.slice pa rl pc) ∧ PairsAt w' pa pg po r4 ∧ (rl ≠ 0 → w1.heap.size ≤ pg) ∧ (pa = none → pc = 0)) := by
      refine (RU.out _ _ BW2.out O2.out).mono ?_
      rintro e w' ⟨y, ra, rg, rk, rfl, hb2, hs2, hr2, hz2, -, hlz2, hrz2⟩
      have hr3 : RetsAtM w' ra rg 0 [⟨r1, r2, r3, r4⟩] := by rw [HR.out]; exact hr2
      obtain ⟨pa, pg, po, pc, rfl, hl, c0, c1, c2, c3, hpp⟩ := hr3.one
      refine ⟨y, rg, rk, pa, pg, po, pc, ?_, B2.out.trans (hb2.mono B2.out.size), ?_, hl, c0, c1, c2, by rw [HRL.out]; exact c3, hpp, fun hn => ?_, fun hn => hz2 0 (by simp) pa _ pc c3 hn⟩
      · rw [← HS.out, HVL.out.1, HVL.out.2]; rfl
      · rw [HS.out]; exact hs2.down B2.out.size
      · have hn' : r4.length ≠ 0 := by rw [← HRL.out]; exact hn
        obtain ⟨k, p, e, hk⟩ := hlz2 0 (by simp) pa _ pc c3 hn'
        have := hpp.base hn'
        rw [e] at this
        injection this with this
        injection this with this _ _
        have := B2.out.size
        omega
    clear RU O2 B2 BW2
    go_wp2_with (first | (go_at_call 58; refine RU2.out.mono ?_; rintro e w2 ⟨y, rg, rk, pa, pg, po, pc, rfl, hb2, hs2, hlr, c0, c1, c2, c3, hpp, hpb, hpn⟩; have B2 : Hid (Below w1.heap.size w1 w2) := hb2; have S2 : Hid (StNew w2 w1.heap.size y S) := hs2; have P2 : Hid (PairsAt w2 pa pg po r4) := hpp; have PB : Hid ((rl ≠ 0 → w1.heap.size ≤ pg) ∧ (pa = none → pc = 0)) := ⟨hpb, hpn⟩; have zz2 : w.heap.size + 1 + 1 + 1 < w2.heap.size := (by have := hb2.size; omega); have zz3 : w.heap.size + 1 + 1 < w2.heap.size := (by omega); have HR2 : Hid _ := (hb2.block _ (by omega)).trans ((B1.out.block _ (by omega)).trans R2.out); have HR3 : Hid _ := (hb2.block _ (by omega)).trans ((B1.out.block _ (by omega)).trans R3.out); obtain ⟨⟨p0, p1⟩, ⟨p2, p3⟩⟩ := cells2 HR2.out; obtain ⟨⟨s0, s1⟩, ⟨s2, s3⟩, ⟨s4, s5⟩, ⟨s6, s7⟩⟩ := cells4 HR3.out; clear hb2 hs2 hpp hpb hpn))
    have hne : rg ≠ w.heap.size + 1 + 1 := fun q => by
      rw [q] at c0
      rw [p0] at c0
      cases c0
    have hlA : rg ≠ w2.heap.size := by omega
    go_region
    go_wp2_with fail
    have zw := BW1.out.size
    have z01 := B1.out.size
    refine bodyPost_ret (v := .tuple #[.agg #[.slice y.va vl y.vc, .slice y.pa pl y.pc], .agg #[.bool r1, .int .i64 r2, .int .i64 r3, .slice pa rl pc], .int .i64 0]) ?_ rfl ⟨y, pa, pg, pc, ?_, ?_, ?_, ⟨po, ?_⟩, ?_, PB.out.2⟩
    · rw [results_cct rfl]; go_simp
    · rw [EE.out.1, EE.out.2, ← HS.out, ← HR.out, ← HE.out, HVL.out.1, HVL.out.2, HRL.out]; rfl
    · refine (Below.alloc ?_ (by simp; omega) _).drew
      refine ((((((BW1.out.trans (B2.out.mono (by omega))).setCell ?_ _).setCell ?_ _).setCell ?_ _).setCell ?_ _).setCell ?_ _).setCell ?_ _ <;> first | (show w.heap.size ≤ w.heap.size + 1 + 1; omega) | (show w.heap.size ≤ w.heap.size + 1 + 1 + 1; omega)
    · rw [EE.out.1, ← HS.out]
      refine (S2.out.high (B := w1.heap.size) (by simp) (fun k hk hl => ?_)).down (by omega)
      show (World.alloc _ _).heap[k]? = _
      rw [heap_alloc_old _ _ (by simpa using hl), heap_four _ (by omega), heap_two _ (by omega)]
    · rw [EE.out.2, ← HR.out]
      refine P2.out.high (B := w1.heap.size) (by simp) (fun k hk hl => ?_) (fun q => PB.out.1 (by rw [HRL.out]; exact q))
      show (World.alloc _ _).heap[k]? = _
      rw [heap_alloc_old _ _ (by simpa using hl), heap_four _ (by omega), heap_two _ (by omega)]
    · rw [EE.out.2, ← HR.out]
      intro q
      have := PB.out.1 (by rw [HRL.out]; exact q)
      omega
  · have hne : (E != 0) = true := by simp [h0]
    have EE0 := E1.out h0
    have EE : Hid (sRunD t s [o] = SD.zero ∧ sDoR t s o = RetD.zero) := EE0
    clear RN E0 E1 h0 EE0 RF O1 BA BO
    go_enter Tryd.func21, Tryd.ntmps21
    go_upto_region 1 with fail
    rw [← hW0]
    clear hW0
    go_wp2_with (first | (go_at_call 57; refine RF1.out.mono ?_; rintro e w1 ⟨rfl, hb1⟩; have B1 : Hid (Below W0.heap.size W0 w1) := hb1; have BW1 : Hid (Below w.heap.size w w1) := B0.out.trans (hb1.mono B0.out.size); have z1 := hb1.size; obtain ⟨⟨p0, p1⟩, ⟨p2, p3⟩⟩ := cells2 ((hb1.block _ (by omega)).trans R2.out); obtain ⟨⟨s0, s1⟩, ⟨s2, s3⟩, ⟨s4, s5⟩, ⟨s6, s7⟩⟩ := cells4 ((hb1.block _ (by omega)).trans R3.out); clear hb1))
    refine bodyPost_ret (v := .tuple #[.agg #[.slice none 0 0, .slice none 0 0], .agg #[.bool false, .int .i64 0, .int .i64 0, .slice none 0 0], .int .i64 E]) ?_ rfl ⟨⟨none, 0, 0, 0, none, 0, 0, 0⟩, none, 0, 0, ?_, ?_, ?_, ⟨0, ?_⟩, ?_, fun _ => rfl⟩
    · rw [results_cct rfl]; go_simp
    · rw [EE.out.1, EE.out.2, ← HE.out]; rfl
    · refine ((((((BW1.out).setCell ?_ _).setCell ?_ _).setCell ?_ _).setCell ?_ _).setCell ?_ _).setCell ?_ _ <;> first | (show w.heap.size ≤ w.heap.size + 1 + 1; omega) | (show w.heap.size ≤ w.heap.size + 1 + 1 + 1; omega)
    · rw [EE.out.1]; exact StNew.zero _ _
    · rw [EE.out.2]; exact pairs_empty _ _ _ _
    · rw [EE.out.2]; exact fun q => absurd rfl q
end Go.Proofs.YtcphajjonecmbaaDoor

namespace Go.Proofs.YtcphajjonecmbaaDoor

open Go.RowKit Go.Deep

attribute [local go_sem ↓] Go.wp_at_zero Go.wp_at_succ

theorem retEqM_eq (a b : RetD) : retEqM a b = retEq b a := by
  unfold retEqM retEq plEqM plEq
  rw [Bool.eq_iff_iff]
  simp only [Bool.and_eq_true, beq_iff_eq, decide_eq_true_eq]
  constructor
  · rintro ⟨h1, h2, h3, h4⟩; exact ⟨h1.symm, h2.symm, h3.symm, h4.symm⟩
  · rintro ⟨h1, h2, h3, h4⟩; exact ⟨h1.symm, h2.symm, h3.symm, h4.symm⟩
set_option maxRecDepth 100000 in
theorem hasRet_any (v0 v1 v2 v3 v4 v5 v6 v7 v8 v9 : Value) (b : Int) (w : World) :
    Calls Tryd.prog 95 #[.agg #[v0, v1, v2, v3, v4, v5, v6, v7, v8, v9, .int .i64 b]] w fun e w' => e = .returned (.bool (decide (0 ≤ b))) ∧ Below w.heap.size w w' := by
  go_enter Tryd.func95, Tryd.ntmps95
  go_wp2_with fail
  go_ret
  exact ⟨rfl, below_alloc _ _⟩
set_option maxRecDepth 100000 in
set_option maxHeartbeats 1000000 in
theorem agrees_any (hs : List EvD) (p : Sp) (r : RetD) (a : Option Addr) (g o c : Nat) (ra : Option Addr) (rg ro rc : Nat) (w : World) (h1 : PairsAt w a g o (retOf hs p).pairs) (h2 : PairsAt w ra rg ro r.pairs) (ht : p.2 = -1 ∨ 0 ≤ p.2) :
    Calls Tryd.prog 64 #[.agg (callC hs p (.slice a (retOf hs p).pairs.length c)).toArray, .agg #[.bool r.ok, .int .i64 r.key, .int .i64 r.val, .slice ra r.pairs.length rc]] w fun e w' => e = .returned (.bool (agrB hs p r)) ∧ Below w.heap.size w w' := by
  have hb := two_blocks w (callC hs p (.slice a (retOf hs p).pairs.length c)).toArray #[.bool r.ok, .int .i64 r.key, .int .i64 r.val, .slice ra r.pairs.length rc] 82 45
  have HB : Hid _ := hb
  have SR : Hid (∀ W, PairsAt W a g o (retOf hs p).pairs → PairsAt W ra rg ro r.pairs → Calls Tryd.prog 98 #[.agg #[.bool (retOf hs p).ok, .int .i64 (retOf hs p).key, .int .i64 (retOf hs p).val, .slice a (retOf hs p).pairs.length c], .agg #[.bool r.ok, .int .i64 r.key, .int .i64 r.val, .slice ra r.pairs.length rc]] W fun e w' => e = .returned (.bool (retEq r (retOf hs p))) ∧ Below W.heap.size W w') := fun W q1 q2 => by
    have := psameRet_any a ra g o c rg ro rc (retOf hs p) r W q1 q2
    rw [retEqM_eq] at this
    exact this
  have HP : Hid (PairsAt w a g o (retOf hs p).pairs ∧ PairsAt w ra rg ro r.pairs) := ⟨h1, h2⟩
  have HA : Hid (agrB hs p r = (decide (p.2 = -1) || retEq r (retOf hs p))) := rfl
  simp only [callC] at HB ⊢
  obtain ⟨p1, p2⟩ := p
  simp only at ht HA HB ⊢
  generalize (evAt hs p1).th = t0 at *
  generalize (evAt hs p1).op.kind = t1 at *
  generalize (evAt hs p1).op.key = t2 at *
  generalize (evAt hs p1).op.val = t3 at *
  generalize (evAt hs p1).op.hi = t4 at *
  obtain ⟨q, hq⟩ : ∃ q, q = retOf hs (p1, p2) := ⟨_, rfl⟩
  rw [← hq] at SR HP HA HB ⊢
  clear h1 h2 hb hq
  by_cases hp : p2 = -1
  · subst hp
    have e1 : Hid (agrB hs (p1, -1) r = true) := HA.out
    rw [e1.out]
    clear HA e1
    go_enter Tryd.func64, Tryd.ntmps64
    go_wp2_with (first | (go_at_call 95; refine (hasRet_any _ _ _ _ _ _ _ _ _ _ _ _).mono ?_; rintro e w1 ⟨rfl, hb1⟩; have B1 : Hid (Below w.heap.size w w1) := HB.out.trans (hb1.mono HB.out.size); clear hb1))
    go_ret
    exact ⟨rfl, B1.out⟩
  · have hp0 : 0 ≤ p2 := by omega
    have e0 : decide (p2 = -1) = false := decide_eq_false hp
    rw [e0, Bool.false_or] at HA
    rw [HA.out]
    clear HA e0 ht hp
    have hd : decide (0 ≤ p2) = true := decide_eq_true hp0
    generalize q.ok = q1 at *
    generalize q.key = q2 at *
    generalize q.val = q3 at *
    generalize r.ok = r1 at *
    generalize r.key = r2 at *
    generalize r.val = r3 at *
    generalize retEq r q = R at *
    generalize q.pairs.length = ql at *
    generalize r.pairs.length = rl at *
    go_enter Tryd.func64, Tryd.ntmps64
    go_wp2_with (first | (go_at_call 95; refine (hasRet_any _ _ _ _ _ _ _ _ _ _ _ _).mono ?_; rintro e w1 ⟨rfl, hb1⟩; rw [hd]; have B1 : Hid (Below w.heap.size w w1) := HB.out.trans (hb1.mono HB.out.size); have K0 := (hb1.block w.heap.size (by simp; omega)).trans ((heap_alloc_old _ _ (by simp)).trans (heap_alloc_at _ _ _ rfl)); have K1 := (hb1.block (w.heap.size + 1) (by simp)).trans (heap_alloc_at _ _ _ (by simp)); obtain ⟨⟨s0, _⟩, ⟨s1, _⟩, ⟨s2, _⟩, ⟨s3, _⟩⟩ := cells4 K1; have k5 : w1.cell? ⟨w.heap.size, 5, none⟩ = some (.bool q1) := (by simp [World.cell?, K0]); have k6 : w1.cell? ⟨w.heap.size, 6, none⟩ = some (.int .i64 q2) := (by simp [World.cell?, K0]); have k7 : w1.cell? ⟨w.heap.size, 7, none⟩ = some (.int .i64 q3) := (by simp [World.cell?, K0]); have k8 : w1.cell? ⟨w.heap.size, 8, none⟩ = some (.slice a ql c) := (by simp [World.cell?, K0]); clear hb1 K0 K1) | (go_at_call 98; refine (SR.out _ (HP.out.1.below B1.out) (HP.out.2.below B1.out)).mono ?_; rintro e w2 ⟨rfl, hb2⟩; have B2 : Hid (Below w.heap.size w w2) := B1.out.trans (hb2.mono B1.out.size); clear hb2))
    go_ret
    exact ⟨rfl, B2.out⟩
end Go.Proofs.YtcphajjonecmbaaDoor

/- Layer 28: the document's Parse, the walk. Layer 28: the document's Parse: one operation more for the last thread, over any frame. -/
import Derived.Test.YtknlapipkglnjaaGreatDoorHQp
import Derived.Test.YtknlapipkglnjaaGreatDoorHRo


namespace Go.Proofs.YtknlapipkglnjaaGreatDoor

open Go.RowKit

attribute [local go_sem ↓] Go.wp_at_zero Go.wp_at_succ

theorem top_at2 {B c cap : Nat} {z : World} {vS vP : Value} {vs : Nat → Value} {g : GD} (h : GAt B z vS (.slice (some ⟨c, 0, none⟩) g.scripts.length cap) vP vs g) (m : Nat) (hm : m < g.scripts.length) : z.cell? ⟨c, m, none⟩ = some (vs m) ∧ c < z.heap.size := by
  obtain ⟨c', cap', he, -, -, hlt, hc⟩ := top_cell h (by omega)
  injection he with he _ _
  injection he with he
  injection he with he _ _
  subst he
  exact ⟨(hc m hm).1, hlt⟩
/-- A post that asks for the normal end alone. -/
def qF (K : Act → World → Prop) : Exit → Act → World → Prop
  | .normal, a, w => K a w
  | _, _, _ => False
theorem wp_normal {P : Program} {c : Code} {Q : Exit → Act → World → Prop} {a : Act} {w : World} (h : Code.wp P c (qF fun a w => Q .normal a w) a w) : Code.wp P c Q a w :=
  Code.wp_mono (fun e a w q => by cases e <;> first | exact q | exact q.elim) h
set_option maxRecDepth 100000 in
set_option maxHeartbeats 16000000 in
theorem reg12 {K : Act → World → Prop} {v0 v1 v2 v3 v5 v6 v7 v8 v9 v10 v11 v12 v13 v14 v15 v16 v17 v18 v20 v22 v23 v24 v25 v26 v27 v28 v29 v30 v31 v32 v33 v34 v35 v36 v37 v38 v39 v40 v41 v42 v43 v44 v45 v46 v47 v48 v49 v50 v51 v52 v53 v54 v55 v56 v57 v58 v59 v60 v61 v62 v63 v64 v65 v66 v67 v68 v69 v70 v71 v72 v73 v74 v75 v76 v77 v78 v79 v80 v81 v82 v83 v84 v85 v86 v87 v88 v89 v90 v91 v92 v93 v94 v95 v96 v97 v98 v99 v100 v101 v102 v103 v104 v105 v106 v107 v108 v109 v110 v111 v112 v113 v114 v115 v116 v117 v118 v119 v120 v121 v122 v123 v124 v125 v126 v127 v128 v129 v130 v131 v132 v133 v134 v135 v136 v137 v138 v139 v140 v141 v142 v143 v144 v145 v146 v147 v148 v149 v150 v151 v152 v153 v154 v155 v156 v157 v158 v159 v160 v161 v162 v163 v164 v165 v166 v167 v168 v169 v170 v171 v172 v173 v174 v175 v176 v177 v178 v179 v180 v181 v182 v183 v184 v185 v186 v187 v188 v189 v190 v191 v192 v193 v194 v195 v196 v197 v198 v199 v200 v201 v202 v203 v204 v205 v206 v207 : Value} {w w4 : World} {vS vP vL : Value} {vs : Nat → Value} {g : GD} {c capC m L vc : Nat} {va : Option Addr} {oa ob oc od : Int} {LL : List (List UInt8)}
    (h : RfB (w.heap.size + 2) (w.heap.size + 1) w4 vS (.slice (some ⟨c, 0, none⟩) g.scripts.length capC) vP vs g vL LL) (hz : w.heap.size + 2 ≤ w4.heap.size) (hm : m + 1 = g.scripts.length) (hL : L = (g.scripts.getD m []).length) (hv : vs m = .slice va L vc) (hLm : L ≤ 2000000) (gsc : g.scripts.length ≤ 2000000)
    (hQ : ∀ (u61 u62 u63 u64 u65 u66 u67 u68 u69 u70 u71 u72 : Value) (wx : World) (vs' : Nat → Value), RfB (w.heap.size + 2) (w.heap.size + 1) wx vS (.slice (some ⟨c, 0, none⟩) g.scripts.length capC) vP vs' (addO g ⟨oa, ob, oc, od⟩) vL LL → Below (w.heap.size + 1) (w4.alloc (.cells #[.int .i64 oa, .int .i64 ob, .int .i64 oc, .int .i64 od] 39)) wx → K { tmps := (v0 :: v1 :: v2 :: v3 :: .pointer (some ⟨w.heap.size + 1, 0, none⟩) :: v5 :: v6 :: v7 :: v8 :: v9 :: v10 :: v11 :: v12 :: v13 :: v14 :: v15 :: v16 :: v17 :: v18 :: .pointer (some ⟨w4.heap.size, 0, none⟩) :: v20 :: .int .i64 (m : Int) :: v22 :: v23 :: v24 :: v25 :: v26 :: v27 :: v28 :: v29 :: v30 :: v31 :: v32 :: v33 :: v34 :: v35 :: v36 :: v37 :: v38 :: v39 :: v40 :: v41 :: v42 :: v43 :: v44 :: v45 :: v46 :: v47 :: v48 :: v49 :: v50 :: v51 :: v52 :: v53 :: v54 :: v55 :: v56 :: v57 :: v58 :: v59 :: v60 :: u61 :: u62 :: u63 :: u64 :: u65 :: u66 :: u67 :: u68 :: u69 :: u70 :: u71 :: u72 :: v73 :: v74 :: v75 :: v76 :: v77 :: v78 :: v79 :: v80 :: v81 :: v82 :: v83 :: v84 :: v85 :: v86 :: v87 :: v88 :: v89 :: v90 :: v91 :: v92 :: v93 :: v94 :: v95 :: v96 :: v97 :: v98 :: v99 :: v100 :: v101 :: v102 :: v103 :: v104 :: v105 :: v106 :: v107 :: v108 :: v109 :: v110 :: v111 :: v112 :: v113 :: v114 :: v115 :: v116 :: v117 :: v118 :: v119 :: v120 :: v121 :: v122 :: v123 :: v124 :: v125 :: v126 :: v127 :: v128 :: v129 :: v130 :: v131 :: v132 :: v133 :: v134 :: v135 :: v136 :: v137 :: v138 :: v139 :: v140 :: v141 :: v142 :: v143 :: v144 :: v145 :: v146 :: v147 :: v148 :: v149 :: v150 :: v151 :: v152 :: v153 :: v154 :: v155 :: v156 :: v157 :: v158 :: v159 :: v160 :: v161 :: v162 :: v163 :: v164 :: v165 :: v166 :: v167 :: v168 :: v169 :: v170 :: v171 :: v172 :: v173 :: v174 :: v175 :: v176 :: v177 :: v178 :: v179 :: v180 :: v181 :: v182 :: v183 :: v184 :: v185 :: v186 :: v187 :: v188 :: v189 :: v190 :: v191 :: v192 :: v193 :: v194 :: v195 :: v196 :: v197 :: v198 :: v199 :: v200 :: v201 :: v202 :: v203 :: v204 :: v205 :: v206 :: v207 :: []).toArray, defers := [] } wx) :
    Code.wp Tryz.prog (Code.region 12 #[⟨some 61, Op.fieldAddr 33 (Operand.tmp 4) 1, 0, "ref.go:222", #[], none⟩, ⟨some 62, Op.load 23 (Operand.tmp 61), 23, "ref.go:222", #[⟨0, Ground.data⟩], none⟩, ⟨some 63, Op.move (Operand.tmp 21), 3, "ref.go:222", #[], none⟩, ⟨some 64, Op.fieldAddr 33 (Operand.tmp 4) 1, 0, "ref.go:222", #[], none⟩, ⟨some 65, Op.load 23 (Operand.tmp 64), 23, "ref.go:222", #[⟨3, Ground.data⟩], none⟩, ⟨some 66, Op.move (Operand.tmp 21), 3, "ref.go:222", #[], none⟩, ⟨some 67, Op.indexAddr 23 (Operand.tmp 65) (Operand.tmp 66), 0, "ref.go:222", #[⟨4, Ground.data⟩, ⟨5, Ground.data⟩], none⟩, ⟨some 68, Op.load 37 (Operand.tmp 67), 37, "ref.go:222", #[⟨6, Ground.data⟩], none⟩, ⟨some 69, Op.load 39 (Operand.tmp 19), 39, "ref.go:222", #[], none⟩, ⟨some 70, Op.buildSlice 37 1 #[(0, Operand.tmp 69)], 37, "ref.go:222", #[⟨8, Ground.data⟩], none⟩, ⟨some 71, Op.call ⟨Callee.builtin Builtin.append, #[Operand.tmp 68, Operand.tmp 70], #[37, 37]⟩, 37, "ref.go:222", #[⟨7, Ground.data⟩, ⟨9, Ground.data⟩], none⟩, ⟨some 72, Op.indexAddr 23 (Operand.tmp 62) (Operand.tmp 63), 0, "ref.go:222", #[⟨1, Ground.data⟩, ⟨2, Ground.data⟩, ⟨0, Ground.phase⟩, ⟨1, Ground.phase⟩, ⟨2, Ground.phase⟩, ⟨3, Ground.phase⟩, ⟨4, Ground.phase⟩, ⟨5, Ground.phase⟩, ⟨6, Ground.phase⟩, ⟨7, Ground.phase⟩, ⟨8, Ground.phase⟩, ⟨9, Ground.phase⟩, ⟨10, Ground.phase⟩], none⟩, ⟨none, Op.store 37 (Operand.tmp 72) (Operand.tmp 71), 0, "ref.go:222", #[⟨11, Ground.data⟩, ⟨10, Ground.data⟩, ⟨10, Ground.chain⟩, ⟨0, Ground.phase⟩, ⟨1, Ground.phase⟩, ⟨2, Ground.phase⟩, ⟨3, Ground.phase⟩, ⟨4, Ground.phase⟩, ⟨5, Ground.phase⟩, ⟨6, Ground.phase⟩, ⟨7, Ground.phase⟩, ⟨8, Ground.phase⟩, ⟨9, Ground.phase⟩, ⟨10, Ground.phase⟩], none⟩] true) (qF K) { tmps := (v0 :: v1 :: v2 :: v3 :: .pointer (some ⟨w.heap.size + 1, 0, none⟩) :: v5 :: v6 :: v7 :: v8 :: v9 :: v10 :: v11 :: v12 :: v13 :: v14 :: v15 :: v16 :: v17 :: v18 :: .pointer (some ⟨w4.heap.size, 0, none⟩) :: v20 :: .int .i64 (m : Int) :: v22 :: v23 :: v24 :: v25 :: v26 :: v27 :: v28 :: v29 :: v30 :: v31 :: v32 :: v33 :: v34 :: v35 :: v36 :: v37 :: v38 :: v39 :: v40 :: v41 :: v42 :: v43 :: v44 :: v45 :: v46 :: v47 :: v48 :: v49 :: v50 :: v51 :: v52 :: v53 :: v54 :: v55 :: v56 :: v57 :: v58 :: v59 :: v60 :: v61 :: v62 :: v63 :: v64 :: v65 :: v66 :: v67 :: v68 :: v69 :: v70 :: v71 :: v72 :: v73 :: v74 :: v75 :: v76 :: v77 :: v78 :: v79 :: v80 :: v81 :: v82 :: v83 :: v84 :: v85 :: v86 :: v87 :: v88 :: v89 :: v90 :: v91 :: v92 :: v93 :: v94 :: v95 :: v96 :: v97 :: v98 :: v99 :: v100 :: v101 :: v102 :: v103 :: v104 :: v105 :: v106 :: v107 :: v108 :: v109 :: v110 :: v111 :: v112 :: v113 :: v114 :: v115 :: v116 :: v117 :: v118 :: v119 :: v120 :: v121 :: v122 :: v123 :: v124 :: v125 :: v126 :: v127 :: v128 :: v129 :: v130 :: v131 :: v132 :: v133 :: v134 :: v135 :: v136 :: v137 :: v138 :: v139 :: v140 :: v141 :: v142 :: v143 :: v144 :: v145 :: v146 :: v147 :: v148 :: v149 :: v150 :: v151 :: v152 :: v153 :: v154 :: v155 :: v156 :: v157 :: v158 :: v159 :: v160 :: v161 :: v162 :: v163 :: v164 :: v165 :: v166 :: v167 :: v168 :: v169 :: v170 :: v171 :: v172 :: v173 :: v174 :: v175 :: v176 :: v177 :: v178 :: v179 :: v180 :: v181 :: v182 :: v183 :: v184 :: v185 :: v186 :: v187 :: v188 :: v189 :: v190 :: v191 :: v192 :: v193 :: v194 :: v195 :: v196 :: v197 :: v198 :: v199 :: v200 :: v201 :: v202 :: v203 :: v204 :: v205 :: v206 :: v207 :: []).toArray, defers := [] } (w4.alloc (.cells #[.int .i64 oa, .int .i64 ob, .int .i64 oc, .int .i64 od] 39)) := by
  have I4 : Hid (RfB (w.heap.size + 2) (w.heap.size + 1) w4 vS _ vP vs g vL LL) := h
  have I5 : Hid (RfB (w.heap.size + 2) (w.heap.size + 1) (w4.alloc (.cells #[.int .i64 oa, .int .i64 ob, .int .i64 oc, .int .i64 od] 39)) vS _ vP vs g vL LL) := h.quiet (below_alloc w4 _)
  have HM : Hid (m + 1 = g.scripts.length) := hm
  have HL : Hid (L = (g.scripts.getD m []).length) := hL
  have HVM : Hid (vs m = .slice va L vc) := hv
  have HQ : Hid _ := hQ
  have q3 := tri3 h.box
  obtain ⟨⟨b0, f0⟩, ⟨b1, f1⟩, ⟨b2, f2⟩⟩ := q3
  have hz4 : w.heap.size + 1 < w4.heap.size := by omega
  have hz5 : w.heap.size < w4.heap.size := by omega
  have hz6 : ¬ w.heap.size = w4.heap.size := by omega
  have hz3 : ¬ w.heap.size + 1 = w4.heap.size := by omega
  have q8 := top_at2 h.game m (by omega)
  have t1 : w4.cell? ⟨c, m, none⟩ = some (.slice va L vc) := (q8.1.trans (congrArg some hv))
  have hc1 := q8.2
  have l2 : (m : Int) < ((g.scripts.length : Nat) : Int) := by omega
  have l3 : (0 : Int) ≤ (m : Int) := Int.natCast_nonneg _
  have l4 : ((g.scripts.length : Nat) : Int) ≤ 2000000 := by omega
  obtain ⟨i9, hi9, hz9, hz8, hz7⟩ := info_parts op_info
  clear q8 h hm hL hv hQ
  go_region_law (refine step_append_lies _ (by rfl) _ _ _ (by rfl) (w.heap.size + 2) 39 i9 _ 4 32 ops_under hi9 hz9 hz8 hz7 rfl (by omega) _ L _ (by rfl) ((row_now I5.out.game HM.out HL.out HVM.out).alloc _).drew ⟨w4.heap.size + 1, 0, none⟩ 1 1 [.int .i64 oa, .int .i64 ob, .int .i64 oc, .int .i64 od] (by rfl) (by rfl) (World.news_of_block (cs := #[.int .i64 oa, .int .i64 ob, .int .i64 oc, .int .i64 od]) (t := 39) (fr := (0, 0)) (heap_alloc_at _ _ _ (by simp))) (by simp [Value.oneCell']) (by omega) (by unfold maxLen; omega) (by omega) (by simp; omega) (w4.heap.size + 2) (by simp) ?_; intro gg cp w5 hown5 hgrow5 hat5 hlt5; have HAD : Hid _ := I5.out.addO HM.out HL.out HVM.out hgrow5 hown5 (by simpa using hat5); have t3 := HAD.out.1; have q6 := tri3 HAD.out.2.1; obtain ⟨⟨y0, u0⟩, ⟨y1, u1⟩, ⟨y2, u2⟩⟩ := q6; clear hgrow5 hown5 hat5)
  all_goals
    first
      | exact HQ.out _ _ _ _ _ _ _ _ _ _ _ _ _ _ HAD.out.2.2.1 HAD.out.2.2.2
      | (go_wp2_with fail; exact HQ.out _ _ _ _ _ _ _ _ _ _ _ _ _ _ HAD.out.2.2.1 HAD.out.2.2.2)
end Go.Proofs.YtknlapipkglnjaaGreatDoor



namespace Go.Proofs.YtknlapipkglnjaaGreatDoor

open Go.RowKit

attribute [local go_sem ↓] Go.wp_at_zero Go.wp_at_succ

theorem rf_words {w W : World} {t : List UInt8} {i : Nat} {vS vC vP vL : Value} {vs : Nat → Value} {g : GD} {l : List UInt8} {x : List UInt8} {r : List (List UInt8)} (hl : l.length ≤ 2000000) (hw : wordsL l = x :: r) (hW : PrI w W t i vS vC vP vs g vL) :
    Calls Tryz.prog 31 #[.string ⟨l.toArray⟩] W fun e w' => ∃ g0 cap, e = .returned (.slice (some ⟨g0, 0, none⟩) (r.length + 1) cap) ∧ PrI w w' t i vS vC vP vs g vL ∧ (∀ j, j < r.length + 1 → w'.cell? ⟨g0, j, none⟩ = some (.string ⟨((x :: r).getD j []).toArray⟩)) ∧ Calls Tryz.prog 33 #[.slice (some ⟨g0, 0, none⟩) (r.length + 1) cap] w' fun e w2 => OpOut (x :: r) e ∧ Below w'.heap.size w' w2 :=
  (rWords_any l hl W).mono (by
    rintro e w' ⟨v, rfl, ho, hb⟩
    have hwl := words_len l
    have hle : ∀ y ∈ wordsL l, y.length ≤ l.length := fun y hy => words_le hy
    rw [hw] at ho hwl hle
    have ho : w'.ownsRow W.heap.size 9 1 v (r.length + 1) (strC (x :: r)) := ho
    obtain ⟨g0, cap, rfl, -, -, -, -, hcl, -⟩ := owns_some ho (by omega)
    have hc : ∀ j, j < r.length + 1 → w'.cell? ⟨g0, j, none⟩ = some (.string ⟨((x :: r).getD j []).toArray⟩) := fun j hj => by
      rw [hcl j (by omega)]
      simp only [strC, List.getElem?_map]
      rw [List.getD_eq_getElem?_getD, List.getElem?_eq_getElem (by simpa using hj)]
      rfl
    refine ⟨g0, cap, rfl, hW.on hb, hc, rOpOf_any (x :: r) _ cap g0 w' (fun _ => rfl) hc (fun j => ?_) (by omega)⟩
    rw [List.getD_eq_getElem?_getD]
    cases hj : (x :: r)[j]? with
    | none => exact Nat.zero_le _
    | some y => have := hle y (List.mem_of_getElem? hj); show y.length ≤ 2000000; omega)
theorem rf_wordsN (n : Nat) {w W : World} {t : List UInt8} {i : Nat} {vS vC vP vL : Value} {vs : Nat → Value} {g : GD} {l : List UInt8} {x : List UInt8} {r : List (List UInt8)} (hn : r.length + 1 = n) (hl : l.length ≤ 2000000) (hw : wordsL l = x :: r) (hW : PrI w W t i vS vC vP vs g vL) :
    Calls Tryz.prog 31 #[.string ⟨l.toArray⟩] W fun e w' => ∃ g0 cap, e = .returned (.slice (some ⟨g0, 0, none⟩) n cap) ∧ PrI w w' t i vS vC vP vs g vL ∧ (∀ j, j < r.length + 1 → w'.cell? ⟨g0, j, none⟩ = some (.string ⟨((x :: r).getD j []).toArray⟩)) := by
  subst hn
  refine (rf_words hl hw hW).mono ?_
  rintro e w' ⟨g0, cap, rfl, h1, h2, -⟩
  exact ⟨g0, cap, rfl, h1, h2⟩
theorem step_start {g : GD} {r : List (List UInt8)} : stepG g ([115, 116, 97, 114, 116] :: r) = if g.part = 0 then startO g r else none := by
  rw [stepG, if_neg (by decide), if_pos (by decide)]
theorem step_thread {g : GD} {r : List (List UInt8)} : stepG g ([116, 104, 114, 101, 97, 100] :: r) = if g.part ≤ 1 ∧ r = [] then some { g with scripts := g.scripts ++ [([] : List OpD)], part := 1 } else none := by
  rw [stepG, if_neg (by decide), if_neg (by decide), if_pos (by decide)]
theorem step_pick {g : GD} {r : List (List UInt8)} : stepG g ([112, 105, 99, 107] :: r) = pickO g r := by
  rw [stepG, if_neg (by decide), if_neg (by decide), if_neg (by decide), if_pos (by decide)]
def repG (g : GD) (k : Nat) (p : Int) : GD := { g with picks := g.picks ++ List.replicate k p, part := 2 }
theorem repG_succ (g : GD) (k : Nat) (p : Int) : { repG g k p with picks := (repG g k p).picks ++ [p] } = repG g (k + 1) p := by
  simp [repG, List.replicate_succ', List.append_assoc]
theorem repG_len (g : GD) (k : Nat) (p : Int) : (repG g k p).picks.length = g.picks.length + k := by simp [repG]
theorem RfB.rep0 {B b : Nat} {z : World} {vS vC vP vL : Value} {vs : Nat → Value} {g : GD} {L : List (List UInt8)} (h : RfB B b z vS vC vP vs g vL L) (p : Int) : RfB B b z vS vC vP vs (repG g 0 p) vL L := by
  have e : repG g 0 p = { g with part := 2 } := by simp [repG]
  rw [e]
  exact h.part 2
theorem RfB.pkL {B b l : Nat} {z : World} {vS vC vP vL : Value} {vs : Nat → Value} {g : GD} {L : List (List UInt8)} (h : RfB B b z vS vC vP vs g vL L) (hl : l = g.picks.length) : z.ownsRow B 3 1 vP l (inC g.picks) := by
  rw [hl]
  exact h.game.pk
theorem RfB.addR {B b l k : Nat} {w y w3 : World} {vS vC vP vL v' : Value} {vs : Nat → Value} {g : GD} {p : Int} {L : List (List UInt8)} (h : RfB B b w vS vC vP vs (repG g k p) vL L) (hy : Below w.heap.size w y) (hg : y.grownBy w3 vP.ownBlock) (hl : l = (repG g k p).picks.length) (ho : w3.ownsRow B 3 1 v' (l + 1) (inC (repG g k p).picks ++ [.int .i64 p])) :
    w3.heap[b]? = some (.cells #[vS, vC, vP] 33) ∧ RfB B b (w3.setCell ⟨b, 2, none⟩ v') vS vC v' vs (repG g (k + 1) p) vL L ∧ Below b w (w3.setCell ⟨b, 2, none⟩ v') := by
  rw [hl] at ho
  have := h.addP hy hg p ho
  rw [repG_succ] at this
  exact this
theorem top_at {B c cap : Nat} {z : World} {vS vP : Value} {vs : Nat → Value} {g : GD} (h : GAt B z vS (.slice (some ⟨c, 0, none⟩) g.scripts.length cap) vP vs g) (m : Nat) (hm : m < g.scripts.length) : z.cell? ⟨c, m, none⟩ = some (vs m) ∧ c < z.heap.size := by
  obtain ⟨c', cap', he, -, -, hlt, hc⟩ := top_cell h (by omega)
  injection he with he _ _
  injection he with he
  injection he with he _ _
  subst he
  exact ⟨(hc m hm).1, hlt⟩
theorem one_of {r : List (List UInt8)} (h : r.length = 1) : ∃ a, r = [a] := by
  match r, h with
  | [a], _ => exact ⟨a, rfl⟩
theorem pickO_len {g : GD} {r : List (List UInt8)} (h1 : r.length ≠ 1) (h2 : r.length ≠ 2) : pickO g r = none := by
  match r, h1, h2 with
  | [], _, _ => rfl
  | [_], h, _ => exact absurd rfl h
  | [_, _], _, h => exact absurd rfl h
  | _ :: _ :: _ :: _, _, _ => rfl
theorem two_of {r : List (List UInt8)} (h : r.length = 2) : ∃ a b, r = [a, b] := by
  match r, h with
  | [a, b], _ => exact ⟨a, b, rfl⟩
theorem startO_len {g : GD} {r : List (List UInt8)} (h : r.length ≠ 2) : startO g r = none := by
  match r, h with
  | [], _ => rfl
  | [_], _ => rfl
  | [_, _], h => exact absurd rfl h
  | _ :: _ :: _ :: _, _ => rfl
theorem headG {x : List UInt8} (h : 0 < x.length) : x.head? = some (x.getD 0 0) := by
  cases x with
  | nil => simp at h
  | cons a y => rfl
theorem rf_words0 {w W : World} {t : List UInt8} {i : Nat} {vS vC vP vL : Value} {vs : Nat → Value} {g : GD} {l : List UInt8} (hl : l.length ≤ 2000000) (hw : wordsL l = []) (hW : PrI w W t i vS vC vP vs g vL) :
    Calls Tryz.prog 31 #[.string ⟨l.toArray⟩] W fun e w' => ∃ b c, e = .returned (.slice b 0 c) ∧ PrI w w' t i vS vC vP vs g vL :=
  (rWords_any l hl W).mono (by
    rintro e w' ⟨v, rfl, ho, hb⟩
    rw [hw] at ho
    obtain ⟨b, c, gg, rfl, -, -⟩ := row_cells ho
    exact ⟨b, c, rfl, hW.on hb⟩)
theorem rd_some {l : List UInt8} {v : Int} (hl : l.length ≤ 2000000) (h : numOf l = some v) (W : World) : Calls Tryz.prog 32 #[.string ⟨l.toArray⟩] W fun e w' => e = .returned (.tuple #[.int .i64 v, .bool true]) ∧ w' = W :=
  (read_any l hl W).mono (by rintro e w' ⟨h1, rfl⟩; unfold RdOut at h1; rw [h] at h1; exact ⟨h1, rfl⟩)
theorem rd_none {l : List UInt8} (hl : l.length ≤ 2000000) (h : numOf l = none) (W : World) : Calls Tryz.prog 32 #[.string ⟨l.toArray⟩] W fun e w' => e = .returned (.tuple #[.int .i64 0, .bool false]) ∧ w' = W :=
  (read_any l hl W).mono (by rintro e w' ⟨h1, rfl⟩; unfold RdOut at h1; rw [h] at h1; exact ⟨h1, rfl⟩)
theorem op_false {x : List UInt8} {r : List (List UInt8)} {W : World} {v : Value} (h : Calls Tryz.prog 33 #[v] W fun e w2 => OpOut (x :: r) e ∧ Below W.heap.size W w2) (hn : ∀ k V, ¬ OpIs (x :: r) k V) : Calls Tryz.prog 33 #[v] W fun e w2 => e = .returned (.tuple #[.agg #[.int .i64 0, .int .i64 0, .int .i64 0, .int .i64 0], .bool false]) ∧ Below W.heap.size W w2 :=
  h.mono (by
    rintro e w2 ⟨⟨m, U, q, rfl⟩ | ⟨q, rfl⟩, hb⟩
    · exact absurd q (hn m U)
    · exact ⟨rfl, hb⟩)
set_option maxRecDepth 100000 in
set_option maxHeartbeats 32000000 in
theorem rparse_any (t : List UInt8) (ht : t.length ≤ 2000000) (w : World) :
    Calls Tryz.prog 13 #[.string ⟨t.toArray⟩] w fun e w' => RpOut w w' t e := by
  have HT : Hid (t.length ≤ 2000000) := ht
  obtain ⟨hln, hll⟩ := lines_le t.length t (Nat.le_refl _)
  have HLL : Hid (∀ l ∈ linesL t, l.length ≤ t.length) := hll
  have n0 : ((linesL t).length : Int) ≤ 2000000 := by omega
  have hln2 : (linesL t).length ≤ 2000000 := by omega
  clear ht hll hln
  go_enter Tryz.func13, Tryz.ntmps13
  go_wp2_with (first | (go_at_call 30; refine (rLines_any t HT.out _).mono ?_; rintro e w1 ⟨v, rfl, hwd⟩; have HP : Hid _ := pri0 w w1 t (fun _ => .slice none 0 0) v hwd; have hq := row_cells hwd.own; obtain ⟨base, cap0, gl, rfl, hbs, -⟩ := hq; have HBS : Hid (linesL t ≠ [] → base = some ⟨gl, 0, none⟩) := hbs; clear hwd hbs))
  go_loopw [26, 5] (fun vi vp wr => ∃ (i : Nat) (vS vC vP : Value) (vs : Nat → Value) (g : GD), i ≤ (linesL t).length ∧ vi = .int .i64 i ∧ vp = .int .i64 (g.part : Int) ∧ PrI w wr t i vS vC vP vs g (.slice base (linesL t).length cap0)) (fun vi _ _ => (linesL t).length - (intOf vi).toNat)
  case atStart => exact ⟨0, _, _, _, _, gd0, Nat.zero_le _, rfl, rfl, HP.out⟩
  case round =>
    obtain ⟨i, vS, vC, vP, vs, g, hin, rfl, rfl, hI⟩ := hrel
    rename World => wr
    have HI : Hid (PrI w wr t i vS vC vP vs g (.slice base (linesL t).length cap0)) := hI
    have hzs := hI.sz
    clear hI
    have i1 : (0 : Int) ≤ (i : Int) := Int.natCast_nonneg _
    by_cases hi : i < (linesL t).length
    · have i2 : (i : Int) < ((linesL t).length : Int) := by omega
      have HIi : Hid (i < (linesL t).length) := hi
      obtain rfl := HBS.out (fun q => by rw [q] at hi; simp at hi)
      obtain ⟨l, hl⟩ : ∃ l, l = (linesL t).getD i [] := ⟨_, rfl⟩
      have HLn : Hid (l = (linesL t).getD i []) := hl
      have hmem : l ∈ linesL t := by rw [hl, List.getD_eq_getElem?_getD, List.getElem?_eq_getElem hi]; exact List.getElem_mem hi
      have HLl : Hid (l.length ≤ 2000000) := Nat.le_trans (HLL.out l hmem) HT.out
      have cl : wr.cell? ⟨gl, i, none⟩ = some (.string ⟨l.toArray⟩) := by
        obtain ⟨g', c', he, -, -, -, -, hcl, -⟩ := owns_some HI.out.rf.ln (by omega)
        injection he with he _ _
        injection he with he
        injection he with he _ _
        subst he
        rw [hcl i (by omega)]
        simp only [strC, List.getElem?_map, List.getElem?_eq_getElem hi, hl, List.getD_eq_getElem?_getD]
        rfl
      have hgp := HI.out.ok.part
      have p0 : (0 : Int) ≤ (g.part : Int) := Int.natCast_nonneg _
      clear hl hmem hi
      cases hws : wordsL l with
      | nil =>
        have WZ : Hid (wordsL l = []) := hws
        have ST : Hid (stepG g (wordsL ((linesL t).getD i [])) = some g) := by show _ = _; rw [← HLn.out, hws]; rfl
        clear hws
        as_aux_lemma => -- leaf 1
          go_wp2_with (first | (go_at_call 31; refine (rf_words0 HLl.out WZ.out HI.out).mono ?_; rintro e w2 ⟨b2, c2, rfl, hp2⟩; have I2 : Hid (PrI w w2 t i vS vC vP vs g _) := hp2; clear hp2))
          exact ⟨⟨i + 1, vS, vC, vP, vs, g, by omega, by go_num, rfl, I2.out.next HIi.out ST.out I2.out.rf (Below.refl _ _)⟩, by simp [intOf]; omega⟩
      | cons x r =>
        have hx0 : x ≠ [] := words_ne (by rw [hws]; simp)
        have xl : 0 < x.length := List.length_pos_iff.2 hx0
        have xl1 : x.length ≤ 2000000 := by have := words_le (l := l) (x := x) (by rw [hws]; simp); have := HLl.out; omega
        have xl2 : (x.length : Int) ≤ 2000000 := by omega
        have hsx : (⟨x.toArray⟩ : ByteArray).size = x.length := by simp [ByteArray.size]
        have HWS : Hid (wordsL l = x :: r) := hws
        have HRW : Hid (∀ y ∈ r, y.length ≤ 2000000) := fun y hy => by have := words_le (l := l) (x := y) (by rw [hws]; simp [hy]); have := HLl.out; omega
        have hwl := words_len l
        rw [hws] at hwl
        simp only [List.length_cons] at hwl
        have rl1 : (r.length : Int) ≤ 2000001 := by have := HLl.out; omega
        have rl0 : (0 : Int) ≤ (r.length : Int) := Int.natCast_nonneg _
        have z1 : ((r.length : Int) + 1 == 0) = false := beq_eq_false_iff_ne.2 (by omega)
        have HSE : Hid (stepG g (wordsL ((linesL t).getD i [])) = stepG g (x :: r)) := by show _ = _; rw [← HLn.out, hws]
        clear hws hx0 hwl
        by_cases hh : x.getD 0 0 = 35
        · have c0 : (⟨x.toArray⟩ : ByteArray)[0].toNat = 35 := hb_eq xl (c := 35) hh
          have ST : Hid (stepG g (wordsL ((linesL t).getD i [])) = some g) := by
            show _ = _
            rw [HSE.out, stepG, if_pos (by rw [headG xl, hh])]
          clear hh
          as_aux_lemma => -- leaf 2
            go_wp2_with (first | (go_at_call 31; refine (rf_words HLl.out HWS.out HI.out).mono ?_; rintro e w2 ⟨g0, cap, rfl, hp2, hcl, hop⟩; have I2 : Hid (PrI w w2 t i _ _ _ _ g _) := hp2; have OA : Hid (Calls _ _ _ _ _) := hop; have d0 : w2.cell? ⟨g0, 0, none⟩ = some (.string ⟨x.toArray⟩) := hcl 0 (by omega); clear hp2 hcl hop))
            exact ⟨⟨i + 1, vS, vC, vP, vs, g, by omega, by go_num, rfl, I2.out.next HIi.out ST.out I2.out.rf (Below.refl _ _)⟩, by simp [intOf]; omega⟩
        · have c0 : (((⟨x.toArray⟩ : ByteArray)[0].toNat : Int) == 35) = false := hb_nei xl (c := 35) hh
          have h35 : x.head? ≠ some 35 := by rw [headG xl]; exact fun q => hh (Option.some.inj q)
          clear hh
          by_cases h1 : x = startW
          · obtain rfl : x = [115, 116, 97, 114, 116] := h1
            have OFF : opO ([115, 116, 97, 114, 116] :: r) = none := opO_not start_no
            have HNO : Hid (∀ k V, ¬ OpIs ([115, 116, 97, 114, 116] :: r) k V) := fun k V q => start_no k q.lo q.hi (Option.some.inj q.hd)
            have gst : g.start.length ≤ 2000000 := by have := HI.out.gs.st; omega
            by_cases hp : g.part = 0
            · have q0 : ((g.part : Int) == 0) = true := by rw [hp]; rfl
              by_cases hr : r.length = 2
              · obtain ⟨a, b, rfl⟩ := two_of hr
                have la := HRW.out a (by simp)
                have lb := HRW.out b (by simp)
                have HS : Hid (stepG g ([115, 116, 97, 114, 116] :: [a, b]) = startO g [a, b]) := by show _ = _; rw [step_start, if_pos hp]
                clear hr OFF h35 hp
                cases hna : numOf a with
                | none =>
                  have RA : Hid (∀ W, Calls _ _ _ W _) := rd_none la hna
                  have OUT : Hid (parseG t = .inr (i + 1)) := HI.out.bad HIi.out (by rw [HSE.out, HS.out]; simp [startO, hna])
                  cases hnb : numOf b with
                  | none =>
                    have RB : Hid (∀ W, Calls _ _ _ W _) := rd_none lb hnb
                    clear hna hnb
                    as_aux_lemma => -- leaf 3
                      go_wp2_with (first | (go_at_call 31; refine (rf_wordsN 3 rfl HLl.out HWS.out HI.out).mono ?_; rintro e w2 ⟨g0, cap, rfl, hp2, hcl⟩; have I2 : Hid (PrI w w2 t i _ _ _ _ g _) := hp2; have d0 : w2.cell? ⟨g0, 0, none⟩ = some (.string ⟨([115, 116, 97, 114, 116] : List UInt8).toArray⟩) := hcl 0 (by simp); have d1 : w2.cell? ⟨g0, 1, none⟩ = some (.string ⟨a.toArray⟩) := hcl 1 (by simp); have d2 : w2.cell? ⟨g0, 2, none⟩ = some (.string ⟨b.toArray⟩) := hcl 2 (by simp); have q3 := tri3 hp2.res; obtain ⟨⟨r0, s0⟩, ⟨r1, s1⟩, ⟨r2, s2⟩⟩ := q3; have q7 := tri3 hp2.rf.box; obtain ⟨⟨b0, f0⟩, ⟨b1, f1⟩, ⟨b2, f2⟩⟩ := q7; have hz2 : w.heap.size + 1 < w2.heap.size := (by have := hp2.sz; omega); clear hp2 hcl) | (go_at_call_of 32 a; refine Calls.mono (RA.out _) ?_; rintro e w3 ⟨rfl, rfl⟩) | (go_at_call_of 32 b; refine Calls.mono (RB.out _) ?_; rintro e w3 ⟨rfl, rfl⟩))
                      refine bodyPost_ret (v := .tuple #[.agg #[.slice none 0 0, .slice none 0 0, .slice none 0 0], .int .i64 ((i + 1 : Nat) : Int)]) ?_ rfl ⟨Or.inr ⟨i + 1, OUT.out, rfl⟩, ((I2.out.bel.setCell (p := ⟨w.heap.size, 0, none⟩) (Nat.le_refl _) _).setCell (p := ⟨w.heap.size, 1, none⟩) (Nat.le_refl _) _).setCell (p := ⟨w.heap.size, 2, none⟩) (Nat.le_refl _) _⟩
                      rw [results_cell_tmp rfl]
                      go_simp
                  | some v =>
                    have RB : Hid (∀ W, Calls _ _ _ W _) := rd_some lb hnb
                    clear hna hnb
                    as_aux_lemma => -- leaf 4
                      go_wp2_with (first | (go_at_call 31; refine (rf_wordsN 3 rfl HLl.out HWS.out HI.out).mono ?_; rintro e w2 ⟨g0, cap, rfl, hp2, hcl⟩; have I2 : Hid (PrI w w2 t i _ _ _ _ g _) := hp2; have d0 : w2.cell? ⟨g0, 0, none⟩ = some (.string ⟨([115, 116, 97, 114, 116] : List UInt8).toArray⟩) := hcl 0 (by simp); have d1 : w2.cell? ⟨g0, 1, none⟩ = some (.string ⟨a.toArray⟩) := hcl 1 (by simp); have d2 : w2.cell? ⟨g0, 2, none⟩ = some (.string ⟨b.toArray⟩) := hcl 2 (by simp); have q3 := tri3 hp2.res; obtain ⟨⟨r0, s0⟩, ⟨r1, s1⟩, ⟨r2, s2⟩⟩ := q3; have q7 := tri3 hp2.rf.box; obtain ⟨⟨b0, f0⟩, ⟨b1, f1⟩, ⟨b2, f2⟩⟩ := q7; have hz2 : w.heap.size + 1 < w2.heap.size := (by have := hp2.sz; omega); clear hp2 hcl) | (go_at_call_of 32 a; refine Calls.mono (RA.out _) ?_; rintro e w3 ⟨rfl, rfl⟩) | (go_at_call_of 32 b; refine Calls.mono (RB.out _) ?_; rintro e w3 ⟨rfl, rfl⟩))
                      refine bodyPost_ret (v := .tuple #[.agg #[.slice none 0 0, .slice none 0 0, .slice none 0 0], .int .i64 ((i + 1 : Nat) : Int)]) ?_ rfl ⟨Or.inr ⟨i + 1, OUT.out, rfl⟩, ((I2.out.bel.setCell (p := ⟨w.heap.size, 0, none⟩) (Nat.le_refl _) _).setCell (p := ⟨w.heap.size, 1, none⟩) (Nat.le_refl _) _).setCell (p := ⟨w.heap.size, 2, none⟩) (Nat.le_refl _) _⟩
                      rw [results_cell_tmp rfl]
                      go_simp
                | some k =>
                  have RA : Hid (∀ W, Calls _ _ _ W _) := rd_some la hna
                  cases hnb : numOf b with
                  | none =>
                    have RB : Hid (∀ W, Calls _ _ _ W _) := rd_none lb hnb
                    have OUT : Hid (parseG t = .inr (i + 1)) := HI.out.bad HIi.out (by rw [HSE.out, HS.out]; simp [startO, hna, hnb])
                    clear hna hnb
                    as_aux_lemma => -- leaf 5
                      go_wp2_with (first | (go_at_call 31; refine (rf_wordsN 3 rfl HLl.out HWS.out HI.out).mono ?_; rintro e w2 ⟨g0, cap, rfl, hp2, hcl⟩; have I2 : Hid (PrI w w2 t i _ _ _ _ g _) := hp2; have d0 : w2.cell? ⟨g0, 0, none⟩ = some (.string ⟨([115, 116, 97, 114, 116] : List UInt8).toArray⟩) := hcl 0 (by simp); have d1 : w2.cell? ⟨g0, 1, none⟩ = some (.string ⟨a.toArray⟩) := hcl 1 (by simp); have d2 : w2.cell? ⟨g0, 2, none⟩ = some (.string ⟨b.toArray⟩) := hcl 2 (by simp); have q3 := tri3 hp2.res; obtain ⟨⟨r0, s0⟩, ⟨r1, s1⟩, ⟨r2, s2⟩⟩ := q3; have q7 := tri3 hp2.rf.box; obtain ⟨⟨b0, f0⟩, ⟨b1, f1⟩, ⟨b2, f2⟩⟩ := q7; have hz2 : w.heap.size + 1 < w2.heap.size := (by have := hp2.sz; omega); clear hp2 hcl) | (go_at_call_of 32 a; refine Calls.mono (RA.out _) ?_; rintro e w3 ⟨rfl, rfl⟩) | (go_at_call_of 32 b; refine Calls.mono (RB.out _) ?_; rintro e w3 ⟨rfl, rfl⟩))
                      refine bodyPost_ret (v := .tuple #[.agg #[.slice none 0 0, .slice none 0 0, .slice none 0 0], .int .i64 ((i + 1 : Nat) : Int)]) ?_ rfl ⟨Or.inr ⟨i + 1, OUT.out, rfl⟩, ((I2.out.bel.setCell (p := ⟨w.heap.size, 0, none⟩) (Nat.le_refl _) _).setCell (p := ⟨w.heap.size, 1, none⟩) (Nat.le_refl _) _).setCell (p := ⟨w.heap.size, 2, none⟩) (Nat.le_refl _) _⟩
                      rw [results_cell_tmp rfl]
                      go_simp
                  | some v =>
                    have RB : Hid (∀ W, Calls _ _ _ W _) := rd_some lb hnb
                    have ST : Hid (stepG g (wordsL ((linesL t).getD i [])) = some { g with start := g.start ++ [(k, v)] }) := by show _ = _; rw [HSE.out, HS.out]; simp [startO, hna, hnb]
                    obtain ⟨aS, nS, hvS, -⟩ := ownForm HI.out.rf.game.st
                    subst hvS
                    obtain ⟨i9, hi9, hz9, hz8, hz7⟩ := info_parts pr_info
                    clear hna hnb
                    as_aux_lemma => -- leaf 6
                      go_wp2_with (first | (go_at_call 31; refine (rf_wordsN 3 rfl HLl.out HWS.out HI.out).mono ?_; rintro e w2 ⟨g0, cap, rfl, hp2, hcl⟩; have I2 : Hid (PrI w w2 t i _ _ _ _ g _) := hp2; have d0 : w2.cell? ⟨g0, 0, none⟩ = some (.string ⟨([115, 116, 97, 114, 116] : List UInt8).toArray⟩) := hcl 0 (by simp); have d1 : w2.cell? ⟨g0, 1, none⟩ = some (.string ⟨a.toArray⟩) := hcl 1 (by simp); have d2 : w2.cell? ⟨g0, 2, none⟩ = some (.string ⟨b.toArray⟩) := hcl 2 (by simp); have q3 := tri3 hp2.res; obtain ⟨⟨r0, s0⟩, ⟨r1, s1⟩, ⟨r2, s2⟩⟩ := q3; have q7 := tri3 hp2.rf.box; obtain ⟨⟨b0, f0⟩, ⟨b1, f1⟩, ⟨b2, f2⟩⟩ := q7; have hz2 : w.heap.size + 1 < w2.heap.size := (by have := hp2.sz; omega); clear hp2 hcl) | (go_at_call_of 32 a; refine Calls.mono (RA.out _) ?_; rintro e w3 ⟨rfl, rfl⟩) | (go_at_call_of 32 b; refine Calls.mono (RB.out _) ?_; rintro e w3 ⟨rfl, rfl⟩) | (at_builtin; (refine wpList_append_lies _ (by rfl) _ _ _ (by rfl) (w.heap.size + 2) 49 i9 _ 2 16 prs_under hi9 hz9 hz8 hz7 rfl (by omega) _ g.start.length _ (by rfl) (I2.out.rf.game.st.alloc _) ⟨w3.heap.size, 0, none⟩ 1 1 [.int .i64 k, .int .i64 v] (by rfl) (by rfl) (World.news_of_block (cs := #[.int .i64 k, .int .i64 v]) (t := 49) (fr := (0, 0)) (heap_alloc_at _ _ _ rfl)) (by simp [Value.oneCell']) (by omega) (by unfold maxLen; omega) (by omega) (by have := I2.out.sz; simp; omega) (w3.heap.size + 1) (by simp) ?_; intro gg cp w5 hown5 hgrow5 hat5 hlt5; have HAD : Hid _ := I2.out.rf.addS (below_alloc w3 _) hgrow5 k v hown5; have q6 := tri3 HAD.out.1; obtain ⟨⟨y0, u0⟩, ⟨y1, u1⟩, ⟨y2, u2⟩⟩ := q6; clear hgrow5 hown5 hat5)))
                      exact ⟨⟨i + 1, _, vC, vP, vs, { g with start := g.start ++ [(k, v)] }, by omega, by go_num, rfl, I2.out.next HIi.out ST.out HAD.out.2.1 HAD.out.2.2⟩, by simp [intOf]; omega⟩
              · have z3 : ((r.length : Int) + 1 == 3) = false := beq_eq_false_iff_ne.2 (by omega)
                have OUT : Hid (parseG t = .inr (i + 1)) := HI.out.bad HIi.out (by rw [HSE.out, step_start, if_pos hp, startO_len hr])
                clear hr OFF h35 hp
                as_aux_lemma => -- leaf 7
                  go_wp2_with (first | (go_at_call 31; refine (rf_words HLl.out HWS.out HI.out).mono ?_; rintro e w2 ⟨g0, cap, rfl, hp2, hcl, hop⟩; have I2 : Hid (PrI w w2 t i _ _ _ _ g _) := hp2; have OA : Hid (Calls _ _ _ _ _) := hop; have d0 : w2.cell? ⟨g0, 0, none⟩ = some (.string ⟨([115, 116, 97, 114, 116] : List UInt8).toArray⟩) := hcl 0 (by omega); clear hp2 hcl hop) | (go_at_call 33; refine Calls.mono (op_false OA.out HNO.out) ?_; rintro e w4 ⟨rfl, hb4⟩; have I4 : Hid (PrI w w4 t i _ _ _ _ g _) := I2.out.on hb4; have q3 := tri3 I4.out.res; obtain ⟨⟨r0, s0⟩, ⟨r1, s1⟩, ⟨r2, s2⟩⟩ := q3; have hz4 : w.heap.size < w4.heap.size := (by have := I4.out.sz; omega); clear hb4))
                  refine bodyPost_ret (v := .tuple #[.agg #[.slice none 0 0, .slice none 0 0, .slice none 0 0], .int .i64 ((i + 1 : Nat) : Int)]) ?_ rfl ⟨Or.inr ⟨i + 1, OUT.out, rfl⟩, allocS (((I4.out.bel.setCell (p := ⟨w.heap.size, 0, none⟩) (Nat.le_refl _) _).setCell (p := ⟨w.heap.size, 1, none⟩) (Nat.le_refl _) _).setCell (p := ⟨w.heap.size, 2, none⟩) (Nat.le_refl _) _) _⟩
                  rw [results_cell_tmp rfl]
                  go_simp
            · have q0 : ((g.part : Int) == 0) = false := beq_eq_false_iff_ne.2 (by omega)
              have OUT : Hid (parseG t = .inr (i + 1)) := HI.out.bad HIi.out (by rw [HSE.out, step_start, if_neg hp])
              clear OFF h35 hp
              as_aux_lemma => -- leaf 8
                go_wp2_with (first | (go_at_call 31; refine (rf_words HLl.out HWS.out HI.out).mono ?_; rintro e w2 ⟨g0, cap, rfl, hp2, hcl, hop⟩; have I2 : Hid (PrI w w2 t i _ _ _ _ g _) := hp2; have OA : Hid (Calls _ _ _ _ _) := hop; have d0 : w2.cell? ⟨g0, 0, none⟩ = some (.string ⟨([115, 116, 97, 114, 116] : List UInt8).toArray⟩) := hcl 0 (by omega); clear hp2 hcl hop) | (go_at_call 33; refine Calls.mono (op_false OA.out HNO.out) ?_; rintro e w4 ⟨rfl, hb4⟩; have I4 : Hid (PrI w w4 t i _ _ _ _ g _) := I2.out.on hb4; have q3 := tri3 I4.out.res; obtain ⟨⟨r0, s0⟩, ⟨r1, s1⟩, ⟨r2, s2⟩⟩ := q3; have hz4 : w.heap.size < w4.heap.size := (by have := I4.out.sz; omega); clear hb4))
                refine bodyPost_ret (v := .tuple #[.agg #[.slice none 0 0, .slice none 0 0, .slice none 0 0], .int .i64 ((i + 1 : Nat) : Int)]) ?_ rfl ⟨Or.inr ⟨i + 1, OUT.out, rfl⟩, allocS (((I4.out.bel.setCell (p := ⟨w.heap.size, 0, none⟩) (Nat.le_refl _) _).setCell (p := ⟨w.heap.size, 1, none⟩) (Nat.le_refl _) _).setCell (p := ⟨w.heap.size, 2, none⟩) (Nat.le_refl _) _) _⟩
                rw [results_cell_tmp rfl]
                go_simp
          · have s1 : (x == [115, 116, 97, 114, 116]) = false := beq_eq_false_iff_ne.2 h1
            by_cases h2 : x = threadW
            · obtain rfl : x = [116, 104, 114, 101, 97, 100] := h2
              have HNO : Hid (∀ k V, ¬ OpIs ([116, 104, 114, 101, 97, 100] :: r) k V) := fun k V q => thread_no k q.lo q.hi (Option.some.inj q.hd)
              have gsc : g.scripts.length ≤ 2000000 := by have := HI.out.gs.sc; omega
              by_cases hp : g.part ≤ 1
              · have q0 : decide ((g.part : Int) ≤ 1) = true := by simpa using (by omega : (g.part : Int) ≤ 1)
                by_cases hr : r = []
                · subst hr
                  have ST : Hid (stepG g (wordsL ((linesL t).getD i [])) = some { g with scripts := g.scripts ++ [([] : List OpD)], part := 1 }) := by show _ = _; rw [HSE.out, step_thread, if_pos ⟨hp, rfl⟩]
                  obtain ⟨aC, nC, hvC, -⟩ := ownForm HI.out.rf.game.top
                  subst hvC
                  obtain ⟨i9, hi9, hz9, hz8, hz7⟩ := info_parts ops_info
                  clear h1 h35 hp
                  as_aux_lemma => -- leaf 9
                    go_wp2_with (first | (go_at_call 31; refine (rf_wordsN 1 rfl HLl.out HWS.out HI.out).mono ?_; rintro e w2 ⟨g0, cap, rfl, hp2, hcl⟩; have I2 : Hid (PrI w w2 t i _ _ _ _ g _) := hp2; have d0 : w2.cell? ⟨g0, 0, none⟩ = some (.string ⟨([116, 104, 114, 101, 97, 100] : List UInt8).toArray⟩) := hcl 0 (by simp); have q3 := tri3 hp2.res; obtain ⟨⟨r0, s0⟩, ⟨r1, s1⟩, ⟨r2, s2⟩⟩ := q3; have q7 := tri3 hp2.rf.box; obtain ⟨⟨b0, f0⟩, ⟨b1, f1⟩, ⟨b2, f2⟩⟩ := q7; have hz2 : w.heap.size + 1 < w2.heap.size := (by have := hp2.sz; omega); clear hp2 hcl) | (at_builtin; (refine wpList_append_lies _ (by rfl) _ _ _ (by rfl) (w.heap.size + 2) 37 i9 _ 1 24 opss_under hi9 hz9 hz8 hz7 rfl (by omega) _ g.scripts.length _ (by rfl) (I2.out.rf.game.top.alloc _) ⟨w2.heap.size, 0, none⟩ 1 1 [.slice none 0 0] (by rfl) (by rfl) (World.news_of_block (cs := #[.slice none 0 0]) (t := 37) (fr := (0, 0)) (heap_alloc_at _ _ _ rfl)) (by simp [Value.oneCell']) (by omega) (by unfold maxLen; omega) (by omega) (by have := I2.out.sz; simp; omega) (w2.heap.size + 1) (by simp) ?_; intro gg cp w5 hown5 hgrow5 hat5 hlt5; have HAD : Hid _ := I2.out.rf.addT (below_alloc w2 _) hgrow5 1 hown5; have q6 := tri3 HAD.out.1; obtain ⟨⟨y0, u0⟩, ⟨y1, u1⟩, ⟨y2, u2⟩⟩ := q6; clear hgrow5 hown5 hat5)))
                    exact ⟨⟨i + 1, vS, _, vP, _, _, by omega, by go_num, rfl, I2.out.next HIi.out ST.out HAD.out.2.1 HAD.out.2.2⟩, by simp [intOf]; omega⟩
                · have hrl : 0 < r.length := List.length_pos_iff.2 hr
                  have z3 : ((r.length : Int) + 1 == 1) = false := beq_eq_false_iff_ne.2 (by omega)
                  have OUT : Hid (parseG t = .inr (i + 1)) := HI.out.bad HIi.out (by rw [HSE.out, step_thread, if_neg (fun q => hr q.2)])
                  clear hr h1 h35 hp
                  as_aux_lemma => -- leaf 10
                    go_wp2_with (first | (go_at_call 31; refine (rf_words HLl.out HWS.out HI.out).mono ?_; rintro e w2 ⟨g0, cap, rfl, hp2, hcl, hop⟩; have I2 : Hid (PrI w w2 t i _ _ _ _ g _) := hp2; have OA : Hid (Calls _ _ _ _ _) := hop; have d0 : w2.cell? ⟨g0, 0, none⟩ = some (.string ⟨([116, 104, 114, 101, 97, 100] : List UInt8).toArray⟩) := hcl 0 (by omega); clear hp2 hcl hop) | (go_at_call 33; refine Calls.mono (op_false OA.out HNO.out) ?_; rintro e w4 ⟨rfl, hb4⟩; have I4 : Hid (PrI w w4 t i _ _ _ _ g _) := I2.out.on hb4; have q3 := tri3 I4.out.res; obtain ⟨⟨r0, s0⟩, ⟨r1, s1⟩, ⟨r2, s2⟩⟩ := q3; have hz4 : w.heap.size < w4.heap.size := (by have := I4.out.sz; omega); clear hb4))
                    refine bodyPost_ret (v := .tuple #[.agg #[.slice none 0 0, .slice none 0 0, .slice none 0 0], .int .i64 ((i + 1 : Nat) : Int)]) ?_ rfl ⟨Or.inr ⟨i + 1, OUT.out, rfl⟩, allocS (((I4.out.bel.setCell (p := ⟨w.heap.size, 0, none⟩) (Nat.le_refl _) _).setCell (p := ⟨w.heap.size, 1, none⟩) (Nat.le_refl _) _).setCell (p := ⟨w.heap.size, 2, none⟩) (Nat.le_refl _) _) _⟩
                    rw [results_cell_tmp rfl]
                    go_simp
              · have q0 : decide ((g.part : Int) ≤ 1) = false := by simpa using (by omega : 1 < (g.part : Int))
                have OUT : Hid (parseG t = .inr (i + 1)) := HI.out.bad HIi.out (by rw [HSE.out, step_thread, if_neg (fun q => hp q.1)])
                clear h1 h35 hp
                as_aux_lemma => -- leaf 11
                  go_wp2_with (first | (go_at_call 31; refine (rf_words HLl.out HWS.out HI.out).mono ?_; rintro e w2 ⟨g0, cap, rfl, hp2, hcl, hop⟩; have I2 : Hid (PrI w w2 t i _ _ _ _ g _) := hp2; have OA : Hid (Calls _ _ _ _ _) := hop; have d0 : w2.cell? ⟨g0, 0, none⟩ = some (.string ⟨([116, 104, 114, 101, 97, 100] : List UInt8).toArray⟩) := hcl 0 (by omega); clear hp2 hcl hop) | (go_at_call 33; refine Calls.mono (op_false OA.out HNO.out) ?_; rintro e w4 ⟨rfl, hb4⟩; have I4 : Hid (PrI w w4 t i _ _ _ _ g _) := I2.out.on hb4; have q3 := tri3 I4.out.res; obtain ⟨⟨r0, s0⟩, ⟨r1, s1⟩, ⟨r2, s2⟩⟩ := q3; have hz4 : w.heap.size < w4.heap.size := (by have := I4.out.sz; omega); clear hb4))
                  refine bodyPost_ret (v := .tuple #[.agg #[.slice none 0 0, .slice none 0 0, .slice none 0 0], .int .i64 ((i + 1 : Nat) : Int)]) ?_ rfl ⟨Or.inr ⟨i + 1, OUT.out, rfl⟩, allocS (((I4.out.bel.setCell (p := ⟨w.heap.size, 0, none⟩) (Nat.le_refl _) _).setCell (p := ⟨w.heap.size, 1, none⟩) (Nat.le_refl _) _).setCell (p := ⟨w.heap.size, 2, none⟩) (Nat.le_refl _) _) _⟩
                  rw [results_cell_tmp rfl]
                  go_simp
            · have s2 : (x == [116, 104, 114, 101, 97, 100]) = false := beq_eq_false_iff_ne.2 h2
              by_cases h3 : x = pickW
              · obtain rfl : x = [112, 105, 99, 107] := h3
                have HNO : Hid (∀ k V, ¬ OpIs ([112, 105, 99, 107] :: r) k V) := fun k V q => pick_no k q.lo q.hi (Option.some.inj q.hd)
                have gpk : g.picks.length ≤ 1000000 := HI.out.ok.picks
                have gpi : ((g.picks.length : Nat) : Int) ≤ 1000000 := by omega
                have gp0 : (0 : Int) ≤ ((g.picks.length : Nat) : Int) := Int.natCast_nonneg _
                clear h1 h2 h35
                by_cases hr1 : r.length = 1
                · obtain ⟨a, rfl⟩ := one_of hr1
                  have la := HRW.out a (by simp)
                  clear hr1
                  cases hna : numOf a with
                  | none =>
                    have RA : Hid (∀ W, Calls _ _ _ W _) := rd_none la hna
                    have OUT : Hid (parseG t = .inr (i + 1)) := HI.out.bad HIi.out (by rw [HSE.out, step_pick]; simp [pickO, hna])
                    clear hna
                    as_aux_lemma => -- leaf 12
                      go_wp2_with (first | (go_at_call 31; refine (rf_wordsN 2 rfl HLl.out HWS.out HI.out).mono ?_; rintro e w2 ⟨g0, cap, rfl, hp2, hcl⟩; have I2 : Hid (PrI w w2 t i _ _ _ _ g _) := hp2; have d0 : w2.cell? ⟨g0, 0, none⟩ = some (.string ⟨([112, 105, 99, 107] : List UInt8).toArray⟩) := hcl 0 (by simp); have d1 : w2.cell? ⟨g0, 1, none⟩ = some (.string ⟨a.toArray⟩) := hcl 1 (by simp); have q3 := tri3 hp2.res; obtain ⟨⟨r0, s0⟩, ⟨r1, s1⟩, ⟨r2, s2⟩⟩ := q3; have q7 := tri3 hp2.rf.box; obtain ⟨⟨b0, f0⟩, ⟨b1, f1⟩, ⟨b2, f2⟩⟩ := q7; have hz2 : w.heap.size + 1 < w2.heap.size := (by have := hp2.sz; omega); clear hp2 hcl) | (go_at_call_of 32 a; refine Calls.mono (RA.out _) ?_; rintro e w3 ⟨rfl, rfl⟩))
                      refine bodyPost_ret (v := .tuple #[.agg #[.slice none 0 0, .slice none 0 0, .slice none 0 0], .int .i64 ((i + 1 : Nat) : Int)]) ?_ rfl ⟨Or.inr ⟨i + 1, OUT.out, rfl⟩, ((I2.out.bel.setCell (p := ⟨w.heap.size, 0, none⟩) (Nat.le_refl _) _).setCell (p := ⟨w.heap.size, 1, none⟩) (Nat.le_refl _) _).setCell (p := ⟨w.heap.size, 2, none⟩) (Nat.le_refl _) _⟩
                      rw [results_cell_tmp rfl]
                      go_simp
                  | some p =>
                    have RA : Hid (∀ W, Calls _ _ _ W _) := rd_some la hna
                    obtain ⟨aP, nP, hvP, -⟩ := ownForm HI.out.rf.game.pk
                    obtain ⟨lp, hlp⟩ : ∃ lp, lp = g.picks.length := ⟨_, rfl⟩
                    have HLP : Hid (lp = g.picks.length) := hlp
                    rw [← hlp] at hvP gpk gpi gp0
                    subst hvP
                    clear hlp
                    obtain ⟨i9, hi9, hz9, hz8, hz7⟩ := info_parts rin_info
                    by_cases hf : (lp : Int) + 1 ≤ 1000000
                    · have ST : Hid (stepG g (wordsL ((linesL t).getD i [])) = some (repG g 1 p)) := by show _ = _; rw [HSE.out, step_pick]; simp only [pickO, hna, addP]; rw [if_pos (by have := HLP.out; omega)]; rfl
                      obtain ⟨lq, hlq⟩ : ∃ lq, lq = lp + 1 := ⟨_, rfl⟩
                      have l1 : (lp : Int) + 1 = (lq : Int) := by omega
                      have v0 : (lq : Int) ≤ 1000000 := by omega
                      have v1 : (0 : Int) ≤ (lq : Int) := Int.natCast_nonneg _
                      clear hlq
                      have HF : Hid (g.picks.length + 1 ≤ 1000000) := by show _ ≤ _; have := HLP.out; omega
                      clear hna hf
                      as_aux_lemma => -- leaf 13
                        go_wp2_with (first | (go_at_call 31; refine (rf_wordsN 2 rfl HLl.out HWS.out HI.out).mono ?_; rintro e w2 ⟨g0, cap, rfl, hp2, hcl⟩; have I2 : Hid (PrI w w2 t i _ _ _ _ g _) := hp2; have d0 : w2.cell? ⟨g0, 0, none⟩ = some (.string ⟨([112, 105, 99, 107] : List UInt8).toArray⟩) := hcl 0 (by simp); have d1 : w2.cell? ⟨g0, 1, none⟩ = some (.string ⟨a.toArray⟩) := hcl 1 (by simp); have q3 := tri3 hp2.res; obtain ⟨⟨r0, s0⟩, ⟨r1, s1⟩, ⟨r2, s2⟩⟩ := q3; have q7 := tri3 hp2.rf.box; obtain ⟨⟨b0, f0⟩, ⟨b1, f1⟩, ⟨b2, f2⟩⟩ := q7; have hz2 : w.heap.size + 1 < w2.heap.size := (by have := hp2.sz; omega); clear hp2 hcl) | (go_at_call_of 32 a; refine Calls.mono (RA.out _) ?_; rintro e w3 ⟨rfl, rfl⟩))
                        have HZ2 : Hid (w.heap.size + 2 ≤ w3.heap.size) := I2.out.sz
                        go_loopw [18] (fun vk wr => ∃ (k : Nat) (vQ : Value), k ≤ 1 ∧ vk = .int .i64 k ∧ RfB (w.heap.size + 2) (w.heap.size + 1) wr vS vC vQ vs (repG g k p) _ (linesL t) ∧ Below (w.heap.size + 1) w3 wr) (fun vk _ => 1 - (intOf vk).toNat)
                        case atStart => exact ⟨0, _, Nat.zero_le _, rfl, I2.out.rf.rep0 p, Below.refl _ _⟩
                        case round =>
                          obtain ⟨k, vQ, hkm, rfl, hR, hB⟩ := hrel
                          rename World => wr
                          have HR : Hid (RfB (w.heap.size + 2) (w.heap.size + 1) wr vS vC vQ vs (repG g k p) _ (linesL t)) := hR
                          have HBk : Hid (Below (w.heap.size + 1) w3 wr) := hB
                          have hzr : w.heap.size + 2 ≤ wr.heap.size := Nat.le_trans HZ2.out hB.size
                          clear hR hB
                          have k0 : (0 : Int) ≤ (k : Int) := Int.natCast_nonneg _
                          by_cases hk : k < 1
                          · have k1 : (k : Int) < 1 := by omega
                            obtain ⟨aQ, nQ, hvQ, -⟩ := ownForm HR.out.game.pk
                            obtain ⟨l, hLe⟩ : ∃ l, l = (repG g k p).picks.length := ⟨_, rfl⟩
                            have HL : Hid (l = (repG g k p).picks.length) := hLe
                            have hl6 : l ≤ 1000000 := by have := HF.out; rw [hLe, repG_len]; omega
                            rw [← hLe] at hvQ
                            subst hvQ
                            have q9 := tri3 HR.out.box
                            obtain ⟨⟨g0', e0⟩, ⟨g1', e1⟩, ⟨g2', e2⟩⟩ := q9
                            clear hLe
                            go_wp2_with (first | (at_builtin; (refine wpList_append_lies _ (by rfl) _ _ _ (by rfl) (w.heap.size + 2) 3 i9 _ 1 8 rin_under hi9 hz9 hz8 hz7 rfl (by omega) _ l _ (by rfl) ((HR.out.pkL HL.out).alloc _) ⟨wr.heap.size, 0, none⟩ 1 1 [.int .i64 p] (by rfl) (by rfl) (World.news_of_block (cs := #[.int .i64 p]) (t := 3) (fr := (0, 0)) (heap_alloc_at _ _ _ rfl)) (by simp [Value.oneCell']) (by omega) (by unfold maxLen; omega) (by omega) (by simp; omega) (wr.heap.size + 1) (by simp) ?_; intro gg cp w5 hown5 hgrow5 hat5 hlt5; have HAD : Hid _ := HR.out.addR (below_alloc wr _) hgrow5 HL.out hown5; have q6 := tri3 HAD.out.1; obtain ⟨⟨y0, u0⟩, ⟨y1, u1⟩, ⟨y2, u2⟩⟩ := q6; clear hgrow5 hown5 hat5)))
                            exact ⟨⟨k + 1, _, by omega, by go_num, HAD.out.2.1, HBk.out.trans HAD.out.2.2⟩, by simp [intOf]; omega⟩
                          · obtain rfl : k = 1 := by omega
                            go_wp2_with fail
                            exact ⟨⟨i + 1, vS, vC, vQ, vs, _, by have := HIi.out; omega, by go_num, rfl, I2.out.next HIi.out ST.out HR.out HBk.out⟩, by have := HIi.out; simp [intOf]; omega⟩
                    · have OUT : Hid (parseG t = .inr (i + 1)) := HI.out.bad HIi.out (by rw [HSE.out, step_pick]; simp only [pickO, hna, addP]; rw [if_neg (by have := HLP.out; omega)])
                      have u0 : 1000000 < (lp : Int) + 1 := by omega
                      clear hna hf
                      as_aux_lemma => -- leaf 14
                        go_wp2_with (first | (go_at_call 31; refine (rf_wordsN 2 rfl HLl.out HWS.out HI.out).mono ?_; rintro e w2 ⟨g0, cap, rfl, hp2, hcl⟩; have I2 : Hid (PrI w w2 t i _ _ _ _ g _) := hp2; have d0 : w2.cell? ⟨g0, 0, none⟩ = some (.string ⟨([112, 105, 99, 107] : List UInt8).toArray⟩) := hcl 0 (by simp); have d1 : w2.cell? ⟨g0, 1, none⟩ = some (.string ⟨a.toArray⟩) := hcl 1 (by simp); have q3 := tri3 hp2.res; obtain ⟨⟨r0, s0⟩, ⟨r1, s1⟩, ⟨r2, s2⟩⟩ := q3; have q7 := tri3 hp2.rf.box; obtain ⟨⟨b0, f0⟩, ⟨b1, f1⟩, ⟨b2, f2⟩⟩ := q7; have hz2 : w.heap.size + 1 < w2.heap.size := (by have := hp2.sz; omega); clear hp2 hcl) | (go_at_call_of 32 a; refine Calls.mono (RA.out _) ?_; rintro e w3 ⟨rfl, rfl⟩))
                        refine bodyPost_ret (v := .tuple #[.agg #[.slice none 0 0, .slice none 0 0, .slice none 0 0], .int .i64 ((i + 1 : Nat) : Int)]) ?_ rfl ⟨Or.inr ⟨i + 1, OUT.out, rfl⟩, ((I2.out.bel.setCell (p := ⟨w.heap.size, 0, none⟩) (Nat.le_refl _) _).setCell (p := ⟨w.heap.size, 1, none⟩) (Nat.le_refl _) _).setCell (p := ⟨w.heap.size, 2, none⟩) (Nat.le_refl _) _⟩
                        rw [results_cell_tmp rfl]
                        go_simp
                · by_cases hr2 : r.length = 2
                  · obtain ⟨a, b, rfl⟩ := two_of hr2
                    have la := HRW.out a (by simp)
                    have lb := HRW.out b (by simp)
                    obtain ⟨aP, nP, hvP, -⟩ := ownForm HI.out.rf.game.pk
                    obtain ⟨lp, hlp⟩ : ∃ lp, lp = g.picks.length := ⟨_, rfl⟩
                    have HLP : Hid (lp = g.picks.length) := hlp
                    rw [← hlp] at hvP gpk gpi gp0
                    subst hvP
                    clear hlp
                    clear hr1 hr2
                    cases hna : numOf a with
                    | none =>
                      have RA : Hid (∀ W, Calls _ _ _ W _) := rd_none la hna
                      have OUT : Hid (parseG t = .inr (i + 1)) := HI.out.bad HIi.out (by rw [HSE.out, step_pick]; simp [pickO, hna])
                      cases hnb : numOf b with
                      | none =>
                        have RB : Hid (∀ W, Calls _ _ _ W _) := rd_none lb hnb
                        clear hna hnb
                        as_aux_lemma => -- leaf 15
                          go_wp2_with (first | (go_at_call 31; refine (rf_wordsN 3 rfl HLl.out HWS.out HI.out).mono ?_; rintro e w2 ⟨g0, cap, rfl, hp2, hcl⟩; have I2 : Hid (PrI w w2 t i _ _ _ _ g _) := hp2; have d0 : w2.cell? ⟨g0, 0, none⟩ = some (.string ⟨([112, 105, 99, 107] : List UInt8).toArray⟩) := hcl 0 (by simp); have d1 : w2.cell? ⟨g0, 1, none⟩ = some (.string ⟨a.toArray⟩) := hcl 1 (by simp); have d2 : w2.cell? ⟨g0, 2, none⟩ = some (.string ⟨b.toArray⟩) := hcl 2 (by simp); have q3 := tri3 hp2.res; obtain ⟨⟨r0, s0⟩, ⟨r1, s1⟩, ⟨r2, s2⟩⟩ := q3; have q7 := tri3 hp2.rf.box; obtain ⟨⟨b0, f0⟩, ⟨b1, f1⟩, ⟨b2, f2⟩⟩ := q7; have hz2 : w.heap.size + 1 < w2.heap.size := (by have := hp2.sz; omega); clear hp2 hcl) | (go_at_call_of 32 a; refine Calls.mono (RA.out _) ?_; rintro e w3 ⟨rfl, rfl⟩) | (go_at_call_of 32 b; refine Calls.mono (RB.out _) ?_; rintro e w3 ⟨rfl, rfl⟩))
                          refine bodyPost_ret (v := .tuple #[.agg #[.slice none 0 0, .slice none 0 0, .slice none 0 0], .int .i64 ((i + 1 : Nat) : Int)]) ?_ rfl ⟨Or.inr ⟨i + 1, OUT.out, rfl⟩, ((I2.out.bel.setCell (p := ⟨w.heap.size, 0, none⟩) (Nat.le_refl _) _).setCell (p := ⟨w.heap.size, 1, none⟩) (Nat.le_refl _) _).setCell (p := ⟨w.heap.size, 2, none⟩) (Nat.le_refl _) _⟩
                          rw [results_cell_tmp rfl]
                          go_simp
                      | some v =>
                        have RB : Hid (∀ W, Calls _ _ _ W _) := rd_some lb hnb
                        clear hna hnb
                        as_aux_lemma => -- leaf 16
                          go_wp2_with (first | (go_at_call 31; refine (rf_wordsN 3 rfl HLl.out HWS.out HI.out).mono ?_; rintro e w2 ⟨g0, cap, rfl, hp2, hcl⟩; have I2 : Hid (PrI w w2 t i _ _ _ _ g _) := hp2; have d0 : w2.cell? ⟨g0, 0, none⟩ = some (.string ⟨([112, 105, 99, 107] : List UInt8).toArray⟩) := hcl 0 (by simp); have d1 : w2.cell? ⟨g0, 1, none⟩ = some (.string ⟨a.toArray⟩) := hcl 1 (by simp); have d2 : w2.cell? ⟨g0, 2, none⟩ = some (.string ⟨b.toArray⟩) := hcl 2 (by simp); have q3 := tri3 hp2.res; obtain ⟨⟨r0, s0⟩, ⟨r1, s1⟩, ⟨r2, s2⟩⟩ := q3; have q7 := tri3 hp2.rf.box; obtain ⟨⟨b0, f0⟩, ⟨b1, f1⟩, ⟨b2, f2⟩⟩ := q7; have hz2 : w.heap.size + 1 < w2.heap.size := (by have := hp2.sz; omega); clear hp2 hcl) | (go_at_call_of 32 a; refine Calls.mono (RA.out _) ?_; rintro e w3 ⟨rfl, rfl⟩) | (go_at_call_of 32 b; refine Calls.mono (RB.out _) ?_; rintro e w3 ⟨rfl, rfl⟩))
                          refine bodyPost_ret (v := .tuple #[.agg #[.slice none 0 0, .slice none 0 0, .slice none 0 0], .int .i64 ((i + 1 : Nat) : Int)]) ?_ rfl ⟨Or.inr ⟨i + 1, OUT.out, rfl⟩, ((I2.out.bel.setCell (p := ⟨w.heap.size, 0, none⟩) (Nat.le_refl _) _).setCell (p := ⟨w.heap.size, 1, none⟩) (Nat.le_refl _) _).setCell (p := ⟨w.heap.size, 2, none⟩) (Nat.le_refl _) _⟩
                          rw [results_cell_tmp rfl]
                          go_simp
                    | some p =>
                      have RA : Hid (∀ W, Calls _ _ _ W _) := rd_some la hna
                      cases hnb : numOf b with
                      | none =>
                        have RB : Hid (∀ W, Calls _ _ _ W _) := rd_none lb hnb
                        have OUT : Hid (parseG t = .inr (i + 1)) := HI.out.bad HIi.out (by rw [HSE.out, step_pick]; simp [pickO, hna, hnb])
                        clear hna hnb
                        as_aux_lemma => -- leaf 17
                          go_wp2_with (first | (go_at_call 31; refine (rf_wordsN 3 rfl HLl.out HWS.out HI.out).mono ?_; rintro e w2 ⟨g0, cap, rfl, hp2, hcl⟩; have I2 : Hid (PrI w w2 t i _ _ _ _ g _) := hp2; have d0 : w2.cell? ⟨g0, 0, none⟩ = some (.string ⟨([112, 105, 99, 107] : List UInt8).toArray⟩) := hcl 0 (by simp); have d1 : w2.cell? ⟨g0, 1, none⟩ = some (.string ⟨a.toArray⟩) := hcl 1 (by simp); have d2 : w2.cell? ⟨g0, 2, none⟩ = some (.string ⟨b.toArray⟩) := hcl 2 (by simp); have q3 := tri3 hp2.res; obtain ⟨⟨r0, s0⟩, ⟨r1, s1⟩, ⟨r2, s2⟩⟩ := q3; have q7 := tri3 hp2.rf.box; obtain ⟨⟨b0, f0⟩, ⟨b1, f1⟩, ⟨b2, f2⟩⟩ := q7; have hz2 : w.heap.size + 1 < w2.heap.size := (by have := hp2.sz; omega); clear hp2 hcl) | (go_at_call_of 32 a; refine Calls.mono (RA.out _) ?_; rintro e w3 ⟨rfl, rfl⟩) | (go_at_call_of 32 b; refine Calls.mono (RB.out _) ?_; rintro e w3 ⟨rfl, rfl⟩))
                          refine bodyPost_ret (v := .tuple #[.agg #[.slice none 0 0, .slice none 0 0, .slice none 0 0], .int .i64 ((i + 1 : Nat) : Int)]) ?_ rfl ⟨Or.inr ⟨i + 1, OUT.out, rfl⟩, ((I2.out.bel.setCell (p := ⟨w.heap.size, 0, none⟩) (Nat.le_refl _) _).setCell (p := ⟨w.heap.size, 1, none⟩) (Nat.le_refl _) _).setCell (p := ⟨w.heap.size, 2, none⟩) (Nat.le_refl _) _⟩
                          rw [results_cell_tmp rfl]
                          go_simp
                      | some n =>
                        have RB : Hid (∀ W, Calls _ _ _ W _) := rd_some lb hnb
                        by_cases hn0 : n < 0
                        · have OUT : Hid (parseG t = .inr (i + 1)) := HI.out.bad HIi.out (by rw [HSE.out, step_pick]; simp only [pickO, hna, hnb, addP]; rw [if_neg (by have := HLP.out; omega)])
                          clear hna hnb
                          as_aux_lemma => -- leaf 18
                            go_wp2_with (first | (go_at_call 31; refine (rf_wordsN 3 rfl HLl.out HWS.out HI.out).mono ?_; rintro e w2 ⟨g0, cap, rfl, hp2, hcl⟩; have I2 : Hid (PrI w w2 t i _ _ _ _ g _) := hp2; have d0 : w2.cell? ⟨g0, 0, none⟩ = some (.string ⟨([112, 105, 99, 107] : List UInt8).toArray⟩) := hcl 0 (by simp); have d1 : w2.cell? ⟨g0, 1, none⟩ = some (.string ⟨a.toArray⟩) := hcl 1 (by simp); have d2 : w2.cell? ⟨g0, 2, none⟩ = some (.string ⟨b.toArray⟩) := hcl 2 (by simp); have q3 := tri3 hp2.res; obtain ⟨⟨r0, s0⟩, ⟨r1, s1⟩, ⟨r2, s2⟩⟩ := q3; have q7 := tri3 hp2.rf.box; obtain ⟨⟨b0, f0⟩, ⟨b1, f1⟩, ⟨b2, f2⟩⟩ := q7; have hz2 : w.heap.size + 1 < w2.heap.size := (by have := hp2.sz; omega); clear hp2 hcl) | (go_at_call_of 32 a; refine Calls.mono (RA.out _) ?_; rintro e w3 ⟨rfl, rfl⟩) | (go_at_call_of 32 b; refine Calls.mono (RB.out _) ?_; rintro e w3 ⟨rfl, rfl⟩))
                            refine bodyPost_ret (v := .tuple #[.agg #[.slice none 0 0, .slice none 0 0, .slice none 0 0], .int .i64 ((i + 1 : Nat) : Int)]) ?_ rfl ⟨Or.inr ⟨i + 1, OUT.out, rfl⟩, ((I2.out.bel.setCell (p := ⟨w.heap.size, 0, none⟩) (Nat.le_refl _) _).setCell (p := ⟨w.heap.size, 1, none⟩) (Nat.le_refl _) _).setCell (p := ⟨w.heap.size, 2, none⟩) (Nat.le_refl _) _⟩
                            rw [results_cell_tmp rfl]
                            go_simp
                        · by_cases hn1 : 1000000 < n
                          · have OUT : Hid (parseG t = .inr (i + 1)) := HI.out.bad HIi.out (by rw [HSE.out, step_pick]; simp only [pickO, hna, hnb, addP]; rw [if_neg (by have := HLP.out; omega)])
                            have hn2 : 0 ≤ n := by omega
                            clear hna hnb hn0
                            as_aux_lemma => -- leaf 19
                              go_wp2_with (first | (go_at_call 31; refine (rf_wordsN 3 rfl HLl.out HWS.out HI.out).mono ?_; rintro e w2 ⟨g0, cap, rfl, hp2, hcl⟩; have I2 : Hid (PrI w w2 t i _ _ _ _ g _) := hp2; have d0 : w2.cell? ⟨g0, 0, none⟩ = some (.string ⟨([112, 105, 99, 107] : List UInt8).toArray⟩) := hcl 0 (by simp); have d1 : w2.cell? ⟨g0, 1, none⟩ = some (.string ⟨a.toArray⟩) := hcl 1 (by simp); have d2 : w2.cell? ⟨g0, 2, none⟩ = some (.string ⟨b.toArray⟩) := hcl 2 (by simp); have q3 := tri3 hp2.res; obtain ⟨⟨r0, s0⟩, ⟨r1, s1⟩, ⟨r2, s2⟩⟩ := q3; have q7 := tri3 hp2.rf.box; obtain ⟨⟨b0, f0⟩, ⟨b1, f1⟩, ⟨b2, f2⟩⟩ := q7; have hz2 : w.heap.size + 1 < w2.heap.size := (by have := hp2.sz; omega); clear hp2 hcl) | (go_at_call_of 32 a; refine Calls.mono (RA.out _) ?_; rintro e w3 ⟨rfl, rfl⟩) | (go_at_call_of 32 b; refine Calls.mono (RB.out _) ?_; rintro e w3 ⟨rfl, rfl⟩))
                              refine bodyPost_ret (v := .tuple #[.agg #[.slice none 0 0, .slice none 0 0, .slice none 0 0], .int .i64 ((i + 1 : Nat) : Int)]) ?_ rfl ⟨Or.inr ⟨i + 1, OUT.out, rfl⟩, ((I2.out.bel.setCell (p := ⟨w.heap.size, 0, none⟩) (Nat.le_refl _) _).setCell (p := ⟨w.heap.size, 1, none⟩) (Nat.le_refl _) _).setCell (p := ⟨w.heap.size, 2, none⟩) (Nat.le_refl _) _⟩
                              rw [results_cell_tmp rfl]
                              go_simp
                          · obtain ⟨m, rfl⟩ : ∃ m : Nat, n = (m : Int) := ⟨n.toNat, by omega⟩
                            have m0 : (0 : Int) ≤ (m : Int) := Int.natCast_nonneg _
                            have m1 : (m : Int) ≤ 1000000 := by omega
                            clear hn0 hn1
                            by_cases hf : (lp : Int) + (m : Int) ≤ 1000000
                            · have ST : Hid (stepG g (wordsL ((linesL t).getD i [])) = some (repG g m p)) := by show _ = _; rw [HSE.out, step_pick]; simp only [pickO, hna, hnb, addP]; rw [if_pos (by have := HLP.out; omega)]; rfl
                              obtain ⟨lq, hlq⟩ : ∃ lq, lq = lp + m := ⟨_, rfl⟩
                              have l1 : (lp : Int) + (m : Int) = (lq : Int) := by omega
                              have v0 : (lq : Int) ≤ 1000000 := by omega
                              have v1 : (0 : Int) ≤ (lq : Int) := Int.natCast_nonneg _
                              clear hlq
                              have HF : Hid (g.picks.length + m ≤ 1000000) := by show _ ≤ _; have := HLP.out; omega
                              obtain ⟨i9, hi9, hz9, hz8, hz7⟩ := info_parts rin_info
                              clear hna hnb hf
                              as_aux_lemma => -- leaf 20
                                go_upto_region 30 with (first | (go_at_call 31; refine (rf_wordsN 3 rfl HLl.out HWS.out HI.out).mono ?_; rintro e w2 ⟨g0, cap, rfl, hp2, hcl⟩; have I2 : Hid (PrI w w2 t i _ _ _ _ g _) := hp2; have d0 : w2.cell? ⟨g0, 0, none⟩ = some (.string ⟨([112, 105, 99, 107] : List UInt8).toArray⟩) := hcl 0 (by simp); have d1 : w2.cell? ⟨g0, 1, none⟩ = some (.string ⟨a.toArray⟩) := hcl 1 (by simp); have d2 : w2.cell? ⟨g0, 2, none⟩ = some (.string ⟨b.toArray⟩) := hcl 2 (by simp); have q3 := tri3 hp2.res; obtain ⟨⟨r0, s0⟩, ⟨r1, s1⟩, ⟨r2, s2⟩⟩ := q3; have q7 := tri3 hp2.rf.box; obtain ⟨⟨b0, f0⟩, ⟨b1, f1⟩, ⟨b2, f2⟩⟩ := q7; have hz2 : w.heap.size + 1 < w2.heap.size := (by have := hp2.sz; omega); clear hp2 hcl) | (go_at_call_of 32 a; refine Calls.mono (RA.out _) ?_; rintro e w3 ⟨rfl, rfl⟩) | (go_at_call_of 32 b; refine Calls.mono (RB.out _) ?_; rintro e w3 ⟨rfl, rfl⟩))
                                as_aux_lemma =>
                                  have M1 : True → (m : Int) ≤ 1000000 := fun _ => m1
                                  have HF0 : True → g.picks.length + m ≤ 1000000 := fun _ => HF.out
                                  have N0 : True → ((linesL t).length : Int) ≤ 2000000 := fun _ => n0
                                  clear n0 hln2 xl1 xl2 rl0 rl1 HF gpk
                                  go_wp2_with fail
                                  have HF : Hid (g.picks.length + m ≤ 1000000) := HF0 trivial
                                  have n0 := N0 trivial
                                  have HZ2 : Hid (w.heap.size + 2 ≤ w3.heap.size) := I2.out.sz
                                  go_loopw [18] (fun vk wr => ∃ (k : Nat) (vQ : Value), k ≤ m ∧ vk = .int .i64 k ∧ RfB (w.heap.size + 2) (w.heap.size + 1) wr vS vC vQ vs (repG g k p) _ (linesL t) ∧ Below (w.heap.size + 1) w3 wr) (fun vk _ => m - (intOf vk).toNat)
                                  case atStart => exact ⟨0, _, Nat.zero_le _, rfl, I2.out.rf.rep0 p, Below.refl _ _⟩
                                  case round =>
                                    obtain ⟨k, vQ, hkm, rfl, hR, hB⟩ := hrel
                                    rename World => wr
                                    have HR : Hid (RfB (w.heap.size + 2) (w.heap.size + 1) wr vS vC vQ vs (repG g k p) _ (linesL t)) := hR
                                    have HBk : Hid (Below (w.heap.size + 1) w3 wr) := hB
                                    have hzr : w.heap.size + 2 ≤ wr.heap.size := Nat.le_trans HZ2.out hB.size
                                    clear hR hB
                                    have k0 : (0 : Int) ≤ (k : Int) := Int.natCast_nonneg _
                                    by_cases hk : k < m
                                    · have k1 : (k : Int) < (m : Int) := by omega
                                      obtain ⟨aQ, nQ, hvQ, -⟩ := ownForm HR.out.game.pk
                                      obtain ⟨l, hLe⟩ : ∃ l, l = (repG g k p).picks.length := ⟨_, rfl⟩
                                      have HL : Hid (l = (repG g k p).picks.length) := hLe
                                      have hl6 : l ≤ 1000000 := by have := HF.out; rw [hLe, repG_len]; omega
                                      rw [← hLe] at hvQ
                                      subst hvQ
                                      have q9 := tri3 HR.out.box
                                      obtain ⟨⟨g0', e0⟩, ⟨g1', e1⟩, ⟨g2', e2⟩⟩ := q9
                                      clear hLe
                                      go_wp2_with (first | (at_builtin; (refine wpList_append_lies _ (by rfl) _ _ _ (by rfl) (w.heap.size + 2) 3 i9 _ 1 8 rin_under hi9 hz9 hz8 hz7 rfl (by omega) _ l _ (by rfl) ((HR.out.pkL HL.out).alloc _) ⟨wr.heap.size, 0, none⟩ 1 1 [.int .i64 p] (by rfl) (by rfl) (World.news_of_block (cs := #[.int .i64 p]) (t := 3) (fr := (0, 0)) (heap_alloc_at _ _ _ rfl)) (by simp [Value.oneCell']) (by omega) (by unfold maxLen; omega) (by omega) (by simp; omega) (wr.heap.size + 1) (by simp) ?_; intro gg cp w5 hown5 hgrow5 hat5 hlt5; have HAD : Hid _ := HR.out.addR (below_alloc wr _) hgrow5 HL.out hown5; have q6 := tri3 HAD.out.1; obtain ⟨⟨y0, u0⟩, ⟨y1, u1⟩, ⟨y2, u2⟩⟩ := q6; clear hgrow5 hown5 hat5)))
                                      exact ⟨⟨k + 1, _, by omega, by go_num, HAD.out.2.1, HBk.out.trans HAD.out.2.2⟩, by simp [intOf]; omega⟩
                                    · obtain rfl : k = m := by omega
                                      go_wp2_with fail
                                      exact ⟨⟨i + 1, vS, vC, vQ, vs, _, by have := HIi.out; omega, by go_num, rfl, I2.out.next HIi.out ST.out HR.out HBk.out⟩, by have := HIi.out; simp [intOf]; omega⟩
                            · have OUT : Hid (parseG t = .inr (i + 1)) := HI.out.bad HIi.out (by rw [HSE.out, step_pick]; simp only [pickO, hna, hnb, addP]; rw [if_neg (by have := HLP.out; omega)])
                              have u0 : 1000000 < (lp : Int) + (m : Int) := by omega
                              clear hna hnb hf
                              as_aux_lemma => -- leaf 21
                                go_wp2_with (first | (go_at_call 31; refine (rf_wordsN 3 rfl HLl.out HWS.out HI.out).mono ?_; rintro e w2 ⟨g0, cap, rfl, hp2, hcl⟩; have I2 : Hid (PrI w w2 t i _ _ _ _ g _) := hp2; have d0 : w2.cell? ⟨g0, 0, none⟩ = some (.string ⟨([112, 105, 99, 107] : List UInt8).toArray⟩) := hcl 0 (by simp); have d1 : w2.cell? ⟨g0, 1, none⟩ = some (.string ⟨a.toArray⟩) := hcl 1 (by simp); have d2 : w2.cell? ⟨g0, 2, none⟩ = some (.string ⟨b.toArray⟩) := hcl 2 (by simp); have q3 := tri3 hp2.res; obtain ⟨⟨r0, s0⟩, ⟨r1, s1⟩, ⟨r2, s2⟩⟩ := q3; have q7 := tri3 hp2.rf.box; obtain ⟨⟨b0, f0⟩, ⟨b1, f1⟩, ⟨b2, f2⟩⟩ := q7; have hz2 : w.heap.size + 1 < w2.heap.size := (by have := hp2.sz; omega); clear hp2 hcl) | (go_at_call_of 32 a; refine Calls.mono (RA.out _) ?_; rintro e w3 ⟨rfl, rfl⟩) | (go_at_call_of 32 b; refine Calls.mono (RB.out _) ?_; rintro e w3 ⟨rfl, rfl⟩))
                                refine bodyPost_ret (v := .tuple #[.agg #[.slice none 0 0, .slice none 0 0, .slice none 0 0], .int .i64 ((i + 1 : Nat) : Int)]) ?_ rfl ⟨Or.inr ⟨i + 1, OUT.out, rfl⟩, ((I2.out.bel.setCell (p := ⟨w.heap.size, 0, none⟩) (Nat.le_refl _) _).setCell (p := ⟨w.heap.size, 1, none⟩) (Nat.le_refl _) _).setCell (p := ⟨w.heap.size, 2, none⟩) (Nat.le_refl _) _⟩
                                rw [results_cell_tmp rfl]
                                go_simp
                  · have z2 : ((r.length : Int) + 1 == 2) = false := beq_eq_false_iff_ne.2 (by omega)
                    have z3 : ((r.length : Int) + 1 == 3) = false := beq_eq_false_iff_ne.2 (by omega)
                    have OUT : Hid (parseG t = .inr (i + 1)) := HI.out.bad HIi.out (by rw [HSE.out, step_pick, pickO_len hr1 hr2])
                    clear hr1 hr2
                    as_aux_lemma => -- leaf 22
                      go_wp2_with (first | (go_at_call 31; refine (rf_words HLl.out HWS.out HI.out).mono ?_; rintro e w2 ⟨g0, cap, rfl, hp2, hcl, hop⟩; have I2 : Hid (PrI w w2 t i _ _ _ _ g _) := hp2; have OA : Hid (Calls _ _ _ _ _) := hop; have d0 : w2.cell? ⟨g0, 0, none⟩ = some (.string ⟨([112, 105, 99, 107] : List UInt8).toArray⟩) := hcl 0 (by omega); clear hp2 hcl hop) | (go_at_call 33; refine Calls.mono (op_false OA.out HNO.out) ?_; rintro e w4 ⟨rfl, hb4⟩; have I4 : Hid (PrI w w4 t i _ _ _ _ g _) := I2.out.on hb4; have q3 := tri3 I4.out.res; obtain ⟨⟨r0, s0⟩, ⟨r1, s1⟩, ⟨r2, s2⟩⟩ := q3; have hz4 : w.heap.size < w4.heap.size := (by have := I4.out.sz; omega); clear hb4))
                      refine bodyPost_ret (v := .tuple #[.agg #[.slice none 0 0, .slice none 0 0, .slice none 0 0], .int .i64 ((i + 1 : Nat) : Int)]) ?_ rfl ⟨Or.inr ⟨i + 1, OUT.out, rfl⟩, allocS (((I4.out.bel.setCell (p := ⟨w.heap.size, 0, none⟩) (Nat.le_refl _) _).setCell (p := ⟨w.heap.size, 1, none⟩) (Nat.le_refl _) _).setCell (p := ⟨w.heap.size, 2, none⟩) (Nat.le_refl _) _) _⟩
                      rw [results_cell_tmp rfl]
                      go_simp
              · have s3 : (x == [112, 105, 99, 107]) = false := beq_eq_false_iff_ne.2 h3
                have HS : Hid (stepG g (x :: r) = if g.part = 1 then (opO (x :: r)).map (addO g) else none) := by show _ = _; rw [stepG, if_neg h35, if_neg h1, if_neg h2, if_neg h3]
                clear h1 h2 h3 h35
                by_cases hO : ∃ k V, OpIs (x :: r) k V
                · obtain ⟨k, V, hO⟩ := hO
                  have HAO : Hid ((opO (x :: r)).map (addO g) = some (addO g (fillOp k V))) := by show _ = _; rw [opO_some hO]; rfl
                  have RO : Hid (∀ e, OpOut (x :: r) e → e = .returned (.tuple #[opV (fillOp k V), .bool true])) := by
                    rintro e (⟨m, U, q, rfl⟩ | ⟨q, -⟩)
                    · obtain ⟨rfl, rfl⟩ := q.one hO
                      rfl
                    · exact absurd hO (q k V)
                  clear hO
                  generalize fillOp k V = o at *
                  obtain ⟨oa, ob, oc, od⟩ := o
                  simp only [opV] at RO
                  by_cases hp : g.part = 1
                  · have q0 : ((g.part : Int) == 1) = true := by rw [hp]; rfl
                    have ST : Hid (stepG g (wordsL ((linesL t).getD i [])) = some (addO g ⟨oa, ob, oc, od⟩)) := by show _ = _; rw [HSE.out, HS.out, if_pos hp]; exact HAO.out
                    obtain ⟨m, hm⟩ : ∃ m, m + 1 = g.scripts.length := ⟨g.scripts.length - 1, by have := List.length_pos_iff.2 (HI.out.ok.thr hp); omega⟩
                    have hmr : m < g.scripts.length := by omega
                    obtain ⟨c, capC, rfl, -, -, -, -⟩ := top_cell HI.out.rf.game (by omega)
                    obtain ⟨va, vc, hvm, -⟩ := ownForm (HI.out.rf.game.row m hmr)
                    have HVM : Hid (vs m = .slice va (g.scripts.getD m []).length vc) := hvm
                    have hLm : (g.scripts.getD m []).length ≤ 2000000 := by have := HI.out.gs.ro m; omega
                    have gsc : g.scripts.length ≤ 2000000 := by have := HI.out.gs.sc; omega
                    obtain ⟨L, hLe⟩ : ∃ L, L = (g.scripts.getD m []).length := ⟨_, rfl⟩
                    have HL : Hid (L = (g.scripts.getD m []).length) := hLe
                    rw [← hLe] at HVM hLm
                    have HM : Hid (m + 1 = g.scripts.length) := hm
                    have l1 : ((g.scripts.length : Nat) : Int) - 1 = (m : Int) := by omega
                    have l2 : (m : Int) < ((g.scripts.length : Nat) : Int) := by omega
                    have l3 : (0 : Int) ≤ (m : Int) := Int.natCast_nonneg _
                    have l4 : ((g.scripts.length : Nat) : Int) ≤ 2000000 := by omega
                    obtain ⟨i9, hi9, hz9, hz8, hz7⟩ := info_parts op_info
                    clear hvm hm hLe hp hmr
                    as_aux_lemma => -- leaf 23
                      go_wp2_with (first | (go_at_call 31; refine (rf_words HLl.out HWS.out HI.out).mono ?_; rintro e w2 ⟨g0, cap, rfl, hp2, hcl, hop⟩; have I2 : Hid (PrI w w2 t i _ _ _ _ g _) := hp2; have OA : Hid (Calls _ _ _ _ _) := hop; have d0 : w2.cell? ⟨g0, 0, none⟩ = some (.string ⟨x.toArray⟩) := hcl 0 (by omega); clear hp2 hcl hop) | (go_at_call 33; refine Calls.mono OA.out ?_; rintro e w4 ⟨ho4, hb4⟩; have h5 := RO.out e ho4; subst h5; have I4 : Hid (PrI w w4 t i _ _ _ _ g _) := I2.out.on hb4; have I5 : Hid (PrI w (w4.alloc (.cells #[.int .i64 oa, .int .i64 ob, .int .i64 oc, .int .i64 od] 39)) t i _ _ _ _ g _) := I4.out.on (below_alloc w4 _); have q3 := tri3 I4.out.rf.box; obtain ⟨⟨b0, f0⟩, ⟨b1, f1⟩, ⟨b2, f2⟩⟩ := q3; have hz4 : w.heap.size + 1 < w4.heap.size := (by have := I4.out.sz; omega); have hz5 : w.heap.size < w4.heap.size := (by omega); have hz6 : ¬ w.heap.size = w4.heap.size := (by omega); have hz3 : ¬ w.heap.size + 1 = w4.heap.size := (by omega); have q8 := top_at I4.out.rf.game m (by have := HM.out; omega); have t1 : w4.cell? ⟨c, m, none⟩ = some (.slice va L vc) := (q8.1.trans (congrArg some HVM.out)); have hc1 := q8.2; clear hb4 ho4 q8))
                      refine wp_normal (reg12 I4.out.rf I4.out.sz HM.out HL.out HVM.out hLm gsc ?_)
                      intro u61 u62 u63 u64 u65 u66 u67 u68 u69 u70 u71 u72 wx vs2 hcR hcB
                      have HCR : Hid (RfB (w.heap.size + 2) (w.heap.size + 1) wx vS (.slice (some ⟨c, 0, none⟩) g.scripts.length capC) vP vs2 (addO g ⟨oa, ob, oc, od⟩) (.slice (some ⟨gl, 0, none⟩) (linesL t).length cap0) (linesL t)) := hcR
                      have HCB : Hid (Below (w.heap.size + 1) (w4.alloc (.cells #[.int .i64 oa, .int .i64 ob, .int .i64 oc, .int .i64 od] 39)) wx) := hcB
                      clear hcR hcB
                      go_wp2_with fail
                      exact ⟨⟨i + 1, vS, _, vP, _, addO g ⟨oa, ob, oc, od⟩, by omega, by go_num, rfl, I5.out.next HIi.out ST.out HCR.out HCB.out⟩, by simp [intOf]; omega⟩
                  · have q0 : ((g.part : Int) == 1) = false := beq_eq_false_iff_ne.2 (by omega)
                    have OUT : Hid (parseG t = .inr (i + 1)) := HI.out.bad HIi.out (by rw [HSE.out, HS.out, if_neg hp])
                    clear hp
                    as_aux_lemma => -- leaf 24
                      go_wp2_with (first | (go_at_call 31; refine (rf_words HLl.out HWS.out HI.out).mono ?_; rintro e w2 ⟨g0, cap, rfl, hp2, hcl, hop⟩; have I2 : Hid (PrI w w2 t i _ _ _ _ g _) := hp2; have OA : Hid (Calls _ _ _ _ _) := hop; have d0 : w2.cell? ⟨g0, 0, none⟩ = some (.string ⟨x.toArray⟩) := hcl 0 (by omega); clear hp2 hcl hop) | (go_at_call 33; refine Calls.mono OA.out ?_; rintro e w4 ⟨ho4, hb4⟩; have h5 := RO.out e ho4; subst h5; have I4 : Hid (PrI w w4 t i _ _ _ _ g _) := I2.out.on hb4; have q3 := tri3 I4.out.res; obtain ⟨⟨r0, s0⟩, ⟨r1, s1⟩, ⟨r2, s2⟩⟩ := q3; have hz4 : w.heap.size < w4.heap.size := (by have := I4.out.sz; omega); clear hb4 ho4))
                      refine bodyPost_ret (v := .tuple #[.agg #[.slice none 0 0, .slice none 0 0, .slice none 0 0], .int .i64 ((i + 1 : Nat) : Int)]) ?_ rfl ⟨Or.inr ⟨i + 1, OUT.out, rfl⟩, allocS (((I4.out.bel.setCell (p := ⟨w.heap.size, 0, none⟩) (Nat.le_refl _) _).setCell (p := ⟨w.heap.size, 1, none⟩) (Nat.le_refl _) _).setCell (p := ⟨w.heap.size, 2, none⟩) (Nat.le_refl _) _) _⟩
                      rw [results_cell_tmp rfl]
                      go_simp
                · have HNO : Hid (∀ k V, ¬ OpIs (x :: r) k V) := fun k V q => hO ⟨k, V, q⟩
                  have OUT : Hid (parseG t = .inr (i + 1)) := HI.out.bad HIi.out (by rw [HSE.out, HS.out, opO_none HNO.out]; split <;> rfl)
                  clear hO
                  as_aux_lemma => -- leaf 25
                    go_wp2_with (first | (go_at_call 31; refine (rf_words HLl.out HWS.out HI.out).mono ?_; rintro e w2 ⟨g0, cap, rfl, hp2, hcl, hop⟩; have I2 : Hid (PrI w w2 t i _ _ _ _ g _) := hp2; have OA : Hid (Calls _ _ _ _ _) := hop; have d0 : w2.cell? ⟨g0, 0, none⟩ = some (.string ⟨x.toArray⟩) := hcl 0 (by omega); clear hp2 hcl hop) | (go_at_call 33; refine Calls.mono (op_false OA.out HNO.out) ?_; rintro e w4 ⟨rfl, hb4⟩; have I4 : Hid (PrI w w4 t i _ _ _ _ g _) := I2.out.on hb4; have q3 := tri3 I4.out.res; obtain ⟨⟨r0, s0⟩, ⟨r1, s1⟩, ⟨r2, s2⟩⟩ := q3; have hz4 : w.heap.size < w4.heap.size := (by have := I4.out.sz; omega); clear hb4))
                    refine bodyPost_ret (v := .tuple #[.agg #[.slice none 0 0, .slice none 0 0, .slice none 0 0], .int .i64 ((i + 1 : Nat) : Int)]) ?_ rfl ⟨Or.inr ⟨i + 1, OUT.out, rfl⟩, allocS (((I4.out.bel.setCell (p := ⟨w.heap.size, 0, none⟩) (Nat.le_refl _) _).setCell (p := ⟨w.heap.size, 1, none⟩) (Nat.le_refl _) _).setCell (p := ⟨w.heap.size, 2, none⟩) (Nat.le_refl _) _) _⟩
                    rw [results_cell_tmp rfl]
                    go_simp
    · obtain rfl : i = (linesL t).length := by omega
      obtain ⟨aS, nS, hvS, -⟩ := ownForm HI.out.rf.game.st
      obtain ⟨aC, nC, hvC, -⟩ := ownForm HI.out.rf.game.top
      obtain ⟨aP, nP, hvP, -⟩ := ownForm HI.out.rf.game.pk
      subst hvS hvC hvP
      generalize hnS : g.start.length = lS at *
      generalize hnC : g.scripts.length = lC at *
      generalize hnP : g.picks.length = lP at *
      obtain ⟨⟨c0, f0⟩, ⟨c1, f1⟩, ⟨c2, f2⟩⟩ := tri3 HI.out.rf.box
      obtain ⟨⟨r0, s0⟩, ⟨r1, s1⟩, ⟨r2, s2⟩⟩ := tri3 HI.out.res
      have OUT : Hid (parseG t = .inl g) := by have := HI.out.par; rw [List.drop_length] at this; exact this
      clear hnS hnC hnP hi
      go_wp2_with fail
      refine bodyPost_ret (v := .tuple #[.agg #[.slice aS lS nS, .slice aC lC nC, .slice aP lP nP], .int .i64 0]) ?_ rfl ⟨Or.inl ⟨g, _, _, _, vs, OUT.out, rfl, ((HI.out.rf.game.low (b := w.heap.size) (by omega) 0 _).low (b := w.heap.size) (by omega) 1 _).low (b := w.heap.size) (by omega) 2 _⟩, ((HI.out.bel.setCell (p := ⟨w.heap.size, 0, none⟩) (Nat.le_refl _) _).setCell (p := ⟨w.heap.size, 1, none⟩) (Nat.le_refl _) _).setCell (p := ⟨w.heap.size, 2, none⟩) (Nat.le_refl _) _⟩
      rw [results_cell_tmp rfl]
      go_simp
end Go.Proofs.YtknlapipkglnjaaGreatDoor

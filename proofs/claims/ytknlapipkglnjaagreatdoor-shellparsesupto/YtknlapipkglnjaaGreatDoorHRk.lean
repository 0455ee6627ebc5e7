
/- Layer 28: the reader's readPick. -/

import Derived.Test.YtknlapipkglnjaaGreatDoorHRt

import Derived.Test.YtknlapipkglnjaaGreatDoorHRr

namespace Go.Proofs.YtknlapipkglnjaaGreatDoor

open Go.RowKit

attribute [local go_sem ↓] Go.wp_at_zero Go.wp_at_succ

theorem step_callTo {P : Program} {ops : Array Oper} {o : Oper} {a : Act} {w : World} {K : Act → World → Prop} {Q : Exit → Act → World → Prop} {E : Prop} (hg : o.guard = none) (f : FuncId) (args : Array Value) (hrun : (execOp a.eval o).run P w = .ok (.enter f args) w) (Post : Value → World → Prop)
    (hc : Calls P f args w fun e w' => ∃ v, e = .returned v ∧ Post v w') (h : ∀ v w', Post v w' → K (a.put o.dst v) w') : if Region.wanted o (yielded ops a.tmps) = true then Oper.wp P o a w K Q else E := by
  have hw : Region.wanted o (yielded ops a.tmps) = true := by simp [Region.wanted, hg]
  rw [if_pos hw]
  unfold Oper.wp
  rw [hrun, Oper.upon_enter]
  refine hc.mono fun e w' hh => ?_
  obtain ⟨v, rfl, hp⟩ := hh
  exact h v w' hp
theorem step_append_any {P : Program} {w : World} {ops : Array Oper} {o : Oper} {a : Act} {K : Act → World → Prop} {Q : Exit → Act → World → Prop} {E : Prop} (hgd : o.guard = none) (s x : Operand) (t : TypeId)
    (ho : o.op = .call { callee := .builtin .append, args := #[s, x], argTypes := #[t, t] })
    (base : Nat) (e : TypeId) (i : TypeInfo) (z : Value) (size bytes : Nat) (ht : P.underlying t = some (.slice e)) (hi : P.info? e = some i) (hz : i.zero = some z)
    (hsize : i.size = size) (hby : i.bytes = bytes) (hzs : z.cells.size = size) (hsz : 0 < size)
    (v : Value) (n : Nat) (xs : List Value) (hs : a.eval s = v) (hown : w.ownsRow base e size v n xs)
    (ad : Addr) (m c : Nat) (news : List Value) (hx : a.eval x = .slice (some ad) m c) (hl : news.length = m * size) (hnews : ∀ j u, news[j]? = some u → w.cell? (ad.add j) = some u) (h1 : ∀ u ∈ news, u.oneCell' = true)
    (h63 : n + m ≤ maxLen) (hbytes : (n + m) * bytes ≤ 140737488355328) (hbase : base ≤ w.heap.size)
    (h : ∀ va vc w', w'.ownsRow base e size (.slice va (n + m) vc) (n + m) (xs ++ news) → w.grownBy w' v.ownBlock → K (a.put o.dst (.slice va (n + m) vc)) w') :
    if Region.wanted o (yielded ops a.tmps) = true then Oper.wp P o a w K Q else E := by
  have hw : Region.wanted o (yielded ops a.tmps) = true := by simp [Region.wanted, hgd]
  rw [if_pos hw]
  obtain ⟨v', w', hr, h2, h3, h4, _⟩ := run_append_own_at (P := P) w base t o.type e i z size bytes ht hi hz hsize hby hzs hsz v n xs hown ad m c news hl hnews h1 h63 hbytes hbase
  obtain ⟨va, vc, rfl, -⟩ := ownForm h2
  unfold Oper.wp
  simp [execOp, ho, resolve, invoke, builtin, hs, hx, hr, Result.andThen]
  exact h va vc w' h2 h3
def addQ (g : GD) (p n : Int) : Option GD := if 0 ≤ n ∧ (g.picks.length : Int) + n ≤ 1000000 then some { g with picks := g.picks ++ List.replicate n.toNat p } else none
def pickQ (g : GD) : List (List UInt8) → Option GD
  | [a] => match numOf a with
    | some p => addQ g p 1
    | none => none
  | [a, b] => match numOf a, numOf b with
    | some p, some n => addQ g p n
    | _, _ => none
  | _ => none
theorem pickQ_eq (g : GD) (ws : List (List UInt8)) : pickQ { g with part := 2 } ws = pickO g ws := by
  match ws with
  | [] => rfl
  | [a] => rfl
  | [a, b] => rfl
  | _ :: _ :: _ :: _ => rfl
theorem RdB.addP {B b : Nat} {w y w3 : World} {vS vC vP v' : Value} {vs : Nat → Value} {g : GD} (h : RdB B b w vS vC vP vs g) (hy : Below w.heap.size w y) (hg : y.grownBy w3 vP.ownBlock) (l : List Int) (ho : w3.ownsRow B 3 1 v' (g.picks.length + l.length) (inC g.picks ++ inC l)) :
    RdB B b (w3.setCell ⟨b, 2, none⟩ v') vS vC v' vs { g with picks := g.picks ++ l } ∧ Below b w (w3.setCell ⟨b, 2, none⟩ v') := by
  have hb : b < w.heap.size := (Array.getElem?_eq_some_iff.1 h.box).1
  have lt := h.lt
  have hr : ∀ k, k < B → vP.ownBlock ≠ some k := fun k hk q => by have := (owns_lt h.game.pk k q).1; omega
  refine ⟨⟨?_, h.lt, ((h.game.quiet hy).pushP hg l g.part ho).low h.lt 2 _⟩, (belowG (b := b) hy hg (by omega) (fun k hk => hr k (by omega))).setCell (p := ⟨b, 2, none⟩) (Nat.le_refl _) _⟩
  rw [Go.Joins.block_setCell ((farG hy hg hb (hr b h.lt)).trans h.box)]
  rfl
theorem ptr_under : Tryz.prog.underlying 104 = some (.slice 107) := by kernel_rfl
theorem ptr_info : (Tryz.prog.info? 107).map (fun i => (i.zero, i.size, i.bytes)) = some (some (.pointer none), 1, 8) := by kernel_rfl
theorem one1 {z : World} {b : Nat} {x0 : Value} {t : TypeId} (h : z.heap[b]? = some (.cells #[x0] t)) : z.cell? ⟨b, 0, none⟩ = some x0 ∧ z.frozen? ⟨b, 0, none⟩ = false := by
  simp [World.cell?, World.frozen?, h]
theorem new_cell (w : World) (p : Int) : ((w.alloc (.cells #[.int .i64 p] 3)).drew).cell? ⟨w.heap.size, 0, none⟩ = some (.int .i64 p) := (one1 (t := 3) (z := (w.alloc (.cells #[.int .i64 p] 3)).drew) (b := w.heap.size) (x0 := .int .i64 p) (heap_alloc_at _ _ _ rfl)).1
/-- The pointers to the two numbers, in whatever block. -/
structure PkW (w W : World) (gg : Nat) : Prop where
  below : Below w.heap.size w W
  b0 : W.heap[w.heap.size]? = some (.cells #[.int .i64 0] 3)
  b1 : W.heap[w.heap.size + 1]? = some (.cells #[.int .i64 1] 3)
  p0 : W.cell? ⟨gg, 0, none⟩ = some (.pointer (some ⟨w.heap.size, 0, none⟩))
  p1 : W.cell? ⟨gg, 1, none⟩ = some (.pointer (some ⟨w.heap.size + 1, 0, none⟩))
  hi : w.heap.size + 2 ≤ gg
theorem own_ptr (w : World) : (((w.alloc (.cells #[.int .i64 0] 3)).alloc (.cells #[.int .i64 1] 3)).alloc (.cells #[.pointer (some ⟨w.heap.size, 0, none⟩)] 107)).ownsRow w.heap.size 107 1 (.slice (some ⟨w.heap.size + 2, 0, none⟩) 1 1) 1 [.pointer (some ⟨w.heap.size, 0, none⟩)] :=
  ⟨rfl, Or.inr ⟨w.heap.size + 2, 1, _, rfl, by omega, heap_alloc_at _ _ _ (by simp), Nat.le_refl _, by unfold maxLen; omega, rfl, rfl⟩⟩
theorem pkw_of {w w3 : World} {gg pc : Nat} (ho : w3.ownsRow w.heap.size 107 1 (.slice (some ⟨gg, 0, none⟩) (1 + 1) pc) (1 + 1) ([.pointer (some ⟨w.heap.size, 0, none⟩)] ++ [.pointer (some ⟨w.heap.size + 1, 0, none⟩)]))
    (hg : ((((w.alloc (.cells #[.int .i64 0] 3)).alloc (.cells #[.int .i64 1] 3)).alloc (.cells #[.pointer (some ⟨w.heap.size, 0, none⟩)] 107)).alloc (.cells #[.pointer (some ⟨w.heap.size + 1, 0, none⟩)] 107)).grownBy w3 (Value.slice (some ⟨w.heap.size + 2, 0, none⟩) 1 1).ownBlock)
    (hat : (Value.slice (some ⟨w.heap.size + 2, 0, none⟩) 1 1).ownBlock = some gg ∨ gg = w.heap.size + 4) : PkW w w3 gg ∧ 2 ≤ pc := by
  have hW : Below w.heap.size w ((((w.alloc (.cells #[.int .i64 0] 3)).alloc (.cells #[.int .i64 1] 3)).alloc (.cells #[.pointer (some ⟨w.heap.size, 0, none⟩)] 107)).alloc (.cells #[.pointer (some ⟨w.heap.size + 1, 0, none⟩)] 107)) := allocS (allocS (allocS (below_alloc w _) _) _) _
  have k0 : w3.heap[w.heap.size]? = some (.cells #[.int .i64 0] 3) := by
    rw [hg.block _ (by simp; omega) (by simp [Value.ownBlock]), heap_alloc_old _ _ (by simp; omega), heap_alloc_old _ _ (by simp; omega), heap_alloc_old _ _ (by simp)]
    exact heap_alloc_at _ _ _ rfl
  have k1 : w3.heap[w.heap.size + 1]? = some (.cells #[.int .i64 1] 3) := by
    rw [hg.block _ (by simp) (by simp [Value.ownBlock]), heap_alloc_old _ _ (by simp), heap_alloc_old _ _ (by simp)]
    exact heap_alloc_at _ _ _ (by simp)
  obtain ⟨g', cap', he, -, -, hc, -, hcl, -⟩ := owns_some ho (by omega)
  injection he with he _ hcp
  injection he with he
  injection he with he _ _
  subst he hcp
  refine ⟨⟨belowG hW hg (Nat.le_refl _) (fun k hk q => ?_), k0, k1, hcl 0 (by omega), hcl 1 (by omega), ?_⟩, hc⟩
  · simp [Value.ownBlock] at q; omega
  · rcases hat with q | q
    · simp [Value.ownBlock] at q; omega
    · omega
theorem rep_row {w w4 : World} {m : Nat} {p : Int} {o : Obj} (h : w4.ownsRow ((w.alloc o).drew).heap.size 3 1 (.slice (some ⟨((w.alloc o).drew).heap.size, 0, none⟩) m m) m (inC (List.replicate m p))) : w4.ownsRow (w.heap.size + 1) 3 1 (.slice (some ⟨w.heap.size + 1, 0, none⟩) m m) m (inC (List.replicate m p)) := by
  have e : ((w.alloc o).drew).heap.size = w.heap.size + 1 := by show (w.alloc o).heap.size = _; simp
  rw [e] at h
  exact h
theorem rep_below {w w4 : World} {o : Obj} (h : Below ((w.alloc o).drew).heap.size ((w.alloc o).drew) w4) : Below w.heap.size w w4 := ((below_alloc w o).drew).trans (h.mono (by show _ ≤ (w.alloc o).heap.size; simp))
theorem pk_row {B b q pc : Nat} {pa : Option Addr} {z : World} {vS vC : Value} {vs : Nat → Value} {g : GD} (h : RdB B b z vS vC (.slice pa q pc) vs g) (hq : q = g.picks.length) : z.ownsRow B 3 1 (.slice pa q pc) q (inC g.picks) := by
  have := h.game.pk
  rw [← hq] at this
  exact this
theorem row_news {z : World} {B G m : Nat} {l : List Value} (h : z.ownsRow B 3 1 (.slice (some ⟨G, 0, none⟩) m m) m l) : ∀ j u, l[j]? = some u → z.cell? ((⟨G, 0, none⟩ : Addr).add j) = some u := h.cells (g := G) rfl
theorem pk_added {B b q pc vc : Nat} {pa va : Option Addr} {z w5 : World} {vS vC : Value} {vs : Nat → Value} {g : GD} {m : Nat} {p : Int} (h : RdB B b z vS vC (.slice pa q pc) vs g) (hq : q = g.picks.length) (hg : z.grownBy w5 (Value.slice pa q pc).ownBlock) (ho : w5.ownsRow B 3 1 (.slice va (q + m) vc) (q + m) (inC g.picks ++ inC (List.replicate m p))) :
    w5.heap[b]? = some (.cells #[vS, vC, .slice pa q pc, .int .i64 (g.part : Int)] 69) ∧ RdB B b (w5.setCell ⟨b, 2, none⟩ (.slice va (q + m) vc)) vS vC (.slice va (q + m) vc) vs { g with picks := g.picks ++ List.replicate m p } ∧ Below b z (w5.setCell ⟨b, 2, none⟩ (.slice va (q + m) vc)) := by
  subst hq
  have lt := h.lt
  have hb : b < z.heap.size := (Array.getElem?_eq_some_iff.1 h.box).1
  refine ⟨(farG (Below.refl _ _) hg hb (fun k => by have := (owns_lt h.game.pk b k).1; omega)).trans h.box, h.addP (Below.refl _ _) hg (List.replicate m p) (by simpa using ho)⟩
theorem PkW.drew {w W : World} {gg : Nat} (h : PkW w W gg) : PkW w W.drew gg := ⟨h.below.drew, h.b0, h.b1, h.p0, h.p1, h.hi⟩
/-- The pointer to the first number alone. -/
structure Pk1 (w W : World) (gg : Nat) : Prop where
  below : Below w.heap.size w W
  b0 : W.heap[w.heap.size]? = some (.cells #[.int .i64 0] 3)
  b1 : W.heap[w.heap.size + 1]? = some (.cells #[.int .i64 1] 3)
  p0 : W.cell? ⟨gg, 0, none⟩ = some (.pointer (some ⟨w.heap.size, 0, none⟩))
  hi : w.heap.size + 2 ≤ gg
theorem pk1_of (w : World) : Pk1 w (((w.alloc (.cells #[.int .i64 0] 3)).alloc (.cells #[.int .i64 1] 3)).alloc (.cells #[.pointer (some ⟨w.heap.size, 0, none⟩)] 107)).drew (w.heap.size + 1 + 1) := by
  have k2 : (((w.alloc (.cells #[.int .i64 0] 3)).alloc (.cells #[.int .i64 1] 3)).alloc (.cells #[.pointer (some ⟨w.heap.size, 0, none⟩)] 107)).heap[w.heap.size + 1 + 1]? = some (.cells #[.pointer (some ⟨w.heap.size, 0, none⟩)] 107) := heap_alloc_at _ _ _ (by simp)
  have k1 : (((w.alloc (.cells #[.int .i64 0] 3)).alloc (.cells #[.int .i64 1] 3)).alloc (.cells #[.pointer (some ⟨w.heap.size, 0, none⟩)] 107)).heap[w.heap.size + 1]? = some (.cells #[.int .i64 1] 3) := (heap_alloc_old _ _ (by simp)).trans (heap_alloc_at _ _ _ (by simp))
  have k0 : (((w.alloc (.cells #[.int .i64 0] 3)).alloc (.cells #[.int .i64 1] 3)).alloc (.cells #[.pointer (some ⟨w.heap.size, 0, none⟩)] 107)).heap[w.heap.size]? = some (.cells #[.int .i64 0] 3) := (heap_alloc_old _ _ (by simp; omega)).trans ((heap_alloc_old _ _ (by simp)).trans (heap_alloc_at _ _ _ rfl))
  exact ⟨(allocS (allocS (below_alloc w _) _) _).drew, k0, k1, (one1 k2).1, by omega⟩
theorem repeat_at (p : Int) (m : Nat) (hm : m ≤ 1000000) (w : World) : Calls Tryz.prog 70 #[.slice (some ⟨w.heap.size, 0, none⟩) 1 1, .int .i64 (m : Int)] ((w.alloc (.cells #[.int .i64 p] 3)).drew) fun e w4 => ∃ v, e = .returned v ∧ v = .slice (some ⟨w.heap.size + 1, 0, none⟩) m m ∧ w4.ownsRow (w.heap.size + 1) 3 1 (.slice (some ⟨w.heap.size + 1, 0, none⟩) m m) m (inC (List.replicate m p)) ∧ Below w.heap.size w w4 :=
  (repeat_any p m w.heap.size hm _ (new_cell w p)).mono (by
    rintro e w4 ⟨rfl, ho, hb⟩
    have e1 : ((w.alloc (.cells #[.int .i64 p] 3)).drew).heap.size = w.heap.size + 1 := by show (w.alloc _).heap.size = _; simp
    exact ⟨_, rfl, by rw [e1], rep_row ho, rep_below hb⟩)
set_option maxRecDepth 100000 in
set_option maxHeartbeats 16000000 in
theorem pk1_bad (B b L cap : Nat) (base : Option Addr) (vS vC vP : Value) (vs : Nat → Value) (g : GD) (w : World) (h : RdB B b w vS vC vP vs g) (hL : L ≤ 1) (ra : ∀ (W : World) (gg pc : Nat), Pk1 w W gg → 1 ≤ pc → Calls Tryz.prog 69 #[.slice base L cap, .slice (some ⟨gg, 0, none⟩) 1 pc] W fun e w' => e = .returned (.bool false) ∧ Below w.heap.size w w')
    : Calls Tryz.prog 57 #[.pointer (some ⟨b, 0, none⟩), .slice base L cap] w fun e w' => e = .returned (.bool false) ∧ Below w.heap.size w w' := by
  have RA : Hid (∀ (W : World) (gg pc : Nat), Pk1 w W gg → 1 ≤ pc → Calls Tryz.prog 69 #[.slice base L cap, .slice (some ⟨gg, 0, none⟩) 1 pc] W fun e w' => e = .returned (.bool false) ∧ Below w.heap.size w w') := ra
  clear ra
  have HR : Hid (RdB B b w vS vC vP vs g) := h
  have hlt := h.lt
  have hzb : b < w.heap.size := (Array.getElem?_eq_some_iff.1 h.box).1
  clear h
  have n0 : (L : Int) ≤ 1 := by omega
  have n1 : (0 : Int) ≤ (L : Int) := Int.natCast_nonneg _
  have n2 : ¬ (1 : Int) < (L : Int) := by omega
  go_enter Tryz.func57, Tryz.ntmps57
  go_wp2_with fail
  first | (go_region_with (first | (go_at_call 69; refine Calls.mono (RA.out _ (w.heap.size + 1 + 1) 1 (pk1_of w) (Nat.le_refl _)) ?_; rintro e w2 ⟨rfl, hb2⟩; have B2 : Hid (Below w.heap.size w w2) := hb2; clear hb2) | fail)) | fail
  all_goals
    go_wp2_with fail
    go_ret
    exact ⟨rfl, B2.out⟩
set_option maxRecDepth 100000 in
set_option maxHeartbeats 16000000 in
theorem pk2_bad (B b L cap : Nat) (base : Option Addr) (vS vC vP : Value) (vs : Nat → Value) (g : GD) (w : World) (h : RdB B b w vS vC vP vs g) (hL : 2 ≤ L ∧ L ≤ 4294967295) (ra : ∀ (W : World) (gg pc : Nat), PkW w W gg → 2 ≤ pc → Calls Tryz.prog 69 #[.slice base L cap, .slice (some ⟨gg, 0, none⟩) 2 pc] W fun e w' => e = .returned (.bool false) ∧ Below w.heap.size w w')
    : Calls Tryz.prog 57 #[.pointer (some ⟨b, 0, none⟩), .slice base L cap] w fun e w' => e = .returned (.bool false) ∧ Below w.heap.size w w' := by
  have RA : Hid (∀ (W : World) (gg pc : Nat), PkW w W gg → 2 ≤ pc → Calls Tryz.prog 69 #[.slice base L cap, .slice (some ⟨gg, 0, none⟩) 2 pc] W fun e w' => e = .returned (.bool false) ∧ Below w.heap.size w w') := ra
  clear ra
  have HR : Hid (RdB B b w vS vC vP vs g) := h
  have hlt := h.lt
  have hzb : b < w.heap.size := (Array.getElem?_eq_some_iff.1 h.box).1
  clear h
  have n0 : (1 : Int) < (L : Int) := by omega
  have n1 : (L : Int) ≤ 4294967295 := by omega
  go_enter Tryz.func57, Tryz.ntmps57
  obtain ⟨i9, hi9, hz9, hz8, hz7⟩ := info_parts ptr_info
  go_wp2_with (first | (at_builtin; (refine wpList_append_lies _ (by rfl) _ _ _ (by rfl) w.heap.size 107 i9 _ 1 8 ptr_under hi9 hz9 hz8 hz7 rfl (by omega) _ 1 _ (by rfl) ((own_ptr w).alloc _) ⟨w.heap.size + 3, 0, none⟩ 1 1 [.pointer (some ⟨w.heap.size + 1, 0, none⟩)] (by rfl) (by rfl) (World.news_of_block (cs := #[.pointer (some ⟨w.heap.size + 1, 0, none⟩)]) (t := 107) (fr := (0, 0)) (heap_alloc_at _ _ _ (by simp))) (by simp [Value.oneCell']) (by omega) (by unfold maxLen; omega) (by omega) (by simp; omega) (w.heap.size + 4) (by simp) ?_; intro gg pc w3 hown3 hgrow hat hlt3; have PK : Hid (PkW w w3 gg ∧ 2 ≤ pc) := pkw_of hown3 hgrow hat; clear hgrow hown3 hat)))
  first | (go_region_with (first | (go_at_call 69; refine Calls.mono (RA.out _ gg pc (by first | exact PK.out.1 | exact PK.out.1.drew) PK.out.2) ?_; rintro e w2 ⟨rfl, hb2⟩; have B2 : Hid (Below w.heap.size w w2) := hb2; clear hb2) | fail)) | fail
  all_goals
    go_wp2_with fail
    go_ret
    exact ⟨rfl, B2.out⟩
end Go.Proofs.YtknlapipkglnjaaGreatDoor

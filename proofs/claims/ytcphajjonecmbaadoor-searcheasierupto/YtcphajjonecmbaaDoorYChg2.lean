/- Layer 7: the program's change of a stack and a queue. Layer 7: a row of numbers anywhere in its block; one more number; change of a thing that isn't a map. Layer 7: doRegister and doCounter of the program. Layer 7: the program's change. -/
import Derived.Test.YtcphajjonecmbaaDoorYRun2
import Derived.Deep.RegionLaw
import Derived.Deep.CutRange
import Derived.Deep.DeepCutAuto

namespace Go.Proofs.YtcphajjonecmbaaDoor

open Go.RowKit Go.Deep

attribute [local go_sem ↓] Go.wp_at_zero Go.wp_at_succ

/-- A row of numbers in a block of our own, from cell o on. -/
structure RoO (w : World) (B g o c : Nat) (xs : List Int) : Prop where
  gB : B ≤ g
  lt : g < w.heap.size
  le : xs.length ≤ c
  max : c ≤ maxLen
  cells : ∀ j, j < xs.length → w.cell? ⟨g, o + j, none⟩ = some (.int .i64 (oAt xs j))
  there : ∀ j, j < c → (w.cell? ⟨g, o + j, none⟩).isSome = true ∧ w.frozen? ⟨g, o + j, none⟩ = false
theorem RoO.kept {w w' : World} {B g o c : Nat} {xs : List Int} (h : RoO w B g o c xs) (hs : w.heap.size ≤ w'.heap.size) (hb : w'.heap[g]? = w.heap[g]?) : RoO w' B g o c xs :=
  ⟨h.gB, Nat.lt_of_lt_of_le h.lt hs, h.le, h.max, fun j hj => (World.cell?_of_block (a := ⟨g, o + j, none⟩) hb).trans (h.cells j hj), fun j hj => ⟨by rw [World.cell?_of_block (a := ⟨g, o + j, none⟩) hb]; exact (h.there j hj).1, (World.frozen?_of_block (a := ⟨g, o + j, none⟩) hb).trans (h.there j hj).2⟩⟩
theorem RoO.below {w w' : World} {B g o c : Nat} {xs : List Int} (h : RoO w B g o c xs) (hb : Below w.heap.size w w') : RoO w' B g o c xs := h.kept hb.size (hb.block g h.lt)
theorem RoO.alloc {w : World} {B g o c : Nat} {xs : List Int} (h : RoO w B g o c xs) (b : Obj) : RoO (w.alloc b) B g o c xs := h.below (below_alloc _ _)
theorem RoO.down {w : World} {B B' g o c : Nat} {xs : List Int} (h : RoO w B g o c xs) (hB : B' ≤ B) : RoO w B' g o c xs := ⟨Nat.le_trans hB h.gB, h.lt, h.le, h.max, h.cells, h.there⟩
theorem RoO.ord {w : World} {B g o c : Nat} {xs : List Int} (h : RoO w B g o c xs) : OrdAt w (some ⟨g, o, none⟩) g o xs := ⟨fun _ => rfl, fun _ => h.lt, Nat.le_trans h.le h.max, h.cells⟩
def intC (xs : List Int) : List Value := xs.map fun x => .int .i64 x
theorem intC_get (xs : List Int) (j : Nat) (hj : j < xs.length) : (intC xs)[j]? = some (.int .i64 (oAt xs j)) := by
  simp [intC, oAt, List.getD_eq_getElem?_getD, List.getElem?_eq_getElem hj]
theorem RoO.drop {w : World} {B g o c : Nat} {x : Int} {xs : List Int} (h : RoO w B g o c (x :: xs)) : RoO w B g (o + 1) (c - 1) xs := by
  have hl := h.le
  simp at hl
  refine ⟨h.gB, h.lt, by omega, by have := h.max; omega, fun j hj => ?_, fun j hj => ?_⟩
  · have := h.cells (j + 1) (by simp; omega)
    rw [show o + 1 + j = o + (j + 1) by omega, this]
    simp [oAt]
  · have := h.there (j + 1) (by omega)
    rw [show o + 1 + j = o + (j + 1) by omega]
    exact this
theorem oAt_take {xs : List Int} {n j : Nat} (hj : j < n) : oAt (xs.take n) j = oAt xs j := by
  simp [oAt, List.getD_eq_getElem?_getD, hj]
theorem RoO.take {w : World} {B g o c : Nat} {xs : List Int} (h : RoO w B g o c xs) (n : Nat) : RoO w B g o c (xs.take n) := by
  refine ⟨h.gB, h.lt, by have := h.le; simp; omega, h.max, fun j hj => ?_, h.there⟩
  simp at hj
  rw [h.cells j (by omega), oAt_take (by omega)]
theorem oAt_snoc (xs : List Int) (u : Int) (j : Nat) (hj : j < (xs ++ [u]).length) : oAt (xs ++ [u]) j = if j < xs.length then oAt xs j else u := by
  simp at hj
  simp only [oAt, List.getD_eq_getElem?_getD]
  split
  · rename_i h; rw [List.getElem?_append_left h]
  · rename_i h
    obtain rfl : j = xs.length := by omega
    simp
/-- The cell behind the row is written. -/
theorem RoO.push {w : World} {B g o c : Nat} {xs : List Int} (h : RoO w B g o c xs) (hr : xs.length + 1 ≤ c) (u : Int) : RoO (w.setCell ⟨g, o + xs.length, none⟩ (.int .i64 u)) B g o c (xs ++ [u]) := by
  obtain ⟨v, hv⟩ := Option.isSome_iff_exists.1 (h.there xs.length (by omega)).1
  have hcell : ∀ j, j ≠ xs.length → (w.setCell ⟨g, o + xs.length, none⟩ (.int .i64 u)).cell? ⟨g, o + j, none⟩ = w.cell? ⟨g, o + j, none⟩ := fun j hj => World.cell?_setCell_other _ _ _ _ (fun q => by have := congrArg Addr.off q; simp at this; omega)
  refine ⟨h.gB, by simpa using h.lt, by simp; omega, h.max, fun j hj => ?_, fun j hj => ?_⟩
  · rw [oAt_snoc _ _ _ hj]
    simp at hj
    split
    · rename_i q; rw [hcell j (by omega)]; exact h.cells j q
    · obtain rfl : j = xs.length := by omega
      exact World.cell?_setCell_same _ _ _ hv
  · refine ⟨?_, by simpa using (h.there j hj).2⟩
    by_cases e : j = xs.length
    · subst e; rw [World.cell?_setCell_same _ _ _ hv]; rfl
    · rw [hcell j e]; exact (h.there j hj).1
theorem grown_set (w : World) (g o : Nat) (v : Value) : w.grownBy (w.setCell ⟨g, o, none⟩ v) (some g) :=
  ⟨rfl, rfl, rfl, by simp, fun k _ hk => Below.heap_setCell w _ _ k (fun e => hk (by rw [e]))⟩
/-- One cell of the row is written. -/
theorem RoO.set {w : World} {B g o c : Nat} {xs : List Int} (h : RoO w B g o c xs) {i : Nat} (hi : i < xs.length) (u : Int) : RoO (w.setCell ⟨g, o + i, none⟩ (.int .i64 u)) B g o c (xs.set i u) := by
  have hv := h.cells i hi
  have hcell : ∀ j, j ≠ i → (w.setCell ⟨g, o + i, none⟩ (.int .i64 u)).cell? ⟨g, o + j, none⟩ = w.cell? ⟨g, o + j, none⟩ := fun j hj => World.cell?_setCell_other _ _ _ _ (fun q => by have := congrArg Addr.off q; simp at this; omega)
  refine ⟨h.gB, by simpa using h.lt, by simpa using h.le, h.max, fun j hj => ?_, fun j hj => ?_⟩
  · by_cases e : j = i
    · subst e
      rw [World.cell?_setCell_same _ _ _ hv]
      simp [oAt, List.getD_eq_getElem?_getD, hi]
    · rw [hcell j e, h.cells j (by simpa using hj)]
      simp [oAt, List.getD_eq_getElem?_getD, List.getElem?_set_ne (fun q => e q.symm)]
  · refine ⟨?_, by simpa using (h.there j hj).2⟩
    by_cases e : j = i
    · subst e; rw [World.cell?_setCell_same _ _ _ hv]; rfl
    · rw [hcell j e]; exact (h.there j hj).1
/-- An owned row of numbers is one of these. -/
theorem roO_of_owns {w : World} {B : Nat} {e : TypeId} {v : Value} {n : Nat} {xs : List Int} (h : w.ownsRow B e 1 v n (intC xs)) (hn : xs.length = n) (h0 : v ≠ .slice none 0 0) : ∃ g c, v = .slice (some ⟨g, 0, none⟩) n c ∧ RoO w B g 0 c xs := by
  subst hn
  obtain ⟨hl, h⟩ := h
  rcases h with ⟨rfl, hz⟩ | ⟨g, cap, cur, rfl, hg, hh, h1, h2, h3, h4⟩
  · exact absurd rfl h0
  · refine ⟨g, cap, rfl, hg, (Array.getElem?_eq_some_iff.1 hh).1, h1, h2, fun j hj => ?_, fun j hj => ?_⟩
    · have : w.cell? ⟨g, 0 + j, none⟩ = (intC xs)[j]? := by
        rw [← h4, List.getElem?_take, if_pos (by omega), Nat.zero_add]
        simp [World.cell?, hh]
      rw [this]
      exact intC_get xs j hj
    · have hc : cur.size = cap := by rw [h3]; omega
      refine ⟨?_, by simp [World.frozen?, hh]⟩
      simp [World.cell?, hh, Nat.zero_add, hc, hj]
/-- One number more: what an append leaves. -/
def MoreO (w : World) (B g : Nat) (xs : List Int) (u : Int) (v' : Value) (w' : World) : Prop :=
  ∃ g' o' c', v' = .slice (some ⟨g', o', none⟩) (xs.length + 1) c' ∧ RoO w' B g' o' c' (xs ++ [u]) ∧ (g' = g ∨ w.heap.size ≤ g') ∧ w.grownBy w' (some g)
theorem run_append_off {w : World} {B g o c : Nat} {xs : List Int} (h : RoO w B g o c xs) (hB : B ≤ w.heap.size) (ty : TypeId) (ad : Addr) (k : Nat) (u : Int) (hu : w.cell? ad = some (.int .i64 u)) (hs : ad.spot = none) (hb : (xs.length + 1) * 8 ≤ 140737488355328) :
    ∃ v' w', (Builtin.append_ #[22, 22] ty #[.slice (some ⟨g, o, none⟩) xs.length c, .slice (some ad) 1 k]).run Tryd.prog w = .ok v' w' ∧ MoreO w B g xs u v' w' := by
  obtain ⟨i, hi, hz, hsz, hby⟩ := info_parts int_info
  have hnews : ∀ j v, [Value.int .i64 u][j]? = some v → w.cell? (ad.add j) = some v := by
    intro j v hj
    cases j with
    | zero =>
      simp at hj
      subst hj
      have : ad.add 0 = ad := by cases ad; simp only at hs; subst hs; simp [Addr.add]
      rw [this]; exact hu
    | succ j => simp at hj
  by_cases hr : xs.length + 1 ≤ c
  · have hrun := run_append_room_cells (P := Tryd.prog) w 22 ty 3 i ints_under hi g o xs.length c ad 1 k [.int .i64 u] (by rw [hsz]; rfl) hnews (by simp [Value.oneCell']) hr
      (fun j hj => by simp at hj; subst hj; rw [hsz, Nat.mul_one]; exact (h.there xs.length (by omega)).1) (fun j hj => by simp at hj; subst hj; rw [hsz, Nat.mul_one]; exact (h.there xs.length (by omega)).2)
    rw [hsz, Nat.mul_one] at hrun
    exact ⟨_, _, hrun, g, o, c, rfl, h.push hr u, Or.inl rfl, grown_set _ _ _ _⟩
  · obtain ⟨v', w', hrun, r1, r2⟩ := run_append_arg_grows (P := Tryd.prog) w 22 ty 3 i (.int .i64 0) 1 8 ints_under hi hz hsz hby rfl (by omega) ⟨g, o, none⟩ xs.length c (intC xs) (by simp [intC])
      (fun j v hj => by
        have hl : j < xs.length := by have := (List.getElem?_eq_some_iff.1 hj).1; simpa [intC] using this
        rw [intC_get xs j hl] at hj
        rw [Addr.add_lit]
        rw [h.cells j hl]; exact hj) ad 1 k [.int .i64 u] rfl hnews (by omega) (by unfold maxLen; omega) hb
    have r3 : w'.ownsRow w.heap.size 3 1 v' (xs.length + 1) (intC (xs ++ [u])) := by simpa [intC] using r1
    obtain ⟨g', c', e, hR⟩ := roO_of_owns r3 (by simp) (by
      rintro rfl
      have := r3.2
      rcases this with ⟨_, q⟩ | ⟨_, _, _, q, _⟩
      · omega
      · cases q)
    exact ⟨v', w', hrun, g', 0, c', e, hR.down hB, Or.inr hR.gB, ⟨r2.os, r2.tape, r2.output, r2.size, fun k hk _ => r2.block k hk (by simp)⟩⟩
theorem wpList_append_off {w : World} {ops : Array Oper} {rest : List Oper} {o : Oper} {a : Act} {Q : Exit → Act → World → Prop} (hgd : o.guard = none) (s x : Operand)
    (ho : o.op = .call { callee := .builtin .append, args := #[s, x], argTypes := #[22, 22] }) {B g of c : Nat} {xs : List Int} (h : RoO w B g of c xs) (hB : B ≤ w.heap.size) (hs : a.eval s = .slice (some ⟨g, of, none⟩) xs.length c)
    (b k : Nat) (u : Int) (hx : a.eval x = .slice (some ⟨b, 0, none⟩) 1 k) (hu : w.cell? ⟨b, 0, none⟩ = some (.int .i64 u)) (hb : (xs.length + 1) * 8 ≤ 140737488355328)
    (hK : ∀ v' w', MoreO w B g xs u v' w' → wpList Tryd.prog ops Q rest (a.put o.dst v') w') : wpList Tryd.prog ops Q (o :: rest) a w := by
  refine wpList_plain hgd fun K hK' => ?_
  obtain ⟨v', w', hrun, r⟩ := run_append_off h hB o.type ⟨b, 0, none⟩ k u hu rfl hb
  unfold Oper.wp
  simp [execOp, ho, resolve, invoke, builtin, hs, hx, hrun, Result.andThen]
  exact hK' _ _ (hK v' w' r)
end Go.Proofs.YtcphajjonecmbaaDoor

namespace Go.Proofs.YtcphajjonecmbaaDoor

open Go.RowKit Go.Deep

attribute [local go_sem ↓] Go.wp_at_zero Go.wp_at_succ

theorem results_cell1 {fn : Func} {p : Tmp} {ty : TypeId} (h : fn.results = #[.cell p ty]) (tmps : Array Value) (P : Program) (w : World) :
    (results fn tmps).run P w = ((asAddr (tmps.getD p undef)).run P w).andThen fun a w₁ => (loadVar ty a).run P w₁ := by
  simp only [results, h]
  simp [Sem.run_bind, Result.andThen]
def retZ (r : RetD) : Value := .agg #[.bool r.ok, .int .i64 r.key, .int .i64 r.val, .slice none 0 0]
/-- What is left at one cell. -/
structure CelP (w : World) (g o : Nat) (n' : Int) (w' : World) : Prop where
  grown : w.grownBy w' (some g)
  fz : ∀ p, w'.frozen? ⟨g, p, none⟩ = w.frozen? ⟨g, p, none⟩
  cell : w'.cell? ⟨g, o, none⟩ = some (.int .i64 n')
  other : ∀ p, p ≠ o → w'.cell? ⟨g, p, none⟩ = w.cell? ⟨g, p, none⟩
theorem grown_of_below {w w' : World} {r : Option Nat} (h : Below w.heap.size w w') : w.grownBy w' r := ⟨h.os, h.tape, h.output, h.size, fun k hk _ => h.block k hk⟩
theorem CelP.keep {w w' : World} {g o : Nat} {v : Int} (hg : g < w.heap.size) (hc : w.cell? ⟨g, o, none⟩ = some (.int .i64 v)) (hb : Below w.heap.size w w') : CelP w g o v w' :=
  ⟨grown_of_below hb, fun p => hb.frozen (p := ⟨g, p, none⟩) hg, (hb.cell (p := ⟨g, o, none⟩) hg).trans hc, fun p _ => hb.cell (p := ⟨g, p, none⟩) hg⟩
theorem CelP.set {w w' : World} {g o : Nat} {v u : Int} (hg : g < w.heap.size) (hc : w.cell? ⟨g, o, none⟩ = some (.int .i64 v)) (hb : Below (w.setCell ⟨g, o, none⟩ (.int .i64 u)).heap.size (w.setCell ⟨g, o, none⟩ (.int .i64 u)) w') : CelP w g o u w' := by
  have hg' : g < (w.setCell ⟨g, o, none⟩ (.int .i64 u)).heap.size := by simpa using hg
  have G := grown_set w g o (.int .i64 u)
  refine ⟨⟨hb.os.trans G.os, hb.tape.trans G.tape, hb.output.trans G.output, Nat.le_trans G.size hb.size, fun k hk hn => (hb.block k (by simpa using hk)).trans (G.block k hk hn)⟩, fun p => ?_, ?_, fun p hp => ?_⟩
  · rw [hb.frozen (p := ⟨g, p, none⟩) hg']; simp
  · rw [hb.cell (p := ⟨g, o, none⟩) hg']; exact World.cell?_setCell_same _ _ _ hc
  · rw [hb.cell (p := ⟨g, p, none⟩) hg']; exact World.cell?_setCell_other _ _ _ _ (fun q => by have := congrArg Addr.off q; simp at this; omega)
theorem two_blocks (w : World) (cs ds : Array Value) (T U : TypeId) : Below w.heap.size w ((w.alloc (.cells cs T)).alloc (.cells ds U)) := (below_alloc w _).alloc (by simp) _
set_option maxRecDepth 100000 in
set_option maxHeartbeats 1000000 in
theorem doReg_any (g o : Nat) (v k a b c : Int) (w : World) (hc : w.cell? ⟨g, o, none⟩ = some (.int .i64 v)) (hf : w.frozen? ⟨g, o, none⟩ = false) (hg : g < w.heap.size) :
    Calls Tryd.prog 111 #[.pointer (some ⟨g, o, none⟩), .agg #[.int .i64 k, .int .i64 a, .int .i64 b, .int .i64 c]] w fun e w' => e = .returned (retZ (vRet 1 [v] ⟨k, a, b, c⟩)) ∧ CelP w g o ((vStep 1 [v] ⟨k, a, b, c⟩).headD 0) w' := by
  have BW := two_blocks w #[.int .i64 k, .int .i64 a, .int .i64 b, .int .i64 c] #[.bool false, .int .i64 0, .int .i64 0, .slice none 0 0] 43 45
  have HC : Hid (w.cell? ⟨g, o, none⟩ = some (.int .i64 v)) := hc
  have hc' := (BW.cell (p := ⟨g, o, none⟩) hg).trans hc
  have hf' := (BW.frozen (p := ⟨g, o, none⟩) hg).trans hf
  have hne : g ≠ w.heap.size := by omega
  have hne' : g ≠ w.heap.size + 1 := by omega
  clear BW hc hf
  by_cases h1 : k = 1
  · subst h1
    have e1 : vRet 1 [v] ⟨1, a, b, c⟩ = ⟨true, 0, v, []⟩ := rfl
    have e2 : (vStep 1 [v] ⟨1, a, b, c⟩).headD 0 = v := rfl
    rw [e1, e2]
    clear e1 e2
    go_enter Tryd.func111, Tryd.ntmps111
    go_wp2_with fail
    refine bodyPost_ret (v := retZ ⟨true, 0, v, []⟩) ?_ rfl ⟨rfl, CelP.keep hg HC.out (two_blocks _ _ _ _ _)⟩
    rw [results_cell1 rfl]
    simp only [retZ]
    go_simp
  · have n1 : (k == 1) = false := beq_eq_false_iff_ne.2 h1
    by_cases h3 : k = 3
    · subst h3
      by_cases hva : v = a
      · subst hva
        have e1 : vRet 1 [v] ⟨3, v, b, c⟩ = ⟨true, 0, 0, []⟩ := by simp [vRet]
        have e2 : (vStep 1 [v] ⟨3, v, b, c⟩).headD 0 = b := by simp [vStep]
        rw [e1, e2]
        have n2 : (v != v) = false := by simp
        clear e1 e2 h1
        go_enter Tryd.func111, Tryd.ntmps111
        go_wp2_with fail
        go_region
        go_wp2_with fail
        refine bodyPost_ret (v := retZ ⟨true, 0, 0, []⟩) ?_ rfl ⟨rfl, CelP.set hg HC.out (two_blocks _ _ _ _ _).drew⟩
        rw [results_cell1 rfl]
        simp only [retZ]
        go_simp
      · have e1 : vRet 1 [v] ⟨3, a, b, c⟩ = RetD.zero := by simp [vRet, hva]
        have e2 : (vStep 1 [v] ⟨3, a, b, c⟩).headD 0 = v := by simp [vStep, hva]
        rw [e1, e2]
        have n2 : (v != a) = true := by simp [hva]
        clear e1 e2 h1 hva
        go_enter Tryd.func111, Tryd.ntmps111
        go_wp2_with fail
        go_region
        go_wp2_with fail
        refine bodyPost_ret (v := retZ RetD.zero) ?_ rfl ⟨rfl, CelP.keep hg HC.out (two_blocks _ _ _ _ _).drew⟩
        rw [results_cell1 rfl]
        simp only [retZ, RetD.zero]
        go_simp
    · have e1 : vRet 1 [v] ⟨k, a, b, c⟩ = ⟨true, 0, 0, []⟩ := by simp [vRet, h1, h3]
      have e2 : (vStep 1 [v] ⟨k, a, b, c⟩).headD 0 = b := by simp [vStep, h1, h3]
      rw [e1, e2]
      have n3 : (k == 3) = false := beq_eq_false_iff_ne.2 h3
      clear e1 e2 h1 h3
      go_enter Tryd.func111, Tryd.ntmps111
      go_wp2_with fail
      go_region
      go_wp2_with fail
      refine bodyPost_ret (v := retZ ⟨true, 0, 0, []⟩) ?_ rfl ⟨rfl, CelP.set hg HC.out (two_blocks _ _ _ _ _).drew⟩
      rw [results_cell1 rfl]
      simp only [retZ]
      go_simp
set_option maxRecDepth 100000 in
set_option maxHeartbeats 1000000 in
theorem doCnt_any (g o : Nat) (v k a b c : Int) (w : World) (hc : w.cell? ⟨g, o, none⟩ = some (.int .i64 v)) (hf : w.frozen? ⟨g, o, none⟩ = false) (hg : g < w.heap.size) :
    Calls Tryd.prog 112 #[.pointer (some ⟨g, o, none⟩), .agg #[.int .i64 k, .int .i64 a, .int .i64 b, .int .i64 c]] w fun e w' => e = .returned (retZ (vRet 2 [v] ⟨k, a, b, c⟩)) ∧ CelP w g o ((vStep 2 [v] ⟨k, a, b, c⟩).headD 0) w' := by
  have BW := two_blocks w #[.int .i64 k, .int .i64 a, .int .i64 b, .int .i64 c] #[.bool false, .int .i64 0, .int .i64 0, .slice none 0 0] 43 45
  have HC : Hid (w.cell? ⟨g, o, none⟩ = some (.int .i64 v)) := hc
  have hc' := (BW.cell (p := ⟨g, o, none⟩) hg).trans hc
  have hf' := (BW.frozen (p := ⟨g, o, none⟩) hg).trans hf
  have hne : g ≠ w.heap.size := by omega
  have hne' : g ≠ w.heap.size + 1 := by omega
  clear BW hc hf
  by_cases h1 : k = 1
  · subst h1
    have e1 : vRet 2 [v] ⟨1, a, b, c⟩ = ⟨true, 0, v, []⟩ := rfl
    have e2 : (vStep 2 [v] ⟨1, a, b, c⟩).headD 0 = v := rfl
    rw [e1, e2]
    clear e1 e2
    go_enter Tryd.func112, Tryd.ntmps112
    go_wp2_with fail
    refine bodyPost_ret (v := retZ ⟨true, 0, v, []⟩) ?_ rfl ⟨rfl, CelP.keep hg HC.out (two_blocks _ _ _ _ _)⟩
    rw [results_cell1 rfl]
    simp only [retZ]
    go_simp
  · have n1 : (k != 1) = true := by simp [h1]
    have e1 : vRet 2 [v] ⟨k, a, b, c⟩ = ⟨true, 0, wrap64 (v + b), []⟩ := by simp [vRet, vStep, h1]
    have e2 : (vStep 2 [v] ⟨k, a, b, c⟩).headD 0 = wrap64 (v + b) := by simp [vStep, h1]
    rw [e1, e2]
    clear e1 e2 h1
    have hs := (CelP.set (u := wrap64 (v + b)) hg HC.out (two_blocks (w.setCell ⟨g, o, none⟩ (.int .i64 (wrap64 (v + b)))) #[.int .i64 k, .int .i64 a, .int .i64 b, .int .i64 c] #[.bool false, .int .i64 0, .int .i64 0, .slice none 0 0] 43 45).drew).cell
    go_enter Tryd.func112, Tryd.ntmps112
    go_wp2_with fail
    go_region
    go_wp2_with fail
    refine bodyPost_ret (v := retZ ⟨true, 0, wrap64 (v + b), []⟩) ?_ rfl ⟨rfl, CelP.set hg HC.out (two_blocks _ _ _ _ _).drew⟩
    rw [results_cell1 rfl]
    simp only [retZ]
    go_simp
end Go.Proofs.YtcphajjonecmbaaDoor


namespace Go.Proofs.YtcphajjonecmbaaDoor

open Go.RowKit Go.Deep

attribute [local go_sem ↓] Go.wp_at_zero Go.wp_at_succ

theorem results_tc {fn : Func} {a p : Tmp} {ty : TypeId} (h : fn.results = #[.tmp a, .cell p ty]) (tmps : Array Value) (P : Program) (w : World) :
    (results fn tmps).run P w = ((asAddr (tmps.getD p undef)).run P w).andThen fun ad w₁ => ((loadVar ty ad).run P w₁).andThen fun v w₂ => .ok (.tuple #[tmps.getD a undef, v]) w₂ := by
  simp only [results, h]
  simp [Sem.run_bind, Result.andThen]
theorem grownG_trans {w a b : World} {g : Nat} (h : w.grownBy a (some g)) (k : a.grownBy b (some g)) : w.grownBy b (some g) :=
  ⟨k.os.trans h.os, k.tape.trans h.tape, k.output.trans h.output, Nat.le_trans h.size k.size, fun i hi hn => (k.block i (Nat.lt_of_lt_of_le hi h.size) hn).trans (h.block i hi hn)⟩
theorem RoO.cel {w w' : World} {B g o c : Nat} {v n' : Int} (h : RoO w B g o c [v]) (hp : CelP w g o n' w') : RoO w' B g o c [n'] := by
  refine ⟨h.gB, Nat.lt_of_lt_of_le h.lt hp.grown.size, h.le, h.max, fun j hj => ?_, fun j hj => ?_⟩
  · simp at hj
    subst hj
    exact hp.cell
  · refine ⟨?_, (hp.fz _).trans (h.there j hj).2⟩
    by_cases e : j = 0
    · subst e
      have := hp.cell
      rw [Nat.add_zero, this]; rfl
    · rw [hp.other _ (by omega)]; exact (h.there j hj).1
/-- What change leaves. -/
def ChgP (w : World) (B g : Nat) (t : Int) (vs : List Int) (op : OpD) (e : Ending) (w' : World) : Prop :=
  ∃ g' o' c', e = .returned (.tuple #[.slice (some ⟨g', o', none⟩) (vStep t vs op).length c', retZ (vRet t vs op)]) ∧ RoO w' B g' o' c' (vStep t vs op) ∧ (g' = g ∨ w.heap.size ≤ g') ∧ w.grownBy w' (some g)
theorem cells4 {w : World} {b : Nat} {c0 c1 c2 c3 : Value} {T : TypeId} (h : w.heap[b]? = some (.cells #[c0, c1, c2, c3] T)) :
    (w.cell? ⟨b, 0, none⟩ = some c0 ∧ w.frozen? ⟨b, 0, none⟩ = false) ∧ (w.cell? ⟨b, 1, none⟩ = some c1 ∧ w.frozen? ⟨b, 1, none⟩ = false) ∧ (w.cell? ⟨b, 2, none⟩ = some c2 ∧ w.frozen? ⟨b, 2, none⟩ = false) ∧ (w.cell? ⟨b, 3, none⟩ = some c3 ∧ w.frozen? ⟨b, 3, none⟩ = false) := by
  simp [World.cell?, World.frozen?, h]
theorem grown_four {w wr : World} {g N : Nat} (h : w.grownBy wr (some g)) (hN : w.heap.size ≤ N) (v0 v1 v2 v3 : Value) : w.grownBy ((((wr.setCell ⟨N, 0, none⟩ v0).setCell ⟨N, 1, none⟩ v1).setCell ⟨N, 2, none⟩ v2).setCell ⟨N, 3, none⟩ v3) (some g) := by
  refine ⟨h.os, h.tape, h.output, by simpa using h.size, fun k hk hn => ?_⟩
  have key : ∀ (W : World) (j : Nat) (v : Value), (W.setCell ⟨N, j, none⟩ v).heap[k]? = W.heap[k]? := fun W j v => Below.heap_setCell W _ _ k (by show k ≠ N; omega)
  rw [key, key, key, key]
  exact h.block k hk hn
theorem RoO.four {wr : World} {B g o c N : Nat} {xs : List Int} (h : RoO wr B g o c xs) (hN : N ≠ g) (v0 v1 v2 v3 : Value) : RoO ((((wr.setCell ⟨N, 0, none⟩ v0).setCell ⟨N, 1, none⟩ v1).setCell ⟨N, 2, none⟩ v2).setCell ⟨N, 3, none⟩ v3) B g o c xs := by
  refine h.kept (by simp) ?_
  have key : ∀ (W : World) (j : Nat) (v : Value), (W.setCell ⟨N, j, none⟩ v).heap[g]? = W.heap[g]? := fun W j v => Below.heap_setCell W _ _ g (fun q => hN q.symm)
  rw [key, key, key, key]
theorem cells4_set {wr : World} {N : Nat} {u0 u1 u2 u3 : Value} {T : TypeId} (h : wr.heap[N]? = some (.cells #[u0, u1, u2, u3] T)) (v0 v1 v2 v3 : Value) :
    ((((wr.setCell ⟨N, 0, none⟩ v0).setCell ⟨N, 1, none⟩ v1).setCell ⟨N, 2, none⟩ v2).setCell ⟨N, 3, none⟩ v3).heap[N]? = some (.cells #[v0, v1, v2, v3] T) := by
  simp [World.setCell, Array.getElem?_modify, h]
set_option maxRecDepth 100000 in
set_option maxHeartbeats 1000000 in
theorem change_one (f : FuncId) (T : Int) (hT : T = 1 ∧ f = 111 ∨ T = 2 ∧ f = 112) (B g o c : Nat) (v k a b d : Int) (w : World) (h : RoO w B g o c [v]) :
    Calls Tryd.prog 92 #[.int .i64 T, .slice (some ⟨g, o, none⟩) 1 c, .agg #[.int .i64 k, .int .i64 a, .int .i64 b, .int .i64 d]] w (ChgP w B g T [v] ⟨k, a, b, d⟩) := by
  have hg := h.lt
  have BW := two_blocks w #[.int .i64 k, .int .i64 a, .int .i64 b, .int .i64 d] #[.bool false, .int .i64 0, .int .i64 0, .slice none 0 0] 43 45
  obtain ⟨W0, hW0⟩ : ∃ W0, W0 = (w.alloc (.cells #[.int .i64 k, .int .i64 a, .int .i64 b, .int .i64 d] 43)).alloc (.cells #[.bool false, .int .i64 0, .int .i64 0, .slice none 0 0] 45) := ⟨_, rfl⟩
  rw [← hW0] at BW
  have H0 : Hid (RoO W0 B g o c [v]) := h.below BW
  have HB : Hid (Below w.heap.size w W0) := BW
  have z0 : W0.heap.size = w.heap.size + 2 := by rw [hW0]; simp
  have R0 : Hid (W0.heap[w.heap.size]? = some (.cells #[.int .i64 k, .int .i64 a, .int .i64 b, .int .i64 d] 43)) := by
    show W0.heap[w.heap.size]? = _
    rw [hW0]
    exact (heap_alloc_old _ _ (by simp)).trans (heap_alloc_at _ _ _ rfl)
  have R1 : Hid (W0.heap[w.heap.size + 1]? = some (.cells #[.bool false, .int .i64 0, .int .i64 0, .slice none 0 0] 45)) := by
    show W0.heap[w.heap.size + 1]? = _
    rw [hW0]
    exact heap_alloc_at _ _ _ (by simp)
  have a0 : W0.drew.cell? ⟨w.heap.size, 0, none⟩ = some (.int .i64 k) := by show W0.cell? _ = _; simp [World.cell?, R0.out]
  have a1 : W0.drew.cell? ⟨w.heap.size, 1, none⟩ = some (.int .i64 a) := by show W0.cell? _ = _; simp [World.cell?, R0.out]
  have a2 : W0.drew.cell? ⟨w.heap.size, 2, none⟩ = some (.int .i64 b) := by show W0.cell? _ = _; simp [World.cell?, R0.out]
  have a3 : W0.drew.cell? ⟨w.heap.size, 3, none⟩ = some (.int .i64 d) := by show W0.cell? _ = _; simp [World.cell?, R0.out]
  have c1 : Hid (1 ≤ c) := h.le
  have hcel := H0.out.cells 0 (by simp)
  have hfr := (H0.out.there 0 (by have := c1.out; omega)).2
  have RG : Hid (∃ r : RetD, ∃ n' : Int, vRet T [v] ⟨k, a, b, d⟩ = r ∧ vStep T [v] ⟨k, a, b, d⟩ = [n'] ∧ Calls Tryd.prog f #[.pointer (some ⟨g, o, none⟩), .agg #[.int .i64 k, .int .i64 a, .int .i64 b, .int .i64 d]] W0.drew fun e w' => e = .returned (.agg #[.bool r.ok, .int .i64 r.key, .int .i64 r.val, .slice none 0 0]) ∧ CelP W0.drew g o n' w') := by
    rcases hT with ⟨rfl, rfl⟩ | ⟨rfl, rfl⟩
    · have hl := vStep_one (t := 1) (Or.inl rfl) (vs := [v]) rfl ⟨k, a, b, d⟩
      obtain ⟨n', hn'⟩ := List.length_eq_one_iff.1 hl
      refine ⟨_, n', rfl, hn', ?_⟩
      have := doReg_any g o v k a b d W0.drew hcel hfr H0.out.lt
      rw [hn'] at this
      exact this
    · have hl := vStep_one (t := 2) (Or.inr rfl) (vs := [v]) rfl ⟨k, a, b, d⟩
      obtain ⟨n', hn'⟩ := List.length_eq_one_iff.1 hl
      refine ⟨_, n', rfl, hn', ?_⟩
      have := doCnt_any g o v k a b d W0.drew hcel hfr H0.out.lt
      rw [hn'] at this
      exact this
  obtain ⟨r, n', hr, hn', CL⟩ := RG.out
  obtain ⟨r1, r2, r3, r4⟩ := r
  have HR : Hid (vRet T [v] ⟨k, a, b, d⟩ = ⟨r1, r2, r3, r4⟩ ∧ vStep T [v] ⟨k, a, b, d⟩ = [n']) := ⟨hr, hn'⟩
  have CA : Hid (Calls Tryd.prog f #[.pointer (some ⟨g, o, none⟩), .agg #[.int .i64 k, .int .i64 a, .int .i64 b, .int .i64 d]] W0.drew fun e w' => e = .returned (.agg #[.bool r1, .int .i64 r2, .int .i64 r3, .slice none 0 0]) ∧ CelP W0.drew g o n' w') := CL
  have hgn : g ≠ w.heap.size + 1 := by omega
  have FIN : ∀ w1, CelP W0.drew g o n' w1 → ChgP w B g T [v] ⟨k, a, b, d⟩ (.returned (.tuple #[.slice (some ⟨g, o, none⟩) 1 c, .agg #[.bool r1, .int .i64 r2, .int .i64 r3, .slice none 0 0]])) ((((w1.setCell ⟨w.heap.size + 1, 0, none⟩ (.bool r1)).setCell ⟨w.heap.size + 1, 1, none⟩ (.int .i64 r2)).setCell ⟨w.heap.size + 1, 2, none⟩ (.int .i64 r3)).setCell ⟨w.heap.size + 1, 3, none⟩ (.slice none 0 0)) := by
    intro w1 hp
    refine ⟨g, o, c, ?_, ?_, Or.inl rfl, ?_⟩
    · rw [HR.out.1, HR.out.2]; rfl
    · rw [HR.out.2]
      exact (RoO.cel (H0.out.kept (w' := W0.drew) (Nat.le_refl _) rfl) hp).four (fun q => hgn q.symm) _ _ _ _
    · refine grown_four ?_ (by omega) _ _ _ _
      exact grownG_trans (grown_of_below HB.out.drew) hp.grown
  have HF : Hid _ := FIN
  clear h BW RG hr hn' CL FIN hcel hfr
  rcases hT with ⟨rfl, rfl⟩ | ⟨rfl, rfl⟩
  · go_enter Tryd.func92, Tryd.ntmps92
    go_wp2_with fail
    rw [← hW0]
    clear hW0
    go_region_with (first | (go_at_call 111; refine CA.out.mono ?_; rintro e w1 ⟨rfl, hp⟩; have R1' := (hp.grown.block (w.heap.size + 1) (by show _ < W0.heap.size; omega) (fun q => hgn (Option.some.inj q).symm)).trans R1.out; obtain ⟨⟨p0, p1⟩, ⟨p2, p3⟩, ⟨p4, p5⟩, ⟨p6, p7⟩⟩ := cells4 R1'))
    all_goals go_wp2_with fail
    all_goals (refine bodyPost_ret (v := .tuple #[.slice (some ⟨g, o, none⟩) 1 c, .agg #[.bool r1, .int .i64 r2, .int .i64 r3, .slice none 0 0]]) ?_ rfl (HF.out _ hp); rw [results_tc rfl]; go_simp)
  · go_enter Tryd.func92, Tryd.ntmps92
    go_wp2_with fail
    rw [← hW0]
    clear hW0
    go_region_with (first | (go_at_call 112; refine CA.out.mono ?_; rintro e w1 ⟨rfl, hp⟩; have R1' := (hp.grown.block (w.heap.size + 1) (by show _ < W0.heap.size; omega) (fun q => hgn (Option.some.inj q).symm)).trans R1.out; obtain ⟨⟨p0, p1⟩, ⟨p2, p3⟩, ⟨p4, p5⟩, ⟨p6, p7⟩⟩ := cells4 R1'))
    all_goals go_wp2_with fail
    all_goals (refine bodyPost_ret (v := .tuple #[.slice (some ⟨g, o, none⟩) 1 c, .agg #[.bool r1, .int .i64 r2, .int .i64 r3, .slice none 0 0]]) ?_ rfl (HF.out _ hp); rw [results_tc rfl]; go_simp)
end Go.Proofs.YtcphajjonecmbaaDoor



namespace Go.Proofs.YtcphajjonecmbaaDoor

open Go.RowKit Go.Deep

attribute [local go_sem ↓] Go.wp_at_zero Go.wp_at_succ

theorem vStep_row1 {t : Int} (ht : t = 3 ∨ t = 4) (vs : List Int) (o : OpD) (h : o.kind = 1) : vStep t vs o = vs ++ [o.val] ∧ vRet t vs o = ⟨true, 0, 0, []⟩ := by
  unfold vStep vRet
  rcases ht with rfl | rfl <;> simp [h]
theorem vStep_row0 {t : Int} (ht : t = 3 ∨ t = 4) (o : OpD) (h : o.kind ≠ 1) : vStep t [] o = [] ∧ vRet t [] o = RetD.zero := by
  unfold vStep vRet
  rcases ht with rfl | rfl <;> simp [h]
theorem vStep_queue (x : Int) (xs : List Int) (o : OpD) (h : o.kind ≠ 1) : vStep 4 (x :: xs) o = xs ∧ vRet 4 (x :: xs) o = ⟨true, 0, x, []⟩ := by
  unfold vStep vRet
  simp [h]
theorem vStep_stack {vs : List Int} (o : OpD) (h : o.kind ≠ 1) (hn : vs.length ≠ 0) : vStep 3 vs o = vs.take (vs.length - 1) ∧ vRet 3 vs o = ⟨true, 0, oAt vs (vs.length - 1), []⟩ := by
  unfold vStep vRet oAt
  simp [h, hn]
set_option maxRecDepth 100000 in
set_option maxHeartbeats 1000000 in
theorem change_put (T : Int) (hT : T = 3 ∨ T = 4) (B g o c : Nat) (vs : List Int) (a b d : Int) (w : World) (h : RoO w B g o c vs) (hB : B ≤ w.heap.size) (hby : (vs.length + 1) * 8 ≤ 140737488355328) :
    Calls Tryd.prog 92 #[.int .i64 T, .slice (some ⟨g, o, none⟩) vs.length c, .agg #[.int .i64 1, .int .i64 a, .int .i64 b, .int .i64 d]] w (ChgP w B g T vs ⟨1, a, b, d⟩) := by
  have hg := h.lt
  have BW := two_blocks w #[.int .i64 1, .int .i64 a, .int .i64 b, .int .i64 d] #[.bool false, .int .i64 0, .int .i64 0, .slice none 0 0] 43 45
  obtain ⟨W0, hW0⟩ : ∃ W0, W0 = (w.alloc (.cells #[.int .i64 1, .int .i64 a, .int .i64 b, .int .i64 d] 43)).alloc (.cells #[.bool false, .int .i64 0, .int .i64 0, .slice none 0 0] 45) := ⟨_, rfl⟩
  rw [← hW0] at BW
  have H0 : Hid (RoO W0 B g o c vs) := h.below BW
  have HB : Hid (Below w.heap.size w W0) := BW
  have z0 : W0.heap.size = w.heap.size + 2 := by rw [hW0]; simp
  have R1 : Hid (W0.heap[w.heap.size + 1]? = some (.cells #[.bool false, .int .i64 0, .int .i64 0, .slice none 0 0] 45)) := by
    show W0.heap[w.heap.size + 1]? = _
    rw [hW0]
    exact heap_alloc_at _ _ _ (by simp)
  have R0 : Hid (W0.heap[w.heap.size]? = some (.cells #[.int .i64 1, .int .i64 a, .int .i64 b, .int .i64 d] 43)) := by
    show W0.heap[w.heap.size]? = _
    rw [hW0]
    exact (heap_alloc_old _ _ (by simp)).trans (heap_alloc_at _ _ _ rfl)
  obtain ⟨⟨a0, _⟩, ⟨a1, _⟩, ⟨a2, _⟩, ⟨a3, _⟩⟩ := cells4 R0.out
  have HR : Hid (vStep T vs ⟨1, a, b, d⟩ = vs ++ [b] ∧ vRet T vs ⟨1, a, b, d⟩ = ⟨true, 0, 0, []⟩) := vStep_row1 hT vs _ rfl
  have HBY : Hid ((vs.length + 1) * 8 ≤ 140737488355328) := hby
  have hgn : g ≠ w.heap.size + 1 := by omega
  have HBW : Hid (B ≤ w.heap.size) := hB
  have t1 : (T == 1) = false := by rcases hT with rfl | rfl <;> rfl
  have t2 : (T == 2) = false := by rcases hT with rfl | rfl <;> rfl
  have CN : Hid ((W0.alloc (.cells #[.int .i64 b] 3)).cell? ⟨w.heap.size + 2, 0, none⟩ = some (.int .i64 b)) := by
    show World.cell? _ _ = _
    rw [← z0]
    exact cell_new _ _ _ 0
  clear h BW hby hB
  go_enter Tryd.func92, Tryd.ntmps92
  go_upto_region 7 with fail
  rw [← hW0]
  clear hW0
  go_wp2_with (first | (at_builtin; go_loud (refine wpList_append_off (by rfl) _ _ (by rfl) (H0.out.alloc _) (by have := HBW.out; simp; omega) (by rfl) (w.heap.size + 2) 1 b (by rfl) CN.out HBY.out ?_); rintro v' w1 ⟨g', o', c', rfl, hR, hgg, hgr⟩; have R1' := (hgr.block (w.heap.size + 1) (by simp; omega) (fun q => hgn (Option.some.inj q).symm)).trans ((heap_alloc_old _ _ (by omega)).trans R1.out); obtain ⟨⟨p0, p1⟩, ⟨p2, p3⟩, ⟨p4, p5⟩, ⟨p6, p7⟩⟩ := cells4 R1'))
  refine bodyPost_ret (v := .tuple #[.slice (some ⟨g', o', none⟩) (vs.length + 1) c', .agg #[.bool true, .int .i64 0, .int .i64 0, .slice none 0 0]]) ?_ rfl ⟨g', o', c', ?_, ?_, ?_, ?_⟩
  · rw [results_tc rfl]; go_simp
  · rw [HR.out.1, HR.out.2, List.length_append]; rfl
  · rw [HR.out.1]
    refine hR.four (fun q => ?_) _ _ _ _
    rcases hgg with e | e
    · omega
    · simp at e; omega
  · rcases hgg with e | e
    · exact Or.inl e
    · right; simp at e; omega
  · exact grown_four (grownG_trans (grown_of_below ((HB.out.alloc (by omega) _))) hgr) (by omega) _ _ _ _
set_option maxRecDepth 100000 in
set_option maxHeartbeats 1000000 in
theorem change_none (T : Int) (hT : T = 3 ∨ T = 4) (B g o c : Nat) (k a b d : Int) (hk : k ≠ 1) (w : World) (h : RoO w B g o c []) :
    Calls Tryd.prog 92 #[.int .i64 T, .slice (some ⟨g, o, none⟩) 0 c, .agg #[.int .i64 k, .int .i64 a, .int .i64 b, .int .i64 d]] w (ChgP w B g T [] ⟨k, a, b, d⟩) := by
  have hg := h.lt
  have HH : Hid (RoO w B g o c []) := h
  have HR : Hid (vStep T [] ⟨k, a, b, d⟩ = [] ∧ vRet T [] ⟨k, a, b, d⟩ = RetD.zero) := vStep_row0 hT _ hk
  have t1 : (T == 1) = false := by rcases hT with rfl | rfl <;> rfl
  have t2 : (T == 2) = false := by rcases hT with rfl | rfl <;> rfl
  have k1 : (k == 1) = false := beq_eq_false_iff_ne.2 hk
  clear h hk hT
  go_enter Tryd.func92, Tryd.ntmps92
  go_wp2_with fail
  refine bodyPost_ret (v := .tuple #[.slice (some ⟨g, o, none⟩) 0 c, .agg #[.bool false, .int .i64 0, .int .i64 0, .slice none 0 0]]) ?_ rfl ⟨g, o, c, ?_, ?_, Or.inl rfl, ?_⟩
  · rw [results_tc rfl]; go_simp
  · rw [HR.out.1, HR.out.2]; rfl
  · rw [HR.out.1]; exact HH.out.below (two_blocks _ _ _ _ _)
  · exact grown_of_below (two_blocks _ _ _ _ _)
set_option maxRecDepth 100000 in
set_option maxHeartbeats 1000000 in
theorem change_first (B g o c : Nat) (x : Int) (xs : List Int) (k a b d : Int) (hk : k ≠ 1) (w : World) (h : RoO w B g o c (x :: xs)) :
    Calls Tryd.prog 92 #[.int .i64 4, .slice (some ⟨g, o, none⟩) (x :: xs).length c, .agg #[.int .i64 k, .int .i64 a, .int .i64 b, .int .i64 d]] w (ChgP w B g 4 (x :: xs) ⟨k, a, b, d⟩) := by
  have hg := h.lt
  have HH : Hid (RoO w B g o c (x :: xs)) := h
  have HR : Hid (vStep 4 (x :: xs) ⟨k, a, b, d⟩ = xs ∧ vRet 4 (x :: xs) ⟨k, a, b, d⟩ = ⟨true, 0, x, []⟩) := vStep_queue x xs _ hk
  have k1 : (k == 1) = false := beq_eq_false_iff_ne.2 hk
  have BW := two_blocks w #[.int .i64 k, .int .i64 a, .int .i64 b, .int .i64 d] #[.bool false, .int .i64 0, .int .i64 0, .slice none 0 0] 43 45
  obtain ⟨n, hn⟩ : ∃ n, n = xs.length := ⟨_, rfl⟩
  have hl : n + 1 ≤ c := by have := h.le; simp at this; omega
  have hm := h.max
  have c0 : ((w.alloc (.cells #[.int .i64 k, .int .i64 a, .int .i64 b, .int .i64 d] 43)).alloc (.cells #[.bool false, .int .i64 0, .int .i64 0, .slice none 0 0] 45)).cell? ⟨g, o, none⟩ = some (.int .i64 x) := by
    have := (h.below BW).cells 0 (by simp)
    simpa [oAt] using this
  unfold maxLen at hm
  have n0 : (0 : Int) ≤ (n : Int) := Int.natCast_nonneg _
  have e0 : (((n + 1 : Nat) : Int) == 0) = false := by rw [beq_eq_false_iff_ne]; omega
  have HN : Hid (n = xs.length) := hn
  have hcl : (x :: xs).length = n + 1 := by simp [hn]
  rw [hcl]
  obtain ⟨o', ho'⟩ : ∃ o' : Nat, (if c = 1 then (some (⟨g, o, none⟩ : Addr)) else some ⟨g, o + 1, none⟩) = some ⟨g, o', none⟩ ∧ (c ≠ 1 → o' = o + 1) := by
    by_cases q : c = 1
    · exact ⟨o, by rw [if_pos q], fun z => absurd q z⟩
    · exact ⟨o + 1, by rw [if_neg q], fun _ => rfl⟩
  have HO : Hid (c ≠ 1 → o' = o + 1) := ho'.2
  have ho2 := ho'.1
  have RO : Hid (RoO w B g o' (c - 1) xs) := by
    by_cases q : c = 1
    · have hx : xs = [] := List.length_eq_zero_iff.1 (by omega)
      subst hx
      exact ⟨HH.out.gB, HH.out.lt, Nat.zero_le _, by unfold maxLen; omega, fun j hj => by simp at hj, fun j hj => by omega⟩
    · have := HO.out q
      subst this
      exact HH.out.drop
  clear h hk BW hn hcl ho'
  go_enter Tryd.func92, Tryd.ntmps92
  go_wp2_with fail
  go_region
  go_wp2_with fail
  refine bodyPost_ret (v := .tuple #[.slice (some ⟨g, o', none⟩) n (c - 1), .agg #[.bool true, .int .i64 0, .int .i64 x, .slice none 0 0]]) ?_ rfl ⟨g, o', c - 1, ?_, ?_, Or.inl rfl, ?_⟩
  · rw [results_tc rfl]; go_simp
  · rw [HR.out.1, HR.out.2, HN.out]; rfl
  · rw [HR.out.1]; exact RO.out.below (two_blocks _ _ _ _ _).drew
  · exact grown_of_below (two_blocks _ _ _ _ _).drew
set_option maxRecDepth 100000 in
set_option maxHeartbeats 1000000 in
theorem change_top (B g o c : Nat) (vs : List Int) (n : Nat) (hvs : vs.length = n + 1) (k a b d : Int) (hk : k ≠ 1) (w : World) (h : RoO w B g o c vs) :
    Calls Tryd.prog 92 #[.int .i64 3, .slice (some ⟨g, o, none⟩) (n + 1) c, .agg #[.int .i64 k, .int .i64 a, .int .i64 b, .int .i64 d]] w (ChgP w B g 3 vs ⟨k, a, b, d⟩) := by
  have hg := h.lt
  have HH : Hid (RoO w B g o c vs) := h
  have HR : Hid (vStep 3 vs ⟨k, a, b, d⟩ = vs.take n ∧ vRet 3 vs ⟨k, a, b, d⟩ = ⟨true, 0, oAt vs n, []⟩) := by
    have := vStep_stack (vs := vs) ⟨k, a, b, d⟩ hk (by omega)
    rw [show vs.length - 1 = n by omega] at this
    exact this
  have k1 : (k == 1) = false := beq_eq_false_iff_ne.2 hk
  have BW := two_blocks w #[.int .i64 k, .int .i64 a, .int .i64 b, .int .i64 d] #[.bool false, .int .i64 0, .int .i64 0, .slice none 0 0] 43 45
  have hl : n + 1 ≤ c := by have := h.le; omega
  have hm := h.max
  have c0 : ((w.alloc (.cells #[.int .i64 k, .int .i64 a, .int .i64 b, .int .i64 d] 43)).alloc (.cells #[.bool false, .int .i64 0, .int .i64 0, .slice none 0 0] 45)).cell? ⟨g, o + n, none⟩ = some (.int .i64 (oAt vs n)) := (h.below BW).cells n (by omega)
  unfold maxLen at hm
  have n0 : (0 : Int) ≤ (n : Int) := Int.natCast_nonneg _
  have e0 : (((n + 1 : Nat) : Int) == 0) = false := by rw [beq_eq_false_iff_ne]; omega
  have w1 : wrap64 ((n : Int) + 1 - 1) = (n : Int) := by rw [show (n : Int) + 1 - 1 = (n : Int) by omega]; unfold wrap64; omega
  have HL : Hid (vs.length = n + 1) := hvs
  generalize oAt vs n = x at *
  clear h hk BW hvs
  go_enter Tryd.func92, Tryd.ntmps92
  go_wp2_with fail
  go_region
  go_wp2_with fail
  refine bodyPost_ret (v := .tuple #[.slice (some ⟨g, o, none⟩) n c, .agg #[.bool true, .int .i64 0, .int .i64 x, .slice none 0 0]]) ?_ rfl ⟨g, o, c, ?_, ?_, Or.inl rfl, ?_⟩
  · rw [results_tc rfl]; go_simp
  · rw [HR.out.1, HR.out.2, List.length_take, HL.out, Nat.min_eq_left (Nat.le_succ _)]; rfl
  · rw [HR.out.1]; exact (HH.out.take n).below (two_blocks _ _ _ _ _).drew
  · exact grown_of_below (two_blocks _ _ _ _ _).drew
/-- change of any thing but a map. -/
theorem change_any (t : Int) (ht : 1 ≤ t ∧ t ≤ 4) (B g o c : Nat) (vs : List Int) (op : OpD) (w : World) (h : RoO w B g o c vs) (hB : B ≤ w.heap.size) (h1 : t = 1 ∨ t = 2 → vs.length = 1) (hby : (vs.length + 1) * 8 ≤ 140737488355328) :
    Calls Tryd.prog 92 #[.int .i64 t, .slice (some ⟨g, o, none⟩) vs.length c, .agg #[.int .i64 op.kind, .int .i64 op.key, .int .i64 op.val, .int .i64 op.hi]] w (ChgP w B g t vs op) := by
  obtain ⟨k, a, b, d⟩ := op
  by_cases h12 : t = 1 ∨ t = 2
  · obtain ⟨v, rfl⟩ := List.length_eq_one_iff.1 (h1 h12)
    rcases h12 with rfl | rfl
    · exact change_one _ 1 (Or.inl ⟨rfl, rfl⟩) B g o c v k a b d w h
    · exact change_one _ 2 (Or.inr ⟨rfl, rfl⟩) B g o c v k a b d w h
  · have h34 : t = 3 ∨ t = 4 := by omega
    by_cases hk : k = 1
    · subst hk
      exact change_put t h34 B g o c vs a b d w h hB hby
    · cases vs with
      | nil => exact change_none t h34 B g o c k a b d hk w h
      | cons x xs =>
        rcases h34 with rfl | rfl
        · exact change_top B g o c (x :: xs) xs.length (by simp) k a b d hk w h
        · exact change_first B g o c x xs k a b d hk w h
end Go.Proofs.YtcphajjonecmbaaDoor

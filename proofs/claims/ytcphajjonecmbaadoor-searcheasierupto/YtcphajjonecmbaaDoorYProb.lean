/- Layer 7: the program's problemOf. -/
import Derived.Test.YtcphajjonecmbaaDoorYAgr
import Derived.Deep.CutRange


namespace Go.Proofs.YtcphajjonecmbaaDoor

open Go.RowKit Go.Deep

attribute [local go_sem ↓] Go.wp_at_zero Go.wp_at_succ

/-- Are the kinds of the operations the thing's? -/
def ksC (t : Int) (hs : List EvD) (sp : List Sp) : Bool := (List.range sp.length).all fun i => kOk t (cOp hs sp i).kind
def pErr (t : Int) (s : SD) (hs : List EvD) : Int := if sErr t s ≠ 0 then sErr t s else if hErr hs ≠ 0 then 3 else if ksC t hs (spansL hs) then (if 8 < (spansL hs).length then 2 else 0) else 5
/-- A problem in memory. -/
structure PrAt (w : World) (B : Nat) (x : SX) (s : SD) (hs : List EvD) (sp : List Sp) (gc gb : Nat) : Prop where
  st : StAt w x s
  calls : ∃ l, l.map (·.1) = sp ∧ CallsAt hs w (some ⟨gc, 0, none⟩) gc l ∧ ∀ y ∈ l, OwnP w (gc + 1) (retOf hs y.1).pairs y.2
  cl : gc < w.heap.size
  bl : gb < w.heap.size
  bef : ∀ i, i < sp.length → w.cell? ⟨gb, i, none⟩ = some (.int .i64 (befN sp i sp.length))
  cB : B ≤ gc
  bB : B ≤ gb
theorem PrAt.below {w w' : World} {B : Nat} {x : SX} {s : SD} {hs : List EvD} {sp : List Sp} {gc gb : Nat} (h : PrAt w B x s hs sp gc gb) (hb : Below w.heap.size w w') : PrAt w' B x s hs sp gc gb := by
  obtain ⟨l, h1, h2, h3⟩ := h.calls
  exact ⟨h.st.below hb, ⟨l, h1, h2.below hb, fun y hy => (h3 y hy).below hb⟩, Nat.lt_of_lt_of_le h.cl hb.size, Nat.lt_of_lt_of_le h.bl hb.size, fun i hi => (hb.cell (p := ⟨gb, i, none⟩) h.bl).trans (h.bef i hi), h.cB, h.bB⟩
def probC (t : Int) (x : SX) (s : SD) (n : Nat) (R : Int) (gc gb : Nat) : Array Value := #[.int .i64 t, .slice x.va s.vals.length x.vc, .slice x.pa s.prs.length x.pc, .slice (some ⟨gc, 0, none⟩) n n, .int .i64 R, .slice (some ⟨gb, 0, none⟩) n n]
def prob0 : Array Value := #[.int .i64 0, .slice none 0 0, .slice none 0 0, .slice none 0 0, .int .i64 0, .slice none 0 0]
/-- What problemOf leaves. -/
def ProbP (t : Int) (x : SX) (s : SD) (hs : List EvD) (w : World) (e : Ending) (w' : World) : Prop :=
  Below w.heap.size w w' ∧ ((pErr t s hs ≠ 0 ∧ e = .returned (.tuple #[.agg prob0, .int .i64 (pErr t s hs)])) ∨ (pErr t s hs = 0 ∧ (spansL hs).length ≤ 8 ∧ sErr t s = 0 ∧ hErr hs = 0 ∧ ksC t hs (spansL hs) = true ∧ ∃ gc gb, e = .returned (.tuple #[.agg (probC t x s (spansL hs).length (retN (spansL hs) (spansL hs).length) gc gb), .int .i64 0]) ∧ PrAt w' w.heap.size x s hs (spansL hs) gc gb))
theorem ksC_iff {t : Int} {hs : List EvD} {sp : List Sp} : ksC t hs sp = true ↔ ∀ i, i < sp.length → kOk t (cOp hs sp i).kind = true := by
  unfold ksC
  simp [List.all_eq_true]
theorem ksC_not {t : Int} {hs : List EvD} {sp : List Sp} {i : Nat} (hi : i < sp.length) (h : kOk t (cOp hs sp i).kind = false) : ksC t hs sp = false := by
  cases q : ksC t hs sp
  · rfl
  · rw [ksC_iff.1 q i hi] at h; cases h
theorem cells6 {w : World} {b : Nat} {c0 c1 c2 c3 c4 c5 : Value} {T : TypeId} (h : w.heap[b]? = some (.cells #[c0, c1, c2, c3, c4, c5] T)) :
    (w.cell? ⟨b, 0, none⟩ = some c0 ∧ w.frozen? ⟨b, 0, none⟩ = false) ∧ (w.cell? ⟨b, 1, none⟩ = some c1 ∧ w.frozen? ⟨b, 1, none⟩ = false) ∧ (w.cell? ⟨b, 2, none⟩ = some c2 ∧ w.frozen? ⟨b, 2, none⟩ = false) ∧ (w.cell? ⟨b, 3, none⟩ = some c3 ∧ w.frozen? ⟨b, 3, none⟩ = false) ∧ (w.cell? ⟨b, 4, none⟩ = some c4 ∧ w.frozen? ⟨b, 4, none⟩ = false) ∧ (w.cell? ⟨b, 5, none⟩ = some c5 ∧ w.frozen? ⟨b, 5, none⟩ = false) := by
  simp [World.cell?, World.frozen?, h]
/-- An operation's cells in memory. -/
theorem call_cells {hs : List EvD} {w : World} {g : Nat} {l : List (Sp × Value)} {sp : List Sp} (h : CallsAt hs w (some ⟨g, 0, none⟩) g l) (hm : l.map (·.1) = sp) {k : Nat} (hk : k < sp.length) :
    ∃ v, v ∈ l.map (·.2) ∧ (∃ y ∈ l, y.1 = spAt sp k ∧ y.2 = v) ∧ ∀ i, i < 11 → w.cell? ⟨g, k * 11 + i, none⟩ = (callC hs (spAt sp k) v)[i]? := by
  obtain ⟨y, hy, h1, h2⟩ := getE_of_map hm hk
  refine ⟨y.2, List.mem_map_of_mem h2, ⟨y, h2, h1, rfl⟩, fun i hi => ?_⟩
  rw [← h1]
  exact h.cells k y hy i hi
theorem heap6_set {w : World} {N : Nat} {u0 u1 u2 u3 u4 u5 : Value} {T : TypeId} (h : w.heap[N]? = some (.cells #[u0, u1, u2, u3, u4, u5] T)) (v0 v1 v2 v3 v4 v5 : Value) :
    ((((((w.setCell ⟨N, 0, none⟩ v0).setCell ⟨N, 1, none⟩ v1).setCell ⟨N, 2, none⟩ v2).setCell ⟨N, 3, none⟩ v3).setCell ⟨N, 4, none⟩ v4).setCell ⟨N, 5, none⟩ v5).heap[N]? = some (.cells #[v0, v1, v2, v3, v4, v5] T) := by
  simp [World.setCell, Array.getElem?_modify, h]
set_option maxRecDepth 100000 in
theorem results_prob {N : Nat} {w : World} {tmps : Array Value} {v : Value} {c0 c1 c2 c3 c4 c5 : Value} (hp : tmps.getD 6 undef = .pointer (some ⟨N, 0, none⟩)) (hv : tmps.getD 7 undef = v) (h : w.heap[N]? = some (.cells #[c0, c1, c2, c3, c4, c5] 125)) :
    (results Tryd.f61 tmps).run Tryd.prog w = .ok (.tuple #[.agg #[c0, c1, c2, c3, c4, c5], v]) w := by
  obtain ⟨⟨p0, p1⟩, ⟨p2, p3⟩, ⟨p4, p5⟩, ⟨p6, p7⟩, ⟨p8, p9⟩, ⟨p10, p11⟩⟩ := cells6 h
  rw [results_ct rfl, hp, hv]
  go_simp
/-- The problem's box and the row of what is ahead, both new. -/
def Pb0 (t : Int) (x : SX) (s : SD) (n gc : Nat) (wr : World) (v : Value) (wx : World) : Prop :=
  ∃ bp gb, v = .pointer (some ⟨bp, 0, none⟩) ∧ wx.heap[bp]? = some (.cells (probC t x s n 0 gc gb) 125) ∧ Ints wx gb n (fun _ => 0) ∧ bp ≠ gb ∧ wr.heap.size ≤ bp ∧ wr.heap.size ≤ gb ∧ gb < wx.heap.size ∧ Below wr.heap.size wr wx
theorem CallsAt.high {hs : List EvD} {w w' : World} {base : Option Addr} {g B : Nat} {l : List (Sp × Value)} (h : CallsAt hs w base g l) (hz : w.heap.size ≤ w'.heap.size) (hb : ∀ k, B ≤ k → k < w.heap.size → w'.heap[k]? = w.heap[k]?) (hg : B ≤ g) : CallsAt hs w' base g l := by
  refine ⟨h.base, fun hn => Nat.lt_of_lt_of_le (h.lt hn) hz, fun k x hx i hi => ?_⟩
  have hl : l.length ≠ 0 := by have := (List.getElem?_eq_some_iff.1 hx).1; omega
  exact (World.cell?_of_block (a := ⟨g, _, none⟩) (hb g hg (h.lt hl))).trans (h.cells k x hx i hi)
theorem OwnP.high {w w' : World} {B B' : Nat} {ps : PL} {v : Value} (h : OwnP w B' ps v) (hz : w.heap.size ≤ w'.heap.size) (hb : ∀ k, B ≤ k → k < w.heap.size → w'.heap[k]? = w.heap[k]?) (hg : B ≤ B') : OwnP w' B' ps v := by
  obtain ⟨a, g, cap, e, h1, h2, h3⟩ := h
  exact ⟨a, g, cap, e, h1, h2.high hz hb (fun q => Nat.le_trans hg (h1 q)), h3⟩
theorem Ints.to {w : World} {g n : Nat} {f f' : Nat → Int} (h : Ints w g n f) (e : ∀ j, j < n → f j = f' j) : Ints w g n f' := fun j hj => by rw [← e j hj]; exact h j hj
theorem heap_six (w : World) {N k : Nat} (hk : k ≠ N) (v0 v1 v2 v3 v4 v5 : Value) : ((((((w.setCell ⟨N, 0, none⟩ v0).setCell ⟨N, 1, none⟩ v1).setCell ⟨N, 2, none⟩ v2).setCell ⟨N, 3, none⟩ v3).setCell ⟨N, 4, none⟩ v4).setCell ⟨N, 5, none⟩ v5).heap[k]? = w.heap[k]? := by
  have key : ∀ (W : World) (j : Nat) (v : Value), (W.setCell ⟨N, j, none⟩ v).heap[k]? = W.heap[k]? := fun W j v => Below.heap_setCell W _ _ k hk
  rw [key, key, key, key, key, key]
theorem ahd_not {a b : Sp} (h : a.2 = -1) : ahd a b = false := by simp [ahd, h]
theorem ahd_lt {a b : Sp} (h : 0 ≤ a.2) : ahd a b = decide (a.2 < b.1) := by
  have : a.2 ≠ -1 := by omega
  simp [ahd, this]
theorem retN_next {sp : List Sp} {j : Nat} (hj : j < 16) (h : (spAt sp j).2 ≠ -1) : bits .or .i64 (retN sp j : Int) (wrap64 ((2 : Int) ^ j)) = (retN sp (j + 1) : Int) := by
  rw [or_pow (by omega) (retN_small sp j (by omega))]
  simp only [retN]
  rw [if_neg h]
theorem prob_set {w : World} {bp n gc gb : Nat} {t : Int} {x : SX} {s : SD} {R R' : Int} (h : w.heap[bp]? = some (.cells (probC t x s n R gc gb) 125)) : (w.setCell ⟨bp, 4, none⟩ (.int .i64 R')).heap[bp]? = some (.cells (probC t x s n R' gc gb) 125) := by
  simp [World.setCell, Array.getElem?_modify, h, probC]
theorem ints_made (w : World) (n : Nat) (T : TypeId) : Ints (w.alloc (.cells (madeCells #[.int .i64 0] n) T)) w.heap.size n (fun _ => 0) := fun j hj => by
  have := Vals.made w n T (.int .i64 0) j hj
  exact this
theorem pb_a (t : Int) (x : SX) (s : SD) (n gc : Nat) (wr : World) : Pb0 t x s n gc wr (.pointer (some ⟨wr.heap.size + 1, 0, none⟩)) ((wr.alloc (.cells (madeCells #[.int .i64 0] n) 3)).alloc (.cells (probC t x s n 0 gc wr.heap.size) 125)).drew :=
  ⟨_, wr.heap.size, rfl, heap_alloc_at _ _ _ (by simp), fun j hj => by
    have := (ints_made wr n 3).below (by simp) (below_alloc _ (.cells (probC t x s n 0 gc wr.heap.size) 125)) j hj
    exact this, by omega, by omega, Nat.le_refl _, by show wr.heap.size < (World.alloc _ _).heap.size; simp; omega, (two_blocks _ _ _ _ _).drew⟩
theorem pb_b (t : Int) (x : SX) (s : SD) (n gc : Nat) (wr : World) : Pb0 t x s n gc wr (.pointer (some ⟨wr.heap.size, 0, none⟩)) ((wr.alloc (.cells (probC t x s n 0 gc (wr.heap.size + 1)) 125)).alloc (.cells (madeCells #[.int .i64 0] n) 3)).drew :=
  ⟨_, wr.heap.size + 1, rfl, (heap_alloc_old _ _ (by simp)).trans (heap_alloc_at _ _ _ rfl), fun j hj => by
    have := ints_made (wr.alloc (.cells (probC t x s n 0 gc (wr.heap.size + 1)) 125)) n 3 j hj
    simpa using this, by omega, Nat.le_refl _, by omega, by show wr.heap.size + 1 < (World.alloc _ _).heap.size; simp, (two_blocks _ _ _ _ _).drew⟩
theorem span_to {hs : List EvD} (he : hErr hs = 0) {k : Nat} (hk : k < (spansL hs).length) : (spAt (spansL hs) k).2 = -1 ∨ 0 ≤ (spAt (spansL hs) k).2 := by
  obtain ⟨-, s, hst, hsl⟩ := hErr_zero he
  have hok := stN_ok hst
  rw [hsl] at hk ⊢
  rcases hok.to k hk with q | q
  · exact Or.inl q
  · right; omega
theorem call_eleven {hs : List EvD} {w : World} {g : Nat} {l : List (Sp × Value)} {sp : List Sp} (h : CallsAt hs w (some ⟨g, 0, none⟩) g l) (hm : l.map (·.1) = sp) {B : Nat} (ho : ∀ y ∈ l, OwnP w B (retOf hs y.1).pairs y.2) {k : Nat} (hk : k < sp.length) :
    ∃ a q c, PairsAt w a q 0 (retOf hs (spAt sp k)).pairs ∧ (a = none → c = 0) ∧ (((retOf hs (spAt sp k)).pairs.length ≠ 0 → B ≤ q)) ∧ w.cell? ⟨g, k * 11, none⟩ = some (.int .i64 (evAt hs (spAt sp k).1).th) ∧ w.cell? ⟨g, k * 11 + 1, none⟩ = some (.int .i64 (cOp hs sp k).kind) ∧ w.cell? ⟨g, k * 11 + 2, none⟩ = some (.int .i64 (cOp hs sp k).key) ∧ w.cell? ⟨g, k * 11 + 3, none⟩ = some (.int .i64 (cOp hs sp k).val) ∧ w.cell? ⟨g, k * 11 + 4, none⟩ = some (.int .i64 (cOp hs sp k).hi) ∧ w.cell? ⟨g, k * 11 + 5, none⟩ = some (.bool (retOf hs (spAt sp k)).ok) ∧ w.cell? ⟨g, k * 11 + 6, none⟩ = some (.int .i64 (retOf hs (spAt sp k)).key) ∧ w.cell? ⟨g, k * 11 + 7, none⟩ = some (.int .i64 (retOf hs (spAt sp k)).val) ∧ w.cell? ⟨g, k * 11 + 8, none⟩ = some (.slice a (retOf hs (spAt sp k)).pairs.length c) ∧ w.cell? ⟨g, k * 11 + 9, none⟩ = some (.int .i64 (spAt sp k).1) ∧ w.cell? ⟨g, k * 11 + 10, none⟩ = some (.int .i64 (spAt sp k).2) := by
  obtain ⟨v, -, ⟨y, hy, e1, e2⟩, hc⟩ := call_cells h hm hk
  obtain ⟨a, q, c, e, hB, hp, hn⟩ := ho y hy
  rw [e1] at e hp hB
  rw [e2] at e
  subst e
  refine ⟨a, q, c, hp, hn, hB, ?_⟩
  have q0 := hc 0 (by omega)
  have q1 := hc 1 (by omega)
  have q2 := hc 2 (by omega)
  have q3 := hc 3 (by omega)
  have q4 := hc 4 (by omega)
  have q5 := hc 5 (by omega)
  have q6 := hc 6 (by omega)
  have q7 := hc 7 (by omega)
  have q8 := hc 8 (by omega)
  have q9 := hc 9 (by omega)
  have q10 := hc 10 (by omega)
  simp only [callC, List.getElem?_cons_succ, List.getElem?_cons_zero, Nat.add_zero] at q0 q1 q2 q3 q4 q5 q6 q7 q8 q9 q10
  exact ⟨q0, q1, q2, q3, q4, q5, q6, q7, q8, q9, q10⟩
/-- In the second loop, an operation's box in hand. -/
def Pb3 (t : Int) (x : SX) (s : SD) (sp : List Sp) (gc gb bp zb : Nat) (te : Int) (j : Nat) (f : Nat → Int) (wr wx : World) : Prop :=
  Below wr.heap.size wr wx ∧ zb < wx.heap.size ∧ wx.cell? ⟨zb, 10, none⟩ = some (.int .i64 te) ∧ wx.heap[bp]? = some (.cells (probC t x s sp.length (retN sp j) gc gb) 125) ∧ Ints wx gb sp.length f
theorem Pb3.drew {t : Int} {x : SX} {s : SD} {sp : List Sp} {gc gb bp zb : Nat} {te : Int} {j : Nat} {f : Nat → Int} {wr wx : World} (h : Pb3 t x s sp gc gb bp zb te j f wr wx) : Pb3 t x s sp gc gb bp zb te j f wr wx.drew := ⟨h.1.drew, h.2⟩
theorem Pb3.ret {t : Int} {x : SX} {s : SD} {sp : List Sp} {gc gb bp zb : Nat} {te : Int} {j : Nat} {f : Nat → Int} {wr wx : World} (h : Pb3 t x s sp gc gb bp zb te j f wr wx) (h1 : wr.heap.size ≤ bp) (h2 : bp ≠ zb) (h3 : bp ≠ gb) {R : Int} (hR : R = (retN sp (j + 1) : Int)) : Pb3 t x s sp gc gb bp zb te (j + 1) f wr (wx.setCell ⟨bp, 4, none⟩ (.int .i64 R)) := by
  subst hR
  refine ⟨h.1.setCell h1 _, by simp; exact h.2.1, ?_, prob_set h.2.2.2.1, h.2.2.2.2.apart _ _ _ h3⟩
  exact (World.cell?_setCell_other _ _ _ _ (fun q => by have := congrArg Addr.block q; simp at this; omega)).trans h.2.2.1
theorem Pb3.low {t : Int} {x : SX} {s : SD} {sp : List Sp} {gc gb bp zb : Nat} {te : Int} {j : Nat} {f : Nat → Int} {wr wx wy : World} (h : Pb3 t x s sp gc gb bp zb te j f wr wx) (hb : Below wx.heap.size wx wy) (hgb : gb < wx.heap.size) : Pb3 t x s sp gc gb bp zb te j f wr wy :=
  ⟨h.1.trans (hb.mono h.1.size), Nat.lt_of_lt_of_le h.2.1 hb.size, (hb.cell (p := ⟨zb, 10, none⟩) h.2.1).trans h.2.2.1, (hb.block _ (Array.getElem?_eq_some_iff.1 h.2.2.2.1).1).trans h.2.2.2.1, h.2.2.2.2.below hgb hb⟩
theorem Pb3.bit {t : Int} {x : SX} {s : SD} {sp : List Sp} {gc gb bp zb : Nat} {te : Int} {j : Nat} {f : Nat → Int} {wr wx : World} (h : Pb3 t x s sp gc gb bp zb te j f wr wx) (h1 : wr.heap.size ≤ gb) (h2 : gb ≠ zb) (h3 : bp ≠ gb) {k : Nat} (hk : k < sp.length) (R : Int) : Pb3 t x s sp gc gb bp zb te j (fun i => if i = k then R else f i) wr (wx.setCell ⟨gb, k, none⟩ (.int .i64 R)) := by
  refine ⟨h.1.setCell h1 _, by simp; exact h.2.1, ?_, ?_, h.2.2.2.2.set k R hk⟩
  · exact (World.cell?_setCell_other _ _ _ _ (fun q => by have := congrArg Addr.block q; simp at this; omega)).trans h.2.2.1
  · exact (Below.heap_setCell _ _ _ _ h3).trans h.2.2.2.1
theorem prob_fin {t : Int} {x : SX} {s : SD} {hs : List EvD} {w W : World} {sp : List Sp} {gc gb : Nat} (hsp : sp = spansL hs) (hE : pErr t s hs = 0) (l8 : sp.length ≤ 8) (hs0 : 0 = sErr t s) (hh : hErr hs = 0) (hks : ksC t hs sp = true) (hb : Below w.heap.size w W) (hp : PrAt W w.heap.size x s hs sp gc gb) : ProbP t x s hs w (.returned (.tuple #[.agg (probC t x s sp.length (retN sp sp.length) gc gb), .int .i64 0])) W := by
  subst hsp
  exact ⟨hb, Or.inr ⟨hE, l8, hs0.symm, hh, hks, gc, gb, rfl, hp⟩⟩
theorem pr_end {w wz : World} {N gc gb : Nat} {x : SX} {s : SD} {hs : List EvD} {sp : List Sp} {l : List (Sp × Value)} (hN : N = w.heap.size + 1) (h0 : StAt w x s) (hb : Below w.heap.size w wz) (hc : CallsAt hs wz (some ⟨gc, 0, none⟩) gc l) (hm : l.map (·.1) = sp) (ho : ∀ y ∈ l, OwnP wz (gc + 1) (retOf hs y.1).pairs y.2) (hgc : N < gc) (hgb : N < gb) (hgcl : gc < wz.heap.size) (hgbl : gb < wz.heap.size) (hi : Ints wz gb sp.length (fun i => (befN sp i sp.length : Int))) (v0 v1 v2 v3 v4 v5 : Value) : PrAt ((((((wz.setCell ⟨N, 0, none⟩ v0).setCell ⟨N, 1, none⟩ v1).setCell ⟨N, 2, none⟩ v2).setCell ⟨N, 3, none⟩ v3).setCell ⟨N, 4, none⟩ v4).setCell ⟨N, 5, none⟩ v5) w.heap.size x s hs sp gc gb := by
  have hk : ∀ k, N + 1 ≤ k → k < wz.heap.size → ((((((wz.setCell ⟨N, 0, none⟩ v0).setCell ⟨N, 1, none⟩ v1).setCell ⟨N, 2, none⟩ v2).setCell ⟨N, 3, none⟩ v3).setCell ⟨N, 4, none⟩ v4).setCell ⟨N, 5, none⟩ v5).heap[k]? = wz.heap[k]? := fun k q _ => heap_six wz (by omega) v0 v1 v2 v3 v4 v5
  have hz : ((((((wz.setCell ⟨N, 0, none⟩ v0).setCell ⟨N, 1, none⟩ v1).setCell ⟨N, 2, none⟩ v2).setCell ⟨N, 3, none⟩ v3).setCell ⟨N, 4, none⟩ v4).setCell ⟨N, 5, none⟩ v5).heap.size = wz.heap.size := by simp
  have hle : w.heap.size ≤ N := by omega
  refine ⟨h0.below ((((((hb.setCell hle _).setCell hle _).setCell hle _).setCell hle _).setCell hle _).setCell hle _), ⟨l, hm, hc.high (by omega) hk (by omega), fun y hy => (ho y hy).high (by omega) hk (by omega)⟩, by omega, by omega, fun i hi' => ?_, by omega, by omega⟩
  have e := hk gb (by omega) hgbl
  exact (World.cell?_of_block (a := ⟨gb, i, none⟩) e).trans (hi i hi').1
set_option maxRecDepth 100000 in
set_option maxHeartbeats 4000000 in
theorem prob_any (t : Int) (x : SX) (s : SD) (base : Option Addr) (b o c : Nat) (hs : List EvD) (pb : Nat → Option Addr) (pc pg po : Nat → Nat) (w : World) (h : StAt w x s) (hkd : KdAt w) (hev : EvsAt w base b o hs pb pc pg po) :
    Calls Tryd.prog 61 #[.int .i64 t, x.v s, .slice base hs.length c] w (ProbP t x s hs w) := by
  obtain ⟨W0, hW0⟩ : ∃ W0, W0 = (w.alloc (.cells #[.slice x.va s.vals.length x.vc, .slice x.pa s.prs.length x.pc] 31)).alloc (.cells prob0 125) := ⟨_, rfl⟩
  have b0 : Below w.heap.size w W0 := by rw [hW0]; exact two_blocks _ _ _ _ _
  have B0 : Hid (Below w.heap.size w W0) := b0
  have z0 : W0.heap.size = w.heap.size + 2 := by rw [hW0]; simp
  have RP : Hid (W0.heap[w.heap.size + 1]? = some (.cells prob0 125)) := by
    show W0.heap[w.heap.size + 1]? = _
    rw [hW0]; exact heap_alloc_at _ _ _ (by simp)
  have R0 : Hid (W0.heap[w.heap.size]? = some (.cells #[.slice x.va s.vals.length x.vc, .slice x.pa s.prs.length x.pc] 31)) := by
    show W0.heap[w.heap.size]? = _
    rw [hW0]; exact (heap_alloc_old _ _ (by simp)).trans (heap_alloc_at _ _ _ rfl)
  obtain ⟨⟨a0, _⟩, ⟨a1, _⟩⟩ := cells2 R0.out
  have CK : Hid (Calls Tryd.prog 12 #[.int .i64 t, .agg #[.slice x.va s.vals.length x.vc, .slice x.pa s.prs.length x.pc]] W0 fun e w' => e = .returned (.int .i64 (sErr t s)) ∧ Below W0.heap.size W0 w') := scheck_any t x s W0 (h.below b0)
  have HST : Hid (StAt w x s) := h
  have HKD : Hid (KdAt w) := hkd
  have HEV : Hid (EvsAt w base b o hs pb pc pg po) := hev
  have PE : Hid (sErr t s ≠ 0 → pErr t s hs = sErr t s) := fun q => if_pos q
  have PF : Hid (sErr t s = 0 → hErr hs ≠ 0 → pErr t s hs = 3) := fun q q2 => by unfold pErr; rw [if_neg (by simp [q]), if_pos q2]
  have PK : Hid (sErr t s = 0 → hErr hs = 0 → ksC t hs (spansL hs) = false → pErr t s hs = 5) := fun q q2 q3 => by unfold pErr; rw [if_neg (by simp [q]), if_neg (by simp [q2]), if_neg (by simp [q3])]
  have PB : Hid (sErr t s = 0 → hErr hs = 0 → ksC t hs (spansL hs) = true → 8 < (spansL hs).length → pErr t s hs = 2) := fun q q2 q3 q4 => by unfold pErr; rw [if_neg (by simp [q]), if_neg (by simp [q2]), if_pos q3, if_pos q4]
  have PZ : Hid (sErr t s = 0 → hErr hs = 0 → ksC t hs (spansL hs) = true → (spansL hs).length ≤ 8 → pErr t s hs = 0) := fun q q2 q3 q4 => by unfold pErr; rw [if_neg (by simp [q]), if_neg (by simp [q2]), if_pos q3, if_neg (by omega)]
  have T5 : Hid (sErr t s = 0 → 1 ≤ t ∧ t ≤ 5) := fun q => (sErr_zero.1 q).1
  have HZ6 : Hid (∀ (W : World), Below W0.heap.size W0 W → ((W.cell? ⟨w.heap.size + 1, 0, none⟩ = some (.int .i64 0) ∧ W.frozen? ⟨w.heap.size + 1, 0, none⟩ = false) ∧ (W.cell? ⟨w.heap.size + 1, 1, none⟩ = some (.slice none 0 0) ∧ W.frozen? ⟨w.heap.size + 1, 1, none⟩ = false) ∧ (W.cell? ⟨w.heap.size + 1, 2, none⟩ = some (.slice none 0 0) ∧ W.frozen? ⟨w.heap.size + 1, 2, none⟩ = false) ∧ (W.cell? ⟨w.heap.size + 1, 3, none⟩ = some (.slice none 0 0) ∧ W.frozen? ⟨w.heap.size + 1, 3, none⟩ = false) ∧ (W.cell? ⟨w.heap.size + 1, 4, none⟩ = some (.int .i64 0) ∧ W.frozen? ⟨w.heap.size + 1, 4, none⟩ = false) ∧ (W.cell? ⟨w.heap.size + 1, 5, none⟩ = some (.slice none 0 0) ∧ W.frozen? ⟨w.heap.size + 1, 5, none⟩ = false))) := fun W hW => cells6 ((hW.block _ (by omega)).trans RP.out)
  have FIN : Hid (∀ (W : World) (E : Int), Below w.heap.size w W → pErr t s hs = E → E ≠ 0 → ProbP t x s hs w (.returned (.tuple #[.agg prob0, .int .i64 E])) W) := by
    intro W E hW hE hn
    exact ⟨hW, Or.inl ⟨by rw [hE]; exact hn, by rw [hE]⟩⟩
  have SIX : Hid (∀ (W : World) (v0 v1 v2 v3 v4 v5 : Value), Below w.heap.size w W → Below w.heap.size w ((((((W.setCell ⟨w.heap.size + 1, 0, none⟩ v0).setCell ⟨w.heap.size + 1, 1, none⟩ v1).setCell ⟨w.heap.size + 1, 2, none⟩ v2).setCell ⟨w.heap.size + 1, 3, none⟩ v3).setCell ⟨w.heap.size + 1, 4, none⟩ v4).setCell ⟨w.heap.size + 1, 5, none⟩ v5)) := by
    intro W v0 v1 v2 v3 v4 v5 hW
    exact (((((hW.setCell (Nat.le_succ _) _).setCell (Nat.le_succ _) _).setCell (Nat.le_succ _) _).setCell (Nat.le_succ _) _).setCell (Nat.le_succ _) _).setCell (Nat.le_succ _) _
  obtain ⟨E, hE⟩ : ∃ E, E = sErr t s := ⟨_, rfl⟩
  have HE : Hid (E = sErr t s) := hE
  simp only [← hE] at CK PE PF PK PB PZ T5
  unfold SX.v
  simp only [prob0] at hW0
  clear h hkd hev hE b0
  by_cases h0 : E = 0
  · subst h0
    obtain ⟨t1, t5⟩ := T5.out rfl
    have HK1 : Hid (∀ k W, KdAt W → Calls Tryd.prog 91 #[.int .i64 t, .int .i64 k] W fun e w' => e = .returned (.bool (kOk t k)) ∧ W = w') := fun k W hW => hasKind_any t k W hW t1 t5
    by_cases hh : hErr hs = 0
    · have CL : Hid (∀ W, Below w.heap.size w W → Calls Tryd.prog 35 #[.slice base hs.length c] W fun e w' => ∃ g l, e = .returned (.tuple #[.slice (some ⟨g, 0, none⟩) (spansL hs).length (spansL hs).length, .int .i64 0]) ∧ Below W.heap.size W w' ∧ W.heap.size ≤ g ∧ g < w'.heap.size ∧ l.map (·.1) = spansL hs ∧ CallsAt hs w' (some ⟨g, 0, none⟩) g l ∧ ∀ y ∈ l, OwnP w' (g + 1) (retOf hs y.1).pairs y.2) := fun W hW => by
        refine (Calls_fz base b o c hs pb pc pg po W (HEV.out.below hW)).mono ?_
        rintro e w' ⟨v, rfl, hb, -, hz⟩
        obtain ⟨g, l, hg, hgl, rfl, hm, hc, ho, -⟩ := hz hh
        exact ⟨g, l, by rw [hh], hb, hg, hgl, hm, hc, ho⟩
      have HH : Hid (hErr hs = 0) := hh
      have SPT : Hid (∀ k, k < (spansL hs).length → (spAt (spansL hs) k).2 = -1 ∨ 0 ≤ (spAt (spansL hs) k).2) := fun k hk => span_to hh hk
      have PK1 : Hid (ksC t hs (spansL hs) = false → pErr t s hs = 5) := PK.out rfl hh
      have PB1 : Hid (ksC t hs (spansL hs) = true → 8 < (spansL hs).length → pErr t s hs = 2) := PB.out rfl hh
      have PZ1 : Hid (ksC t hs (spansL hs) = true → (spansL hs).length ≤ 8 → pErr t s hs = 0) := PZ.out rfl hh
      have KO : Hid (∀ i, cOp hs (spansL hs) i = (evAt hs (spAt (spansL hs) i).1).op) := fun i => rfl
      have LS : Hid ((spansL hs).length ≤ 100000) := by
        obtain ⟨hl, s', hst, hsl⟩ := hErr_zero hh
        have := (stN_ok hst).len
        show _ ≤ _
        rw [hsl]; omega
      obtain ⟨sp, hsp⟩ : ∃ sp, sp = spansL hs := ⟨_, rfl⟩
      have HSP : Hid (sp = spansL hs) := hsp
      simp only [← hsp] at CL SPT PK1 PB1 PZ1 KO LS
      clear PE PF PK PB PZ T5 t1 t5 hh hsp
      go_enter Tryd.func61, Tryd.ntmps61
      go_upto_region 1 with fail
      rw [← hW0]
      clear hW0
      go_wp2_with (first | (go_at_call 12; refine CK.out.mono ?_; rintro e w1 ⟨rfl, hb1⟩; have BB1 : Hid (Below W0.heap.size W0 w1) := hb1; have B1 : Hid (Below w.heap.size w w1) := B0.out.trans (hb1.mono B0.out.size); clear hb1) | (go_at_call 35; refine (CL.out _ B1.out).mono ?_; rintro e w2 ⟨gc, l, rfl, hb2, hg2, hl2, hm2, hc2, ho2⟩; have B2 : Hid (Below w.heap.size w w2) := B1.out.trans (hb2.mono B1.out.size); have BB2 : Hid (Below W0.heap.size W0 w2) := BB1.out.trans (hb2.mono BB1.out.size); have CA2 : Hid (CallsAt hs w2 (some ⟨gc, 0, none⟩) gc l ∧ l.map (·.1) = sp ∧ (∀ y ∈ l, OwnP w2 (gc + 1) (retOf hs y.1).pairs y.2) ∧ gc < w2.heap.size ∧ W0.heap.size ≤ gc) := ⟨hc2, hm2, ho2, hl2, Nat.le_trans BB1.out.size hg2⟩; clear hb2 hg2 hl2 hm2 hc2 ho2))
      go_loopw [35] (fun i wr => ∃ j : Nat, j ≤ sp.length ∧ i = .int .i64 j ∧ (∀ k, k < j → kOk t (cOp hs sp k).kind = true) ∧ Below w2.heap.size w2 wr) (fun i _ => sp.length - (intOf i).toNat)
      case atStart => exact ⟨0, Nat.zero_le _, rfl, fun k q => by omega, Below.refl _ _⟩
      case round =>
        obtain ⟨j, hj, rfl, hall, hb⟩ := hrel
        rename World => wr
        have HB : Hid (Below w2.heap.size w2 wr) := hb
        have HA : Hid (∀ k, k < j → kOk t (cOp hs sp k).kind = true) := hall
        clear hb hall
        by_cases hlt : j < sp.length
        · obtain ⟨ca, cq, cc, -, -, -, c0, c1, c2, c3, c4, c5, c6, c7, c8, c9, c10⟩ := call_eleven (CA2.out.1.below HB.out) CA2.out.2.1 (fun y hy => (CA2.out.2.2.1 y hy).below HB.out) hlt
          have hgz : gc < wr.heap.size := Nat.lt_of_lt_of_le CA2.out.2.2.2.1 HB.out.size
          have j0 : (0 : Int) ≤ (j : Int) := Int.natCast_nonneg _
          have j1 : (j : Int) < (sp.length : Int) := by omega
          have lsz : sp.length ≤ 100000 := LS.out
          have NK : Hid (kOk t (cOp hs sp j).kind = true → ∀ k, k < j + 1 → kOk t (cOp hs sp k).kind = true) := fun q k hk => by
            by_cases e : k = j
            · subst e; exact q
            · exact HA.out k (by omega)
          have NN : Hid (kOk t (cOp hs sp j).kind = false → pErr t s hs = 5) := fun q => PK1.out (ksC_not hlt q)
          have K1 : Hid (∀ W, KdAt W → Calls Tryd.prog 91 #[.int .i64 t, .int .i64 (cOp hs sp j).kind] W fun e w' => e = .returned (.bool (kOk t (cOp hs sp j).kind)) ∧ W = w') := HK1.out _
          obtain ⟨F, hF⟩ : ∃ F, F = kOk t (cOp hs sp j).kind := ⟨_, rfl⟩
          simp only [← hF] at NK NN K1
          generalize (cOp hs sp j).kind = t1 at *
          generalize (cOp hs sp j).key = t2 at *
          generalize (cOp hs sp j).val = t3 at *
          generalize (cOp hs sp j).hi = t4 at *
          generalize (evAt hs (spAt sp j).1).th = t0 at *
          generalize (retOf hs (spAt sp j)).ok = t5 at *
          generalize (retOf hs (spAt sp j)).key = t6 at *
          generalize (retOf hs (spAt sp j)).val = t7 at *
          generalize (retOf hs (spAt sp j)).pairs.length = t8 at *
          generalize (spAt sp j).1 = t9 at *
          generalize (spAt sp j).2 = t10 at *
          have KD : Hid (∀ cs T, KdAt (wr.alloc (.cells cs T))) := fun cs T => HKD.out.below ((B2.out.trans (HB.out.mono B2.out.size)).alloc (by have := B2.out.size; have := HB.out.size; omega) _)
          have zA : W0.heap.size ≤ wr.heap.size := Nat.le_trans BB2.out.size HB.out.size
          clear hF
          cases F
          · have EN : Hid (pErr t s hs = 5) := NN.out rfl
            clear NN NK
            obtain ⟨⟨p0, p1⟩, ⟨p2, p3⟩, ⟨p4, p5⟩, ⟨p6, p7⟩, ⟨p8, p9⟩, ⟨p10, p11⟩⟩ := HZ6.out wr (BB2.out.trans (HB.out.mono BB2.out.size))
            have hzz : w.heap.size + 1 < wr.heap.size := by omega
            as_aux_lemma =>
              go_wp2_with (first | (go_at_call 91; refine (K1.out _ (KD.out _ _)).mono ?_; rintro e w3 ⟨rfl, rfl⟩))
              refine bodyPost_ret (v := .tuple #[.agg prob0, .int .i64 5]) ?_ rfl ?_
              · exact results_prob rfl rfl ((heap_alloc_old _ _ (by simp; omega)).trans (heap6_set ((BB2.out.trans (HB.out.mono BB2.out.size)).block _ (by omega) |>.trans RP.out) _ _ _ _ _ _))
              · exact FIN.out _ _ ((SIX.out _ _ _ _ _ _ _ (B2.out.trans (HB.out.mono B2.out.size))).alloc (by simp; omega) _) EN.out (by decide)
          · as_aux_lemma =>
              go_wp2_with (first | (go_at_call 91; refine (K1.out _ (KD.out _ _)).mono ?_; rintro e w3 ⟨rfl, rfl⟩))
              exact ⟨⟨j + 1, by omega, by go_num, NK.out (by simp), HB.out.alloc HB.out.size _⟩, by simp [intOf]; omega⟩
        · have hks : Hid (ksC t hs sp = true) := ksC_iff.2 (fun i hi => HA.out i (by omega))
          obtain rfl : j = sp.length := by omega
          have hgz : gc < wr.heap.size := Nat.lt_of_lt_of_le CA2.out.2.2.2.1 HB.out.size
          have zA : W0.heap.size ≤ wr.heap.size := Nat.le_trans BB2.out.size HB.out.size
          have BBR : Hid (Below W0.heap.size W0 wr) := BB2.out.trans (HB.out.mono BB2.out.size)
          have BR : Hid (Below w.heap.size w wr) := B2.out.trans (HB.out.mono B2.out.size)
          have CAR : Hid (CallsAt hs wr (some ⟨gc, 0, none⟩) gc l ∧ l.map (·.1) = sp ∧ (∀ y ∈ l, OwnP wr (gc + 1) (retOf hs y.1).pairs y.2)) := ⟨CA2.out.1.below HB.out, CA2.out.2.1, fun y hy => (CA2.out.2.2.1 y hy).below HB.out⟩
          have gcB : W0.heap.size ≤ gc := CA2.out.2.2.2.2
          clear HK1 CL PK1 CA2 HB HA hlt hj CK
          by_cases h8 : 8 < sp.length
          · have EN : Hid (pErr t s hs = 2) := PB1.out hks.out h8
            have n8 : (8 : Int) < (sp.length : Int) := by omega
            have n8' : (sp.length : Int) > 8 := by omega
            have RPR : Hid (wr.heap[w.heap.size + 1]? = some (.cells prob0 125)) := (BBR.out.block _ (by omega)).trans RP.out
            obtain ⟨⟨p0, p1⟩, ⟨p2, p3⟩, ⟨p4, p5⟩, ⟨p6, p7⟩, ⟨p8, p9⟩, ⟨p10, p11⟩⟩ := cells6 RPR.out
            as_aux_lemma =>
              go_wp2_with fail
              refine bodyPost_ret (v := .tuple #[.agg prob0, .int .i64 2]) ?_ rfl ?_
              · exact results_prob rfl rfl (heap6_set RPR.out _ _ _ _ _ _)
              · exact FIN.out _ _ (SIX.out _ _ _ _ _ _ _ BR.out) EN.out (by decide)
          · have n8 : ¬ (8 : Int) < (sp.length : Int) := by omega
            have l8 : sp.length ≤ 8 := by omega
            have EZ : Hid (pErr t s hs = 0) := PZ1.out hks.out l8
            have MK : ∀ w : World, (Instr.makeSlice 22 (.int .i64 sp.length) (.int .i64 sp.length)).run Tryd.prog w = .ok (.slice (some ⟨w.heap.size, 0, none⟩) sp.length sp.length) (w.alloc (.cells (madeCells #[.int .i64 0] sp.length) 3)) := fun w => by
              have := run_make_known (P := Tryd.prog) 22 3 (.int .i64 0) 1 8 ints_under int_info sp.length (by omega) (by omega) w
              rw [Nat.mul_one] at this
              exact this
            have HR0 : wr.heap[w.heap.size]? = some (.cells #[.slice x.va s.vals.length x.vc, .slice x.pa s.prs.length x.pc] 31) := (BBR.out.block _ (by omega)).trans R0.out
            obtain ⟨⟨s0, _⟩, ⟨s1, _⟩⟩ := cells2 HR0
            have hzA : w.heap.size < wr.heap.size := by omega
            have hzB : w.heap.size < wr.heap.size + 1 := by omega
            clear HR0 PB1 PZ1 a0 a1 B0 B1 BB1 B2 BB2
            · go_upto_region 15 with fail
              go_cut [13] from 51 to 57 (fun v13 wx => Pb0 t x s sp.length gc wr v13 wx)
              case first =>
                clear HST HKD HEV HZ6 FIN SIX RP R0 SPT KO HSP HH LS gcB BBR BR CAR hks EZ zA hgz
                as_aux_lemma =>
                  go_region
                  all_goals go_wp2_with fail
                  all_goals go_meet
                  all_goals first | exact pb_a _ _ _ _ _ _ | exact pb_b _ _ _ _ _ _
              case rest =>
                obtain ⟨bp, gb, rfl, hbp, hin, hne, hbp0, hgb0, hgb1, hbx⟩ := hcut
                have HBP : Hid (wc.heap[bp]? = some (.cells (probC t x s sp.length 0 gc gb) 125)) := hbp
                have HIN : Hid (Ints wc gb sp.length (fun _ => 0)) := hin
                have BX : Hid (Below wr.heap.size wr wc) := hbx
                have BW : Hid (Below w.heap.size w wc) := BR.out.trans (hbx.mono (by omega))
                clear hbp hin hbx s0 s1 MK
                rename World => wc0
                go_wp2_with fail
                go_loopw [60] (fun i wz => ∃ j : Nat, j ≤ sp.length ∧ i = .int .i64 j ∧ Below wr.heap.size wr wz ∧ wc0.heap.size ≤ wz.heap.size ∧ wz.heap[bp]? = some (.cells (probC t x s sp.length (retN sp j) gc gb) 125) ∧ Ints wz gb sp.length (fun i => (befN sp i j : Int))) (fun i _ => sp.length - (intOf i).toNat)
                case atStart => exact ⟨0, Nat.zero_le _, rfl, BX.out, Nat.le_refl _, HBP.out, HIN.out.to (fun i _ => by simp [befN])⟩
                case round =>
                  obtain ⟨j, hj, rfl, hbz, hsz, hbox, hints⟩ := hrel
                  rename World => wz
                  have HZ : Hid (Below wr.heap.size wr wz) := hbz
                  have HBX : Hid (wz.heap[bp]? = some (.cells (probC t x s sp.length (retN sp j) gc gb) 125)) := hbox
                  have HI : Hid (Ints wz gb sp.length (fun i => (befN sp i j : Int))) := hints
                  have bpl : bp < wc0.heap.size := (Array.getElem?_eq_some_iff.1 HBP.out).1
                  have hgz2 : gc < wz.heap.size := Nat.lt_of_lt_of_le hgz HZ.out.size
                  clear hbz hbox hints
                  by_cases hlt : j < sp.length
                  · obtain ⟨ca, cq, cc, -, -, -, c0, c1, c2, c3, c4, c5, c6, c7, c8, c9, c10⟩ := call_eleven (CAR.out.1.below HZ.out) CAR.out.2.1 (fun y hy => (CAR.out.2.2 y hy).below HZ.out) hlt
                    have hret : Hid ((spAt sp j).2 = -1 ∨ 0 ≤ (spAt sp j).2) := SPT.out j hlt
                    have j0 : (0 : Int) ≤ (j : Int) := Int.natCast_nonneg _
                    have j1 : (j : Int) < (sp.length : Int) := by omega
                    generalize (cOp hs sp j).kind = t1 at *
                    generalize (cOp hs sp j).key = t2 at *
                    generalize (cOp hs sp j).val = t3 at *
                    generalize (cOp hs sp j).hi = t4 at *
                    generalize (evAt hs (spAt sp j).1).th = t0 at *
                    generalize (retOf hs (spAt sp j)).ok = t5 at *
                    generalize (retOf hs (spAt sp j)).key = t6 at *
                    generalize (retOf hs (spAt sp j)).val = t7 at *
                    generalize (retOf hs (spAt sp j)).pairs.length = t8 at *
                    generalize hT9 : (spAt sp j).1 = t9 at *
                    generalize hT10 : (spAt sp j).2 = t10 at *
                    have HT9 : Hid ((spAt sp j).1 = t9) := hT9
                    have HT10 : Hid ((spAt sp j).2 = t10) := hT10
                    have HR : ∀ W : World, Calls Tryd.prog 95 #[.agg #[.int .i64 t0, .int .i64 t1, .int .i64 t2, .int .i64 t3, .int .i64 t4, .bool t5, .int .i64 t6, .int .i64 t7, .slice ca t8 cc, .int .i64 t9, .int .i64 t10]] W fun e w' => e = .returned (.bool (decide (0 ≤ t10))) ∧ Below W.heap.size W w' := fun W => hasRet_any _ _ _ _ _ _ _ _ _ _ t10 W
                    clear hT9 hT10
                    by_cases hr : 0 ≤ t10
                    · have hne1 : t10 ≠ -1 := by omega
                      have hdr : decide (0 ≤ t10) = true := decide_eq_true hr
                      rw [hdr] at HR
                      have HX : Hid (bits .or .i64 (retN sp j : Int) (wrap64 ((2 : Int) ^ j)) = (retN sp (j + 1) : Int)) := retN_next (by omega) (by rw [HT10.out]; exact hne1)
                      have HT0 : Hid (0 ≤ t10) := hr
                      clear hret hr hdr hne1
                      go_wp2_with (first | (go_at_call 95; refine (HR _).mono ?_; rintro e w3 ⟨rfl, hb3⟩; have B3 : Hid (Below wz.heap.size wz w3) := (below_alloc _ _).trans (hb3.mono (by simp)); have d0 := (hb3.cell (p := ⟨wz.heap.size, 10, none⟩) (by simp)).trans (cell_new wz _ _ 10); have d1 := hb3.size; clear hb3))
                      have D0 : Hid (w3.cell? ⟨wz.heap.size, 10, none⟩ = some (.int .i64 t10)) := d0
                      have D1 : wz.heap.size < w3.heap.size := by simp at d1; omega
                      have HBX3 : Hid (w3.heap[bp]? = some (.cells (probC t x s sp.length (retN sp j) gc gb) 125)) := (B3.out.block _ (by omega)).trans HBX.out
                      obtain ⟨-, -, -, -, ⟨m4, m4'⟩, -⟩ := cells6 HBX3.out
                      clear d0 d1 c0 c1 c2 c3 c4 c5 c6 c7 c8 c9 c10
                      have P3 : Hid (Pb3 t x s sp gc gb bp wz.heap.size t10 j (fun i => (befN sp i j : Int)) wr w3) := ⟨HZ.out.trans (B3.out.mono HZ.out.size), D1, D0.out, HBX3.out, HI.out.below (by omega) B3.out⟩
                      go_cut [] from 68 to 73 (fun wx => Pb3 t x s sp gc gb bp wz.heap.size t10 (j + 1) (fun i => (befN sp i j : Int)) wr wx)
                      case first =>
                        clear HST HKD HEV HZ6 FIN SIX RP R0 SPT KO HSP HH LS BBR BR CAR hks EZ zA hgz HBP HIN BX BW HZ HBX HI hgz2 HR D0 HBX3 B3
                        as_aux_lemma =>
                          go_region
                          all_goals go_wp2_with fail
                          all_goals go_meet
                          all_goals first | exact (P3.out.ret hbp0 (by omega) hne HX.out).drew | exact P3.out.ret hbp0 (by omega) hne HX.out
                      case rest =>
                        have P4 : Hid (Pb3 t x s sp gc gb bp wz.heap.size t10 (j + 1) (fun i => (befN sp i j : Int)) wr _) := hcut
                        clear hcut P3 D0 D1 HBX3 m4 m4' HX HR
                        go_wp2_with fail
                        go_loopw [76] (fun i wx => ∃ k : Nat, k ≤ sp.length ∧ i = .int .i64 k ∧ Pb3 t x s sp gc gb bp wz.heap.size t10 (j + 1) (fun i => if i < k then (befN sp i (j + 1) : Int) else (befN sp i j : Int)) wr wx) (fun i _ => sp.length - (intOf i).toNat)
                        case atStart => exact ⟨0, Nat.zero_le _, rfl, P4.out⟩
                        case round =>
                          obtain ⟨k, hk, rfl, hp3⟩ := hrel
                          rename World => wy
                          have P5 : Hid (Pb3 t x s sp gc gb bp wz.heap.size t10 (j + 1) (fun i => if i < k then (befN sp i (j + 1) : Int) else (befN sp i j : Int)) wr wy) := hp3
                          have o0 := hp3.2.2.1
                          have zy : wr.heap.size ≤ wy.heap.size := hp3.1.size
                          clear hp3 P4
                          by_cases hlk : k < sp.length
                          · obtain ⟨da, dq, dc, -, -, -, c0, c1, c2, c3, c4, c5, c6, c7, c8, c9, c10⟩ := call_eleven (CAR.out.1.below P5.out.1) CAR.out.2.1 (fun y hy => (CAR.out.2.2 y hy).below P5.out.1) hlk
                            have k0 : (0 : Int) ≤ (k : Int) := Int.natCast_nonneg _
                            have k1 : (k : Int) < (sp.length : Int) := by omega
                            have hgz3 : gc < wy.heap.size := by omega
                            have zbl : wz.heap.size < wy.heap.size := P5.out.2.1
                            generalize (cOp hs sp k).kind = r1 at *
                            generalize (cOp hs sp k).key = r2 at *
                            generalize (cOp hs sp k).val = r3 at *
                            generalize (cOp hs sp k).hi = r4 at *
                            generalize (evAt hs (spAt sp k).1).th = r0 at *
                            generalize (retOf hs (spAt sp k)).ok = r5 at *
                            generalize (retOf hs (spAt sp k)).key = r6 at *
                            generalize (retOf hs (spAt sp k)).val = r7 at *
                            generalize (retOf hs (spAt sp k)).pairs.length = r8 at *
                            generalize hR9 : (spAt sp k).1 = r9 at *
                            generalize (spAt sp k).2 = r10 at *
                            have HR9 : Hid ((spAt sp k).1 = r9) := hR9
                            have HAD : Hid (ahd (spAt sp j) (spAt sp k) = decide (t10 < r9)) := by
                              have e := ahd_lt (a := spAt sp j) (b := spAt sp k) (by rw [HT10.out]; exact HT0.out)
                              rw [HT10.out, HR9.out] at e
                              exact e
                            have NXT : Hid (∀ W, Pb3 t x s sp gc gb bp wz.heap.size t10 (j + 1) (fun i => if i < k + 1 then (befN sp i (j + 1) : Int) else (befN sp i j : Int)) wr W → (∃ k' : Nat, k' ≤ sp.length ∧ (Value.int .i64 ((k : Int) + 1)) = .int .i64 k' ∧ Pb3 t x s sp gc gb bp wz.heap.size t10 (j + 1) (fun i => if i < k' then (befN sp i (j + 1) : Int) else (befN sp i j : Int)) wr W)) := fun W h => ⟨k + 1, by omega, by simp, h⟩
                            clear hR9 hlt
                            by_cases hlt2 : t10 < r9
                            · have HA : Hid (ahd (spAt sp j) (spAt sp k) = true) := by have := HAD.out; rw [decide_eq_true hlt2] at this; exact this
                              have HY : Hid (bits .or .i64 (befN sp k j : Int) (wrap64 ((2 : Int) ^ j)) = (befN sp k (j + 1) : Int)) := befN_next (by omega) HA.out
                              obtain ⟨ik, ik'⟩ := P5.out.2.2.2.2 k hlk
                              simp only [Nat.lt_irrefl, if_false] at ik
                              obtain ⟨-, -, -, -, -, ⟨m5, m5'⟩⟩ := cells6 P5.out.2.2.2.1
                              have bpy : bp < wy.heap.size := (Array.getElem?_eq_some_iff.1 P5.out.2.2.2.1).1
                              have gby : gb < wy.heap.size := by omega
                              clear HAD HA
                              go_upto_region 25 with fail
                              have NB : Hid (∀ (R : Int) (W : World), Pb3 t x s sp gc gb bp wz.heap.size t10 (j + 1) (fun i => if i < k then (befN sp i (j + 1) : Int) else (befN sp i j : Int)) wr W → R = (befN sp k (j + 1) : Int) → Pb3 t x s sp gc gb bp wz.heap.size t10 (j + 1) (fun i => if i < k + 1 then (befN sp i (j + 1) : Int) else (befN sp i j : Int)) wr (W.setCell ⟨gb, k, none⟩ (.int .i64 R))) := fun R W hW hR => by
                                subst hR
                                have q := hW.bit hgb0 (by omega) hne hlk (befN sp k (j + 1) : Int)
                                refine ⟨q.1, q.2.1, q.2.2.1, q.2.2.2.1, q.2.2.2.2.to (fun i _ => ?_)⟩
                                by_cases e : i = k
                                · subst e
                                  rw [if_pos rfl, if_pos (by omega)]
                                · rw [if_neg e]
                                  by_cases e2 : i < k
                                  · rw [if_pos e2, if_pos (by omega)]
                                  · rw [if_neg e2, if_neg (by omega)]
                              clear HST HKD HEV HZ6 FIN SIX RP R0 SPT KO HSP HH LS BBR BR CAR hks EZ zA hgz HBP HIN BX BW HZ HBX HI hgz2 NXT c0 c1 c2 c3 c4 c5 c6 c7 c8 c9 c10 o0
                              as_aux_lemma =>
                                go_region
                                all_goals go_wp2_with fail
                                all_goals exact ⟨⟨k + 1, by omega, by go_num, by first | exact ((NB.out _ _ P5.out HY.out).low (below_alloc _ _) (by simp; omega)).drew | exact (NB.out _ _ P5.out HY.out).low (below_alloc _ _) (by simp; omega)⟩, by simp [intOf]; omega⟩
                            · have HA : Hid (ahd (spAt sp j) (spAt sp k) = false) := by have := HAD.out; rw [decide_eq_false hlt2] at this; exact this
                              have NN : Hid (∀ W, Below wy.heap.size wy W → Pb3 t x s sp gc gb bp wz.heap.size t10 (j + 1) (fun i => if i < k + 1 then (befN sp i (j + 1) : Int) else (befN sp i j : Int)) wr W) := fun W hW => by
                                have q := P5.out.low hW (by omega)
                                refine ⟨q.1, q.2.1, q.2.2.1, q.2.2.2.1, q.2.2.2.2.to (fun i _ => ?_)⟩
                                by_cases e : i < k
                                · rw [if_pos e, if_pos (by omega)]
                                · rw [if_neg e]
                                  by_cases e2 : i = k
                                  · subst e2
                                    rw [if_pos (by omega), befN_stay HA.out]
                                  · rw [if_neg (by omega)]
                              clear HAD HA
                              as_aux_lemma =>
                                go_wp2_with fail
                                exact ⟨⟨k + 1, by omega, by go_num, NN.out _ (below_alloc wy _)⟩, by simp [intOf]; omega⟩
                          · obtain rfl : k = sp.length := by omega
                            have hint : Hid (Ints wy gb sp.length (fun i => (befN sp i (j + 1) : Int))) := P5.out.2.2.2.2.to (fun i hi => by rw [if_pos hi])
                            as_aux_lemma =>
                              go_wp2_with fail
                              exact ⟨⟨j + 1, by omega, by go_num, P5.out.1, by have := P5.out.2.1; omega, P5.out.2.2.2.1, hint.out⟩, by simp [intOf]; omega⟩
                    · have hm1 : Hid (t10 = -1) := by rcases hret.out with q | q; exact q; exact absurd q hr
                      have hdr : decide (0 ≤ t10) = false := decide_eq_false hr
                      rw [hdr] at HR
                      clear hret hr hdr
                      as_aux_lemma =>
                        go_wp2_with (first | (go_at_call 95; refine (HR _).mono ?_; rintro e w3 ⟨rfl, hb3⟩; have B3 : Hid (Below wz.heap.size wz w3) := (below_alloc _ _).trans (hb3.mono (by simp)); clear hb3))
                        refine ⟨⟨j + 1, by omega, by go_num, HZ.out.trans (B3.out.mono HZ.out.size), Nat.le_trans hsz B3.out.size, ?_, ?_⟩, by simp [intOf]; omega⟩
                        · have : retN sp (j + 1) = retN sp j := by simp only [retN]; rw [if_pos (HT10.out.trans hm1.out)]
                          rw [this]
                          exact (B3.out.block _ (by omega)).trans HBX.out
                        · refine (HI.out.below (by omega) B3.out).to (fun i _ => ?_)
                          rw [befN_stay (ahd_not (HT10.out.trans hm1.out))]
                  · obtain rfl : j = sp.length := by omega
                    have BBZ : Hid (Below W0.heap.size W0 wz) := BBR.out.trans (HZ.out.mono zA)
                    have BZ : Hid (Below w.heap.size w wz) := BR.out.trans (HZ.out.mono (by omega))
                    have RPZ : Hid (wz.heap[w.heap.size + 1]? = some (.cells prob0 125)) := (BBZ.out.block _ (by omega)).trans RP.out
                    obtain ⟨⟨p0, p1⟩, ⟨p2, p3⟩, ⟨p4, p5⟩, ⟨p6, p7⟩, ⟨p8, p9⟩, ⟨p10, p11⟩⟩ := cells6 RPZ.out
                    obtain ⟨⟨y0, _⟩, ⟨y1, _⟩, ⟨y2, _⟩, ⟨y3, _⟩, ⟨y4, _⟩, ⟨y5, _⟩⟩ := cells6 HBX.out
                    have CAZ : Hid (CallsAt hs wz (some ⟨gc, 0, none⟩) gc l ∧ l.map (·.1) = sp ∧ (∀ y ∈ l, OwnP wz (gc + 1) (retOf hs y.1).pairs y.2)) := ⟨CAR.out.1.below HZ.out, CAR.out.2.1, fun y hy => (CAR.out.2.2 y hy).below HZ.out⟩
                    have gbz : gb < wz.heap.size := by omega
                    clear HBP HIN BX BW CAR HZ hlt hj
                    as_aux_lemma =>
                      go_wp2_with fail
                      refine bodyPost_ret (v := .tuple #[.agg (probC t x s sp.length (retN sp sp.length) gc gb), .int .i64 0]) ?_ rfl ?_
                      · exact results_prob rfl rfl (heap6_set RPZ.out _ _ _ _ _ _)
                      · exact prob_fin HSP.out EZ.out l8 HE.out HH.out hks.out (SIX.out _ _ _ _ _ _ _ BZ.out) (pr_end rfl HST.out BZ.out CAZ.out.1 CAZ.out.2.1 CAZ.out.2.2 (by omega) (by omega) hgz2 gbz HI.out _ _ _ _ _ _)
    · have hne : (hErr hs != 0) = true := by simp [hh]
      have CL : Hid (∀ W, Below w.heap.size w W → Calls Tryd.prog 35 #[.slice base hs.length c] W fun e w' => ∃ v, e = .returned (.tuple #[v, .int .i64 (hErr hs)]) ∧ Below W.heap.size W w') := fun W hW => by
        refine (Calls_fz base b o c hs pb pc pg po W (HEV.out.below hW)).mono ?_
        rintro e w' ⟨v, rfl, hb, -, -⟩
        exact ⟨v, rfl, hb⟩
      have EN : Hid (pErr t s hs = 3) := PF.out rfl hh
      clear PE PF PK PB PZ T5 t1 t5 hh HK1
      as_aux_lemma =>
        go_enter Tryd.func61, Tryd.ntmps61
        go_upto_region 1 with fail
        rw [← hW0]
        clear hW0
        go_wp2_with (first | (go_at_call 12; refine CK.out.mono ?_; rintro e w1 ⟨rfl, hb1⟩; have BB1 : Hid (Below W0.heap.size W0 w1) := hb1; have B1 : Hid (Below w.heap.size w w1) := B0.out.trans (hb1.mono B0.out.size); clear hb1) | (go_at_call 35; refine (CL.out _ B1.out).mono ?_; rintro e w2 ⟨v, rfl, hb2⟩; have B2 : Hid (Below w.heap.size w w2) := B1.out.trans (hb2.mono B1.out.size); have RP2 : Hid (w2.heap[w.heap.size + 1]? = some (.cells prob0 125)) := (((BB1.out.trans (hb2.mono BB1.out.size)).block _ (by omega)).trans RP.out); obtain ⟨⟨p0, p1⟩, ⟨p2, p3⟩, ⟨p4, p5⟩, ⟨p6, p7⟩, ⟨p8, p9⟩, ⟨p10, p11⟩⟩ := HZ6.out w2 (BB1.out.trans (hb2.mono BB1.out.size)); clear hb2))
        refine bodyPost_ret (v := .tuple #[.agg prob0, .int .i64 3]) ?_ rfl ?_
        · exact results_prob rfl rfl (heap6_set RP2.out _ _ _ _ _ _)
        · exact FIN.out _ _ (SIX.out _ _ _ _ _ _ _ B2.out) EN.out (by decide)
  · have hne : (E != 0) = true := by simp [h0]
    have PE1 : Hid (pErr t s hs = E) := PE.out h0
    have HN : Hid (E ≠ 0) := h0
    clear PE PF PK PB PZ T5 h0
    go_enter Tryd.func61, Tryd.ntmps61
    go_upto_region 1 with fail
    rw [← hW0]
    clear hW0
    go_wp2_with (first | (go_at_call 12; refine CK.out.mono ?_; rintro e w1 ⟨rfl, hb1⟩; have B1 : Hid (Below w.heap.size w w1) := B0.out.trans (hb1.mono B0.out.size); have RP1 : Hid (w1.heap[w.heap.size + 1]? = some (.cells prob0 125)) := ((hb1.block _ (by omega)).trans RP.out); obtain ⟨⟨p0, p1⟩, ⟨p2, p3⟩, ⟨p4, p5⟩, ⟨p6, p7⟩, ⟨p8, p9⟩, ⟨p10, p11⟩⟩ := HZ6.out w1 hb1; clear hb1))
    refine bodyPost_ret (v := .tuple #[.agg prob0, .int .i64 E]) ?_ rfl ?_
    · exact results_prob rfl rfl (heap6_set RP1.out _ _ _ _ _ _)
    · exact FIN.out _ _ (SIX.out _ _ _ _ _ _ _ B1.out) PE1.out HN.out
end Go.Proofs.YtcphajjonecmbaaDoor

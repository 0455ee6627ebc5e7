/- Layer 7: the program's Find. Layer 7: the growing of orders: what its walk keeps. Layer 7: the growing of orders. Layer 7: the orders as a sequence. Layer 7: slices.Clone of a row of numbers. -/
import Derived.Test.YtcphajjonecmbaaDoorYLoop
import Derived.Test.YtcphajjonecmbaaDoorYProb
import Derived.Deep.RegionHeld3
import Derived.Test.YtcphajjonecmbaaDoorYChg2


namespace Go.Proofs.YtcphajjonecmbaaDoor

open Go.RowKit Go.Deep

attribute [local go_sem ↓] Go.wp_at_zero Go.wp_at_succ

def ordI (ord : List Nat) : List Int := ord.map fun (i : Nat) => (i : Int)
theorem ordI_length (ord : List Nat) : (ordI ord).length = ord.length := by simp [ordI]
theorem ordI_snoc (ord : List Nat) (i : Nat) : ordI (ord ++ [i]) = ordI ord ++ [(i : Int)] := by simp [ordI]
/-- What a round is handed: an order, the state to which it comes; where they lie. -/
structure Yl where
  ord : List Nat
  st : SD
  x : SX
  ob : Nat
def Yl.p (y : Yl) : List Nat × SD := (y.ord, y.st)
def Yl.encs (n : Nat) (y : Yl) : Array Value := #[.slice (some ⟨y.ob, 0, none⟩) y.ord.length n, y.x.v y.st]
/-- A state's rows lie at or above B, and not in block ob. -/
structure StIn (A : World) (B ob : Nat) (x : SX) (s : SD) : Prop where
  at_ : StAt A x s
  vB : s.vals.length ≠ 0 → B ≤ x.vg ∧ x.vg ≠ ob
  pB : s.prs.length ≠ 0 → B ≤ x.pg ∧ x.pg ≠ ob
structure Yl.Mem (n B : Nat) (y : Yl) (A : World) : Prop where
  row : RoO A B y.ob 0 n (ordI y.ord)
  st : StIn A B y.ob y.x y.st
theorem StAt.same {w w' : World} {x : SX} {s : SD} (h : StAt w x s) (hs : w.heap.size ≤ w'.heap.size) (h1 : s.vals.length ≠ 0 → w'.heap[x.vg]? = w.heap[x.vg]?) (h2 : s.prs.length ≠ 0 → w'.heap[x.pg]? = w.heap[x.pg]?) : StAt w' x s := by
  refine ⟨⟨h.vals.base, fun q => Nat.lt_of_lt_of_le (h.vals.lt q) hs, h.vals.len, fun i hi => ?_⟩, ⟨h.prs.base, fun q => Nat.lt_of_lt_of_le (h.prs.lt q) hs, fun i hi => ?_, h.prs.len, fun i hi => ?_⟩, h.vnil, h.pnil⟩
  · exact (World.cell?_of_block (a := ⟨x.vg, _, none⟩) (h1 (by omega))).trans (h.vals.cells i hi)
  · have e := h2 (by omega)
    exact ⟨(World.cell?_of_block (a := ⟨x.pg, _, none⟩) e).trans (h.prs.cells i hi).1, (World.cell?_of_block (a := ⟨x.pg, _, none⟩) e).trans (h.prs.cells i hi).2⟩
  · have e := h2 (by omega)
    exact (World.frozen?_of_block (a := ⟨x.pg, _, none⟩) e).trans (h.prs.thaw i hi)
theorem StIn.same {w w' : World} {B ob : Nat} {x : SX} {s : SD} (h : StIn w B ob x s) (hs : w.heap.size ≤ w'.heap.size) (hk : ∀ k, B ≤ k → k < w.heap.size → k ≠ ob → w'.heap[k]? = w.heap[k]?) : StIn w' B ob x s :=
  ⟨h.at_.same hs (fun q => hk _ (h.vB q).1 (h.at_.vals.lt q) (h.vB q).2) (fun q => hk _ (h.pB q).1 (h.at_.prs.lt q) (h.pB q).2), h.vB, h.pB⟩
theorem StIn.but {w w' : World} {B ob : Nat} {x : SX} {s : SD} (h : StIn w B ob x s) (hb : But ob w w') : StIn w' B ob x s := h.same hb.1 (fun k _ hk hn => hb.2.1 k hk hn)
/-- Sizes small enough. -/
structure SzOk (s : SD) (k : Nat) : Prop where
  v : s.vals.length ≤ 999999000 + k
  p : s.prs.length ≤ 999999000 + k
theorem SzOk.step {s : SD} {k : Nat} (h : SzOk s k) (t : Int) (o : OpD) : SzOk (sStep t s o) (k + 1) := by
  have hv := h.v
  have hp := h.p
  unfold sStep
  split
  · refine ⟨by simp, ?_⟩
    have := stepL_length s.prs o
    show (stepL s.prs o).length ≤ _
    omega
  · refine ⟨?_, by simp⟩
    have := vStep_length t s.vals o
    show (vStep t s.vals o).length ≤ _
    omega
/-- From A to B only ob, what a round may change, and what is new, is changed; R becomes R'. -/
structure GKeep (Cw : Nat → Prop) (ob : Nat) (R : Nat → Prop) (A : World) (R' : Nat → Prop) (B : World) : Prop where
  size : A.heap.size ≤ B.heap.size
  le : ∀ k, R k → R' k
  new : ∀ k, R' k → R k ∨ (A.heap.size ≤ k ∧ k < B.heap.size)
  same : ∀ k, k < A.heap.size → k ≠ ob → ¬ Cw k → ¬ R k → B.heap[k]? = A.heap[k]?
  sam : Sam A B
theorem GKeep.but {Cw : Nat → Prop} {ob : Nat} {R : Nat → Prop} {A B : World} (h : But ob A B) : GKeep Cw ob R A R B := ⟨h.1, fun _ q => q, fun _ q => .inl q, fun k hk hn _ _ => h.2.1 k hk hn, h.2.2⟩
theorem GKeep.round {Cw : Nat → Prop} {ob : Nat} {R : Nat → Prop} {A B : World} (h : RKp Cw R A B) : GKeep Cw ob R A (mark R A B) B := ⟨h.1, fun _ q => .inl q, fun _ q => q, fun k hk _ hc hr => h.2.1 k hk hc hr, h.2.2⟩
theorem GKeep.trans {Cw : Nat → Prop} {ob : Nat} {R R1 R2 : Nat → Prop} {A B C : World} (h : GKeep Cw ob R A R1 B) (k : GKeep Cw ob R1 B R2 C) : GKeep Cw ob R A R2 C := by
  refine ⟨Nat.le_trans h.size k.size, fun i q => k.le i (h.le i q), fun i q => ?_, fun i hi hn hc hr => ?_, h.sam.trans k.sam⟩
  · rcases k.new i q with q | ⟨q1, q2⟩
    · rcases h.new i q with q | ⟨q1, q2⟩
      · exact .inl q
      · exact .inr ⟨q1, Nat.lt_of_lt_of_le q2 k.size⟩
    · exact .inr ⟨Nat.le_trans h.size q1, q2⟩
  · refine (k.same i (Nat.lt_of_lt_of_le hi h.size) hn hc (fun q => ?_)).trans (h.same i hi hn hc hr)
    rcases h.new i q with q | ⟨q1, _⟩
    · exact hr q
    · omega
theorem GKeep.wide {Cw : Nat → Prop} {ob : Nat} {R R' : Nat → Prop} {A B : World} (h : GKeep Cw ob R A R' B) (Cl : Nat → Prop) : GKeep (fun k => Cw k ∨ Cl k) ob R A R' B := ⟨h.size, h.le, h.new, fun k h1 h2 h3 h4 => h.same k h1 h2 (fun c => h3 (.inl c)) h4, h.sam⟩
/-- What the growing has for its whole time: the problem in memory (world w0); a round's contract; N0: where its loop began. -/
structure GE (t : Int) (hs : List EvD) (sp : List Sp) (w0 : World) (gc gb l B N0 : Nat) (Cw Cl : Nat → Prop) (J : List Yl → (Nat → Prop) → World → Prop) (Jx : List Yl → World → Prop) : Prop where
  calls : ∃ l, l.map (·.1) = sp ∧ CallsAt hs w0 (some ⟨gc, 0, none⟩) gc l ∧ ∀ y ∈ l, OwnP w0 (gc + 1) (retOf hs y.1).pairs y.2
  cl : gc < w0.heap.size
  bl : gb < w0.heap.size
  bef : ∀ i, i < sp.length → w0.cell? ⟨gb, i, none⟩ = some (.int .i64 (befN sp i sp.length))
  n8 : sp.length ≤ 8
  t5 : 1 ≤ t ∧ t ≤ 5
  ks : ksC t hs sp = true
  tos : ∀ k, k < sp.length → (spAt sp k).2 = -1 ∨ 0 ≤ (spAt sp k).2
  zB : w0.heap.size ≤ B
  zN : B ≤ N0
  cw : ∀ k, Cw k → w0.heap.size ≤ k ∧ k < N0
  cwl : ∀ k, Cl k → k < N0
  hJ : ∀ s R A B ob, N0 ≤ ob → ¬ R ob → (∀ x ∈ s, x.ob = ob) → But ob A B → J s R A → J s R B
  hJx : ∀ s A B, Below A.heap.size A B → Jx s A → Jx s B
  hY : ∀ pre x R A, J pre R A → x.Mem sp.length B A → N0 ≤ x.ob → ¬ R x.ob → (∀ y ∈ pre, y.ob = x.ob) → (∀ k, R k → N0 ≤ k ∧ k < A.heap.size) →
      YieldAt Fence.wide 1 Tryd.prog l (x.encs sp.length) A fun e W' => (e = .returned (.bool true) ∧ J (pre ++ [x]) (mark R A W') W' ∧ RKp Cw R A W') ∨ (e = .returned (.bool false) ∧ Jx (pre ++ [x]) W' ∧ RKp (fun k => Cw k ∨ Cl k) R A W')
/-- Where the growing stands: pre has come, ord is the order so far, st the state. -/
structure GPos (w0 : World) (n N0 : Nat) (J : List Yl → (Nat → Prop) → World → Prop) (pre : List Yl) (R : Nat → Prop) (A : World) (ord : List Nat) (st : SD) (x : SX) (ob : Nat) : Prop where
  j : J pre R A
  ob0 : N0 ≤ ob
  obR : ¬ R ob
  obs : ∀ y ∈ pre, y.ob = ob
  rb : ∀ k, R k → N0 ≤ k ∧ k < A.heap.size
  bw : Below w0.heap.size w0 A
  row : RoO A N0 ob 0 n (ordI ord)
  sin : StIn A N0 ob x st
  vR : st.vals.length ≠ 0 → ¬ R x.vg
  pR : st.prs.length ≠ 0 → ¬ R x.pg
theorem Below.of_gkeep {w0 A B : World} {Cw : Nat → Prop} {ob : Nat} {R R' : Nat → Prop} (h : GKeep Cw ob R A R' B) (hw : Below w0.heap.size w0 A) (hob : w0.heap.size ≤ ob) (hcw : ∀ k, Cw k → w0.heap.size ≤ k) (hR : ∀ k, R k → w0.heap.size ≤ k) : Below w0.heap.size w0 B :=
  ⟨h.sam.1.trans hw.os, h.sam.2.1.trans hw.tape, h.sam.2.2.trans hw.output, Nat.le_trans hw.size h.size, fun k hk => (h.same k (Nat.lt_of_lt_of_le hk hw.size) (by omega) (fun q => by have := hcw k q; omega) (fun q => by have := hR k q; omega)).trans (hw.block k hk)⟩
/-- The growing from here on, more having come: all but the order's block is as it was. -/
theorem GPos.next {w0 : World} {n N0 : Nat} {Cw : Nat → Prop} {J : List Yl → (Nat → Prop) → World → Prop} {pre pre' : List Yl} {R R' : Nat → Prop} {A A' : World} {ord : List Nat} {st : SD} {x : SX} {ob : Nat}
    (h : GPos w0 n N0 J pre R A ord st x ob) (hk : GKeep Cw ob R A R' A') (hz : w0.heap.size ≤ N0) (hcw : ∀ k, Cw k → w0.heap.size ≤ k ∧ k < N0) (hj : J pre' R' A') (ho : ∀ y ∈ pre', y.ob = ob) (hr : RoO A' N0 ob 0 n (ordI ord)) : GPos w0 n N0 J pre' R' A' ord st x ob := by
  have hR : ∀ k, k < A.heap.size → ¬ R k → ¬ R' k := fun k hk' hn q => by
    rcases hk.new k q with q | ⟨q1, _⟩
    · exact hn q
    · omega
  have hst : StAt A' x st := h.sin.at_.same hk.size (fun q => hk.same _ (h.sin.at_.vals.lt q) (h.sin.vB q).2 (fun c => by have := hcw _ c; have := (h.sin.vB q).1; omega) (h.vR q)) (fun q => hk.same _ (h.sin.at_.prs.lt q) (h.sin.pB q).2 (fun c => by have := hcw _ c; have := (h.sin.pB q).1; omega) (h.pR q))
  exact ⟨hj, h.ob0, hR _ h.row.lt h.obR, ho, fun k q => by
    rcases hk.new k q with q | ⟨q1, q2⟩
    · have := h.rb k q; have := hk.size; omega
    · have := h.row.lt; have := h.ob0; omega, Below.of_gkeep hk h.bw (by have := h.ob0; omega) (fun k q => (hcw k q).1) (fun k q => by have := h.rb k q; omega), hr, ⟨hst, h.sin.vB, h.sin.pB⟩, fun q => hR _ (h.sin.at_.vals.lt q) (h.vR q), fun q => hR _ (h.sin.at_.prs.lt q) (h.pR q)⟩
/-- The growing from here on, where only new blocks were made. -/
theorem GPos.low {t : Int} {hs : List EvD} {sp : List Sp} {w0 : World} {gc gb l B N0 : Nat} {Cw Cl : Nat → Prop} {J : List Yl → (Nat → Prop) → World → Prop} {Jx : List Yl → World → Prop} (E : GE t hs sp w0 gc gb l B N0 Cw Cl J Jx) {pre : List Yl} {R : Nat → Prop} {A A' : World} {ord : List Nat} {st : SD} {x : SX} {ob n : Nat}
    (h : GPos w0 n N0 J pre R A ord st x ob) (hb : Below A.heap.size A A') : GPos w0 n N0 J pre R A' ord st x ob :=
  h.next (Cw := Cw) (GKeep.but (But.of_below hb)) (Nat.le_trans E.zB E.zN) E.cw (E.hJ _ _ _ _ ob h.ob0 h.obR h.obs (But.of_below hb) h.j) h.obs (h.row.below hb)
/-- What the growing leaves. -/
def GrowP (t : Int) (hs : List EvD) (sp : List Sp) (N0 : Nat) (Cw Cl : Nat → Prop) (J : List Yl → (Nat → Prop) → World → Prop) (Jx : List Yl → World → Prop) (f : Nat) (pre : List Yl) (R : Nat → Prop) (A : World) (ord : List Nat) (st : SD) (ob : Nat) (e : Ending) (A' : World) : Prop :=
  (e = .returned (.bool true) ∧ ∃ ys R', ys.map Yl.p = allO t hs sp f ord st ∧ (∀ y ∈ ys, y.ob = ob) ∧ J (pre ++ ys) R' A' ∧ GKeep Cw ob R A R' A' ∧ RoO A' N0 ob 0 sp.length (ordI ord)) ∨
  (e = .returned (.bool false) ∧ ∃ ys R', ys.map Yl.p <+: allO t hs sp f ord st ∧ Jx (pre ++ ys) A' ∧ GKeep (fun k => Cw k ∨ Cl k) ob R A R' A')
/-- In the loop: the first j operations have been tried. -/
def GLoop (t : Int) (hs : List EvD) (sp : List Sp) (N0 : Nat) (Cw : Nat → Prop) (J : List Yl → (Nat → Prop) → World → Prop) (f : Nat) (pre : List Yl) (R : Nat → Prop) (A : World) (ord : List Nat) (st : SD) (ob j : Nat) (W : World) : Prop :=
  ∃ ys R', ys.map Yl.p = allN t hs sp f ord st j ∧ (∀ y ∈ ys, y.ob = ob) ∧ J (pre ++ ys) R' W ∧ GKeep Cw ob R A R' W ∧ RoO W N0 ob 0 sp.length (ordI ord)
end Go.Proofs.YtcphajjonecmbaaDoor


namespace Go.Proofs.YtcphajjonecmbaaDoor

open Go.RowKit Go.Deep

attribute [local go_sem ↓] Go.wp_at_zero Go.wp_at_succ

attribute [local go_sem] Oper.semAt_some

theorem StIn.down {A : World} {B B' ob : Nat} {x : SX} {s : SD} (h : StIn A B ob x s) (hB : B' ≤ B) : StIn A B' ob x s := ⟨h.at_, fun q => ⟨Nat.le_trans hB (h.vB q).1, (h.vB q).2⟩, fun q => ⟨Nat.le_trans hB (h.pB q).1, (h.pB q).2⟩⟩
/-- The round at an order, where the growing stands. -/
theorem GPos.yield {t : Int} {hs : List EvD} {sp : List Sp} {w0 : World} {gc gb l B N0 : Nat} {Cw Cl : Nat → Prop} {J : List Yl → (Nat → Prop) → World → Prop} {Jx : List Yl → World → Prop} (E : GE t hs sp w0 gc gb l B N0 Cw Cl J Jx) {pre : List Yl} {R : Nat → Prop} {A : World} {ord : List Nat} {st : SD} {x : SX} {ob : Nat}
    (h : GPos w0 sp.length N0 J pre R A ord st x ob) (hw : wholeB sp ord = true) (f : Nat) :
    YieldAt Fence.wide 1 Tryd.prog l #[.slice (some ⟨ob, 0, none⟩) ord.length sp.length, x.v st] A fun e W' => (e = .returned (.bool true) ∧ GLoop t hs sp N0 Cw J f pre R A ord st ob 0 W') ∨ (e = .returned (.bool false) ∧ ∃ ys R9, ys.map Yl.p <+: allO t hs sp (f + 1) ord st ∧ Jx (pre ++ ys) W' ∧ GKeep (fun k => Cw k ∨ Cl k) ob R A R9 W') := by
  refine YieldAt.mono (E.hY pre ⟨ord, st, x, ob⟩ R A h.j ⟨h.row.down E.zN, h.sin.down E.zN⟩ h.ob0 h.obR h.obs h.rb) ?_
  rintro e W' (⟨rfl, hj, hk⟩ | ⟨rfl, hj, hk⟩)
  · refine .inl ⟨rfl, [⟨ord, st, x, ob⟩], _, ?_, ?_, hj, GKeep.round hk, ?_⟩
    · simp only [allN]
      rw [if_pos hw]; rfl
    · intro y hy
      rw [List.mem_singleton.1 hy]
    · exact h.row.kept hk.1 (hk.2.1 ob h.row.lt (fun c => by have := E.cw _ c; have := h.ob0; omega) h.obR)
  · refine .inr ⟨rfl, [⟨ord, st, x, ob⟩], _, ?_, hj, GKeep.round hk⟩
    simp only [allO]
    rw [if_pos hw]
    exact ⟨_, rfl⟩
theorem GPos.skip {t : Int} {hs : List EvD} {sp : List Sp} {w0 : World} {N0 : Nat} {Cw : Nat → Prop} {J : List Yl → (Nat → Prop) → World → Prop} {pre : List Yl} {R : Nat → Prop} {A : World} {ord : List Nat} {st : SD} {x : SX} {ob : Nat}
    (h : GPos w0 sp.length N0 J pre R A ord st x ob) (hw : wholeB sp ord = false) (f : Nat) : GLoop t hs sp N0 Cw J f pre R A ord st ob 0 A := by
  refine ⟨[], R, ?_, ?_, by simpa using h.j, GKeep.but (But.refl _ _), h.row⟩
  · simp only [allN]; rw [hw]; rfl
  · intro y hy; cases hy
theorem whole_not {sp : List Sp} {ord : List Nat} (hn : sp.length ≤ 16) (h : ∀ i ∈ ord, i < sp.length) : decide (bits .andNot .i64 (retN sp sp.length : Int) (inM ord : Int) = 0) = wholeB sp ord := by
  rw [i64_andNot_nat _ _ (by have := retN_small sp sp.length hn; omega) (by have := inM_lt hn ord h; omega), ← whole_bits hn h, decide_eq_decide]
  omega
theorem allN_prefix (t : Int) (hs : List EvD) (sp : List Sp) (f : Nat) (ord : List Nat) (s : SD) {j : Nat} : ∀ {n : Nat}, j ≤ n → allN t hs sp f ord s j <+: allN t hs sp f ord s n
  | 0, h => by obtain rfl : j = 0 := by omega
               exact List.prefix_refl _
  | n + 1, h => by
    by_cases e : j = n + 1
    · subst e; exact List.prefix_refl _
    · exact (allN_prefix t hs sp f ord s (by omega)).trans ⟨_, rfl⟩
theorem may_not {sp : List Sp} {ord : List Nat} {i : Nat} (hn : sp.length ≤ 8) (hi : i < sp.length) (h : ∀ i ∈ ord, i < sp.length) : (decide (bits .and .i64 (inM ord : Int) (wrap64 ((2 : Int) ^ i)) = 0) && decide (bits .andNot .i64 (befN sp i sp.length : Int) (inM ord : Int) = 0)) = mayB sp ord i := by
  have hm := inM_lt (by omega : sp.length ≤ 16) ord h
  have hb := befN_small sp i sp.length (by omega : sp.length ≤ 16)
  rw [← may_bits (by omega) h, and_pow (by omega) hm, i64_andNot_nat _ _ (by omega) (by omega)]
  unfold condP
  rw [decide_eq_decide.2 (Int.natCast_eq_zero (n := inM ord &&& 2 ^ i)), decide_eq_decide.2 (Int.natCast_eq_zero (n := befN sp i sp.length &&& (18446744073709551615 - inM ord)))]
theorem GLoop.pos {t : Int} {hs : List EvD} {sp : List Sp} {w0 : World} {gc gb l B N0 : Nat} {Cw Cl : Nat → Prop} {J : List Yl → (Nat → Prop) → World → Prop} {Jx : List Yl → World → Prop} (E : GE t hs sp w0 gc gb l B N0 Cw Cl J Jx) {f : Nat} {pre : List Yl} {R : Nat → Prop} {A W : World} {ord : List Nat} {st : SD} {x : SX} {ob j : Nat}
    (g : GPos w0 sp.length N0 J pre R A ord st x ob) (h : GLoop t hs sp N0 Cw J f pre R A ord st ob j W) : ∃ ys R', ys.map Yl.p = allN t hs sp f ord st j ∧ (∀ y ∈ ys, y.ob = ob) ∧ GPos w0 sp.length N0 J (pre ++ ys) R' W ord st x ob ∧ GKeep Cw ob R A R' W := by
  obtain ⟨ys, R', h1, h2, h3, h4, h5⟩ := h
  refine ⟨ys, R', h1, h2, g.next h4 (Nat.le_trans E.zB E.zN) E.cw h3 (fun y hy => ?_) h5, h4⟩
  rcases List.mem_append.1 hy with q | q
  · exact g.obs y q
  · exact h2 y q
/-- A block of ours, at a later time. -/
theorem GLoop.block {t : Int} {hs : List EvD} {sp : List Sp} {w0 : World} {gc gb l B N0 : Nat} {Cw Cl : Nat → Prop} {J : List Yl → (Nat → Prop) → World → Prop} {Jx : List Yl → World → Prop} (E : GE t hs sp w0 gc gb l B N0 Cw Cl J Jx) {f : Nat} {pre : List Yl} {R : Nat → Prop} {A W : World} {ord : List Nat} {st : SD} {ob j : Nat}
    (h : GLoop t hs sp N0 Cw J f pre R A ord st ob j W) {k : Nat} (hk : k < A.heap.size) (h1 : N0 ≤ k) (h2 : k ≠ ob) (h3 : ¬ R k) : W.heap[k]? = A.heap[k]? := by
  obtain ⟨ys, R', _, _, _, h4, _⟩ := h
  exact h4.same k hk h2 (fun c => by have := E.cw k c; omega) h3
/-- Only new blocks, and operation j isn't gone on by. -/
theorem GLoop.next {t : Int} {hs : List EvD} {sp : List Sp} {w0 : World} {gc gb l B N0 : Nat} {Cw Cl : Nat → Prop} {J : List Yl → (Nat → Prop) → World → Prop} {Jx : List Yl → World → Prop} (E : GE t hs sp w0 gc gb l B N0 Cw Cl J Jx) {f : Nat} {pre : List Yl} {R : Nat → Prop} {A W W' : World} {ord : List Nat} {st : SD} {x : SX} {ob j : Nat}
    (g : GPos w0 sp.length N0 J pre R A ord st x ob) (h : GLoop t hs sp N0 Cw J f pre R A ord st ob j W) (hb : Below W.heap.size W W') (ho : onB t hs sp ord st j = false) : GLoop t hs sp N0 Cw J f pre R A ord st ob (j + 1) W' := by
  obtain ⟨ys, R', h1, h2, hp, hk⟩ := h.pos E g
  refine ⟨ys, R', ?_, h2, E.hJ _ _ _ _ ob hp.ob0 hp.obR hp.obs (But.of_below hb) hp.j, hk.trans (GKeep.but (But.of_below hb)), hp.row.below hb⟩
  simp only [allN]
  rw [ho, h1]
  simp
/-- Operation j is gone on by: what the inner growing left. -/
theorem GLoop.grown {t : Int} {hs : List EvD} {sp : List Sp} {N0 : Nat} {Cw Cl : Nat → Prop} {J : List Yl → (Nat → Prop) → World → Prop} {Jx : List Yl → World → Prop} {f : Nat} {pre ys : List Yl} {R R' : Nat → Prop} {A W W1 W' : World} {ord : List Nat} {st : SD} {ob j : Nat} {e : Ending}
    (hm : ys.map Yl.p = allN t hs sp f ord st j) (hy : ∀ y ∈ ys, y.ob = ob) (hk : GKeep Cw ob R A R' W) (hb : But ob W W1) (hj : j < sp.length) (ho : onB t hs sp ord st j = true) (h : GrowP t hs sp N0 Cw Cl J Jx f (pre ++ ys) R' W1 (ord ++ [j]) (sStep t st (cOp hs sp j)) ob e W') :
    (e = .returned (.bool true) ∧ GLoop t hs sp N0 Cw J f pre R A ord st ob (j + 1) W') ∨ (e = .returned (.bool false) ∧ ∃ ys R9, ys.map Yl.p <+: allO t hs sp (f + 1) ord st ∧ Jx (pre ++ ys) W' ∧ GKeep (fun k => Cw k ∨ Cl k) ob R A R9 W') := by
  rcases h with ⟨rfl, zs, R2, h1, h2, h3, h4, h5⟩ | ⟨rfl, zs, R2, h1, h2, h3k⟩
  · refine .inl ⟨rfl, ys ++ zs, R2, ?_, ?_, by simpa [List.append_assoc] using h3, (hk.trans (GKeep.but hb)).trans h4, ?_⟩
    · simp only [allN]
      rw [List.map_append, hm, h1, if_pos ho]
    · intro y q
      rcases List.mem_append.1 q with q | q
      · exact hy y q
      · exact h2 y q
    · have := h5.take ord.length
      rw [ordI_snoc, List.take_left' (ordI_length ord)] at this
      exact this
  · refine .inr ⟨rfl, ys ++ zs, R2, ?_, by simpa [List.append_assoc] using h2, ((hk.trans (GKeep.but hb)).wide Cl).trans h3k⟩
    rw [allO_eq, List.map_append, hm]
    have h3 : allN t hs sp f ord st j ++ zs.map Yl.p <+: allN t hs sp f ord st (j + 1) := by
      simp only [allN]
      rw [if_pos ho]
      exact (List.prefix_append_right_inj _).2 h1
    exact h3.trans (allN_prefix t hs sp f ord st (by omega))
theorem one_op (W : World) (o : OpD) (T : TypeId) : OpsAt (W.alloc (.cells #[.int .i64 o.kind, .int .i64 o.key, .int .i64 o.val, .int .i64 o.hi] T)) (some ⟨W.heap.size, 0, none⟩) W.heap.size 0 [o] := by
  refine ⟨fun _ => rfl, fun _ => by simp, fun i hi => ?_, by simp [maxLen]⟩
  obtain rfl : i = 0 := by simpa using hi
  exact ⟨cell_new W _ _ 0, cell_new W _ _ 1, cell_new W _ _ 2, cell_new W _ _ 3⟩
/-- One operation is run. -/
def RunQ (st' : SD) (r : RetD) (w : World) (e : Ending) (w' : World) : Prop :=
  ∃ x' a2 g2 p2 c2 rg rk, e = .returned (.tuple #[.agg #[.slice x'.va st'.vals.length x'.vc, .slice x'.pa st'.prs.length x'.pc], .slice (some ⟨rg, 0, none⟩) 1 rk]) ∧ Below w.heap.size w w' ∧ StNew w' w.heap.size x' st' ∧ w.heap.size ≤ rg ∧ rg < w'.heap.size ∧
    w'.cell? ⟨rg, 0, none⟩ = some (.bool r.ok) ∧ w'.cell? ⟨rg, 1, none⟩ = some (.int .i64 r.key) ∧ w'.cell? ⟨rg, 2, none⟩ = some (.int .i64 r.val) ∧ w'.cell? ⟨rg, 3, none⟩ = some (.slice a2 r.pairs.length c2) ∧ PairsAt w' a2 g2 p2 r.pairs
theorem run_one {t : Int} {x : SX} {s : SD} (o : OpD) (bo : Nat) (w : World) (h : StAt w x s) (hop : OpsAt w (some ⟨bo, 0, none⟩) bo 0 [o]) (ht : 1 ≤ t ∧ t ≤ 5) (hf : inFm t s = true) (hk : kOk t o.kind = true) (hz : s.vals.length ≤ 1000000000 ∧ s.prs.length ≤ 1000000000) :
    Calls Tryd.prog 58 #[.int .i64 t, .agg #[.slice x.va s.vals.length x.vc, .slice x.pa s.prs.length x.pc], .slice (some ⟨bo, 0, none⟩) 1 1] w (RunQ (sStep t s o) (sRet t s o) w) := by
  refine (run_any t x s (some ⟨bo, 0, none⟩) bo 0 1 [o] w h hop (sErr_zero.2 ⟨ht, hf⟩) (by simp [ksN, hk]) hz.1 hz.2 (by simp)).mono ?_
  rintro e w' ⟨x', ra, rg, rk, rfl, hb, hn, hr, -, hra, -, hrg⟩
  obtain rfl := hra (by simp)
  obtain ⟨a2, g2, p2, c2, d0, d1, d2, d3, hp⟩ := hr.cells 0 (by simp [sRets])
  exact ⟨x', a2, g2, p2, c2, rg, rk, rfl, hb, hn, hrg (by simp), hr.lt (by simp [sRets]), d0, d1, d2, d3, hp⟩
/-- The growing, one operation further. -/
theorem GPos.deeper {t : Int} {hs : List EvD} {sp : List Sp} {w0 : World} {gc gb l B N0 : Nat} {Cw Cl : Nat → Prop} {J : List Yl → (Nat → Prop) → World → Prop} {Jx : List Yl → World → Prop} (E : GE t hs sp w0 gc gb l B N0 Cw Cl J Jx) {pre : List Yl} {R : Nat → Prop} {A W : World} {ord : List Nat} {st st' : SD} {x x' : SX} {ob j n : Nat}
    (g : GPos w0 n N0 J pre R A ord st x ob) (hb : But ob A W) (hr : RoO W N0 ob 0 n (ordI (ord ++ [j]))) (hst : StAt W x' st') (hv : st'.vals.length ≠ 0 → A.heap.size ≤ x'.vg) (hp : st'.prs.length ≠ 0 → A.heap.size ≤ x'.pg) : GPos w0 n N0 J pre R W (ord ++ [j]) st' x' ob := by
  have hob := g.row.lt
  have h0 := g.ob0
  have hzz := Nat.le_trans E.zB E.zN
  refine ⟨E.hJ _ _ _ _ ob g.ob0 g.obR g.obs hb g.j, g.ob0, g.obR, g.obs, fun k q => ⟨(g.rb k q).1, Nat.lt_of_lt_of_le (g.rb k q).2 hb.1⟩, Below.of_gkeep (GKeep.but (Cw := Cw) (R := R) hb) g.bw (by omega) (fun k q => (E.cw k q).1) (fun k q => by have := g.rb k q; omega), hr, ⟨hst, fun q => ?_, fun q => ?_⟩, fun q c => ?_, fun q c => ?_⟩
  · have := hv q; omega
  · have := hp q; omega
  · have := hv q; have := (g.rb _ c).2; omega
  · have := hp q; have := (g.rb _ c).2; omega
theorem append_room {w : World} {B g c : Nat} {xs : List Int} (h : RoO w B g 0 c xs) (hr : xs.length + 1 ≤ c) (ty : TypeId) (b k : Nat) (u : Int) (hu : w.cell? ⟨b, 0, none⟩ = some (.int .i64 u)) :
    (Builtin.append_ #[22, 22] ty #[.slice (some ⟨g, 0, none⟩) xs.length c, .slice (some ⟨b, 0, none⟩) 1 k]).run Tryd.prog w = .ok (.slice (some ⟨g, 0, none⟩) (xs.length + 1) c) (w.setCell ⟨g, xs.length, none⟩ (.int .i64 u)) := by
  obtain ⟨i, hi, hz, hsz, hby⟩ := info_parts int_info
  have hnews : ∀ j v, [Value.int .i64 u][j]? = some v → w.cell? ((⟨b, 0, none⟩ : Addr).add j) = some v := by
    intro j v hj
    cases j with
    | zero => simp at hj; subst hj; exact hu
    | succ j => simp at hj
  have hrun := run_append_room_cells (P := Tryd.prog) w 22 ty 3 i ints_under hi g 0 xs.length c ⟨b, 0, none⟩ 1 k [.int .i64 u] (by rw [hsz]; rfl) hnews (by simp [Value.oneCell']) hr
    (fun j hj => by simp at hj; subst hj; rw [hsz, Nat.mul_one]; exact (h.there xs.length (by omega)).1) (fun j hj => by simp at hj; subst hj; rw [hsz, Nat.mul_one]; exact (h.there xs.length (by omega)).2)
  rw [hsz, Nat.mul_one, Nat.zero_add] at hrun
  exact hrun
theorem cells11 {w : World} {b : Nat} {c0 c1 c2 c3 c4 c5 c6 c7 c8 c9 c10 : Value} {T : TypeId} (h : w.heap[b]? = some (.cells #[c0, c1, c2, c3, c4, c5, c6, c7, c8, c9, c10] T)) :
    w.cell? ⟨b, 0, none⟩ = some c0 ∧ w.cell? ⟨b, 1, none⟩ = some c1 ∧ w.cell? ⟨b, 2, none⟩ = some c2 ∧ w.cell? ⟨b, 3, none⟩ = some c3 ∧ w.cell? ⟨b, 4, none⟩ = some c4 ∧ w.cell? ⟨b, 5, none⟩ = some c5 ∧ w.cell? ⟨b, 6, none⟩ = some c6 ∧ w.cell? ⟨b, 7, none⟩ = some c7 ∧ w.cell? ⟨b, 8, none⟩ = some c8 ∧ w.cell? ⟨b, 9, none⟩ = some c9 ∧ w.cell? ⟨b, 10, none⟩ = some c10 := by
  simp [World.cell?, h]
theorem w64 (x : Int) : IntKind.i64.wrap x = wrap64 x := by rw [IntKind.wrap_i64]; unfold wrap64; rfl
theorem step_append_rm {w : World} {ops : Array Oper} {o : Oper} {a : Act} {K : Act → World → Prop} {Q : Exit → Act → World → Prop} {E : Prop} (hw : Region.wanted o (yielded ops a.tmps) = true) (s x : Operand)
    (ho : o.op = .call { callee := .builtin .append, args := #[s, x], argTypes := #[22, 22] }) {B g c m : Nat} {xs : List Int} (h : RoO w B g 0 c xs) (hm : xs.length = m) (hr : m + 1 ≤ c) (hs : a.eval s = .slice (some ⟨g, 0, none⟩) m c)
    (b k : Nat) (u : Int) (hx : a.eval x = .slice (some ⟨b, 0, none⟩) 1 k) (hu : w.cell? ⟨b, 0, none⟩ = some (.int .i64 u)) (hK : K (a.put o.dst (.slice (some ⟨g, 0, none⟩) (m + 1) c)) (w.setCell ⟨g, m, none⟩ (.int .i64 u))) :
    if Region.wanted o (yielded ops a.tmps) = true then Oper.wp Tryd.prog o a w K Q else E := by
  rw [if_pos hw]
  subst hm
  have hrun := append_room h hr o.type b k u hu
  unfold Oper.wp
  simp [execOp, ho, resolve, invoke, builtin, hs, hx, hrun, Result.andThen]
  exact hK
theorem wpOp_callTo {P : Program} {ops : Array Oper} {Q : Exit → Act → World → Prop} {i : Nat} {o : Oper} {a : Act} {w : World} {K : Act → World → Prop} (hi : ops[i]? = some o) (hw : Region.wanted o (yielded ops a.tmps) = true) (f : FuncId) (args : Array Value) (hrun : (execOp a.eval o).run P w = .ok (.enter f args) w) (Post : Value → World → Prop)
    (hc : Calls P f args w fun e w' => ∃ v, e = .returned v ∧ Post v w') (h : ∀ v w', Post v w' → K (a.put o.dst v) w') : wpOp P ops Q i K a w := by
  unfold wpOp
  simp only [hi, hw, if_true]
  refine Or.inl ?_
  unfold Oper.wp
  rw [hrun, Oper.upon_enter]
  refine hc.mono fun e w' hh => ?_
  obtain ⟨v, rfl, hp⟩ := hh
  exact h v w' hp
set_option linter.unusedSimpArgs false in
set_option maxRecDepth 100000 in
set_option maxHeartbeats 8000000 in
theorem grow_any {t : Int} {hs : List EvD} {sp : List Sp} {w0 : World} {gc gb l B N0 : Nat} {Cw Cl : Nat → Prop} {J : List Yl → (Nat → Prop) → World → Prop} {Jx : List Yl → World → Prop} (E : GE t hs sp w0 gc gb l B N0 Cw Cl J Jx) (x0 : SX) (s0 : SD) :
    ∀ (f : Nat) (pre : List Yl) (R : Nat → Prop) (A : World) (ord : List Nat) (st : SD) (x : SX) (ob : Nat), GPos w0 sp.length N0 J pre R A ord st x ob → OrdG sp.length ord → f + ord.length = sp.length + 1 → inFm t st = true → SzOk st ord.length →
    Calls Tryd.prog 97 #[.agg (probC t x0 s0 sp.length (retN sp sp.length) gc gb), .slice (some ⟨ob, 0, none⟩) ord.length sp.length, .int .i64 (inM ord), x.v st, .func (.yield l) #[] #[]] A (GrowP t hs sp N0 Cw Cl J Jx f pre R A ord st ob) := by
  intro f
  induction f with
  | zero => intro pre R A ord st x ob hg ho hf; have := ho.le; omega
  | succ f IH =>
    intro pre R A ord st x ob hg ho hf hin hsz
    obtain ⟨A2, hA2⟩ : ∃ A2, A2 = (A.alloc (.cells (probC t x0 s0 sp.length (retN sp sp.length) gc gb) 125)).alloc (.cells #[.slice x.va st.vals.length x.vc, .slice x.pa st.prs.length x.pc] 31) := ⟨_, rfl⟩
    have b2 : Below A.heap.size A A2 := by rw [hA2]; exact two_blocks _ _ _ _ _
    have B2 : Hid (Below A.heap.size A A2) := b2
    have z2 : A2.heap.size = A.heap.size + 1 + 1 := by rw [hA2]; simp
    have PB : Hid (A2.heap[A.heap.size]? = some (.cells (probC t x0 s0 sp.length (retN sp sp.length) gc gb) 125)) := by
      show A2.heap[A.heap.size]? = _
      rw [hA2]; exact (heap_alloc_old _ _ (by simp)).trans (heap_alloc_at _ _ _ rfl)
    have NB : Hid (A2.heap[A.heap.size + 1]? = some (.cells #[.slice x.va st.vals.length x.vc, .slice x.pa st.prs.length x.pc] 31)) := by
      show A2.heap[A.heap.size + 1]? = _
      rw [hA2]; exact heap_alloc_at _ _ _ (by simp)
    have G2 : Hid (GPos w0 sp.length N0 J pre R A2 ord st x ob) := hg.low E b2
    have HE : Hid (GE t hs sp w0 gc gb l B N0 Cw Cl J Jx) := E
    have HO : Hid (OrdG sp.length ord) := ho
    have HF : Hid (f + 1 + ord.length = sp.length + 1) := hf
    have HN : Hid (inFm t st = true) := hin
    have HZ : Hid (SzOk st ord.length) := hsz
    have HI : Hid _ := IH
    have HG : Hid (GPos w0 sp.length N0 J pre R A ord st x ob) := hg
    have WB : Hid (decide (bits .andNot .i64 (retN sp sp.length : Int) (inM ord : Int) = 0) = wholeB sp ord) := whole_not (by have := E.n8; omega) ho.lt
    obtain ⟨⟨p0, _⟩, ⟨p1, _⟩, ⟨p2, _⟩, ⟨p3, _⟩, ⟨p4, _⟩, ⟨p5, _⟩⟩ := cells6 PB.out
    obtain ⟨⟨n0, _⟩, ⟨n1, _⟩⟩ := cells2 NB.out
    unfold SX.v
    simp only [probC] at hA2
    clear hg ho hf hin hsz IH E b2
    go_enter Tryd.func97, Tryd.ntmps97
    go_upto_region 1 with fail
    simp only [probC] at *
    rw [← hA2]
    clear hA2
    go_cut [26] from 15 to 26 (fun v wx => (v = .bool false ∧ GLoop t hs sp N0 Cw J f pre R A2 ord st ob 0 wx) ∨ (v = .bool true ∧ ∃ ys R9, ys.map Yl.p <+: allO t hs sp (f + 1) ord st ∧ Jx (pre ++ ys) wx ∧ GKeep (fun k => Cw k ∨ Cl k) ob R A2 R9 wx))
    case first =>
      by_cases hw : wholeB sp ord = true
      · have hb0 : bits BinOp.andNot IntKind.i64 (retN sp sp.length : Int) (inM ord : Int) = 0 := by have := WB.out; rw [hw] at this; exact of_decide_eq_true this
        have Y1 := G2.out.yield HE.out hw f
        unfold SX.v at Y1
        obtain ⟨fn, tmps, assign, body, hy, hR⟩ := Y1
        refine (wpIn_wide (n := 2)).1 ?_
        as_aux_lemma =>
          gi_wp2
          refine hR.mono ?_
          rintro e W3 (⟨rfl, hgl⟩ | ⟨rfl, hst⟩)
          · gi_wp2
            go_meet
            exact .inl ⟨rfl, hgl⟩
          · gi_wp2
            go_meet
            exact .inr ⟨rfl, hst⟩
      · have hb0 : ¬ bits BinOp.andNot IntKind.i64 (retN sp sp.length : Int) (inM ord : Int) = 0 := by have := WB.out; rw [Bool.eq_false_iff.2 hw] at this; exact of_decide_eq_false this
        go_wp2_with fail
        go_meet
        exact .inl ⟨rfl, G2.out.skip (by simpa using hw) f⟩
    case rest =>
      rcases hcut with ⟨rfl, hgl⟩ | ⟨rfl, ys, R9, hpf, hj, hk9⟩
      · have GL : Hid (GLoop t hs sp N0 Cw J f pre R A2 ord st ob 0 _) := hgl
        have hA2 : N0 ≤ A.heap.size := by have := HG.out.ob0; have := HG.out.row.lt; omega
        have hoA : ob < A.heap.size := HG.out.row.lt
        have hRA : Hid (∀ k, R k → k < A.heap.size) := fun k q => (HG.out.rb k q).2
        have BXS : Hid (∀ j W, GLoop t hs sp N0 Cw J f pre R A2 ord st ob j W → W.heap[A.heap.size]? = A2.heap[A.heap.size]? ∧ W.heap[A.heap.size + 1]? = A2.heap[A.heap.size + 1]?) := fun j W h => ⟨h.block HE.out (by omega) hA2 (by omega) (fun q => by have := hRA.out _ q; omega), h.block HE.out (by omega) (by omega) (by omega) (fun q => by have := hRA.out _ q; omega)⟩
        have hn8 : sp.length ≤ 8 := HE.out.n8
        clear hgl p0 p1 p2 p3 p4 p5 n0 n1
        rename World => wc0
        obtain ⟨e1, e2⟩ := BXS.out _ _ GL.out
        obtain ⟨⟨p0, _⟩, ⟨p1, _⟩, ⟨p2, _⟩, ⟨p3, _⟩, ⟨p4, _⟩, ⟨p5, _⟩⟩ := cells6 (e1.trans PB.out)
        clear e1 e2
        go_wp2_with fail
        clear p0 p1 p2 p3 p4 p5
        go_loopw [30] (fun i wr => ∃ j : Nat, j ≤ sp.length ∧ i = .int .i64 j ∧ GLoop t hs sp N0 Cw J f pre R A2 ord st ob j wr) (fun i _ => sp.length - (intOf i).toNat)
        case atStart => exact ⟨0, Nat.zero_le _, rfl, GL.out⟩
        case round =>
          obtain ⟨j, hj, rfl, hgl⟩ := hrel
          rename World => wr
          have GJ : Hid (GLoop t hs sp N0 Cw J f pre R A2 ord st ob j wr) := hgl
          obtain ⟨ys, R1, hys, hyo, hgp, hkp⟩ := hgl.pos HE.out G2.out
          have HY1 : Hid (ys.map Yl.p = allN t hs sp f ord st j) := hys
          have HY2 : Hid (∀ y ∈ ys, y.ob = ob) := hyo
          have GP : Hid (GPos w0 sp.length N0 J (pre ++ ys) R1 wr ord st x ob) := hgp
          have GK : Hid (GKeep Cw ob R A2 R1 wr) := hkp
          obtain ⟨e1, e2⟩ := BXS.out _ _ hgl
          have PBR : Hid (wr.heap[A.heap.size]? = some (.cells (probC t x0 s0 sp.length (retN sp sp.length) gc gb) 125)) := e1.trans PB.out
          have NBR : Hid (wr.heap[A.heap.size + 1]? = some (.cells #[.slice x.va st.vals.length x.vc, .slice x.pa st.prs.length x.pc] 31)) := e2.trans NB.out
          have zr : A.heap.size + 1 < wr.heap.size := by have := hkp.size; omega
          have zr0 : A.heap.size < wr.heap.size := by omega
          clear hgl hys hyo hgp hkp e1 e2
          by_cases hlt : j < sp.length
          · obtain ⟨cl, hcm, hca, hco⟩ := HE.out.calls
            have CA : Hid (CallsAt hs wr (some ⟨gc, 0, none⟩) gc cl) := hca.below GP.out.bw
            have CO : Hid (∀ y ∈ cl, OwnP wr (gc + 1) (retOf hs y.1).pairs y.2) := fun y hy => (hco y hy).below GP.out.bw
            have hgz : gc < wr.heap.size := Nat.lt_of_lt_of_le HE.out.cl GP.out.bw.size
            have hbz : gb < wr.heap.size := Nat.lt_of_lt_of_le HE.out.bl GP.out.bw.size
            have bj : wr.cell? ⟨gb, j, none⟩ = some (.int .i64 (befN sp j sp.length)) := (GP.out.bw.cell (p := ⟨gb, j, none⟩) HE.out.bl).trans (HE.out.bef j hlt)
            obtain ⟨ca, cq, cc, hpa, -, -, c0, c1, c2, c3, c4, c5, c6, c7, c8, c9, c10⟩ := call_eleven CA.out hcm CO.out hlt
            have HPA : Hid (PairsAt wr ca cq 0 (retOf hs (spAt sp j)).pairs) := hpa
            obtain ⟨⟨p0, _⟩, ⟨p1, _⟩, ⟨p2, _⟩, ⟨p3, _⟩, ⟨p4, _⟩, ⟨p5, _⟩⟩ := cells6 PBR.out
            obtain ⟨⟨n0, _⟩, ⟨n1, _⟩⟩ := cells2 NBR.out
            have j0 : (0 : Int) ≤ (j : Int) := Int.natCast_nonneg _
            have j1 : (j : Int) < (sp.length : Int) := by omega
            have MB : Hid ((decide (bits .and .i64 (inM ord : Int) (wrap64 ((2 : Int) ^ j)) = 0) && decide (bits .andNot .i64 (befN sp j sp.length : Int) (inM ord : Int) = 0)) = mayB sp ord j) := may_not hn8 hlt HO.out.lt
            have ON : Hid (onB t hs sp ord st j = (mayB sp ord j && agrB hs (spAt sp j) (sRet t st (cOp hs sp j)))) := rfl
            have AGR : Hid (∀ W ra rg rc, PairsAt W ca cq 0 (retOf hs (spAt sp j)).pairs → PairsAt W ra rg rc (sRet t st (cOp hs sp j)).pairs → ∀ rk, Calls Tryd.prog 64 #[.agg #[.int .i64 (evAt hs (spAt sp j).1).th, .int .i64 (cOp hs sp j).kind, .int .i64 (cOp hs sp j).key, .int .i64 (cOp hs sp j).val, .int .i64 (cOp hs sp j).hi, .bool (retOf hs (spAt sp j)).ok, .int .i64 (retOf hs (spAt sp j)).key, .int .i64 (retOf hs (spAt sp j)).val, .slice ca (retOf hs (spAt sp j)).pairs.length cc, .int .i64 (spAt sp j).1, .int .i64 (spAt sp j).2], .agg #[.bool (sRet t st (cOp hs sp j)).ok, .int .i64 (sRet t st (cOp hs sp j)).key, .int .i64 (sRet t st (cOp hs sp j)).val, .slice ra (sRet t st (cOp hs sp j)).pairs.length rk]] W fun e w' => e = .returned (.bool (agrB hs (spAt sp j) (sRet t st (cOp hs sp j)))) ∧ Below W.heap.size W w') := fun W ra rg rc h1 h2 rk => agrees_any hs (spAt sp j) (sRet t st (cOp hs sp j)) ca cq 0 cc ra rg rc rk W h1 h2 (HE.out.tos j hlt)
            by_cases hmay : mayB sp ord j = true
            · have hb12 : bits .and .i64 (inM ord : Int) (wrap64 ((2 : Int) ^ j)) = 0 ∧ bits .andNot .i64 (befN sp j sp.length : Int) (inM ord : Int) = 0 := by
                have := MB.out
                rw [hmay] at this
                simpa using this
              obtain ⟨hb1, hb2⟩ := hb12
              have ONA : Hid (onB t hs sp ord st j = agrB hs (spAt sp j) (sRet t st (cOp hs sp j))) := by show _ = _; rw [ON.out, hmay]; rfl
              have hno : ord.contains j = false := by
                have := hmay
                unfold mayB at this
                simp only [Bool.and_eq_true] at this
                simpa using this.1
              have hroom : ord.length + 1 ≤ sp.length := by have := (HO.out.snoc hlt hno).le; simpa using this
              have HO2 : Hid (OrdG sp.length (ord ++ [j])) := HO.out.snoc hlt hno
              have INM : Hid (bits .or .i64 (inM ord : Int) (wrap64 ((2 : Int) ^ j)) = (inM (ord ++ [j]) : Int)) := by show _ = _; rw [inM_snoc]; exact or_pow (by omega) (inM_lt (by omega) ord HO.out.lt)
              have RUN : Hid (∀ W bo, StAt W x st → OpsAt W (some ⟨bo, 0, none⟩) bo 0 [cOp hs sp j] → Calls Tryd.prog 58 #[.int .i64 t, .agg #[.slice x.va st.vals.length x.vc, .slice x.pa st.prs.length x.pc], .slice (some ⟨bo, 0, none⟩) 1 1] W (RunQ (sStep t st (cOp hs sp j)) (sRet t st (cOp hs sp j)) W)) := fun W bo h1 h2 => run_one (cOp hs sp j) bo W h1 h2 HE.out.t5 HN.out (ksC_iff.1 HE.out.ks j hlt) ⟨by have := HZ.out.v; omega, by have := HZ.out.p; omega⟩
              have GRW : Hid (∀ W x', onB t hs sp ord st j = true → But ob wr W → RoO W N0 ob 0 sp.length (ordI (ord ++ [j])) → StAt W x' (sStep t st (cOp hs sp j)) → ((sStep t st (cOp hs sp j)).vals.length ≠ 0 → wr.heap.size ≤ x'.vg) → ((sStep t st (cOp hs sp j)).prs.length ≠ 0 → wr.heap.size ≤ x'.pg) → Calls Tryd.prog 97 #[.agg #[.int .i64 t, .slice x0.va s0.vals.length x0.vc, .slice x0.pa s0.prs.length x0.pc, .slice (some ⟨gc, 0, none⟩) sp.length sp.length, .int .i64 (retN sp sp.length), .slice (some ⟨gb, 0, none⟩) sp.length sp.length], .slice (some ⟨ob, 0, none⟩) (ord.length + 1) sp.length, .int .i64 (bits .or .i64 (inM ord : Int) (wrap64 ((2 : Int) ^ j))), .agg #[.slice x'.va (sStep t st (cOp hs sp j)).vals.length x'.vc, .slice x'.pa (sStep t st (cOp hs sp j)).prs.length x'.pc], .func (.yield l) #[] #[]] W fun e W' => ((e = .returned (.bool true) ∧ GLoop t hs sp N0 Cw J f pre R A2 ord st ob (j + 1) W') ∨ (e = .returned (.bool false) ∧ ∃ ys R9, ys.map Yl.p <+: allO t hs sp (f + 1) ord st ∧ Jx (pre ++ ys) W' ∧ GKeep (fun k => Cw k ∨ Cl k) ob R A2 R9 W')) ∧ ∃ R2, GKeep (fun k => Cw k ∨ Cl k) ob R1 W R2 W') := fun W x' hon hbut hrow hst hv hp => by
                have q := HI.out (pre ++ ys) R1 W (ord ++ [j]) (sStep t st (cOp hs sp j)) x' ob (GP.out.deeper HE.out hbut hrow hst hv hp) HO2.out (by have := HF.out; simp; omega) (inFm_step HN.out _) (by have := HZ.out.step t (cOp hs sp j); simpa using this)
                rw [← INM.out, List.length_append] at q
                exact q.mono (fun e W' hq => ⟨GLoop.grown HY1.out HY2.out GK.out hbut hlt hon hq, by
                  rcases hq with ⟨-, -, R2, -, -, -, h4, -⟩ | ⟨-, -, R2, -, -, h4⟩
                  · exact ⟨R2, h4.wide Cl⟩
                  · exact ⟨R2, h4⟩⟩)
              have OFF : Hid (∀ W, onB t hs sp ord st j = false → Below wr.heap.size wr W → GLoop t hs sp N0 Cw J f pre R A2 ord st ob (j + 1) W) := fun W hoff hW => GJ.out.next HE.out G2.out hW hoff
              have APP : Hid (∀ W T b k ty, RoO W N0 ob 0 sp.length (ordI ord) → b = W.heap.size → (Builtin.append_ #[22, 22] ty #[.slice (some ⟨ob, 0, none⟩) ord.length sp.length, .slice (some ⟨b, 0, none⟩) 1 k]).run Tryd.prog (W.alloc (.cells #[.int .i64 j] T)) = .ok (.slice (some ⟨ob, 0, none⟩) (ord.length + 1) sp.length) ((W.alloc (.cells #[.int .i64 j] T)).setCell ⟨ob, ord.length, none⟩ (.int .i64 j))) := fun W T b k ty hR hb => by
                subst hb
                have q := append_room (hR.alloc (.cells #[.int .i64 j] T)) (by rw [ordI_length]; exact hroom) ty W.heap.size k j (cell_new W _ _ 0)
                rw [ordI_length] at q
                exact q
              have HR1 : Hid (∀ k, N0 ≤ k → (k = A.heap.size ∨ wr.heap.size ≤ k) → ¬ (Cw k ∨ Cl k) ∧ ¬ R1 k) := fun k hk h => ⟨fun c => by
                rcases c with c | c
                · have := HE.out.cw k c; omega
                · have := HE.out.cwl k c; omega, fun c => by
                have h1 := (GP.out.rb k c).2
                rcases GK.out.new k c with q | ⟨q, _⟩
                · have := hRA.out k q; omega
                · omega⟩
              have SX0 : Hid (StAt wr x st) := GP.out.sin.at_
              have ROW : Hid (RoO wr N0 ob 0 sp.length (ordI ord)) := GP.out.row
              have hobz : ob < wr.heap.size := GP.out.row.lt
              obtain ⟨S1, hS1⟩ : ∃ S1, S1 = sStep t st (cOp hs sp j) := ⟨_, rfl⟩
              obtain ⟨r1, hr1⟩ : ∃ r1, r1 = sRet t st (cOp hs sp j) := ⟨_, rfl⟩
              simp only [← hS1, ← hr1] at RUN GRW AGR ONA
              clear MB ON HY1 HY2 GK GJ BXS HI HZ HN HF HO HO2 WB INM HG PB NB G2 CA CO GP GL hS1 hr1 NBR hno hmay z2 hpa hca hco hcm
              generalize (cOp hs sp j) = o at *
              generalize (evAt hs (spAt sp j).1).th = t0 at *
              generalize hq5 : (retOf hs (spAt sp j)) = rr at *
              generalize (spAt sp j).1 = t9 at *
              go_upto_region 8 with (go_at_call 58; refine (RUN.out _ (wr.heap.size + 1) ((SX0.out.below (below_alloc _ _)).below (below_alloc _ _)) (by have := one_op (wr.alloc (.cells #[.int .i64 t0, .int .i64 o.kind, .int .i64 o.key, .int .i64 o.val, .int .i64 o.hi, .bool rr.ok, .int .i64 rr.key, .int .i64 rr.val, .slice ca rr.pairs.length cc, .int .i64 t9, .int .i64 (spAt sp j).2] 82)) o 43; simpa using this)).mono ?_; rintro e w3 ⟨x', a2, g2, p2, e2, rg, rk, rfl, hb3, hnew, hrg0, hrg1, d0, d1, d2, d3, hrp⟩)
              have CB : (wr.alloc (.cells #[.int .i64 t0, .int .i64 o.kind, .int .i64 o.key, .int .i64 o.val, .int .i64 o.hi, .bool rr.ok, .int .i64 rr.key, .int .i64 rr.val, .slice ca rr.pairs.length cc, .int .i64 t9, .int .i64 (spAt sp j).2] 82)).heap[wr.heap.size]? = some (.cells #[.int .i64 t0, .int .i64 o.kind, .int .i64 o.key, .int .i64 o.val, .int .i64 o.hi, .bool rr.ok, .int .i64 rr.key, .int .i64 rr.val, .slice ca rr.pairs.length cc, .int .i64 t9, .int .i64 (spAt sp j).2] 82) := heap_alloc_at _ _ _ rfl
              obtain ⟨W4, hW4⟩ : ∃ W4, W4 = w3.alloc (.cells #[.slice x'.va S1.vals.length x'.vc, .slice x'.pa S1.prs.length x'.pc] 31) := ⟨_, rfl⟩
              have b4 : Below w3.heap.size w3 W4 := by rw [hW4]; exact below_alloc _ _
              have z3 : wr.heap.size + 2 ≤ w3.heap.size := by have := hb3.size; simpa using this
              have hrg2 : wr.heap.size + 2 ≤ rg := by simpa using hrg0
              clear hrg0
              have z4 : W4.heap.size = w3.heap.size + 1 := by rw [hW4]; simp
              have NX4 : Hid (W4.heap[w3.heap.size]? = some (.cells #[.slice x'.va S1.vals.length x'.vc, .slice x'.pa S1.prs.length x'.pc] 31)) := by
                show W4.heap[w3.heap.size]? = _
                rw [hW4]; exact heap_alloc_at _ _ _ rfl
              have CB4 : Hid (W4.heap[wr.heap.size]? = some (.cells #[.int .i64 t0, .int .i64 o.kind, .int .i64 o.key, .int .i64 o.val, .int .i64 o.hi, .bool rr.ok, .int .i64 rr.key, .int .i64 rr.val, .slice ca rr.pairs.length cc, .int .i64 t9, .int .i64 (spAt sp j).2] 82)) := (b4.block _ (by omega)).trans ((hb3.block _ (by simp; omega)).trans ((heap_alloc_old _ _ (by simp)).trans CB))
              have B3 : Hid (Below wr.heap.size wr w3) := (two_blocks wr _ _ _ _).trans (hb3.mono (by simp; omega))
              have B4 : Hid (Below wr.heap.size wr W4) := B3.out.trans (b4.mono (by omega))
              have ROW4 : Hid (RoO W4 N0 ob 0 sp.length (ordI ord)) := ROW.out.below B4.out
              have ST4 : Hid (StAt W4 x' S1) := hnew.at_.below b4
              have HV4 : Hid (S1.vals.length ≠ 0 → wr.heap.size ≤ x'.vg ∧ x'.vg ≠ ob ∧ x'.vg < W4.heap.size) := fun q => by have := hnew.vB q; have h2 := hnew.at_.vals.lt q; simp at this; omega
              have HP4 : Hid (S1.prs.length ≠ 0 → wr.heap.size ≤ x'.pg ∧ x'.pg ≠ ob ∧ x'.pg < W4.heap.size) := fun q => by have := hnew.pB q; have h2 := hnew.at_.prs.lt q; simp at this; omega
              have PA4 : Hid (PairsAt W4 ca cq 0 rr.pairs) := HPA.out.below B4.out
              have PR4 : Hid (PairsAt W4 a2 g2 p2 r1.pairs) := hrp.below b4
              have PB4 : Hid (W4.heap[A.heap.size]? = some (.cells (probC t x0 s0 sp.length (retN sp sp.length) gc gb) 125)) := (B4.out.block _ (by omega)).trans PBR.out
              rw [← hW4]
              have AG : Hid (∀ W, Below W4.heap.size W4 W → Calls Tryd.prog 64 #[.agg #[.int .i64 t0, .int .i64 o.kind, .int .i64 o.key, .int .i64 o.val, .int .i64 o.hi, .bool rr.ok, .int .i64 rr.key, .int .i64 rr.val, .slice ca rr.pairs.length cc, .int .i64 t9, .int .i64 (spAt sp j).2], .agg #[.bool r1.ok, .int .i64 r1.key, .int .i64 r1.val, .slice a2 r1.pairs.length e2]] W fun e w' => e = .returned (.bool (agrB hs (spAt sp j) r1)) ∧ Below W4.heap.size W4 w') := fun W hW => (AGR.out W a2 g2 p2 (PA4.out.below hW) (PR4.out.below hW) e2).mono (fun e w' h => ⟨h.1, hW.trans (h.2.mono hW.size)⟩)
              have m0 := (b4.cell (p := ⟨rg, 0, none⟩) hrg1).trans d0
              have m1 := (b4.cell (p := ⟨rg, 1, none⟩) hrg1).trans d1
              have m2 := (b4.cell (p := ⟨rg, 2, none⟩) hrg1).trans d2
              have m3 := (b4.cell (p := ⟨rg, 3, none⟩) hrg1).trans d3
              obtain ⟨k0, k1, k2, k3, k4, k5, k6, k7, k8, k9, k10⟩ := cells11 CB4.out
              clear hW4 b4 hb3 hnew d0 d1 d2 d3 hrp CB c0 c1 c2 c3 c4 c5 c6 c7 c8 c9 c10 p0 p1 p2 p3 p4 p5 n0 n1 bj AGR RUN PA4 PR4 CB4 B3
              generalize (spAt sp j).2 = t10 at *
              generalize hG : agrB hs (spAt sp j) r1 = G at *
              clear hG
              go_cut [79] from 60 to 79 (fun v wx => (v = .bool false ∧ GLoop t hs sp N0 Cw J f pre R A2 ord st ob (j + 1) wx) ∨ (v = .bool true ∧ ∃ ys R9, ys.map Yl.p <+: allO t hs sp (f + 1) ord st ∧ Jx (pre ++ ys) wx ∧ GKeep (fun k => Cw k ∨ Cl k) ob R A2 R9 wx))
              case first =>
                cases G
                · have HOFF : Hid (∀ W, Below W4.heap.size W4 W → GLoop t hs sp N0 Cw J f pre R A2 ord st ob (j + 1) W) := fun W hW => OFF.out W ONA.out (B4.out.trans (hW.mono B4.out.size))
                  obtain ⟨⟨q0, _⟩, ⟨q1, _⟩, ⟨q2, _⟩, ⟨q3, _⟩, ⟨q4, _⟩, ⟨q5, _⟩⟩ := cells6 PB4.out
                  obtain ⟨⟨y0, _⟩, ⟨y1, _⟩⟩ := cells2 NX4.out
                  have l1 : A.heap.size < W4.heap.size := by omega
                  have l2 : wr.heap.size < W4.heap.size := by omega
                  have l3 : w3.heap.size < W4.heap.size := by omega
                  have l4 : rg < W4.heap.size := by omega
                  clear PB4 NX4 GRW HE OFF SX0 ROW ST4 HV4 HP4
                  refine wp_region_noPanic ?_
                  refine wp_region_held (S := (fun w' => w'.cell? ⟨wr.heap.size, 0, none⟩ = some (.int .i64 t0) ∧ w'.cell? ⟨wr.heap.size, 1, none⟩ = some (.int .i64 o.kind) ∧ w'.cell? ⟨wr.heap.size, 2, none⟩ = some (.int .i64 o.key) ∧ w'.cell? ⟨wr.heap.size, 3, none⟩ = some (.int .i64 o.val) ∧ w'.cell? ⟨wr.heap.size, 4, none⟩ = some (.int .i64 o.hi) ∧ w'.cell? ⟨wr.heap.size, 5, none⟩ = some (.bool rr.ok) ∧ w'.cell? ⟨wr.heap.size, 6, none⟩ = some (.int .i64 rr.key) ∧ w'.cell? ⟨wr.heap.size, 7, none⟩ = some (.int .i64 rr.val) ∧ w'.cell? ⟨wr.heap.size, 8, none⟩ = some (.slice ca rr.pairs.length cc) ∧ w'.cell? ⟨wr.heap.size, 9, none⟩ = some (.int .i64 t9) ∧ w'.cell? ⟨wr.heap.size, 10, none⟩ = some (.int .i64 t10) ∧ w'.cell? ⟨rg, 0, none⟩ = some (.bool r1.ok) ∧ w'.cell? ⟨rg, 1, none⟩ = some (.int .i64 r1.key) ∧ w'.cell? ⟨rg, 2, none⟩ = some (.int .i64 r1.val) ∧ w'.cell? ⟨rg, 3, none⟩ = some (.slice a2 r1.pairs.length e2))) (by kernel_rfl) ?_
                  have hS0 : (fun w' => w'.cell? ⟨wr.heap.size, 0, none⟩ = some (.int .i64 t0) ∧ w'.cell? ⟨wr.heap.size, 1, none⟩ = some (.int .i64 o.kind) ∧ w'.cell? ⟨wr.heap.size, 2, none⟩ = some (.int .i64 o.key) ∧ w'.cell? ⟨wr.heap.size, 3, none⟩ = some (.int .i64 o.val) ∧ w'.cell? ⟨wr.heap.size, 4, none⟩ = some (.int .i64 o.hi) ∧ w'.cell? ⟨wr.heap.size, 5, none⟩ = some (.bool rr.ok) ∧ w'.cell? ⟨wr.heap.size, 6, none⟩ = some (.int .i64 rr.key) ∧ w'.cell? ⟨wr.heap.size, 7, none⟩ = some (.int .i64 rr.val) ∧ w'.cell? ⟨wr.heap.size, 8, none⟩ = some (.slice ca rr.pairs.length cc) ∧ w'.cell? ⟨wr.heap.size, 9, none⟩ = some (.int .i64 t9) ∧ w'.cell? ⟨wr.heap.size, 10, none⟩ = some (.int .i64 t10) ∧ w'.cell? ⟨rg, 0, none⟩ = some (.bool r1.ok) ∧ w'.cell? ⟨rg, 1, none⟩ = some (.int .i64 r1.key) ∧ w'.cell? ⟨rg, 2, none⟩ = some (.int .i64 r1.val) ∧ w'.cell? ⟨rg, 3, none⟩ = some (.slice a2 r1.pairs.length e2)) W4.drew := ⟨k0, k1, k2, k3, k4, k5, k6, k7, k8, k9, k10, m0, m1, m2, m3⟩
                  show wpAnyH _ _ _ _ _ _ _ _ W4.drew
                  refine wpAnyH_take (i := 0) (v := .agg #[.int .i64 t0, .int .i64 o.kind, .int .i64 o.key, .int .i64 o.val, .int .i64 o.hi, .bool rr.ok, .int .i64 rr.key, .int .i64 rr.val, .slice ca rr.pairs.length cc, .int .i64 t9, .int .i64 t10]) rfl (by kernel_rfl) (by kernel_rfl) (by kernel_rfl) (fun _ _ _ h => h) (Or.inl ⟨by rfl, ?_⟩) hS0 ?_
                  · rintro W ⟨h0, h1, h2, h3, h4, h5, h6, h7, h8, h9, h10, -⟩
                    go_simp
                  try simp only [List.getElem_toArray, List.getElem_cons_zero, List.getElem_cons_succ, Act.put, List.setIfInBounds_toArray, List.set_cons_zero, List.set_cons_succ]
                  refine wpAnyH_take (i := 1) (v := .slice (some ⟨rg, 0, none⟩) 1 rk) rfl (by kernel_rfl) (by kernel_rfl) (by kernel_rfl) (fun _ _ _ h => h) (Or.inl ⟨by rfl, fun W _ => by go_simp⟩) hS0 ?_
                  try simp only [List.getElem_toArray, List.getElem_cons_zero, List.getElem_cons_succ, Act.put, List.setIfInBounds_toArray, List.set_cons_zero, List.set_cons_succ]
                  refine wpAnyH_take (i := 2) (v := .pointer (some ⟨rg, 0, none⟩)) rfl (by kernel_rfl) (by kernel_rfl) (by kernel_rfl) (fun _ _ _ h => h) (Or.inl ⟨by rfl, fun W _ => by go_simp⟩) hS0 ?_
                  try simp only [List.getElem_toArray, List.getElem_cons_zero, List.getElem_cons_succ, Act.put, List.setIfInBounds_toArray, List.set_cons_zero, List.set_cons_succ]
                  refine wpAnyH_take (i := 3) (v := .agg #[.bool r1.ok, .int .i64 r1.key, .int .i64 r1.val, .slice a2 r1.pairs.length e2]) rfl (by kernel_rfl) (by kernel_rfl) (by kernel_rfl) (fun _ _ _ h => h) (Or.inl ⟨by rfl, ?_⟩) hS0 ?_
                  · rintro W ⟨-, -, -, -, -, -, -, -, -, -, -, h0, h1, h2, h3⟩
                    go_simp
                  try simp only [List.getElem_toArray, List.getElem_cons_zero, List.getElem_cons_succ, Act.put, List.setIfInBounds_toArray, List.set_cons_zero, List.set_cons_succ]
                  refine wpAnyH_all (rs := [4]) (by kernel_rfl) (by simp) ?_
                  intro i hi
                  obtain rfl := List.mem_singleton.1 hi
                  refine wpOp_callTo rfl (by rfl) 64 _ (by go_simp) (fun v w5 => v = .bool false ∧ Below W4.heap.size W4 w5) ((AG.out _ ((Below.refl _ _).drew)).mono (fun e w' h => ⟨_, h.1, rfl, h.2⟩)) ?_
                  rintro v w5 ⟨rfl, hb5⟩
                  have hS5 : (fun w' => w'.cell? ⟨wr.heap.size, 0, none⟩ = some (.int .i64 t0) ∧ w'.cell? ⟨wr.heap.size, 1, none⟩ = some (.int .i64 o.kind) ∧ w'.cell? ⟨wr.heap.size, 2, none⟩ = some (.int .i64 o.key) ∧ w'.cell? ⟨wr.heap.size, 3, none⟩ = some (.int .i64 o.val) ∧ w'.cell? ⟨wr.heap.size, 4, none⟩ = some (.int .i64 o.hi) ∧ w'.cell? ⟨wr.heap.size, 5, none⟩ = some (.bool rr.ok) ∧ w'.cell? ⟨wr.heap.size, 6, none⟩ = some (.int .i64 rr.key) ∧ w'.cell? ⟨wr.heap.size, 7, none⟩ = some (.int .i64 rr.val) ∧ w'.cell? ⟨wr.heap.size, 8, none⟩ = some (.slice ca rr.pairs.length cc) ∧ w'.cell? ⟨wr.heap.size, 9, none⟩ = some (.int .i64 t9) ∧ w'.cell? ⟨wr.heap.size, 10, none⟩ = some (.int .i64 t10) ∧ w'.cell? ⟨rg, 0, none⟩ = some (.bool r1.ok) ∧ w'.cell? ⟨rg, 1, none⟩ = some (.int .i64 r1.key) ∧ w'.cell? ⟨rg, 2, none⟩ = some (.int .i64 r1.val) ∧ w'.cell? ⟨rg, 3, none⟩ = some (.slice a2 r1.pairs.length e2)) w5 := ⟨(hb5.cell (p := ⟨_, 0, none⟩) l2).trans k0, (hb5.cell (p := ⟨_, 1, none⟩) l2).trans k1, (hb5.cell (p := ⟨_, 2, none⟩) l2).trans k2, (hb5.cell (p := ⟨_, 3, none⟩) l2).trans k3, (hb5.cell (p := ⟨_, 4, none⟩) l2).trans k4, (hb5.cell (p := ⟨_, 5, none⟩) l2).trans k5, (hb5.cell (p := ⟨_, 6, none⟩) l2).trans k6, (hb5.cell (p := ⟨_, 7, none⟩) l2).trans k7, (hb5.cell (p := ⟨_, 8, none⟩) l2).trans k8, (hb5.cell (p := ⟨_, 9, none⟩) l2).trans k9, (hb5.cell (p := ⟨_, 10, none⟩) l2).trans k10, (hb5.cell (p := ⟨_, 0, none⟩) l4).trans m0, (hb5.cell (p := ⟨_, 1, none⟩) l4).trans m1, (hb5.cell (p := ⟨_, 2, none⟩) l4).trans m2, (hb5.cell (p := ⟨_, 3, none⟩) l4).trans m3⟩
                  refine ⟨hS5, ?_⟩
                  try simp only [List.getElem_toArray, List.getElem_cons_zero, List.getElem_cons_succ, Act.put, List.setIfInBounds_toArray, List.set_cons_zero, List.set_cons_succ]
                  refine wpAnyH_take (i := 5) (v := .bool false) rfl (by kernel_rfl) (by kernel_rfl) (by kernel_rfl) (fun _ _ _ h => h) (Or.inl ⟨by rfl, fun W _ => by go_simp⟩) hS5 ?_
                  try simp only [List.getElem_toArray, List.getElem_cons_zero, List.getElem_cons_succ, Act.put, List.setIfInBounds_toArray, List.set_cons_zero, List.set_cons_succ]
                  refine wpAnyH_take (i := 6) (v := undef) rfl (by kernel_rfl) (by kernel_rfl) (by kernel_rfl) (fun _ _ _ h => h) (Or.inr ⟨by rfl, rfl⟩) hS5 ?_
                  try simp only [List.getElem_toArray, List.getElem_cons_zero, List.getElem_cons_succ, Act.put, List.setIfInBounds_toArray, List.set_cons_zero, List.set_cons_succ]
                  refine wpAnyH_take (i := 7) (v := undef) rfl (by kernel_rfl) (by kernel_rfl) (by kernel_rfl) (fun _ _ _ h => h) (Or.inr ⟨by rfl, rfl⟩) hS5 ?_
                  try simp only [List.getElem_toArray, List.getElem_cons_zero, List.getElem_cons_succ, Act.put, List.setIfInBounds_toArray, List.set_cons_zero, List.set_cons_succ]
                  refine wpAnyH_take (i := 8) (v := undef) rfl (by kernel_rfl) (by kernel_rfl) (by kernel_rfl) (fun _ _ _ h => h) (Or.inr ⟨by rfl, rfl⟩) hS5 ?_
                  try simp only [List.getElem_toArray, List.getElem_cons_zero, List.getElem_cons_succ, Act.put, List.setIfInBounds_toArray, List.set_cons_zero, List.set_cons_succ]
                  refine wpAnyH_take (i := 9) (v := undef) rfl (by kernel_rfl) (by kernel_rfl) (by kernel_rfl) (fun _ _ _ h => h) (Or.inr ⟨by rfl, rfl⟩) hS5 ?_
                  try simp only [List.getElem_toArray, List.getElem_cons_zero, List.getElem_cons_succ, Act.put, List.setIfInBounds_toArray, List.set_cons_zero, List.set_cons_succ]
                  refine wpAnyH_take (i := 10) (v := undef) rfl (by kernel_rfl) (by kernel_rfl) (by kernel_rfl) (fun _ _ _ h => h) (Or.inr ⟨by rfl, rfl⟩) hS5 ?_
                  try simp only [List.getElem_toArray, List.getElem_cons_zero, List.getElem_cons_succ, Act.put, List.setIfInBounds_toArray, List.set_cons_zero, List.set_cons_succ]
                  refine wpAnyH_take (i := 11) (v := undef) rfl (by kernel_rfl) (by kernel_rfl) (by kernel_rfl) (fun _ _ _ h => h) (Or.inr ⟨by rfl, rfl⟩) hS5 ?_
                  try simp only [List.getElem_toArray, List.getElem_cons_zero, List.getElem_cons_succ, Act.put, List.setIfInBounds_toArray, List.set_cons_zero, List.set_cons_succ]
                  refine wpAnyH_take (i := 12) (v := undef) rfl (by kernel_rfl) (by kernel_rfl) (by kernel_rfl) (fun _ _ _ h => h) (Or.inr ⟨by rfl, rfl⟩) hS5 ?_
                  try simp only [List.getElem_toArray, List.getElem_cons_zero, List.getElem_cons_succ, Act.put, List.setIfInBounds_toArray, List.set_cons_zero, List.set_cons_succ]
                  refine wpAnyH_take (i := 13) (v := undef) rfl (by kernel_rfl) (by kernel_rfl) (by kernel_rfl) (fun _ _ _ h => h) (Or.inr ⟨by rfl, rfl⟩) hS5 ?_
                  try simp only [List.getElem_toArray, List.getElem_cons_zero, List.getElem_cons_succ, Act.put, List.setIfInBounds_toArray, List.set_cons_zero, List.set_cons_succ]
                  refine wpAnyH_take (i := 14) (v := undef) rfl (by kernel_rfl) (by kernel_rfl) (by kernel_rfl) (fun _ _ _ h => h) (Or.inr ⟨by rfl, rfl⟩) hS5 ?_
                  try simp only [List.getElem_toArray, List.getElem_cons_zero, List.getElem_cons_succ, Act.put, List.setIfInBounds_toArray, List.set_cons_zero, List.set_cons_succ]
                  refine wpAnyH_take (i := 15) (v := undef) rfl (by kernel_rfl) (by kernel_rfl) (by kernel_rfl) (fun _ _ _ h => h) (Or.inr ⟨by rfl, rfl⟩) hS5 ?_
                  try simp only [List.getElem_toArray, List.getElem_cons_zero, List.getElem_cons_succ, Act.put, List.setIfInBounds_toArray, List.set_cons_zero, List.set_cons_succ]
                  refine wpAnyH_take (i := 16) (v := undef) rfl (by kernel_rfl) (by kernel_rfl) (by kernel_rfl) (fun _ _ _ h => h) (Or.inr ⟨by rfl, rfl⟩) hS5 ?_
                  try simp only [List.getElem_toArray, List.getElem_cons_zero, List.getElem_cons_succ, Act.put, List.setIfInBounds_toArray, List.set_cons_zero, List.set_cons_succ]
                  refine wpAnyH_take (i := 17) (v := undef) rfl (by kernel_rfl) (by kernel_rfl) (by kernel_rfl) (fun _ _ _ h => h) (Or.inr ⟨by rfl, rfl⟩) hS5 ?_
                  try simp only [List.getElem_toArray, List.getElem_cons_zero, List.getElem_cons_succ, Act.put, List.setIfInBounds_toArray, List.set_cons_zero, List.set_cons_succ]
                  refine wpAnyH_take (i := 18) (v := undef) rfl (by kernel_rfl) (by kernel_rfl) (by kernel_rfl) (fun _ _ _ h => h) (Or.inr ⟨by rfl, rfl⟩) hS5 ?_
                  try simp only [List.getElem_toArray, List.getElem_cons_zero, List.getElem_cons_succ, Act.put, List.setIfInBounds_toArray, List.set_cons_zero, List.set_cons_succ]
                  refine wpAnyH_take (i := 19) (v := .bool false) rfl (by kernel_rfl) (by kernel_rfl) (by kernel_rfl) (fun _ _ _ h => h) (Or.inl ⟨by rfl, fun W _ => by go_simp⟩) hS5 ?_
                  try simp only [List.getElem_toArray, List.getElem_cons_zero, List.getElem_cons_succ, Act.put, List.setIfInBounds_toArray, List.set_cons_zero, List.set_cons_succ]
                  refine wpAnyH_done (by kernel_rfl) ?_ _
                  refine NoPanic.normal ?_
                  first | go_meet | (go_wp2_with fail; go_meet)
                  exact .inl ⟨rfl, HOFF.out _ hb5⟩
                · have hon : Hid (onB t hs sp ord st j = true) := ONA.out
                  have GRW9 : Hid (∀ W9, onB t hs sp ord st j = true → (∃ W T, Below W4.heap.size W4 W ∧ (W9 = (W.alloc (.cells #[.int .i64 j] T)).setCell ⟨ob, ord.length, none⟩ (.int .i64 j) ∨ W9 = (W.setCell ⟨ob, ord.length, none⟩ (.int .i64 j)).alloc (.cells #[.int .i64 j] T))) → Calls Tryd.prog 97 #[.agg #[.int .i64 t, .slice x0.va s0.vals.length x0.vc, .slice x0.pa s0.prs.length x0.pc, .slice (some ⟨gc, 0, none⟩) sp.length sp.length, .int .i64 (retN sp sp.length), .slice (some ⟨gb, 0, none⟩) sp.length sp.length], .slice (some ⟨ob, 0, none⟩) (ord.length + 1) sp.length, .int .i64 (bits .or .i64 (inM ord : Int) (IntKind.i64.wrap ((2 : Int) ^ j))), .agg #[.slice x'.va S1.vals.length x'.vc, .slice x'.pa S1.prs.length x'.pc], .func (.yield l) #[] #[]] W9 fun e W' => ∃ z, e = .returned (.bool z) ∧ ((z = true ∧ GLoop t hs sp N0 Cw J f pre R A2 ord st ob (j + 1) W') ∨ (z = false ∧ ∃ ys R9, ys.map Yl.p <+: allO t hs sp (f + 1) ord st ∧ Jx (pre ++ ys) W' ∧ GKeep (fun k => Cw k ∨ Cl k) ob R A2 R9 W')) ∧ ∀ k, (k = A.heap.size ∨ wr.heap.size ≤ k) → k < W4.heap.size → k ≠ ob → W'.heap[k]? = W4.heap[k]?) := fun W9 hon hW9 => by
                    obtain ⟨W, T, hW, h9⟩ := hW9
                    have hbut : But ob W4 W9 := by
                      rcases h9 with rfl | rfl
                      · exact (But.of_below (hW.trans ((below_alloc W _).mono hW.size))).trans (But.set _ _ _ _)
                      · exact ((But.of_below hW).trans (But.set _ _ _ _)).trans (But.new _ _)
                    have hrow : RoO W9 N0 ob 0 sp.length (ordI (ord ++ [j])) := by
                      rcases h9 with rfl | rfl
                      · have hrow := ((ROW4.out.below hW).alloc (.cells #[.int .i64 j] T)).push (by rw [ordI_length]; exact hroom) (j : Int)
                        rw [ordI_length, Nat.zero_add, ← ordI_snoc] at hrow
                        exact hrow
                      · have hrow := (ROW4.out.below hW).push (by rw [ordI_length]; exact hroom) (j : Int)
                        rw [ordI_length, Nat.zero_add, ← ordI_snoc] at hrow
                        exact hrow.alloc _
                    rw [w64]
                    refine Calls.mono (GRW.out _ x' hon ((But.of_below B4.out).trans hbut) hrow (ST4.out.same hbut.1 (fun q => hbut.2.1 _ (HV4.out q).2.2 (HV4.out q).2.1) (fun q => hbut.2.1 _ (HP4.out q).2.2 (HP4.out q).2.1)) (fun q => (HV4.out q).1) (fun q => (HP4.out q).1)) (fun e W' h => ?_)
                    obtain ⟨h, R2, hk⟩ := h
                    have hfr : ∀ k, (k = A.heap.size ∨ wr.heap.size ≤ k) → k < W4.heap.size → k ≠ ob → W'.heap[k]? = W4.heap[k]? := fun k h1 h2 h3 => by
                      obtain ⟨n1, n2⟩ := HR1.out k (by omega) h1
                      exact (hk.same k (Nat.lt_of_lt_of_le h2 hbut.1) h3 n1 n2).trans (hbut.2.1 k h2 h3)
                    exact h.elim (fun q => ⟨true, q.1, .inl ⟨rfl, q.2⟩, hfr⟩) (fun q => ⟨false, q.1, .inr ⟨rfl, q.2⟩, hfr⟩)
                  clear GRW HE OFF SX0 ROW ST4 HV4 HP4
                  have x1 : ob ≠ A.heap.size := by have := hRA.out; omega
                  have x2 : ob ≠ wr.heap.size := by omega
                  have x3 : ob ≠ w3.heap.size := by omega
                  have x4 : ob ≠ rg := by omega
                  obtain ⟨⟨q0, _⟩, ⟨q1, _⟩, ⟨q2, _⟩, ⟨q3, _⟩, ⟨q4, _⟩, ⟨q5, _⟩⟩ := cells6 PB4.out
                  obtain ⟨⟨y0, _⟩, ⟨y1, _⟩⟩ := cells2 NX4.out
                  have l1 : A.heap.size < W4.heap.size := by omega
                  have l2 : wr.heap.size < W4.heap.size := by omega
                  have l3 : w3.heap.size < W4.heap.size := by omega
                  have l4 : rg < W4.heap.size := by omega
                  clear PB4 NX4
                  first | (go_region_held3 (fun w' => w'.cell? ⟨wr.heap.size, 0, none⟩ = some (.int .i64 t0) ∧ w'.cell? ⟨wr.heap.size, 1, none⟩ = some (.int .i64 o.kind) ∧ w'.cell? ⟨wr.heap.size, 2, none⟩ = some (.int .i64 o.key) ∧ w'.cell? ⟨wr.heap.size, 3, none⟩ = some (.int .i64 o.val) ∧ w'.cell? ⟨wr.heap.size, 4, none⟩ = some (.int .i64 o.hi) ∧ w'.cell? ⟨wr.heap.size, 5, none⟩ = some (.bool rr.ok) ∧ w'.cell? ⟨wr.heap.size, 6, none⟩ = some (.int .i64 rr.key) ∧ w'.cell? ⟨wr.heap.size, 7, none⟩ = some (.int .i64 rr.val) ∧ w'.cell? ⟨wr.heap.size, 8, none⟩ = some (.slice ca rr.pairs.length cc) ∧ w'.cell? ⟨wr.heap.size, 9, none⟩ = some (.int .i64 t9) ∧ w'.cell? ⟨wr.heap.size, 10, none⟩ = some (.int .i64 t10)
                      ∧ w'.cell? ⟨rg, 0, none⟩ = some (.bool r1.ok) ∧ w'.cell? ⟨rg, 1, none⟩ = some (.int .i64 r1.key) ∧ w'.cell? ⟨rg, 2, none⟩ = some (.int .i64 r1.val) ∧ w'.cell? ⟨rg, 3, none⟩ = some (.slice a2 r1.pairs.length e2)
                      ∧ w'.cell? ⟨A.heap.size, 0, none⟩ = some (.int .i64 t) ∧ w'.cell? ⟨A.heap.size, 1, none⟩ = some (.slice x0.va s0.vals.length x0.vc) ∧ w'.cell? ⟨A.heap.size, 2, none⟩ = some (.slice x0.pa s0.prs.length x0.pc) ∧ w'.cell? ⟨A.heap.size, 3, none⟩ = some (.slice (some ⟨gc, 0, none⟩) sp.length sp.length) ∧ w'.cell? ⟨A.heap.size, 4, none⟩ = some (.int .i64 (retN sp sp.length)) ∧ w'.cell? ⟨A.heap.size, 5, none⟩ = some (.slice (some ⟨gb, 0, none⟩) sp.length sp.length)
                      ∧ w'.cell? ⟨w3.heap.size, 0, none⟩ = some (.slice x'.va S1.vals.length x'.vc) ∧ w'.cell? ⟨w3.heap.size, 1, none⟩ = some (.slice x'.pa S1.prs.length x'.pc))
                    (first | go_keep | (refine ⟨(hb5.cell (p := ⟨_, 0, none⟩) l2).trans k0, (hb5.cell (p := ⟨_, 1, none⟩) l2).trans k1, (hb5.cell (p := ⟨_, 2, none⟩) l2).trans k2, (hb5.cell (p := ⟨_, 3, none⟩) l2).trans k3, (hb5.cell (p := ⟨_, 4, none⟩) l2).trans k4, (hb5.cell (p := ⟨_, 5, none⟩) l2).trans k5, (hb5.cell (p := ⟨_, 6, none⟩) l2).trans k6, (hb5.cell (p := ⟨_, 7, none⟩) l2).trans k7, (hb5.cell (p := ⟨_, 8, none⟩) l2).trans k8, (hb5.cell (p := ⟨_, 9, none⟩) l2).trans k9, (hb5.cell (p := ⟨_, 10, none⟩) l2).trans k10, (hb5.cell (p := ⟨_, 0, none⟩) l4).trans m0, (hb5.cell (p := ⟨_, 1, none⟩) l4).trans m1, (hb5.cell (p := ⟨_, 2, none⟩) l4).trans m2, (hb5.cell (p := ⟨_, 3, none⟩) l4).trans m3, (hb5.cell (p := ⟨_, 0, none⟩) l1).trans q0, (hb5.cell (p := ⟨_, 1, none⟩) l1).trans q1, (hb5.cell (p := ⟨_, 2, none⟩) l1).trans q2, (hb5.cell (p := ⟨_, 3, none⟩) l1).trans q3, (hb5.cell (p := ⟨_, 4, none⟩) l1).trans q4, (hb5.cell (p := ⟨_, 5, none⟩) l1).trans q5, (hb5.cell (p := ⟨_, 0, none⟩) l3).trans y0, (hb5.cell (p := ⟨_, 1, none⟩) l3).trans y1⟩) | (refine ⟨(World.cell?_of_block (a := ⟨_, 0, none⟩) f2).trans k0, (World.cell?_of_block (a := ⟨_, 1, none⟩) f2).trans k1, (World.cell?_of_block (a := ⟨_, 2, none⟩) f2).trans k2, (World.cell?_of_block (a := ⟨_, 3, none⟩) f2).trans k3, (World.cell?_of_block (a := ⟨_, 4, none⟩) f2).trans k4, (World.cell?_of_block (a := ⟨_, 5, none⟩) f2).trans k5, (World.cell?_of_block (a := ⟨_, 6, none⟩) f2).trans k6, (World.cell?_of_block (a := ⟨_, 7, none⟩) f2).trans k7, (World.cell?_of_block (a := ⟨_, 8, none⟩) f2).trans k8, (World.cell?_of_block (a := ⟨_, 9, none⟩) f2).trans k9, (World.cell?_of_block (a := ⟨_, 10, none⟩) f2).trans k10, (World.cell?_of_block (a := ⟨_, 0, none⟩) f4).trans m0, (World.cell?_of_block (a := ⟨_, 1, none⟩) f4).trans m1, (World.cell?_of_block (a := ⟨_, 2, none⟩) f4).trans m2, (World.cell?_of_block (a := ⟨_, 3, none⟩) f4).trans m3, (World.cell?_of_block (a := ⟨_, 0, none⟩) f1).trans q0, (World.cell?_of_block (a := ⟨_, 1, none⟩) f1).trans q1, (World.cell?_of_block (a := ⟨_, 2, none⟩) f1).trans q2, (World.cell?_of_block (a := ⟨_, 3, none⟩) f1).trans q3, (World.cell?_of_block (a := ⟨_, 4, none⟩) f1).trans q4, (World.cell?_of_block (a := ⟨_, 5, none⟩) f1).trans q5, (World.cell?_of_block (a := ⟨_, 0, none⟩) f3).trans y0, (World.cell?_of_block (a := ⟨_, 1, none⟩) f3).trans y1⟩))
                    (first | (go_at_call 64; refine (AG.out _ ((Below.refl _ _).drew)).mono ?_; rintro e w5 ⟨rfl, hb5⟩) | (go_at_call 97; refine (GRW9.out _ hon.out ⟨w5, _, hb5, by first | exact Or.inl rfl | exact Or.inr rfl⟩).mono ?_; rintro e w9 ⟨z9, rfl, hz9, hfr9⟩; have f1 := hfr9 A.heap.size (Or.inl rfl) l1 (Ne.symm x1); have f2 := hfr9 wr.heap.size (Or.inr (Nat.le_refl _)) l2 (Ne.symm x2); have f3 := hfr9 w3.heap.size (Or.inr (by omega)) l3 (Ne.symm x3); have f4 := hfr9 rg (Or.inr (by omega)) l4 (Ne.symm x4); clear hfr9) | (refine step_append_rm (by rfl) _ _ (by rfl) ((ROW4.out.below hb5).alloc _) (ordI_length _) hroom (by rfl) _ _ _ (by rfl) (cell_new _ _ _ 0) ?_))) | fail
                  all_goals go_wp2_with fail
                  all_goals go_meet
                  rcases hz9 with ⟨rfl, hg9⟩ | ⟨rfl, hs9⟩
                  · exact .inl ⟨rfl, hg9⟩
                  · exact .inr ⟨rfl, hs9⟩
              case rest =>
                rcases hcut with ⟨rfl, hg9⟩ | ⟨rfl, ys9, R9, hpf9, hj9, hk9⟩
                · have G9 : Hid (GLoop t hs sp N0 Cw J f pre R A2 ord st ob (j + 1) _) := hg9
                  as_aux_lemma =>
                    go_wp2_with fail
                    exact ⟨⟨j + 1, by omega, by go_num, G9.out⟩, by simp [intOf]; omega⟩
                · have FIN : Hid (GrowP t hs sp N0 Cw Cl J Jx (f + 1) pre R A ord st ob (.returned (.bool false)) _) := .inr ⟨rfl, ys9, R9, hpf9, hj9, (GKeep.but (But.of_below B2.out)).trans hk9⟩
                  as_aux_lemma =>
                    go_wp2_with fail
                    go_ret
                    exact FIN.out
            · have hoff : Hid (onB t hs sp ord st j = false) := by show _ = _; rw [ON.out, Bool.eq_false_iff.2 hmay]; rfl
              have NX : Hid (∀ W, Below wr.heap.size wr W → GLoop t hs sp N0 Cw J f pre R A2 ord st ob (j + 1) W) := fun W hW => GJ.out.next HE.out G2.out hW hoff.out
              have hb12 : bits .and .i64 (inM ord : Int) (wrap64 ((2 : Int) ^ j)) ≠ 0 ∨ (bits .and .i64 (inM ord : Int) (wrap64 ((2 : Int) ^ j)) = 0 ∧ bits .andNot .i64 (befN sp j sp.length : Int) (inM ord : Int) ≠ 0) := by
                have := MB.out
                rw [Bool.eq_false_iff.2 hmay] at this
                by_cases q : bits .and .i64 (inM ord : Int) (wrap64 ((2 : Int) ^ j)) = 0
                · right
                  refine ⟨q, fun q2 => ?_⟩
                  rw [q, q2] at this
                  simp at this
                · exact .inl q
              clear AGR MB ON hmay
              rcases hb12 with hb1 | ⟨hb1, hb2⟩
              · have hb1' : (bits .and .i64 (inM ord : Int) (wrap64 ((2 : Int) ^ j)) != 0) = true := by simpa using hb1
                as_aux_lemma =>
                  go_wp2_with fail
                  exact ⟨⟨j + 1, by omega, by go_num, NX.out _ (below_alloc _ _)⟩, by simp [intOf]; omega⟩
              · as_aux_lemma =>
                  go_wp2_with fail
                  exact ⟨⟨j + 1, by omega, by go_num, NX.out _ (below_alloc _ _)⟩, by simp [intOf]; omega⟩
          · obtain rfl : j = sp.length := by omega
            have FIN : Hid (GrowP t hs sp N0 Cw Cl J Jx (f + 1) pre R A ord st ob (.returned (.bool true)) wr) := .inl ⟨rfl, ys, R1, by rw [allO_eq]; exact HY1.out, HY2.out, GP.out.j, (GKeep.but (But.of_below B2.out)).trans GK.out, GP.out.row⟩
            as_aux_lemma =>
              go_wp2_with fail
              go_ret
              exact FIN.out
      · have FIN : Hid (GrowP t hs sp N0 Cw Cl J Jx (f + 1) pre R A ord st ob (.returned (.bool false)) _) := .inr ⟨rfl, ys, R9, hpf, hj, (GKeep.but (But.of_below B2.out)).trans hk9⟩
        as_aux_lemma =>
          go_wp2_with fail
          go_ret
          exact FIN.out
end Go.Proofs.YtcphajjonecmbaaDoor


namespace Go.Proofs.YtcphajjonecmbaaDoor

open Go.RowKit Go.Deep

attribute [local go_sem ↓] Go.wp_at_zero Go.wp_at_succ

theorem run_make_cap (n : Nat) (hn : n ≤ 8) (w : World) : (Instr.makeSlice 22 (.int .i64 0) (.int .i64 (n : Int))).run Tryd.prog w = .ok (.slice (some ⟨w.heap.size, 0, none⟩) 0 n) (w.alloc (.cells (madeCells #[.int .i64 0] n) 3)) := by
  obtain ⟨i, hi, hz, hsz, hby⟩ := info_parts int_info
  have h := run_make (P := Tryd.prog) w 22 3 i (.int .i64 0) ints_under hi hz .i64 .i64 0 (n : Int) (by omega) (by omega) (by rw [hby]; omega) (by omega)
  rw [hsz] at h
  have e : (Value.int .i64 0).cells = #[.int .i64 0] := rfl
  rw [e] at h
  simpa using h
theorem ro_made (w : World) {B n : Nat} (hB : B ≤ w.heap.size) (hn : n ≤ 8) : RoO (w.alloc (.cells (madeCells #[.int .i64 0] n) 3)) B w.heap.size 0 n (ordI []) := by
  refine ⟨hB, by simp, by simp [ordI], by unfold maxLen; omega, fun j hj => by simp [ordI] at hj, fun j hj => ?_⟩
  have h := ints_made w n 3 j hj
  rw [Nat.zero_add]
  exact ⟨by rw [h.1]; rfl, h.2⟩
set_option maxRecDepth 100000 in
set_option maxHeartbeats 2000000 in
theorem orders_any (t : Int) (x : SX) (s : SD) (n : Nat) (R : Int) (gc gb : Nat) (w : World) :
    Calls Tryd.prog 62 #[.agg (probC t x s n R gc gb)] w fun e w' => e = .returned (.func (.func 96) #[] #[.pointer (some ⟨w.heap.size, 0, none⟩)]) ∧ w' = w.alloc (.cells (probC t x s n R gc gb) 125) := by
  simp only [probC]
  go_enter Tryd.func62, Tryd.ntmps62
  go_wp2_with fail
  go_ret
  exact ⟨rfl, rfl⟩
/-- What the sequence of orders gives. -/
def OrdS (t : Int) (s : SD) (hs : List EvD) (sp : List Sp) (xs : List Yl) : Prop := xs.map Yl.p = ordsO t s hs sp
def OrdSp (t : Int) (s : SD) (hs : List EvD) (sp : List Sp) (xs : List Yl) : Prop := xs.map Yl.p <+: ordsO t s hs sp

set_option maxRecDepth 100000 in
set_option maxHeartbeats 4000000 in
theorem orders1_any {t : Int} {hs : List EvD} {sp : List Sp} {w0 : World} {gc gb : Nat} {x0 : SX} {s0 : SD} {B0 : Nat} (hp : PrAt w0 B0 x0 s0 hs sp gc gb) (hn8 : sp.length ≤ 8) (he : sErr t s0 = 0) (hks : ksC t hs sp = true) (hto : ∀ k, k < sp.length → (spAt sp k).2 = -1 ∨ 0 ≤ (spAt sp k).2) (hsz : s0.vals.length ≤ 999999000 ∧ s0.prs.length ≤ 999999000)
    {Cw Cl : Nat → Prop} {pb : Nat} {w : World} (hw : Below w0.heap.size w0 w) (hpb : w.heap[pb]? = some (.cells (probC t x0 s0 sp.length (retN sp sp.length) gc gb) 125)) (hCw : ∀ k, Cw k → w0.heap.size ≤ k) (hCp : ¬ (Cw pb ∨ Cl pb)) :
    SeqM Tryd.prog 96 #[.pointer (some ⟨pb, 0, none⟩)] (Yl.encs sp.length) Yl.ob (Yl.Mem sp.length w.heap.size) Cw Cl (OrdS t s0 hs sp) (OrdSp t s0 hs sp) w := by
  intro l J Jx W hW hC hCl hJ hJx hY h0
  obtain ⟨cl, hcm, hca, hco⟩ := hp.calls
  have E : GE t hs sp w0 gc gb l w.heap.size W.heap.size Cw Cl J Jx := ⟨⟨cl, hcm, hca, hco⟩, hp.cl, hp.bl, hp.bef, hn8, (sErr_zero.1 he).1, hks, hto, hw.size, hW.size, fun k q => ⟨hCw k q, hC k q⟩, hCl, hJ, hJx, hY⟩
  have hwW : Below w0.heap.size w0 W := hw.trans (hW.mono hw.size)
  have PB : Hid (W.heap[pb]? = some (.cells (probC t x0 s0 sp.length (retN sp sp.length) gc gb) 125)) := (hW.block _ (Array.getElem?_eq_some_iff.1 hpb).1).trans hpb
  have RN : Hid (Calls Tryd.prog 58 #[.int .i64 t, .agg #[.slice x0.va s0.vals.length x0.vc, .slice x0.pa s0.prs.length x0.pc], .slice none 0 0] W fun e w' => ∃ x ra rk, e = .returned (.tuple #[.agg #[.slice x.va s0.vals.length x.vc, .slice x.pa s0.prs.length x.pc], .slice ra 0 rk]) ∧ Below W.heap.size W w' ∧ StNew w' W.heap.size x s0) := (run_any t x0 s0 none 0 0 0 [] W (hp.st.below hwW) ⟨fun q => absurd rfl q, fun q => absurd rfl q, fun i hi => by simp at hi, by simp⟩ he rfl (by omega) (by omega) (by simp)).mono (fun e w' h => by
    obtain ⟨x, ra, rg, rk, rfl, hb, hn, -⟩ := h
    exact ⟨x, ra, rk, rfl, hb, hn⟩)
  have GRW : Hid (∀ (A : World) (x : SX) (ob : Nat), Below W.heap.size W A → StNew A W.heap.size x s0 → RoO A W.heap.size ob 0 sp.length (ordI []) → (s0.vals.length ≠ 0 → x.vg ≠ ob) → (s0.prs.length ≠ 0 → x.pg ≠ ob) → Calls Tryd.prog 97 #[.agg (probC t x0 s0 sp.length (retN sp sp.length) gc gb), .slice (some ⟨ob, 0, none⟩) 0 sp.length, .int .i64 0, .agg #[.slice x.va s0.vals.length x.vc, .slice x.pa s0.prs.length x.pc], .func (.yield l) #[] #[]] A fun e W' => ((∃ v, e = .returned v) ∧ ((∃ xs R, OrdS t s0 hs sp xs ∧ J xs R W') ∨ (∃ pre, OrdSp t s0 hs sp pre ∧ Jx pre W'))) ∧ ∃ R', GKeep (fun k => Cw k ∨ Cl k) ob (fun _ => False) A R' W') := fun A x ob hA hst hrow h1 h2 => by
    have g : GPos w0 sp.length W.heap.size J [] (fun _ => False) A [] s0 x ob := ⟨hJ [] _ W A ob hrow.gB (fun q => q) (fun y hy => by cases hy) (But.of_below hA) h0, hrow.gB, fun q => q, fun y hy => (by cases hy), fun k q => q.elim, hwW.trans (hA.mono hwW.size), hrow, ⟨hst.at_, fun q => ⟨hst.vB q, h1 q⟩, fun q => ⟨hst.pB q, h2 q⟩⟩, fun _ q => q, fun _ q => q⟩
    refine (grow_any E x0 s0 (sp.length + 1) [] (fun _ => False) A [] s0 x ob g (OrdG.nil _) (by simp) (sErr_zero.1 he).2 ⟨by simp; omega, by simp; omega⟩).mono ?_
    rintro e W' (⟨rfl, ys, R', h3, -, h4, h5, -⟩ | ⟨rfl, ys, R', h3, h4, h5⟩)
    · exact ⟨⟨⟨_, rfl⟩, .inl ⟨ys, R', h3, by simpa using h4⟩⟩, R', h5.wide Cl⟩
    · exact ⟨⟨⟨_, rfl⟩, .inr ⟨ys, h3, by simpa using h4⟩⟩, R', h5⟩
  have HC1 : Hid (¬ (Cw pb ∨ Cl pb)) := hCp
  have HC2 : Hid (∀ k, (Cw k ∨ Cl k) → k < W.heap.size) := fun k c => c.elim (hC k) (hCl k)
  have MK := fun W' => run_make_cap sp.length hn8 W'
  obtain ⟨⟨q0, _⟩, ⟨q1, _⟩, ⟨q2, _⟩, ⟨q3, _⟩, ⟨q4, _⟩, ⟨q5, _⟩⟩ := cells6 PB.out
  have hpl : pb < W.heap.size := (Array.getElem?_eq_some_iff.1 PB.out).1
  simp only [probC] at *
  clear hp hY hJ hJx h0 E hca hco hcm hwW hW hw hpb hCw hC hCp hCl
  show Calls Tryd.prog 96 #[.func (.yield l) #[] #[], .pointer (some ⟨pb, 0, none⟩)] W _
  go_enter Tryd.func96, Tryd.ntmps96
  go_upto_region 1 with (go_at_call 58; refine RN.out.mono ?_; rintro e w3 ⟨x, ra, rk, rfl, hb3, hnew⟩)
  obtain ⟨W4, hW4⟩ : ∃ W4, W4 = w3.alloc (.cells #[.slice x.va s0.vals.length x.vc, .slice x.pa s0.prs.length x.pc] 31) := ⟨_, rfl⟩
  have b4 : Below w3.heap.size w3 W4 := by rw [hW4]; exact below_alloc _ _
  have NX : Hid (W4.heap[w3.heap.size]? = some (.cells #[.slice x.va s0.vals.length x.vc, .slice x.pa s0.prs.length x.pc] 31)) := by
    show W4.heap[w3.heap.size]? = _
    rw [hW4]; exact heap_alloc_at _ _ _ rfl
  have z4 : W4.heap.size = w3.heap.size + 1 := by rw [hW4]; simp
  have z3 : W.heap.size ≤ w3.heap.size := hb3.size
  have B4 : Hid (Below W.heap.size W W4) := hb3.trans (b4.mono hb3.size)
  have ST : Hid (StNew W4 W.heap.size x s0) := hnew.below b4
  rw [← hW4]
  obtain ⟨⟨q0, _⟩, ⟨q1, _⟩, ⟨q2, _⟩, ⟨q3, _⟩, ⟨q4, _⟩, ⟨q5, _⟩⟩ := cells6 ((B4.out.block _ hpl).trans PB.out)
  obtain ⟨⟨y0, _⟩, ⟨y1, _⟩⟩ := cells2 NX.out
  have l1 : pb < W4.heap.size := by omega
  have l2 : w3.heap.size < W4.heap.size := by omega
  have GR9 : Hid (∀ A, Below W4.heap.size W4 A → Calls Tryd.prog 97 #[.agg #[.int .i64 t, .slice x0.va s0.vals.length x0.vc, .slice x0.pa s0.prs.length x0.pc, .slice (some ⟨gc, 0, none⟩) sp.length sp.length, .int .i64 (retN sp sp.length), .slice (some ⟨gb, 0, none⟩) sp.length sp.length], .slice (some ⟨A.heap.size, 0, none⟩) 0 sp.length, .int .i64 0, .agg #[.slice x.va s0.vals.length x.vc, .slice x.pa s0.prs.length x.pc], .func (.yield l) #[] #[]] (A.alloc (.cells (madeCells #[.int .i64 0] sp.length) 3)) fun e W' => ((∃ v, e = .returned v) ∧ ((∃ xs R, OrdS t s0 hs sp xs ∧ J xs R W') ∨ (∃ pre, OrdSp t s0 hs sp pre ∧ Jx pre W'))) ∧ ∀ k, (k = pb ∨ W.heap.size ≤ k) → k < W4.heap.size → W'.heap[k]? = W4.heap[k]?) := fun A hA => by
    have hst := ST.out.below hA
    have hb : Below A.heap.size A (A.alloc (.cells (madeCells #[.int .i64 0] sp.length) 3)) := below_alloc _ _
    have hlo : W4.heap.size ≤ A.heap.size := hA.size
    refine Calls.mono (GRW.out _ x A.heap.size (B4.out.trans ((hA.mono B4.out.size).trans (hb.mono (Nat.le_trans B4.out.size hA.size)))) (hst.below hb) (ro_made A (Nat.le_trans B4.out.size hA.size) hn8) (fun q => ?_) (fun q => ?_)) (fun e W' h => ⟨h.1, fun k hk hk2 => ?_⟩)
    · have := hst.at_.vals.lt q; omega
    · have := hst.at_.prs.lt q; omega
    · obtain ⟨R', h5⟩ := h.2
      refine (h5.same k (by simp; omega) (by omega) (fun c => ?_) (fun q => q)).trans ((heap_alloc_old _ _ (by omega)).trans (hA.block k hk2))
      rcases hk with rfl | hk
      · exact HC1.out c
      · have := HC2.out k c; omega
  clear hb3 hnew b4 hW4 z4 NX PB RN GRW
  go_region_held3 (fun w' => w'.cell? ⟨pb, 0, none⟩ = some (.int .i64 t) ∧ w'.cell? ⟨pb, 1, none⟩ = some (.slice x0.va s0.vals.length x0.vc) ∧ w'.cell? ⟨pb, 2, none⟩ = some (.slice x0.pa s0.prs.length x0.pc) ∧ w'.cell? ⟨pb, 3, none⟩ = some (.slice (some ⟨gc, 0, none⟩) sp.length sp.length) ∧ w'.cell? ⟨pb, 4, none⟩ = some (.int .i64 (retN sp sp.length)) ∧ w'.cell? ⟨pb, 5, none⟩ = some (.slice (some ⟨gb, 0, none⟩) sp.length sp.length)
      ∧ w'.cell? ⟨w3.heap.size, 0, none⟩ = some (.slice x.va s0.vals.length x.vc) ∧ w'.cell? ⟨w3.heap.size, 1, none⟩ = some (.slice x.pa s0.prs.length x.pc)) (first | go_keep | (refine ⟨(World.cell?_of_block (a := ⟨_, 0, none⟩) f1).trans q0, (World.cell?_of_block (a := ⟨_, 1, none⟩) f1).trans q1, (World.cell?_of_block (a := ⟨_, 2, none⟩) f1).trans q2, (World.cell?_of_block (a := ⟨_, 3, none⟩) f1).trans q3, (World.cell?_of_block (a := ⟨_, 4, none⟩) f1).trans q4, (World.cell?_of_block (a := ⟨_, 5, none⟩) f1).trans q5, (World.cell?_of_block (a := ⟨_, 0, none⟩) f2).trans y0, (World.cell?_of_block (a := ⟨_, 1, none⟩) f2).trans y1⟩))
    (first | (go_at_call 97; refine (GR9.out _ ((Below.refl _ _).drew)).mono ?_; rintro e w9 ⟨⟨⟨v9, rfl⟩, h9⟩, hfr⟩; have f1 := hfr pb (Or.inl rfl) l1; have f2 := hfr w3.heap.size (Or.inr z3) l2; clear hfr))
  all_goals go_wp2_with fail
  all_goals go_end0
  exact ⟨⟨_, rfl⟩, h9⟩
end Go.Proofs.YtcphajjonecmbaaDoor

namespace Go.Proofs.YtcphajjonecmbaaDoor

open Go.RowKit Go.Deep

attribute [local go_sem ↓] Go.wp_at_zero Go.wp_at_succ

theorem intC_length (xs : List Int) : (intC xs).length = xs.length := by simp [intC]
theorem intC_cl (xs : List Int) : ∀ v, v ∈ intC xs → v.oneCell' = true := by
  intro v hv
  obtain ⟨x, -, rfl⟩ := List.mem_map.1 hv
  rfl
theorem roO_news {w : World} {B g o c : Nat} {xs : List Int} (h : RoO w B g o c xs) : ∀ a, (some ⟨g, o, none⟩ : Option Addr) = some a → ∀ j u, (intC xs)[j]? = some u → w.cell? (a.add j) = some u := by
  rintro a ha j u hj
  obtain rfl := (Option.some.inj ha).symm
  have hl : j < xs.length := by have := (List.getElem?_eq_some_iff.1 hj).1; simpa [intC] using this
  rw [intC_get xs j hl] at hj
  rw [Addr.add_lit, h.cells j hl]
  exact hj
set_option maxRecDepth 100000 in
set_option maxHeartbeats 1000000 in
theorem cloneI_any (B g o c : Nat) (xs : List Int) (w : World) (h : RoO w B g o c xs) (hbig : xs.length * 8 ≤ 140737488355328) :
    Calls Tryd.prog 63 #[.slice (some ⟨g, o, none⟩) xs.length c] w fun e w' => ∃ g' c', e = .returned (.slice (some ⟨g', 0, none⟩) xs.length c') ∧ RoO w' w.heap.size g' 0 c' xs ∧ Below w.heap.size w w' := by
  have hlen : xs.length ≤ maxLen := Nat.le_trans h.le h.max
  have qn : ∀ (w : World) (a : Option Addr) (n c n' c' : Nat), (binOp .eql 22 (.slice a n c) (.slice none n' c')).run Tryd.prog w = .ok (.bool a.isNone) w := fun w a n c n' c' => Lib.run_eql_slice_nil w _ _ a n c n' c' ints_under
  obtain ⟨i0, hi0, hz0, hz1, hz2⟩ := info_parts int_info
  have HA : Hid _ := h
  have ho : (w.alloc (.cells #[] 3)).ownsRow w.heap.size 3 1 (.slice (some ⟨w.heap.size, 0, none⟩) 0 0) 0 [] := ⟨rfl, Or.inr ⟨w.heap.size, 0, #[], rfl, Nat.le_refl _, heap_alloc_at _ _ _ rfl, Nat.le_refl _, by unfold maxLen; omega, rfl, rfl⟩⟩
  have HO : Hid (World.ownsRow _ _ _ _ _ _ _) := ho
  have HW : Hid _ := roO_news (h.alloc (.cells #[] 3))
  clear ho h
  go_enter Tryd.func63, Tryd.ntmps63
  go_wp2_with (first | (at_builtin; (refine wpList_append_all (by rfl) _ _ _ (by rfl) w.heap.size 3 i0 _ 1 8 ints_under hi0 hz0 hz1 hz2 rfl (by omega) _ 0 [] (by rfl) HO.out (some ⟨g, o, none⟩) xs.length c (intC xs) (by rfl) (fun h => by cases h) (by rw [intC_length]; omega) HW.out (intC_cl _) (by omega) (by omega) (by simp) ?_); intro v' w1 hown1 hgrow hnl))
  go_ret
  obtain ⟨g', c', rfl, hR⟩ := roO_of_owns hown1 (by simp) (fun q => by cases (hnl.1 q).1)
  simp only [Nat.zero_add] at hR ⊢
  exact ⟨g', c', rfl, hR, Below.grown (below_alloc _ _) hgrow (by simp) (by intro k hk; simp [Value.ownBlock] at hk; omega)⟩
end Go.Proofs.YtcphajjonecmbaaDoor


namespace Go.Proofs.YtcphajjonecmbaaDoor

open Go.RowKit Go.Deep

attribute [local go_sem ↓] Go.wp_at_zero Go.wp_at_succ

attribute [local go_sem] Oper.semAt_some

/-- What Find leaves. -/
def FndP (t : Int) (s : SD) (hs : List EvD) (w : World) (e : Ending) (w' : World) : Prop :=
  Below w.heap.size w w' ∧ ((pErr t s hs ≠ 0 ∧ e = .returned (.tuple #[.slice none 0 0, .bool false, .int .i64 (pErr t s hs)])) ∨ (pErr t s hs = 0 ∧ ordsO t s hs (spansL hs) = [] ∧ e = .returned (.tuple #[.slice none 0 0, .bool false, .int .i64 0])) ∨
    (pErr t s hs = 0 ∧ ∃ p l g c, ordsO t s hs (spansL hs) = p :: l ∧ e = .returned (.tuple #[.slice (some ⟨g, 0, none⟩) p.1.length c, .bool true, .int .i64 0]) ∧ RoO w' w.heap.size g 0 c (ordI p.1)))
theorem results_c3 {fn : Func} {p q u : Tmp} {ty ty' tu : TypeId} (h : fn.results = #[.cell p ty, .cell q ty', .cell u tu]) (tmps : Array Value) (P : Program) (w : World) :
    (results fn tmps).run P w = ((asAddr (tmps.getD p undef)).run P w).andThen fun ad w₁ => ((loadVar ty ad).run P w₁).andThen fun v w₂ => ((asAddr (tmps.getD q undef)).run P w₂).andThen fun ad' w₃ => ((loadVar ty' ad').run P w₃).andThen fun v' w₄ => ((asAddr (tmps.getD u undef)).run P w₄).andThen fun ad'' w₅ => ((loadVar tu ad'').run P w₅).andThen fun v'' w₆ => .ok (.tuple #[v, v', v'']) w₆ := by
  simp only [results, h]
  simp [Sem.run_bind, Result.andThen]
theorem cells1 {w : World} {b : Nat} {c0 : Value} {T : TypeId} (h : w.heap[b]? = some (.cells #[c0] T)) : w.cell? ⟨b, 0, none⟩ = some c0 ∧ w.frozen? ⟨b, 0, none⟩ = false := by simp [World.cell?, World.frozen?, h]
/-- The four boxes of Find. -/
structure FB (w W0 : World) (x : SX) (s : SD) : Prop where
  b : Below w.heap.size w W0
  z : W0.heap.size = w.heap.size + 4
  r0 : W0.heap[w.heap.size]? = some (.cells #[.slice x.va s.vals.length x.vc, .slice x.pa s.prs.length x.pc] 31)
  r1 : W0.heap[w.heap.size + 1]? = some (.cells #[.slice none 0 0] 22)
  r2 : W0.heap[w.heap.size + 1 + 1]? = some (.cells #[.bool false] 4)
  r3 : W0.heap[w.heap.size + 1 + 1 + 1]? = some (.cells #[.int .i64 0] 29)
theorem fb7 (w : World) (x : SX) (s : SD) : ∃ W0, W0 = (((w.alloc (.cells #[.slice x.va s.vals.length x.vc, .slice x.pa s.prs.length x.pc] 31)).alloc (.cells #[.slice none 0 0] 22)).alloc (.cells #[.bool false] 4)).alloc (.cells #[.int .i64 0] 29) ∧ FB w W0 x s := by
  refine ⟨_, rfl, ((two_blocks _ _ _ _ _).alloc (by simp; omega) _).alloc (by simp; omega) _, by simp, ?_, ?_, ?_, ?_⟩
  · exact (heap_alloc_old _ _ (by simp; omega)).trans ((heap_alloc_old _ _ (by simp; omega)).trans ((heap_alloc_old _ _ (by simp)).trans (heap_alloc_at _ _ _ rfl)))
  · exact (heap_alloc_old _ _ (by simp)).trans ((heap_alloc_old _ _ (by simp)).trans (heap_alloc_at _ _ _ (by simp)))
  · exact (heap_alloc_old _ _ (by simp)).trans (heap_alloc_at _ _ _ (by simp))
  · exact heap_alloc_at _ _ _ (by simp)
set_option maxRecDepth 100000 in
set_option maxHeartbeats 2000000 in
theorem find_bad (t : Int) (x : SX) (s : SD) (base : Option Addr) (b o c : Nat) (hs : List EvD) (pb : Nat → Option Addr) (pc pg po : Nat → Nat) (w : World) (h : StAt w x s) (hkd : KdAt w) (hev : EvsAt w base b o hs pb pc pg po) (hz : pErr t s hs ≠ 0) :
    Calls Tryd.prog 27 #[.int .i64 t, x.v s, .slice base hs.length c] w fun e w' => e = .returned (.tuple #[.slice none 0 0, .bool false, .int .i64 (pErr t s hs)]) ∧ Below w.heap.size w w' := by
  obtain ⟨W0, hW0, BX⟩ := fb7 w x s
  have HX : Hid (FB w W0 x s) := BX
  have z0 := BX.z
  obtain ⟨⟨a0, _⟩, ⟨a1, _⟩⟩ := cells2 BX.r0
  have PR : Hid (Calls Tryd.prog 61 #[.int .i64 t, .agg #[.slice x.va s.vals.length x.vc, .slice x.pa s.prs.length x.pc], .slice base hs.length c] W0 (ProbP t x s hs W0)) := prob_any t x s base b o c hs pb pc pg po W0 (h.below BX.b) (hkd.below BX.b) (hev.below BX.b)
  have hn : (pErr t s hs != 0) = true := by simp [hz]
  unfold SX.v
  clear h hkd hev BX
  refine (callsIn_wide (n := 2)).1 ?_
  refine callsIn_of_wp_marks Tryd.func27 rfl trivial ?_ rfl
  refine wpIn_wide.2 ?_
  simp only [Tryd.ntmps27, List.size_toArray, List.length_cons, List.length_nil, Nat.reduceAdd, Nat.reduceSub, Array.replicate_succ, Array.replicate_zero, List.push_toArray, List.append_toArray, List.nil_append, List.cons_append]
  go_upto_region 1 with fail
  rw [← hW0]
  clear hW0
  go_wp2_with (first | (go_at_call 61; refine PR.out.mono ?_; rintro e w1 ⟨hb1, (⟨-, rfl⟩ | ⟨hn0, -⟩)⟩; rotate_left; (exact absurd hn0 hz); dsimp only [prob0]; have B1 : Hid (Below W0.heap.size W0 w1) := hb1; have z1 := hb1.size; obtain ⟨p0, p1⟩ := cells1 ((hb1.block _ (by omega)).trans HX.out.r1); obtain ⟨p2, p3⟩ := cells1 ((hb1.block _ (by omega)).trans HX.out.r2); obtain ⟨p4, p5⟩ := cells1 ((hb1.block _ (by omega)).trans HX.out.r3); have x3 : w.heap.size + 1 < w1.heap.size := (by omega); have x4 : w.heap.size + 1 + 1 < w1.heap.size := (by omega); have x5 : w.heap.size + 1 + 1 + 1 < w1.heap.size := (by omega); clear hb1))
  refine ⟨.tuple #[.slice none 0 0, .bool false, .int .i64 (pErr t s hs)], ?_, rfl, ?_⟩
  · rw [results_c3 rfl]; go_simp
  · have BW : Below w.heap.size w w1 := HX.out.b.trans (B1.out.mono (by omega))
    exact (((BW.setCell (p := ⟨w.heap.size + 1, 0, none⟩) (show w.heap.size ≤ w.heap.size + 1 by omega) _).setCell (p := ⟨w.heap.size + 1 + 1, 0, none⟩) (show w.heap.size ≤ w.heap.size + 1 + 1 by omega) _).setCell (p := ⟨w.heap.size + 1 + 1 + 1, 0, none⟩) (show w.heap.size ≤ w.heap.size + 1 + 1 + 1 by omega) _).alloc (by simp; omega) _
theorem below_but {n ob : Nat} {w A B : World} (h : Below n w A) (hb : But ob A B) (hn : n ≤ A.heap.size) (ho : n ≤ ob) : Below n w B :=
  ⟨hb.2.2.1.trans h.os, hb.2.2.2.1.trans h.tape, hb.2.2.2.2.trans h.output, Nat.le_trans h.size hb.1, fun k hk => (hb.2.1 k (by omega) (by omega)).trans (h.block k hk)⟩
theorem set1_at {w : World} {N : Nat} {u : Value} {T : TypeId} (h : w.heap[N]? = some (.cells #[u] T)) (v : Value) : (w.setCell ⟨N, 0, none⟩ v).heap[N]? = some (.cells #[v] T) := by
  simp [World.setCell, Array.getElem?_modify, h]
theorem heap_set (W : World) {N k j : Nat} (hk : k ≠ N) (v : Value) : (W.setCell ⟨N, j, none⟩ v).heap[k]? = W.heap[k]? := Below.heap_setCell W _ _ k hk
/-- Three boxes written. -/
theorem three_set {W : World} {N : Nat} {u0 u1 u2 : Value} {T0 T1 T2 : TypeId} (h0 : W.heap[N + 1]? = some (.cells #[u0] T0)) (h1 : W.heap[N + 1 + 1]? = some (.cells #[u1] T1)) (h2 : W.heap[N + 1 + 1 + 1]? = some (.cells #[u2] T2)) (v0 v1 v2 : Value) :
    (((W.setCell ⟨N + 1, 0, none⟩ v0).setCell ⟨N + 1 + 1, 0, none⟩ v1).setCell ⟨N + 1 + 1 + 1, 0, none⟩ v2).heap[N + 1]? = some (.cells #[v0] T0) ∧ (((W.setCell ⟨N + 1, 0, none⟩ v0).setCell ⟨N + 1 + 1, 0, none⟩ v1).setCell ⟨N + 1 + 1 + 1, 0, none⟩ v2).heap[N + 1 + 1]? = some (.cells #[v1] T1) ∧ (((W.setCell ⟨N + 1, 0, none⟩ v0).setCell ⟨N + 1 + 1, 0, none⟩ v1).setCell ⟨N + 1 + 1 + 1, 0, none⟩ v2).heap[N + 1 + 1 + 1]? = some (.cells #[v2] T2) ∧
    (∀ k, k ≠ N + 1 → k ≠ N + 1 + 1 → k ≠ N + 1 + 1 + 1 → (((W.setCell ⟨N + 1, 0, none⟩ v0).setCell ⟨N + 1 + 1, 0, none⟩ v1).setCell ⟨N + 1 + 1 + 1, 0, none⟩ v2).heap[k]? = W.heap[k]?) ∧ (((W.setCell ⟨N + 1, 0, none⟩ v0).setCell ⟨N + 1 + 1, 0, none⟩ v1).setCell ⟨N + 1 + 1 + 1, 0, none⟩ v2).heap.size = W.heap.size ∧ Sam W (((W.setCell ⟨N + 1, 0, none⟩ v0).setCell ⟨N + 1 + 1, 0, none⟩ v1).setCell ⟨N + 1 + 1 + 1, 0, none⟩ v2) := by
  refine ⟨?_, ?_, ?_, fun k a b c => ?_, by simp, ⟨rfl, rfl, rfl⟩⟩
  · rw [heap_set _ (by omega), heap_set _ (by omega)]; exact set1_at h0 _
  · rw [heap_set _ (by omega)]; exact set1_at ((heap_set _ (by omega) _).trans h1) _
  · exact set1_at ((heap_set _ (by omega) _).trans ((heap_set _ (by omega) _).trans h2)) _
  · rw [heap_set _ c, heap_set _ b, heap_set _ a]
theorem put_other {W : World} {r k : Nat} (o : Obj) (hk : k ≠ r) : (W.putObj r o).heap[k]? = W.heap[k]? := World.putObj_heap_other (by omega)
theorem zip_two (p q : Tmp) (u v : Value) (tm : Array Value) : ((#[p, q] : Array Tmp).zip #[u, v]).foldl (fun t (x : Tmp × Value) => t.setIfInBounds x.1 x.2) tm = (tm.setIfInBounds p u).setIfInBounds q v := by simp
set_option maxRecDepth 100000 in
set_option maxHeartbeats 2000000 in
theorem find_ok (t : Int) (x : SX) (s : SD) (base : Option Addr) (b o c : Nat) (hs : List EvD) (pb : Nat → Option Addr) (pc pg po : Nat → Nat) (w : World) (h : StAt w x s) (hkd : KdAt w) (hev : EvsAt w base b o hs pb pc pg po) (hz : pErr t s hs = 0) (hsz : s.vals.length ≤ 999999000 ∧ s.prs.length ≤ 999999000) :
    Calls Tryd.prog 27 #[.int .i64 t, x.v s, .slice base hs.length c] w fun e w' => Below w.heap.size w w' ∧ ((ordsO t s hs (spansL hs) = [] ∧ e = .returned (.tuple #[.slice none 0 0, .bool false, .int .i64 0])) ∨ (∃ p l g c, ordsO t s hs (spansL hs) = p :: l ∧ e = .returned (.tuple #[.slice (some ⟨g, 0, none⟩) p.1.length c, .bool true, .int .i64 0]) ∧ RoO w' w.heap.size g 0 c (ordI p.1))) := by
  obtain ⟨W0, hW0, BX⟩ := fb7 w x s
  have HX : Hid (FB w W0 x s) := BX
  have z0 := BX.z
  obtain ⟨⟨a0, _⟩, ⟨a1, _⟩⟩ := cells2 BX.r0
  have PR : Hid (Calls Tryd.prog 61 #[.int .i64 t, .agg #[.slice x.va s.vals.length x.vc, .slice x.pa s.prs.length x.pc], .slice base hs.length c] W0 (ProbP t x s hs W0)) := prob_any t x s base b o c hs pb pc pg po W0 (h.below BX.b) (hkd.below BX.b) (hev.below BX.b)
  unfold SX.v
  clear h hkd hev BX
  refine (callsIn_wide (n := 2)).1 ?_
  refine callsIn_of_wp_marks Tryd.func27 rfl trivial ?_ rfl
  refine wpIn_wide.2 ?_
  simp only [Tryd.ntmps27, List.size_toArray, List.length_cons, List.length_nil, Nat.reduceAdd, Nat.reduceSub, Array.replicate_succ, Array.replicate_zero, List.push_toArray, List.append_toArray, List.nil_append, List.cons_append]
  go_upto_region 1 with fail
  rw [← hW0]
  clear hW0
  go_wp2_with (first | (go_at_call 61; refine PR.out.mono ?_; rintro e w1 ⟨hb1, (⟨hn, rfl⟩ | ⟨-, hl8, hs0, hh, hks, gc, gb, rfl, hpr⟩)⟩; (exact absurd hz hn); dsimp only [probC]; have B1 : Hid (Below W0.heap.size W0 w1) := hb1; have z1 := hb1.size; have HPR : Hid (PrAt w1 W0.heap.size x s hs (spansL hs) gc gb) := hpr; have HF : Hid ((spansL hs).length ≤ 8 ∧ sErr t s = 0 ∧ hErr hs = 0 ∧ ksC t hs (spansL hs) = true) := ⟨hl8, hs0, hh, hks⟩; clear hb1 hpr hl8 hs0 hh hks) | (go_at_call 62; refine (orders_any t x s (spansL hs).length (retN (spansL hs) (spansL hs).length) gc gb _).mono ?_; rintro e w2 ⟨rfl, hw2⟩; dsimp only [probC] at hw2; have HW2 : Hid (w2 = _) := hw2; clear hw2))
  have B12 : Hid (Below w1.heap.size w1 w2) := by
    show Below _ _ _
    rw [HW2.out]; exact two_blocks _ _ _ _ _
  have z2 : w2.heap.size = w1.heap.size + 2 := by rw [HW2.out]; simp
  have PB : Hid (w2.heap[w1.heap.size + 1]? = some (.cells (probC t x s (spansL hs).length (retN (spansL hs) (spansL hs).length) gc gb) 125)) := by
    show w2.heap[_]? = _
    rw [HW2.out]; exact heap_alloc_at _ _ _ (by simp)
  have R1 : Hid (w2.heap[w.heap.size + 1]? = some (.cells #[.slice none 0 0] 22) ∧ w2.heap[w.heap.size + 1 + 1]? = some (.cells #[.bool false] 4) ∧ w2.heap[w.heap.size + 1 + 1 + 1]? = some (.cells #[.int .i64 0] 29)) :=
    ⟨(B12.out.block _ (by omega)).trans ((B1.out.block _ (by omega)).trans HX.out.r1), (B12.out.block _ (by omega)).trans ((B1.out.block _ (by omega)).trans HX.out.r2), (B12.out.block _ (by omega)).trans ((B1.out.block _ (by omega)).trans HX.out.r3)⟩
  have BW : Hid (Below w.heap.size w w2) := (HX.out.b.trans (B1.out.mono (by omega))).trans (B12.out.mono (by omega))
  have hz2 : w.heap.size + 4 ≤ w2.heap.size := by omega
  clear HW2
  refine wp_rangeFunc_M (gf := 96) (lb := #[.pointer (some ⟨w1.heap.size + 1, 0, none⟩)]) rfl (enters_of Tryd.func96 (by kernel_rfl) rfl)
    (orders1_any (w0 := w1) (pb := w1.heap.size + 1) (Cw := fun k => False ∨ k = w2.heap.size ∨ k = w2.heap.size + 1) (Cl := fun k => k = w.heap.size + 1 ∨ k = w.heap.size + 1 + 1 ∨ k = w.heap.size + 1 + 1 + 1) HPR.out HF.out.1 HF.out.2.1 HF.out.2.2.2 (fun k hk => span_to HF.out.2.2.1 hk) hsz B12.out PB.out ?hCw ?hCp)
    (Cw := fun _ => False) ?hCw2 ?hCl2 (fun x => rfl)
    (fun pre R W => pre = [] ∧ Below w2.heap.size w2 W) (fun cd pre W => cd = .ret ∧ ∃ (y : Yl) (g c' : Nat), pre = [y] ∧ Below w.heap.size w W ∧ W.heap[w.heap.size + 1]? = some (.cells #[.slice (some ⟨g, 0, none⟩) y.ord.length c'] 22) ∧ W.heap[w.heap.size + 1 + 1]? = some (.cells #[.bool true] 4) ∧ W.heap[w.heap.size + 1 + 1 + 1]? = some (.cells #[.int .i64 0] 29) ∧ RoO W (w2.heap.size + 2) g 0 c' (ordI y.ord)) ?hI ?hIx ⟨rfl, Below.refl _ _⟩ ?hround ?hdone ?hstop
  case hCw =>
    intro k hk
    rcases hk with q | q | q
    · exact q.elim
    · omega
    · omega
  case hCp =>
    intro q
    rcases q with q | q
    · rcases q with q | q | q
      · exact q
      · omega
      · omega
    · rcases q with q | q | q <;> omega
  case hCw2 => exact fun k q => q.elim
  case hCl2 =>
    intro k q
    rcases q with q | q | q <;> omega
  case hI =>
    rintro s' R A B ob hob hbut ⟨rfl, hb⟩
    exact ⟨rfl, below_but hb hbut hb.size (by rcases hob with q | q | q <;> omega)⟩
  case hIx =>
    rintro cd s' A B ob hob hbut ⟨rfl, y, g, c', rfl, hb, h1, h2, h3, hr⟩
    have hg := hr.gB
    have l1 := (Array.getElem?_eq_some_iff.1 h1).1
    have l2 := (Array.getElem?_eq_some_iff.1 h2).1
    have l3 := (Array.getElem?_eq_some_iff.1 h3).1
    exact ⟨rfl, y, g, c', rfl, below_but hb hbut (by omega) (by omega), (hbut.2.1 _ l1 (by omega)).trans h1, (hbut.2.1 _ l2 (by omega)).trans h2, (hbut.2.1 _ l3 (by omega)).trans h3, hr.kept hbut.1 (hbut.2.1 _ hr.lt (by omega))⟩
  case hround =>
    rintro pre y R A ⟨rfl, hbA⟩ hmem hob hR hpre hRb hA
    have HM : Hid (y.Mem (spansL hs).length w2.heap.size A) := hmem
    have HA : Hid (Below w2.heap.size w2 A) := hbA
    clear hmem hbA PR HPR B1 HX a0 a1
    simp only [Yl.encs]
    rw [zip_two]
    simp only [List.setIfInBounds_toArray, List.set_cons_zero, List.set_cons_succ]
    gi_wp2
    refine ⟨⟨rfl, rfl⟩, ?_⟩
    intro B hbut hBz
    have HB : Hid (Below w2.heap.size w2 B) := below_but HA.out hbut HA.out.size (by omega)
    have zB := HB.out.size
    have RB : Hid (RoO B w2.heap.size y.ob 0 (spansL hs).length (ordI y.ord)) := HM.out.row.kept hbut.1 (hbut.2.1 _ HM.out.row.lt (by omega))
    have hyl := ordI_length y.ord
    have CL : Hid (Calls Tryd.prog 63 #[.slice (some ⟨y.ob, 0, none⟩) y.ord.length (spansL hs).length] B fun e w' => ∃ g' c', e = .returned (.slice (some ⟨g', 0, none⟩) y.ord.length c') ∧ RoO w' B.heap.size g' 0 c' (ordI y.ord) ∧ Below B.heap.size B w') := by
      have := cloneI_any w2.heap.size y.ob 0 (spansL hs).length (ordI y.ord) B RB.out (by have := RB.out.le; have := HF.out.1; omega)
      rw [hyl] at this
      exact this
    have T1 : Hid (B.heap.size = A.heap.size) := hBz
    have HBT : Hid (But (w2.heap.size + 1) A B) := hbut
    clear hbut hBz hyl
    have Z2 : Hid (w2.heap.size = w1.heap.size + 2) := z2
    clear z2
    have zw2 : w.heap.size + 4 ≤ B.heap.size := by omega
    gi_wp2_with (first | (refine ⟨trivial, ?_⟩; gi_at_call 63; refine (CallsIn.inRound _ (callsIn_wide.2 CL.out)).mono ?_; rintro e w3 ⟨g', c', rfl, hro, hb3⟩; have RO : Hid (RoO w3 B.heap.size g' 0 c' (ordI y.ord)) := hro; have B3 : Hid (Below B.heap.size B w3) := hb3; have z3 := hb3.size; have G1 : Hid _ := (hb3.block (w.heap.size + 1) (by omega)).trans ((HB.out.block (w.heap.size + 1) (by omega)).trans R1.out.1); have G2 : Hid _ := (hb3.block (w.heap.size + 1 + 1) (by omega)).trans ((HB.out.block (w.heap.size + 1 + 1) (by omega)).trans R1.out.2.1); have G3 : Hid _ := (hb3.block (w.heap.size + 1 + 1 + 1) (by omega)).trans ((HB.out.block (w.heap.size + 1 + 1 + 1) (by omega)).trans R1.out.2.2); obtain ⟨p0, p1⟩ := cells1 G1.out; obtain ⟨p2, p3⟩ := cells1 G2.out; obtain ⟨p4, p5⟩ := cells1 G3.out; clear hro hb3))
    obtain ⟨f0, f1, f2, f3, f4, f5⟩ := three_set G1.out G2.out G3.out (.slice (some ⟨g', 0, none⟩) y.ord.length c') (.bool true) (.int .i64 0)
    have gB := RO.out.gB
    have sz := T1.out
    refine ⟨⟨(f3 _ (by omega) (by omega) (by omega)).trans (B3.out.block _ (by omega)), (f3 _ (by omega) (by omega) (by omega)).trans (B3.out.block _ (by omega))⟩, ⟨by rw [f4]; omega, fun k hk hc hr => ?_, HBT.out.2.2.trans ((Sam.below B3.out).trans f5)⟩, rfl, y, g', c', rfl, ?_, f0, f1, f2, ?_⟩
    · have n1 : k ≠ w2.heap.size + 1 := fun q => hc (.inl (.inr (.inr q)))
      refine (f3 k (fun q => hc (.inr (.inl q))) (fun q => hc (.inr (.inr (.inl q)))) (fun q => hc (.inr (.inr (.inr q))))).trans ((B3.out.block k (by omega)).trans (HBT.out.2.1 k hk n1))
    · have b3 : Below w.heap.size w w3 := (BW.out.trans (HB.out.mono BW.out.size)).trans (B3.out.mono (by omega))
      exact ((b3.setCell (p := ⟨w.heap.size + 1, 0, none⟩) (show w.heap.size ≤ w.heap.size + 1 by omega) _).setCell (p := ⟨w.heap.size + 1 + 1, 0, none⟩) (show w.heap.size ≤ w.heap.size + 1 + 1 by omega) _).setCell (p := ⟨w.heap.size + 1 + 1 + 1, 0, none⟩) (show w.heap.size ≤ w.heap.size + 1 + 1 + 1 by omega) _
    · exact (RO.out.kept (by omega) (f3 _ (by omega) (by omega) (by omega))).down (by omega)
  case hdone =>
    rintro xs R W hS ⟨rfl, hb⟩ hK
    have HB : Hid (Below w2.heap.size w2 W) := hb
    have HK : Hid (W.heap[w2.heap.size]? = some (.deferred (some []))) := hK
    have zB := hb.size
    have G1 : Hid _ := (hb.block (w.heap.size + 1) (by omega)).trans R1.out.1
    have G2 : Hid _ := (hb.block (w.heap.size + 1 + 1) (by omega)).trans R1.out.2.1
    have G3 : Hid _ := (hb.block (w.heap.size + 1 + 1 + 1) (by omega)).trans R1.out.2.2
    obtain ⟨p0, p1⟩ := cells1 G1.out
    obtain ⟨p2, p3⟩ := cells1 G2.out
    obtain ⟨p4, p5⟩ := cells1 G3.out
    have Z2 : Hid (w2.heap.size = w1.heap.size + 2) := z2
    clear hb hK z2 PR HPR B1 HX a0 a1
    go_wp2_with fail
    obtain ⟨f0, f1, f2, f3, f4, f5⟩ := three_set G1.out G2.out G3.out (.slice none 0 0) (.bool false) (.int .i64 0)
    refine ⟨by simp, .inl ⟨_, _, rfl, run_takeDeferred ((f3 _ (by omega) (by omega) (by omega)).trans HK.out), ?_⟩⟩
    have HO : ordsO t s hs (spansL hs) = [] := hS.symm
    obtain ⟨e0, _⟩ := cells1 ((put_other (r := w2.heap.size) (.deferred none) (by omega)).trans f0)
    obtain ⟨e1, _⟩ := cells1 ((put_other (r := w2.heap.size) (.deferred none) (by omega)).trans f1)
    obtain ⟨e2, _⟩ := cells1 ((put_other (r := w2.heap.size) (.deferred none) (by omega)).trans f2)
    refine ⟨.tuple #[.slice none 0 0, .bool false, .int .i64 0], ?_, ?_, .inl ⟨HO, rfl⟩⟩
    · rw [results_c3 rfl]
      go_simp
    · have b3 : Below w.heap.size w W := BW.out.trans (HB.out.mono BW.out.size)
      refine below_but (ob := w2.heap.size) ?_ (But.put _ _ _) (by rw [f4]; omega) (by omega)
      exact ((b3.setCell (p := ⟨w.heap.size + 1, 0, none⟩) (show w.heap.size ≤ w.heap.size + 1 by omega) _).setCell (p := ⟨w.heap.size + 1 + 1, 0, none⟩) (show w.heap.size ≤ w.heap.size + 1 + 1 by omega) _).setCell (p := ⟨w.heap.size + 1 + 1 + 1, 0, none⟩) (show w.heap.size ≤ w.heap.size + 1 + 1 + 1 by omega) _
  case hstop =>
    rintro cd pre W hS ⟨rfl, y, g, c', rfl, hb, h1, h2, h3, hr⟩ hK
    have HB : Hid (Below w.heap.size w W) := hb
    have HR : Hid (RoO W (w2.heap.size + 2) g 0 c' (ordI y.ord)) := hr
    have HK : Hid (W.heap[w2.heap.size]? = some (.deferred (some []))) := hK
    have zz := hr.lt
    have zg := hr.gB
    obtain ⟨e0, _⟩ := cells1 ((put_other (r := w2.heap.size) (.deferred none) (by omega)).trans h1)
    obtain ⟨e1, _⟩ := cells1 ((put_other (r := w2.heap.size) (.deferred none) (by omega)).trans h2)
    obtain ⟨e2, _⟩ := cells1 ((put_other (r := w2.heap.size) (.deferred none) (by omega)).trans h3)
    have Z2 : Hid (w2.heap.size = w1.heap.size + 2) := z2
    have HO : Hid (∃ l, ordsO t s hs (spansL hs) = (y.ord, y.st) :: l) := by
      obtain ⟨l, hl⟩ := hS
      exact ⟨l, hl.symm⟩
    clear hb hr hK h1 h2 h3 z2 PR HPR B1 HX a0 a1
    go_wp2_with fail
    refine ⟨by simp, .inl ⟨_, _, rfl, run_takeDeferred HK.out, ?_⟩⟩
    obtain ⟨l, hl⟩ := HO.out
    refine ⟨.tuple #[.slice (some ⟨g, 0, none⟩) y.ord.length c', .bool true, .int .i64 0], ?_, ?_, .inr ⟨(y.ord, y.st), l, g, c', hl, rfl, ?_⟩⟩
    · rw [results_c3 rfl]
      go_simp
    · exact below_but (ob := w2.heap.size) HB.out (But.put _ _ _) HB.out.size (by omega)
    · exact (HR.out.kept (by simp) (World.putObj_heap_other (by omega))).down (by omega)
theorem find_any (t : Int) (x : SX) (s : SD) (base : Option Addr) (b o c : Nat) (hs : List EvD) (pb : Nat → Option Addr) (pc pg po : Nat → Nat) (w : World) (h : StAt w x s) (hkd : KdAt w) (hev : EvsAt w base b o hs pb pc pg po) (hsz : s.vals.length ≤ 999999000 ∧ s.prs.length ≤ 999999000) :
    Calls Tryd.prog 27 #[.int .i64 t, x.v s, .slice base hs.length c] w (FndP t s hs w) := by
  by_cases hz : pErr t s hs = 0
  · refine (find_ok t x s base b o c hs pb pc pg po w h hkd hev hz hsz).mono ?_
    rintro e w' ⟨hb, (⟨h1, h2⟩ | ⟨p, l, g, c', h1, h2, h3⟩)⟩
    · exact ⟨hb, .inr (.inl ⟨hz, h1, h2⟩)⟩
    · exact ⟨hb, .inr (.inr ⟨hz, p, l, g, c', h1, h2, h3⟩)⟩
  · refine (find_bad t x s base b o c hs pb pc pg po w h hkd hev hz).mono ?_
    rintro e w' ⟨h1, hb⟩
    exact ⟨hb, .inl ⟨hz, h1⟩⟩
end Go.Proofs.YtcphajjonecmbaaDoor

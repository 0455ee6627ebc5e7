/- Layer 7: a range over a function whose rounds are told what lies in memory: my own law of the walk. -/
import Derived.Test.YtcphajjonecmbaaDoorYAgr
import Derived.LoopIn
import Derived.RangeFuncNested
import Derived.RangeFuncBound
import Derived.RangeFuncCalls
import Derived.RangeFuncLeaves
import Derived.OwnWalkIn







namespace Go.Proofs.YtcphajjonecmbaaDoor

open Go.RowKit

/-- What is no heap is the same. -/
def Sam (A B : World) : Prop := B.os = A.os ∧ B.tape = A.tape ∧ B.output = A.output
theorem Sam.refl (A : World) : Sam A A := ⟨rfl, rfl, rfl⟩
theorem Sam.trans {A B C : World} (h : Sam A B) (k : Sam B C) : Sam A C := ⟨k.1.trans h.1, k.2.1.trans h.2.1, k.2.2.trans h.2.2⟩
theorem Sam.below {n : Nat} {A B : World} (h : Below n A B) : Sam A B := ⟨h.os, h.tape, h.output⟩
/-- Nothing is changed but block ob and what is new. -/
def But (ob : Nat) (A B : World) : Prop := A.heap.size ≤ B.heap.size ∧ (∀ k, k < A.heap.size → k ≠ ob → B.heap[k]? = A.heap[k]?) ∧ Sam A B
theorem But.refl (ob : Nat) (A : World) : But ob A A := ⟨Nat.le_refl _, fun _ _ _ => rfl, .refl _⟩
theorem But.trans {ob : Nat} {A B C : World} (h : But ob A B) (k : But ob B C) : But ob A C := ⟨Nat.le_trans h.1 k.1, fun i hi hn => (k.2.1 i (Nat.lt_of_lt_of_le hi h.1) hn).trans (h.2.1 i hi hn), h.2.2.trans k.2.2⟩
theorem But.of_below {ob : Nat} {A B : World} (h : Below A.heap.size A B) : But ob A B := ⟨h.size, fun k hk _ => h.block k hk, .below h⟩
theorem But.put (A : World) (ob : Nat) (o : Obj) : But ob A (A.putObj ob o) := ⟨by simp, fun _ _ hn => World.putObj_heap_other hn, ⟨rfl, rfl, rfl⟩⟩
theorem But.new {ob : Nat} (A : World) (o : Obj) : But ob A (A.alloc o) := .of_below (below_alloc _ _)
theorem But.set (A : World) (ob k : Nat) (v : Value) : But ob A (A.setCell ⟨ob, k, none⟩ v) := ⟨by simp, fun _ _ hn => Below.heap_setCell A _ _ _ hn, ⟨rfl, rfl, rfl⟩⟩
/-- What a round that goes on may have changed: Cw, and what rounds made. -/
def RKp (Cw R : Nat → Prop) (A B : World) : Prop := A.heap.size ≤ B.heap.size ∧ (∀ k, k < A.heap.size → ¬ Cw k → ¬ R k → B.heap[k]? = A.heap[k]?) ∧ Sam A B
def mark (R : Nat → Prop) (A B : World) : Nat → Prop := fun k => R k ∨ (A.heap.size ≤ k ∧ k < B.heap.size)
/-- An iterator's contract: its rounds are told what lies in memory. -/
def SeqM {α : Type} (P : Program) (g : Nat) (lb : Array Value) (encs : α → Array Value) (obs : α → Nat) (Mem : α → World → Prop) (Cw Cl : Nat → Prop) (S Sp : List α → Prop) (w : World) : Prop :=
  ∀ (l : Nat) (J : List α → (Nat → Prop) → World → Prop) (Jx : List α → World → Prop) (W : World), Below w.heap.size w W → (∀ k, Cw k → k < W.heap.size) → (∀ k, Cl k → k < W.heap.size) →
    (∀ s R A B ob, W.heap.size ≤ ob → ¬ R ob → (∀ x ∈ s, obs x = ob) → But ob A B → J s R A → J s R B) →
    (∀ s A B, Below A.heap.size A B → Jx s A → Jx s B) →
    (∀ pre x R A, J pre R A → Mem x A → W.heap.size ≤ obs x → ¬ R (obs x) → (∀ y ∈ pre, obs y = obs x) → (∀ k, R k → W.heap.size ≤ k ∧ k < A.heap.size) →
      YieldAt Fence.wide 1 P l (encs x) A fun e B => (e = .returned (.bool true) ∧ J (pre ++ [x]) (mark R A B) B ∧ RKp Cw R A B) ∨ (e = .returned (.bool false) ∧ Jx (pre ++ [x]) B ∧ RKp (fun k => Cw k ∨ Cl k) R A B)) →
    J [] (fun _ => False) W →
    Calls P g (#[.func (.yield l) #[] #[]] ++ lb) W fun e W' => (∃ v, e = .returned v) ∧ ((∃ xs R, S xs ∧ J xs R W') ∨ (∃ pre, Sp pre ∧ Jx pre W'))
/-- The two blocks of the loop's book-keeping lie as they lay. -/
def Two (N : Nat) (A B : World) : Prop := B.heap[N]? = A.heap[N]? ∧ B.heap[N + 1]? = A.heap[N + 1]?
/-- How the body of a round may be left. -/
def postM {α : Type} (N : Nat) (CW CX : Nat → Prop) (I : List α → (Nat → Prop) → World → Prop) (Ix : Code → List α → World → Prop) (s : List α) (R : Nat → Prop) (A B : World) : Exit → Act → World → Prop
  | .normal, _, W' => Two N B W' ∧ RKp CW R A W' ∧ I s (mark R A W') W'
  | .ret, _, W' => Two N B W' ∧ RKp CX R A W' ∧ Ix .ret s W'
  | .exit id, _, W' => Two N B W' ∧ RKp CX R A W' ∧ Ix (.exit id) s W'
  | .goto t, _, W' => Two N B W' ∧ RKp CX R A W' ∧ Ix (.goto t) s W'
  | .panic _, _, _ => False
  | .outgrown, _, _ => False

theorem wp_rangeFunc_M {α : Type} {P : Program} {g : Operand} {ps : Array Tmp} {assign body : Code} {Q : Exit → Act → World → Prop} {a : Act} {w : World}
    {gf : Nat} {lb : Array Value} (hg : a.eval g = .func (.func gf) #[] lb) (eg : ∀ args w, (callFunc gf args).run P w = .ok (.enter gf args) w)
    {encs : α → Array Value} {obs : α → Nat} {Mem : α → World → Prop} {Cw Cl : Nat → Prop} {S Sp : List α → Prop} (hseq : SeqM P gf lb encs obs Mem (fun k => Cw k ∨ k = w.heap.size ∨ k = w.heap.size + 1) Cl S Sp w)
    (hCw : ∀ k, Cw k → k < w.heap.size) (hCl : ∀ k, Cl k → k < w.heap.size) (hps : ∀ x, (encs x).size = ps.size)
    (I : List α → (Nat → Prop) → World → Prop) (Ix : Code → List α → World → Prop)
    (hI : ∀ s R A B ob, (ob = w.heap.size ∨ ob = w.heap.size + 1 ∨ (w.heap.size + 2 ≤ ob ∧ ¬ R ob ∧ ∀ x ∈ s, obs x = ob)) → But ob A B → I s R A → I s R B)
    (hIx : ∀ c s A B ob, (ob = w.heap.size ∨ ob = w.heap.size + 1) → But ob A B → Ix c s A → Ix c s B) (h0 : I [] (fun _ => False) w)
    (hround : ∀ pre x R A, I pre R A → Mem x A → w.heap.size + 2 ≤ obs x → ¬ R (obs x) → (∀ y ∈ pre, obs y = obs x) → (∀ k, R k → w.heap.size + 2 ≤ k ∧ k < A.heap.size) → w.heap.size + 2 ≤ A.heap.size →
      assign.wpIn (Fence.wide.inRound (w.heap.size + 1)) 1 P (Exit.then (fun a₁ A₁ => Two w.heap.size A A₁ ∧ ∀ B, But (w.heap.size + 1) A₁ B → B.heap.size = A₁.heap.size →
        body.wpIn (Fence.wide.inRound (w.heap.size + 1)) 1 P (postM w.heap.size (fun k => Cw k ∨ k = w.heap.size ∨ k = w.heap.size + 1) (fun k => (Cw k ∨ k = w.heap.size ∨ k = w.heap.size + 1) ∨ Cl k) I Ix (pre ++ [x]) R A B) a₁ B) (fun _ _ _ => False)) { tmps := (ps.zip (encs x)).foldl (fun t (p, v) => t.setIfInBounds p v) a.tmps, defers := [] } A)
    (hdone : ∀ xs R W, S xs → I xs R W → W.heap[w.heap.size]? = some (.deferred (some [])) → Q .normal { a with defers := { target := .collected w.heap.size, args := #[] } :: a.defers } W)
    (hstop : ∀ c pre W, Sp pre → Ix c pre W → W.heap[w.heap.size]? = some (.deferred (some [])) → c.wp P Q { a with defers := { target := .collected w.heap.size, args := #[] } :: a.defers } W) :
    (Code.rangeFunc g ps assign body).wp P Q a w := by
  refine (wpIn_wide (n := 1)).1 ?_
  refine wpIn_rangeFunc ?_
  intro fn hfn
  obtain ⟨rec, hrec⟩ : ∃ rec : LoopState → Option Code → Loop, rec = fun st pe => { state := st, pending := pe, fn, tmps := a.tmps, params := ps, assign, body, defers := w.heap.size } := ⟨_, rfl⟩
  obtain ⟨W1, hW1⟩ : ∃ W1, (w.alloc (.deferred (some []))).alloc (.loop (rec .ready none)) = W1 := ⟨_, rfl⟩
  have hz1 : W1.heap.size = w.heap.size + 2 := by rw [← hW1]; simp
  have hL1 : W1.heap[w.heap.size + 1]? = some (.loop (rec .ready none)) := by
    rw [← hW1]; have := World.alloc_heap_new (w.alloc (.deferred (some []))) (.loop (rec .ready none)); rwa [World.size_alloc] at this
  have hK1 : W1.heap[w.heap.size]? = some (.deferred (some [])) := by
    rw [← hW1]; exact (Below.heap_alloc _ _ _ (by simp)).trans (World.alloc_heap_new w _)
  have hb1 : Below w.heap.size w W1 := by
    rw [← hW1]; exact ((Below.refl _ w).alloc (Nat.le_refl _) _).alloc (by simp) _
  have hI1 : I [] (fun _ => False) W1 := hI _ _ w W1 w.heap.size (.inl rfl) (But.of_below hb1) h0
  refine ⟨w.heap.size + 1, [{ target := .collected w.heap.size, args := #[] }], W1, { target := .fn (.func gf) lb, args := #[.func (.yield (w.heap.size + 1)) #[] #[]] }, W1, gf,
    #[.func (.yield (w.heap.size + 1)) #[] #[]] ++ lb, W1, ?_, ?_, ?_, ?_, fun _ => Nat.le_refl _, ?_⟩
  · rw [← hW1, hrec]; exact run_enterLoop_outer _ _ _ _ _
  · simp only [resolve, hg]
    simp [go_sem]
  · intro f' _; trivial
  · simp [invoke, go_sem, eg]
  · refine callsIn_wide.2 ?_
    refine (hseq (w.heap.size + 1)
      (fun pre R W => I pre R W ∧ W.heap[w.heap.size + 1]? = some (.loop (rec .ready none)) ∧ W.heap[w.heap.size]? = some (.deferred (some [])))
      (fun pre W => ∃ c, Ix c pre W ∧ W.heap[w.heap.size + 1]? = some (.loop (rec .done (some c))) ∧ W.heap[w.heap.size]? = some (.deferred (some [])))
      W1 hb1 (fun k hk => by rw [hz1]; rcases hk with q | q | q; have := hCw k q; omega; omega; omega) (fun k hk => by rw [hz1]; have := hCl k hk; omega)
      (fun s R A B ob hob hR hs hbut hJ => ⟨hI s R A B ob (.inr (.inr ⟨by omega, hR, hs⟩)) hbut hJ.1, (hbut.2.1 _ (Array.getElem?_eq_some_iff.1 hJ.2.1).1 (by omega)).trans hJ.2.1, (hbut.2.1 _ (Array.getElem?_eq_some_iff.1 hJ.2.2).1 (by omega)).trans hJ.2.2⟩)
      (fun s A B hb hJ => by
        obtain ⟨c, hc, hl, hk⟩ := hJ
        exact ⟨c, hIx c s A B w.heap.size (.inl rfl) (But.of_below hb) hc, (hb.block _ (Array.getElem?_eq_some_iff.1 hl).1).trans hl, (hb.block _ (Array.getElem?_eq_some_iff.1 hk).1).trans hk⟩)
      ?_ ⟨hI1, hL1, hK1⟩).mono ?_
    · -- one round
      rintro pre x R W ⟨hi, hl, hk⟩ hmem hob hR hpre hRb
      rw [hz1] at hob hRb
      have hlt : w.heap.size + 1 < W.heap.size := (Array.getElem?_eq_some_iff.1 hl).1
      have hy := run_yield (P := P) (args := encs x) hl (by rw [hrec]; exact hps x)
      rw [hrec] at hy
      refine ⟨fn, _, assign, body, hy, roundIn_of_wpIn hfn (wpIn_mono (hround pre x R W hi hmem hob hR hpre hRb (by omega)) ?_)⟩
      clear hy
      rintro e a' Wa he
      cases e with
      | normal =>
        obtain ⟨⟨k1, k2⟩, hbody⟩ := he
        have hl1 := k2.trans hl
        have hk1 := k1.trans hk
        have hlt1 : w.heap.size + 1 < Wa.heap.size := (Array.getElem?_eq_some_iff.1 hl1).1
        refine ⟨_, run_beginRound hl1 (by rw [hrec]), ?_⟩
        have hl2 : (Wa.putObj (w.heap.size + 1) (.loop { rec .ready none with state := .busy })).heap[w.heap.size + 1]? = some (.loop { rec .ready none with state := .busy }) := World.putObj_heap_same hlt1
        have hk2 : (Wa.putObj (w.heap.size + 1) (.loop { rec .ready none with state := .busy })).heap[w.heap.size]? = some (.deferred (some [])) := (World.putObj_heap_other (by omega)).trans hk1
        refine wpIn_mono (hbody _ (But.put _ _ _) (by simp)) ?_
        have fin : ∀ (jump : Option Code) (W3 : World), Two w.heap.size (Wa.putObj (w.heap.size + 1) (.loop { rec .ready none with state := .busy })) W3 →
            (Instr.endRound (w.heap.size + 1) jump).run P W3 = .ok (.bool jump.isNone) (W3.putObj (w.heap.size + 1) (.loop (rec (if jump.isNone then .ready else .done) jump))) ∧
            (W3.putObj (w.heap.size + 1) (.loop (rec (if jump.isNone then .ready else .done) jump))).heap[w.heap.size + 1]? = some (.loop (rec (if jump.isNone then .ready else .done) jump)) ∧
            (W3.putObj (w.heap.size + 1) (.loop (rec (if jump.isNone then .ready else .done) jump))).heap[w.heap.size]? = some (.deferred (some [])) := fun jump W3 h2 => by
          have hl3 := h2.2.trans hl2
          have := run_endRound (P := P) jump hl3
          rw [hrec] at this ⊢
          exact ⟨this, World.putObj_heap_same (Array.getElem?_eq_some_iff.1 hl3).1, (World.putObj_heap_other (by omega)).trans (h2.1.trans hk2)⟩
        rintro e a3 W3 hp
        cases e with
        | normal =>
          obtain ⟨h2, hkp, hi3⟩ := hp
          obtain ⟨hr, hl4, hk4⟩ := fin none W3 h2
          refine ⟨_, _, hr, .inl ⟨rfl, ⟨?_, hl4, hk4⟩, ?_⟩⟩
          · have e1 : mark R W (W3.putObj (w.heap.size + 1) (.loop (rec (if (none : Option Code).isNone then .ready else .done) none))) = mark R W W3 := by unfold mark; simp
            rw [e1]
            exact hI _ _ W3 _ (w.heap.size + 1) (.inr (.inl rfl)) (But.put _ _ _) hi3
          · exact ⟨by simp; exact hkp.1, fun k hk hc hr => (World.putObj_heap_other (fun q => hc (.inr (.inr q)))).trans (hkp.2.1 k hk hc hr), hkp.2.2⟩
        | ret =>
          obtain ⟨h2, hkp, hi3⟩ := hp
          obtain ⟨hr, hl4, hk4⟩ := fin (some .ret) W3 h2
          exact ⟨_, _, hr, .inr ⟨rfl, ⟨.ret, hIx _ _ W3 _ (w.heap.size + 1) (.inr rfl) (But.put _ _ _) hi3, hl4, hk4⟩, ⟨by simp; exact hkp.1, fun k hk hc hr => (World.putObj_heap_other (fun q => hc (.inl (.inr (.inr q))))).trans (hkp.2.1 k hk hc hr), hkp.2.2⟩⟩⟩
        | exit id =>
          obtain ⟨h2, hkp, hi3⟩ := hp
          obtain ⟨hr, hl4, hk4⟩ := fin (some (.exit id)) W3 h2
          exact ⟨_, _, hr, .inr ⟨rfl, ⟨.exit id, hIx _ _ W3 _ (w.heap.size + 1) (.inr rfl) (But.put _ _ _) hi3, hl4, hk4⟩, ⟨by simp; exact hkp.1, fun k hk hc hr => (World.putObj_heap_other (fun q => hc (.inl (.inr (.inr q))))).trans (hkp.2.1 k hk hc hr), hkp.2.2⟩⟩⟩
        | goto t =>
          obtain ⟨h2, hkp, hi3⟩ := hp
          obtain ⟨hr, hl4, hk4⟩ := fin (some (.goto t)) W3 h2
          exact ⟨_, _, hr, .inr ⟨rfl, ⟨.goto t, hIx _ _ W3 _ (w.heap.size + 1) (.inr rfl) (But.put _ _ _) hi3, hl4, hk4⟩, ⟨by simp; exact hkp.1, fun k hk hc hr => (World.putObj_heap_other (fun q => hc (.inl (.inr (.inr q))))).trans (hkp.2.1 k hk hc hr), hkp.2.2⟩⟩⟩
        | panic ch => exact hp.elim
        | outgrown => exact hp.elim
      | ret => exact he.elim
      | exit id => exact he.elim
      | goto t => exact he.elim
      | panic ch => exact he.elim
      | outgrown => exact he.elim
    · -- behind the iterator
      rintro e W2 ⟨⟨v, rfl⟩, (⟨xs, R, hS, hi, hl, hk⟩ | ⟨pre, hSp, c, hi, hl, hk⟩)⟩
      · exact ⟨none, _, by have := run_endLoop (P := P) hl (by rw [hrec]; simp); rw [hrec] at this; exact this, hdone xs R _ hS (hI _ _ W2 _ (w.heap.size + 1) (.inr (.inl rfl)) (But.put _ _ _) hi) ((World.putObj_heap_other (by omega)).trans hk)⟩
      · exact ⟨some c, _, by have := run_endLoop (P := P) hl (by rw [hrec]; simp); rw [hrec] at this; exact this, wpIn_wide.2 (hstop c pre _ hSp (hIx _ _ W2 _ (w.heap.size + 1) (.inr rfl) (But.put _ _ _) hi) ((World.putObj_heap_other (by omega)).trans hk))⟩
end Go.Proofs.YtcphajjonecmbaaDoor


/- Layer 18, pure: the steps on trees; a tree from a place on, with its places. Layer 18, pure: what the writes of each kind leave. Made by mk_sp3.py. Layer 18, pure: a step built; another tree in the place of one. -/

import Derived.Test.YthlhbajaogonnaaDoorTBt2

import Derived.Test.YthlhbajaogonnaaDoorTMir

import Derived.Test.YthlhbajaogonnaaDoorTGra

namespace Go.Proofs.YthlhbajaogonnaaDoor

def BT.dat : BT → PD
  | .leaf d => d
  | .node d _ _ => d
def BT.wt (b : BT) : Int := b.dat.wt
def PD.w (d : PD) (a : Int) : PD := ⟨d.key, d.inf, a, d.val⟩
def BT.wset (a : Int) : BT → BT
  | .leaf d => .leaf (d.w a)
  | .node d l r => .node (d.w a) l r
theorem BT.wset_size (a : Int) : ∀ b : BT, (b.wset a).size = b.size
  | .leaf _ => rfl
  | .node _ _ _ => rfl
theorem BT.wset_mir (a : Int) : ∀ b : BT, (b.wset a).mir = b.mir.wset a
  | .leaf _ => rfl
  | .node _ _ _ => rfl
theorem BT.wset_ok {a : Int} (h0 : 0 ≤ a) (h1 : a ≤ 1000000) : ∀ {b : BT}, b.ok → (b.wset a).ok
  | .leaf _, h => ⟨h.1, h0, h1⟩
  | .node _ _ _, h => ⟨⟨h.1.1, h0, h1⟩, h.2.1, h.2.2.1, h.2.2.2⟩
theorem BT.ok_wt : ∀ {b : BT}, b.ok → 0 ≤ b.wt ∧ b.wt ≤ 1000000
  | .leaf _, h => h.2
  | .node _ _ _, h => h.1.2
/-- What is there, or isn't. -/
def bwO : Option BT → Int
  | none => -1
  | some b => b.wt
def blO : Option BT → Option BT
  | some (.node _ l _) => some l
  | _ => none
def brO : Option BT → Option BT
  | some (.node _ _ r) => some r
  | _ => none
def inO (o : Option BT) : Bool := (blO o).isSome
/-- Do the conditions of the kind hold? -/
def canO (k : Int) (root : Bool) (o : Option BT) : Bool :=
  if k = 1 then decide (bwO (blO o) = 0) && (decide (bwO (brO o) = 0) && (decide (0 < bwO o) && (decide (bwO (blO (blO o)) = 0) || (decide (bwO (brO (blO o)) = 0) || (decide (bwO (blO (brO o)) = 0) || decide (bwO (brO (brO o)) = 0))))))
  else if k = 2 then decide (0 < bwO o) && (decide (bwO (blO o) = 0) && (decide (bwO (blO (blO o)) = 0) && decide (0 < bwO (brO o))))
  else if k = 3 then decide (0 < bwO o) && (decide (bwO (blO o) = 0) && (decide (bwO (brO (blO o)) = 0) && (decide (0 < bwO (blO (blO o))) && (decide (0 < bwO (brO o)) && inO (brO (blO o))))))
  else if k = 4 then decide (1 < bwO (blO o)) && (decide (bwO (brO o) = 1) && (decide (0 < bwO (blO (brO o))) && decide (0 < bwO (brO (brO o)))))
  else if k = 5 then decide (1 < bwO (blO o)) && (decide (bwO (brO o) = 0) && decide (1 < bwO (blO (brO o))))
  else if k = 6 then decide (1 < bwO (blO o)) && (decide (bwO (brO o) = 0) && (decide (bwO (blO (brO o)) = 1) && (decide (0 < bwO (blO (blO (brO o)))) && decide (0 < bwO (brO (blO (brO o)))))))
  else if k = 7 then decide (1 < bwO (blO o)) && (decide (bwO (brO o) = 0) && (decide (bwO (blO (brO o)) = 1) && (decide (bwO (blO (blO (brO o))) = 0) && (decide (0 < bwO (brO (blO (brO o)))) && inO (blO (blO (brO o)))))))
  else if k = 8 then decide (1 < bwO (blO o)) && (decide (bwO (brO o) = 0) && (decide (bwO (blO (brO o)) = 1) && decide (bwO (brO (blO (brO o))) = 0)))
  else if k = 9 then decide (1 < bwO (blO o)) && (decide (bwO (brO o) = 1) && decide (bwO (brO (brO o)) = 0))
  else if k = 10 then decide (1 < bwO (blO o)) && (decide (bwO (brO o) = 1) && (decide (bwO (blO (brO o)) = 0) && (decide (0 < bwO (brO (brO o))) && inO (blO (brO o)))))
  else if k = 11 then decide (1 < bwO (blO o)) && decide (1 < bwO (brO o))
  else root && decide (bwO o ≠ 1)
/-- A step of a kind: what stands there, and what stands there behind it. -/
inductive StepR (root : Bool) : Int → BT → BT → Prop
  | blk {x : PD} {l r : BT} : l.wt = 0 → r.wt = 0 → 0 < x.wt → (bwO (blO (some l)) = 0 ∨ bwO (brO (some l)) = 0 ∨ bwO (blO (some r)) = 0 ∨ bwO (brO (some r)) = 0) → StepR root 1 (.node x l r) (.node (x.w (x.wt - 1)) (l.wset 1) (r.wset 1))
  | rb1 {x l : PD} {ll lr r : BT} : 0 < x.wt → l.wt = 0 → ll.wt = 0 → 0 < r.wt → StepR root 2 (.node x (.node l ll lr) r) (.node (l.w x.wt) ll (.node (x.w 0) lr r))
  | rb2 {x l lr : PD} {ll lrl lrr r : BT} : 0 < x.wt → l.wt = 0 → lr.wt = 0 → 0 < ll.wt → 0 < r.wt → StepR root 3 (.node x (.node l ll (.node lr lrl lrr)) r) (.node (lr.w x.wt) (.node (l.w 0) ll lrl) (.node (x.w 0) lrr r))
  | push {x r : PD} {l rl rr : BT} : 1 < l.wt → r.wt = 1 → 0 < rl.wt → 0 < rr.wt → StepR root 4 (.node x l (.node r rl rr)) (.node (x.w (x.wt + 1)) (l.wset (l.wt - 1)) (.node (r.w 0) rl rr))
  | w1 {x r : PD} {l rl rr : BT} : 1 < l.wt → r.wt = 0 → 1 < rl.wt → StepR root 5 (.node x l (.node r rl rr)) (.node (r.w x.wt) (.node (x.w 1) (l.wset (l.wt - 1)) (rl.wset (rl.wt - 1))) rr)
  | w2 {x r rl : PD} {l rll rlr rr : BT} : 1 < l.wt → r.wt = 0 → rl.wt = 1 → 0 < rll.wt → 0 < rlr.wt → StepR root 6 (.node x l (.node r (.node rl rll rlr) rr)) (.node (r.w x.wt) (.node (x.w 1) (l.wset (l.wt - 1)) (.node (rl.w 0) rll rlr)) rr)
  | w3 {x r rl rll : PD} {l rlll rllr rlr rr : BT} : 1 < l.wt → r.wt = 0 → rl.wt = 1 → rll.wt = 0 → 0 < rlr.wt → StepR root 7 (.node x l (.node r (.node rl (.node rll rlll rllr) rlr) rr)) (.node (r.w x.wt) (.node (rll.w 0) (.node (x.w 1) (l.wset (l.wt - 1)) rlll) (.node (rl.w 1) rllr rlr)) rr)
  | w4 {x r rl : PD} {l rll rlr rr : BT} : 1 < l.wt → r.wt = 0 → rl.wt = 1 → rlr.wt = 0 → StepR root 8 (.node x l (.node r (.node rl rll rlr) rr)) (.node (r.w x.wt) (.node (rl.w 0) (.node (x.w 1) (l.wset (l.wt - 1)) rll) (rlr.wset 1)) rr)
  | w5 {x r : PD} {l rl rr : BT} : 1 < l.wt → r.wt = 1 → rr.wt = 0 → StepR root 9 (.node x l (.node r rl rr)) (.node (r.w x.wt) (.node (x.w 1) (l.wset (l.wt - 1)) rl) (rr.wset 1))
  | w6 {x r rl : PD} {l rll rlr rr : BT} : 1 < l.wt → r.wt = 1 → rl.wt = 0 → 0 < rr.wt → StepR root 10 (.node x l (.node r (.node rl rll rlr) rr)) (.node (rl.w x.wt) (.node (x.w 1) (l.wset (l.wt - 1)) rll) (.node (r.w 1) rlr rr))
  | w7 {x : PD} {l r : BT} : 1 < l.wt → 1 < r.wt → StepR root 11 (.node x l r) (.node (x.w (x.wt + 1)) (l.wset (l.wt - 1)) (r.wset (r.wt - 1)))
  | root {b : BT} : root = true → b.wt ≠ 1 → StepR root 12 b (b.wset 1)
theorem step_of_can {k : Int} {root : Bool} {b : BT} (hk : 1 ≤ k ∧ k ≤ 12) (h : canO k root (some b) = true) : ∃ b', StepR root k b b' := by
  have c : k = 1 ∨ k = 2 ∨ k = 3 ∨ k = 4 ∨ k = 5 ∨ k = 6 ∨ k = 7 ∨ k = 8 ∨ k = 9 ∨ k = 10 ∨ k = 11 ∨ k = 12 := by omega
  rcases c with rfl | rfl | rfl | rfl | rfl | rfl | rfl | rfl | rfl | rfl | rfl | rfl
  · rcases b with d | ⟨x, l, r⟩
    · simp [canO] at h; simp [blO, bwO] at h
    · simp [canO] at h; simp [blO, brO] at h
      exact ⟨_, StepR.blk h.1 h.2.1 h.2.2.1 h.2.2.2⟩
  · rcases b with d | ⟨x, l | ⟨l, ll, lr⟩, r⟩
    · simp [canO] at h; simp [blO, bwO] at h
    · simp [canO] at h; simp [blO, bwO] at h
    · simp [canO] at h; simp [blO, brO] at h
      exact ⟨_, StepR.rb1 h.1 h.2.1 h.2.2.1 h.2.2.2⟩
  · rcases b with d | ⟨x, l | ⟨l, ll, lr | ⟨lr, lrl, lrr⟩⟩, r⟩
    · simp [canO] at h; simp [blO, bwO] at h
    · simp [canO] at h; simp [blO, brO, bwO] at h
    · simp [canO] at h; simp [blO, brO, inO] at h
    · simp [canO] at h; simp [blO, brO, inO] at h
      exact ⟨_, StepR.rb2 h.1 h.2.1 h.2.2.1 h.2.2.2.1 h.2.2.2.2⟩
  · rcases b with d | ⟨x, l, r | ⟨r, rl, rr⟩⟩
    · simp [canO] at h; simp [blO, bwO] at h
    · simp [canO] at h; simp [blO, brO, bwO] at h
    · simp [canO] at h; simp [blO, brO] at h
      exact ⟨_, StepR.push h.1 h.2.1 h.2.2.1 h.2.2.2⟩
  · rcases b with d | ⟨x, l, r | ⟨r, rl, rr⟩⟩
    · simp [canO] at h; simp [blO, bwO] at h
    · simp [canO] at h; simp [blO, brO, bwO] at h
    · simp [canO] at h; simp [blO, brO] at h
      exact ⟨_, StepR.w1 h.1 h.2.1 h.2.2⟩
  · rcases b with d | ⟨x, l, r | ⟨r, rl | ⟨rl, rll, rlr⟩, rr⟩⟩
    · simp [canO] at h; simp [blO, bwO] at h
    · simp [canO] at h; simp [blO, brO, bwO] at h
    · simp [canO] at h; simp [blO, brO, bwO] at h
    · simp [canO] at h; simp [blO, brO] at h
      exact ⟨_, StepR.w2 h.1 h.2.1 h.2.2.1 h.2.2.2.1 h.2.2.2.2⟩
  · rcases b with d | ⟨x, l, r | ⟨r, rl | ⟨rl, rll | ⟨rll, rlll, rllr⟩, rlr⟩, rr⟩⟩
    · simp [canO] at h; simp [blO, bwO] at h
    · simp [canO] at h; simp [blO, brO, bwO] at h
    · simp [canO] at h; simp [blO, brO, bwO] at h
    · simp [canO] at h; simp [blO, brO, inO] at h
    · simp [canO] at h; simp [blO, brO, inO] at h
      exact ⟨_, StepR.w3 h.1 h.2.1 h.2.2.1 h.2.2.2.1 h.2.2.2.2⟩
  · rcases b with d | ⟨x, l, r | ⟨r, rl | ⟨rl, rll, rlr⟩, rr⟩⟩
    · simp [canO] at h; simp [blO, bwO] at h
    · simp [canO] at h; simp [blO, brO, bwO] at h
    · simp [canO] at h; simp [blO, brO, bwO] at h
    · simp [canO] at h; simp [blO, brO] at h
      exact ⟨_, StepR.w4 h.1 h.2.1 h.2.2.1 h.2.2.2⟩
  · rcases b with d | ⟨x, l, r | ⟨r, rl, rr⟩⟩
    · simp [canO] at h; simp [blO, bwO] at h
    · simp [canO] at h; simp [blO, brO, bwO] at h
    · simp [canO] at h; simp [blO, brO] at h
      exact ⟨_, StepR.w5 h.1 h.2.1 h.2.2⟩
  · rcases b with d | ⟨x, l, r | ⟨r, rl | ⟨rl, rll, rlr⟩, rr⟩⟩
    · simp [canO] at h; simp [blO, bwO] at h
    · simp [canO] at h; simp [blO, brO, bwO] at h
    · simp [canO] at h; simp [blO, brO, inO] at h
    · simp [canO] at h; simp [blO, brO, inO] at h
      exact ⟨_, StepR.w6 h.1 h.2.1 h.2.2.1 h.2.2.2⟩
  · rcases b with d | ⟨x, l, r⟩
    · simp [canO] at h; simp [blO, bwO] at h
    · simp [canO] at h; simp [blO, brO] at h
      exact ⟨_, StepR.w7 h.1 h.2⟩
  · simp [canO] at h
    exact ⟨_, StepR.root h.1 h.2⟩
theorem can_of_step {k : Int} {root : Bool} {b b' : BT} (h : StepR root k b b') : canO k root (some b) = true := by
  cases h <;> simp [canO] <;> simp_all [blO, brO, bwO, inO, BT.wt, BT.dat]
theorem StepR.det {k : Int} {root : Bool} {b x : BT} (h : StepR root k b x) : ∀ {y : BT}, StepR root k b y → x = y := by
  intro y h'
  cases h <;> cases h' <;> rfl
/-- A tree from a place on, with its places. -/
structure AT (t : NL) (p : Nat) (b : BT) (L : List Nat) : Prop where
  abs : Abs t p b
  tree : Tree t p L
theorem AT.mem {t : NL} {p : Nat} {b : BT} {L : List Nat} (h : AT t p b L) : p ∈ L := by obtain ⟨L', rfl⟩ := h.tree.head; simp
theorem AT.lt {t : NL} {p : Nat} {b : BT} {L : List Nat} (h : AT t p b L) : p < t.length := h.abs.lt
theorem AT.open {t : NL} {p : Nat} {d : PD} {a b : BT} {M : List Nat} (h : AT t p (.node d a b) M) : ∃ (l r : Nat) (L R : List Nat), M = p :: (L ++ R) ∧ d = ndP (ndAt t p) ∧ (ndAt t p).l = (l : Int) ∧ (ndAt t p).r = (r : Int) ∧ AT t l a L ∧ AT t r b R := by
  obtain ⟨h1, h2⟩ := h
  cases h1 with
  | node hp hl hr a1 a2 =>
    cases h2 with
    | leaf _ hl' => omega
    | inner _ hl' hr' t1 t2 =>
      obtain rfl := Int.ofNat.inj (hl.symm.trans hl')
      obtain rfl := Int.ofNat.inj (hr.symm.trans hr')
      exact ⟨_, _, _, _, rfl, rfl, hl, hr, ⟨a1, t1⟩, ⟨a2, t2⟩⟩
theorem AT.keep {t T : NL} {p : Nat} {b : BT} {L : List Nat} (h : AT t p b L) (hl : T.length = t.length) (hk : ∀ y ∈ L, ndAt T y = ndAt t y) : AT T p b L := by
  obtain ⟨h1, h2⟩ := h
  induction h1 generalizing L with
  | leaf hp ha hb =>
    cases h2 with
    | inner _ hl' => omega
    | leaf =>
      have e := hk _ List.mem_cons_self
      refine ⟨?_, Tree.leaf (by omega) (by rw [e]; exact ha) (by rw [e]; exact hb)⟩
      rw [← e]
      exact Abs.leaf (by omega) (by rw [e]; exact ha) (by rw [e]; exact hb)
  | node hp ha hb _ _ ih1 ih2 =>
    cases h2 with
    | leaf _ hl' => omega
    | inner _ hl' hr' t1 t2 =>
      obtain rfl := Int.ofNat.inj (ha.symm.trans hl')
      obtain rfl := Int.ofNat.inj (hb.symm.trans hr')
      have e := hk _ List.mem_cons_self
      have i1 := ih1 (fun y hy => hk y (by simp [hy])) t1
      have i2 := ih2 (fun y hy => hk y (by simp [hy])) t2
      refine ⟨?_, Tree.inner (by omega) (by rw [e]; exact ha) (by rw [e]; exact hb) i1.tree i2.tree⟩
      rw [← e]
      exact Abs.node (by omega) (by rw [e]; exact ha) (by rw [e]; exact hb) i1.abs i2.abs
theorem ndAt_set_of_ne (t : NL) (i p : Nat) (m : NdD) (h : p ≠ i) : ndAt (t.set i m) p = ndAt t p := by
  unfold ndAt
  rw [List.getD_eq_getElem?_getD, List.getElem?_set_ne (Ne.symm h), ← List.getD_eq_getElem?_getD]
def wth (T : NL) (p : Nat) (a : Int) : NL := T.set p ⟨(ndAt T p).key, (ndAt T p).inf, a, (ndAt T p).val, (ndAt T p).l, (ndAt T p).r⟩
def ovr (T : NL) (p : Nat) (a l r : Int) : NL := T.set p ⟨(ndAt T p).key, (ndAt T p).inf, a, (ndAt T p).val, l, r⟩
theorem wth_length (T : NL) (p : Nat) (a : Int) : (wth T p a).length = T.length := by simp [wth]
theorem ovr_length (T : NL) (p : Nat) (a l r : Int) : (ovr T p a l r).length = T.length := by simp [ovr]
theorem wth_ne (T : NL) (p q : Nat) (a : Int) (h : q ≠ p) : ndAt (wth T p a) q = ndAt T q := ndAt_set_of_ne _ _ _ _ h
theorem ovr_ne (T : NL) (p q : Nat) (a l r : Int) (h : q ≠ p) : ndAt (ovr T p a l r) q = ndAt T q := ndAt_set_of_ne _ _ _ _ h
theorem wth_at (T : NL) (p : Nat) (a : Int) (h : p < T.length) : ndAt (wth T p a) p = ⟨(ndAt T p).key, (ndAt T p).inf, a, (ndAt T p).val, (ndAt T p).l, (ndAt T p).r⟩ := ndAt_set _ _ _ h
theorem ovr_at (T : NL) (p : Nat) (a l r : Int) (h : p < T.length) : ndAt (ovr T p a l r) p = ⟨(ndAt T p).key, (ndAt T p).inf, a, (ndAt T p).val, l, r⟩ := ndAt_set _ _ _ h
theorem AT.wth_off {t : NL} {p q : Nat} {a : Int} {b : BT} {L : List Nat} (h : AT t p b L) (hq : q ∉ L) : AT (wth t q a) p b L := h.keep (wth_length _ _ _) fun _ hy => wth_ne _ _ _ _ fun e => hq (e ▸ hy)
theorem AT.ovr_off {t : NL} {p q : Nat} {a l r : Int} {b : BT} {L : List Nat} (h : AT t p b L) (hq : q ∉ L) : AT (ovr t q a l r) p b L := h.keep (ovr_length _ _ _ _ _) fun _ hy => ovr_ne _ _ _ _ _ _ fun e => hq (e ▸ hy)
theorem AT.wth {t : NL} {p : Nat} {a : Int} {b : BT} {L : List Nat} (h : AT t p b L) (hN : L.Nodup) : AT (wth t p a) p (b.wset a) L := by
  have hp := h.lt
  have e := wth_at t p a hp
  obtain ⟨h1, h2⟩ := h
  cases h1 with
  | leaf _ ha hb =>
    cases h2 with
    | inner _ hl' => omega
    | leaf =>
      have A := Abs.leaf (t := Go.Proofs.YthlhbajaogonnaaDoor.wth t p a) (p := p) (by rw [wth_length]; exact hp) (by rw [e]; exact ha) (by rw [e]; exact hb)
      rw [e] at A
      exact ⟨A, Tree.leaf (by rw [wth_length]; exact hp) (by rw [e]; exact ha) (by rw [e]; exact hb)⟩
  | node _ ha hb a1 a2 =>
    cases h2 with
    | leaf _ hl' => omega
    | @inner _ l r L R _ hl' hr' t1 t2 =>
      obtain rfl := Int.ofNat.inj (ha.symm.trans hl')
      obtain rfl := Int.ofNat.inj (hb.symm.trans hr')
      rw [List.nodup_cons, List.mem_append, not_or] at hN
      have i1 := AT.wth_off (q := p) (a := a) ⟨a1, t1⟩ hN.1.1
      have i2 := AT.wth_off (q := p) (a := a) ⟨a2, t2⟩ hN.1.2
      have A := Abs.node (t := Go.Proofs.YthlhbajaogonnaaDoor.wth t p a) (p := p) (by rw [wth_length]; exact hp) (by rw [e]; exact ha) (by rw [e]; exact hb) i1.abs i2.abs
      rw [e] at A
      exact ⟨A, Tree.inner (by rw [wth_length]; exact hp) (by rw [e]; exact ha) (by rw [e]; exact hb) i1.tree i2.tree⟩
/-- A node over two trees. -/
theorem AT.over {t : NL} {p l r : Nat} {a : Int} {x y : BT} {L R : List Nat} {n : NdD} (hn : ndAt t p = n) (hp : p < t.length) (h1 : AT t l x L) (h2 : AT t r y R) (q1 : p ∉ L) (q2 : p ∉ R) : AT (ovr t p a (l : Int) (r : Int)) p (.node ((ndP n).w a) x y) (p :: (L ++ R)) := by
  subst hn
  have e := ovr_at t p a l r hp
  have i1 := AT.ovr_off (q := p) (a := a) (l := l) (r := r) h1 q1
  have i2 := AT.ovr_off (q := p) (a := a) (l := l) (r := r) h2 q2
  have A := Abs.node (t := ovr t p a l r) (p := p) (l := l) (r := r) (by rw [ovr_length]; exact hp) (by rw [e]) (by rw [e]) i1.abs i2.abs
  rw [e] at A
  exact ⟨A, Tree.inner (by rw [ovr_length]; exact hp) (by rw [e]) (by rw [e]) i1.tree i2.tree⟩
end Go.Proofs.YthlhbajaogonnaaDoor

namespace Go.Proofs.YthlhbajaogonnaaDoor

/-- What a change leaves: the tree at its top, all else as it was. -/
structure BOut (t T : NL) (M : List Nat) (top : Nat) (b : BT) : Prop where
  len : T.length = t.length
  tree : ∃ M', AT T top b M' ∧ M'.Perm M
  off : ∀ p, p ∉ M → ndAt T p = ndAt t p
theorem bout1 {t : NL} {x l r : Nat} {bl br : BT} {Ll Lr : List Nat} (a b c : Int) (hx : x < t.length) (al : AT t l bl Ll) (ar : AT t r br Lr) (hN : (x :: (Ll ++ Lr)).Nodup) :
    BOut t (ovr (wth (wth t l a) r b) x c (l : Int) (r : Int)) (x :: (Ll ++ Lr)) x (.node ((ndP (ndAt t x)).w c) (bl.wset a) (br.wset b)) := by
  have ml := al.mem
  have mr := ar.mem
  have n_x_l : x ∉ Ll := fun h => by have c := List.nodup_iff_count.1 hN x; simp only [List.count_cons, List.count_append, beq_self_eq_true, if_true] at c; have d := List.count_pos_iff.2 h; omega
  have n_x_r : x ∉ Lr := fun h => by have c := List.nodup_iff_count.1 hN x; simp only [List.count_cons, List.count_append, beq_self_eq_true, if_true] at c; have d := List.count_pos_iff.2 h; omega
  have n_l_r : l ∉ Lr := fun h => by have c := List.nodup_iff_count.1 hN l; simp only [List.count_cons, List.count_append] at c; have d := List.count_pos_iff.2 h; have d2 := List.count_pos_iff.2 ml; omega
  have n_r_l : r ∉ Ll := fun h => by have c := List.nodup_iff_count.1 hN r; simp only [List.count_cons, List.count_append] at c; have d := List.count_pos_iff.2 h; have d2 := List.count_pos_iff.2 mr; omega
  have e_x_l : x ≠ l := fun h => n_x_l (h ▸ ml)
  have e_l_x : l ≠ x := Ne.symm e_x_l
  have e_x_r : x ≠ r := fun h => n_x_r (h ▸ mr)
  have e_r_x : r ≠ x := Ne.symm e_x_r
  have e_l_r : l ≠ r := fun h => n_l_r (h ▸ mr)
  have e_r_l : r ≠ l := Ne.symm e_l_r
  have d_l : Ll.Nodup := List.nodup_iff_count.2 fun z => by have c := List.nodup_iff_count.1 hN z; simp only [List.count_cons, List.count_append] at c; omega
  have d_r : Lr.Nodup := List.nodup_iff_count.2 fun z => by have c := List.nodup_iff_count.1 hN z; simp only [List.count_cons, List.count_append] at c; omega
  clear hN
  have s1_l : AT (wth t l a) l (bl.wset a) (Ll) := al.wth (by (try simp only [List.mem_cons, List.mem_append, not_or]); (repeat' apply And.intro) <;> assumption)
  have s1_r : AT (wth t l a) r br (Lr) := ar.wth_off (by (try simp only [List.mem_cons, List.mem_append, not_or]); (repeat' apply And.intro) <;> assumption)
  have r1_x : ndAt (wth t l a) x = ndAt t x := (wth_ne _ _ _ _ (by (try simp only [List.mem_cons, List.mem_append, not_or]); (repeat' apply And.intro) <;> assumption)).trans rfl
  have s2_l : AT (wth (wth t l a) r b) l (bl.wset a) (Ll) := s1_l.wth_off (by (try simp only [List.mem_cons, List.mem_append, not_or]); (repeat' apply And.intro) <;> assumption)
  have s2_r : AT (wth (wth t l a) r b) r (br.wset b) (Lr) := s1_r.wth (by (try simp only [List.mem_cons, List.mem_append, not_or]); (repeat' apply And.intro) <;> assumption)
  have r2_x : ndAt (wth (wth t l a) r b) x = ndAt t x := (wth_ne _ _ _ _ (by (try simp only [List.mem_cons, List.mem_append, not_or]); (repeat' apply And.intro) <;> assumption)).trans r1_x
  have s3_x : AT (ovr (wth (wth t l a) r b) x c (l : Int) (r : Int)) x (.node ((ndP (ndAt t x)).w c) (bl.wset a) (br.wset b)) (x :: (Ll ++ Lr)) := AT.over (l := l) (r := r) r2_x ((show _ → _ from fun h => by rw [wth_length, wth_length]; exact h) hx) s2_l s2_r (by (try simp only [List.mem_cons, List.mem_append, not_or]); (repeat' apply And.intro) <;> assumption) (by (try simp only [List.mem_cons, List.mem_append, not_or]); (repeat' apply And.intro) <;> assumption)
  refine ⟨by simp only [ovr_length, wth_length], ⟨_, s3_x, ?_⟩, fun p hp => ?_⟩
  · rw [List.perm_iff_count]; intro z; simp only [List.count_cons, List.count_append]; try omega
  · skip
    have p_x : p ≠ x := fun e => hp (e ▸ by simp)
    have p_l : p ≠ l := fun e => hp (e ▸ by simp [ml])
    have p_r : p ≠ r := fun e => hp (e ▸ by simp [mr])
    rw [ovr_ne _ _ _ _ _ _ (by assumption), wth_ne _ _ _ _ (by assumption), wth_ne _ _ _ _ (by assumption)]
theorem bout2 {t : NL} {x l ll lr r : Nat} {bll blr br : BT} {Lll Llr Lr : List Nat} (a b : Int) (hx : x < t.length) (hl : l < t.length) (all : AT t ll bll Lll) (alr : AT t lr blr Llr) (ar : AT t r br Lr) (hN : (x :: ((l :: (Lll ++ Llr)) ++ Lr)).Nodup) :
    BOut t (ovr (ovr t x a (lr : Int) (r : Int)) l b (ll : Int) (x : Int)) (x :: ((l :: (Lll ++ Llr)) ++ Lr)) l (.node ((ndP (ndAt t l)).w b) bll (.node ((ndP (ndAt t x)).w a) blr br)) := by
  have mll := all.mem
  have mlr := alr.mem
  have mr := ar.mem
  have n_x_ll : x ∉ Lll := fun h => by have c := List.nodup_iff_count.1 hN x; simp only [List.count_cons, List.count_append, beq_self_eq_true, if_true] at c; have d := List.count_pos_iff.2 h; omega
  have n_x_lr : x ∉ Llr := fun h => by have c := List.nodup_iff_count.1 hN x; simp only [List.count_cons, List.count_append, beq_self_eq_true, if_true] at c; have d := List.count_pos_iff.2 h; omega
  have n_x_r : x ∉ Lr := fun h => by have c := List.nodup_iff_count.1 hN x; simp only [List.count_cons, List.count_append, beq_self_eq_true, if_true] at c; have d := List.count_pos_iff.2 h; omega
  have n_l_ll : l ∉ Lll := fun h => by have c := List.nodup_iff_count.1 hN l; simp only [List.count_cons, List.count_append, beq_self_eq_true, if_true] at c; have d := List.count_pos_iff.2 h; omega
  have n_l_lr : l ∉ Llr := fun h => by have c := List.nodup_iff_count.1 hN l; simp only [List.count_cons, List.count_append, beq_self_eq_true, if_true] at c; have d := List.count_pos_iff.2 h; omega
  have n_l_r : l ∉ Lr := fun h => by have c := List.nodup_iff_count.1 hN l; simp only [List.count_cons, List.count_append, beq_self_eq_true, if_true] at c; have d := List.count_pos_iff.2 h; omega
  have n_ll_lr : ll ∉ Llr := fun h => by have c := List.nodup_iff_count.1 hN ll; simp only [List.count_cons, List.count_append] at c; have d := List.count_pos_iff.2 h; have d2 := List.count_pos_iff.2 mll; omega
  have n_ll_r : ll ∉ Lr := fun h => by have c := List.nodup_iff_count.1 hN ll; simp only [List.count_cons, List.count_append] at c; have d := List.count_pos_iff.2 h; have d2 := List.count_pos_iff.2 mll; omega
  have n_lr_ll : lr ∉ Lll := fun h => by have c := List.nodup_iff_count.1 hN lr; simp only [List.count_cons, List.count_append] at c; have d := List.count_pos_iff.2 h; have d2 := List.count_pos_iff.2 mlr; omega
  have n_lr_r : lr ∉ Lr := fun h => by have c := List.nodup_iff_count.1 hN lr; simp only [List.count_cons, List.count_append] at c; have d := List.count_pos_iff.2 h; have d2 := List.count_pos_iff.2 mlr; omega
  have n_r_ll : r ∉ Lll := fun h => by have c := List.nodup_iff_count.1 hN r; simp only [List.count_cons, List.count_append] at c; have d := List.count_pos_iff.2 h; have d2 := List.count_pos_iff.2 mr; omega
  have n_r_lr : r ∉ Llr := fun h => by have c := List.nodup_iff_count.1 hN r; simp only [List.count_cons, List.count_append] at c; have d := List.count_pos_iff.2 h; have d2 := List.count_pos_iff.2 mr; omega
  have e_x_l : x ≠ l := fun h => by subst h; have c := List.nodup_iff_count.1 hN x; simp only [List.count_cons, List.count_append, beq_self_eq_true, if_true] at c; omega
  have e_l_x : l ≠ x := Ne.symm e_x_l
  have e_x_ll : x ≠ ll := fun h => n_x_ll (h ▸ mll)
  have e_ll_x : ll ≠ x := Ne.symm e_x_ll
  have e_x_lr : x ≠ lr := fun h => n_x_lr (h ▸ mlr)
  have e_lr_x : lr ≠ x := Ne.symm e_x_lr
  have e_x_r : x ≠ r := fun h => n_x_r (h ▸ mr)
  have e_r_x : r ≠ x := Ne.symm e_x_r
  have e_l_ll : l ≠ ll := fun h => n_l_ll (h ▸ mll)
  have e_ll_l : ll ≠ l := Ne.symm e_l_ll
  have e_l_lr : l ≠ lr := fun h => n_l_lr (h ▸ mlr)
  have e_lr_l : lr ≠ l := Ne.symm e_l_lr
  have e_l_r : l ≠ r := fun h => n_l_r (h ▸ mr)
  have e_r_l : r ≠ l := Ne.symm e_l_r
  have e_ll_lr : ll ≠ lr := fun h => n_ll_lr (h ▸ mlr)
  have e_lr_ll : lr ≠ ll := Ne.symm e_ll_lr
  have e_ll_r : ll ≠ r := fun h => n_ll_r (h ▸ mr)
  have e_r_ll : r ≠ ll := Ne.symm e_ll_r
  have e_lr_r : lr ≠ r := fun h => n_lr_r (h ▸ mr)
  have e_r_lr : r ≠ lr := Ne.symm e_lr_r
  have d_ll : Lll.Nodup := List.nodup_iff_count.2 fun z => by have c := List.nodup_iff_count.1 hN z; simp only [List.count_cons, List.count_append] at c; omega
  have d_lr : Llr.Nodup := List.nodup_iff_count.2 fun z => by have c := List.nodup_iff_count.1 hN z; simp only [List.count_cons, List.count_append] at c; omega
  have d_r : Lr.Nodup := List.nodup_iff_count.2 fun z => by have c := List.nodup_iff_count.1 hN z; simp only [List.count_cons, List.count_append] at c; omega
  clear hN
  have s1_ll : AT (ovr t x a (lr : Int) (r : Int)) ll bll (Lll) := all.ovr_off (by (try simp only [List.mem_cons, List.mem_append, not_or]); (repeat' apply And.intro) <;> assumption)
  have s1_x : AT (ovr t x a (lr : Int) (r : Int)) x (.node ((ndP (ndAt t x)).w a) blr br) (x :: (Llr ++ Lr)) := AT.over (l := lr) (r := r) rfl ((show _ → _ from fun h => by exact h) hx) alr ar (by (try simp only [List.mem_cons, List.mem_append, not_or]); (repeat' apply And.intro) <;> assumption) (by (try simp only [List.mem_cons, List.mem_append, not_or]); (repeat' apply And.intro) <;> assumption)
  have r1_l : ndAt (ovr t x a (lr : Int) (r : Int)) l = ndAt t l := (ovr_ne _ _ _ _ _ _ (by (try simp only [List.mem_cons, List.mem_append, not_or]); (repeat' apply And.intro) <;> assumption)).trans rfl
  have s2_l : AT (ovr (ovr t x a (lr : Int) (r : Int)) l b (ll : Int) (x : Int)) l (.node ((ndP (ndAt t l)).w b) bll (.node ((ndP (ndAt t x)).w a) blr br)) (l :: (Lll ++ (x :: (Llr ++ Lr)))) := AT.over (l := ll) (r := x) r1_l ((show _ → _ from fun h => by rw [ovr_length]; exact h) hl) s1_ll s1_x (by (try simp only [List.mem_cons, List.mem_append, not_or]); (repeat' apply And.intro) <;> assumption) (by (try simp only [List.mem_cons, List.mem_append, not_or]); (repeat' apply And.intro) <;> assumption)
  refine ⟨by simp only [ovr_length], ⟨_, s2_l, ?_⟩, fun p hp => ?_⟩
  · rw [List.perm_iff_count]; intro z; simp only [List.count_cons, List.count_append]; try omega
  · skip
    have p_x : p ≠ x := fun e => hp (e ▸ by simp)
    have p_l : p ≠ l := fun e => hp (e ▸ by simp)
    have p_ll : p ≠ ll := fun e => hp (e ▸ by simp [mll])
    have p_lr : p ≠ lr := fun e => hp (e ▸ by simp [mlr])
    have p_r : p ≠ r := fun e => hp (e ▸ by simp [mr])
    rw [ovr_ne _ _ _ _ _ _ (by assumption), ovr_ne _ _ _ _ _ _ (by assumption)]
theorem bout3 {t : NL} {x l lr ll lrl lrr r : Nat} {bll blrl blrr br : BT} {Lll Llrl Llrr Lr : List Nat} (a b c : Int) (hx : x < t.length) (hl : l < t.length) (hlr : lr < t.length) (all : AT t ll bll Lll) (alrl : AT t lrl blrl Llrl) (alrr : AT t lrr blrr Llrr) (ar : AT t r br Lr) (hN : (x :: ((l :: (Lll ++ (lr :: (Llrl ++ Llrr)))) ++ Lr)).Nodup) :
    BOut t (ovr (ovr (ovr t l a (ll : Int) (lrl : Int)) x b (lrr : Int) (r : Int)) lr c (l : Int) (x : Int)) (x :: ((l :: (Lll ++ (lr :: (Llrl ++ Llrr)))) ++ Lr)) lr (.node ((ndP (ndAt t lr)).w c) (.node ((ndP (ndAt t l)).w a) bll blrl) (.node ((ndP (ndAt t x)).w b) blrr br)) := by
  have mll := all.mem
  have mlrl := alrl.mem
  have mlrr := alrr.mem
  have mr := ar.mem
  have n_x_ll : x ∉ Lll := fun h => by have c := List.nodup_iff_count.1 hN x; simp only [List.count_cons, List.count_append, beq_self_eq_true, if_true] at c; have d := List.count_pos_iff.2 h; omega
  have n_x_lrl : x ∉ Llrl := fun h => by have c := List.nodup_iff_count.1 hN x; simp only [List.count_cons, List.count_append, beq_self_eq_true, if_true] at c; have d := List.count_pos_iff.2 h; omega
  have n_x_lrr : x ∉ Llrr := fun h => by have c := List.nodup_iff_count.1 hN x; simp only [List.count_cons, List.count_append, beq_self_eq_true, if_true] at c; have d := List.count_pos_iff.2 h; omega
  have n_x_r : x ∉ Lr := fun h => by have c := List.nodup_iff_count.1 hN x; simp only [List.count_cons, List.count_append, beq_self_eq_true, if_true] at c; have d := List.count_pos_iff.2 h; omega
  have n_l_ll : l ∉ Lll := fun h => by have c := List.nodup_iff_count.1 hN l; simp only [List.count_cons, List.count_append, beq_self_eq_true, if_true] at c; have d := List.count_pos_iff.2 h; omega
  have n_l_lrl : l ∉ Llrl := fun h => by have c := List.nodup_iff_count.1 hN l; simp only [List.count_cons, List.count_append, beq_self_eq_true, if_true] at c; have d := List.count_pos_iff.2 h; omega
  have n_l_lrr : l ∉ Llrr := fun h => by have c := List.nodup_iff_count.1 hN l; simp only [List.count_cons, List.count_append, beq_self_eq_true, if_true] at c; have d := List.count_pos_iff.2 h; omega
  have n_l_r : l ∉ Lr := fun h => by have c := List.nodup_iff_count.1 hN l; simp only [List.count_cons, List.count_append, beq_self_eq_true, if_true] at c; have d := List.count_pos_iff.2 h; omega
  have n_lr_ll : lr ∉ Lll := fun h => by have c := List.nodup_iff_count.1 hN lr; simp only [List.count_cons, List.count_append, beq_self_eq_true, if_true] at c; have d := List.count_pos_iff.2 h; omega
  have n_lr_lrl : lr ∉ Llrl := fun h => by have c := List.nodup_iff_count.1 hN lr; simp only [List.count_cons, List.count_append, beq_self_eq_true, if_true] at c; have d := List.count_pos_iff.2 h; omega
  have n_lr_lrr : lr ∉ Llrr := fun h => by have c := List.nodup_iff_count.1 hN lr; simp only [List.count_cons, List.count_append, beq_self_eq_true, if_true] at c; have d := List.count_pos_iff.2 h; omega
  have n_lr_r : lr ∉ Lr := fun h => by have c := List.nodup_iff_count.1 hN lr; simp only [List.count_cons, List.count_append, beq_self_eq_true, if_true] at c; have d := List.count_pos_iff.2 h; omega
  have n_ll_lrl : ll ∉ Llrl := fun h => by have c := List.nodup_iff_count.1 hN ll; simp only [List.count_cons, List.count_append] at c; have d := List.count_pos_iff.2 h; have d2 := List.count_pos_iff.2 mll; omega
  have n_ll_lrr : ll ∉ Llrr := fun h => by have c := List.nodup_iff_count.1 hN ll; simp only [List.count_cons, List.count_append] at c; have d := List.count_pos_iff.2 h; have d2 := List.count_pos_iff.2 mll; omega
  have n_ll_r : ll ∉ Lr := fun h => by have c := List.nodup_iff_count.1 hN ll; simp only [List.count_cons, List.count_append] at c; have d := List.count_pos_iff.2 h; have d2 := List.count_pos_iff.2 mll; omega
  have n_lrl_ll : lrl ∉ Lll := fun h => by have c := List.nodup_iff_count.1 hN lrl; simp only [List.count_cons, List.count_append] at c; have d := List.count_pos_iff.2 h; have d2 := List.count_pos_iff.2 mlrl; omega
  have n_lrl_lrr : lrl ∉ Llrr := fun h => by have c := List.nodup_iff_count.1 hN lrl; simp only [List.count_cons, List.count_append] at c; have d := List.count_pos_iff.2 h; have d2 := List.count_pos_iff.2 mlrl; omega
  have n_lrl_r : lrl ∉ Lr := fun h => by have c := List.nodup_iff_count.1 hN lrl; simp only [List.count_cons, List.count_append] at c; have d := List.count_pos_iff.2 h; have d2 := List.count_pos_iff.2 mlrl; omega
  have n_lrr_ll : lrr ∉ Lll := fun h => by have c := List.nodup_iff_count.1 hN lrr; simp only [List.count_cons, List.count_append] at c; have d := List.count_pos_iff.2 h; have d2 := List.count_pos_iff.2 mlrr; omega
  have n_lrr_lrl : lrr ∉ Llrl := fun h => by have c := List.nodup_iff_count.1 hN lrr; simp only [List.count_cons, List.count_append] at c; have d := List.count_pos_iff.2 h; have d2 := List.count_pos_iff.2 mlrr; omega
  have n_lrr_r : lrr ∉ Lr := fun h => by have c := List.nodup_iff_count.1 hN lrr; simp only [List.count_cons, List.count_append] at c; have d := List.count_pos_iff.2 h; have d2 := List.count_pos_iff.2 mlrr; omega
  have n_r_ll : r ∉ Lll := fun h => by have c := List.nodup_iff_count.1 hN r; simp only [List.count_cons, List.count_append] at c; have d := List.count_pos_iff.2 h; have d2 := List.count_pos_iff.2 mr; omega
  have n_r_lrl : r ∉ Llrl := fun h => by have c := List.nodup_iff_count.1 hN r; simp only [List.count_cons, List.count_append] at c; have d := List.count_pos_iff.2 h; have d2 := List.count_pos_iff.2 mr; omega
  have n_r_lrr : r ∉ Llrr := fun h => by have c := List.nodup_iff_count.1 hN r; simp only [List.count_cons, List.count_append] at c; have d := List.count_pos_iff.2 h; have d2 := List.count_pos_iff.2 mr; omega
  have e_x_l : x ≠ l := fun h => by subst h; have c := List.nodup_iff_count.1 hN x; simp only [List.count_cons, List.count_append, beq_self_eq_true, if_true] at c; omega
  have e_l_x : l ≠ x := Ne.symm e_x_l
  have e_x_lr : x ≠ lr := fun h => by subst h; have c := List.nodup_iff_count.1 hN x; simp only [List.count_cons, List.count_append, beq_self_eq_true, if_true] at c; omega
  have e_lr_x : lr ≠ x := Ne.symm e_x_lr
  have e_x_ll : x ≠ ll := fun h => n_x_ll (h ▸ mll)
  have e_ll_x : ll ≠ x := Ne.symm e_x_ll
  have e_x_lrl : x ≠ lrl := fun h => n_x_lrl (h ▸ mlrl)
  have e_lrl_x : lrl ≠ x := Ne.symm e_x_lrl
  have e_x_lrr : x ≠ lrr := fun h => n_x_lrr (h ▸ mlrr)
  have e_lrr_x : lrr ≠ x := Ne.symm e_x_lrr
  have e_x_r : x ≠ r := fun h => n_x_r (h ▸ mr)
  have e_r_x : r ≠ x := Ne.symm e_x_r
  have e_l_lr : l ≠ lr := fun h => by subst h; have c := List.nodup_iff_count.1 hN l; simp only [List.count_cons, List.count_append, beq_self_eq_true, if_true] at c; omega
  have e_lr_l : lr ≠ l := Ne.symm e_l_lr
  have e_l_ll : l ≠ ll := fun h => n_l_ll (h ▸ mll)
  have e_ll_l : ll ≠ l := Ne.symm e_l_ll
  have e_l_lrl : l ≠ lrl := fun h => n_l_lrl (h ▸ mlrl)
  have e_lrl_l : lrl ≠ l := Ne.symm e_l_lrl
  have e_l_lrr : l ≠ lrr := fun h => n_l_lrr (h ▸ mlrr)
  have e_lrr_l : lrr ≠ l := Ne.symm e_l_lrr
  have e_l_r : l ≠ r := fun h => n_l_r (h ▸ mr)
  have e_r_l : r ≠ l := Ne.symm e_l_r
  have e_lr_ll : lr ≠ ll := fun h => n_lr_ll (h ▸ mll)
  have e_ll_lr : ll ≠ lr := Ne.symm e_lr_ll
  have e_lr_lrl : lr ≠ lrl := fun h => n_lr_lrl (h ▸ mlrl)
  have e_lrl_lr : lrl ≠ lr := Ne.symm e_lr_lrl
  have e_lr_lrr : lr ≠ lrr := fun h => n_lr_lrr (h ▸ mlrr)
  have e_lrr_lr : lrr ≠ lr := Ne.symm e_lr_lrr
  have e_lr_r : lr ≠ r := fun h => n_lr_r (h ▸ mr)
  have e_r_lr : r ≠ lr := Ne.symm e_lr_r
  have e_ll_lrl : ll ≠ lrl := fun h => n_ll_lrl (h ▸ mlrl)
  have e_lrl_ll : lrl ≠ ll := Ne.symm e_ll_lrl
  have e_ll_lrr : ll ≠ lrr := fun h => n_ll_lrr (h ▸ mlrr)
  have e_lrr_ll : lrr ≠ ll := Ne.symm e_ll_lrr
  have e_ll_r : ll ≠ r := fun h => n_ll_r (h ▸ mr)
  have e_r_ll : r ≠ ll := Ne.symm e_ll_r
  have e_lrl_lrr : lrl ≠ lrr := fun h => n_lrl_lrr (h ▸ mlrr)
  have e_lrr_lrl : lrr ≠ lrl := Ne.symm e_lrl_lrr
  have e_lrl_r : lrl ≠ r := fun h => n_lrl_r (h ▸ mr)
  have e_r_lrl : r ≠ lrl := Ne.symm e_lrl_r
  have e_lrr_r : lrr ≠ r := fun h => n_lrr_r (h ▸ mr)
  have e_r_lrr : r ≠ lrr := Ne.symm e_lrr_r
  have d_ll : Lll.Nodup := List.nodup_iff_count.2 fun z => by have c := List.nodup_iff_count.1 hN z; simp only [List.count_cons, List.count_append] at c; omega
  have d_lrl : Llrl.Nodup := List.nodup_iff_count.2 fun z => by have c := List.nodup_iff_count.1 hN z; simp only [List.count_cons, List.count_append] at c; omega
  have d_lrr : Llrr.Nodup := List.nodup_iff_count.2 fun z => by have c := List.nodup_iff_count.1 hN z; simp only [List.count_cons, List.count_append] at c; omega
  have d_r : Lr.Nodup := List.nodup_iff_count.2 fun z => by have c := List.nodup_iff_count.1 hN z; simp only [List.count_cons, List.count_append] at c; omega
  clear hN
  have s1_lrr : AT (ovr t l a (ll : Int) (lrl : Int)) lrr blrr (Llrr) := alrr.ovr_off (by (try simp only [List.mem_cons, List.mem_append, not_or]); (repeat' apply And.intro) <;> assumption)
  have s1_r : AT (ovr t l a (ll : Int) (lrl : Int)) r br (Lr) := ar.ovr_off (by (try simp only [List.mem_cons, List.mem_append, not_or]); (repeat' apply And.intro) <;> assumption)
  have s1_l : AT (ovr t l a (ll : Int) (lrl : Int)) l (.node ((ndP (ndAt t l)).w a) bll blrl) (l :: (Lll ++ Llrl)) := AT.over (l := ll) (r := lrl) rfl ((show _ → _ from fun h => by exact h) hl) all alrl (by (try simp only [List.mem_cons, List.mem_append, not_or]); (repeat' apply And.intro) <;> assumption) (by (try simp only [List.mem_cons, List.mem_append, not_or]); (repeat' apply And.intro) <;> assumption)
  have r1_x : ndAt (ovr t l a (ll : Int) (lrl : Int)) x = ndAt t x := (ovr_ne _ _ _ _ _ _ (by (try simp only [List.mem_cons, List.mem_append, not_or]); (repeat' apply And.intro) <;> assumption)).trans rfl
  have r1_lr : ndAt (ovr t l a (ll : Int) (lrl : Int)) lr = ndAt t lr := (ovr_ne _ _ _ _ _ _ (by (try simp only [List.mem_cons, List.mem_append, not_or]); (repeat' apply And.intro) <;> assumption)).trans rfl
  have s2_l : AT (ovr (ovr t l a (ll : Int) (lrl : Int)) x b (lrr : Int) (r : Int)) l (.node ((ndP (ndAt t l)).w a) bll blrl) (l :: (Lll ++ Llrl)) := s1_l.ovr_off (by (try simp only [List.mem_cons, List.mem_append, not_or]); (repeat' apply And.intro) <;> assumption)
  have s2_x : AT (ovr (ovr t l a (ll : Int) (lrl : Int)) x b (lrr : Int) (r : Int)) x (.node ((ndP (ndAt t x)).w b) blrr br) (x :: (Llrr ++ Lr)) := AT.over (l := lrr) (r := r) r1_x ((show _ → _ from fun h => by rw [ovr_length]; exact h) hx) s1_lrr s1_r (by (try simp only [List.mem_cons, List.mem_append, not_or]); (repeat' apply And.intro) <;> assumption) (by (try simp only [List.mem_cons, List.mem_append, not_or]); (repeat' apply And.intro) <;> assumption)
  have r2_lr : ndAt (ovr (ovr t l a (ll : Int) (lrl : Int)) x b (lrr : Int) (r : Int)) lr = ndAt t lr := (ovr_ne _ _ _ _ _ _ (by (try simp only [List.mem_cons, List.mem_append, not_or]); (repeat' apply And.intro) <;> assumption)).trans r1_lr
  have s3_lr : AT (ovr (ovr (ovr t l a (ll : Int) (lrl : Int)) x b (lrr : Int) (r : Int)) lr c (l : Int) (x : Int)) lr (.node ((ndP (ndAt t lr)).w c) (.node ((ndP (ndAt t l)).w a) bll blrl) (.node ((ndP (ndAt t x)).w b) blrr br)) (lr :: ((l :: (Lll ++ Llrl)) ++ (x :: (Llrr ++ Lr)))) := AT.over (l := l) (r := x) r2_lr ((show _ → _ from fun h => by rw [ovr_length, ovr_length]; exact h) hlr) s2_l s2_x (by (try simp only [List.mem_cons, List.mem_append, not_or]); (repeat' apply And.intro) <;> assumption) (by (try simp only [List.mem_cons, List.mem_append, not_or]); (repeat' apply And.intro) <;> assumption)
  refine ⟨by simp only [ovr_length], ⟨_, s3_lr, ?_⟩, fun p hp => ?_⟩
  · rw [List.perm_iff_count]; intro z; simp only [List.count_cons, List.count_append]; try omega
  · skip
    have p_x : p ≠ x := fun e => hp (e ▸ by simp)
    have p_l : p ≠ l := fun e => hp (e ▸ by simp)
    have p_lr : p ≠ lr := fun e => hp (e ▸ by simp)
    have p_ll : p ≠ ll := fun e => hp (e ▸ by simp [mll])
    have p_lrl : p ≠ lrl := fun e => hp (e ▸ by simp [mlrl])
    have p_lrr : p ≠ lrr := fun e => hp (e ▸ by simp [mlrr])
    have p_r : p ≠ r := fun e => hp (e ▸ by simp [mr])
    rw [ovr_ne _ _ _ _ _ _ (by assumption), ovr_ne _ _ _ _ _ _ (by assumption), ovr_ne _ _ _ _ _ _ (by assumption)]
theorem bout5 {t : NL} {x r l rl rr : Nat} {bl brl brr : BT} {Ll Lrl Lrr : List Nat} (a b c d : Int) (hx : x < t.length) (hr : r < t.length) (al : AT t l bl Ll) (arl : AT t rl brl Lrl) (arr : AT t rr brr Lrr) (hN : (x :: (Ll ++ (r :: (Lrl ++ Lrr)))).Nodup) :
    BOut t (ovr (ovr (wth (wth t l a) rl b) x d (l : Int) (rl : Int)) r c (x : Int) (rr : Int)) (x :: (Ll ++ (r :: (Lrl ++ Lrr)))) r (.node ((ndP (ndAt t r)).w c) (.node ((ndP (ndAt t x)).w d) (bl.wset a) (brl.wset b)) brr) := by
  have ml := al.mem
  have mrl := arl.mem
  have mrr := arr.mem
  have n_x_l : x ∉ Ll := fun h => by have c := List.nodup_iff_count.1 hN x; simp only [List.count_cons, List.count_append, beq_self_eq_true, if_true] at c; have d := List.count_pos_iff.2 h; omega
  have n_x_rl : x ∉ Lrl := fun h => by have c := List.nodup_iff_count.1 hN x; simp only [List.count_cons, List.count_append, beq_self_eq_true, if_true] at c; have d := List.count_pos_iff.2 h; omega
  have n_x_rr : x ∉ Lrr := fun h => by have c := List.nodup_iff_count.1 hN x; simp only [List.count_cons, List.count_append, beq_self_eq_true, if_true] at c; have d := List.count_pos_iff.2 h; omega
  have n_r_l : r ∉ Ll := fun h => by have c := List.nodup_iff_count.1 hN r; simp only [List.count_cons, List.count_append, beq_self_eq_true, if_true] at c; have d := List.count_pos_iff.2 h; omega
  have n_r_rl : r ∉ Lrl := fun h => by have c := List.nodup_iff_count.1 hN r; simp only [List.count_cons, List.count_append, beq_self_eq_true, if_true] at c; have d := List.count_pos_iff.2 h; omega
  have n_r_rr : r ∉ Lrr := fun h => by have c := List.nodup_iff_count.1 hN r; simp only [List.count_cons, List.count_append, beq_self_eq_true, if_true] at c; have d := List.count_pos_iff.2 h; omega
  have n_l_rl : l ∉ Lrl := fun h => by have c := List.nodup_iff_count.1 hN l; simp only [List.count_cons, List.count_append] at c; have d := List.count_pos_iff.2 h; have d2 := List.count_pos_iff.2 ml; omega
  have n_l_rr : l ∉ Lrr := fun h => by have c := List.nodup_iff_count.1 hN l; simp only [List.count_cons, List.count_append] at c; have d := List.count_pos_iff.2 h; have d2 := List.count_pos_iff.2 ml; omega
  have n_rl_l : rl ∉ Ll := fun h => by have c := List.nodup_iff_count.1 hN rl; simp only [List.count_cons, List.count_append] at c; have d := List.count_pos_iff.2 h; have d2 := List.count_pos_iff.2 mrl; omega
  have n_rl_rr : rl ∉ Lrr := fun h => by have c := List.nodup_iff_count.1 hN rl; simp only [List.count_cons, List.count_append] at c; have d := List.count_pos_iff.2 h; have d2 := List.count_pos_iff.2 mrl; omega
  have n_rr_l : rr ∉ Ll := fun h => by have c := List.nodup_iff_count.1 hN rr; simp only [List.count_cons, List.count_append] at c; have d := List.count_pos_iff.2 h; have d2 := List.count_pos_iff.2 mrr; omega
  have n_rr_rl : rr ∉ Lrl := fun h => by have c := List.nodup_iff_count.1 hN rr; simp only [List.count_cons, List.count_append] at c; have d := List.count_pos_iff.2 h; have d2 := List.count_pos_iff.2 mrr; omega
  have e_x_r : x ≠ r := fun h => by subst h; have c := List.nodup_iff_count.1 hN x; simp only [List.count_cons, List.count_append, beq_self_eq_true, if_true] at c; omega
  have e_r_x : r ≠ x := Ne.symm e_x_r
  have e_x_l : x ≠ l := fun h => n_x_l (h ▸ ml)
  have e_l_x : l ≠ x := Ne.symm e_x_l
  have e_x_rl : x ≠ rl := fun h => n_x_rl (h ▸ mrl)
  have e_rl_x : rl ≠ x := Ne.symm e_x_rl
  have e_x_rr : x ≠ rr := fun h => n_x_rr (h ▸ mrr)
  have e_rr_x : rr ≠ x := Ne.symm e_x_rr
  have e_r_l : r ≠ l := fun h => n_r_l (h ▸ ml)
  have e_l_r : l ≠ r := Ne.symm e_r_l
  have e_r_rl : r ≠ rl := fun h => n_r_rl (h ▸ mrl)
  have e_rl_r : rl ≠ r := Ne.symm e_r_rl
  have e_r_rr : r ≠ rr := fun h => n_r_rr (h ▸ mrr)
  have e_rr_r : rr ≠ r := Ne.symm e_r_rr
  have e_l_rl : l ≠ rl := fun h => n_l_rl (h ▸ mrl)
  have e_rl_l : rl ≠ l := Ne.symm e_l_rl
  have e_l_rr : l ≠ rr := fun h => n_l_rr (h ▸ mrr)
  have e_rr_l : rr ≠ l := Ne.symm e_l_rr
  have e_rl_rr : rl ≠ rr := fun h => n_rl_rr (h ▸ mrr)
  have e_rr_rl : rr ≠ rl := Ne.symm e_rl_rr
  have d_l : Ll.Nodup := List.nodup_iff_count.2 fun z => by have c := List.nodup_iff_count.1 hN z; simp only [List.count_cons, List.count_append] at c; omega
  have d_rl : Lrl.Nodup := List.nodup_iff_count.2 fun z => by have c := List.nodup_iff_count.1 hN z; simp only [List.count_cons, List.count_append] at c; omega
  have d_rr : Lrr.Nodup := List.nodup_iff_count.2 fun z => by have c := List.nodup_iff_count.1 hN z; simp only [List.count_cons, List.count_append] at c; omega
  clear hN
  have s1_l : AT (wth t l a) l (bl.wset a) (Ll) := al.wth (by (try simp only [List.mem_cons, List.mem_append, not_or]); (repeat' apply And.intro) <;> assumption)
  have s1_rl : AT (wth t l a) rl brl (Lrl) := arl.wth_off (by (try simp only [List.mem_cons, List.mem_append, not_or]); (repeat' apply And.intro) <;> assumption)
  have s1_rr : AT (wth t l a) rr brr (Lrr) := arr.wth_off (by (try simp only [List.mem_cons, List.mem_append, not_or]); (repeat' apply And.intro) <;> assumption)
  have r1_x : ndAt (wth t l a) x = ndAt t x := (wth_ne _ _ _ _ (by (try simp only [List.mem_cons, List.mem_append, not_or]); (repeat' apply And.intro) <;> assumption)).trans rfl
  have r1_r : ndAt (wth t l a) r = ndAt t r := (wth_ne _ _ _ _ (by (try simp only [List.mem_cons, List.mem_append, not_or]); (repeat' apply And.intro) <;> assumption)).trans rfl
  have s2_l : AT (wth (wth t l a) rl b) l (bl.wset a) (Ll) := s1_l.wth_off (by (try simp only [List.mem_cons, List.mem_append, not_or]); (repeat' apply And.intro) <;> assumption)
  have s2_rl : AT (wth (wth t l a) rl b) rl (brl.wset b) (Lrl) := s1_rl.wth (by (try simp only [List.mem_cons, List.mem_append, not_or]); (repeat' apply And.intro) <;> assumption)
  have s2_rr : AT (wth (wth t l a) rl b) rr brr (Lrr) := s1_rr.wth_off (by (try simp only [List.mem_cons, List.mem_append, not_or]); (repeat' apply And.intro) <;> assumption)
  have r2_x : ndAt (wth (wth t l a) rl b) x = ndAt t x := (wth_ne _ _ _ _ (by (try simp only [List.mem_cons, List.mem_append, not_or]); (repeat' apply And.intro) <;> assumption)).trans r1_x
  have r2_r : ndAt (wth (wth t l a) rl b) r = ndAt t r := (wth_ne _ _ _ _ (by (try simp only [List.mem_cons, List.mem_append, not_or]); (repeat' apply And.intro) <;> assumption)).trans r1_r
  have s3_rr : AT (ovr (wth (wth t l a) rl b) x d (l : Int) (rl : Int)) rr brr (Lrr) := s2_rr.ovr_off (by (try simp only [List.mem_cons, List.mem_append, not_or]); (repeat' apply And.intro) <;> assumption)
  have s3_x : AT (ovr (wth (wth t l a) rl b) x d (l : Int) (rl : Int)) x (.node ((ndP (ndAt t x)).w d) (bl.wset a) (brl.wset b)) (x :: (Ll ++ Lrl)) := AT.over (l := l) (r := rl) r2_x ((show _ → _ from fun h => by rw [wth_length, wth_length]; exact h) hx) s2_l s2_rl (by (try simp only [List.mem_cons, List.mem_append, not_or]); (repeat' apply And.intro) <;> assumption) (by (try simp only [List.mem_cons, List.mem_append, not_or]); (repeat' apply And.intro) <;> assumption)
  have r3_r : ndAt (ovr (wth (wth t l a) rl b) x d (l : Int) (rl : Int)) r = ndAt t r := (ovr_ne _ _ _ _ _ _ (by (try simp only [List.mem_cons, List.mem_append, not_or]); (repeat' apply And.intro) <;> assumption)).trans r2_r
  have s4_r : AT (ovr (ovr (wth (wth t l a) rl b) x d (l : Int) (rl : Int)) r c (x : Int) (rr : Int)) r (.node ((ndP (ndAt t r)).w c) (.node ((ndP (ndAt t x)).w d) (bl.wset a) (brl.wset b)) brr) (r :: ((x :: (Ll ++ Lrl)) ++ Lrr)) := AT.over (l := x) (r := rr) r3_r ((show _ → _ from fun h => by rw [ovr_length, wth_length, wth_length]; exact h) hr) s3_x s3_rr (by (try simp only [List.mem_cons, List.mem_append, not_or]); (repeat' apply And.intro) <;> assumption) (by (try simp only [List.mem_cons, List.mem_append, not_or]); (repeat' apply And.intro) <;> assumption)
  refine ⟨by simp only [ovr_length, wth_length], ⟨_, s4_r, ?_⟩, fun p hp => ?_⟩
  · rw [List.perm_iff_count]; intro z; simp only [List.count_cons, List.count_append]; try omega
  · skip
    have p_x : p ≠ x := fun e => hp (e ▸ by simp)
    have p_r : p ≠ r := fun e => hp (e ▸ by simp)
    have p_l : p ≠ l := fun e => hp (e ▸ by simp [ml])
    have p_rl : p ≠ rl := fun e => hp (e ▸ by simp [mrl])
    have p_rr : p ≠ rr := fun e => hp (e ▸ by simp [mrr])
    rw [ovr_ne _ _ _ _ _ _ (by assumption), ovr_ne _ _ _ _ _ _ (by assumption), wth_ne _ _ _ _ (by assumption), wth_ne _ _ _ _ (by assumption)]
theorem bout7 {t : NL} {x r rl rll l rlll rllr rlr rr : Nat} {bl brlll brllr brlr brr : BT} {Ll Lrlll Lrllr Lrlr Lrr : List Nat} (a b c d e : Int) (hx : x < t.length) (hr : r < t.length) (hrl : rl < t.length) (hrll : rll < t.length) (al : AT t l bl Ll) (arlll : AT t rlll brlll Lrlll) (arllr : AT t rllr brllr Lrllr) (arlr : AT t rlr brlr Lrlr) (arr : AT t rr brr Lrr) (hN : (x :: (Ll ++ (r :: ((rl :: ((rll :: (Lrlll ++ Lrllr)) ++ Lrlr)) ++ Lrr)))).Nodup) :
    BOut t (ovr (ovr (ovr (ovr (wth t l a) x b (l : Int) (rlll : Int)) rl c (rllr : Int) (rlr : Int)) rll d (x : Int) (rl : Int)) r e (rll : Int) (rr : Int)) (x :: (Ll ++ (r :: ((rl :: ((rll :: (Lrlll ++ Lrllr)) ++ Lrlr)) ++ Lrr)))) r (.node ((ndP (ndAt t r)).w e) (.node ((ndP (ndAt t rll)).w d) (.node ((ndP (ndAt t x)).w b) (bl.wset a) brlll) (.node ((ndP (ndAt t rl)).w c) brllr brlr)) brr) := by
  have ml := al.mem
  have mrlll := arlll.mem
  have mrllr := arllr.mem
  have mrlr := arlr.mem
  have mrr := arr.mem
  have n_x_l : x ∉ Ll := fun h => by have c := List.nodup_iff_count.1 hN x; simp only [List.count_cons, List.count_append, beq_self_eq_true, if_true] at c; have d := List.count_pos_iff.2 h; omega
  have n_x_rlll : x ∉ Lrlll := fun h => by have c := List.nodup_iff_count.1 hN x; simp only [List.count_cons, List.count_append, beq_self_eq_true, if_true] at c; have d := List.count_pos_iff.2 h; omega
  have n_x_rllr : x ∉ Lrllr := fun h => by have c := List.nodup_iff_count.1 hN x; simp only [List.count_cons, List.count_append, beq_self_eq_true, if_true] at c; have d := List.count_pos_iff.2 h; omega
  have n_x_rlr : x ∉ Lrlr := fun h => by have c := List.nodup_iff_count.1 hN x; simp only [List.count_cons, List.count_append, beq_self_eq_true, if_true] at c; have d := List.count_pos_iff.2 h; omega
  have n_x_rr : x ∉ Lrr := fun h => by have c := List.nodup_iff_count.1 hN x; simp only [List.count_cons, List.count_append, beq_self_eq_true, if_true] at c; have d := List.count_pos_iff.2 h; omega
  have n_r_l : r ∉ Ll := fun h => by have c := List.nodup_iff_count.1 hN r; simp only [List.count_cons, List.count_append, beq_self_eq_true, if_true] at c; have d := List.count_pos_iff.2 h; omega
  have n_r_rlll : r ∉ Lrlll := fun h => by have c := List.nodup_iff_count.1 hN r; simp only [List.count_cons, List.count_append, beq_self_eq_true, if_true] at c; have d := List.count_pos_iff.2 h; omega
  have n_r_rllr : r ∉ Lrllr := fun h => by have c := List.nodup_iff_count.1 hN r; simp only [List.count_cons, List.count_append, beq_self_eq_true, if_true] at c; have d := List.count_pos_iff.2 h; omega
  have n_r_rlr : r ∉ Lrlr := fun h => by have c := List.nodup_iff_count.1 hN r; simp only [List.count_cons, List.count_append, beq_self_eq_true, if_true] at c; have d := List.count_pos_iff.2 h; omega
  have n_r_rr : r ∉ Lrr := fun h => by have c := List.nodup_iff_count.1 hN r; simp only [List.count_cons, List.count_append, beq_self_eq_true, if_true] at c; have d := List.count_pos_iff.2 h; omega
  have n_rl_l : rl ∉ Ll := fun h => by have c := List.nodup_iff_count.1 hN rl; simp only [List.count_cons, List.count_append, beq_self_eq_true, if_true] at c; have d := List.count_pos_iff.2 h; omega
  have n_rl_rlll : rl ∉ Lrlll := fun h => by have c := List.nodup_iff_count.1 hN rl; simp only [List.count_cons, List.count_append, beq_self_eq_true, if_true] at c; have d := List.count_pos_iff.2 h; omega
  have n_rl_rllr : rl ∉ Lrllr := fun h => by have c := List.nodup_iff_count.1 hN rl; simp only [List.count_cons, List.count_append, beq_self_eq_true, if_true] at c; have d := List.count_pos_iff.2 h; omega
  have n_rl_rlr : rl ∉ Lrlr := fun h => by have c := List.nodup_iff_count.1 hN rl; simp only [List.count_cons, List.count_append, beq_self_eq_true, if_true] at c; have d := List.count_pos_iff.2 h; omega
  have n_rl_rr : rl ∉ Lrr := fun h => by have c := List.nodup_iff_count.1 hN rl; simp only [List.count_cons, List.count_append, beq_self_eq_true, if_true] at c; have d := List.count_pos_iff.2 h; omega
  have n_rll_l : rll ∉ Ll := fun h => by have c := List.nodup_iff_count.1 hN rll; simp only [List.count_cons, List.count_append, beq_self_eq_true, if_true] at c; have d := List.count_pos_iff.2 h; omega
  have n_rll_rlll : rll ∉ Lrlll := fun h => by have c := List.nodup_iff_count.1 hN rll; simp only [List.count_cons, List.count_append, beq_self_eq_true, if_true] at c; have d := List.count_pos_iff.2 h; omega
  have n_rll_rllr : rll ∉ Lrllr := fun h => by have c := List.nodup_iff_count.1 hN rll; simp only [List.count_cons, List.count_append, beq_self_eq_true, if_true] at c; have d := List.count_pos_iff.2 h; omega
  have n_rll_rlr : rll ∉ Lrlr := fun h => by have c := List.nodup_iff_count.1 hN rll; simp only [List.count_cons, List.count_append, beq_self_eq_true, if_true] at c; have d := List.count_pos_iff.2 h; omega
  have n_rll_rr : rll ∉ Lrr := fun h => by have c := List.nodup_iff_count.1 hN rll; simp only [List.count_cons, List.count_append, beq_self_eq_true, if_true] at c; have d := List.count_pos_iff.2 h; omega
  have n_l_rlll : l ∉ Lrlll := fun h => by have c := List.nodup_iff_count.1 hN l; simp only [List.count_cons, List.count_append] at c; have d := List.count_pos_iff.2 h; have d2 := List.count_pos_iff.2 ml; omega
  have n_l_rllr : l ∉ Lrllr := fun h => by have c := List.nodup_iff_count.1 hN l; simp only [List.count_cons, List.count_append] at c; have d := List.count_pos_iff.2 h; have d2 := List.count_pos_iff.2 ml; omega
  have n_l_rlr : l ∉ Lrlr := fun h => by have c := List.nodup_iff_count.1 hN l; simp only [List.count_cons, List.count_append] at c; have d := List.count_pos_iff.2 h; have d2 := List.count_pos_iff.2 ml; omega
  have n_l_rr : l ∉ Lrr := fun h => by have c := List.nodup_iff_count.1 hN l; simp only [List.count_cons, List.count_append] at c; have d := List.count_pos_iff.2 h; have d2 := List.count_pos_iff.2 ml; omega
  have n_rlll_l : rlll ∉ Ll := fun h => by have c := List.nodup_iff_count.1 hN rlll; simp only [List.count_cons, List.count_append] at c; have d := List.count_pos_iff.2 h; have d2 := List.count_pos_iff.2 mrlll; omega
  have n_rlll_rllr : rlll ∉ Lrllr := fun h => by have c := List.nodup_iff_count.1 hN rlll; simp only [List.count_cons, List.count_append] at c; have d := List.count_pos_iff.2 h; have d2 := List.count_pos_iff.2 mrlll; omega
  have n_rlll_rlr : rlll ∉ Lrlr := fun h => by have c := List.nodup_iff_count.1 hN rlll; simp only [List.count_cons, List.count_append] at c; have d := List.count_pos_iff.2 h; have d2 := List.count_pos_iff.2 mrlll; omega
  have n_rlll_rr : rlll ∉ Lrr := fun h => by have c := List.nodup_iff_count.1 hN rlll; simp only [List.count_cons, List.count_append] at c; have d := List.count_pos_iff.2 h; have d2 := List.count_pos_iff.2 mrlll; omega
  have n_rllr_l : rllr ∉ Ll := fun h => by have c := List.nodup_iff_count.1 hN rllr; simp only [List.count_cons, List.count_append] at c; have d := List.count_pos_iff.2 h; have d2 := List.count_pos_iff.2 mrllr; omega
  have n_rllr_rlll : rllr ∉ Lrlll := fun h => by have c := List.nodup_iff_count.1 hN rllr; simp only [List.count_cons, List.count_append] at c; have d := List.count_pos_iff.2 h; have d2 := List.count_pos_iff.2 mrllr; omega
  have n_rllr_rlr : rllr ∉ Lrlr := fun h => by have c := List.nodup_iff_count.1 hN rllr; simp only [List.count_cons, List.count_append] at c; have d := List.count_pos_iff.2 h; have d2 := List.count_pos_iff.2 mrllr; omega
  have n_rllr_rr : rllr ∉ Lrr := fun h => by have c := List.nodup_iff_count.1 hN rllr; simp only [List.count_cons, List.count_append] at c; have d := List.count_pos_iff.2 h; have d2 := List.count_pos_iff.2 mrllr; omega
  have n_rlr_l : rlr ∉ Ll := fun h => by have c := List.nodup_iff_count.1 hN rlr; simp only [List.count_cons, List.count_append] at c; have d := List.count_pos_iff.2 h; have d2 := List.count_pos_iff.2 mrlr; omega
  have n_rlr_rlll : rlr ∉ Lrlll := fun h => by have c := List.nodup_iff_count.1 hN rlr; simp only [List.count_cons, List.count_append] at c; have d := List.count_pos_iff.2 h; have d2 := List.count_pos_iff.2 mrlr; omega
  have n_rlr_rllr : rlr ∉ Lrllr := fun h => by have c := List.nodup_iff_count.1 hN rlr; simp only [List.count_cons, List.count_append] at c; have d := List.count_pos_iff.2 h; have d2 := List.count_pos_iff.2 mrlr; omega
  have n_rlr_rr : rlr ∉ Lrr := fun h => by have c := List.nodup_iff_count.1 hN rlr; simp only [List.count_cons, List.count_append] at c; have d := List.count_pos_iff.2 h; have d2 := List.count_pos_iff.2 mrlr; omega
  have n_rr_l : rr ∉ Ll := fun h => by have c := List.nodup_iff_count.1 hN rr; simp only [List.count_cons, List.count_append] at c; have d := List.count_pos_iff.2 h; have d2 := List.count_pos_iff.2 mrr; omega
  have n_rr_rlll : rr ∉ Lrlll := fun h => by have c := List.nodup_iff_count.1 hN rr; simp only [List.count_cons, List.count_append] at c; have d := List.count_pos_iff.2 h; have d2 := List.count_pos_iff.2 mrr; omega
  have n_rr_rllr : rr ∉ Lrllr := fun h => by have c := List.nodup_iff_count.1 hN rr; simp only [List.count_cons, List.count_append] at c; have d := List.count_pos_iff.2 h; have d2 := List.count_pos_iff.2 mrr; omega
  have n_rr_rlr : rr ∉ Lrlr := fun h => by have c := List.nodup_iff_count.1 hN rr; simp only [List.count_cons, List.count_append] at c; have d := List.count_pos_iff.2 h; have d2 := List.count_pos_iff.2 mrr; omega
  have e_x_r : x ≠ r := fun h => by subst h; have c := List.nodup_iff_count.1 hN x; simp only [List.count_cons, List.count_append, beq_self_eq_true, if_true] at c; omega
  have e_r_x : r ≠ x := Ne.symm e_x_r
  have e_x_rl : x ≠ rl := fun h => by subst h; have c := List.nodup_iff_count.1 hN x; simp only [List.count_cons, List.count_append, beq_self_eq_true, if_true] at c; omega
  have e_rl_x : rl ≠ x := Ne.symm e_x_rl
  have e_x_rll : x ≠ rll := fun h => by subst h; have c := List.nodup_iff_count.1 hN x; simp only [List.count_cons, List.count_append, beq_self_eq_true, if_true] at c; omega
  have e_rll_x : rll ≠ x := Ne.symm e_x_rll
  have e_x_l : x ≠ l := fun h => n_x_l (h ▸ ml)
  have e_l_x : l ≠ x := Ne.symm e_x_l
  have e_x_rlll : x ≠ rlll := fun h => n_x_rlll (h ▸ mrlll)
  have e_rlll_x : rlll ≠ x := Ne.symm e_x_rlll
  have e_x_rllr : x ≠ rllr := fun h => n_x_rllr (h ▸ mrllr)
  have e_rllr_x : rllr ≠ x := Ne.symm e_x_rllr
  have e_x_rlr : x ≠ rlr := fun h => n_x_rlr (h ▸ mrlr)
  have e_rlr_x : rlr ≠ x := Ne.symm e_x_rlr
  have e_x_rr : x ≠ rr := fun h => n_x_rr (h ▸ mrr)
  have e_rr_x : rr ≠ x := Ne.symm e_x_rr
  have e_r_rl : r ≠ rl := fun h => by subst h; have c := List.nodup_iff_count.1 hN r; simp only [List.count_cons, List.count_append, beq_self_eq_true, if_true] at c; omega
  have e_rl_r : rl ≠ r := Ne.symm e_r_rl
  have e_r_rll : r ≠ rll := fun h => by subst h; have c := List.nodup_iff_count.1 hN r; simp only [List.count_cons, List.count_append, beq_self_eq_true, if_true] at c; omega
  have e_rll_r : rll ≠ r := Ne.symm e_r_rll
  have e_r_l : r ≠ l := fun h => n_r_l (h ▸ ml)
  have e_l_r : l ≠ r := Ne.symm e_r_l
  have e_r_rlll : r ≠ rlll := fun h => n_r_rlll (h ▸ mrlll)
  have e_rlll_r : rlll ≠ r := Ne.symm e_r_rlll
  have e_r_rllr : r ≠ rllr := fun h => n_r_rllr (h ▸ mrllr)
  have e_rllr_r : rllr ≠ r := Ne.symm e_r_rllr
  have e_r_rlr : r ≠ rlr := fun h => n_r_rlr (h ▸ mrlr)
  have e_rlr_r : rlr ≠ r := Ne.symm e_r_rlr
  have e_r_rr : r ≠ rr := fun h => n_r_rr (h ▸ mrr)
  have e_rr_r : rr ≠ r := Ne.symm e_r_rr
  have e_rl_rll : rl ≠ rll := fun h => by subst h; have c := List.nodup_iff_count.1 hN rl; simp only [List.count_cons, List.count_append, beq_self_eq_true, if_true] at c; omega
  have e_rll_rl : rll ≠ rl := Ne.symm e_rl_rll
  have e_rl_l : rl ≠ l := fun h => n_rl_l (h ▸ ml)
  have e_l_rl : l ≠ rl := Ne.symm e_rl_l
  have e_rl_rlll : rl ≠ rlll := fun h => n_rl_rlll (h ▸ mrlll)
  have e_rlll_rl : rlll ≠ rl := Ne.symm e_rl_rlll
  have e_rl_rllr : rl ≠ rllr := fun h => n_rl_rllr (h ▸ mrllr)
  have e_rllr_rl : rllr ≠ rl := Ne.symm e_rl_rllr
  have e_rl_rlr : rl ≠ rlr := fun h => n_rl_rlr (h ▸ mrlr)
  have e_rlr_rl : rlr ≠ rl := Ne.symm e_rl_rlr
  have e_rl_rr : rl ≠ rr := fun h => n_rl_rr (h ▸ mrr)
  have e_rr_rl : rr ≠ rl := Ne.symm e_rl_rr
  have e_rll_l : rll ≠ l := fun h => n_rll_l (h ▸ ml)
  have e_l_rll : l ≠ rll := Ne.symm e_rll_l
  have e_rll_rlll : rll ≠ rlll := fun h => n_rll_rlll (h ▸ mrlll)
  have e_rlll_rll : rlll ≠ rll := Ne.symm e_rll_rlll
  have e_rll_rllr : rll ≠ rllr := fun h => n_rll_rllr (h ▸ mrllr)
  have e_rllr_rll : rllr ≠ rll := Ne.symm e_rll_rllr
  have e_rll_rlr : rll ≠ rlr := fun h => n_rll_rlr (h ▸ mrlr)
  have e_rlr_rll : rlr ≠ rll := Ne.symm e_rll_rlr
  have e_rll_rr : rll ≠ rr := fun h => n_rll_rr (h ▸ mrr)
  have e_rr_rll : rr ≠ rll := Ne.symm e_rll_rr
  have e_l_rlll : l ≠ rlll := fun h => n_l_rlll (h ▸ mrlll)
  have e_rlll_l : rlll ≠ l := Ne.symm e_l_rlll
  have e_l_rllr : l ≠ rllr := fun h => n_l_rllr (h ▸ mrllr)
  have e_rllr_l : rllr ≠ l := Ne.symm e_l_rllr
  have e_l_rlr : l ≠ rlr := fun h => n_l_rlr (h ▸ mrlr)
  have e_rlr_l : rlr ≠ l := Ne.symm e_l_rlr
  have e_l_rr : l ≠ rr := fun h => n_l_rr (h ▸ mrr)
  have e_rr_l : rr ≠ l := Ne.symm e_l_rr
  have e_rlll_rllr : rlll ≠ rllr := fun h => n_rlll_rllr (h ▸ mrllr)
  have e_rllr_rlll : rllr ≠ rlll := Ne.symm e_rlll_rllr
  have e_rlll_rlr : rlll ≠ rlr := fun h => n_rlll_rlr (h ▸ mrlr)
  have e_rlr_rlll : rlr ≠ rlll := Ne.symm e_rlll_rlr
  have e_rlll_rr : rlll ≠ rr := fun h => n_rlll_rr (h ▸ mrr)
  have e_rr_rlll : rr ≠ rlll := Ne.symm e_rlll_rr
  have e_rllr_rlr : rllr ≠ rlr := fun h => n_rllr_rlr (h ▸ mrlr)
  have e_rlr_rllr : rlr ≠ rllr := Ne.symm e_rllr_rlr
  have e_rllr_rr : rllr ≠ rr := fun h => n_rllr_rr (h ▸ mrr)
  have e_rr_rllr : rr ≠ rllr := Ne.symm e_rllr_rr
  have e_rlr_rr : rlr ≠ rr := fun h => n_rlr_rr (h ▸ mrr)
  have e_rr_rlr : rr ≠ rlr := Ne.symm e_rlr_rr
  have d_l : Ll.Nodup := List.nodup_iff_count.2 fun z => by have c := List.nodup_iff_count.1 hN z; simp only [List.count_cons, List.count_append] at c; omega
  have d_rlll : Lrlll.Nodup := List.nodup_iff_count.2 fun z => by have c := List.nodup_iff_count.1 hN z; simp only [List.count_cons, List.count_append] at c; omega
  have d_rllr : Lrllr.Nodup := List.nodup_iff_count.2 fun z => by have c := List.nodup_iff_count.1 hN z; simp only [List.count_cons, List.count_append] at c; omega
  have d_rlr : Lrlr.Nodup := List.nodup_iff_count.2 fun z => by have c := List.nodup_iff_count.1 hN z; simp only [List.count_cons, List.count_append] at c; omega
  have d_rr : Lrr.Nodup := List.nodup_iff_count.2 fun z => by have c := List.nodup_iff_count.1 hN z; simp only [List.count_cons, List.count_append] at c; omega
  clear hN
  have s1_l : AT (wth t l a) l (bl.wset a) (Ll) := al.wth (by (try simp only [List.mem_cons, List.mem_append, not_or]); (repeat' apply And.intro) <;> assumption)
  have s1_rlll : AT (wth t l a) rlll brlll (Lrlll) := arlll.wth_off (by (try simp only [List.mem_cons, List.mem_append, not_or]); (repeat' apply And.intro) <;> assumption)
  have s1_rllr : AT (wth t l a) rllr brllr (Lrllr) := arllr.wth_off (by (try simp only [List.mem_cons, List.mem_append, not_or]); (repeat' apply And.intro) <;> assumption)
  have s1_rlr : AT (wth t l a) rlr brlr (Lrlr) := arlr.wth_off (by (try simp only [List.mem_cons, List.mem_append, not_or]); (repeat' apply And.intro) <;> assumption)
  have s1_rr : AT (wth t l a) rr brr (Lrr) := arr.wth_off (by (try simp only [List.mem_cons, List.mem_append, not_or]); (repeat' apply And.intro) <;> assumption)
  have r1_x : ndAt (wth t l a) x = ndAt t x := (wth_ne _ _ _ _ (by (try simp only [List.mem_cons, List.mem_append, not_or]); (repeat' apply And.intro) <;> assumption)).trans rfl
  have r1_r : ndAt (wth t l a) r = ndAt t r := (wth_ne _ _ _ _ (by (try simp only [List.mem_cons, List.mem_append, not_or]); (repeat' apply And.intro) <;> assumption)).trans rfl
  have r1_rl : ndAt (wth t l a) rl = ndAt t rl := (wth_ne _ _ _ _ (by (try simp only [List.mem_cons, List.mem_append, not_or]); (repeat' apply And.intro) <;> assumption)).trans rfl
  have r1_rll : ndAt (wth t l a) rll = ndAt t rll := (wth_ne _ _ _ _ (by (try simp only [List.mem_cons, List.mem_append, not_or]); (repeat' apply And.intro) <;> assumption)).trans rfl
  have s2_rllr : AT (ovr (wth t l a) x b (l : Int) (rlll : Int)) rllr brllr (Lrllr) := s1_rllr.ovr_off (by (try simp only [List.mem_cons, List.mem_append, not_or]); (repeat' apply And.intro) <;> assumption)
  have s2_rlr : AT (ovr (wth t l a) x b (l : Int) (rlll : Int)) rlr brlr (Lrlr) := s1_rlr.ovr_off (by (try simp only [List.mem_cons, List.mem_append, not_or]); (repeat' apply And.intro) <;> assumption)
  have s2_rr : AT (ovr (wth t l a) x b (l : Int) (rlll : Int)) rr brr (Lrr) := s1_rr.ovr_off (by (try simp only [List.mem_cons, List.mem_append, not_or]); (repeat' apply And.intro) <;> assumption)
  have s2_x : AT (ovr (wth t l a) x b (l : Int) (rlll : Int)) x (.node ((ndP (ndAt t x)).w b) (bl.wset a) brlll) (x :: (Ll ++ Lrlll)) := AT.over (l := l) (r := rlll) r1_x ((show _ → _ from fun h => by rw [wth_length]; exact h) hx) s1_l s1_rlll (by (try simp only [List.mem_cons, List.mem_append, not_or]); (repeat' apply And.intro) <;> assumption) (by (try simp only [List.mem_cons, List.mem_append, not_or]); (repeat' apply And.intro) <;> assumption)
  have r2_r : ndAt (ovr (wth t l a) x b (l : Int) (rlll : Int)) r = ndAt t r := (ovr_ne _ _ _ _ _ _ (by (try simp only [List.mem_cons, List.mem_append, not_or]); (repeat' apply And.intro) <;> assumption)).trans r1_r
  have r2_rl : ndAt (ovr (wth t l a) x b (l : Int) (rlll : Int)) rl = ndAt t rl := (ovr_ne _ _ _ _ _ _ (by (try simp only [List.mem_cons, List.mem_append, not_or]); (repeat' apply And.intro) <;> assumption)).trans r1_rl
  have r2_rll : ndAt (ovr (wth t l a) x b (l : Int) (rlll : Int)) rll = ndAt t rll := (ovr_ne _ _ _ _ _ _ (by (try simp only [List.mem_cons, List.mem_append, not_or]); (repeat' apply And.intro) <;> assumption)).trans r1_rll
  have s3_rr : AT (ovr (ovr (wth t l a) x b (l : Int) (rlll : Int)) rl c (rllr : Int) (rlr : Int)) rr brr (Lrr) := s2_rr.ovr_off (by (try simp only [List.mem_cons, List.mem_append, not_or]); (repeat' apply And.intro) <;> assumption)
  have s3_x : AT (ovr (ovr (wth t l a) x b (l : Int) (rlll : Int)) rl c (rllr : Int) (rlr : Int)) x (.node ((ndP (ndAt t x)).w b) (bl.wset a) brlll) (x :: (Ll ++ Lrlll)) := s2_x.ovr_off (by (try simp only [List.mem_cons, List.mem_append, not_or]); (repeat' apply And.intro) <;> assumption)
  have s3_rl : AT (ovr (ovr (wth t l a) x b (l : Int) (rlll : Int)) rl c (rllr : Int) (rlr : Int)) rl (.node ((ndP (ndAt t rl)).w c) brllr brlr) (rl :: (Lrllr ++ Lrlr)) := AT.over (l := rllr) (r := rlr) r2_rl ((show _ → _ from fun h => by rw [ovr_length, wth_length]; exact h) hrl) s2_rllr s2_rlr (by (try simp only [List.mem_cons, List.mem_append, not_or]); (repeat' apply And.intro) <;> assumption) (by (try simp only [List.mem_cons, List.mem_append, not_or]); (repeat' apply And.intro) <;> assumption)
  have r3_r : ndAt (ovr (ovr (wth t l a) x b (l : Int) (rlll : Int)) rl c (rllr : Int) (rlr : Int)) r = ndAt t r := (ovr_ne _ _ _ _ _ _ (by (try simp only [List.mem_cons, List.mem_append, not_or]); (repeat' apply And.intro) <;> assumption)).trans r2_r
  have r3_rll : ndAt (ovr (ovr (wth t l a) x b (l : Int) (rlll : Int)) rl c (rllr : Int) (rlr : Int)) rll = ndAt t rll := (ovr_ne _ _ _ _ _ _ (by (try simp only [List.mem_cons, List.mem_append, not_or]); (repeat' apply And.intro) <;> assumption)).trans r2_rll
  have s4_rr : AT (ovr (ovr (ovr (wth t l a) x b (l : Int) (rlll : Int)) rl c (rllr : Int) (rlr : Int)) rll d (x : Int) (rl : Int)) rr brr (Lrr) := s3_rr.ovr_off (by (try simp only [List.mem_cons, List.mem_append, not_or]); (repeat' apply And.intro) <;> assumption)
  have s4_rll : AT (ovr (ovr (ovr (wth t l a) x b (l : Int) (rlll : Int)) rl c (rllr : Int) (rlr : Int)) rll d (x : Int) (rl : Int)) rll (.node ((ndP (ndAt t rll)).w d) (.node ((ndP (ndAt t x)).w b) (bl.wset a) brlll) (.node ((ndP (ndAt t rl)).w c) brllr brlr)) (rll :: ((x :: (Ll ++ Lrlll)) ++ (rl :: (Lrllr ++ Lrlr)))) := AT.over (l := x) (r := rl) r3_rll ((show _ → _ from fun h => by rw [ovr_length, ovr_length, wth_length]; exact h) hrll) s3_x s3_rl (by (try simp only [List.mem_cons, List.mem_append, not_or]); (repeat' apply And.intro) <;> assumption) (by (try simp only [List.mem_cons, List.mem_append, not_or]); (repeat' apply And.intro) <;> assumption)
  have r4_r : ndAt (ovr (ovr (ovr (wth t l a) x b (l : Int) (rlll : Int)) rl c (rllr : Int) (rlr : Int)) rll d (x : Int) (rl : Int)) r = ndAt t r := (ovr_ne _ _ _ _ _ _ (by (try simp only [List.mem_cons, List.mem_append, not_or]); (repeat' apply And.intro) <;> assumption)).trans r3_r
  have s5_r : AT (ovr (ovr (ovr (ovr (wth t l a) x b (l : Int) (rlll : Int)) rl c (rllr : Int) (rlr : Int)) rll d (x : Int) (rl : Int)) r e (rll : Int) (rr : Int)) r (.node ((ndP (ndAt t r)).w e) (.node ((ndP (ndAt t rll)).w d) (.node ((ndP (ndAt t x)).w b) (bl.wset a) brlll) (.node ((ndP (ndAt t rl)).w c) brllr brlr)) brr) (r :: ((rll :: ((x :: (Ll ++ Lrlll)) ++ (rl :: (Lrllr ++ Lrlr)))) ++ Lrr)) := AT.over (l := rll) (r := rr) r4_r ((show _ → _ from fun h => by rw [ovr_length, ovr_length, ovr_length, wth_length]; exact h) hr) s4_rll s4_rr (by (try simp only [List.mem_cons, List.mem_append, not_or]); (repeat' apply And.intro) <;> assumption) (by (try simp only [List.mem_cons, List.mem_append, not_or]); (repeat' apply And.intro) <;> assumption)
  refine ⟨by simp only [ovr_length, wth_length], ⟨_, s5_r, ?_⟩, fun p hp => ?_⟩
  · rw [List.perm_iff_count]; intro z; simp only [List.count_cons, List.count_append]; try omega
  · skip
    have p_x : p ≠ x := fun e => hp (e ▸ by simp)
    have p_r : p ≠ r := fun e => hp (e ▸ by simp)
    have p_rl : p ≠ rl := fun e => hp (e ▸ by simp)
    have p_rll : p ≠ rll := fun e => hp (e ▸ by simp)
    have p_l : p ≠ l := fun e => hp (e ▸ by simp [ml])
    have p_rlll : p ≠ rlll := fun e => hp (e ▸ by simp [mrlll])
    have p_rllr : p ≠ rllr := fun e => hp (e ▸ by simp [mrllr])
    have p_rlr : p ≠ rlr := fun e => hp (e ▸ by simp [mrlr])
    have p_rr : p ≠ rr := fun e => hp (e ▸ by simp [mrr])
    rw [ovr_ne _ _ _ _ _ _ (by assumption), ovr_ne _ _ _ _ _ _ (by assumption), ovr_ne _ _ _ _ _ _ (by assumption), ovr_ne _ _ _ _ _ _ (by assumption), wth_ne _ _ _ _ (by assumption)]
theorem bout8 {t : NL} {x r rl l rll rlr rr : Nat} {bl brll brlr brr : BT} {Ll Lrll Lrlr Lrr : List Nat} (a b c d e : Int) (hx : x < t.length) (hr : r < t.length) (hrl : rl < t.length) (al : AT t l bl Ll) (arll : AT t rll brll Lrll) (arlr : AT t rlr brlr Lrlr) (arr : AT t rr brr Lrr) (hN : (x :: (Ll ++ (r :: ((rl :: (Lrll ++ Lrlr)) ++ Lrr)))).Nodup) :
    BOut t (ovr (ovr (wth (ovr (wth t l a) x b (l : Int) (rll : Int)) rlr c) rl d (x : Int) (rlr : Int)) r e (rl : Int) (rr : Int)) (x :: (Ll ++ (r :: ((rl :: (Lrll ++ Lrlr)) ++ Lrr)))) r (.node ((ndP (ndAt t r)).w e) (.node ((ndP (ndAt t rl)).w d) (.node ((ndP (ndAt t x)).w b) (bl.wset a) brll) (brlr.wset c)) brr) := by
  have ml := al.mem
  have mrll := arll.mem
  have mrlr := arlr.mem
  have mrr := arr.mem
  have n_x_l : x ∉ Ll := fun h => by have c := List.nodup_iff_count.1 hN x; simp only [List.count_cons, List.count_append, beq_self_eq_true, if_true] at c; have d := List.count_pos_iff.2 h; omega
  have n_x_rll : x ∉ Lrll := fun h => by have c := List.nodup_iff_count.1 hN x; simp only [List.count_cons, List.count_append, beq_self_eq_true, if_true] at c; have d := List.count_pos_iff.2 h; omega
  have n_x_rlr : x ∉ Lrlr := fun h => by have c := List.nodup_iff_count.1 hN x; simp only [List.count_cons, List.count_append, beq_self_eq_true, if_true] at c; have d := List.count_pos_iff.2 h; omega
  have n_x_rr : x ∉ Lrr := fun h => by have c := List.nodup_iff_count.1 hN x; simp only [List.count_cons, List.count_append, beq_self_eq_true, if_true] at c; have d := List.count_pos_iff.2 h; omega
  have n_r_l : r ∉ Ll := fun h => by have c := List.nodup_iff_count.1 hN r; simp only [List.count_cons, List.count_append, beq_self_eq_true, if_true] at c; have d := List.count_pos_iff.2 h; omega
  have n_r_rll : r ∉ Lrll := fun h => by have c := List.nodup_iff_count.1 hN r; simp only [List.count_cons, List.count_append, beq_self_eq_true, if_true] at c; have d := List.count_pos_iff.2 h; omega
  have n_r_rlr : r ∉ Lrlr := fun h => by have c := List.nodup_iff_count.1 hN r; simp only [List.count_cons, List.count_append, beq_self_eq_true, if_true] at c; have d := List.count_pos_iff.2 h; omega
  have n_r_rr : r ∉ Lrr := fun h => by have c := List.nodup_iff_count.1 hN r; simp only [List.count_cons, List.count_append, beq_self_eq_true, if_true] at c; have d := List.count_pos_iff.2 h; omega
  have n_rl_l : rl ∉ Ll := fun h => by have c := List.nodup_iff_count.1 hN rl; simp only [List.count_cons, List.count_append, beq_self_eq_true, if_true] at c; have d := List.count_pos_iff.2 h; omega
  have n_rl_rll : rl ∉ Lrll := fun h => by have c := List.nodup_iff_count.1 hN rl; simp only [List.count_cons, List.count_append, beq_self_eq_true, if_true] at c; have d := List.count_pos_iff.2 h; omega
  have n_rl_rlr : rl ∉ Lrlr := fun h => by have c := List.nodup_iff_count.1 hN rl; simp only [List.count_cons, List.count_append, beq_self_eq_true, if_true] at c; have d := List.count_pos_iff.2 h; omega
  have n_rl_rr : rl ∉ Lrr := fun h => by have c := List.nodup_iff_count.1 hN rl; simp only [List.count_cons, List.count_append, beq_self_eq_true, if_true] at c; have d := List.count_pos_iff.2 h; omega
  have n_l_rll : l ∉ Lrll := fun h => by have c := List.nodup_iff_count.1 hN l; simp only [List.count_cons, List.count_append] at c; have d := List.count_pos_iff.2 h; have d2 := List.count_pos_iff.2 ml; omega
  have n_l_rlr : l ∉ Lrlr := fun h => by have c := List.nodup_iff_count.1 hN l; simp only [List.count_cons, List.count_append] at c; have d := List.count_pos_iff.2 h; have d2 := List.count_pos_iff.2 ml; omega
  have n_l_rr : l ∉ Lrr := fun h => by have c := List.nodup_iff_count.1 hN l; simp only [List.count_cons, List.count_append] at c; have d := List.count_pos_iff.2 h; have d2 := List.count_pos_iff.2 ml; omega
  have n_rll_l : rll ∉ Ll := fun h => by have c := List.nodup_iff_count.1 hN rll; simp only [List.count_cons, List.count_append] at c; have d := List.count_pos_iff.2 h; have d2 := List.count_pos_iff.2 mrll; omega
  have n_rll_rlr : rll ∉ Lrlr := fun h => by have c := List.nodup_iff_count.1 hN rll; simp only [List.count_cons, List.count_append] at c; have d := List.count_pos_iff.2 h; have d2 := List.count_pos_iff.2 mrll; omega
  have n_rll_rr : rll ∉ Lrr := fun h => by have c := List.nodup_iff_count.1 hN rll; simp only [List.count_cons, List.count_append] at c; have d := List.count_pos_iff.2 h; have d2 := List.count_pos_iff.2 mrll; omega
  have n_rlr_l : rlr ∉ Ll := fun h => by have c := List.nodup_iff_count.1 hN rlr; simp only [List.count_cons, List.count_append] at c; have d := List.count_pos_iff.2 h; have d2 := List.count_pos_iff.2 mrlr; omega
  have n_rlr_rll : rlr ∉ Lrll := fun h => by have c := List.nodup_iff_count.1 hN rlr; simp only [List.count_cons, List.count_append] at c; have d := List.count_pos_iff.2 h; have d2 := List.count_pos_iff.2 mrlr; omega
  have n_rlr_rr : rlr ∉ Lrr := fun h => by have c := List.nodup_iff_count.1 hN rlr; simp only [List.count_cons, List.count_append] at c; have d := List.count_pos_iff.2 h; have d2 := List.count_pos_iff.2 mrlr; omega
  have n_rr_l : rr ∉ Ll := fun h => by have c := List.nodup_iff_count.1 hN rr; simp only [List.count_cons, List.count_append] at c; have d := List.count_pos_iff.2 h; have d2 := List.count_pos_iff.2 mrr; omega
  have n_rr_rll : rr ∉ Lrll := fun h => by have c := List.nodup_iff_count.1 hN rr; simp only [List.count_cons, List.count_append] at c; have d := List.count_pos_iff.2 h; have d2 := List.count_pos_iff.2 mrr; omega
  have n_rr_rlr : rr ∉ Lrlr := fun h => by have c := List.nodup_iff_count.1 hN rr; simp only [List.count_cons, List.count_append] at c; have d := List.count_pos_iff.2 h; have d2 := List.count_pos_iff.2 mrr; omega
  have e_x_r : x ≠ r := fun h => by subst h; have c := List.nodup_iff_count.1 hN x; simp only [List.count_cons, List.count_append, beq_self_eq_true, if_true] at c; omega
  have e_r_x : r ≠ x := Ne.symm e_x_r
  have e_x_rl : x ≠ rl := fun h => by subst h; have c := List.nodup_iff_count.1 hN x; simp only [List.count_cons, List.count_append, beq_self_eq_true, if_true] at c; omega
  have e_rl_x : rl ≠ x := Ne.symm e_x_rl
  have e_x_l : x ≠ l := fun h => n_x_l (h ▸ ml)
  have e_l_x : l ≠ x := Ne.symm e_x_l
  have e_x_rll : x ≠ rll := fun h => n_x_rll (h ▸ mrll)
  have e_rll_x : rll ≠ x := Ne.symm e_x_rll
  have e_x_rlr : x ≠ rlr := fun h => n_x_rlr (h ▸ mrlr)
  have e_rlr_x : rlr ≠ x := Ne.symm e_x_rlr
  have e_x_rr : x ≠ rr := fun h => n_x_rr (h ▸ mrr)
  have e_rr_x : rr ≠ x := Ne.symm e_x_rr
  have e_r_rl : r ≠ rl := fun h => by subst h; have c := List.nodup_iff_count.1 hN r; simp only [List.count_cons, List.count_append, beq_self_eq_true, if_true] at c; omega
  have e_rl_r : rl ≠ r := Ne.symm e_r_rl
  have e_r_l : r ≠ l := fun h => n_r_l (h ▸ ml)
  have e_l_r : l ≠ r := Ne.symm e_r_l
  have e_r_rll : r ≠ rll := fun h => n_r_rll (h ▸ mrll)
  have e_rll_r : rll ≠ r := Ne.symm e_r_rll
  have e_r_rlr : r ≠ rlr := fun h => n_r_rlr (h ▸ mrlr)
  have e_rlr_r : rlr ≠ r := Ne.symm e_r_rlr
  have e_r_rr : r ≠ rr := fun h => n_r_rr (h ▸ mrr)
  have e_rr_r : rr ≠ r := Ne.symm e_r_rr
  have e_rl_l : rl ≠ l := fun h => n_rl_l (h ▸ ml)
  have e_l_rl : l ≠ rl := Ne.symm e_rl_l
  have e_rl_rll : rl ≠ rll := fun h => n_rl_rll (h ▸ mrll)
  have e_rll_rl : rll ≠ rl := Ne.symm e_rl_rll
  have e_rl_rlr : rl ≠ rlr := fun h => n_rl_rlr (h ▸ mrlr)
  have e_rlr_rl : rlr ≠ rl := Ne.symm e_rl_rlr
  have e_rl_rr : rl ≠ rr := fun h => n_rl_rr (h ▸ mrr)
  have e_rr_rl : rr ≠ rl := Ne.symm e_rl_rr
  have e_l_rll : l ≠ rll := fun h => n_l_rll (h ▸ mrll)
  have e_rll_l : rll ≠ l := Ne.symm e_l_rll
  have e_l_rlr : l ≠ rlr := fun h => n_l_rlr (h ▸ mrlr)
  have e_rlr_l : rlr ≠ l := Ne.symm e_l_rlr
  have e_l_rr : l ≠ rr := fun h => n_l_rr (h ▸ mrr)
  have e_rr_l : rr ≠ l := Ne.symm e_l_rr
  have e_rll_rlr : rll ≠ rlr := fun h => n_rll_rlr (h ▸ mrlr)
  have e_rlr_rll : rlr ≠ rll := Ne.symm e_rll_rlr
  have e_rll_rr : rll ≠ rr := fun h => n_rll_rr (h ▸ mrr)
  have e_rr_rll : rr ≠ rll := Ne.symm e_rll_rr
  have e_rlr_rr : rlr ≠ rr := fun h => n_rlr_rr (h ▸ mrr)
  have e_rr_rlr : rr ≠ rlr := Ne.symm e_rlr_rr
  have d_l : Ll.Nodup := List.nodup_iff_count.2 fun z => by have c := List.nodup_iff_count.1 hN z; simp only [List.count_cons, List.count_append] at c; omega
  have d_rll : Lrll.Nodup := List.nodup_iff_count.2 fun z => by have c := List.nodup_iff_count.1 hN z; simp only [List.count_cons, List.count_append] at c; omega
  have d_rlr : Lrlr.Nodup := List.nodup_iff_count.2 fun z => by have c := List.nodup_iff_count.1 hN z; simp only [List.count_cons, List.count_append] at c; omega
  have d_rr : Lrr.Nodup := List.nodup_iff_count.2 fun z => by have c := List.nodup_iff_count.1 hN z; simp only [List.count_cons, List.count_append] at c; omega
  clear hN
  have s1_l : AT (wth t l a) l (bl.wset a) (Ll) := al.wth (by (try simp only [List.mem_cons, List.mem_append, not_or]); (repeat' apply And.intro) <;> assumption)
  have s1_rll : AT (wth t l a) rll brll (Lrll) := arll.wth_off (by (try simp only [List.mem_cons, List.mem_append, not_or]); (repeat' apply And.intro) <;> assumption)
  have s1_rlr : AT (wth t l a) rlr brlr (Lrlr) := arlr.wth_off (by (try simp only [List.mem_cons, List.mem_append, not_or]); (repeat' apply And.intro) <;> assumption)
  have s1_rr : AT (wth t l a) rr brr (Lrr) := arr.wth_off (by (try simp only [List.mem_cons, List.mem_append, not_or]); (repeat' apply And.intro) <;> assumption)
  have r1_x : ndAt (wth t l a) x = ndAt t x := (wth_ne _ _ _ _ (by (try simp only [List.mem_cons, List.mem_append, not_or]); (repeat' apply And.intro) <;> assumption)).trans rfl
  have r1_r : ndAt (wth t l a) r = ndAt t r := (wth_ne _ _ _ _ (by (try simp only [List.mem_cons, List.mem_append, not_or]); (repeat' apply And.intro) <;> assumption)).trans rfl
  have r1_rl : ndAt (wth t l a) rl = ndAt t rl := (wth_ne _ _ _ _ (by (try simp only [List.mem_cons, List.mem_append, not_or]); (repeat' apply And.intro) <;> assumption)).trans rfl
  have s2_rlr : AT (ovr (wth t l a) x b (l : Int) (rll : Int)) rlr brlr (Lrlr) := s1_rlr.ovr_off (by (try simp only [List.mem_cons, List.mem_append, not_or]); (repeat' apply And.intro) <;> assumption)
  have s2_rr : AT (ovr (wth t l a) x b (l : Int) (rll : Int)) rr brr (Lrr) := s1_rr.ovr_off (by (try simp only [List.mem_cons, List.mem_append, not_or]); (repeat' apply And.intro) <;> assumption)
  have s2_x : AT (ovr (wth t l a) x b (l : Int) (rll : Int)) x (.node ((ndP (ndAt t x)).w b) (bl.wset a) brll) (x :: (Ll ++ Lrll)) := AT.over (l := l) (r := rll) r1_x ((show _ → _ from fun h => by rw [wth_length]; exact h) hx) s1_l s1_rll (by (try simp only [List.mem_cons, List.mem_append, not_or]); (repeat' apply And.intro) <;> assumption) (by (try simp only [List.mem_cons, List.mem_append, not_or]); (repeat' apply And.intro) <;> assumption)
  have r2_r : ndAt (ovr (wth t l a) x b (l : Int) (rll : Int)) r = ndAt t r := (ovr_ne _ _ _ _ _ _ (by (try simp only [List.mem_cons, List.mem_append, not_or]); (repeat' apply And.intro) <;> assumption)).trans r1_r
  have r2_rl : ndAt (ovr (wth t l a) x b (l : Int) (rll : Int)) rl = ndAt t rl := (ovr_ne _ _ _ _ _ _ (by (try simp only [List.mem_cons, List.mem_append, not_or]); (repeat' apply And.intro) <;> assumption)).trans r1_rl
  have s3_rlr : AT (wth (ovr (wth t l a) x b (l : Int) (rll : Int)) rlr c) rlr (brlr.wset c) (Lrlr) := s2_rlr.wth (by (try simp only [List.mem_cons, List.mem_append, not_or]); (repeat' apply And.intro) <;> assumption)
  have s3_rr : AT (wth (ovr (wth t l a) x b (l : Int) (rll : Int)) rlr c) rr brr (Lrr) := s2_rr.wth_off (by (try simp only [List.mem_cons, List.mem_append, not_or]); (repeat' apply And.intro) <;> assumption)
  have s3_x : AT (wth (ovr (wth t l a) x b (l : Int) (rll : Int)) rlr c) x (.node ((ndP (ndAt t x)).w b) (bl.wset a) brll) (x :: (Ll ++ Lrll)) := s2_x.wth_off (by (try simp only [List.mem_cons, List.mem_append, not_or]); (repeat' apply And.intro) <;> assumption)
  have r3_r : ndAt (wth (ovr (wth t l a) x b (l : Int) (rll : Int)) rlr c) r = ndAt t r := (wth_ne _ _ _ _ (by (try simp only [List.mem_cons, List.mem_append, not_or]); (repeat' apply And.intro) <;> assumption)).trans r2_r
  have r3_rl : ndAt (wth (ovr (wth t l a) x b (l : Int) (rll : Int)) rlr c) rl = ndAt t rl := (wth_ne _ _ _ _ (by (try simp only [List.mem_cons, List.mem_append, not_or]); (repeat' apply And.intro) <;> assumption)).trans r2_rl
  have s4_rr : AT (ovr (wth (ovr (wth t l a) x b (l : Int) (rll : Int)) rlr c) rl d (x : Int) (rlr : Int)) rr brr (Lrr) := s3_rr.ovr_off (by (try simp only [List.mem_cons, List.mem_append, not_or]); (repeat' apply And.intro) <;> assumption)
  have s4_rl : AT (ovr (wth (ovr (wth t l a) x b (l : Int) (rll : Int)) rlr c) rl d (x : Int) (rlr : Int)) rl (.node ((ndP (ndAt t rl)).w d) (.node ((ndP (ndAt t x)).w b) (bl.wset a) brll) (brlr.wset c)) (rl :: ((x :: (Ll ++ Lrll)) ++ Lrlr)) := AT.over (l := x) (r := rlr) r3_rl ((show _ → _ from fun h => by rw [wth_length, ovr_length, wth_length]; exact h) hrl) s3_x s3_rlr (by (try simp only [List.mem_cons, List.mem_append, not_or]); (repeat' apply And.intro) <;> assumption) (by (try simp only [List.mem_cons, List.mem_append, not_or]); (repeat' apply And.intro) <;> assumption)
  have r4_r : ndAt (ovr (wth (ovr (wth t l a) x b (l : Int) (rll : Int)) rlr c) rl d (x : Int) (rlr : Int)) r = ndAt t r := (ovr_ne _ _ _ _ _ _ (by (try simp only [List.mem_cons, List.mem_append, not_or]); (repeat' apply And.intro) <;> assumption)).trans r3_r
  have s5_r : AT (ovr (ovr (wth (ovr (wth t l a) x b (l : Int) (rll : Int)) rlr c) rl d (x : Int) (rlr : Int)) r e (rl : Int) (rr : Int)) r (.node ((ndP (ndAt t r)).w e) (.node ((ndP (ndAt t rl)).w d) (.node ((ndP (ndAt t x)).w b) (bl.wset a) brll) (brlr.wset c)) brr) (r :: ((rl :: ((x :: (Ll ++ Lrll)) ++ Lrlr)) ++ Lrr)) := AT.over (l := rl) (r := rr) r4_r ((show _ → _ from fun h => by rw [ovr_length, wth_length, ovr_length, wth_length]; exact h) hr) s4_rl s4_rr (by (try simp only [List.mem_cons, List.mem_append, not_or]); (repeat' apply And.intro) <;> assumption) (by (try simp only [List.mem_cons, List.mem_append, not_or]); (repeat' apply And.intro) <;> assumption)
  refine ⟨by simp only [ovr_length, wth_length], ⟨_, s5_r, ?_⟩, fun p hp => ?_⟩
  · rw [List.perm_iff_count]; intro z; simp only [List.count_cons, List.count_append]; try omega
  · skip
    have p_x : p ≠ x := fun e => hp (e ▸ by simp)
    have p_r : p ≠ r := fun e => hp (e ▸ by simp)
    have p_rl : p ≠ rl := fun e => hp (e ▸ by simp)
    have p_l : p ≠ l := fun e => hp (e ▸ by simp [ml])
    have p_rll : p ≠ rll := fun e => hp (e ▸ by simp [mrll])
    have p_rlr : p ≠ rlr := fun e => hp (e ▸ by simp [mrlr])
    have p_rr : p ≠ rr := fun e => hp (e ▸ by simp [mrr])
    rw [ovr_ne _ _ _ _ _ _ (by assumption), ovr_ne _ _ _ _ _ _ (by assumption), wth_ne _ _ _ _ (by assumption), ovr_ne _ _ _ _ _ _ (by assumption), wth_ne _ _ _ _ (by assumption)]
theorem bout9 {t : NL} {x r l rl rr : Nat} {bl brl brr : BT} {Ll Lrl Lrr : List Nat} (a b c d : Int) (hx : x < t.length) (hr : r < t.length) (al : AT t l bl Ll) (arl : AT t rl brl Lrl) (arr : AT t rr brr Lrr) (hN : (x :: (Ll ++ (r :: (Lrl ++ Lrr)))).Nodup) :
    BOut t (ovr (wth (ovr (wth t l a) x b (l : Int) (rl : Int)) rr c) r d (x : Int) (rr : Int)) (x :: (Ll ++ (r :: (Lrl ++ Lrr)))) r (.node ((ndP (ndAt t r)).w d) (.node ((ndP (ndAt t x)).w b) (bl.wset a) brl) (brr.wset c)) := by
  have ml := al.mem
  have mrl := arl.mem
  have mrr := arr.mem
  have n_x_l : x ∉ Ll := fun h => by have c := List.nodup_iff_count.1 hN x; simp only [List.count_cons, List.count_append, beq_self_eq_true, if_true] at c; have d := List.count_pos_iff.2 h; omega
  have n_x_rl : x ∉ Lrl := fun h => by have c := List.nodup_iff_count.1 hN x; simp only [List.count_cons, List.count_append, beq_self_eq_true, if_true] at c; have d := List.count_pos_iff.2 h; omega
  have n_x_rr : x ∉ Lrr := fun h => by have c := List.nodup_iff_count.1 hN x; simp only [List.count_cons, List.count_append, beq_self_eq_true, if_true] at c; have d := List.count_pos_iff.2 h; omega
  have n_r_l : r ∉ Ll := fun h => by have c := List.nodup_iff_count.1 hN r; simp only [List.count_cons, List.count_append, beq_self_eq_true, if_true] at c; have d := List.count_pos_iff.2 h; omega
  have n_r_rl : r ∉ Lrl := fun h => by have c := List.nodup_iff_count.1 hN r; simp only [List.count_cons, List.count_append, beq_self_eq_true, if_true] at c; have d := List.count_pos_iff.2 h; omega
  have n_r_rr : r ∉ Lrr := fun h => by have c := List.nodup_iff_count.1 hN r; simp only [List.count_cons, List.count_append, beq_self_eq_true, if_true] at c; have d := List.count_pos_iff.2 h; omega
  have n_l_rl : l ∉ Lrl := fun h => by have c := List.nodup_iff_count.1 hN l; simp only [List.count_cons, List.count_append] at c; have d := List.count_pos_iff.2 h; have d2 := List.count_pos_iff.2 ml; omega
  have n_l_rr : l ∉ Lrr := fun h => by have c := List.nodup_iff_count.1 hN l; simp only [List.count_cons, List.count_append] at c; have d := List.count_pos_iff.2 h; have d2 := List.count_pos_iff.2 ml; omega
  have n_rl_l : rl ∉ Ll := fun h => by have c := List.nodup_iff_count.1 hN rl; simp only [List.count_cons, List.count_append] at c; have d := List.count_pos_iff.2 h; have d2 := List.count_pos_iff.2 mrl; omega
  have n_rl_rr : rl ∉ Lrr := fun h => by have c := List.nodup_iff_count.1 hN rl; simp only [List.count_cons, List.count_append] at c; have d := List.count_pos_iff.2 h; have d2 := List.count_pos_iff.2 mrl; omega
  have n_rr_l : rr ∉ Ll := fun h => by have c := List.nodup_iff_count.1 hN rr; simp only [List.count_cons, List.count_append] at c; have d := List.count_pos_iff.2 h; have d2 := List.count_pos_iff.2 mrr; omega
  have n_rr_rl : rr ∉ Lrl := fun h => by have c := List.nodup_iff_count.1 hN rr; simp only [List.count_cons, List.count_append] at c; have d := List.count_pos_iff.2 h; have d2 := List.count_pos_iff.2 mrr; omega
  have e_x_r : x ≠ r := fun h => by subst h; have c := List.nodup_iff_count.1 hN x; simp only [List.count_cons, List.count_append, beq_self_eq_true, if_true] at c; omega
  have e_r_x : r ≠ x := Ne.symm e_x_r
  have e_x_l : x ≠ l := fun h => n_x_l (h ▸ ml)
  have e_l_x : l ≠ x := Ne.symm e_x_l
  have e_x_rl : x ≠ rl := fun h => n_x_rl (h ▸ mrl)
  have e_rl_x : rl ≠ x := Ne.symm e_x_rl
  have e_x_rr : x ≠ rr := fun h => n_x_rr (h ▸ mrr)
  have e_rr_x : rr ≠ x := Ne.symm e_x_rr
  have e_r_l : r ≠ l := fun h => n_r_l (h ▸ ml)
  have e_l_r : l ≠ r := Ne.symm e_r_l
  have e_r_rl : r ≠ rl := fun h => n_r_rl (h ▸ mrl)
  have e_rl_r : rl ≠ r := Ne.symm e_r_rl
  have e_r_rr : r ≠ rr := fun h => n_r_rr (h ▸ mrr)
  have e_rr_r : rr ≠ r := Ne.symm e_r_rr
  have e_l_rl : l ≠ rl := fun h => n_l_rl (h ▸ mrl)
  have e_rl_l : rl ≠ l := Ne.symm e_l_rl
  have e_l_rr : l ≠ rr := fun h => n_l_rr (h ▸ mrr)
  have e_rr_l : rr ≠ l := Ne.symm e_l_rr
  have e_rl_rr : rl ≠ rr := fun h => n_rl_rr (h ▸ mrr)
  have e_rr_rl : rr ≠ rl := Ne.symm e_rl_rr
  have d_l : Ll.Nodup := List.nodup_iff_count.2 fun z => by have c := List.nodup_iff_count.1 hN z; simp only [List.count_cons, List.count_append] at c; omega
  have d_rl : Lrl.Nodup := List.nodup_iff_count.2 fun z => by have c := List.nodup_iff_count.1 hN z; simp only [List.count_cons, List.count_append] at c; omega
  have d_rr : Lrr.Nodup := List.nodup_iff_count.2 fun z => by have c := List.nodup_iff_count.1 hN z; simp only [List.count_cons, List.count_append] at c; omega
  clear hN
  have s1_l : AT (wth t l a) l (bl.wset a) (Ll) := al.wth (by (try simp only [List.mem_cons, List.mem_append, not_or]); (repeat' apply And.intro) <;> assumption)
  have s1_rl : AT (wth t l a) rl brl (Lrl) := arl.wth_off (by (try simp only [List.mem_cons, List.mem_append, not_or]); (repeat' apply And.intro) <;> assumption)
  have s1_rr : AT (wth t l a) rr brr (Lrr) := arr.wth_off (by (try simp only [List.mem_cons, List.mem_append, not_or]); (repeat' apply And.intro) <;> assumption)
  have r1_x : ndAt (wth t l a) x = ndAt t x := (wth_ne _ _ _ _ (by (try simp only [List.mem_cons, List.mem_append, not_or]); (repeat' apply And.intro) <;> assumption)).trans rfl
  have r1_r : ndAt (wth t l a) r = ndAt t r := (wth_ne _ _ _ _ (by (try simp only [List.mem_cons, List.mem_append, not_or]); (repeat' apply And.intro) <;> assumption)).trans rfl
  have s2_rr : AT (ovr (wth t l a) x b (l : Int) (rl : Int)) rr brr (Lrr) := s1_rr.ovr_off (by (try simp only [List.mem_cons, List.mem_append, not_or]); (repeat' apply And.intro) <;> assumption)
  have s2_x : AT (ovr (wth t l a) x b (l : Int) (rl : Int)) x (.node ((ndP (ndAt t x)).w b) (bl.wset a) brl) (x :: (Ll ++ Lrl)) := AT.over (l := l) (r := rl) r1_x ((show _ → _ from fun h => by rw [wth_length]; exact h) hx) s1_l s1_rl (by (try simp only [List.mem_cons, List.mem_append, not_or]); (repeat' apply And.intro) <;> assumption) (by (try simp only [List.mem_cons, List.mem_append, not_or]); (repeat' apply And.intro) <;> assumption)
  have r2_r : ndAt (ovr (wth t l a) x b (l : Int) (rl : Int)) r = ndAt t r := (ovr_ne _ _ _ _ _ _ (by (try simp only [List.mem_cons, List.mem_append, not_or]); (repeat' apply And.intro) <;> assumption)).trans r1_r
  have s3_rr : AT (wth (ovr (wth t l a) x b (l : Int) (rl : Int)) rr c) rr (brr.wset c) (Lrr) := s2_rr.wth (by (try simp only [List.mem_cons, List.mem_append, not_or]); (repeat' apply And.intro) <;> assumption)
  have s3_x : AT (wth (ovr (wth t l a) x b (l : Int) (rl : Int)) rr c) x (.node ((ndP (ndAt t x)).w b) (bl.wset a) brl) (x :: (Ll ++ Lrl)) := s2_x.wth_off (by (try simp only [List.mem_cons, List.mem_append, not_or]); (repeat' apply And.intro) <;> assumption)
  have r3_r : ndAt (wth (ovr (wth t l a) x b (l : Int) (rl : Int)) rr c) r = ndAt t r := (wth_ne _ _ _ _ (by (try simp only [List.mem_cons, List.mem_append, not_or]); (repeat' apply And.intro) <;> assumption)).trans r2_r
  have s4_r : AT (ovr (wth (ovr (wth t l a) x b (l : Int) (rl : Int)) rr c) r d (x : Int) (rr : Int)) r (.node ((ndP (ndAt t r)).w d) (.node ((ndP (ndAt t x)).w b) (bl.wset a) brl) (brr.wset c)) (r :: ((x :: (Ll ++ Lrl)) ++ Lrr)) := AT.over (l := x) (r := rr) r3_r ((show _ → _ from fun h => by rw [wth_length, ovr_length, wth_length]; exact h) hr) s3_x s3_rr (by (try simp only [List.mem_cons, List.mem_append, not_or]); (repeat' apply And.intro) <;> assumption) (by (try simp only [List.mem_cons, List.mem_append, not_or]); (repeat' apply And.intro) <;> assumption)
  refine ⟨by simp only [ovr_length, wth_length], ⟨_, s4_r, ?_⟩, fun p hp => ?_⟩
  · rw [List.perm_iff_count]; intro z; simp only [List.count_cons, List.count_append]; try omega
  · skip
    have p_x : p ≠ x := fun e => hp (e ▸ by simp)
    have p_r : p ≠ r := fun e => hp (e ▸ by simp)
    have p_l : p ≠ l := fun e => hp (e ▸ by simp [ml])
    have p_rl : p ≠ rl := fun e => hp (e ▸ by simp [mrl])
    have p_rr : p ≠ rr := fun e => hp (e ▸ by simp [mrr])
    rw [ovr_ne _ _ _ _ _ _ (by assumption), wth_ne _ _ _ _ (by assumption), ovr_ne _ _ _ _ _ _ (by assumption), wth_ne _ _ _ _ (by assumption)]
theorem bout10 {t : NL} {x r rl l rll rlr rr : Nat} {bl brll brlr brr : BT} {Ll Lrll Lrlr Lrr : List Nat} (a b c d : Int) (hx : x < t.length) (hr : r < t.length) (hrl : rl < t.length) (al : AT t l bl Ll) (arll : AT t rll brll Lrll) (arlr : AT t rlr brlr Lrlr) (arr : AT t rr brr Lrr) (hN : (x :: (Ll ++ (r :: ((rl :: (Lrll ++ Lrlr)) ++ Lrr)))).Nodup) :
    BOut t (ovr (ovr (ovr (wth t l a) x b (l : Int) (rll : Int)) r c (rlr : Int) (rr : Int)) rl d (x : Int) (r : Int)) (x :: (Ll ++ (r :: ((rl :: (Lrll ++ Lrlr)) ++ Lrr)))) rl (.node ((ndP (ndAt t rl)).w d) (.node ((ndP (ndAt t x)).w b) (bl.wset a) brll) (.node ((ndP (ndAt t r)).w c) brlr brr)) := by
  have ml := al.mem
  have mrll := arll.mem
  have mrlr := arlr.mem
  have mrr := arr.mem
  have n_x_l : x ∉ Ll := fun h => by have c := List.nodup_iff_count.1 hN x; simp only [List.count_cons, List.count_append, beq_self_eq_true, if_true] at c; have d := List.count_pos_iff.2 h; omega
  have n_x_rll : x ∉ Lrll := fun h => by have c := List.nodup_iff_count.1 hN x; simp only [List.count_cons, List.count_append, beq_self_eq_true, if_true] at c; have d := List.count_pos_iff.2 h; omega
  have n_x_rlr : x ∉ Lrlr := fun h => by have c := List.nodup_iff_count.1 hN x; simp only [List.count_cons, List.count_append, beq_self_eq_true, if_true] at c; have d := List.count_pos_iff.2 h; omega
  have n_x_rr : x ∉ Lrr := fun h => by have c := List.nodup_iff_count.1 hN x; simp only [List.count_cons, List.count_append, beq_self_eq_true, if_true] at c; have d := List.count_pos_iff.2 h; omega
  have n_r_l : r ∉ Ll := fun h => by have c := List.nodup_iff_count.1 hN r; simp only [List.count_cons, List.count_append, beq_self_eq_true, if_true] at c; have d := List.count_pos_iff.2 h; omega
  have n_r_rll : r ∉ Lrll := fun h => by have c := List.nodup_iff_count.1 hN r; simp only [List.count_cons, List.count_append, beq_self_eq_true, if_true] at c; have d := List.count_pos_iff.2 h; omega
  have n_r_rlr : r ∉ Lrlr := fun h => by have c := List.nodup_iff_count.1 hN r; simp only [List.count_cons, List.count_append, beq_self_eq_true, if_true] at c; have d := List.count_pos_iff.2 h; omega
  have n_r_rr : r ∉ Lrr := fun h => by have c := List.nodup_iff_count.1 hN r; simp only [List.count_cons, List.count_append, beq_self_eq_true, if_true] at c; have d := List.count_pos_iff.2 h; omega
  have n_rl_l : rl ∉ Ll := fun h => by have c := List.nodup_iff_count.1 hN rl; simp only [List.count_cons, List.count_append, beq_self_eq_true, if_true] at c; have d := List.count_pos_iff.2 h; omega
  have n_rl_rll : rl ∉ Lrll := fun h => by have c := List.nodup_iff_count.1 hN rl; simp only [List.count_cons, List.count_append, beq_self_eq_true, if_true] at c; have d := List.count_pos_iff.2 h; omega
  have n_rl_rlr : rl ∉ Lrlr := fun h => by have c := List.nodup_iff_count.1 hN rl; simp only [List.count_cons, List.count_append, beq_self_eq_true, if_true] at c; have d := List.count_pos_iff.2 h; omega
  have n_rl_rr : rl ∉ Lrr := fun h => by have c := List.nodup_iff_count.1 hN rl; simp only [List.count_cons, List.count_append, beq_self_eq_true, if_true] at c; have d := List.count_pos_iff.2 h; omega
  have n_l_rll : l ∉ Lrll := fun h => by have c := List.nodup_iff_count.1 hN l; simp only [List.count_cons, List.count_append] at c; have d := List.count_pos_iff.2 h; have d2 := List.count_pos_iff.2 ml; omega
  have n_l_rlr : l ∉ Lrlr := fun h => by have c := List.nodup_iff_count.1 hN l; simp only [List.count_cons, List.count_append] at c; have d := List.count_pos_iff.2 h; have d2 := List.count_pos_iff.2 ml; omega
  have n_l_rr : l ∉ Lrr := fun h => by have c := List.nodup_iff_count.1 hN l; simp only [List.count_cons, List.count_append] at c; have d := List.count_pos_iff.2 h; have d2 := List.count_pos_iff.2 ml; omega
  have n_rll_l : rll ∉ Ll := fun h => by have c := List.nodup_iff_count.1 hN rll; simp only [List.count_cons, List.count_append] at c; have d := List.count_pos_iff.2 h; have d2 := List.count_pos_iff.2 mrll; omega
  have n_rll_rlr : rll ∉ Lrlr := fun h => by have c := List.nodup_iff_count.1 hN rll; simp only [List.count_cons, List.count_append] at c; have d := List.count_pos_iff.2 h; have d2 := List.count_pos_iff.2 mrll; omega
  have n_rll_rr : rll ∉ Lrr := fun h => by have c := List.nodup_iff_count.1 hN rll; simp only [List.count_cons, List.count_append] at c; have d := List.count_pos_iff.2 h; have d2 := List.count_pos_iff.2 mrll; omega
  have n_rlr_l : rlr ∉ Ll := fun h => by have c := List.nodup_iff_count.1 hN rlr; simp only [List.count_cons, List.count_append] at c; have d := List.count_pos_iff.2 h; have d2 := List.count_pos_iff.2 mrlr; omega
  have n_rlr_rll : rlr ∉ Lrll := fun h => by have c := List.nodup_iff_count.1 hN rlr; simp only [List.count_cons, List.count_append] at c; have d := List.count_pos_iff.2 h; have d2 := List.count_pos_iff.2 mrlr; omega
  have n_rlr_rr : rlr ∉ Lrr := fun h => by have c := List.nodup_iff_count.1 hN rlr; simp only [List.count_cons, List.count_append] at c; have d := List.count_pos_iff.2 h; have d2 := List.count_pos_iff.2 mrlr; omega
  have n_rr_l : rr ∉ Ll := fun h => by have c := List.nodup_iff_count.1 hN rr; simp only [List.count_cons, List.count_append] at c; have d := List.count_pos_iff.2 h; have d2 := List.count_pos_iff.2 mrr; omega
  have n_rr_rll : rr ∉ Lrll := fun h => by have c := List.nodup_iff_count.1 hN rr; simp only [List.count_cons, List.count_append] at c; have d := List.count_pos_iff.2 h; have d2 := List.count_pos_iff.2 mrr; omega
  have n_rr_rlr : rr ∉ Lrlr := fun h => by have c := List.nodup_iff_count.1 hN rr; simp only [List.count_cons, List.count_append] at c; have d := List.count_pos_iff.2 h; have d2 := List.count_pos_iff.2 mrr; omega
  have e_x_r : x ≠ r := fun h => by subst h; have c := List.nodup_iff_count.1 hN x; simp only [List.count_cons, List.count_append, beq_self_eq_true, if_true] at c; omega
  have e_r_x : r ≠ x := Ne.symm e_x_r
  have e_x_rl : x ≠ rl := fun h => by subst h; have c := List.nodup_iff_count.1 hN x; simp only [List.count_cons, List.count_append, beq_self_eq_true, if_true] at c; omega
  have e_rl_x : rl ≠ x := Ne.symm e_x_rl
  have e_x_l : x ≠ l := fun h => n_x_l (h ▸ ml)
  have e_l_x : l ≠ x := Ne.symm e_x_l
  have e_x_rll : x ≠ rll := fun h => n_x_rll (h ▸ mrll)
  have e_rll_x : rll ≠ x := Ne.symm e_x_rll
  have e_x_rlr : x ≠ rlr := fun h => n_x_rlr (h ▸ mrlr)
  have e_rlr_x : rlr ≠ x := Ne.symm e_x_rlr
  have e_x_rr : x ≠ rr := fun h => n_x_rr (h ▸ mrr)
  have e_rr_x : rr ≠ x := Ne.symm e_x_rr
  have e_r_rl : r ≠ rl := fun h => by subst h; have c := List.nodup_iff_count.1 hN r; simp only [List.count_cons, List.count_append, beq_self_eq_true, if_true] at c; omega
  have e_rl_r : rl ≠ r := Ne.symm e_r_rl
  have e_r_l : r ≠ l := fun h => n_r_l (h ▸ ml)
  have e_l_r : l ≠ r := Ne.symm e_r_l
  have e_r_rll : r ≠ rll := fun h => n_r_rll (h ▸ mrll)
  have e_rll_r : rll ≠ r := Ne.symm e_r_rll
  have e_r_rlr : r ≠ rlr := fun h => n_r_rlr (h ▸ mrlr)
  have e_rlr_r : rlr ≠ r := Ne.symm e_r_rlr
  have e_r_rr : r ≠ rr := fun h => n_r_rr (h ▸ mrr)
  have e_rr_r : rr ≠ r := Ne.symm e_r_rr
  have e_rl_l : rl ≠ l := fun h => n_rl_l (h ▸ ml)
  have e_l_rl : l ≠ rl := Ne.symm e_rl_l
  have e_rl_rll : rl ≠ rll := fun h => n_rl_rll (h ▸ mrll)
  have e_rll_rl : rll ≠ rl := Ne.symm e_rl_rll
  have e_rl_rlr : rl ≠ rlr := fun h => n_rl_rlr (h ▸ mrlr)
  have e_rlr_rl : rlr ≠ rl := Ne.symm e_rl_rlr
  have e_rl_rr : rl ≠ rr := fun h => n_rl_rr (h ▸ mrr)
  have e_rr_rl : rr ≠ rl := Ne.symm e_rl_rr
  have e_l_rll : l ≠ rll := fun h => n_l_rll (h ▸ mrll)
  have e_rll_l : rll ≠ l := Ne.symm e_l_rll
  have e_l_rlr : l ≠ rlr := fun h => n_l_rlr (h ▸ mrlr)
  have e_rlr_l : rlr ≠ l := Ne.symm e_l_rlr
  have e_l_rr : l ≠ rr := fun h => n_l_rr (h ▸ mrr)
  have e_rr_l : rr ≠ l := Ne.symm e_l_rr
  have e_rll_rlr : rll ≠ rlr := fun h => n_rll_rlr (h ▸ mrlr)
  have e_rlr_rll : rlr ≠ rll := Ne.symm e_rll_rlr
  have e_rll_rr : rll ≠ rr := fun h => n_rll_rr (h ▸ mrr)
  have e_rr_rll : rr ≠ rll := Ne.symm e_rll_rr
  have e_rlr_rr : rlr ≠ rr := fun h => n_rlr_rr (h ▸ mrr)
  have e_rr_rlr : rr ≠ rlr := Ne.symm e_rlr_rr
  have d_l : Ll.Nodup := List.nodup_iff_count.2 fun z => by have c := List.nodup_iff_count.1 hN z; simp only [List.count_cons, List.count_append] at c; omega
  have d_rll : Lrll.Nodup := List.nodup_iff_count.2 fun z => by have c := List.nodup_iff_count.1 hN z; simp only [List.count_cons, List.count_append] at c; omega
  have d_rlr : Lrlr.Nodup := List.nodup_iff_count.2 fun z => by have c := List.nodup_iff_count.1 hN z; simp only [List.count_cons, List.count_append] at c; omega
  have d_rr : Lrr.Nodup := List.nodup_iff_count.2 fun z => by have c := List.nodup_iff_count.1 hN z; simp only [List.count_cons, List.count_append] at c; omega
  clear hN
  have s1_l : AT (wth t l a) l (bl.wset a) (Ll) := al.wth (by (try simp only [List.mem_cons, List.mem_append, not_or]); (repeat' apply And.intro) <;> assumption)
  have s1_rll : AT (wth t l a) rll brll (Lrll) := arll.wth_off (by (try simp only [List.mem_cons, List.mem_append, not_or]); (repeat' apply And.intro) <;> assumption)
  have s1_rlr : AT (wth t l a) rlr brlr (Lrlr) := arlr.wth_off (by (try simp only [List.mem_cons, List.mem_append, not_or]); (repeat' apply And.intro) <;> assumption)
  have s1_rr : AT (wth t l a) rr brr (Lrr) := arr.wth_off (by (try simp only [List.mem_cons, List.mem_append, not_or]); (repeat' apply And.intro) <;> assumption)
  have r1_x : ndAt (wth t l a) x = ndAt t x := (wth_ne _ _ _ _ (by (try simp only [List.mem_cons, List.mem_append, not_or]); (repeat' apply And.intro) <;> assumption)).trans rfl
  have r1_r : ndAt (wth t l a) r = ndAt t r := (wth_ne _ _ _ _ (by (try simp only [List.mem_cons, List.mem_append, not_or]); (repeat' apply And.intro) <;> assumption)).trans rfl
  have r1_rl : ndAt (wth t l a) rl = ndAt t rl := (wth_ne _ _ _ _ (by (try simp only [List.mem_cons, List.mem_append, not_or]); (repeat' apply And.intro) <;> assumption)).trans rfl
  have s2_rlr : AT (ovr (wth t l a) x b (l : Int) (rll : Int)) rlr brlr (Lrlr) := s1_rlr.ovr_off (by (try simp only [List.mem_cons, List.mem_append, not_or]); (repeat' apply And.intro) <;> assumption)
  have s2_rr : AT (ovr (wth t l a) x b (l : Int) (rll : Int)) rr brr (Lrr) := s1_rr.ovr_off (by (try simp only [List.mem_cons, List.mem_append, not_or]); (repeat' apply And.intro) <;> assumption)
  have s2_x : AT (ovr (wth t l a) x b (l : Int) (rll : Int)) x (.node ((ndP (ndAt t x)).w b) (bl.wset a) brll) (x :: (Ll ++ Lrll)) := AT.over (l := l) (r := rll) r1_x ((show _ → _ from fun h => by rw [wth_length]; exact h) hx) s1_l s1_rll (by (try simp only [List.mem_cons, List.mem_append, not_or]); (repeat' apply And.intro) <;> assumption) (by (try simp only [List.mem_cons, List.mem_append, not_or]); (repeat' apply And.intro) <;> assumption)
  have r2_r : ndAt (ovr (wth t l a) x b (l : Int) (rll : Int)) r = ndAt t r := (ovr_ne _ _ _ _ _ _ (by (try simp only [List.mem_cons, List.mem_append, not_or]); (repeat' apply And.intro) <;> assumption)).trans r1_r
  have r2_rl : ndAt (ovr (wth t l a) x b (l : Int) (rll : Int)) rl = ndAt t rl := (ovr_ne _ _ _ _ _ _ (by (try simp only [List.mem_cons, List.mem_append, not_or]); (repeat' apply And.intro) <;> assumption)).trans r1_rl
  have s3_x : AT (ovr (ovr (wth t l a) x b (l : Int) (rll : Int)) r c (rlr : Int) (rr : Int)) x (.node ((ndP (ndAt t x)).w b) (bl.wset a) brll) (x :: (Ll ++ Lrll)) := s2_x.ovr_off (by (try simp only [List.mem_cons, List.mem_append, not_or]); (repeat' apply And.intro) <;> assumption)
  have s3_r : AT (ovr (ovr (wth t l a) x b (l : Int) (rll : Int)) r c (rlr : Int) (rr : Int)) r (.node ((ndP (ndAt t r)).w c) brlr brr) (r :: (Lrlr ++ Lrr)) := AT.over (l := rlr) (r := rr) r2_r ((show _ → _ from fun h => by rw [ovr_length, wth_length]; exact h) hr) s2_rlr s2_rr (by (try simp only [List.mem_cons, List.mem_append, not_or]); (repeat' apply And.intro) <;> assumption) (by (try simp only [List.mem_cons, List.mem_append, not_or]); (repeat' apply And.intro) <;> assumption)
  have r3_rl : ndAt (ovr (ovr (wth t l a) x b (l : Int) (rll : Int)) r c (rlr : Int) (rr : Int)) rl = ndAt t rl := (ovr_ne _ _ _ _ _ _ (by (try simp only [List.mem_cons, List.mem_append, not_or]); (repeat' apply And.intro) <;> assumption)).trans r2_rl
  have s4_rl : AT (ovr (ovr (ovr (wth t l a) x b (l : Int) (rll : Int)) r c (rlr : Int) (rr : Int)) rl d (x : Int) (r : Int)) rl (.node ((ndP (ndAt t rl)).w d) (.node ((ndP (ndAt t x)).w b) (bl.wset a) brll) (.node ((ndP (ndAt t r)).w c) brlr brr)) (rl :: ((x :: (Ll ++ Lrll)) ++ (r :: (Lrlr ++ Lrr)))) := AT.over (l := x) (r := r) r3_rl ((show _ → _ from fun h => by rw [ovr_length, ovr_length, wth_length]; exact h) hrl) s3_x s3_r (by (try simp only [List.mem_cons, List.mem_append, not_or]); (repeat' apply And.intro) <;> assumption) (by (try simp only [List.mem_cons, List.mem_append, not_or]); (repeat' apply And.intro) <;> assumption)
  refine ⟨by simp only [ovr_length, wth_length], ⟨_, s4_rl, ?_⟩, fun p hp => ?_⟩
  · rw [List.perm_iff_count]; intro z; simp only [List.count_cons, List.count_append]; try omega
  · skip
    have p_x : p ≠ x := fun e => hp (e ▸ by simp)
    have p_r : p ≠ r := fun e => hp (e ▸ by simp)
    have p_rl : p ≠ rl := fun e => hp (e ▸ by simp)
    have p_l : p ≠ l := fun e => hp (e ▸ by simp [ml])
    have p_rll : p ≠ rll := fun e => hp (e ▸ by simp [mrll])
    have p_rlr : p ≠ rlr := fun e => hp (e ▸ by simp [mrlr])
    have p_rr : p ≠ rr := fun e => hp (e ▸ by simp [mrr])
    rw [ovr_ne _ _ _ _ _ _ (by assumption), ovr_ne _ _ _ _ _ _ (by assumption), ovr_ne _ _ _ _ _ _ (by assumption), wth_ne _ _ _ _ (by assumption)]
theorem bout12 {t : NL} {x : Nat} {bx : BT} {Lx : List Nat} (a : Int)  (ax : AT t x bx Lx) (hN : (Lx).Nodup) :
    BOut t (wth t x a) (Lx) x (bx.wset a) := by
  have mx := ax.mem

  have s1_x : AT (wth t x a) x (bx.wset a) (Lx) := ax.wth (by (try simp only [List.mem_cons, List.mem_append, not_or]); (repeat' apply And.intro) <;> assumption)
  refine ⟨by simp only [wth_length], ⟨_, s1_x, ?_⟩, fun p hp => ?_⟩
  · exact List.Perm.refl _
  · skip
    have p_x : p ≠ x := fun e => hp (e ▸ mx)
    rw [wth_ne _ _ _ _ (by assumption)]
end Go.Proofs.YthlhbajaogonnaaDoor

namespace Go.Proofs.YthlhbajaogonnaaDoor

theorem AT.wt {t : NL} {p : Nat} {b : BT} {L : List Nat} (h : AT t p b L) : b.wt = (ndAt t p).wt := by
  cases h.abs <;> rfl
/-- What build makes of the table, and the place of what stands at the top. -/
inductive BldR (t : NL) (x : Nat) : Int → NL → Nat → Prop
  | k1 {l r : Nat} : (ndAt t x).l = (l : Int) → (ndAt t x).r = (r : Int) → BldR t x 1 (ovr (wth (wth t l 1) r 1) x ((ndAt t x).wt - 1) l r) x
  | k2 {l r ll lr : Nat} : (ndAt t x).l = (l : Int) → (ndAt t x).r = (r : Int) → (ndAt t l).l = (ll : Int) → (ndAt t l).r = (lr : Int) → BldR t x 2 (ovr (ovr t x 0 lr r) l (ndAt t x).wt ll x) l
  | k3 {l r ll lr lrl lrr : Nat} : (ndAt t x).l = (l : Int) → (ndAt t x).r = (r : Int) → (ndAt t l).l = (ll : Int) → (ndAt t l).r = (lr : Int) → (ndAt t lr).l = (lrl : Int) → (ndAt t lr).r = (lrr : Int) → BldR t x 3 (ovr (ovr (ovr t l 0 ll lrl) x 0 lrr r) lr (ndAt t x).wt l x) lr
  | k4 {l r : Nat} : (ndAt t x).l = (l : Int) → (ndAt t x).r = (r : Int) → BldR t x 4 (ovr (wth (wth t l ((ndAt t l).wt - 1)) r 0) x ((ndAt t x).wt + 1) l r) x
  | k5 {l r rl rr : Nat} : (ndAt t x).l = (l : Int) → (ndAt t x).r = (r : Int) → (ndAt t r).l = (rl : Int) → (ndAt t r).r = (rr : Int) → BldR t x 5 (ovr (ovr (wth (wth t l ((ndAt t l).wt - 1)) rl ((ndAt t rl).wt - 1)) x 1 l rl) r (ndAt t x).wt x rr) r
  | k6 {l r rl rr : Nat} : (ndAt t x).l = (l : Int) → (ndAt t x).r = (r : Int) → (ndAt t r).l = (rl : Int) → (ndAt t r).r = (rr : Int) → BldR t x 6 (ovr (ovr (wth (wth t l ((ndAt t l).wt - 1)) rl 0) x 1 l rl) r (ndAt t x).wt x rr) r
  | k7 {l r rl rr rll rlr rlll rllr : Nat} : (ndAt t x).l = (l : Int) → (ndAt t x).r = (r : Int) → (ndAt t r).l = (rl : Int) → (ndAt t r).r = (rr : Int) → (ndAt t rl).l = (rll : Int) → (ndAt t rl).r = (rlr : Int) → (ndAt t rll).l = (rlll : Int) → (ndAt t rll).r = (rllr : Int) → BldR t x 7 (ovr (ovr (ovr (ovr (wth t l ((ndAt t l).wt - 1)) x 1 l rlll) rl 1 rllr rlr) rll 0 x rl) r (ndAt t x).wt rll rr) r
  | k8 {l r rl rr rll rlr : Nat} : (ndAt t x).l = (l : Int) → (ndAt t x).r = (r : Int) → (ndAt t r).l = (rl : Int) → (ndAt t r).r = (rr : Int) → (ndAt t rl).l = (rll : Int) → (ndAt t rl).r = (rlr : Int) → BldR t x 8 (ovr (ovr (wth (ovr (wth t l ((ndAt t l).wt - 1)) x 1 l rll) rlr 1) rl 0 x rlr) r (ndAt t x).wt rl rr) r
  | k9 {l r rl rr : Nat} : (ndAt t x).l = (l : Int) → (ndAt t x).r = (r : Int) → (ndAt t r).l = (rl : Int) → (ndAt t r).r = (rr : Int) → BldR t x 9 (ovr (wth (ovr (wth t l ((ndAt t l).wt - 1)) x 1 l rl) rr 1) r (ndAt t x).wt x rr) r
  | k10 {l r rl rr rll rlr : Nat} : (ndAt t x).l = (l : Int) → (ndAt t x).r = (r : Int) → (ndAt t r).l = (rl : Int) → (ndAt t r).r = (rr : Int) → (ndAt t rl).l = (rll : Int) → (ndAt t rl).r = (rlr : Int) → BldR t x 10 (ovr (ovr (ovr (wth t l ((ndAt t l).wt - 1)) x 1 l rll) r 1 rlr rr) rl (ndAt t x).wt x r) rl
  | k11 {l r : Nat} : (ndAt t x).l = (l : Int) → (ndAt t x).r = (r : Int) → BldR t x 11 (ovr (wth (wth t l ((ndAt t l).wt - 1)) r ((ndAt t r).wt - 1)) x ((ndAt t x).wt + 1) l r) x
  | k12 : BldR t x 12 (wth t x 1) x
theorem step_built {root : Bool} {k : Int} {b b' : BT} (h : StepR root k b b') {t : NL} {x : Nat} {M : List Nat} (hA : AT t x b M) (hN : M.Nodup) : ∃ T top, BldR t x k T top ∧ BOut t T M top b' := by
  cases h with
  | blk =>
    obtain ⟨l, r, L, R, rfl, rfl, q1, q2, a1, a2⟩ := hA.open
    exact ⟨_, _, BldR.k1 q1 q2, bout1 _ _ _ hA.lt a1 a2 hN⟩
  | rb1 =>
    obtain ⟨l, r, L, R, rfl, rfl, q1, q2, a1, a2⟩ := hA.open
    obtain ⟨ll, lr, LL, LR, rfl, rfl, q3, q4, a3, a4⟩ := a1.open
    exact ⟨_, _, BldR.k2 q1 q2 q3 q4, bout2 _ _ hA.lt a1.lt a3 a4 a2 hN⟩
  | rb2 =>
    obtain ⟨l, r, L, R, rfl, rfl, q1, q2, a1, a2⟩ := hA.open
    obtain ⟨ll, lr, LL, LR, rfl, rfl, q3, q4, a3, a4⟩ := a1.open
    obtain ⟨lrl, lrr, LRL, LRR, rfl, rfl, q5, q6, a5, a6⟩ := a4.open
    exact ⟨_, _, BldR.k3 q1 q2 q3 q4 q5 q6, bout3 _ _ _ hA.lt a1.lt a4.lt a3 a5 a6 a2 hN⟩
  | push =>
    obtain ⟨l, r, L, R, rfl, rfl, q1, q2, a1, a2⟩ := hA.open
    rw [a1.wt]
    exact ⟨_, _, BldR.k4 q1 q2, bout1 _ _ _ hA.lt a1 a2 hN⟩
  | w1 =>
    obtain ⟨l, r, L, R, rfl, rfl, q1, q2, a1, a2⟩ := hA.open
    obtain ⟨rl, rr, RL, RR, rfl, rfl, q3, q4, a3, a4⟩ := a2.open
    rw [a1.wt, a3.wt]
    exact ⟨_, _, BldR.k5 q1 q2 q3 q4, bout5 _ _ _ _ hA.lt a2.lt a1 a3 a4 hN⟩
  | w2 =>
    obtain ⟨l, r, L, R, rfl, rfl, q1, q2, a1, a2⟩ := hA.open
    obtain ⟨rl, rr, RL, RR, rfl, rfl, q3, q4, a3, a4⟩ := a2.open
    rw [a1.wt]
    exact ⟨_, _, BldR.k6 q1 q2 q3 q4, bout5 _ _ _ _ hA.lt a2.lt a1 a3 a4 hN⟩
  | w3 =>
    obtain ⟨l, r, L, R, rfl, rfl, q1, q2, a1, a2⟩ := hA.open
    obtain ⟨rl, rr, RL, RR, rfl, rfl, q3, q4, a3, a4⟩ := a2.open
    obtain ⟨rll, rlr, RLL, RLR, rfl, rfl, q5, q6, a5, a6⟩ := a3.open
    obtain ⟨rlll, rllr, RLLL, RLLR, rfl, rfl, q7, q8, a7, a8⟩ := a5.open
    rw [a1.wt]
    exact ⟨_, _, BldR.k7 q1 q2 q3 q4 q5 q6 q7 q8, bout7 _ _ _ _ _ hA.lt a2.lt a3.lt a5.lt a1 a7 a8 a6 a4 hN⟩
  | w4 =>
    obtain ⟨l, r, L, R, rfl, rfl, q1, q2, a1, a2⟩ := hA.open
    obtain ⟨rl, rr, RL, RR, rfl, rfl, q3, q4, a3, a4⟩ := a2.open
    obtain ⟨rll, rlr, RLL, RLR, rfl, rfl, q5, q6, a5, a6⟩ := a3.open
    rw [a1.wt]
    exact ⟨_, _, BldR.k8 q1 q2 q3 q4 q5 q6, bout8 _ _ _ _ _ hA.lt a2.lt a3.lt a1 a5 a6 a4 hN⟩
  | w5 =>
    obtain ⟨l, r, L, R, rfl, rfl, q1, q2, a1, a2⟩ := hA.open
    obtain ⟨rl, rr, RL, RR, rfl, rfl, q3, q4, a3, a4⟩ := a2.open
    rw [a1.wt]
    exact ⟨_, _, BldR.k9 q1 q2 q3 q4, bout9 _ _ _ _ hA.lt a2.lt a1 a3 a4 hN⟩
  | w6 =>
    obtain ⟨l, r, L, R, rfl, rfl, q1, q2, a1, a2⟩ := hA.open
    obtain ⟨rl, rr, RL, RR, rfl, rfl, q3, q4, a3, a4⟩ := a2.open
    obtain ⟨rll, rlr, RLL, RLR, rfl, rfl, q5, q6, a5, a6⟩ := a3.open
    rw [a1.wt]
    exact ⟨_, _, BldR.k10 q1 q2 q3 q4 q5 q6, bout10 _ _ _ _ hA.lt a2.lt a3.lt a1 a5 a6 a4 hN⟩
  | w7 =>
    obtain ⟨l, r, L, R, rfl, rfl, q1, q2, a1, a2⟩ := hA.open
    rw [a1.wt, a2.wt]
    exact ⟨_, _, BldR.k11 q1 q2, bout1 _ _ _ hA.lt a1 a2 hN⟩
  | root => exact ⟨_, _, BldR.k12, bout12 _ hA hN⟩
/-- Another tree in x's place, whoever led to x leading to its top. -/
theorem swap_tree {t T : NL} (hf : InForm t) {x top : Nat} {Mx L' : List Nat} {b' : BT} (hTx : Tree t x Mx) (hlen : T.length = t.length)
    (hB : ∀ p, p < t.length → p ∉ Mx → ndP (ndAt T p) = ndP (ndAt t p) ∧ (ndAt T p).l = (if (ndAt t p).l = (x : Int) then (top : Int) else (ndAt t p).l) ∧ (ndAt T p).r = (if (ndAt t p).r = (x : Int) then (top : Int) else (ndAt t p).r))
    (hA : AT T top b' L') (hP : L'.Perm Mx) {p : Nat} {M : List Nat} (h : Tree t p M) : (p = x ∨ p ∉ Mx) →
    ∃ L b, AT T (sig x top p) b L ∧ GraftR t x b' p b ∧ L.Perm M := by
  have hxm : x ∈ Mx := by obtain ⟨L'', rfl⟩ := hTx.head; simp
  induction h with
  | @leaf p hp hl hr =>
    intro hc
    by_cases e : p = x
    · subst e
      obtain rfl := (Tree.leaf hp hl hr).det hTx
      exact ⟨L', b', by rw [show sig p top p = top from if_pos rfl]; exact hA, GraftR.here, hP⟩
    · have hnm := hc.resolve_left e
      obtain ⟨c1, c2, c3⟩ := hB p hp hnm
      rw [hl, if_neg (by omega)] at c2
      rw [hr, if_neg (by omega)] at c3
      rw [show sig x top p = p from if_neg e]
      exact ⟨[p], _, ⟨Abs.leaf (by omega) c2 c3, Tree.leaf (by omega) c2 c3⟩, by rw [c1]; exact GraftR.leaf e hp hl hr, List.Perm.refl _⟩
  | @inner p l r M1 M2 hp hl hr t1 t2 ih1 ih2 =>
    intro hc
    by_cases e : p = x
    · subst e
      obtain rfl := (Tree.inner hp hl hr t1 t2).det hTx
      exact ⟨L', b', by rw [show sig p top p = top from if_pos rfl]; exact hA, GraftR.here, hP⟩
    · have hnm := hc.resolve_left e
      obtain ⟨c1, c2, c3⟩ := hB p hp hnm
      have kid : ∀ c : Nat, c < t.length → Child t p c → c = x ∨ c ∉ Mx := by
        intro c hcl hch
        by_cases q : c = x
        · exact Or.inl q
        · refine Or.inr fun hm => ?_
          obtain ⟨-, -, y, -, hy, hyc⟩ := tree_up hTx c hm q
          have := one_parent hf (x := p) (p := y) hp (hTx.all y hy) hch hyc
          subst this
          exact hnm hy
      obtain ⟨L1, b1, x1, g1, o1⟩ := ih1 (kid l t1.lt (Or.inl hl))
      obtain ⟨L2, b2, x2, g2, o2⟩ := ih2 (kid r t2.lt (Or.inr hr))
      have hc2 : (ndAt T p).l = ((sig x top l : Nat) : Int) := by
        rw [c2, hl]; unfold sig
        by_cases q : l = x
        · rw [if_pos (by omega), if_pos q]
        · rw [if_neg (by omega), if_neg q]
      have hc3 : (ndAt T p).r = ((sig x top r : Nat) : Int) := by
        rw [c3, hr]; unfold sig
        by_cases q : r = x
        · rw [if_pos (by omega), if_pos q]
        · rw [if_neg (by omega), if_neg q]
      rw [show sig x top p = p from if_neg e]
      exact ⟨p :: (L1 ++ L2), _, ⟨Abs.node (by omega) hc2 hc3 x1.abs x2.abs, Tree.inner (by omega) hc2 hc3 x1.tree x2.tree⟩, by rw [c1]; exact GraftR.node e hp hl hr g1 g2, (o1.append o2).cons p⟩
theorem root_off {t : NL} (hf : InForm t) {x : Nat} {Mx : List Nat} (hTx : Tree t x Mx) (hx : x ≠ 0) : 0 ∉ Mx := by
  intro hm
  obtain ⟨-, -, y, -, hy, hyc⟩ := tree_up hTx 0 hm (Ne.symm hx)
  have := child_pos hf.good (hTx.all y hy) hyc
  omega
theorem no_up {t : NL} {x p : Nat} {Mx : List Nat} (hTx : Tree t x Mx) (hN : Mx.Nodup) (hp : p ∈ Mx) : ¬ Child t p x := by
  intro hc
  cases hTx with
  | leaf hpl hl hr =>
    simp at hp
    subst hp
    rcases hc with h | h <;> omega
  | @inner _ l r L R hpl hl hr t1 t2 =>
    rw [List.nodup_cons, List.mem_append, not_or] at hN
    obtain ⟨⟨n1, n2⟩, n3⟩ := hN
    have up : ∀ {c : Nat} {K : List Nat}, Tree t c K → x ∉ K → p ∈ K → False := by
      intro c K hK hx hpK
      rcases hK.each p hpK with ⟨q1, q2⟩ | ⟨a, b, q1, q2, -, -, m1, m2⟩
      · rcases hc with h | h <;> omega
      · rcases hc with h | h
        · obtain rfl : a = x := by omega
          exact hx m1
        · obtain rfl : b = x := by omega
          exact hx m2
    simp only [List.mem_cons, List.mem_append] at hp
    rcases hp with rfl | hp | hp
    · have := t1.lt
      rcases hc with h | h
      · obtain rfl : l = p := by omega
        obtain ⟨K, rfl⟩ := t1.head
        exact n1 (by simp)
      · obtain rfl : r = p := by omega
        obtain ⟨K, rfl⟩ := t2.head
        exact n2 (by simp)
    · exact up t1 n1 hp
    · exact up t2 n2 hp
/-- A table whose places make one right tree is in form. -/
theorem form_of_abs {T : NL} {B : BT} {L : List Nat} (hA : AT T 0 B L) (hB : B.ok) (hN : L.Nodup) (hl : L.length = T.length) : InForm T := by
  have sub : ∀ {p : Nat} {b : BT} {K : List Nat}, Abs T p b → Tree T p K → b.ok → K.Nodup → ∀ y ∈ K, (ndP (ndAt T y)).ok ∧ (((ndAt T y).l = -1 ∧ (ndAt T y).r = -1) ∨ ∃ l r : Nat, (ndAt T y).l = (l : Int) ∧ (ndAt T y).r = (r : Int) ∧ l < T.length ∧ r < T.length ∧ l ≠ r ∧ l ≠ p ∧ r ≠ p ∧ (ndAt T y).val = 0) := by
    intro p b K hAb
    induction hAb generalizing K with
    | @leaf p hp ha hb =>
      intro hK ho _ y hy
      cases hK with
      | inner _ hl' => omega
      | leaf => simp at hy; subst hy; exact ⟨ho, Or.inl ⟨ha, hb⟩⟩
    | @node p l r a b hp ha hb _ _ ih1 ih2 =>
      intro hK ho hKN y hy
      cases hK with
      | leaf _ hl' => omega
      | @inner _ l' r' K1 K2 _ hl' hr' t1 t2 =>
        obtain rfl := Int.ofNat.inj (ha.symm.trans hl')
        obtain rfl := Int.ofNat.inj (hb.symm.trans hr')
        have hl1 : l ∈ K1 := by obtain ⟨K, rfl⟩ := t1.head; simp
        have hr1 : r ∈ K2 := by obtain ⟨K, rfl⟩ := t2.head; simp
        rw [List.nodup_cons, List.mem_append, not_or, List.nodup_append] at hKN
        obtain ⟨⟨n1, n2⟩, d1, d2, d3⟩ := hKN
        simp only [List.mem_cons, List.mem_append] at hy
        have far : ∀ {K : List Nat} {c : Nat}, Tree T c K → p ∉ K → ∀ {z l r : Nat}, z ∈ K → (ndAt T z).l = (l : Int) → (ndAt T z).r = (r : Int) → l ≠ p ∧ r ≠ p := by
          intro K c hK hpK z l r hz q1 q2
          rcases hK.each z hz with h | ⟨u, v, h1, h2, -, -, m1, m2⟩
          · omega
          · obtain rfl : u = l := by omega
            obtain rfl : v = r := by omega
            exact ⟨fun e => hpK (e ▸ m1), fun e => hpK (e ▸ m2)⟩
        rcases hy with rfl | hy | hy
        · exact ⟨ho.1, Or.inr ⟨l, r, ha, hb, t1.lt, t2.lt, d3 l hl1 r hr1, fun e => n1 (e ▸ hl1), fun e => n2 (e ▸ hr1), ho.2.1⟩⟩
        · obtain ⟨u1, u2⟩ := ih1 t1 ho.2.2.1 d1 y hy
          refine ⟨u1, u2.imp id ?_⟩
          rintro ⟨l2, r2, v1, v2, v3, v4, v5, -, -, v8⟩
          have := far t1 n1 hy v1 v2
          exact ⟨l2, r2, v1, v2, v3, v4, v5, this.1, this.2, v8⟩
        · obtain ⟨u1, u2⟩ := ih2 t2 ho.2.2.2 d2 y hy
          refine ⟨u1, u2.imp id ?_⟩
          rintro ⟨l2, r2, v1, v2, v3, v4, v5, -, -, v8⟩
          have := far t2 n2 hy v1 v2
          exact ⟨l2, r2, v1, v2, v3, v4, v5, this.1, this.2, v8⟩
  refine form_of_tree (fun i hi => ?_) hA.tree hN hl
  obtain ⟨u1, u2⟩ := sub hA.abs hA.tree hB hN i (all_in hN hA.tree.all hl i hi)
  refine ⟨?_, u1⟩
  rcases u2 with h | ⟨l, r, v1, v2, v3, v4, v5, v6, v7, v8⟩
  · exact Or.inl h
  · exact Or.inr ⟨by omega, by omega, by omega, by omega, by omega, v8⟩
end Go.Proofs.YthlhbajaogonnaaDoor


/- Layer 18, pure: the steps on trees; a tree from a place on, with its places. -/

import Derived.Test.YtfjkddjjpbdjkaaTBt2

import Derived.Test.YtfjkddjjpbdjkaaTMir

namespace Go.Proofs.Ytfjkddjjpbdjkaa

def BT.dat : BT → PD
  | .leaf d => d
  | .node d _ _ => d
def BT.wt (b : BT) : Int := b.dat.wt
def PD.w (d : PD) (a : Int) : PD := ⟨d.key, d.inf, a, d.val⟩
def BT.wset (a : Int) : BT → BT
  | .leaf d => .leaf (d.w a)
  | .node d l r => .node (d.w a) l r
theorem BT.wset_size (a : Int) : ∀ b : BT, (b.wset a).size = b.size
  | .leaf _ => rfl
  | .node _ _ _ => rfl
theorem BT.wset_mir (a : Int) : ∀ b : BT, (b.wset a).mir = b.mir.wset a
  | .leaf _ => rfl
  | .node _ _ _ => rfl
theorem BT.wset_ok {a : Int} (h0 : 0 ≤ a) (h1 : a ≤ 1000000) : ∀ {b : BT}, b.ok → (b.wset a).ok
  | .leaf _, h => ⟨h.1, h0, h1⟩
  | .node _ _ _, h => ⟨⟨h.1.1, h0, h1⟩, h.2.1, h.2.2.1, h.2.2.2⟩
theorem BT.ok_wt : ∀ {b : BT}, b.ok → 0 ≤ b.wt ∧ b.wt ≤ 1000000
  | .leaf _, h => h.2
  | .node _ _ _, h => h.1.2
/-- What is there, or isn't. -/
def bwO : Option BT → Int
  | none => -1
  | some b => b.wt
def blO : Option BT → Option BT
  | some (.node _ l _) => some l
  | _ => none
def brO : Option BT → Option BT
  | some (.node _ _ r) => some r
  | _ => none
def inO (o : Option BT) : Bool := (blO o).isSome
/-- Do the conditions of the kind hold? -/
def canO (k : Int) (root : Bool) (o : Option BT) : Bool :=
  if k = 1 then decide (bwO (blO o) = 0) && (decide (bwO (brO o) = 0) && (decide (0 < bwO o) && (decide (bwO (blO (blO o)) = 0) || (decide (bwO (brO (blO o)) = 0) || (decide (bwO (blO (brO o)) = 0) || decide (bwO (brO (brO o)) = 0))))))
  else if k = 2 then decide (0 < bwO o) && (decide (bwO (blO o) = 0) && (decide (bwO (blO (blO o)) = 0) && decide (0 < bwO (brO o))))
  else if k = 3 then decide (0 < bwO o) && (decide (bwO (blO o) = 0) && (decide (bwO (brO (blO o)) = 0) && (decide (0 < bwO (blO (blO o))) && (decide (0 < bwO (brO o)) && inO (brO (blO o))))))
  else if k = 4 then decide (1 < bwO (blO o)) && (decide (bwO (brO o) = 1) && (decide (0 < bwO (blO (brO o))) && decide (0 < bwO (brO (brO o)))))
  else if k = 5 then decide (1 < bwO (blO o)) && (decide (bwO (brO o) = 0) && decide (1 < bwO (blO (brO o))))
  else if k = 6 then decide (1 < bwO (blO o)) && (decide (bwO (brO o) = 0) && (decide (bwO (blO (brO o)) = 1) && (decide (0 < bwO (blO (blO (brO o)))) && decide (0 < bwO (brO (blO (brO o)))))))
  else if k = 7 then decide (1 < bwO (blO o)) && (decide (bwO (brO o) = 0) && (decide (bwO (blO (brO o)) = 1) && (decide (bwO (blO (blO (brO o))) = 0) && (decide (0 < bwO (brO (blO (brO o)))) && inO (blO (blO (brO o)))))))
  else if k = 8 then decide (1 < bwO (blO o)) && (decide (bwO (brO o) = 0) && (decide (bwO (blO (brO o)) = 1) && decide (bwO (brO (blO (brO o))) = 0)))
  else if k = 9 then decide (1 < bwO (blO o)) && (decide (bwO (brO o) = 1) && decide (bwO (brO (brO o)) = 0))
  else if k = 10 then decide (1 < bwO (blO o)) && (decide (bwO (brO o) = 1) && (decide (bwO (blO (brO o)) = 0) && (decide (0 < bwO (brO (brO o))) && inO (blO (brO o)))))
  else if k = 11 then decide (1 < bwO (blO o)) && decide (1 < bwO (brO o))
  else root && decide (bwO o ≠ 1)
/-- A step of a kind: what stands there, and what stands there behind it. -/
inductive StepR (root : Bool) : Int → BT → BT → Prop
  | blk {x : PD} {l r : BT} : l.wt = 0 → r.wt = 0 → 0 < x.wt → (bwO (blO (some l)) = 0 ∨ bwO (brO (some l)) = 0 ∨ bwO (blO (some r)) = 0 ∨ bwO (brO (some r)) = 0) → StepR root 1 (.node x l r) (.node (x.w (x.wt - 1)) (l.wset 1) (r.wset 1))
  | rb1 {x l : PD} {ll lr r : BT} : 0 < x.wt → l.wt = 0 → ll.wt = 0 → 0 < r.wt → StepR root 2 (.node x (.node l ll lr) r) (.node (l.w x.wt) ll (.node (x.w 0) lr r))
  | rb2 {x l lr : PD} {ll lrl lrr r : BT} : 0 < x.wt → l.wt = 0 → lr.wt = 0 → 0 < ll.wt → 0 < r.wt → StepR root 3 (.node x (.node l ll (.node lr lrl lrr)) r) (.node (lr.w x.wt) (.node (l.w 0) ll lrl) (.node (x.w 0) lrr r))
  | push {x r : PD} {l rl rr : BT} : 1 < l.wt → r.wt = 1 → 0 < rl.wt → 0 < rr.wt → StepR root 4 (.node x l (.node r rl rr)) (.node (x.w (x.wt + 1)) (l.wset (l.wt - 1)) (.node (r.w 0) rl rr))
  | w1 {x r : PD} {l rl rr : BT} : 1 < l.wt → r.wt = 0 → 1 < rl.wt → StepR root 5 (.node x l (.node r rl rr)) (.node (r.w x.wt) (.node (x.w 1) (l.wset (l.wt - 1)) (rl.wset (rl.wt - 1))) rr)
  | w2 {x r rl : PD} {l rll rlr rr : BT} : 1 < l.wt → r.wt = 0 → rl.wt = 1 → 0 < rll.wt → 0 < rlr.wt → StepR root 6 (.node x l (.node r (.node rl rll rlr) rr)) (.node (r.w x.wt) (.node (x.w 1) (l.wset (l.wt - 1)) (.node (rl.w 0) rll rlr)) rr)
  | w3 {x r rl rll : PD} {l rlll rllr rlr rr : BT} : 1 < l.wt → r.wt = 0 → rl.wt = 1 → rll.wt = 0 → 0 < rlr.wt → StepR root 7 (.node x l (.node r (.node rl (.node rll rlll rllr) rlr) rr)) (.node (r.w x.wt) (.node (rll.w 0) (.node (x.w 1) (l.wset (l.wt - 1)) rlll) (.node (rl.w 1) rllr rlr)) rr)
  | w4 {x r rl : PD} {l rll rlr rr : BT} : 1 < l.wt → r.wt = 0 → rl.wt = 1 → rlr.wt = 0 → StepR root 8 (.node x l (.node r (.node rl rll rlr) rr)) (.node (r.w x.wt) (.node (rl.w 0) (.node (x.w 1) (l.wset (l.wt - 1)) rll) (rlr.wset 1)) rr)
  | w5 {x r : PD} {l rl rr : BT} : 1 < l.wt → r.wt = 1 → rr.wt = 0 → StepR root 9 (.node x l (.node r rl rr)) (.node (r.w x.wt) (.node (x.w 1) (l.wset (l.wt - 1)) rl) (rr.wset 1))
  | w6 {x r rl : PD} {l rll rlr rr : BT} : 1 < l.wt → r.wt = 1 → rl.wt = 0 → 0 < rr.wt → StepR root 10 (.node x l (.node r (.node rl rll rlr) rr)) (.node (rl.w x.wt) (.node (x.w 1) (l.wset (l.wt - 1)) rll) (.node (r.w 1) rlr rr))
  | w7 {x : PD} {l r : BT} : 1 < l.wt → 1 < r.wt → StepR root 11 (.node x l r) (.node (x.w (x.wt + 1)) (l.wset (l.wt - 1)) (r.wset (r.wt - 1)))
  | root {b : BT} : root = true → b.wt ≠ 1 → StepR root 12 b (b.wset 1)
theorem step_of_can {k : Int} {root : Bool} {b : BT} (hk : 1 ≤ k ∧ k ≤ 12) (h : canO k root (some b) = true) : ∃ b', StepR root k b b' := by
  have c : k = 1 ∨ k = 2 ∨ k = 3 ∨ k = 4 ∨ k = 5 ∨ k = 6 ∨ k = 7 ∨ k = 8 ∨ k = 9 ∨ k = 10 ∨ k = 11 ∨ k = 12 := by omega
  rcases c with rfl | rfl | rfl | rfl | rfl | rfl | rfl | rfl | rfl | rfl | rfl | rfl
  · rcases b with d | ⟨x, l, r⟩
    · simp [canO] at h; simp [blO, bwO] at h
    · simp [canO] at h; simp [blO, brO] at h
      exact ⟨_, StepR.blk h.1 h.2.1 h.2.2.1 h.2.2.2⟩
  · rcases b with d | ⟨x, l | ⟨l, ll, lr⟩, r⟩
    · simp [canO] at h; simp [blO, bwO] at h
    · simp [canO] at h; simp [blO, bwO] at h
    · simp [canO] at h; simp [blO, brO] at h
      exact ⟨_, StepR.rb1 h.1 h.2.1 h.2.2.1 h.2.2.2⟩
  · rcases b with d | ⟨x, l | ⟨l, ll, lr | ⟨lr, lrl, lrr⟩⟩, r⟩
    · simp [canO] at h; simp [blO, bwO] at h
    · simp [canO] at h; simp [blO, brO, bwO] at h
    · simp [canO] at h; simp [blO, brO, inO] at h
    · simp [canO] at h; simp [blO, brO, inO] at h
      exact ⟨_, StepR.rb2 h.1 h.2.1 h.2.2.1 h.2.2.2.1 h.2.2.2.2⟩
  · rcases b with d | ⟨x, l, r | ⟨r, rl, rr⟩⟩
    · simp [canO] at h; simp [blO, bwO] at h
    · simp [canO] at h; simp [blO, brO, bwO] at h
    · simp [canO] at h; simp [blO, brO] at h
      exact ⟨_, StepR.push h.1 h.2.1 h.2.2.1 h.2.2.2⟩
  · rcases b with d | ⟨x, l, r | ⟨r, rl, rr⟩⟩
    · simp [canO] at h; simp [blO, bwO] at h
    · simp [canO] at h; simp [blO, brO, bwO] at h
    · simp [canO] at h; simp [blO, brO] at h
      exact ⟨_, StepR.w1 h.1 h.2.1 h.2.2⟩
  · rcases b with d | ⟨x, l, r | ⟨r, rl | ⟨rl, rll, rlr⟩, rr⟩⟩
    · simp [canO] at h; simp [blO, bwO] at h
    · simp [canO] at h; simp [blO, brO, bwO] at h
    · simp [canO] at h; simp [blO, brO, bwO] at h
    · simp [canO] at h; simp [blO, brO] at h
      exact ⟨_, StepR.w2 h.1 h.2.1 h.2.2.1 h.2.2.2.1 h.2.2.2.2⟩
  · rcases b with d | ⟨x, l, r | ⟨r, rl | ⟨rl, rll | ⟨rll, rlll, rllr⟩, rlr⟩, rr⟩⟩
    · simp [canO] at h; simp [blO, bwO] at h
    · simp [canO] at h; simp [blO, brO, bwO] at h
    · simp [canO] at h; simp [blO, brO, bwO] at h
    · simp [canO] at h; simp [blO, brO, inO] at h
    · simp [canO] at h; simp [blO, brO, inO] at h
      exact ⟨_, StepR.w3 h.1 h.2.1 h.2.2.1 h.2.2.2.1 h.2.2.2.2⟩
  · rcases b with d | ⟨x, l, r | ⟨r, rl | ⟨rl, rll, rlr⟩, rr⟩⟩
    · simp [canO] at h; simp [blO, bwO] at h
    · simp [canO] at h; simp [blO, brO, bwO] at h
    · simp [canO] at h; simp [blO, brO, bwO] at h
    · simp [canO] at h; simp [blO, brO] at h
      exact ⟨_, StepR.w4 h.1 h.2.1 h.2.2.1 h.2.2.2⟩
  · rcases b with d | ⟨x, l, r | ⟨r, rl, rr⟩⟩
    · simp [canO] at h; simp [blO, bwO] at h
    · simp [canO] at h; simp [blO, brO, bwO] at h
    · simp [canO] at h; simp [blO, brO] at h
      exact ⟨_, StepR.w5 h.1 h.2.1 h.2.2⟩
  · rcases b with d | ⟨x, l, r | ⟨r, rl | ⟨rl, rll, rlr⟩, rr⟩⟩
    · simp [canO] at h; simp [blO, bwO] at h
    · simp [canO] at h; simp [blO, brO, bwO] at h
    · simp [canO] at h; simp [blO, brO, inO] at h
    · simp [canO] at h; simp [blO, brO, inO] at h
      exact ⟨_, StepR.w6 h.1 h.2.1 h.2.2.1 h.2.2.2⟩
  · rcases b with d | ⟨x, l, r⟩
    · simp [canO] at h; simp [blO, bwO] at h
    · simp [canO] at h; simp [blO, brO] at h
      exact ⟨_, StepR.w7 h.1 h.2⟩
  · simp [canO] at h
    exact ⟨_, StepR.root h.1 h.2⟩
theorem can_of_step {k : Int} {root : Bool} {b b' : BT} (h : StepR root k b b') : canO k root (some b) = true := by
  cases h <;> simp [canO] <;> simp_all [blO, brO, bwO, inO, BT.wt, BT.dat]
theorem StepR.det {k : Int} {root : Bool} {b x : BT} (h : StepR root k b x) : ∀ {y : BT}, StepR root k b y → x = y := by
  intro y h'
  cases h <;> cases h' <;> rfl
/-- A tree from a place on, with its places. -/
structure AT (t : NL) (p : Nat) (b : BT) (L : List Nat) : Prop where
  abs : Abs t p b
  tree : Tree t p L
theorem AT.mem {t : NL} {p : Nat} {b : BT} {L : List Nat} (h : AT t p b L) : p ∈ L := by obtain ⟨L', rfl⟩ := h.tree.head; simp
theorem AT.lt {t : NL} {p : Nat} {b : BT} {L : List Nat} (h : AT t p b L) : p < t.length := h.abs.lt
theorem AT.open {t : NL} {p : Nat} {d : PD} {a b : BT} {M : List Nat} (h : AT t p (.node d a b) M) : ∃ (l r : Nat) (L R : List Nat), M = p :: (L ++ R) ∧ d = ndP (ndAt t p) ∧ (ndAt t p).l = (l : Int) ∧ (ndAt t p).r = (r : Int) ∧ AT t l a L ∧ AT t r b R := by
  obtain ⟨h1, h2⟩ := h
  cases h1 with
  | node hp hl hr a1 a2 =>
    cases h2 with
    | leaf _ hl' => omega
    | inner _ hl' hr' t1 t2 =>
      obtain rfl := Int.ofNat.inj (hl.symm.trans hl')
      obtain rfl := Int.ofNat.inj (hr.symm.trans hr')
      exact ⟨_, _, _, _, rfl, rfl, hl, hr, ⟨a1, t1⟩, ⟨a2, t2⟩⟩
theorem AT.keep {t T : NL} {p : Nat} {b : BT} {L : List Nat} (h : AT t p b L) (hl : T.length = t.length) (hk : ∀ y ∈ L, ndAt T y = ndAt t y) : AT T p b L := by
  obtain ⟨h1, h2⟩ := h
  induction h1 generalizing L with
  | leaf hp ha hb =>
    cases h2 with
    | inner _ hl' => omega
    | leaf =>
      have e := hk _ List.mem_cons_self
      refine ⟨?_, Tree.leaf (by omega) (by rw [e]; exact ha) (by rw [e]; exact hb)⟩
      rw [← e]
      exact Abs.leaf (by omega) (by rw [e]; exact ha) (by rw [e]; exact hb)
  | node hp ha hb _ _ ih1 ih2 =>
    cases h2 with
    | leaf _ hl' => omega
    | inner _ hl' hr' t1 t2 =>
      obtain rfl := Int.ofNat.inj (ha.symm.trans hl')
      obtain rfl := Int.ofNat.inj (hb.symm.trans hr')
      have e := hk _ List.mem_cons_self
      have i1 := ih1 (fun y hy => hk y (by simp [hy])) t1
      have i2 := ih2 (fun y hy => hk y (by simp [hy])) t2
      refine ⟨?_, Tree.inner (by omega) (by rw [e]; exact ha) (by rw [e]; exact hb) i1.tree i2.tree⟩
      rw [← e]
      exact Abs.node (by omega) (by rw [e]; exact ha) (by rw [e]; exact hb) i1.abs i2.abs
theorem ndAt_set_of_ne (t : NL) (i p : Nat) (m : NdD) (h : p ≠ i) : ndAt (t.set i m) p = ndAt t p := by
  unfold ndAt
  rw [List.getD_eq_getElem?_getD, List.getElem?_set_ne (Ne.symm h), ← List.getD_eq_getElem?_getD]
def wth (T : NL) (p : Nat) (a : Int) : NL := T.set p ⟨(ndAt T p).key, (ndAt T p).inf, a, (ndAt T p).val, (ndAt T p).l, (ndAt T p).r⟩
def ovr (T : NL) (p : Nat) (a l r : Int) : NL := T.set p ⟨(ndAt T p).key, (ndAt T p).inf, a, (ndAt T p).val, l, r⟩
theorem wth_length (T : NL) (p : Nat) (a : Int) : (wth T p a).length = T.length := by simp [wth]
theorem ovr_length (T : NL) (p : Nat) (a l r : Int) : (ovr T p a l r).length = T.length := by simp [ovr]
theorem wth_ne (T : NL) (p q : Nat) (a : Int) (h : q ≠ p) : ndAt (wth T p a) q = ndAt T q := ndAt_set_of_ne _ _ _ _ h
theorem ovr_ne (T : NL) (p q : Nat) (a l r : Int) (h : q ≠ p) : ndAt (ovr T p a l r) q = ndAt T q := ndAt_set_of_ne _ _ _ _ h
theorem wth_at (T : NL) (p : Nat) (a : Int) (h : p < T.length) : ndAt (wth T p a) p = ⟨(ndAt T p).key, (ndAt T p).inf, a, (ndAt T p).val, (ndAt T p).l, (ndAt T p).r⟩ := ndAt_set _ _ _ h
theorem ovr_at (T : NL) (p : Nat) (a l r : Int) (h : p < T.length) : ndAt (ovr T p a l r) p = ⟨(ndAt T p).key, (ndAt T p).inf, a, (ndAt T p).val, l, r⟩ := ndAt_set _ _ _ h
theorem AT.wth_off {t : NL} {p q : Nat} {a : Int} {b : BT} {L : List Nat} (h : AT t p b L) (hq : q ∉ L) : AT (wth t q a) p b L := h.keep (wth_length _ _ _) fun _ hy => wth_ne _ _ _ _ fun e => hq (e ▸ hy)
theorem AT.ovr_off {t : NL} {p q : Nat} {a l r : Int} {b : BT} {L : List Nat} (h : AT t p b L) (hq : q ∉ L) : AT (ovr t q a l r) p b L := h.keep (ovr_length _ _ _ _ _) fun _ hy => ovr_ne _ _ _ _ _ _ fun e => hq (e ▸ hy)
theorem AT.wth {t : NL} {p : Nat} {a : Int} {b : BT} {L : List Nat} (h : AT t p b L) (hN : L.Nodup) : AT (wth t p a) p (b.wset a) L := by
  have hp := h.lt
  have e := wth_at t p a hp
  obtain ⟨h1, h2⟩ := h
  cases h1 with
  | leaf _ ha hb =>
    cases h2 with
    | inner _ hl' => omega
    | leaf =>
      have A := Abs.leaf (t := Go.Proofs.Ytfjkddjjpbdjkaa.wth t p a) (p := p) (by rw [wth_length]; exact hp) (by rw [e]; exact ha) (by rw [e]; exact hb)
      rw [e] at A
      exact ⟨A, Tree.leaf (by rw [wth_length]; exact hp) (by rw [e]; exact ha) (by rw [e]; exact hb)⟩
  | node _ ha hb a1 a2 =>
    cases h2 with
    | leaf _ hl' => omega
    | @inner _ l r L R _ hl' hr' t1 t2 =>
      obtain rfl := Int.ofNat.inj (ha.symm.trans hl')
      obtain rfl := Int.ofNat.inj (hb.symm.trans hr')
      rw [List.nodup_cons, List.mem_append, not_or] at hN
      have i1 := AT.wth_off (q := p) (a := a) ⟨a1, t1⟩ hN.1.1
      have i2 := AT.wth_off (q := p) (a := a) ⟨a2, t2⟩ hN.1.2
      have A := Abs.node (t := Go.Proofs.Ytfjkddjjpbdjkaa.wth t p a) (p := p) (by rw [wth_length]; exact hp) (by rw [e]; exact ha) (by rw [e]; exact hb) i1.abs i2.abs
      rw [e] at A
      exact ⟨A, Tree.inner (by rw [wth_length]; exact hp) (by rw [e]; exact ha) (by rw [e]; exact hb) i1.tree i2.tree⟩
/-- A node over two trees. -/
theorem AT.over {t : NL} {p l r : Nat} {a : Int} {x y : BT} {L R : List Nat} {n : NdD} (hn : ndAt t p = n) (hp : p < t.length) (h1 : AT t l x L) (h2 : AT t r y R) (q1 : p ∉ L) (q2 : p ∉ R) : AT (ovr t p a (l : Int) (r : Int)) p (.node ((ndP n).w a) x y) (p :: (L ++ R)) := by
  subst hn
  have e := ovr_at t p a l r hp
  have i1 := AT.ovr_off (q := p) (a := a) (l := l) (r := r) h1 q1
  have i2 := AT.ovr_off (q := p) (a := a) (l := l) (r := r) h2 q2
  have A := Abs.node (t := ovr t p a l r) (p := p) (l := l) (r := r) (by rw [ovr_length]; exact hp) (by rw [e]) (by rw [e]) i1.abs i2.abs
  rw [e] at A
  exact ⟨A, Tree.inner (by rw [ovr_length]; exact hp) (by rw [e]) (by rw [e]) i1.tree i2.tree⟩
end Go.Proofs.Ytfjkddjjpbdjkaa


/- Layer 18, pure: steps keep pairs and order. -/

import Derived.Test.YtfjkddjjpbdjkaaSQ7

namespace Go.Proofs.Ytfjkddjjpbdjkaa

def goesD (d : PD) (key : Int) : Prop := d.inf = 1 ∨ key < d.key
/-- Does the move's left side hold the key? -/
def goesM (mi : Bool) (d : PD) (key : Int) : Prop := if mi then ¬ goesD d key else goesD d key
/-- In order, within a span, as a move sees it. -/
def BT.ord (mi : Bool) : BT → (Int → Prop) → Prop
  | .leaf d, S => d.inf = 0 → S d.key
  | .node d l r, S => l.ord mi (fun k => S k ∧ goesM mi d k) ∧ r.ord mi (fun k => S k ∧ ¬ goesM mi d k)
theorem BT.ord_mono {mi : Bool} : ∀ (b : BT) {S S' : Int → Prop}, (∀ k, S k → S' k) → b.ord mi S → b.ord mi S'
  | .leaf _, _, _, h, q => fun e => h _ (q e)
  | .node _ l r, _, _, h, q => ⟨l.ord_mono (fun k p => ⟨h k p.1, p.2⟩) q.1, r.ord_mono (fun k p => ⟨h k p.1, p.2⟩) q.2⟩
theorem BT.ord_mir (mi : Bool) : ∀ (b : BT) {S : Int → Prop}, b.mir.ord (!mi) S ↔ b.ord mi S
  | .leaf _, _ => Iff.rfl
  | .node d l r, S => by
    have e1 : ∀ k, goesM (!mi) d k ↔ ¬ goesM mi d k := fun k => by cases mi <;> simp [goesM]
    have e2 : ∀ k, ¬ goesM (!mi) d k ↔ goesM mi d k := fun k => by cases mi <;> simp [goesM]
    simp only [BT.mir, BT.ord, BT.ord_mir mi l, BT.ord_mir mi r, e1]
    constructor
    · rintro ⟨a, b⟩; exact ⟨l.ord_mono (fun k p => ⟨p.1, Classical.not_not.1 p.2⟩) b, a⟩
    · rintro ⟨a, b⟩; exact ⟨b, l.ord_mono (fun k p => ⟨p.1, not_not_intro p.2⟩) a⟩
theorem BT.ord_mt (mi : Bool) (b : BT) {S : Int → Prop} : (b.mt mi).ord mi S ↔ b.ord false S := by
  cases mi
  · exact Iff.rfl
  · exact b.ord_mir false
/-- A tree of keys has a leaf, whose key lies in the span. -/
theorem BT.ord_some {mi : Bool} : ∀ {b : BT} {S : Int → Prop}, b.all (fun d => d.inf = 0) → b.ord mi S → ∃ k, S k
  | .leaf d, S, h, q => ⟨d.key, q h⟩
  | .node d l r, S, h, q => by obtain ⟨k, hk⟩ := BT.ord_some h.2.1 q.1; exact ⟨k, hk.1⟩
theorem goes_key {d : PD} (h : d.inf = 0) (k : Int) : goesM false d k ↔ k < d.key := by simp [goesM, goesD, h]
theorem goes_keyM {d : PD} (h : d.inf = 0) (k : Int) : goesM true d k ↔ d.key ≤ k := by simp [goesM, goesD, h]
theorem BT.wset_ord (mi : Bool) (a : Int) (b : BT) (S : Int → Prop) : (b.wset a).ord mi S ↔ b.ord mi S := by cases b <;> exact Iff.rfl
theorem BT.wset_all {P : PD → Prop} {a : Int} (hP : ∀ d, P (d.w a) ↔ P d) (b : BT) : (b.wset a).all P ↔ b.all P := by cases b <;> simp [BT.wset, BT.all, hP]
theorem BT.wset_prs (a : Int) (b : BT) : (b.wset a).prs = b.prs := by cases b <;> rfl
theorem step_prs {root : Bool} {k : Int} {b c : BT} (h : StepR root k b c) : c.prs = b.prs := by
  cases h <;> simp [BT.prs, BT.wset_prs]
theorem step_all {root : Bool} {k : Int} {b c : BT} {P : PD → Prop} (hP : ∀ d a, P (d.w a) ↔ P d) (h : StepR root k b c) : c.all P ↔ b.all P := by
  cases h <;> simp only [BT.all, hP, BT.wset_all (hP · _)] <;> (constructor <;> intro h <;> simp_all)
/-- A step keeps the order. -/
theorem step_ord0 {root : Bool} {k : Int} {b c : BT} (h : StepR root k b c) (hk : b.all (fun d => d.inf = 0)) {S : Int → Prop} (ho : b.ord false S) : c.ord false S := by
  have W : ∀ (a : Int) (b : BT) {S S' : Int → Prop}, (∀ k, S k → S' k) → b.ord false S → (b.wset a).ord false S' := fun a b S S' h q => (BT.wset_ord false a b S').2 (b.ord_mono h q)
  cases h with
  | blk => exact ⟨W _ _ (fun k p => p) ho.1, W _ _ (fun k p => p) ho.2⟩
  | @rb1 x l ll lr r =>
    obtain ⟨kx, ⟨kl, kll, klr⟩, kr⟩ := hk
    obtain ⟨⟨h1, h2⟩, h3⟩ := ho
    obtain ⟨z0, hz0⟩ := BT.ord_some klr h2
    have gx := goes_key kx
    have gl := goes_key kl
    have gl' := goes_key (d := l.w x.wt) kl
    have gx' := goes_key (d := x.w 0) kx
    simp only [PD.w, gx, gl] at *
    refine ⟨ll.ord_mono (fun k p => ?_) h1, lr.ord_mono (fun k p => ?_) h2, r.ord_mono (fun k p => ?_) h3⟩ <;> simp only [gl', gx'] <;> (repeat' apply And.intro) <;> first | omega | exact p.1 | exact p.1.1 | exact p.1.1.1 | exact p.1.1.1.1 | exact p.1.1.1.1.1
  | @rb2 x l lr ll lrl lrr r =>
    obtain ⟨kx, ⟨kl, kll, ⟨klr, klrl, klrr⟩⟩, kr⟩ := hk
    obtain ⟨⟨h1, ⟨h2, h3⟩⟩, h4⟩ := ho
    obtain ⟨z0, hz0⟩ := BT.ord_some klrl h2
    obtain ⟨z1, hz1⟩ := BT.ord_some klrr h3
    have gx := goes_key kx
    have gl := goes_key kl
    have glr := goes_key klr
    have glr' := goes_key (d := lr.w x.wt) klr
    have gl' := goes_key (d := l.w 0) kl
    have gx' := goes_key (d := x.w 0) kx
    simp only [PD.w, gx, gl, glr] at *
    refine ⟨⟨ll.ord_mono (fun k p => ?_) h1, lrl.ord_mono (fun k p => ?_) h2⟩, lrr.ord_mono (fun k p => ?_) h3, r.ord_mono (fun k p => ?_) h4⟩ <;> simp only [glr', gl', gx'] <;> (repeat' apply And.intro) <;> first | omega | exact p.1 | exact p.1.1 | exact p.1.1.1 | exact p.1.1.1.1 | exact p.1.1.1.1.1
  | push => exact ⟨W _ _ (fun k p => p) ho.1, ho.2⟩
  | @w1 x r l rl rr =>
    obtain ⟨kx, kl, ⟨kr, krl, krr⟩⟩ := hk
    obtain ⟨h1, h2, h3⟩ := ho
    obtain ⟨z0, hz0⟩ := BT.ord_some krl h2
    have gx := goes_key kx
    have gr := goes_key kr
    have gr' := goes_key (d := r.w x.wt) kr
    have gx' := goes_key (d := x.w 1) kx
    simp only [PD.w, gx, gr] at *
    refine ⟨⟨W _ l (fun k p => ?_) h1, W _ rl (fun k p => ?_) h2⟩, rr.ord_mono (fun k p => ?_) h3⟩ <;> simp only [gr', gx'] <;> (repeat' apply And.intro) <;> first | omega | exact p.1 | exact p.1.1 | exact p.1.1.1 | exact p.1.1.1.1 | exact p.1.1.1.1.1
  | @w2 x r rl l rll rlr rr =>
    obtain ⟨kx, kl, ⟨kr, ⟨krl, krll, krlr⟩, krr⟩⟩ := hk
    obtain ⟨h1, ⟨h2, h3⟩, h4⟩ := ho
    obtain ⟨z0, hz0⟩ := BT.ord_some krll h2
    obtain ⟨z1, hz1⟩ := BT.ord_some krlr h3
    have gx := goes_key kx
    have gr := goes_key kr
    have grl := goes_key krl
    have gr' := goes_key (d := r.w x.wt) kr
    have gx' := goes_key (d := x.w 1) kx
    have grl' := goes_key (d := rl.w 0) krl
    simp only [PD.w, gx, gr, grl] at *
    refine ⟨⟨W _ l (fun k p => ?_) h1, rll.ord_mono (fun k p => ?_) h2, rlr.ord_mono (fun k p => ?_) h3⟩, rr.ord_mono (fun k p => ?_) h4⟩ <;> simp only [gr', gx', grl'] <;> (repeat' apply And.intro) <;> first | omega | exact p.1 | exact p.1.1 | exact p.1.1.1 | exact p.1.1.1.1 | exact p.1.1.1.1.1
  | @w3 x r rl rll l rlll rllr rlr rr =>
    obtain ⟨kx, kl, ⟨kr, ⟨krl, ⟨krll, krlll, krllr⟩, krlr⟩, krr⟩⟩ := hk
    obtain ⟨h1, ⟨⟨h2, h3⟩, h4⟩, h5⟩ := ho
    obtain ⟨z0, hz0⟩ := BT.ord_some krlll h2
    obtain ⟨z1, hz1⟩ := BT.ord_some krllr h3
    obtain ⟨z2, hz2⟩ := BT.ord_some krlr h4
    have gx := goes_key kx
    have gr := goes_key kr
    have grl := goes_key krl
    have grll := goes_key krll
    have gr' := goes_key (d := r.w x.wt) kr
    have gx' := goes_key (d := x.w 1) kx
    have grl' := goes_key (d := rl.w 1) krl
    have grll' := goes_key (d := rll.w 0) krll
    simp only [PD.w, gx, gr, grl, grll] at *
    refine ⟨⟨⟨W _ l (fun k p => ?_) h1, rlll.ord_mono (fun k p => ?_) h2⟩, rllr.ord_mono (fun k p => ?_) h3, rlr.ord_mono (fun k p => ?_) h4⟩, rr.ord_mono (fun k p => ?_) h5⟩ <;> simp only [gr', gx', grl', grll'] <;> (repeat' apply And.intro) <;> first | omega | exact p.1 | exact p.1.1 | exact p.1.1.1 | exact p.1.1.1.1 | exact p.1.1.1.1.1
  | @w4 x r rl l rll rlr rr =>
    obtain ⟨kx, kl, ⟨kr, ⟨krl, krll, krlr⟩, krr⟩⟩ := hk
    obtain ⟨h1, ⟨h2, h3⟩, h4⟩ := ho
    obtain ⟨z0, hz0⟩ := BT.ord_some krll h2
    obtain ⟨z1, hz1⟩ := BT.ord_some krlr h3
    have gx := goes_key kx
    have gr := goes_key kr
    have grl := goes_key krl
    have gr' := goes_key (d := r.w x.wt) kr
    have gx' := goes_key (d := x.w 1) kx
    have grl' := goes_key (d := rl.w 0) krl
    simp only [PD.w, gx, gr, grl] at *
    refine ⟨⟨⟨W _ l (fun k p => ?_) h1, rll.ord_mono (fun k p => ?_) h2⟩, W _ rlr (fun k p => ?_) h3⟩, rr.ord_mono (fun k p => ?_) h4⟩ <;> simp only [gr', gx', grl'] <;> (repeat' apply And.intro) <;> first | omega | exact p.1 | exact p.1.1 | exact p.1.1.1 | exact p.1.1.1.1 | exact p.1.1.1.1.1
  | @w5 x r l rl rr =>
    obtain ⟨kx, kl, ⟨kr, krl, krr⟩⟩ := hk
    obtain ⟨h1, h2, h3⟩ := ho
    obtain ⟨z0, hz0⟩ := BT.ord_some krl h2
    have gx := goes_key kx
    have gr := goes_key kr
    have gr' := goes_key (d := r.w x.wt) kr
    have gx' := goes_key (d := x.w 1) kx
    simp only [PD.w, gx, gr] at *
    refine ⟨⟨W _ l (fun k p => ?_) h1, rl.ord_mono (fun k p => ?_) h2⟩, W _ rr (fun k p => ?_) h3⟩ <;> simp only [gr', gx'] <;> (repeat' apply And.intro) <;> first | omega | exact p.1 | exact p.1.1 | exact p.1.1.1 | exact p.1.1.1.1 | exact p.1.1.1.1.1
  | @w6 x r rl l rll rlr rr =>
    obtain ⟨kx, kl, ⟨kr, ⟨krl, krll, krlr⟩, krr⟩⟩ := hk
    obtain ⟨h1, ⟨h2, h3⟩, h4⟩ := ho
    obtain ⟨z0, hz0⟩ := BT.ord_some krll h2
    obtain ⟨z1, hz1⟩ := BT.ord_some krlr h3
    have gx := goes_key kx
    have gr := goes_key kr
    have grl := goes_key krl
    have grl' := goes_key (d := rl.w x.wt) krl
    have gx' := goes_key (d := x.w 1) kx
    have gr' := goes_key (d := r.w 1) kr
    simp only [PD.w, gx, gr, grl] at *
    refine ⟨⟨W _ l (fun k p => ?_) h1, rll.ord_mono (fun k p => ?_) h2⟩, rlr.ord_mono (fun k p => ?_) h3, rr.ord_mono (fun k p => ?_) h4⟩ <;> simp only [grl', gx', gr'] <;> (repeat' apply And.intro) <;> first | omega | exact p.1 | exact p.1.1 | exact p.1.1.1 | exact p.1.1.1.1 | exact p.1.1.1.1.1
  | w7 => exact ⟨W _ _ (fun k p => p) ho.1, W _ _ (fun k p => p) ho.2⟩
  | root => exact W _ _ (fun k p => p) ho
theorem step_ord1 {root : Bool} {k : Int} {b c : BT} (h : StepR root k b c) (hk : b.all (fun d => d.inf = 0)) {S : Int → Prop} (ho : b.ord true S) : c.ord true S := by
  have W : ∀ (a : Int) (b : BT) {S S' : Int → Prop}, (∀ k, S k → S' k) → b.ord true S → (b.wset a).ord true S' := fun a b S S' h q => (BT.wset_ord true a b S').2 (b.ord_mono h q)
  cases h with
  | blk => exact ⟨W _ _ (fun k p => p) ho.1, W _ _ (fun k p => p) ho.2⟩
  | @rb1 x l ll lr r =>
    obtain ⟨kx, ⟨kl, kll, klr⟩, kr⟩ := hk
    obtain ⟨⟨h1, h2⟩, h3⟩ := ho
    obtain ⟨z0, hz0⟩ := BT.ord_some klr h2
    have gx := goes_keyM kx
    have gl := goes_keyM kl
    have gl' := goes_keyM (d := l.w x.wt) kl
    have gx' := goes_keyM (d := x.w 0) kx
    simp only [PD.w, gx, gl] at *
    refine ⟨ll.ord_mono (fun k p => ?_) h1, lr.ord_mono (fun k p => ?_) h2, r.ord_mono (fun k p => ?_) h3⟩ <;> simp only [gl', gx'] <;> (repeat' apply And.intro) <;> first | omega | exact p.1 | exact p.1.1 | exact p.1.1.1 | exact p.1.1.1.1 | exact p.1.1.1.1.1
  | @rb2 x l lr ll lrl lrr r =>
    obtain ⟨kx, ⟨kl, kll, ⟨klr, klrl, klrr⟩⟩, kr⟩ := hk
    obtain ⟨⟨h1, ⟨h2, h3⟩⟩, h4⟩ := ho
    obtain ⟨z0, hz0⟩ := BT.ord_some klrl h2
    obtain ⟨z1, hz1⟩ := BT.ord_some klrr h3
    have gx := goes_keyM kx
    have gl := goes_keyM kl
    have glr := goes_keyM klr
    have glr' := goes_keyM (d := lr.w x.wt) klr
    have gl' := goes_keyM (d := l.w 0) kl
    have gx' := goes_keyM (d := x.w 0) kx
    simp only [PD.w, gx, gl, glr] at *
    refine ⟨⟨ll.ord_mono (fun k p => ?_) h1, lrl.ord_mono (fun k p => ?_) h2⟩, lrr.ord_mono (fun k p => ?_) h3, r.ord_mono (fun k p => ?_) h4⟩ <;> simp only [glr', gl', gx'] <;> (repeat' apply And.intro) <;> first | omega | exact p.1 | exact p.1.1 | exact p.1.1.1 | exact p.1.1.1.1 | exact p.1.1.1.1.1
  | push => exact ⟨W _ _ (fun k p => p) ho.1, ho.2⟩
  | @w1 x r l rl rr =>
    obtain ⟨kx, kl, ⟨kr, krl, krr⟩⟩ := hk
    obtain ⟨h1, h2, h3⟩ := ho
    obtain ⟨z0, hz0⟩ := BT.ord_some krl h2
    have gx := goes_keyM kx
    have gr := goes_keyM kr
    have gr' := goes_keyM (d := r.w x.wt) kr
    have gx' := goes_keyM (d := x.w 1) kx
    simp only [PD.w, gx, gr] at *
    refine ⟨⟨W _ l (fun k p => ?_) h1, W _ rl (fun k p => ?_) h2⟩, rr.ord_mono (fun k p => ?_) h3⟩ <;> simp only [gr', gx'] <;> (repeat' apply And.intro) <;> first | omega | exact p.1 | exact p.1.1 | exact p.1.1.1 | exact p.1.1.1.1 | exact p.1.1.1.1.1
  | @w2 x r rl l rll rlr rr =>
    obtain ⟨kx, kl, ⟨kr, ⟨krl, krll, krlr⟩, krr⟩⟩ := hk
    obtain ⟨h1, ⟨h2, h3⟩, h4⟩ := ho
    obtain ⟨z0, hz0⟩ := BT.ord_some krll h2
    obtain ⟨z1, hz1⟩ := BT.ord_some krlr h3
    have gx := goes_keyM kx
    have gr := goes_keyM kr
    have grl := goes_keyM krl
    have gr' := goes_keyM (d := r.w x.wt) kr
    have gx' := goes_keyM (d := x.w 1) kx
    have grl' := goes_keyM (d := rl.w 0) krl
    simp only [PD.w, gx, gr, grl] at *
    refine ⟨⟨W _ l (fun k p => ?_) h1, rll.ord_mono (fun k p => ?_) h2, rlr.ord_mono (fun k p => ?_) h3⟩, rr.ord_mono (fun k p => ?_) h4⟩ <;> simp only [gr', gx', grl'] <;> (repeat' apply And.intro) <;> first | omega | exact p.1 | exact p.1.1 | exact p.1.1.1 | exact p.1.1.1.1 | exact p.1.1.1.1.1
  | @w3 x r rl rll l rlll rllr rlr rr =>
    obtain ⟨kx, kl, ⟨kr, ⟨krl, ⟨krll, krlll, krllr⟩, krlr⟩, krr⟩⟩ := hk
    obtain ⟨h1, ⟨⟨h2, h3⟩, h4⟩, h5⟩ := ho
    obtain ⟨z0, hz0⟩ := BT.ord_some krlll h2
    obtain ⟨z1, hz1⟩ := BT.ord_some krllr h3
    obtain ⟨z2, hz2⟩ := BT.ord_some krlr h4
    have gx := goes_keyM kx
    have gr := goes_keyM kr
    have grl := goes_keyM krl
    have grll := goes_keyM krll
    have gr' := goes_keyM (d := r.w x.wt) kr
    have gx' := goes_keyM (d := x.w 1) kx
    have grl' := goes_keyM (d := rl.w 1) krl
    have grll' := goes_keyM (d := rll.w 0) krll
    simp only [PD.w, gx, gr, grl, grll] at *
    refine ⟨⟨⟨W _ l (fun k p => ?_) h1, rlll.ord_mono (fun k p => ?_) h2⟩, rllr.ord_mono (fun k p => ?_) h3, rlr.ord_mono (fun k p => ?_) h4⟩, rr.ord_mono (fun k p => ?_) h5⟩ <;> simp only [gr', gx', grl', grll'] <;> (repeat' apply And.intro) <;> first | omega | exact p.1 | exact p.1.1 | exact p.1.1.1 | exact p.1.1.1.1 | exact p.1.1.1.1.1
  | @w4 x r rl l rll rlr rr =>
    obtain ⟨kx, kl, ⟨kr, ⟨krl, krll, krlr⟩, krr⟩⟩ := hk
    obtain ⟨h1, ⟨h2, h3⟩, h4⟩ := ho
    obtain ⟨z0, hz0⟩ := BT.ord_some krll h2
    obtain ⟨z1, hz1⟩ := BT.ord_some krlr h3
    have gx := goes_keyM kx
    have gr := goes_keyM kr
    have grl := goes_keyM krl
    have gr' := goes_keyM (d := r.w x.wt) kr
    have gx' := goes_keyM (d := x.w 1) kx
    have grl' := goes_keyM (d := rl.w 0) krl
    simp only [PD.w, gx, gr, grl] at *
    refine ⟨⟨⟨W _ l (fun k p => ?_) h1, rll.ord_mono (fun k p => ?_) h2⟩, W _ rlr (fun k p => ?_) h3⟩, rr.ord_mono (fun k p => ?_) h4⟩ <;> simp only [gr', gx', grl'] <;> (repeat' apply And.intro) <;> first | omega | exact p.1 | exact p.1.1 | exact p.1.1.1 | exact p.1.1.1.1 | exact p.1.1.1.1.1
  | @w5 x r l rl rr =>
    obtain ⟨kx, kl, ⟨kr, krl, krr⟩⟩ := hk
    obtain ⟨h1, h2, h3⟩ := ho
    obtain ⟨z0, hz0⟩ := BT.ord_some krl h2
    have gx := goes_keyM kx
    have gr := goes_keyM kr
    have gr' := goes_keyM (d := r.w x.wt) kr
    have gx' := goes_keyM (d := x.w 1) kx
    simp only [PD.w, gx, gr] at *
    refine ⟨⟨W _ l (fun k p => ?_) h1, rl.ord_mono (fun k p => ?_) h2⟩, W _ rr (fun k p => ?_) h3⟩ <;> simp only [gr', gx'] <;> (repeat' apply And.intro) <;> first | omega | exact p.1 | exact p.1.1 | exact p.1.1.1 | exact p.1.1.1.1 | exact p.1.1.1.1.1
  | @w6 x r rl l rll rlr rr =>
    obtain ⟨kx, kl, ⟨kr, ⟨krl, krll, krlr⟩, krr⟩⟩ := hk
    obtain ⟨h1, ⟨h2, h3⟩, h4⟩ := ho
    obtain ⟨z0, hz0⟩ := BT.ord_some krll h2
    obtain ⟨z1, hz1⟩ := BT.ord_some krlr h3
    have gx := goes_keyM kx
    have gr := goes_keyM kr
    have grl := goes_keyM krl
    have grl' := goes_keyM (d := rl.w x.wt) krl
    have gx' := goes_keyM (d := x.w 1) kx
    have gr' := goes_keyM (d := r.w 1) kr
    simp only [PD.w, gx, gr, grl] at *
    refine ⟨⟨W _ l (fun k p => ?_) h1, rll.ord_mono (fun k p => ?_) h2⟩, rlr.ord_mono (fun k p => ?_) h3, rr.ord_mono (fun k p => ?_) h4⟩ <;> simp only [grl', gx', gr'] <;> (repeat' apply And.intro) <;> first | omega | exact p.1 | exact p.1.1 | exact p.1.1.1 | exact p.1.1.1.1 | exact p.1.1.1.1.1
  | w7 => exact ⟨W _ _ (fun k p => p) ho.1, W _ _ (fun k p => p) ho.2⟩
  | root => exact W _ _ (fun k p => p) ho
theorem step_ord {root : Bool} {k : Int} {b c : BT} (mi : Bool) (h : StepR root k b c) (hk : b.all (fun d => d.inf = 0)) {S : Int → Prop} (ho : b.ord mi S) : c.ord mi S := by
  cases mi
  · exact step_ord0 h hk ho
  · exact step_ord1 h hk ho
end Go.Proofs.Ytfjkddjjpbdjkaa

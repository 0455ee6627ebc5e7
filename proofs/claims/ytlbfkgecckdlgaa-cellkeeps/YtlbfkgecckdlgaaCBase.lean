/- Layer 2: frames, the gate as a contract, a number's cell. -/
import Derived.Test.YtlbfkgecckdlgaaRows
import Derived.WalkKit
import Derived.WalkSpells
import Derived.WalkLawsBesides
import Derived.Test.YtlbfkgecckdlgaaAtom
namespace Go.Proofs.Ytlbfkgecckdlgaa
open Go.RowKit

/-- Of the blocks of w all but those of X are in w' as they were. -/
structure Kp (X : Nat → Prop) (w w' : World) : Prop where
  os : w'.os = w.os
  tape : w'.tape = w.tape
  output : w'.output = w.output
  size : w.heap.size ≤ w'.heap.size
  block : ∀ k, k < w.heap.size → ¬ X k → w'.heap[k]? = w.heap[k]?

theorem Kp.refl (X : Nat → Prop) (w : World) : Kp X w w := ⟨rfl, rfl, rfl, Nat.le_refl _, fun _ _ _ => rfl⟩
theorem Kp.trans {X : Nat → Prop} {a b c : World} (h : Kp X a b) (k : Kp X b c) : Kp X a c :=
  ⟨k.os.trans h.os, k.tape.trans h.tape, k.output.trans h.output, Nat.le_trans h.size k.size, fun i hi hn => (k.block i (Nat.lt_of_lt_of_le hi h.size) hn).trans (h.block i hi hn)⟩
theorem Kp.mono {X Y : Nat → Prop} {w w' : World} (h : Kp X w w') (hXY : ∀ k, X k → Y k) : Kp Y w w' := ⟨h.os, h.tape, h.output, h.size, fun k hk hn => h.block k hk (fun hx => hn (hXY k hx))⟩
theorem Kp.of_below {X : Nat → Prop} {w w' : World} (h : Below w.heap.size w w') : Kp X w w' := ⟨h.os, h.tape, h.output, h.size, fun k hk _ => h.block k hk⟩
theorem Kp.to_below {X : Nat → Prop} {w w' : World} (h : Kp X w w') (B : Nat) (hB : B ≤ w.heap.size) (hX : ∀ k, k < B → ¬ X k) : Below B w w' := ⟨h.os, h.tape, h.output, h.size, fun k hk => h.block k (by omega) (hX k hk)⟩
theorem Kp.alloc {X : Nat → Prop} {w w' : World} (h : Kp X w w') (o : Obj) : Kp X w (w'.alloc o) := h.trans (Kp.of_below ((Below.refl _ _).alloc (Nat.le_refl _) o))
theorem Kp.drew {X : Nat → Prop} {w w' : World} (h : Kp X w w') : Kp X w w'.drew := ⟨h.os, h.tape, h.output, h.size, h.block⟩
theorem Kp.drewN {X : Nat → Prop} {w w' : World} (h : Kp X w w') (n : Nat) : Kp X w (w'.drewN n) := ⟨h.os, h.tape, h.output, h.size, h.block⟩
theorem Kp.set {X : Nat → Prop} {w w' : World} (h : Kp X w w') {p : Addr} (hp : X p.block) (v : Value) : Kp X w (w'.setCell p v) :=
  h.trans ⟨rfl, rfl, rfl, by simp [World.setCell], fun k _ hn => Below.heap_setCell _ _ _ _ (fun e => hn (by rw [e]; exact hp))⟩
theorem Kp.cell {X : Nat → Prop} {w w' : World} (h : Kp X w w') {p : Addr} (hp : p.block < w.heap.size) (hn : ¬ X p.block) : w'.cell? p = w.cell? p := World.cell?_of_block (w := w) (h.block p.block hp hn)
theorem Kp.frozen {X : Nat → Prop} {w w' : World} (h : Kp X w w') {p : Addr} (hp : p.block < w.heap.size) (hn : ¬ X p.block) : w'.frozen? p = w.frozen? p := World.frozen?_of_block (w := w) (h.block p.block hp hn)

/-- A gate: what it has noted, the blocks that it may turn, and that one pass notes one kind. -/
structure GateOk (gv : Value) (X : Nat → Prop) (most : Nat) (G : List Int → World → Prop) : Prop where
  pass : ∀ (ks : List Int) (kd : Int) (w : World), G ks w → ks.length < most → Calls Try.prog 59 #[gv, .int .i64 kd] w fun e w' => e = .returned (.tuple #[]) ∧ G (ks ++ [kd]) w' ∧ Kp X w w'
  keep : ∀ (ks : List Int) (Y : Nat → Prop) (w w' : World), G ks w → Kp Y w w' → (∀ k, Y k → ¬ X k) → G ks w'

/-- No gate: nobody is asked. -/
theorem gate_nil (most : Nat) : GateOk .nilIface (fun _ => False) most (fun _ _ => True) := by
  refine ⟨?_, fun _ _ _ _ _ _ _ => trivial⟩
  intro ks kd w _ _
  go_enter Try.func59, Try.ntmps59
  go_wp2
  go_end0
  exact ⟨rfl, trivial, Kp.refl _ _⟩

theorem word_num (b i : Nat) (w : World) : Calls Try.prog 60 #[.pointer (some ⟨b, i, none⟩)] w fun e w' => e = .returned (.pointer (some ⟨b, i, none⟩)) ∧ w = w' := by
  go_enter Try.func60, Try.ntmps60
  go_wp2
  go_ret
  exact ⟨rfl, rfl⟩
end Go.Proofs.Ytlbfkgecckdlgaa

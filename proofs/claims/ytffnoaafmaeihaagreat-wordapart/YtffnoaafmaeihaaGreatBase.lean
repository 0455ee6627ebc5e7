/- Small facts on worlds and on word's narrow that the walks of this seat share. -/
import Derived.Test.YtffnoaafmaeihaaGreatRows
import Derived.WalkKit
import Derived.WalkSpells
import Derived.WalkLawsBesides
namespace Go.Proofs.YtffnoaafmaeihaaGreat
open Go.RowKit

theorem bcell {W w1 : World} (hb : Below W.heap.size W w1) : (∀ b o, b < W.heap.size → w1.cell? ⟨b, o, none⟩ = W.cell? ⟨b, o, none⟩) ∧ (∀ b o, b < W.heap.size → w1.frozen? ⟨b, o, none⟩ = W.frozen? ⟨b, o, none⟩) :=
  ⟨fun b o h => hb.cell (p := ⟨b, o, none⟩) h, fun b o h => hb.frozen (p := ⟨b, o, none⟩) h⟩

theorem narrow_32 (k : Int) (hk : k = 1 ∨ k = 3) (x : Int) (w : World) :
    Calls Tryz.prog 43 #[.int .i64 k, .int .u64 x] w fun e w' => e = .returned (.int .u64 (x % 4294967296)) ∧ w' = w := by
  rcases hk with rfl | rfl
  all_goals
    go_enter Tryz.func43, Tryz.ntmps43
    go_wp2
    go_ret
    exact ⟨rfl, rfl⟩

theorem narrow_64 (k : Int) (hk : k = 2 ∨ k = 4 ∨ k = 6) (x : Int) (w : World) :
    Calls Tryz.prog 43 #[.int .i64 k, .int .u64 x] w fun e w' => e = .returned (.int .u64 x) ∧ w' = w := by
  rcases hk with rfl | rfl | rfl
  all_goals
    go_enter Tryz.func43, Tryz.ntmps43
    go_wp2
    go_ret
    exact ⟨rfl, rfl⟩

theorem past3 (w : World) (b : Nat) (hb : b < w.heap.size) (o1 o2 o3 : Obj) : (((w.alloc o1).alloc o2).alloc o3).cell? ⟨b, 0, none⟩ = w.cell? ⟨b, 0, none⟩ := by
  rw [World.cell?_alloc_past _ _ _ (by simp; omega), World.cell?_alloc_past _ _ _ (by simp; omega), World.cell?_alloc_past _ _ _ hb]
theorem fpast3 (w : World) (b : Nat) (hb : b < w.heap.size) (o1 o2 o3 : Obj) : (((w.alloc o1).alloc o2).alloc o3).frozen? ⟨b, 0, none⟩ = w.frozen? ⟨b, 0, none⟩ := by
  rw [World.frozen?_alloc_past _ _ _ (by simp; omega), World.frozen?_alloc_past _ _ _ (by simp; omega), World.frozen?_alloc_past _ _ _ hb]

/-- Of the blocks of w all but number b are in w' as they were. -/
structure Off (b : Nat) (w w' : World) : Prop where
  os : w'.os = w.os
  tape : w'.tape = w.tape
  output : w'.output = w.output
  size : w.heap.size ≤ w'.heap.size
  block : ∀ k, k < w.heap.size → k ≠ b → w'.heap[k]? = w.heap[k]?

/-- Block b's first cell holds v in w' and may be written; all else that w has is as it was. -/
structure Held (b : Nat) (v : Value) (w w' : World) : Prop where
  off : Off b w w'
  cell : w'.cell? ⟨b, 0, none⟩ = some v
  fro : w'.frozen? ⟨b, 0, none⟩ = false

theorem Off.refl (b : Nat) (w : World) : Off b w w := ⟨rfl, rfl, rfl, Nat.le_refl _, fun _ _ _ => rfl⟩
theorem Off.trans {b : Nat} {w1 w2 w3 : World} (h : Off b w1 w2) (k : Off b w2 w3) : Off b w1 w3 :=
  ⟨k.os.trans h.os, k.tape.trans h.tape, k.output.trans h.output, Nat.le_trans h.size k.size, fun i hi hn => (k.block i (Nat.lt_of_lt_of_le hi h.size) hn).trans (h.block i hi hn)⟩
theorem Off.of_below {b : Nat} {w w' : World} (h : Below w.heap.size w w') : Off b w w' := ⟨h.os, h.tape, h.output, h.size, fun k hk _ => h.block k hk⟩
theorem Off.below {b B : Nat} {w w' : World} (h : Off b w w') (hB : B ≤ b) (hw : B ≤ w.heap.size) : Below B w w' := ⟨h.os, h.tape, h.output, h.size, fun k hk => h.block k (by omega) (by omega)⟩
theorem Off.cell {b : Nat} {w w' : World} (h : Off b w w') {p : Addr} (hp : p.block < w.heap.size) (hn : p.block ≠ b) : w'.cell? p = w.cell? p := World.cell?_of_block (w := w) (h.block p.block hp hn)
theorem Off.frozen {b : Nat} {w w' : World} (h : Off b w w') {p : Addr} (hp : p.block < w.heap.size) (hn : p.block ≠ b) : w'.frozen? p = w.frozen? p := World.frozen?_of_block (w := w) (h.block p.block hp hn)
theorem Held.refl {b : Nat} {v : Value} {w : World} (hc : w.cell? ⟨b, 0, none⟩ = some v) (hz : w.frozen? ⟨b, 0, none⟩ = false) : Held b v w w := ⟨Off.refl b w, hc, hz⟩
theorem Held.lt {b : Nat} {v : Value} {w w' : World} (h : Held b v w w') (hb : b < w.heap.size) : b < w'.heap.size := Nat.lt_of_lt_of_le hb h.off.size
theorem Held.below {b : Nat} {v : Value} {w w1 w2 : World} (h : Held b v w w1) (hb : b < w.heap.size) (k : Below w1.heap.size w1 w2) : Held b v w w2 :=
  ⟨h.off.trans (Off.of_below k), by rw [k.cell (p := ⟨b, 0, none⟩) (h.lt hb)]; exact h.cell, by rw [k.frozen (p := ⟨b, 0, none⟩) (h.lt hb)]; exact h.fro⟩
theorem Held.alloc {b : Nat} {v : Value} {w w1 : World} (h : Held b v w w1) (hb : b < w.heap.size) (o : Obj) : Held b v w (w1.alloc o) := h.below hb ((Below.refl _ _).alloc (Nat.le_refl _) o)
theorem Held.drew {b : Nat} {v : Value} {w w1 : World} (h : Held b v w w1) : Held b v w w1.drew := ⟨⟨h.off.os, h.off.tape, h.off.output, h.off.size, h.off.block⟩, h.cell, h.fro⟩
theorem Held.set {b : Nat} {v : Value} {w w1 : World} (h : Held b v w w1) (u : Value) : Held b u w (w1.setCell ⟨b, 0, none⟩ u) :=
  ⟨h.off.trans ⟨rfl, rfl, rfl, by simp [World.setCell], fun k _ hn => Below.heap_setCell _ _ _ _ hn⟩, World.cell?_setCell_same _ _ _ h.cell, by simpa using h.fro⟩
theorem Held.other {b : Nat} {v : Value} {w w1 : World} (h : Held b v w w1) (hb : b < w.heap.size) {p : Addr} (hp : w.heap.size ≤ p.block) (u : Value) : Held b v w (w1.setCell p u) := by
  have hne : p ≠ ⟨b, 0, none⟩ := fun e => by rw [e] at hp; simp at hp; omega
  refine ⟨⟨h.off.os, h.off.tape, h.off.output, by simpa [World.setCell] using h.off.size, fun k hk hn => ?_⟩, ?_, ?_⟩
  · rw [Below.heap_setCell _ _ _ _ (by omega)]; exact h.off.block k hk hn
  · rw [World.cell?_setCell_other _ _ _ _ hne]; exact h.cell
  · simpa using h.fro
theorem Held.trans {b : Nat} {v u : Value} {w1 w2 w3 : World} (h : Held b v w1 w2) (k : Held b u w2 w3) : Held b u w1 w3 := ⟨h.off.trans k.off, k.cell, k.fro⟩

def lo32 (v : Int) : Int := v % 4294967296
def lo64 (v : Int) : Int := v % 18446744073709551616

end Go.Proofs.YtffnoaafmaeihaaGreat

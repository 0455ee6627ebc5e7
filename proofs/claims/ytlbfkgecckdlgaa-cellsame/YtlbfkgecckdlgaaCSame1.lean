/- Layer 2: CellSame's state, and what its accesses do. -/
import Derived.Test.YtlbfkgecckdlgaaCCellP
import Derived.Test.YtlbfkgecckdlgaaCCellS
import Derived.Test.YtlbfkgecckdlgaaCAwake
namespace Go.Proofs.Ytlbfkgecckdlgaa
open Go.RowKit

set_option maxRecDepth 100000 in
set_option maxHeartbeats 1000000 in
theorem newP (b : Nat) (cs : Array Value) (w : World) (hb : w.heap[b]? = some (.cells cs 62 (0, 0))) (hs : cs.size = Try.prog.cellsOf 62) : Calls Try.prog 30 #[.pointer (some ⟨b, 0, none⟩)] w fun e w' => e = .returned (.pointer (some ⟨w.heap.size, 0, none⟩)) ∧ w' = w.alloc (.cells #[.pointer (some ⟨b, 0, none⟩)] 126) := by
  have hl : b < w.heap.size := (Array.getElem?_eq_some_iff.1 hb).1
  have HS : Hid _ := pStoreP w.heap.size 0 none (some ⟨b, 0, none⟩) (w.alloc (.cells #[.pointer none] 126)) (by simp) (by simp) (Or.inr ⟨b, cs, rfl, (Below.heap_alloc _ _ _ hl).trans hb, hs⟩)
  go_enter Try.func30, Try.ntmps30
  go_wp2_with (first | (go_at_call 69; refine Calls.mono HS.out ?_; rintro e w' ⟨rfl, rfl⟩))
  go_ret
  exact ⟨rfl, by simp⟩

theorem pair_cells : Try.prog.cellsOf 62 = 2 := by kernel_rfl

/-- Three equal pairs in blocks H, H + 1, H + 2, the cell in H + 3, the Tape in H + 4. -/
structure SS (H : Nat) (n : Int) (s : ByteArray) (w W : World) (ks : List Int) (p : Option Addr) : Prop where
  pairs : ∀ i, i < 3 → W.heap[H + i]? = some (.cells #[.int .i64 n, .string s] 62 (0, 0))
  xc : W.cell? ⟨H + 3, 0, none⟩ = some (.pointer p)
  xf : W.frozen? ⟨H + 3, 0, none⟩ = false
  tape : TapeAt (H + 4) (H + 5) ks W
  below : Below w.heap.size w W
  low : w.heap.size ≤ H
/-- nil, or one of the three. -/
def PV (H : Nat) (p : Option Addr) : Prop := p = none ∨ ∃ i, i < 3 ∧ p = some ⟨H + i, 0, none⟩

theorem SS.ptr {H : Nat} {n : Int} {s : ByteArray} {w W : World} {ks : List Int} {p : Option Addr} (h : SS H n s w W ks p) {X : Nat → Prop} (hX : ∀ k, k < H + 3 → ¬ X k) (q : Option Addr) (hq : PV H q) : ∀ w1, Kp X W w1 → PtrOk Try.prog 62 w1 q := by
  intro w1 hk
  rcases hq with rfl | ⟨i, hi, rfl⟩
  · exact Or.inl rfl
  · exact Or.inr ⟨H + i, _, rfl, (hk.block (H + i) (by have := h.tape.size; omega) (hX _ (by omega))).trans (h.pairs i hi), by rw [pair_cells]; rfl⟩

theorem SS.next {H : Nat} {n : Int} {s : ByteArray} {w W W' : World} {ks ks' : List Int} {p q : Option Addr} (h : SS H n s w W ks p) (hv : VStep (TapeX (H + 4) (H + 5)) (H + 3) 0 (.pointer q) W W') (ht : TapeAt (H + 4) (H + 5) ks' W') : SS H n s w W' ks' q := by
  have hs := h.tape.size
  refine ⟨fun i hi => (hv.kp.block (H + i) (by omega) (by unfold TapeX; omega)).trans (h.pairs i hi), hv.cell h.xc, (hv.fro 0).trans h.xf, ht, ?_, h.low⟩
  have := h.low
  exact h.below.trans (hv.kp.to_below w.heap.size h.below.size (by unfold TapeX; omega))
theorem SS.nextN {H : Nat} {n : Int} {s : ByteArray} {w W W' : World} {ks : List Int} {p q : Option Addr} (h : SS H n s w W ks p) (hv : VStep (fun _ => False) (H + 3) 0 (.pointer q) W W') : SS H n s w W' ks q := by
  have hs := h.tape.size
  refine ⟨fun i hi => (hv.kp.block (H + i) (by omega) (by rintro (h | h); exact h; omega)).trans (h.pairs i hi), hv.cell h.xc, (hv.fro 0).trans h.xf, ?_, ?_, h.low⟩
  · exact (gate_tape (H + 4) (H + 5) 0 (by omega)).keep _ (fun k => False ∨ k = H + 3) _ _ h.tape hv.kp (fun k h => by rcases h with h | h; exact h.elim; unfold TapeX; omega)
  · have := h.low
    exact h.below.trans (hv.kp.to_below w.heap.size h.below.size (by rintro k hk (h | h); exact h; omega))
theorem SS.kp {H : Nat} {n : Int} {s : ByteArray} {w W W' : World} {ks : List Int} {p : Option Addr} (h : SS H n s w W ks p) (hk : Below W.heap.size W W') : SS H n s w W' ks p := by
  have hs := h.tape.size
  refine ⟨fun i hi => (hk.block (H + i) (by omega)).trans (h.pairs i hi), (hk.cell (p := ⟨H + 3, 0, none⟩) (by simp; omega)).trans h.xc, (hk.frozen (p := ⟨H + 3, 0, none⟩) (by simp; omega)).trans h.xf, ?_, h.below.trans (hk.mono h.below.size), h.low⟩
  exact (gate_tape (H + 4) (H + 5) 0 (by omega)).keep _ (fun _ => False) _ _ h.tape (Kp.of_below hk) (fun k h => h.elim)

theorem tx3 (H : Nat) : ¬ TapeX (H + 4) (H + 5) (H + 3) := by unfold TapeX; omega
theorem tx0 (H : Nat) : ∀ k, k < H + 3 → ¬ TapeX (H + 4) (H + 5) k := by unfold TapeX; omega

theorem sLoad {H : Nat} {n : Int} {s : ByteArray} {w W : World} {ks : List Int} {p : Option Addr} (h : SS H n s w W ks p) (hp : PV H p) (hk : ks.length < 100000) :
    Calls Try.prog 32 #[.pointer (some ⟨H + 3, 0, none⟩), .iface 38 (.pointer (some ⟨H + 4, 0, none⟩))] W fun e W' => e = .returned (.pointer p) ∧ SS H n s w W' (ks ++ [1]) p := by
  refine (cLoadP (gate_tape (H + 4) (H + 5) 100000 (Nat.le_refl _)) ks hk (H + 3) 0 p W h.tape (tx3 H) (by have := h.tape.size; omega) h.xc h.xf (h.ptr (tx0 H) p hp)).mono ?_
  rintro e W' ⟨rfl, ht, hv⟩
  exact ⟨rfl, h.next hv ht⟩
theorem sLoadN {H : Nat} {n : Int} {s : ByteArray} {w W : World} {ks : List Int} {p : Option Addr} (h : SS H n s w W ks p) (hp : PV H p) :
    Calls Try.prog 32 #[.pointer (some ⟨H + 3, 0, none⟩), .nilIface] W fun e W' => e = .returned (.pointer p) ∧ SS H n s w W' ks p := by
  refine (cLoadP (gate_nil 1) [] (by simp) (H + 3) 0 p W trivial (fun h => h) (by have := h.tape.size; omega) h.xc h.xf (h.ptr (fun _ _ h => h) p hp)).mono ?_
  rintro e W' ⟨rfl, _, hv⟩
  exact ⟨rfl, h.nextN hv⟩
theorem sStore {H : Nat} {n : Int} {s : ByteArray} {w W : World} {ks : List Int} {p : Option Addr} (h : SS H n s w W ks p) (q : Option Addr) (hq : PV H q) (hk : ks.length < 100000) :
    Calls Try.prog 34 #[.pointer (some ⟨H + 3, 0, none⟩), .iface 38 (.pointer (some ⟨H + 4, 0, none⟩)), .pointer q] W fun e W' => e = .returned (.tuple #[]) ∧ SS H n s w W' (ks ++ [2]) q := by
  refine (cStoreP (gate_tape (H + 4) (H + 5) 100000 (Nat.le_refl _)) ks hk (H + 3) 0 p q W h.tape (tx3 H) (by have := h.tape.size; omega) h.xc h.xf (h.ptr (tx0 H) q hq)).mono ?_
  rintro e W' ⟨rfl, ht, hv⟩
  exact ⟨rfl, h.next hv ht⟩
theorem sSwap {H : Nat} {n : Int} {s : ByteArray} {w W : World} {ks : List Int} {p : Option Addr} (h : SS H n s w W ks p) (hp : PV H p) (q : Option Addr) (hq : PV H q) (hk : ks.length < 100000) :
    Calls Try.prog 33 #[.pointer (some ⟨H + 3, 0, none⟩), .iface 38 (.pointer (some ⟨H + 4, 0, none⟩)), .pointer q] W fun e W' => e = .returned (.pointer p) ∧ SS H n s w W' (ks ++ [4]) q := by
  refine (cSwapP (gate_tape (H + 4) (H + 5) 100000 (Nat.le_refl _)) ks hk (H + 3) 0 p q W h.tape (tx3 H) (by have := h.tape.size; omega) h.xc h.xf (h.ptr (tx0 H) p hp) (h.ptr (tx0 H) q hq) ?_).mono ?_
  · intro b' hb'
    rcases hp with rfl | ⟨i, hi, rfl⟩
    · cases hb'
    · injection hb' with e; injection e with e1; omega
  · rintro e W' ⟨rfl, ht, hv⟩
    exact ⟨rfl, h.next hv ht⟩
theorem sHit {H : Nat} {n : Int} {s : ByteArray} {w W : World} {ks : List Int} {p : Option Addr} (h : SS H n s w W ks p) (hp : PV H p) (q : Option Addr) (hq : PV H q) (hk : ks.length < 100000) :
    Calls Try.prog 31 #[.pointer (some ⟨H + 3, 0, none⟩), .iface 38 (.pointer (some ⟨H + 4, 0, none⟩)), .pointer p, .pointer q] W fun e W' => e = .returned (.bool true) ∧ SS H n s w W' (ks ++ [5]) q := by
  refine (cHitP (gate_tape (H + 4) (H + 5) 100000 (Nat.le_refl _)) ks hk (H + 3) 0 p q W h.tape (tx3 H) (by have := h.tape.size; omega) h.xc h.xf (h.ptr (tx0 H) p hp) (h.ptr (tx0 H) q hq)).mono ?_
  rintro e W' ⟨rfl, ht, hv⟩
  exact ⟨rfl, h.next hv ht⟩
theorem sMiss {H : Nat} {n : Int} {s : ByteArray} {w W : World} {ks : List Int} {p : Option Addr} (h : SS H n s w W ks p) (hp : PV H p) (o q : Option Addr) (ho : PV H o) (hq : PV H q) (hne : p ≠ o) (hk : ks.length < 100000) :
    Calls Try.prog 31 #[.pointer (some ⟨H + 3, 0, none⟩), .iface 38 (.pointer (some ⟨H + 4, 0, none⟩)), .pointer o, .pointer q] W fun e W' => e = .returned (.bool false) ∧ SS H n s w W' (ks ++ [5]) p := by
  refine (cMissP (gate_tape (H + 4) (H + 5) 100000 (Nat.le_refl _)) ks hk (H + 3) 0 p o q W h.tape (tx3 H) (by have := h.tape.size; omega) h.xc h.xf (h.ptr (tx0 H) p hp) (h.ptr (tx0 H) o ho) (h.ptr (tx0 H) q hq) hne).mono ?_
  rintro e W' ⟨rfl, ht, hv⟩
  exact ⟨rfl, h.next hv ht⟩

theorem ss_start {w w1 : World} (hb : Below w.heap.size w w1) (n : Int) (s : ByteArray) : SS w1.heap.size n s w (((((w1.alloc (.cells #[.int .i64 n, .string s] 62)).alloc (.cells #[.int .i64 n, .string s] 62)).alloc (.cells #[.int .i64 n, .string s] 62)).alloc (.cells #[.pointer (some ⟨w1.heap.size, 0, none⟩)] 126)).alloc (.cells #[.slice none 0 0] 114)) [] (some ⟨w1.heap.size, 0, none⟩) := by
  have hs := hb.size
  generalize h1 : w1.alloc (.cells #[.int .i64 n, .string s] 62) = W1
  generalize h2 : W1.alloc (.cells #[.int .i64 n, .string s] 62) = W2
  generalize h3 : W2.alloc (.cells #[.int .i64 n, .string s] 62) = W3
  generalize h4 : W3.alloc (.cells #[.pointer (some ⟨w1.heap.size, 0, none⟩)] 126) = W4
  generalize h5 : W4.alloc (.cells #[.slice none 0 0] 114) = W5
  have z1 : W1.heap.size = w1.heap.size + 1 := by rw [← h1]; simp
  have z2 : W2.heap.size = w1.heap.size + 2 := by rw [← h2]; simp [z1]
  have z3 : W3.heap.size = w1.heap.size + 3 := by rw [← h3]; simp [z2]
  have z4 : W4.heap.size = w1.heap.size + 4 := by rw [← h4]; simp [z3]
  have z5 : W5.heap.size = w1.heap.size + 5 := by rw [← h5]; simp [z4]
  have b5 : ∀ k, k < w1.heap.size + 4 → W5.heap[k]? = W4.heap[k]? := fun k hk => by rw [← h5]; exact Below.heap_alloc _ _ _ (by omega)
  have b4 : ∀ k, k < w1.heap.size + 3 → W4.heap[k]? = W3.heap[k]? := fun k hk => by rw [← h4]; exact Below.heap_alloc _ _ _ (by omega)
  have b3 : ∀ k, k < w1.heap.size + 2 → W3.heap[k]? = W2.heap[k]? := fun k hk => by rw [← h3]; exact Below.heap_alloc _ _ _ (by omega)
  have b2 : ∀ k, k < w1.heap.size + 1 → W2.heap[k]? = W1.heap[k]? := fun k hk => by rw [← h2]; exact Below.heap_alloc _ _ _ (by omega)
  have n1 : W1.heap[w1.heap.size]? = some (.cells #[.int .i64 n, .string s] 62 (0, 0)) := by rw [← h1]; exact heap_alloc_at _ _ _ rfl
  have n2 : W2.heap[w1.heap.size + 1]? = some (.cells #[.int .i64 n, .string s] 62 (0, 0)) := by rw [← h2]; exact heap_alloc_at _ _ _ z1.symm
  have n3 : W3.heap[w1.heap.size + 2]? = some (.cells #[.int .i64 n, .string s] 62 (0, 0)) := by rw [← h3]; exact heap_alloc_at _ _ _ z2.symm
  have n4 : W5.heap[w1.heap.size + 3]? = some (.cells #[.pointer (some ⟨w1.heap.size, 0, none⟩)] 126 (0, 0)) := by rw [b5 _ (by omega), ← h4]; exact heap_alloc_at _ _ _ z3.symm
  have n5 : W5.heap[w1.heap.size + 4]? = some (.cells #[.slice none 0 0] 114 (0, 0)) := by rw [← h5]; exact heap_alloc_at _ _ _ z4.symm
  refine ⟨?_, by simp [World.cell?, n4], by simp [World.frozen?, n4], ⟨⟨.slice none 0 0, by simp [World.cell?, n5], World.ownsRow_nil _ _ _ _⟩, by simp [World.frozen?, n5], by omega, by omega⟩, ?_, hs⟩
  · intro i hi
    have : i = 0 ∨ i = 1 ∨ i = 2 := by omega
    rcases this with rfl | rfl | rfl
    · rw [b5 _ (by omega), b4 _ (by omega), b3 _ (by omega), b2 _ (by omega)]; exact n1
    · rw [b5 _ (by omega), b4 _ (by omega), b3 _ (by omega)]; exact n2
    · rw [b5 _ (by omega), b4 _ (by omega)]; exact n3
  · rw [← h5, ← h4, ← h3, ← h2, ← h1]
    exact ((((hb.alloc hs _).alloc (by simp; omega) _).alloc (by simp; omega) _).alloc (by simp; omega) _).alloc (by simp; omega) _
end Go.Proofs.Ytlbfkgecckdlgaa

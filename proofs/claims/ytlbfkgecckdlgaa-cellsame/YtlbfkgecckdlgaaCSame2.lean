/- Layer 2: CellSame, walked. -/
import Derived.Test.YtlbfkgecckdlgaaCSame1
import Derived.Test.YtlbfkgecckdlgaaCGInv
import Derived.Laws.StructEq
namespace Go.Proofs.Ytlbfkgecckdlgaa
open Go.RowKit

theorem litL (w : World) (t : TypeId) (ks : List Int) (hk : ks.length ≤ maxLen) : NumsAt (w.alloc (.cells (ks.map (Value.int .i64)).toArray t)) (some ⟨w.heap.size, 0, none⟩) w.heap.size 0 ks.length (atL ks) := by
  refine ⟨fun _ => rfl, fun _ => by simp, fun i hi => ?_, hk⟩
  simp [atL, hi]
theorem pv0 (H : Nat) : PV H (some ⟨H, 0, none⟩) := Or.inr ⟨0, by omega, rfl⟩
theorem pv1 (H : Nat) : PV H (some ⟨H + 1, 0, none⟩) := Or.inr ⟨1, by omega, rfl⟩
theorem pv2 (H : Nat) : PV H (some ⟨H + 1 + 1, 0, none⟩) := Or.inr ⟨2, by omega, rfl⟩
theorem pvn (H : Nat) : PV H none := Or.inl rfl
theorem ne_blk {a b : Nat} (h : a ≠ b) : (some (⟨a, 0, none⟩ : Addr)) ≠ some ⟨b, 0, none⟩ := fun e => h (by injection e with e; injection e)

theorem pp_info : (Try.prog.info? 62).map (fun i => decide (i.size = 0)) = some false := by kernel_rfl
theorem eqp (d : Nat) (p : Option Addr) (w : World) : (Op.equalIn (d + 1) 60 (.pointer p) (.pointer p)).run Try.prog w = .ok true w := by
  obtain ⟨i, hi, _⟩ := Option.map_eq_some_iff.1 pp_info
  cases p with
  | none => simp [Op.equalIn, run_underlying (P := Try.prog) Try.underlying60]
  | some a => simp [Op.equalIn, run_underlying (P := Try.prog) Try.underlying60, typeInfo, sizeOf, hi, run_sameAddr_same]
theorem neq_same (p : Option Addr) (w : World) : (binOp .neq 60 (.pointer p) (.pointer p)).run Try.prog w = .ok (.bool false) w := by
  simp only [binOp]
  simp [Op.equal, Op.maxDepth, eqp 9999 p w]
theorem neq_pair (n : Int) (s : ByteArray) (w : World) : (Op.equalIn 10000 62 (.agg #[.int .i64 n, .string s]) (.agg #[.int .i64 n, .string s])).run Try.prog w = .ok true w := by
  have hS : Try.prog.underlying 62 = some (.struct (Try.prog.fieldsOf 62)) := by kernel_rfl
  rw [show (10000 : Nat) = 9999 + 1 from rfl, run_equalIn_agg w 9999 62 _ _ hS (by kernel_rfl)]
  have u3 := Try.underlying3
  have u9 := Try.underlying9
  simp only [Program.fieldsOf, Try.underlying62]
  go_simp

theorem str_cells : Try.prog.cellsOf 9 = 1 := by kernel_rfl
theorem st_info : (Try.prog.info? 9).map (fun i => decide (i.size = 0)) = some false := by kernel_rfl
theorem eqs (d : Nat) (p : Option Addr) (w : World) : (Op.equalIn (d + 1) 69 (.pointer p) (.pointer p)).run Try.prog w = .ok true w := by
  obtain ⟨i, hi, _⟩ := Option.map_eq_some_iff.1 st_info
  cases p with
  | none => simp [Op.equalIn, run_underlying (P := Try.prog) Try.underlying69]
  | some a => simp [Op.equalIn, run_underlying (P := Try.prog) Try.underlying69, typeInfo, sizeOf, hi, run_sameAddr_same]
theorem neq_str (p : Option Addr) (w : World) : (binOp .neq 69 (.pointer p) (.pointer p)).run Try.prog w = .ok (.bool false) w := by
  simp only [binOp]
  simp [Op.equal, Op.maxDepth, eqs 9999 p w]

/-- A cell of strings in block Y, two strings in Y + 1, Y + 2. -/
structure YS (Y : Nat) (s : ByteArray) (w W : World) (p : Option Addr) : Prop where
  strs : ∀ i, 1 ≤ i → i < 3 → W.heap[Y + i]? = some (.cells #[.string s] 9 (0, 0))
  yc : W.cell? ⟨Y, 0, none⟩ = some (.pointer p)
  yf : W.frozen? ⟨Y, 0, none⟩ = false
  size : Y + 3 ≤ W.heap.size
  below : Below w.heap.size w W
  low : w.heap.size ≤ Y
def YV (Y : Nat) (p : Option Addr) : Prop := p = none ∨ ∃ i, 1 ≤ i ∧ i < 3 ∧ p = some ⟨Y + i, 0, none⟩
theorem YS.ptr {Y : Nat} {s : ByteArray} {w W : World} {p : Option Addr} (h : YS Y s w W p) (q : Option Addr) (hq : YV Y q) : ∀ w1, Kp (fun _ => False) W w1 → PtrOk Try.prog 9 w1 q := by
  intro w1 hk
  rcases hq with rfl | ⟨i, h1, h2, rfl⟩
  · exact Or.inl rfl
  · exact Or.inr ⟨Y + i, _, rfl, (hk.block (Y + i) (by have := h.size; omega) (fun h => h)).trans (h.strs i h1 h2), by rw [str_cells]; rfl⟩
theorem YS.next {Y : Nat} {s : ByteArray} {w W W' : World} {p q : Option Addr} (h : YS Y s w W p) (hv : VStep (fun _ => False) Y 0 (.pointer q) W W') : YS Y s w W' q := by
  have hs := h.size
  have hl := h.low
  exact ⟨fun i h1 h2 => (hv.kp.block (Y + i) (by omega) (by rintro (h | h); exact h; omega)).trans (h.strs i h1 h2), hv.cell h.yc, (hv.fro 0).trans h.yf, Nat.le_trans hs hv.kp.size, h.below.trans (hv.kp.to_below w.heap.size h.below.size (by rintro k hk (h | h); exact h; omega)), hl⟩
theorem yLoad {Y : Nat} {s : ByteArray} {w W : World} {p : Option Addr} (h : YS Y s w W p) (hp : YV Y p) :
    Calls Try.prog 35 #[.pointer (some ⟨Y, 0, none⟩), .nilIface] W fun e W' => e = .returned (.pointer p) ∧ YS Y s w W' p := by
  refine (cLoadS (gate_nil 1) [] (by simp) Y 0 p W trivial (fun h => h) (by have := h.size; omega) h.yc h.yf (h.ptr p hp)).mono ?_
  rintro e W' ⟨rfl, _, hv⟩
  exact ⟨rfl, h.next hv⟩
theorem yHit {Y : Nat} {s : ByteArray} {w W : World} {p : Option Addr} (h : YS Y s w W p) (hp : YV Y p) (q : Option Addr) (hq : YV Y q) :
    Calls Try.prog 36 #[.pointer (some ⟨Y, 0, none⟩), .nilIface, .pointer p, .pointer q] W fun e W' => e = .returned (.bool true) ∧ YS Y s w W' q := by
  refine (cHitS (gate_nil 1) [] (by simp) Y 0 p q W trivial (fun h => h) (by have := h.size; omega) h.yc h.yf (h.ptr p hp) (h.ptr q hq)).mono ?_
  rintro e W' ⟨rfl, _, hv⟩
  exact ⟨rfl, h.next hv⟩
theorem yMiss {Y : Nat} {s : ByteArray} {w W : World} {p : Option Addr} (h : YS Y s w W p) (hp : YV Y p) (o q : Option Addr) (ho : YV Y o) (hq : YV Y q) (hne : p ≠ o) :
    Calls Try.prog 36 #[.pointer (some ⟨Y, 0, none⟩), .nilIface, .pointer o, .pointer q] W fun e W' => e = .returned (.bool false) ∧ YS Y s w W' p := by
  refine (cMissS (gate_nil 1) [] (by simp) Y 0 p o q W trivial (fun h => h) (by have := h.size; omega) h.yc h.yf (h.ptr p hp) (h.ptr o ho) (h.ptr q hq) hne).mono ?_
  rintro e W' ⟨rfl, _, hv⟩
  exact ⟨rfl, h.next hv⟩
theorem ys_start {w W : World} (hb : Below w.heap.size w W) (s : ByteArray) (t : TypeId) : YS W.heap.size s w (((W.alloc (.cells #[.pointer none] t)).alloc (.cells #[.string s] 9)).alloc (.cells #[.string s] 9)) none := by
  have hs := hb.size
  generalize h1 : W.alloc (.cells #[.pointer none] t) = W1
  generalize h2 : W1.alloc (.cells #[.string s] 9) = W2
  generalize h3 : W2.alloc (.cells #[.string s] 9) = W3
  have z1 : W1.heap.size = W.heap.size + 1 := by rw [← h1]; simp
  have z2 : W2.heap.size = W.heap.size + 2 := by rw [← h2]; simp [z1]
  have z3 : W3.heap.size = W.heap.size + 3 := by rw [← h3]; simp [z2]
  have b3 : ∀ k, k < W.heap.size + 2 → W3.heap[k]? = W2.heap[k]? := fun k hk => by rw [← h3]; exact Below.heap_alloc _ _ _ (by omega)
  have b2 : ∀ k, k < W.heap.size + 1 → W2.heap[k]? = W1.heap[k]? := fun k hk => by rw [← h2]; exact Below.heap_alloc _ _ _ (by omega)
  have n1 : W3.heap[W.heap.size]? = some (.cells #[.pointer none] t (0, 0)) := by rw [b3 _ (by omega), b2 _ (by omega), ← h1]; exact heap_alloc_at _ _ _ rfl
  have n2 : W3.heap[W.heap.size + 1]? = some (.cells #[.string s] 9 (0, 0)) := by rw [b3 _ (by omega), ← h2]; exact heap_alloc_at _ _ _ z1.symm
  have n3 : W3.heap[W.heap.size + 2]? = some (.cells #[.string s] 9 (0, 0)) := by rw [← h3]; exact heap_alloc_at _ _ _ z2.symm
  refine ⟨fun i q1 q2 => ?_, by simp [World.cell?, n1], by simp [World.frozen?, n1], by omega, ?_, hs⟩
  · have : i = 1 ∨ i = 2 := by omega
    rcases this with rfl | rfl
    · exact n2
    · exact n3
  · rw [← h3, ← h2, ← h1]
    exact ((hb.alloc hs _).alloc (by simp; omega) _).alloc (by simp; omega) _

/-- A mark in block Z. -/
structure MS (Z : Nat) (b : Bool) (w W : World) : Prop where
  mc : W.cell? ⟨Z, 0, none⟩ = some (.int .u32 (bI b))
  mf : W.frozen? ⟨Z, 0, none⟩ = false
  lt : Z < W.heap.size
  below : Below w.heap.size w W
  low : w.heap.size ≤ Z
theorem MS.next {Z : Nat} {b c : Bool} {w W W' : World} (h : MS Z b w W) (hv : VStep (fun _ => False) Z 0 (.int .u32 (bI c)) W W') : MS Z c w W' := by
  have hl := h.low
  exact ⟨hv.cell h.mc, (hv.fro 0).trans h.mf, Nat.lt_of_lt_of_le h.lt hv.kp.size, h.below.trans (hv.kp.to_below w.heap.size h.below.size (by rintro k hk (h | h); exact h; omega)), hl⟩
theorem mLoad {Z : Nat} {b : Bool} {w W : World} (h : MS Z b w W) : Calls Try.prog 38 #[.pointer (some ⟨Z, 0, none⟩), .nilIface] W fun e W' => e = .returned (.bool b) ∧ MS Z b w W' := by
  refine (kLoad (gate_nil 1) [] (by simp) Z 0 b W trivial (fun h => h) h.lt h.mc h.mf).mono ?_
  rintro e W' ⟨rfl, _, hv⟩
  exact ⟨rfl, h.next hv⟩
theorem mLoad2 {M Z : Nat} {b c : Bool} {w W : World} (h : MS M b w W) (k : MS Z c w W) (hne : Z ≠ M) : Calls Try.prog 38 #[.pointer (some ⟨M, 0, none⟩), .nilIface] W fun e W' => e = .returned (.bool b) ∧ MS Z c w W' := by
  refine (kLoad (gate_nil 1) [] (by simp) M 0 b W trivial (fun h => h) h.lt h.mc h.mf).mono ?_
  rintro e W' ⟨rfl, _, hv⟩
  have hl := h.low
  have hn : ¬ (False ∨ Z = M) := by rintro (h | h); exact h; exact hne h
  exact ⟨rfl, (hv.kp.cell (p := ⟨Z, 0, none⟩) k.lt hn).trans k.mc, (hv.kp.frozen (p := ⟨Z, 0, none⟩) k.lt hn).trans k.mf, Nat.lt_of_lt_of_le k.lt hv.kp.size, k.below.trans (hv.kp.to_below w.heap.size k.below.size (by rintro k hk (h | h); exact h; omega)), k.low⟩
theorem MS.later {M : Nat} {b : Bool} {w W : World} (h : MS M b w W) (o : Obj) : MS M b w (W.alloc o) := by
  have hk : Kp (fun _ => False) W (W.alloc o) := (Kp.refl _ _).alloc o
  exact ⟨(hk.cell (p := ⟨M, 0, none⟩) h.lt (fun h => h)).trans h.mc, (hk.frozen (p := ⟨M, 0, none⟩) h.lt (fun h => h)).trans h.mf, Nat.lt_of_lt_of_le h.lt hk.size, h.below.trans (hk.to_below w.heap.size h.below.size (fun _ _ h => h)), h.low⟩
theorem MS.fresh {w W : World} (hb : Below w.heap.size w W) (t : TypeId) : MS W.heap.size false w (W.alloc (.cells #[.int .u32 0] t)) := ⟨by simp [bI], by simp, by simp, hb.alloc hb.size _, hb.size⟩
theorem mSwap {Z : Nat} {b : Bool} {w W : World} (h : MS Z b w W) (c : Bool) : Calls Try.prog 40 #[.pointer (some ⟨Z, 0, none⟩), .nilIface, .bool c] W fun e W' => e = .returned (.bool b) ∧ MS Z c w W' := by
  refine (kSwap (gate_nil 1) [] (by simp) Z 0 b c W trivial (fun h => h) h.lt h.mc h.mf).mono ?_
  rintro e W' ⟨rfl, _, hv⟩
  exact ⟨rfl, h.next hv⟩
theorem mHit {Z : Nat} {b : Bool} {w W : World} (h : MS Z b w W) (c : Bool) : Calls Try.prog 39 #[.pointer (some ⟨Z, 0, none⟩), .nilIface, .bool b, .bool c] W fun e W' => e = .returned (.bool true) ∧ MS Z c w W' := by
  refine (kHit (gate_nil 1) [] (by simp) Z 0 b c W trivial (fun h => h) h.lt h.mc h.mf).mono ?_
  rintro e W' ⟨rfl, _, hv⟩
  exact ⟨rfl, h.next hv⟩
theorem mMiss {Z : Nat} {b : Bool} {w W : World} (h : MS Z b w W) (o c : Bool) (hne : ¬ b = o) : Calls Try.prog 39 #[.pointer (some ⟨Z, 0, none⟩), .nilIface, .bool o, .bool c] W fun e W' => e = .returned (.bool false) ∧ MS Z b w W' := by
  refine (kMiss (gate_nil 1) [] (by simp) Z 0 b o c W trivial (fun h => h) h.lt h.mc h.mf hne).mono ?_
  rintro e W' ⟨rfl, _, hv⟩
  exact ⟨rfl, h.next hv⟩
theorem newMark_any (b : Bool) (w0 w : World) (hb0 : Below w0.heap.size w0 w) : Calls Try.prog 37 #[.bool b] w fun e w' => e = .returned (.pointer (some ⟨w.heap.size, 0, none⟩)) ∧ MS w.heap.size b w0 w' := by
  have HS : Hid _ := bStore w.heap.size 0 false b (w.alloc (.cells #[.int .u32 0] 84)) (by simp [bI]) (by simp)
  go_enter Try.func37, Try.ntmps37
  go_wp2_with (first | (go_at_call 77; refine Calls.mono HS.out ?_; rintro e w' ⟨rfl, rfl⟩))
  go_ret
  have hB : Below w0.heap.size w0 (w.alloc (.cells #[.int .u32 (bI b)] 84)) := hb0.alloc hb0.size _
  exact ⟨rfl, by simp, by simp, by simp, ⟨hB.os, hB.tape, hB.output, hB.size, hB.block⟩, hb0.size⟩

set_option maxRecDepth 100000 in
set_option maxHeartbeats 4000000 in
theorem same_walk (n : Int) (s : ByteArray) (w : World) :
    Calls Try.prog 7 #[.int .i64 n, .string s] w fun e w' => e = .returned (.bool true) ∧ Below w.heap.size w w' := by
  have hns := neq_same
  have hnp := neq_pair n s
  go_enter Try.func7, Try.ntmps7
  go_wp2_with (first | (go_at_call 11; refine (awake_any _).mono ?_; rintro e w1 ⟨rfl, hb1⟩) | (go_at_call 17; refine (newTape_any _).mono ?_; rintro e w2 ⟨rfl, rfl⟩) | (go_at_call 30; refine (newP w1.heap.size #[.int .i64 n, .string s] _ (by rw [Below.heap_alloc _ _ _ (by simp; omega), Below.heap_alloc _ _ _ (by simp)]; exact heap_alloc_at _ _ _ rfl) (by rw [pair_cells]; rfl)).mono ?_; rintro e w2 ⟨rfl, rfl⟩))
  have S0 := ss_start hb1 n s
  generalize (((((w1.alloc (.cells #[.int .i64 n, .string s] 62)).alloc (.cells #[.int .i64 n, .string s] 62)).alloc (.cells #[.int .i64 n, .string s] 62)).alloc (.cells #[.pointer (some ⟨w1.heap.size, 0, none⟩)] 126)).alloc (.cells #[.slice none 0 0] 114)) = W0 at S0 ⊢
  clear hb1
  generalize w1.heap.size = H at *
  have Z0 : Hid _ := S0
  clear S0
  refine Calls.mono (sMiss Z0.out (pv0 H) (some ⟨H + 1, 0, none⟩) (some ⟨H + 1 + 1, 0, none⟩) (pv1 H) (pv2 H) (ne_blk (by omega)) (by simp)) ?_
  rintro e W1 ⟨rfl, S1⟩
  have Z1 : Hid _ := S1
  clear S1 Z0
  go_wp2_with fail
  refine Calls.mono (sLoad Z1.out (pv0 H) (by simp)) ?_
  rintro e W2 ⟨rfl, S2⟩
  have Z2 : Hid _ := S2
  clear S2 Z1
  go_wp2_with fail
  refine Calls.mono (sHit Z2.out (pv0 H) (some ⟨H + 1, 0, none⟩) (pv1 H) (by simp)) ?_
  rintro e W3 ⟨rfl, S3⟩
  have Z3 : Hid _ := S3
  clear S3 Z2
  go_wp2_with fail
  refine Calls.mono (sMiss Z3.out (pv1 H) (some ⟨H, 0, none⟩) (some ⟨H + 1 + 1, 0, none⟩) (pv0 H) (pv2 H) (ne_blk (by omega)) (by simp)) ?_
  rintro e W4 ⟨rfl, S4⟩
  have Z4 : Hid _ := S4
  clear S4 Z3
  go_wp2_with fail
  refine Calls.mono (sSwap Z4.out (pv1 H) (some ⟨H + 1 + 1, 0, none⟩) (pv2 H) (by simp)) ?_
  rintro e W5 ⟨rfl, S5⟩
  have Z5 : Hid _ := S5
  clear S5 Z4
  go_wp2_with fail
  refine Calls.mono (sLoadN Z5.out (pv2 H)) ?_
  rintro e W6 ⟨rfl, S6⟩
  have Z6 : Hid _ := S6
  clear S6 Z5
  go_wp2_with fail
  refine Calls.mono (sStore Z6.out none (pvn H) (by simp)) ?_
  rintro e W7 ⟨rfl, S7⟩
  have Z7 : Hid _ := S7
  clear S7 Z6
  go_wp2_with fail
  refine Calls.mono (sLoadN Z7.out (pvn H)) ?_
  rintro e W8 ⟨rfl, S8⟩
  have Z8 : Hid _ := S8
  clear S8 Z7
  go_wp2_with fail
  refine Calls.mono (sMiss Z8.out (pvn H) (some ⟨H + 1 + 1, 0, none⟩) (some ⟨H, 0, none⟩) (pv2 H) (pv0 H) (by simp) (by simp)) ?_
  rintro e W9 ⟨rfl, S9⟩
  have Z9 : Hid _ := S9
  clear S9 Z8
  go_wp2_with fail
  refine Calls.mono (sHit Z9.out (pvn H) (some ⟨H, 0, none⟩) (pv0 H) (by simp)) ?_
  rintro e W10 ⟨rfl, S10⟩
  have Z10 : Hid _ := S10
  clear S10 Z9
  go_wp2_with fail
  refine Calls.mono (sLoadN Z10.out (pv0 H)) ?_
  rintro e W11 ⟨rfl, S11⟩
  have Z11 : Hid _ := S11
  have c0 : W11.cell? ⟨H, 0, none⟩ = some (.int .i64 n) := by have := S11.pairs 0 (by omega); simp at this; simp [World.cell?, this]
  have c1 : W11.cell? ⟨H, 1, none⟩ = some (.string s) := by have := S11.pairs 0 (by omega); simp at this; simp [World.cell?, this]
  clear S11 Z10
  go_wp2_with fail
  have HK : Hid _ := kinds_any (H + 4) (H + 5) [5, 1, 5, 5, 4, 2, 5, 5] W11 Z11.out.tape (by simp) (by simp)
  clear c0 c1
  refine Calls.mono HK.out ?_
  rintro e W12 ⟨v', rfl, hov, hb12⟩
  obtain ⟨a5, c5, b5, rfl, hn5⟩ := owns_list hov (by unfold maxLen; simp)
  have Z12 : Hid _ := Z11.out.kp hb12
  have N5 : Hid _ := hn5
  clear HK Z11 hov hb12 hn5
  go_wp2_with fail
  have HI : Hid _ := ints_same b5 0 W12.heap.size 0 8 c5 8 a5 _ (atL [5, 1, 5, 5, 4, 2, 5, 5]) _ (N5.out.below ((Below.refl _ _).alloc (Nat.le_refl _) _)) (litL W12 3 [5, 1, 5, 5, 4, 2, 5, 5] (by unfold maxLen; simp))
  refine Calls.mono HI.out ?_
  rintro e W13 ⟨rfl, hb13⟩
  have B13 : Hid (Below w.heap.size w W13) := (Z12.out.below.alloc Z12.out.below.size _).trans (hb13.mono (by have := Z12.out.below.size; simp; omega))
  clear HI hb13 N5 Z12
  go_wp2_with fail
  have Y0 : Hid _ := ys_start B13.out s 75
  generalize ((W13.alloc (.cells #[.pointer none] 75)).alloc (.cells #[.string s] 9)).alloc (.cells #[.string s] 9) = V0 at Y0 ⊢
  clear B13
  generalize W13.heap.size = Y at *
  have hst := neq_str
  refine Calls.mono (yLoad Y0.out (Or.inl rfl)) ?_
  rintro e V1 ⟨rfl, hy⟩
  have Y1 : Hid _ := hy
  clear hy Y0
  go_wp2_with fail
  refine Calls.mono (yMiss Y1.out (Or.inl rfl) (some ⟨Y + 1, 0, none⟩) (some ⟨Y + 1 + 1, 0, none⟩) (Or.inr ⟨1, by omega, by omega, rfl⟩) (Or.inr ⟨2, by omega, by omega, rfl⟩) (by simp)) ?_
  rintro e V2 ⟨rfl, hy⟩
  have Y2 : Hid _ := hy
  clear hy Y1
  go_wp2_with fail
  refine Calls.mono (yHit Y2.out (Or.inl rfl) (some ⟨Y + 1, 0, none⟩) (Or.inr ⟨1, by omega, by omega, rfl⟩)) ?_
  rintro e V3 ⟨rfl, hy⟩
  have Y3 : Hid _ := hy
  clear hy Y2
  go_wp2_with fail
  refine Calls.mono (yMiss Y3.out (Or.inr ⟨1, by omega, by omega, rfl⟩) (some ⟨Y + 1 + 1, 0, none⟩) (some ⟨Y + 1, 0, none⟩) (Or.inr ⟨2, by omega, by omega, rfl⟩) (Or.inr ⟨1, by omega, by omega, rfl⟩) (ne_blk (by omega))) ?_
  rintro e V4 ⟨rfl, hy⟩
  have Y4 : Hid _ := hy
  clear hy Y3
  go_wp2_with fail
  refine Calls.mono (yLoad Y4.out (Or.inr ⟨1, by omega, by omega, rfl⟩)) ?_
  rintro e V5 ⟨rfl, hy⟩
  have Y5 : Hid _ := hy
  clear hy Y4
  go_wp2_with fail
  refine (newMark_any (decide (0 < n)) w V5 Y5.out.below).mono ?_
  rintro e V6 ⟨rfl, hm⟩
  have M0 : Hid _ := hm.later (.cells #[.int .u32 0] 84)
  have K0 : Hid _ := MS.fresh hm.below 84
  have mne : V6.heap.size ≠ V5.heap.size := by have := hm.lt; omega
  clear hm Y5
  go_wp2_with fail
  refine Calls.mono (mLoad2 M0.out K0.out mne) ?_
  rintro e X1 ⟨rfl, hy⟩
  have K1 : Hid _ := hy
  clear hy M0 K0
  go_wp2_with fail
  refine Calls.mono (mLoad K1.out) ?_
  rintro e X2 ⟨rfl, hy⟩
  have K2 : Hid _ := hy
  clear hy K1
  go_wp2_with fail
  refine Calls.mono (mMiss K2.out true true (by simp)) ?_
  rintro e X3 ⟨rfl, hy⟩
  have K3 : Hid _ := hy
  clear hy K2
  go_wp2_with fail
  refine Calls.mono (mHit K3.out true) ?_
  rintro e X4 ⟨rfl, hy⟩
  have K4 : Hid _ := hy
  clear hy K3
  go_wp2_with fail
  refine Calls.mono (mSwap K4.out false) ?_
  rintro e X5 ⟨rfl, hy⟩
  have K5 : Hid _ := hy
  clear hy K4
  go_wp2_with fail
  refine Calls.mono (mLoad K5.out) ?_
  rintro e X6 ⟨rfl, hy⟩
  have K6 : Hid _ := hy
  clear hy K5
  go_wp2_with fail
  go_ret
  exact ⟨by simp, K6.out.below⟩
end Go.Proofs.Ytlbfkgecckdlgaa

/- Layer 20: gates beside rows of other types: what a pass may change, and what others may change beside it. What sync/atomic's Swap, And and Or do to a cell of an integer kind, in the run of one goroutine: laws on any program. Layer 2: frames, the gate as a contract, a number's cell. What sync/atomic.Int64's methods do at any place, and cell.Num's methods through any gate. A Tape as a gate; what doNum and oneIf answer. Layer 2: what sync/atomic.Bool's methods do at any place, and cell.Mark's through any gate. What the conversions to and from unsafe.Pointer and sync/atomic's functions of pointers do, in the run of one goroutine: laws on any program. Layer 20: what cells of the tree's nodes do (after layer 2's CCellP). Layer 20: stores without a gate on the way to a new node (after layer 28's HAt). Layer 20: the tree's nodes in memory; a node is made. -/
import Derived.Laws.LoneSync
import Derived.Test.YthdfpddijocfkaaRows
import Derived.WalkKit
import Derived.WalkSpells
import Derived.WalkLawsBesides
import Derived.Deep.AppendLies
import Derived.Deep.RegionHeld3
import Derived.Deep.DrawnRows
import Derived.LaidEql
import Derived.Test.YthdfpddijocfkaaTNorm
import Derived.Deep.RegionWith
import Derived.Deep.RegionLaw

namespace Go.Proofs.Ythdfpddijocfkaa

open Go

variable {P : Program} {f : FuncId} {fn : Func}

theorem run_call_swap (hf : P.funcs[f]? = some fn) (hname : (fn.name == "runtime.NumGoroutine") = false) (hb : fn.body.isNone = true) (hn : Extern.findNext fn = none) (k : IntKind)
    (he : Extern.find fn = some (Extern.Atomic.swapT (.int k))) {a : Addr} {x y : Int} {w : World} (hc : w.cell? a = some (.int k x)) (hz : w.frozen? a = false) :
    (callFunc f #[.pointer (some a), .int k y]).run P w = .ok (.value (.int k x)) (w.setCell a (.int k y)) := by
  rw [run_callFunc_extern hf hname hb hn he]
  change (Sem.run P (do
    let a' ← asAddr (.pointer (some a))
    let old ← Extern.Atomic.read (.int k) a'
    store a' (.int k y) .atomic
    pure old) w).andThen _ = _
  simp [Extern.Atomic.read, asAddr, hc, hz, run_store P w a (.int k y) .atomic rfl, Result.andThen]

theorem run_call_bits (op : BinOp) (hf : P.funcs[f]? = some fn) (hname : (fn.name == "runtime.NumGoroutine") = false) (hb : fn.body.isNone = true) (hn : Extern.findNext fn = none) (k : IntKind)
    (he : Extern.find fn = some (Extern.Atomic.update (Op.intBits op) k false)) {a : Addr} {x y s : Int} {w : World} (hc : w.cell? a = some (.int k x)) (hz : w.frozen? a = false)
    (hs : (Op.intBits op k x y).run P w = .ok (.int k s) w) :
    (callFunc f #[.pointer (some a), .int k y]).run P w = .ok (.value (.int k x)) (w.setCell a (.int k s)) := by
  rw [run_callFunc_extern hf hname hb hn he]
  change (Sem.run P (do
    let a' ← asAddr (.pointer (some a))
    let old ← Extern.Atomic.read (.int k) a'
    let new ← Op.intBits op k (← asInt old) (← asInt (.int k y))
    store a' new .atomic
    pure (if false = true then new else old)) w).andThen _ = _
  simp [Extern.Atomic.read, asAddr, asInt, asIntOf, hc, hz, hs, run_store P w a (.int k s) .atomic rfl, Result.andThen]

end Go.Proofs.Ythdfpddijocfkaa





namespace Go.Proofs.Ythdfpddijocfkaa

open Go.RowKit

/-- Of the blocks of w all but those of X are in w' as they were. -/
structure Kp (X : Nat → Prop) (w w' : World) : Prop where
  os : w'.os = w.os
  tape : w'.tape = w.tape
  output : w'.output = w.output
  size : w.heap.size ≤ w'.heap.size
  block : ∀ k, k < w.heap.size → ¬ X k → w'.heap[k]? = w.heap[k]?

theorem Kp.refl (X : Nat → Prop) (w : World) : Kp X w w := ⟨rfl, rfl, rfl, Nat.le_refl _, fun _ _ _ => rfl⟩
theorem Kp.trans {X : Nat → Prop} {a b c : World} (h : Kp X a b) (k : Kp X b c) : Kp X a c :=
  ⟨k.os.trans h.os, k.tape.trans h.tape, k.output.trans h.output, Nat.le_trans h.size k.size, fun i hi hn => (k.block i (Nat.lt_of_lt_of_le hi h.size) hn).trans (h.block i hi hn)⟩
theorem Kp.mono {X Y : Nat → Prop} {w w' : World} (h : Kp X w w') (hXY : ∀ k, X k → Y k) : Kp Y w w' := ⟨h.os, h.tape, h.output, h.size, fun k hk hn => h.block k hk (fun hx => hn (hXY k hx))⟩
theorem Kp.of_below {X : Nat → Prop} {w w' : World} (h : Below w.heap.size w w') : Kp X w w' := ⟨h.os, h.tape, h.output, h.size, fun k hk _ => h.block k hk⟩
theorem Kp.to_below {X : Nat → Prop} {w w' : World} (h : Kp X w w') (B : Nat) (hB : B ≤ w.heap.size) (hX : ∀ k, k < B → ¬ X k) : Below B w w' := ⟨h.os, h.tape, h.output, h.size, fun k hk => h.block k (by omega) (hX k hk)⟩
theorem Kp.alloc {X : Nat → Prop} {w w' : World} (h : Kp X w w') (o : Obj) : Kp X w (w'.alloc o) := h.trans (Kp.of_below ((Below.refl _ _).alloc (Nat.le_refl _) o))
theorem Kp.drew {X : Nat → Prop} {w w' : World} (h : Kp X w w') : Kp X w w'.drew := ⟨h.os, h.tape, h.output, h.size, h.block⟩
theorem Kp.drewN {X : Nat → Prop} {w w' : World} (h : Kp X w w') (n : Nat) : Kp X w (w'.drewN n) := ⟨h.os, h.tape, h.output, h.size, h.block⟩
theorem Kp.set {X : Nat → Prop} {w w' : World} (h : Kp X w w') {p : Addr} (hp : X p.block) (v : Value) : Kp X w (w'.setCell p v) :=
  h.trans ⟨rfl, rfl, rfl, by simp [World.setCell], fun k _ hn => Below.heap_setCell _ _ _ _ (fun e => hn (by rw [e]; exact hp))⟩
theorem Kp.cell {X : Nat → Prop} {w w' : World} (h : Kp X w w') {p : Addr} (hp : p.block < w.heap.size) (hn : ¬ X p.block) : w'.cell? p = w.cell? p := World.cell?_of_block (w := w) (h.block p.block hp hn)
theorem Kp.frozen {X : Nat → Prop} {w w' : World} (h : Kp X w w') {p : Addr} (hp : p.block < w.heap.size) (hn : ¬ X p.block) : w'.frozen? p = w.frozen? p := World.frozen?_of_block (w := w) (h.block p.block hp hn)

/-- A gate: what it has noted, the blocks that it may turn, and that one pass notes one kind. -/
structure GateOk (gv : Value) (X : Nat → Prop) (most : Nat) (G : List Int → World → Prop) : Prop where
  pass : ∀ (ks : List Int) (kd : Int) (w : World), G ks w → ks.length < most → Calls Try.prog 65 #[gv, .int .i64 kd] w fun e w' => e = .returned (.tuple #[]) ∧ G (ks ++ [kd]) w' ∧ Kp X w w'
  keep : ∀ (ks : List Int) (Y : Nat → Prop) (w w' : World), G ks w → Kp Y w w' → (∀ k, Y k → ¬ X k) → G ks w'

/-- No gate: nobody is asked. -/
theorem gate_nil (most : Nat) : GateOk .nilIface (fun _ => False) most (fun _ _ => True) := by
  refine ⟨?_, fun _ _ _ _ _ _ _ => trivial⟩
  intro ks kd w _ _
  go_enter Try.func65, Try.ntmps65
  go_wp2
  go_end0
  exact ⟨rfl, trivial, Kp.refl _ _⟩

theorem word_num (b i : Nat) (w : World) : Calls Try.prog 80 #[.pointer (some ⟨b, i, none⟩)] w fun e w' => e = .returned (.pointer (some ⟨b, i, none⟩)) ∧ w = w' := by
  go_enter Try.func80, Try.ntmps80
  go_wp2
  go_ret
  exact ⟨rfl, rfl⟩
end Go.Proofs.Ythdfpddijocfkaa

namespace Go.Proofs.Ythdfpddijocfkaa

open Go.RowKit

/-- The number that a cell holds behind an access, and what the access answers. -/
def nN (c d a b : Int) : Int := if d = 2 ∨ d = 4 then a else if d = 3 then IntKind.i64.wrap (c + a) else if d = 5 then (if c = a then b else c) else if d = 6 then bits .and .i64 c a else if d = 7 then bits .or .i64 c a else c
def nO (c d a : Int) : Int := if d = 2 then 0 else if d = 3 then IntKind.i64.wrap (c + a) else if d = 5 then (if c = a then 1 else 0) else c

/-- One access to the number at block b, place i: the gate's blocks aside, that cell alone has turned. -/
structure NumStep (X : Nat → Prop) (b i : Nat) (v : Int) (w w' : World) : Prop where
  kp : Kp (fun k => X k ∨ k = b) w w'
  at_ : w'.heap[b]? = (w.setCell ⟨b, i, none⟩ (.int .i64 v)).heap[b]?

theorem set_same {w : World} {b i : Nat} {v : Value} (h : w.cell? ⟨b, i, none⟩ = some v) : (w.setCell ⟨b, i, none⟩ v).heap[b]? = w.heap[b]? := by
  simp only [World.setCell, Array.getElem?_modify, if_true]
  unfold World.cell? at h
  simp at h
  split at h
  · rename_i c e fr hb
    rw [hb]
    simp
    apply Array.ext_getElem?
    intro j
    rw [Array.getElem?_setIfInBounds]
    split
    · rename_i hj
      subst hj
      split
      · exact h.symm
      · rename_i hn; rw [Array.getElem?_eq_none (by omega)] at h; cases h
    · rfl
  · cases h

theorem NumStep.cell {X : Nat → Prop} {b i : Nat} {v : Int} {w w' : World} {u : Value} (h : NumStep X b i v w w') (hc : w.cell? ⟨b, i, none⟩ = some u) : w'.cell? ⟨b, i, none⟩ = some (.int .i64 v) := by
  rw [World.cell?_of_block (w := w.setCell ⟨b, i, none⟩ (.int .i64 v)) (w' := w') (a := ⟨b, i, none⟩) h.at_]
  exact World.cell?_setCell_same _ _ _ hc
theorem NumStep.other {X : Nat → Prop} {b i : Nat} {v : Int} {w w' : World} (h : NumStep X b i v w w') {j : Nat} (hj : i ≠ j) : w'.cell? ⟨b, j, none⟩ = w.cell? ⟨b, j, none⟩ := by
  rw [World.cell?_of_block (w := w.setCell ⟨b, i, none⟩ (.int .i64 v)) (w' := w') (a := ⟨b, j, none⟩) h.at_]
  exact World.cell?_setCell_other _ _ _ _ (fun e => hj (congrArg Addr.off e))
theorem NumStep.fro {X : Nat → Prop} {b i : Nat} {v : Int} {w w' : World} (h : NumStep X b i v w w') (j : Nat) : w'.frozen? ⟨b, j, none⟩ = w.frozen? ⟨b, j, none⟩ := by
  rw [World.frozen?_of_block (w := w.setCell ⟨b, i, none⟩ (.int .i64 v)) (w' := w') (a := ⟨b, j, none⟩) h.at_]
  simp

theorem aStore (b i : Nat) (x y : Int) (w : World) (hc : w.cell? ⟨b, i, none⟩ = some (.int .i64 x)) (hz : w.frozen? ⟨b, i, none⟩ = false) : Calls Try.prog 81 #[.pointer (some ⟨b, i, none⟩), .int .i64 y] w fun e w' => e = .returned (.tuple #[]) ∧ w' = w.setCell ⟨b, i, none⟩ (.int .i64 y) := by
  have hl := run_call_store (P := Try.prog) Try.func83 (by kernel_rfl) (by kernel_rfl) (by kernel_rfl) (by kernel_rfl) (k := .i64) (y := y) hc hz
  go_enter Try.func81, Try.ntmps81
  go_wp2
  go_end0
  exact ⟨rfl, rfl⟩

theorem kp_setb (w : World) (b i : Nat) (v : Value) : Kp (fun k => k = b) w (w.setCell ⟨b, i, none⟩ v) := Kp.set (X := fun k => k = b) (Kp.refl _ _) (p := ⟨b, i, none⟩) rfl v
theorem kp_setX {X : Nat → Prop} {w w1 : World} (h : Kp X w w1) (b i : Nat) (v : Value) : Kp (fun k => X k ∨ k = b) w (w1.setCell ⟨b, i, none⟩ v) := Kp.set (X := fun k => X k ∨ k = b) (h.mono (fun _ h => Or.inl h)) (p := ⟨b, i, none⟩) (Or.inr rfl) v
theorem num_at {X : Nat → Prop} {w w1 : World} {b : Nat} (h : Kp X w w1) (hX : ¬ X b) (hb : b < w.heap.size) (i : Nat) (v : Value) : (w1.setCell ⟨b, i, none⟩ v).heap[b]? = (w.setCell ⟨b, i, none⟩ v).heap[b]? := by
  simp only [World.setCell, Array.getElem?_modify, if_true, h.block b hb hX]
theorem num_same {X : Nat → Prop} {w w1 : World} {b i : Nat} {v : Value} (h : Kp X w w1) (hX : ¬ X b) (hb : b < w.heap.size) (hc : w.cell? ⟨b, i, none⟩ = some v) : w1.heap[b]? = (w.setCell ⟨b, i, none⟩ v).heap[b]? := by
  rw [set_same hc]; exact h.block b hb hX

set_option maxHeartbeats 400000 in
theorem nStore {gv : Value} {X : Nat → Prop} {most : Nat} {G : List Int → World → Prop} (g : GateOk gv X most G) (ks : List Int) (hk : ks.length < most) (b i : Nat) (x y : Int) (w : World) (hG : G ks w) (hX : ¬ X b) (hb : b < w.heap.size) (hc : w.cell? ⟨b, i, none⟩ = some (.int .i64 x)) (hz : w.frozen? ⟨b, i, none⟩ = false) :
    Calls Try.prog 74 #[.pointer (some ⟨b, i, none⟩), gv, .int .i64 y] w fun e w' => e = .returned (.tuple #[]) ∧ G (ks ++ [2]) w' ∧ NumStep X b i y w w' := by
  have HP : Hid _ := g.pass ks 2 w hG hk
  go_enter Try.func74, Try.ntmps74
  go_wp2_with (first | (go_at_call 65; refine Calls.mono HP.out ?_; rintro e w1 ⟨rfl, hg1, hk1⟩; have hc1 := (hk1.cell (p := ⟨b, i, none⟩) hb hX).trans hc; have hz1 := (hk1.frozen (p := ⟨b, i, none⟩) hb hX).trans hz) | (go_at_call 80; refine (word_num _ _ _).mono ?_; rintro e w' ⟨rfl, rfl⟩) | (go_at_call 81; refine (aStore b i x y _ hc1 hz1).mono ?_; rintro e w' ⟨rfl, rfl⟩))
  go_end0
  exact ⟨rfl, g.keep _ (fun k => k = b) _ _ hg1 (kp_setb _ _ _ _) (fun k e hx => hX (e ▸ hx)), ⟨kp_setX hk1 _ _ _, num_at hk1 hX hb _ _⟩⟩

end Go.Proofs.Ythdfpddijocfkaa


namespace Go.Proofs.Ythdfpddijocfkaa

open Go.RowKit

theorem int_info : (Try.prog.info? 3).map (fun i => (i.zero, i.size, i.bytes)) = some (some (.int .i64 0), 1, 8) := by kernel_rfl
theorem ints_under : Try.prog.underlying 23 = some (.slice 3) := by kernel_rfl
theorem mPass (a : Addr) (w : World) : (method 281 64 (.pointer (some a)) "Pass").run Try.prog w = .ok (100, .pointer (some a)) w := by kernel_rfl

/-- What a Tape in block tb has noted; its list lies in a block from B on. -/
structure TapeAt (tb B : Nat) (ks : List Int) (w : World) : Prop where
  row : ∃ kv, w.cell? ⟨tb, 0, none⟩ = some kv ∧ w.ownsRow B 3 1 kv ks.length (ks.map (Value.int .i64))
  fro : w.frozen? ⟨tb, 0, none⟩ = false
  lt : tb < B
  size : B ≤ w.heap.size
/-- The blocks that a pass may turn. -/
def TapeX (tb B : Nat) : Nat → Prop := fun k => k = tb ∨ B ≤ k

theorem owns_kept {w w' : World} {B : Nat} {e : TypeId} {sz : Nat} {v : Value} {n : Nat} {xs : List Value} (h : w.ownsRow B e sz v n xs) (hb : ∀ k, k < w.heap.size → B ≤ k → w'.heap[k]? = w.heap[k]?) : w'.ownsRow B e sz v n xs := by
  obtain ⟨h0, h⟩ := h
  refine ⟨h0, ?_⟩
  rcases h with h | ⟨g, cap, cur, hv, hg, hh, r⟩
  · exact Or.inl h
  · exact Or.inr ⟨g, cap, cur, hv, hg, by rw [hb g (Array.getElem?_eq_some_iff.1 hh).1 hg]; exact hh, r⟩
theorem owns_slice {w : World} {B : Nat} {e : TypeId} {sz : Nat} {v : Value} {n : Nat} {xs : List Value} (h : w.ownsRow B e sz v n xs) : ∃ a c, v = .slice a n c := by
  obtain ⟨_, h⟩ := h
  rcases h with ⟨rfl, rfl⟩ | ⟨g, cap, cur, rfl, _⟩
  · exact ⟨none, 0, rfl⟩
  · exact ⟨_, _, rfl⟩
theorem owns_geM {w : World} {B : Nat} {e : TypeId} {sz : Nat} {v : Value} {n : Nat} {xs : List Value} (h : w.ownsRow B e sz v n xs) : ∀ b, v.ownBlock = some b → B ≤ b := by
  intro b hb
  obtain ⟨_, h⟩ := h
  rcases h with ⟨rfl, _⟩ | ⟨g, cap, cur, rfl, hg, _⟩
  · cases hb
  · simp [Value.ownBlock] at hb; omega
theorem heap_alloc_atM (w : World) (o : Obj) (b : Nat) (h : b = w.heap.size) : (w.alloc o).heap[b]? = some o := by subst h; exact heap_alloc_new w o

set_option maxRecDepth 100000 in
set_option maxHeartbeats 1000000 in
theorem tape_pass (tb B : Nat) (ks : List Int) (kd : Int) (w : World) (h : TapeAt tb B ks w) (hk : ks.length < 100000) :
    Calls Try.prog 100 #[.pointer (some ⟨tb, 0, none⟩), .int .i64 kd] w fun e w' => e = .returned (.tuple #[]) ∧ TapeAt tb B (ks ++ [kd]) w' ∧ Kp (TapeX tb B) w w' := by
  obtain ⟨i0, hi0, hz0, hz1, hz2⟩ := info_parts int_info
  obtain ⟨⟨kv, hc, ho⟩, hz, hlt, hsz⟩ := h
  obtain ⟨a, c, hv⟩ := owns_slice ho
  subst hv
  have htw : tb < w.heap.size := by omega
  go_enter Try.func100, Try.ntmps100
  go_wp2_with (first | (at_builtin; (refine wpList_append_lies _ (by rfl) _ _ _ (by rfl) B 3 i0 _ 1 8 ints_under hi0 hz0 hz1 hz2 rfl (by omega) _ ks.length (ks.map (Value.int .i64)) (by rfl) (ho.alloc _) ⟨w.heap.size, 0, none⟩ 1 1 [.int .i64 kd] (by rfl) (by rfl) (World.news_of_block (cs := #[.int .i64 kd]) (t := 3) (fr := (0, 0)) (heap_alloc_atM _ _ _ rfl)) (by simp [Value.oneCell']) (by omega) (by unfold maxLen; omega) (by omega) (by simp; omega) (w.heap.size + 1) (by simp) ?_); intro gg cap w1 hown1 hgrow hat hlt1; have hB1 : Below B w w1 := Below.grown ((Below.refl B w).alloc hsz _) hgrow (by simp; omega) (owns_geM ho); have hc1 := (hB1.cell (p := ⟨tb, 0, none⟩) hlt).trans hc; have hz1' := (hB1.frozen (p := ⟨tb, 0, none⟩) hlt).trans hz))
  go_end0
  have hs1 : B ≤ w1.heap.size := Nat.le_trans hsz hB1.size
  refine ⟨rfl, ⟨⟨_, World.cell?_setCell_same _ _ _ hc1, ?_⟩, by simpa using hz1', hlt, by simpa [World.setCell] using hs1⟩, ?_⟩
  · refine owns_kept (w := w1) ?_ (fun k _ hk => Below.heap_setCell _ _ _ _ (by simp; omega))
    simpa using hown1
  · exact Kp.set (X := TapeX tb B) ⟨hB1.os, hB1.tape, hB1.output, hB1.size, fun k hk hn => hB1.block k (by unfold TapeX at hn; omega)⟩ (p := ⟨tb, 0, none⟩) (Or.inl rfl) _

theorem gate_tape (tb B most : Nat) (hm : most ≤ 100000) : GateOk (.iface 64 (.pointer (some ⟨tb, 0, none⟩))) (TapeX tb B) most (TapeAt tb B) := by
  refine ⟨?_, ?_⟩
  · intro ks kd w hG hk
    have HP : Hid _ := tape_pass tb B ks kd w hG (by omega)
    have hp := mPass
    go_enter Try.func65, Try.ntmps65
    go_wp2_with (first | (go_at_call 100; refine Calls.mono HP.out ?_; rintro e w1 ⟨rfl, hg1, hk1⟩))
    go_end0
    exact ⟨rfl, hg1, hk1⟩
  · intro ks Y w w' hG hK hd
    obtain ⟨⟨kv, hc, ho⟩, hz, hlt, hsz⟩ := hG
    have hnt : ¬ Y tb := fun h => hd tb h (Or.inl rfl)
    have htw : tb < w.heap.size := by omega
    refine ⟨⟨kv, (hK.cell (p := ⟨tb, 0, none⟩) htw hnt).trans hc, owns_kept ho (fun k hk hB => hK.block k hk (fun h => hd k h (Or.inr hB)))⟩, (hK.frozen (p := ⟨tb, 0, none⟩) htw hnt).trans hz, hlt, Nat.le_trans hsz hK.size⟩

theorem num_alloc {X : Nat → Prop} {b i : Nat} {v : Int} {w w' : World} {o : Obj} (hb : b < w.heap.size) (h : NumStep X b i v (w.alloc o) w') : NumStep X b i v w w' := by
  refine ⟨((Kp.refl _ _).alloc o).trans h.kp, h.at_.trans ?_⟩
  simp only [World.setCell, Array.getElem?_modify, if_true, Below.heap_alloc w o b hb]

end Go.Proofs.Ythdfpddijocfkaa



namespace Go.Proofs.Ythdfpddijocfkaa

open Go.RowKit

attribute [local go_sem ↓] Go.wp_at_zero Go.wp_at_succ

/-- A bool as sync/atomic.Bool keeps it. -/
def bI (v : Bool) : Int := if v then 1 else 0
theorem bI_ne (v : Bool) : (bI v != 0) = v := by cases v <;> rfl
theorem bI_inj (a b : Bool) (h : ¬ a = b) : ¬ bI a = bI b := by revert h; cases a <;> cases b <;> decide

/-- One access at block b, place i: the gate's blocks aside, that cell alone has turned. -/
structure VStep (X : Nat → Prop) (b i : Nat) (v : Value) (w w' : World) : Prop where
  kp : Kp (fun k => X k ∨ k = b) w w'
  at_ : w'.heap[b]? = (w.setCell ⟨b, i, none⟩ v).heap[b]?
theorem VStep.cell {X : Nat → Prop} {b i : Nat} {v : Value} {w w' : World} {u : Value} (h : VStep X b i v w w') (hc : w.cell? ⟨b, i, none⟩ = some u) : w'.cell? ⟨b, i, none⟩ = some v := by
  rw [World.cell?_of_block (w := w.setCell ⟨b, i, none⟩ v) (w' := w') (a := ⟨b, i, none⟩) h.at_]
  exact World.cell?_setCell_same _ _ _ hc
theorem VStep.other {X : Nat → Prop} {b i : Nat} {v : Value} {w w' : World} (h : VStep X b i v w w') {j : Nat} (hj : i ≠ j) : w'.cell? ⟨b, j, none⟩ = w.cell? ⟨b, j, none⟩ := by
  rw [World.cell?_of_block (w := w.setCell ⟨b, i, none⟩ v) (w' := w') (a := ⟨b, j, none⟩) h.at_]
  exact World.cell?_setCell_other _ _ _ _ (fun e => hj (congrArg Addr.off e))
theorem VStep.fro {X : Nat → Prop} {b i : Nat} {v : Value} {w w' : World} (h : VStep X b i v w w') (j : Nat) : w'.frozen? ⟨b, j, none⟩ = w.frozen? ⟨b, j, none⟩ := by
  rw [World.frozen?_of_block (w := w.setCell ⟨b, i, none⟩ v) (w' := w') (a := ⟨b, j, none⟩) h.at_]
  simp
theorem v_alloc {X : Nat → Prop} {b i : Nat} {v : Value} {w w' : World} {o : Obj} (hb : b < w.heap.size) (h : VStep X b i v (w.alloc o) w') : VStep X b i v w w' := by
  refine ⟨((Kp.refl _ _).alloc o).trans h.kp, h.at_.trans ?_⟩
  simp only [World.setCell, Array.getElem?_modify, if_true, Below.heap_alloc w o b hb]
theorem v_drew {X : Nat → Prop} {b i : Nat} {v : Value} {w w' : World} (h : VStep X b i v w.drew w') : VStep X b i v w w' := ⟨⟨h.kp.os, h.kp.tape, h.kp.output, h.kp.size, h.kp.block⟩, h.at_⟩
theorem v_drew' {X : Nat → Prop} {b i : Nat} {v : Value} {w w' : World} (h : VStep X b i v w w') : VStep X b i v w w'.drew := ⟨⟨h.kp.os, h.kp.tape, h.kp.output, h.kp.size, h.kp.block⟩, h.at_⟩

end Go.Proofs.Ythdfpddijocfkaa


namespace Go.Proofs.Ythdfpddijocfkaa

open Go

section

variable {P : Program} {f : FuncId} {fn : Func}

/-- nil, or a whole thing of type T that lies in a block of its own. -/
def PtrOk (P : Program) (T : TypeId) (w : World) (p : Option Addr) : Prop := p = none ∨ ∃ b cs, p = some ⟨b, 0, none⟩ ∧ w.heap[b]? = some (.cells cs T (0, 0)) ∧ cs.size = P.cellsOf T

theorem PtrOk.kp {T : TypeId} {X : Nat → Prop} {w w' : World} {p : Option Addr} (h : PtrOk P T w p) (hk : Kp X w w') (hX : ∀ b, p = some ⟨b, 0, none⟩ → ¬ X b) : PtrOk P T w' p := by
  rcases h with h | ⟨b, cs, rfl, hb, hs⟩
  · exact Or.inl h
  · exact Or.inr ⟨b, cs, rfl, (hk.block b (Array.getElem?_eq_some_iff.1 hb).1 (hX b rfl)).trans hb, hs⟩

theorem run_to_unsafe {src dst T : TypeId} (hs : P.underlying src = some (.pointer T)) (hd : P.underlying dst = some .unsafePointer) (hsz : (P.info? T).map (fun i => decide (i.size = 0)) = some false) (hc : 0 < P.cellsOf T)
    {p : Option Addr} {w : World} (h : PtrOk P T w p) : (convert src dst (.pointer p)).run P w = .ok (.pointer p) w := by
  rcases h with rfl | ⟨b, cs, rfl, hb, hz⟩
  · simp [convert, Conv.unsafePointer, run_underlying hs, run_underlying hd, Result.andThen]
  · have h0 : 0 < cs.size := by omega
    have hcell : w.cell? ⟨b, 0, none⟩ = some cs[0] := by simp [World.cell?, hb, h0]
    exact run_convert_to_unsafe hs hd hsz hcell

theorem run_from_unsafe {src dst T : TypeId} (hs : P.underlying src = some .unsafePointer) (hd : P.underlying dst = some (.pointer T)) (hinfo : (P.info? T).isSome = true) (hc : 0 < P.cellsOf T) (hl : liesAt P P.depth T 1 0 T 1 = true)
    {p : Option Addr} {w : World} (h : PtrOk P T w p) : (convert src dst (.pointer p)).run P w = .ok (.pointer p) w := by
  obtain ⟨i, hi⟩ := Option.isSome_iff_exists.1 hinfo
  rcases h with rfl | ⟨b, cs, rfl, hb, hz⟩
  · simp [convert, Conv.unsafePointer, run_underlying hs, run_underlying hd, Result.andThen]
  · have h1 : cs.size / P.cellsOf T = 1 := by rw [hz]; exact Nat.div_self hc
    have hsh : w.shape? b = some (T, cs.size) := by simp [World.shape?, hb]
    simp [convert, Conv.unsafePointer, Conv.seenAt, viewAt, sizeOf, typeInfo, variablesAt, run_underlying hs, run_underlying hd, hi, hsh, h1, hl, Result.andThen]

theorem run_samePointer_same (w : World) (p : Option Addr) : (samePointer p p).run P w = .ok true w := by
  cases p with
  | none => simp [samePointer]
  | some a => simp [samePointer, run_sameAddr_same]
theorem run_samePointer_other {T : TypeId} {w : World} {p q : Option Addr} (hne : p ≠ q) (hp : PtrOk P T w p) (hq : PtrOk P T w q) : (samePointer p q).run P w = .ok false w := by
  rcases hp with rfl | ⟨b, cs, rfl, hb, hz⟩
  · rcases hq with rfl | ⟨b', cs', rfl, hb', hz'⟩
    · exact absurd rfl hne
    · simp [samePointer]
  · rcases hq with rfl | ⟨b', cs', rfl, hb', hz'⟩
    · simp [samePointer]
    · simp only [samePointer]
      exact run_sameAddr_other w (fun e => hne (congrArg some e)) hb hb'

theorem run_call_loadP (hf : P.funcs[f]? = some fn) (hname : (fn.name == "runtime.NumGoroutine") = false) (hb : fn.body.isNone = true) (hn : Extern.findNext fn = none)
    (he : Extern.find fn = some (Extern.Atomic.loadT .ptr)) {a : Addr} {x : Option Addr} {w : World} (hc : w.cell? a = some (.pointer x)) :
    (callFunc f #[.pointer (some a)]).run P w = .ok (.value (.pointer x)) w := by
  rw [run_callFunc_extern hf hname hb hn he]
  change (Sem.run P (do Extern.Atomic.read .ptr (← asAddr (.pointer (some a)))) w).andThen _ = _
  simp [Extern.Atomic.read, asAddr, hc, Result.andThen]

theorem run_call_storeP (hf : P.funcs[f]? = some fn) (hname : (fn.name == "runtime.NumGoroutine") = false) (hb : fn.body.isNone = true) (hn : Extern.findNext fn = none)
    (he : Extern.find fn = some Extern.Atomic.storeT) {a : Addr} {y : Option Addr} {u : Value} {w : World} (hc : w.cell? a = some u) (hz : w.frozen? a = false) :
    (callFunc f #[.pointer (some a), .pointer y]).run P w = .ok (.value (.tuple #[])) (w.setCell a (.pointer y)) := by
  rw [run_callFunc_extern hf hname hb hn he]
  change (Sem.run P (do
    store (← asAddr (.pointer (some a))) (.pointer y) .atomic
    pure Extern.Atomic.none_) w).andThen _ = _
  simp [asAddr, hc, hz, run_store P w a (.pointer y) .atomic rfl, Extern.Atomic.none_, Result.andThen]

theorem run_call_swapP (hf : P.funcs[f]? = some fn) (hname : (fn.name == "runtime.NumGoroutine") = false) (hb : fn.body.isNone = true) (hn : Extern.findNext fn = none)
    (he : Extern.find fn = some (Extern.Atomic.swapT .ptr)) {a : Addr} {x y : Option Addr} {w : World} (hc : w.cell? a = some (.pointer x)) (hz : w.frozen? a = false) :
    (callFunc f #[.pointer (some a), .pointer y]).run P w = .ok (.value (.pointer x)) (w.setCell a (.pointer y)) := by
  rw [run_callFunc_extern hf hname hb hn he]
  change (Sem.run P (do
    let a' ← asAddr (.pointer (some a))
    let old ← Extern.Atomic.read .ptr a'
    store a' (.pointer y) .atomic
    pure old) w).andThen _ = _
  simp [Extern.Atomic.read, asAddr, hc, hz, run_store P w a (.pointer y) .atomic rfl, Result.andThen]

theorem run_call_casP (hf : P.funcs[f]? = some fn) (hname : (fn.name == "runtime.NumGoroutine") = false) (hb : fn.body.isNone = true) (hn : Extern.findNext fn = none)
    (he : Extern.find fn = some (Extern.Atomic.casT .ptr)) {a : Addr} {x o y : Option Addr} {q : Bool} {w : World} (hc : w.cell? a = some (.pointer x)) (hz : w.frozen? a = false) (hq : (samePointer x o).run P w = .ok q w) :
    (callFunc f #[.pointer (some a), .pointer o, .pointer y]).run P w = .ok (.value (.bool q)) (if q then w.setCell a (.pointer y) else w) := by
  rw [run_callFunc_extern hf hname hb hn he]
  change (Sem.run P (do
    let a' ← asAddr (.pointer (some a))
    if ← Extern.Atomic.touchesFrozen a' then unsupported (.unsafePointer "a write to bytes that a string shares")
    let eq ← match Extern.Atomic.T.ptr, ← Extern.Atomic.read .ptr a', Value.pointer o with
      | _, .int _ x, .int _ y => pure (x == y)
      | .ptr, .pointer x, .pointer y => samePointer x y
      | .int _, .pointer (some _), .int _ 0 | .int _, .int _ 0, .pointer (some _) => pure false
      | .int _, .pointer (some _), _ | .int _, _, .pointer (some _) => unsupported .addressObserved
      | _, _, _ => stuck "atomic.CompareAndSwap: old is no T"
    if eq then store a' (.pointer y) .atomic
    pure (Value.bool eq)) w).andThen _ = _
  cases q <;> simp [Extern.Atomic.touchesFrozen, Extern.Atomic.read, asAddr, viewAt, World.shape?_isSome_of_cell? hc, hc, hz, hq, run_store P w a (.pointer y) .atomic rfl, Result.andThen]
end

end Go.Proofs.Ythdfpddijocfkaa

namespace Go.Proofs.Ythdfpddijocfkaa

open Go.RowKit

theorem ptoR {p : Option Addr} {w : World} (h : PtrOk Try.prog 63 w p) : (convert 41 52 (.pointer p)).run Try.prog w = .ok (.pointer p) w :=
  run_to_unsafe (T := 63) (by kernel_rfl) (by kernel_rfl) (by kernel_rfl) (by decide +kernel) h
theorem pfromR {p : Option Addr} {w : World} (h : PtrOk Try.prog 63 w p) : (convert 52 41 (.pointer p)).run Try.prog w = .ok (.pointer p) w :=
  run_from_unsafe (T := 63) (by kernel_rfl) (by kernel_rfl) (by kernel_rfl) (by decide +kernel) (by kernel_rfl) h

theorem wordR (b i : Nat) (w : World) : Calls Try.prog 66 #[.pointer (some ⟨b, i, none⟩)] w fun e w' => e = .returned (.pointer (some ⟨b, i, none⟩)) ∧ w = w' := by
  go_enter Try.func66, Try.ntmps66
  go_wp2
  go_ret
  exact ⟨rfl, rfl⟩

set_option maxRecDepth 100000 in
set_option maxHeartbeats 400000 in
theorem pLoadR (b i : Nat) (x : Option Addr) (w : World) (hc : w.cell? ⟨b, i, none⟩ = some (.pointer x)) (hx : PtrOk Try.prog 63 w x) :
    Calls Try.prog 82 #[.pointer (some ⟨b, i, none⟩)] w fun e w' => e = .returned (.pointer x) ∧ w' = w := by
  have hl := run_call_loadP (P := Try.prog) Try.func84 (by kernel_rfl) (by kernel_rfl) (by kernel_rfl) (by kernel_rfl) hc
  have hv := pfromR hx
  clear hx
  go_enter Try.func82, Try.ntmps82
  go_wp2
  go_ret
  exact ⟨rfl, rfl⟩

set_option maxRecDepth 100000 in
set_option maxHeartbeats 400000 in
theorem pStoreR (b i : Nat) (x y : Option Addr) (w : World) (hc : w.cell? ⟨b, i, none⟩ = some (.pointer x)) (hz : w.frozen? ⟨b, i, none⟩ = false) (hy : PtrOk Try.prog 63 w y) :
    Calls Try.prog 72 #[.pointer (some ⟨b, i, none⟩), .pointer y] w fun e w' => e = .returned (.tuple #[]) ∧ w' = w.setCell ⟨b, i, none⟩ (.pointer y) := by
  have hl := run_call_storeP (P := Try.prog) Try.func79 (by kernel_rfl) (by kernel_rfl) (by kernel_rfl) (by kernel_rfl) (y := y) hc hz
  have hv := ptoR hy
  clear hy
  go_enter Try.func72, Try.ntmps72
  go_wp2
  go_end0
  exact ⟨rfl, rfl⟩

set_option maxRecDepth 100000 in
set_option maxHeartbeats 400000 in
theorem pHitR (b i : Nat) (x y : Option Addr) (w : World) (hc : w.cell? ⟨b, i, none⟩ = some (.pointer x)) (hz : w.frozen? ⟨b, i, none⟩ = false) (hx : PtrOk Try.prog 63 w x) (hy : PtrOk Try.prog 63 w y) :
    Calls Try.prog 67 #[.pointer (some ⟨b, i, none⟩), .pointer x, .pointer y] w fun e w' => e = .returned (.bool true) ∧ w' = w.setCell ⟨b, i, none⟩ (.pointer y) := by
  have hl := run_call_casP (P := Try.prog) Try.func78 (by kernel_rfl) (by kernel_rfl) (by kernel_rfl) (by kernel_rfl) (y := y) hc hz (run_samePointer_same w x)
  rw [if_pos rfl] at hl
  have hv := ptoR hy
  have hu := ptoR hx
  clear hx hy
  go_enter Try.func67, Try.ntmps67
  go_wp2
  go_ret
  exact ⟨rfl, rfl⟩

set_option maxRecDepth 100000 in
set_option maxHeartbeats 400000 in
theorem pMissR (b i : Nat) (x o y : Option Addr) (hne : x ≠ o) (w : World) (hc : w.cell? ⟨b, i, none⟩ = some (.pointer x)) (hz : w.frozen? ⟨b, i, none⟩ = false) (hx : PtrOk Try.prog 63 w x) (ho : PtrOk Try.prog 63 w o) (hy : PtrOk Try.prog 63 w y) :
    Calls Try.prog 67 #[.pointer (some ⟨b, i, none⟩), .pointer o, .pointer y] w fun e w' => e = .returned (.bool false) ∧ w' = w := by
  have hl := run_call_casP (P := Try.prog) Try.func78 (by kernel_rfl) (by kernel_rfl) (by kernel_rfl) (by kernel_rfl) (y := y) hc hz (run_samePointer_other hne hx ho)
  rw [if_neg (by simp)] at hl
  have hv := ptoR hy
  have hu := ptoR ho
  clear hx hy ho hne
  go_enter Try.func67, Try.ntmps67
  go_wp2
  go_ret
  exact ⟨rfl, rfl⟩

set_option maxRecDepth 100000 in
set_option maxHeartbeats 400000 in
theorem cLoadR {gv : Value} {X : Nat → Prop} {most : Nat} {G : List Int → World → Prop} (g : GateOk gv X most G) (ks : List Int) (hk : ks.length < most) (b i : Nat) (x : Option Addr) (w : World) (hG : G ks w) (hX : ¬ X b) (hb : b < w.heap.size) (hc : w.cell? ⟨b, i, none⟩ = some (.pointer x)) (hz : w.frozen? ⟨b, i, none⟩ = false) (hx : ∀ w1, Kp X w w1 → PtrOk Try.prog 63 w1 x) :
    Calls Try.prog 77 #[.pointer (some ⟨b, i, none⟩), gv] w fun e w' => e = .returned (.pointer x) ∧ G (ks ++ [1]) w' ∧ VStep X b i (.pointer x) w w' := by
  have HP : Hid _ := g.pass ks 1 w hG hk
  have Hx : Hid _ := hx
  clear hx
  go_enter Try.func77, Try.ntmps77
  go_wp2_with (first | (go_at_call 65; refine Calls.mono HP.out ?_; rintro e w1 ⟨rfl, hg1, hk1⟩; have hc1 := (hk1.cell (p := ⟨b, i, none⟩) hb hX).trans hc; have hz1 := (hk1.frozen (p := ⟨b, i, none⟩) hb hX).trans hz; have px := Hx.out w1 hk1) | (go_at_call 66; refine (wordR _ _ _).mono ?_; rintro e w' ⟨rfl, rfl⟩) | (go_at_call 82; refine (pLoadR b i x _ hc1 px).mono ?_; rintro e w' ⟨rfl, rfl⟩))
  go_ret
  exact ⟨rfl, g.keep _ (fun k => k = b) _ _ hg1 (Kp.refl _ _) (fun k e hx => hX (e ▸ hx)), ⟨hk1.mono (fun k h => Or.inl h), num_same hk1 hX hb hc⟩⟩

set_option maxRecDepth 100000 in
set_option maxHeartbeats 400000 in
theorem cStoreR {gv : Value} {X : Nat → Prop} {most : Nat} {G : List Int → World → Prop} (g : GateOk gv X most G) (ks : List Int) (hk : ks.length < most) (b i : Nat) (x y : Option Addr) (w : World) (hG : G ks w) (hX : ¬ X b) (hb : b < w.heap.size) (hc : w.cell? ⟨b, i, none⟩ = some (.pointer x)) (hz : w.frozen? ⟨b, i, none⟩ = false) (hy : ∀ w1, Kp X w w1 → PtrOk Try.prog 63 w1 y) :
    Calls Try.prog 61 #[.pointer (some ⟨b, i, none⟩), gv, .pointer y] w fun e w' => e = .returned (.tuple #[]) ∧ G (ks ++ [2]) w' ∧ VStep X b i (.pointer y) w w' := by
  have HP : Hid _ := g.pass ks 2 w hG hk
  have Hy : Hid _ := hy
  clear hy
  go_enter Try.func61, Try.ntmps61
  go_wp2_with (first | (go_at_call 65; refine Calls.mono HP.out ?_; rintro e w1 ⟨rfl, hg1, hk1⟩; have hc1 := (hk1.cell (p := ⟨b, i, none⟩) hb hX).trans hc; have hz1 := (hk1.frozen (p := ⟨b, i, none⟩) hb hX).trans hz; have py := Hy.out w1 hk1) | (go_at_call 66; refine (wordR _ _ _).mono ?_; rintro e w' ⟨rfl, rfl⟩) | (go_at_call 72; refine (pStoreR b i x y _ hc1 hz1 py).mono ?_; rintro e w' ⟨rfl, rfl⟩))
  go_end0
  exact ⟨rfl, g.keep _ (fun k => k = b) _ _ hg1 (kp_setb _ _ _ _) (fun k e hx => hX (e ▸ hx)), ⟨kp_setX hk1 _ _ _, num_at hk1 hX hb _ _⟩⟩

set_option maxRecDepth 100000 in
set_option maxHeartbeats 400000 in
theorem cHitR {gv : Value} {X : Nat → Prop} {most : Nat} {G : List Int → World → Prop} (g : GateOk gv X most G) (ks : List Int) (hk : ks.length < most) (b i : Nat) (x y : Option Addr) (w : World) (hG : G ks w) (hX : ¬ X b) (hb : b < w.heap.size) (hc : w.cell? ⟨b, i, none⟩ = some (.pointer x)) (hz : w.frozen? ⟨b, i, none⟩ = false) (hx : ∀ w1, Kp X w w1 → PtrOk Try.prog 63 w1 x) (hy : ∀ w1, Kp X w w1 → PtrOk Try.prog 63 w1 y) :
    Calls Try.prog 52 #[.pointer (some ⟨b, i, none⟩), gv, .pointer x, .pointer y] w fun e w' => e = .returned (.bool true) ∧ G (ks ++ [5]) w' ∧ VStep X b i (.pointer y) w w' := by
  have HP : Hid _ := g.pass ks 5 w hG hk
  have Hx : Hid _ := hx
  have Hy : Hid _ := hy
  clear hx hy
  go_enter Try.func52, Try.ntmps52
  go_wp2_with (first | (go_at_call 65; refine Calls.mono HP.out ?_; rintro e w1 ⟨rfl, hg1, hk1⟩; have hc1 := (hk1.cell (p := ⟨b, i, none⟩) hb hX).trans hc; have hz1 := (hk1.frozen (p := ⟨b, i, none⟩) hb hX).trans hz; have px := Hx.out w1 hk1; have py := Hy.out w1 hk1) | (go_at_call 66; refine (wordR _ _ _).mono ?_; rintro e w' ⟨rfl, rfl⟩) | (go_at_call 67; refine (pHitR b i x y _ hc1 hz1 px py).mono ?_; rintro e w' ⟨rfl, rfl⟩))
  go_ret
  exact ⟨rfl, g.keep _ (fun k => k = b) _ _ hg1 (kp_setb _ _ _ _) (fun k e hx => hX (e ▸ hx)), ⟨kp_setX hk1 _ _ _, num_at hk1 hX hb _ _⟩⟩

set_option maxRecDepth 100000 in
set_option maxHeartbeats 400000 in
theorem cMissR {gv : Value} {X : Nat → Prop} {most : Nat} {G : List Int → World → Prop} (g : GateOk gv X most G) (ks : List Int) (hk : ks.length < most) (b i : Nat) (x o y : Option Addr) (w : World) (hG : G ks w) (hX : ¬ X b) (hb : b < w.heap.size) (hc : w.cell? ⟨b, i, none⟩ = some (.pointer x)) (hz : w.frozen? ⟨b, i, none⟩ = false) (hx : ∀ w1, Kp X w w1 → PtrOk Try.prog 63 w1 x) (ho : ∀ w1, Kp X w w1 → PtrOk Try.prog 63 w1 o) (hy : ∀ w1, Kp X w w1 → PtrOk Try.prog 63 w1 y) (hne : Hid (x ≠ o)) :
    Calls Try.prog 52 #[.pointer (some ⟨b, i, none⟩), gv, .pointer o, .pointer y] w fun e w' => e = .returned (.bool false) ∧ G (ks ++ [5]) w' ∧ VStep X b i (.pointer x) w w' := by
  have HP : Hid _ := g.pass ks 5 w hG hk
  have Hx : Hid _ := hx
  have Ho : Hid _ := ho
  have Hy : Hid _ := hy
  clear hx ho hy
  go_enter Try.func52, Try.ntmps52
  go_wp2_with (first | (go_at_call 65; refine Calls.mono HP.out ?_; rintro e w1 ⟨rfl, hg1, hk1⟩; have hc1 := (hk1.cell (p := ⟨b, i, none⟩) hb hX).trans hc; have hz1 := (hk1.frozen (p := ⟨b, i, none⟩) hb hX).trans hz; have px := Hx.out w1 hk1; have po := Ho.out w1 hk1; have py := Hy.out w1 hk1) | (go_at_call 66; refine (wordR _ _ _).mono ?_; rintro e w' ⟨rfl, rfl⟩) | (go_at_call 67; refine (pMissR b i x o y hne.out _ hc1 hz1 px po py).mono ?_; rintro e w' ⟨rfl, rfl⟩))
  go_ret
  exact ⟨rfl, g.keep _ (fun k => k = b) _ _ hg1 (Kp.refl _ _) (fun k e hx => hX (e ▸ hx)), ⟨hk1.mono (fun k h => Or.inl h), num_same hk1 hX hb hc⟩⟩
end Go.Proofs.Ythdfpddijocfkaa


namespace Go.Proofs.Ythdfpddijocfkaa

open Go.RowKit

attribute [local go_sem ↓] Go.wp_at_zero Go.wp_at_succ

/-- nil, or where something lies. -/
def LiesP (w : World) (p : Option Addr) : Prop := p = none ∨ ∃ b v, p = some ⟨b, 0, none⟩ ∧ w.cell? ⟨b, 0, none⟩ = some v
theorem to_unsafe {P : Program} {src dst T : TypeId} (hs : P.underlying src = some (.pointer T)) (hd : P.underlying dst = some .unsafePointer) (hsz : (P.info? T).map (fun i => decide (i.size = 0)) = some false)
    {p : Option Addr} {w : World} (h : LiesP w p) : (convert src dst (.pointer p)).run P w = .ok (.pointer p) w := by
  rcases h with rfl | ⟨b, v, rfl, hb⟩
  · simp [convert, Conv.unsafePointer, run_underlying hs, run_underlying hd, Result.andThen]
  · exact run_convert_to_unsafe hs hd hsz hb
theorem pass_nil (k : Int) (w : World) : Calls Try.prog 65 #[.nilIface, .int .i64 k] w fun e w' => e = .returned (.tuple #[]) ∧ w' = w := by
  go_enter Try.func65, Try.ntmps65
  go_wp2_with fail
  go_end0
  exact ⟨rfl, rfl⟩
set_option maxRecDepth 100000 in
set_option maxHeartbeats 400000 in
theorem storeRec (b i : Nat) (y : Option Addr) (u : Value) (w : World) (hc : w.cell? ⟨b, i, none⟩ = some u) (hz : w.frozen? ⟨b, i, none⟩ = false) (hy : LiesP w y) :
    Calls Try.prog 61 #[.pointer (some ⟨b, i, none⟩), .nilIface, .pointer y] w fun e w' => e = .returned (.tuple #[]) ∧ w' = w.setCell ⟨b, i, none⟩ (.pointer y) := by
  have hl := run_call_storeP (P := Try.prog) Try.func79 (by kernel_rfl) (by kernel_rfl) (by kernel_rfl) (by kernel_rfl) (y := y) hc hz
  have hv := to_unsafe (P := Try.prog) (src := 41) (dst := 52) Try.underlying41 Try.underlying52 (by kernel_rfl) hy
  clear hy
  have HS : Hid (Calls Try.prog 72 #[.pointer (some ⟨b, i, none⟩), .pointer y] w fun e w' => e = .returned (.tuple #[]) ∧ w' = w.setCell ⟨b, i, none⟩ (.pointer y)) := by
    show Calls _ _ _ _ _
    go_enter Try.func72, Try.ntmps72
    go_wp2_with fail
    go_end0
    exact ⟨rfl, rfl⟩
  have HW : Hid (Calls Try.prog 66 #[.pointer (some ⟨b, i, none⟩)] w fun e w' => e = .returned (.pointer (some ⟨b, i, none⟩)) ∧ w' = w) := by
    show Calls _ _ _ _ _
    go_enter Try.func66, Try.ntmps66
    go_wp2_with fail
    go_ret
    exact ⟨rfl, rfl⟩
  go_enter Try.func61, Try.ntmps61
  go_wp2_with (first | (go_at_call 65; refine (pass_nil _ _).mono ?_; rintro e w' ⟨rfl, rfl⟩) | (go_at_call 66; refine HW.out.mono ?_; rintro e w' ⟨rfl, rfl⟩) | (go_at_call 72; refine HS.out.mono ?_; rintro e w' ⟨rfl, rfl⟩))
  go_end0
  exact ⟨rfl, rfl⟩
set_option maxRecDepth 100000 in
set_option maxHeartbeats 400000 in
theorem storeScx (b i : Nat) (y : Option Addr) (u : Value) (w : World) (hc : w.cell? ⟨b, i, none⟩ = some u) (hz : w.frozen? ⟨b, i, none⟩ = false) (hy : LiesP w y) :
    Calls Try.prog 63 #[.pointer (some ⟨b, i, none⟩), .nilIface, .pointer y] w fun e w' => e = .returned (.tuple #[]) ∧ w' = w.setCell ⟨b, i, none⟩ (.pointer y) := by
  have hl := run_call_storeP (P := Try.prog) Try.func79 (by kernel_rfl) (by kernel_rfl) (by kernel_rfl) (by kernel_rfl) (y := y) hc hz
  have hv := to_unsafe (P := Try.prog) (src := 48) (dst := 52) Try.underlying48 Try.underlying52 (by kernel_rfl) hy
  clear hy
  have HS : Hid (Calls Try.prog 76 #[.pointer (some ⟨b, i, none⟩), .pointer y] w fun e w' => e = .returned (.tuple #[]) ∧ w' = w.setCell ⟨b, i, none⟩ (.pointer y)) := by
    show Calls _ _ _ _ _
    go_enter Try.func76, Try.ntmps76
    go_wp2_with fail
    go_end0
    exact ⟨rfl, rfl⟩
  have HW : Hid (Calls Try.prog 75 #[.pointer (some ⟨b, i, none⟩)] w fun e w' => e = .returned (.pointer (some ⟨b, i, none⟩)) ∧ w' = w) := by
    show Calls _ _ _ _ _
    go_enter Try.func75, Try.ntmps75
    go_wp2_with fail
    go_ret
    exact ⟨rfl, rfl⟩
  go_enter Try.func63, Try.ntmps63
  go_wp2_with (first | (go_at_call 65; refine (pass_nil _ _).mono ?_; rintro e w' ⟨rfl, rfl⟩) | (go_at_call 75; refine HW.out.mono ?_; rintro e w' ⟨rfl, rfl⟩) | (go_at_call 76; refine HS.out.mono ?_; rintro e w' ⟨rfl, rfl⟩))
  go_end0
  exact ⟨rfl, rfl⟩
set_option maxRecDepth 100000 in
set_option maxHeartbeats 400000 in
theorem abort_any (b : Nat) (x : Int) (w : World) (hc : w.cell? ⟨b, 7, none⟩ = some (.int .i64 x)) (hz : w.frozen? ⟨b, 7, none⟩ = false) :
    Calls Try.prog 62 #[.pointer (some ⟨b, 0, none⟩), .nilIface] w fun e w' => e = .returned (.tuple #[]) ∧ w' = w.setCell ⟨b, 7, none⟩ (.int .i64 2) := by
  have hl := run_call_store (P := Try.prog) Try.func83 (by kernel_rfl) (by kernel_rfl) (by kernel_rfl) (by kernel_rfl) (k := .i64) (y := 2) hc hz
  have HA : Hid (Calls Try.prog 81 #[.pointer (some ⟨b, 7, none⟩), .int .i64 2] w fun e w' => e = .returned (.tuple #[]) ∧ w' = w.setCell ⟨b, 7, none⟩ (.int .i64 2)) := by
    show Calls _ _ _ _ _
    go_enter Try.func81, Try.ntmps81
    go_wp2_with fail
    go_end0
    exact ⟨rfl, rfl⟩
  have HW : Hid (Calls Try.prog 80 #[.pointer (some ⟨b, 7, none⟩)] w fun e w' => e = .returned (.pointer (some ⟨b, 7, none⟩)) ∧ w' = w) := by
    show Calls _ _ _ _ _
    go_enter Try.func80, Try.ntmps80
    go_wp2_with fail
    go_ret
    exact ⟨rfl, rfl⟩
  have HN : Hid (Calls Try.prog 74 #[.pointer (some ⟨b, 7, none⟩), .nilIface, .int .i64 2] w fun e w' => e = .returned (.tuple #[]) ∧ w' = w.setCell ⟨b, 7, none⟩ (.int .i64 2)) := by
    show Calls _ _ _ _ _
    go_enter Try.func74, Try.ntmps74
    go_wp2_with (first | (go_at_call 65; refine (pass_nil _ _).mono ?_; rintro e w' ⟨rfl, rfl⟩) | (go_at_call 80; refine HW.out.mono ?_; rintro e w' ⟨rfl, rfl⟩) | (go_at_call 81; refine HA.out.mono ?_; rintro e w' ⟨rfl, rfl⟩))
    go_end0
    exact ⟨rfl, rfl⟩
  have HC : Hid (Calls Try.prog 73 #[.pointer (some ⟨b, 0, none⟩)] w fun e w' => e = .returned (.pointer (some ⟨b, 7, none⟩)) ∧ w' = w) := by
    show Calls _ _ _ _ _
    go_enter Try.func73, Try.ntmps73
    go_wp2_with fail
    go_ret
    exact ⟨rfl, rfl⟩
  go_enter Try.func62, Try.ntmps62
  go_wp2_with (first | (go_at_call 73; refine HC.out.mono ?_; rintro e w' ⟨rfl, rfl⟩) | (go_at_call 74; refine HN.out.mono ?_; rintro e w' ⟨rfl, rfl⟩))
  go_end0
  exact ⟨rfl, rfl⟩
end Go.Proofs.Ythdfpddijocfkaa





namespace Go.Proofs.Ythdfpddijocfkaa

open Go.RowKit

attribute [local go_sem ↓] Go.wp_at_zero Go.wp_at_succ

/-- A node as data: what it holds, and its children by their blocks. -/
structure GN where
  k : Int
  i : Int
  wt : Int
  v : Int
  lf : Bool
  ch : List (Option Nat)
def ptrO (x : Option Nat) : Value := .pointer (x.map fun g => (⟨g, 0, none⟩ : Addr))
theorem ptrO_none : ptrO none = .pointer none := rfl
theorem ptrO_some (g : Nat) : ptrO (some g) = .pointer (some ⟨g, 0, none⟩) := rfl
structure RcAt (w : World) (g fb : Nat) (n : GN) : Prop where
  rc : ∃ u6 u7, w.heap[g]? = some (.cells #[.int .i64 n.k, .int .i64 n.i, .int .i64 n.wt, .int .i64 n.v, .bool n.lf, .slice (some ⟨fb, 0, none⟩) n.ch.length n.ch.length, u6, u7] 63 (0, 0))
  fl : w.heap[fb]? = some (.cells (n.ch.map ptrO).toArray 126 (0, 0))
theorem RcAt.lt {w : World} {g fb : Nat} {n : GN} (h : RcAt w g fb n) : g < w.heap.size := by obtain ⟨_, _, e⟩ := h.rc; exact (Array.getElem?_eq_some_iff.1 e).1
theorem RcAt.ltf {w : World} {g fb : Nat} {n : GN} (h : RcAt w g fb n) : fb < w.heap.size := (Array.getElem?_eq_some_iff.1 h.fl).1
theorem RcAt.ne {w : World} {g fb gb : Nat} {n m : GN} (h : RcAt w g fb n) (k : RcAt w gb g m) : False := by
  obtain ⟨_, _, e⟩ := h.rc
  have := e.symm.trans k.fl
  injection this with this
  injection this with _ this _
  exact absurd this (by decide)
theorem RcAt.kp {X : Nat → Prop} {w w' : World} {g fb : Nat} {n : GN} (h : RcAt w g fb n) (hk : Kp X w w') (hg : ¬ X g) (hf : ¬ X fb) : RcAt w' g fb n :=
  ⟨by obtain ⟨a, b, e⟩ := h.rc; exact ⟨a, b, (hk.block _ h.lt hg).trans e⟩, (hk.block _ h.ltf hf).trans h.fl⟩
theorem RcAt.below {w w' : World} {g fb : Nat} {n : GN} (h : RcAt w g fb n) (hb : Below w.heap.size w w') : RcAt w' g fb n := h.kp (Kp.of_below (X := fun _ => False) hb) (fun q => q) (fun q => q)
theorem RcAt.cells {w : World} {g fb : Nat} {n : GN} (h : RcAt w g fb n) : w.cell? ⟨g, 0, none⟩ = some (.int .i64 n.k) ∧ w.cell? ⟨g, 1, none⟩ = some (.int .i64 n.i) ∧ w.cell? ⟨g, 2, none⟩ = some (.int .i64 n.wt) ∧ w.cell? ⟨g, 3, none⟩ = some (.int .i64 n.v) ∧ w.cell? ⟨g, 4, none⟩ = some (.bool n.lf) ∧ w.cell? ⟨g, 5, none⟩ = some (.slice (some ⟨fb, 0, none⟩) n.ch.length n.ch.length) := by
  obtain ⟨a, b, e⟩ := h.rc
  simp only [World.cell?, e]
  exact ⟨rfl, rfl, rfl, rfl, rfl, rfl⟩
theorem RcAt.field {w : World} {g fb : Nat} {n : GN} (h : RcAt w g fb n) {j : Nat} (hj : j < n.ch.length) : w.cell? ⟨fb, j, none⟩ = some (ptrO (n.ch.getD j none)) ∧ w.frozen? ⟨fb, j, none⟩ = false := by
  simp only [World.cell?, World.frozen?, h.fl]
  refine ⟨?_, by simp⟩
  simp [List.getD_eq_getElem?_getD, hj]
theorem RcAt.ok {w : World} {g fb : Nat} {n : GN} (h : RcAt w g fb n) : PtrOk Try.prog 63 w (some ⟨g, 0, none⟩) := by
  obtain ⟨a, b, e⟩ := h.rc
  exact Or.inr ⟨g, _, rfl, e, by kernel_rfl⟩

theorem cells_under : Try.prog.underlying 47 = some (.slice 126) := by kernel_rfl
theorem cellR_info : (Try.prog.info? 126).map (fun i => (i.zero, i.size, i.bytes)) = some (some (.agg #[.pointer none]), 1, 8) := by kernel_rfl
/-- A record that is being made: the first j of its fields are laid. -/
structure RecJ (w0 w : World) (rb fb : Nat) (ch : List (Option Nat)) (j : Nat) (cs : Array Value) : Prop where
  below : Below w0.heap.size w0 w
  lo : w0.heap.size ≤ rb
  lof : w0.heap.size ≤ fb
  ne : rb ≠ fb
  rcd : w.heap[rb]? = some (.cells cs 63)
  fld : ∃ fs, w.heap[fb]? = some (.cells fs 126) ∧ fs.size = ch.length ∧ ∀ i, i < ch.length → fs[i]? = some (if i < j then ptrO (ch.getD i none) else .pointer none)
theorem RecJ.cell {w0 w : World} {rb fb j : Nat} {ch : List (Option Nat)} {cs : Array Value} (h : RecJ w0 w rb fb ch j cs) (i : Nat) : w.cell? ⟨rb, i, none⟩ = cs[i]? := by
  simp only [World.cell?, h.rcd]
  rfl
theorem RecJ.field {w0 w : World} {rb fb j : Nat} {ch : List (Option Nat)} {cs : Array Value} (h : RecJ w0 w rb fb ch j cs) (i : Nat) (hi : i < ch.length) : (∃ u, w.cell? ⟨fb, i, none⟩ = some u) ∧ w.frozen? ⟨fb, i, none⟩ = false := by
  obtain ⟨fs, h1, h2, _⟩ := h.fld
  refine ⟨⟨fs[i], ?_⟩, ?_⟩
  · simp only [World.cell?, h1]
    exact Array.getElem?_eq_getElem (by omega)
  · simp [World.frozen?, h1]
theorem RecJ.set {w0 w : World} {rb fb j : Nat} {ch : List (Option Nat)} {cs : Array Value} (h : RecJ w0 w rb fb ch j cs) : RecJ w0 (w.setCell ⟨fb, j, none⟩ (ptrO (ch.getD j none))) rb fb ch (j + 1) cs := by
  obtain ⟨fs, h1, h2, h3⟩ := h.fld
  refine ⟨h.below.setCell h.lof _, h.lo, h.lof, h.ne, ?_, ⟨fs.setIfInBounds j (ptrO (ch.getD j none)), ?_, by simpa using h2, fun i hi => ?_⟩⟩
  · rw [Below.heap_setCell _ _ _ _ (fun z => h.ne (by simpa using z))]
    exact h.rcd
  · rw [Go.Joins.block_setCell h1]
  · rw [Array.getElem?_setIfInBounds]
    by_cases e : j = i
    · subst e; rw [if_pos rfl, if_pos (by omega), if_pos (by omega)]
    · rw [if_neg e, h3 i hi]
      by_cases q : i < j
      · rw [if_pos q, if_pos (by omega)]
      · rw [if_neg q, if_neg (by omega)]
theorem RecJ.fin {w0 w : World} {rb fb : Nat} {ch : List (Option Nat)} {n : GN} {u6 u7 : Value} {o : Obj} (hch : n.ch = ch) (h : RecJ w0 w rb fb ch ch.length #[.int .i64 n.k, .int .i64 n.i, .int .i64 n.wt, .int .i64 n.v, .bool n.lf, .slice (some ⟨fb, 0, none⟩) ch.length ch.length, u6, u7]) (x : Value) :
    RcAt ((w.setCell ⟨rb, 6, none⟩ x).alloc o) rb fb n ∧ Below w0.heap.size w0 ((w.setCell ⟨rb, 6, none⟩ x).alloc o) := by
  have h3 := Go.Joins.block_setCell (i := 6) h.rcd x
  have hlt : rb < (w.setCell ⟨rb, 6, none⟩ x).heap.size := (Array.getElem?_eq_some_iff.1 h3).1
  have hB := h.below.setCell (p := ⟨rb, 6, none⟩) h.lo x
  obtain ⟨fs, f1, f2, f3⟩ := h.fld
  have hlf : fb < w.heap.size := (Array.getElem?_eq_some_iff.1 f1).1
  have hfs : fs = (n.ch.map ptrO).toArray := by
    apply Array.ext_getElem?
    intro i
    by_cases hi : i < ch.length
    · rw [f3 i hi, if_pos hi, hch]
      simp [List.getD_eq_getElem?_getD, hi]
    · rw [Array.getElem?_eq_none (by omega), Array.getElem?_eq_none (by simp [hch]; omega)]
  refine ⟨⟨⟨x, u7, ?_⟩, ?_⟩, hB.alloc hB.size _⟩
  · rw [heap_alloc_old _ _ hlt, h3, hch]
    rfl
  · rw [heap_alloc_old _ _ (by simpa using hlf), Below.heap_setCell _ _ _ _ (fun z => h.ne (by simpa using z.symm)), f1, hfs]
theorem RecJ.old {w0 w : World} {rb fb j : Nat} {ch : List (Option Nat)} {cs : Array Value} (h : RecJ w0 w rb fb ch j cs) (o : Obj) (i : Nat) : (w.alloc o).cell? ⟨rb, i, none⟩ = cs[i]? ∧ (w.alloc o).frozen? ⟨rb, i, none⟩ = false := by
  have hlt : rb < w.heap.size := (Array.getElem?_eq_some_iff.1 h.rcd).1
  have h1 : (w.alloc o).heap[rb]? = some (.cells cs 63) := by rw [heap_alloc_old _ _ hlt]; exact h.rcd
  constructor
  · simp only [World.cell?, h1]
    rfl
  · simp [World.frozen?, h1]
theorem lies_new (w : World) (v : Value) (vs : List Value) (t : TypeId) : LiesP (w.alloc (.cells (v :: vs).toArray t)) (some ⟨w.heap.size, 0, none⟩) := by
  have hb : (w.alloc (.cells (v :: vs).toArray t)).heap[w.heap.size]? = some (.cells (v :: vs).toArray t) := heap_alloc_at _ _ _ rfl
  refine Or.inr ⟨w.heap.size, v, rfl, ?_⟩
  simp only [World.cell?, hb]
  simp
set_option maxRecDepth 100000 in
set_option maxHeartbeats 4000000 in
theorem newR (a b c d : Int) (lf : Bool) (base : Option Addr) (g0 : Nat) (ch : List (Option Nat)) (n : Nat) (hnc : ch.length = n) (w : World) (hn : n ≤ 2) (hfl : ∀ j, j < n → base = some ⟨g0, 0, none⟩ ∧ g0 < w.heap.size ∧ w.cell? ⟨g0, j, none⟩ = some (ptrO (ch.getD j none)) ∧ ∀ q, ch.getD j none = some q → q < w.heap.size ∧ ∃ v, w.cell? ⟨q, 0, none⟩ = some v) :
    Calls Try.prog 45 #[.agg #[.int .i64 a, .int .i64 b, .int .i64 c, .int .i64 d, .bool lf], .slice base n n] w fun e w' => ∃ g fb, e = .returned (.pointer (some ⟨g, 0, none⟩)) ∧ w.heap.size ≤ g ∧ w.heap.size ≤ fb ∧ RcAt w' g fb ⟨a, b, c, d, lf, ch⟩ ∧ Below w.heap.size w w' := by
  have hmk := run_make_known (P := Try.prog) _ _ (.agg #[.pointer none]) 1 8 cells_under cellR_info n (by omega) (by omega)
  have HFL : Hid (∀ j, j < n → base = some ⟨g0, 0, none⟩ ∧ g0 < w.heap.size ∧ w.cell? ⟨g0, j, none⟩ = some (ptrO (ch.getD j none)) ∧ ∀ q, ch.getD j none = some q → q < w.heap.size ∧ ∃ v, w.cell? ⟨q, 0, none⟩ = some v) := hfl
  have HNC : Hid (ch.length = n) := hnc
  clear hfl hnc
  go_enter Try.func45, Try.ntmps45
  go_wp2_with fail
  go_region
  clear hmk
  go_wp2_with fail
  go_loopw [17] (fun vi wr => ∃ j : Nat, j ≤ n ∧ vi = .int .i64 j ∧ RecJ w wr (w.heap.size + 1 + 1) (w.heap.size + 1) ch j #[.int .i64 a, .int .i64 b, .int .i64 c, .int .i64 d, .bool lf, .slice (some ⟨w.heap.size + 1, 0, none⟩) n n, .pointer none, .int .u32 0]) (fun vi _ => n - (intOf vi).toNat)
  case atStart =>
    refine ⟨0, Nat.zero_le _, rfl, ⟨((((Below.refl _ _).alloc (Nat.le_refl _) _).alloc (by simp) _).alloc (by simp; omega) _).drew, by omega, by omega, by omega, ?_, ⟨madeCells #[.pointer none] n, ?_, ?_, fun i hi => ?_⟩⟩⟩
    · exact heap_alloc_at _ _ _ (by simp)
    · refine (heap_alloc_old _ _ (by simp)).trans ?_
      exact heap_alloc_at _ _ _ (by simp)
    · rw [HNC.out]; exact size_madeCells _ _
    · have hi2 := hi
      rw [HNC.out] at hi2
      rw [if_neg (by omega)]
      simp [madeCells, hi2, Nat.mod_one]
  case round =>
    obtain ⟨j, hj, rfl, hra⟩ := hrel
    rename World => wr
    have RA : Hid (RecJ w wr (w.heap.size + 1 + 1) (w.heap.size + 1) ch j #[.int .i64 a, .int .i64 b, .int .i64 c, .int .i64 d, .bool lf, .slice (some ⟨w.heap.size + 1, 0, none⟩) n n, .pointer none, .int .u32 0]) := hra
    have hsz := hra.below.size
    have s5 : wr.cell? ⟨w.heap.size + 1 + 1, 5, none⟩ = some (.slice (some ⟨w.heap.size + 1, 0, none⟩) n n) := hra.cell 5
    have s6 : wr.cell? ⟨w.heap.size + 1 + 1, 6, none⟩ = some (.pointer none) := hra.cell 6
    clear hra
    by_cases hjn : j < n
    · obtain ⟨rfl, hg0, hc1, hc2⟩ := HFL.out j hjn
      have d1 := (RA.out.below.cell (p := ⟨g0, j, none⟩) hg0).trans hc1
      have HLp : Hid (LiesP wr ((ch.getD j none).map fun g => (⟨g, 0, none⟩ : Addr))) := by
        show LiesP _ _
        cases hq : ch.getD j none with
        | none => exact Or.inl rfl
        | some q =>
          obtain ⟨h1, v, h2⟩ := hc2 q hq
          exact Or.inr ⟨q, v, rfl, (RA.out.below.cell (p := ⟨q, 0, none⟩) h1).trans h2⟩
      obtain ⟨⟨u, hu⟩, hfz⟩ := RA.out.field j (by rw [HNC.out]; exact hjn)
      have HU : Hid (wr.cell? ⟨w.heap.size + 1, j, none⟩ = some u) := hu
      have HZ : Hid (wr.frozen? ⟨w.heap.size + 1, j, none⟩ = false) := hfz
      have j0 : (0 : Int) ≤ (j : Int) := Int.natCast_nonneg _
      have j1 : (j : Int) < (n : Int) := by omega
      have RB : Hid (RecJ w (wr.setCell ⟨w.heap.size + 1, j, none⟩ (.pointer ((ch.getD j none).map fun g => (⟨g, 0, none⟩ : Addr)))) (w.heap.size + 1 + 1) (w.heap.size + 1) ch (j + 1) #[.int .i64 a, .int .i64 b, .int .i64 c, .int .i64 d, .bool lf, .slice (some ⟨w.heap.size + 1, 0, none⟩) n n, .pointer none, .int .u32 0]) := RA.out.set
      unfold ptrO at d1
      generalize ((ch.getD j none).map fun g => (⟨g, 0, none⟩ : Addr)) = y at d1 HLp RB
      clear hjn hc1 hc2 hu hfz
      go_wp2_with (first | (go_at_call 61; refine (storeRec _ _ _ _ _ HU.out HZ.out HLp.out).mono ?_; rintro e w' ⟨rfl, rfl⟩))
      refine ⟨⟨j + 1, by omega, by go_num, RB.out⟩, by simp [intOf]; omega⟩
    · obtain rfl : j = n := by omega
      clear hjn
      have hrlt : w.heap.size + 1 + 1 < wr.heap.size := (Array.getElem?_eq_some_iff.1 RA.out.rcd).1
      go_wp2_with (first | (go_at_call 62; refine (abort_any _ 0 _ (by simp) (by simp)).mono ?_; rintro e w' ⟨rfl, rfl⟩) | (go_at_call 63; refine (storeScx _ _ _ (.pointer none) _ (RA.out.old _ 6).1 (RA.out.old _ 6).2 (lies_new _ _ _ _)).mono ?_; rintro e w' ⟨rfl, rfl⟩))
      go_ret
      have RF := RA.out
      rw [← HNC.out] at RF
      obtain ⟨h8, h9⟩ := RecJ.fin (n := ⟨a, b, c, d, lf, ch⟩) (o := .cells #[.slice none 0 0, .slice none 0 0, .slice none 0 0, .int .i64 0, .int .i64 0, .pointer none, .pointer none, .int .i64 2, .int .u32 0] 136) rfl RF (.pointer (some ⟨wr.heap.size, 0, none⟩))
      exact ⟨_, _, rfl, by omega, by omega, h8, h9⟩

def MakesR (w : World) (n : GN) (e : Ending) (w' : World) : Prop := ∃ g fb, e = .returned (.pointer (some ⟨g, 0, none⟩)) ∧ w.heap.size ≤ g ∧ w.heap.size ≤ fb ∧ RcAt w' g fb n ∧ Below w.heap.size w w'
theorem leafR (a b c d : Int) (w : World) : Calls Try.prog 19 #[.int .i64 a, .int .i64 b, .int .i64 c, .int .i64 d] w fun e w' => MakesR w ⟨a, b, c, d, true, []⟩ e w' := by
  go_enter Try.func19, Try.ntmps19
  go_wp2_with (first | (go_at_call 45; refine (newR a b c d true none 0 [] 0 rfl _ (by omega) (fun j hj => by omega)).mono ?_; rintro e w1 ⟨g, fb, rfl, h1, h2, h3, h4⟩; have M : Hid (MakesR _ _ _ _) := ⟨g, fb, rfl, h1, h2, h3, h4⟩; clear h1 h2 h3 h4))
  go_ret
  exact M.out
/-- nil, or the first cell of something. -/
def LiesN (w : World) (x : Option Nat) : Prop := ∀ q, x = some q → q < w.heap.size ∧ ∃ v, w.cell? ⟨q, 0, none⟩ = some v
theorem RcAt.lies {w : World} {g fb : Nat} {n : GN} (h : RcAt w g fb n) : LiesN w (some g) := fun q e => by cases e; exact ⟨h.lt, _, h.cells.1⟩
theorem LiesN.below {w w' : World} {x : Option Nat} (h : LiesN w x) (hb : Below w.heap.size w w') : LiesN w' x := fun q e => by
  obtain ⟨h1, v, h2⟩ := h q e
  exact ⟨Nat.lt_of_lt_of_le h1 hb.size, v, (hb.cell (p := ⟨q, 0, none⟩) h1).trans h2⟩
theorem innerR (a b c : Int) (p q : Option Nat) (w : World) (hp : LiesN w p) (hq : LiesN w q) : Calls Try.prog 20 #[.int .i64 a, .int .i64 b, .int .i64 c, ptrO p, ptrO q] w fun e w' => MakesR w ⟨a, b, c, 0, false, [p, q]⟩ e w' := by
  obtain ⟨W, hW⟩ : ∃ W, W = w.alloc (.cells #[ptrO p, ptrO q] 41) := ⟨_, rfl⟩
  have B0 : Hid (Below w.heap.size w W) := by rw [hW]; exact below_alloc _ _
  have hb : W.heap[w.heap.size]? = some (.cells #[ptrO p, ptrO q] 41) := by rw [hW]; exact heap_alloc_at _ _ _ rfl
  have hz : w.heap.size < W.heap.size := (Array.getElem?_eq_some_iff.1 hb).1
  have HC : Hid (Calls Try.prog 45 #[.agg #[.int .i64 a, .int .i64 b, .int .i64 c, .int .i64 0, .bool false], .slice (some ⟨w.heap.size, 0, none⟩) 2 2] W fun e w' => MakesR w ⟨a, b, c, 0, false, [p, q]⟩ e w') := by
    refine (newR a b c 0 false (some ⟨w.heap.size, 0, none⟩) w.heap.size [p, q] 2 rfl W (by omega) (fun j hj => ⟨rfl, hz, ?_, ?_⟩)).mono ?_
    · rcases (by omega : j = 0 ∨ j = 1) with rfl | rfl <;> (simp only [World.cell?, hb]; rfl)
    · rcases (by omega : j = 0 ∨ j = 1) with rfl | rfl
      · exact hp.below B0.out
      · exact hq.below B0.out
    · rintro e w1 ⟨g, fb, rfl, h1, h2, h3, h4⟩
      exact ⟨g, fb, rfl, by omega, by omega, h3, B0.out.trans (h4.mono B0.out.size)⟩
  clear hb hz hp hq B0
  unfold ptrO at hW ⊢
  generalize (p.map fun g => (⟨g, 0, none⟩ : Addr)) = x at hW
  generalize (q.map fun g => (⟨g, 0, none⟩ : Addr)) = y at hW
  subst hW
  go_enter Try.func20, Try.ntmps20
  go_wp2_with (first | (go_at_call 45; refine HC.out.mono ?_; rintro e w1 hM; have M : Hid (MakesR _ _ _ _) := hM; obtain ⟨g, fb, rfl, -, -, -, -⟩ := hM))
  go_ret
  exact M.out
end Go.Proofs.Ythdfpddijocfkaa

namespace Go.Proofs.Ythdfpddijocfkaa

open Go.RowKit

attribute [local go_sem ↓] Go.wp_at_zero Go.wp_at_succ

/-- Block b is a row of variables of type T. -/
def typ (w : World) (b : Nat) (T : TypeId) : Prop := ∃ cs fr, w.heap[b]? = some (.cells cs T fr)
theorem typ.lt {w : World} {b : Nat} {T : TypeId} (h : typ w b T) : b < w.heap.size := by obtain ⟨_, _, e⟩ := h; exact (Array.getElem?_eq_some_iff.1 e).1
theorem typ.one {w : World} {b : Nat} {T U : TypeId} (h : typ w b T) (k : typ w b U) : T = U := by
  obtain ⟨_, _, e⟩ := h
  obtain ⟨_, _, f⟩ := k
  have := e.symm.trans f
  injection this with this
  injection this
theorem typ.same {w w' : World} {b : Nat} {T : TypeId} (h : w'.heap[b]? = w.heap[b]?) : typ w' b T ↔ typ w b T := by unfold typ; rw [h]
theorem typ.set {w : World} {t : Nat} {T : TypeId} (h : typ w t T) (a : Addr) (v : Value) : typ (w.setCell a v) t T := by
  obtain ⟨cs, fr, e⟩ := h
  unfold typ
  simp only [World.setCell, Array.getElem?_modify]
  by_cases q : a.block = t
  · rw [if_pos q, e]
    exact ⟨_, _, rfl⟩
  · rw [if_neg q, e]
    exact ⟨_, _, rfl⟩
theorem RcAt.typ {w : World} {g fb : Nat} {n : GN} (h : RcAt w g fb n) : typ w g 63 ∧ typ w fb 126 := by
  obtain ⟨_, _, e⟩ := h.rc
  exact ⟨⟨_, _, e⟩, ⟨_, _, h.fl⟩⟩
theorem owns_typ {w : World} {B sz : Nat} {e : TypeId} {v : Value} {n : Nat} {xs : List Value} (h : w.ownsRow B e sz v n xs) {b : Nat} (hb : v.ownBlock = some b) : typ w b e := by
  obtain ⟨_, h⟩ := h
  rcases h with ⟨rfl, _⟩ | ⟨g, cap, cur, rfl, hg, hh, _⟩
  · simp [Value.ownBlock] at hb
  · simp [Value.ownBlock] at hb
    subst hb
    exact ⟨_, _, hh⟩
/-- What a pass of a tape does whose box is Tb's. -/
structure Pd (Tb : Nat → Prop) (w w' : World) : Prop where
  os : w'.os = w.os
  tape : w'.tape = w.tape
  output : w'.output = w.output
  size : w.heap.size ≤ w'.heap.size
  low : ∀ k, k < w.heap.size → (∀ t, Tb t → k < t) → w'.heap[k]? = w.heap[k]?
  blk : ∀ k, k < w.heap.size → ¬ Tb k → ¬ typ w k 3 → w'.heap[k]? = w.heap[k]?
  box : ∀ t T, Tb t → typ w t T → typ w' t T
theorem Pd.refl (Tb : Nat → Prop) (w : World) : Pd Tb w w := ⟨rfl, rfl, rfl, Nat.le_refl _, fun _ _ _ => rfl, fun _ _ _ _ => rfl, fun _ _ _ h => h⟩
theorem Pd.below {Tb : Nat → Prop} {w w' : World} (h : Pd Tb w w') {N : Nat} (hw : N ≤ w.heap.size) (hN : ∀ t, Tb t → N ≤ t) : Below N w w' := ⟨h.os, h.tape, h.output, h.size, fun k hk => h.low k (by omega) (fun t q => by have := hN t q; omega)⟩
theorem RcAt.pd {Tb : Nat → Prop} {w w' : World} {g fb : Nat} {n : GN} (h : RcAt w g fb n) (k : Pd Tb w w') (hg : ¬ Tb g) (hf : ¬ Tb fb) : RcAt w' g fb n := by
  obtain ⟨t1, t2⟩ := h.typ
  have q1 := k.blk g h.lt hg (fun q => absurd (t1.one q) (by decide))
  have q2 := k.blk fb h.ltf hf (fun q => absurd (t2.one q) (by decide))
  exact ⟨by obtain ⟨a, b, e⟩ := h.rc; exact ⟨a, b, q1.trans e⟩, q2.trans h.fl⟩
/-- What others may do beside the tape. -/
structure Od (Tb : Nat → Prop) (w w' : World) : Prop where
  size : w.heap.size ≤ w'.heap.size
  here : ∀ t, Tb t → t < w.heap.size → w'.heap[t]? = w.heap[t]?
  ints : ∀ k, typ w k 3 → w'.heap[k]? = w.heap[k]?
theorem Od.refl (Tb : Nat → Prop) (w : World) : Od Tb w w := ⟨Nat.le_refl _, fun _ _ _ => rfl, fun _ _ => rfl⟩
theorem Od.trans {Tb : Nat → Prop} {a b c : World} (h : Od Tb a b) (k : Od Tb b c) : Od Tb a c :=
  ⟨Nat.le_trans h.size k.size, fun t ht q => (k.here t ht (by have := h.size; omega)).trans (h.here t ht q), fun q t => (k.ints q ((typ.same (h.ints q t)).2 t)).trans (h.ints q t)⟩
theorem Od.of_below {Tb : Nat → Prop} {w w' : World} (h : Below w.heap.size w w') : Od Tb w w' := ⟨h.size, fun _ _ q => h.block _ q, fun k t => h.block k t.lt⟩
theorem Od.set {Tb : Nat → Prop} {b j : Nat} {w : World} {v : Value} {T : TypeId} (ht : typ w b T) (hT : T ≠ 3) (hb : ¬ Tb b) : Od Tb w (w.setCell ⟨b, j, none⟩ v) := by
  refine ⟨by simp, fun t ht _ => Below.heap_setCell _ _ _ _ (fun e => hb (by have e' : t = b := e; rw [← e']; exact ht)), fun k t => Below.heap_setCell _ _ _ _ (fun e => hT ?_)⟩
  have e' : k = b := e
  rw [e'] at t
  exact ht.one t
theorem Od.grown {Tb : Nat → Prop} {w w' : World} {v : Value} (hg : w.grownBy w' v.ownBlock) (hr : ∀ r, v.ownBlock = some r → ¬ Tb r ∧ ∃ T, T ≠ 3 ∧ typ w r T) : Od Tb w w' := by
  refine ⟨hg.size, fun t ht q => hg.block t q (fun e => (hr t e.symm).1 ht), fun k t => hg.block k t.lt (fun e => ?_)⟩
  obtain ⟨_, T, h1, h2⟩ := hr k e.symm
  exact h1 (h2.one t)
/-- A gate, and what it has noted, beside others. -/
structure GateS (gv : Value) (Tb : Nat → Prop) (most : Nat) (G : List Int → World → Prop) : Prop where
  pass : ∀ (ks : List Int) (kd : Int) (w : World), G ks w → ks.length < most → Calls Try.prog 65 #[gv, .int .i64 kd] w fun e w' => e = .returned (.tuple #[]) ∧ G (ks ++ [kd]) w' ∧ Pd Tb w w'
  keep : ∀ (ks : List Int) (w w' : World), G ks w → Od Tb w w' → G ks w'
theorem gateS_nil (most : Nat) : GateS .nilIface (fun _ => False) most (fun _ _ => True) :=
  ⟨fun ks kd w _ _ => (pass_nil kd w).mono (fun e w' ⟨h1, h2⟩ => ⟨h1, trivial, by rw [h2]; exact Pd.refl _ _⟩), fun _ _ _ _ _ => trivial⟩
theorem TapeAt.od {tb B : Nat} {ks : List Int} {w w' : World} (h : TapeAt tb B ks w) (k : Od (fun t => t = tb) w w') : TapeAt tb B ks w' := by
  obtain ⟨⟨kv, hc, ho⟩, hz, hlt, hsz⟩ := h
  have hb := k.here tb rfl (by omega)
  refine ⟨⟨kv, (World.cell?_of_block (w := w) (a := ⟨tb, 0, none⟩) hb).trans hc, ?_⟩, (World.frozen?_of_block (w := w) (a := ⟨tb, 0, none⟩) hb).trans hz, hlt, Nat.le_trans hsz k.size⟩
  obtain ⟨h1, h2⟩ := ho
  refine ⟨h1, ?_⟩
  rcases h2 with ⟨rfl, e0⟩ | ⟨g, cap, cur, rfl, hB, hg, hr⟩
  · exact Or.inl ⟨rfl, e0⟩
  · exact Or.inr ⟨g, cap, cur, rfl, hB, (k.ints g ⟨_, _, hg⟩).trans hg, hr⟩

set_option maxRecDepth 100000 in
set_option maxHeartbeats 1000000 in
theorem tape_passS (tb B : Nat) (ks : List Int) (kd : Int) (w : World) (h : TapeAt tb B ks w) (hk : ks.length < 100000) :
    Calls Try.prog 100 #[.pointer (some ⟨tb, 0, none⟩), .int .i64 kd] w fun e w' => e = .returned (.tuple #[]) ∧ TapeAt tb B (ks ++ [kd]) w' ∧ Pd (fun t => t = tb) w w' := by
  obtain ⟨i0, hi0, hz0, hz1, hz2⟩ := info_parts int_info
  obtain ⟨⟨kv, hc, ho⟩, hz, hlt, hsz⟩ := h
  obtain ⟨a, c, hv⟩ := owns_slice ho
  subst hv
  have htw : tb < w.heap.size := by omega
  have HT : Hid (∀ r, Value.ownBlock (.slice a ks.length c) = some r → typ w r 3) := fun r q => owns_typ ho q
  go_enter Try.func100, Try.ntmps100
  go_wp2_with (first | (at_builtin; (refine wpList_append_lies _ (by rfl) _ _ _ (by rfl) B 3 i0 _ 1 8 ints_under hi0 hz0 hz1 hz2 rfl (by omega) _ ks.length (ks.map (Value.int .i64)) (by rfl) (ho.alloc _) ⟨w.heap.size, 0, none⟩ 1 1 [.int .i64 kd] (by rfl) (by rfl) (World.news_of_block (cs := #[.int .i64 kd]) (t := 3) (fr := (0, 0)) (heap_alloc_at _ _ _ rfl)) (by simp [Value.oneCell']) (by omega) (by unfold maxLen; omega) (by omega) (by simp; omega) (w.heap.size + 1) (by simp) ?_); intro gg cap w1 hown1 hgrow hat hlt1; have hB1 : Below B w w1 := Below.grown ((Below.refl B w).alloc hsz _) hgrow (by simp; omega) (owns_ge ho); have HG : Hid (World.grownBy _ _ _) := hgrow; have hc1 := (hB1.cell (p := ⟨tb, 0, none⟩) hlt).trans hc; have hz1' := (hB1.frozen (p := ⟨tb, 0, none⟩) hlt).trans hz))
  go_end0
  have hs1 : B ≤ w1.heap.size := Nat.le_trans hsz hB1.size
  refine ⟨rfl, ⟨⟨_, World.cell?_setCell_same _ _ _ hc1, ?_⟩, by simpa using hz1', hlt, by simpa [World.setCell] using hs1⟩, ?_⟩
  · refine owns_kept (w := w1) ?_ (fun k _ hk => Below.heap_setCell _ _ _ _ (by simp; omega))
    simpa using hown1
  · refine ⟨hB1.os, hB1.tape, hB1.output, by simpa using hB1.size, fun k hk hl => ?_, fun k hk h1 h2 => ?_, fun t T ht hT => ?_⟩
    · have := hl tb rfl
      rw [Below.heap_setCell _ _ _ _ (by simp; omega)]
      exact hB1.block k (by omega)
    · rw [Below.heap_setCell _ _ _ _ (by simpa using h1)]
      rw [HG.out.block k (by simp; omega) (fun e => h2 (HT.out k (by simpa using e.symm)))]
      exact heap_alloc_old _ _ hk
    · have ht' : t = tb := ht
      subst ht'
      obtain ⟨cs, fr, e⟩ := hT
      have e1 := (hB1.block t hlt).trans e
      exact typ.set ⟨cs, fr, e1⟩ _ _
theorem gateS_tape (tb B most : Nat) (hm : most ≤ 100000) : GateS (.iface 64 (.pointer (some ⟨tb, 0, none⟩))) (fun t => t = tb) most (TapeAt tb B) := by
  refine ⟨?_, fun ks w w' h k => h.od k⟩
  intro ks kd w hG hk
  have HP : Hid _ := tape_passS tb B ks kd w hG (by omega)
  have hm := mPass ⟨tb, 0, none⟩
  go_enter Try.func65, Try.ntmps65
  go_wp2_with fail
  refine Calls.mono HP.out ?_
  rintro e w1 ⟨rfl, h1, h2⟩
  go_wp2_with fail
  go_end0
  exact ⟨rfl, h1, h2⟩
end Go.Proofs.Ythdfpddijocfkaa

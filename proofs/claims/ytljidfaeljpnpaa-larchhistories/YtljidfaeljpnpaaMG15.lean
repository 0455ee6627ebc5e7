/- Layer 6: the program's Run. Layer 6: copy, append, clear in an own row of pairs. Layer 6: the walks of slices.Delete and slices.Insert at pairs, given what the builtins do. Layer 6: lists that are spliced; slices.Delete of one pair from an own row. Layer 6: slices.Insert of one pair into an own row. Layer 6: operations and answers in memory; the reference's Run. Layer 6: slices.Insert at the end; Insert whole; what change needs. Layer 6: the program's change. Layer 6: the program's refusal, Same, SameRet. Layer 6: the reference's Fits. Layer 6: the program's Do and Fits. Layer 6: the program's Fits. -/
import Derived.Test.YtljidfaeljpnpaaMG5
import Derived.Laws.CopyRow
import Derived.Laws.AppendOwn
import Derived.Deep.RegionLaw
import Derived.Lib.SliceRun
import Derived.Lib.Overlaps
import Derived.Lib.AppendZeros
import Derived.Laws.Externs
import Derived.Lib.AppendZerosOnto
import Derived.Test.YtljidfaeljpnpaaMG4
import Derived.Deep.RegionHeld3








namespace Go.Proofs.Ytljidfaeljpnpaa

open Go.RowKit

theorem run_copy_sz {P : Program} (w : World) (dT sT ty elem : TypeId) (g o dLen dCap : Nat) (a : Addr) (sLen sCap sz : Nat) (cur : Array Value) (t : TypeId) (cs : List Value)
    (hu : P.underlying dT = some (.slice elem)) (hs : (P.info? elem).map (·.size) = some sz)
    (hg : w.heap[g]? = some (.cells cur t (0, 0))) (hn : cs.length = Nat.min sLen dLen * sz)
    (hsrc : ∀ j v, cs[j]? = some v → w.cell? (a.add j) = some v) (hfit : o + cs.length ≤ cur.size) (h1 : ∀ v ∈ cs, v.oneCell' = true) :
    (Builtin.copy_ #[dT, sT] ty #[.slice (some ⟨g, o, none⟩) dLen dCap, .slice (some a) sLen sCap]).run P w =
      .ok (goInt (Nat.min sLen dLen)) (w.setRow g (cur.toList.take o ++ cs ++ cur.toList.drop (o + cs.length)).toArray) := by
  have hl := run_loadCells_list (P := P) w a cs hsrc
  have hst := run_storeCells_at P g o t cs 0 cur w hg (by simpa using hfit) h1
  cases hq : P.info? elem with
  | none => simp [hq] at hs
  | some i =>
    have hi : i.size = sz := by simpa [hq] using hs
    simp [Builtin.copy_, run_underlying hu, Builtin.lenOf, Builtin.firstCells, sizeOf, typeInfo, hq, hi, ← hn, hl, hst]
theorem wpList_copy_runI {P : Program} (w : World) {ops : Array Oper} {rest : List Oper} {o : Oper} {a : Act} {Q : Exit → Act → World → Prop} (hgd : o.guard = none) (d s : Operand) (t t' : TypeId)
    (ho : o.op = .call { callee := .builtin .copy, args := #[d, s], argTypes := #[t, t'] }) (v u : Value) (hd : a.eval d = v) (hs : a.eval s = u) {v' : Value} {w' : World}
    (hr : (Builtin.copy_ #[t, t'] o.type #[v, u]).run P w = .ok v' w') (h : wpList P ops Q rest (a.put o.dst v') w') : wpList P ops Q (o :: rest) a w :=
  wpList_plain hgd fun _ hK => by
    unfold Oper.wp execOp
    simp only [ho, resolve, invoke, builtin, Sem.run_bind, Sem.run_pure, Result.andThen_ok, List.map_toArray, List.map_cons, List.map_nil, hd, hs, hr]
    exact hK _ _ h
theorem step_copy_runI {P : Program} {ops : Array Oper} {o : Oper} {a : Act} {w : World} {K : Act → World → Prop} {Q : Exit → Act → World → Prop} {E : Prop}
    (hg : o.guard = none) (d x : Operand) (dT sT : TypeId) (hop : o.op = Op.call { callee := Callee.builtin Builtin.copy, args := #[d, x], argTypes := #[dT, sT] })
    (v u : Value) (hd : a.eval d = v) (hx : a.eval x = u) {v' : Value} {w' : World} (hr : (Builtin.copy_ #[dT, sT] o.type #[v, u]).run P w = .ok v' w') (hK : K (a.put o.dst v') w') :
    if Region.wanted o (yielded ops a.tmps) = true then Oper.wp P o a w K Q else E := by
  have hw : Region.wanted o (yielded ops a.tmps) = true := by simp [Region.wanted, hg]
  rw [if_pos hw]
  unfold Oper.wp
  simp [execOp, hop, resolve, invoke, builtin, hd, hx, hr, Result.andThen]
  exact hK
theorem step_append_runI {P : Program} {ops : Array Oper} {o : Oper} {a : Act} {w : World} {K : Act → World → Prop} {Q : Exit → Act → World → Prop} {E : Prop}
    (hg : o.guard = none) (d x : Operand) (dT sT : TypeId) (hop : o.op = Op.call { callee := Callee.builtin Builtin.append, args := #[d, x], argTypes := #[dT, sT] })
    (v u : Value) (hd : a.eval d = v) (hx : a.eval x = u) {v' : Value} {w' : World} (hr : (Builtin.append_ #[dT, sT] o.type #[v, u]).run P w = .ok v' w') (hK : K (a.put o.dst v') w') :
    if Region.wanted o (yielded ops a.tmps) = true then Oper.wp P o a w K Q else E := by
  have hw : Region.wanted o (yielded ops a.tmps) = true := by simp [Region.wanted, hg]
  rw [if_pos hw]
  unfold Oper.wp
  simp [execOp, hop, resolve, invoke, builtin, hd, hx, hr, Result.andThen]
  exact hK
theorem setRow_at {w : World} {g : Nat} {cur : Array Value} {t : TypeId} (h : w.heap[g]? = some (.cells cur t (0, 0))) (cs : Array Value) : (w.setRow g cs).heap[g]? = some (.cells cs t (0, 0)) := by
  simp [World.setRow, Array.getElem?_modify, h]
theorem setRow_grown (w : World) (g : Nat) (cs : Array Value) : w.grownBy (w.setRow g cs) (some g) := by
  refine ⟨rfl, rfl, rfl, by simp [World.setRow], fun k hk hne => ?_⟩
  have : g ≠ k := fun e => hne (by rw [e])
  simp [World.setRow, Array.getElem?_modify, this]
theorem setRow_size (w : World) (g : Nat) (cs : Array Value) : (w.setRow g cs).heap.size = w.heap.size := by simp [World.setRow]
theorem drew_grown (w : World) (x : Option Nat) : w.grownBy w.drew x := ⟨rfl, rfl, rfl, Nat.le_refl _, fun _ _ _ => rfl⟩
theorem grown_trans {w w' w'' : World} {x : Option Nat} (h : w.grownBy w' x) (h' : w'.grownBy w'' x) : w.grownBy w'' x :=
  ⟨h'.os.trans h.os, h'.tape.trans h.tape, h'.output.trans h.output, Nat.le_trans h.size h'.size, fun k hk hne => (h'.block k (Nat.lt_of_lt_of_le hk h.size) hne).trans (h.block k hk hne)⟩
theorem run_clear2 {P : Program} (w : World) (t e ty : TypeId) (z : Value) (z0 z1 : Value) (ht : P.underlying t = some (.slice e)) (hv : ∀ w, (zeroValue e).run P w = .ok z w) (hz : z.cells = #[z0, z1]) (h0 : z0.oneCell' = true) (h1 : z1.oneCell' = true) (g o c : Nat) (cur : Array Value) (T : TypeId) (hg : w.heap[g]? = some (.cells cur T (0, 0))) (hfit : o + 2 ≤ cur.size) :
    (Builtin.clear_ #[t] ty #[.slice (some ⟨g, o, none⟩) 1 c]).run P w = .ok (.tuple #[]) (w.setRow g (cur.toList.take o ++ [z0, z1] ++ cur.toList.drop (o + 2)).toArray) := by
  have hzc : (Builtin.zeroCells z.cells 1).toList = [z0, z1] := by
    rw [hz]
    apply List.ext_getElem
    · simp [Builtin.zeroCells]
    · intro i h1 h2
      have : i = 0 ∨ i = 1 := by simp at h2; omega
      rcases this with rfl | rfl <;> simp [Builtin.zeroCells]
  have hst := run_storeCells_at P g o T [z0, z1] 0 cur w hg (by simpa using hfit) (by intro v hv'; simp at hv'; rcases hv' with rfl | rfl; exact h0; exact h1)
  simp only [Nat.add_zero] at hst
  simp [Builtin.clear_, run_underlying ht, hv, hzc, hst]
theorem pz_value : ∀ w, (zeroValue 46).run Try.prog w = .ok (.agg #[.int .i64 0, .int .i64 0]) w := Try.zeroValue46


end Go.Proofs.Ytljidfaeljpnpaa


namespace Go.Proofs.Ytljidfaeljpnpaa

open Go.RowKit

set_option maxRecDepth 100000 in
set_option maxHeartbeats 1000000 in
theorem del_walk (g cap n m : Nat) (w : World) (hm : m < n) (hn : n ≤ cap) (hc : cap ≤ 9223372036854775807) (hcm : ¬ cap = m + 1) (W1 W2 : World) (H : ∀ ty, (Builtin.append_ #[ 40, 40] ty #[.slice (some ⟨g, 0, none⟩) m cap, .slice (some ⟨g, (m + 1) * 2, none⟩) (n - (m + 1)) (cap - (m + 1))]).run Try.prog w.drew = .ok (.slice (some ⟨g, 0, none⟩) (n - 1) cap) W1)
    (H2 : ∀ ty, (Builtin.clear_ #[ 40 ] ty #[.slice (some ⟨g, (n - 1) * 2, none⟩) (n - (n - 1)) (cap - (n - 1))]).run Try.prog W1 = .ok (.tuple #[]) W2) :
    Calls Try.prog 81 #[.slice (some ⟨g, 0, none⟩) n cap, .int .i64 m, .int .i64 ((m : Int) + 1)] w fun e w' => e = .returned (.slice (some ⟨g, 0, none⟩) (n - 1) cap) ∧ w' = W2 := by
  have HU : Hid (cap ≤ 9223372036854775807) := hc
  have q1 : ((m : Int) == (m : Int) + 1) = false := by simp; omega
  have q0 : (m : Int) + 1 ≤ (n : Int) := by omega
  have q2 : m ≤ cap := by omega
  have q3 : m + 1 ≤ cap := by omega
  have q4 : ((m : Int) + 1).toNat = m + 1 := by omega
  have q5 : (m : Int) + 1 ≤ (cap : Int) := by omega
  have q6 : n - 1 ≤ cap := by omega
  have q7 : ¬ cap = n - 1 := by omega
  have q8 : (0 : Int) ≤ (m : Int) + 1 := by omega
  have mixed : Try.prog.follows .mixedOrders = true := by kernel_rfl
  go_enter Try.func81, Try.ntmps81
  go_wp2_with fail
  go_region_law_o (refine step_append_runI rfl (.tmp 22) (.tmp 25) 40 40 rfl (.slice (some ⟨g, 0, none⟩) m cap) (.slice (some ⟨g, (m + 1) * 2, none⟩) (n - (m + 1)) (cap - (m + 1))) (by simp [Act.eval, Act.put]) (by simp [Act.eval, Act.put]) (H _) ?_)
  go_wp2_with fail
  go_ret
  exact ⟨rfl, rfl⟩

set_option maxRecDepth 100000 in
set_option maxHeartbeats 1000000 in
theorem del_walk2 (g m : Nat) (w : World) (hc : m + 1 ≤ 9223372036854775807) (W1 W2 : World) (H : ∀ ty, (Builtin.append_ #[ 40, 40 ] ty #[.slice (some ⟨g, 0, none⟩) m (m + 1), .slice (some ⟨g, 0, none⟩) 0 0]).run Try.prog w.drew = .ok (.slice (some ⟨g, 0, none⟩) m (m + 1)) W1)
    (H2 : ∀ ty, (Builtin.clear_ #[ 40 ] ty #[.slice (some ⟨g, m * 2, none⟩) 1 1]).run Try.prog W1 = .ok (.tuple #[]) W2) :
    Calls Try.prog 81 #[.slice (some ⟨g, 0, none⟩) (m + 1) (m + 1), .int .i64 m, .int .i64 ((m : Int) + 1)] w fun e w' => e = .returned (.slice (some ⟨g, 0, none⟩) m (m + 1)) ∧ w' = W2 := by
  have q1 : ((m : Int) == (m : Int) + 1) = false := by simp; omega
  have q2 : (m : Int) ≤ (m : Int) + 1 := by omega
  have q4 : ((m : Int) + 1).toNat = m + 1 := by omega
  have q7 : ¬ m + 1 = m := by omega
  have q8 : (0 : Int) ≤ (m : Int) + 1 := by omega
  have q9 : m + 1 - m = 1 := by omega
  have HU : Hid (m + 1 ≤ 9223372036854775807) := hc
  have mixed : Try.prog.follows .mixedOrders = true := by kernel_rfl
  go_enter Try.func81, Try.ntmps81
  go_wp2_with fail
  go_region_law_o (refine step_append_runI rfl (.tmp 22) (.tmp 25) 40 40 rfl (.slice (some ⟨g, 0, none⟩) m (m + 1)) (.slice (some ⟨g, 0, none⟩) 0 0) (by simp [Act.eval, Act.put]) (by simp [Act.eval, Act.put]) (H _) ?_)
  go_wp2_with fail
  go_ret
  exact ⟨rfl, rfl⟩

set_option maxRecDepth 100000 in
set_option maxHeartbeats 1000000 in
theorem ins_grow_walk (g cap n m N G vb : Nat) (w : World) (hm : m < n) (hn : n ≤ cap) (hcn : cap < n + 1) (hc : n + 1 ≤ 9223372036854775807) (hG : n + 1 ≤ G) (hG63 : G ≤ 9223372036854775807) (W1 W2 W3 : World) (r2 r3 : Value)
    (H1 : ∀ ty, (Builtin.append_ #[ 40, 3] ty #[.slice (some ⟨g, 0, none⟩) m cap, .int .i64 ((n : Int) + 1 - (m : Int))]).run Try.prog w = .ok (.slice (some ⟨N, 0, none⟩) (n + 1) G) W1)
    (H2 : ∀ ty, (Builtin.copy_ #[ 40, 40] ty #[.slice (some ⟨N, m * 2, none⟩) (n + 1 - m) (G - m), .slice (some ⟨vb, 0, none⟩) 1 1]).run Try.prog W1 = .ok r2 W2)
    (H3 : ∀ ty, (Builtin.copy_ #[ 40, 40] ty #[.slice (some ⟨N, (m + 1) * 2, none⟩) (n + 1 - (m + 1)) (G - (m + 1)), .slice (some ⟨g, m * 2, none⟩) (n - m) (cap - m)]).run Try.prog W2.drew = .ok r3 W3) :
    Calls Try.prog 82 #[.slice (some ⟨g, 0, none⟩) n cap, .int .i64 m, .slice (some ⟨vb, 0, none⟩) 1 1] w fun e w' => e = .returned (.slice (some ⟨N, 0, none⟩) (n + 1) G) ∧ w' = W3 := by
  have q1 : ((m : Int) == (n : Int)) = false := by simp; omega
  have q2 : decide ((cap : Int) < (n : Int) + 1) = true := decide_eq_true (by omega)
  have q3 : (cap : Int) < (n : Int) + 1 := by omega
  have q4 : m ≤ cap := by omega
  have q5 : (m : Int) ≤ (n : Int) := by omega
  have q6 : ¬ cap = m := by omega
  have q7 : ¬ G = m := by omega
  have q8 : ¬ G = m + 1 := by omega
  have q9 : (m : Int) ≤ (n : Int) + 1 := by omega
  have q10 : (m : Int) + 1 ≤ (n : Int) + 1 := by omega
  have q11 : ((m : Int) + 1).toNat = m + 1 := by omega
  have q12 : (0 : Int) ≤ (m : Int) + 1 := by omega
  have q13 : IntKind.i64.wrap ((m : Int) + 1) = (m : Int) + 1 := by rw [IntKind.wrap_i64]; omega
  have q14 : m ≤ n + 1 := by omega
  have q15 : m + 1 ≤ n + 1 := by omega
  have q16 : m ≤ n := by omega
  have mixed : Try.prog.follows .mixedOrders = true := by kernel_rfl
  go_enter Try.func82, Try.ntmps82
  go_wp2_with (first
    | (at_builtin; refine Lib.wpList_append_run _ rfl _ _ _ _ rfl _ _ rfl rfl _ _ (H1 _) ?_)
    | (at_builtin; refine wpList_copy_runI _ rfl _ _ 40 40 rfl _ _ rfl rfl (H2 _) ?_))
  go_region_law_o (refine step_copy_runI rfl _ _ 40 40 rfl (.slice (some ⟨N, (m + 1) * 2, none⟩) (n + 1 - (m + 1)) (G - (m + 1))) (.slice (some ⟨g, m * 2, none⟩) (n - m) (cap - m)) (by simp [Act.eval, Act.put]) (by simp [Act.eval, Act.put]) (H3 _) ?_)
  go_wp2_with fail
  go_ret
  exact ⟨rfl, rfl⟩

set_option maxRecDepth 100000 in
set_option maxHeartbeats 1000000 in
theorem ins_shift_walk (g cap n m vb : Nat) (w : World) (hm : m < n) (hcn : n + 1 ≤ cap) (hc : cap ≤ 9223372036854775807) (W1 W2 : World) (r1 r2 : Value)
    (hov : ∀ lb cb, (callFunc 98 #[.slice (some ⟨vb, 0, none⟩) 1 1, .slice (some ⟨g, (m + 1) * 2, none⟩) lb cb]).run Try.prog w = .ok (.value (.bool false)) w)
    (H1 : ∀ ty, (Builtin.copy_ #[ 40, 40] ty #[.slice (some ⟨g, (m + 1) * 2, none⟩) (n + 1 - (m + 1)) (cap - (m + 1)), .slice (some ⟨g, m * 2, none⟩) (n + 1 - m) (cap - m)]).run Try.prog w.drew = .ok r1 W1)
    (H2 : ∀ ty, (Builtin.copy_ #[ 40, 40] ty #[.slice (some ⟨g, m * 2, none⟩) (n + 1 - m) (cap - m), .slice (some ⟨vb, 0, none⟩) 1 1]).run Try.prog W1 = .ok r2 W2) :
    Calls Try.prog 82 #[.slice (some ⟨g, 0, none⟩) n cap, .int .i64 m, .slice (some ⟨vb, 0, none⟩) 1 1] w fun e w' => e = .returned (.slice (some ⟨g, 0, none⟩) (n + 1) cap) ∧ w' = W2 := by
  have q1 : ((m : Int) == (n : Int)) = false := by simp; omega
  have q2 : decide ((cap : Int) < (n : Int) + 1) = false := decide_eq_false (by omega)
  have q3 : ¬ (cap : Int) < (n : Int) + 1 := by omega
  have q4 : m ≤ cap := by omega
  have q5 : (m : Int) ≤ (n : Int) := by omega
  have q6 : ¬ cap = m := by omega
  have q8 : ¬ cap = m + 1 := by omega
  have q9 : (m : Int) ≤ (n : Int) + 1 := by omega
  have q10 : (m : Int) + 1 ≤ (n : Int) + 1 := by omega
  have q11 : ((m : Int) + 1).toNat = m + 1 := by omega
  have q12 : (0 : Int) ≤ (m : Int) + 1 := by omega
  have q13 : IntKind.i64.wrap ((m : Int) + 1) = (m : Int) + 1 := by rw [IntKind.wrap_i64]; omega
  have q14 : m ≤ n + 1 := by omega
  have q15 : m + 1 ≤ n + 1 := by omega
  have q16 : m ≤ n := by omega
  have q17 : (n : Int) + 1 ≤ (cap : Int) := by omega
  have q18 : ((n : Int) + 1).toNat = n + 1 := by omega
  have q19 : (0 : Int) ≤ (n : Int) + 1 := by omega
  have mixed : Try.prog.follows .mixedOrders = true := by kernel_rfl
  go_enter Try.func82, Try.ntmps82
  go_wp2_with (simp only [hov])
  go_region_law_o (refine step_copy_runI rfl _ _ 40 40 rfl (.slice (some ⟨g, (m + 1) * 2, none⟩) (n + 1 - (m + 1)) (cap - (m + 1))) (.slice (some ⟨g, m * 2, none⟩) (n + 1 - m) (cap - m)) (by simp [Act.eval, Act.put]) (by simp [Act.eval, Act.put]) (H1 _) ?_)
  go_wp2_with (at_builtin; refine wpList_copy_runI _ rfl _ _ 40 40 rfl _ _ rfl rfl (H2 _) ?_)
  go_ret
  exact ⟨rfl, rfl⟩
end Go.Proofs.Ytljidfaeljpnpaa

namespace Go.Proofs.Ytljidfaeljpnpaa

open Go.RowKit

def splice (l : List Value) (o : Nat) (cs : List Value) : List Value := l.take o ++ cs ++ l.drop (o + cs.length)
theorem splice_len (l : List Value) (o : Nat) (cs : List Value) (h : o + cs.length ≤ l.length) : (splice l o cs).length = l.length := by simp [splice]; omega
theorem splice_take (l : List Value) (o : Nat) (cs : List Value) (h : o ≤ l.length) (k : Nat) (hk : k = o + cs.length) : (splice l o cs).take k = l.take o ++ cs := by
  unfold splice
  rw [List.take_append_of_le_length (by simp; omega), List.take_of_length_le (by simp; omega)]
theorem splice_take_le (l : List Value) (o : Nat) (cs : List Value) (h : o ≤ l.length) (k : Nat) (hk : k ≤ o) : (splice l o cs).take k = l.take k := by
  unfold splice
  rw [List.append_assoc, List.take_append_of_le_length (by simp; omega), List.take_take, Nat.min_eq_left hk]
theorem splice_drop (l : List Value) (o : Nat) (cs : List Value) (h : o ≤ l.length) : (splice l o cs).drop o = cs ++ l.drop (o + cs.length) := by
  unfold splice
  rw [List.append_assoc, List.drop_append_of_le_length (by simp; omega), List.drop_of_length_le (by simp; omega), List.nil_append]
theorem pairCells_drop : ∀ (ps : PL) (k : Nat), pairCells (ps.drop k) = (pairCells ps).drop (k * 2)
  | ps, 0 => by simp
  | [], k + 1 => by simp [pairCells]
  | p :: t, k + 1 => by
    rw [List.drop_succ_cons, pairCells_drop t k, show (k + 1) * 2 = k * 2 + 1 + 1 by omega]
    rfl
theorem pairCells_take : ∀ (ps : PL) (k : Nat), pairCells (ps.take k) = (pairCells ps).take (k * 2)
  | ps, 0 => by simp [pairCells]
  | [], k + 1 => by simp [pairCells]
  | p :: t, k + 1 => by
    rw [List.take_succ_cons, show (k + 1) * 2 = k * 2 + 1 + 1 by omega]
    simp [pairCells, pairCells_take t k]
theorem row_cell {w : World} {g : Nat} {cur : Array Value} {t : TypeId} (hh : w.heap[g]? = some (.cells cur t (0, 0))) (j : Nat) : w.cell? ⟨g, j, none⟩ = cur.toList[j]? := by
  simp [World.cell?, hh]
/-- A piece of the row's cells, read back. -/
theorem row_news {w : World} {g : Nat} {cur : Array Value} {t : TypeId} {ps : PL} (hh : w.heap[g]? = some (.cells cur t (0, 0))) (h4 : cur.toList.take (ps.length * 2) = pairCells ps) (k : Nat) (j : Nat) (u : Value) (hu : (pairCells (ps.drop k))[j]? = some u) : w.cell? ((⟨g, k * 2, none⟩ : Addr).add j) = some u := by
  rw [addr_add'M, row_cell hh]
  rw [pairCells_drop, ← h4, List.getElem?_drop, List.getElem?_take] at hu
  split at hu
  · exact hu
  · cases hu
theorem pr_size : (Try.prog.info? 46).map (·.size) = some 2 := by kernel_rfl

theorem delete_any {w : World} {B : Nat} {v : Value} {ps : PL} {m : Nat} (h : w.ownsRow B 46 2 v ps.length (pairCells ps)) (hm : m < ps.length) :
    Calls Try.prog 81 #[v, .int .i64 m, .int .i64 ((m : Int) + 1)] w fun e w' => ∃ v', e = .returned v' ∧ w'.ownsRow B 46 2 v' (ps.take m ++ ps.drop (m + 1)).length (pairCells (ps.take m ++ ps.drop (m + 1))) ∧ w.grownBy w' v.ownBlock ∧ v'.ownBlock = v.ownBlock := by
  obtain ⟨i0, hi0, hz0, hz1, hz2⟩ := info_parts pr_infoM
  obtain ⟨_, h⟩ := h
  rcases h with ⟨rfl, h0⟩ | ⟨g, cap, cur, rfl, hg, hh, h1, h2, h3, h4⟩
  · omega
  obtain ⟨n, hn⟩ : ∃ n, n = ps.length := ⟨_, rfl⟩
  have hcl : cur.toList.length = cap * 2 := by simpa using h3
  have hnl : (pairCells (ps.drop (m + 1))).length = (n - (m + 1)) * 2 := by rw [pairCells_length, List.length_drop, hn]
  have hone := pairCells_oneM (ps.drop (m + 1))
  have hwh : w.drew.heap[g]? = some (.cells cur 46 (0, 0)) := hh
  unfold maxLen at h2
  -- the row behind the append, behind the clear
  obtain ⟨c1, hc1⟩ : ∃ c1, c1 = splice cur.toList (m * 2) (pairCells (ps.drop (m + 1))) := ⟨_, rfl⟩
  obtain ⟨c2, hc2⟩ : ∃ c2, c2 = splice c1 ((n - 1) * 2) [.int .i64 0, .int .i64 0] := ⟨_, rfl⟩
  have l1 : c1.length = cap * 2 := by rw [hc1, splice_len _ _ _ (by omega), hcl]
  have l2 : c2.length = cap * 2 := by rw [hc2, splice_len _ _ _ (by simp; omega), l1]
  have A1 : ∀ (A : Addr) (c : Nat) ty, (n - (m + 1) ≠ 0 → A = ⟨g, (m + 1) * 2, none⟩) → (Builtin.append_ #[ 40, 40 ] ty #[.slice (some ⟨g, 0, none⟩) m cap, .slice (some A) (n - (m + 1)) c]).run Try.prog w.drew = .ok (.slice (some ⟨g, 0, none⟩) (n - 1) cap) (w.drew.setRow g c1.toArray) := by
    intro A c ty hA
    have r := run_append_room (P := Try.prog) w.drew 40 ty 46 i0 prs_underM hi0 g m cap cur hwh A (n - (m + 1)) c (pairCells (ps.drop (m + 1))) (by rw [hz1]; exact hnl) (fun j u hu => by
      by_cases hz : n - (m + 1) = 0
      · rw [hz] at hnl
        have hnil : pairCells (ps.drop (m + 1)) = [] := List.length_eq_zero_iff.1 (by omega)
        rw [hnil] at hu
        simp at hu
      · rw [hA hz]
        exact row_news (w := w.drew) hwh h4 (m + 1) j u hu) hone (by omega) (by rw [hz1, hnl, h3]; omega)
    rw [hz1] at r
    rw [r, show m + (n - (m + 1)) = n - 1 by omega, hc1]
    rfl
  have A2 : ∀ (c : Nat) ty, (Builtin.clear_ #[ 40 ] ty #[.slice (some ⟨g, (n - 1) * 2, none⟩) 1 c]).run Try.prog (w.drew.setRow g c1.toArray) = .ok (.tuple #[]) ((w.drew.setRow g c1.toArray).setRow g c2.toArray) := by
    intro c ty
    have r := run_clear2 (P := Try.prog) (w.drew.setRow g c1.toArray) 40 46 ty (.agg #[.int .i64 0, .int .i64 0]) (.int .i64 0) (.int .i64 0) prs_underM pz_value rfl rfl rfl g ((n - 1) * 2) c c1.toArray 46 (setRow_at hwh _) (by simp; omega)
    rw [r, hc2]
    rfl
  have FIN : ∀ (W : World), W = (w.drew.setRow g c1.toArray).setRow g c2.toArray → W.ownsRow B 46 2 (.slice (some ⟨g, 0, none⟩) (n - 1) cap) (ps.take m ++ ps.drop (m + 1)).length (pairCells (ps.take m ++ ps.drop (m + 1))) ∧ w.grownBy W (some g) := by
    rintro W rfl
    have hlen : (ps.take m ++ ps.drop (m + 1)).length = n - 1 := by simp; omega
    refine ⟨⟨by rw [pairCells_length], Or.inr ⟨g, cap, c2.toArray, by rw [hlen], hg, setRow_at (setRow_at hwh _) _, by rw [hlen]; omega, by unfold maxLen; omega, by simpa using l2, ?_⟩⟩, grown_trans (grown_trans (drew_grown _ _) (setRow_grown _ _ _)) (setRow_grown _ _ _)⟩
    rw [hlen, hc2, splice_take_le _ _ _ (by omega) _ (Nat.le_refl _), hc1, splice_take _ _ _ (by omega) _ (by omega), pairCells_append, pairCells_take, ← h4, List.take_take, Nat.min_eq_left (by omega)]
  rw [← hn] at hm h1 ⊢
  by_cases hcm : cap = m + 1
  · obtain rfl : n = m + 1 := by omega
    subst hcm
    have D := del_walk2 g m w (by omega) _ _ (fun ty => by have := A1 ⟨g, 0, none⟩ 0 ty (fun q => by omega); simpa using this) (fun ty => by have := A2 1 ty; simpa using this)
    refine D.mono ?_
    rintro e w' ⟨rfl, hw⟩
    obtain ⟨f1, f2⟩ := FIN w' hw
    exact ⟨_, rfl, by simpa using f1, f2, rfl⟩
  · have D := del_walk g cap n m w hm h1 (by omega) hcm _ _ (fun ty => A1 ⟨g, (m + 1) * 2, none⟩ _ ty (fun _ => rfl)) (fun ty => by rw [show n - (n - 1) = 1 by omega]; exact A2 _ ty)
    refine D.mono ?_
    rintro e w' ⟨rfl, hw⟩
    obtain ⟨f1, f2⟩ := FIN w' hw
    exact ⟨_, rfl, f1, f2, rfl⟩
end Go.Proofs.Ytljidfaeljpnpaa

namespace Go.Proofs.Ytljidfaeljpnpaa

open Go.RowKit

theorem zeroCells_len (z0 z1 : Value) (k : Nat) : (Builtin.zeroCells #[z0, z1] k).size = k * 2 := by simp [Builtin.zeroCells]
/-- What Insert leaves. -/
def InsP (w : World) (B : Nat) (v : Value) (R : PL) (e : Ending) (w' : World) : Prop := ∃ v', e = .returned v' ∧ w'.ownsRow B 46 2 v' R.length (pairCells R) ∧ w.grownBy w' v.ownBlock ∧ (∀ k, v'.ownBlock = some k → v.ownBlock = some k ∨ w.heap.size ≤ k)
theorem grown_any {w w' : World} {x y : Option Nat} (h : w.grownBy w' x) (hx : ∀ k, x = some k → w.heap.size ≤ k ∨ y = some k) : w.grownBy w' y := by
  refine ⟨h.os, h.tape, h.output, h.size, fun k hk hne => h.block k hk (fun e => ?_)⟩
  rcases hx k e.symm with q | q
  · omega
  · exact hne q.symm

theorem ins_grow {w : World} {B : Nat} {ps : PL} {g cap vb : Nat} {cur : Array Value} (m : Nat) (key val : Int) (hg : B ≤ g) (hh : w.heap[g]? = some (.cells cur 46 (0, 0))) (h1 : ps.length ≤ cap) (h3 : cur.size = cap * 2) (h4 : cur.toList.take (ps.length * 2) = pairCells ps)
    (hm : m < ps.length) (hroom : cap < ps.length + 1) (hby : (ps.length + 1) * 16 ≤ 140737488355328) (hv : w.heap[vb]? = some (.cells #[.int .i64 key, .int .i64 val] 46 (0, 0))) :
    Calls Try.prog 82 #[.slice (some ⟨g, 0, none⟩) ps.length cap, .int .i64 m, .slice (some ⟨vb, 0, none⟩) 1 1] w (InsP w B (.slice (some ⟨g, 0, none⟩) ps.length cap) (ps.take m ++ (key, val) :: ps.drop m)) := by
  obtain ⟨i0, hi0, hz0, hz1, hz2⟩ := info_parts pr_infoM
  obtain ⟨n, hn⟩ : ∃ n, n = ps.length := ⟨_, rfl⟩
  have hgl : g < w.heap.size := (Array.getElem?_eq_some_iff.1 hh).1
  have hvl : vb < w.heap.size := (Array.getElem?_eq_some_iff.1 hv).1
  have hcl : cur.toList.length = cap * 2 := by simpa using h3
  rw [← hn] at h1 h4 hm hroom hby ⊢
  have htl : (pairCells (ps.take m)).length = m * 2 := by rw [pairCells_length, List.length_take]; omega
  have hdl : (pairCells (ps.drop m)).length = (n - m) * 2 := by rw [pairCells_length, List.length_drop, hn]
  have hwh : w.drew.heap[g]? = some (.cells cur 46 (0, 0)) := hh
  have hold : (Builtin.firstCells i0.size m (.slice (some ⟨g, 0, none⟩) m cap)).run Try.prog w.drew = .ok (pairCells (ps.take m)).toArray w.drew := by
    rw [hz1]
    exact run_firstCells_some w.drew 2 m ⟨g, 0, none⟩ m cap (pairCells (ps.take m)) htl (fun j u hu => by
      rw [addr_add'M, Nat.zero_add, row_cell hwh]
      rw [pairCells_take, ← h4, List.take_take, List.getElem?_take] at hu
      split at hu
      · exact hu
      · cases hu)
  obtain ⟨G, hG⟩ : ∃ G, G = grownCap w (n + 1) cap 46 := ⟨_, rfl⟩
  have hGn : n + 1 ≤ G := by rw [hG]; exact grownCap_ge w _ _ _
  have hGm : G ≤ maxLen := by rw [hG]; exact grownCap_le_maxLen w (n + 1) cap _ (by unfold maxLen; omega)
  obtain ⟨R0, hR0⟩ : ∃ R0 : Array Value, R0 = (pairCells (ps.take m)).toArray ++ Builtin.zeroCells #[.int .i64 0, .int .i64 0] (n + 1 - m) ++ Builtin.zeroCells #[.int .i64 0, .int .i64 0] (G - (n + 1)) := ⟨_, rfl⟩
  have l0 : R0.size = G * 2 := by rw [hR0]; simp only [Array.size_append, zeroCells_len, List.size_toArray, htl]; omega
  have t0 : R0.toList.take (m * 2) = pairCells (ps.take m) := by
    rw [hR0, Array.toList_append, Array.toList_append, List.append_assoc, List.take_append_of_le_length (by simp [htl]), List.take_of_length_le (by simp [htl])]
  obtain ⟨W1, hW1⟩ : ∃ W1, W1 = w.drew.alloc (.cells R0 46) := ⟨_, rfl⟩
  have H1 : ∀ ty, (Builtin.append_ #[ 40, 3 ] ty #[.slice (some ⟨g, 0, none⟩) m cap, .int .i64 ((n : Int) + 1 - (m : Int))]).run Try.prog w = .ok (.slice (some ⟨w.heap.size, 0, none⟩) (n + 1) G) W1 := fun ty => by
    have r := Lib.run_append_grow_zeros (P := Try.prog) w 40 3 ty 46 i0 _ .i64 .i64 prs_underM (by kernel_rfl) hi0 hz0 (some ⟨g, 0, none⟩) m cap (pairCells (ps.take m)) hold (n + 1 - m) (by omega) (by omega) (by omega) (by omega) (by rw [hz2]; omega) (by rw [hz2, show m + (n + 1 - m) = n + 1 by omega]; exact growslice_fits hroom hby)
    rw [show m + (n + 1 - m) = n + 1 by omega, ← hG] at r
    rw [show (n : Int) + 1 - (m : Int) = ((n + 1 - m : Nat) : Int) by omega, r, hW1, hR0]
    rfl
  have hb1 : W1.heap[w.heap.size]? = some (.cells R0 46 (0, 0)) := by rw [hW1]; exact heap_alloc_at _ _ _ rfl
  have ho1 : ∀ k, k < w.heap.size → W1.heap[k]? = w.heap[k]? := fun k hk => by
    rw [hW1]; exact (below_allocM w.drew _).block k hk
  -- the pair laid, then the rest
  obtain ⟨c1, hc1⟩ : ∃ c1, c1 = splice R0.toList (m * 2) [.int .i64 key, .int .i64 val] := ⟨_, rfl⟩
  obtain ⟨c2, hc2⟩ : ∃ c2, c2 = splice c1 ((m + 1) * 2) (pairCells (ps.drop m)) := ⟨_, rfl⟩
  have hR0l : R0.toList.length = G * 2 := by simpa using l0
  have l1 : c1.length = G * 2 := by rw [hc1, splice_len _ _ _ (by simp; omega), hR0l]
  have l2 : c2.length = G * 2 := by rw [hc2, splice_len _ _ _ (by rw [hdl, l1]; omega), l1]
  have H2 : ∀ ty, (Builtin.copy_ #[ 40, 40 ] ty #[.slice (some ⟨w.heap.size, m * 2, none⟩) (n + 1 - m) (G - m), .slice (some ⟨vb, 0, none⟩) 1 1]).run Try.prog W1 = .ok (goInt (Nat.min 1 (n + 1 - m))) (W1.setRow w.heap.size c1.toArray) := fun ty => by
    have r := run_copy_sz (P := Try.prog) W1 40 40 ty 46 w.heap.size (m * 2) (n + 1 - m) (G - m) ⟨vb, 0, none⟩ 1 1 2 R0 46 [.int .i64 key, .int .i64 val] prs_underM pr_size hb1 (by rw [show Nat.min 1 (n + 1 - m) = 1 from Nat.min_eq_left (by omega)]; rfl) (fun j u hu => by
      rw [addr_add'M, Nat.zero_add, row_cell ((ho1 vb hvl).trans hv)]
      exact hu) (by rw [l0]; simp; omega) (by simp [Value.oneCell'])
    rw [r, hc1]
    rfl
  have hb2 : (W1.setRow w.heap.size c1.toArray).heap[w.heap.size]? = some (.cells c1.toArray 46 (0, 0)) := setRow_at hb1 _
  have hg2 : (W1.setRow w.heap.size c1.toArray).drew.heap[g]? = some (.cells cur 46 (0, 0)) := by
    have := (setRow_grown W1 w.heap.size c1.toArray).block g (by have := (Array.getElem?_eq_some_iff.1 hb1).1; omega) (fun e => by cases e; omega)
    exact this.trans ((ho1 g hgl).trans hh)
  have H3 : ∀ ty, (Builtin.copy_ #[ 40, 40 ] ty #[.slice (some ⟨w.heap.size, (m + 1) * 2, none⟩) (n + 1 - (m + 1)) (G - (m + 1)), .slice (some ⟨g, m * 2, none⟩) (n - m) (cap - m)]).run Try.prog (W1.setRow w.heap.size c1.toArray).drew = .ok (goInt (Nat.min (n - m) (n + 1 - (m + 1)))) ((W1.setRow w.heap.size c1.toArray).drew.setRow w.heap.size c2.toArray) := fun ty => by
    have r := run_copy_sz (P := Try.prog) (W1.setRow w.heap.size c1.toArray).drew 40 40 ty 46 w.heap.size ((m + 1) * 2) (n + 1 - (m + 1)) (G - (m + 1)) ⟨g, m * 2, none⟩ (n - m) (cap - m) 2 c1.toArray 46 (pairCells (ps.drop m)) prs_underM pr_size hb2 (by rw [hdl, show Nat.min (n - m) (n + 1 - (m + 1)) = n - m from Nat.min_eq_left (by omega)]) (fun j u hu => row_news hg2 (by rw [← hn]; exact h4) m j u hu) (by rw [hdl]; simp [l1]; omega) (pairCells_oneM _)
    rw [r, hc2]
    rfl
  have D := ins_grow_walk g cap n m w.heap.size G vb w hm h1 hroom (by omega) hGn (by unfold maxLen at hGm; omega) _ _ _ _ _ H1 H2 H3
  refine D.mono ?_
  rintro e w' ⟨rfl, rfl⟩
  have hlen : (ps.take m ++ (key, val) :: ps.drop m).length = n + 1 := by simp; omega
  refine ⟨_, rfl, ⟨by rw [pairCells_length], Or.inr ⟨w.heap.size, G, c2.toArray, by rw [hlen], Nat.le_trans hg (by omega), setRow_at (w := (W1.setRow w.heap.size c1.toArray).drew) hb2 _, by rw [hlen]; exact hGn, hGm, by simpa using l2, ?_⟩⟩, ?_, fun k hk => by cases hk; exact Or.inr (Nat.le_refl _)⟩
  · rw [hlen, hc2, splice_take _ _ _ (by omega) _ (by rw [hdl]; omega), hc1, splice_take _ _ _ (by omega) _ (by simp; omega), t0, pairCells_append]
    simp [pairCells]
  · have g1 : w.grownBy W1 (some w.heap.size) := by
      refine ⟨by rw [hW1]; rfl, by rw [hW1]; rfl, by rw [hW1]; rfl, by rw [hW1]; simp, fun k hk _ => ho1 k hk⟩
    exact grown_any (grown_trans (grown_trans (grown_trans g1 (setRow_grown _ _ _)) (drew_grown _ _)) (setRow_grown _ _ _)) (fun k hk => by cases hk; exact Or.inl (Nat.le_refl _))

theorem ins_shift {w : World} {B : Nat} {ps : PL} {g cap vb : Nat} {cur : Array Value} (m : Nat) (key val : Int) (hg : B ≤ g) (hh : w.heap[g]? = some (.cells cur 46 (0, 0))) (h2 : cap ≤ maxLen) (h3 : cur.size = cap * 2) (h4 : cur.toList.take (ps.length * 2) = pairCells ps)
    (hm : m < ps.length) (hroom : ps.length + 1 ≤ cap) (hv : w.heap[vb]? = some (.cells #[.int .i64 key, .int .i64 val] 46 (0, 0))) (hne : vb ≠ g) :
    Calls Try.prog 82 #[.slice (some ⟨g, 0, none⟩) ps.length cap, .int .i64 m, .slice (some ⟨vb, 0, none⟩) 1 1] w (InsP w B (.slice (some ⟨g, 0, none⟩) ps.length cap) (ps.take m ++ (key, val) :: ps.drop m)) := by
  obtain ⟨n, hn⟩ : ∃ n, n = ps.length := ⟨_, rfl⟩
  have hcl : cur.toList.length = cap * 2 := by simpa using h3
  rw [← hn] at h4 hm hroom ⊢
  have hvl : vb < w.heap.size := (Array.getElem?_eq_some_iff.1 hv).1
  have hdl : (pairCells (ps.drop m)).length = (n - m) * 2 := by rw [pairCells_length, List.length_drop, hn]
  have hwh : w.drew.heap[g]? = some (.cells cur 46 (0, 0)) := hh
  obtain ⟨c1, hc1⟩ : ∃ c1, c1 = splice cur.toList ((m + 1) * 2) (pairCells (ps.drop m)) := ⟨_, rfl⟩
  obtain ⟨c2, hc2⟩ : ∃ c2, c2 = splice c1 (m * 2) [.int .i64 key, .int .i64 val] := ⟨_, rfl⟩
  have l1 : c1.length = cap * 2 := by rw [hc1, splice_len _ _ _ (by rw [hdl, hcl]; omega), hcl]
  have l2 : c2.length = cap * 2 := by rw [hc2, splice_len _ _ _ (by simp; omega), l1]
  have hov : ∀ lb cb, (callFunc 98 #[.slice (some ⟨vb, 0, none⟩) 1 1, .slice (some ⟨g, (m + 1) * 2, none⟩) lb cb]).run Try.prog w = .ok (.value (.bool false)) w := fun lb cb => by
    rw [run_callFunc_extern Try.func98 (by kernel_rfl) (by kernel_rfl) (by kernel_rfl) (e := Extern.SlicesOverlaps.overlaps #[ 40, 40 ] #[ 4 ]) (by kernel_rfl),
      Lib.run_overlaps_apart w 40 4 46 prs_underM 2 Try.sizeOf46 ⟨vb, 0, none⟩ ⟨g, (m + 1) * 2, none⟩ 1 1 lb cb hne 46 46 2 cur.size (by simp [World.shape?, hv]) (by simp [World.shape?, hh]) (by omega) (by simp [World.frozen?, hv]) (by simp [World.frozen?, hv])]
    rfl
  have H1 : ∀ ty, (Builtin.copy_ #[ 40, 40 ] ty #[.slice (some ⟨g, (m + 1) * 2, none⟩) (n + 1 - (m + 1)) (cap - (m + 1)), .slice (some ⟨g, m * 2, none⟩) (n + 1 - m) (cap - m)]).run Try.prog w.drew = .ok (goInt (Nat.min (n + 1 - m) (n + 1 - (m + 1)))) (w.drew.setRow g c1.toArray) := fun ty => by
    have r := run_copy_sz (P := Try.prog) w.drew 40 40 ty 46 g ((m + 1) * 2) (n + 1 - (m + 1)) (cap - (m + 1)) ⟨g, m * 2, none⟩ (n + 1 - m) (cap - m) 2 cur 46 (pairCells (ps.drop m)) prs_underM pr_size hwh (by rw [hdl, show Nat.min (n + 1 - m) (n + 1 - (m + 1)) = n - m from by simp [Nat.min_def]; omega]) (fun j u hu => row_news hwh (by rw [← hn]; exact h4) m j u hu) (by rw [hdl, h3]; omega) (pairCells_oneM _)
    rw [r, hc1]
    rfl
  have hb1 : (w.drew.setRow g c1.toArray).heap[g]? = some (.cells c1.toArray 46 (0, 0)) := setRow_at hwh _
  have hv1 : (w.drew.setRow g c1.toArray).heap[vb]? = some (.cells #[.int .i64 key, .int .i64 val] 46 (0, 0)) := ((setRow_grown w.drew g c1.toArray).block vb hvl (fun e => by cases e; exact hne rfl)).trans hv
  have H2 : ∀ ty, (Builtin.copy_ #[ 40, 40 ] ty #[.slice (some ⟨g, m * 2, none⟩) (n + 1 - m) (cap - m), .slice (some ⟨vb, 0, none⟩) 1 1]).run Try.prog (w.drew.setRow g c1.toArray) = .ok (goInt (Nat.min 1 (n + 1 - m))) ((w.drew.setRow g c1.toArray).setRow g c2.toArray) := fun ty => by
    have r := run_copy_sz (P := Try.prog) (w.drew.setRow g c1.toArray) 40 40 ty 46 g (m * 2) (n + 1 - m) (cap - m) ⟨vb, 0, none⟩ 1 1 2 c1.toArray 46 [.int .i64 key, .int .i64 val] prs_underM pr_size hb1 (by rw [show Nat.min 1 (n + 1 - m) = 1 from Nat.min_eq_left (by omega)]; rfl) (fun j u hu => by
      rw [addr_add'M, Nat.zero_add, row_cell hv1]
      exact hu) (by simp [l1]; omega) (by simp [Value.oneCell'])
    rw [r, hc2]
    rfl
  unfold maxLen at h2
  have D := ins_shift_walk g cap n m vb w hm hroom (by omega) _ _ _ _ hov H1 H2
  refine D.mono ?_
  rintro e w' ⟨rfl, rfl⟩
  have hlen : (ps.take m ++ (key, val) :: ps.drop m).length = n + 1 := by simp; omega
  refine ⟨_, rfl, ⟨by rw [pairCells_length], Or.inr ⟨g, cap, c2.toArray, by rw [hlen], hg, setRow_at hb1 _, by rw [hlen]; exact hroom, by unfold maxLen; omega, by simpa using l2, ?_⟩⟩, grown_trans (grown_trans (drew_grown _ _) (setRow_grown _ _ _)) (setRow_grown _ _ _), fun k hk => Or.inl hk⟩
  rw [hlen, hc2]
  have e1 : splice c1 (m * 2) [.int .i64 key, .int .i64 val] = (c1.take (m * 2) ++ [.int .i64 key, .int .i64 val]) ++ c1.drop ((m + 1) * 2) := by
    unfold splice
    rw [show m * 2 + ([.int .i64 key, .int .i64 val] : List Value).length = (m + 1) * 2 by simp; omega]
  rw [e1, hc1, splice_take_le _ _ _ (by omega) _ (by omega), splice_drop _ _ _ (by omega), ← List.append_assoc, List.take_append_of_le_length (by simp [hdl, hcl]; omega), List.take_of_length_le (by simp [hdl, hcl]; omega), pairCells_append, pairCells_take, ← h4, List.take_take, Nat.min_eq_left (by omega)]
  simp [pairCells]
end Go.Proofs.Ytljidfaeljpnpaa

namespace Go.Proofs.Ytljidfaeljpnpaa

open Go.RowKit

def opAt (ops : List OpD) (i : Nat) : OpD := ops.getD i ⟨0, 0, 0, 0⟩
def retAt (rs : List RetD) (i : Nat) : RetD := rs.getD i RetD.zero
theorem op_take (ops : List OpD) {j : Nat} (hj : j < ops.length) : ops.take (j + 1) = ops.take j ++ [opAt ops j] := by
  rw [List.take_add_one, List.getElem?_eq_getElem hj]
  simp [opAt, List.getD_eq_getElem?_getD, List.getElem?_eq_getElem hj]
theorem retAt_left (a b : List RetD) (i : Nat) (hi : i < a.length) : retAt (a ++ b) i = retAt a i := by
  simp [retAt, List.getD_eq_getElem?_getD, List.getElem?_append_left hi]
theorem retAt_last (a : List RetD) (r : RetD) : retAt (a ++ [r]) a.length = r := by
  simp [retAt, List.getD_eq_getElem?_getD]
/-- The operations lie in memory. -/
structure OpsAt (w : World) (base : Option Addr) (b o : Nat) (ops : List OpD) : Prop where
  base : ops.length ≠ 0 → base = some ⟨b, o, none⟩
  lt : ops.length ≠ 0 → b < w.heap.size
  cells : ∀ i, i < ops.length → w.cell? ⟨b, o + i * 4, none⟩ = some (.int .i64 (opAt ops i).kind) ∧ w.cell? ⟨b, o + i * 4 + 1, none⟩ = some (.int .i64 (opAt ops i).key) ∧ w.cell? ⟨b, o + i * 4 + 2, none⟩ = some (.int .i64 (opAt ops i).val) ∧ w.cell? ⟨b, o + i * 4 + 3, none⟩ = some (.int .i64 (opAt ops i).hi)
  len : ops.length ≤ maxLen
theorem OpsAt.below {w w' : World} {base : Option Addr} {b o : Nat} {ops : List OpD} (h : OpsAt w base b o ops) (hb : Below w.heap.size w w') : OpsAt w' base b o ops := by
  refine ⟨h.base, fun hn => Nat.lt_of_lt_of_le (h.lt hn) hb.size, fun i hi => ?_, h.len⟩
  have hl := h.lt (by omega)
  obtain ⟨c0, c1, c2, c3⟩ := h.cells i hi
  exact ⟨(hb.cell (p := ⟨b, o + i * 4, none⟩) hl).trans c0, (hb.cell (p := ⟨b, o + i * 4 + 1, none⟩) hl).trans c1, (hb.cell (p := ⟨b, o + i * 4 + 2, none⟩) hl).trans c2, (hb.cell (p := ⟨b, o + i * 4 + 3, none⟩) hl).trans c3⟩
/-- The answers lie in memory, with their pairs. -/
structure RetsAtM (w : World) (base : Option Addr) (b o : Nat) (rs : List RetD) : Prop where
  base : rs.length ≠ 0 → base = some ⟨b, o, none⟩
  lt : rs.length ≠ 0 → b < w.heap.size
  cells : ∀ i, i < rs.length → ∃ a g p c, w.cell? ⟨b, o + i * 4, none⟩ = some (.bool (retAt rs i).ok) ∧ w.cell? ⟨b, o + i * 4 + 1, none⟩ = some (.int .i64 (retAt rs i).key) ∧ w.cell? ⟨b, o + i * 4 + 2, none⟩ = some (.int .i64 (retAt rs i).val) ∧ w.cell? ⟨b, o + i * 4 + 3, none⟩ = some (.slice a (retAt rs i).pairs.length c) ∧ PairsAt w a g p (retAt rs i).pairs
  len : rs.length ≤ maxLen
theorem RetsAtM.below {w w' : World} {base : Option Addr} {b o : Nat} {rs : List RetD} (h : RetsAtM w base b o rs) (hb : Below w.heap.size w w') : RetsAtM w' base b o rs := by
  refine ⟨h.base, fun hn => Nat.lt_of_lt_of_le (h.lt hn) hb.size, fun i hi => ?_, h.len⟩
  have hl := h.lt (by omega)
  obtain ⟨a, g, p, c, c0, c1, c2, c3, hp⟩ := h.cells i hi
  exact ⟨a, g, p, c, (hb.cell (p := ⟨b, o + i * 4, none⟩) hl).trans c0, (hb.cell (p := ⟨b, o + i * 4 + 1, none⟩) hl).trans c1, (hb.cell (p := ⟨b, o + i * 4 + 2, none⟩) hl).trans c2, (hb.cell (p := ⟨b, o + i * 4 + 3, none⟩) hl).trans c3, hp.below hb⟩
theorem RetsAtM.nil (w : World) : RetsAtM w none 0 0 [] := ⟨fun h => absurd rfl h, fun h => absurd rfl h, fun i hi => by simp at hi, by simp⟩

/-- Are the first j kinds right? -/
def kN (ops : List OpD) : Nat → Bool
  | 0 => true
  | j + 1 => kN ops j && decide (kdErr (opAt ops j).kind = 0)
theorem kN_not {ops : List OpD} : ∀ {n j : Nat}, j < n → ¬ kdErr (opAt ops j).kind = 0 → kN ops n = false
  | 0, j, h, _ => by omega
  | n + 1, j, h, hk => by
    by_cases e : j = n
    · subst e; simp [kN, hk]
    · simp [kN, kN_not (n := n) (j := j) (by omega) hk]
theorem kN_at {ops : List OpD} {n j : Nat} (h : kN ops n = true) (hj : j < n) : kdErr (opAt ops j).kind = 0 := by
  by_cases q : kdErr (opAt ops j).kind = 0
  · exact q
  · rw [kN_not hj q] at h; cases h
/-- The error of a run; what is answered beside it. -/
def kErr (ops : List OpD) : Int := if kN ops ops.length then 0 else 5
def runErr (ps : PL) (ops : List OpD) : Int := if ckErr ps = 0 then kErr ops else 11
def runLd (ps : PL) (ops : List OpD) : PL := if runErr ps ops = 0 then runL ps ops else []
def runRd (ps : PL) (ops : List OpD) : List RetD := if runErr ps ops = 0 then runR ps ops else []
theorem ckErr_cases (ps : PL) : ckErr ps = 0 ∨ ckErr ps = 11 := by unfold ckErr; split <;> simp

/-- The cells of answers. -/
def retC (r : RetD) (u : Value) : List Value := [.bool r.ok, .int .i64 r.key, .int .i64 r.val, u]
def retsC : List RetD → List Value → List Value
  | r :: rs, u :: us => retC r u ++ retsC rs us
  | _, _ => []
theorem retsC_snoc (r : RetD) (u : Value) : ∀ (rs : List RetD) (us : List Value), us.length = rs.length → retsC (rs ++ [r]) (us ++ [u]) = retsC rs us ++ retC r u
  | [], [], _ => by simp [retsC]
  | r' :: rs, u' :: us, h => by
    simp only [List.cons_append, retsC, retsC_snoc r u rs us (by simpa using h), List.append_assoc]
  | [], _ :: _, h => by simp at h
  | _ :: _, [], h => by simp at h
theorem retsC_get : ∀ (rs : List RetD) (us : List Value) (i : Nat), us.length = rs.length → i < rs.length → (retsC rs us)[i * 4]? = some (.bool (retAt rs i).ok) ∧ (retsC rs us)[i * 4 + 1]? = some (.int .i64 (retAt rs i).key) ∧ (retsC rs us)[i * 4 + 2]? = some (.int .i64 (retAt rs i).val) ∧ (retsC rs us)[i * 4 + 3]? = us[i]?
  | [], _, i, _, h => by simp at h
  | _ :: _, [], _, h, _ => by simp at h
  | r :: rs, u :: us, 0, _, _ => by simp [retsC, retC, retAt]
  | r :: rs, u :: us, i + 1, h, hi => by
    obtain ⟨a, b, c, d⟩ := retsC_get rs us i (by simpa using h) (by simpa using hi)
    have e : (i + 1) * 4 = i * 4 + 1 + 1 + 1 + 1 := by omega
    rw [e]
    refine ⟨?_, ?_, ?_, ?_⟩
    · simpa [retsC, retC, retAt] using a
    · simpa [retsC, retC, retAt] using b
    · simpa [retsC, retC, retAt] using c
    · simpa [retsC, retC, retAt] using d
/-- The pairs of answers, none of them in block x. -/
structure RetsM (w : World) (B : Nat) (x : Option Nat) (rs : List RetD) (us : List Value) : Prop where
  len : us.length = rs.length
  pairs : ∀ i, i < rs.length → ∃ a g c, us[i]? = some (.slice a (retAt rs i).pairs.length c) ∧ PairsAt w a g 0 (retAt rs i).pairs ∧ ((retAt rs i).pairs.length ≠ 0 → B ≤ g ∧ x ≠ some g)
theorem PairsAt.grown {w w' : World} {a : Option Addr} {g o : Nat} {ps : PL} {x : Option Nat} (h : PairsAt w a g o ps) (hg : w.grownBy w' x) (hx : ps.length ≠ 0 → x ≠ some g) : PairsAt w' a g o ps := by
  refine ⟨h.base, fun hn => Nat.lt_of_lt_of_le (h.lt hn) hg.size, fun i hi => ?_, h.len⟩
  have hl := h.lt (by omega)
  have hk : ∀ p, w'.cell? ⟨g, p, none⟩ = w.cell? ⟨g, p, none⟩ := fun p => World.cell?_of_block (a := ⟨g, p, none⟩) (hg.block g hl (fun q => hx (by omega) q.symm))
  exact ⟨(hk _).trans (h.cells i hi).1, (hk _).trans (h.cells i hi).2⟩
theorem RetsM.below {w w' : World} {B : Nat} {x : Option Nat} {rs : List RetD} {us : List Value} (h : RetsM w B x rs us) (hb : Below w.heap.size w w') : RetsM w' B x rs us :=
  ⟨h.len, fun i hi => by obtain ⟨a, g, c, e, hp, hq⟩ := h.pairs i hi; exact ⟨a, g, c, e, hp.below hb, hq⟩⟩
theorem RetsM.snoc {w w' : World} {B : Nat} {x x' : Option Nat} {rs : List RetD} {us : List Value} {r : RetD} {u : Value} (h : RetsM w B x rs us) (hg : w.grownBy w' x) (hx : ∀ k, x' = some k → x = some k ∨ w.heap.size ≤ k) {C : Nat} (ho : OwnPM w C r.pairs u) (hC : B ≤ C) (hxC : ∀ k, x = some k → k < C) : RetsM w' B x' (rs ++ [r]) (us ++ [u]) := by
  have hfar : ∀ {g : Nat}, x ≠ some g → g < w.heap.size → x' ≠ some g := fun q ql e => by rcases hx _ e with e' | e' <;> first | exact q e' | omega
  refine ⟨by simp [h.len], fun i hi => ?_⟩
  by_cases hlt : i < rs.length
  · rw [retAt_left _ _ _ hlt]
    obtain ⟨a, g, c, e, hp, hq⟩ := h.pairs i hlt
    refine ⟨a, g, c, by rw [List.getElem?_append_left (by rw [h.len]; exact hlt)]; exact e, hp.grown hg (fun q => (hq q).2), fun q => ⟨(hq q).1, hfar (hq q).2 (hp.lt q)⟩⟩
  · obtain rfl : i = rs.length := by simp at hi; omega
    rw [retAt_last]
    obtain ⟨a, g, c, rfl, h1, hp, _⟩ := ho
    have hne : r.pairs.length ≠ 0 → x ≠ some g := fun q e => by have := h1 q; have := hxC _ e; omega
    refine ⟨a, g, c, by rw [← h.len]; simp, hp.grown hg hne, fun q => ⟨Nat.le_trans hC (h1 q), hfar (hne q) (hp.lt q)⟩⟩
theorem rets_of_owns {w : World} {B : Nat} {e : TypeId} {v : Value} {rs : List RetD} {us : List Value} {x : Option Nat} (h : w.ownsRow B e 4 v rs.length (retsC rs us)) (hm : RetsM w B x rs us) (hn : rs.length ≤ maxLen) :
    ∃ base cap g, v = .slice base rs.length cap ∧ RetsAtM w base g 0 rs := by
  obtain ⟨_, h⟩ := h
  rcases h with ⟨rfl, h0⟩ | ⟨g, cap, cur, rfl, hg, hh, h1, h2, h3, h4⟩
  · exact ⟨none, 0, 0, by rw [h0], fun h => absurd h0 h, fun h => absurd h0 h, fun i hi => by omega, hn⟩
  · refine ⟨_, _, g, rfl, fun _ => rfl, fun _ => (Array.getElem?_eq_some_iff.1 hh).1, fun i hi => ?_, hn⟩
    have hc : ∀ j, j < rs.length * 4 → w.cell? ⟨g, 0 + j, none⟩ = (retsC rs us)[j]? := by
      intro j hj
      rw [← h4, List.getElem?_take, if_pos hj, Nat.zero_add]
      simp [World.cell?, hh]
    obtain ⟨a, b, c, d⟩ := retsC_get rs us i hm.len hi
    obtain ⟨ap, gp, cp, eu, hp, _⟩ := hm.pairs i hi
    refine ⟨ap, gp, 0, cp, (hc _ (by omega)).trans a, ?_, ?_, ?_, hp⟩
    · exact (hc (i * 4 + 1) (by omega)).trans b
    · exact (hc (i * 4 + 2) (by omega)).trans c
    · exact (hc (i * 4 + 3) (by omega)).trans (d.trans eu)
theorem owns_belowM {w w' : World} {B sz : Nat} {e : TypeId} {v : Value} {n : Nat} {xs : List Value} (h : w.ownsRow B e sz v n xs) (hb : Below w.heap.size w w') : w'.ownsRow B e sz v n xs := by
  obtain ⟨h0, h⟩ := h
  rcases h with h | ⟨g, cap, cur, hv, hg, hh, h1, h2, h3, h4⟩
  · exact ⟨h0, Or.inl h⟩
  · have hl : g < w.heap.size := (Array.getElem?_eq_some_iff.1 hh).1
    exact ⟨h0, Or.inr ⟨g, cap, cur, hv, hg, by rw [hb.block g hl]; exact hh, h1, h2, h3, h4⟩⟩
theorem owns_ltM {w : World} {B sz : Nat} {e : TypeId} {v : Value} {n : Nat} {xs : List Value} (h : w.ownsRow B e sz v n xs) : ∀ b, v.ownBlock = some b → B ≤ b ∧ b < w.heap.size := by
  intro b hb
  obtain ⟨_, h⟩ := h
  rcases h with ⟨rfl, _⟩ | ⟨g, cap, cur, rfl, hg, hh, _⟩
  · cases hb
  · simp [Value.ownBlock] at hb
    subst hb
    exact ⟨hg, (Array.getElem?_eq_some_iff.1 hh).1⟩
theorem OwnPM.parts {w : World} {B : Nat} {ps : PL} {v : Value} (h : OwnPM w B ps v) : ∃ a g c, v = .slice a ps.length c ∧ PairsAt w a g 0 ps ∧ (a = none → ps.length = 0 ∧ c = 0) := by
  obtain ⟨a, g, c, e, _, hp, hn⟩ := h
  refine ⟨a, g, c, e, hp, fun q => ⟨?_, hn q⟩⟩
  by_cases z : ps.length = 0
  · exact z
  · have := hp.base z
    rw [q] at this
    cases this
theorem OwnPM.grown {w w' : World} {B : Nat} {ps : PL} {v : Value} {x : Option Nat} (h : OwnPM w B ps v) (hg : w.grownBy w' x) (hx : ∀ k, x = some k → k < B) : OwnPM w' B ps v := by
  obtain ⟨a, g, c, e, h1, hp, hn⟩ := h
  exact ⟨a, g, c, e, h1, hp.grown hg (fun q e => by have := h1 q; have := hx _ e; omega), hn⟩
theorem rt_info : (Try.prog.info? 42).map (fun i => (i.zero, i.size, i.bytes)) = some (some (.agg #[.bool false, .int .i64 0, .int .i64 0, .slice none 0 0]), 4, 48) := by kernel_rfl
theorem rts_under : Try.prog.underlying 53 = some (.slice 42) := by kernel_rfl
end Go.Proofs.Ytljidfaeljpnpaa


namespace Go.Proofs.Ytljidfaeljpnpaa

open Go.RowKit

set_option maxRecDepth 100000 in
set_option maxHeartbeats 1000000 in
theorem ins_end {w : World} {B : Nat} {v : Value} {ps : PL} {vb : Nat} (key val : Int) (h : w.ownsRow B 46 2 v ps.length (pairCells ps)) (hv : w.heap[vb]? = some (.cells #[.int .i64 key, .int .i64 val] 46 (0, 0))) (hby : (ps.length + 1) * 16 ≤ 140737488355328) (hB : B ≤ w.heap.size) :
    Calls Try.prog 82 #[v, .int .i64 (ps.length : Nat), .slice (some ⟨vb, 0, none⟩) 1 1] w (InsP w B v (ps ++ [(key, val)])) := by
  obtain ⟨i0, hi0, hz0, hz1, hz2⟩ := info_parts pr_infoM
  have n1 : ps.length + 1 ≤ maxLen := by unfold maxLen; omega
  have HNEWS : Hid (∀ j u, ([.int .i64 key, .int .i64 val] : List Value)[j]? = some u → w.cell? ((⟨vb, 0, none⟩ : Addr).add j) = some u) := fun j u hu => by
    rw [addr_add'M, Nat.zero_add, row_cell hv]; exact hu
  have HO : Hid (World.ownsRow _ _ _ _ _ _ _) := h
  have hsh : (v = .slice none 0 0 ∧ ps.length = 0) ∨ ∃ g cap, v = .slice (some ⟨g, 0, none⟩) ps.length cap ∧ ps.length ≤ cap ∧ cap ≤ 9223372036854775807 := by
    obtain ⟨_, h⟩ := h
    rcases h with h | ⟨g, cap, cur, e, _, _, h1, h2, _⟩
    · exact Or.inl h
    · exact Or.inr ⟨g, cap, e, h1, by unfold maxLen at h2; omega⟩
  clear h hv
  have FIN : Hid (∀ (gg cap : Nat) (w3 : World), w3.ownsRow B 46 2 (.slice (some ⟨gg, 0, none⟩) (ps.length + 1) cap) (ps.length + 1) (pairCells ps ++ [.int .i64 key, .int .i64 val]) → w.grownBy w3 v.ownBlock → (v.ownBlock = some gg ∨ gg = w.heap.size) → InsP w B v (ps ++ [(key, val)]) (.returned (.slice (some ⟨gg, 0, none⟩) (ps.length + 1) cap)) w3) := by
    intro gg cap w3 h1 h2 h3
    refine ⟨_, rfl, by rw [List.length_append, pair_snoc]; exact h1, h2, fun k hk => ?_⟩
    cases hk
    rcases h3 with q | q
    · exact Or.inl q
    · exact Or.inr (by show w.heap.size ≤ gg; omega)
  rcases hsh with ⟨rfl, h0⟩ | ⟨g, cap, rfl, h1, h2⟩
  · obtain rfl : ps = [] := List.length_eq_zero_iff.1 h0
    have n2 : (0 + 1) * 16 ≤ 140737488355328 := by omega
    show Calls Try.prog _ #[.slice none 0 0, .int .i64 0, _] w _
    go_enter Try.func82, Try.ntmps82
    go_wp2_with (first | (at_builtin; (refine wpList_append_lies _ (by rfl) _ _ _ (by rfl) B 46 i0 _ 2 16 prs_underM hi0 hz0 hz1 hz2 rfl (by omega) _ 0 _ (by rfl) HO.out ⟨vb, 0, none⟩ 1 1 [.int .i64 key, .int .i64 val] (by rfl) (by rfl) HNEWS.out (by simp [Value.oneCell']) Nat.one_pos n1 n2 hB w.heap.size rfl ?_); intro gg cap w3 hown hgrow hat hlt))
    go_ret
    exact FIN.out _ _ _ hown hgrow hat
  · have q1 : ((ps.length : Int) == (ps.length : Int)) = true := by simp
    go_enter Try.func82, Try.ntmps82
    go_wp2_with (first | (at_builtin; (refine wpList_append_lies _ (by rfl) _ _ _ (by rfl) B 46 i0 _ 2 16 prs_underM hi0 hz0 hz1 hz2 rfl (by omega) _ ps.length _ (by rfl) HO.out ⟨vb, 0, none⟩ 1 1 [.int .i64 key, .int .i64 val] (by rfl) (by rfl) HNEWS.out (by simp [Value.oneCell']) Nat.one_pos n1 hby hB w.heap.size rfl ?_); intro gg cap w3 hown hgrow hat hlt))
    all_goals go_ret
    all_goals exact FIN.out _ _ _ hown hgrow hat

theorem insert_any {w : World} {B : Nat} {v : Value} {ps : PL} {vb : Nat} (m : Nat) (key val : Int) (h : w.ownsRow B 46 2 v ps.length (pairCells ps)) (hm : m ≤ ps.length) (hv : w.heap[vb]? = some (.cells #[.int .i64 key, .int .i64 val] 46 (0, 0))) (hne : v.ownBlock ≠ some vb) (hby : (ps.length + 1) * 16 ≤ 140737488355328) (hB : B ≤ w.heap.size) :
    Calls Try.prog 82 #[v, .int .i64 (m : Nat), .slice (some ⟨vb, 0, none⟩) 1 1] w (InsP w B v (ps.take m ++ (key, val) :: ps.drop m)) := by
  by_cases he : m = ps.length
  · subst he
    have := ins_end key val h hv hby hB
    rw [List.take_length, List.drop_length]
    exact this
  · obtain ⟨_, h⟩ := h
    rcases h with ⟨rfl, h0⟩ | ⟨g, cap, cur, rfl, hg, hh, h1, h2, h3, h4⟩
    · omega
    · by_cases hr : ps.length + 1 ≤ cap
      · exact ins_shift m key val hg hh h2 h3 h4 (by omega) hr hv (fun e => hne (by rw [e]; rfl))
      · exact ins_grow m key val hg hh h1 h3 h4 (by omega) (by omega) hby hv

theorem owns_putM {w : World} {B sz : Nat} {e : TypeId} {n : Nat} {xs : List Value} {g cap : Nat} (h : w.ownsRow B e sz (.slice (some ⟨g, 0, none⟩) n cap) n xs) (j : Nat) (u : Value) : (w.setCell ⟨g, j, none⟩ u).ownsRow B e sz (.slice (some ⟨g, 0, none⟩) n cap) n (xs.set j u) := by
  obtain ⟨h0, h⟩ := h
  rcases h with ⟨h, _⟩ | ⟨g', cap', cur, hv, hg, hh, h1, h2, h3, h4⟩
  · cases h
  · cases hv
    refine ⟨by simpa using h0, Or.inr ⟨g, cap, cur.setIfInBounds j u, rfl, hg, ?_, h1, h2, by simpa using h3, ?_⟩⟩
    · simp [World.setCell, Array.getElem?_modify, hh]
    · rw [Array.toList_setIfInBounds, List.take_set, h4]
theorem owns_someM {w : World} {B sz : Nat} {e : TypeId} {v : Value} {n : Nat} {xs : List Value} (h : w.ownsRow B e sz v n xs) (hn : 0 < n) : ∃ g cap, v = .slice (some ⟨g, 0, none⟩) n cap ∧ B ≤ g ∧ g < w.heap.size ∧ n ≤ cap ∧ cap ≤ maxLen ∧ (∀ j, j < n * sz → w.cell? ⟨g, j, none⟩ = xs[j]?) ∧ ∀ j, w.frozen? ⟨g, j, none⟩ = false := by
  obtain ⟨_, h⟩ := h
  rcases h with ⟨_, h0⟩ | ⟨g, cap, cur, rfl, hg, hh, h1, h2, h3, h4⟩
  · omega
  · refine ⟨g, cap, rfl, hg, (Array.getElem?_eq_some_iff.1 hh).1, h1, h2, fun j hj => ?_, fun j => ?_⟩
    · rw [← h4, List.getElem?_take, if_pos hj]; simp [World.cell?, hh]
    · simp [World.frozen?, hh]
theorem set_pair : ∀ (ps : PL) (m : Nat) (val : Int), m < ps.length → (pairCells ps).set (m * 2 + 1) (.int .i64 val) = pairCells (ps.take m ++ (keyAt ps m, val) :: ps.drop (m + 1))
  | [], m, _, h => by simp at h
  | p :: t, 0, val, _ => by simp [pairCells, keyAt]
  | p :: t, m + 1, val, h => by
    have ih := set_pair t m val (by simpa using h)
    rw [show (m + 1) * 2 + 1 = m * 2 + 1 + 1 + 1 by omega, key_cons]
    simp only [pairCells, List.set_cons_succ, List.take_succ_cons, List.drop_succ_cons, List.cons_append]
    rw [ih]
theorem grown_of_below {w w1 : World} {x : Option Nat} (h : Below w.heap.size w w1) : w.grownBy w1 x := by
  obtain ⟨h1, h2, h3, h4, h5⟩ := h
  exact ⟨h1, h2, h3, h4, fun k hk _ => h5 k hk⟩
theorem grown_setCell {w : World} {g j : Nat} {u : Value} : w.grownBy (w.setCell ⟨g, j, none⟩ u) (some g) := by
  refine ⟨rfl, rfl, rfl, by simp, fun k hk hne => ?_⟩
  have : g ≠ k := fun e => hne (by rw [e])
  simp [World.setCell, Array.getElem?_modify, this]
theorem clone_own (bp : Option Addr) (gp op cp : Nat) (ps : PL) (w : World) (h : PairsAt w bp gp op ps) (hnil : NilOk bp ps.length cp) (hbig : ps.length * 16 ≤ 140737488355328) :
    Calls Try.prog 56 #[.slice bp ps.length cp] w fun e w' => ∃ v, e = .returned v ∧ w'.ownsRow w.heap.size 46 2 v ps.length (pairCells ps) ∧ Below w.heap.size w w' := by
  have hlen := h.len
  have qn : ∀ (w : World) (a : Option Addr) (n c n' c' : Nat), (binOp .eql 40 (.slice a n c) (.slice none n' c')).run Try.prog w = .ok (.bool a.isNone) w := fun w a n c n' c' => Lib.run_eql_slice_nil w _ _ a n c n' c' prs_underM
  cases bp with
  | none =>
    obtain ⟨h0, rfl⟩ := hnil rfl
    clear hnil h
    obtain rfl : ps = [] := List.length_eq_zero_iff.1 h0
    clear hlen h0 hbig
    show Calls Try.prog 56 #[.slice none 0 0] w _
    go_enter Try.func56, Try.ntmps56
    go_wp2_with fail
    go_ret
    exact ⟨_, rfl, World.ownsRow_nil _ _ _ _, Below.refl _ _⟩
  | some ad =>
    obtain ⟨i0, hi0, hz0, hz1, hz2⟩ := info_parts pr_infoM
    have HA : Hid _ := h
    clear hnil h
    have ho : (w.alloc (.cells #[] 46)).ownsRow w.heap.size 46 2 (.slice (some ⟨w.heap.size, 0, none⟩) 0 0) 0 [] := ⟨rfl, Or.inr ⟨w.heap.size, 0, #[], rfl, Nat.le_refl _, heap_alloc_at _ _ _ rfl, Nat.le_refl _, by unfold maxLen; omega, rfl, rfl⟩⟩
    have HO : Hid (World.ownsRow _ _ _ _ _ _ _) := ho
    have hnews : ∀ a, some ad = some a → ∀ j u, (pairCells ps)[j]? = some u → (w.alloc (.cells #[] 46)).cell? (a.add j) = some u := pairs_newsM (HA.out.below (below_allocM _ _))
    have HW : Hid _ := hnews
    clear ho hnews
    go_enter Try.func56, Try.ntmps56
    go_wp2_with (first | (at_builtin; (refine wpList_append_allM (by rfl) _ _ _ (by rfl) w.heap.size 46 i0 _ 2 16 prs_underM hi0 hz0 hz1 hz2 rfl (by omega) _ 0 [] (by rfl) HO.out (some ad) ps.length cp (pairCells ps) (by rfl) (fun h => by cases h) (pairCells_length _) HW.out (pairCells_oneM _) (by omega) (by omega) (by simp) ?_); intro v' w1 hown1 hgrow hnl))
    go_ret
    refine ⟨_, rfl, ?_, Below.grown (below_allocM _ _) hgrow (by simp) (by intro k hk; simp [Value.ownBlock] at hk; omega)⟩
    rw [Nat.zero_add, List.nil_append] at hown1
    exact hown1
end Go.Proofs.Ytljidfaeljpnpaa

namespace Go.Proofs.Ytljidfaeljpnpaa

open Go.RowKit

set_option maxRecDepth 100000 in
set_option maxHeartbeats 1000000 in
theorem chg2 {w : World} {B : Nat} {v : Value} {ps : PL} (key val hi : Int) (h : w.ownsRow B 46 2 v ps.length (pairCells ps)) (hs : Srt ps) (hby : (ps.length + 1) * 16 ≤ 140737488355328) (hB : B ≤ w.heap.size) :
    Calls Try.prog 67 #[v, .agg #[.int .i64 2, .int .i64 key, .int .i64 val, .int .i64 hi]] w (InsP w B v (stepL ps ⟨2, key, val, hi⟩)) := by
  obtain ⟨base, cap, g, rfl, hgB, hnilb, hp⟩ := pairs_of_owns h (by unfold maxLen; omega)
  have HO : Hid (World.ownsRow _ _ _ _ _ _ _) := h
  have HP : Hid (PairsAt _ _ _ _ _) := hp
  have HU : Hid ((ps.length + 1) * 16 ≤ 140737488355328 ∧ B ≤ w.heap.size) := ⟨hby, hB⟩
  have HG : Hid _ := getK_pos key hs
  have HPUT : Hid _ := putL_pos key val hs
  have HDEL : Hid _ := delL_pos key hs
  have hhk := hasK_some key ps
  have hpl := posL_le key ps
  have PLC : Hid (∀ W, PairsAt W base g 0 ps → Calls Try.prog 78 #[.slice base ps.length cap, .int .i64 key] W fun e w' => e = .returned (.tuple #[.int .i64 (posL key ps : Nat), .bool (getK key ps).isSome]) ∧ Below W.heap.size W w') := fun W hW => place_any base g 0 cap ps key W hW hs
  clear h hs hp hby hB hnilb hgB
  cases hg : getK key ps with
  | some v =>
    rw [hg] at PLC hhk
    have hlt : posL key ps < ps.length ∧ keyAt ps (posL key ps) = key := by
      have e := HG.out
      rw [hg] at e
      split at e
      · rename_i hq; exact hq
      · cases e
    simp only [Option.isSome_some, if_true] at hhk
    have EL : Hid (stepL ps ⟨2, key, val, hi⟩ = ps.take (posL key ps) ++ (key, val) :: ps.drop (posL key ps + 1)) := by
      show stepL ps ⟨2, key, val, hi⟩ = _
      have : stepL ps ⟨2, key, val, hi⟩ = putL key val ps := by simp [stepL]
      rw [this, HPUT.out, hhk]
    clear HG hg HPUT HDEL hhk
    obtain ⟨hlt, hke⟩ := hlt
    obtain ⟨m, hm⟩ : ∃ m, m = posL key ps := ⟨_, rfl⟩
    rw [← hm] at PLC hpl EL hlt hke
    clear hm
    have m0 : (0 : Int) ≤ (m : Int) := Int.natCast_nonneg _
    have m1 : (m : Int) < (ps.length : Int) := by omega
    have HKE : Hid _ := hke
    clear hke
    obtain rfl : base = some ⟨g, 0, none⟩ := HP.out.base (by omega)
    go_enter Try.func67, Try.ntmps67
    go_wp2_with fail
    refine (PLC.out _ (HP.out.below (below_allocM _ _))).mono ?_
    rintro e w1 ⟨rfl, hb1⟩
    have HB1 : Hid (Below w.heap.size w w1) := (below_allocM _ _).trans (hb1.mono (by simp))
    have z1 : w.heap.size < w1.heap.size := by have := hb1.size; simp at this; omega
    have a0 : w1.cell? ⟨w.heap.size, 0, none⟩ = some (.int .i64 2) := (hb1.cell (p := ⟨w.heap.size, 0, none⟩) (by simp)).trans (cell_newM w _ _ 0)
    have a1 : w1.cell? ⟨w.heap.size, 1, none⟩ = some (.int .i64 key) := (hb1.cell (p := ⟨w.heap.size, 1, none⟩) (by simp)).trans (cell_newM w _ _ 1)
    have a2 : w1.cell? ⟨w.heap.size, 2, none⟩ = some (.int .i64 val) := (hb1.cell (p := ⟨w.heap.size, 2, none⟩) (by simp)).trans (cell_newM w _ _ 2)
    have a3 : w1.cell? ⟨w.heap.size, 3, none⟩ = some (.int .i64 hi) := (hb1.cell (p := ⟨w.heap.size, 3, none⟩) (by simp)).trans (cell_newM w _ _ 3)
    have O1 : Hid (World.ownsRow _ _ _ _ _ _ _) := owns_belowM HO.out HB1.out
    clear hb1
    obtain ⟨g', cap', hv', _, hgl, _, _, hcs, hfz⟩ := owns_someM O1.out (by omega)
    cases hv'
    have d1 : w1.cell? ⟨g, m * 2 + 1, none⟩ = some (.int .i64 (valAt ps m)) := by rw [hcs _ (by omega)]; exact (pairCells_get ps m hlt).2
    have f1 : w1.frozen? ⟨g, m * 2 + 1, none⟩ = false := hfz _
    have R : Hid (InsP w B (.slice (some ⟨g, 0, none⟩) ps.length cap) (stepL ps ⟨2, key, val, hi⟩) (.returned (.slice (some ⟨g, 0, none⟩) ps.length cap)) (w1.setCell ⟨g, m * 2 + 1, none⟩ (.int .i64 val))) := by
      have hl : (ps.take m ++ (key, val) :: ps.drop (m + 1)).length = ps.length := by simp; omega
      refine ⟨_, rfl, ?_, grown_trans (grown_of_below HB1.out) grown_setCell, fun k hk => Or.inl hk⟩
      rw [EL.out, hl]
      have q := owns_putM O1.out (m * 2 + 1) (.int .i64 val)
      rw [set_pair ps m val hlt, HKE.out] at q
      exact q
    clear hcs hfz
    go_wp2_with fail
    go_ret
    exact R.out
  | none =>
    rw [hg] at PLC hhk
    simp only [Option.isSome_none, Bool.false_eq_true, if_false] at hhk
    have EL : Hid (stepL ps ⟨2, key, val, hi⟩ = ps.take (posL key ps) ++ (key, val) :: ps.drop (posL key ps)) := by
      show stepL ps ⟨2, key, val, hi⟩ = _
      have : stepL ps ⟨2, key, val, hi⟩ = putL key val ps := by simp [stepL]
      rw [this, HPUT.out, hhk, Nat.add_zero]
    clear HG hg HPUT HDEL hhk
    obtain ⟨m, hm⟩ : ∃ m, m = posL key ps := ⟨_, rfl⟩
    rw [← hm] at PLC hpl EL
    clear hm
    go_enter Try.func67, Try.ntmps67
    go_wp2_with fail
    refine (PLC.out _ (HP.out.below (below_allocM _ _))).mono ?_
    rintro e w1 ⟨rfl, hb1⟩
    have HB1 : Hid (Below w.heap.size w w1) := (below_allocM _ _).trans (hb1.mono (by simp))
    have z1 : w.heap.size < w1.heap.size := by have := hb1.size; simp at this; omega
    have a0 : w1.cell? ⟨w.heap.size, 0, none⟩ = some (.int .i64 2) := (hb1.cell (p := ⟨w.heap.size, 0, none⟩) (by simp)).trans (cell_newM w _ _ 0)
    have a1 : w1.cell? ⟨w.heap.size, 1, none⟩ = some (.int .i64 key) := (hb1.cell (p := ⟨w.heap.size, 1, none⟩) (by simp)).trans (cell_newM w _ _ 1)
    have a2 : w1.cell? ⟨w.heap.size, 2, none⟩ = some (.int .i64 val) := (hb1.cell (p := ⟨w.heap.size, 2, none⟩) (by simp)).trans (cell_newM w _ _ 2)
    have a3 : w1.cell? ⟨w.heap.size, 3, none⟩ = some (.int .i64 hi) := (hb1.cell (p := ⟨w.heap.size, 3, none⟩) (by simp)).trans (cell_newM w _ _ 3)
    have O1 : Hid (World.ownsRow _ _ _ _ _ _ _) := owns_belowM HO.out HB1.out
    clear hb1
    have INS : Hid (Calls _ _ _ _ _) := insert_any m key val (owns_belowM O1.out (below_allocM w1 (.cells #[.int .i64 key, .int .i64 val] 46))) hpl (heap_alloc_at _ _ _ rfl) (fun e => by have := (owns_ltM O1.out _ e).2; omega) HU.out.1 (by simp; have := HU.out.2; omega)
    go_wp2_with fail
    refine INS.out.mono ?_
    rintro e w2 ⟨v', rfl, ho, hgr, hbk⟩
    have HR : Hid (InsP w B (.slice base ps.length cap) (ps.take m ++ (key, val) :: ps.drop m) (.returned v') w2) := ⟨v', rfl, ho, grown_trans (grown_of_below (HB1.out.alloc (by omega) _)) hgr, fun k hk => (hbk k hk).imp id (fun q => by simp at q; omega)⟩
    clear ho hgr hbk
    go_wp2_with fail
    go_ret
    rw [EL.out]
    exact HR.out

set_option maxRecDepth 100000 in
set_option maxHeartbeats 1000000 in
theorem chg3 {w : World} {B : Nat} {v : Value} {ps : PL} (key val hi : Int) (h : w.ownsRow B 46 2 v ps.length (pairCells ps)) (hs : Srt ps) (hby : (ps.length + 1) * 16 ≤ 140737488355328) (hB : B ≤ w.heap.size) :
    Calls Try.prog 67 #[v, .agg #[.int .i64 3, .int .i64 key, .int .i64 val, .int .i64 hi]] w (InsP w B v (stepL ps ⟨3, key, val, hi⟩)) := by
  obtain ⟨base, cap, g, rfl, hgB, hnilb, hp⟩ := pairs_of_owns h (by unfold maxLen; omega)
  have HO : Hid (World.ownsRow _ _ _ _ _ _ _) := h
  have HP : Hid (PairsAt _ _ _ _ _) := hp
  have HU : Hid ((ps.length + 1) * 16 ≤ 140737488355328 ∧ B ≤ w.heap.size) := ⟨hby, hB⟩
  have HG : Hid _ := getK_pos key hs
  have HPUT : Hid _ := putL_pos key val hs
  have HDEL : Hid _ := delL_pos key hs
  have hhk := hasK_some key ps
  have hpl := posL_le key ps
  have PLC : Hid (∀ W, PairsAt W base g 0 ps → Calls Try.prog 78 #[.slice base ps.length cap, .int .i64 key] W fun e w' => e = .returned (.tuple #[.int .i64 (posL key ps : Nat), .bool (getK key ps).isSome]) ∧ Below W.heap.size W w') := fun W hW => place_any base g 0 cap ps key W hW hs
  clear h hs hp hby hB hnilb hgB
  cases hg : getK key ps with
  | some v =>
    rw [hg] at PLC
    have EL : Hid (stepL ps ⟨3, key, val, hi⟩ = ps) := by show stepL ps ⟨3, key, val, hi⟩ = ps; simp [stepL, hg]
    clear HG hg HPUT HDEL hhk
    go_enter Try.func67, Try.ntmps67
    go_wp2_with fail
    refine (PLC.out _ (HP.out.below (below_allocM _ _))).mono ?_
    rintro e w1 ⟨rfl, hb1⟩
    have HB1 : Hid (Below w.heap.size w w1) := (below_allocM _ _).trans (hb1.mono (by simp))
    have z1 : w.heap.size < w1.heap.size := by have := hb1.size; simp at this; omega
    have a0 : w1.cell? ⟨w.heap.size, 0, none⟩ = some (.int .i64 3) := (hb1.cell (p := ⟨w.heap.size, 0, none⟩) (by simp)).trans (cell_newM w _ _ 0)
    have a1 : w1.cell? ⟨w.heap.size, 1, none⟩ = some (.int .i64 key) := (hb1.cell (p := ⟨w.heap.size, 1, none⟩) (by simp)).trans (cell_newM w _ _ 1)
    have a2 : w1.cell? ⟨w.heap.size, 2, none⟩ = some (.int .i64 val) := (hb1.cell (p := ⟨w.heap.size, 2, none⟩) (by simp)).trans (cell_newM w _ _ 2)
    have a3 : w1.cell? ⟨w.heap.size, 3, none⟩ = some (.int .i64 hi) := (hb1.cell (p := ⟨w.heap.size, 3, none⟩) (by simp)).trans (cell_newM w _ _ 3)
    have O1 : Hid (World.ownsRow _ _ _ _ _ _ _) := owns_belowM HO.out HB1.out
    clear hb1
    go_wp2_with fail
    go_ret
    exact ⟨_, rfl, by rw [EL.out]; exact O1.out, grown_of_below HB1.out, fun k hk => Or.inl hk⟩
  | none =>
    rw [hg] at PLC hhk
    simp only [Option.isSome_none, Bool.false_eq_true, if_false] at hhk
    have EL : Hid (stepL ps ⟨3, key, val, hi⟩ = ps.take (posL key ps) ++ (key, val) :: ps.drop (posL key ps)) := by
      show stepL ps ⟨3, key, val, hi⟩ = _
      have : stepL ps ⟨3, key, val, hi⟩ = putL key val ps := by simp [stepL, hg]
      rw [this, HPUT.out, hhk, Nat.add_zero]
    clear HG hg HPUT HDEL hhk
    obtain ⟨m, hm⟩ : ∃ m, m = posL key ps := ⟨_, rfl⟩
    rw [← hm] at PLC hpl EL
    clear hm
    go_enter Try.func67, Try.ntmps67
    go_wp2_with fail
    refine (PLC.out _ (HP.out.below (below_allocM _ _))).mono ?_
    rintro e w1 ⟨rfl, hb1⟩
    have HB1 : Hid (Below w.heap.size w w1) := (below_allocM _ _).trans (hb1.mono (by simp))
    have z1 : w.heap.size < w1.heap.size := by have := hb1.size; simp at this; omega
    have a0 : w1.cell? ⟨w.heap.size, 0, none⟩ = some (.int .i64 3) := (hb1.cell (p := ⟨w.heap.size, 0, none⟩) (by simp)).trans (cell_newM w _ _ 0)
    have a1 : w1.cell? ⟨w.heap.size, 1, none⟩ = some (.int .i64 key) := (hb1.cell (p := ⟨w.heap.size, 1, none⟩) (by simp)).trans (cell_newM w _ _ 1)
    have a2 : w1.cell? ⟨w.heap.size, 2, none⟩ = some (.int .i64 val) := (hb1.cell (p := ⟨w.heap.size, 2, none⟩) (by simp)).trans (cell_newM w _ _ 2)
    have a3 : w1.cell? ⟨w.heap.size, 3, none⟩ = some (.int .i64 hi) := (hb1.cell (p := ⟨w.heap.size, 3, none⟩) (by simp)).trans (cell_newM w _ _ 3)
    have O1 : Hid (World.ownsRow _ _ _ _ _ _ _) := owns_belowM HO.out HB1.out
    clear hb1
    have INS : Hid (Calls _ _ _ _ _) := insert_any m key val (owns_belowM O1.out (below_allocM w1 (.cells #[.int .i64 key, .int .i64 val] 46))) hpl (heap_alloc_at _ _ _ rfl) (fun e => by have := (owns_ltM O1.out _ e).2; omega) HU.out.1 (by simp; have := HU.out.2; omega)
    go_wp2_with fail
    refine INS.out.mono ?_
    rintro e w2 ⟨v', rfl, ho, hgr, hbk⟩
    have HR : Hid (InsP w B (.slice base ps.length cap) (ps.take m ++ (key, val) :: ps.drop m) (.returned v') w2) := ⟨v', rfl, ho, grown_trans (grown_of_below (HB1.out.alloc (by omega) _)) hgr, fun k hk => (hbk k hk).imp id (fun q => by simp at q; omega)⟩
    clear ho hgr hbk
    go_wp2_with fail
    go_ret
    rw [EL.out]
    exact HR.out

set_option maxRecDepth 100000 in
set_option maxHeartbeats 1000000 in
theorem chg4 {w : World} {B : Nat} {v : Value} {ps : PL} (key val hi : Int) (h : w.ownsRow B 46 2 v ps.length (pairCells ps)) (hs : Srt ps) (hby : (ps.length + 1) * 16 ≤ 140737488355328) (hB : B ≤ w.heap.size) :
    Calls Try.prog 67 #[v, .agg #[.int .i64 4, .int .i64 key, .int .i64 val, .int .i64 hi]] w (InsP w B v (stepL ps ⟨4, key, val, hi⟩)) := by
  obtain ⟨base, cap, g, rfl, hgB, hnilb, hp⟩ := pairs_of_owns h (by unfold maxLen; omega)
  have HO : Hid (World.ownsRow _ _ _ _ _ _ _) := h
  have HP : Hid (PairsAt _ _ _ _ _) := hp
  have HU : Hid ((ps.length + 1) * 16 ≤ 140737488355328 ∧ B ≤ w.heap.size) := ⟨hby, hB⟩
  have HG : Hid _ := getK_pos key hs
  have HPUT : Hid _ := putL_pos key val hs
  have HDEL : Hid _ := delL_pos key hs
  have hhk := hasK_some key ps
  have hpl := posL_le key ps
  have PLC : Hid (∀ W, PairsAt W base g 0 ps → Calls Try.prog 78 #[.slice base ps.length cap, .int .i64 key] W fun e w' => e = .returned (.tuple #[.int .i64 (posL key ps : Nat), .bool (getK key ps).isSome]) ∧ Below W.heap.size W w') := fun W hW => place_any base g 0 cap ps key W hW hs
  clear h hs hp hby hB hnilb hgB
  cases hg : getK key ps with
  | some v =>
    rw [hg] at PLC hhk
    have hlt : posL key ps < ps.length ∧ keyAt ps (posL key ps) = key := by
      have e := HG.out
      rw [hg] at e
      split at e
      · rename_i hq; exact hq
      · cases e
    simp only [Option.isSome_some, if_true] at hhk
    have EL : Hid (stepL ps ⟨4, key, val, hi⟩ = ps.take (posL key ps) ++ ps.drop (posL key ps + 1)) := by
      show stepL ps ⟨4, key, val, hi⟩ = _
      have : stepL ps ⟨4, key, val, hi⟩ = delL key ps := by simp [stepL]
      rw [this, HDEL.out, hhk]
    clear HG hg HPUT HDEL hhk
    obtain ⟨hlt, _⟩ := hlt
    obtain ⟨m, hm⟩ : ∃ m, m = posL key ps := ⟨_, rfl⟩
    rw [← hm] at PLC hpl EL hlt
    clear hm
    have m1 : (m : Int) < (ps.length : Int) := by omega
    have q13 : IntKind.i64.wrap ((m : Int) + 1) = (m : Int) + 1 := by have := HP.out.len; unfold maxLen at this; rw [IntKind.wrap_i64]; omega
    have q14 : wrap64 ((m : Int) + 1) = (m : Int) + 1 := by have := HP.out.len; unfold maxLen at this; unfold wrap64; omega
    go_enter Try.func67, Try.ntmps67
    go_wp2_with fail
    refine (PLC.out _ (HP.out.below (below_allocM _ _))).mono ?_
    rintro e w1 ⟨rfl, hb1⟩
    have HB1 : Hid (Below w.heap.size w w1) := (below_allocM _ _).trans (hb1.mono (by simp))
    have z1 : w.heap.size < w1.heap.size := by have := hb1.size; simp at this; omega
    have a0 : w1.cell? ⟨w.heap.size, 0, none⟩ = some (.int .i64 4) := (hb1.cell (p := ⟨w.heap.size, 0, none⟩) (by simp)).trans (cell_newM w _ _ 0)
    have a1 : w1.cell? ⟨w.heap.size, 1, none⟩ = some (.int .i64 key) := (hb1.cell (p := ⟨w.heap.size, 1, none⟩) (by simp)).trans (cell_newM w _ _ 1)
    have a2 : w1.cell? ⟨w.heap.size, 2, none⟩ = some (.int .i64 val) := (hb1.cell (p := ⟨w.heap.size, 2, none⟩) (by simp)).trans (cell_newM w _ _ 2)
    have a3 : w1.cell? ⟨w.heap.size, 3, none⟩ = some (.int .i64 hi) := (hb1.cell (p := ⟨w.heap.size, 3, none⟩) (by simp)).trans (cell_newM w _ _ 3)
    have O1 : Hid (World.ownsRow _ _ _ _ _ _ _) := owns_belowM HO.out HB1.out
    clear hb1
    have DEL : Hid (Calls _ _ _ _ _) := delete_any O1.out hlt
    go_wp2_with fail
    refine DEL.out.mono ?_
    rintro e w2 ⟨v', rfl, ho, hgr, hbk⟩
    have HR : Hid (InsP w B (.slice base ps.length cap) (ps.take m ++ ps.drop (m + 1)) (.returned v') w2) := ⟨v', rfl, ho, grown_trans (grown_of_below HB1.out) hgr, fun k hk => Or.inl (hbk ▸ hk)⟩
    clear ho hgr hbk
    go_wp2_with fail
    go_ret
    rw [EL.out]
    exact HR.out
  | none =>
    rw [hg] at PLC hhk
    simp only [Option.isSome_none, Bool.false_eq_true, if_false] at hhk
    have EL : Hid (stepL ps ⟨4, key, val, hi⟩ = ps) := by
      show stepL ps ⟨4, key, val, hi⟩ = ps
      have : stepL ps ⟨4, key, val, hi⟩ = delL key ps := by simp [stepL]
      rw [this, HDEL.out, hhk, Nat.add_zero, List.take_append_drop]
    clear HG hg HPUT HDEL hhk
    go_enter Try.func67, Try.ntmps67
    go_wp2_with fail
    refine (PLC.out _ (HP.out.below (below_allocM _ _))).mono ?_
    rintro e w1 ⟨rfl, hb1⟩
    have HB1 : Hid (Below w.heap.size w w1) := (below_allocM _ _).trans (hb1.mono (by simp))
    have z1 : w.heap.size < w1.heap.size := by have := hb1.size; simp at this; omega
    have a0 : w1.cell? ⟨w.heap.size, 0, none⟩ = some (.int .i64 4) := (hb1.cell (p := ⟨w.heap.size, 0, none⟩) (by simp)).trans (cell_newM w _ _ 0)
    have a1 : w1.cell? ⟨w.heap.size, 1, none⟩ = some (.int .i64 key) := (hb1.cell (p := ⟨w.heap.size, 1, none⟩) (by simp)).trans (cell_newM w _ _ 1)
    have a2 : w1.cell? ⟨w.heap.size, 2, none⟩ = some (.int .i64 val) := (hb1.cell (p := ⟨w.heap.size, 2, none⟩) (by simp)).trans (cell_newM w _ _ 2)
    have a3 : w1.cell? ⟨w.heap.size, 3, none⟩ = some (.int .i64 hi) := (hb1.cell (p := ⟨w.heap.size, 3, none⟩) (by simp)).trans (cell_newM w _ _ 3)
    have O1 : Hid (World.ownsRow _ _ _ _ _ _ _) := owns_belowM HO.out HB1.out
    clear hb1
    go_wp2_with fail
    go_ret
    exact ⟨_, rfl, by rw [EL.out]; exact O1.out, grown_of_below HB1.out, fun k hk => Or.inl hk⟩

set_option maxRecDepth 100000 in
set_option maxHeartbeats 1000000 in
theorem chgO {w : World} {B : Nat} {v : Value} {ps : PL} (kind key val hi : Int) (h : w.ownsRow B 46 2 v ps.length (pairCells ps)) (hs : Srt ps) (hby : (ps.length + 1) * 16 ≤ 140737488355328) (hB : B ≤ w.heap.size) (hk : ¬ (2 ≤ kind ∧ kind ≤ 4)) :
    Calls Try.prog 67 #[v, .agg #[.int .i64 kind, .int .i64 key, .int .i64 val, .int .i64 hi]] w (InsP w B v (stepL ps ⟨kind, key, val, hi⟩)) := by
  obtain ⟨base, cap, g, rfl, hgB, hnilb, hp⟩ := pairs_of_owns h (by unfold maxLen; omega)
  have HO : Hid (World.ownsRow _ _ _ _ _ _ _) := h
  have HP : Hid (PairsAt _ _ _ _ _) := hp
  have HU : Hid ((ps.length + 1) * 16 ≤ 140737488355328 ∧ B ≤ w.heap.size) := ⟨hby, hB⟩
  have HG : Hid _ := getK_pos key hs
  have HPUT : Hid _ := putL_pos key val hs
  have HDEL : Hid _ := delL_pos key hs
  have hhk := hasK_some key ps
  have hpl := posL_le key ps
  have PLC : Hid (∀ W, PairsAt W base g 0 ps → Calls Try.prog 78 #[.slice base ps.length cap, .int .i64 key] W fun e w' => e = .returned (.tuple #[.int .i64 (posL key ps : Nat), .bool (getK key ps).isSome]) ∧ Below W.heap.size W w') := fun W hW => place_any base g 0 cap ps key W hW hs
  clear h hs hp hby hB hnilb hgB
  have EL : Hid (stepL ps ⟨kind, key, val, hi⟩ = ps) := stepL_same hk
  have k2 : (kind == 2) = false := by simp; omega
  have k3 : (kind == 3) = false := by simp; omega
  have k4 : (kind == 4) = false := by simp; omega
  obtain ⟨q, hq⟩ : ∃ q, q = (getK key ps).isSome := ⟨_, rfl⟩
  rw [← hq] at PLC
  clear HG hq HPUT HDEL hhk hk
  go_enter Try.func67, Try.ntmps67
  go_wp2_with fail
  refine (PLC.out _ (HP.out.below (below_allocM _ _))).mono ?_
  rintro e w1 ⟨rfl, hb1⟩
  have HB1 : Hid (Below w.heap.size w w1) := (below_allocM _ _).trans (hb1.mono (by simp))
  have z1 : w.heap.size < w1.heap.size := by have := hb1.size; simp at this; omega
  have a0 : w1.cell? ⟨w.heap.size, 0, none⟩ = some (.int .i64 kind) := (hb1.cell (p := ⟨w.heap.size, 0, none⟩) (by simp)).trans (cell_newM w _ _ 0)
  have a1 : w1.cell? ⟨w.heap.size, 1, none⟩ = some (.int .i64 key) := (hb1.cell (p := ⟨w.heap.size, 1, none⟩) (by simp)).trans (cell_newM w _ _ 1)
  have a2 : w1.cell? ⟨w.heap.size, 2, none⟩ = some (.int .i64 val) := (hb1.cell (p := ⟨w.heap.size, 2, none⟩) (by simp)).trans (cell_newM w _ _ 2)
  have a3 : w1.cell? ⟨w.heap.size, 3, none⟩ = some (.int .i64 hi) := (hb1.cell (p := ⟨w.heap.size, 3, none⟩) (by simp)).trans (cell_newM w _ _ 3)
  have O1 : Hid (World.ownsRow _ _ _ _ _ _ _) := owns_belowM HO.out HB1.out
  clear hb1
  go_wp2_with fail
  go_ret
  exact ⟨_, rfl, by rw [EL.out]; exact O1.out, grown_of_below HB1.out, fun k hk => Or.inl hk⟩

theorem chg_any {w : World} {B : Nat} {v : Value} {ps : PL} (op : OpD) (h : w.ownsRow B 46 2 v ps.length (pairCells ps)) (hs : Srt ps) (hby : (ps.length + 1) * 16 ≤ 140737488355328) (hB : B ≤ w.heap.size) :
    Calls Try.prog 67 #[v, .agg #[.int .i64 op.kind, .int .i64 op.key, .int .i64 op.val, .int .i64 op.hi]] w (InsP w B v (stepL ps op)) := by
  obtain ⟨kind, key, val, hi⟩ := op
  by_cases hk : 2 ≤ kind ∧ kind ≤ 4
  · have hc : kind = 2 ∨ kind = 3 ∨ kind = 4 := by omega
    rcases hc with rfl | rfl | rfl
    · exact chg2 key val hi h hs hby hB
    · exact chg3 key val hi h hs hby hB
    · exact chg4 key val hi h hs hby hB
  · exact chgO kind key val hi h hs hby hB hk
end Go.Proofs.Ytljidfaeljpnpaa

namespace Go.Proofs.Ytljidfaeljpnpaa

open Go.RowKit
theorem plEq_comm (a b : PL) : plEqM a b = plEqM b a := by unfold plEqM; exact decide_eq_decide.2 ⟨Eq.symm, Eq.symm⟩
theorem retEq_comm (a b : RetD) : retEqM a b = retEqM b a := by
  unfold retEqM
  rw [plEq_comm, show decide (a.key = b.key) = decide (b.key = a.key) from decide_eq_decide.2 ⟨Eq.symm, Eq.symm⟩, show decide (a.val = b.val) = decide (b.val = a.val) from decide_eq_decide.2 ⟨Eq.symm, Eq.symm⟩]
  cases a.ok <;> cases b.ok <;> rfl
theorem runErr_one (ps : PL) (o : OpD) : runErr ps [o] = doErr ps o := by
  unfold runErr doErr kErr
  have : kN [o] [o].length = decide (kdErr o.kind = 0) := by simp [kN, opAt]
  rw [this]
  split
  · unfold kdErr; split <;> simp_all
  · rfl

set_option maxRecDepth 100000 in
set_option maxHeartbeats 1000000 in
theorem refusal_any (base : Option Addr) (b o c : Nat) (ps : PL) (ob : Option Addr) (bo oo co : Nat) (ops : List OpD) (w : World) (h : PairsAt w base b o ps) (hop : OpsAt w ob bo oo ops) :
    Calls Try.prog 65 #[.slice base ps.length c, .slice ob ops.length co] w fun e w' => e = .returned (.int .i64 (runErr ps ops)) ∧ Below w.heap.size w w' := by
  have hlo := hop.len
  unfold maxLen at hlo
  have HA : Hid _ := h
  have HOP : Hid _ := hop
  clear h hop
  by_cases hc : ckErr ps = 0
  · have q1 : (ckErr ps != 0) = false := by simp [hc]
    have ER : Hid (runErr ps ops = kErr ops) := by show runErr ps ops = _; unfold runErr; rw [if_pos hc]
    clear hc
    go_enter Try.func65, Try.ntmps65
    go_wp2_with fail
    refine (pcheck_any base b o c ps _ HA.out).mono ?_
    rintro e w1 ⟨rfl, hb1⟩
    have HB1 : Hid _ := hb1
    clear hb1
    go_wp2_with fail
    go_loopw [16] (fun i wr => ∃ j : Nat, j ≤ ops.length ∧ i = .int .i64 j ∧ kN ops j = true ∧ Below w.heap.size w wr) (fun i _ => ops.length - (intOf i).toNat)
    case atStart => exact ⟨0, Nat.zero_le _, rfl, rfl, HB1.out⟩
    case round =>
      obtain ⟨j, hj, rfl, hkj, hbw⟩ := hrel
      have HKJ : Hid _ := hkj
      have HB : Hid _ := hbw
      have s2 := hbw.size
      clear hkj hbw
      by_cases hlt : j < ops.length
      · obtain rfl : ob = some ⟨bo, oo, none⟩ := HOP.out.base (by omega)
        obtain ⟨c0, c1, c2, c3⟩ := (HOP.out.below HB.out).cells j hlt
        have j0 : (0 : Int) ≤ (j : Int) := Int.natCast_nonneg _
        have j1 : (j : Int) < (ops.length : Int) := by omega
        by_cases hb : kdErr (opAt ops j).kind = 0
        · have q2 : (kdErr (opAt ops j).kind != 0) = false := by simp [hb]
          have N : Hid (kN ops (j + 1) = true) := by show (kN ops j && decide (kdErr (opAt ops j).kind = 0)) = true; rw [HKJ.out, decide_eq_true hb]; rfl
          clear hb
          go_wp2_with fail
          refine (pkind_any _ _).mono ?_
          rintro e w2 ⟨rfl, rfl⟩
          go_wp2_with fail
          exact ⟨⟨j + 1, by omega, by go_num, N.out, HB.out.alloc s2 _⟩, by simp [intOf]; omega⟩
        · have q2 : (kdErr (opAt ops j).kind != 0) = true := by simp [hb]
          have E5 : Hid (kdErr (opAt ops j).kind = kErr ops) := by
            show kdErr (opAt ops j).kind = kErr ops
            unfold kErr
            rw [kN_not hlt hb]
            unfold kdErr at hb ⊢
            split at hb
            · rw [if_pos (by assumption)]; rfl
            · exact absurd rfl hb
          clear hb
          go_wp2_with fail
          refine (pkind_any _ _).mono ?_
          rintro e w2 ⟨rfl, rfl⟩
          go_wp2_with fail
          go_ret
          exact ⟨by rw [ER.out, ← E5.out]; rfl, HB.out.alloc s2 _⟩
      · have E0 : Hid (kErr ops = 0) := by
          show kErr ops = 0
          unfold kErr
          rw [show ops.length = j by omega, HKJ.out]; rfl
        go_wp2_with fail
        go_ret
        exact ⟨by rw [ER.out, E0.out]; rfl, HB.out⟩
  · have hc2 : ckErr ps = 11 := (ckErr_cases ps).resolve_left hc
    have q1 : (ckErr ps != 0) = true := by simp [hc]
    have ER : Hid (ckErr ps = runErr ps ops) := by show ckErr ps = _; unfold runErr; rw [if_neg hc]; exact hc2
    clear hc hc2
    go_enter Try.func65, Try.ntmps65
    go_wp2_with fail
    refine (pcheck_any base b o c ps _ HA.out).mono ?_
    rintro e w1 ⟨rfl, hb1⟩
    go_wp2_with fail
    go_ret
    exact ⟨by rw [← ER.out]; rfl, hb1⟩
theorem own_of_row {w : World} {B : Nat} {v : Value} {ps : PL} (h : w.ownsRow B 46 2 v ps.length (pairCells ps)) (hl : ps.length ≤ maxLen) : OwnPM w B ps v := by
  obtain ⟨base, cap, g, e, h1, h2, hp⟩ := pairs_of_owns h hl
  exact ⟨base, g, cap, e, h1, hp, fun q => (h2 q).2⟩
theorem ops_one {w : World} {N : Nat} {o : OpD} (hN : N < w.heap.size) (h : w.cell? ⟨N, 0, none⟩ = some (.int .i64 o.kind) ∧ w.cell? ⟨N, 1, none⟩ = some (.int .i64 o.key) ∧ w.cell? ⟨N, 2, none⟩ = some (.int .i64 o.val) ∧ w.cell? ⟨N, 3, none⟩ = some (.int .i64 o.hi)) : OpsAt w (some ⟨N, 0, none⟩) N 0 [o] := by
  refine ⟨fun _ => rfl, fun _ => hN, fun i hi => ?_, by unfold maxLen; simp⟩
  obtain rfl : i = 0 := by simpa using hi
  simpa [opAt] using h
end Go.Proofs.Ytljidfaeljpnpaa

namespace Go.Proofs.Ytljidfaeljpnpaa

open Go.RowKit

/-- Is that answer right? -/
def fitB (ps : PL) (o : OpD) (r : RetD) : Bool := if doErr ps o = 0 then retEqM r (doR ps o) else false
theorem OwnPM.pairs {w : World} {B : Nat} {ps : PL} {a : Option Addr} {n c : Nat} (h : OwnPM w B ps (.slice a n c)) : n = ps.length ∧ ∃ g, PairsAt w a g 0 ps := by
  obtain ⟨a', g, cap, e, _, hp, _⟩ := h
  simp only [Value.slice.injEq] at e
  obtain ⟨rfl, rfl, rfl⟩ := e
  exact ⟨rfl, g, hp⟩

end Go.Proofs.Ytljidfaeljpnpaa



namespace Go.Proofs.Ytljidfaeljpnpaa

open Go.RowKit
end Go.Proofs.Ytljidfaeljpnpaa

namespace Go.Proofs.Ytljidfaeljpnpaa

open Go.RowKit
end Go.Proofs.Ytljidfaeljpnpaa

namespace Go.Proofs.Ytljidfaeljpnpaa

open Go.RowKit

/-- A 'make' of n elements whose zero is known by the program's table. -/
theorem run_make_knownM {P : Program} (t e : TypeId) (z : Value) (sz bytes : Nat) (ht : P.underlying t = some (.slice e)) (hinfo : (P.info? e).map (fun i => (i.zero, i.size, i.bytes)) = some (some z, sz, bytes)) (n : Nat) (hn : bytes * n ≤ 281474976710656) (h63 : n ≤ 9223372036854775807) (w : World) :
    (Instr.makeSlice t (.int .i64 (n : Int)) (.int .i64 (n : Int))).run P w = .ok (.slice (some ⟨w.heap.size, 0, none⟩) n n) (w.alloc (.cells (madeCells z.cells (n * sz)) e)) := by
  obtain ⟨i, hi, he⟩ := Option.map_eq_some_iff.1 hinfo
  simp only [Prod.mk.injEq] at he
  obtain ⟨h1, h2, h3⟩ := he
  subst h2 h3
  have hb : (i.bytes : Int) * (n : Int) ≤ 281474976710656 := by
    have h : ((i.bytes * n : Nat) : Int) ≤ 281474976710656 := by omega
    rwa [Int.natCast_mul] at h
  have h := run_make (P := P) w t e i z ht hi h1 .i64 .i64 (n : Int) (n : Int) (by omega) (Int.le_refl _) hb (by omega)
  simpa using h
theorem row_parts {w : World} {B : Nat} {v : Value} {ps : PL} (h : w.ownsRow B 46 2 v ps.length (pairCells ps)) (hl : ps.length ≤ maxLen) : ∃ base cap g, v = .slice base ps.length cap ∧ PairsAt w base g 0 ps ∧ NilOk base ps.length cap ∧ ps.length ≤ cap ∧ cap ≤ maxLen := by
  obtain ⟨base, cap, g, e, _, h2, hp⟩ := pairs_of_owns h hl
  refine ⟨base, cap, g, e, hp, h2, ?_⟩
  obtain ⟨_, h⟩ := h
  rcases h with ⟨rfl, h0⟩ | ⟨g', cap', cur, rfl, _, _, h3, h4, _⟩
  · simp only [Value.slice.injEq] at e; obtain ⟨_, _, rfl⟩ := e; exact ⟨by omega, Nat.zero_le _⟩
  · cases e; exact ⟨h3, h4⟩
theorem owns_else {w : World} {B sz : Nat} {e : TypeId} {v : Value} {n : Nat} {xs : List Value} (h : w.ownsRow B e sz v n xs) (b j : Nat) (u : Value) (hb : v.ownBlock ≠ some b) : (w.setCell ⟨b, j, none⟩ u).ownsRow B e sz v n xs := by
  obtain ⟨h0, h⟩ := h
  rcases h with h | ⟨g, cap, cur, rfl, hg, hh, h1, h2, h3, h4⟩
  · exact ⟨h0, Or.inl h⟩
  · have hne : b ≠ g := fun e => hb (by rw [e]; rfl)
    exact ⟨h0, Or.inr ⟨g, cap, cur, rfl, hg, by simp [World.setCell, Array.getElem?_modify, hne, hh], h1, h2, h3, h4⟩⟩
theorem owns_grown {w w' : World} {B sz : Nat} {e : TypeId} {v : Value} {n : Nat} {xs : List Value} {x : Option Nat} (h : w.ownsRow B e sz v n xs) (hg : w.grownBy w' x) (hx : ∀ k, v.ownBlock = some k → x ≠ some k) : w'.ownsRow B e sz v n xs := by
  obtain ⟨h0, h⟩ := h
  rcases h with h | ⟨g, cap, cur, rfl, hgB, hh, h1, h2, h3, h4⟩
  · exact ⟨h0, Or.inl h⟩
  · have hl : g < w.heap.size := (Array.getElem?_eq_some_iff.1 hh).1
    exact ⟨h0, Or.inr ⟨g, cap, cur, rfl, hgB, by rw [hg.block g hl (fun e => hx g rfl e.symm)]; exact hh, h1, h2, h3, h4⟩⟩
theorem owns_downM {w : World} {B B' sz : Nat} {e : TypeId} {v : Value} {n : Nat} {xs : List Value} (h : w.ownsRow B e sz v n xs) (hB : B' ≤ B) : w.ownsRow B' e sz v n xs := by
  obtain ⟨h0, h⟩ := h
  rcases h with h | ⟨g, cap, cur, hv, hg, r⟩
  · exact ⟨h0, Or.inl h⟩
  · exact ⟨h0, Or.inr ⟨g, cap, cur, hv, by omega, r⟩⟩
theorem RetsM.set {w : World} {B : Nat} {x : Option Nat} {rs : List RetD} {us : List Value} (h : RetsM w B x rs us) {g j : Nat} {u : Value} (hg : g < B) : RetsM (w.setCell ⟨g, j, none⟩ u) B x rs us := by
  refine ⟨h.len, fun i hi => ?_⟩
  obtain ⟨a, g', c, e, hp, hq⟩ := h.pairs i hi
  refine ⟨a, g', c, e, ?_, hq⟩
  by_cases hn : (retAt rs i).pairs.length = 0
  · exact ⟨fun q => absurd hn q, fun q => absurd hn q, fun i hi => by omega, hp.len⟩
  · exact hp.apartM' (by have := (hq hn).1; omega)
theorem set4_take (l : List Value) (k : Nat) (a b c d : Value) (h : k + 4 ≤ l.length) : ((((l.set k a).set (k + 1) b).set (k + 2) c).set (k + 3) d).take (k + 4) = l.take k ++ [a, b, c, d] := by
  apply List.ext_getElem?
  intro i
  by_cases hi : i < k
  · rw [List.getElem?_take, if_pos (by omega), List.getElem?_append_left (by simp; omega), List.getElem?_take, if_pos hi, List.getElem?_set_ne (by omega), List.getElem?_set_ne (by omega), List.getElem?_set_ne (by omega), List.getElem?_set_ne (by omega)]
  · by_cases h4 : i < k + 4
    · rw [List.getElem?_take, if_pos h4, List.getElem?_append_right (by simp; omega), List.length_take, Nat.min_eq_left (by omega)]
      have hc : i = k ∨ i = k + 1 ∨ i = k + 2 ∨ i = k + 3 := by omega
      rcases hc with rfl | rfl | rfl | rfl
      · rw [List.getElem?_set_ne (by omega), List.getElem?_set_ne (by omega), List.getElem?_set_ne (by omega), List.getElem?_set_self (by omega)]; simp
      · rw [List.getElem?_set_ne (by omega), List.getElem?_set_ne (by omega), List.getElem?_set_self (by simp; omega)]; simp
      · rw [List.getElem?_set_ne (by omega), List.getElem?_set_self (by simp; omega)]; simp
      · rw [List.getElem?_set_self (by simp; omega)]; simp
    · rw [List.getElem?_take, if_neg h4, List.getElem?_eq_none (by simp; omega)]
theorem run_bytes1 (ps : PL) (ops : List OpD) (j : Nat) (hby : (ps.length + ops.length + 2) * 48 ≤ 140737488355328) : (runL ps (ops.take j)).length * 16 ≤ 140737488355328 ∧ ((runL ps (ops.take j)).length + 1) * 16 ≤ 140737488355328 ∧ (runL ps (ops.take j)).length ≤ maxLen := by
  have h1 := runL_length (ops.take j) ps
  have h2 : (ops.take j).length ≤ ops.length := List.length_take_le' _ _
  have h3 : (runL ps (ops.take j)).length + 2 ≤ ps.length + ops.length + 2 := Nat.add_le_add_right (Nat.le_trans h1 (Nat.add_le_add_left h2 _)) 2
  have h4 : ((runL ps (ops.take j)).length + 2) * 48 ≤ 140737488355328 := Nat.le_trans (Nat.mul_le_mul_right 48 h3) hby
  clear h1 h2 h3 hby
  revert h4
  generalize (runL ps (ops.take j)).length = a
  intro h4
  unfold maxLen
  exact ⟨by omega, by omega, by omega⟩

theorem below4' {w wr : World} {B N : Nat} (h : Below B w wr) (hN : B ≤ N) (k : Nat) (v0 v1 v2 v3 : Value) : Below B w ((((wr.setCell ⟨N, k, none⟩ v0).setCell ⟨N, k + 1, none⟩ v1).setCell ⟨N, k + 2, none⟩ v2).setCell ⟨N, k + 3, none⟩ v3) :=
  (((h.setCell hN _).setCell hN _).setCell hN _).setCell hN _

/-- A nil slice among these has no room; so has one in a row of answers. -/
def NilU (us : List Value) : Prop := ∀ u ∈ us, ∀ a m c, u = .slice a m c → a = none → c = 0
theorem NilU.snoc {us : List Value} {a : Option Addr} {n c : Nat} (h : NilU us) (hz : a = none → c = 0) : NilU (us ++ [.slice a n c]) := by
  intro u hu a' m c' e hn
  rcases List.mem_append.1 hu with q | q
  · exact h u q a' m c' e hn
  · rw [List.mem_singleton.1 q] at e
    cases e
    exact hz hn
def NilZ (w : World) (g n : Nat) : Prop := ∀ i, i < n → ∀ a m c, w.cell? ⟨g, i * 4 + 3, none⟩ = some (.slice a m c) → a = none → c = 0
set_option maxRecDepth 100000 in
set_option maxHeartbeats 2000000 in
theorem pRunZ_any (base : Option Addr) (b o c : Nat) (ps : PL) (ob : Option Addr) (bo oo co : Nat) (ops : List OpD) (w : World) (h : PairsAt w base b o ps) (hnil : NilOk base ps.length c) (hop : OpsAt w ob bo oo ops) (hby : (ps.length + ops.length + 2) * 48 ≤ 140737488355328) :
    Calls Try.prog 42 #[.slice base ps.length c, .slice ob ops.length co] w fun e w' => ∃ v1 a2 c2 g2, e = .returned (.tuple #[v1, .slice a2 (runRd ps ops).length c2, .int .i64 (runErr ps ops)]) ∧ Below w.heap.size w w' ∧ OwnPM w' w.heap.size (runLd ps ops) v1 ∧ RetsAtM w' a2 g2 0 (runRd ps ops) ∧ NilZ w' g2 (runRd ps ops).length := by
  have HOP : Hid _ := hop
  have HA : Hid _ := h
  have HBY : Hid ((ps.length + ops.length + 2) * 48 ≤ 140737488355328) := hby
  have REF : Hid (Calls _ _ _ _ _) := refusal_any base b o c ps ob bo oo co ops w h hop
  have hlen : ops.length ≤ 9223372036854775807 := by have := hop.len; unfold maxLen at this; omega
  have CLO : Hid (∀ W, PairsAt W base b o ps → Calls Try.prog 56 #[.slice base ps.length c] W fun e w' => ∃ v, e = .returned v ∧ w'.ownsRow W.heap.size 46 2 v ps.length (pairCells ps) ∧ Below W.heap.size W w') := fun W hW => clone_own base b o c ps W hW hnil (by omega)
  have MK : ∀ w : World, (Instr.makeSlice 53 (.int .i64 ops.length) (.int .i64 ops.length)).run Try.prog w = .ok (.slice (some ⟨w.heap.size, 0, none⟩) ops.length ops.length) (w.alloc (.cells (madeCells #[.bool false, .int .i64 0, .int .i64 0, .slice none 0 0] (ops.length * 4)) 42)) := fun w => run_make_knownM (P := Try.prog) 53 42 (.agg #[.bool false, .int .i64 0, .int .i64 0, .slice none 0 0]) 4 48 rts_under rt_info ops.length (by omega) hlen w
  clear h hnil hop hby
  by_cases he : runErr ps ops = 0
  · have hck : ckErr ps = 0 := by
      rcases ckErr_cases ps with q | q
      · exact q
      · unfold runErr at he; rw [if_neg (by rw [q]; omega)] at he; cases he
    have hkn : kN ops ops.length = true := by
      unfold runErr at he; rw [if_pos hck] at he; unfold kErr at he
      by_cases q : kN ops ops.length = true
      · exact q
      · rw [if_neg q] at he; cases he
    have HSR : Hid (∀ j, Srt (runL ps (ops.take j))) := fun j => runL_srt (ops.take j) (ckErr_zero.1 hck)
    have HK : Hid _ := hkn
    have EL : runLd ps ops = runL ps ops := by unfold runLd; rw [if_pos he]
    have ER : runRd ps ops = runR ps ops := by unfold runRd; rw [if_pos he]
    rw [he] at REF
    rw [he, EL, ER]
    clear he EL ER hck hkn
    go_enter Try.func42, Try.ntmps42
    go_wp2_with fail
    refine REF.out.mono ?_
    rintro e w1 ⟨rfl, hb1⟩
    have HB1 : Hid _ := hb1
    clear hb1
    go_wp2_with fail
    refine (CLO.out _ (HA.out.below HB1.out)).mono ?_
    rintro e w2 ⟨v2, rfl, ho2, hb2⟩
    have zz1 := HB1.out.size
    have zz2 := hb2.size
    have HB2 : Hid (Below w.heap.size w w2) := HB1.out.trans (hb2.mono zz1)
    have HO2 : Hid (World.ownsRow _ _ _ _ _ _ _) := ho2
    have hbk2 : ∀ k, v2.ownBlock = some k → k < w2.heap.size := fun k hk => (owns_ltM ho2 k hk).2
    have HBK2 : Hid _ := hbk2
    clear ho2 hb2 hbk2
    obtain ⟨W3, hW3⟩ : ∃ W3, W3 = w2.alloc (.cells (madeCells #[.bool false, .int .i64 0, .int .i64 0, .slice none 0 0] (ops.length * 4)) 42) := ⟨_, rfl⟩
    have B3 : Hid (Below w.heap.size w W3) := by show Below w.heap.size w W3; rw [hW3]; exact HB2.out.alloc (by omega) _
    have O3 : Hid (W3.ownsRow w.heap.size 46 2 v2 ps.length (pairCells ps)) := owns_downM (owns_belowM HO2.out (by rw [hW3]; exact below_allocM _ _)) zz1
    obtain ⟨gr, hgr⟩ : ∃ gr, gr = w2.heap.size := ⟨_, rfl⟩
    have zgr : gr < W3.heap.size := by rw [hW3, hgr]; simp
    have zgw : w.heap.size ≤ gr := by omega
    have R3 : Hid (W3.ownsRow w.heap.size 42 4 (.slice (some ⟨gr, 0, none⟩) ops.length ops.length) ops.length (madeCells #[.bool false, .int .i64 0, .int .i64 0, .slice none 0 0] (ops.length * 4)).toList) := by
      refine ⟨by simp [size_madeCells], Or.inr ⟨gr, ops.length, madeCells #[.bool false, .int .i64 0, .int .i64 0, .slice none 0 0] (ops.length * 4), rfl, zgw, by rw [hW3, hgr]; exact heap_alloc_at _ _ _ rfl, Nat.le_refl _, by unfold maxLen; omega, size_madeCells _ _, List.take_of_length_le (by simp [size_madeCells])⟩⟩
    have N3 : Hid (v2.ownBlock ≠ some gr) := fun e => by have := HBK2.out gr e; omega
    clear HO2 HB2 HBK2
    go_wp2_with fail
    rw [← hW3, ← hgr]
    clear hW3 hgr
    go_loopw [8, 25] (fun v i wr => ∃ (j : Nat) (us xs : List Value), j ≤ ops.length ∧ i = .int .i64 j ∧ Below w.heap.size w wr ∧ gr < wr.heap.size ∧ wr.ownsRow w.heap.size 46 2 v (runL ps (ops.take j)).length (pairCells (runL ps (ops.take j))) ∧ v.ownBlock ≠ some gr ∧ RetsM wr (gr + 1) v.ownBlock (runR ps (ops.take j)) us ∧ wr.ownsRow w.heap.size 42 4 (.slice (some ⟨gr, 0, none⟩) ops.length ops.length) ops.length xs ∧ xs.take (j * 4) = retsC (runR ps (ops.take j)) us ∧ NilU us) (fun _ i _ => ops.length - (intOf i).toNat)
    case atStart => exact ⟨0, [], _, Nat.zero_le _, rfl, B3.out, zgr, O3.out, N3.out, ⟨rfl, fun i hi => by simp [runR] at hi⟩, R3.out, by simp [runR, retsC], fun u hu => by cases hu⟩
    case round =>
      obtain ⟨j, us, xs, hj, rfl, hbw, hgw, hov, hne, hrm, hor, hxs, hnu⟩ := hrel
      have HNU : Hid (NilU us) := hnu
      obtain ⟨y1, y2, y3⟩ := run_bytes1 ps ops j HBY.out
      obtain ⟨bn, cn, gn, rfl, hpn, hnn, hcn, hcm⟩ := row_parts hov y3
      have HB : Hid (Below _ _ _) := hbw
      have HO : Hid (World.ownsRow _ _ _ _ _ _ _) := hov
      have HNE : Hid _ := hne
      have HRM : Hid (RetsM _ _ _ _ _) := hrm
      have HR : Hid (World.ownsRow _ _ _ _ _ _ _) := hor
      have HXS : Hid _ := hxs
      have HPN : Hid (PairsAt _ _ _ _ _) := hpn
      have HN2 : Hid (NilOk bn (runL ps (ops.take j)).length cn ∧ (runL ps (ops.take j)).length ≤ cn ∧ cn ≤ maxLen) := ⟨hnn, hcn, hcm⟩
      have HY : Hid ((runL ps (ops.take j)).length * 16 ≤ 140737488355328 ∧ ((runL ps (ops.take j)).length + 1) * 16 ≤ 140737488355328) := ⟨y1, y2⟩
      have s2 := hbw.size
      clear hbw hov hne hrm hor hxs hnu hpn hnn hcn hcm y1 y2 y3
      by_cases hlt : j < ops.length
      · obtain rfl : ob = some ⟨bo, oo, none⟩ := HOP.out.base (by omega)
        obtain ⟨c0, c1, c2, c3⟩ := (HOP.out.below HB.out).cells j hlt
        have j0 : (0 : Int) ≤ (j : Int) := Int.natCast_nonneg _
        have j1 : (j : Int) < (ops.length : Int) := by omega
        obtain ⟨L, hL⟩ : ∃ L, stepL (runL ps (ops.take j)) (opAt ops j) = L := ⟨_, rfl⟩
        obtain ⟨r, hr⟩ : ∃ r, stepR (runL ps (ops.take j)) (opAt ops j) = r := ⟨_, rfl⟩
        have NL : Hid (runL ps (ops.take (j + 1)) = L) := by show runL ps (ops.take (j + 1)) = L; rw [op_take _ hlt, runL_next]; exact hL
        have NR : Hid (runR ps (ops.take (j + 1)) = runR ps (ops.take j) ++ [r]) := by show runR ps (ops.take (j + 1)) = _; rw [op_take _ hlt, runR_next]; rw [hr]
        obtain ⟨W4, hW4⟩ : ∃ W4, W4 = wr.alloc (.cells #[.int .i64 (opAt ops j).kind, .int .i64 (opAt ops j).key, .int .i64 (opAt ops j).val, .int .i64 (opAt ops j).hi] 39) := ⟨_, rfl⟩
        have b4 : Below wr.heap.size wr W4 := by rw [hW4]; exact below_allocM _ _
        have z4 : wr.heap.size < W4.heap.size := by rw [hW4]; simp
        have OC : Hid (∀ k, W4.cell? ⟨wr.heap.size, k, none⟩ = (#[.int .i64 (opAt ops j).kind, .int .i64 (opAt ops j).key, .int .i64 (opAt ops j).val, .int .i64 (opAt ops j).hi] : Array Value)[k]?) := fun k => by rw [hW4]; exact cell_newM wr _ _ k
        have B4 : Hid (Below wr.heap.size wr W4) := b4
        have ANS : Hid (AnsP bn cn (runL ps (ops.take j)) (opAt ops j) W4) := ans_any bn gn 0 cn (runL ps (ops.take j)) (opAt ops j) W4 (HPN.out.below b4) (HSR.out j) HN2.out.1 HN2.out.2.1 HN2.out.2.2 HY.out.1 (kN_at HK.out hlt)
        unfold AnsP at ANS
        rw [hr] at ANS
        have CHG : Hid (∀ (W : World), W.ownsRow w.heap.size 46 2 (.slice bn (runL ps (ops.take j)).length cn) (runL ps (ops.take j)).length (pairCells (runL ps (ops.take j))) → w.heap.size ≤ W.heap.size → Calls Try.prog 67 #[.slice bn (runL ps (ops.take j)).length cn, .agg #[.int .i64 (opAt ops j).kind, .int .i64 (opAt ops j).key, .int .i64 (opAt ops j).val, .int .i64 (opAt ops j).hi]] W (InsP W w.heap.size (.slice bn (runL ps (ops.take j)).length cn) L)) := fun W hO hB => by
          rw [← hL]
          exact chg_any (opAt ops j) hO (HSR.out j) HY.out.2 hB
        clear hL hr b4
        go_wp2_with fail
        rw [← hW4]
        clear hW4
        refine ANS.out.mono ?_
        rintro e w5 ⟨a5, n5, k5, rfl, hb5, ho5⟩
        obtain ⟨rfl, _⟩ := ho5.pairs
        have Z5 : Hid (a5 = none → k5 = 0) := by obtain ⟨_, _, _, hv, _, _, hz⟩ := ho5; cases hv; exact hz
        have z5 := hb5.size
        have B5 : Hid (Below wr.heap.size wr w5) := B4.out.trans (hb5.mono (by omega))
        have P5 : Hid (OwnPM w5 W4.heap.size r.pairs (.slice a5 r.pairs.length k5)) := ho5
        have x0 : w5.cell? ⟨wr.heap.size, 0, none⟩ = some (.int .i64 (opAt ops j).kind) := (hb5.cell (p := ⟨wr.heap.size, 0, none⟩) z4).trans (OC.out 0)
        have x1 : w5.cell? ⟨wr.heap.size, 1, none⟩ = some (.int .i64 (opAt ops j).key) := (hb5.cell (p := ⟨wr.heap.size, 1, none⟩) z4).trans (OC.out 1)
        have x2 : w5.cell? ⟨wr.heap.size, 2, none⟩ = some (.int .i64 (opAt ops j).val) := (hb5.cell (p := ⟨wr.heap.size, 2, none⟩) z4).trans (OC.out 2)
        have x3 : w5.cell? ⟨wr.heap.size, 3, none⟩ = some (.int .i64 (opAt ops j).hi) := (hb5.cell (p := ⟨wr.heap.size, 3, none⟩) z4).trans (OC.out 3)
        have R5 : Hid (w5.ownsRow w.heap.size 42 4 (.slice (some ⟨gr, 0, none⟩) ops.length ops.length) ops.length xs) := owns_belowM HR.out B5.out
        have hxl : xs.length = ops.length * 4 := HR.out.1
        obtain ⟨g', cap', hv', _, _, _, _, hcs, hfz⟩ := owns_someM R5.out (by omega)
        have hgg : gr = g' := by injection hv' with e1 e2 e3; injection e1 with e4; exact congrArg Addr.block e4
        clear hv'
        subst hgg
        have ex : ∀ k, k < 4 → ∃ u, w5.cell? ⟨gr, j * 4 + k, none⟩ = some u := fun k hk => by
          rw [hcs _ (by omega)]
          exact ⟨_, List.getElem?_eq_getElem (by omega)⟩
        obtain ⟨u0, d0⟩ := ex 0 (by omega)
        obtain ⟨u1, d1⟩ := ex 1 (by omega)
        obtain ⟨u2, d2⟩ := ex 2 (by omega)
        obtain ⟨u3, d3⟩ := ex 3 (by omega)
        rw [Nat.add_zero] at d0
        have fz : ∀ k, w5.frozen? ⟨gr, k, none⟩ = false := hfz
        have hgr5 : gr < w5.heap.size := by omega
        have h5w : wr.heap.size < w5.heap.size := by omega
        have O6 : Hid (((((w5.setCell ⟨gr, j * 4, none⟩ (.bool r.ok)).setCell ⟨gr, j * 4 + 1, none⟩ (.int .i64 r.key)).setCell ⟨gr, j * 4 + 2, none⟩ (.int .i64 r.val)).setCell ⟨gr, j * 4 + 3, none⟩ (.slice a5 r.pairs.length k5)).ownsRow w.heap.size 46 2 (.slice bn (runL ps (ops.take j)).length cn) (runL ps (ops.take j)).length (pairCells (runL ps (ops.take j)))) := owns_else (owns_else (owns_else (owns_else (owns_belowM HO.out B5.out) _ _ _ HNE.out) _ _ _ HNE.out) _ _ _ HNE.out) _ _ _ HNE.out
        have R6 : Hid (((((w5.setCell ⟨gr, j * 4, none⟩ (.bool r.ok)).setCell ⟨gr, j * 4 + 1, none⟩ (.int .i64 r.key)).setCell ⟨gr, j * 4 + 2, none⟩ (.int .i64 r.val)).setCell ⟨gr, j * 4 + 3, none⟩ (.slice a5 r.pairs.length k5)).ownsRow w.heap.size 42 4 (.slice (some ⟨gr, 0, none⟩) ops.length ops.length) ops.length ((((xs.set (j * 4) (.bool r.ok)).set (j * 4 + 1) (.int .i64 r.key)).set (j * 4 + 2) (.int .i64 r.val)).set (j * 4 + 3) (.slice a5 r.pairs.length k5))) := owns_putM (owns_putM (owns_putM (owns_putM R5.out _ _) _ _) _ _) _ _
        have M6 : Hid (RetsM ((((w5.setCell ⟨gr, j * 4, none⟩ (.bool r.ok)).setCell ⟨gr, j * 4 + 1, none⟩ (.int .i64 r.key)).setCell ⟨gr, j * 4 + 2, none⟩ (.int .i64 r.val)).setCell ⟨gr, j * 4 + 3, none⟩ (.slice a5 r.pairs.length k5)) (gr + 1) (Value.slice bn (runL ps (ops.take j)).length cn).ownBlock (runR ps (ops.take j)) us) := ((((HRM.out.below B5.out).set (by omega)).set (by omega)).set (by omega)).set (by omega)
        have P6 : Hid (OwnPM ((((w5.setCell ⟨gr, j * 4, none⟩ (.bool r.ok)).setCell ⟨gr, j * 4 + 1, none⟩ (.int .i64 r.key)).setCell ⟨gr, j * 4 + 2, none⟩ (.int .i64 r.val)).setCell ⟨gr, j * 4 + 3, none⟩ (.slice a5 r.pairs.length k5)) W4.heap.size r.pairs (.slice a5 r.pairs.length k5)) := (((P5.out.set (by omega)).set (by omega)).set (by omega)).set (by omega)
        have B6 : Hid (Below w.heap.size w ((((w5.setCell ⟨gr, j * 4, none⟩ (.bool r.ok)).setCell ⟨gr, j * 4 + 1, none⟩ (.int .i64 r.key)).setCell ⟨gr, j * 4 + 2, none⟩ (.int .i64 r.val)).setCell ⟨gr, j * 4 + 3, none⟩ (.slice a5 r.pairs.length k5))) := below4' (HB.out.trans (B5.out.mono s2)) zgw _ _ _ _ _
        clear hcs hfz ex hb5 ho5 c0 c1 c2 c3
        go_wp2_with fail
        refine (CHG.out _ O6.out (by simp; omega)).mono ?_
        rintro e w7 ⟨v7, rfl, ho7, hg7, hk7⟩
        have H7 : Hid (World.ownsRow _ _ _ _ _ _ _) := ho7
        have G7 : Hid (World.grownBy _ _ _) := hg7
        have K7 : Hid _ := hk7
        have z7 := hg7.size
        simp only [World.size_setCell] at z7
        clear ho7 hg7 hk7
        go_wp2_with fail
        have hne7 : v7.ownBlock ≠ some gr := fun e => by
          rcases K7.out gr e with q | q
          · exact HNE.out q
          · simp at q; omega
        refine ⟨⟨j + 1, us ++ [.slice a5 r.pairs.length k5], _, by omega, by go_num, Below.grown B6.out G7.out (by simp; omega) (owns_ge HO.out), by omega, by rw [NL.out]; exact H7.out, hne7, by rw [NR.out]; exact M6.out.snoc G7.out K7.out P6.out (by omega) (fun k hk => by have := (owns_ltM HO.out k hk).2; omega), owns_grown R6.out G7.out (fun k hk e => by cases hk; exact HNE.out e), ?_, HNU.out.snoc Z5.out⟩, by simp [intOf]; omega⟩
        rw [NR.out, retsC_snoc _ _ _ _ HRM.out.len, ← HXS.out, show (j + 1) * 4 = j * 4 + 4 by omega, set4_take _ _ _ _ _ _ (by omega)]
        rfl
      · have hje : j = ops.length := by omega
        have LR : (runR ps ops).length = ops.length := runR_length _ _
        have EQ : Hid (ops.take j = ops) := by show ops.take j = ops; rw [hje, List.take_length]
        have ON2 : Hid (OwnPM wr w.heap.size (runL ps ops) (.slice bn (runL ps (ops.take j)).length cn)) := by
          have e : runL ps ops = runL ps (ops.take j) := by rw [EQ.out]
          show OwnPM _ _ _ _
          rw [e]; exact own_of_row HO.out (run_bytes1 ps ops j HBY.out).2.2
        have HR2 := HR.out
        have HM2 := HRM.out
        have hxl : xs.length = ops.length * 4 := HR.out.1
        have hx2 : xs = retsC (runR ps ops) us := by
          have := HXS.out
          rw [EQ.out, List.take_of_length_le (by omega)] at this
          exact this
        rw [EQ.out] at HM2
        rw [hx2] at HR2
        have HNZ : Hid (NilZ wr gr (runR ps ops).length) := by
          intro i hi a m c hcell hn
          have HQ := HR2
          rw [← LR] at HQ
          obtain ⟨_, hq⟩ := HQ
          rcases hq with ⟨hq, _⟩ | ⟨g', cap', cur, hq, -, hh, -, -, -, h4⟩
          · cases hq
          · cases hq
            have hc : wr.cell? ⟨gr, i * 4 + 3, none⟩ = (retsC (runR ps ops) us)[i * 4 + 3]? := by
              rw [← h4, List.getElem?_take, if_pos (by omega)]
              simp [World.cell?, hh]
            obtain ⟨-, -, -, d⟩ := retsC_get (runR ps ops) us i HM2.len hi
            rw [hc, d] at hcell
            exact HNU.out _ (List.mem_of_getElem? hcell) a m c rfl hn
        have HR3 : wr.ownsRow w.heap.size 42 4 (.slice (some ⟨gr, 0, none⟩) ops.length ops.length) (runR ps ops).length (retsC (runR ps ops) us) := by rw [LR]; exact HR2
        have HM3 : RetsM wr w.heap.size none (runR ps ops) us := ⟨HM2.len, fun i hi => by obtain ⟨a, g, c, e, hp, hq⟩ := HM2.pairs i hi; exact ⟨a, g, c, e, hp, fun q => ⟨by have := (hq q).1; omega, by simp⟩⟩⟩
        obtain ⟨ra, rc, rg, hv, hrt⟩ := rets_of_owns HR3 HM3 (by rw [LR]; exact HOP.out.len)
        have HRT : Hid (RetsAtM _ _ _ _ _) := hrt
        have HV : Hid (Value.slice (some ⟨gr, 0, none⟩) ops.length ops.length = .slice ra (runR ps ops).length rc) := hv
        clear HR2 HM2 HR3 HM3 hrt hv hje LR hx2 hxl
        go_wp2_with fail
        go_ret3
        refine ⟨_, ra, rc, rg, by rw [← HV.out]; rfl, HB.out, ON2.out, HRT.out, fun i hi => ?_⟩
        have hb := HRT.out.base (by omega)
        have hv := HV.out
        injection hv with hv _ _
        rw [hb] at hv
        injection hv with hv
        injection hv with hv _ _
        subst hv
        exact HNZ.out i hi
  · have EL : runLd ps ops = [] := by unfold runLd; rw [if_neg he]
    have ER : runRd ps ops = [] := by unfold runRd; rw [if_neg he]
    rw [EL, ER]
    have q1 : (runErr ps ops != 0) = true := by simp [he]
    obtain ⟨E, hE⟩ : ∃ E, E = runErr ps ops := ⟨_, rfl⟩
    rw [← hE] at REF q1 ⊢
    clear he hE EL ER MK
    go_enter Try.func42, Try.ntmps42
    go_wp2_with fail
    refine REF.out.mono ?_
    rintro e w1 ⟨rfl, hb1⟩
    go_wp2_with fail
    go_ret3
    exact ⟨_, none, 0, 0, rfl, hb1, OwnPM.nil _ _, RetsAtM.nil _, fun i hi => by simp at hi⟩
theorem pRun_any (base : Option Addr) (b o c : Nat) (ps : PL) (ob : Option Addr) (bo oo co : Nat) (ops : List OpD) (w : World) (h : PairsAt w base b o ps) (hnil : NilOk base ps.length c) (hop : OpsAt w ob bo oo ops) (hby : (ps.length + ops.length + 2) * 48 ≤ 140737488355328) :
    Calls Try.prog 42 #[.slice base ps.length c, .slice ob ops.length co] w fun e w' => ∃ v1 a2 c2 g2, e = .returned (.tuple #[v1, .slice a2 (runRd ps ops).length c2, .int .i64 (runErr ps ops)]) ∧ Below w.heap.size w w' ∧ OwnPM w' w.heap.size (runLd ps ops) v1 ∧ RetsAtM w' a2 g2 0 (runRd ps ops) :=
  (pRunZ_any base b o c ps ob bo oo co ops w h hnil hop hby).mono (by
    rintro e w' ⟨v1, a2, c2, g2, h1, h2, h3, h4, -⟩
    exact ⟨v1, a2, c2, g2, h1, h2, h3, h4⟩)
end Go.Proofs.Ytljidfaeljpnpaa

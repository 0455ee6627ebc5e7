/- What the conversions to and from unsafe.Pointer and sync/atomic's functions of pointers do, in the run of one goroutine: laws on any program. -/
import Derived.Test.YtlbfkgecckdlgaaCMark
import Derived.LaidEql
namespace Go.Proofs.Ytlbfkgecckdlgaa
open Go
section
variable {P : Program} {f : FuncId} {fn : Func}

/-- nil, or a whole thing of type T that lies in a block of its own. -/
def PtrOk (P : Program) (T : TypeId) (w : World) (p : Option Addr) : Prop := p = none ∨ ∃ b cs, p = some ⟨b, 0, none⟩ ∧ w.heap[b]? = some (.cells cs T (0, 0)) ∧ cs.size = P.cellsOf T

theorem PtrOk.kp {T : TypeId} {X : Nat → Prop} {w w' : World} {p : Option Addr} (h : PtrOk P T w p) (hk : Kp X w w') (hX : ∀ b, p = some ⟨b, 0, none⟩ → ¬ X b) : PtrOk P T w' p := by
  rcases h with h | ⟨b, cs, rfl, hb, hs⟩
  · exact Or.inl h
  · exact Or.inr ⟨b, cs, rfl, (hk.block b (Array.getElem?_eq_some_iff.1 hb).1 (hX b rfl)).trans hb, hs⟩

theorem run_to_unsafe {src dst T : TypeId} (hs : P.underlying src = some (.pointer T)) (hd : P.underlying dst = some .unsafePointer) (hsz : (P.info? T).map (fun i => decide (i.size = 0)) = some false) (hc : 0 < P.cellsOf T)
    {p : Option Addr} {w : World} (h : PtrOk P T w p) : (convert src dst (.pointer p)).run P w = .ok (.pointer p) w := by
  rcases h with rfl | ⟨b, cs, rfl, hb, hz⟩
  · simp [convert, Conv.unsafePointer, run_underlying hs, run_underlying hd, Result.andThen]
  · have h0 : 0 < cs.size := by omega
    have hcell : w.cell? ⟨b, 0, none⟩ = some cs[0] := by simp [World.cell?, hb, h0]
    exact run_convert_to_unsafe hs hd hsz hcell

theorem run_from_unsafe {src dst T : TypeId} (hs : P.underlying src = some .unsafePointer) (hd : P.underlying dst = some (.pointer T)) (hinfo : (P.info? T).isSome = true) (hc : 0 < P.cellsOf T) (hl : liesAt P P.depth T 1 0 T 1 = true)
    {p : Option Addr} {w : World} (h : PtrOk P T w p) : (convert src dst (.pointer p)).run P w = .ok (.pointer p) w := by
  obtain ⟨i, hi⟩ := Option.isSome_iff_exists.1 hinfo
  rcases h with rfl | ⟨b, cs, rfl, hb, hz⟩
  · simp [convert, Conv.unsafePointer, run_underlying hs, run_underlying hd, Result.andThen]
  · have h1 : cs.size / P.cellsOf T = 1 := by rw [hz]; exact Nat.div_self hc
    have hsh : w.shape? b = some (T, cs.size) := by simp [World.shape?, hb]
    simp [convert, Conv.unsafePointer, Conv.seenAt, viewAt, sizeOf, typeInfo, variablesAt, run_underlying hs, run_underlying hd, hi, hsh, h1, hl, Result.andThen]

theorem run_samePointer_same (w : World) (p : Option Addr) : (samePointer p p).run P w = .ok true w := by
  cases p with
  | none => simp [samePointer]
  | some a => simp [samePointer, run_sameAddr_same]
theorem run_samePointer_other {T : TypeId} {w : World} {p q : Option Addr} (hne : p ≠ q) (hp : PtrOk P T w p) (hq : PtrOk P T w q) : (samePointer p q).run P w = .ok false w := by
  rcases hp with rfl | ⟨b, cs, rfl, hb, hz⟩
  · rcases hq with rfl | ⟨b', cs', rfl, hb', hz'⟩
    · exact absurd rfl hne
    · simp [samePointer]
  · rcases hq with rfl | ⟨b', cs', rfl, hb', hz'⟩
    · simp [samePointer]
    · simp only [samePointer]
      exact run_sameAddr_other w (fun e => hne (congrArg some e)) hb hb'

theorem run_call_loadP (hf : P.funcs[f]? = some fn) (hname : (fn.name == "runtime.NumGoroutine") = false) (hb : fn.body.isNone = true) (hn : Extern.findNext fn = none)
    (he : Extern.find fn = some (Extern.Atomic.loadT .ptr)) {a : Addr} {x : Option Addr} {w : World} (hc : w.cell? a = some (.pointer x)) :
    (callFunc f #[.pointer (some a)]).run P w = .ok (.value (.pointer x)) w := by
  rw [run_callFunc_extern hf hname hb hn he]
  change (Sem.run P (do Extern.Atomic.read .ptr (← asAddr (.pointer (some a)))) w).andThen _ = _
  simp [Extern.Atomic.read, asAddr, hc, Result.andThen]

theorem run_call_storeP (hf : P.funcs[f]? = some fn) (hname : (fn.name == "runtime.NumGoroutine") = false) (hb : fn.body.isNone = true) (hn : Extern.findNext fn = none)
    (he : Extern.find fn = some Extern.Atomic.storeT) {a : Addr} {y : Option Addr} {u : Value} {w : World} (hc : w.cell? a = some u) (hz : w.frozen? a = false) :
    (callFunc f #[.pointer (some a), .pointer y]).run P w = .ok (.value (.tuple #[])) (w.setCell a (.pointer y)) := by
  rw [run_callFunc_extern hf hname hb hn he]
  change (Sem.run P (do
    store (← asAddr (.pointer (some a))) (.pointer y) .atomic
    pure Extern.Atomic.none_) w).andThen _ = _
  simp [asAddr, hc, hz, run_store P w a (.pointer y) .atomic rfl, Extern.Atomic.none_, Result.andThen]

theorem run_call_swapP (hf : P.funcs[f]? = some fn) (hname : (fn.name == "runtime.NumGoroutine") = false) (hb : fn.body.isNone = true) (hn : Extern.findNext fn = none)
    (he : Extern.find fn = some (Extern.Atomic.swapT .ptr)) {a : Addr} {x y : Option Addr} {w : World} (hc : w.cell? a = some (.pointer x)) (hz : w.frozen? a = false) :
    (callFunc f #[.pointer (some a), .pointer y]).run P w = .ok (.value (.pointer x)) (w.setCell a (.pointer y)) := by
  rw [run_callFunc_extern hf hname hb hn he]
  change (Sem.run P (do
    let a' ← asAddr (.pointer (some a))
    let old ← Extern.Atomic.read .ptr a'
    store a' (.pointer y) .atomic
    pure old) w).andThen _ = _
  simp [Extern.Atomic.read, asAddr, hc, hz, run_store P w a (.pointer y) .atomic rfl, Result.andThen]

theorem run_call_casP (hf : P.funcs[f]? = some fn) (hname : (fn.name == "runtime.NumGoroutine") = false) (hb : fn.body.isNone = true) (hn : Extern.findNext fn = none)
    (he : Extern.find fn = some (Extern.Atomic.casT .ptr)) {a : Addr} {x o y : Option Addr} {q : Bool} {w : World} (hc : w.cell? a = some (.pointer x)) (hz : w.frozen? a = false) (hq : (samePointer x o).run P w = .ok q w) :
    (callFunc f #[.pointer (some a), .pointer o, .pointer y]).run P w = .ok (.value (.bool q)) (if q then w.setCell a (.pointer y) else w) := by
  rw [run_callFunc_extern hf hname hb hn he]
  change (Sem.run P (do
    let a' ← asAddr (.pointer (some a))
    if ← Extern.Atomic.touchesFrozen a' then unsupported (.unsafePointer "a write to bytes that a string shares")
    let eq ← match Extern.Atomic.T.ptr, ← Extern.Atomic.read .ptr a', Value.pointer o with
      | _, .int _ x, .int _ y => pure (x == y)
      | .ptr, .pointer x, .pointer y => samePointer x y
      | .int _, .pointer (some _), .int _ 0 | .int _, .int _ 0, .pointer (some _) => pure false
      | .int _, .pointer (some _), _ | .int _, _, .pointer (some _) => unsupported .addressObserved
      | _, _, _ => stuck "atomic.CompareAndSwap: old is no T"
    if eq then store a' (.pointer y) .atomic
    pure (Value.bool eq)) w).andThen _ = _
  cases q <;> simp [Extern.Atomic.touchesFrozen, Extern.Atomic.read, asAddr, viewAt, World.shape?_isSome_of_cell? hc, hc, hz, hq, run_store P w a (.pointer y) .atomic rfl, Result.andThen]
end
end Go.Proofs.Ytlbfkgecckdlgaa

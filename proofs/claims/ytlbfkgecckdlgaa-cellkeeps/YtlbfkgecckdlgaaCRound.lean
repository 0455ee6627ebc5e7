/- Layer 2: CellRound's walk. -/
import Derived.Test.YtlbfkgecckdlgaaCAwake
namespace Go.Proofs.Ytlbfkgecckdlgaa
open Go.RowKit

/-- The number at block b, place 0, holds x. -/
structure NSt (W : World) (b : Nat) (x : Int) : Prop where
  lt : b < W.heap.size
  cell : W.cell? ⟨b, 0, none⟩ = some (.int .i64 x)
  fro : W.frozen? ⟨b, 0, none⟩ = false

theorem NSt.next {W W' : World} {b : Nat} {x y : Int} (h : NSt W b x) (hs : NumStep (fun _ => False) b 0 y W W') : NSt W' b y ∧ Below b W W' :=
  ⟨⟨Nat.lt_of_lt_of_le h.lt hs.kp.size, hs.cell h.cell, (hs.fro 0).trans h.fro⟩, hs.kp.to_below b (Nat.le_of_lt h.lt) (fun k hk h => h.elim id (by omega))⟩

theorem rAdd {W : World} {b : Nat} {x : Int} (h : NSt W b x) (y s : Int) (hs : IntKind.i64.wrap (x + y) = s) : Calls Try.prog 25 #[.pointer (some ⟨b, 0, none⟩), .nilIface, .int .i64 y] W fun e w' => e = .returned (.int .i64 s) ∧ NSt w' b s ∧ Below b W w' :=
  (nAdd (gate_nil 1) [] (by simp) b 0 x y s W trivial (fun h => h) h.lt h.cell h.fro hs).mono fun _ _ ⟨he, _, hn⟩ => ⟨he, h.next hn⟩
theorem rSwap {W : World} {b : Nat} {x : Int} (h : NSt W b x) (y : Int) : Calls Try.prog 26 #[.pointer (some ⟨b, 0, none⟩), .nilIface, .int .i64 y] W fun e w' => e = .returned (.int .i64 x) ∧ NSt w' b y ∧ Below b W w' :=
  (nSwap (gate_nil 1) [] (by simp) b 0 x y W trivial (fun h => h) h.lt h.cell h.fro).mono fun _ _ ⟨he, _, hn⟩ => ⟨he, h.next hn⟩
theorem rCas {W : World} {b : Nat} {x : Int} (h : NSt W b x) (o y : Int) : Calls Try.prog 27 #[.pointer (some ⟨b, 0, none⟩), .nilIface, .int .i64 o, .int .i64 y] W fun e w' => e = .returned (.bool (x == o)) ∧ NSt w' b (if x = o then y else x) ∧ Below b W w' := by
  by_cases e : x = o
  · rw [if_pos e, show (x == o) = true from by simp [e]]
    exact (nHit (gate_nil 1) [] (by simp) b 0 x o y W trivial (fun h => h) h.lt h.cell h.fro e).mono fun _ _ ⟨he, _, hn⟩ => ⟨he, h.next hn⟩
  · rw [if_neg e, show (x == o) = false from by simp [e]]
    exact (nMiss (gate_nil 1) [] (by simp) b 0 x o y W trivial (fun h => h) h.lt h.cell h.fro e).mono fun _ _ ⟨he, _, hn⟩ => ⟨he, h.next hn⟩
theorem rOr {W : World} {b : Nat} {x : Int} (h : NSt W b x) (y s : Int) (hs : bits .or .i64 x y = s) : Calls Try.prog 28 #[.pointer (some ⟨b, 0, none⟩), .nilIface, .int .i64 y] W fun e w' => e = .returned (.int .i64 x) ∧ NSt w' b s ∧ Below b W w' :=
  (nOr (gate_nil 1) [] (by simp) b 0 x y s W trivial (fun h => h) h.lt h.cell h.fro hs).mono fun _ _ ⟨he, _, hn⟩ => ⟨he, h.next hn⟩
theorem rAnd {W : World} {b : Nat} {x : Int} (h : NSt W b x) (y s : Int) (hs : bits .and .i64 x y = s) : Calls Try.prog 29 #[.pointer (some ⟨b, 0, none⟩), .nilIface, .int .i64 y] W fun e w' => e = .returned (.int .i64 x) ∧ NSt w' b s ∧ Below b W w' :=
  (nAnd (gate_nil 1) [] (by simp) b 0 x y s W trivial (fun h => h) h.lt h.cell h.fro hs).mono fun _ _ ⟨he, _, hn⟩ => ⟨he, h.next hn⟩
theorem rLoad {W : World} {b : Nat} {x : Int} (h : NSt W b x) : Calls Try.prog 19 #[.pointer (some ⟨b, 0, none⟩), .nilIface] W fun e w' => e = .returned (.int .i64 x) ∧ NSt w' b x ∧ Below b W w' :=
  (nLoad (gate_nil 1) [] (by simp) b 0 x W trivial (fun h => h) h.lt h.cell h.fro).mono fun _ _ ⟨he, _, hn⟩ => ⟨he, h.next hn⟩

theorem newNum_any (n : Int) (w : World) : Calls Try.prog 18 #[.int .i64 n] w fun e w' => e = .returned (.pointer (some ⟨w.heap.size, 0, none⟩)) ∧ NSt w' w.heap.size n ∧ Below w.heap.size w w' := by
  have HS : Hid _ := aStore w.heap.size 0 0 n (w.alloc (.cells #[.int .i64 0] 51)) (by simp) (by simp)
  go_enter Try.func18, Try.ntmps18
  go_wp2_with (first | (go_at_call 58; refine Calls.mono HS.out ?_; rintro e w' ⟨rfl, rfl⟩))
  go_ret
  exact ⟨rfl, ⟨by simp, by simp, by simp⟩, (Below.refl _ _).alloc (Nat.le_refl _) _⟩
end Go.Proofs.Ytlbfkgecckdlgaa

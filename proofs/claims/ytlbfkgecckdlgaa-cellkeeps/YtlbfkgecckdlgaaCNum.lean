/- What sync/atomic.Int64's methods do at any place, and cell.Num's methods through any gate. -/
import Derived.Test.YtlbfkgecckdlgaaCBase
namespace Go.Proofs.Ytlbfkgecckdlgaa
open Go.RowKit

/-- The number that a cell holds behind an access, and what the access answers. -/
def nN (c d a b : Int) : Int := if d = 2 ∨ d = 4 then a else if d = 3 then IntKind.i64.wrap (c + a) else if d = 5 then (if c = a then b else c) else if d = 6 then bits .and .i64 c a else if d = 7 then bits .or .i64 c a else c
def nO (c d a : Int) : Int := if d = 2 then 0 else if d = 3 then IntKind.i64.wrap (c + a) else if d = 5 then (if c = a then 1 else 0) else c

/-- One access to the number at block b, place i: the gate's blocks aside, that cell alone has turned. -/
structure NumStep (X : Nat → Prop) (b i : Nat) (v : Int) (w w' : World) : Prop where
  kp : Kp (fun k => X k ∨ k = b) w w'
  at_ : w'.heap[b]? = (w.setCell ⟨b, i, none⟩ (.int .i64 v)).heap[b]?

theorem set_same {w : World} {b i : Nat} {v : Value} (h : w.cell? ⟨b, i, none⟩ = some v) : (w.setCell ⟨b, i, none⟩ v).heap[b]? = w.heap[b]? := by
  simp only [World.setCell, Array.getElem?_modify, if_true]
  unfold World.cell? at h
  simp at h
  split at h
  · rename_i c e fr hb
    rw [hb]
    simp
    apply Array.ext_getElem?
    intro j
    rw [Array.getElem?_setIfInBounds]
    split
    · rename_i hj
      subst hj
      split
      · exact h.symm
      · rename_i hn; rw [Array.getElem?_eq_none (by omega)] at h; cases h
    · rfl
  · cases h

theorem NumStep.cell {X : Nat → Prop} {b i : Nat} {v : Int} {w w' : World} {u : Value} (h : NumStep X b i v w w') (hc : w.cell? ⟨b, i, none⟩ = some u) : w'.cell? ⟨b, i, none⟩ = some (.int .i64 v) := by
  rw [World.cell?_of_block (w := w.setCell ⟨b, i, none⟩ (.int .i64 v)) (w' := w') (a := ⟨b, i, none⟩) h.at_]
  exact World.cell?_setCell_same _ _ _ hc
theorem NumStep.other {X : Nat → Prop} {b i : Nat} {v : Int} {w w' : World} (h : NumStep X b i v w w') {j : Nat} (hj : i ≠ j) : w'.cell? ⟨b, j, none⟩ = w.cell? ⟨b, j, none⟩ := by
  rw [World.cell?_of_block (w := w.setCell ⟨b, i, none⟩ (.int .i64 v)) (w' := w') (a := ⟨b, j, none⟩) h.at_]
  exact World.cell?_setCell_other _ _ _ _ (fun e => hj (congrArg Addr.off e))
theorem NumStep.fro {X : Nat → Prop} {b i : Nat} {v : Int} {w w' : World} (h : NumStep X b i v w w') (j : Nat) : w'.frozen? ⟨b, j, none⟩ = w.frozen? ⟨b, j, none⟩ := by
  rw [World.frozen?_of_block (w := w.setCell ⟨b, i, none⟩ (.int .i64 v)) (w' := w') (a := ⟨b, j, none⟩) h.at_]
  simp

theorem aLoad (b i : Nat) (x : Int) (w : World) (hc : w.cell? ⟨b, i, none⟩ = some (.int .i64 x)) : Calls Try.prog 61 #[.pointer (some ⟨b, i, none⟩)] w fun e w' => e = .returned (.int .i64 x) ∧ w' = w := by
  have hl := run_call_load (P := Try.prog) Try.func106 (by kernel_rfl) (by kernel_rfl) (by kernel_rfl) .i64 (by kernel_rfl) hc
  go_enter Try.func61, Try.ntmps61
  go_wp2
  go_ret
  exact ⟨rfl, rfl⟩

theorem aStore (b i : Nat) (x y : Int) (w : World) (hc : w.cell? ⟨b, i, none⟩ = some (.int .i64 x)) (hz : w.frozen? ⟨b, i, none⟩ = false) : Calls Try.prog 58 #[.pointer (some ⟨b, i, none⟩), .int .i64 y] w fun e w' => e = .returned (.tuple #[]) ∧ w' = w.setCell ⟨b, i, none⟩ (.int .i64 y) := by
  have hl := run_call_store (P := Try.prog) Try.func105 (by kernel_rfl) (by kernel_rfl) (by kernel_rfl) (by kernel_rfl) (k := .i64) (y := y) hc hz
  go_enter Try.func58, Try.ntmps58
  go_wp2
  go_end0
  exact ⟨rfl, rfl⟩

theorem aSwap (b i : Nat) (x y : Int) (w : World) (hc : w.cell? ⟨b, i, none⟩ = some (.int .i64 x)) (hz : w.frozen? ⟨b, i, none⟩ = false) : Calls Try.prog 65 #[.pointer (some ⟨b, i, none⟩), .int .i64 y] w fun e w' => e = .returned (.int .i64 x) ∧ w' = w.setCell ⟨b, i, none⟩ (.int .i64 y) := by
  have hl := run_call_swap (P := Try.prog) Try.func108 (by kernel_rfl) (by kernel_rfl) (by kernel_rfl) .i64 (by kernel_rfl) (y := y) hc hz
  go_enter Try.func65, Try.ntmps65
  go_wp2
  go_ret
  exact ⟨rfl, rfl⟩

theorem aAdd (b i : Nat) (x y : Int) (w : World) (hc : w.cell? ⟨b, i, none⟩ = some (.int .i64 x)) (hz : w.frozen? ⟨b, i, none⟩ = false) (s : Int) (hs : IntKind.i64.wrap (x + y) = s) : Calls Try.prog 64 #[.pointer (some ⟨b, i, none⟩), .int .i64 y] w fun e w' => e = .returned (.int .i64 s) ∧ w' = w.setCell ⟨b, i, none⟩ (.int .i64 s) := by
  have hl := run_call_add (P := Try.prog) Try.func107 (by kernel_rfl) (by kernel_rfl) (by kernel_rfl) .i64 (by kernel_rfl) (y := y) hc hz (s := s) (by rw [← hs]; rfl)
  clear hs
  go_enter Try.func64, Try.ntmps64
  go_wp2
  go_ret
  exact ⟨rfl, rfl⟩

theorem aAnd (b i : Nat) (x y : Int) (w : World) (hc : w.cell? ⟨b, i, none⟩ = some (.int .i64 x)) (hz : w.frozen? ⟨b, i, none⟩ = false) (s : Int) (hs : bits .and .i64 x y = s) : Calls Try.prog 68 #[.pointer (some ⟨b, i, none⟩), .int .i64 y] w fun e w' => e = .returned (.int .i64 x) ∧ w' = w.setCell ⟨b, i, none⟩ (.int .i64 s) := by
  have hl := run_call_bits (P := Try.prog) .and Try.func111 (by kernel_rfl) (by kernel_rfl) (by kernel_rfl) .i64 (by kernel_rfl) (y := y) hc hz (s := s) (by rw [← hs]; rfl)
  clear hs
  go_enter Try.func68, Try.ntmps68
  go_wp2
  go_ret
  exact ⟨rfl, rfl⟩

theorem aOr (b i : Nat) (x y : Int) (w : World) (hc : w.cell? ⟨b, i, none⟩ = some (.int .i64 x)) (hz : w.frozen? ⟨b, i, none⟩ = false) (s : Int) (hs : bits .or .i64 x y = s) : Calls Try.prog 67 #[.pointer (some ⟨b, i, none⟩), .int .i64 y] w fun e w' => e = .returned (.int .i64 x) ∧ w' = w.setCell ⟨b, i, none⟩ (.int .i64 s) := by
  have hl := run_call_bits (P := Try.prog) .or Try.func110 (by kernel_rfl) (by kernel_rfl) (by kernel_rfl) .i64 (by kernel_rfl) (y := y) hc hz (s := s) (by rw [← hs]; rfl)
  clear hs
  go_enter Try.func67, Try.ntmps67
  go_wp2
  go_ret
  exact ⟨rfl, rfl⟩

theorem aHit (b i : Nat) (x o y : Int) (w : World) (hc : w.cell? ⟨b, i, none⟩ = some (.int .i64 x)) (hz : w.frozen? ⟨b, i, none⟩ = false) (ho : x = o) : Calls Try.prog 66 #[.pointer (some ⟨b, i, none⟩), .int .i64 o, .int .i64 y] w fun e w' => e = .returned (.bool true) ∧ w' = w.setCell ⟨b, i, none⟩ (.int .i64 y) := by
  subst ho
  have hl := run_call_cas_hit (P := Try.prog) Try.func109 (by kernel_rfl) (by kernel_rfl) (by kernel_rfl) .i64 (by kernel_rfl) (y := y) hc hz
  go_enter Try.func66, Try.ntmps66
  go_wp2
  go_ret
  exact ⟨rfl, rfl⟩

theorem aMiss (b i : Nat) (x o y : Int) (w : World) (hc : w.cell? ⟨b, i, none⟩ = some (.int .i64 x)) (hz : w.frozen? ⟨b, i, none⟩ = false) (hne : ¬ x = o) : Calls Try.prog 66 #[.pointer (some ⟨b, i, none⟩), .int .i64 o, .int .i64 y] w fun e w' => e = .returned (.bool false) ∧ w' = w := by
  have hl := run_call_cas_miss (P := Try.prog) Try.func109 (by kernel_rfl) (by kernel_rfl) (by kernel_rfl) .i64 (by kernel_rfl) (o := o) (y := y) hc hz hne
  clear hne
  go_enter Try.func66, Try.ntmps66
  go_wp2
  go_ret
  exact ⟨rfl, rfl⟩

theorem kp_setb (w : World) (b i : Nat) (v : Value) : Kp (fun k => k = b) w (w.setCell ⟨b, i, none⟩ v) := Kp.set (X := fun k => k = b) (Kp.refl _ _) (p := ⟨b, i, none⟩) rfl v
theorem kp_setX {X : Nat → Prop} {w w1 : World} (h : Kp X w w1) (b i : Nat) (v : Value) : Kp (fun k => X k ∨ k = b) w (w1.setCell ⟨b, i, none⟩ v) := Kp.set (X := fun k => X k ∨ k = b) (h.mono (fun _ h => Or.inl h)) (p := ⟨b, i, none⟩) (Or.inr rfl) v
theorem num_at {X : Nat → Prop} {w w1 : World} {b : Nat} (h : Kp X w w1) (hX : ¬ X b) (hb : b < w.heap.size) (i : Nat) (v : Value) : (w1.setCell ⟨b, i, none⟩ v).heap[b]? = (w.setCell ⟨b, i, none⟩ v).heap[b]? := by
  simp only [World.setCell, Array.getElem?_modify, if_true, h.block b hb hX]
theorem num_same {X : Nat → Prop} {w w1 : World} {b i : Nat} {v : Value} (h : Kp X w w1) (hX : ¬ X b) (hb : b < w.heap.size) (hc : w.cell? ⟨b, i, none⟩ = some v) : w1.heap[b]? = (w.setCell ⟨b, i, none⟩ v).heap[b]? := by
  rw [set_same hc]; exact h.block b hb hX

set_option maxHeartbeats 400000 in
theorem nLoad {gv : Value} {X : Nat → Prop} {most : Nat} {G : List Int → World → Prop} (g : GateOk gv X most G) (ks : List Int) (hk : ks.length < most) (b i : Nat) (x : Int) (w : World) (hG : G ks w) (hX : ¬ X b) (hb : b < w.heap.size) (hc : w.cell? ⟨b, i, none⟩ = some (.int .i64 x)) (hz : w.frozen? ⟨b, i, none⟩ = false) :
    Calls Try.prog 19 #[.pointer (some ⟨b, i, none⟩), gv] w fun e w' => e = .returned (.int .i64 x) ∧ G (ks ++ [1]) w' ∧ NumStep X b i x w w' := by
  have HP : Hid _ := g.pass ks 1 w hG hk
  go_enter Try.func19, Try.ntmps19
  go_wp2_with (first | (go_at_call 59; refine Calls.mono HP.out ?_; rintro e w1 ⟨rfl, hg1, hk1⟩; have hc1 := (hk1.cell (p := ⟨b, i, none⟩) hb hX).trans hc; have hz1 := (hk1.frozen (p := ⟨b, i, none⟩) hb hX).trans hz) | (go_at_call 60; refine (word_num _ _ _).mono ?_; rintro e w' ⟨rfl, rfl⟩) | (go_at_call 61; refine (aLoad b i x _ hc1).mono ?_; rintro e w' ⟨rfl, rfl⟩))
  go_ret
  exact ⟨rfl, g.keep _ (fun k => k = b) _ _ hg1 (Kp.refl _ _) (fun k e hx => hX (e ▸ hx)), ⟨hk1.mono (fun k h => Or.inl h), num_same hk1 hX hb hc⟩⟩

set_option maxHeartbeats 400000 in
theorem nStore {gv : Value} {X : Nat → Prop} {most : Nat} {G : List Int → World → Prop} (g : GateOk gv X most G) (ks : List Int) (hk : ks.length < most) (b i : Nat) (x y : Int) (w : World) (hG : G ks w) (hX : ¬ X b) (hb : b < w.heap.size) (hc : w.cell? ⟨b, i, none⟩ = some (.int .i64 x)) (hz : w.frozen? ⟨b, i, none⟩ = false) :
    Calls Try.prog 21 #[.pointer (some ⟨b, i, none⟩), gv, .int .i64 y] w fun e w' => e = .returned (.tuple #[]) ∧ G (ks ++ [2]) w' ∧ NumStep X b i y w w' := by
  have HP : Hid _ := g.pass ks 2 w hG hk
  go_enter Try.func21, Try.ntmps21
  go_wp2_with (first | (go_at_call 59; refine Calls.mono HP.out ?_; rintro e w1 ⟨rfl, hg1, hk1⟩; have hc1 := (hk1.cell (p := ⟨b, i, none⟩) hb hX).trans hc; have hz1 := (hk1.frozen (p := ⟨b, i, none⟩) hb hX).trans hz) | (go_at_call 60; refine (word_num _ _ _).mono ?_; rintro e w' ⟨rfl, rfl⟩) | (go_at_call 58; refine (aStore b i x y _ hc1 hz1).mono ?_; rintro e w' ⟨rfl, rfl⟩))
  go_end0
  exact ⟨rfl, g.keep _ (fun k => k = b) _ _ hg1 (kp_setb _ _ _ _) (fun k e hx => hX (e ▸ hx)), ⟨kp_setX hk1 _ _ _, num_at hk1 hX hb _ _⟩⟩

set_option maxHeartbeats 400000 in
theorem nAdd {gv : Value} {X : Nat → Prop} {most : Nat} {G : List Int → World → Prop} (g : GateOk gv X most G) (ks : List Int) (hk : ks.length < most) (b i : Nat) (x y s : Int) (w : World) (hG : G ks w) (hX : ¬ X b) (hb : b < w.heap.size) (hc : w.cell? ⟨b, i, none⟩ = some (.int .i64 x)) (hz : w.frozen? ⟨b, i, none⟩ = false) (hs : Hid (IntKind.i64.wrap (x + y) = s)) :
    Calls Try.prog 25 #[.pointer (some ⟨b, i, none⟩), gv, .int .i64 y] w fun e w' => e = .returned (.int .i64 s) ∧ G (ks ++ [3]) w' ∧ NumStep X b i s w w' := by
  have HP : Hid _ := g.pass ks 3 w hG hk
  go_enter Try.func25, Try.ntmps25
  go_wp2_with (first | (go_at_call 59; refine Calls.mono HP.out ?_; rintro e w1 ⟨rfl, hg1, hk1⟩; have hc1 := (hk1.cell (p := ⟨b, i, none⟩) hb hX).trans hc; have hz1 := (hk1.frozen (p := ⟨b, i, none⟩) hb hX).trans hz) | (go_at_call 60; refine (word_num _ _ _).mono ?_; rintro e w' ⟨rfl, rfl⟩) | (go_at_call 64; refine (aAdd b i x y _ hc1 hz1 s hs.out).mono ?_; rintro e w' ⟨rfl, rfl⟩))
  go_ret
  exact ⟨rfl, g.keep _ (fun k => k = b) _ _ hg1 (kp_setb _ _ _ _) (fun k e hx => hX (e ▸ hx)), ⟨kp_setX hk1 _ _ _, num_at hk1 hX hb _ _⟩⟩

set_option maxHeartbeats 400000 in
theorem nSwap {gv : Value} {X : Nat → Prop} {most : Nat} {G : List Int → World → Prop} (g : GateOk gv X most G) (ks : List Int) (hk : ks.length < most) (b i : Nat) (x y : Int) (w : World) (hG : G ks w) (hX : ¬ X b) (hb : b < w.heap.size) (hc : w.cell? ⟨b, i, none⟩ = some (.int .i64 x)) (hz : w.frozen? ⟨b, i, none⟩ = false) :
    Calls Try.prog 26 #[.pointer (some ⟨b, i, none⟩), gv, .int .i64 y] w fun e w' => e = .returned (.int .i64 x) ∧ G (ks ++ [4]) w' ∧ NumStep X b i y w w' := by
  have HP : Hid _ := g.pass ks 4 w hG hk
  go_enter Try.func26, Try.ntmps26
  go_wp2_with (first | (go_at_call 59; refine Calls.mono HP.out ?_; rintro e w1 ⟨rfl, hg1, hk1⟩; have hc1 := (hk1.cell (p := ⟨b, i, none⟩) hb hX).trans hc; have hz1 := (hk1.frozen (p := ⟨b, i, none⟩) hb hX).trans hz) | (go_at_call 60; refine (word_num _ _ _).mono ?_; rintro e w' ⟨rfl, rfl⟩) | (go_at_call 65; refine (aSwap b i x y _ hc1 hz1).mono ?_; rintro e w' ⟨rfl, rfl⟩))
  go_ret
  exact ⟨rfl, g.keep _ (fun k => k = b) _ _ hg1 (kp_setb _ _ _ _) (fun k e hx => hX (e ▸ hx)), ⟨kp_setX hk1 _ _ _, num_at hk1 hX hb _ _⟩⟩

set_option maxHeartbeats 400000 in
theorem nHit {gv : Value} {X : Nat → Prop} {most : Nat} {G : List Int → World → Prop} (g : GateOk gv X most G) (ks : List Int) (hk : ks.length < most) (b i : Nat) (x o y : Int) (w : World) (hG : G ks w) (hX : ¬ X b) (hb : b < w.heap.size) (hc : w.cell? ⟨b, i, none⟩ = some (.int .i64 x)) (hz : w.frozen? ⟨b, i, none⟩ = false) (ho : Hid (x = o)) :
    Calls Try.prog 27 #[.pointer (some ⟨b, i, none⟩), gv, .int .i64 o, .int .i64 y] w fun e w' => e = .returned (.bool true) ∧ G (ks ++ [5]) w' ∧ NumStep X b i y w w' := by
  have HP : Hid _ := g.pass ks 5 w hG hk
  go_enter Try.func27, Try.ntmps27
  go_wp2_with (first | (go_at_call 59; refine Calls.mono HP.out ?_; rintro e w1 ⟨rfl, hg1, hk1⟩; have hc1 := (hk1.cell (p := ⟨b, i, none⟩) hb hX).trans hc; have hz1 := (hk1.frozen (p := ⟨b, i, none⟩) hb hX).trans hz) | (go_at_call 60; refine (word_num _ _ _).mono ?_; rintro e w' ⟨rfl, rfl⟩) | (go_at_call 66; refine (aHit b i x o y _ hc1 hz1 ho.out).mono ?_; rintro e w' ⟨rfl, rfl⟩))
  go_ret
  exact ⟨rfl, g.keep _ (fun k => k = b) _ _ hg1 (kp_setb _ _ _ _) (fun k e hx => hX (e ▸ hx)), ⟨kp_setX hk1 _ _ _, num_at hk1 hX hb _ _⟩⟩

set_option maxHeartbeats 400000 in
theorem nMiss {gv : Value} {X : Nat → Prop} {most : Nat} {G : List Int → World → Prop} (g : GateOk gv X most G) (ks : List Int) (hk : ks.length < most) (b i : Nat) (x o y : Int) (w : World) (hG : G ks w) (hX : ¬ X b) (hb : b < w.heap.size) (hc : w.cell? ⟨b, i, none⟩ = some (.int .i64 x)) (hz : w.frozen? ⟨b, i, none⟩ = false) (ho : Hid (¬ x = o)) :
    Calls Try.prog 27 #[.pointer (some ⟨b, i, none⟩), gv, .int .i64 o, .int .i64 y] w fun e w' => e = .returned (.bool false) ∧ G (ks ++ [5]) w' ∧ NumStep X b i x w w' := by
  have HP : Hid _ := g.pass ks 5 w hG hk
  go_enter Try.func27, Try.ntmps27
  go_wp2_with (first | (go_at_call 59; refine Calls.mono HP.out ?_; rintro e w1 ⟨rfl, hg1, hk1⟩; have hc1 := (hk1.cell (p := ⟨b, i, none⟩) hb hX).trans hc; have hz1 := (hk1.frozen (p := ⟨b, i, none⟩) hb hX).trans hz) | (go_at_call 60; refine (word_num _ _ _).mono ?_; rintro e w' ⟨rfl, rfl⟩) | (go_at_call 66; refine (aMiss b i x o y _ hc1 hz1 ho.out).mono ?_; rintro e w' ⟨rfl, rfl⟩))
  go_ret
  exact ⟨rfl, g.keep _ (fun k => k = b) _ _ hg1 (Kp.refl _ _) (fun k e hx => hX (e ▸ hx)), ⟨hk1.mono (fun k h => Or.inl h), num_same hk1 hX hb hc⟩⟩

set_option maxHeartbeats 400000 in
theorem nAnd {gv : Value} {X : Nat → Prop} {most : Nat} {G : List Int → World → Prop} (g : GateOk gv X most G) (ks : List Int) (hk : ks.length < most) (b i : Nat) (x y s : Int) (w : World) (hG : G ks w) (hX : ¬ X b) (hb : b < w.heap.size) (hc : w.cell? ⟨b, i, none⟩ = some (.int .i64 x)) (hz : w.frozen? ⟨b, i, none⟩ = false) (hs : Hid (bits .and .i64 x y = s)) :
    Calls Try.prog 29 #[.pointer (some ⟨b, i, none⟩), gv, .int .i64 y] w fun e w' => e = .returned (.int .i64 x) ∧ G (ks ++ [6]) w' ∧ NumStep X b i s w w' := by
  have HP : Hid _ := g.pass ks 6 w hG hk
  go_enter Try.func29, Try.ntmps29
  go_wp2_with (first | (go_at_call 59; refine Calls.mono HP.out ?_; rintro e w1 ⟨rfl, hg1, hk1⟩; have hc1 := (hk1.cell (p := ⟨b, i, none⟩) hb hX).trans hc; have hz1 := (hk1.frozen (p := ⟨b, i, none⟩) hb hX).trans hz) | (go_at_call 60; refine (word_num _ _ _).mono ?_; rintro e w' ⟨rfl, rfl⟩) | (go_at_call 68; refine (aAnd b i x y _ hc1 hz1 s hs.out).mono ?_; rintro e w' ⟨rfl, rfl⟩))
  go_ret
  exact ⟨rfl, g.keep _ (fun k => k = b) _ _ hg1 (kp_setb _ _ _ _) (fun k e hx => hX (e ▸ hx)), ⟨kp_setX hk1 _ _ _, num_at hk1 hX hb _ _⟩⟩

set_option maxHeartbeats 400000 in
theorem nOr {gv : Value} {X : Nat → Prop} {most : Nat} {G : List Int → World → Prop} (g : GateOk gv X most G) (ks : List Int) (hk : ks.length < most) (b i : Nat) (x y s : Int) (w : World) (hG : G ks w) (hX : ¬ X b) (hb : b < w.heap.size) (hc : w.cell? ⟨b, i, none⟩ = some (.int .i64 x)) (hz : w.frozen? ⟨b, i, none⟩ = false) (hs : Hid (bits .or .i64 x y = s)) :
    Calls Try.prog 28 #[.pointer (some ⟨b, i, none⟩), gv, .int .i64 y] w fun e w' => e = .returned (.int .i64 x) ∧ G (ks ++ [7]) w' ∧ NumStep X b i s w w' := by
  have HP : Hid _ := g.pass ks 7 w hG hk
  go_enter Try.func28, Try.ntmps28
  go_wp2_with (first | (go_at_call 59; refine Calls.mono HP.out ?_; rintro e w1 ⟨rfl, hg1, hk1⟩; have hc1 := (hk1.cell (p := ⟨b, i, none⟩) hb hX).trans hc; have hz1 := (hk1.frozen (p := ⟨b, i, none⟩) hb hX).trans hz) | (go_at_call 60; refine (word_num _ _ _).mono ?_; rintro e w' ⟨rfl, rfl⟩) | (go_at_call 67; refine (aOr b i x y _ hc1 hz1 s hs.out).mono ?_; rintro e w' ⟨rfl, rfl⟩))
  go_ret
  exact ⟨rfl, g.keep _ (fun k => k = b) _ _ hg1 (kp_setb _ _ _ _) (fun k e hx => hX (e ▸ hx)), ⟨kp_setX hk1 _ _ _, num_at hk1 hX hb _ _⟩⟩

end Go.Proofs.Ytlbfkgecckdlgaa

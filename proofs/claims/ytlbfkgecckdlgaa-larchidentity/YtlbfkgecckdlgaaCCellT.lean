/- Layer 2: what cells of cell.thing do: sync/atomic.Pointer's methods at any place, Cell's through any gate. -/
import Derived.Test.YtlbfkgecckdlgaaCPtr
namespace Go.Proofs.Ytlbfkgecckdlgaa
open Go.RowKit

theorem ptoT {p : Option Addr} {w : World} (h : PtrOk Try.prog 159 w p) : (convert 151 71 (.pointer p)).run Try.prog w = .ok (.pointer p) w :=
  run_to_unsafe (T := 159) (by kernel_rfl) (by kernel_rfl) (by kernel_rfl) (by decide +kernel) h
theorem pfromT {p : Option Addr} {w : World} (h : PtrOk Try.prog 159 w p) : (convert 71 151 (.pointer p)).run Try.prog w = .ok (.pointer p) w :=
  run_from_unsafe (T := 159) (by kernel_rfl) (by kernel_rfl) (by kernel_rfl) (by decide +kernel) (by kernel_rfl) h

theorem wordT (b i : Nat) (w : World) : Calls Try.prog 122 #[.pointer (some ⟨b, i, none⟩)] w fun e w' => e = .returned (.pointer (some ⟨b, i, none⟩)) ∧ w = w' := by
  go_enter Try.func122, Try.ntmps122
  go_wp2
  go_ret
  exact ⟨rfl, rfl⟩

set_option maxRecDepth 100000 in
set_option maxHeartbeats 400000 in
theorem pLoadT (b i : Nat) (x : Option Addr) (w : World) (hc : w.cell? ⟨b, i, none⟩ = some (.pointer x)) (hx : PtrOk Try.prog 159 w x) :
    Calls Try.prog 127 #[.pointer (some ⟨b, i, none⟩)] w fun e w' => e = .returned (.pointer x) ∧ w' = w := by
  have hl := run_call_loadP (P := Try.prog) Try.func114 (by kernel_rfl) (by kernel_rfl) (by kernel_rfl) (by kernel_rfl) hc
  have hv := pfromT hx
  clear hx
  go_enter Try.func127, Try.ntmps127
  go_wp2
  go_ret
  exact ⟨rfl, rfl⟩

set_option maxRecDepth 100000 in
set_option maxHeartbeats 400000 in
theorem pStoreT (b i : Nat) (x y : Option Addr) (w : World) (hc : w.cell? ⟨b, i, none⟩ = some (.pointer x)) (hz : w.frozen? ⟨b, i, none⟩ = false) (hy : PtrOk Try.prog 159 w y) :
    Calls Try.prog 123 #[.pointer (some ⟨b, i, none⟩), .pointer y] w fun e w' => e = .returned (.tuple #[]) ∧ w' = w.setCell ⟨b, i, none⟩ (.pointer y) := by
  have hl := run_call_storeP (P := Try.prog) Try.func112 (by kernel_rfl) (by kernel_rfl) (by kernel_rfl) (by kernel_rfl) (y := y) hc hz
  have hv := ptoT hy
  clear hy
  go_enter Try.func123, Try.ntmps123
  go_wp2
  go_end0
  exact ⟨rfl, rfl⟩

set_option maxRecDepth 100000 in
set_option maxHeartbeats 400000 in
theorem pSwapT (b i : Nat) (x y : Option Addr) (w : World) (hc : w.cell? ⟨b, i, none⟩ = some (.pointer x)) (hz : w.frozen? ⟨b, i, none⟩ = false) (hy : PtrOk Try.prog 159 w y) (hx1 : PtrOk Try.prog 159 (w.setCell ⟨b, i, none⟩ (.pointer y)) x) :
    Calls Try.prog 128 #[.pointer (some ⟨b, i, none⟩), .pointer y] w fun e w' => e = .returned (.pointer x) ∧ w' = w.setCell ⟨b, i, none⟩ (.pointer y) := by
  have hl := run_call_swapP (P := Try.prog) Try.func115 (by kernel_rfl) (by kernel_rfl) (by kernel_rfl) (by kernel_rfl) (y := y) hc hz
  have hv := ptoT hy
  have hu := pfromT hx1
  clear hy hx1
  go_enter Try.func128, Try.ntmps128
  go_wp2
  go_ret
  exact ⟨rfl, rfl⟩

set_option maxRecDepth 100000 in
set_option maxHeartbeats 400000 in
theorem pHitT (b i : Nat) (x y : Option Addr) (w : World) (hc : w.cell? ⟨b, i, none⟩ = some (.pointer x)) (hz : w.frozen? ⟨b, i, none⟩ = false) (hx : PtrOk Try.prog 159 w x) (hy : PtrOk Try.prog 159 w y) :
    Calls Try.prog 129 #[.pointer (some ⟨b, i, none⟩), .pointer x, .pointer y] w fun e w' => e = .returned (.bool true) ∧ w' = w.setCell ⟨b, i, none⟩ (.pointer y) := by
  have hl := run_call_casP (P := Try.prog) Try.func113 (by kernel_rfl) (by kernel_rfl) (by kernel_rfl) (by kernel_rfl) (y := y) hc hz (run_samePointer_same w x)
  rw [if_pos rfl] at hl
  have hv := ptoT hy
  have hu := ptoT hx
  clear hx hy
  go_enter Try.func129, Try.ntmps129
  go_wp2
  go_ret
  exact ⟨rfl, rfl⟩

set_option maxRecDepth 100000 in
set_option maxHeartbeats 400000 in
theorem pMissT (b i : Nat) (x o y : Option Addr) (hne : x ≠ o) (w : World) (hc : w.cell? ⟨b, i, none⟩ = some (.pointer x)) (hz : w.frozen? ⟨b, i, none⟩ = false) (hx : PtrOk Try.prog 159 w x) (ho : PtrOk Try.prog 159 w o) (hy : PtrOk Try.prog 159 w y) :
    Calls Try.prog 129 #[.pointer (some ⟨b, i, none⟩), .pointer o, .pointer y] w fun e w' => e = .returned (.bool false) ∧ w' = w := by
  have hl := run_call_casP (P := Try.prog) Try.func113 (by kernel_rfl) (by kernel_rfl) (by kernel_rfl) (by kernel_rfl) (y := y) hc hz (run_samePointer_other hne hx ho)
  rw [if_neg (by simp)] at hl
  have hv := ptoT hy
  have hu := ptoT ho
  clear hx hy ho hne
  go_enter Try.func129, Try.ntmps129
  go_wp2
  go_ret
  exact ⟨rfl, rfl⟩

set_option maxRecDepth 100000 in
set_option maxHeartbeats 400000 in
theorem cLoadT {gv : Value} {X : Nat → Prop} {most : Nat} {G : List Int → World → Prop} (g : GateOk gv X most G) (ks : List Int) (hk : ks.length < most) (b i : Nat) (x : Option Addr) (w : World) (hG : G ks w) (hX : ¬ X b) (hb : b < w.heap.size) (hc : w.cell? ⟨b, i, none⟩ = some (.pointer x)) (hz : w.frozen? ⟨b, i, none⟩ = false) (hx : ∀ w1, Kp X w w1 → PtrOk Try.prog 159 w1 x) :
    Calls Try.prog 95 #[.pointer (some ⟨b, i, none⟩), gv] w fun e w' => e = .returned (.pointer x) ∧ G (ks ++ [1]) w' ∧ VStep X b i (.pointer x) w w' := by
  have HP : Hid _ := g.pass ks 1 w hG hk
  have Hx : Hid _ := hx
  clear hx
  go_enter Try.func95, Try.ntmps95
  go_wp2_with (first | (go_at_call 59; refine Calls.mono HP.out ?_; rintro e w1 ⟨rfl, hg1, hk1⟩; have hc1 := (hk1.cell (p := ⟨b, i, none⟩) hb hX).trans hc; have hz1 := (hk1.frozen (p := ⟨b, i, none⟩) hb hX).trans hz; have px := Hx.out w1 hk1) | (go_at_call 122; refine (wordT _ _ _).mono ?_; rintro e w' ⟨rfl, rfl⟩) | (go_at_call 127; refine (pLoadT b i x _ hc1 px).mono ?_; rintro e w' ⟨rfl, rfl⟩))
  go_ret
  exact ⟨rfl, g.keep _ (fun k => k = b) _ _ hg1 (Kp.refl _ _) (fun k e hx => hX (e ▸ hx)), ⟨hk1.mono (fun k h => Or.inl h), num_same hk1 hX hb hc⟩⟩

set_option maxRecDepth 100000 in
set_option maxHeartbeats 400000 in
theorem cStoreT {gv : Value} {X : Nat → Prop} {most : Nat} {G : List Int → World → Prop} (g : GateOk gv X most G) (ks : List Int) (hk : ks.length < most) (b i : Nat) (x y : Option Addr) (w : World) (hG : G ks w) (hX : ¬ X b) (hb : b < w.heap.size) (hc : w.cell? ⟨b, i, none⟩ = some (.pointer x)) (hz : w.frozen? ⟨b, i, none⟩ = false) (hy : ∀ w1, Kp X w w1 → PtrOk Try.prog 159 w1 y) :
    Calls Try.prog 90 #[.pointer (some ⟨b, i, none⟩), gv, .pointer y] w fun e w' => e = .returned (.tuple #[]) ∧ G (ks ++ [2]) w' ∧ VStep X b i (.pointer y) w w' := by
  have HP : Hid _ := g.pass ks 2 w hG hk
  have Hy : Hid _ := hy
  clear hy
  go_enter Try.func90, Try.ntmps90
  go_wp2_with (first | (go_at_call 59; refine Calls.mono HP.out ?_; rintro e w1 ⟨rfl, hg1, hk1⟩; have hc1 := (hk1.cell (p := ⟨b, i, none⟩) hb hX).trans hc; have hz1 := (hk1.frozen (p := ⟨b, i, none⟩) hb hX).trans hz; have py := Hy.out w1 hk1) | (go_at_call 122; refine (wordT _ _ _).mono ?_; rintro e w' ⟨rfl, rfl⟩) | (go_at_call 123; refine (pStoreT b i x y _ hc1 hz1 py).mono ?_; rintro e w' ⟨rfl, rfl⟩))
  go_end0
  exact ⟨rfl, g.keep _ (fun k => k = b) _ _ hg1 (kp_setb _ _ _ _) (fun k e hx => hX (e ▸ hx)), ⟨kp_setX hk1 _ _ _, num_at hk1 hX hb _ _⟩⟩

set_option maxRecDepth 100000 in
set_option maxHeartbeats 400000 in
theorem cSwapT {gv : Value} {X : Nat → Prop} {most : Nat} {G : List Int → World → Prop} (g : GateOk gv X most G) (ks : List Int) (hk : ks.length < most) (b i : Nat) (x y : Option Addr) (w : World) (hG : G ks w) (hX : ¬ X b) (hb : b < w.heap.size) (hc : w.cell? ⟨b, i, none⟩ = some (.pointer x)) (hz : w.frozen? ⟨b, i, none⟩ = false) (hx : ∀ w1, Kp X w w1 → PtrOk Try.prog 159 w1 x) (hy : ∀ w1, Kp X w w1 → PtrOk Try.prog 159 w1 y) (hxb : ∀ b', x = some ⟨b', 0, none⟩ → ¬ b' = b) :
    Calls Try.prog 124 #[.pointer (some ⟨b, i, none⟩), gv, .pointer y] w fun e w' => e = .returned (.pointer x) ∧ G (ks ++ [4]) w' ∧ VStep X b i (.pointer y) w w' := by
  have HP : Hid _ := g.pass ks 4 w hG hk
  have Hx : Hid _ := hx
  have Hy : Hid _ := hy
  clear hx hy
  go_enter Try.func124, Try.ntmps124
  go_wp2_with (first | (go_at_call 59; refine Calls.mono HP.out ?_; rintro e w1 ⟨rfl, hg1, hk1⟩; have hc1 := (hk1.cell (p := ⟨b, i, none⟩) hb hX).trans hc; have hz1 := (hk1.frozen (p := ⟨b, i, none⟩) hb hX).trans hz; have px := Hx.out w1 hk1; have py := Hy.out w1 hk1) | (go_at_call 122; refine (wordT _ _ _).mono ?_; rintro e w' ⟨rfl, rfl⟩) | (go_at_call 128; refine (pSwapT b i x y _ hc1 hz1 py (px.kp (kp_setb _ _ _ _) hxb)).mono ?_; rintro e w' ⟨rfl, rfl⟩))
  go_ret
  exact ⟨rfl, g.keep _ (fun k => k = b) _ _ hg1 (kp_setb _ _ _ _) (fun k e hx => hX (e ▸ hx)), ⟨kp_setX hk1 _ _ _, num_at hk1 hX hb _ _⟩⟩

set_option maxRecDepth 100000 in
set_option maxHeartbeats 400000 in
theorem cHitT {gv : Value} {X : Nat → Prop} {most : Nat} {G : List Int → World → Prop} (g : GateOk gv X most G) (ks : List Int) (hk : ks.length < most) (b i : Nat) (x y : Option Addr) (w : World) (hG : G ks w) (hX : ¬ X b) (hb : b < w.heap.size) (hc : w.cell? ⟨b, i, none⟩ = some (.pointer x)) (hz : w.frozen? ⟨b, i, none⟩ = false) (hx : ∀ w1, Kp X w w1 → PtrOk Try.prog 159 w1 x) (hy : ∀ w1, Kp X w w1 → PtrOk Try.prog 159 w1 y) :
    Calls Try.prog 125 #[.pointer (some ⟨b, i, none⟩), gv, .pointer x, .pointer y] w fun e w' => e = .returned (.bool true) ∧ G (ks ++ [5]) w' ∧ VStep X b i (.pointer y) w w' := by
  have HP : Hid _ := g.pass ks 5 w hG hk
  have Hx : Hid _ := hx
  have Hy : Hid _ := hy
  clear hx hy
  go_enter Try.func125, Try.ntmps125
  go_wp2_with (first | (go_at_call 59; refine Calls.mono HP.out ?_; rintro e w1 ⟨rfl, hg1, hk1⟩; have hc1 := (hk1.cell (p := ⟨b, i, none⟩) hb hX).trans hc; have hz1 := (hk1.frozen (p := ⟨b, i, none⟩) hb hX).trans hz; have px := Hx.out w1 hk1; have py := Hy.out w1 hk1) | (go_at_call 122; refine (wordT _ _ _).mono ?_; rintro e w' ⟨rfl, rfl⟩) | (go_at_call 129; refine (pHitT b i x y _ hc1 hz1 px py).mono ?_; rintro e w' ⟨rfl, rfl⟩))
  go_ret
  exact ⟨rfl, g.keep _ (fun k => k = b) _ _ hg1 (kp_setb _ _ _ _) (fun k e hx => hX (e ▸ hx)), ⟨kp_setX hk1 _ _ _, num_at hk1 hX hb _ _⟩⟩

set_option maxRecDepth 100000 in
set_option maxHeartbeats 400000 in
theorem cMissT {gv : Value} {X : Nat → Prop} {most : Nat} {G : List Int → World → Prop} (g : GateOk gv X most G) (ks : List Int) (hk : ks.length < most) (b i : Nat) (x o y : Option Addr) (w : World) (hG : G ks w) (hX : ¬ X b) (hb : b < w.heap.size) (hc : w.cell? ⟨b, i, none⟩ = some (.pointer x)) (hz : w.frozen? ⟨b, i, none⟩ = false) (hx : ∀ w1, Kp X w w1 → PtrOk Try.prog 159 w1 x) (ho : ∀ w1, Kp X w w1 → PtrOk Try.prog 159 w1 o) (hy : ∀ w1, Kp X w w1 → PtrOk Try.prog 159 w1 y) (hne : Hid (x ≠ o)) :
    Calls Try.prog 125 #[.pointer (some ⟨b, i, none⟩), gv, .pointer o, .pointer y] w fun e w' => e = .returned (.bool false) ∧ G (ks ++ [5]) w' ∧ VStep X b i (.pointer x) w w' := by
  have HP : Hid _ := g.pass ks 5 w hG hk
  have Hx : Hid _ := hx
  have Ho : Hid _ := ho
  have Hy : Hid _ := hy
  clear hx ho hy
  go_enter Try.func125, Try.ntmps125
  go_wp2_with (first | (go_at_call 59; refine Calls.mono HP.out ?_; rintro e w1 ⟨rfl, hg1, hk1⟩; have hc1 := (hk1.cell (p := ⟨b, i, none⟩) hb hX).trans hc; have hz1 := (hk1.frozen (p := ⟨b, i, none⟩) hb hX).trans hz; have px := Hx.out w1 hk1; have po := Ho.out w1 hk1; have py := Hy.out w1 hk1) | (go_at_call 122; refine (wordT _ _ _).mono ?_; rintro e w' ⟨rfl, rfl⟩) | (go_at_call 129; refine (pMissT b i x o y hne.out _ hc1 hz1 px po py).mono ?_; rintro e w' ⟨rfl, rfl⟩))
  go_ret
  exact ⟨rfl, g.keep _ (fun k => k = b) _ _ hg1 (Kp.refl _ _) (fun k e hx => hX (e ▸ hx)), ⟨hk1.mono (fun k h => Or.inl h), num_same hk1 hX hb hc⟩⟩
end Go.Proofs.Ytlbfkgecckdlgaa

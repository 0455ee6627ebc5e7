/- Layer 2: what cells of larchlaw02.pair do: sync/atomic.Pointer's methods at any place, Cell's through any gate. -/
import Derived.Test.YtlbfkgecckdlgaaCPtr
namespace Go.Proofs.Ytlbfkgecckdlgaa
open Go.RowKit

theorem ptoP {p : Option Addr} {w : World} (h : PtrOk Try.prog 62 w p) : (convert 60 71 (.pointer p)).run Try.prog w = .ok (.pointer p) w :=
  run_to_unsafe (T := 62) (by kernel_rfl) (by kernel_rfl) (by kernel_rfl) (by decide +kernel) h
theorem pfromP {p : Option Addr} {w : World} (h : PtrOk Try.prog 62 w p) : (convert 71 60 (.pointer p)).run Try.prog w = .ok (.pointer p) w :=
  run_from_unsafe (T := 62) (by kernel_rfl) (by kernel_rfl) (by kernel_rfl) (by decide +kernel) (by kernel_rfl) h

theorem wordP (b i : Nat) (w : World) : Calls Try.prog 70 #[.pointer (some ⟨b, i, none⟩)] w fun e w' => e = .returned (.pointer (some ⟨b, i, none⟩)) ∧ w = w' := by
  go_enter Try.func70, Try.ntmps70
  go_wp2
  go_ret
  exact ⟨rfl, rfl⟩

set_option maxRecDepth 100000 in
set_option maxHeartbeats 400000 in
theorem pLoadP (b i : Nat) (x : Option Addr) (w : World) (hc : w.cell? ⟨b, i, none⟩ = some (.pointer x)) (hx : PtrOk Try.prog 62 w x) :
    Calls Try.prog 72 #[.pointer (some ⟨b, i, none⟩)] w fun e w' => e = .returned (.pointer x) ∧ w' = w := by
  have hl := run_call_loadP (P := Try.prog) Try.func114 (by kernel_rfl) (by kernel_rfl) (by kernel_rfl) (by kernel_rfl) hc
  have hv := pfromP hx
  clear hx
  go_enter Try.func72, Try.ntmps72
  go_wp2
  go_ret
  exact ⟨rfl, rfl⟩

set_option maxRecDepth 100000 in
set_option maxHeartbeats 400000 in
theorem pStoreP (b i : Nat) (x y : Option Addr) (w : World) (hc : w.cell? ⟨b, i, none⟩ = some (.pointer x)) (hz : w.frozen? ⟨b, i, none⟩ = false) (hy : PtrOk Try.prog 62 w y) :
    Calls Try.prog 69 #[.pointer (some ⟨b, i, none⟩), .pointer y] w fun e w' => e = .returned (.tuple #[]) ∧ w' = w.setCell ⟨b, i, none⟩ (.pointer y) := by
  have hl := run_call_storeP (P := Try.prog) Try.func112 (by kernel_rfl) (by kernel_rfl) (by kernel_rfl) (by kernel_rfl) (y := y) hc hz
  have hv := ptoP hy
  clear hy
  go_enter Try.func69, Try.ntmps69
  go_wp2
  go_end0
  exact ⟨rfl, rfl⟩

set_option maxRecDepth 100000 in
set_option maxHeartbeats 400000 in
theorem pSwapP (b i : Nat) (x y : Option Addr) (w : World) (hc : w.cell? ⟨b, i, none⟩ = some (.pointer x)) (hz : w.frozen? ⟨b, i, none⟩ = false) (hy : PtrOk Try.prog 62 w y) (hx1 : PtrOk Try.prog 62 (w.setCell ⟨b, i, none⟩ (.pointer y)) x) :
    Calls Try.prog 73 #[.pointer (some ⟨b, i, none⟩), .pointer y] w fun e w' => e = .returned (.pointer x) ∧ w' = w.setCell ⟨b, i, none⟩ (.pointer y) := by
  have hl := run_call_swapP (P := Try.prog) Try.func115 (by kernel_rfl) (by kernel_rfl) (by kernel_rfl) (by kernel_rfl) (y := y) hc hz
  have hv := ptoP hy
  have hu := pfromP hx1
  clear hy hx1
  go_enter Try.func73, Try.ntmps73
  go_wp2
  go_ret
  exact ⟨rfl, rfl⟩

set_option maxRecDepth 100000 in
set_option maxHeartbeats 400000 in
theorem pHitP (b i : Nat) (x y : Option Addr) (w : World) (hc : w.cell? ⟨b, i, none⟩ = some (.pointer x)) (hz : w.frozen? ⟨b, i, none⟩ = false) (hx : PtrOk Try.prog 62 w x) (hy : PtrOk Try.prog 62 w y) :
    Calls Try.prog 71 #[.pointer (some ⟨b, i, none⟩), .pointer x, .pointer y] w fun e w' => e = .returned (.bool true) ∧ w' = w.setCell ⟨b, i, none⟩ (.pointer y) := by
  have hl := run_call_casP (P := Try.prog) Try.func113 (by kernel_rfl) (by kernel_rfl) (by kernel_rfl) (by kernel_rfl) (y := y) hc hz (run_samePointer_same w x)
  rw [if_pos rfl] at hl
  have hv := ptoP hy
  have hu := ptoP hx
  clear hx hy
  go_enter Try.func71, Try.ntmps71
  go_wp2
  go_ret
  exact ⟨rfl, rfl⟩

set_option maxRecDepth 100000 in
set_option maxHeartbeats 400000 in
theorem pMissP (b i : Nat) (x o y : Option Addr) (hne : x ≠ o) (w : World) (hc : w.cell? ⟨b, i, none⟩ = some (.pointer x)) (hz : w.frozen? ⟨b, i, none⟩ = false) (hx : PtrOk Try.prog 62 w x) (ho : PtrOk Try.prog 62 w o) (hy : PtrOk Try.prog 62 w y) :
    Calls Try.prog 71 #[.pointer (some ⟨b, i, none⟩), .pointer o, .pointer y] w fun e w' => e = .returned (.bool false) ∧ w' = w := by
  have hl := run_call_casP (P := Try.prog) Try.func113 (by kernel_rfl) (by kernel_rfl) (by kernel_rfl) (by kernel_rfl) (y := y) hc hz (run_samePointer_other hne hx ho)
  rw [if_neg (by simp)] at hl
  have hv := ptoP hy
  have hu := ptoP ho
  clear hx hy ho hne
  go_enter Try.func71, Try.ntmps71
  go_wp2
  go_ret
  exact ⟨rfl, rfl⟩

set_option maxRecDepth 100000 in
set_option maxHeartbeats 400000 in
theorem cLoadP {gv : Value} {X : Nat → Prop} {most : Nat} {G : List Int → World → Prop} (g : GateOk gv X most G) (ks : List Int) (hk : ks.length < most) (b i : Nat) (x : Option Addr) (w : World) (hG : G ks w) (hX : ¬ X b) (hb : b < w.heap.size) (hc : w.cell? ⟨b, i, none⟩ = some (.pointer x)) (hz : w.frozen? ⟨b, i, none⟩ = false) (hx : ∀ w1, Kp X w w1 → PtrOk Try.prog 62 w1 x) :
    Calls Try.prog 32 #[.pointer (some ⟨b, i, none⟩), gv] w fun e w' => e = .returned (.pointer x) ∧ G (ks ++ [1]) w' ∧ VStep X b i (.pointer x) w w' := by
  have HP : Hid _ := g.pass ks 1 w hG hk
  have Hx : Hid _ := hx
  clear hx
  go_enter Try.func32, Try.ntmps32
  go_wp2_with (first | (go_at_call 59; refine Calls.mono HP.out ?_; rintro e w1 ⟨rfl, hg1, hk1⟩; have hc1 := (hk1.cell (p := ⟨b, i, none⟩) hb hX).trans hc; have hz1 := (hk1.frozen (p := ⟨b, i, none⟩) hb hX).trans hz; have px := Hx.out w1 hk1) | (go_at_call 70; refine (wordP _ _ _).mono ?_; rintro e w' ⟨rfl, rfl⟩) | (go_at_call 72; refine (pLoadP b i x _ hc1 px).mono ?_; rintro e w' ⟨rfl, rfl⟩))
  go_ret
  exact ⟨rfl, g.keep _ (fun k => k = b) _ _ hg1 (Kp.refl _ _) (fun k e hx => hX (e ▸ hx)), ⟨hk1.mono (fun k h => Or.inl h), num_same hk1 hX hb hc⟩⟩

set_option maxRecDepth 100000 in
set_option maxHeartbeats 400000 in
theorem cStoreP {gv : Value} {X : Nat → Prop} {most : Nat} {G : List Int → World → Prop} (g : GateOk gv X most G) (ks : List Int) (hk : ks.length < most) (b i : Nat) (x y : Option Addr) (w : World) (hG : G ks w) (hX : ¬ X b) (hb : b < w.heap.size) (hc : w.cell? ⟨b, i, none⟩ = some (.pointer x)) (hz : w.frozen? ⟨b, i, none⟩ = false) (hy : ∀ w1, Kp X w w1 → PtrOk Try.prog 62 w1 y) :
    Calls Try.prog 34 #[.pointer (some ⟨b, i, none⟩), gv, .pointer y] w fun e w' => e = .returned (.tuple #[]) ∧ G (ks ++ [2]) w' ∧ VStep X b i (.pointer y) w w' := by
  have HP : Hid _ := g.pass ks 2 w hG hk
  have Hy : Hid _ := hy
  clear hy
  go_enter Try.func34, Try.ntmps34
  go_wp2_with (first | (go_at_call 59; refine Calls.mono HP.out ?_; rintro e w1 ⟨rfl, hg1, hk1⟩; have hc1 := (hk1.cell (p := ⟨b, i, none⟩) hb hX).trans hc; have hz1 := (hk1.frozen (p := ⟨b, i, none⟩) hb hX).trans hz; have py := Hy.out w1 hk1) | (go_at_call 70; refine (wordP _ _ _).mono ?_; rintro e w' ⟨rfl, rfl⟩) | (go_at_call 69; refine (pStoreP b i x y _ hc1 hz1 py).mono ?_; rintro e w' ⟨rfl, rfl⟩))
  go_end0
  exact ⟨rfl, g.keep _ (fun k => k = b) _ _ hg1 (kp_setb _ _ _ _) (fun k e hx => hX (e ▸ hx)), ⟨kp_setX hk1 _ _ _, num_at hk1 hX hb _ _⟩⟩

set_option maxRecDepth 100000 in
set_option maxHeartbeats 400000 in
theorem cSwapP {gv : Value} {X : Nat → Prop} {most : Nat} {G : List Int → World → Prop} (g : GateOk gv X most G) (ks : List Int) (hk : ks.length < most) (b i : Nat) (x y : Option Addr) (w : World) (hG : G ks w) (hX : ¬ X b) (hb : b < w.heap.size) (hc : w.cell? ⟨b, i, none⟩ = some (.pointer x)) (hz : w.frozen? ⟨b, i, none⟩ = false) (hx : ∀ w1, Kp X w w1 → PtrOk Try.prog 62 w1 x) (hy : ∀ w1, Kp X w w1 → PtrOk Try.prog 62 w1 y) (hxb : ∀ b', x = some ⟨b', 0, none⟩ → ¬ b' = b) :
    Calls Try.prog 33 #[.pointer (some ⟨b, i, none⟩), gv, .pointer y] w fun e w' => e = .returned (.pointer x) ∧ G (ks ++ [4]) w' ∧ VStep X b i (.pointer y) w w' := by
  have HP : Hid _ := g.pass ks 4 w hG hk
  have Hx : Hid _ := hx
  have Hy : Hid _ := hy
  clear hx hy
  go_enter Try.func33, Try.ntmps33
  go_wp2_with (first | (go_at_call 59; refine Calls.mono HP.out ?_; rintro e w1 ⟨rfl, hg1, hk1⟩; have hc1 := (hk1.cell (p := ⟨b, i, none⟩) hb hX).trans hc; have hz1 := (hk1.frozen (p := ⟨b, i, none⟩) hb hX).trans hz; have px := Hx.out w1 hk1; have py := Hy.out w1 hk1) | (go_at_call 70; refine (wordP _ _ _).mono ?_; rintro e w' ⟨rfl, rfl⟩) | (go_at_call 73; refine (pSwapP b i x y _ hc1 hz1 py (px.kp (kp_setb _ _ _ _) hxb)).mono ?_; rintro e w' ⟨rfl, rfl⟩))
  go_ret
  exact ⟨rfl, g.keep _ (fun k => k = b) _ _ hg1 (kp_setb _ _ _ _) (fun k e hx => hX (e ▸ hx)), ⟨kp_setX hk1 _ _ _, num_at hk1 hX hb _ _⟩⟩

set_option maxRecDepth 100000 in
set_option maxHeartbeats 400000 in
theorem cHitP {gv : Value} {X : Nat → Prop} {most : Nat} {G : List Int → World → Prop} (g : GateOk gv X most G) (ks : List Int) (hk : ks.length < most) (b i : Nat) (x y : Option Addr) (w : World) (hG : G ks w) (hX : ¬ X b) (hb : b < w.heap.size) (hc : w.cell? ⟨b, i, none⟩ = some (.pointer x)) (hz : w.frozen? ⟨b, i, none⟩ = false) (hx : ∀ w1, Kp X w w1 → PtrOk Try.prog 62 w1 x) (hy : ∀ w1, Kp X w w1 → PtrOk Try.prog 62 w1 y) :
    Calls Try.prog 31 #[.pointer (some ⟨b, i, none⟩), gv, .pointer x, .pointer y] w fun e w' => e = .returned (.bool true) ∧ G (ks ++ [5]) w' ∧ VStep X b i (.pointer y) w w' := by
  have HP : Hid _ := g.pass ks 5 w hG hk
  have Hx : Hid _ := hx
  have Hy : Hid _ := hy
  clear hx hy
  go_enter Try.func31, Try.ntmps31
  go_wp2_with (first | (go_at_call 59; refine Calls.mono HP.out ?_; rintro e w1 ⟨rfl, hg1, hk1⟩; have hc1 := (hk1.cell (p := ⟨b, i, none⟩) hb hX).trans hc; have hz1 := (hk1.frozen (p := ⟨b, i, none⟩) hb hX).trans hz; have px := Hx.out w1 hk1; have py := Hy.out w1 hk1) | (go_at_call 70; refine (wordP _ _ _).mono ?_; rintro e w' ⟨rfl, rfl⟩) | (go_at_call 71; refine (pHitP b i x y _ hc1 hz1 px py).mono ?_; rintro e w' ⟨rfl, rfl⟩))
  go_ret
  exact ⟨rfl, g.keep _ (fun k => k = b) _ _ hg1 (kp_setb _ _ _ _) (fun k e hx => hX (e ▸ hx)), ⟨kp_setX hk1 _ _ _, num_at hk1 hX hb _ _⟩⟩

set_option maxRecDepth 100000 in
set_option maxHeartbeats 400000 in
theorem cMissP {gv : Value} {X : Nat → Prop} {most : Nat} {G : List Int → World → Prop} (g : GateOk gv X most G) (ks : List Int) (hk : ks.length < most) (b i : Nat) (x o y : Option Addr) (w : World) (hG : G ks w) (hX : ¬ X b) (hb : b < w.heap.size) (hc : w.cell? ⟨b, i, none⟩ = some (.pointer x)) (hz : w.frozen? ⟨b, i, none⟩ = false) (hx : ∀ w1, Kp X w w1 → PtrOk Try.prog 62 w1 x) (ho : ∀ w1, Kp X w w1 → PtrOk Try.prog 62 w1 o) (hy : ∀ w1, Kp X w w1 → PtrOk Try.prog 62 w1 y) (hne : Hid (x ≠ o)) :
    Calls Try.prog 31 #[.pointer (some ⟨b, i, none⟩), gv, .pointer o, .pointer y] w fun e w' => e = .returned (.bool false) ∧ G (ks ++ [5]) w' ∧ VStep X b i (.pointer x) w w' := by
  have HP : Hid _ := g.pass ks 5 w hG hk
  have Hx : Hid _ := hx
  have Ho : Hid _ := ho
  have Hy : Hid _ := hy
  clear hx ho hy
  go_enter Try.func31, Try.ntmps31
  go_wp2_with (first | (go_at_call 59; refine Calls.mono HP.out ?_; rintro e w1 ⟨rfl, hg1, hk1⟩; have hc1 := (hk1.cell (p := ⟨b, i, none⟩) hb hX).trans hc; have hz1 := (hk1.frozen (p := ⟨b, i, none⟩) hb hX).trans hz; have px := Hx.out w1 hk1; have po := Ho.out w1 hk1; have py := Hy.out w1 hk1) | (go_at_call 70; refine (wordP _ _ _).mono ?_; rintro e w' ⟨rfl, rfl⟩) | (go_at_call 71; refine (pMissP b i x o y hne.out _ hc1 hz1 px po py).mono ?_; rintro e w' ⟨rfl, rfl⟩))
  go_ret
  exact ⟨rfl, g.keep _ (fun k => k = b) _ _ hg1 (Kp.refl _ _) (fun k e hx => hX (e ▸ hx)), ⟨hk1.mono (fun k h => Or.inl h), num_same hk1 hX hb hc⟩⟩
end Go.Proofs.Ytlbfkgecckdlgaa

/- Layer 2: what cells of string do: sync/atomic.Pointer's methods at any place, Cell's through any gate. -/
import Derived.Test.YtlbfkgecckdlgaaCPtr
namespace Go.Proofs.Ytlbfkgecckdlgaa
open Go.RowKit

theorem ptoS {p : Option Addr} {w : World} (h : PtrOk Try.prog 9 w p) : (convert 69 71 (.pointer p)).run Try.prog w = .ok (.pointer p) w :=
  run_to_unsafe (T := 9) (by kernel_rfl) (by kernel_rfl) (by kernel_rfl) (by decide +kernel) h
theorem pfromS {p : Option Addr} {w : World} (h : PtrOk Try.prog 9 w p) : (convert 71 69 (.pointer p)).run Try.prog w = .ok (.pointer p) w :=
  run_from_unsafe (T := 9) (by kernel_rfl) (by kernel_rfl) (by kernel_rfl) (by decide +kernel) (by kernel_rfl) h

theorem wordS (b i : Nat) (w : World) : Calls Try.prog 74 #[.pointer (some ⟨b, i, none⟩)] w fun e w' => e = .returned (.pointer (some ⟨b, i, none⟩)) ∧ w = w' := by
  go_enter Try.func74, Try.ntmps74
  go_wp2
  go_ret
  exact ⟨rfl, rfl⟩

set_option maxRecDepth 100000 in
set_option maxHeartbeats 400000 in
theorem pLoadS (b i : Nat) (x : Option Addr) (w : World) (hc : w.cell? ⟨b, i, none⟩ = some (.pointer x)) (hx : PtrOk Try.prog 9 w x) :
    Calls Try.prog 75 #[.pointer (some ⟨b, i, none⟩)] w fun e w' => e = .returned (.pointer x) ∧ w' = w := by
  have hl := run_call_loadP (P := Try.prog) Try.func114 (by kernel_rfl) (by kernel_rfl) (by kernel_rfl) (by kernel_rfl) hc
  have hv := pfromS hx
  clear hx
  go_enter Try.func75, Try.ntmps75
  go_wp2
  go_ret
  exact ⟨rfl, rfl⟩

set_option maxRecDepth 100000 in
set_option maxHeartbeats 400000 in
theorem pHitS (b i : Nat) (x y : Option Addr) (w : World) (hc : w.cell? ⟨b, i, none⟩ = some (.pointer x)) (hz : w.frozen? ⟨b, i, none⟩ = false) (hx : PtrOk Try.prog 9 w x) (hy : PtrOk Try.prog 9 w y) :
    Calls Try.prog 76 #[.pointer (some ⟨b, i, none⟩), .pointer x, .pointer y] w fun e w' => e = .returned (.bool true) ∧ w' = w.setCell ⟨b, i, none⟩ (.pointer y) := by
  have hl := run_call_casP (P := Try.prog) Try.func113 (by kernel_rfl) (by kernel_rfl) (by kernel_rfl) (by kernel_rfl) (y := y) hc hz (run_samePointer_same w x)
  rw [if_pos rfl] at hl
  have hv := ptoS hy
  have hu := ptoS hx
  clear hx hy
  go_enter Try.func76, Try.ntmps76
  go_wp2
  go_ret
  exact ⟨rfl, rfl⟩

set_option maxRecDepth 100000 in
set_option maxHeartbeats 400000 in
theorem pMissS (b i : Nat) (x o y : Option Addr) (hne : x ≠ o) (w : World) (hc : w.cell? ⟨b, i, none⟩ = some (.pointer x)) (hz : w.frozen? ⟨b, i, none⟩ = false) (hx : PtrOk Try.prog 9 w x) (ho : PtrOk Try.prog 9 w o) (hy : PtrOk Try.prog 9 w y) :
    Calls Try.prog 76 #[.pointer (some ⟨b, i, none⟩), .pointer o, .pointer y] w fun e w' => e = .returned (.bool false) ∧ w' = w := by
  have hl := run_call_casP (P := Try.prog) Try.func113 (by kernel_rfl) (by kernel_rfl) (by kernel_rfl) (by kernel_rfl) (y := y) hc hz (run_samePointer_other hne hx ho)
  rw [if_neg (by simp)] at hl
  have hv := ptoS hy
  have hu := ptoS ho
  clear hx hy ho hne
  go_enter Try.func76, Try.ntmps76
  go_wp2
  go_ret
  exact ⟨rfl, rfl⟩

set_option maxRecDepth 100000 in
set_option maxHeartbeats 400000 in
theorem cLoadS {gv : Value} {X : Nat → Prop} {most : Nat} {G : List Int → World → Prop} (g : GateOk gv X most G) (ks : List Int) (hk : ks.length < most) (b i : Nat) (x : Option Addr) (w : World) (hG : G ks w) (hX : ¬ X b) (hb : b < w.heap.size) (hc : w.cell? ⟨b, i, none⟩ = some (.pointer x)) (hz : w.frozen? ⟨b, i, none⟩ = false) (hx : ∀ w1, Kp X w w1 → PtrOk Try.prog 9 w1 x) :
    Calls Try.prog 35 #[.pointer (some ⟨b, i, none⟩), gv] w fun e w' => e = .returned (.pointer x) ∧ G (ks ++ [1]) w' ∧ VStep X b i (.pointer x) w w' := by
  have HP : Hid _ := g.pass ks 1 w hG hk
  have Hx : Hid _ := hx
  clear hx
  go_enter Try.func35, Try.ntmps35
  go_wp2_with (first | (go_at_call 59; refine Calls.mono HP.out ?_; rintro e w1 ⟨rfl, hg1, hk1⟩; have hc1 := (hk1.cell (p := ⟨b, i, none⟩) hb hX).trans hc; have hz1 := (hk1.frozen (p := ⟨b, i, none⟩) hb hX).trans hz; have px := Hx.out w1 hk1) | (go_at_call 74; refine (wordS _ _ _).mono ?_; rintro e w' ⟨rfl, rfl⟩) | (go_at_call 75; refine (pLoadS b i x _ hc1 px).mono ?_; rintro e w' ⟨rfl, rfl⟩))
  go_ret
  exact ⟨rfl, g.keep _ (fun k => k = b) _ _ hg1 (Kp.refl _ _) (fun k e hx => hX (e ▸ hx)), ⟨hk1.mono (fun k h => Or.inl h), num_same hk1 hX hb hc⟩⟩

set_option maxRecDepth 100000 in
set_option maxHeartbeats 400000 in
theorem cHitS {gv : Value} {X : Nat → Prop} {most : Nat} {G : List Int → World → Prop} (g : GateOk gv X most G) (ks : List Int) (hk : ks.length < most) (b i : Nat) (x y : Option Addr) (w : World) (hG : G ks w) (hX : ¬ X b) (hb : b < w.heap.size) (hc : w.cell? ⟨b, i, none⟩ = some (.pointer x)) (hz : w.frozen? ⟨b, i, none⟩ = false) (hx : ∀ w1, Kp X w w1 → PtrOk Try.prog 9 w1 x) (hy : ∀ w1, Kp X w w1 → PtrOk Try.prog 9 w1 y) :
    Calls Try.prog 36 #[.pointer (some ⟨b, i, none⟩), gv, .pointer x, .pointer y] w fun e w' => e = .returned (.bool true) ∧ G (ks ++ [5]) w' ∧ VStep X b i (.pointer y) w w' := by
  have HP : Hid _ := g.pass ks 5 w hG hk
  have Hx : Hid _ := hx
  have Hy : Hid _ := hy
  clear hx hy
  go_enter Try.func36, Try.ntmps36
  go_wp2_with (first | (go_at_call 59; refine Calls.mono HP.out ?_; rintro e w1 ⟨rfl, hg1, hk1⟩; have hc1 := (hk1.cell (p := ⟨b, i, none⟩) hb hX).trans hc; have hz1 := (hk1.frozen (p := ⟨b, i, none⟩) hb hX).trans hz; have px := Hx.out w1 hk1; have py := Hy.out w1 hk1) | (go_at_call 74; refine (wordS _ _ _).mono ?_; rintro e w' ⟨rfl, rfl⟩) | (go_at_call 76; refine (pHitS b i x y _ hc1 hz1 px py).mono ?_; rintro e w' ⟨rfl, rfl⟩))
  go_ret
  exact ⟨rfl, g.keep _ (fun k => k = b) _ _ hg1 (kp_setb _ _ _ _) (fun k e hx => hX (e ▸ hx)), ⟨kp_setX hk1 _ _ _, num_at hk1 hX hb _ _⟩⟩

set_option maxRecDepth 100000 in
set_option maxHeartbeats 400000 in
theorem cMissS {gv : Value} {X : Nat → Prop} {most : Nat} {G : List Int → World → Prop} (g : GateOk gv X most G) (ks : List Int) (hk : ks.length < most) (b i : Nat) (x o y : Option Addr) (w : World) (hG : G ks w) (hX : ¬ X b) (hb : b < w.heap.size) (hc : w.cell? ⟨b, i, none⟩ = some (.pointer x)) (hz : w.frozen? ⟨b, i, none⟩ = false) (hx : ∀ w1, Kp X w w1 → PtrOk Try.prog 9 w1 x) (ho : ∀ w1, Kp X w w1 → PtrOk Try.prog 9 w1 o) (hy : ∀ w1, Kp X w w1 → PtrOk Try.prog 9 w1 y) (hne : Hid (x ≠ o)) :
    Calls Try.prog 36 #[.pointer (some ⟨b, i, none⟩), gv, .pointer o, .pointer y] w fun e w' => e = .returned (.bool false) ∧ G (ks ++ [5]) w' ∧ VStep X b i (.pointer x) w w' := by
  have HP : Hid _ := g.pass ks 5 w hG hk
  have Hx : Hid _ := hx
  have Ho : Hid _ := ho
  have Hy : Hid _ := hy
  clear hx ho hy
  go_enter Try.func36, Try.ntmps36
  go_wp2_with (first | (go_at_call 59; refine Calls.mono HP.out ?_; rintro e w1 ⟨rfl, hg1, hk1⟩; have hc1 := (hk1.cell (p := ⟨b, i, none⟩) hb hX).trans hc; have hz1 := (hk1.frozen (p := ⟨b, i, none⟩) hb hX).trans hz; have px := Hx.out w1 hk1; have po := Ho.out w1 hk1; have py := Hy.out w1 hk1) | (go_at_call 74; refine (wordS _ _ _).mono ?_; rintro e w' ⟨rfl, rfl⟩) | (go_at_call 76; refine (pMissS b i x o y hne.out _ hc1 hz1 px po py).mono ?_; rintro e w' ⟨rfl, rfl⟩))
  go_ret
  exact ⟨rfl, g.keep _ (fun k => k = b) _ _ hg1 (Kp.refl _ _) (fun k e hx => hX (e ▸ hx)), ⟨hk1.mono (fun k h => Or.inl h), num_same hk1 hX hb hc⟩⟩
end Go.Proofs.Ytlbfkgecckdlgaa

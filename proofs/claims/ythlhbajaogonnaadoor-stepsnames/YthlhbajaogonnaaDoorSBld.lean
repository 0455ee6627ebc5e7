
/- Layer 18: build, one walk a kind. Made by mk_sbld.py. -/

import Derived.Test.YthlhbajaogonnaaDoorSBx

namespace Go.Proofs.YthlhbajaogonnaaDoor

open Go.RowKit

attribute [local go_sem ↓] Go.wp_at_zero Go.wp_at_succ

set_option maxRecDepth 100000 in
set_option maxHeartbeats 4000000 in
theorem build1 {w0 w : World} {cb g cap : Nat} {base : Option Addr} {b o c : Nat} {t : NL} {root : Int} {mi : Bool} {x l r : Nat} {ill ilr irl irr irll irlr : Int} (h : Cs w0 w cb g cap base b o c t root mi (x : Int) (l : Int) (r : Int) ill ilr irl irr irll irlr (mt mi t)) (hx : x < t.length) (hl : l < t.length) (hr : r < t.length) (hwx : 0 ≤ (ndAt t x).wt ∧ (ndAt t x).wt ≤ 1000000) :
    Calls Tryd.prog 24 #[.pointer (some ⟨cb, 0, none⟩), .int .i64 1] w fun e w' => e = .returned (.int .i64 (x : Int)) ∧ Cs w0 w' cb g cap base b o c t root mi (x : Int) (l : Int) (r : Int) ill ilr irl irr irll irlr (ovr (wth (wth (mt mi t) l 1) r 1) x ((ndAt t x).wt - 1) (l : Int) (r : Int)) := by
  have SS : Hid (∀ {w' : World} {T : NL}, Cs w0 w' cb g cap base b o c t root mi (x : Int) (l : Int) (r : Int) ill ilr irl irr irll irlr T → (w'.cell? ⟨cb, 3, none⟩ = some (.int .i64 (x : Int)) ∧ w'.cell? ⟨cb, 4, none⟩ = some (.int .i64 (l : Int)) ∧ w'.cell? ⟨cb, 5, none⟩ = some (.int .i64 (r : Int)) ∧ w'.cell? ⟨cb, 6, none⟩ = some (.int .i64 ill) ∧ w'.cell? ⟨cb, 7, none⟩ = some (.int .i64 ilr) ∧ w'.cell? ⟨cb, 8, none⟩ = some (.int .i64 irl) ∧ w'.cell? ⟨cb, 9, none⟩ = some (.int .i64 irr) ∧ w'.cell? ⟨cb, 10, none⟩ = some (.int .i64 irll) ∧ w'.cell? ⟨cb, 11, none⟩ = some (.int .i64 irlr))) := fun q => ⟨q.box.c3, q.box.c4, q.box.c5, q.box.c6, q.box.c7, q.box.c8, q.box.c9, q.box.c10, q.box.c11⟩
  have HO : Hid (∀ {z : World} {T : NL}, Cs w0 z cb g cap base b o c t root mi (x : Int) (l : Int) (r : Int) ill ilr irl irr irll irlr T → ∀ (p : Nat) (a u v : Int), p < t.length → Calls Tryd.prog 30 #[.pointer (some ⟨cb, 0, none⟩), .int .i64 (p : Int), .int .i64 a, .int .i64 u, .int .i64 v] z fun e w' => e = .returned (.int .i64 (p : Int)) ∧ Cs w0 w' cb g cap base b o c t root mi (x : Int) (l : Int) (r : Int) ill ilr irl irr irll irlr (ovr T p a u v)) := fun q p a u v hp => cs_over q p a u v hp
  have HW : Hid (∀ {z : World} {T : NL}, Cs w0 z cb g cap base b o c t root mi (x : Int) (l : Int) (r : Int) ill ilr irl irr irll irlr T → ∀ (p : Nat) (a : Int), p < t.length → Calls Tryd.prog 31 #[.pointer (some ⟨cb, 0, none⟩), .int .i64 (p : Int), .int .i64 a] z fun e w' => e = .returned (.int .i64 (p : Int)) ∧ Cs w0 w' cb g cap base b o c t root mi (x : Int) (l : Int) (r : Int) ill ilr irl irr irll irlr (wth T p a)) := fun q p a hp => cs_with q p a hp
  have HX : Hid (∀ {z : World} {T : NL}, Cs w0 z cb g cap base b o c t root mi (x : Int) (l : Int) (r : Int) ill ilr irl irr irll irlr T → Calls Tryd.prog 29 #[.pointer (some ⟨cb, 0, none⟩), .int .i64 (x : Int)] z fun e w' => e = .returned (.int .i64 (ndAt t x).wt) ∧ Cs w0 w' cb g cap base b o c t root mi (x : Int) (l : Int) (r : Int) ill ilr irl irr irll irlr T) := fun q => cs_weight q x hx
  have H0 : Hid (Cs w0 w cb g cap base b o c t root mi (x : Int) (l : Int) (r : Int) ill ilr irl irr irll irlr (mt mi t)) := h
  obtain ⟨s3, s4, s5, s6, s7, s8, s9, s10, s11⟩ := SS.out h
  clear h
  generalize (ndAt t x).wt = wx at *
  have e1 : IntKind.i64.wrap (wx - 1) = wx - 1 := by rw [IntKind.wrap_i64] <;> omega
  go_enter Tryd.func24, Tryd.ntmps24
  go_wp2_with fail
  go_region_held3 (fun w' => w'.cell? ⟨cb, 3, none⟩ = some (.int .i64 (x : Int)) ∧ w'.cell? ⟨cb, 4, none⟩ = some (.int .i64 (l : Int)) ∧ w'.cell? ⟨cb, 5, none⟩ = some (.int .i64 (r : Int)) ∧ w'.cell? ⟨cb, 6, none⟩ = some (.int .i64 ill) ∧ w'.cell? ⟨cb, 7, none⟩ = some (.int .i64 ilr) ∧ w'.cell? ⟨cb, 8, none⟩ = some (.int .i64 irl) ∧ w'.cell? ⟨cb, 9, none⟩ = some (.int .i64 irr) ∧ w'.cell? ⟨cb, 10, none⟩ = some (.int .i64 irll) ∧ w'.cell? ⟨cb, 11, none⟩ = some (.int .i64 irlr))
    (first | (with_reducible exact X1.out) | go_keep)
    (first | (go_at_call 29; refine (HX.out H0.out.drew).mono ?_; rintro e w1 ⟨rfl, hh⟩; have H1 : Hid (Cs w0 w1 cb g cap base b o c t root mi (x : Int) (l : Int) (r : Int) ill ilr irl irr irll irlr (mt mi t)) := hh; have X1 : Hid _ := SS.out hh; clear hh))
  obtain ⟨s3, s4, s5, s6, s7, s8, s9, s10, s11⟩ := X1.out
  clear X1
  have K0 : Hid True := trivial
  go_wp2_with fail
  go_region_held3 (fun w' => w'.cell? ⟨cb, 3, none⟩ = some (.int .i64 (x : Int)) ∧ w'.cell? ⟨cb, 4, none⟩ = some (.int .i64 (l : Int)) ∧ w'.cell? ⟨cb, 5, none⟩ = some (.int .i64 (r : Int)) ∧ w'.cell? ⟨cb, 6, none⟩ = some (.int .i64 ill) ∧ w'.cell? ⟨cb, 7, none⟩ = some (.int .i64 ilr) ∧ w'.cell? ⟨cb, 8, none⟩ = some (.int .i64 irl) ∧ w'.cell? ⟨cb, 9, none⟩ = some (.int .i64 irr) ∧ w'.cell? ⟨cb, 10, none⟩ = some (.int .i64 irll) ∧ w'.cell? ⟨cb, 11, none⟩ = some (.int .i64 irlr))
    (first | (with_reducible exact X4.out) | (with_reducible exact X3.out) | (with_reducible exact X2.out) | go_keep)
    (first | (go_at_call 31; have hq := K0; refine (HW.out H1.out.drew l 1 hl).mono ?_; rintro e w2 ⟨rfl, hh⟩; have H2 : Hid (Cs w0 w2 cb g cap base b o c t root mi (x : Int) (l : Int) (r : Int) ill ilr irl irr irll irlr (wth (mt mi t) l 1)) := hh; have X2 : Hid _ := SS.out hh; have K1 : Hid True := trivial; clear hh hq K0) | (go_at_call 31; have hq := K1; refine (HW.out H2.out r 1 hr).mono ?_; rintro e w3 ⟨rfl, hh⟩; have H3 : Hid (Cs w0 w3 cb g cap base b o c t root mi (x : Int) (l : Int) (r : Int) ill ilr irl irr irll irlr (wth (wth (mt mi t) l 1) r 1)) := hh; have X3 : Hid _ := SS.out hh; have K2 : Hid True := trivial; clear hh hq K1) | (go_at_call 30; have hq := K2; refine (HO.out H3.out x (wx - 1) (l : Int) (r : Int) hx).mono ?_; rintro e w4 ⟨rfl, hh⟩; have H4 : Hid (Cs w0 w4 cb g cap base b o c t root mi (x : Int) (l : Int) (r : Int) ill ilr irl irr irll irlr (ovr (wth (wth (mt mi t) l 1) r 1) x (wx - 1) (l : Int) (r : Int))) := hh; have X4 : Hid _ := SS.out hh; have K3 : Hid True := trivial; clear hh hq K2))
  go_wp2_with fail
  go_ret
  exact ⟨rfl, H4.out⟩
set_option maxRecDepth 100000 in
set_option maxHeartbeats 4000000 in
theorem build2 {w0 w : World} {cb g cap : Nat} {base : Option Addr} {b o c : Nat} {t : NL} {root : Int} {mi : Bool} {x l r ll lr : Nat} {irl irr irll irlr : Int} (h : Cs w0 w cb g cap base b o c t root mi (x : Int) (l : Int) (r : Int) (ll : Int) (lr : Int) irl irr irll irlr (mt mi t)) (hx : x < t.length) (hl : l < t.length)  :
    Calls Tryd.prog 24 #[.pointer (some ⟨cb, 0, none⟩), .int .i64 2] w fun e w' => e = .returned (.int .i64 (l : Int)) ∧ Cs w0 w' cb g cap base b o c t root mi (x : Int) (l : Int) (r : Int) (ll : Int) (lr : Int) irl irr irll irlr (ovr (ovr (mt mi t) x 0 (lr : Int) (r : Int)) l (ndAt t x).wt (ll : Int) (x : Int)) := by
  have SS : Hid (∀ {w' : World} {T : NL}, Cs w0 w' cb g cap base b o c t root mi (x : Int) (l : Int) (r : Int) (ll : Int) (lr : Int) irl irr irll irlr T → (w'.cell? ⟨cb, 3, none⟩ = some (.int .i64 (x : Int)) ∧ w'.cell? ⟨cb, 4, none⟩ = some (.int .i64 (l : Int)) ∧ w'.cell? ⟨cb, 5, none⟩ = some (.int .i64 (r : Int)) ∧ w'.cell? ⟨cb, 6, none⟩ = some (.int .i64 (ll : Int)) ∧ w'.cell? ⟨cb, 7, none⟩ = some (.int .i64 (lr : Int)) ∧ w'.cell? ⟨cb, 8, none⟩ = some (.int .i64 irl) ∧ w'.cell? ⟨cb, 9, none⟩ = some (.int .i64 irr) ∧ w'.cell? ⟨cb, 10, none⟩ = some (.int .i64 irll) ∧ w'.cell? ⟨cb, 11, none⟩ = some (.int .i64 irlr))) := fun q => ⟨q.box.c3, q.box.c4, q.box.c5, q.box.c6, q.box.c7, q.box.c8, q.box.c9, q.box.c10, q.box.c11⟩
  have HO : Hid (∀ {z : World} {T : NL}, Cs w0 z cb g cap base b o c t root mi (x : Int) (l : Int) (r : Int) (ll : Int) (lr : Int) irl irr irll irlr T → ∀ (p : Nat) (a u v : Int), p < t.length → Calls Tryd.prog 30 #[.pointer (some ⟨cb, 0, none⟩), .int .i64 (p : Int), .int .i64 a, .int .i64 u, .int .i64 v] z fun e w' => e = .returned (.int .i64 (p : Int)) ∧ Cs w0 w' cb g cap base b o c t root mi (x : Int) (l : Int) (r : Int) (ll : Int) (lr : Int) irl irr irll irlr (ovr T p a u v)) := fun q p a u v hp => cs_over q p a u v hp
  have HW : Hid (∀ {z : World} {T : NL}, Cs w0 z cb g cap base b o c t root mi (x : Int) (l : Int) (r : Int) (ll : Int) (lr : Int) irl irr irll irlr T → ∀ (p : Nat) (a : Int), p < t.length → Calls Tryd.prog 31 #[.pointer (some ⟨cb, 0, none⟩), .int .i64 (p : Int), .int .i64 a] z fun e w' => e = .returned (.int .i64 (p : Int)) ∧ Cs w0 w' cb g cap base b o c t root mi (x : Int) (l : Int) (r : Int) (ll : Int) (lr : Int) irl irr irll irlr (wth T p a)) := fun q p a hp => cs_with q p a hp
  have HX : Hid (∀ {z : World} {T : NL}, Cs w0 z cb g cap base b o c t root mi (x : Int) (l : Int) (r : Int) (ll : Int) (lr : Int) irl irr irll irlr T → Calls Tryd.prog 29 #[.pointer (some ⟨cb, 0, none⟩), .int .i64 (x : Int)] z fun e w' => e = .returned (.int .i64 (ndAt t x).wt) ∧ Cs w0 w' cb g cap base b o c t root mi (x : Int) (l : Int) (r : Int) (ll : Int) (lr : Int) irl irr irll irlr T) := fun q => cs_weight q x hx
  have H0 : Hid (Cs w0 w cb g cap base b o c t root mi (x : Int) (l : Int) (r : Int) (ll : Int) (lr : Int) irl irr irll irlr (mt mi t)) := h
  obtain ⟨s3, s4, s5, s6, s7, s8, s9, s10, s11⟩ := SS.out h
  clear h
  generalize (ndAt t x).wt = wx at *
  go_enter Tryd.func24, Tryd.ntmps24
  go_wp2_with fail
  go_region_held3 (fun w' => w'.cell? ⟨cb, 3, none⟩ = some (.int .i64 (x : Int)) ∧ w'.cell? ⟨cb, 4, none⟩ = some (.int .i64 (l : Int)) ∧ w'.cell? ⟨cb, 5, none⟩ = some (.int .i64 (r : Int)) ∧ w'.cell? ⟨cb, 6, none⟩ = some (.int .i64 (ll : Int)) ∧ w'.cell? ⟨cb, 7, none⟩ = some (.int .i64 (lr : Int)) ∧ w'.cell? ⟨cb, 8, none⟩ = some (.int .i64 irl) ∧ w'.cell? ⟨cb, 9, none⟩ = some (.int .i64 irr) ∧ w'.cell? ⟨cb, 10, none⟩ = some (.int .i64 irll) ∧ w'.cell? ⟨cb, 11, none⟩ = some (.int .i64 irlr))
    (first | (with_reducible exact X1.out) | go_keep)
    (first | (go_at_call 29; refine (HX.out H0.out.drew).mono ?_; rintro e w1 ⟨rfl, hh⟩; have H1 : Hid (Cs w0 w1 cb g cap base b o c t root mi (x : Int) (l : Int) (r : Int) (ll : Int) (lr : Int) irl irr irll irlr (mt mi t)) := hh; have X1 : Hid _ := SS.out hh; clear hh))
  obtain ⟨s3, s4, s5, s6, s7, s8, s9, s10, s11⟩ := X1.out
  clear X1
  have K0 : Hid True := trivial
  go_wp2_with fail
  go_region_held3 (fun w' => w'.cell? ⟨cb, 3, none⟩ = some (.int .i64 (x : Int)) ∧ w'.cell? ⟨cb, 4, none⟩ = some (.int .i64 (l : Int)) ∧ w'.cell? ⟨cb, 5, none⟩ = some (.int .i64 (r : Int)) ∧ w'.cell? ⟨cb, 6, none⟩ = some (.int .i64 (ll : Int)) ∧ w'.cell? ⟨cb, 7, none⟩ = some (.int .i64 (lr : Int)) ∧ w'.cell? ⟨cb, 8, none⟩ = some (.int .i64 irl) ∧ w'.cell? ⟨cb, 9, none⟩ = some (.int .i64 irr) ∧ w'.cell? ⟨cb, 10, none⟩ = some (.int .i64 irll) ∧ w'.cell? ⟨cb, 11, none⟩ = some (.int .i64 irlr))
    (first | (with_reducible exact X3.out) | (with_reducible exact X2.out) | go_keep)
    (first | (go_at_call 30; have hq := K0; refine (HO.out H1.out.drew x 0 (lr : Int) (r : Int) hx).mono ?_; rintro e w2 ⟨rfl, hh⟩; have H2 : Hid (Cs w0 w2 cb g cap base b o c t root mi (x : Int) (l : Int) (r : Int) (ll : Int) (lr : Int) irl irr irll irlr (ovr (mt mi t) x 0 (lr : Int) (r : Int))) := hh; have X2 : Hid _ := SS.out hh; have K1 : Hid True := trivial; clear hh hq K0) | (go_at_call 30; have hq := K1; refine (HO.out H2.out l wx (ll : Int) (x : Int) hl).mono ?_; rintro e w3 ⟨rfl, hh⟩; have H3 : Hid (Cs w0 w3 cb g cap base b o c t root mi (x : Int) (l : Int) (r : Int) (ll : Int) (lr : Int) irl irr irll irlr (ovr (ovr (mt mi t) x 0 (lr : Int) (r : Int)) l wx (ll : Int) (x : Int))) := hh; have X3 : Hid _ := SS.out hh; have K2 : Hid True := trivial; clear hh hq K1))
  go_wp2_with fail
  go_ret
  exact ⟨rfl, H3.out⟩
set_option maxRecDepth 100000 in
set_option maxHeartbeats 4000000 in
theorem build3 {w0 w : World} {cb g cap : Nat} {base : Option Addr} {b o c : Nat} {t : NL} {root : Int} {mi : Bool} {x l r ll lr lrl lrr : Nat} {irl irr irll irlr : Int} (h : Cs w0 w cb g cap base b o c t root mi (x : Int) (l : Int) (r : Int) (ll : Int) (lr : Int) irl irr irll irlr (mt mi t)) (hx : x < t.length) (hl : l < t.length) (hlr : lr < t.length)  (hb1 : (ndAt (mt mi t) lr).l = (lrl : Int)) (hb2 : (ndAt (mt mi t) lr).r = (lrr : Int)) :
    Calls Tryd.prog 24 #[.pointer (some ⟨cb, 0, none⟩), .int .i64 3] w fun e w' => e = .returned (.int .i64 (lr : Int)) ∧ Cs w0 w' cb g cap base b o c t root mi (x : Int) (l : Int) (r : Int) (ll : Int) (lr : Int) irl irr irll irlr (ovr (ovr (ovr (mt mi t) l 0 (ll : Int) (lrl : Int)) x 0 (lrr : Int) (r : Int)) lr (ndAt t x).wt (l : Int) (x : Int)) := by
  have SS : Hid (∀ {w' : World} {T : NL}, Cs w0 w' cb g cap base b o c t root mi (x : Int) (l : Int) (r : Int) (ll : Int) (lr : Int) irl irr irll irlr T → (w'.cell? ⟨cb, 3, none⟩ = some (.int .i64 (x : Int)) ∧ w'.cell? ⟨cb, 4, none⟩ = some (.int .i64 (l : Int)) ∧ w'.cell? ⟨cb, 5, none⟩ = some (.int .i64 (r : Int)) ∧ w'.cell? ⟨cb, 6, none⟩ = some (.int .i64 (ll : Int)) ∧ w'.cell? ⟨cb, 7, none⟩ = some (.int .i64 (lr : Int)) ∧ w'.cell? ⟨cb, 8, none⟩ = some (.int .i64 irl) ∧ w'.cell? ⟨cb, 9, none⟩ = some (.int .i64 irr) ∧ w'.cell? ⟨cb, 10, none⟩ = some (.int .i64 irll) ∧ w'.cell? ⟨cb, 11, none⟩ = some (.int .i64 irlr))) := fun q => ⟨q.box.c3, q.box.c4, q.box.c5, q.box.c6, q.box.c7, q.box.c8, q.box.c9, q.box.c10, q.box.c11⟩
  have HO : Hid (∀ {z : World} {T : NL}, Cs w0 z cb g cap base b o c t root mi (x : Int) (l : Int) (r : Int) (ll : Int) (lr : Int) irl irr irll irlr T → ∀ (p : Nat) (a u v : Int), p < t.length → Calls Tryd.prog 30 #[.pointer (some ⟨cb, 0, none⟩), .int .i64 (p : Int), .int .i64 a, .int .i64 u, .int .i64 v] z fun e w' => e = .returned (.int .i64 (p : Int)) ∧ Cs w0 w' cb g cap base b o c t root mi (x : Int) (l : Int) (r : Int) (ll : Int) (lr : Int) irl irr irll irlr (ovr T p a u v)) := fun q p a u v hp => cs_over q p a u v hp
  have HW : Hid (∀ {z : World} {T : NL}, Cs w0 z cb g cap base b o c t root mi (x : Int) (l : Int) (r : Int) (ll : Int) (lr : Int) irl irr irll irlr T → ∀ (p : Nat) (a : Int), p < t.length → Calls Tryd.prog 31 #[.pointer (some ⟨cb, 0, none⟩), .int .i64 (p : Int), .int .i64 a] z fun e w' => e = .returned (.int .i64 (p : Int)) ∧ Cs w0 w' cb g cap base b o c t root mi (x : Int) (l : Int) (r : Int) (ll : Int) (lr : Int) irl irr irll irlr (wth T p a)) := fun q p a hp => cs_with q p a hp
  have HB : Hid (∀ {z : World} {T : NL}, Cs w0 z cb g cap base b o c t root mi (x : Int) (l : Int) (r : Int) (ll : Int) (lr : Int) irl irr irll irlr T → Calls Tryd.prog 32 #[.pointer (some ⟨cb, 0, none⟩), .int .i64 (lr : Int)] z fun e w' => e = .returned (.tuple #[.int .i64 (lrl : Int), .int .i64 (lrr : Int)]) ∧ Cs w0 w' cb g cap base b o c t root mi (x : Int) (l : Int) (r : Int) (ll : Int) (lr : Int) irl irr irll irlr T) := fun q => by have := cs_below q lr hlr; rw [hb1, hb2] at this; exact this
  have HX : Hid (∀ {z : World} {T : NL}, Cs w0 z cb g cap base b o c t root mi (x : Int) (l : Int) (r : Int) (ll : Int) (lr : Int) irl irr irll irlr T → Calls Tryd.prog 29 #[.pointer (some ⟨cb, 0, none⟩), .int .i64 (x : Int)] z fun e w' => e = .returned (.int .i64 (ndAt t x).wt) ∧ Cs w0 w' cb g cap base b o c t root mi (x : Int) (l : Int) (r : Int) (ll : Int) (lr : Int) irl irr irll irlr T) := fun q => cs_weight q x hx
  have H0 : Hid (Cs w0 w cb g cap base b o c t root mi (x : Int) (l : Int) (r : Int) (ll : Int) (lr : Int) irl irr irll irlr (mt mi t)) := h
  obtain ⟨s3, s4, s5, s6, s7, s8, s9, s10, s11⟩ := SS.out h
  clear h hb1 hb2
  generalize (ndAt t x).wt = wx at *
  go_enter Tryd.func24, Tryd.ntmps24
  go_wp2_with fail
  go_region_held3 (fun w' => w'.cell? ⟨cb, 3, none⟩ = some (.int .i64 (x : Int)) ∧ w'.cell? ⟨cb, 4, none⟩ = some (.int .i64 (l : Int)) ∧ w'.cell? ⟨cb, 5, none⟩ = some (.int .i64 (r : Int)) ∧ w'.cell? ⟨cb, 6, none⟩ = some (.int .i64 (ll : Int)) ∧ w'.cell? ⟨cb, 7, none⟩ = some (.int .i64 (lr : Int)) ∧ w'.cell? ⟨cb, 8, none⟩ = some (.int .i64 irl) ∧ w'.cell? ⟨cb, 9, none⟩ = some (.int .i64 irr) ∧ w'.cell? ⟨cb, 10, none⟩ = some (.int .i64 irll) ∧ w'.cell? ⟨cb, 11, none⟩ = some (.int .i64 irlr))
    (first | (with_reducible exact X1.out) | go_keep)
    (first | (go_at_call 29; refine (HX.out H0.out.drew).mono ?_; rintro e w1 ⟨rfl, hh⟩; have H1 : Hid (Cs w0 w1 cb g cap base b o c t root mi (x : Int) (l : Int) (r : Int) (ll : Int) (lr : Int) irl irr irll irlr (mt mi t)) := hh; have X1 : Hid _ := SS.out hh; clear hh))
  obtain ⟨s3, s4, s5, s6, s7, s8, s9, s10, s11⟩ := X1.out
  clear X1
  go_wp2_with fail
  go_region_held3 (fun w' => w'.cell? ⟨cb, 3, none⟩ = some (.int .i64 (x : Int)) ∧ w'.cell? ⟨cb, 4, none⟩ = some (.int .i64 (l : Int)) ∧ w'.cell? ⟨cb, 5, none⟩ = some (.int .i64 (r : Int)) ∧ w'.cell? ⟨cb, 6, none⟩ = some (.int .i64 (ll : Int)) ∧ w'.cell? ⟨cb, 7, none⟩ = some (.int .i64 (lr : Int)) ∧ w'.cell? ⟨cb, 8, none⟩ = some (.int .i64 irl) ∧ w'.cell? ⟨cb, 9, none⟩ = some (.int .i64 irr) ∧ w'.cell? ⟨cb, 10, none⟩ = some (.int .i64 irll) ∧ w'.cell? ⟨cb, 11, none⟩ = some (.int .i64 irlr))
    (first | (with_reducible exact X2.out) | go_keep)
    (first | (go_at_call 32; refine (HB.out H1.out.drew).mono ?_; rintro e w2 ⟨rfl, hh⟩; have H2 : Hid (Cs w0 w2 cb g cap base b o c t root mi (x : Int) (l : Int) (r : Int) (ll : Int) (lr : Int) irl irr irll irlr (mt mi t)) := hh; have X2 : Hid _ := SS.out hh; clear hh))
  obtain ⟨s3, s4, s5, s6, s7, s8, s9, s10, s11⟩ := X2.out
  clear X2
  have K0 : Hid True := trivial
  go_wp2_with fail
  go_region_held3 (fun w' => w'.cell? ⟨cb, 3, none⟩ = some (.int .i64 (x : Int)) ∧ w'.cell? ⟨cb, 4, none⟩ = some (.int .i64 (l : Int)) ∧ w'.cell? ⟨cb, 5, none⟩ = some (.int .i64 (r : Int)) ∧ w'.cell? ⟨cb, 6, none⟩ = some (.int .i64 (ll : Int)) ∧ w'.cell? ⟨cb, 7, none⟩ = some (.int .i64 (lr : Int)) ∧ w'.cell? ⟨cb, 8, none⟩ = some (.int .i64 irl) ∧ w'.cell? ⟨cb, 9, none⟩ = some (.int .i64 irr) ∧ w'.cell? ⟨cb, 10, none⟩ = some (.int .i64 irll) ∧ w'.cell? ⟨cb, 11, none⟩ = some (.int .i64 irlr))
    (first | (with_reducible exact X5.out) | (with_reducible exact X4.out) | (with_reducible exact X3.out) | go_keep)
    (first | (go_at_call 30; have hq := K0; refine (HO.out H2.out.drew l 0 (ll : Int) (lrl : Int) hl).mono ?_; rintro e w3 ⟨rfl, hh⟩; have H3 : Hid (Cs w0 w3 cb g cap base b o c t root mi (x : Int) (l : Int) (r : Int) (ll : Int) (lr : Int) irl irr irll irlr (ovr (mt mi t) l 0 (ll : Int) (lrl : Int))) := hh; have X3 : Hid _ := SS.out hh; have K1 : Hid True := trivial; clear hh hq K0) | (go_at_call 30; have hq := K1; refine (HO.out H3.out x 0 (lrr : Int) (r : Int) hx).mono ?_; rintro e w4 ⟨rfl, hh⟩; have H4 : Hid (Cs w0 w4 cb g cap base b o c t root mi (x : Int) (l : Int) (r : Int) (ll : Int) (lr : Int) irl irr irll irlr (ovr (ovr (mt mi t) l 0 (ll : Int) (lrl : Int)) x 0 (lrr : Int) (r : Int))) := hh; have X4 : Hid _ := SS.out hh; have K2 : Hid True := trivial; clear hh hq K1) | (go_at_call 30; have hq := K2; refine (HO.out H4.out lr wx (l : Int) (x : Int) hlr).mono ?_; rintro e w5 ⟨rfl, hh⟩; have H5 : Hid (Cs w0 w5 cb g cap base b o c t root mi (x : Int) (l : Int) (r : Int) (ll : Int) (lr : Int) irl irr irll irlr (ovr (ovr (ovr (mt mi t) l 0 (ll : Int) (lrl : Int)) x 0 (lrr : Int) (r : Int)) lr wx (l : Int) (x : Int))) := hh; have X5 : Hid _ := SS.out hh; have K3 : Hid True := trivial; clear hh hq K2))
  go_wp2_with fail
  go_ret
  exact ⟨rfl, H5.out⟩
set_option maxRecDepth 100000 in
set_option maxHeartbeats 4000000 in
theorem build4 {w0 w : World} {cb g cap : Nat} {base : Option Addr} {b o c : Nat} {t : NL} {root : Int} {mi : Bool} {x l r : Nat} {ill ilr irl irr irll irlr : Int} (h : Cs w0 w cb g cap base b o c t root mi (x : Int) (l : Int) (r : Int) ill ilr irl irr irll irlr (mt mi t)) (hx : x < t.length) (hl : l < t.length) (hr : r < t.length) (hwx : 0 ≤ (ndAt t x).wt ∧ (ndAt t x).wt ≤ 1000000) (hwl : 0 ≤ (ndAt t l).wt ∧ (ndAt t l).wt ≤ 1000000) :
    Calls Tryd.prog 24 #[.pointer (some ⟨cb, 0, none⟩), .int .i64 4] w fun e w' => e = .returned (.int .i64 (x : Int)) ∧ Cs w0 w' cb g cap base b o c t root mi (x : Int) (l : Int) (r : Int) ill ilr irl irr irll irlr (ovr (wth (wth (mt mi t) l ((ndAt t l).wt - 1)) r 0) x ((ndAt t x).wt + 1) (l : Int) (r : Int)) := by
  have SS : Hid (∀ {w' : World} {T : NL}, Cs w0 w' cb g cap base b o c t root mi (x : Int) (l : Int) (r : Int) ill ilr irl irr irll irlr T → (w'.cell? ⟨cb, 3, none⟩ = some (.int .i64 (x : Int)) ∧ w'.cell? ⟨cb, 4, none⟩ = some (.int .i64 (l : Int)) ∧ w'.cell? ⟨cb, 5, none⟩ = some (.int .i64 (r : Int)) ∧ w'.cell? ⟨cb, 6, none⟩ = some (.int .i64 ill) ∧ w'.cell? ⟨cb, 7, none⟩ = some (.int .i64 ilr) ∧ w'.cell? ⟨cb, 8, none⟩ = some (.int .i64 irl) ∧ w'.cell? ⟨cb, 9, none⟩ = some (.int .i64 irr) ∧ w'.cell? ⟨cb, 10, none⟩ = some (.int .i64 irll) ∧ w'.cell? ⟨cb, 11, none⟩ = some (.int .i64 irlr))) := fun q => ⟨q.box.c3, q.box.c4, q.box.c5, q.box.c6, q.box.c7, q.box.c8, q.box.c9, q.box.c10, q.box.c11⟩
  have HO : Hid (∀ {z : World} {T : NL}, Cs w0 z cb g cap base b o c t root mi (x : Int) (l : Int) (r : Int) ill ilr irl irr irll irlr T → ∀ (p : Nat) (a u v : Int), p < t.length → Calls Tryd.prog 30 #[.pointer (some ⟨cb, 0, none⟩), .int .i64 (p : Int), .int .i64 a, .int .i64 u, .int .i64 v] z fun e w' => e = .returned (.int .i64 (p : Int)) ∧ Cs w0 w' cb g cap base b o c t root mi (x : Int) (l : Int) (r : Int) ill ilr irl irr irll irlr (ovr T p a u v)) := fun q p a u v hp => cs_over q p a u v hp
  have HW : Hid (∀ {z : World} {T : NL}, Cs w0 z cb g cap base b o c t root mi (x : Int) (l : Int) (r : Int) ill ilr irl irr irll irlr T → ∀ (p : Nat) (a : Int), p < t.length → Calls Tryd.prog 31 #[.pointer (some ⟨cb, 0, none⟩), .int .i64 (p : Int), .int .i64 a] z fun e w' => e = .returned (.int .i64 (p : Int)) ∧ Cs w0 w' cb g cap base b o c t root mi (x : Int) (l : Int) (r : Int) ill ilr irl irr irll irlr (wth T p a)) := fun q p a hp => cs_with q p a hp
  have HLl : Hid (∀ {z : World} {T : NL}, Cs w0 z cb g cap base b o c t root mi (x : Int) (l : Int) (r : Int) ill ilr irl irr irll irlr T → Calls Tryd.prog 33 #[.pointer (some ⟨cb, 0, none⟩), .int .i64 (l : Int)] z fun e w' => e = .returned (.int .i64 (l : Int)) ∧ Cs w0 w' cb g cap base b o c t root mi (x : Int) (l : Int) (r : Int) ill ilr irl irr irll irlr (wth T l ((ndAt t l).wt - 1))) := fun q => cs_less q l hl hwl
  have HX : Hid (∀ {z : World} {T : NL}, Cs w0 z cb g cap base b o c t root mi (x : Int) (l : Int) (r : Int) ill ilr irl irr irll irlr T → Calls Tryd.prog 29 #[.pointer (some ⟨cb, 0, none⟩), .int .i64 (x : Int)] z fun e w' => e = .returned (.int .i64 (ndAt t x).wt) ∧ Cs w0 w' cb g cap base b o c t root mi (x : Int) (l : Int) (r : Int) ill ilr irl irr irll irlr T) := fun q => cs_weight q x hx
  have H0 : Hid (Cs w0 w cb g cap base b o c t root mi (x : Int) (l : Int) (r : Int) ill ilr irl irr irll irlr (mt mi t)) := h
  obtain ⟨s3, s4, s5, s6, s7, s8, s9, s10, s11⟩ := SS.out h
  clear h hwl
  generalize (ndAt t x).wt = wx at *
  have e1 : IntKind.i64.wrap (wx + 1) = wx + 1 := by rw [IntKind.wrap_i64] <;> omega
  go_enter Tryd.func24, Tryd.ntmps24
  go_wp2_with fail
  go_region_held3 (fun w' => w'.cell? ⟨cb, 3, none⟩ = some (.int .i64 (x : Int)) ∧ w'.cell? ⟨cb, 4, none⟩ = some (.int .i64 (l : Int)) ∧ w'.cell? ⟨cb, 5, none⟩ = some (.int .i64 (r : Int)) ∧ w'.cell? ⟨cb, 6, none⟩ = some (.int .i64 ill) ∧ w'.cell? ⟨cb, 7, none⟩ = some (.int .i64 ilr) ∧ w'.cell? ⟨cb, 8, none⟩ = some (.int .i64 irl) ∧ w'.cell? ⟨cb, 9, none⟩ = some (.int .i64 irr) ∧ w'.cell? ⟨cb, 10, none⟩ = some (.int .i64 irll) ∧ w'.cell? ⟨cb, 11, none⟩ = some (.int .i64 irlr))
    (first | (with_reducible exact X1.out) | go_keep)
    (first | (go_at_call 29; refine (HX.out H0.out.drew).mono ?_; rintro e w1 ⟨rfl, hh⟩; have H1 : Hid (Cs w0 w1 cb g cap base b o c t root mi (x : Int) (l : Int) (r : Int) ill ilr irl irr irll irlr (mt mi t)) := hh; have X1 : Hid _ := SS.out hh; clear hh))
  obtain ⟨s3, s4, s5, s6, s7, s8, s9, s10, s11⟩ := X1.out
  clear X1
  have K0 : Hid True := trivial
  go_wp2_with fail
  go_region_held3 (fun w' => w'.cell? ⟨cb, 3, none⟩ = some (.int .i64 (x : Int)) ∧ w'.cell? ⟨cb, 4, none⟩ = some (.int .i64 (l : Int)) ∧ w'.cell? ⟨cb, 5, none⟩ = some (.int .i64 (r : Int)) ∧ w'.cell? ⟨cb, 6, none⟩ = some (.int .i64 ill) ∧ w'.cell? ⟨cb, 7, none⟩ = some (.int .i64 ilr) ∧ w'.cell? ⟨cb, 8, none⟩ = some (.int .i64 irl) ∧ w'.cell? ⟨cb, 9, none⟩ = some (.int .i64 irr) ∧ w'.cell? ⟨cb, 10, none⟩ = some (.int .i64 irll) ∧ w'.cell? ⟨cb, 11, none⟩ = some (.int .i64 irlr))
    (first | (with_reducible exact X4.out) | (with_reducible exact X3.out) | (with_reducible exact X2.out) | go_keep)
    (first | (go_at_call 33; have hq := K0; refine (HLl.out H1.out.drew).mono ?_; rintro e w2 ⟨rfl, hh⟩; have H2 : Hid (Cs w0 w2 cb g cap base b o c t root mi (x : Int) (l : Int) (r : Int) ill ilr irl irr irll irlr (wth (mt mi t) l ((ndAt t l).wt - 1))) := hh; have X2 : Hid _ := SS.out hh; have K1 : Hid True := trivial; clear hh hq K0) | (go_at_call 31; have hq := K1; refine (HW.out H2.out r 0 hr).mono ?_; rintro e w3 ⟨rfl, hh⟩; have H3 : Hid (Cs w0 w3 cb g cap base b o c t root mi (x : Int) (l : Int) (r : Int) ill ilr irl irr irll irlr (wth (wth (mt mi t) l ((ndAt t l).wt - 1)) r 0)) := hh; have X3 : Hid _ := SS.out hh; have K2 : Hid True := trivial; clear hh hq K1) | (go_at_call 30; have hq := K2; refine (HO.out H3.out x (wx + 1) (l : Int) (r : Int) hx).mono ?_; rintro e w4 ⟨rfl, hh⟩; have H4 : Hid (Cs w0 w4 cb g cap base b o c t root mi (x : Int) (l : Int) (r : Int) ill ilr irl irr irll irlr (ovr (wth (wth (mt mi t) l ((ndAt t l).wt - 1)) r 0) x (wx + 1) (l : Int) (r : Int))) := hh; have X4 : Hid _ := SS.out hh; have K3 : Hid True := trivial; clear hh hq K2))
  go_wp2_with fail
  go_ret
  exact ⟨rfl, H4.out⟩
end Go.Proofs.YthlhbajaogonnaaDoor

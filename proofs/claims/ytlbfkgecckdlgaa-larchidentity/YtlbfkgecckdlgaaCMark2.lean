/- Layer 2: the closures of Marks; what refuses its acts. -/
import Derived.Test.YtlbfkgecckdlgaaCMark
import Derived.Test.YtlbfkgecckdlgaaCRefuse
namespace Go.Proofs.Ytlbfkgecckdlgaa
open Go.RowKit
attribute [local go_sem ↓] Go.wp_at_zero Go.wp_at_succ

/-- What a mark is behind an access, and what the access answers. -/
def mN (s : Bool) (d a c : Int) : Bool := if d = 2 ∨ d = 4 then (a != 0) else if d = 5 then (if s = (a != 0) then (c != 0) else s) else s
def mO (s : Bool) (d a : Int) : Bool := if d = 2 then false else if d = 5 then (s == (a != 0)) else s

theorem doMark_any {gv : Value} {X : Nat → Prop} {most : Nat} {G : List Int → World → Prop} (g : GateOk gv X most G) (ks : List Int) (hk : ks.length < most) (b i : Nat) (s : Bool) (d at_ a c : Int) (hd : d = 1 ∨ d = 2 ∨ d = 4 ∨ d = 5) (w : World) (hG : G ks w) (hX : ¬ X b) (hb : b < w.heap.size) (hc : w.cell? ⟨b, i, none⟩ = some (.int .u32 (bI s))) (hz : w.frozen? ⟨b, i, none⟩ = false) :
    Calls Try.prog 102 #[gv, .pointer (some ⟨b, i, none⟩), .agg #[.int .i64 d, .int .i64 at_, .int .i64 a, .int .i64 c]] w fun e w' => e = .returned (.bool (mO s d a)) ∧ G (ks ++ [d]) w' ∧ VStep X b i (.int .u32 (bI (mN s d a c))) w w' := by
  rcases hd with rfl | rfl | rfl | rfl
  · exact doMark_1 g ks hk b i s at_ a c w hG hX hb hc hz
  · exact doMark_2 g ks hk b i s at_ a c w hG hX hb hc hz
  · exact doMark_4 g ks hk b i s at_ a c w hG hX hb hc hz
  · by_cases h : s = (a != 0)
    · rw [show mO s 5 a = true from by simp [mO, h], show mN s 5 a c = (c != 0) from by simp [mN, h]]
      exact doMark_hit g ks hk b i s at_ a c w hG hX hb hc hz h
    · rw [show mO s 5 a = false from by simp [mO]; simpa using h, show mN s 5 a c = s from by unfold mN; rw [if_neg (by omega), if_pos rfl, if_neg h]]
      exact doMark_miss g ks hk b i s at_ a c w hG hX hb hc hz h

set_option maxRecDepth 100000 in
set_option maxHeartbeats 1000000 in
theorem marks2_any {gv : Value} {X : Nat → Prop} {most : Nat} {G : List Int → World → Prop} (g : GateOk gv X most G) (ks : List Int) (hk : ks.length < most) (vb nb m i : Nat) (x : Bool) (d a c : Int) (hd : d = 1 ∨ d = 2 ∨ d = 4 ∨ d = 5) (hi : i < m) (w : World) (hG : G ks w) (hX : ¬ X nb) (hb : nb < w.heap.size) (hv : w.cell? ⟨vb, 0, none⟩ = some (.slice (some ⟨nb, 0, none⟩) m m)) (hvb : vb < w.heap.size) (hc : w.cell? ⟨nb, i, none⟩ = some (.int .u32 (bI x))) (hz : w.frozen? ⟨nb, i, none⟩ = false) :
    Calls Try.prog 101 #[gv, .agg #[.int .i64 d, .int .i64 i, .int .i64 a, .int .i64 c], .pointer (some ⟨vb, 0, none⟩)] w fun e w' => e = .returned (.bool (mO x d a)) ∧ G (ks ++ [d]) w' ∧ VStep X nb i (.int .u32 (bI (mN x d a c))) w w' := by
  have hk0 : Kp (fun _ => False) w (w.alloc (.cells #[.int .i64 d, .int .i64 i, .int .i64 a, .int .i64 c] 36)).drew := ((Kp.refl _ _).alloc _).drew
  have hG1 := g.keep ks _ _ _ hG hk0 (fun _ h => h.elim)
  have hc1 := (hk0.cell (p := ⟨nb, i, none⟩) hb (fun h => h)).trans hc
  have hz1 := (hk0.frozen (p := ⟨nb, i, none⟩) hb (fun h => h)).trans hz
  have hv1 := (hk0.cell (p := ⟨vb, 0, none⟩) hvb (fun h => h)).trans hv
  have HM : Hid _ := doMark_any g ks hk nb i x d i a c hd _ hG1 hX (by simp; omega) hc1 hz1
  have i0 : (0 : Int) ≤ (i : Int) := Int.natCast_nonneg _
  have i1 : (i : Int) < (m : Int) := by omega
  have n1 : ¬ vb = w.heap.size := by omega
  clear hG1 hc1 hz1 hd
  go_enter Try.func101, Try.ntmps101
  go_wp2_with fail
  go_region_with
    (first | (go_at_call 102; refine Calls.mono HM.out ?_; rintro e w1 ⟨rfl, hg1, hs1⟩))
  all_goals
    go_wp2
    go_ret
    exact ⟨rfl, hg1, v_alloc hb (v_drew hs1)⟩

def ceErr (d i m : Int) : Int := if d = 1 ∨ d = 2 ∨ d = 4 ∨ d = 5 then plErr i m else 5

set_option maxRecDepth 100000 in
set_option maxHeartbeats 400000 in
theorem cellError_any (d i a c m : Int) (w : World) : Calls Try.prog 98 #[.agg #[.int .i64 d, .int .i64 i, .int .i64 a, .int .i64 c], .int .i64 m] w fun e w' => e = .returned (.int .i64 (ceErr d i m)) ∧ Below w.heap.size w w' := by
  have hB : Below w.heap.size w (w.alloc (.cells #[.int .i64 d, .int .i64 i, .int .i64 a, .int .i64 c] 36)) := (Below.refl _ _).alloc (Nat.le_refl _) _
  have HB : Hid _ := hB
  by_cases h : d = 1 ∨ d = 2 ∨ d = 4 ∨ d = 5
  · have e : ceErr d i m = plErr i m := by simp [ceErr, h]
    rw [e]
    clear hB e
    rcases h with rfl | rfl | rfl | rfl
    all_goals
      go_enter Try.func98, Try.ntmps98
      go_wp2_with (first | (go_at_call 103; refine (placeError_any _ _ _).mono ?_; rintro e w' ⟨rfl, rfl⟩))
      go_ret
      exact ⟨rfl, HB.out⟩
  · have e : ceErr d i m = 5 := by simp [ceErr, h]
    rw [e]
    have h1 : ¬ d = 1 := fun e => h (Or.inl e)
    have h2 : ¬ d = 2 := fun e => h (Or.inr (Or.inl e))
    have h4 : ¬ d = 4 := fun e => h (Or.inr (Or.inr (Or.inl e)))
    have h5 : ¬ d = 5 := fun e => h (Or.inr (Or.inr (Or.inr e)))
    clear hB e h
    go_enter Try.func98, Try.ntmps98
    go_wp2
    go_ret
    exact ⟨rfl, HB.out⟩

set_option maxRecDepth 100000 in
set_option maxHeartbeats 400000 in
theorem marks1_any (d i a c : Int) (vb : Nat) (bs : Option Addr) (m cp : Nat) (w : World) (hv : w.cell? ⟨vb, 0, none⟩ = some (.slice bs m cp)) (hvb : vb < w.heap.size) :
    Calls Try.prog 97 #[.agg #[.int .i64 d, .int .i64 i, .int .i64 a, .int .i64 c], .pointer (some ⟨vb, 0, none⟩)] w fun e w' => e = .returned (.int .i64 (ceErr d i m)) ∧ Below w.heap.size w w' := by
  have hB : Below w.heap.size w (w.alloc (.cells #[.int .i64 d, .int .i64 i, .int .i64 a, .int .i64 c] 36)) := (Below.refl _ _).alloc (Nat.le_refl _) _
  have HB : Hid _ := hB
  have n1 : ¬ vb = w.heap.size := by omega
  clear hB
  go_enter Try.func97, Try.ntmps97
  go_wp2_with (first | (go_at_call 98; refine (cellError_any _ _ _ _ _ _).mono ?_; rintro e w1 ⟨rfl, hb1⟩))
  go_ret
  exact ⟨rfl, HB.out.trans (hb1.mono HB.out.size)⟩

set_option maxRecDepth 100000 in
set_option maxHeartbeats 1000000 in
theorem refused_marks (vb : Nat) (bs : Option Addr) (m cp : Nat) (ab ao n cap : Nat) (dk di da db : Nat → Int) (w : World) (base : Option Addr) (h : CActs w base ab ao n dk di da db) (hv : w.cell? ⟨vb, 0, none⟩ = some (.slice bs m cp)) (hvb : vb < w.heap.size) :
    Calls Try.prog 52 #[.slice base n cap, .func (.func 97) #[] #[.pointer (some ⟨vb, 0, none⟩)]] w fun e w' => e = .returned (.int .i64 (frst (fun j => ceErr (dk j) (di j) m) n)) ∧ Below w.heap.size w w' := by
  have hn := h.len
  unfold maxLen at hn
  go_enter Try.func52, Try.ntmps52
  go_wp2_with fail
  go_loopw [10] (fun i wr => ∃ j : Nat, j ≤ n ∧ i = .int .i64 j ∧ Below w.heap.size w wr ∧ frst (fun j => ceErr (dk j) (di j) m) j = 0) (fun i _ => n - (intOf i).toNat)
  case atStart => exact ⟨0, Nat.zero_le _, rfl, Below.refl _ _, rfl⟩
  case round =>
    obtain ⟨j, hj, rfl, hnx, hall⟩ := hrel
    by_cases hlt : j < n
    · obtain rfl : base = some ⟨ab, ao, none⟩ := h.base (by omega)
      obtain ⟨c0, c1, c2, c3⟩ := h.cells j hlt
      have hA : ab < w.heap.size := h.lt (by omega)
      have d0 : wr.cell? ⟨ab, ao + j * 4, none⟩ = some (.int .i64 (dk j)) := (hnx.cell (p := ⟨ab, ao + j * 4, none⟩) hA).trans c0
      have d1 : wr.cell? ⟨ab, ao + j * 4 + 1, none⟩ = some (.int .i64 (di j)) := (hnx.cell (p := ⟨ab, ao + j * 4 + 1, none⟩) hA).trans c1
      have d2 : wr.cell? ⟨ab, ao + j * 4 + 1 + 1, none⟩ = some (.int .i64 (da j)) := (hnx.cell (p := ⟨ab, ao + j * 4 + 2, none⟩) hA).trans c2
      have d3 : wr.cell? ⟨ab, ao + j * 4 + 1 + 1 + 1, none⟩ = some (.int .i64 (db j)) := (hnx.cell (p := ⟨ab, ao + j * 4 + 3, none⟩) hA).trans c3
      have hv1 := ((hnx.alloc hnx.size (.cells #[.int .i64 (dk j), .int .i64 (di j), .int .i64 (da j), .int .i64 (db j)] 36)).cell (p := ⟨vb, 0, none⟩) hvb).trans hv
      have hvr : vb < wr.heap.size := Nat.lt_of_lt_of_le hvb hnx.size
      have HC : Hid _ := marks1_any (dk j) (di j) (da j) (db j) vb bs m cp (wr.alloc (.cells #[.int .i64 (dk j), .int .i64 (di j), .int .i64 (da j), .int .i64 (db j)] 36)) hv1 (by simp; omega)
      have HF : Hid _ := fun (hne : ceErr (dk j) (di j) m ≠ 0) => frst_at (f := fun j => ceErr (dk j) (di j) m) hall hne hlt
      clear c0 c1 c2 c3 hv1 h
      go_wp2_with (first | (go_at_call 97; refine Calls.mono HC.out ?_; rintro e w1 ⟨rfl, hb1⟩; have hB1 : Below w.heap.size w w1 := (hnx.alloc hnx.size _).trans (hb1.mono (hnx.alloc hnx.size _).size)))
      · have hne : ceErr (dk j) (di j) m ≠ 0 := by simpa using ‹(ceErr (dk j) (di j) m != 0) = true›
        have e := HF.out hne
        go_ret
        exact ⟨by rw [e]; rfl, hB1⟩
      · have hz : ceErr (dk j) (di j) m = 0 := by simpa using ‹(ceErr (dk j) (di j) m != 0) = false›
        exact ⟨⟨j + 1, by omega, by go_num, hB1, by simp [frst, hall, hz]⟩, by simp [intOf]; omega⟩
    · have hjn : j = n := by omega
      subst hjn
      have he : Hid _ := hall
      clear hall
      go_wp2
      go_ret
      exact ⟨by rw [he.out]; rfl, hnx⟩
end Go.Proofs.Ytlbfkgecckdlgaa

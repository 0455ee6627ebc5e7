
/- Layer 16: Height of both. -/

import Derived.Test.YtiencggnijfjoaaTSrch

namespace Go.Proofs.Ytiencggnijfjoaa

open Go.RowKit

attribute [local go_sem ↓] Go.wp_at_zero Go.wp_at_succ

theorem up_pos (t : NL) (x : Nat) (hx : x ≠ 0) : ∀ i, 0 ≤ upN t i x ∧ (upN t i x = 0 ∨ upN t i x < i)
  | 0 => by simp [upN, hx]
  | i + 1 => by
    obtain ⟨h1, h2⟩ := up_pos t x hx i
    unfold upN
    by_cases h : (ndAt t i).l = (x : Int) ∨ (ndAt t i).r = (x : Int)
    · rw [if_pos h]; omega
    · rw [if_neg h]; omega
/-- How deep each place lies, behind j places of T. -/
def dpN (u : Nat → Nat) (T : List Nat) : Nat → Nat → Int
  | 0, _ => 0
  | j + 1, x => if x = T.getD j 0 then dpN u T j (u (T.getD j 0)) + 1 else dpN u T j x
def mxN (u : Nat → Nat) (T : List Nat) : Nat → Int
  | 0 => 0
  | j + 1 => max (mxN u T j) (dpN u T j (u (T.getD j 0)) + 1)
theorem dp_bound (u : Nat → Nat) (T : List Nat) : ∀ (j x : Nat), 0 ≤ dpN u T j x ∧ dpN u T j x ≤ j
  | 0, _ => by simp [dpN]
  | j + 1, x => by
    have h1 := dp_bound u T j (u (T.getD j 0))
    have h2 := dp_bound u T j x
    unfold dpN
    by_cases h : x = T.getD j 0
    · rw [if_pos h]; omega
    · rw [if_neg h]; omega
def uN (t : NL) (x : Nat) : Nat := (upN t t.length x).toNat
theorem uN_eq {t : NL} {x : Nat} (hx : x ≠ 0) : upN t t.length x = (uN t x : Int) := by
  have := (up_pos t x hx t.length).1
  unfold uN
  omega
theorem uN_lt {t : NL} {x : Nat} (hx : x ≠ 0) (hp : 0 < t.length) : uN t x < t.length := by
  have := up_pos t x hx t.length
  unfold uN
  omega
open Classical in
noncomputable def hgtA (t : NL) : Int := if formE t = 0 then mxN (uN t) (theL t 0).tail (theL t 0).tail.length else 0
theorem tail_facts {t : NL} (hf : InForm t) : ∃ T, Tree t 0 (0 :: T) ∧ theL t 0 = 0 :: T ∧ T.length + 1 = t.length ∧ ∀ j, j < T.length → T.getD j 0 ≠ 0 ∧ T.getD j 0 < t.length := by
  obtain ⟨hT, hN, hlen⟩ := theL_form hf
  obtain ⟨T, hX⟩ : ∃ T, theL t 0 = 0 :: T := by
    generalize theL t 0 = X at hT
    cases hT <;> exact ⟨_, rfl⟩
  rw [hX] at hT hN hlen
  refine ⟨T, hT, hX, by simpa using hlen, fun j hj => ?_⟩
  have hm : T.getD j 0 ∈ T := by rw [List.getD_eq_getElem?_getD, List.getElem?_eq_getElem hj]; exact List.getElem_mem hj
  exact ⟨fun q => (List.nodup_cons.1 hN).1 (q ▸ hm), hT.all _ (List.mem_cons_of_mem _ hm)⟩
theorem owns_ints {w : World} {g n c B : Nat} {L : List Nat} (h : w.ownsRow B 3 1 (.slice (some ⟨g, 0, none⟩) n c) n (natC L)) (hn : 0 < n) (hL : L.length = n) : Ints w g n (fun i => ((L.getD i 0 : Nat) : Int)) := by
  obtain ⟨g', c', hv, -, -, -, -, hc, hfr⟩ := owns_some h hn
  injection hv with h1 _ _
  injection h1 with h1
  injection h1 with h1 _ _
  subst h1
  intro j hj
  refine ⟨?_, hfr j⟩
  rw [hc j (by omega)]
  simp [natC, List.getD_eq_getElem?_getD, List.getElem?_eq_getElem (show j < L.length by omega)]

/-- What Height's loop has: the parents, the places, and how deep they lie. -/
structure HAt (w0 x : World) (gu gd gr : Nat) (t : NL) (T : List Nat) (j : Nat) : Prop where
  ups : Ints x gu t.length (fun y => upN t t.length y)
  deep : Ints x gd t.length (fun y => dpN (uN t) T j y)
  rows : Ints x gr (T.length + 1) (fun i => (((0 :: T).getD i 0 : Nat) : Int))
  lt : gr < x.heap.size
  below : Below w0.heap.size w0 x
theorem HAt.set {w0 x : World} {gu gd gr j : Nat} {t : NL} {T : List Nat} (h : HAt w0 x gu gd gr t T j) (hu : gu ≠ gd) (hr : gr ≠ gd) (hd : w0.heap.size ≤ gd) (hx : T.getD j 0 < t.length) : HAt w0 (x.setCell ⟨gd, T.getD j 0, none⟩ (.int .i64 (dpN (uN t) T j (uN t (T.getD j 0)) + 1))) gu gd gr t T (j + 1) :=
  ⟨h.ups.apart gd _ _ (Ne.symm hu), (h.deep.set _ _ hx).fn fun y _ => rfl, h.rows.apart gd _ _ (Ne.symm hr), by simpa using h.lt, h.below.setCell hd _⟩
theorem HAt.drew {w0 x : World} {gu gd gr j : Nat} {t : NL} {T : List Nat} (h : HAt w0 x gu gd gr t T j) : HAt w0 x.drew gu gd gr t T j := ⟨h.ups, h.deep, h.rows, h.lt, h.below.drew⟩

-- WALKS
set_option maxRecDepth 100000 in
set_option maxHeartbeats 2000000 in
theorem Height_any (base : Option Addr) (b o c : Nat) (t : NL) (w : World) (h : NodesAt w base b o t) :
    Calls Try.prog 53 #[.slice base t.length c] w fun e w' => e = .returned (.tuple #[.int .i64 (hgtA t), .int .i64 (formE t)]) ∧ Below w.heap.size w w' := by
  have HA : Hid _ := h
  clear h
  by_cases he : formE t = 0
  · obtain ⟨hbig, hf⟩ := formE_ok he
    obtain ⟨T, hT, hTL, hlen, hall⟩ := tail_facts hf
    have F : Hid (hgtA t = mxN (uN t) T T.length) := by show hgtA t = _; unfold hgtA; rw [if_pos he, hTL]; rfl
    have HE : Hid _ := he
    have HF : Hid _ := hf
    have HT : Hid (Tree _ _ _) := hT
    have HALL : Hid (∀ j, j < T.length → T.getD j 0 ≠ 0 ∧ T.getD j 0 < t.length) := hall
    have hpos := hf.pos
    obtain ⟨e1, e2⟩ := e_eq he
    have hTl : T.length + 1 ≤ 100000 := by omega
    obtain rfl : base = some ⟨b, o, none⟩ := HA.out.base (by omega)
    have hbl := HA.out.lt (by omega)
    clear he hf hT hall hlen hTL
    have hmi := run_make_known (P := Try.prog) 23 3 (.int .i64 0) 1 8 ins_under in_info t.length (by omega) (by omega)
    go_enter Try.func53, Try.ntmps53
    go_wp2_with (first | (go_at_call 74; refine (check_any _ b o c t _ HA.out).mono ?_; rintro e w1 ⟨rfl, hb1⟩; have HB1 : Hid _ := hb1; have hw1 := hb1.size; clear hb1) | (go_at_call 75; refine (parents_any _ b o c t _ (HA.out.below HB1.out) hpos (by omega) HF.out.good.node).mono ?_; rintro e w2 ⟨gu, rfl, hI, hgu, hgl, hb2⟩; have HI : Hid (Ints _ _ _ _) := hI; have HB2 : Hid _ := HB1.out.trans (hb2.mono HB1.out.size); have hw2 := HB2.out.size; clear hI hb2) | (go_at_call 76; refine (order_any _ b o c t 0 (0 :: T) _ (HA.out.below (HB2.out.alloc HB2.out.size _)) HT.out (by simp; omega)).mono ?_; rintro e w3 ⟨v, rfl, ho, hb3⟩; have HB3 : Hid (Below _ _ _) := hb3; obtain ⟨gr, cr, rfl, hgr, hgrl, hcap, -, -, -⟩ := owns_some ho (by simp); have HR : Hid (Ints w3 gr (T.length + 1) _) := owns_ints ho (by simp) rfl; simp only [World.size_alloc] at hgr; simp only [List.length_cons] at hcap; have hw3 := hb3.size; simp only [World.size_alloc] at hw3; have hcap1 : (1 : Int) ≤ (cr : Int) := (by omega); clear ho hb3))
    case inl =>
      obtain hT0 : T.length = 0 := by omega
      have HB4 : Hid _ := HB2.out.trans (((below_alloc w2 _).trans (HB3.out.mono (by simp))).mono HB2.out.size)
      go_loopw [5, 24] (fun v i wr => v = .int .i64 0 ∧ i = .int .i64 0 ∧ Below w.heap.size w wr) (fun _ _ _ => 0)
      case atStart => exact ⟨rfl, rfl, HB4.out⟩
      case round =>
        obtain ⟨rfl, rfl, hbw⟩ := hrel
        go_wp2_with fail
        go_ret2
        exact ⟨by rw [F.out, HE.out, hT0]; rfl, hbw⟩
    case inr =>
      go_loopw [5, 24] (fun v i wr => ∃ j : Nat, j ≤ T.length ∧ v = .int .i64 (mxN (uN t) T j) ∧ i = .int .i64 j ∧ HAt w wr gu w2.heap.size gr t T j) (fun _ i _ => T.length - (intOf i).toNat)
      case atStart => exact ⟨0, Nat.zero_le _, rfl, rfl, by rw [made_zeros] at HB3; exact ⟨(HI.out.below hgl (below_alloc _ _)).below (by simp; omega) HB3.out, ((zeros_ints w2 3 t.length).below (by simp) HB3.out).fn fun _ _ => rfl, HR.out, hgrl, HB2.out.trans (((below_alloc w2 _).trans (HB3.out.mono (by simp))).mono HB2.out.size)⟩⟩
      case round =>
        obtain ⟨j, hj, rfl, rfl, hH⟩ := hrel
        by_cases hlt : j < T.length
        · have hj' := HALL.out j hlt
          have hx0 := hj'.1
          have hxl := hj'.2
          have r1 : wr.cell? ⟨gr, 1 + j, none⟩ = some (.int .i64 (T.getD j 0 : Nat)) := by rw [Nat.add_comm]; exact (hH.rows (j + 1) (by omega)).1
          have u1 : wr.cell? ⟨gu, T.getD j 0, none⟩ = some (.int .i64 (uN t (T.getD j 0) : Nat)) := by rw [← uN_eq hx0]; exact (hH.ups _ hxl).1
          have hul := uN_lt hx0 hpos
          have d1 : wr.cell? ⟨w2.heap.size, uN t (T.getD j 0), none⟩ = some (.int .i64 (dpN (uN t) T j (uN t (T.getD j 0)))) := (hH.deep _ hul).1
          have d2 := (hH.deep _ hxl).1
          have d3 := (hH.deep _ hxl).2
          obtain ⟨q1, q2⟩ := dp_bound (uN t) T j (uN t (T.getD j 0))
          have HS : Hid (HAt _ _ _ _ _ _ _ _) := hH.set (by omega) (by omega) (by omega) hxl
          have HX : Hid (mxN (uN t) T (j + 1) = max (mxN (uN t) T j) (dpN (uN t) T j (uN t (T.getD j 0)) + 1)) := rfl
          have hgz := hH.lt
          clear hj' hH hx0
          generalize dpN (uN t) T j (T.getD j 0) = dx at d2
          generalize dpN (uN t) T j (uN t (T.getD j 0)) = d at d1 q1 q2 HS HX
          generalize uN t (T.getD j 0) = ux at u1 d1 hul
          generalize T.getD j 0 = x at r1 u1 d2 d3 hxl HS
          generalize mxN (uN t) T j = mx at HX
          have j0 : (0 : Int) ≤ (j : Int) := Int.natCast_nonneg _
          have j1 : (j : Int) < (T.length : Int) := by omega
          have x0 : (0 : Int) ≤ (x : Int) := Int.natCast_nonneg _
          have x1 : (x : Int) < (t.length : Int) := by omega
          have y0 : (0 : Int) ≤ (ux : Int) := Int.natCast_nonneg _
          have y1 : (ux : Int) < (t.length : Int) := by omega
          have n1 : gu ≠ w2.heap.size := by omega
          have n2 : gr ≠ w2.heap.size := by omega
          have z1 : w2.heap.size < wr.heap.size := by omega
          have z2 : gu < wr.heap.size := by omega
          go_wp2_with fail
          exact ⟨⟨j + 1, by omega, by first | (rw [HX.out]; done) | (rw [HX.out]; congr 1; split <;> omega), by go_num, HS.out⟩, by simp [intOf]; omega⟩
        · obtain rfl : j = T.length := by omega
          have HB : Hid _ := hH.below
          go_wp2_with fail
          go_ret2
          exact ⟨by rw [F.out, HE.out]; rfl, HB.out⟩
  · have F : Hid (hgtA t = 0) := by show hgtA t = 0; unfold hgtA; rw [if_neg he]
    obtain ⟨e1, e2⟩ := e_ne he
    clear he
    go_enter Try.func53, Try.ntmps53
    go_wp2_with (first | (go_at_call 74; refine (check_any _ b o c t _ HA.out).mono ?_; rintro e w1 ⟨rfl, hb1⟩; have HB1 : Hid _ := hb1; clear hb1))
    go_ret2
    exact ⟨by rw [F.out]; rfl, HB1.out⟩

end Go.Proofs.Ytiencggnijfjoaa

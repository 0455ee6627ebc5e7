
/- Layer 16: Ordered of the program. -/

import Derived.Test.YthlhbajaogonnaaTSpn

import Derived.Deep.CutRange

namespace Go.Proofs.Ythlhbajaogonnaa

open Go.RowKit

attribute [local go_sem ↓] Go.wp_at_zero Go.wp_at_succ

theorem sp_info : (Try.prog.info? 122).map (fun i => (i.zero, i.size, i.bytes)) = some (some (.agg #[.int .i64 0, .int .i64 0]), 2, 16) := by kernel_rfl
theorem spr_under : Try.prog.underlying 120 = some (.slice 122) := by kernel_rfl
/-- A row of spans. -/
def SpR (w : World) (g n : Nat) (P : Nat → SpD) : Prop := ∀ x, x < n → (w.cell? ⟨g, x * 2, none⟩ = some (.int .i64 (P x).1) ∧ w.frozen? ⟨g, x * 2, none⟩ = false) ∧ (w.cell? ⟨g, x * 2 + 1, none⟩ = some (.int .i64 (P x).2) ∧ w.frozen? ⟨g, x * 2 + 1, none⟩ = false)
theorem SpR.below {w w' : World} {g n : Nat} {P : Nat → SpD} (h : SpR w g n P) (hg : g < w.heap.size) (hb : Below w.heap.size w w') : SpR w' g n P :=
  fun x hx => ⟨⟨(hb.cell (p := ⟨g, x * 2, none⟩) hg).trans (h x hx).1.1, (hb.frozen (p := ⟨g, x * 2, none⟩) hg).trans (h x hx).1.2⟩, (hb.cell (p := ⟨g, x * 2 + 1, none⟩) hg).trans (h x hx).2.1, (hb.frozen (p := ⟨g, x * 2 + 1, none⟩) hg).trans (h x hx).2.2⟩
def updS (P : Nat → SpD) (k : Nat) (s : SpD) : Nat → SpD := fun x => if x = k then s else P x
theorem SpR.set {w : World} {g n : Nat} {P : Nat → SpD} (h : SpR w g n P) (k : Nat) (s : SpD) : SpR ((w.setCell ⟨g, k * 2, none⟩ (.int .i64 s.1)).setCell ⟨g, k * 2 + 1, none⟩ (.int .i64 s.2)) g n (updS P k s) := by
  intro x hx
  obtain ⟨⟨a, b⟩, c, d⟩ := h x hx
  have n1 : (⟨g, k * 2 + 1, none⟩ : Addr) ≠ ⟨g, k * 2, none⟩ := fun q => by injection q with _ q _; omega
  unfold updS
  by_cases e : x = k
  · subst e
    rw [if_pos rfl]
    refine ⟨⟨?_, by simpa using b⟩, ?_, by simpa using d⟩
    · rw [World.cell?_setCell_other _ _ _ _ n1]
      exact World.cell?_setCell_same _ _ _ a
    · exact World.cell?_setCell_same _ _ _ ((World.cell?_setCell_other _ _ _ _ (Ne.symm n1)).trans c)
  · rw [if_neg e]
    have m1 : (⟨g, k * 2 + 1, none⟩ : Addr) ≠ ⟨g, x * 2, none⟩ := fun q => by injection q with _ q _; omega
    have m2 : (⟨g, k * 2, none⟩ : Addr) ≠ ⟨g, x * 2, none⟩ := fun q => by injection q with _ q _; omega
    have m3 : (⟨g, k * 2 + 1, none⟩ : Addr) ≠ ⟨g, x * 2 + 1, none⟩ := fun q => by injection q with _ q _; omega
    have m4 : (⟨g, k * 2, none⟩ : Addr) ≠ ⟨g, x * 2 + 1, none⟩ := fun q => by injection q with _ q _; omega
    exact ⟨⟨by rw [World.cell?_setCell_other _ _ _ _ m1, World.cell?_setCell_other _ _ _ _ m2]; exact a, by simpa using b⟩, by rw [World.cell?_setCell_other _ _ _ _ m3, World.cell?_setCell_other _ _ _ _ m4]; exact c, by simpa using d⟩
theorem made_two (n : Nat) : madeCells #[Value.int .i64 0, .int .i64 0] n = Array.replicate n (Value.int .i64 0) := by
  apply Array.ext
  · simp [madeCells]
  · intro i h1 h2
    have hm : i % 2 = 0 ∨ i % 2 = 1 := by omega
    rcases hm with q | q <;> simp [madeCells, q]
theorem sp_zero (w : World) (T : TypeId) (n : Nat) : SpR (w.alloc (.cells (Array.replicate (n * 2) (.int .i64 0)) T)) w.heap.size n (fun _ => (0, 0)) := by
  have h := zeros_ints w T (n * 2)
  exact fun x hx => ⟨h (x * 2) (by omega), h (x * 2 + 1) (by omega)⟩
theorem todo_sub {t : NL} : ∀ {S R : List Nat}, Todo t S R → S.Sublist R
  | [], R, h => by simp
  | s :: S, R, ⟨L, R', h1, h2, h3⟩ => by
    have ih := todo_sub h2
    obtain ⟨A, hA⟩ : ∃ A, L = s :: A := by cases h1 <;> exact ⟨_, rfl⟩
    rw [h3, hA]
    exact List.Sublist.cons_cons s (ih.trans (List.sublist_append_right _ _))
/-- What the walk has still to ask is what Ordered asks. -/
theorem ord_push {t : NL} (hin : NodesIn t) {s l r : Nat} {S : List Nat} {P : Nat → SpD} (hs : s < t.length) (hl : (ndAt t s).l = (l : Int)) (hr : (ndAt t s).r = (r : Int)) (hN : (l :: r :: S).Nodup) (h : ordP t ↔ ∀ p ∈ s :: S, OrdAt t p (inS (P p))) :
    ordP t ↔ ∀ p ∈ l :: r :: S, OrdAt t p (inS (updS (updS P l (leftS (ndAt t s) (P s))) r (rightS (ndAt t s) (P s)) p)) := by
  have hlr : l ≠ r := fun q => (List.nodup_cons.1 hN).1 (by rw [q]; exact List.mem_cons_self)
  have h1 : ∀ p ∈ S, updS (updS P l (leftS (ndAt t s) (P s))) r (rightS (ndAt t s) (P s)) p = P p := fun p hp => by
    have n1 : p ≠ r := fun q => (List.nodup_cons.1 (List.nodup_cons.1 hN).2).1 (q ▸ hp)
    have n2 : p ≠ l := fun q => (List.nodup_cons.1 hN).1 (List.mem_cons_of_mem _ (q ▸ hp))
    unfold updS
    rw [if_neg n1, if_neg n2]
  have h2 : updS (updS P l (leftS (ndAt t s) (P s))) r (rightS (ndAt t s) (P s)) l = leftS (ndAt t s) (P s) := by unfold updS; rw [if_neg hlr, if_pos rfl]
  have h3 : updS (updS P l (leftS (ndAt t s) (P s))) r (rightS (ndAt t s) (P s)) r = rightS (ndAt t s) (P s) := by unfold updS; rw [if_pos rfl]
  rw [h]
  simp only [List.forall_mem_cons]
  rw [ord_step hin hs hl hr, h2, h3, and_assoc]
  refine and_congr_right fun _ => and_congr_right fun _ => ?_
  exact ⟨fun q p hp => by rw [h1 p hp]; exact q p hp, fun q p hp => by have := q p hp; rwa [h1 p hp] at this⟩
-- WALK
theorem sp_put {w : World} {cs : Array Value} {T : TypeId} {v x : Value} (h2 : (w.alloc (.cells cs T)).cell? ⟨w.heap.size, 1, none⟩ = some x ∧ (w.alloc (.cells cs T)).frozen? ⟨w.heap.size, 1, none⟩ = false) : (w.alloc (.cells (cs.setIfInBounds 0 v) T)).cell? ⟨w.heap.size, 1, none⟩ = some x ∧ (w.alloc (.cells (cs.setIfInBounds 0 v) T)).frozen? ⟨w.heap.size, 1, none⟩ = false := by
  have e := World.setCell_alloc_at (w := w) cs T w.heap.size 0 v rfl
  rw [← e]
  exact ⟨(World.cell?_setCell_other _ _ _ _ (fun q => by injection q with _ q _; omega)).trans h2.1, by simp⟩
theorem sp_full {w : World} {cs : Array Value} {T : TypeId} {n : Nat} (h : SpR (w.alloc (.cells cs T)) w.heap.size n (fun _ => (0, 0))) : SpR (w.alloc (.cells ((cs.setIfInBounds 0 (.int .i64 (-9223372036854775808))).setIfInBounds 1 (.int .i64 9223372036854775807)) T)) w.heap.size n (updS (fun _ => (0, 0)) 0 (-9223372036854775808, 9223372036854775807)) := by
  have q := h.set 0 (-9223372036854775808, 9223372036854775807)
  simp only [Nat.zero_mul, Nat.zero_add] at q
  rw [World.setCell_alloc_at _ _ _ _ _ rfl, World.setCell_alloc_at _ _ _ _ _ rfl] at q
  exact q
/-- What Ordered's loop has. -/
structure OAt (w0 x : World) (gp gr : Nat) (t : NL) (X : List Nat) (P : Nat → SpD) : Prop where
  spans : SpR x gp t.length P
  rows : Ints x gr X.length (fun i => ((X.getD i 0 : Nat) : Int))
  plt : gp < x.heap.size
  rlt : gr < x.heap.size
  below : Below w0.heap.size w0 x
theorem OAt.quiet {w0 x y : World} {gp gr : Nat} {t : NL} {X : List Nat} {P : Nat → SpD} (h : OAt w0 x gp gr t X P) (hb : Below x.heap.size x y) : OAt w0 y gp gr t X P :=
  ⟨h.spans.below h.plt hb, h.rows.below h.rlt hb, Nat.lt_of_lt_of_le h.plt hb.size, Nat.lt_of_lt_of_le h.rlt hb.size, h.below.trans (hb.mono h.below.size)⟩
theorem OAt.put {w0 x : World} {gp gr : Nat} {t : NL} {X : List Nat} {P : Nat → SpD} (h : OAt w0 x gp gr t X P) (hne : gr ≠ gp) (hg : w0.heap.size ≤ gp) (k : Nat) (s : SpD) : OAt w0 ((x.setCell ⟨gp, k * 2, none⟩ (.int .i64 s.1)).setCell ⟨gp, k * 2 + 1, none⟩ (.int .i64 s.2)) gp gr t X (updS P k s) :=
  ⟨h.spans.set k s, (h.rows.apart gp _ _ (Ne.symm hne)).apart gp _ _ (Ne.symm hne), by simpa using h.plt, by simpa using h.rlt, (h.below.setCell hg _).setCell hg _⟩
theorem two_cells {w : World} {b : Nat} {v0 v1 : Value} {T : TypeId} (h : w.heap[b]? = some (.cells #[v0, v1] T)) : b < w.heap.size ∧ w.cell? ⟨b, 0, none⟩ = some v0 ∧ w.cell? ⟨b, 1, none⟩ = some v1 := by
  refine ⟨(Array.getElem?_eq_some_iff.1 h).1, ?_, ?_⟩ <;> simp [World.cell?, h]
theorem OAt.drew {w0 x : World} {gp gr : Nat} {t : NL} {X : List Nat} {P : Nat → SpD} (h : OAt w0 x gp gr t X P) : OAt w0 x.drew gp gr t X P := ⟨h.spans, h.rows, h.plt, h.rlt, h.below.drew⟩
/-- The boxes of a node and a span. -/
def TwoBox (w : World) (n : NdD) (s : SpD) (v8 v9 : Value) (x : World) : Prop := ∃ bn bs, v8 = .pointer (some ⟨bn, 0, none⟩) ∧ v9 = .pointer (some ⟨bs, 0, none⟩) ∧ x.heap[bn]? = some (.cells #[.int .i64 n.key, .int .i64 n.inf, .int .i64 n.wt, .int .i64 n.val, .int .i64 n.l, .int .i64 n.r] 55) ∧ x.heap[bs]? = some (.cells #[.int .i64 s.1, .int .i64 s.2] 122) ∧ Below w.heap.size w x ∧ w.heap.size ≤ bn ∧ w.heap.size ≤ bs
theorem two_a (w : World) (n : NdD) (s : SpD) : TwoBox w n s (.pointer (some ⟨w.heap.size + 1, 0, none⟩)) (.pointer (some ⟨w.heap.size, 0, none⟩)) ((w.alloc (.cells #[.int .i64 s.1, .int .i64 s.2] 122)).alloc (.cells #[.int .i64 n.key, .int .i64 n.inf, .int .i64 n.wt, .int .i64 n.val, .int .i64 n.l, .int .i64 n.r] 55)).drew :=
  ⟨_, _, rfl, rfl, heap_alloc_at _ _ _ (by simp), (heap_alloc_old _ _ (by simp)).trans (heap_alloc_at _ _ _ rfl), ((below_alloc w _).alloc (by simp) _).drew, by omega, by omega⟩
theorem two_b (w : World) (n : NdD) (s : SpD) : TwoBox w n s (.pointer (some ⟨w.heap.size, 0, none⟩)) (.pointer (some ⟨w.heap.size + 1, 0, none⟩)) ((w.alloc (.cells #[.int .i64 n.key, .int .i64 n.inf, .int .i64 n.wt, .int .i64 n.val, .int .i64 n.l, .int .i64 n.r] 55)).alloc (.cells #[.int .i64 s.1, .int .i64 s.2] 122)).drew :=
  ⟨_, _, rfl, rfl, (heap_alloc_old _ _ (by simp)).trans (heap_alloc_at _ _ _ rfl), heap_alloc_at _ _ _ (by simp), ((below_alloc w _).alloc (by simp) _).drew, by omega, by omega⟩
open Classical in
noncomputable def ordB (t : NL) : Bool := decide (formE t = 0 ∧ ordP t)
open Classical in
theorem ordB_yes {t : NL} (h : formE t = 0) (q : ordP t) : ordB t = true := by unfold ordB; exact decide_eq_true ⟨h, q⟩
open Classical in
theorem ordB_no {t : NL} (q : ¬ ordP t) : ordB t = false := by unfold ordB; exact decide_eq_false (fun h => q h.2)
open Classical in
theorem ordB_bad {t : NL} (q : formE t ≠ 0) : ordB t = false := by unfold ordB; exact decide_eq_false (fun h => q h.1)
set_option maxRecDepth 100000 in
set_option maxHeartbeats 4000000 in
theorem Ordered_any (base : Option Addr) (b o c : Nat) (t : NL) (w : World) (h : NodesAt w base b o t) (hin : NodesIn t) :
    Calls Try.prog 52 #[.slice base t.length c] w fun e w' => e = .returned (.tuple #[.bool (ordB t), .int .i64 (formE t)]) ∧ Below w.heap.size w w' := by
  have HA : Hid _ := h
  have HIN : Hid (NodesIn t) := hin
  clear h hin
  by_cases he : formE t = 0
  · obtain ⟨hbig, hf⟩ := formE_ok he
    obtain ⟨hT, hN, hlen⟩ := theL_form hf
    have FY : Hid (ordP t → ordB t = true) := ordB_yes he
    have FN : Hid (¬ ordP t → ordB t = false) := ordB_no
    have HE : Hid _ := he
    have HT : Hid (Tree _ _ _) := hT
    have HN : Hid (List.Nodup _) := hN
    have hpos := hf.pos
    have hl0 : 0 < (theL t 0).length := by omega
    have hl1 : (theL t 0).length ≤ 100000 := by omega
    obtain ⟨e1, e2⟩ := e_eq he
    obtain rfl : base = some ⟨b, o, none⟩ := HA.out.base (by omega)
    have hbl := HA.out.lt (by omega)
    have HO1 : Hid _ := ord_first HIN.out
    clear he hf hT hN hlen
    generalize theL t 0 = X at HT HN hl0 hl1
    have hmi := run_make_known (P := Try.prog) 120 122 (.agg #[.int .i64 0, .int .i64 0]) 2 16 spr_under sp_info t.length (by omega) (by omega)
    have hp0 : (0 : Int) < (t.length : Int) := by omega
    have Z : Hid (∀ W : World, SpR (W.alloc (.cells (madeCells #[.int .i64 0, .int .i64 0] (t.length * 2)) 122)) W.heap.size t.length (fun _ => (0, 0))) := fun W => by rw [made_two]; exact sp_zero W _ _
    go_enter Try.func52, Try.ntmps52
    go_wp2_with (first | (go_at_call 50; refine (check_any _ b o c t _ HA.out).mono ?_; rintro e w1 ⟨rfl, hb1⟩; have HB1 : Hid _ := hb1; have hw1 := hb1.size; have zz := Z.out w1 0 hpos; obtain ⟨z1, z3⟩ := zz; simp only [Nat.zero_mul, Nat.zero_add] at z1 z3; have z5 := sp_put (v := .int .i64 (-9223372036854775808)) z3; have HZ : Hid (SpR _ _ _ _) := sp_full (Z.out w1); clear hb1) | (go_at_call 77; refine (order_any _ b o c t 0 X _ (HA.out.below (HB1.out.alloc HB1.out.size _)) HT.out (by omega)).mono ?_; rintro e w3 ⟨v, rfl, ho, hb3⟩; obtain ⟨gr, cr, rfl, hgr, hgrl, hcap, -, -, -⟩ := owns_some ho hl0; have hI := owns_ints ho hl0 rfl; simp only [World.size_alloc] at hgr; have hw3 := hb3.size; simp only [World.size_alloc] at hw3; have T0 : Hid (OAt w w3 w1.heap.size gr t X _) := ⟨HZ.out.below (by simp) hb3, hI, by omega, hgrl, HB1.out.trans (((below_alloc w1 _).trans (hb3.mono (by simp))).mono HB1.out.size)⟩; clear ho hb3 hI z1 z3 z5))
    go_loopw [24] (fun i wr => ∃ (V S R : List Nat) (P : Nat → SpD), i = .int .i64 (V.length : Nat) ∧ V ++ R = X ∧ Todo t S R ∧ (ordP t ↔ ∀ p ∈ S, OrdAt t p (inS (P p))) ∧ OAt w wr w1.heap.size gr t X P) (fun i _ => X.length - (intOf i).toNat)
    case atStart => exact ⟨[], [0], X, _, rfl, rfl, todo_one HT.out, by rw [HO1.out]; simp [updS], T0.out⟩
    case round =>
      obtain ⟨V, S, R, P, rfl, hV, hS, hO, hA⟩ := hrel
      have hVR : V.length + R.length = X.length := by rw [← hV]; simp
      have T1 : Hid _ := hA
      have h1 := hA.plt
      have h2 := hA.rlt
      have h3 := hA.below.size
      have hbr : b < wr.heap.size := by omega
      cases S with
      | nil =>
        obtain rfl : R = [] := hS
        have hV' : V.length = X.length := by simpa using hVR
        have F : Hid (ordB t = true) := FY.out (hO.2 (fun p hp => by simp at hp))
        clear hO hA hV
        rw [hV']
        go_wp2_with fail
        go_ret2
        exact ⟨by rw [F.out, HE.out]; rfl, T1.out.below⟩
      | cons s S =>
        obtain ⟨hs, hstep⟩ := todo_step hS
        have hR0 : R ≠ [] := by rcases hstep with ⟨R', hR, -⟩ | ⟨l, r, R', -, hR, -⟩ <;> rw [hR] <;> simp
        have hRl : 0 < R.length := List.length_pos_iff.2 hR0
        have hlt : V.length < X.length := by omega
        have hxs : X.getD V.length 0 = s := by
          rw [← hV]
          rcases hstep with ⟨R', hR, -⟩ | ⟨l, r, R', -, hR, -⟩ <;> rw [hR] <;> simp
        have r1 : wr.cell? ⟨gr, V.length, none⟩ = some (.int .i64 (s : Int)) := by rw [← hxs]; exact (hA.rows V.length hlt).1
        obtain ⟨⟨p0, -⟩, p1, -⟩ := hA.spans s hs
        have HC : Hid _ := (HA.out.below hA.below).cells s hs
        have HV : Hid _ := hV
        have HO : Hid _ := hO
        have s0 : (0 : Int) ≤ (s : Int) := Int.natCast_nonneg _
        have s1 : (s : Int) < (t.length : Int) := by omega
        have j0 : (0 : Int) ≤ (V.length : Int) := Int.natCast_nonneg _
        have j1 : (V.length : Int) < (X.length : Int) := by omega
        have HK := (HIN.out s hs).1
        clear hA hV hO hxs
        rcases hstep with ⟨R', hR, hl, hr, hTd⟩ | ⟨l, r, R', R'', hR, hl, hr, hll, hrl, hTd, -, -⟩
        · have HLF : Hid _ := leafB_yes (n := ndAt t s) hl hr
          have HR : Hid _ := hR
          have HTD : Hid (Todo t _ _) := hTd
          have HQ : Hid (ordP t ↔ (((ndAt t s).inf = 0 → inS (P s) (ndAt t s).key) ∧ ∀ p ∈ S, OrdAt t p (inS (P p)))) := by
            show _ ↔ _
            rw [HO.out]
            simp only [List.forall_mem_cons]
            rw [ord_leaf hs hl hr]
          clear hR hTd hl hr
          generalize ndAt t s = nd at HC HLF HK HQ
          generalize P s = sp at p0 p1 HQ
          obtain ⟨k0, k1, k2, k3, k4, k5⟩ := nd
          obtain ⟨q0, q1⟩ := sp
          simp only at HC HK p0 p1
          obtain ⟨c0, c1, c2, c3, c4, c5⟩ := HC.out
          go_wp2_with fail
          go_cut [8, 9] from 28 to 35 (fun v8 v9 wx => TwoBox wr ⟨k0, k1, k2, k3, k4, k5⟩ (q0, q1) v8 v9 wx)
          case first =>
            go_region
            all_goals go_wp2_with fail
            all_goals go_meet
            all_goals first | exact two_a _ _ _ | exact two_b _ _ _
          case rest =>
            obtain ⟨bn, bs, rfl, rfl, hn, hsp, hbx, hbn, hbs⟩ := hcut
            have T2 : Hid _ := T1.out.quiet hbx
            simp only at hn hsp
            have HBN : Hid _ := hn
            have HBS : Hid _ := hsp
            obtain ⟨bl, b0, b1, b2, b3, b4, b5⟩ := box_cells hn
            obtain ⟨sl, t0, t1⟩ := two_cells hsp
            clear hn hsp hbx c0 c1 c2 c3 c4 c5 p0 p1 r1
            generalize wc = w4 at *
            by_cases g1 : k1 = 0
            · have d1 : (k1 == 0) = true := by simp [g1]
              by_cases g2 : k0 < q0
              · have d2 : decide (k0 < q0) = true := by simp [g2]
                have F : Hid (ordB t = false) := FN.out (fun q => by have := (HQ.out.1 q).1 g1; simp only [inS] at this; omega)
                clear g1
                go_wp2_with (first | (go_at_call 81; have hq := T2; refine (isLeaf_any _ _ _ _ _ _ _).mono ?_; rintro e w5 ⟨rfl, hb5⟩; rw [HLF.out]; have T3 : Hid _ := T2.out.quiet hb5; have HN5 := (hb5.block _ bl).trans HBN.out; have HS5 := (hb5.block _ sl).trans HBS.out; obtain ⟨bl', d10, d11, d12, d13, d14, d15⟩ := box_cells HN5; obtain ⟨sl', t0', t1'⟩ := two_cells HS5; clear hb5 hq T2 HN5 HS5))
                go_ret2
                exact ⟨by rw [F.out, HE.out]; rfl, T3.out.below⟩
              · have d2 : decide (k0 < q0) = false := by simp [g2]
                have d2' : q0 ≤ k0 := by omega
                by_cases g3 : q1 < k0
                · have d3 : decide (q1 < k0) = true := by simp [g3]
                  have d4 : decide (k0 > q1) = true := by simp [g3]
                  have F : Hid (ordB t = false) := FN.out (fun q => by have := (HQ.out.1 q).1 g1; simp only [inS] at this; omega)
                  clear g1
                  go_wp2_with (first | (go_at_call 81; have hq := T2; refine (isLeaf_any _ _ _ _ _ _ _).mono ?_; rintro e w5 ⟨rfl, hb5⟩; rw [HLF.out]; have T3 : Hid _ := T2.out.quiet hb5; have HN5 := (hb5.block _ bl).trans HBN.out; have HS5 := (hb5.block _ sl).trans HBS.out; obtain ⟨bl', d10, d11, d12, d13, d14, d15⟩ := box_cells HN5; obtain ⟨sl', t0', t1'⟩ := two_cells HS5; clear hb5 hq T2 HN5 HS5))
                  go_ret2
                  exact ⟨by rw [F.out, HE.out]; rfl, T3.out.below⟩
                · have d3 : decide (q1 < k0) = false := by simp [g3]
                  have d4 : decide (k0 > q1) = false := by simp [g3]
                  have d5 : k0 ≤ q1 := by omega
                  have HG : Hid (ordP t ↔ ∀ p ∈ S, OrdAt t p (inS (P p))) := HQ.out.trans ⟨fun q => q.2, fun q => ⟨fun _ => ⟨by show q0 ≤ k0; omega, by show k0 ≤ q1; omega⟩, q⟩⟩
                  clear g1
                  go_wp2_with (first | (go_at_call 81; have hq := T2; refine (isLeaf_any _ _ _ _ _ _ _).mono ?_; rintro e w5 ⟨rfl, hb5⟩; rw [HLF.out]; have T3 : Hid _ := T2.out.quiet hb5; have HN5 := (hb5.block _ bl).trans HBN.out; have HS5 := (hb5.block _ sl).trans HBS.out; obtain ⟨bl', d10, d11, d12, d13, d14, d15⟩ := box_cells HN5; obtain ⟨sl', t0', t1'⟩ := two_cells HS5; clear hb5 hq T2 HN5 HS5))
                  exact ⟨⟨V ++ [s], S, R', P, by simp, by rw [← HV.out, HR.out]; simp, HTD.out, HG.out, T3.out⟩, by simp [intOf]; omega⟩
            · have d1 : (k1 == 0) = false := by simp [g1]
              have HG : Hid (ordP t ↔ ∀ p ∈ S, OrdAt t p (inS (P p))) := HQ.out.trans ⟨fun q => q.2, fun q => ⟨fun h => absurd h g1, q⟩⟩
              clear g1
              go_wp2_with (first | (go_at_call 81; have hq := T2; refine (isLeaf_any _ _ _ _ _ _ _).mono ?_; rintro e w5 ⟨rfl, hb5⟩; rw [HLF.out]; have T3 : Hid _ := T2.out.quiet hb5; have HN5 := (hb5.block _ bl).trans HBN.out; have HS5 := (hb5.block _ sl).trans HBS.out; obtain ⟨bl', d10, d11, d12, d13, d14, d15⟩ := box_cells HN5; obtain ⟨sl', t0', t1'⟩ := two_cells HS5; clear hb5 hq T2 HN5 HS5))
              exact ⟨⟨V ++ [s], S, R', P, by simp, by rw [← HV.out, HR.out]; simp, HTD.out, HG.out, T3.out⟩, by simp [intOf]; omega⟩
        · have HLF : Hid _ := leafB_no (n := ndAt t s) (by omega)
          have HR : Hid _ := hR
          have HND : Hid (List.Nodup (l :: r :: S)) := by
            have q : (s :: R').Nodup := by rw [← hR]; exact (List.nodup_append.1 (by rw [HV.out]; exact HN.out)).2.1
            exact (List.nodup_cons.1 q).2.sublist (todo_sub hTd)
          have HTD : Hid (Todo t _ _) := hTd
          have HP : Hid _ := ord_push HIN.out hs hl hr HND.out HO.out
          clear hR hTd
          generalize ndAt t s = nd at HC HLF hl hr HK HP
          generalize P s = sp at p0 p1 HP
          obtain ⟨k0, k1, k2, k3, k4, k5⟩ := nd
          obtain ⟨q0, q1⟩ := sp
          simp only at HC hl hr HK p0 p1
          subst hl hr
          obtain ⟨c0, c1, c2, c3, c4, c5⟩ := HC.out
          go_wp2_with fail
          go_cut [8, 9] from 28 to 35 (fun v8 v9 wx => TwoBox wr ⟨k0, k1, k2, k3, (l : Int), (r : Int)⟩ (q0, q1) v8 v9 wx)
          case first =>
            go_region
            all_goals go_wp2_with fail
            all_goals go_meet
            all_goals first | exact two_a _ _ _ | exact two_b _ _ _
          case rest =>
            obtain ⟨bn, bs, rfl, rfl, hn, hsp, hbx, hbn, hbs⟩ := hcut
            have T2 : Hid _ := T1.out.quiet hbx
            simp only at hn hsp
            have HBN : Hid _ := hn
            have HBS : Hid _ := hsp
            obtain ⟨bl, b0, b1, b2, b3, b4, b5⟩ := box_cells hn
            obtain ⟨sl, t0, t1⟩ := two_cells hsp
            have l3 : (l : Int) < (t.length : Int) := by omega
            have r3 : (r : Int) < (t.length : Int) := by omega
            have l4 : (0 : Int) ≤ (l : Int) := Int.natCast_nonneg _
            have r4 : (0 : Int) ≤ (r : Int) := Int.natCast_nonneg _
            have hlr : l ≠ r := fun q => (List.nodup_cons.1 HND.out).1 (by rw [q]; exact List.mem_cons_self)
            have hgne : gr ≠ w1.heap.size := by omega
            have u1 : bn ≠ w1.heap.size := by omega
            have u2 : bs ≠ w1.heap.size := by omega
            have u3 : w1.heap.size ≠ bn := by omega
            have u4 : w1.heap.size ≠ bs := by omega
            have v1 : r * 2 ≠ l * 2 := by omega
            have v2 : r * 2 ≠ l * 2 + 1 := by omega
            have v3 : r * 2 + 1 ≠ l * 2 := by omega
            have v4 : r * 2 + 1 ≠ l * 2 + 1 := by omega
            have v5 : l * 2 ≠ r * 2 := by omega
            have v6 : l * 2 + 1 ≠ r * 2 := by omega
            have v7 : l * 2 ≠ r * 2 + 1 := by omega
            have v8 : l * 2 + 1 ≠ r * 2 + 1 := by omega
            clear hn hsp hbx c0 c1 c2 c3 c4 c5 p0 p1 r1
            generalize wc = w4 at *
            go_wp2_with (first | (go_at_call 81; have hq := T2; refine (isLeaf_any _ _ _ _ _ _ _).mono ?_; rintro e w5 ⟨rfl, hb5⟩; rw [HLF.out]; have T3 : Hid _ := T2.out.quiet hb5; have HN5 : Hid _ := (hb5.block _ bl).trans HBN.out; have HS5 : Hid _ := (hb5.block _ sl).trans HBS.out; obtain ⟨bl, b0, b1, b2, b3, b4, b5⟩ := box_cells HN5.out; obtain ⟨sl, t0, t1⟩ := two_cells HS5.out; clear hb5 hq T2))
            go_region_with (go_at_call 82; refine (parted_any _ _ _ _ _ _ _ _ _ HK).mono ?_; rintro e w6 ⟨rfl, hb6⟩; have T6 : Hid (OAt w w6 w1.heap.size gr t X P) := (by first | exact T3.out.quiet hb6 | exact T3.out.drew.quiet hb6); have HN6 := (hb6.block _ bl).trans HN5.out; have HS6 := (hb6.block _ sl).trans HS5.out; obtain ⟨bl', d0, d1, d2, d3, d4, d5⟩ := box_cells HN6; obtain ⟨sl', f0, f1⟩ := two_cells HS6; obtain ⟨m0, m1⟩ := T6.out.spans l hll; obtain ⟨m2, m3⟩ := T6.out.spans r hrl; clear hb6 HN6 HS6)
            all_goals go_wp2_with fail
            all_goals exact ⟨⟨V ++ [s], l :: r :: S, R', _, by simp, by rw [← HV.out, HR.out]; simp, HTD.out, HP.out, (by first | exact (T6.out.put hgne hw1 l _).put hgne hw1 r _ | exact ((T6.out.put hgne hw1 l _).put hgne hw1 r _).drew)⟩, by simp [intOf]; omega⟩
  · have F : Hid (ordB t = false) := ordB_bad he
    obtain ⟨e1, e2⟩ := e_ne he
    clear he
    go_enter Try.func52, Try.ntmps52
    go_wp2_with (first | (go_at_call 50; refine (check_any _ b o c t _ HA.out).mono ?_; rintro e w1 ⟨rfl, hb1⟩; have HB1 : Hid _ := hb1; clear hb1))
    go_ret2
    exact ⟨by rw [F.out]; rfl, HB1.out⟩
end Go.Proofs.Ythlhbajaogonnaa

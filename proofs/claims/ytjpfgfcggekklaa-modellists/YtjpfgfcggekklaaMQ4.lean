/- Layer 6: the program's above; slices.Grow of nil and slices.Concat of two slices, at pairs. Layer 6: rows of ints; the reference's Differ. Layer 6: slices.Concat of two slices of pairs. Layer 6: the program's Differ. -/
import Derived.Test.YtjpfgfcggekklaaMG4
import Derived.Test.YtjpfgfcggekklaaMDfP
import Derived.Test.YtjpfgfcggekklaaSBase
import Derived.Lib.AppendZeros
import Derived.Test.YtjpfgfcggekklaaMR5
namespace Go.Proofs.Ytjpfgfcggekklaa
open Go.RowKit

theorem PairsAt.tail {w : World} {b o : Nat} {p : Int × Int} {t : PL} {A : Option Addr} (h : PairsAt w (some ⟨b, o, none⟩) b o (p :: t)) (hA : t.length ≠ 0 → A = some ⟨b, o + 2, none⟩) : PairsAt w A b (o + 2) t := by
  refine ⟨hA, fun _ => h.lt (by simp), fun i hi => ?_, by have := h.len; simp only [List.length_cons] at this; omega⟩
  have := h.cells (i + 1) (by simp; omega)
  rw [show o + (i + 1) * 2 = o + 2 + i * 2 by omega] at this
  simpa [keyAt, valAt] using this
theorem PairsAt.head {w : World} {b o : Nat} {p : Int × Int} {t : PL} {A : Option Addr} (h : PairsAt w A b o (p :: t)) : w.cell? ⟨b, o, none⟩ = some (.int .i64 p.1) ∧ w.cell? ⟨b, o + 1, none⟩ = some (.int .i64 p.2) := by
  have := h.cells 0 (by simp)
  simpa [keyAt, valAt] using this

set_option maxRecDepth 100000 in
set_option maxHeartbeats 1000000 in
theorem above_eq (b o c n : Nat) (p : Int × Int) (t : PL) (w : World) (h : PairsAt w (some ⟨b, o, none⟩) b o (p :: t)) (hn : n = t.length + 1) (hc : n ≤ c) (hcm : c ≤ maxLen) :
    Calls Try.prog 55 #[.slice (some ⟨b, o, none⟩) n c, .int .i64 p.1] w fun e w' => w' = w ∧ ∃ A, e = .returned (.slice A t.length (c - 1)) ∧ PairsAt w A b (o + 2) t ∧ (A = none → t.length = 0 ∧ c - 1 = 0) := by
  obtain ⟨c0, _⟩ := h.head
  unfold maxLen at hcm
  have HA : Hid _ := h
  have T : Hid (∀ A : Option Addr, (t.length ≠ 0 → A = some ⟨b, o + 2, none⟩) → PairsAt w A b (o + 2) t) := fun A hA => HA.out.tail hA
  have zb := h.lt (by simp)
  have n1 : n - 1 = t.length := by omega
  have N1 : Hid _ := n1
  have N2 : Hid _ := hn
  have N3 : Hid _ := hc
  have q0 : (0 : Int) < (n : Int) := by omega
  have q1 : (1 : Int) ≤ (n : Int) := by omega
  have q2 : (1 : Int) ≤ (c : Int) := by omega
  have q3 : (n : Int) ≤ (c : Int) := by omega
  clear h n1 hn
  go_enter Try.func55, Try.ntmps55
  go_wp2_with fail
  · go_ret
    refine ⟨rfl, some ⟨b, o, none⟩, by simp [N1.out], T.out _ (fun q => ?_), (fun q => by cases q)⟩
    have := N2.out; have := N3.out; omega
  · go_ret
    exact ⟨rfl, some ⟨b, o + 2, none⟩, by simp [N1.out], T.out _ (fun _ => rfl), (fun q => by cases q)⟩

set_option maxRecDepth 100000 in
set_option maxHeartbeats 1000000 in
theorem above_ne (b o c n : Nat) (p : Int × Int) (t : PL) (k : Int) (w : World) (h : PairsAt w (some ⟨b, o, none⟩) b o (p :: t)) (hn : n = t.length + 1) (hk : p.1 ≠ k) :
    Calls Try.prog 55 #[.slice (some ⟨b, o, none⟩) n c, .int .i64 k] w fun e w' => w' = w ∧ e = .returned (.slice (some ⟨b, o, none⟩) n c) := by
  obtain ⟨c0, _⟩ := h.head
  have zb := h.lt (by simp)
  have q0 : (0 : Int) < (n : Int) := by omega
  have hk' : (p.1 == k) = false := by simpa using hk
  clear h hn hk
  go_enter Try.func55, Try.ntmps55
  go_wp2_with fail
  go_ret
  exact ⟨rfl, rfl⟩

set_option maxRecDepth 100000 in
set_option maxHeartbeats 1000000 in
theorem growP_zero (w : World) :
    Calls Try.prog 68 #[.slice none 0 0, .int .i64 0] w fun e w' => e = .returned (.slice none 0 0) ∧ w' = w := by
  go_enter Try.func68, Try.ntmps68
  go_wp2_with fail
  go_ret
  exact ⟨rfl, rfl⟩

set_option maxRecDepth 100000 in
set_option maxHeartbeats 1000000 in
theorem growP_some (n : Nat) (w : World) (hn : 0 < n) (hm : n ≤ 1000000) :
    Calls Try.prog 68 #[.slice none 0 0, .int .i64 n] w fun e w' => ∃ v, e = .returned v ∧ Below w.heap.size w w' ∧ w'.ownsRow w.heap.size 59 2 v 0 [] := by
  obtain ⟨i0, hi0, hz0, hz1, hz2⟩ := info_parts pr_info
  have H1 := fun ty => Lib.run_append_nil_zeros (P := Try.prog) w 22 3 ty 59 i0 _ .i64 .i64 prs_under Try.underlying3 hi0 hz0 n hn (by omega) (by omega) (by rw [hz2]; omega)
  have hG := grownCap_ge w n 0 59
  have hG2 := grownCap_le_maxLen w n 0 59 (by unfold maxLen; omega)
  generalize grownCap w n 0 59 = G at *
  obtain ⟨W, hW⟩ : ∃ W, W = w.drew.alloc (.cells (Builtin.zeroCells (Value.agg #[.int .i64 0, .int .i64 0]).cells n ++ Builtin.zeroCells (Value.agg #[.int .i64 0, .int .i64 0]).cells (G - n)) 59) := ⟨_, rfl⟩
  rw [← hW] at H1
  have q0 : ¬ (n : Int) < 0 := by omega
  have q1 : (n : Int) > 0 := by omega
  have q2 : (0 : Int) < (n : Int) := by omega
  have BB : Hid (Below w.heap.size w W) := by
    show Below w.heap.size w W
    rw [hW]
    have : Below w.heap.size w w.drew := ⟨rfl, rfl, rfl, Nat.le_refl _, fun _ _ => rfl⟩
    exact this.alloc (Nat.le_refl _) _
  have OO : Hid (W.ownsRow w.heap.size 59 2 (.slice (some ⟨w.heap.size, 0, none⟩) 0 G) 0 []) := by
    show World.ownsRow _ _ _ _ _ _ _
    rw [hW]
    refine ⟨rfl, Or.inr ⟨w.heap.size, G, _, rfl, Nat.le_refl _, heap_alloc_at _ _ _ rfl, Nat.zero_le _, hG2, ?_, rfl⟩⟩
    simp [Builtin.zeroCells, Value.cells]
    omega
  unfold maxLen at hG2
  have g1 : (0 : Int) ≤ (G : Int) := by omega
  clear hW
  go_enter Try.func68, Try.ntmps68
  go_wp2_with (at_builtin; refine Lib.wpList_append_run _ rfl _ _ _ _ rfl _ _ rfl rfl _ _ (H1 _) ?_)
  go_ret
  exact ⟨_, rfl, BB.out, OO.out⟩
theorem above_is (b o c n : Nat) (p : Int × Int) (t : PL) (k : Int) (hk : p.1 = k) (w : World) (h : PairsAt w (some ⟨b, o, none⟩) b o (p :: t)) (hn : n = t.length + 1) (hc : n ≤ c) (hcm : c ≤ maxLen) :
    Calls Try.prog 55 #[.slice (some ⟨b, o, none⟩) n c, .int .i64 k] w fun e w' => w' = w ∧ ∃ A, e = .returned (.slice A t.length (c - 1)) ∧ PairsAt w A b (o + 2) t ∧ (A = none → t.length = 0 ∧ c - 1 = 0) := by
  subst hk
  exact above_eq b o c n p t w h hn hc hcm
/-- What lies below B stays, whatever happens above it. -/
theorem PairsAt.far {w wr w9 : World} {B : Nat} {A : Option Addr} {g o : Nat} {x : PL} (h : PairsAt wr A g o x) (hg : x.length ≠ 0 → g < B) (hB : B ≤ w.heap.size) (h1 : Below B w wr) (h2 : Below B w w9) : PairsAt w9 A g o x := by
  refine ⟨h.base, fun q => by have := hg q; have := h2.size; omega, fun i hi => ?_, h.len⟩
  have z := hg (by omega)
  obtain ⟨c0, c1⟩ := h.cells i hi
  rw [h1.cell (p := ⟨g, o + i * 2, none⟩) z] at c0
  rw [h1.cell (p := ⟨g, o + i * 2 + 1, none⟩) z] at c1
  exact ⟨(h2.cell (p := ⟨g, o + i * 2, none⟩) z).trans c0, (h2.cell (p := ⟨g, o + i * 2 + 1, none⟩) z).trans c1⟩
/-- Pairs stay where another row grows. -/
theorem PairsAt.grows {W w9 : World} {row : Option Nat} {A : Option Addr} {g o : Nat} {x : PL} (h : PairsAt W A g o x) (hg : W.grownBy w9 row) (hne : x.length ≠ 0 → ∀ k, row = some k → k ≠ g) : PairsAt w9 A g o x := by
  refine ⟨h.base, fun q => Nat.lt_of_lt_of_le (h.lt q) hg.size, fun i hi => ?_, h.len⟩
  have z := h.lt (by omega)
  have hn : ∀ off, some (Addr.block ⟨g, off, none⟩) ≠ row := fun _ q => hne (by omega) g q.symm rfl
  obtain ⟨c0, c1⟩ := h.cells i hi
  exact ⟨(hg.cell_far ⟨g, o + i * 2, none⟩ z (hn _)).trans c0, (hg.cell_far ⟨g, o + i * 2 + 1, none⟩ z (hn _)).trans c1⟩
end Go.Proofs.Ytjpfgfcggekklaa

namespace Go.Proofs.Ytjpfgfcggekklaa
open Go.RowKit

def intsC (l : List Int) : List Value := l.map (fun x => .int .i64 x)
theorem intsC_snoc (l : List Int) (k : Int) : intsC (l ++ [k]) = intsC l ++ [.int .i64 k] := by simp [intsC]
theorem intsC_length (l : List Int) : (intsC l).length = l.length := by simp [intsC]
theorem int_info : (Try.prog.info? 3).map (fun i => (i.zero, i.size, i.bytes)) = some (some (.int .i64 0), 1, 8) := by kernel_rfl
theorem ints_under : Try.prog.underlying 43 = some (.slice 3) := by kernel_rfl
/-- The error of Differ, and its keys. -/
def dfErr (a b : PL) : Int := if ckErr a = 0 ∧ ckErr b = 0 then 0 else 11
def dfL (a b : PL) : List Int := if ckErr a = 0 ∧ ckErr b = 0 then differL a b else []
theorem differN_le (a b both : PL) : ∀ j, (differN a b both j).length ≤ j
  | 0 => Nat.le_refl _
  | j + 1 => by
    have := differN_le a b both j
    simp only [differN]
    split
    · omega
    · simp; omega
theorem differ_length (a b : PL) : (differL a b).length ≤ a.length + b.length := by
  have h1 := differN_le a b (ofL (a ++ b)) (ofL (a ++ b)).length
  have h2 := ofN_length (a ++ b) (a ++ b).length
  unfold differL
  unfold ofL at h1 ⊢
  simp only [List.length_append] at h1 h2 ⊢
  omega
theorem differN_next (a b both : PL) (j : Nat) (sa sb : Bool) (va vb : Int) (h1 : (getK (keyAt both j) a).isSome = sa) (h2 : (getK (keyAt both j) b).isSome = sb) (h3 : (getK (keyAt both j) a).getD 0 = va) (h4 : (getK (keyAt both j) b).getD 0 = vb) :
    differN a b both (j + 1) = if sa = sb ∧ va = vb then differN a b both j else differN a b both j ++ [keyAt both j] := by
  subst h1 h2 h3 h4
  rfl

set_option maxRecDepth 100000 in
set_option maxHeartbeats 2000000 in
theorem rDiffer_any (ba bb : Option Addr) (ga oa ca gb ob cb : Nat) (a b : PL) (w : World) (ha : PairsAt w ba ga oa a) (hna : NilOk ba a.length ca) (hb : PairsAt w bb gb ob b) (hnb : NilOk bb b.length cb) (hl : a.length + b.length ≤ 1000000) :
    Calls Try.prog 27 #[.slice ba a.length ca, .slice bb b.length cb] w fun e w' => ∃ v, e = .returned (.tuple #[v, .int .i64 (dfErr a b)]) ∧ Below w.heap.size w w' ∧ w'.ownsRow w.heap.size 3 1 v (dfL a b).length (intsC (dfL a b)) := by
  obtain ⟨i0, hi0, hz0, hz1, hz2⟩ := info_parts pr_info
  obtain ⟨i1, hi1, hy0, hy1, hy2⟩ := info_parts int_info
  have HA : Hid _ := ha
  have HB : Hid _ := hb
  have HNA : Hid (ba = none → a.length = 0 ∧ ca = 0) := hna
  have HNB : Hid (bb = none → b.length = 0 ∧ cb = 0) := hnb
  clear ha hb hna hnb
  by_cases ea : ckErr a = 0
  · have na : (ckErr a != 0) = false := by simp [ea]
    by_cases eb : ckErr b = 0
    · have nb : (ckErr b != 0) = false := by simp [eb]
      have F : Hid (dfErr a b = 0 ∧ dfL a b = differL a b) := ⟨by unfold dfErr; rw [if_pos ⟨ea, eb⟩], by unfold dfL; rw [if_pos ⟨ea, eb⟩]⟩
      clear ea eb
      go_enter Try.func27, Try.ntmps27
      go_wp2_with fail
      refine (rcheck_any ba ga oa ca a _ HA.out).mono ?_
      rintro e w1 ⟨rfl, hb1⟩
      have B1 : Hid _ := hb1
      clear hb1
      go_wp2_with fail
      refine (rcheck_any bb gb ob cb b _ (HB.out.below B1.out)).mono ?_
      rintro e w2 ⟨rfl, hb2⟩
      have B2 : Hid (Below w.heap.size w w2) := B1.out.trans (hb2.mono B1.out.size)
      clear hb2
      have s2 := B2.out.size
      have NW : Hid _ := pairs_news (HA.out.below B2.out)
      go_wp2_with (first
        | (at_builtin; (refine wpList_append_all (by rfl) _ _ _ (by rfl) w.heap.size 59 i0 _ 2 16 prs_under hi0 hz0 hz1 hz2 rfl (by omega) (.slice none 0 0) 0 [] (by rfl) (World.ownsRow_nil _ _ _ _) ba a.length ca (pairCells a) (by rfl) HNA.out (pairCells_length _) NW.out (pairCells_one _) (by unfold maxLen; omega) (by omega) s2 ?_); intro v3 w3 hown3 hgrow3 hnl3; have B3 : Hid (Below w.heap.size w w3) := Below.grown B2.out hgrow3 (by omega) (by intro k hk; simp [Value.ownBlock] at hk); have O3 : Hid (World.ownsRow _ _ _ _ _ _ _) := hown3; have s3 := B3.out.size; have NW3 : Hid _ := pairs_news (HB.out.below B3.out); clear hgrow3 hnl3 hown3)
        | (at_builtin; (refine wpList_append_all (by rfl) _ _ _ (by rfl) w.heap.size 59 i0 _ 2 16 prs_under hi0 hz0 hz1 hz2 rfl (by omega) v3 (0 + a.length) ([] ++ pairCells a) (by rfl) O3.out bb b.length cb (pairCells b) (by rfl) HNB.out (pairCells_length _) NW3.out (pairCells_one _) (by unfold maxLen; omega) (by omega) s3 ?_); intro v4 w4 hown4 hgrow4 hnl4; have B4 : Hid (Below w.heap.size w w4) := Below.grown B3.out hgrow4 (by omega) (owns_ge O3.out); have O4 : Hid (w4.ownsRow w.heap.size 59 2 v4 (a ++ b).length (pairCells (a ++ b))) := (by show World.ownsRow _ _ _ _ _ _ _; rw [List.length_append, pairCells_append]; simpa using hown4); clear hgrow4 hnl4 hown4))
      have hab : (a ++ b).length ≤ 1000000 := by rw [List.length_append]; exact hl
      obtain ⟨a5, c5, g5, rfl, _, _, hp5⟩ := pairs_of_owns O4.out (by unfold maxLen; omega)
      refine (rOf_any a5 g5 0 c5 (a ++ b) _ hp5 hab).mono ?_
      rintro e w5 ⟨v5, rfl, hb5, ho5⟩
      have hol : (ofL (a ++ b)).length ≤ 1000000 := Nat.le_trans (ofN_length _ _) hab
      obtain ⟨a6, c6, g6, rfl, _, _, hp6⟩ := pairs_of_owns ho5 (by unfold maxLen; omega)
      have B5 : Hid (Below w.heap.size w w5) := B4.out.trans (hb5.mono B4.out.size)
      have P6 : Hid (PairsAt _ _ _ _ _) := hp6
      have DL : Hid (differN a b (ofL (a ++ b)) (ofL (a ++ b)).length = differL a b) := rfl
      clear hb5 ho5 hp5 hp6
      generalize ofL (a ++ b) = both at *
      go_wp2_with fail
      go_loopw [7, 8] (fun v i wr => ∃ j : Nat, j ≤ both.length ∧ i = .int .i64 j ∧ Below w.heap.size w wr ∧ Below w5.heap.size w5 wr ∧ wr.ownsRow w5.heap.size 3 1 v (differN a b both j).length (intsC (differN a b both j))) (fun _ i _ => both.length - (intOf i).toNat)
      case atStart => exact ⟨0, Nat.zero_le _, rfl, B5.out, Below.refl _ _, World.ownsRow_nil _ _ _ _⟩
      case round =>
        obtain ⟨j, hj, rfl, hbw, hbw5, hown⟩ := hrel
        have HW : Hid (Below w.heap.size w wr) := hbw
        have HW5 : Hid (Below w5.heap.size w5 wr) := hbw5
        have HO : Hid (World.ownsRow _ _ _ _ _ _ _) := hown
        have s7 := hbw.size
        have s8 := hbw5.size
        have hle := differN_le a b both j
        clear hbw hbw5 hown
        by_cases hlt : j < both.length
        · obtain rfl : a6 = some ⟨g6, 0, none⟩ := P6.out.base (by omega)
          have zb : g6 < wr.heap.size := (P6.out.below HW5.out).lt (by omega)
          obtain ⟨c0, c1⟩ := (P6.out.below HW5.out).cells j hlt
          simp only [Nat.zero_add] at c0 c1
          have j0 : (0 : Int) ≤ (j : Int) := Int.natCast_nonneg _
          have j1 : (j : Int) < (both.length : Int) := by omega
          have L1 : Hid (Calls _ _ _ _ _) := look_any ba ga oa ca a (keyAt both j) wr (HA.out.below HW.out)
          have L2 : Hid (Calls _ _ _ _ _) := look_any bb gb ob cb b (keyAt both j) wr (HB.out.below HW.out)
          obtain ⟨sa, q1⟩ : ∃ sa, (getK (keyAt both j) a).isSome = sa := ⟨_, rfl⟩
          obtain ⟨sb, q2⟩ : ∃ sb, (getK (keyAt both j) b).isSome = sb := ⟨_, rfl⟩
          obtain ⟨va, q3⟩ : ∃ va, (getK (keyAt both j) a).getD 0 = va := ⟨_, rfl⟩
          obtain ⟨vb, q4⟩ : ∃ vb, (getK (keyAt both j) b).getD 0 = vb := ⟨_, rfl⟩
          have HN : Hid _ := differN_next a b both j sa sb va vb q1 q2 q3 q4
          rw [q1, q3] at L1
          rw [q2, q4] at L2
          clear q1 q2 q3 q4
          generalize differN a b both j = L at *
          have hO := HO.out
          have D : ¬ sa = sb ∨ sa = sb ∧ ((va != vb) = true ∨ (va != vb) = false) := by
            by_cases q : sa = sb
            · refine Or.inr ⟨q, ?_⟩
              cases va != vb <;> simp
            · exact Or.inl q
          rcases D with D | ⟨rfl, D2 | D2⟩
          · have HI : Hid ((sa = sb ∧ va = vb) → False) := fun q => D q.1
            go_wp2_with fail
            refine L1.out.mono ?_
            rintro e w8 ⟨rfl, rfl⟩
            go_wp2_with fail
            refine L2.out.mono ?_
            rintro e w8 ⟨rfl, rfl⟩
            go_wp2_with (first | (at_builtin; (refine wpList_append_lies _ (by rfl) _ _ _ (by rfl) w5.heap.size 3 i1 _ 1 8 ints_under hi1 hy0 hy1 hy2 rfl (by omega) _ L.length _ (by rfl) (hO.alloc _) ⟨wr.heap.size, 0, none⟩ 1 1 [.int .i64 (keyAt both j)] (by rfl) (by rfl) (World.news_of_block (cs := #[.int .i64 (keyAt both j)]) (t := 3) (fr := (0, 0)) (heap_alloc_at _ _ _ (by simp))) (by simp [Value.oneCell']) (by omega) (by unfold maxLen; omega) (by omega) (by simp; omega) (wr.heap.size + 1) (by simp) ?_); intro gg cap w9 hown9 hgrow9 hat9 hlt9))
            have B9 : Hid (Below w.heap.size w w9) := Below.grown (HW.out.alloc s7 _) hgrow9 (by simp; omega) (fun k hk => by have := owns_ge HO.out k hk; have := B5.out.size; omega)
            have B95 : Hid (Below w5.heap.size w5 w9) := Below.grown (HW5.out.alloc s8 _) hgrow9 (by simp; omega) (owns_ge HO.out)
            have O9 : Hid (World.ownsRow _ _ _ _ _ _ _) := hown9
            clear hgrow9 hat9 hown9 hO
            go_wp2_with fail
            refine ⟨⟨j + 1, by omega, by go_num, B9.out, B95.out, ?_⟩, by simp [intOf]; omega⟩
            rw [HN.out, if_neg HI.out, List.length_append, intsC_snoc]
            exact O9.out
          · have HI : Hid ((sa = sa ∧ va = vb) → False) := fun q => by rw [q.2] at D2; simp at D2
            go_wp2_with fail
            refine L1.out.mono ?_
            rintro e w8 ⟨rfl, rfl⟩
            go_wp2_with fail
            refine L2.out.mono ?_
            rintro e w8 ⟨rfl, rfl⟩
            go_wp2_with (first | (at_builtin; (refine wpList_append_lies _ (by rfl) _ _ _ (by rfl) w5.heap.size 3 i1 _ 1 8 ints_under hi1 hy0 hy1 hy2 rfl (by omega) _ L.length _ (by rfl) (hO.alloc _) ⟨wr.heap.size, 0, none⟩ 1 1 [.int .i64 (keyAt both j)] (by rfl) (by rfl) (World.news_of_block (cs := #[.int .i64 (keyAt both j)]) (t := 3) (fr := (0, 0)) (heap_alloc_at _ _ _ (by simp))) (by simp [Value.oneCell']) (by omega) (by unfold maxLen; omega) (by omega) (by simp; omega) (wr.heap.size + 1) (by simp) ?_); intro gg cap w9 hown9 hgrow9 hat9 hlt9))
            have B9 : Hid (Below w.heap.size w w9) := Below.grown (HW.out.alloc s7 _) hgrow9 (by simp; omega) (fun k hk => by have := owns_ge HO.out k hk; have := B5.out.size; omega)
            have B95 : Hid (Below w5.heap.size w5 w9) := Below.grown (HW5.out.alloc s8 _) hgrow9 (by simp; omega) (owns_ge HO.out)
            have O9 : Hid (World.ownsRow _ _ _ _ _ _ _) := hown9
            clear hgrow9 hat9 hown9 hO
            go_wp2_with fail
            refine ⟨⟨j + 1, by omega, by go_num, B9.out, B95.out, ?_⟩, by simp [intOf]; omega⟩
            rw [HN.out, if_neg HI.out, List.length_append, intsC_snoc]
            exact O9.out
          · have HI : Hid (sa = sa ∧ va = vb) := ⟨rfl, by simpa using D2⟩
            clear hO
            go_wp2_with fail
            refine L1.out.mono ?_
            rintro e w8 ⟨rfl, rfl⟩
            go_wp2_with fail
            refine L2.out.mono ?_
            rintro e w8 ⟨rfl, rfl⟩
            go_wp2_with fail
            refine ⟨⟨j + 1, by omega, by go_num, HW.out, HW5.out, ?_⟩, by simp [intOf]; omega⟩
            rw [HN.out, if_pos HI.out]
            exact HO.out
        · obtain rfl : j = both.length := by omega
          go_wp2_with fail
          go_ret2
          rw [F.out.1, F.out.2, ← DL.out]
          exact ⟨u7, rfl, HW.out, owns_dn HO.out B5.out.size⟩
    · have nb : (ckErr b != 0) = true := by simp [eb]
      have F : Hid (dfErr a b = 11 ∧ dfL a b = []) := ⟨by unfold dfErr; rw [if_neg (fun q => eb q.2)], by unfold dfL; rw [if_neg (fun q => eb q.2)]⟩
      clear ea eb
      go_enter Try.func27, Try.ntmps27
      go_wp2_with fail
      refine (rcheck_any ba ga oa ca a _ HA.out).mono ?_
      rintro e w1 ⟨rfl, hb1⟩
      have B1 : Hid _ := hb1
      clear hb1
      go_wp2_with fail
      refine (rcheck_any bb gb ob cb b _ (HB.out.below B1.out)).mono ?_
      rintro e w2 ⟨rfl, hb2⟩
      have B2 : Hid (Below w.heap.size w w2) := B1.out.trans (hb2.mono B1.out.size)
      clear hb2
      go_wp2_with fail
      go_ret2
      rw [F.out.1, F.out.2]
      exact ⟨_, rfl, B2.out, World.ownsRow_nil _ _ _ _⟩
  · have na : (ckErr a != 0) = true := by simp [ea]
    have F : Hid (dfErr a b = 11 ∧ dfL a b = []) := ⟨by unfold dfErr; rw [if_neg (fun q => ea q.1)], by unfold dfL; rw [if_neg (fun q => ea q.1)]⟩
    clear ea
    go_enter Try.func27, Try.ntmps27
    go_wp2_with fail
    refine (rcheck_any ba ga oa ca a _ HA.out).mono ?_
    rintro e w1 ⟨rfl, hb1⟩
    have B1 : Hid _ := hb1
    clear hb1
    go_wp2_with fail
    go_ret2
    rw [F.out.1, F.out.2]
    exact ⟨_, rfl, B1.out, World.ownsRow_nil _ _ _ _⟩
end Go.Proofs.Ytjpfgfcggekklaa
namespace Go.Proofs.Ytjpfgfcggekklaa
open Go.RowKit

/-- The lists of the first j of two. -/
def catN (a b : PL) : Nat → PL
  | 0 => []
  | 1 => a
  | _ => a ++ b
theorem catN_le (a b : PL) (j : Nat) : (catN a b j).length ≤ a.length + b.length := by
  match j with
  | 0 => simp [catN]
  | 1 => simp [catN]
  | j + 2 => simp [catN]

set_option maxRecDepth 100000 in
set_option maxHeartbeats 2000000 in
theorem concat_any (ba bb : Option Addr) (ga oa ca gb ob cb g c : Nat) (a b : PL) (w : World) (ha : PairsAt w ba ga oa a) (hna : NilOk ba a.length ca) (hb : PairsAt w bb gb ob b) (hnb : NilOk bb b.length cb) (hl : a.length + b.length ≤ 1000000)
    (hg : g < w.heap.size) (h0 : w.cell? ⟨g, 0, none⟩ = some (.slice ba a.length ca)) (h1 : w.cell? ⟨g, 1, none⟩ = some (.slice bb b.length cb)) :
    Calls Try.prog 56 #[.slice (some ⟨g, 0, none⟩) 2 c] w fun e w' => ∃ v, e = .returned v ∧ Below w.heap.size w w' ∧ w'.ownsRow w.heap.size 59 2 v (a ++ b).length (pairCells (a ++ b)) := by
  obtain ⟨i0, hi0, hz0, hz1, hz2⟩ := info_parts pr_info
  have HA : Hid _ := ha
  have HB : Hid _ := hb
  have HNA : Hid (ba = none → a.length = 0 ∧ ca = 0) := hna
  have HNB : Hid (bb = none → b.length = 0 ∧ cb = 0) := hnb
  clear ha hb hna hnb
  have q2 : ((2 : Nat) : Int) = 2 := rfl
  go_enter Try.func56, Try.ntmps56
  go_wp2_with fail
  go_loopw [3, 11] (fun s i wr => ∃ j : Nat, j ≤ 2 ∧ i = .int .i64 j ∧ s = .int .i64 ((catN a b j).length : Nat) ∧ w = wr) (fun _ i _ => 2 - (intOf i).toNat)
  case atStart => exact ⟨0, by omega, rfl, rfl, rfl⟩
  case round =>
    obtain ⟨j, hj, rfl, rfl, rfl⟩ := hrel
    by_cases hlt : j < 2
    · have D : j = 0 ∨ j = 1 := by omega
      rcases D with rfl | rfl
      · have e0 : (catN a b 0).length = 0 := rfl
        have r1 : ¬ (a.length : Int) < 0 := by omega
        have r2 : (a.length : Int) ≤ 1000000 := by omega
        rw [e0]
        go_wp2_with fail
        exact ⟨⟨1, by omega, rfl, rfl, by first | rfl | trivial⟩, by simp [intOf]⟩
      · have e0 : (catN a b 1).length = a.length := rfl
        have e1 : (catN a b 2).length = a.length + b.length := by simp [catN]
        have r1 : ¬ (a.length : Int) + (b.length : Int) < 0 := by omega
        have r2 : (a.length : Int) + (b.length : Int) ≤ 1000000 := by omega
        have E1 : Hid _ := e1
        clear e1
        rw [e0]
        go_wp2_with fail
        exact ⟨⟨2, by omega, rfl, by rw [E1.out]; simp, by first | rfl | trivial⟩, by simp [intOf]⟩
    · obtain rfl : j = 2 := by omega
      have e1 : (catN a b 2).length = a.length + b.length := by simp [catN]
      rw [e1]
      have GR : Hid (Calls Try.prog 68 #[.slice none 0 0, .int .i64 ((a.length + b.length : Nat) : Int)] w fun e w' => ∃ v, e = .returned v ∧ Below w.heap.size w w' ∧ w'.ownsRow w.heap.size 59 2 v 0 []) := by
        by_cases q : a.length + b.length = 0
        · rw [q]
          refine (growP_zero w).mono ?_
          rintro e w' ⟨rfl, rfl⟩
          exact ⟨_, rfl, Below.refl _ _, World.ownsRow_nil _ _ _ _⟩
        · exact growP_some _ w (by omega) hl
      clear e1
      go_wp2_with fail
      refine GR.out.mono ?_
      rintro e w1 ⟨v1, rfl, hb1, ho1⟩
      have B1 : Hid (Below w.heap.size w w1) := hb1
      have O1 : Hid (World.ownsRow _ _ _ _ _ _ _) := ho1
      clear hb1 ho1
      go_wp2_with fail
      go_loopw [6, 27] (fun v i wr => ∃ j : Nat, j ≤ 2 ∧ i = .int .i64 j ∧ Below w.heap.size w wr ∧ wr.ownsRow w.heap.size 59 2 v (catN a b j).length (pairCells (catN a b j))) (fun _ i _ => 2 - (intOf i).toNat)
      case atStart => exact ⟨0, by omega, rfl, B1.out, O1.out⟩
      case round =>
        obtain ⟨j, hj, rfl, hbq, hown⟩ := hrel
        have BQ : Hid (Below w.heap.size w wr) := hbq
        have OQ : Hid (World.ownsRow _ _ _ _ _ _ _) := hown
        have s1 := hbq.size
        have k0 := (hbq.cell (p := ⟨g, 0, none⟩) hg).trans h0
        have k1 := (hbq.cell (p := ⟨g, 1, none⟩) hg).trans h1
        have zg : g < wr.heap.size := by omega
        have NA : Hid _ := pairs_news (HA.out.below hbq)
        have NB : Hid _ := pairs_news (HB.out.below hbq)
        clear hbq hown
        by_cases hlt : j < 2
        · have D : j = 0 ∨ j = 1 := by omega
          rcases D with rfl | rfl
          · go_wp2_with (first | (at_builtin; (refine wpList_append_all (by rfl) _ _ _ (by rfl) w.heap.size 59 i0 _ 2 16 prs_under hi0 hz0 hz1 hz2 rfl (by omega) _ 0 [] (by rfl) OQ.out ba a.length ca (pairCells a) (by rfl) HNA.out (pairCells_length _) NA.out (pairCells_one _) (by unfold maxLen; omega) (by omega) s1 ?_); intro v3 w3 hown3 hgrow3 hnl3))
            exact ⟨⟨1, by omega, rfl, Below.grown BQ.out hgrow3 (by omega) (owns_ge OQ.out), by simpa [catN] using hown3⟩, by simp [intOf]⟩
          · go_wp2_with (first | (at_builtin; (refine wpList_append_all (by rfl) _ _ _ (by rfl) w.heap.size 59 i0 _ 2 16 prs_under hi0 hz0 hz1 hz2 rfl (by omega) _ a.length (pairCells a) (by rfl) OQ.out bb b.length cb (pairCells b) (by rfl) HNB.out (pairCells_length _) NB.out (pairCells_one _) (by unfold maxLen; omega) (by omega) s1 ?_); intro v3 w3 hown3 hgrow3 hnl3))
            exact ⟨⟨2, by omega, rfl, Below.grown BQ.out hgrow3 (by omega) (owns_ge OQ.out), by simpa [catN, pairCells_append] using hown3⟩, by simp [intOf]⟩
        · obtain rfl : j = 2 := by omega
          go_wp2_with fail
          go_ret
          exact ⟨_, rfl, BQ.out, OQ.out⟩
end Go.Proofs.Ytjpfgfcggekklaa
namespace Go.Proofs.Ytjpfgfcggekklaa
open Go.RowKit

def lenV : Value → Nat
  | .slice _ n _ => n
  | _ => 0

/-- Where Differ's walk stands. -/
structure DfAt (w wr : World) (ga gb : Nat) (a b : PL) (av bv kv : Value) (x y : PL) (A B : Option Addr) (o1 o2 cx cy : Nat) (K : List Int) : Prop where
  ea : av = .slice A x.length cx
  eb : bv = .slice B y.length cy
  pa : PairsAt wr A ga o1 x
  pb : PairsAt wr B gb o2 y
  na : NilOk A x.length cx
  nb : NilOk B y.length cy
  la : x.length ≤ cx
  lb : y.length ≤ cy
  ma : cx ≤ maxLen
  mb : cy ≤ maxLen
  ga0 : x.length ≠ 0 → ga < w.heap.size
  gb0 : y.length ≠ 0 → gb < w.heap.size
  df : df a b = K ++ df x y
  len : K.length + x.length + y.length ≤ a.length + b.length
  bw : Below w.heap.size w wr
  own : wr.ownsRow w.heap.size 3 1 kv K.length (intsC K)
theorem DfAt.drew {w wr : World} {ga gb : Nat} {a b : PL} {av bv kv : Value} {x y : PL} {A B : Option Addr} {o1 o2 cx cy : Nat} {K : List Int} (h : DfAt w wr ga gb a b av bv kv x y A B o1 o2 cx cy K) (n : Nat) : DfAt w (wr.drew.drewN n) ga gb a b av bv kv x y A B o1 o2 cx cy K :=
  { h with pa := ⟨h.pa.base, h.pa.lt, h.pa.cells, h.pa.len⟩, pb := ⟨h.pb.base, h.pb.lt, h.pb.cells, h.pb.len⟩, bw := ⟨h.bw.os, h.bw.tape, h.bw.output, h.bw.size, h.bw.block⟩, own := h.own }
theorem DfAt.to {w wr w9 : World} {ga gb : Nat} {a b : PL} {av bv kv : Value} {x y : PL} {A B : Option Addr} {o1 o2 cx cy : Nat} {K : List Int} (h : DfAt w wr ga gb a b av bv kv x y A B o1 o2 cx cy K) (h9 : Below w.heap.size w w9) : PairsAt w9 A ga o1 x ∧ PairsAt w9 B gb o2 y :=
  ⟨h.pa.far h.ga0 (Nat.le_refl _) h.bw h9, h.pb.far h.gb0 (Nat.le_refl _) h.bw h9⟩
theorem df_lt {p q : Int × Int} {x y : PL} (h : p.1 < q.1) : df (p :: x) (q :: y) = [p.1] ++ df x (q :: y) := by rw [df_cons, if_pos h]; rfl
theorem df_gt {p q : Int × Int} {x y : PL} (h : q.1 < p.1) : df (p :: x) (q :: y) = [q.1] ++ df (p :: x) y := by rw [df_cons, if_neg (by omega), if_pos h]; rfl
theorem df_eq {p q : Int × Int} {x y : PL} (h : p = q) : df (p :: x) (q :: y) = [] ++ df x y := by rw [df_cons, if_neg (by rw [h]; omega), if_neg (by rw [h]; omega), if_pos h]; rfl
theorem df_ne {p q : Int × Int} {x y : PL} (h1 : p.1 = q.1) (h : p ≠ q) : df (p :: x) (q :: y) = [p.1] ++ df x y := by rw [df_cons, if_neg (by omega), if_neg (by omega), if_neg h]; rfl

set_option maxRecDepth 100000 in
set_option maxHeartbeats 4000000 in
theorem pDiffer_any (ba bb : Option Addr) (ga oa ca gb ob cb : Nat) (a b : PL) (w : World) (ha : PairsAt w ba ga oa a) (hna : NilOk ba a.length ca) (hca : a.length ≤ ca) (hma : ca ≤ maxLen) (hb : PairsAt w bb gb ob b) (hnb : NilOk bb b.length cb) (hcb : b.length ≤ cb) (hmb : cb ≤ maxLen) (hl : a.length + b.length ≤ 1000000) :
    Calls Try.prog 26 #[.slice ba a.length ca, .slice bb b.length cb] w fun e w' => ∃ v, e = .returned (.tuple #[v, .int .i64 (dfErr a b)]) ∧ Below w.heap.size w w' ∧ w'.ownsRow w.heap.size 3 1 v (dfL a b).length (intsC (dfL a b)) := by
  obtain ⟨i1, hi1, hy0, hy1, hy2⟩ := info_parts int_info
  have HA : Hid _ := ha
  have HB : Hid _ := hb
  have HNA : Hid (ba = none → a.length = 0 ∧ ca = 0) := hna
  have HNB : Hid (bb = none → b.length = 0 ∧ cb = 0) := hnb
  have HC : Hid (a.length ≤ ca ∧ ca ≤ maxLen ∧ b.length ≤ cb ∧ cb ≤ maxLen) := ⟨hca, hma, hcb, hmb⟩
  clear ha hb hna hnb hca hma hcb hmb
  by_cases ea : ckErr a = 0
  · have na : (ckErr a != 0) = false := by simp [ea]
    by_cases eb : ckErr b = 0
    · have nb : (ckErr b != 0) = false := by simp [eb]
      have F : Hid (dfErr a b = 0 ∧ dfL a b = df a b) := ⟨by unfold dfErr; rw [if_pos ⟨ea, eb⟩], by unfold dfL; rw [if_pos ⟨ea, eb⟩, df_differ (ckErr_zero.1 ea) (ckErr_zero.1 eb)]⟩
      clear ea eb
      have hpn := pair_neq
      go_enter Try.func26, Try.ntmps26
      go_wp2_with fail
      refine (pcheck_any ba ga oa ca a _ HA.out).mono ?_
      rintro e w1 ⟨rfl, hb1⟩
      have B1 : Hid _ := hb1
      clear hb1
      go_wp2_with fail
      refine (pcheck_any bb gb ob cb b _ (HB.out.below B1.out)).mono ?_
      rintro e w2 ⟨rfl, hb2⟩
      have B2 : Hid (Below w.heap.size w w2) := B1.out.trans (hb2.mono B1.out.size)
      clear hb2
      go_wp2_with fail
      go_loopw [0, 1, 6] (fun av bv kv wr => ∃ x y A B o1 o2 cx cy K, DfAt w wr ga gb a b av bv kv x y A B o1 o2 cx cy K) (fun av bv _ _ => lenV av + lenV bv)
      case atStart => exact ⟨a, b, ba, bb, oa, ob, ca, cb, [], rfl, rfl, HA.out.below B2.out, HB.out.below B2.out, HNA.out, HNB.out, HC.out.1, HC.out.2.2.1, HC.out.2.1, HC.out.2.2.2, HA.out.lt, HB.out.lt, rfl, by simp, B2.out, World.ownsRow_nil _ _ _ _⟩
      case round =>
        obtain ⟨x, y, A, B, o1, o2, cx, cy, K, hD⟩ := hrel
        obtain rfl := hD.ea
        obtain rfl := hD.eb
        have D : Hid (DfAt _ _ _ _ _ _ _ _ _ _ _ _ _ _ _ _ _ _) := hD
        clear hD
        by_cases hex : x.length = 0 ∨ y.length = 0
        · have HE : Hid (Go.Proofs.Ytjpfgfcggekklaa.df x y = (x ++ y).map (·.1)) := by
            show df x y = _
            rcases hex with q | q
            · obtain rfl := List.length_eq_zero_iff.1 q
              rw [df_nil, List.nil_append]
            · obtain rfl := List.length_eq_zero_iff.1 q
              rw [df_none, List.append_nil]
          have hlen : x.length + y.length ≤ 1000000 := by have := D.out.len; omega
          have s7 := D.out.bw.size
          have CC : Hid (∀ W : World, Below wr.heap.size wr W → wr.heap.size < W.heap.size → W.cell? ⟨wr.heap.size, 0, none⟩ = some (.slice A x.length cx) → W.cell? ⟨wr.heap.size, 1, none⟩ = some (.slice B y.length cy) → Calls Try.prog 56 #[.slice (some ⟨wr.heap.size, 0, none⟩) 2 2] W fun e w' => ∃ v, e = .returned v ∧ Below W.heap.size W w' ∧ w'.ownsRow W.heap.size 59 2 v (x ++ y).length (pairCells (x ++ y))) := fun W h1 h2 h3 h4 =>
            concat_any A B ga o1 cx gb o2 cy wr.heap.size 2 x y W (D.out.pa.below h1) D.out.na (D.out.pb.below h1) D.out.nb hlen h2 h3 h4
          have cond : x.length = 0 ∨ (0 : Int) < (x.length : Int) ∧ y.length = 0 := by
            rcases hex with q | q
            · exact Or.inl q
            · by_cases z : x.length = 0
              · exact Or.inl z
              · exact Or.inr ⟨by omega, q⟩
          have XY : Hid ((x ++ y).length ≤ 1000000) := by show (x ++ y).length ≤ _; rw [List.length_append]; exact hlen
          obtain ⟨n, hn⟩ : ∃ n, x.length = n := ⟨_, rfl⟩
          obtain ⟨m, hm⟩ : ∃ m, y.length = m := ⟨_, rfl⟩
          rw [hn, hm] at CC ⊢
          rw [hn, hm] at cond
          clear hex hn hm hlen
          have BIG : Hid (∀ (W w5 : World), Below wr.heap.size wr W → Below W.heap.size W w5 → Below w.heap.size w w5 ∧ w5.ownsRow w.heap.size 3 1 u6 K.length (intsC K)) := fun W w5 h1 h2 => by
            have hh : Below wr.heap.size wr w5 := h1.trans (h2.mono h1.size)
            exact ⟨D.out.bw.trans (hh.mono s7), owns_below D.out.own hh⟩
          rcases cond with c0 | ⟨c0, c1⟩
          all_goals (try subst c0)
          all_goals (try subst c1)
          all_goals go_wp2_with fail
          all_goals (
            refine (CC.out _ (below_alloc _ _) (by simp) (cell_new _ _ _ 0) (cell_new _ _ _ 1)).mono ?_
            rintro e w5 ⟨v5, rfl, hb5, ho5⟩
            obtain ⟨a6, c6, g6, rfl, hge6, _, hp6⟩ := pairs_of_owns ho5 (by have := XY.out; unfold maxLen; omega)
            have NE : Hid ((x ++ y).length ≠ 0 → ∀ k, u6.ownBlock = some k → k ≠ g6) := (fun q k hk e => by have h1 := hge6 q; have h2 := (owns_lt D.out.own k hk).2; simp at h1; omega)
            clear hge6
            obtain ⟨hb5', ho5'⟩ := BIG.out _ _ (below_alloc _ _) hb5
            have B5 : Hid (Below w.heap.size w w5) := hb5'
            have O5 : Hid (World.ownsRow _ _ _ _ _ _ _) := ho5'
            have P6 : Hid (PairsAt _ _ _ _ _) := hp6
            have KL : Hid (K.length ≤ 1000000) := (by have := D.out.len; show K.length ≤ _; omega)
            have FF : Hid (dfL a b = K ++ (x ++ y).map (·.1)) := (by show dfL a b = _; rw [F.out.2, D.out.df, HE.out])
            clear hb5 ho5 hp6 hb5' ho5'
            generalize x ++ y = both at *
            go_wp2_with fail
            go_loopw [6, 57] (fun v i wr => ∃ j : Nat, j ≤ both.length ∧ i = .int .i64 j ∧ Below w.heap.size w wr ∧ PairsAt wr a6 g6 0 both ∧ (both.length ≠ 0 → ∀ k, v.ownBlock = some k → k ≠ g6) ∧ wr.ownsRow w.heap.size 3 1 v (K ++ (both.take j).map (·.1)).length (intsC (K ++ (both.take j).map (·.1)))) (fun _ i _ => both.length - (intOf i).toNat)
            case atStart => exact ⟨0, Nat.zero_le _, rfl, B5.out, P6.out, NE.out, by simpa using O5.out⟩
            case round =>
              obtain ⟨j, hj, rfl, hbw, hpw, hne, hown⟩ := hrel
              have HW : Hid (Below w.heap.size w wr) := hbw
              have PW : Hid (PairsAt _ _ _ _ _) := hpw
              have NEW : Hid (both.length ≠ 0 → ∀ k, Value.ownBlock _ = some k → k ≠ g6) := hne
              have HO : Hid (World.ownsRow _ _ _ _ _ _ _) := hown
              have s7 := hbw.size
              clear hbw hpw hne hown
              have xl := XY.out
              by_cases hlt : j < both.length
              · obtain rfl : a6 = some ⟨g6, 0, none⟩ := P6.out.base (by omega)
                have zb : g6 < wr.heap.size := PW.out.lt (by omega)
                obtain ⟨c0, c1⟩ := PW.out.cells j hlt
                simp only [Nat.zero_add] at c0 c1
                have j0 : (0 : Int) ≤ (j : Int) := Int.natCast_nonneg _
                have j1 : (j : Int) < (both.length : Int) := by omega
                have NX : Hid (K ++ (both.take (j + 1)).map (·.1) = (K ++ (both.take j).map (·.1)) ++ [keyAt both j]) := by
                  show _ = _
                  rw [take_next both hlt, List.map_append, List.append_assoc]; rfl
                have hle : (K ++ (both.take j).map (·.1)).length ≤ 2000000 := by
                  have := KL.out
                  rw [List.length_append, List.length_map, List.length_take]; omega
                generalize K ++ (both.take j).map (·.1) = L at *
                have hO := HO.out
                go_wp2_with (first | (at_builtin; (refine wpList_append_lies _ (by rfl) _ _ _ (by rfl) w.heap.size 3 i1 _ 1 8 ints_under hi1 hy0 hy1 hy2 rfl (by omega) _ L.length _ (by rfl) ((hO.alloc _).alloc _) ⟨wr.heap.size + 1, 0, none⟩ 1 1 [.int .i64 (keyAt both j)] (by rfl) (by rfl) (World.news_of_block (cs := #[.int .i64 (keyAt both j)]) (t := 3) (fr := (0, 0)) (heap_alloc_at _ _ _ (by simp))) (by simp [Value.oneCell']) (by omega) (by unfold maxLen; omega) (by omega) (by simp; omega) (wr.heap.size + 2) (by simp) ?_); intro gg cap w9 hown9 hgrow9 hat9 hlt9))
                have B9 : Hid (Below w.heap.size w w9) := Below.grown ((HW.out.alloc s7 _).alloc (by simp; omega) _) hgrow9 (by simp; omega) (owns_ge HO.out)
                have P9 : Hid (PairsAt w9 (some ⟨g6, 0, none⟩) g6 0 both) := ((PW.out.below (below_alloc _ _)).below (below_alloc _ _)).grows hgrow9 NEW.out
                have NE9 : Hid (both.length ≠ 0 → ∀ k, Value.ownBlock (.slice (some ⟨gg, 0, none⟩) (L.length + 1) cap) = some k → k ≠ g6) := (fun q k hk e => by simp [Value.ownBlock] at hk; subst hk; rcases hat9 with z | z; (exact NEW.out q _ z e); (omega))
                have O9 : Hid (World.ownsRow _ _ _ _ _ _ _) := hown9
                clear hgrow9 hat9 hown9 hO
                go_wp2_with fail
                refine ⟨⟨j + 1, by omega, by go_num, B9.out, P9.out, NE9.out, ?_⟩, by simp [intOf]; omega⟩
                rw [NX.out, List.length_append, intsC_snoc]
                exact O9.out
              · obtain rfl : j = both.length := by omega
                go_wp2_with fail
                go_ret2
                rw [F.out.1, FF.out]
                have o9 := HO.out
                rw [List.take_length] at o9
                exact ⟨_, rfl, HW.out, o9⟩)
        · cases x with
          | nil => exact absurd (Or.inl rfl) hex
          | cons p x =>
            cases y with
            | nil => exact absurd (Or.inr rfl) hex
            | cons q y =>
              clear hex
              obtain rfl : A = some ⟨ga, o1, none⟩ := D.out.pa.base (by simp)
              obtain rfl : B = some ⟨gb, o2, none⟩ := D.out.pb.base (by simp)
              obtain ⟨c0, c1⟩ := D.out.pa.head
              obtain ⟨c2, c3⟩ := D.out.pb.head
              have zx := D.out.pa.lt (by simp)
              have zy := D.out.pb.lt (by simp)
              have nx : (0 : Int) < ((p :: x).length : Int) := by simp
              have ny : (0 : Int) < ((q :: y).length : Int) := by simp
              obtain ⟨n, hn⟩ : ∃ n, (p :: x).length = n := ⟨_, rfl⟩
              obtain ⟨m, hm⟩ : ∃ m, (q :: y).length = m := ⟨_, rfl⟩
              have hn' : n = x.length + 1 := by rw [← hn]; rfl
              have hm' : m = y.length + 1 := by rw [← hm]; rfl
              rw [hn] at nx ⊢
              rw [hm] at ny ⊢
              have HN : Hid _ := hn
              have HM : Hid _ := hm
              have HN' : Hid _ := hn'
              have HM' : Hid _ := hm'
              have lx : n ≤ cx := by have := D.out.la; rw [hn] at this; exact this
              have ly : m ≤ cy := by have := D.out.lb; rw [hm] at this; exact this
              clear hn hm hn' hm'
              by_cases h1 : p.1 < q.1
              · have mn : min p.1 q.1 = p.1 := by omega
                have hx : (decide (p.1 = q.1) && decide (p.2 = q.2)) = false := by simp; omega
                have DF : Hid (Go.Proofs.Ytjpfgfcggekklaa.df (p :: x) (q :: y) = [p.1] ++ Go.Proofs.Ytjpfgfcggekklaa.df x (q :: y)) := df_lt h1
                have kx : p.1 = p.1 := by omega
                have ky : q.1 ≠ p.1 := by omega
                have KX : Hid _ := kx
                have KY : Hid _ := ky
                clear kx ky 
                go_wp2_with fail
                go_region
                go_wp2_with fail
                go_quiet (fail)
                have D8 := D.out.drew nq
                generalize wr.drew.drewN nq = W at *
                clear D c0 c1 c2 c3 zx zy
                have D : Hid (DfAt _ _ _ _ _ _ _ _ _ _ _ _ _ _ _ _ _ _) := D8
                have s7 := D8.bw.size
                have hO := D8.own
                clear D8
                have kl : K.length ≤ 1000000 := by have := D.out.len; omega
                go_wp2_with (first | (at_builtin; (refine wpList_append_lies _ (by rfl) _ _ _ (by rfl) w.heap.size 3 i1 _ 1 8 ints_under hi1 hy0 hy1 hy2 rfl (by omega) _ K.length _ (by rfl) (hO.alloc _) ⟨W.heap.size, 0, none⟩ 1 1 [.int .i64 p.1] (by rfl) (by rfl) (World.news_of_block (cs := #[.int .i64 p.1]) (t := 3) (fr := (0, 0)) (heap_alloc_at _ _ _ (by simp))) (by simp [Value.oneCell']) (by omega) (by unfold maxLen; omega) (by omega) (by simp; omega) (W.heap.size + 1) (by simp) ?_); intro gg cap w9 hown9 hgrow9 hat9 hlt9; have B9 : Hid (Below w.heap.size w w9) := Below.grown (D.out.bw.alloc s7 _) hgrow9 (by simp; omega) (owns_ge D.out.own); have O9 : Hid (World.ownsRow _ _ _ _ _ _ _) := hown9; clear hgrow9 hat9 hown9 hO))
                have K9 : Hid (w9.ownsRow w.heap.size 3 1 (.slice (some ⟨gg, 0, none⟩) (K.length + 1) cap) (K ++ [p.1]).length (intsC (K ++ [p.1]))) := by show World.ownsRow _ _ _ _ _ _ _; rw [List.length_append, intsC_snoc]; exact O9.out
                obtain ⟨p9, q9⟩ := D.out.to B9.out
                have P9 : Hid (PairsAt _ _ _ _ _) := p9
                have Q9 : Hid (PairsAt _ _ _ _ _) := q9
                clear p9 q9
                refine (above_is ga o1 cx n p x p.1 rfl w9 P9.out HN'.out lx D.out.ma).mono ?_
                rintro e w8 ⟨rfl, A', rfl, hpx, hnx⟩
                have PX : Hid (PairsAt _ _ _ _ _) := hpx
                have NX : Hid (A' = none → x.length = 0 ∧ cx - 1 = 0) := hnx
                clear hpx hnx
                go_wp2_with fail
                refine (above_ne gb o2 cy m q y _ _ Q9.out HM'.out KY.out).mono ?_
                rintro e w8 ⟨rfl, rfl⟩
                go_wp2_with fail
                have LN := D.out.len
                have mx := D.out.ma
                have my := D.out.mb
                have e1 := HN'.out
                have e2 := HM'.out
                simp only [List.length_cons] at LN
                refine ⟨⟨x, (q :: y), A', (some ⟨gb, o2, none⟩), (o1 + 2), o2, (cx - 1), cy, (K ++ [p.1]), { ea := ?_, eb := ?_, pa := PX.out, pb := Q9.out, na := NX.out, nb := (fun z => by cases z), la := ?_, lb := ?_, ma := ?_, mb := ?_, ga0 := fun _ => D.out.ga0 (by simp), gb0 := fun _ => D.out.gb0 (by simp), df := ?_, len := ?_, bw := B9.out, own := K9.out }⟩, ?_⟩
                · rfl
                · simp [e2]
                · omega
                · simp only [List.length_cons]; omega
                · omega
                · omega
                · rw [D.out.df, DF.out, List.append_assoc]
                · simp only [List.length_append, List.length_cons, List.length_nil]; omega
                · simp only [lenV]; omega
              · by_cases h2 : q.1 < p.1
                · have mn : min p.1 q.1 = q.1 := by omega
                  have hx : (decide (p.1 = q.1) && decide (p.2 = q.2)) = false := by simp; omega
                  have DF : Hid (Go.Proofs.Ytjpfgfcggekklaa.df (p :: x) (q :: y) = [q.1] ++ Go.Proofs.Ytjpfgfcggekklaa.df (p :: x) y) := df_gt h2
                  have kx : p.1 ≠ q.1 := by omega
                  have ky : q.1 = q.1 := by omega
                  have KX : Hid _ := kx
                  have KY : Hid _ := ky
                  clear kx ky 
                  go_wp2_with fail
                  go_region
                  go_wp2_with fail
                  go_quiet (fail)
                  have D8 := D.out.drew nq
                  generalize wr.drew.drewN nq = W at *
                  clear D c0 c1 c2 c3 zx zy
                  have D : Hid (DfAt _ _ _ _ _ _ _ _ _ _ _ _ _ _ _ _ _ _) := D8
                  have s7 := D8.bw.size
                  have hO := D8.own
                  clear D8
                  have kl : K.length ≤ 1000000 := by have := D.out.len; omega
                  go_wp2_with (first | (at_builtin; (refine wpList_append_lies _ (by rfl) _ _ _ (by rfl) w.heap.size 3 i1 _ 1 8 ints_under hi1 hy0 hy1 hy2 rfl (by omega) _ K.length _ (by rfl) (hO.alloc _) ⟨W.heap.size, 0, none⟩ 1 1 [.int .i64 q.1] (by rfl) (by rfl) (World.news_of_block (cs := #[.int .i64 q.1]) (t := 3) (fr := (0, 0)) (heap_alloc_at _ _ _ (by simp))) (by simp [Value.oneCell']) (by omega) (by unfold maxLen; omega) (by omega) (by simp; omega) (W.heap.size + 1) (by simp) ?_); intro gg cap w9 hown9 hgrow9 hat9 hlt9; have B9 : Hid (Below w.heap.size w w9) := Below.grown (D.out.bw.alloc s7 _) hgrow9 (by simp; omega) (owns_ge D.out.own); have O9 : Hid (World.ownsRow _ _ _ _ _ _ _) := hown9; clear hgrow9 hat9 hown9 hO))
                  have K9 : Hid (w9.ownsRow w.heap.size 3 1 (.slice (some ⟨gg, 0, none⟩) (K.length + 1) cap) (K ++ [q.1]).length (intsC (K ++ [q.1]))) := by show World.ownsRow _ _ _ _ _ _ _; rw [List.length_append, intsC_snoc]; exact O9.out
                  obtain ⟨p9, q9⟩ := D.out.to B9.out
                  have P9 : Hid (PairsAt _ _ _ _ _) := p9
                  have Q9 : Hid (PairsAt _ _ _ _ _) := q9
                  clear p9 q9
                  refine (above_ne ga o1 cx n p x _ w9 P9.out HN'.out KX.out).mono ?_
                  rintro e w8 ⟨rfl, rfl⟩
                  go_wp2_with fail
                  refine (above_is gb o2 cy m q y q.1 rfl _ Q9.out HM'.out ly D.out.mb).mono ?_
                  rintro e w8 ⟨rfl, B', rfl, hpy, hny⟩
                  have PY : Hid (PairsAt _ _ _ _ _) := hpy
                  have NY : Hid (B' = none → y.length = 0 ∧ cy - 1 = 0) := hny
                  clear hpy hny
                  go_wp2_with fail
                  have LN := D.out.len
                  have mx := D.out.ma
                  have my := D.out.mb
                  have e1 := HN'.out
                  have e2 := HM'.out
                  simp only [List.length_cons] at LN
                  refine ⟨⟨(p :: x), y, (some ⟨ga, o1, none⟩), B', o1, (o2 + 2), cx, (cy - 1), (K ++ [q.1]), { ea := ?_, eb := ?_, pa := P9.out, pb := PY.out, na := (fun z => by cases z), nb := NY.out, la := ?_, lb := ?_, ma := ?_, mb := ?_, ga0 := fun _ => D.out.ga0 (by simp), gb0 := fun _ => D.out.gb0 (by simp), df := ?_, len := ?_, bw := B9.out, own := K9.out }⟩, ?_⟩
                  · simp [e1]
                  · rfl
                  · simp only [List.length_cons]; omega
                  · omega
                  · omega
                  · omega
                  · rw [D.out.df, DF.out, List.append_assoc]
                  · simp only [List.length_append, List.length_cons, List.length_nil]; omega
                  · simp only [lenV]; omega
                · have h3 : p.1 = q.1 := by omega
                  by_cases h4 : p.2 = q.2
                  · have mn : min p.1 q.1 = p.1 := by omega
                    have hx : (decide (p.1 = q.1) && decide (p.2 = q.2)) = true := by simp [h3, h4]
                    have DF : Hid (Go.Proofs.Ytjpfgfcggekklaa.df (p :: x) (q :: y) = [] ++ Go.Proofs.Ytjpfgfcggekklaa.df x y) := df_eq (Prod.ext h3 h4)
                    have kx : p.1 = p.1 := by omega
                    have ky : q.1 = p.1 := by omega
                    have KX : Hid _ := kx
                    have KY : Hid _ := ky
                    clear kx ky h1 h2 h3 h4
                    go_wp2_with fail
                    go_region
                    go_wp2_with fail
                    go_quiet (fail)
                    have D8 := D.out.drew nq
                    generalize wr.drew.drewN nq = w9 at *
                    clear D c0 c1 c2 c3 zx zy
                    have D : Hid (DfAt _ _ _ _ _ _ _ _ _ _ _ _ _ _ _ _ _ _) := D8
                    have s7 := D8.bw.size
                    have hO := D8.own
                    clear D8
                    clear hO
                    have B9 : Hid (Below w.heap.size w w9) := D.out.bw
                    have k9 := D.out.own
                    rw [← List.append_nil K] at k9
                    have K9 : Hid (World.ownsRow _ _ _ _ _ _ _) := k9
                    clear k9
                    go_wp2_with fail
                    obtain ⟨p9, q9⟩ := D.out.to B9.out
                    have P9 : Hid (PairsAt _ _ _ _ _) := p9
                    have Q9 : Hid (PairsAt _ _ _ _ _) := q9
                    clear p9 q9
                    refine (above_is ga o1 cx n p x p.1 rfl w9 P9.out HN'.out lx D.out.ma).mono ?_
                    rintro e w8 ⟨rfl, A', rfl, hpx, hnx⟩
                    have PX : Hid (PairsAt _ _ _ _ _) := hpx
                    have NX : Hid (A' = none → x.length = 0 ∧ cx - 1 = 0) := hnx
                    clear hpx hnx
                    go_wp2_with fail
                    refine (above_is gb o2 cy m q y _ KY.out _ Q9.out HM'.out ly D.out.mb).mono ?_
                    rintro e w8 ⟨rfl, B', rfl, hpy, hny⟩
                    have PY : Hid (PairsAt _ _ _ _ _) := hpy
                    have NY : Hid (B' = none → y.length = 0 ∧ cy - 1 = 0) := hny
                    clear hpy hny
                    go_wp2_with fail
                    have LN := D.out.len
                    have mx := D.out.ma
                    have my := D.out.mb
                    have e1 := HN'.out
                    have e2 := HM'.out
                    simp only [List.length_cons] at LN
                    refine ⟨⟨x, y, A', B', (o1 + 2), (o2 + 2), (cx - 1), (cy - 1), (K ++ []), { ea := ?_, eb := ?_, pa := PX.out, pb := PY.out, na := NX.out, nb := NY.out, la := ?_, lb := ?_, ma := ?_, mb := ?_, ga0 := fun _ => D.out.ga0 (by simp), gb0 := fun _ => D.out.gb0 (by simp), df := ?_, len := ?_, bw := B9.out, own := K9.out }⟩, ?_⟩
                    · rfl
                    · rfl
                    · omega
                    · omega
                    · omega
                    · omega
                    · rw [D.out.df, DF.out, List.append_assoc]
                    · simp only [List.length_append, List.length_nil]; omega
                    · simp only [lenV]; omega
                  · have mn : min p.1 q.1 = p.1 := by omega
                    have hx : (decide (p.1 = q.1) && decide (p.2 = q.2)) = false := by simp [h4]
                    have DF : Hid (Go.Proofs.Ytjpfgfcggekklaa.df (p :: x) (q :: y) = [p.1] ++ Go.Proofs.Ytjpfgfcggekklaa.df x y) := df_ne h3 (fun z => h4 (by rw [z]))
                    have kx : p.1 = p.1 := by omega
                    have ky : q.1 = p.1 := by omega
                    have KX : Hid _ := kx
                    have KY : Hid _ := ky
                    clear kx ky h1 h2 h3 h4
                    go_wp2_with fail
                    go_region
                    go_wp2_with fail
                    go_quiet (fail)
                    have D8 := D.out.drew nq
                    generalize wr.drew.drewN nq = W at *
                    clear D c0 c1 c2 c3 zx zy
                    have D : Hid (DfAt _ _ _ _ _ _ _ _ _ _ _ _ _ _ _ _ _ _) := D8
                    have s7 := D8.bw.size
                    have hO := D8.own
                    clear D8
                    have kl : K.length ≤ 1000000 := by have := D.out.len; omega
                    go_wp2_with (first | (at_builtin; (refine wpList_append_lies _ (by rfl) _ _ _ (by rfl) w.heap.size 3 i1 _ 1 8 ints_under hi1 hy0 hy1 hy2 rfl (by omega) _ K.length _ (by rfl) (hO.alloc _) ⟨W.heap.size, 0, none⟩ 1 1 [.int .i64 p.1] (by rfl) (by rfl) (World.news_of_block (cs := #[.int .i64 p.1]) (t := 3) (fr := (0, 0)) (heap_alloc_at _ _ _ (by simp))) (by simp [Value.oneCell']) (by omega) (by unfold maxLen; omega) (by omega) (by simp; omega) (W.heap.size + 1) (by simp) ?_); intro gg cap w9 hown9 hgrow9 hat9 hlt9; have B9 : Hid (Below w.heap.size w w9) := Below.grown (D.out.bw.alloc s7 _) hgrow9 (by simp; omega) (owns_ge D.out.own); have O9 : Hid (World.ownsRow _ _ _ _ _ _ _) := hown9; clear hgrow9 hat9 hown9 hO))
                    have K9 : Hid (w9.ownsRow w.heap.size 3 1 (.slice (some ⟨gg, 0, none⟩) (K.length + 1) cap) (K ++ [p.1]).length (intsC (K ++ [p.1]))) := by show World.ownsRow _ _ _ _ _ _ _; rw [List.length_append, intsC_snoc]; exact O9.out
                    obtain ⟨p9, q9⟩ := D.out.to B9.out
                    have P9 : Hid (PairsAt _ _ _ _ _) := p9
                    have Q9 : Hid (PairsAt _ _ _ _ _) := q9
                    clear p9 q9
                    refine (above_is ga o1 cx n p x p.1 rfl w9 P9.out HN'.out lx D.out.ma).mono ?_
                    rintro e w8 ⟨rfl, A', rfl, hpx, hnx⟩
                    have PX : Hid (PairsAt _ _ _ _ _) := hpx
                    have NX : Hid (A' = none → x.length = 0 ∧ cx - 1 = 0) := hnx
                    clear hpx hnx
                    go_wp2_with fail
                    refine (above_is gb o2 cy m q y _ KY.out _ Q9.out HM'.out ly D.out.mb).mono ?_
                    rintro e w8 ⟨rfl, B', rfl, hpy, hny⟩
                    have PY : Hid (PairsAt _ _ _ _ _) := hpy
                    have NY : Hid (B' = none → y.length = 0 ∧ cy - 1 = 0) := hny
                    clear hpy hny
                    go_wp2_with fail
                    have LN := D.out.len
                    have mx := D.out.ma
                    have my := D.out.mb
                    have e1 := HN'.out
                    have e2 := HM'.out
                    simp only [List.length_cons] at LN
                    refine ⟨⟨x, y, A', B', (o1 + 2), (o2 + 2), (cx - 1), (cy - 1), (K ++ [p.1]), { ea := ?_, eb := ?_, pa := PX.out, pb := PY.out, na := NX.out, nb := NY.out, la := ?_, lb := ?_, ma := ?_, mb := ?_, ga0 := fun _ => D.out.ga0 (by simp), gb0 := fun _ => D.out.gb0 (by simp), df := ?_, len := ?_, bw := B9.out, own := K9.out }⟩, ?_⟩
                    · rfl
                    · rfl
                    · omega
                    · omega
                    · omega
                    · omega
                    · rw [D.out.df, DF.out, List.append_assoc]
                    · simp only [List.length_append, List.length_cons, List.length_nil]; omega
                    · simp only [lenV]; omega
    · have nb : (ckErr b != 0) = true := by simp [eb]
      have F : Hid (dfErr a b = 11 ∧ dfL a b = []) := ⟨by unfold dfErr; rw [if_neg (fun q => eb q.2)], by unfold dfL; rw [if_neg (fun q => eb q.2)]⟩
      clear ea eb
      go_enter Try.func26, Try.ntmps26
      go_wp2_with fail
      refine (pcheck_any ba ga oa ca a _ HA.out).mono ?_
      rintro e w1 ⟨rfl, hb1⟩
      have B1 : Hid _ := hb1
      clear hb1
      go_wp2_with fail
      refine (pcheck_any bb gb ob cb b _ (HB.out.below B1.out)).mono ?_
      rintro e w2 ⟨rfl, hb2⟩
      have B2 : Hid (Below w.heap.size w w2) := B1.out.trans (hb2.mono B1.out.size)
      clear hb2
      go_wp2_with fail
      go_ret2
      rw [F.out.1, F.out.2]
      exact ⟨_, rfl, B2.out, World.ownsRow_nil _ _ _ _⟩
  · have na : (ckErr a != 0) = true := by simp [ea]
    have F : Hid (dfErr a b = 11 ∧ dfL a b = []) := ⟨by unfold dfErr; rw [if_neg (fun q => ea q.1)], by unfold dfL; rw [if_neg (fun q => ea q.1)]⟩
    clear ea
    go_enter Try.func26, Try.ntmps26
    go_wp2_with fail
    refine (pcheck_any ba ga oa ca a _ HA.out).mono ?_
    rintro e w1 ⟨rfl, hb1⟩
    have B1 : Hid _ := hb1
    clear hb1
    go_wp2_with fail
    go_ret2
    rw [F.out.1, F.out.2]
    exact ⟨_, rfl, B1.out, World.ownsRow_nil _ _ _ _⟩
end Go.Proofs.Ytjpfgfcggekklaa

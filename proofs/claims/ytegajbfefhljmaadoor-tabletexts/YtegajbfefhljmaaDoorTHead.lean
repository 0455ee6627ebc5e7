
/- Layer 16: a node's text, up to its children: appendHead. -/

import Derived.Test.YtegajbfefhljmaaDoorTNorm

import Derived.Test.YtegajbfefhljmaaDoorTIn

import Derived.Test.YtegajbfefhljmaaDoorTShelf

import Derived.Lib.AppendStr

import Derived.Lib.ItoaLen

namespace Go.Proofs.YtegajbfefhljmaaDoor

open Go.RowKit

attribute [local go_sem ↓] Go.wp_at_zero Go.wp_at_succ

theorem by_info : (Tryd.prog.info? 5).map (fun i => (i.zero, i.size, i.bytes)) = some (some (.int .u8 0), 1, 1) := by kernel_rfl
theorem bys_under : Tryd.prog.underlying 35 = some (.slice 5) := by kernel_rfl
theorem str_under : Tryd.prog.underlying 9 = some .string := by kernel_rfl
abbrev TabB (B : Nat) (w : World) : Prop := Lib.TabBelow Tryd.prog B w "internal/strconv.uint64pow10" .u64 Lib.pow10Tab
def endL (n : NdD) : List UInt8 := if leafB n = true ∧ n.inf = 0 then 61 :: Lib.itoa n.val else []
def keyL (n : NdD) : List UInt8 := if n.inf = 1 then [105, 110, 102] else Lib.itoa n.key
def headL (n : NdD) : List UInt8 := 40 :: (keyL n ++ (58 :: (Lib.itoa n.wt ++ endL n)))
theorem itoa_le {x : Int} (h : In64 x) : (Lib.itoa x).length ≤ 21 := Lib.itoa_length_le x h.1 h.2
theorem headL_length {n : NdD} (h0 : In64 n.key) (h1 : In64 n.wt) (h2 : In64 n.val) : (headL n).length ≤ 66 := by
  have a := itoa_le h0
  have b := itoa_le h1
  have c := itoa_le h2
  unfold headL keyL endL
  split <;> split <;> simp <;> omega

/-- The bytes so far, and a block that stands beside them. -/
structure TxOwn (w0 w : World) (B : Nat) (v : Value) (V : List UInt8) (b : Nat) (n : NdD) : Prop where
  own : w.ownsRow B 5 1 v V.length (Lib.byteCells V)
  below : Below B w0 w
  kept : Lib.OthersKept 5 none w0 w
  box : w.heap[b]? = some (.cells #[.int .i64 n.key, .int .i64 n.inf, .int .i64 n.wt, .int .i64 n.val, .int .i64 n.l, .int .i64 n.r] 33)
theorem own_kind {w : World} {B : Nat} {e : TypeId} {v : Value} {n : Nat} {xs : List Value} {sz : Nat} (h : w.ownsRow B e sz v n xs) : ∀ g, v.ownBlock = some g → ∃ c fz, w.heap[g]? = some (.cells c e fz) := by
  intro g hg
  rcases h.2 with ⟨rfl, _⟩ | ⟨g', cap, cur, rfl, _, hgg, _⟩
  · cases hg
  · simp [Value.ownBlock] at hg
    subst hg
    exact ⟨cur, (0, 0), hgg⟩
theorem byteCells_snoc (V X : List UInt8) : Lib.byteCells (V ++ X) = Lib.byteCells V ++ Lib.byteCells X := by simp [Lib.byteCells]
/-- Bytes appended: by the program itself (a new block first). -/
theorem TxOwn.grown {w0 w w' : World} {B : Nat} {v v' : Value} {V X : List UInt8} {b : Nat} {n : NdD} {o : Obj} (h : TxOwn w0 w B v V b n) (hB : B ≤ w.heap.size) (hg : (w.alloc o).grownBy w' v.ownBlock) (ho : w'.ownsRow B 5 1 v' (V.length + X.length) (Lib.byteCells V ++ Lib.byteCells X)) : TxOwn w0 w' B v' (V ++ X) b n := by
  have hk : Lib.OthersKept 5 none w w' := Lib.OthersKept.grown ((Lib.OthersKept.refl _ _ w).alloc o) hg (fun g q => by
    obtain ⟨c, fz, e⟩ := own_kind h.own g q
    exact ⟨c, fz, by rw [heap_alloc_old _ _ (Array.getElem?_eq_some_iff.1 e).1]; exact e⟩)
  refine ⟨by rw [List.length_append, byteCells_snoc]; exact ho, Below.grown (h.below.alloc hB o) hg (by rw [World.size_alloc]; omega) (fun k q => (owns_lt h.own k q).1), h.kept.trans hk, hk b _ h.box (by simp) (by simp)⟩
theorem TxOwn.grown0 {w0 w w' : World} {B : Nat} {v v' : Value} {V X : List UInt8} {b : Nat} {n : NdD} (h : TxOwn w0 w B v V b n) (hB : B ≤ w.heap.size) (hg : w.grownBy w' v.ownBlock) (ho : w'.ownsRow B 5 1 v' (V.length + X.length) (Lib.byteCells V ++ Lib.byteCells X)) : TxOwn w0 w' B v' (V ++ X) b n := by
  have hk : Lib.OthersKept 5 none w w' := Lib.OthersKept.grown (Lib.OthersKept.refl _ _ w) hg (own_kind h.own)
  exact ⟨by rw [List.length_append, byteCells_snoc]; exact ho, Below.grown h.below hg hB (fun k q => (owns_lt h.own k q).1), h.kept.trans hk, hk b _ h.box (by simp) (by simp)⟩
/-- Bytes appended by a call. -/
theorem TxOwn.call {w0 w w' : World} {B : Nat} {v v' : Value} {V X : List UInt8} {b : Nat} {n : NdD} (h : TxOwn w0 w B v V b n) (ho : w'.ownsRow B 5 1 v' (V.length + X.length) (Lib.byteCells V ++ Lib.byteCells X)) (hb : Below B w w') (hk : Lib.OthersKept 5 none w w') : TxOwn w0 w' B v' (V ++ X) b n :=
  ⟨by rw [List.length_append, byteCells_snoc]; exact ho, h.below.trans hb, h.kept.trans hk, hk b _ h.box (by simp) (by simp)⟩
/-- Another call that leaves all that is there. -/
theorem TxOwn.quiet {w0 w w' : World} {B : Nat} {v : Value} {V : List UInt8} {b : Nat} {n : NdD} (h : TxOwn w0 w B v V b n) (hB : B ≤ w.heap.size) (hb : Below w.heap.size w w') : TxOwn w0 w' B v V b n :=
  ⟨owns_below h.own hb, h.below.trans (hb.mono hB), h.kept.trans (fun k o hk _ _ => by rw [hb.block k (Array.getElem?_eq_some_iff.1 hk).1]; exact hk), by rw [hb.block b (Array.getElem?_eq_some_iff.1 h.box).1]; exact h.box⟩

set_option maxRecDepth 100000 in
set_option maxHeartbeats 2000000 in
theorem appendHead_any (B : Nat) (v : Value) (V : List UInt8) (a0 a1 a2 a3 a4 a5 : Int) (w : World) (hown : w.ownsRow B 5 1 v V.length (Lib.byteCells V)) (hB : B ≤ w.heap.size) (hV : V.length ≤ 1000000000000) (htab : TabB B w) (n0 : In64 a0) (n2 : In64 a2) (n3 : In64 a3) :
    Calls Tryd.prog 15 #[v, .agg #[.int .i64 a0, .int .i64 a1, .int .i64 a2, .int .i64 a3, .int .i64 a4, .int .i64 a5]] w fun e w' => ∃ v', e = .returned v' ∧ w'.ownsRow B 5 1 v' (V ++ headL ⟨a0, a1, a2, a3, a4, a5⟩).length (Lib.byteCells (V ++ headL ⟨a0, a1, a2, a3, a4, a5⟩)) ∧ Below B w w' ∧ Lib.OthersKept 5 none w w' := by
  obtain ⟨i0, hi0, hz0, hz1, hz2⟩ := info_parts by_info
  have T0 : Hid (TxOwn w (w.alloc (.cells #[.int .i64 a0, .int .i64 a1, .int .i64 a2, .int .i64 a3, .int .i64 a4, .int .i64 a5] 33)) B v V w.heap.size ⟨a0, a1, a2, a3, a4, a5⟩) := ⟨hown.alloc _, (Below.refl _ _).alloc hB _, (Lib.OthersKept.refl _ _ w).alloc _, heap_alloc_at _ _ _ rfl⟩
  have HTab : Hid (TabB B w) := htab
  have l0 := itoa_le n0
  have l2 := itoa_le n2
  have l3 := itoa_le n3
  clear hown htab
  by_cases hinf : a1 = 1
  · subst hinf
    cases hlf : leafB ⟨a0, 1, a2, a3, a4, a5⟩ with
    | true =>
      have HLF : Hid _ := hlf
      clear hlf
      go_enter Tryd.func15, Tryd.ntmps15
      go_wp2_with (first | (at_builtin; have q := T0; (refine wpList_append_lies _ (by rfl) _ _ _ (by rfl) B 5 i0 _ 1 1 bys_under hi0 hz0 hz1 hz2 rfl (by omega) _ V.length _ (by rfl) (T0.out.own.alloc _) ⟨w.heap.size + 1, 0, none⟩ 1 1 [.int .u8 40] (by rfl) (by rfl) (World.news_of_block (cs := #[.int .u8 40]) (t := 5) (fr := (0, 0)) (heap_alloc_at _ _ _ (by simp))) (by simp [Value.oneCell']) (by omega) (by unfold maxLen; first | omega | (simp only [List.length_append, List.length_cons, List.length_nil]; omega)) (by first | omega | (simp only [List.length_append, List.length_cons, List.length_nil]; omega)) (by simp; omega) (w.heap.size + 1 + 1) (by simp) ?_); intro g1 p1 x1 ho hg hat hl; have T1 : Hid _ := T0.out.grown (X := [40]) (by simp; omega) hg (by simpa [Lib.byteCells] using ho); obtain ⟨hs1, b0, b1, b2, b3, b4, b5⟩ := box_cells T1.out.box; have hz1' := T1.out.below.size; clear ho hg hat hl T0 q) | (at_builtin; have q := T1; (refine Go.Lib.wpList_append_own_string _ (by rfl) _ _ _ _ (by rfl) B 5 i0 bys_under str_under hi0 hz0 hz1 hz2 _ (V ++ [40]).length _ (by rfl) T1.out.own ⟨#[105, 110, 102]⟩ (by rfl) (by unfold maxLen; show _ + 3 ≤ _; first | omega | (simp only [List.length_append, List.length_cons, List.length_nil]; omega)) (by show _ + 3 ≤ _; first | omega | (simp only [List.length_append, List.length_cons, List.length_nil]; omega)) (by omega) ?_); intro v2 x2 ho hg hn; have T2 : Hid _ := T1.out.grown0 (X := [105, 110, 102]) (by omega) hg ho; obtain ⟨hs2, b0, b1, b2, b3, b4, b5⟩ := box_cells T2.out.box; have hz2' := T2.out.below.size; clear ho hg hn T1 q) | (at_builtin; have q := T2; (refine wpList_append_lies _ (by rfl) _ _ _ (by rfl) B 5 i0 _ 1 1 bys_under hi0 hz0 hz1 hz2 rfl (by omega) _ (V ++ [40] ++ [105, 110, 102]).length _ (by rfl) (T2.out.own.alloc _) ⟨x2.heap.size, 0, none⟩ 1 1 [.int .u8 58] (by rfl) (by rfl) (World.news_of_block (cs := #[.int .u8 58]) (t := 5) (fr := (0, 0)) (heap_alloc_at _ _ _ (by simp))) (by simp [Value.oneCell']) (by omega) (by unfold maxLen; first | omega | (simp only [List.length_append, List.length_cons, List.length_nil]; omega)) (by first | omega | (simp only [List.length_append, List.length_cons, List.length_nil]; omega)) (by simp; omega) (x2.heap.size + 1) (by simp) ?_); intro g3 p3 x3 ho hg hat hl; have T3 : Hid _ := T2.out.grown (X := [58]) (by omega) hg (by simpa [Lib.byteCells] using ho); obtain ⟨hs3, b0, b1, b2, b3, b4, b5⟩ := box_cells T3.out.box; have hz3' := T3.out.below.size; clear ho hg hat hl T2 q) | (go_at_call 24; have q := T3; refine (appendInt_any B (V ++ [40] ++ [105, 110, 102] ++ [58]).length a2 n2.1 n2.2 _ _ _ T3.out.own (by omega) (by first | omega | (simp only [List.length_append, List.length_cons, List.length_nil]; omega)) (HTab.out.on T3.out.below)).mono ?_; rintro e x4 ⟨v4, rfl, ho, hbl, hkp⟩; have T4 : Hid _ := T3.out.call ho hbl hkp; obtain ⟨hs4, b0, b1, b2, b3, b4, b5⟩ := box_cells T4.out.box; have hz4' := T4.out.below.size; clear ho hbl hkp T3 q) | (go_at_call 16; have q := T4; refine (isLeaf_any _ _ _ _ _ _ _).mono ?_; rintro e y ⟨rfl, hby⟩; rw [HLF.out]; have TY : Hid _ := T4.out.quiet (by omega) hby; obtain ⟨hsy, b0, b1, b2, b3, b4, b5⟩ := box_cells TY.out.box; have hzy := TY.out.below.size; clear hby T4 q))
      go_ret
      have hH : Hid (V ++ headL ⟨a0, 1, a2, a3, a4, a5⟩ = (V ++ [40] ++ [105, 110, 102] ++ [58] ++ Lib.itoa a2)) := by
        show _ = _
        unfold headL keyL endL
        rw [if_pos rfl, if_neg (fun h => by have := h.2; simp at this)]
        simp
      rw [hH.out]
      exact ⟨_, rfl, TY.out.own, TY.out.below, TY.out.kept⟩
    | false =>
      have HLF : Hid _ := hlf
      clear hlf
      go_enter Tryd.func15, Tryd.ntmps15
      go_wp2_with (first | (at_builtin; have q := T0; (refine wpList_append_lies _ (by rfl) _ _ _ (by rfl) B 5 i0 _ 1 1 bys_under hi0 hz0 hz1 hz2 rfl (by omega) _ V.length _ (by rfl) (T0.out.own.alloc _) ⟨w.heap.size + 1, 0, none⟩ 1 1 [.int .u8 40] (by rfl) (by rfl) (World.news_of_block (cs := #[.int .u8 40]) (t := 5) (fr := (0, 0)) (heap_alloc_at _ _ _ (by simp))) (by simp [Value.oneCell']) (by omega) (by unfold maxLen; first | omega | (simp only [List.length_append, List.length_cons, List.length_nil]; omega)) (by first | omega | (simp only [List.length_append, List.length_cons, List.length_nil]; omega)) (by simp; omega) (w.heap.size + 1 + 1) (by simp) ?_); intro g1 p1 x1 ho hg hat hl; have T1 : Hid _ := T0.out.grown (X := [40]) (by simp; omega) hg (by simpa [Lib.byteCells] using ho); obtain ⟨hs1, b0, b1, b2, b3, b4, b5⟩ := box_cells T1.out.box; have hz1' := T1.out.below.size; clear ho hg hat hl T0 q) | (at_builtin; have q := T1; (refine Go.Lib.wpList_append_own_string _ (by rfl) _ _ _ _ (by rfl) B 5 i0 bys_under str_under hi0 hz0 hz1 hz2 _ (V ++ [40]).length _ (by rfl) T1.out.own ⟨#[105, 110, 102]⟩ (by rfl) (by unfold maxLen; show _ + 3 ≤ _; first | omega | (simp only [List.length_append, List.length_cons, List.length_nil]; omega)) (by show _ + 3 ≤ _; first | omega | (simp only [List.length_append, List.length_cons, List.length_nil]; omega)) (by omega) ?_); intro v2 x2 ho hg hn; have T2 : Hid _ := T1.out.grown0 (X := [105, 110, 102]) (by omega) hg ho; obtain ⟨hs2, b0, b1, b2, b3, b4, b5⟩ := box_cells T2.out.box; have hz2' := T2.out.below.size; clear ho hg hn T1 q) | (at_builtin; have q := T2; (refine wpList_append_lies _ (by rfl) _ _ _ (by rfl) B 5 i0 _ 1 1 bys_under hi0 hz0 hz1 hz2 rfl (by omega) _ (V ++ [40] ++ [105, 110, 102]).length _ (by rfl) (T2.out.own.alloc _) ⟨x2.heap.size, 0, none⟩ 1 1 [.int .u8 58] (by rfl) (by rfl) (World.news_of_block (cs := #[.int .u8 58]) (t := 5) (fr := (0, 0)) (heap_alloc_at _ _ _ (by simp))) (by simp [Value.oneCell']) (by omega) (by unfold maxLen; first | omega | (simp only [List.length_append, List.length_cons, List.length_nil]; omega)) (by first | omega | (simp only [List.length_append, List.length_cons, List.length_nil]; omega)) (by simp; omega) (x2.heap.size + 1) (by simp) ?_); intro g3 p3 x3 ho hg hat hl; have T3 : Hid _ := T2.out.grown (X := [58]) (by omega) hg (by simpa [Lib.byteCells] using ho); obtain ⟨hs3, b0, b1, b2, b3, b4, b5⟩ := box_cells T3.out.box; have hz3' := T3.out.below.size; clear ho hg hat hl T2 q) | (go_at_call 24; have q := T3; refine (appendInt_any B (V ++ [40] ++ [105, 110, 102] ++ [58]).length a2 n2.1 n2.2 _ _ _ T3.out.own (by omega) (by first | omega | (simp only [List.length_append, List.length_cons, List.length_nil]; omega)) (HTab.out.on T3.out.below)).mono ?_; rintro e x4 ⟨v4, rfl, ho, hbl, hkp⟩; have T4 : Hid _ := T3.out.call ho hbl hkp; obtain ⟨hs4, b0, b1, b2, b3, b4, b5⟩ := box_cells T4.out.box; have hz4' := T4.out.below.size; clear ho hbl hkp T3 q) | (go_at_call 16; have q := T4; refine (isLeaf_any _ _ _ _ _ _ _).mono ?_; rintro e y ⟨rfl, hby⟩; rw [HLF.out]; have TY : Hid _ := T4.out.quiet (by omega) hby; obtain ⟨hsy, b0, b1, b2, b3, b4, b5⟩ := box_cells TY.out.box; have hzy := TY.out.below.size; clear hby T4 q))
      go_ret
      have hH : Hid (V ++ headL ⟨a0, 1, a2, a3, a4, a5⟩ = (V ++ [40] ++ [105, 110, 102] ++ [58] ++ Lib.itoa a2)) := by
        show _ = _
        unfold headL keyL endL
        rw [if_pos rfl, if_neg (fun h => by have := h.2; simp at this)]
        simp
      rw [hH.out]
      exact ⟨_, rfl, TY.out.own, TY.out.below, TY.out.kept⟩
  · have HI : Hid (¬ a1 = 1) := hinf
    have hi1 : (a1 == 1) = false := by simp [hinf]
    cases hlf : leafB ⟨a0, a1, a2, a3, a4, a5⟩ with
    | true =>
      have HLF : Hid _ := hlf
      clear hlf
      by_cases hz : a1 = 0
      · have HZ : Hid (a1 = 0) := hz
        have hi2 : (a1 == 0) = true := by simp [hz]
        clear hz hinf
        go_enter Tryd.func15, Tryd.ntmps15
        go_wp2_with (first | (at_builtin; have q := T0; (refine wpList_append_lies _ (by rfl) _ _ _ (by rfl) B 5 i0 _ 1 1 bys_under hi0 hz0 hz1 hz2 rfl (by omega) _ V.length _ (by rfl) (T0.out.own.alloc _) ⟨w.heap.size + 1, 0, none⟩ 1 1 [.int .u8 40] (by rfl) (by rfl) (World.news_of_block (cs := #[.int .u8 40]) (t := 5) (fr := (0, 0)) (heap_alloc_at _ _ _ (by simp))) (by simp [Value.oneCell']) (by omega) (by unfold maxLen; first | omega | (simp only [List.length_append, List.length_cons, List.length_nil]; omega)) (by first | omega | (simp only [List.length_append, List.length_cons, List.length_nil]; omega)) (by simp; omega) (w.heap.size + 1 + 1) (by simp) ?_); intro g1 p1 x1 ho hg hat hl; have T1 : Hid _ := T0.out.grown (X := [40]) (by simp; omega) hg (by simpa [Lib.byteCells] using ho); obtain ⟨hs1, b0, b1, b2, b3, b4, b5⟩ := box_cells T1.out.box; have hz1' := T1.out.below.size; clear ho hg hat hl T0 q) | (go_at_call 24; have q := T1; refine (appendInt_any B (V ++ [40]).length a0 n0.1 n0.2 _ _ _ T1.out.own (by omega) (by first | omega | (simp only [List.length_append, List.length_cons, List.length_nil]; omega)) (HTab.out.on T1.out.below)).mono ?_; rintro e x2 ⟨v2, rfl, ho, hbl, hkp⟩; have T2 : Hid _ := T1.out.call ho hbl hkp; obtain ⟨hs2, b0, b1, b2, b3, b4, b5⟩ := box_cells T2.out.box; have hz2' := T2.out.below.size; clear ho hbl hkp T1 q) | (at_builtin; have q := T2; (refine wpList_append_lies _ (by rfl) _ _ _ (by rfl) B 5 i0 _ 1 1 bys_under hi0 hz0 hz1 hz2 rfl (by omega) _ (V ++ [40] ++ Lib.itoa a0).length _ (by rfl) (T2.out.own.alloc _) ⟨x2.heap.size, 0, none⟩ 1 1 [.int .u8 58] (by rfl) (by rfl) (World.news_of_block (cs := #[.int .u8 58]) (t := 5) (fr := (0, 0)) (heap_alloc_at _ _ _ (by simp))) (by simp [Value.oneCell']) (by omega) (by unfold maxLen; first | omega | (simp only [List.length_append, List.length_cons, List.length_nil]; omega)) (by first | omega | (simp only [List.length_append, List.length_cons, List.length_nil]; omega)) (by simp; omega) (x2.heap.size + 1) (by simp) ?_); intro g3 p3 x3 ho hg hat hl; have T3 : Hid _ := T2.out.grown (X := [58]) (by omega) hg (by simpa [Lib.byteCells] using ho); obtain ⟨hs3, b0, b1, b2, b3, b4, b5⟩ := box_cells T3.out.box; have hz3' := T3.out.below.size; clear ho hg hat hl T2 q) | (go_at_call 24; have q := T3; refine (appendInt_any B (V ++ [40] ++ Lib.itoa a0 ++ [58]).length a2 n2.1 n2.2 _ _ _ T3.out.own (by omega) (by first | omega | (simp only [List.length_append, List.length_cons, List.length_nil]; omega)) (HTab.out.on T3.out.below)).mono ?_; rintro e x4 ⟨v4, rfl, ho, hbl, hkp⟩; have T4 : Hid _ := T3.out.call ho hbl hkp; obtain ⟨hs4, b0, b1, b2, b3, b4, b5⟩ := box_cells T4.out.box; have hz4' := T4.out.below.size; clear ho hbl hkp T3 q) | (go_at_call 16; have q := T4; refine (isLeaf_any _ _ _ _ _ _ _).mono ?_; rintro e y ⟨rfl, hby⟩; rw [HLF.out]; have TY : Hid _ := T4.out.quiet (by omega) hby; obtain ⟨hsy, b0, b1, b2, b3, b4, b5⟩ := box_cells TY.out.box; have hzy := TY.out.below.size; clear hby T4 q) | (at_builtin; have q := TY; (refine wpList_append_lies _ (by rfl) _ _ _ (by rfl) B 5 i0 _ 1 1 bys_under hi0 hz0 hz1 hz2 rfl (by omega) _ (V ++ [40] ++ Lib.itoa a0 ++ [58] ++ Lib.itoa a2).length _ (by rfl) (TY.out.own.alloc _) ⟨y.heap.size, 0, none⟩ 1 1 [.int .u8 61] (by rfl) (by rfl) (World.news_of_block (cs := #[.int .u8 61]) (t := 5) (fr := (0, 0)) (heap_alloc_at _ _ _ (by simp))) (by simp [Value.oneCell']) (by omega) (by unfold maxLen; first | omega | (simp only [List.length_append, List.length_cons, List.length_nil]; omega)) (by first | omega | (simp only [List.length_append, List.length_cons, List.length_nil]; omega)) (by simp; omega) (y.heap.size + 1) (by simp) ?_); intro g5 p5 x5 ho hg hat hl; have T5 : Hid _ := TY.out.grown (X := [61]) (by omega) hg (by simpa [Lib.byteCells] using ho); obtain ⟨hs5, b0, b1, b2, b3, b4, b5⟩ := box_cells T5.out.box; have hz5' := T5.out.below.size; clear ho hg hat hl TY q) | (go_at_call 24; have q := T5; refine (appendInt_any B (V ++ [40] ++ Lib.itoa a0 ++ [58] ++ Lib.itoa a2 ++ [61]).length a3 n3.1 n3.2 _ _ _ T5.out.own (by omega) (by first | omega | (simp only [List.length_append, List.length_cons, List.length_nil]; omega)) (HTab.out.on T5.out.below)).mono ?_; rintro e x6 ⟨v6, rfl, ho, hbl, hkp⟩; have T6 : Hid _ := T5.out.call ho hbl hkp; obtain ⟨hs6, b0, b1, b2, b3, b4, b5⟩ := box_cells T6.out.box; have hz6' := T6.out.below.size; clear ho hbl hkp T5 q))
        go_ret
        have hH : Hid (V ++ headL ⟨a0, a1, a2, a3, a4, a5⟩ = (V ++ [40] ++ Lib.itoa a0 ++ [58] ++ Lib.itoa a2 ++ [61]) ++ Lib.itoa a3) := by
          show _ = _
          unfold headL keyL endL
          rw [if_neg HI.out, if_pos ⟨HLF.out, HZ.out⟩]
          simp
        rw [hH.out]
        exact ⟨_, rfl, T6.out.own, T6.out.below, T6.out.kept⟩
      · have HZ : Hid (¬ a1 = 0) := hz
        have hi2 : (a1 == 0) = false := by simp [hz]
        clear hz hinf
        go_enter Tryd.func15, Tryd.ntmps15
        go_wp2_with (first | (at_builtin; have q := T0; (refine wpList_append_lies _ (by rfl) _ _ _ (by rfl) B 5 i0 _ 1 1 bys_under hi0 hz0 hz1 hz2 rfl (by omega) _ V.length _ (by rfl) (T0.out.own.alloc _) ⟨w.heap.size + 1, 0, none⟩ 1 1 [.int .u8 40] (by rfl) (by rfl) (World.news_of_block (cs := #[.int .u8 40]) (t := 5) (fr := (0, 0)) (heap_alloc_at _ _ _ (by simp))) (by simp [Value.oneCell']) (by omega) (by unfold maxLen; first | omega | (simp only [List.length_append, List.length_cons, List.length_nil]; omega)) (by first | omega | (simp only [List.length_append, List.length_cons, List.length_nil]; omega)) (by simp; omega) (w.heap.size + 1 + 1) (by simp) ?_); intro g1 p1 x1 ho hg hat hl; have T1 : Hid _ := T0.out.grown (X := [40]) (by simp; omega) hg (by simpa [Lib.byteCells] using ho); obtain ⟨hs1, b0, b1, b2, b3, b4, b5⟩ := box_cells T1.out.box; have hz1' := T1.out.below.size; clear ho hg hat hl T0 q) | (go_at_call 24; have q := T1; refine (appendInt_any B (V ++ [40]).length a0 n0.1 n0.2 _ _ _ T1.out.own (by omega) (by first | omega | (simp only [List.length_append, List.length_cons, List.length_nil]; omega)) (HTab.out.on T1.out.below)).mono ?_; rintro e x2 ⟨v2, rfl, ho, hbl, hkp⟩; have T2 : Hid _ := T1.out.call ho hbl hkp; obtain ⟨hs2, b0, b1, b2, b3, b4, b5⟩ := box_cells T2.out.box; have hz2' := T2.out.below.size; clear ho hbl hkp T1 q) | (at_builtin; have q := T2; (refine wpList_append_lies _ (by rfl) _ _ _ (by rfl) B 5 i0 _ 1 1 bys_under hi0 hz0 hz1 hz2 rfl (by omega) _ (V ++ [40] ++ Lib.itoa a0).length _ (by rfl) (T2.out.own.alloc _) ⟨x2.heap.size, 0, none⟩ 1 1 [.int .u8 58] (by rfl) (by rfl) (World.news_of_block (cs := #[.int .u8 58]) (t := 5) (fr := (0, 0)) (heap_alloc_at _ _ _ (by simp))) (by simp [Value.oneCell']) (by omega) (by unfold maxLen; first | omega | (simp only [List.length_append, List.length_cons, List.length_nil]; omega)) (by first | omega | (simp only [List.length_append, List.length_cons, List.length_nil]; omega)) (by simp; omega) (x2.heap.size + 1) (by simp) ?_); intro g3 p3 x3 ho hg hat hl; have T3 : Hid _ := T2.out.grown (X := [58]) (by omega) hg (by simpa [Lib.byteCells] using ho); obtain ⟨hs3, b0, b1, b2, b3, b4, b5⟩ := box_cells T3.out.box; have hz3' := T3.out.below.size; clear ho hg hat hl T2 q) | (go_at_call 24; have q := T3; refine (appendInt_any B (V ++ [40] ++ Lib.itoa a0 ++ [58]).length a2 n2.1 n2.2 _ _ _ T3.out.own (by omega) (by first | omega | (simp only [List.length_append, List.length_cons, List.length_nil]; omega)) (HTab.out.on T3.out.below)).mono ?_; rintro e x4 ⟨v4, rfl, ho, hbl, hkp⟩; have T4 : Hid _ := T3.out.call ho hbl hkp; obtain ⟨hs4, b0, b1, b2, b3, b4, b5⟩ := box_cells T4.out.box; have hz4' := T4.out.below.size; clear ho hbl hkp T3 q) | (go_at_call 16; have q := T4; refine (isLeaf_any _ _ _ _ _ _ _).mono ?_; rintro e y ⟨rfl, hby⟩; rw [HLF.out]; have TY : Hid _ := T4.out.quiet (by omega) hby; obtain ⟨hsy, b0, b1, b2, b3, b4, b5⟩ := box_cells TY.out.box; have hzy := TY.out.below.size; clear hby T4 q))
        go_ret
        have hH : Hid (V ++ headL ⟨a0, a1, a2, a3, a4, a5⟩ = (V ++ [40] ++ Lib.itoa a0 ++ [58] ++ Lib.itoa a2)) := by
          show _ = _
          unfold headL keyL endL
          rw [if_neg HI.out, if_neg (fun h => HZ.out h.2)]
          simp
        rw [hH.out]
        exact ⟨_, rfl, TY.out.own, TY.out.below, TY.out.kept⟩
    | false =>
      have HLF : Hid _ := hlf
      clear hlf hinf
      go_enter Tryd.func15, Tryd.ntmps15
      go_wp2_with (first | (at_builtin; have q := T0; (refine wpList_append_lies _ (by rfl) _ _ _ (by rfl) B 5 i0 _ 1 1 bys_under hi0 hz0 hz1 hz2 rfl (by omega) _ V.length _ (by rfl) (T0.out.own.alloc _) ⟨w.heap.size + 1, 0, none⟩ 1 1 [.int .u8 40] (by rfl) (by rfl) (World.news_of_block (cs := #[.int .u8 40]) (t := 5) (fr := (0, 0)) (heap_alloc_at _ _ _ (by simp))) (by simp [Value.oneCell']) (by omega) (by unfold maxLen; first | omega | (simp only [List.length_append, List.length_cons, List.length_nil]; omega)) (by first | omega | (simp only [List.length_append, List.length_cons, List.length_nil]; omega)) (by simp; omega) (w.heap.size + 1 + 1) (by simp) ?_); intro g1 p1 x1 ho hg hat hl; have T1 : Hid _ := T0.out.grown (X := [40]) (by simp; omega) hg (by simpa [Lib.byteCells] using ho); obtain ⟨hs1, b0, b1, b2, b3, b4, b5⟩ := box_cells T1.out.box; have hz1' := T1.out.below.size; clear ho hg hat hl T0 q) | (go_at_call 24; have q := T1; refine (appendInt_any B (V ++ [40]).length a0 n0.1 n0.2 _ _ _ T1.out.own (by omega) (by first | omega | (simp only [List.length_append, List.length_cons, List.length_nil]; omega)) (HTab.out.on T1.out.below)).mono ?_; rintro e x2 ⟨v2, rfl, ho, hbl, hkp⟩; have T2 : Hid _ := T1.out.call ho hbl hkp; obtain ⟨hs2, b0, b1, b2, b3, b4, b5⟩ := box_cells T2.out.box; have hz2' := T2.out.below.size; clear ho hbl hkp T1 q) | (at_builtin; have q := T2; (refine wpList_append_lies _ (by rfl) _ _ _ (by rfl) B 5 i0 _ 1 1 bys_under hi0 hz0 hz1 hz2 rfl (by omega) _ (V ++ [40] ++ Lib.itoa a0).length _ (by rfl) (T2.out.own.alloc _) ⟨x2.heap.size, 0, none⟩ 1 1 [.int .u8 58] (by rfl) (by rfl) (World.news_of_block (cs := #[.int .u8 58]) (t := 5) (fr := (0, 0)) (heap_alloc_at _ _ _ (by simp))) (by simp [Value.oneCell']) (by omega) (by unfold maxLen; first | omega | (simp only [List.length_append, List.length_cons, List.length_nil]; omega)) (by first | omega | (simp only [List.length_append, List.length_cons, List.length_nil]; omega)) (by simp; omega) (x2.heap.size + 1) (by simp) ?_); intro g3 p3 x3 ho hg hat hl; have T3 : Hid _ := T2.out.grown (X := [58]) (by omega) hg (by simpa [Lib.byteCells] using ho); obtain ⟨hs3, b0, b1, b2, b3, b4, b5⟩ := box_cells T3.out.box; have hz3' := T3.out.below.size; clear ho hg hat hl T2 q) | (go_at_call 24; have q := T3; refine (appendInt_any B (V ++ [40] ++ Lib.itoa a0 ++ [58]).length a2 n2.1 n2.2 _ _ _ T3.out.own (by omega) (by first | omega | (simp only [List.length_append, List.length_cons, List.length_nil]; omega)) (HTab.out.on T3.out.below)).mono ?_; rintro e x4 ⟨v4, rfl, ho, hbl, hkp⟩; have T4 : Hid _ := T3.out.call ho hbl hkp; obtain ⟨hs4, b0, b1, b2, b3, b4, b5⟩ := box_cells T4.out.box; have hz4' := T4.out.below.size; clear ho hbl hkp T3 q) | (go_at_call 16; have q := T4; refine (isLeaf_any _ _ _ _ _ _ _).mono ?_; rintro e y ⟨rfl, hby⟩; rw [HLF.out]; have TY : Hid _ := T4.out.quiet (by omega) hby; obtain ⟨hsy, b0, b1, b2, b3, b4, b5⟩ := box_cells TY.out.box; have hzy := TY.out.below.size; clear hby T4 q))
      go_ret
      have hH : Hid (V ++ headL ⟨a0, a1, a2, a3, a4, a5⟩ = (V ++ [40] ++ Lib.itoa a0 ++ [58] ++ Lib.itoa a2)) := by
        show _ = _
        unfold headL keyL endL
        rw [if_neg HI.out, if_neg (fun h => by have := HLF.out; simp only at h; rw [this] at h; simp at h)]
        simp
      rw [hH.out]
      exact ⟨_, rfl, TY.out.own, TY.out.below, TY.out.kept⟩
end Go.Proofs.YtegajbfefhljmaaDoor

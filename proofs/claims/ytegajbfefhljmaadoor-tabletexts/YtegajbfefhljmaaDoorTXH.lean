
/- Layer 16: the document's head of a node's text. -/

import Derived.Test.YtegajbfefhljmaaDoorTXD

import Derived.Test.YtegajbfefhljmaaDoorTRows

import Derived.Deep.RegionHeld3

import Derived.Deep.CutRange

namespace Go.Proofs.YtegajbfefhljmaaDoor

open Go.RowKit

attribute [local go_sem ↓] Go.wp_at_zero Go.wp_at_succ

theorem TxOwn.drew {w0 w : World} {B : Nat} {v : Value} {V : List UInt8} {b : Nat} {n : NdD} (h : TxOwn w0 w B v V b n) : TxOwn w0 w.drew B v V b n := ⟨h.own.drew, h.below.drew, h.kept, h.box⟩
theorem TxOwn.len {w0 w : World} {B n m c : Nat} {ad : Option Addr} {V : List UInt8} {b : Nat} {d : NdD} (h : TxOwn w0 w B (.slice ad n c) V b d) (e : n = m) : TxOwn w0 w B (.slice ad m c) V b d := e ▸ h
theorem TxOwn.alloc {w0 w : World} {B : Nat} {v : Value} {V : List UInt8} {b : Nat} {n : NdD} (h : TxOwn w0 w B v V b n) (hB : B ≤ w.heap.size) (o : Obj) : TxOwn w0 (w.alloc o) B v V b n :=
  h.quiet hB (below_alloc w o)
theorem TxOwn.sz {w0 w : World} {B : Nat} {v : Value} {V : List UInt8} {b : Nat} {n : NdD} (h : TxOwn w0 w B v V b n) (hB : B ≤ w0.heap.size) : B ≤ w.heap.size := Nat.le_trans hB h.below.size
/-- The six cells of the box. -/
abbrev Six (w : World) (b : Nat) (n : NdD) : Prop := w.cell? ⟨b, 0, none⟩ = some (.int .i64 n.key) ∧ w.cell? ⟨b, 1, none⟩ = some (.int .i64 n.inf) ∧ w.cell? ⟨b, 2, none⟩ = some (.int .i64 n.wt) ∧ w.cell? ⟨b, 3, none⟩ = some (.int .i64 n.val) ∧ w.cell? ⟨b, 4, none⟩ = some (.int .i64 n.l) ∧ w.cell? ⟨b, 5, none⟩ = some (.int .i64 n.r)
theorem TxOwn.six {w0 w : World} {B : Nat} {v : Value} {V : List UInt8} {b : Nat} {n : NdD} (h : TxOwn w0 w B v V b n) : Six w b n := by
  refine ⟨?_, ?_, ?_, ?_, ?_, ?_⟩ <;> simp [World.cell?, h.box]
theorem itoa_pos (x : Int) : 0 < (Lib.itoa x).length := by
  obtain ⟨c, y, h, -⟩ := itoa_first x
  rw [h]
  simp
theorem byC_one (X : List UInt8) : ∀ u ∈ Lib.byteCells X, u.oneCell' = true := by
  intro u hu
  simp only [Lib.byteCells, List.mem_map] at hu
  obtain ⟨c, -, rfl⟩ := hu
  rfl
theorem byC_len (X : List UInt8) : (Lib.byteCells X).length = X.length * 1 := by simp [Lib.byteCells]
theorem sep_ge {w : World} {B sz n : Nat} {e : TypeId} {v : Value} {xs : List Value} (h : w.ownsRow B e sz v n xs) {gd : Nat} (hg : w.heap.size ≤ gd) (m c : Nat) : (Value.slice (some ⟨gd, 0, none⟩) m c).ownBlock = none ∨ (Value.slice (some ⟨gd, 0, none⟩) m c).ownBlock ≠ v.ownBlock := Or.inr (fun z => by
  have := (owns_lt h gd z.symm).2
  omega)
theorem head0 (w : World) (a0 a1 a2 a3 a4 a5 : Int) : TxOwn w ((w.alloc (.cells #[.int .i64 a0, .int .i64 a1, .int .i64 a2, .int .i64 a3, .int .i64 a4, .int .i64 a5] 33)).alloc (.cells #[.int .u8 40] 5)) w.heap.size (.slice (some ⟨w.heap.size + 1, 0, none⟩) 1 1) [40] w.heap.size ⟨a0, a1, a2, a3, a4, a5⟩ := by
  have h : ((w.alloc (.cells #[.int .i64 a0, .int .i64 a1, .int .i64 a2, .int .i64 a3, .int .i64 a4, .int .i64 a5] 33)).alloc (.cells #[.int .u8 40] 5)).ownsRow (w.alloc (.cells #[.int .i64 a0, .int .i64 a1, .int .i64 a2, .int .i64 a3, .int .i64 a4, .int .i64 a5] 33)).heap.size 5 1 (.slice (some ⟨(w.alloc (.cells #[.int .i64 a0, .int .i64 a1, .int .i64 a2, .int .i64 a3, .int .i64 a4, .int .i64 a5] 33)).heap.size, 0, none⟩) 1 1) 1 (Lib.byteCells [40]) := World.ownsRow_lit (w.alloc (.cells #[.int .i64 a0, .int .i64 a1, .int .i64 a2, .int .i64 a3, .int .i64 a4, .int .i64 a5] 33)) #[.int .u8 40] 1 (Nat.le_refl _) (by unfold maxLen; omega) rfl
  have e : (w.alloc (.cells #[.int .i64 a0, .int .i64 a1, .int .i64 a2, .int .i64 a3, .int .i64 a4, .int .i64 a5] 33)).heap.size = w.heap.size + 1 := World.size_alloc _ _
  rw [e] at h
  exact ⟨owns_down h (by omega), ((Below.refl _ _).alloc (Nat.le_refl _) _).alloc (by rw [e]; omega) _, ((Lib.OthersKept.refl _ _ w).alloc _).alloc _, by rw [heap_alloc_old _ _ (by rw [e]; omega)]; exact heap_alloc_at _ _ _ rfl⟩
/-- The bytes that a call has made, as what is appended. -/
theorem byC_news {w : World} {B g cp : Nat} {X : List UInt8} (h : w.ownsRow B 5 1 (.slice (some ⟨g, 0, none⟩) X.length cp) X.length (Lib.byteCells X)) : ∀ j u, (Lib.byteCells X)[j]? = some u → w.cell? ((⟨g, 0, none⟩ : Addr).add j) = some u := by
  intro j u hj
  have hl : j < X.length := by
    have := (List.getElem?_eq_some_iff.1 hj).1
    simpa [Lib.byteCells] using this
  have := h.cellAt j (by simpa using hl)
  rw [addr_add', Nat.zero_add, this, hj]

set_option maxRecDepth 100000 in
set_option maxHeartbeats 4000000 in
theorem rhead_inf (a0 a1 a2 a3 a4 a5 : Int) (w : World) (n0 : In64 a0) (n2 : In64 a2) (n3 : In64 a3) (h1 : a1 = 1) :
    Calls Tryd.prog 13 #[.agg #[.int .i64 a0, .int .i64 a1, .int .i64 a2, .int .i64 a3, .int .i64 a4, .int .i64 a5]] w fun e w' => ∃ v', e = .returned v' ∧ w'.ownsRow w.heap.size 5 1 v' (headL ⟨a0, a1, a2, a3, a4, a5⟩).length (Lib.byteCells (headL ⟨a0, a1, a2, a3, a4, a5⟩)) ∧ Below w.heap.size w w' := by
  obtain ⟨i0, hi0, hz0, hz1, hz2⟩ := info_parts by_info
  have l0 := itoa_le n0
  have l2 := itoa_le n2
  have l3 := itoa_le n3
  have T0 : Hid (TxOwn w _ w.heap.size _ [40] w.heap.size ⟨a0, a1, a2, a3, a4, a5⟩) := head0 w a0 a1 a2 a3 a4 a5
  have HHE : Hid (headL ⟨a0, a1, a2, a3, a4, a5⟩ = [40] ++ [105, 110, 102] ++ [58] ++ Lib.itoa a2) := by
    show _ = _
    unfold headL keyL endL
    rw [if_pos h1, if_neg (fun z => by have := z.2; simp only at this; omega)]
    simp
  have z1 : (a1 == 1) = true := by simp [h1]
  have z0 : (a1 == 0) = false := by simp [h1]
  clear h1
  cases hb : rleafB ⟨a0, a1, a2, a3, a4, a5⟩
  · have HLF : Hid _ := hb
    clear hb
    go_enter Tryd.func13, Tryd.ntmps13
    go_wp2_with (first | (at_builtin; have q := T0; (refine wpList_append_lies _ (by rfl) _ _ _ (by rfl) w.heap.size 5 i0 _ 1 1 bys_under hi0 hz0 hz1 hz2 rfl (by omega) _ ([40]).length _ (by rfl) (T0.out.own.alloc _) ⟨_, 0, none⟩ 3 3 [.int .u8 105, .int .u8 110, .int .u8 102] (by rfl) (by rfl) (World.news_of_block (cs := #[.int .u8 105, .int .u8 110, .int .u8 102]) (t := 5) (fr := (0, 0)) (heap_alloc_at _ _ _ (by simp))) (by simp [Value.oneCell']) (by omega) (by unfold maxLen; first | omega | (simp; done) | (simp; omega)) (by first | omega | (simp; done) | (simp; omega)) (by have := T0.out.sz (Nat.le_refl _); simp; omega) _ rfl ?_); intro g1 p1 x1 ho hg hat hl; have T1 : Hid _ := T0.out.grown (X := [105, 110, 102]) (T0.out.sz (Nat.le_refl _)) hg ho; obtain ⟨s0, s1, s2, s3, s4, s5⟩ := T1.out.six; clear ho hg hat hl q))
    obtain ⟨VA, hVA⟩ : ∃ VA : List UInt8, VA = [40] ++ [105, 110, 102] := ⟨_, rfl⟩
    rw [← hVA] at T1
    have TR : Hid (TxOwn w x1 w.heap.size _ VA w.heap.size ⟨a0, a1, a2, a3, a4, a5⟩) := T1.out
    have hVl : VA.length ≤ 30 := by rw [hVA]; first | (simp; done) | (simp; omega)
    have HVA : Hid _ := hVA
    clear T1 s0 s1 s2 s3 s4 s5 hVA
    have A0 : Hid True := trivial
    have S0 : Hid (w.heap.size ≤ x1.heap.size) := TR.out.sz (Nat.le_refl _)
    have Td : Hid (TxOwn w x1.drew w.heap.size _ _ w.heap.size ⟨a0, a1, a2, a3, a4, a5⟩) := TR.out.drew
    have Ta : Hid (∀ o, TxOwn w (x1.alloc o).drew w.heap.size _ _ w.heap.size ⟨a0, a1, a2, a3, a4, a5⟩) := fun o => (TR.out.alloc S0.out o).drew
    have Bk : Hid ((x1.alloc (.cells #[.int .u8 58] 5)).drew.heap[x1.heap.size]? = some (.cells #[.int .u8 58] 5)) := heap_alloc_at _ _ _ rfl
    go_cut [3] from 16 to 22 (fun c wx => TxOwn w wx w.heap.size c (VA ++ [58] ++ Lib.itoa a2) w.heap.size ⟨a0, a1, a2, a3, a4, a5⟩)
    case first =>
      obtain ⟨s0, s1, s2, s3, s4, s5⟩ := TR.out.six
      go_wp2_with fail
      go_region_held3 (fun w' => w'.cell? ⟨w.heap.size, 2, none⟩ = some (.int .i64 a2))
        (first | (with_reducible exact XA.out) | (with_reducible exact XB.out) | (with_reducible exact XC.out) | (with_reducible exact XD.out) | (with_reducible exact XE.out) | go_keep)
        (first
          | (go_at_call 22; have q := T1; refine (decimal_any a2 n2 _).mono ?_; rintro e z2 ⟨v2, rfl, hod, hbd⟩; obtain ⟨gd, cd, rfl, hg1, hg2, -, -, -, -⟩ := owns_some hod (itoa_pos a2); have T2 : Hid (TxOwn w z2 w.heap.size _ _ w.heap.size _) := T1.out.quiet (T1.out.sz (Nat.le_refl _)) hbd; have D2 : Hid (World.ownsRow _ _ _ _ _ _ _) := hod; have XB : Hid (z2.cell? ⟨w.heap.size, 2, none⟩ = some (.int .i64 a2)) := T2.out.six.2.2.1; clear q T1 hod hbd)
          | (go_at_call 22; have q := A0; refine (decimal_any a2 n2 _).mono ?_; rintro e z1 ⟨v1, rfl, hod, hbd⟩; obtain ⟨gd, cd, rfl, hg1, hg2, -, -, -, -⟩ := owns_some hod (itoa_pos a2); have TC : Hid (TxOwn w z1 w.heap.size _ _ w.heap.size _) := (by first | exact Td.out.quiet S0.out hbd | exact (Ta.out _).quiet (by have := S0.out; simp; omega) hbd); have D1 : Hid (World.ownsRow _ _ _ _ _ _ _) := hod; have HGD : Hid (x1.drew.heap.size ≤ gd) := (by first | exact hg1 | (have h9 := hg1; simp at h9 ⊢; omega)); have BD : Hid (Below _ _ _) := hbd; have XC : Hid (z1.cell? ⟨w.heap.size, 2, none⟩ = some (.int .i64 a2)) := TC.out.six.2.2.1; clear q A0 hod hbd)
          | (have q := A0; refine step_append_lies _ (by rfl) _ _ _ (by rfl) w.heap.size 5 i0 _ 1 1 bys_under hi0 hz0 hz1 hz2 rfl (by omega) _ (VA).length _ (by rfl) ((TR.out.own.alloc _).drew) ⟨x1.heap.size, 0, none⟩ 1 1 [.int .u8 58] (by rfl) (by rfl) (World.news_of_block (cs := #[.int .u8 58]) (t := 5) (fr := (0, 0)) (heap_alloc_at _ _ _ (by simp))) (by simp [Value.oneCell']) (by omega) (by unfold maxLen; first | omega | (simp; done) | (simp; omega)) (by first | omega | (simp; done) | (simp; omega)) (by have := S0.out; simp; omega) (x1.heap.size + 1) (by simp) ?_; intro g3 p3 z3 ho hg hat hl; have T1 : Hid (TxOwn w z3 w.heap.size _ _ w.heap.size _) := TR.out.grown (X := [58]) S0.out (undrew hg) ho; have XA : Hid (z3.cell? ⟨w.heap.size, 2, none⟩ = some (.int .i64 a2)) := T1.out.six.2.2.1; clear q A0 ho hg hat hl)
          | (have q := TC; refine step_append_lies _ (by rfl) _ _ _ (by rfl) w.heap.size 5 i0 _ 1 1 bys_under hi0 hz0 hz1 hz2 rfl (by omega) _ (VA).length _ (by rfl) TC.out.own ⟨x1.heap.size, 0, none⟩ 1 1 [.int .u8 58] (by rfl) (by rfl) (World.news_of_block (cs := #[.int .u8 58]) (t := 5) (fr := (0, 0)) (by rw [BD.out.block _ (by simp)]; exact Bk.out)) (by simp [Value.oneCell']) (by omega) (by unfold maxLen; first | omega | (simp; done) | (simp; omega)) (by first | omega | (simp; done) | (simp; omega)) (TC.out.sz (Nat.le_refl _)) _ rfl ?_; intro g3 p3 z3 ho hg hat hl; have T2 : Hid (TxOwn w z3 w.heap.size _ _ w.heap.size _) := TC.out.grown0 (X := [58]) (TC.out.sz (Nat.le_refl _)) hg ho; have D2 : Hid (World.ownsRow z3 _ _ _ _ _ _) := D1.out.kept hg (sep_ge Td.out.own HGD.out _ _); have XD : Hid (z3.cell? ⟨w.heap.size, 2, none⟩ = some (.int .i64 a2)) := T2.out.six.2.2.1; clear q TC ho hg hat hl)
          | (have q := TC; refine step_append_lies _ (by rfl) _ _ _ (by rfl) w.heap.size 5 i0 _ 1 1 bys_under hi0 hz0 hz1 hz2 rfl (by omega) _ (VA).length _ (by rfl) (TC.out.own.alloc _) ⟨z1.heap.size, 0, none⟩ 1 1 [.int .u8 58] (by rfl) (by rfl) (World.news_of_block (cs := #[.int .u8 58]) (t := 5) (fr := (0, 0)) (heap_alloc_at _ _ _ (by simp))) (by simp [Value.oneCell']) (by omega) (by unfold maxLen; first | omega | (simp; done) | (simp; omega)) (by first | omega | (simp; done) | (simp; omega)) (by have := TC.out.sz (Nat.le_refl _); simp; omega) (z1.heap.size + 1) (by simp) ?_; intro g3 p3 z3 ho hg hat hl; have T2 : Hid (TxOwn w z3 w.heap.size _ _ w.heap.size _) := TC.out.grown (X := [58]) (TC.out.sz (Nat.le_refl _)) hg ho; have D2 : Hid (World.ownsRow z3 _ _ _ _ _ _) := (D1.out.alloc _).kept hg (sep_ge Td.out.own HGD.out _ _); have XD : Hid (z3.cell? ⟨w.heap.size, 2, none⟩ = some (.int .i64 a2)) := T2.out.six.2.2.1; clear q TC ho hg hat hl)
          | (have q := T2; refine step_append_lies _ (by rfl) _ _ _ (by rfl) w.heap.size 5 i0 _ 1 1 bys_under hi0 hz0 hz1 hz2 rfl (by omega) _ (VA ++ [58]).length _ (by rfl) T2.out.own ⟨gd, 0, none⟩ _ cd (Lib.byteCells (Lib.itoa a2)) (by rfl) (byC_len _) (byC_news D2.out) (byC_one _) (itoa_pos _) (by unfold maxLen; first | omega | (simp; done) | (simp; omega)) (by first | omega | (simp; done) | (simp; omega)) (T2.out.sz (Nat.le_refl _)) _ rfl ?_; intro g4 p4 z4 ho hg hat hl; have T3 : Hid (TxOwn w z4 w.heap.size _ (VA ++ [58] ++ Lib.itoa a2) w.heap.size _) := T2.out.grown0 (X := Lib.itoa a2) (T2.out.sz (Nat.le_refl _)) hg ho; have XE : Hid (z4.cell? ⟨w.heap.size, 2, none⟩ = some (.int .i64 a2)) := T3.out.six.2.2.1; clear q T2 ho hg hat hl))
      all_goals
        go_wp2_with fail
        go_meet
        first | exact T3.out | exact T3.out.len (by simp) | exact T3.out.len (by simp; omega)
    case rest =>
      obtain ⟨VB, hVB⟩ : ∃ VB : List UInt8, VB = [40] ++ [105, 110, 102] ++ [58] ++ Lib.itoa a2 := ⟨_, rfl⟩
      rw [HVA.out, ← hVB] at hcut
      have T5 : Hid (TxOwn w wc w.heap.size _ VB w.heap.size ⟨a0, a1, a2, a3, a4, a5⟩) := hcut
      have hVm : VB.length ≤ 60 := by rw [hVB]; simp; omega
      have HVB : Hid _ := hVB
      clear hVB
      obtain ⟨s0, s1, s2, s3, s4, s5⟩ := T5.out.six
      clear hcut Td Ta Bk S0 TR
      go_wp2_with (first | (go_at_call 12; have q := T5; refine (rLeaf_any _ _ _ _ _ _ _).mono ?_; rintro e y5 ⟨rfl, hby⟩; rw [HLF.out]; have T6 : Hid (TxOwn w y5 w.heap.size _ VB w.heap.size ⟨a0, a1, a2, a3, a4, a5⟩) := T5.out.quiet (T5.out.sz (Nat.le_refl _)) hby; clear s0 s1 s2 s3 s4 s5; obtain ⟨s0, s1, s2, s3, s4, s5⟩ := T6.out.six; clear hby q T5))
      go_ret
      have hH : headL ⟨a0, a1, a2, a3, a4, a5⟩ = [40] ++ [105, 110, 102] ++ [58] ++ Lib.itoa a2 := HHE.out
      rw [hH, ← HVB.out]
      exact ⟨_, rfl, T6.out.own, T6.out.below⟩
  · have HLF : Hid _ := hb
    clear hb
    go_enter Tryd.func13, Tryd.ntmps13
    go_wp2_with (first | (at_builtin; have q := T0; (refine wpList_append_lies _ (by rfl) _ _ _ (by rfl) w.heap.size 5 i0 _ 1 1 bys_under hi0 hz0 hz1 hz2 rfl (by omega) _ ([40]).length _ (by rfl) (T0.out.own.alloc _) ⟨_, 0, none⟩ 3 3 [.int .u8 105, .int .u8 110, .int .u8 102] (by rfl) (by rfl) (World.news_of_block (cs := #[.int .u8 105, .int .u8 110, .int .u8 102]) (t := 5) (fr := (0, 0)) (heap_alloc_at _ _ _ (by simp))) (by simp [Value.oneCell']) (by omega) (by unfold maxLen; first | omega | (simp; done) | (simp; omega)) (by first | omega | (simp; done) | (simp; omega)) (by have := T0.out.sz (Nat.le_refl _); simp; omega) _ rfl ?_); intro g1 p1 x1 ho hg hat hl; have T1 : Hid _ := T0.out.grown (X := [105, 110, 102]) (T0.out.sz (Nat.le_refl _)) hg ho; obtain ⟨s0, s1, s2, s3, s4, s5⟩ := T1.out.six; clear ho hg hat hl q))
    obtain ⟨VA, hVA⟩ : ∃ VA : List UInt8, VA = [40] ++ [105, 110, 102] := ⟨_, rfl⟩
    rw [← hVA] at T1
    have TR : Hid (TxOwn w x1 w.heap.size _ VA w.heap.size ⟨a0, a1, a2, a3, a4, a5⟩) := T1.out
    have hVl : VA.length ≤ 30 := by rw [hVA]; first | (simp; done) | (simp; omega)
    have HVA : Hid _ := hVA
    clear T1 s0 s1 s2 s3 s4 s5 hVA
    have A0 : Hid True := trivial
    have S0 : Hid (w.heap.size ≤ x1.heap.size) := TR.out.sz (Nat.le_refl _)
    have Td : Hid (TxOwn w x1.drew w.heap.size _ _ w.heap.size ⟨a0, a1, a2, a3, a4, a5⟩) := TR.out.drew
    have Ta : Hid (∀ o, TxOwn w (x1.alloc o).drew w.heap.size _ _ w.heap.size ⟨a0, a1, a2, a3, a4, a5⟩) := fun o => (TR.out.alloc S0.out o).drew
    have Bk : Hid ((x1.alloc (.cells #[.int .u8 58] 5)).drew.heap[x1.heap.size]? = some (.cells #[.int .u8 58] 5)) := heap_alloc_at _ _ _ rfl
    go_cut [3] from 16 to 22 (fun c wx => TxOwn w wx w.heap.size c (VA ++ [58] ++ Lib.itoa a2) w.heap.size ⟨a0, a1, a2, a3, a4, a5⟩)
    case first =>
      obtain ⟨s0, s1, s2, s3, s4, s5⟩ := TR.out.six
      go_wp2_with fail
      go_region_held3 (fun w' => w'.cell? ⟨w.heap.size, 2, none⟩ = some (.int .i64 a2))
        (first | (with_reducible exact XA.out) | (with_reducible exact XB.out) | (with_reducible exact XC.out) | (with_reducible exact XD.out) | (with_reducible exact XE.out) | go_keep)
        (first
          | (go_at_call 22; have q := T1; refine (decimal_any a2 n2 _).mono ?_; rintro e z2 ⟨v2, rfl, hod, hbd⟩; obtain ⟨gd, cd, rfl, hg1, hg2, -, -, -, -⟩ := owns_some hod (itoa_pos a2); have T2 : Hid (TxOwn w z2 w.heap.size _ _ w.heap.size _) := T1.out.quiet (T1.out.sz (Nat.le_refl _)) hbd; have D2 : Hid (World.ownsRow _ _ _ _ _ _ _) := hod; have XB : Hid (z2.cell? ⟨w.heap.size, 2, none⟩ = some (.int .i64 a2)) := T2.out.six.2.2.1; clear q T1 hod hbd)
          | (go_at_call 22; have q := A0; refine (decimal_any a2 n2 _).mono ?_; rintro e z1 ⟨v1, rfl, hod, hbd⟩; obtain ⟨gd, cd, rfl, hg1, hg2, -, -, -, -⟩ := owns_some hod (itoa_pos a2); have TC : Hid (TxOwn w z1 w.heap.size _ _ w.heap.size _) := (by first | exact Td.out.quiet S0.out hbd | exact (Ta.out _).quiet (by have := S0.out; simp; omega) hbd); have D1 : Hid (World.ownsRow _ _ _ _ _ _ _) := hod; have HGD : Hid (x1.drew.heap.size ≤ gd) := (by first | exact hg1 | (have h9 := hg1; simp at h9 ⊢; omega)); have BD : Hid (Below _ _ _) := hbd; have XC : Hid (z1.cell? ⟨w.heap.size, 2, none⟩ = some (.int .i64 a2)) := TC.out.six.2.2.1; clear q A0 hod hbd)
          | (have q := A0; refine step_append_lies _ (by rfl) _ _ _ (by rfl) w.heap.size 5 i0 _ 1 1 bys_under hi0 hz0 hz1 hz2 rfl (by omega) _ (VA).length _ (by rfl) ((TR.out.own.alloc _).drew) ⟨x1.heap.size, 0, none⟩ 1 1 [.int .u8 58] (by rfl) (by rfl) (World.news_of_block (cs := #[.int .u8 58]) (t := 5) (fr := (0, 0)) (heap_alloc_at _ _ _ (by simp))) (by simp [Value.oneCell']) (by omega) (by unfold maxLen; first | omega | (simp; done) | (simp; omega)) (by first | omega | (simp; done) | (simp; omega)) (by have := S0.out; simp; omega) (x1.heap.size + 1) (by simp) ?_; intro g3 p3 z3 ho hg hat hl; have T1 : Hid (TxOwn w z3 w.heap.size _ _ w.heap.size _) := TR.out.grown (X := [58]) S0.out (undrew hg) ho; have XA : Hid (z3.cell? ⟨w.heap.size, 2, none⟩ = some (.int .i64 a2)) := T1.out.six.2.2.1; clear q A0 ho hg hat hl)
          | (have q := TC; refine step_append_lies _ (by rfl) _ _ _ (by rfl) w.heap.size 5 i0 _ 1 1 bys_under hi0 hz0 hz1 hz2 rfl (by omega) _ (VA).length _ (by rfl) TC.out.own ⟨x1.heap.size, 0, none⟩ 1 1 [.int .u8 58] (by rfl) (by rfl) (World.news_of_block (cs := #[.int .u8 58]) (t := 5) (fr := (0, 0)) (by rw [BD.out.block _ (by simp)]; exact Bk.out)) (by simp [Value.oneCell']) (by omega) (by unfold maxLen; first | omega | (simp; done) | (simp; omega)) (by first | omega | (simp; done) | (simp; omega)) (TC.out.sz (Nat.le_refl _)) _ rfl ?_; intro g3 p3 z3 ho hg hat hl; have T2 : Hid (TxOwn w z3 w.heap.size _ _ w.heap.size _) := TC.out.grown0 (X := [58]) (TC.out.sz (Nat.le_refl _)) hg ho; have D2 : Hid (World.ownsRow z3 _ _ _ _ _ _) := D1.out.kept hg (sep_ge Td.out.own HGD.out _ _); have XD : Hid (z3.cell? ⟨w.heap.size, 2, none⟩ = some (.int .i64 a2)) := T2.out.six.2.2.1; clear q TC ho hg hat hl)
          | (have q := TC; refine step_append_lies _ (by rfl) _ _ _ (by rfl) w.heap.size 5 i0 _ 1 1 bys_under hi0 hz0 hz1 hz2 rfl (by omega) _ (VA).length _ (by rfl) (TC.out.own.alloc _) ⟨z1.heap.size, 0, none⟩ 1 1 [.int .u8 58] (by rfl) (by rfl) (World.news_of_block (cs := #[.int .u8 58]) (t := 5) (fr := (0, 0)) (heap_alloc_at _ _ _ (by simp))) (by simp [Value.oneCell']) (by omega) (by unfold maxLen; first | omega | (simp; done) | (simp; omega)) (by first | omega | (simp; done) | (simp; omega)) (by have := TC.out.sz (Nat.le_refl _); simp; omega) (z1.heap.size + 1) (by simp) ?_; intro g3 p3 z3 ho hg hat hl; have T2 : Hid (TxOwn w z3 w.heap.size _ _ w.heap.size _) := TC.out.grown (X := [58]) (TC.out.sz (Nat.le_refl _)) hg ho; have D2 : Hid (World.ownsRow z3 _ _ _ _ _ _) := (D1.out.alloc _).kept hg (sep_ge Td.out.own HGD.out _ _); have XD : Hid (z3.cell? ⟨w.heap.size, 2, none⟩ = some (.int .i64 a2)) := T2.out.six.2.2.1; clear q TC ho hg hat hl)
          | (have q := T2; refine step_append_lies _ (by rfl) _ _ _ (by rfl) w.heap.size 5 i0 _ 1 1 bys_under hi0 hz0 hz1 hz2 rfl (by omega) _ (VA ++ [58]).length _ (by rfl) T2.out.own ⟨gd, 0, none⟩ _ cd (Lib.byteCells (Lib.itoa a2)) (by rfl) (byC_len _) (byC_news D2.out) (byC_one _) (itoa_pos _) (by unfold maxLen; first | omega | (simp; done) | (simp; omega)) (by first | omega | (simp; done) | (simp; omega)) (T2.out.sz (Nat.le_refl _)) _ rfl ?_; intro g4 p4 z4 ho hg hat hl; have T3 : Hid (TxOwn w z4 w.heap.size _ (VA ++ [58] ++ Lib.itoa a2) w.heap.size _) := T2.out.grown0 (X := Lib.itoa a2) (T2.out.sz (Nat.le_refl _)) hg ho; have XE : Hid (z4.cell? ⟨w.heap.size, 2, none⟩ = some (.int .i64 a2)) := T3.out.six.2.2.1; clear q T2 ho hg hat hl))
      all_goals
        go_wp2_with fail
        go_meet
        first | exact T3.out | exact T3.out.len (by simp) | exact T3.out.len (by simp; omega)
    case rest =>
      obtain ⟨VB, hVB⟩ : ∃ VB : List UInt8, VB = [40] ++ [105, 110, 102] ++ [58] ++ Lib.itoa a2 := ⟨_, rfl⟩
      rw [HVA.out, ← hVB] at hcut
      have T5 : Hid (TxOwn w wc w.heap.size _ VB w.heap.size ⟨a0, a1, a2, a3, a4, a5⟩) := hcut
      have hVm : VB.length ≤ 60 := by rw [hVB]; simp; omega
      have HVB : Hid _ := hVB
      clear hVB
      obtain ⟨s0, s1, s2, s3, s4, s5⟩ := T5.out.six
      clear hcut Td Ta Bk S0 TR
      go_wp2_with (first | (go_at_call 12; have q := T5; refine (rLeaf_any _ _ _ _ _ _ _).mono ?_; rintro e y5 ⟨rfl, hby⟩; rw [HLF.out]; have T6 : Hid (TxOwn w y5 w.heap.size _ VB w.heap.size ⟨a0, a1, a2, a3, a4, a5⟩) := T5.out.quiet (T5.out.sz (Nat.le_refl _)) hby; clear s0 s1 s2 s3 s4 s5; obtain ⟨s0, s1, s2, s3, s4, s5⟩ := T6.out.six; clear hby q T5))
      go_ret
      have hH : headL ⟨a0, a1, a2, a3, a4, a5⟩ = [40] ++ [105, 110, 102] ++ [58] ++ Lib.itoa a2 := HHE.out
      rw [hH, ← HVB.out]
      exact ⟨_, rfl, T6.out.own, T6.out.below⟩
set_option maxRecDepth 100000 in
set_option maxHeartbeats 4000000 in
theorem rhead_leaf (a0 a1 a2 a3 a4 a5 : Int) (w : World) (n0 : In64 a0) (n2 : In64 a2) (n3 : In64 a3) (h0 : a1 = 0) (hr : rleafB ⟨a0, a1, a2, a3, a4, a5⟩ = true) (hf : leafB ⟨a0, a1, a2, a3, a4, a5⟩ = true) :
    Calls Tryd.prog 13 #[.agg #[.int .i64 a0, .int .i64 a1, .int .i64 a2, .int .i64 a3, .int .i64 a4, .int .i64 a5]] w fun e w' => ∃ v', e = .returned v' ∧ w'.ownsRow w.heap.size 5 1 v' (headL ⟨a0, a1, a2, a3, a4, a5⟩).length (Lib.byteCells (headL ⟨a0, a1, a2, a3, a4, a5⟩)) ∧ Below w.heap.size w w' := by
  obtain ⟨i0, hi0, hz0, hz1, hz2⟩ := info_parts by_info
  have l0 := itoa_le n0
  have l2 := itoa_le n2
  have l3 := itoa_le n3
  have T0 : Hid (TxOwn w _ w.heap.size _ [40] w.heap.size ⟨a0, a1, a2, a3, a4, a5⟩) := head0 w a0 a1 a2 a3 a4 a5
  have HLF : Hid (rleafB ⟨a0, a1, a2, a3, a4, a5⟩ = true) := hr
  have HLL : Hid (leafB ⟨a0, a1, a2, a3, a4, a5⟩ = true) := hf
  have HI : Hid (¬ a1 = 1) := by show ¬ a1 = 1; omega
  have HZ : Hid (a1 = 0) := h0
  have z1 : (a1 == 1) = false := by simp [h0]
  have z0 : (a1 == 0) = true := by simp [h0]
  clear h0 hr hf
  · go_enter Tryd.func13, Tryd.ntmps13
    go_wp2_with (first | (go_at_call 22; have q := T0; refine (decimal_any a0 n0 _).mono ?_; rintro e y0 ⟨v0, rfl, hod, hbd⟩; obtain ⟨ge, ce, rfl, -, -, -, -, -, -⟩ := owns_some hod (itoa_pos a0); have TK : Hid (TxOwn w y0 w.heap.size _ _ w.heap.size _) := T0.out.quiet (T0.out.sz (Nat.le_refl _)) hbd; have DK : Hid (World.ownsRow _ _ _ _ _ _ _) := hod; clear q T0 hod hbd) | (at_builtin; have q := TK; (refine wpList_append_lies _ (by rfl) _ _ _ (by rfl) w.heap.size 5 i0 _ 1 1 bys_under hi0 hz0 hz1 hz2 rfl (by omega) _ ([40] : List UInt8).length _ (by rfl) TK.out.own ⟨ge, 0, none⟩ _ ce (Lib.byteCells (Lib.itoa a0)) (by rfl) (byC_len _) (byC_news DK.out) (byC_one _) (itoa_pos _) (by unfold maxLen; first | omega | (simp; done) | (simp; omega)) (by first | omega | (simp; done) | (simp; omega)) (TK.out.sz (Nat.le_refl _)) _ rfl ?_); intro g1 p1 x1 ho hg hat hl; have T1 : Hid (TxOwn w x1 w.heap.size _ ([40] ++ Lib.itoa a0) w.heap.size _) := TK.out.grown0 (X := Lib.itoa a0) (TK.out.sz (Nat.le_refl _)) hg ho; obtain ⟨s0, s1, s2, s3, s4, s5⟩ := T1.out.six; clear ho hg hat hl q))
    obtain ⟨VA, hVA⟩ : ∃ VA : List UInt8, VA = [40] ++ Lib.itoa a0 := ⟨_, rfl⟩
    rw [← hVA] at T1
    have TR : Hid (TxOwn w x1 w.heap.size _ VA w.heap.size ⟨a0, a1, a2, a3, a4, a5⟩) := T1.out
    have hVl : VA.length ≤ 30 := by rw [hVA]; first | (simp; done) | (simp; omega)
    have HVA : Hid _ := hVA
    clear T1 s0 s1 s2 s3 s4 s5 hVA
    have A0 : Hid True := trivial
    have S0 : Hid (w.heap.size ≤ x1.heap.size) := TR.out.sz (Nat.le_refl _)
    have Td : Hid (TxOwn w x1.drew w.heap.size _ _ w.heap.size ⟨a0, a1, a2, a3, a4, a5⟩) := TR.out.drew
    have Ta : Hid (∀ o, TxOwn w (x1.alloc o).drew w.heap.size _ _ w.heap.size ⟨a0, a1, a2, a3, a4, a5⟩) := fun o => (TR.out.alloc S0.out o).drew
    have Bk : Hid ((x1.alloc (.cells #[.int .u8 58] 5)).drew.heap[x1.heap.size]? = some (.cells #[.int .u8 58] 5)) := heap_alloc_at _ _ _ rfl
    go_cut [3] from 16 to 22 (fun c wx => TxOwn w wx w.heap.size c (VA ++ [58] ++ Lib.itoa a2) w.heap.size ⟨a0, a1, a2, a3, a4, a5⟩)
    case first =>
      obtain ⟨s0, s1, s2, s3, s4, s5⟩ := TR.out.six
      go_wp2_with fail
      go_region_held3 (fun w' => w'.cell? ⟨w.heap.size, 2, none⟩ = some (.int .i64 a2))
        (first | (with_reducible exact XA.out) | (with_reducible exact XB.out) | (with_reducible exact XC.out) | (with_reducible exact XD.out) | (with_reducible exact XE.out) | go_keep)
        (first
          | (go_at_call 22; have q := T1; refine (decimal_any a2 n2 _).mono ?_; rintro e z2 ⟨v2, rfl, hod, hbd⟩; obtain ⟨gd, cd, rfl, hg1, hg2, -, -, -, -⟩ := owns_some hod (itoa_pos a2); have T2 : Hid (TxOwn w z2 w.heap.size _ _ w.heap.size _) := T1.out.quiet (T1.out.sz (Nat.le_refl _)) hbd; have D2 : Hid (World.ownsRow _ _ _ _ _ _ _) := hod; have XB : Hid (z2.cell? ⟨w.heap.size, 2, none⟩ = some (.int .i64 a2)) := T2.out.six.2.2.1; clear q T1 hod hbd)
          | (go_at_call 22; have q := A0; refine (decimal_any a2 n2 _).mono ?_; rintro e z1 ⟨v1, rfl, hod, hbd⟩; obtain ⟨gd, cd, rfl, hg1, hg2, -, -, -, -⟩ := owns_some hod (itoa_pos a2); have TC : Hid (TxOwn w z1 w.heap.size _ _ w.heap.size _) := (by first | exact Td.out.quiet S0.out hbd | exact (Ta.out _).quiet (by have := S0.out; simp; omega) hbd); have D1 : Hid (World.ownsRow _ _ _ _ _ _ _) := hod; have HGD : Hid (x1.drew.heap.size ≤ gd) := (by first | exact hg1 | (have h9 := hg1; simp at h9 ⊢; omega)); have BD : Hid (Below _ _ _) := hbd; have XC : Hid (z1.cell? ⟨w.heap.size, 2, none⟩ = some (.int .i64 a2)) := TC.out.six.2.2.1; clear q A0 hod hbd)
          | (have q := A0; refine step_append_lies _ (by rfl) _ _ _ (by rfl) w.heap.size 5 i0 _ 1 1 bys_under hi0 hz0 hz1 hz2 rfl (by omega) _ (VA).length _ (by rfl) ((TR.out.own.alloc _).drew) ⟨x1.heap.size, 0, none⟩ 1 1 [.int .u8 58] (by rfl) (by rfl) (World.news_of_block (cs := #[.int .u8 58]) (t := 5) (fr := (0, 0)) (heap_alloc_at _ _ _ (by simp))) (by simp [Value.oneCell']) (by omega) (by unfold maxLen; first | omega | (simp; done) | (simp; omega)) (by first | omega | (simp; done) | (simp; omega)) (by have := S0.out; simp; omega) (x1.heap.size + 1) (by simp) ?_; intro g3 p3 z3 ho hg hat hl; have T1 : Hid (TxOwn w z3 w.heap.size _ _ w.heap.size _) := TR.out.grown (X := [58]) S0.out (undrew hg) ho; have XA : Hid (z3.cell? ⟨w.heap.size, 2, none⟩ = some (.int .i64 a2)) := T1.out.six.2.2.1; clear q A0 ho hg hat hl)
          | (have q := TC; refine step_append_lies _ (by rfl) _ _ _ (by rfl) w.heap.size 5 i0 _ 1 1 bys_under hi0 hz0 hz1 hz2 rfl (by omega) _ (VA).length _ (by rfl) TC.out.own ⟨x1.heap.size, 0, none⟩ 1 1 [.int .u8 58] (by rfl) (by rfl) (World.news_of_block (cs := #[.int .u8 58]) (t := 5) (fr := (0, 0)) (by rw [BD.out.block _ (by simp)]; exact Bk.out)) (by simp [Value.oneCell']) (by omega) (by unfold maxLen; first | omega | (simp; done) | (simp; omega)) (by first | omega | (simp; done) | (simp; omega)) (TC.out.sz (Nat.le_refl _)) _ rfl ?_; intro g3 p3 z3 ho hg hat hl; have T2 : Hid (TxOwn w z3 w.heap.size _ _ w.heap.size _) := TC.out.grown0 (X := [58]) (TC.out.sz (Nat.le_refl _)) hg ho; have D2 : Hid (World.ownsRow z3 _ _ _ _ _ _) := D1.out.kept hg (sep_ge Td.out.own HGD.out _ _); have XD : Hid (z3.cell? ⟨w.heap.size, 2, none⟩ = some (.int .i64 a2)) := T2.out.six.2.2.1; clear q TC ho hg hat hl)
          | (have q := TC; refine step_append_lies _ (by rfl) _ _ _ (by rfl) w.heap.size 5 i0 _ 1 1 bys_under hi0 hz0 hz1 hz2 rfl (by omega) _ (VA).length _ (by rfl) (TC.out.own.alloc _) ⟨z1.heap.size, 0, none⟩ 1 1 [.int .u8 58] (by rfl) (by rfl) (World.news_of_block (cs := #[.int .u8 58]) (t := 5) (fr := (0, 0)) (heap_alloc_at _ _ _ (by simp))) (by simp [Value.oneCell']) (by omega) (by unfold maxLen; first | omega | (simp; done) | (simp; omega)) (by first | omega | (simp; done) | (simp; omega)) (by have := TC.out.sz (Nat.le_refl _); simp; omega) (z1.heap.size + 1) (by simp) ?_; intro g3 p3 z3 ho hg hat hl; have T2 : Hid (TxOwn w z3 w.heap.size _ _ w.heap.size _) := TC.out.grown (X := [58]) (TC.out.sz (Nat.le_refl _)) hg ho; have D2 : Hid (World.ownsRow z3 _ _ _ _ _ _) := (D1.out.alloc _).kept hg (sep_ge Td.out.own HGD.out _ _); have XD : Hid (z3.cell? ⟨w.heap.size, 2, none⟩ = some (.int .i64 a2)) := T2.out.six.2.2.1; clear q TC ho hg hat hl)
          | (have q := T2; refine step_append_lies _ (by rfl) _ _ _ (by rfl) w.heap.size 5 i0 _ 1 1 bys_under hi0 hz0 hz1 hz2 rfl (by omega) _ (VA ++ [58]).length _ (by rfl) T2.out.own ⟨gd, 0, none⟩ _ cd (Lib.byteCells (Lib.itoa a2)) (by rfl) (byC_len _) (byC_news D2.out) (byC_one _) (itoa_pos _) (by unfold maxLen; first | omega | (simp; done) | (simp; omega)) (by first | omega | (simp; done) | (simp; omega)) (T2.out.sz (Nat.le_refl _)) _ rfl ?_; intro g4 p4 z4 ho hg hat hl; have T3 : Hid (TxOwn w z4 w.heap.size _ (VA ++ [58] ++ Lib.itoa a2) w.heap.size _) := T2.out.grown0 (X := Lib.itoa a2) (T2.out.sz (Nat.le_refl _)) hg ho; have XE : Hid (z4.cell? ⟨w.heap.size, 2, none⟩ = some (.int .i64 a2)) := T3.out.six.2.2.1; clear q T2 ho hg hat hl))
      all_goals
        go_wp2_with fail
        go_meet
        first | exact T3.out | exact T3.out.len (by simp) | exact T3.out.len (by simp; omega)
    case rest =>
      obtain ⟨VB, hVB⟩ : ∃ VB : List UInt8, VB = [40] ++ Lib.itoa a0 ++ [58] ++ Lib.itoa a2 := ⟨_, rfl⟩
      rw [HVA.out, ← hVB] at hcut
      have T5 : Hid (TxOwn w wc w.heap.size _ VB w.heap.size ⟨a0, a1, a2, a3, a4, a5⟩) := hcut
      have hVm : VB.length ≤ 60 := by rw [hVB]; simp; omega
      have HVB : Hid _ := hVB
      clear hVB
      obtain ⟨s0, s1, s2, s3, s4, s5⟩ := T5.out.six
      clear hcut Td Ta Bk S0 TR
      go_wp2_with (first | (go_at_call 12; have q := T5; refine (rLeaf_any _ _ _ _ _ _ _).mono ?_; rintro e y5 ⟨rfl, hby⟩; rw [HLF.out]; have T6 : Hid (TxOwn w y5 w.heap.size _ VB w.heap.size ⟨a0, a1, a2, a3, a4, a5⟩) := T5.out.quiet (T5.out.sz (Nat.le_refl _)) hby; clear s0 s1 s2 s3 s4 s5; obtain ⟨s0, s1, s2, s3, s4, s5⟩ := T6.out.six; clear hby q T5))
      clear s0 s1 s2 s3 s4 s5
      have A0 : Hid True := trivial
      have S0 : Hid (w.heap.size ≤ y5.heap.size) := T6.out.sz (Nat.le_refl _)
      have Td : Hid (TxOwn w y5.drew w.heap.size _ _ w.heap.size ⟨a0, a1, a2, a3, a4, a5⟩) := T6.out.drew
      have Ta : Hid (∀ o, TxOwn w (y5.alloc o).drew w.heap.size _ _ w.heap.size ⟨a0, a1, a2, a3, a4, a5⟩) := fun o => (T6.out.alloc S0.out o).drew
      have Bk : Hid ((y5.alloc (.cells #[.int .u8 61] 5)).drew.heap[y5.heap.size]? = some (.cells #[.int .u8 61] 5)) := heap_alloc_at _ _ _ rfl
      go_cut [3] from 30 to 36 (fun c wx => TxOwn w wx w.heap.size c (VB ++ [61] ++ Lib.itoa a3) w.heap.size ⟨a0, a1, a2, a3, a4, a5⟩)
      case first =>
        obtain ⟨s0, s1, s2, s3, s4, s5⟩ := T6.out.six
        go_wp2_with fail
        go_region_held3 (fun w' => w'.cell? ⟨w.heap.size, 3, none⟩ = some (.int .i64 a3))
          (first | (with_reducible exact XA.out) | (with_reducible exact XB.out) | (with_reducible exact XC.out) | (with_reducible exact XD.out) | (with_reducible exact XE.out) | go_keep)
          (first
            | (go_at_call 22; have q := T1; refine (decimal_any a3 n3 _).mono ?_; rintro e z2 ⟨v2, rfl, hod, hbd⟩; obtain ⟨gd, cd, rfl, hg1, hg2, -, -, -, -⟩ := owns_some hod (itoa_pos a3); have T2 : Hid (TxOwn w z2 w.heap.size _ _ w.heap.size _) := T1.out.quiet (T1.out.sz (Nat.le_refl _)) hbd; have D2 : Hid (World.ownsRow _ _ _ _ _ _ _) := hod; have XB : Hid (z2.cell? ⟨w.heap.size, 3, none⟩ = some (.int .i64 a3)) := T2.out.six.2.2.2.1; clear q T1 hod hbd)
            | (go_at_call 22; have q := A0; refine (decimal_any a3 n3 _).mono ?_; rintro e z1 ⟨v1, rfl, hod, hbd⟩; obtain ⟨gd, cd, rfl, hg1, hg2, -, -, -, -⟩ := owns_some hod (itoa_pos a3); have TC : Hid (TxOwn w z1 w.heap.size _ _ w.heap.size _) := (by first | exact Td.out.quiet S0.out hbd | exact (Ta.out _).quiet (by have := S0.out; simp; omega) hbd); have D1 : Hid (World.ownsRow _ _ _ _ _ _ _) := hod; have HGD : Hid (y5.drew.heap.size ≤ gd) := (by first | exact hg1 | (have h9 := hg1; simp at h9 ⊢; omega)); have BD : Hid (Below _ _ _) := hbd; have XC : Hid (z1.cell? ⟨w.heap.size, 3, none⟩ = some (.int .i64 a3)) := TC.out.six.2.2.2.1; clear q A0 hod hbd)
            | (have q := A0; refine step_append_lies _ (by rfl) _ _ _ (by rfl) w.heap.size 5 i0 _ 1 1 bys_under hi0 hz0 hz1 hz2 rfl (by omega) _ (VB).length _ (by rfl) ((T6.out.own.alloc _).drew) ⟨y5.heap.size, 0, none⟩ 1 1 [.int .u8 61] (by rfl) (by rfl) (World.news_of_block (cs := #[.int .u8 61]) (t := 5) (fr := (0, 0)) (heap_alloc_at _ _ _ (by simp))) (by simp [Value.oneCell']) (by omega) (by unfold maxLen; first | omega | (simp; done) | (simp; omega)) (by first | omega | (simp; done) | (simp; omega)) (by have := S0.out; simp; omega) (y5.heap.size + 1) (by simp) ?_; intro g3 p3 z3 ho hg hat hl; have T1 : Hid (TxOwn w z3 w.heap.size _ _ w.heap.size _) := T6.out.grown (X := [61]) S0.out (undrew hg) ho; have XA : Hid (z3.cell? ⟨w.heap.size, 3, none⟩ = some (.int .i64 a3)) := T1.out.six.2.2.2.1; clear q A0 ho hg hat hl)
            | (have q := TC; refine step_append_lies _ (by rfl) _ _ _ (by rfl) w.heap.size 5 i0 _ 1 1 bys_under hi0 hz0 hz1 hz2 rfl (by omega) _ (VB).length _ (by rfl) TC.out.own ⟨y5.heap.size, 0, none⟩ 1 1 [.int .u8 61] (by rfl) (by rfl) (World.news_of_block (cs := #[.int .u8 61]) (t := 5) (fr := (0, 0)) (by rw [BD.out.block _ (by simp)]; exact Bk.out)) (by simp [Value.oneCell']) (by omega) (by unfold maxLen; first | omega | (simp; done) | (simp; omega)) (by first | omega | (simp; done) | (simp; omega)) (TC.out.sz (Nat.le_refl _)) _ rfl ?_; intro g3 p3 z3 ho hg hat hl; have T2 : Hid (TxOwn w z3 w.heap.size _ _ w.heap.size _) := TC.out.grown0 (X := [61]) (TC.out.sz (Nat.le_refl _)) hg ho; have D2 : Hid (World.ownsRow z3 _ _ _ _ _ _) := D1.out.kept hg (sep_ge Td.out.own HGD.out _ _); have XD : Hid (z3.cell? ⟨w.heap.size, 3, none⟩ = some (.int .i64 a3)) := T2.out.six.2.2.2.1; clear q TC ho hg hat hl)
            | (have q := TC; refine step_append_lies _ (by rfl) _ _ _ (by rfl) w.heap.size 5 i0 _ 1 1 bys_under hi0 hz0 hz1 hz2 rfl (by omega) _ (VB).length _ (by rfl) (TC.out.own.alloc _) ⟨z1.heap.size, 0, none⟩ 1 1 [.int .u8 61] (by rfl) (by rfl) (World.news_of_block (cs := #[.int .u8 61]) (t := 5) (fr := (0, 0)) (heap_alloc_at _ _ _ (by simp))) (by simp [Value.oneCell']) (by omega) (by unfold maxLen; first | omega | (simp; done) | (simp; omega)) (by first | omega | (simp; done) | (simp; omega)) (by have := TC.out.sz (Nat.le_refl _); simp; omega) (z1.heap.size + 1) (by simp) ?_; intro g3 p3 z3 ho hg hat hl; have T2 : Hid (TxOwn w z3 w.heap.size _ _ w.heap.size _) := TC.out.grown (X := [61]) (TC.out.sz (Nat.le_refl _)) hg ho; have D2 : Hid (World.ownsRow z3 _ _ _ _ _ _) := (D1.out.alloc _).kept hg (sep_ge Td.out.own HGD.out _ _); have XD : Hid (z3.cell? ⟨w.heap.size, 3, none⟩ = some (.int .i64 a3)) := T2.out.six.2.2.2.1; clear q TC ho hg hat hl)
            | (have q := T2; refine step_append_lies _ (by rfl) _ _ _ (by rfl) w.heap.size 5 i0 _ 1 1 bys_under hi0 hz0 hz1 hz2 rfl (by omega) _ (VB ++ [61]).length _ (by rfl) T2.out.own ⟨gd, 0, none⟩ _ cd (Lib.byteCells (Lib.itoa a3)) (by rfl) (byC_len _) (byC_news D2.out) (byC_one _) (itoa_pos _) (by unfold maxLen; first | omega | (simp; done) | (simp; omega)) (by first | omega | (simp; done) | (simp; omega)) (T2.out.sz (Nat.le_refl _)) _ rfl ?_; intro g4 p4 z4 ho hg hat hl; have T3 : Hid (TxOwn w z4 w.heap.size _ (VB ++ [61] ++ Lib.itoa a3) w.heap.size _) := T2.out.grown0 (X := Lib.itoa a3) (T2.out.sz (Nat.le_refl _)) hg ho; have XE : Hid (z4.cell? ⟨w.heap.size, 3, none⟩ = some (.int .i64 a3)) := T3.out.six.2.2.2.1; clear q T2 ho hg hat hl))
        all_goals
          go_wp2_with fail
          go_meet
          first | exact T3.out | exact T3.out.len (by simp) | exact T3.out.len (by simp; omega)
      case rest =>
        rw [HVB.out] at hcut
        have T8 : Hid (TxOwn w wc w.heap.size _ ([40] ++ Lib.itoa a0 ++ [58] ++ Lib.itoa a2 ++ [61] ++ Lib.itoa a3) w.heap.size ⟨a0, a1, a2, a3, a4, a5⟩) := hcut
        clear hcut
        go_wp2_with fail
        go_ret
        have hH : headL ⟨a0, a1, a2, a3, a4, a5⟩ = [40] ++ Lib.itoa a0 ++ [58] ++ Lib.itoa a2 ++ [61] ++ Lib.itoa a3 := by unfold headL keyL endL; rw [if_neg HI.out, if_pos ⟨HLL.out, HZ.out⟩]; simp
        rw [hH]
        exact ⟨_, rfl, T8.out.own, T8.out.below⟩
set_option maxRecDepth 100000 in
set_option maxHeartbeats 4000000 in
theorem rhead_inner (a0 a1 a2 a3 a4 a5 : Int) (w : World) (n0 : In64 a0) (n2 : In64 a2) (n3 : In64 a3) (h0 : a1 = 0) (hr : rleafB ⟨a0, a1, a2, a3, a4, a5⟩ = false) (hf : leafB ⟨a0, a1, a2, a3, a4, a5⟩ = false) :
    Calls Tryd.prog 13 #[.agg #[.int .i64 a0, .int .i64 a1, .int .i64 a2, .int .i64 a3, .int .i64 a4, .int .i64 a5]] w fun e w' => ∃ v', e = .returned v' ∧ w'.ownsRow w.heap.size 5 1 v' (headL ⟨a0, a1, a2, a3, a4, a5⟩).length (Lib.byteCells (headL ⟨a0, a1, a2, a3, a4, a5⟩)) ∧ Below w.heap.size w w' := by
  obtain ⟨i0, hi0, hz0, hz1, hz2⟩ := info_parts by_info
  have l0 := itoa_le n0
  have l2 := itoa_le n2
  have l3 := itoa_le n3
  have T0 : Hid (TxOwn w _ w.heap.size _ [40] w.heap.size ⟨a0, a1, a2, a3, a4, a5⟩) := head0 w a0 a1 a2 a3 a4 a5
  have HLF : Hid (rleafB ⟨a0, a1, a2, a3, a4, a5⟩ = false) := hr
  have HHE : Hid (headL ⟨a0, a1, a2, a3, a4, a5⟩ = [40] ++ Lib.itoa a0 ++ [58] ++ Lib.itoa a2) := by
    show _ = _
    unfold headL keyL endL
    rw [if_neg (by show ¬ a1 = 1; omega), if_neg (fun z => by have := z.1; rw [hf] at this; cases this)]
    simp
  have z1 : (a1 == 1) = false := by simp [h0]
  have z0 : (a1 == 0) = true := by simp [h0]
  clear h0 hr hf
  · go_enter Tryd.func13, Tryd.ntmps13
    go_wp2_with (first | (go_at_call 22; have q := T0; refine (decimal_any a0 n0 _).mono ?_; rintro e y0 ⟨v0, rfl, hod, hbd⟩; obtain ⟨ge, ce, rfl, -, -, -, -, -, -⟩ := owns_some hod (itoa_pos a0); have TK : Hid (TxOwn w y0 w.heap.size _ _ w.heap.size _) := T0.out.quiet (T0.out.sz (Nat.le_refl _)) hbd; have DK : Hid (World.ownsRow _ _ _ _ _ _ _) := hod; clear q T0 hod hbd) | (at_builtin; have q := TK; (refine wpList_append_lies _ (by rfl) _ _ _ (by rfl) w.heap.size 5 i0 _ 1 1 bys_under hi0 hz0 hz1 hz2 rfl (by omega) _ ([40] : List UInt8).length _ (by rfl) TK.out.own ⟨ge, 0, none⟩ _ ce (Lib.byteCells (Lib.itoa a0)) (by rfl) (byC_len _) (byC_news DK.out) (byC_one _) (itoa_pos _) (by unfold maxLen; first | omega | (simp; done) | (simp; omega)) (by first | omega | (simp; done) | (simp; omega)) (TK.out.sz (Nat.le_refl _)) _ rfl ?_); intro g1 p1 x1 ho hg hat hl; have T1 : Hid (TxOwn w x1 w.heap.size _ ([40] ++ Lib.itoa a0) w.heap.size _) := TK.out.grown0 (X := Lib.itoa a0) (TK.out.sz (Nat.le_refl _)) hg ho; obtain ⟨s0, s1, s2, s3, s4, s5⟩ := T1.out.six; clear ho hg hat hl q))
    obtain ⟨VA, hVA⟩ : ∃ VA : List UInt8, VA = [40] ++ Lib.itoa a0 := ⟨_, rfl⟩
    rw [← hVA] at T1
    have TR : Hid (TxOwn w x1 w.heap.size _ VA w.heap.size ⟨a0, a1, a2, a3, a4, a5⟩) := T1.out
    have hVl : VA.length ≤ 30 := by rw [hVA]; first | (simp; done) | (simp; omega)
    have HVA : Hid _ := hVA
    clear T1 s0 s1 s2 s3 s4 s5 hVA
    have A0 : Hid True := trivial
    have S0 : Hid (w.heap.size ≤ x1.heap.size) := TR.out.sz (Nat.le_refl _)
    have Td : Hid (TxOwn w x1.drew w.heap.size _ _ w.heap.size ⟨a0, a1, a2, a3, a4, a5⟩) := TR.out.drew
    have Ta : Hid (∀ o, TxOwn w (x1.alloc o).drew w.heap.size _ _ w.heap.size ⟨a0, a1, a2, a3, a4, a5⟩) := fun o => (TR.out.alloc S0.out o).drew
    have Bk : Hid ((x1.alloc (.cells #[.int .u8 58] 5)).drew.heap[x1.heap.size]? = some (.cells #[.int .u8 58] 5)) := heap_alloc_at _ _ _ rfl
    go_cut [3] from 16 to 22 (fun c wx => TxOwn w wx w.heap.size c (VA ++ [58] ++ Lib.itoa a2) w.heap.size ⟨a0, a1, a2, a3, a4, a5⟩)
    case first =>
      obtain ⟨s0, s1, s2, s3, s4, s5⟩ := TR.out.six
      go_wp2_with fail
      go_region_held3 (fun w' => w'.cell? ⟨w.heap.size, 2, none⟩ = some (.int .i64 a2))
        (first | (with_reducible exact XA.out) | (with_reducible exact XB.out) | (with_reducible exact XC.out) | (with_reducible exact XD.out) | (with_reducible exact XE.out) | go_keep)
        (first
          | (go_at_call 22; have q := T1; refine (decimal_any a2 n2 _).mono ?_; rintro e z2 ⟨v2, rfl, hod, hbd⟩; obtain ⟨gd, cd, rfl, hg1, hg2, -, -, -, -⟩ := owns_some hod (itoa_pos a2); have T2 : Hid (TxOwn w z2 w.heap.size _ _ w.heap.size _) := T1.out.quiet (T1.out.sz (Nat.le_refl _)) hbd; have D2 : Hid (World.ownsRow _ _ _ _ _ _ _) := hod; have XB : Hid (z2.cell? ⟨w.heap.size, 2, none⟩ = some (.int .i64 a2)) := T2.out.six.2.2.1; clear q T1 hod hbd)
          | (go_at_call 22; have q := A0; refine (decimal_any a2 n2 _).mono ?_; rintro e z1 ⟨v1, rfl, hod, hbd⟩; obtain ⟨gd, cd, rfl, hg1, hg2, -, -, -, -⟩ := owns_some hod (itoa_pos a2); have TC : Hid (TxOwn w z1 w.heap.size _ _ w.heap.size _) := (by first | exact Td.out.quiet S0.out hbd | exact (Ta.out _).quiet (by have := S0.out; simp; omega) hbd); have D1 : Hid (World.ownsRow _ _ _ _ _ _ _) := hod; have HGD : Hid (x1.drew.heap.size ≤ gd) := (by first | exact hg1 | (have h9 := hg1; simp at h9 ⊢; omega)); have BD : Hid (Below _ _ _) := hbd; have XC : Hid (z1.cell? ⟨w.heap.size, 2, none⟩ = some (.int .i64 a2)) := TC.out.six.2.2.1; clear q A0 hod hbd)
          | (have q := A0; refine step_append_lies _ (by rfl) _ _ _ (by rfl) w.heap.size 5 i0 _ 1 1 bys_under hi0 hz0 hz1 hz2 rfl (by omega) _ (VA).length _ (by rfl) ((TR.out.own.alloc _).drew) ⟨x1.heap.size, 0, none⟩ 1 1 [.int .u8 58] (by rfl) (by rfl) (World.news_of_block (cs := #[.int .u8 58]) (t := 5) (fr := (0, 0)) (heap_alloc_at _ _ _ (by simp))) (by simp [Value.oneCell']) (by omega) (by unfold maxLen; first | omega | (simp; done) | (simp; omega)) (by first | omega | (simp; done) | (simp; omega)) (by have := S0.out; simp; omega) (x1.heap.size + 1) (by simp) ?_; intro g3 p3 z3 ho hg hat hl; have T1 : Hid (TxOwn w z3 w.heap.size _ _ w.heap.size _) := TR.out.grown (X := [58]) S0.out (undrew hg) ho; have XA : Hid (z3.cell? ⟨w.heap.size, 2, none⟩ = some (.int .i64 a2)) := T1.out.six.2.2.1; clear q A0 ho hg hat hl)
          | (have q := TC; refine step_append_lies _ (by rfl) _ _ _ (by rfl) w.heap.size 5 i0 _ 1 1 bys_under hi0 hz0 hz1 hz2 rfl (by omega) _ (VA).length _ (by rfl) TC.out.own ⟨x1.heap.size, 0, none⟩ 1 1 [.int .u8 58] (by rfl) (by rfl) (World.news_of_block (cs := #[.int .u8 58]) (t := 5) (fr := (0, 0)) (by rw [BD.out.block _ (by simp)]; exact Bk.out)) (by simp [Value.oneCell']) (by omega) (by unfold maxLen; first | omega | (simp; done) | (simp; omega)) (by first | omega | (simp; done) | (simp; omega)) (TC.out.sz (Nat.le_refl _)) _ rfl ?_; intro g3 p3 z3 ho hg hat hl; have T2 : Hid (TxOwn w z3 w.heap.size _ _ w.heap.size _) := TC.out.grown0 (X := [58]) (TC.out.sz (Nat.le_refl _)) hg ho; have D2 : Hid (World.ownsRow z3 _ _ _ _ _ _) := D1.out.kept hg (sep_ge Td.out.own HGD.out _ _); have XD : Hid (z3.cell? ⟨w.heap.size, 2, none⟩ = some (.int .i64 a2)) := T2.out.six.2.2.1; clear q TC ho hg hat hl)
          | (have q := TC; refine step_append_lies _ (by rfl) _ _ _ (by rfl) w.heap.size 5 i0 _ 1 1 bys_under hi0 hz0 hz1 hz2 rfl (by omega) _ (VA).length _ (by rfl) (TC.out.own.alloc _) ⟨z1.heap.size, 0, none⟩ 1 1 [.int .u8 58] (by rfl) (by rfl) (World.news_of_block (cs := #[.int .u8 58]) (t := 5) (fr := (0, 0)) (heap_alloc_at _ _ _ (by simp))) (by simp [Value.oneCell']) (by omega) (by unfold maxLen; first | omega | (simp; done) | (simp; omega)) (by first | omega | (simp; done) | (simp; omega)) (by have := TC.out.sz (Nat.le_refl _); simp; omega) (z1.heap.size + 1) (by simp) ?_; intro g3 p3 z3 ho hg hat hl; have T2 : Hid (TxOwn w z3 w.heap.size _ _ w.heap.size _) := TC.out.grown (X := [58]) (TC.out.sz (Nat.le_refl _)) hg ho; have D2 : Hid (World.ownsRow z3 _ _ _ _ _ _) := (D1.out.alloc _).kept hg (sep_ge Td.out.own HGD.out _ _); have XD : Hid (z3.cell? ⟨w.heap.size, 2, none⟩ = some (.int .i64 a2)) := T2.out.six.2.2.1; clear q TC ho hg hat hl)
          | (have q := T2; refine step_append_lies _ (by rfl) _ _ _ (by rfl) w.heap.size 5 i0 _ 1 1 bys_under hi0 hz0 hz1 hz2 rfl (by omega) _ (VA ++ [58]).length _ (by rfl) T2.out.own ⟨gd, 0, none⟩ _ cd (Lib.byteCells (Lib.itoa a2)) (by rfl) (byC_len _) (byC_news D2.out) (byC_one _) (itoa_pos _) (by unfold maxLen; first | omega | (simp; done) | (simp; omega)) (by first | omega | (simp; done) | (simp; omega)) (T2.out.sz (Nat.le_refl _)) _ rfl ?_; intro g4 p4 z4 ho hg hat hl; have T3 : Hid (TxOwn w z4 w.heap.size _ (VA ++ [58] ++ Lib.itoa a2) w.heap.size _) := T2.out.grown0 (X := Lib.itoa a2) (T2.out.sz (Nat.le_refl _)) hg ho; have XE : Hid (z4.cell? ⟨w.heap.size, 2, none⟩ = some (.int .i64 a2)) := T3.out.six.2.2.1; clear q T2 ho hg hat hl))
      all_goals
        go_wp2_with fail
        go_meet
        first | exact T3.out | exact T3.out.len (by simp) | exact T3.out.len (by simp; omega)
    case rest =>
      obtain ⟨VB, hVB⟩ : ∃ VB : List UInt8, VB = [40] ++ Lib.itoa a0 ++ [58] ++ Lib.itoa a2 := ⟨_, rfl⟩
      rw [HVA.out, ← hVB] at hcut
      have T5 : Hid (TxOwn w wc w.heap.size _ VB w.heap.size ⟨a0, a1, a2, a3, a4, a5⟩) := hcut
      have hVm : VB.length ≤ 60 := by rw [hVB]; simp; omega
      have HVB : Hid _ := hVB
      clear hVB
      obtain ⟨s0, s1, s2, s3, s4, s5⟩ := T5.out.six
      clear hcut Td Ta Bk S0 TR
      go_wp2_with (first | (go_at_call 12; have q := T5; refine (rLeaf_any _ _ _ _ _ _ _).mono ?_; rintro e y5 ⟨rfl, hby⟩; rw [HLF.out]; have T6 : Hid (TxOwn w y5 w.heap.size _ VB w.heap.size ⟨a0, a1, a2, a3, a4, a5⟩) := T5.out.quiet (T5.out.sz (Nat.le_refl _)) hby; clear s0 s1 s2 s3 s4 s5; obtain ⟨s0, s1, s2, s3, s4, s5⟩ := T6.out.six; clear hby q T5))
      go_ret
      have hH : headL ⟨a0, a1, a2, a3, a4, a5⟩ = [40] ++ Lib.itoa a0 ++ [58] ++ Lib.itoa a2 := HHE.out
      rw [hH, ← HVB.out]
      exact ⟨_, rfl, T6.out.own, T6.out.below⟩
theorem rhead_any (a0 a1 a2 a3 a4 a5 : Int) (w : World) (n0 : In64 a0) (n2 : In64 a2) (n3 : In64 a3) (hi : a1 = 0 ∨ a1 = 1) (hl : rleafB ⟨a0, a1, a2, a3, a4, a5⟩ = leafB ⟨a0, a1, a2, a3, a4, a5⟩) :
    Calls Tryd.prog 13 #[.agg #[.int .i64 a0, .int .i64 a1, .int .i64 a2, .int .i64 a3, .int .i64 a4, .int .i64 a5]] w fun e w' => ∃ v', e = .returned v' ∧ w'.ownsRow w.heap.size 5 1 v' (headL ⟨a0, a1, a2, a3, a4, a5⟩).length (Lib.byteCells (headL ⟨a0, a1, a2, a3, a4, a5⟩)) ∧ Below w.heap.size w w' := by
  rcases hi with h | h
  · cases hf : leafB ⟨a0, a1, a2, a3, a4, a5⟩
    · exact rhead_inner a0 a1 a2 a3 a4 a5 w n0 n2 n3 h (hl.trans hf) hf
    · exact rhead_leaf a0 a1 a2 a3 a4 a5 w n0 n2 n3 h (hl.trans hf) hf
  · exact rhead_inf a0 a1 a2 a3 a4 a5 w n0 n2 n3 h
end Go.Proofs.YtegajbfefhljmaaDoor

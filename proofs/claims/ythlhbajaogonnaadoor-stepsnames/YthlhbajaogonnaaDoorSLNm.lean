
/- Layer 18: the law StepsNames. -/

import Derived.Test.YthlhbajaogonnaaDoorSNm2

import Derived.Test.YthlhbajaogonnaaDoorSMvR

import Derived.Deep.DeepCutAuto

import Derived.Deep.CutRange

import Derived.Deep.RegionHeld3

namespace Go.Proofs.YthlhbajaogonnaaDoor

open Go.RowKit

attribute [local go_sem ↓] Go.wp_at_zero Go.wp_at_succ

theorem pv_neq (a b : Int) (c d : Bool) (w : World) : (binOp .neq 32 (.agg #[.int .i64 a, .bool c]) (.agg #[.int .i64 b, .bool d])).run Tryd.prog w = .ok (.bool (!(decide (a = b) && (c == d)))) w := by
  have u3 := Tryd.underlying3
  have a3' := Tryd.isAgg3
  have z3 := Tryd.sizeOf3
  have u4 := Tryd.underlying4
  have a4' := Tryd.isAgg4
  have z4 := Tryd.sizeOf4
  have hS : Tryd.prog.underlying 32 = some (.struct (Tryd.prog.fieldsOf 32)) := by kernel_rfl
  have hp : Tryd.prog.stoodInHeld 32 = false := by kernel_rfl
  rw [run_neq_struct, show (10000 : Nat) = 9999 + 1 from rfl, run_equalIn_agg w 9999 32 _ _ hS hp]
  simp only [Program.fieldsOf, Tryd.underlying32]
  go_simp
  by_cases h1 : a = b <;> cases c <;> cases d <;> simp [h1]
theorem allK_21n : (allK 12).length = 21 := by decide
set_option maxRecDepth 100000 in
theorem names_back : ∀ m ∈ allK 12, nameE m.1 m.2 = 0 ∧ ofM (allK 12) (nameL m.1 m.2) = m ∧ ofE (allK 12) (nameL m.1 m.2) = 0 := by decide
theorem mr_of {x : World} {B : Nat} {T : TypeId} {v : Value} (h : x.ownsRow B T 2 v (allK 12).length (mvC (allK 12))) : ∃ g c : Nat, v = .slice (some ⟨g, 0, none⟩) 21 c ∧ MrAt x g (allK 12) := by
  obtain ⟨a, c, g, rfl, hm⟩ := mvAt_of h
  obtain ⟨rfl, hl⟩ := hm.base (by rw [allK_21n]; omega)
  exact ⟨g, c, by rw [allK_21n], hl, hm.cells⟩
theorem mv_of_mr {x : World} {T : TypeId} {g : Nat} (h : MrAt x g (allK 12)) : MvAt x T (some ⟨g, 0, none⟩) g (allK 12) := ⟨fun _ => ⟨rfl, h.lt⟩, h.cells⟩
theorem from_mr (g c : Nat) (W : World) (h : MrAt W g (allK 12)) : Calls Tryd.prog 13 #[.slice (some ⟨g, 0, none⟩) 21 c] W fun e w' => ∃ (g' c' : Nat), e = .returned (.slice (some ⟨g', 0, none⟩) 21 c') ∧ MrAt w' g' (allK 12) ∧ Below W.heap.size W w' := by
  have := from_any (some ⟨g, 0, none⟩) g c 32 (allK 12) W (mv_of_mr h) (by rw [allK_21n]; omega)
  rw [allK_21n] at this
  exact this.mono fun e w' ⟨v, he, hr⟩ => by
    obtain ⟨g', c', rfl, hm⟩ := mr_of hr.own
    exact ⟨g', c', he, hm, hr.below⟩
theorem sameMoves_mr (g c g' c' : Nat) (W : World) (h : MrAt W g (allK 12)) (h' : MrAt W g' (allK 12)) : Calls Tryd.prog 12 #[.slice (some ⟨g, 0, none⟩) 21 c, .slice (some ⟨g', 0, none⟩) 21 c'] W fun e w' => e = .returned (.bool true) ∧ Below W.heap.size W w' := by
  have := sameMoves_same (some ⟨g, 0, none⟩) (some ⟨g', 0, none⟩) g g' c c' 23 23 (allK 12) W (mv_of_mr h) (mv_of_mr h') (by rw [allK_21n]; omega)
  rw [allK_21n] at this
  exact this
set_option maxRecDepth 100000 in
set_option maxHeartbeats 8000000 in
theorem stepsNames_any (k : Int) (mi : Bool) (s : List UInt8) (w : World) (h : NmAt w) (hA : ∀ W, Calls Tryd.prog 4 #[] W fun e w' => e = .returned (.bool true) ∧ Below W.heap.size W w') (hT : ∀ (a : Int) (c : Bool) W, Calls Tryd.prog 8 #[.agg #[.int .i64 a, .bool c]] W fun e w' => e = .returned (.agg #[.int .i64 a, .bool c]) ∧ Below W.heap.size W w') :
    Calls Tryd.prog 3 #[.agg #[.int .i64 k, .bool mi], .string ⟨s.toArray⟩] w fun e w' => e = .returned (.bool true) ∧ Below w.heap.size w w' := by
  have HN : Hid (∀ z, Below w.heap.size w z → NmAt z) := fun z hz => h.below hz
  have B0 : Hid (Below w.heap.size w (w.alloc (.cells #[.int .i64 k, .bool mi] 23))) := below_alloc _ _
  have AW : Hid (∀ W, Calls Tryd.prog 4 #[] W fun e w' => e = .returned (.bool true) ∧ Below W.heap.size W w') := hA
  have TV : Hid (∀ (a : Int) (c : Bool) W, Calls Tryd.prog 8 #[.agg #[.int .i64 a, .bool c]] W fun e w' => e = .returned (.agg #[.int .i64 a, .bool c]) ∧ Below W.heap.size W w') := hT
  have PL : Hid (∀ (x : Int) W, Calls Tryd.prog 9 #[.int .i64 x, .int .i64 x] W fun r w' => r = .returned (.bool true) ∧ Below W.heap.size W w') := fun x W => by
    have d : (x == x) = true := by simp
    go_enter Tryd.func9, Tryd.ntmps9
    go_wp2_with fail
    go_ret
    exact ⟨by first | rfl | simp, Below.refl _ _⟩
  have PA' : ∀ W, Calls Tryd.prog 11 #[] W fun e w' => ∃ (g c : Nat), e = .returned (.slice (some ⟨g, 0, none⟩) 21 c) ∧ MrAt w' g (allK 12) ∧ Below W.heap.size W w' := fun W => (All_any W).mono fun e w' ⟨v, he, hr⟩ => by
    obtain ⟨g, c, rfl, hm⟩ := mr_of hr.own
    exact ⟨g, c, he, hm, hr.below⟩
  have RA' : ∀ W, Calls Tryd.prog 14 #[] W fun e w' => ∃ (g c : Nat), e = .returned (.slice (some ⟨g, 0, none⟩) 21 c) ∧ MrAt w' g (allK 12) ∧ Below W.heap.size W w' := fun W => (rAll_any W).mono fun e w' ⟨v, he, hr⟩ => by
    obtain ⟨g, c, rfl, hm⟩ := mr_of hr.own
    exact ⟨g, c, he, hm, hr.below⟩
  have PA : Hid (∀ W, Calls Tryd.prog 11 #[] W fun e w' => ∃ (g c : Nat), e = .returned (.slice (some ⟨g, 0, none⟩) 21 c) ∧ MrAt w' g (allK 12) ∧ Below W.heap.size W w') := PA'
  have RA : Hid (∀ W, Calls Tryd.prog 14 #[] W fun e w' => ∃ (g c : Nat), e = .returned (.slice (some ⟨g, 0, none⟩) 21 c) ∧ MrAt w' g (allK 12) ∧ Below W.heap.size W w') := RA'
  have RN : Hid (∀ W, Calls Tryd.prog 5 #[.agg #[.int .i64 k, .bool mi]] W fun e w' => e = .returned (.tuple #[.string ⟨(nameL k mi).toArray⟩, .int .i64 (nameE k mi)]) ∧ Below W.heap.size W w') := fun W => rName_any k mi W (fun k mi W => rIsMove_any k mi W)
  have PN : Hid (∀ (a : Int) (c : Bool) W, NmAt W → Calls Tryd.prog 7 #[.agg #[.int .i64 a, .bool c]] W fun e w' => e = .returned (.tuple #[.string ⟨(nameL a c).toArray⟩, .int .i64 (nameE a c)]) ∧ Below W.heap.size W w') := fun a c W hW => pName_any a c W hW
  have RO : Hid (∀ W, Calls Tryd.prog 6 #[.string ⟨s.toArray⟩] W fun e w' => e = .returned (.tuple #[.agg #[.int .i64 (ofM (allK 12) s).1, .bool (ofM (allK 12) s).2], .int .i64 (ofE (allK 12) s)]) ∧ Below W.heap.size W w') := fun W => rOf_any s (allK 12) allK_21n W (fun k mi W => rIsMove_any k mi W) RA'
  have PO : Hid (∀ (q : List UInt8) W, NmAt W → Calls Tryd.prog 10 #[.string ⟨q.toArray⟩] W fun e w' => e = .returned (.tuple #[.agg #[.int .i64 (ofM (allK 12) q).1, .bool (ofM (allK 12) q).2], .int .i64 (ofE (allK 12) q)]) ∧ Below W.heap.size W w') := fun q W hW => pOf_any q (allK 12) allK_21n W hW PA'
  have NB : Hid (∀ m ∈ allK 12, nameE m.1 m.2 = 0 ∧ ofM (allK 12) (nameL m.1 m.2) = m ∧ ofE (allK 12) (nameL m.1 m.2) = 0) := names_back
  have KL : Hid ((allK 12).length = 21) := allK_21n
  have PO1 : Hid (∀ W, NmAt W → Calls Tryd.prog 10 #[.string ⟨s.toArray⟩] W fun e w' => e = .returned (.tuple #[.agg #[.int .i64 (ofM (allK 12) s).1, .bool (ofM (allK 12) s).2], .int .i64 (ofE (allK 12) s)]) ∧ Below W.heap.size W w') := fun W hW => PO.out s W hW
  have PN1 : Hid (∀ W, NmAt W → Calls Tryd.prog 7 #[.agg #[.int .i64 k, .bool mi]] W fun e w' => e = .returned (.tuple #[.string ⟨(nameL k mi).toArray⟩, .int .i64 (nameE k mi)]) ∧ Below W.heap.size W w') := fun W hW => PN.out k mi W hW
  have FM : Hid (∀ (g c : Nat) W, MrAt W g (allK 12) → Calls Tryd.prog 13 #[.slice (some ⟨g, 0, none⟩) 21 c] W fun e w' => ∃ (g' c' : Nat), e = .returned (.slice (some ⟨g', 0, none⟩) 21 c') ∧ MrAt w' g' (allK 12) ∧ Below W.heap.size W w') := from_mr
  have SM : Hid (∀ (g c g' c' : Nat) W, MrAt W g (allK 12) → MrAt W g' (allK 12) → Calls Tryd.prog 12 #[.slice (some ⟨g, 0, none⟩) 21 c, .slice (some ⟨g', 0, none⟩) 21 c'] W fun e w' => e = .returned (.bool true) ∧ Below W.heap.size W w') := sameMoves_mr
  have hpn := pv_neq
  clear h PA' RA' hA hT
  generalize nameL k mi = nl at RN PN1
  generalize nameE k mi = ne at RN PN1
  generalize ofE (allK 12) s = oe at RO PO1
  generalize (ofM (allK 12) s).1 = o1 at RO PO1
  generalize (ofM (allK 12) s).2 = o2 at RO PO1
  generalize allK 12 = V at *
  have nlq : (nl == nl) = true := by simp
  have oq : (!(decide (o1 = o1) && (o2 == o2))) = false := by simp
  go_enter Tryd.func3, Tryd.ntmps3
  go_wp2_with fail
  refine (AW.out _).mono ?_
  rintro e w1 ⟨rfl, hb⟩
  have B1 : Hid (Below w.heap.size w w1) := B0.out.trans (hb.mono B0.out.size)
  have M1 : Hid (w1.heap[w.heap.size]? = some (.cells #[.int .i64 k, .bool mi] 23 (0, 0))) := (hb.block _ (by simp)).trans (heap_alloc_at _ _ _ rfl)
  have CC : Hid (∀ z, Below w1.heap.size w1 z → w.heap.size < z.heap.size ∧ z.cell? ⟨w.heap.size, 0, none⟩ = some (.int .i64 k) ∧ z.cell? ⟨w.heap.size, 1, none⟩ = some (.bool mi)) := fun z hz => by
    have q := (hz.block _ (Array.getElem?_eq_some_iff.1 M1.out).1).trans M1.out
    exact ⟨(Array.getElem?_eq_some_iff.1 q).1, (cell_of q 0 _ rfl).1, (cell_of q 1 _ rfl).1⟩
  have NW : Hid (∀ z, Below w1.heap.size w1 z → NmAt z) := fun z hz => HN.out z (B1.out.trans (hz.mono B1.out.size))
  obtain ⟨ml1, m1, n1⟩ := CC.out w1 (Below.refl _ _)
  clear hb
  go_wp2_with fail
  refine (RN.out _).mono ?_
  rintro e w2 ⟨rfl, hb⟩
  have C2 : Hid (Below w1.heap.size w1 w2) := hb
  clear hb
  go_wp2_with fail
  refine (RO.out _).mono ?_
  rintro e w3 ⟨rfl, hb⟩
  have C3 : Hid (Below w1.heap.size w1 w3) := C2.out.trans (hb.mono C2.out.size)
  have C3' : Hid (Below w1.heap.size w1 (w3.alloc (.cells #[.int .i64 o1, .bool o2] 23))) := C3.out.alloc C3.out.size _
  obtain ⟨ml3, m3, n3⟩ := CC.out _ C3'.out
  clear hb
  go_wp2_with fail
  refine (TV.out _ _ _).mono ?_
  rintro e w4 ⟨rfl, hb⟩
  have X4 : Hid (w4.heap[w3.heap.size]? = some (.cells #[.int .i64 o1, .bool o2] 23 (0, 0))) := (hb.block _ (by simp)).trans (heap_alloc_at _ _ _ rfl)
  have C4 : Hid (Below w1.heap.size w1 w4) := C3'.out.trans (hb.mono C3'.out.size)
  clear hb
  go_wp2_with fail
  refine (PN1.out _ (NW.out _ C4.out)).mono ?_
  rintro e w5 ⟨rfl, hb⟩
  have C5 : Hid (Below w1.heap.size w1 w5) := C4.out.trans (hb.mono C4.out.size)
  have X5 : Hid (w5.heap[w3.heap.size]? = some (.cells #[.int .i64 o1, .bool o2] 23 (0, 0))) := (hb.block _ (Array.getElem?_eq_some_iff.1 X4.out).1).trans X4.out
  clear hb
  go_wp2_with fail
  refine (PL.out _ _).mono ?_
  rintro e w6 ⟨rfl, hb⟩
  have C6 : Hid (Below w1.heap.size w1 w6) := C5.out.trans (hb.mono C5.out.size)
  have X6 : Hid (w6.heap[w3.heap.size]? = some (.cells #[.int .i64 o1, .bool o2] 23 (0, 0))) := (hb.block _ (Array.getElem?_eq_some_iff.1 X5.out).1).trans X5.out
  clear hb
  go_wp2_with fail
  refine (PO1.out _ (NW.out _ C6.out)).mono ?_
  rintro e w7 ⟨rfl, hb⟩
  have C7 : Hid (Below w1.heap.size w1 w7) := C6.out.trans (hb.mono C6.out.size)
  have X7 : Hid (w7.heap[w3.heap.size]? = some (.cells #[.int .i64 o1, .bool o2] 23 (0, 0))) := (hb.block _ (Array.getElem?_eq_some_iff.1 X6.out).1).trans X6.out
  have C8 : Hid (Below w1.heap.size w1 (w7.alloc (.cells #[.int .i64 o1, .bool o2] 32))) := C7.out.alloc C7.out.size _
  have DD : Hid (∀ z, Below (w7.alloc (.cells #[.int .i64 o1, .bool o2] 32)).heap.size (w7.alloc (.cells #[.int .i64 o1, .bool o2] 32)) z → z.cell? ⟨w3.heap.size, 0, none⟩ = some (.int .i64 o1) ∧ z.cell? ⟨w3.heap.size, 1, none⟩ = some (.bool o2) ∧ z.cell? ⟨w7.heap.size, 0, none⟩ = some (.int .i64 o1) ∧ z.cell? ⟨w7.heap.size, 1, none⟩ = some (.bool o2)) := fun z hz => by
    have l7 := (Array.getElem?_eq_some_iff.1 X7.out).1
    have q := (hz.block w3.heap.size (by simp; omega)).trans (((below_alloc w7 _).block _ l7).trans X7.out)
    have q' := (hz.block w7.heap.size (by simp)).trans (heap_alloc_at _ _ _ rfl)
    exact ⟨(cell_of q 0 _ rfl).1, (cell_of q 1 _ rfl).1, (cell_of q' 0 _ rfl).1, (cell_of q' 1 _ rfl).1⟩
  have E0 : Hid (Below (w7.alloc (.cells #[.int .i64 o1, .bool o2] 32)).heap.size (w7.alloc (.cells #[.int .i64 o1, .bool o2] 32)) (w7.alloc (.cells #[.int .i64 o1, .bool o2] 32)).drew) := (Below.refl _ _).drew
  obtain ⟨y0, y1, y2, y3⟩ := DD.out _ (Below.refl _ _)
  have l37 : w3.heap.size < w7.heap.size + 1 := by have := (Array.getElem?_eq_some_iff.1 X7.out).1; omega
  clear hb
  go_wp2_with fail
  go_cut [60] from 51 to 59 (fun v wx => v = .bool false ∧ Below (w7.alloc (.cells #[.int .i64 o1, .bool o2] 32)).heap.size (w7.alloc (.cells #[.int .i64 o1, .bool o2] 32)) wx)
  case first =>
    go_region_held3 (fun w' => w'.cell? ⟨w3.heap.size, 0, none⟩ = some (.int .i64 o1) ∧ w'.cell? ⟨w3.heap.size, 1, none⟩ = some (.bool o2) ∧ w'.cell? ⟨w7.heap.size, 0, none⟩ = some (.int .i64 o1) ∧ w'.cell? ⟨w7.heap.size, 1, none⟩ = some (.bool o2))
      (first | (with_reducible exact Y2.out) | (with_reducible exact Y1.out) | go_keep)
      (first | (go_at_call 9; refine (PL.out _ _).mono ?_; rintro e x1 ⟨rfl, hb⟩; have E1 : Hid (Below (w7.alloc (.cells #[.int .i64 o1, .bool o2] 32)).heap.size (w7.alloc (.cells #[.int .i64 o1, .bool o2] 32)) x1) := E0.out.trans (hb.mono E0.out.size); have Y1 : Hid (x1.cell? ⟨w3.heap.size, 0, none⟩ = some (.int .i64 o1) ∧ x1.cell? ⟨w3.heap.size, 1, none⟩ = some (.bool o2) ∧ x1.cell? ⟨w7.heap.size, 0, none⟩ = some (.int .i64 o1) ∧ x1.cell? ⟨w7.heap.size, 1, none⟩ = some (.bool o2)) := DD.out _ E1.out; clear hb) | (go_at_call 8; refine (TV.out _ _ _).mono ?_; rintro e x2 ⟨rfl, hb⟩; have E2 : Hid (Below (w7.alloc (.cells #[.int .i64 o1, .bool o2] 32)).heap.size (w7.alloc (.cells #[.int .i64 o1, .bool o2] 32)) x2) := E1.out.trans (hb.mono E1.out.size); have Y2 : Hid (x2.cell? ⟨w3.heap.size, 0, none⟩ = some (.int .i64 o1) ∧ x2.cell? ⟨w3.heap.size, 1, none⟩ = some (.bool o2) ∧ x2.cell? ⟨w7.heap.size, 0, none⟩ = some (.int .i64 o1) ∧ x2.cell? ⟨w7.heap.size, 1, none⟩ = some (.bool o2)) := DD.out _ E2.out; clear hb))
    all_goals go_wp2_with fail
    all_goals go_meet
    all_goals exact ⟨rfl, E2.out⟩
  case rest =>
    obtain ⟨rfl, hc⟩ := hcut
    have C9 : Hid (Below w1.heap.size w1 wc) := C8.out.trans (hc.mono C8.out.size)
    clear hc
    generalize wc = w9 at *
    go_wp2_with fail
    refine (PA.out _).mono ?_
    rintro e w10 ⟨g, c, rfl, hm, hb⟩
    have C10 : Hid (Below w1.heap.size w1 w10) := C9.out.trans (hb.mono C9.out.size)
    have G10 : Hid (MrAt w10 g V) := hm
    clear hm hb
    go_wp2_with fail
    refine (FM.out _ _ _ G10.out).mono ?_
    rintro e w11 ⟨g', c', rfl, hm, hb⟩
    have C11 : Hid (Below w1.heap.size w1 w11) := C10.out.trans (hb.mono C10.out.size)
    have G11 : Hid (MrAt w11 g V) := G10.out.below hb
    have H11 : Hid (MrAt w11 g' V) := hm
    clear hm hb
    go_wp2_with fail
    refine (RA.out _).mono ?_
    rintro e w12 ⟨g'', c'', rfl, hm, hb⟩
    have C12 : Hid (Below w1.heap.size w1 w12) := C11.out.trans (hb.mono C11.out.size)
    have G12 : Hid (MrAt w12 g V) := G11.out.below hb
    have H12 : Hid (MrAt w12 g' V) := H11.out.below hb
    have K12 : Hid (MrAt w12 g'' V) := hm
    clear hm hb
    go_wp2_with fail
    refine (SM.out _ _ _ _ _ H12.out K12.out).mono ?_
    rintro e w13 ⟨rfl, hb⟩
    have C13 : Hid (Below w1.heap.size w1 w13) := C12.out.trans (hb.mono C12.out.size)
    have G13 : Hid (MrAt w13 g V) := G12.out.below hb
    have N13 : Hid (∀ z, Below w13.heap.size w13 z → NmAt z) := fun z hz => NW.out z (C13.out.trans (hz.mono C13.out.size))
    have O13 : Hid (Below w.heap.size w w13) := B1.out.trans (C13.out.mono B1.out.size)
    clear hb CC NW
    go_wp2_with fail
    go_loopw [69] (fun i wr => ∃ j : Nat, j ≤ 21 ∧ i = .int .i64 j ∧ Below w13.heap.size w13 wr) (fun i _ => 21 - (intOf i).toNat)
    case atStart => exact ⟨0, Nat.zero_le _, rfl, Below.refl _ _⟩
    case round =>
      obtain ⟨j, hj, rfl, hbw⟩ := hrel
      have j0 : (0 : Int) ≤ (j : Int) := Int.natCast_nonneg _
      have BW : Hid (Below w13.heap.size w13 wr) := hbw
      by_cases hlt : j < 21
      · have jlt : (j : Int) < 21 := by omega
        have lv : j < V.length := by rw [KL.out]; exact hlt
        obtain ⟨x0, x1⟩ := (G13.out.below hbw).cells j lv
        have lg := (G13.out.below hbw).lt
        obtain ⟨f1, f2, f3⟩ := NB.out (V.getD j (0, false)) (by rw [← List.getElem_eq_getD (h := lv)]; exact List.getElem_mem lv)
        have NA : Hid (∀ z, NmAt z → Calls Tryd.prog 7 #[.agg #[.int .i64 (V.getD j (0, false)).1, .bool (V.getD j (0, false)).2]] z fun e w' => e = .returned (.tuple #[.string ⟨(nameL (V.getD j (0, false)).1 (V.getD j (0, false)).2).toArray⟩, .int .i64 0]) ∧ Below z.heap.size z w') := fun z hz => by have := PN.out (V.getD j (0, false)).1 (V.getD j (0, false)).2 z hz; rw [f1] at this; exact this
        have OA : Hid (∀ z, NmAt z → Calls Tryd.prog 10 #[.string ⟨(nameL (V.getD j (0, false)).1 (V.getD j (0, false)).2).toArray⟩] z fun e w' => e = .returned (.tuple #[.agg #[.int .i64 (V.getD j (0, false)).1, .bool (V.getD j (0, false)).2], .int .i64 0]) ∧ Below z.heap.size z w') := fun z hz => by have := PO.out (nameL (V.getD j (0, false)).1 (V.getD j (0, false)).2) z hz; rw [f2, f3] at this; exact this
        clear f1 f2 f3 hbw lv PN PO PN1 PO1 RN RO NB
        generalize (nameL (V.getD j (0, false)).1 (V.getD j (0, false)).2) = nl2 at *
        generalize (V.getD j (0, false)).1 = mk at *
        generalize (V.getD j (0, false)).2 = mm at *
        have mq : (!(decide (mk = mk) && (mm == mm))) = false := by simp
        have BA : Hid (Below w13.heap.size w13 (wr.alloc (.cells #[.int .i64 mk, .bool mm] 32))) := BW.out.alloc BW.out.size _
        go_wp2_with fail
        refine (NA.out _ (N13.out _ BA.out)).mono ?_
        rintro e v2 ⟨rfl, hb⟩
        have Z2 : Hid (v2.heap[wr.heap.size]? = some (.cells #[.int .i64 mk, .bool mm] 32 (0, 0))) := (hb.block _ (by simp)).trans (heap_alloc_at _ _ _ rfl)
        have A2 : Hid (Below w13.heap.size w13 v2) := BA.out.trans (hb.mono BA.out.size)
        clear hb
        go_wp2_with fail
        refine (OA.out _ (N13.out _ A2.out)).mono ?_
        rintro e v3 ⟨rfl, hb⟩
        have Z3 : Hid (v3.heap[wr.heap.size]? = some (.cells #[.int .i64 mk, .bool mm] 32 (0, 0))) := (hb.block _ (Array.getElem?_eq_some_iff.1 Z2.out).1).trans Z2.out
        have A3 : Hid (Below w13.heap.size w13 v3) := A2.out.trans (hb.mono A2.out.size)
        have A4 : Hid (Below w13.heap.size w13 (v3.alloc (.cells #[.int .i64 mk, .bool mm] 32))) := A3.out.alloc A3.out.size _
        have l3 : wr.heap.size < v3.heap.size := (Array.getElem?_eq_some_iff.1 Z3.out).1
        have Z4 : Hid ((v3.alloc (.cells #[.int .i64 mk, .bool mm] 32)).heap[wr.heap.size]? = some (.cells #[.int .i64 mk, .bool mm] 32 (0, 0))) := ((below_alloc v3 _).block _ l3).trans Z3.out
        have z0 := (cell_of Z4.out 0 _ rfl).1
        have z1 := (cell_of Z4.out 1 _ rfl).1
        clear hb
        go_wp2_with fail
        exact ⟨⟨j + 1, by omega, by go_num, A4.out⟩, by simp [intOf]; omega⟩
      · have nj : ¬ ((j : Int) < 21) := by omega
        go_wp2_with fail
        go_ret
        exact ⟨rfl, O13.out.trans (hbw.mono O13.out.size)⟩
end Go.Proofs.YthlhbajaogonnaaDoor

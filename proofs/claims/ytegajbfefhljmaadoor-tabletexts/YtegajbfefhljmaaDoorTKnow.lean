
/- Layer 16: Empty; what every law of layer 16 asks first. -/

import Derived.Test.YtegajbfefhljmaaDoorTRd7

import Derived.KernelRfl

namespace Go.Proofs.YtegajbfefhljmaaDoor

open Go.RowKit

attribute [local go_sem ↓] Go.wp_at_zero Go.wp_at_succ

def emptyT : NL := [⟨0, 1, 1, 0, 1, 2⟩, ⟨0, 1, 1, 0, -1, -1⟩, ⟨0, 1, 1, 0, -1, -1⟩]
theorem empty_tree : Tree emptyT 0 [0, 1, 2] :=
  Tree.inner (l := 1) (r := 2) (L := [1]) (R := [2]) (by decide) rfl rfl (Tree.leaf (by decide) rfl rfl) (Tree.leaf (by decide) rfl rfl)
theorem empty_form : InForm emptyT := by
  refine ⟨by decide, ⟨fun i hi => ?_, fun c h1 h2 => ?_⟩, [0, 1, 2], empty_tree, rfl⟩
  · have h3 : i < 3 := hi
    match i, h3 with
    | 0, _ => exact (by decide : NodeOk ⟨0, 1, 1, 0, 1, 2⟩ 3)
    | 1, _ => exact (by decide : NodeOk ⟨0, 1, 1, 0, -1, -1⟩ 3)
    | 2, _ => exact (by decide : NodeOk ⟨0, 1, 1, 0, -1, -1⟩ 3)
  · have h3 : c < 3 := h2
    match c, h1, h3 with
    | 1, _, _ => rfl
    | 2, _, _ => rfl
theorem empty_E : formE emptyT = 0 := formE_of (by decide) empty_form
def emptyX : List UInt8 := [40, 105, 110, 102, 58, 49, 32, 40, 105, 110, 102, 58, 49, 41, 32, 40, 105, 110, 102, 58, 49, 41, 41]
theorem empty_bytes : headL (ndAt emptyT 0) ++ (32 :: ((headL (ndAt emptyT 1) ++ [41]) ++ (32 :: ((headL (ndAt emptyT 2) ++ [41]) ++ [41])))) = emptyX := by kernel_rfl
theorem empty_text : textA emptyT = emptyX :=
  (textA_of empty_E (Txt.inner (l := 1) (r := 2) (by decide) rfl rfl (by decide) (by decide) (Txt.leaf (by decide) rfl rfl) (Txt.leaf (by decide) rfl rfl))).trans empty_bytes
theorem empty_in : NodesIn emptyT := by
  intro i hi
  have h3 : i < 3 := hi
  match i, h3 with
  | 0, _ => exact ⟨⟨by decide, by decide⟩, ⟨by decide, by decide⟩⟩
  | 1, _ => exact ⟨⟨by decide, by decide⟩, ⟨by decide, by decide⟩⟩
  | 2, _ => exact ⟨⟨by decide, by decide⟩, ⟨by decide, by decide⟩⟩
def sampX : List UInt8 := [40, 105, 110, 102, 58, 49, 32, 40, 105, 110, 102, 58, 49, 32, 40, 53, 58, 49, 61, 53, 48, 41, 32, 40, 105, 110, 102, 58, 49, 41, 41, 32, 40, 105, 110, 102, 58, 49, 41, 41]
def sampT : NL := [⟨0, 1, 1, 0, 1, 4⟩, ⟨0, 1, 1, 0, 2, 3⟩, ⟨5, 0, 1, 50, -1, -1⟩, ⟨0, 1, 1, 0, -1, -1⟩, ⟨0, 1, 1, 0, -1, -1⟩]
theorem samp_E : readE sampX = 0 := by kernel_rfl
theorem samp_L : readL sampX = sampT := by kernel_rfl

set_option maxRecDepth 100000 in
theorem empty_any (w : World) : Calls Tryd.prog 10 #[] w fun e w' => e = .returned (.slice (some ⟨w.heap.size, 0, none⟩) 3 3) ∧ w'.ownsRow w.heap.size 33 6 (.slice (some ⟨w.heap.size, 0, none⟩) 3 3) 3 (ndCells emptyT) ∧ Below w.heap.size w w' := by
  go_enter Tryd.func10, Tryd.ntmps10
  go_wp2_with fail
  go_ret
  exact ⟨rfl, World.ownsRow_lit w #[.int .i64 0, .int .i64 1, .int .i64 1, .int .i64 0, .int .i64 1, .int .i64 2, .int .i64 0, .int .i64 1, .int .i64 1, .int .i64 0, .int .i64 (-1), .int .i64 (-1), .int .i64 0, .int .i64 1, .int .i64 1, .int .i64 0, .int .i64 (-1), .int .i64 (-1)] 3 (Nat.le_refl _) (by unfold maxLen; omega) rfl, below_alloc _ _⟩
theorem nd_eql (a0 a1 a2 a3 a4 a5 b0 b1 b2 b3 b4 b5 : Int) (w : World) : (binOp .eql 33 (.agg #[.int .i64 a0, .int .i64 a1, .int .i64 a2, .int .i64 a3, .int .i64 a4, .int .i64 a5]) (.agg #[.int .i64 b0, .int .i64 b1, .int .i64 b2, .int .i64 b3, .int .i64 b4, .int .i64 b5])).run Tryd.prog w = .ok (.bool (ndEq ⟨a0, a1, a2, a3, a4, a5⟩ ⟨b0, b1, b2, b3, b4, b5⟩)) w := by
  have u3 := Tryd.underlying3
  have a3' := Tryd.isAgg3
  have z3 := Tryd.sizeOf3
  have hS : Tryd.prog.underlying 33 = some (.struct (Tryd.prog.fieldsOf 33)) := by kernel_rfl
  have hp : Tryd.prog.stoodInHeld 33 = false := by kernel_rfl
  rw [run_eql_struct, show (10000 : Nat) = 9999 + 1 from rfl, run_equalIn_agg w 9999 33 _ _ hS hp]
  simp only [Program.fieldsOf, Tryd.underlying33]
  go_simp
  unfold ndEq
  by_cases h1 : a0 = b0 <;> by_cases h2 : a1 = b1 <;> by_cases h3 : a2 = b2 <;> by_cases h4 : a3 = b3 <;> by_cases h5 : a4 = b4 <;> by_cases h6 : a5 = b5 <;> simp [h1, h2, h3, h4, h5, h6]

set_option maxRecDepth 100000 in
set_option maxHeartbeats 2000000 in
theorem known_any (w : World) (hlaid : LaidB w.heap.size w) : Calls Tryd.prog 4 #[] w fun e w' => e = .returned (.bool true) ∧ Below w.heap.size w w' := by
  have HL : Hid (LaidB _ _) := hlaid
  have hpe := nd_eql
  have hself : ndEq ⟨5, 0, 1, 50, -1, -1⟩ ⟨5, 0, 1, 50, -1, -1⟩ = true := rfl
  clear hlaid
  go_enter Tryd.func4, Tryd.ntmps4
  go_wp2_with (first | (go_at_call 10; refine (empty_any _).mono ?_; rintro e w1 ⟨rfl, ho1, hb1⟩; have N1 : Hid (NodesAt w1 (some ⟨w.heap.size, 0, none⟩) w.heap.size 0 emptyT) := nodes_of_cells (fun j hj => ho1.cellAt j hj) (owns_lt ho1 _ rfl).2 (by decide); have HB1 : Hid (Below _ _ _) := hb1; have hz1 := hb1.size; clear ho1 hb1) | (go_at_call 6; refine (text_any (some ⟨w.heap.size, 0, none⟩) w.heap.size 0 3 emptyT _ N1.out empty_in (LaidB.tabs (fun w' h' => HL.out w' (HB1.out.trans (h'.mono HB1.out.size))))).mono ?_; rintro e w2 ⟨rfl, hb2⟩; rw [empty_E, empty_text]; have HB2 : Hid (Below _ _ _) := HB1.out.trans (hb2.mono HB1.out.size); have hz2 := HB2.out.size; clear hb2) | (go_at_call 8; refine (read_any sampX _ (by decide) (fun w' h' => HL.out w' (HB2.out.trans (h'.mono HB2.out.size)))).mono ?_; rintro e w3 ⟨v, rfl, ho3, hb3⟩; rw [samp_E]; rw [samp_L] at ho3; obtain ⟨g, cap, rfl, -, hgl, -, -, hcell, -⟩ := owns_some ho3 (by decide); have d0 : w3.cell? ⟨g, 12, none⟩ = some (.int .i64 5) := hcell 12 (by decide); have d1 : w3.cell? ⟨g, 13, none⟩ = some (.int .i64 0) := hcell 13 (by decide); have d2 : w3.cell? ⟨g, 14, none⟩ = some (.int .i64 1) := hcell 14 (by decide); have d3 : w3.cell? ⟨g, 15, none⟩ = some (.int .i64 50) := hcell 15 (by decide); have d4 : w3.cell? ⟨g, 16, none⟩ = some (.int .i64 (-1)) := hcell 16 (by decide); have d5 : w3.cell? ⟨g, 17, none⟩ = some (.int .i64 (-1)) := hcell 17 (by decide); have HB3 : Hid (Below _ _ _) := HB2.out.trans (hb3.mono HB2.out.size); clear hb3 ho3 hcell))
  go_ret
  exact ⟨rfl, HB3.out⟩
end Go.Proofs.YtegajbfefhljmaaDoor

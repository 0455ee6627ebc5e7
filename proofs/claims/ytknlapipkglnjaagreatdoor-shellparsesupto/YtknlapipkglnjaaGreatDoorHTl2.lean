
/- Layer 28: numbersOf, PrintOp, tellOp. -/

import Derived.Test.YtknlapipkglnjaaGreatDoorHTl1

import Derived.Deep.RegionLaw

namespace Go.Proofs.YtknlapipkglnjaaGreatDoor

open Go.RowKit

attribute [local go_sem ↓] Go.wp_at_zero Go.wp_at_succ

/-- Which fields a kind tells. -/
def fldL (k : Nat) : List Nat := if k = 1 ∨ k = 4 ∨ k = 5 ∨ k = 6 then [1] else if k = 2 ∨ k = 3 then [1, 2] else if k = 9 then [1, 3] else []
def OpD.at (o : OpD) (f : Nat) : Int := if f = 1 then o.key else if f = 2 then o.val else o.hi
theorem nums_fld (k : Nat) (o : OpD) (h : o.kind = k) (h1 : 1 ≤ k) (h9 : k ≤ 9) : numsL o = (fldL k).map o.at := by
  rcases (by omega : k = 1 ∨ k = 2 ∨ k = 3 ∨ k = 4 ∨ k = 5 ∨ k = 6 ∨ k = 7 ∨ k = 8 ∨ k = 9) with rfl | rfl | rfl | rfl | rfl | rfl | rfl | rfl | rfl <;> simp [numsL, h, fldL, OpD.at]
theorem fld_le (k : Nat) : ∀ f ∈ fldL k, 1 ≤ f ∧ f ≤ 3 := by
  intro f hf
  unfold fldL at hf
  split at hf
  · simp at hf; omega
  · split at hf
    · simp at hf; omega
    · split at hf
      · simp at hf; omega
      · simp at hf
theorem fld_len (k : Nat) : (fldL k).length ≤ 2 := by
  unfold fldL
  split
  · simp
  · split
    · simp
    · split <;> simp
def NumsAt (w0 w' : World) (k b : Nat) (e : Ending) : Prop := ∃ (base : Option Addr) (g : Nat), e = .returned (.slice base (fldL k).length (fldL k).length) ∧ Below w0.heap.size w0 w' ∧ ((fldL k).length ≠ 0 → base = some ⟨g, 0, none⟩) ∧ ∀ (j f : Nat), (fldL k)[j]? = some f → w'.cell? ⟨g, j, none⟩ = some (.pointer (some ⟨b, f, none⟩))
theorem NumsAt.drew {w w' : World} {k b : Nat} {e : Ending} (h : NumsAt w w' k b e) : NumsAt w w'.drew k b e := by
  obtain ⟨base, g, h1, h2, h3, h4⟩ := h
  exact ⟨base, g, h1, h2.drew, h3, h4⟩
theorem nums_none {w : World} {b : Nat} {k : Nat} (h : fldL k = []) : NumsAt w w k b (.returned (.slice none 0 0)) := ⟨none, 0, by rw [h]; rfl, Below.refl _ _, fun q => by rw [h] at q; exact absurd rfl q, fun j f q => by rw [h] at q; cases q⟩
theorem nums_one {w : World} {b : Nat} {k f : Nat} {t : TypeId} (h : fldL k = [f]) : NumsAt w (w.alloc (.cells #[.pointer (some ⟨b, f, none⟩)] t)) k b (.returned (.slice (some ⟨w.heap.size, 0, none⟩) 1 1)) := by
  refine ⟨_, w.heap.size, by rw [h]; rfl, below_alloc _ _, fun _ => rfl, fun j f' q => ?_⟩
  rw [h] at q
  have hb : (w.alloc (.cells #[.pointer (some ⟨b, f, none⟩)] t)).heap[w.heap.size]? = some (.cells #[.pointer (some ⟨b, f, none⟩)] t) := heap_alloc_at _ _ _ rfl
  rcases j with _ | j
  · simp at q
    subst q
    simp only [World.cell?, hb]
    rfl
  · simp at q
theorem nums_two {w : World} {b : Nat} {k f f2 : Nat} {t : TypeId} (h : fldL k = [f, f2]) : NumsAt w (w.alloc (.cells #[.pointer (some ⟨b, f, none⟩), .pointer (some ⟨b, f2, none⟩)] t)) k b (.returned (.slice (some ⟨w.heap.size, 0, none⟩) 2 2)) := by
  refine ⟨_, w.heap.size, by rw [h]; rfl, below_alloc _ _, fun _ => rfl, fun j f' q => ?_⟩
  rw [h] at q
  have hb : (w.alloc (.cells #[.pointer (some ⟨b, f, none⟩), .pointer (some ⟨b, f2, none⟩)] t)).heap[w.heap.size]? = some (.cells #[.pointer (some ⟨b, f, none⟩), .pointer (some ⟨b, f2, none⟩)] t) := heap_alloc_at _ _ _ rfl
  rcases j with _ | _ | j
  · simp at q
    subst q
    simp only [World.cell?, hb]
    rfl
  · simp at q
    subst q
    simp only [World.cell?, hb]
    rfl
  · simp at q
set_option maxRecDepth 100000 in
set_option maxHeartbeats 4000000 in
theorem numbersOf_any (k b : Nat) (o : OpD) (h1 : 1 ≤ k) (h9 : k ≤ 9) (hk : o.kind = k) (w : World) (hbx : w.heap[b]? = some (.cells #[.int .i64 o.kind, .int .i64 o.key, .int .i64 o.val, .int .i64 o.hi] 39)) :
    Calls Tryz.prog 48 #[.pointer (some ⟨b, 0, none⟩)] w fun e w' => NumsAt w w' k b e := by
  have s0 : w.cell? ⟨b, 0, none⟩ = some (.int .i64 (k : Int)) := by simp [World.cell?, hbx, hk]
  clear hbx hk
  rcases (by omega : k = 1 ∨ k = 2 ∨ k = 3 ∨ k = 4 ∨ k = 5 ∨ k = 6 ∨ k = 7 ∨ k = 8 ∨ k = 9) with rfl | rfl | rfl | rfl | rfl | rfl | rfl | rfl | rfl
  all_goals
    clear h1 h9
    go_enter Tryz.func48, Tryz.ntmps48
    go_wp2_with fail
    try (go_region; go_wp2_with fail)
    all_goals
      go_ret
      first | exact nums_none (by decide) | exact nums_one (by decide) | (refine NumsAt.drew (nums_two ?_); decide)
theorem word_len (k : Int) : (wordL k).length ≤ 8 := by
  unfold wordL
  repeat' split
  all_goals simp
theorem sayL_snoc (n : Int) : ∀ l, sayL (l ++ [n]) = sayL l ++ 32 :: Lib.itoa n
  | [] => by simp [sayL]
  | y :: t => by simp [sayL, sayL_snoc n t]
theorem sayL_len : ∀ l : List Int, (∀ x ∈ l, In64 x) → (sayL l).length ≤ 22 * l.length
  | [], _ => by simp [sayL]
  | x :: t, h => by
    have := itoa_le (h x (by simp))
    have := sayL_len t (fun y hy => h y (by simp [hy]))
    simp [sayL]
    omega
theorem box4 {w z : World} {a b c d : Int} {t : TypeId} (h : Below (w.alloc (.cells #[.int .i64 a, .int .i64 b, .int .i64 c, .int .i64 d] t)).heap.size (w.alloc (.cells #[.int .i64 a, .int .i64 b, .int .i64 c, .int .i64 d] t)) z) (f : Nat) : z.cell? ⟨w.heap.size, f, none⟩ = #[Value.int .i64 a, .int .i64 b, .int .i64 c, .int .i64 d][f]? := by
  have hb := h.block w.heap.size (by simp)
  rw [heap_alloc_at _ _ _ rfl] at hb
  simp only [World.cell?, hb]
  rfl
theorem fld_cell {o : OpD} {f : Nat} (h : 1 ≤ f ∧ f ≤ 3) : #[Value.int .i64 o.kind, .int .i64 o.key, .int .i64 o.val, .int .i64 o.hi][f]? = some (.int .i64 (o.at f)) := by
  rcases (by omega : f = 1 ∨ f = 2 ∨ f = 3) with rfl | rfl | rfl <;> simp [OpD.at]
theorem at_in {o : OpD} (h : OpIn o) (f : Nat) : In64 (o.at f) := by
  unfold OpD.at
  split
  · exact h.2.1
  · split
    · exact h.2.2.1
    · exact h.2.2.2
set_option maxRecDepth 100000 in
set_option maxHeartbeats 4000000 in
theorem printOp_k (k : Nat) (ky vl hh : Int) (k1 : 1 ≤ k) (k9 : k ≤ 9) (hin : OpIn ⟨k, ky, vl, hh⟩) (w : World) (hl : HLB w.heap.size w) :
    Calls Tryz.prog 20 #[.agg #[.int .i64 k, .int .i64 ky, .int .i64 vl, .int .i64 hh]] w fun e w' => e = .returned (.tuple #[.string ⟨(wordL k ++ sayL ((fldL k).map (OpD.at ⟨k, ky, vl, hh⟩))).toArray⟩, .int .i64 0]) ∧ Below w.heap.size w w' := by
  have HL : Hid (HLB _ _) := hl
  have HI : Hid (∀ f, In64 (OpD.at ⟨k, ky, vl, hh⟩ f)) := fun f => at_in hin f
  clear hl hin
  have KE : Hid ((if 1 ≤ (k : Int) ∧ (k : Int) ≤ 9 then (0 : Int) else 5) = 0) := if_pos (by omega)
  have i0 : (0 : Int) ≤ (k : Int) := Int.natCast_nonneg _
  have i1 : (k : Int) < 10 := by omega
  have B0 : Hid (Below w.heap.size w (w.alloc (.cells #[.int .i64 k, .int .i64 ky, .int .i64 vl, .int .i64 hh] 39))) := below_alloc _ _
  have hnm := (HL.out _ B0.out).nm k (by omega)
  have BX : Hid ((w.alloc (.cells #[.int .i64 k, .int .i64 ky, .int .i64 vl, .int .i64 hh] 39)).heap[w.heap.size]? = some (.cells #[.int .i64 k, .int .i64 ky, .int .i64 vl, .int .i64 hh] 39)) := heap_alloc_at _ _ _ rfl
  have HF : Hid (∀ f ∈ fldL k, #[Value.int .i64 k, .int .i64 ky, .int .i64 vl, .int .i64 hh][f]? = some (.int .i64 (OpD.at ⟨k, ky, vl, hh⟩ f))) := fun f hf => fld_cell (o := ⟨k, ky, vl, hh⟩) (fld_le k f hf)
  have NB : Hid (∀ W : World, W.heap[w.heap.size]? = some (.cells #[.int .i64 k, .int .i64 ky, .int .i64 vl, .int .i64 hh] 39) → Calls Tryz.prog 48 #[.pointer (some ⟨w.heap.size, 0, none⟩)] W fun e w' => NumsAt W w' k w.heap.size e) := fun W hW => numbersOf_any k w.heap.size ⟨k, ky, vl, hh⟩ k1 k9 rfl W hW
  have hF2 := fld_len k
  obtain ⟨F, hFe⟩ : ∃ F, F = fldL k := ⟨_, rfl⟩
  have HFE : Hid (fldL k = F) := hFe.symm
  rw [← hFe] at HF hF2
  obtain ⟨at', hat⟩ : ∃ at' : Nat → Int, at' = OpD.at ⟨k, ky, vl, hh⟩ := ⟨_, rfl⟩
  rw [← hFe, ← hat]
  rw [← hat] at HF HI
  obtain ⟨X, hX⟩ : ∃ X, X = wordL k := ⟨_, rfl⟩
  have wl := word_len k
  rw [← hX] at wl hnm ⊢
  clear hX hat hFe
  go_enter Tryz.func20, Tryz.ntmps20
  go_wp2_with (first | (go_at_call 45; refine (kind_any _ _).mono ?_; rintro e w1 ⟨rfl, rfl⟩; rw [KE.out]) | (go_at_call 48; refine (NB.out _ BX.out).mono ?_; rintro e w1 ⟨base, g, rfl, hb1, hbase, hcl⟩; rw [HFE.out] at hbase hcl ⊢; have B1 : Hid (Below _ _ _) := hb1; have HBs : Hid _ := hbase; have HCl : Hid (∀ (j f : Nat), F[j]? = some f → w1.cell? ⟨g, j, none⟩ = some (.pointer (some ⟨w.heap.size, f, none⟩))) := hcl; clear hb1 hbase hcl))
  go_loopw [5, 20] (fun vl vi wr => ∃ j : Nat, j ≤ F.length ∧ vi = .int .i64 j ∧ vl = .string ⟨(X ++ sayL ((F.take j).map at')).toArray⟩ ∧ Below w1.heap.size w1 wr) (fun _ vi _ => F.length - (intOf vi).toNat)
  case atStart => exact ⟨0, Nat.zero_le _, rfl, by simp [sayL], Below.refl _ _⟩
  case round =>
    obtain ⟨j, hj, rfl, rfl, hbr⟩ := hrel
    have BR : Hid (Below w1.heap.size w1 _) := hbr
    clear hbr
    have hL : (X ++ sayL ((F.take j).map at')).length ≤ 60 := by
      have h1 := sayL_len ((F.take j).map at') (fun x hx => by obtain ⟨f, -, rfl⟩ := List.mem_map.1 hx; exact HI.out f)
      simp at h1 ⊢
      omega
    by_cases hjn : j < F.length
    · obtain ⟨f, hf⟩ : ∃ f, F[j]? = some f := ⟨F[j], List.getElem?_eq_getElem hjn⟩
      have j0 : (0 : Int) ≤ (j : Int) := Int.natCast_nonneg _
      have j1 : (j : Int) < (F.length : Int) := by omega
      obtain rfl := HBs.out (by omega)
      have hg : g < w1.heap.size := World.block_lt_of_cell? w1 _ (HCl.out j f hf)
      have c1 : wr.cell? ⟨g, j, none⟩ = some (.pointer (some ⟨w.heap.size, f, none⟩)) := (BR.out.cell (p := ⟨g, j, none⟩) hg).trans (HCl.out j f hf)
      have c2 : wr.cell? ⟨w.heap.size, f, none⟩ = some (.int .i64 (at' f)) := by
        rw [box4 (B1.out.trans (BR.out.mono B1.out.size)) f]
        exact HF.out f (List.mem_of_getElem? hf)
      have HS : Hid (X ++ sayL ((F.take (j + 1)).map at') = (X ++ sayL ((F.take j).map at')) ++ 32 :: Lib.itoa (at' f)) := by
        show _ = _
        rw [List.take_add_one, hf]
        simp [sayL_snoc]
      have lx := itoa_le (HI.out f)
      have BW : Hid (Below w.heap.size w wr) := B0.out.trans ((B1.out.trans (BR.out.mono B1.out.size)).mono (by simp))
      have IX : Hid (In64 (at' f)) := HI.out f
      generalize X ++ sayL ((F.take j).map at') = L at *
      clear hf hjn
      go_wp2_with (first | (go_at_call 19; refine (itoaB _ IX.out _ (HL.out.on BW.out)).mono ?_; rintro e w2 ⟨rfl, hb2⟩; have B2 : Hid (Below _ _ _) := BR.out.trans (hb2.mono BR.out.size); clear hb2))
      refine ⟨⟨j + 1, by omega, by go_num, ?_, B2.out⟩, by simp [intOf]; omega⟩
      rw [HS.out, show (⟨#[32]⟩ : ByteArray) = ⟨[32].toArray⟩ from rfl, ba_app, ba_app]
      rfl
    · obtain rfl : j = F.length := by omega
      have HT : Hid (F.take F.length = F) := List.take_length
      rw [HT.out] at hL ⊢
      clear hjn
      go_wp2_with fail
      go_ret2
      exact ⟨rfl, B0.out.trans ((B1.out.trans (BR.out.mono B1.out.size)).mono (by simp))⟩
theorem printOp_any (o : OpD) (hin : OpIn o) (w : World) (hl : HLB w.heap.size w) :
    Calls Tryz.prog 20 #[.agg #[.int .i64 o.kind, .int .i64 o.key, .int .i64 o.val, .int .i64 o.hi]] w fun e w' => e = .returned (.tuple #[.string ⟨(opL o).toArray⟩, .int .i64 (opE o)]) ∧ Below w.heap.size w w' := by
  by_cases hk : 1 ≤ o.kind ∧ o.kind ≤ 9
  · obtain ⟨k0, ky, vl, hh⟩ := o
    obtain ⟨k, rfl⟩ : ∃ k : Nat, k0 = k := ⟨k0.toNat, by have := hk.1; simp at this ⊢; omega⟩
    have k1 : 1 ≤ k := by have := hk.1; simp at this; omega
    have k9 : k ≤ 9 := by have := hk.2; simp at this; omega
    have e1 : opL ⟨k, ky, vl, hh⟩ = wordL k ++ sayL ((fldL k).map (OpD.at ⟨k, ky, vl, hh⟩)) := by unfold opL; rw [if_pos hk, nums_fld k _ rfl k1 k9]
    have e2 : opE ⟨k, ky, vl, hh⟩ = 0 := by unfold opE; rw [if_pos hk]
    rw [e1, e2]
    exact printOp_k k ky vl hh k1 k9 hin w hl
  · have HE : Hid (opL o = [] ∧ opE o = 5) := ⟨by unfold opL; rw [if_neg hk], by unfold opE; rw [if_neg hk]⟩
    have KE : Hid ((if 1 ≤ o.kind ∧ o.kind ≤ 9 then (0 : Int) else 5) = 5) := if_neg hk
    clear hk
    go_enter Tryz.func20, Tryz.ntmps20
    go_wp2_with (first | (go_at_call 45; refine (kind_any _ _).mono ?_; rintro e w1 ⟨rfl, rfl⟩; rw [KE.out]))
    go_ret2
    rw [HE.out.1, HE.out.2]
    exact ⟨rfl, below_alloc _ _⟩
theorem opL_len {o : OpD} (h : OpIn o) : (opL o).length ≤ 60 := by
  unfold opL
  split
  · have h1 := word_len o.kind
    have h2 := sayL_len (numsL o) (fun x hx => by
      unfold numsL at hx
      split at hx
      · simp at hx; subst hx; exact h.2.1
      · split at hx
        · simp at hx; rcases hx with rfl | rfl
          · exact h.2.1
          · exact h.2.2.1
        · split at hx
          · simp at hx; rcases hx with rfl | rfl
            · exact h.2.1
            · exact h.2.2.2
          · simp at hx)
    have h3 : (numsL o).length ≤ 2 := by
      unfold numsL
      split
      · simp
      · split
        · simp
        · split <;> simp
    simp
    omega
  · simp
theorem tellOp_len {o : OpD} (h : OpIn o) : (tellOpL o).length ≤ 60 := by
  unfold tellOpL
  split
  · exact opL_len h
  · have := itoa_le h.1
    simp
    omega
set_option maxRecDepth 100000 in
set_option maxHeartbeats 4000000 in
theorem tellOp_any (o : OpD) (hin : OpIn o) (w : World) (hl : HLB w.heap.size w) :
    Calls Tryz.prog 40 #[.agg #[.int .i64 o.kind, .int .i64 o.key, .int .i64 o.val, .int .i64 o.hi]] w fun e w' => e = .returned (.string ⟨(tellOpL o).toArray⟩) ∧ Below w.heap.size w w' := by
  have HL : Hid (HLB _ _) := hl
  have HI : Hid (OpIn o) := hin
  clear hl hin
  have B0 : Hid (Below w.heap.size w (w.alloc (.cells #[.int .i64 o.kind, .int .i64 o.key, .int .i64 o.val, .int .i64 o.hi] 39))) := below_alloc _ _
  by_cases hk : 1 ≤ o.kind ∧ o.kind ≤ 9
  · have HE : Hid (tellOpL o = opL o ∧ opE o = 0) := ⟨by unfold tellOpL; rw [if_pos hk], by unfold opE; rw [if_pos hk]⟩
    clear hk
    go_enter Tryz.func40, Tryz.ntmps40
    go_wp2_with (first | (go_at_call 20; refine (printOp_any o HI.out _ (HL.out.on B0.out)).mono ?_; rintro e w1 ⟨rfl, hb1⟩; rw [HE.out.2]; have B1 : Hid (Below _ _ _) := B0.out.trans (hb1.mono (by simp)); clear hb1))
    go_ret
    rw [HE.out.1]
    exact ⟨rfl, B1.out⟩
  · have HE : Hid (tellOpL o = [107, 105, 110, 100, 32] ++ Lib.itoa o.kind ∧ opE o = 5) := ⟨by unfold tellOpL; rw [if_neg hk], by unfold opE; rw [if_neg hk]⟩
    have lx := itoa_le HI.out.1
    clear hk
    go_enter Tryz.func40, Tryz.ntmps40
    go_wp2_with (first | (go_at_call 20; refine (printOp_any o HI.out _ (HL.out.on B0.out)).mono ?_; rintro e w1 ⟨rfl, hb1⟩; rw [HE.out.2]; have c0 := box4 hb1 0; simp only [List.getElem?_toArray, List.getElem?_cons_zero] at c0; have B1 : Hid (Below w.heap.size w w1) := B0.out.trans (hb1.mono (by simp)); clear hb1) | (go_at_call 19; refine (itoaB _ HI.out.1 _ (HL.out.on B1.out)).mono ?_; rintro e w2 ⟨rfl, hb2⟩; have B2 : Hid (Below _ _ _) := B1.out.trans (hb2.mono B1.out.size); clear hb2))
    go_ret
    rw [HE.out.1]
    refine ⟨?_, B2.out⟩
    show Ending.returned (.string (⟨#[107, 105, 110, 100, 32]⟩ ++ ⟨(Lib.itoa o.kind).toArray⟩)) = _
    rw [show (⟨#[107, 105, 110, 100, 32]⟩ : ByteArray) = ⟨[107, 105, 110, 100, 32].toArray⟩ from rfl, ba_app]
end Go.Proofs.YtknlapipkglnjaaGreatDoor


/- Layer 16: the reader's tree, and Read. -/

import Derived.Test.YtegajbfefhljmaaDoorTRd6

namespace Go.Proofs.YtegajbfefhljmaaDoor

open Go.RowKit

attribute [local go_sem ↓] Go.wp_at_zero Go.wp_at_succ

theorem trim_lt {l p : List UInt8} (h : Lib.hasPrefix l p = true) (hp : 0 < p.length) : (Lib.trimPrefix l p).length < l.length := by
  have hl : p.length ≤ l.length := (List.isPrefixOf_iff_prefix.1 h).length_le
  unfold Lib.trimPrefix
  rw [if_pos h, List.length_drop]
  omega
theorem beginP_lt {l l' : List UInt8} {d : NdD} (h : beginP l = some (d, l')) : l'.length < l.length := by
  unfold beginP at h
  split at h
  · rename_i hp
    have h0 := trim_lt hp (by simp)
    split at h
    · rename_i d1 l1 hk
      have h1 := keyP_le hk
      split at h
      · have h2 := weightP_le h
        have h3 := trim_le l1 [58]
        omega
      · cases h
    · cases h
  · cases h
theorem valueP_le {l l' : List UInt8} {N N' : NL} (h : valueP l N = some (N', l')) : l'.length ≤ l.length ∧ N'.length = N.length := by
  unfold valueP at h
  split at h
  · obtain ⟨x, _, he⟩ := Option.map_eq_some_iff.1 h
    cases he
    exact ⟨Nat.le_trans (numR_le _) (trim_le _ _), by simp⟩
  · cases h
theorem nodeP_lt {l l' : List UInt8} {N N' : NL} {O O' : List Nat} {i : Bool} (h : nodeP l N O = some (i, l', N', O')) : l'.length < l.length ∧ N'.length = N.length + 1 ∧ (O' = O ∨ O' = O ++ [N.length]) := by
  unfold nodeP at h
  split at h
  · cases h
  · rename_i d l1 hb
    have h0 := beginP_lt hb
    split at h
    · cases h
      have := trim_le l1 [32]
      exact ⟨by omega, addP_length _ _ _, Or.inr rfl⟩
    · split at h
      · split at h
        · cases h
          have := trim_le l1 [41]
          exact ⟨by omega, addP_length _ _ _, Or.inl rfl⟩
        · cases h
      · split at h
        · rename_i N2 l2 hv
          have h1 := valueP_le hv
          rw [addP_length] at h1
          split at h
          · cases h
            have := trim_le l2 [41]
            exact ⟨by omega, h1.2, Or.inl rfl⟩
          · cases h
        · cases h
theorem closeP_le : ∀ {k : Nat} {l l' : List UInt8} {N : NL} {O O' : List Nat} {i : Bool}, closeP k l N O = some (i, l', O') → l'.length ≤ l.length ∧ ∀ u ∈ O', u ∈ O
  | 0, l, l', N, O, O', i, h => by cases h; exact ⟨Nat.le_refl _, fun u q => q⟩
  | k + 1, l, l', N, O, O', i, h => by
    unfold closeP at h
    split at h
    · split at h
      · cases h; exact ⟨trim_le _ _, fun u q => List.mem_of_mem_take q⟩
      · cases h
    · split at h
      · obtain ⟨h1, h2⟩ := closeP_le h
        exact ⟨Nat.le_trans h1 (trim_le _ _), fun u q => List.mem_of_mem_take (h2 u q)⟩
      · cases h
theorem closeP_len : ∀ {k : Nat} {l l' : List UInt8} {N : NL} {O O' : List Nat} {i : Bool}, closeP k l N O = some (i, l', O') → O'.length ≤ O.length
  | 0, l, l', N, O, O', i, h => by cases h; exact Nat.le_refl _
  | k + 1, l, l', N, O, O', i, h => by
    unfold closeP at h
    split at h
    · split at h
      · cases h; simp; omega
      · cases h
    · split at h
      · have := closeP_len h
        simp at this
        omega
      · cases h
def restLen (w : World) (R : Nat) : Nat := match w.cell? ⟨R, 0, none⟩ with
  | some (.string s) => s.size
  | _ => 0
theorem RdAt.restLen {w : World} {B R : Nat} {l : List UInt8} {nv ov : Value} {N : NL} {O : List Nat} (h : RdAt w B R l nv ov N O) : restLen w R = l.length := by
  unfold Go.Proofs.YtegajbfefhljmaaDoor.restLen
  rw [h.cells.1]
  simp [ByteArray.size]

/-- Where the reader's loop stands. -/
structure TrS (w wr : World) (B R m : Nat) (l0 l : List UInt8) (nv ov : Value) (N : NL) (O : List Nat) : Prop where
  rd : RdAt wr B R l nv ov N O
  below : Below B w wr
  sum : N.length + l.length ≤ m
  opn : O.length ≤ N.length
  ob : ∀ u ∈ O, u < N.length

set_option maxRecDepth 100000 in
set_option maxHeartbeats 4000000 in
theorem tree_any (B R : Nat) (l : List UInt8) (nv ov : Value) (w : World) (h : RdAt w B R l nv ov [] []) (hl : l.length ≤ 8000000) (hB : B ≤ w.heap.size) (hlaid : LaidB B w) :
    Calls Tryd.prog 20 #[.pointer (some ⟨R, 0, none⟩)] w fun e w' => e = .returned (.bool (treeP (l.length + 1) l [] []).isSome) ∧ Below B w w' ∧ (∀ l' N', treeP (l.length + 1) l [] [] = some (l', N') → ∃ nv' ov' O', RdAt w' B R l' nv' ov' N' O') := by
  have HL : Hid (LaidB _ _) := hlaid
  have X0 : Hid (TrS w w B R l.length l l nv ov [] []) := ⟨h, Below.refl _ _, by simp, Nat.le_refl _, fun u q => by cases q⟩
  clear h hlaid
  go_enter Tryd.func20, Tryd.ntmps20
  go_wp2_with fail
  go_loopw [3] (fun v wr => ∃ (b : Bool) (l1 : List UInt8) (nv1 ov1 : Value) (N1 : NL) (O1 : List Nat), v = .bool b ∧ TrS w wr B R l.length l l1 nv1 ov1 N1 O1 ∧ (b = true → ∃ f, l1.length < f ∧ treeP (l.length + 1) l [] [] = treeP f l1 N1 O1) ∧ (b = false → treeP (l.length + 1) l [] [] = some (l1, N1))) (fun _ wr => restLen wr R)
  case atStart => exact ⟨true, l, nv, ov, [], [], rfl, X0.out, fun _ => ⟨l.length + 1, by omega, rfl⟩, fun q => by cases q⟩
  case round =>
    obtain ⟨b, l1, nv1, ov1, N1, O1, rfl, hT, ht, hf⟩ := hrel
    have X1 : Hid (TrS _ _ _ _ _ _ _ _ _ _ _) := hT
    have hwz := hT.below.size
    have hs := hT.sum
    have ho := hT.opn
    clear hT
    cases b with
    | false =>
      have F : Hid _ := hf rfl
      clear hf ht
      go_wp2_with fail
      go_ret
      exact ⟨by rw [F.out]; rfl, X1.out.below, fun l' N' he => by rw [F.out] at he; cases he; exact ⟨_, _, _, X1.out.rd⟩⟩
    | true =>
      obtain ⟨f, hfl, hff⟩ := ht rfl
      cases f with
      | zero => omega
      | succ f =>
      have HF : Hid (treeP (l.length + 1) l [] [] = match nodeP l1 N1 O1 with
        | none => none
        | some (true, l1, N1, O1) => treeP f l1 N1 O1
        | some (false, l1, N1, O1) => match closeP O1.length l1 N1 O1 with
          | none => none
          | some (true, l2, O2) => treeP f l2 N1 O2
          | some (false, l2, _) => some (l2, N1)) := hff
      have HRL : Hid _ := X1.out.rd.restLen
      clear ht hf hff
      cases hn : nodeP l1 N1 O1 with
      | none =>
        have F : Hid (treeP (l.length + 1) l [] [] = none) := by show treeP _ _ _ _ = _; rw [HF.out, hn]
        have HN : Hid _ := hn
        clear hn
        go_wp2_with (first | (go_at_call 26; refine (node_any B R l1 nv1 ov1 N1 O1 _ X1.out.rd (by omega) (by omega) (by omega) X1.out.ob (by omega) (LaidB.on HL.out X1.out.below)).mono ?_; rintro e w1 ⟨inn, rfl, hb, hr⟩; rw [HN.out]; simp only [Option.isSome_none]; have HB1 : Hid (Below B w w1) := X1.out.below.trans hb; clear hb hr))
        go_ret
        exact ⟨by rw [F.out]; rfl, HB1.out, fun l' N' he => by rw [F.out] at he; cases he⟩
      | some x =>
      obtain ⟨i, l2, N2, O2⟩ := x
      obtain ⟨q1, q2, q3⟩ := nodeP_lt hn
      have hob2 : ∀ u ∈ O2, u < N2.length := by
        intro u hu
        rcases q3 with rfl | rfl
        · have := X1.out.ob u hu; omega
        · rcases List.mem_append.1 hu with r | r
          · have := X1.out.ob u r; omega
          · simp at r; omega
      have hol2 : O2.length ≤ N2.length := by
        rcases q3 with rfl | rfl
        · omega
        · simp; omega
      have HOB2 : Hid _ := hob2
      have HN : Hid _ := hn
      clear q3 hob2
      cases i with
      | true =>
        have F : Hid (treeP (l.length + 1) l [] [] = treeP f l2 N2 O2) := by show treeP _ _ _ _ = _; rw [HF.out, hn]
        clear hn
        go_wp2_with (first | (go_at_call 26; refine (node_any B R l1 nv1 ov1 N1 O1 _ X1.out.rd (by omega) (by omega) (by omega) X1.out.ob (by omega) (LaidB.on HL.out X1.out.below)).mono ?_; rintro e w1 ⟨inn, rfl, hb, hr⟩; obtain ⟨rfl, nv2, ov2, hr2⟩ := hr _ _ _ _ HN.out; rw [HN.out]; simp only [Option.isSome_some]; have HB1 : Hid (Below B w w1) := X1.out.below.trans hb; have HR2 : Hid (RdAt _ _ _ _ _ _ _ _) := hr2; clear hb hr hr2))
        refine ⟨⟨true, l2, nv2, ov2, N2, O2, rfl, ⟨HR2.out, HB1.out, by omega, hol2, HOB2.out⟩, fun _ => ⟨f, by omega, F.out⟩, fun q => by cases q⟩, ?_⟩
        rw [HR2.out.restLen, HRL.out]
        omega
      | false =>
        cases hc : closeP O2.length l2 N2 O2 with
        | none =>
          have F : Hid (treeP (l.length + 1) l [] [] = none) := by show treeP _ _ _ _ = _; rw [HF.out, hn]; simp only; rw [hc]
          have HC : Hid _ := hc
          clear hn hc
          go_wp2_with (first | (go_at_call 26; refine (node_any B R l1 nv1 ov1 N1 O1 _ X1.out.rd (by omega) (by omega) (by omega) X1.out.ob (by omega) (LaidB.on HL.out X1.out.below)).mono ?_; rintro e w1 ⟨inn, rfl, hb, hr⟩; obtain ⟨rfl, nv2, ov2, hr2⟩ := hr _ _ _ _ HN.out; rw [HN.out]; simp only [Option.isSome_some]; have HB1 : Hid (Below B w w1) := X1.out.below.trans hb; have HR2 : Hid (RdAt _ _ _ _ _ _ _ _) := hr2; have hw1 := hb.size; clear hb hr hr2) | (go_at_call 27; refine (close_any B R l2 nv2 ov2 N2 O2 _ HR2.out (by omega) HOB2.out (by omega)).mono ?_; rintro e w2 ⟨m, rfl, hb, hr⟩; rw [HC.out]; simp only [Option.isSome_none]; have HB2 : Hid (Below B w w2) := HB1.out.trans hb; clear hb hr))
          go_ret
          exact ⟨by rw [F.out]; rfl, HB2.out, fun l' N' he => by rw [F.out] at he; cases he⟩
        | some y =>
        obtain ⟨m, l3, O3⟩ := y
        obtain ⟨p1, p2⟩ := closeP_le hc
        have p3 := closeP_len hc
        have HOB3 : Hid (∀ u ∈ O3, u < N2.length) := fun u hu => HOB2.out u (p2 u hu)
        have HC : Hid _ := hc
        have FT : Hid (m = true → treeP (l.length + 1) l [] [] = treeP f l3 N2 O3) := fun q => by rw [HF.out, hn]; simp only; rw [hc, q]
        have FF : Hid (m = false → treeP (l.length + 1) l [] [] = some (l3, N2)) := fun q => by rw [HF.out, hn]; simp only; rw [hc, q]
        clear hn hc p2
        go_wp2_with (first | (go_at_call 26; refine (node_any B R l1 nv1 ov1 N1 O1 _ X1.out.rd (by omega) (by omega) (by omega) X1.out.ob (by omega) (LaidB.on HL.out X1.out.below)).mono ?_; rintro e w1 ⟨inn, rfl, hb, hr⟩; obtain ⟨rfl, nv2, ov2, hr2⟩ := hr _ _ _ _ HN.out; rw [HN.out]; simp only [Option.isSome_some]; have HB1 : Hid (Below B w w1) := X1.out.below.trans hb; have HR2 : Hid (RdAt _ _ _ _ _ _ _ _) := hr2; have hw1 := hb.size; clear hb hr hr2) | (go_at_call 27; refine (close_any B R l2 nv2 ov2 N2 O2 _ HR2.out (by omega) HOB2.out (by omega)).mono ?_; rintro e w2 ⟨m', rfl, hb, hr⟩; obtain ⟨rfl, ov3, hr3⟩ := hr _ _ _ HC.out; rw [HC.out]; simp only [Option.isSome_some]; have HB2 : Hid (Below B w w2) := HB1.out.trans hb; have HR3 : Hid (RdAt _ _ _ _ _ _ _ _) := hr3; clear hb hr hr3))
        refine ⟨⟨m', l3, nv2, ov3, N2, O3, rfl, ⟨HR3.out, HB2.out, by omega, by omega, HOB3.out⟩, fun q => ⟨f, by omega, FT.out q⟩, FF.out⟩, ?_⟩
        rw [HR3.out.restLen, HRL.out]
        omega

set_option maxRecDepth 100000 in
set_option maxHeartbeats 2000000 in
theorem read_any (l : List UInt8) (w : World) (hl : l.length ≤ 9223372036854775807) (hlaid : LaidB w.heap.size w) :
    Calls Tryd.prog 8 #[.string ⟨l.toArray⟩] w fun e w' => ∃ v, e = .returned (.tuple #[v, .int .i64 (readE l)]) ∧ w'.ownsRow w.heap.size 33 6 v (readL l).length (ndCells (readL l)) ∧ Below w.heap.size w w' := by
  have HL : Hid (LaidB _ _) := hlaid
  have hsz : (⟨l.toArray⟩ : ByteArray).size = l.length := by simp [ByteArray.size]
  clear hlaid
  rcases Nat.lt_or_ge 8000000 l.length with hb | hb
  · have F : Hid (readE l = 2) := by show readE l = 2; unfold readE; rw [if_pos hb]
    have G : Hid (readL l = []) := by show readL l = []; unfold readL; rw [if_pos hb]
    have hb' : (8000000 : Int) < (l.length : Int) := by omega
    go_enter Tryd.func8, Tryd.ntmps8
    go_wp2_with fail
    go_ret2
    exact ⟨_, by rw [F.out]; rfl, by rw [G.out]; exact World.ownsRow_nil _ _ _ _, Below.refl _ _⟩
  · have hb' : (l.length : Int) ≤ 8000000 := by omega
    have HE : Hid (readE l = rdE (treeP (l.length + 1) l [] [])) := by show readE l = _; unfold readE; rw [if_neg (by omega)]
    have HG : Hid (readL l = rdL (treeP (l.length + 1) l [] [])) := by show readL l = _; unfold readL; rw [if_neg (by omega)]
    have HR0 : Hid (RdAt (w.alloc (.cells #[.string ⟨l.toArray⟩, .slice none 0 0, .slice none 0 0] 46)) w.heap.size w.heap.size l (.slice none 0 0) (.slice none 0 0) [] []) := ⟨Nat.le_refl _, heap_alloc_at _ _ _ rfl, World.ownsRow_nil _ _ _ _, World.ownsRow_nil _ _ _ _⟩
    have HB0 : Hid (Below w.heap.size w (w.alloc (.cells #[.string ⟨l.toArray⟩, .slice none 0 0, .slice none 0 0] 46))) := below_alloc _ _
    cases ht : treeP (l.length + 1) l [] [] with
    | none =>
      have F : Hid (readE l = 7) := by show readE l = 7; rw [HE.out, ht]; rfl
      have G : Hid (readL l = []) := by show readL l = []; rw [HG.out, ht]; rfl
      have HT : Hid _ := ht
      clear ht
      go_enter Tryd.func8, Tryd.ntmps8
      go_wp2_with (first | (go_at_call 20; refine (tree_any w.heap.size w.heap.size l _ _ _ HR0.out (by omega) (by simp) (LaidB.on HL.out HB0.out)).mono ?_; rintro e w1 ⟨rfl, hb1, hr⟩; rw [HT.out]; simp only [Option.isSome_none]; have HB1 : Hid (Below w.heap.size w w1) := HB0.out.trans hb1; clear hb1 hr))
      go_ret2
      exact ⟨_, by rw [F.out]; rfl, by rw [G.out]; exact World.ownsRow_nil _ _ _ _, HB1.out⟩
    | some x =>
    obtain ⟨l', N'⟩ := x
    have HT : Hid _ := ht
    cases l' with
    | cons ch l' =>
      have F : Hid (readE l = 7) := by show readE l = 7; rw [HE.out, ht]; rfl
      have G : Hid (readL l = []) := by show readL l = []; rw [HG.out, ht]; rfl
      clear ht
      go_enter Tryd.func8, Tryd.ntmps8
      go_wp2_with (first | (go_at_call 20; refine (tree_any w.heap.size w.heap.size l _ _ _ HR0.out (by omega) (by simp) (LaidB.on HL.out HB0.out)).mono ?_; rintro e w1 ⟨rfl, hb1, hr⟩; obtain ⟨nv1, ov1, O1, hr1⟩ := hr _ _ HT.out; rw [HT.out]; simp only [Option.isSome_some]; have HB1 : Hid (Below w.heap.size w w1) := HB0.out.trans hb1; obtain ⟨c0, c1, c2, -, -, -⟩ := hr1.cells; have hlt := hr1.lt; clear hb1 hr hr1))
      go_ret2
      exact ⟨_, by rw [F.out]; rfl, by rw [G.out]; exact World.ownsRow_nil _ _ _ _, HB1.out⟩
    | nil =>
      by_cases hN : 100000 < N'.length
      · have F : Hid (readE l = 2) := by show readE l = 2; rw [HE.out, ht]; simp only [rdE]; rw [if_pos hN]
        have G : Hid (readL l = []) := by show readL l = []; rw [HG.out, ht]; simp only [rdL]; rw [if_pos hN]
        have hN' : (100000 : Int) < (N'.length : Int) := by omega
        clear ht
        go_enter Tryd.func8, Tryd.ntmps8
        go_wp2_with (first | (go_at_call 20; refine (tree_any w.heap.size w.heap.size l _ _ _ HR0.out (by omega) (by simp) (LaidB.on HL.out HB0.out)).mono ?_; rintro e w1 ⟨rfl, hb1, hr⟩; obtain ⟨nv1, ov1, O1, hr1⟩ := hr _ _ HT.out; obtain ⟨na, nc, rfl, -⟩ := own_form hr1.hN; rw [HT.out]; simp only [Option.isSome_some]; have HB1 : Hid (Below w.heap.size w w1) := HB0.out.trans hb1; obtain ⟨c0, c1, c2, -, -, -⟩ := hr1.cells; have hlt := hr1.lt; clear hb1 hr hr1))
        go_ret2
        exact ⟨_, by rw [F.out]; rfl, by rw [G.out]; exact World.ownsRow_nil _ _ _ _, HB1.out⟩
      · have F : Hid (readE l = 0) := by show readE l = 0; rw [HE.out, ht]; simp only [rdE]; rw [if_neg hN]
        have G : Hid (readL l = N') := by show readL l = N'; rw [HG.out, ht]; simp only [rdL]; rw [if_neg hN]
        have hN' : (N'.length : Int) ≤ 100000 := by omega
        clear ht
        go_enter Tryd.func8, Tryd.ntmps8
        go_wp2_with (first | (go_at_call 20; refine (tree_any w.heap.size w.heap.size l _ _ _ HR0.out (by omega) (by simp) (LaidB.on HL.out HB0.out)).mono ?_; rintro e w1 ⟨rfl, hb1, hr⟩; obtain ⟨nv1, ov1, O1, hr1⟩ := hr _ _ HT.out; obtain ⟨na, nc, rfl, -⟩ := own_form hr1.hN; rw [HT.out]; simp only [Option.isSome_some]; have HB1 : Hid (Below w.heap.size w w1) := HB0.out.trans hb1; obtain ⟨c0, c1, c2, -, -, -⟩ := hr1.cells; have hlt := hr1.lt; have HON : Hid (World.ownsRow _ _ _ _ _ _ _) := hr1.hN; clear hb1 hr hr1))
        go_ret2
        exact ⟨_, by rw [F.out]; rfl, by rw [G.out]; exact HON.out, HB1.out⟩
end Go.Proofs.YtegajbfefhljmaaDoor

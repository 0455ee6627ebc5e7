
/- Layer 5: rows of any values; make; the reference's Check. -/

import Derived.Test.YtcphajjonecmbaaDoorERef2

import Derived.Laws.MakeOwn

namespace Go.Proofs.YtcphajjonecmbaaDoor

open Go.RowKit

attribute [local go_sem ↓] Go.wp_at_zero Go.wp_at_succ

/-- A 'make' of n elements whose zero is known by the program's table. -/
theorem run_make_known {P : Program} (t e : TypeId) (z : Value) (sz bytes : Nat) (ht : P.underlying t = some (.slice e)) (hinfo : (P.info? e).map (fun i => (i.zero, i.size, i.bytes)) = some (some z, sz, bytes)) (n : Nat) (hn : bytes * n ≤ 281474976710656) (h63 : n ≤ 9223372036854775807) (w : World) :
    (Instr.makeSlice t (.int .i64 (n : Int)) (.int .i64 (n : Int))).run P w = .ok (.slice (some ⟨w.heap.size, 0, none⟩) n n) (w.alloc (.cells (madeCells z.cells (n * sz)) e)) := by
  obtain ⟨i, hi, he⟩ := Option.map_eq_some_iff.1 hinfo
  simp only [Prod.mk.injEq] at he
  obtain ⟨h1, h2, h3⟩ := he
  subst h2 h3
  have hb : (i.bytes : Int) * (n : Int) ≤ 281474976710656 := by
    have h : ((i.bytes * n : Nat) : Int) ≤ 281474976710656 := by omega
    rwa [Int.natCast_mul] at h
  have h := run_make (P := P) w t e i z ht hi h1 .i64 .i64 (n : Int) (n : Int) (by omega) (Int.le_refl _) hb (by omega)
  simpa using h


/-- A row of n cells in block g, which may be written. -/
def Vals (w : World) (g n : Nat) (f : Nat → Value) : Prop := ∀ j, j < n → w.cell? ⟨g, j, none⟩ = some (f j) ∧ w.frozen? ⟨g, j, none⟩ = false
theorem Vals.below {w w' : World} {g n : Nat} {f : Nat → Value} (h : Vals w g n f) (hg : g < w.heap.size) (hb : Below w.heap.size w w') : Vals w' g n f :=
  fun j hj => ⟨(hb.cell (p := ⟨g, j, none⟩) hg).trans (h j hj).1, (hb.frozen (p := ⟨g, j, none⟩) hg).trans (h j hj).2⟩
def putV (f : Nat → Value) (k : Nat) (v : Value) : Nat → Value := fun x => if x = k then v else f x
theorem putV_same (f : Nat → Value) (k : Nat) (v : Value) : putV f k v k = v := by simp [putV]
theorem putV_other (f : Nat → Value) (k x : Nat) (v : Value) (h : x ≠ k) : putV f k v x = f x := by simp [putV, h]
theorem Vals.set {w : World} {g n : Nat} {f : Nat → Value} (h : Vals w g n f) (k : Nat) (v : Value) : Vals (w.setCell ⟨g, k, none⟩ v) g n (putV f k v) := by
  intro j hj
  obtain ⟨a, b⟩ := h j hj
  refine ⟨?_, by simpa using b⟩
  by_cases e : j = k
  · subst e
    rw [putV_same]
    exact World.cell?_setCell_same _ _ _ (by rw [a])
  · rw [putV_other _ _ _ _ e, World.cell?_setCell_other _ _ _ _ (fun q => e (congrArg Addr.off q).symm), a]
theorem Vals.apart {w : World} {g n : Nat} {f : Nat → Value} (h : Vals w g n f) (b k : Nat) (v : Value) (hb : b ≠ g) : Vals (w.setCell ⟨b, k, none⟩ v) g n f := by
  intro j hj
  obtain ⟨a, c⟩ := h j hj
  exact ⟨by rw [World.cell?_setCell_other _ _ _ _ (fun q => hb (congrArg Addr.block q)), a], by simpa using c⟩
theorem Vals.far {w1 w3 : World} {o : Obj} {row : Option Nat} {g n : Nat} {f : Nat → Value} (h : Vals w1 g n f) (hg : (w1.alloc o).grownBy w3 row) (hp : g < w1.heap.size) (hr : ∀ b, row = some b → b ≠ g) : Vals w3 g n f :=
  fun j hj => ⟨far_cell (p := ⟨g, j, none⟩) hg hp hr (h j hj).1, far_frozen (p := ⟨g, j, none⟩) hg hp hr (h j hj).2⟩
theorem Vals.made (w : World) (n : Nat) (e : TypeId) (z : Value) : Vals (w.alloc (.cells (madeCells #[z] n) e)) w.heap.size n (fun _ => z) := by
  intro j hj
  have c0 : (madeCells #[z] n)[j]? = some z := by simp [madeCells, hj, Nat.mod_one]
  exact ⟨by simp [c0], by simp⟩
theorem Vals.made4 (w : World) (n : Nat) (e : TypeId) (z : Value) : Vals (w.alloc (.cells (madeCells #[z, z, z, z] n) e)) w.heap.size n (fun _ => z) := by
  intro j hj
  have c0 : (madeCells #[z, z, z, z] n)[j]? = some z := by
    have hm : j % 4 < 4 := Nat.mod_lt _ (by omega)
    simp only [madeCells, Array.getElem?_map, Array.getElem?_range]
    rw [if_pos hj]
    simp only [Option.map_some]
    have : ∀ m, m < 4 → (#[z, z, z, z] : Array Value)[m]! = z := by
      intro m hm
      match m, hm with
      | 0, _ => rfl
      | 1, _ => rfl
      | 2, _ => rfl
      | 3, _ => rfl
    exact congrArg some (this _ hm)
  exact ⟨by simp [c0], by simp⟩
theorem Vals.fn {w : World} {g n : Nat} {f f' : Nat → Value} (h : Vals w g n f) (e : ∀ j, j < n → f j = f' j) : Vals w g n f' := fun j hj => by rw [← e j hj]; exact h j hj

/-- The operation that a thread has under way. -/
def opOf (hs : List EvD) (s : St) (t : Nat) : OpD := (evAt hs (spAt s.spans (s.beg t - 1)).1).op
theorem opOf_back {hs : List EvD} {s : St} {j t t' : Nat} (hne : t' ≠ t) (hl : s.beg t - 1 < s.spans.length) : opOf hs ⟨s.spans.set (s.beg t - 1) ((spAt s.spans (s.beg t - 1)).1, (j : Int)), upd s.beg t 0⟩ t' = opOf hs s t' := by
  unfold opOf
  simp only [upd, if_neg hne]
  rw [spAt_set _ _ _ _ hl]
  split
  · rename_i e; rw [e]
  · rfl
theorem opOf_go {hs : List EvD} {s : St} {j t t' : Nat} (hne : t' ≠ t) (hl : 0 < s.beg t') (hl2 : s.beg t' ≤ s.spans.length) : opOf hs ⟨s.spans ++ [(j, -1)], upd s.beg t (s.spans.length + 1)⟩ t' = opOf hs s t' := by
  unfold opOf
  simp only [upd, if_neg hne]
  rw [spAt_append, if_neg (by omega)]
theorem opOf_new {hs : List EvD} {s : St} {j t : Nat} : opOf hs ⟨s.spans ++ [(j, -1)], upd s.beg t (s.spans.length + 1)⟩ t = (evAt hs j).op := by
  unfold opOf
  simp only [upd, if_true]
  rw [Nat.add_sub_cancel, spAt_append, if_pos rfl]
theorem opEq_iff {a b : OpD} : opEq a b = true ↔ a = b := by
  obtain ⟨a1, a2, a3, a4⟩ := a
  obtain ⟨b1, b2, b3, b4⟩ := b
  simp [opEq]
theorem opEq_comm (a b : OpD) : opEq a b = opEq b a := by
  cases h : opEq b a
  · cases h2 : opEq a b
    · rfl
    · rw [opEq_iff] at h2; rw [h2] at h; rw [opEq_iff.2 rfl] at h; cases h
  · rw [opEq_iff] at h; rw [h]; exact opEq_iff.2 rfl
theorem stepS_kind {hs : List EvD} {s : St} {j : Nat} (ok : StOk hs j s) (h : (evAt hs j).op.kind < 1 ∨ 9 < (evAt hs j).op.kind) : stepS hs s j = none := by
  unfold stepS
  split
  · split
    · rw [if_neg]
      intro hb
      obtain ⟨b0, b1⟩ := hb
      have hl := ok.beg (evAt hs j).th.toNat
      have hi := (ok.inv _ (show s.beg (evAt hs j).th.toNat - 1 < s.spans.length by omega)).2.1
      rw [opEq_iff] at b1
      unfold isInv at hi
      rw [b1] at hi
      simp at hi
      omega
    · rw [if_neg]
      intro hb
      have hi := hb.2
      unfold isInv at hi
      simp at hi
      omega
  · rfl
theorem b_info : (Tryd.prog.info? 4).map (fun i => (i.zero, i.size, i.bytes)) = some (some (.bool false), 1, 1) := by kernel_rfl
theorem bs_under : Tryd.prog.underlying 140 = some (.slice 4) := by kernel_rfl
theorem op_info : (Tryd.prog.info? 43).map (fun i => (i.zero, i.size, i.bytes)) = some (some (.agg #[.int .i64 0, .int .i64 0, .int .i64 0, .int .i64 0]), 4, 32) := by kernel_rfl
theorem ops_under : Tryd.prog.underlying 26 = some (.slice 43) := by kernel_rfl
/-- The operations under way lie in a row. -/
def OpsR (hs : List EvD) (s : St) (f : Nat → Value) : Prop := ∀ t, t < 64 → 0 < s.beg t → f (t * 4) = .int .i64 (opOf hs s t).kind ∧ f (t * 4 + 1) = .int .i64 (opOf hs s t).key ∧ f (t * 4 + 2) = .int .i64 (opOf hs s t).val ∧ f (t * 4 + 3) = .int .i64 (opOf hs s t).hi
end Go.Proofs.YtcphajjonecmbaaDoor

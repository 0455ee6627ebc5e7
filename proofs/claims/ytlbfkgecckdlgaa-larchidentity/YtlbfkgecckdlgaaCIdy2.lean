/- Layer 2: LarchIdentity, walked. -/
import Derived.Test.YtlbfkgecckdlgaaCIdy1
namespace Go.Proofs.Ytlbfkgecckdlgaa
open Go.RowKit

theorem cacts_news {w : World} {base : Option Addr} {ab ao N : Nat} {dk di da db : Nat → Int} (h : CActs w base ab ao N dk di da db) : ∀ ad, base = some ad → ∀ j u, (cactCells dk di da db N)[j]? = some u → w.cell? (ad.add j) = some u := by
  intro ad hb j u hu
  have hl := cactCells_length dk di da db N
  have hj : j < N * 4 := by rw [← hl]; exact (List.getElem?_eq_some_iff.1 hu).1
  have hN : N ≠ 0 := by omega
  have := h.base hN
  rw [hb] at this
  cases this
  have ha : ∀ k, (⟨ab, ao, none⟩ : Addr).add k = ⟨ab, ao + k, none⟩ := fun k => by unfold Addr.add; by_cases q : k = 0 <;> simp [q]
  rw [ha]
  obtain ⟨c0, c1, c2, c3⟩ := h.cells (j / 4) (by omega)
  obtain ⟨d0, d1, d2, d3⟩ := cactCells_get dk di da db N (j / 4) (by omega)
  have hr : j % 4 = 0 ∨ j % 4 = 1 ∨ j % 4 = 2 ∨ j % 4 = 3 := by omega
  rcases hr with r | r | r | r
  · rw [show j = j / 4 * 4 from by omega] at hu ⊢
    rw [d0] at hu; rw [← hu]; exact c0
  · have e : j = j / 4 * 4 + 1 := by omega
    rw [e] at hu ⊢
    rw [d1] at hu; rw [← hu, ← Nat.add_assoc]; exact c1
  · have e : j = j / 4 * 4 + 2 := by omega
    rw [e] at hu ⊢
    rw [d2] at hu; rw [← hu, ← Nat.add_assoc]; exact c2
  · have e : j = j / 4 * 4 + 3 := by omega
    rw [e] at hu ⊢
    rw [d3] at hu; rw [← hu, ← Nat.add_assoc]; exact c3
theorem cact_one (dk di da db : Nat → Int) : ∀ N, ∀ u ∈ cactCells dk di da db N, u.oneCell' = true
  | 0, u, h => by simp [cactCells] at h
  | N + 1, u, h => by
    simp only [cactCells, List.mem_append] at h
    rcases h with h | h
    · exact cact_one dk di da db N u h
    · simp at h
      rcases h with rfl | rfl | rfl | rfl <;> rfl
/-- LarchIdentity's loop, behind q acts: the numbers lie in block g. -/
structure LI (w8 wr : World) (g m q : Nat) (f dk di da db : Nat → Int) : Prop where
  ints : IntsTo wr g m m (csn f dk di da db q)
  kp : Kp (fun k => k = g) w8 wr
theorem li_still {w8 wr W' : World} {g m q p : Nat} {f dk di da db : Nat → Int} (h : LI w8 wr g m q f dk di da db) (hg : g < wr.heap.size) (hp : di q = (p : Int)) (hm : p < m) (hk : Kp (fun _ => False) wr W') (hv : nN (csn f dk di da db q p) (dk q) (da q) (db q) = csn f dk di da db q p) : LI w8 W' g m (q + 1) f dk di da db := by
  have hc := h.ints.done p hm
  have e : (di q).toNat = p := by omega
  refine ⟨csn_ints h.ints (by omega) ?_, h.kp.trans (hk.mono (fun _ h => h.elim))⟩
  rw [e, hv]
  exact ⟨hk.mono (fun _ h => Or.inl h), num_same (X := fun _ => False) hk (fun h => h) hg hc⟩
theorem li_set {w8 wr W1 W' : World} {g m q p : Nat} {v : Int} {f dk di da db : Nat → Int} (h : LI w8 wr g m q f dk di da db) (hg : g < wr.heap.size) (hp : di q = (p : Int)) (hk : Kp (fun _ => False) wr W1) (hW : W' = W1.setCell ⟨g, p, none⟩ (.int .i64 v)) (hv : nN (csn f dk di da db q p) (dk q) (da q) (db q) = v) : LI w8 W' g m (q + 1) f dk di da db := by
  have e : (di q).toNat = p := by omega
  subst hW
  refine ⟨csn_ints h.ints (by omega) ?_, h.kp.trans ((kp_setX hk g p (.int .i64 v)).mono (fun _ h => h.elim (fun h => h.elim) id))⟩
  rw [e, hv]
  exact ⟨kp_setX hk g p _, num_at (X := fun _ => False) hk (fun h => h) hg _ _⟩
theorem CActs.cut {w : World} {base : Option Addr} {ab ao n N : Nat} {dk di da db : Nat → Int} (h : CActs w base ab ao n dk di da db) (hN : N ≤ n) : CActs w base ab ao N dk di da db :=
  ⟨fun q => h.base (by omega), fun q => h.lt (by omega), fun i hi => h.cells i (by omega), Nat.le_trans hN h.len⟩

end Go.Proofs.Ytlbfkgecckdlgaa

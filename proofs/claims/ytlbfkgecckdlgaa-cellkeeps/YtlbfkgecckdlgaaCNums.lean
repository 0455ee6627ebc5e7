/- Layer 2: Nums. -/
import Derived.Test.YtlbfkgecckdlgaaCPlay2
import Derived.Test.YtlbfkgecckdlgaaCRefuse
namespace Go.Proofs.Ytlbfkgecckdlgaa
open Go.RowKit

/-- What the cells hold behind k acts. -/
def csn (f dk di da db : Nat → Int) : Nat → Nat → Int
  | 0 => f
  | k + 1 => fun i => if (i : Int) = di k then nN (csn f dk di da db k i) (dk k) (da k) (db k) else csn f dk di da db k i
/-- What act j answers. -/
def cso (f dk di da db : Nat → Int) (j : Nat) : Int := nO (csn f dk di da db j (di j).toNat) (dk j) (da j)

theorem nm_zero {d i : Int} {m : Nat} (h : nmErr d i m = 0) : (1 ≤ d ∧ d ≤ 7) ∧ 0 ≤ i ∧ i < (m : Int) := by
  unfold nmErr at h
  split at h
  · cases h
  · unfold plErr at h
    split at h
    · cases h
    · omega
theorem frst_zero {f : Nat → Int} {n : Nat} (h : frst f n = 0) : ∀ j, j < n → f j = 0 := by
  intro j hj
  by_cases h0 : frst f j = 0
  · by_cases h1 : f j = 0
    · exact h1
    · exact absurd (frst_at h0 h1 hj ▸ h) h1
  · have := frst_stays h0 (n - j)
    rw [show j + (n - j) = n by omega, h] at this
    exact absurd this.symm h0

/-- The state of Nums' cells. -/
structure NumsJ (vb nb m : Nat) (cs : Nat → Int) (w : World) : Prop where
  hd : w.cell? ⟨vb, 0, none⟩ = some (.slice (some ⟨nb, 0, none⟩) m m)
  ints : IntsTo w nb m m cs

theorem nums2_do (vb nb m n : Nat) (f dk di da db : Nat → Int) (hv : vb ≠ nb) (he : ∀ j, j < n → nmErr (dk j) (di j) m = 0) :
    DoOk 56 (.pointer (some ⟨vb, 0, none⟩)) (fun k => k = vb ∨ k = nb) n dk di da db (cso f dk di da db) (fun j => NumsJ vb nb m (csn f dk di da db j)) := by
  intro tb B j ks w hj hk ht hY hJ
  obtain ⟨hd, i0, i1⟩ := nm_zero (he j hj)
  have hvb := hY vb (Or.inl rfl)
  have hnb := hY nb (Or.inr rfl)
  obtain ⟨hc, hz⟩ := hJ.ints (di j).toNat (by omega)
  rw [if_pos (by omega)] at hc
  have hi : ((di j).toNat : Int) = di j := by omega
  have h := nums2_any (gate_tape tb B 100000 (Nat.le_refl _)) ks hk vb nb m (di j).toNat (csn f dk di da db j (di j).toNat) (dk j) (da j) (db j) hd (by omega) w ht hnb.1 hnb.2 hJ.hd hvb.2 hc hz
  rw [hi] at h
  refine h.mono ?_
  rintro e w' ⟨rfl, ht', hs⟩
  refine ⟨rfl, ht', ⟨?_, ?_⟩, hs.kp.mono (fun k h => ?_)⟩
  · exact (hs.kp.cell (p := ⟨vb, 0, none⟩) hvb.2 (by rintro (h | h); exact hvb.1 h; exact hv h)).trans hJ.hd
  · intro i hi'
    obtain ⟨a, z⟩ := hJ.ints i hi'
    refine ⟨?_, (hs.fro i).trans z⟩
    rw [if_pos hi'] at a ⊢
    by_cases e : i = (di j).toNat
    · subst e
      rw [hs.cell a]
      simp [csn, hi]
    · rw [hs.other (fun q => e q.symm), a]
      simp only [csn]
      rw [if_neg (by omega)]
  · rcases h with h | h
    · exact Or.inl h
    · exact Or.inr (Or.inr h)
end Go.Proofs.Ytlbfkgecckdlgaa


/- Layer 18: the variable of the program that holds the names, out of the row's condition. -/

import Derived.Test.YthlhbajaogonnaaDoorSNm

import Derived.Test.YthlhbajaogonnaaDoorRows

import Derived.Lib.LaidTab

import Derived.MakeChecks

namespace Go.Proofs.YthlhbajaogonnaaDoor

open Go.RowKit

/-- An array of strings that reads as these texts holds them, cell for cell. -/
theorem cells_of_texts {H : Type} {enc : TypeId × Value → H} {P : Program} {w : World} {base : Nat} {sp : Nat → Bool} {held : Bool} {fuel : Nat} {t e : TypeId} {n : Nat} {cs : List Value} {zs : List (List UInt8)} {p : List MemPlace}
    (ht : P.underlying t = some (.array n e)) (he : P.underlying e = some .string) (hce : P.cellsOf e = 1) (hct : P.cellsOf t = n)
    (h : DataW.trod enc P w base sp held fuel t cs = some (.agg (zs.map fun z => .lit (.string z)), p)) : cs = zs.map fun z => Value.string ⟨z.toArray⟩ := by
  cases fuel with
  | zero => simp [DataW.trod] at h
  | succ fuel =>
    simp only [DataW.trod, ht, hce, hct, Nat.mul_one] at h
    split at h
    · rename_i hl
      obtain ⟨xs, hm, hx⟩ := Option.map_eq_some_iff.1 h
      have hxs : xs.map (·.1) = zs.map fun z => (DataW.lit (.string z) : DataW H) := by
        have := congrArg Prod.fst hx
        simpa using this
      have hxl : xs.length = n := by simpa using Lib.mapM_length hm
      have hzl : zs.length = n := by
        have := congrArg List.length hxs
        simp at this
        omega
      apply List.ext_getElem?
      intro i
      by_cases hi : i < n
      · obtain ⟨b, hb, hf⟩ := Lib.mapM_at hm i i (by simp [hi])
        obtain ⟨z, hc, rfl, _⟩ := DataW.trod_string he hf
        have h1 : cs[i]? = some (.string z) := by
          have := congrArg (·[0]?) hc
          simpa [List.getElem?_take, List.getElem?_drop] using this
        have h2 : (xs.map (·.1))[i]? = some (DataW.lit (.string z.data.toList) : DataW H) := by simp [hb]
        rw [hxs] at h2
        simp only [List.getElem?_map, Option.map_eq_some_iff, DataW.lit.injEq, Lit.string.injEq] at h2
        obtain ⟨z', hz', e'⟩ := h2
        subst e'
        simp [h1, hz']
      · rw [List.getElem?_eq_none (by omega), List.getElem?_eq_none (by simp; omega)]
    · cases h
theorem g_nm : Tryd.prog.globalNamed "larch/steps.names" = some 0 := by kernel_rfl
theorem g_nmT : (Tryd.prog.globals[0]?).map (·.type) = some 56 := by kernel_rfl
theorem laid_nmT : (Rows.laid_larch_steps_names : DataW Unit) = .agg (nmT.map fun z => .lit (.string z)) := rfl
theorem nmAt_now {W : World} (h : laidMetH Tryd.prog Rows.stepsNamesRow.laid W) : NmAt W := by
  rw [MakeChecks.laidMetH_plain _ _ _ (by kernel_rfl)] at h
  obtain ⟨ps, ⟨g', t', cs, fuel, p, q, hg', ht', hvar, hd, _, _⟩, _⟩ := h
  obtain rfl := Option.some.inj (g_nm.symm.trans hg')
  obtain rfl := Option.some.inj (g_nmT.symm.trans ht')
  rw [laid_nmT] at hd
  have hc := cells_of_texts Tryd.underlying56 Tryd.underlying9 (by kernel_rfl) (by kernel_rfl) hd
  have key : ∀ i, i < 12 → W.cell? ⟨0, i, none⟩ = some (.string ⟨(nmT.getD i []).toArray⟩) := fun i hi => by
    have := World.var?_cell g_nm hvar i
    rw [this, ← Array.getElem?_toList, hc]
    have hl : i < nmT.length := hi
    simp [List.getD, hl]
  exact ⟨World.block_lt_of_cell? W _ (key 0 (by omega)), key⟩
end Go.Proofs.YthlhbajaogonnaaDoor


/- Layer 28: a row that says 'leaving' out of one that says 'alone'; a tied card that goes; an array of strings that reads as laid; the variables' numbers. -/

import Derived.Test.YtgiblcieplnncaaGreatDoorHOpen

import Derived.Deep.DeepHandedRow

import Derived.Conc.Holds

import Derived.JoinedCond

namespace Go.Proofs.YtgiblcieplnncaaGreatDoor

open Go.ChangeShapes Go.WideShapes Go.ChangeAt Go.RowKit Go.Deep

theorem alone_leaving {P : Program} {last : Machine} {w : World} {t : Trace} (h : aloneAtReturn P last w t) : leavingAtReturn P last w t := by
  obtain ⟨⟨hd, ht⟩, ho, he⟩ := h
  refine ⟨ho, ⟨fun g hg => ⟨0, ?_⟩, ht⟩, he⟩
  unfold Machine.othersDone at hd
  rw [List.all_eq_true] at hd
  have h1 := hd g hg
  show g.status = .finished
  cases hs : g.status <;> rw [hs] at h1 <;> first | rfl | cases h1
/-- A row that says 'alone' says 'leaving': for a call that can come to a go statement by its text and never does. -/
theorem holds_leaving {p : Pinned} {s : OpenSpec} {c : OpenClaim} (h : OpenClaim.holds p s { c with leaving := false }) (hl : c.leaving = true) (hwf : c.wf s = true) (hst : c.start = .entering) (hsp : c.stops = []) : c.holds p s := by
  obtain ⟨-, a1, a2, a3, a4, a5, a6, a7, f, fn, b1, b2, b3, b4, b5, b6, b7, b8, b9, b10, b11, b12, b13, b14, b15, b16, b17, b18, b19, b20, b21, L, hL, hall⟩ := h
  refine ⟨hwf, a1, a2, a3, a4, a5, a6, a7, f, fn, b1, b2, b3, b4, b5, b6, b7, b8, b9, b10, b11, b12, b13, b14, b15, b16, b17, b18, b19, b20, b21, L, hL, fun os w q H enc inj => ?_⟩
  have h1 := hall os w q H enc inj
  unfold OpenClaim.form at h1 ⊢
  simp only [hst, hsp] at h1 ⊢
  intro F
  obtain ⟨e1, e2, e3, e4, e5⟩ := h1 F
  refine ⟨e1, e2, e3, e4, fun w tape i hf => ?_⟩
  obtain ⟨n, v, w', g1, g2, g3, g4, ⟨j, last, k1, k2, k3⟩, g6⟩ := e5 w tape i hf
  refine ⟨n, v, w', g1, g2, g3, g4, ⟨j, last, k1, k2, ?_⟩, g6⟩
  unfold OpenClaim.atReturn at k3 ⊢
  rw [hl]
  exact alone_leaving k3
/-- A tied card of a call that can come to a go statement. -/
theorem tied_goes (Lk : Looks) {p : Pinned} {s : OpenSpec} {c : OpenClaim} (kinds : List LaidKind) (tests : Bool) (har : Bool × String) (lk : Bool)
    (hc : c.holds p s) (hw : c.wfByText s = true) (htie : c.laidByTextAt Lk p kinds tests) (hst : c.start = .entering) (hnb : c.noBlocks = false ∧ c.again = false) (hm : p.checked.prog.mainIs = some (har.1, har.2.toList)) (hn : (!har.1 && har.2.isEmpty && !lk) = false)
    (hl : ∀ f fn, p.checked.prog.funcNamed c.func = some f → p.checked.prog.funcs[f]? = some fn → lk = p.checked.prog.looks [] ∧ ∀ (j : Nat) t, fn.params[j]? = some t → p.checked.prog.wantsStandIn t = false)
    (hg : true = c.goesBy p.checked.prog) :
    Claim7.holds p (.plain s) { stood := { row := c, standIns := [], harness := har, looks := lk }, kinds := [], alts := [], goes := true, laidByText := true, laidKinds := kinds, laidTests := tests, laidLooks := Lk } := by
  have h6 : Claim7.isSixth { stood := { row := c, standIns := [], harness := har, looks := lk }, kinds := [] } = false := by simpa [Claim7.isSixth] using hn
  exact ⟨Claim7.tied_new_at Lk kinds tests (Claim7.new_of_sixth hc har lk hst hnb hm h6 hl) hw, (fun D hD => by cases hD), htie, (fun h => by cases h), hg⟩
/-- An array of strings that reads as these texts holds them, cell for cell. -/
theorem cells_of_texts {H : Type} {enc : TypeId × Value → H} {P : Program} {w : World} {base : Nat} {sp : Nat → Bool} {held : Bool} {fuel : Nat} {t e : TypeId} {n : Nat} {cs : List Value} {zs : List (List UInt8)} {p : List MemPlace}
    (ht : P.underlying t = some (.array n e)) (he : P.underlying e = some .string) (hce : P.cellsOf e = 1) (hct : P.cellsOf t = n)
    (h : DataW.trod enc P w base sp held fuel t cs = some (.agg (zs.map fun z => .lit (.string z)), p)) : cs = zs.map fun z => Value.string ⟨z.toArray⟩ := by
  cases fuel with
  | zero => simp [DataW.trod] at h
  | succ fuel =>
    simp only [DataW.trod, ht, hce, hct, Nat.mul_one] at h
    split at h
    · rename_i hl
      obtain ⟨xs, hm, hx⟩ := Option.map_eq_some_iff.1 h
      have hxs : xs.map (·.1) = zs.map fun z => (DataW.lit (.string z) : DataW H) := by
        have := congrArg Prod.fst hx
        simpa using this
      have hxl : xs.length = n := by simpa using Lib.mapM_length hm
      have hzl : zs.length = n := by
        have := congrArg List.length hxs
        simp at this
        omega
      apply List.ext_getElem?
      intro i
      by_cases hi : i < n
      · obtain ⟨b, hb, hf⟩ := Lib.mapM_at hm i i (by simp [hi])
        obtain ⟨z, hc, rfl, _⟩ := DataW.trod_string he hf
        have h1 : cs[i]? = some (.string z) := by
          have := congrArg (·[0]?) hc
          simpa [List.getElem?_take, List.getElem?_drop] using this
        have h2 : (xs.map (·.1))[i]? = some (DataW.lit (.string z.data.toList) : DataW H) := by simp [hb]
        rw [hxs] at h2
        simp only [List.getElem?_map, Option.map_eq_some_iff, DataW.lit.injEq, Lit.string.injEq] at h2
        obtain ⟨z', hz', e'⟩ := h2
        subst e'
        simp [h1, hz']
      · rw [List.getElem?_eq_none (by omega), List.getElem?_eq_none (by simp; omega)]
    · cases h
theorem g_pow : Tryz.prog.globalNamed "internal/strconv.uint64pow10" = some 1 := by kernel_rfl
theorem g_powT : (Tryz.prog.globals[1]?).map (·.type) = some 150 := by kernel_rfl
theorem g_nm : Tryz.prog.globalNamed "larch/shell.names" = some 0 := by kernel_rfl
theorem g_nmT : (Tryz.prog.globals[0]?).map (·.type) = some 46 := by kernel_rfl
def nmT : List (List UInt8) := (List.range 10).map fun k : Nat => wordL (k : Int)
theorem laid_nmT : (Rows.laid_larch_shell_names : DataW Unit) = .agg (nmT.map fun z => .lit (.string z)) := rfl
end Go.Proofs.YtgiblcieplnncaaGreatDoor


/- Proved: whatever the event, ShellTells returns true, and its argument reads as before: the landed shell.Tell tells every event's line as the document does. Conditions: the event's values and letters are together at most 1048576 (the second form); the six variables that the row lists hold what the program lays there (the card ties them). -/

import Derived.Test.YtgiblcieplnncaaGreatDoorHLaw

import Derived.Test.YtgiblcieplnncaaGreatDoorHOpen

import Derived.Test.YtgiblcieplnncaaGreatDoorHFct

import Derived.Deep.DeepHandedRow

import Derived.Conc.Holds

import Derived.JoinedCond

namespace Go.Proofs.YtgiblcieplnncaaGreatDoor

open Go.ChangeShapes Go.WideShapes Go.ChangeAt Go.RowKit Go.Deep

theorem alone_leaving {P : Program} {last : Machine} {w : World} {t : Trace} (h : aloneAtReturn P last w t) : leavingAtReturn P last w t := by
  obtain ⟨⟨hd, ht⟩, ho, he⟩ := h
  refine ⟨ho, ⟨fun g hg => ⟨0, ?_⟩, ht⟩, he⟩
  unfold Machine.othersDone at hd
  rw [List.all_eq_true] at hd
  have h1 := hd g hg
  show g.status = .finished
  cases hs : g.status <;> rw [hs] at h1 <;> first | rfl | cases h1
/-- A row that says 'alone' says 'leaving': for a call that can come to a go statement by its text and never does. -/
theorem holds_leaving {p : Pinned} {s : OpenSpec} {c : OpenClaim} (h : OpenClaim.holds p s { c with leaving := false }) (hl : c.leaving = true) (hwf : c.wf s = true) (hst : c.start = .entering) (hsp : c.stops = []) : c.holds p s := by
  obtain ⟨-, a1, a2, a3, a4, a5, a6, a7, f, fn, b1, b2, b3, b4, b5, b6, b7, b8, b9, b10, b11, b12, b13, b14, b15, b16, b17, b18, b19, b20, b21, L, hL, hall⟩ := h
  refine ⟨hwf, a1, a2, a3, a4, a5, a6, a7, f, fn, b1, b2, b3, b4, b5, b6, b7, b8, b9, b10, b11, b12, b13, b14, b15, b16, b17, b18, b19, b20, b21, L, hL, fun os w q H enc inj => ?_⟩
  have h1 := hall os w q H enc inj
  unfold OpenClaim.form at h1 ⊢
  simp only [hst, hsp] at h1 ⊢
  intro F
  obtain ⟨e1, e2, e3, e4, e5⟩ := h1 F
  refine ⟨e1, e2, e3, e4, fun w tape i hf => ?_⟩
  obtain ⟨n, v, w', g1, g2, g3, g4, ⟨j, last, k1, k2, k3⟩, g6⟩ := e5 w tape i hf
  refine ⟨n, v, w', g1, g2, g3, g4, ⟨j, last, k1, k2, ?_⟩, g6⟩
  unfold OpenClaim.atReturn at k3 ⊢
  rw [hl]
  exact alone_leaving k3
/-- A tied card of a call that can come to a go statement. -/
theorem tied_goes (Lk : Looks) {p : Pinned} {s : OpenSpec} {c : OpenClaim} (kinds : List LaidKind) (tests : Bool) (har : Bool × String) (lk : Bool)
    (hc : c.holds p s) (hw : c.wfByText s = true) (htie : c.laidByTextAt Lk p kinds tests) (hst : c.start = .entering) (hnb : c.noBlocks = false ∧ c.again = false) (hm : p.checked.prog.mainIs = some (har.1, har.2.toList)) (hn : (!har.1 && har.2.isEmpty && !lk) = false)
    (hl : ∀ f fn, p.checked.prog.funcNamed c.func = some f → p.checked.prog.funcs[f]? = some fn → lk = p.checked.prog.looks [] ∧ ∀ (j : Nat) t, fn.params[j]? = some t → p.checked.prog.wantsStandIn t = false)
    (hg : true = c.goesBy p.checked.prog) :
    Claim7.holds p (.plain s) { stood := { row := c, standIns := [], harness := har, looks := lk }, kinds := [], alts := [], goes := true, laidByText := true, laidKinds := kinds, laidTests := tests, laidLooks := Lk } := by
  have h6 : Claim7.isSixth { stood := { row := c, standIns := [], harness := har, looks := lk }, kinds := [] } = false := by simpa [Claim7.isSixth] using hn
  exact ⟨Claim7.tied_new_at Lk kinds tests (Claim7.new_of_sixth hc har lk hst hnb hm h6 hl) hw, (fun D hD => by cases hD), htie, (fun h => by cases h), hg⟩
/-- An array of strings that reads as these texts holds them, cell for cell. -/
theorem cells_of_texts {H : Type} {enc : TypeId × Value → H} {P : Program} {w : World} {base : Nat} {sp : Nat → Bool} {held : Bool} {fuel : Nat} {t e : TypeId} {n : Nat} {cs : List Value} {zs : List (List UInt8)} {p : List MemPlace}
    (ht : P.underlying t = some (.array n e)) (he : P.underlying e = some .string) (hce : P.cellsOf e = 1) (hct : P.cellsOf t = n)
    (h : DataW.trod enc P w base sp held fuel t cs = some (.agg (zs.map fun z => .lit (.string z)), p)) : cs = zs.map fun z => Value.string ⟨z.toArray⟩ := by
  cases fuel with
  | zero => simp [DataW.trod] at h
  | succ fuel =>
    simp only [DataW.trod, ht, hce, hct, Nat.mul_one] at h
    split at h
    · rename_i hl
      obtain ⟨xs, hm, hx⟩ := Option.map_eq_some_iff.1 h
      have hxs : xs.map (·.1) = zs.map fun z => (DataW.lit (.string z) : DataW H) := by
        have := congrArg Prod.fst hx
        simpa using this
      have hxl : xs.length = n := by simpa using Lib.mapM_length hm
      have hzl : zs.length = n := by
        have := congrArg List.length hxs
        simp at this
        omega
      apply List.ext_getElem?
      intro i
      by_cases hi : i < n
      · obtain ⟨b, hb, hf⟩ := Lib.mapM_at hm i i (by simp [hi])
        obtain ⟨z, hc, rfl, _⟩ := DataW.trod_string he hf
        have h1 : cs[i]? = some (.string z) := by
          have := congrArg (·[0]?) hc
          simpa [List.getElem?_take, List.getElem?_drop] using this
        have h2 : (xs.map (·.1))[i]? = some (DataW.lit (.string z.data.toList) : DataW H) := by simp [hb]
        rw [hxs] at h2
        simp only [List.getElem?_map, Option.map_eq_some_iff, DataW.lit.injEq, Lit.string.injEq] at h2
        obtain ⟨z', hz', e'⟩ := h2
        subst e'
        simp [h1, hz']
      · rw [List.getElem?_eq_none (by omega), List.getElem?_eq_none (by simp; omega)]
    · cases h
theorem g_pow : Tryz.prog.globalNamed "internal/strconv.uint64pow10" = some 1 := by kernel_rfl
theorem g_powT : (Tryz.prog.globals[1]?).map (·.type) = some 150 := by kernel_rfl
theorem g_nm : Tryz.prog.globalNamed "larch/shell.names" = some 0 := by kernel_rfl
theorem g_nmT : (Tryz.prog.globals[0]?).map (·.type) = some 46 := by kernel_rfl
def nmT : List (List UInt8) := (List.range 10).map fun k : Nat => wordL (k : Int)
theorem laid_nmT : (Rows.laid_larch_shell_names : DataW Unit) = .agg (nmT.map fun z => .lit (.string z)) := rfl
theorem laid_now {W : World} (h : laidMetH Tryz.prog Rows.shellTellsUptoRow.laid W) : HLB W.heap.size W := by
  rw [MakeChecks.laidMetH_plain _ _ _ (by kernel_rfl)] at h
  have h2 := h.tail.tail
  have h5 := h2.tail.tail.tail
  have ht : Lib.TabIs Tryz.prog W "internal/strconv.uint64pow10" .u64 Lib.pow10Tab := Lib.tabIs_of_head g_pow g_powT Tryz.underlying150 Tryz.underlying122 (by kernel_rfl) (by kernel_rfl) h2
  obtain ⟨ps, ⟨g', t', cs, fuel, p, q, hg', ht', hvar, hd, _, _⟩, _⟩ := h5
  obtain rfl := Option.some.inj (g_nm.symm.trans hg')
  obtain rfl := Option.some.inj (g_nmT.symm.trans ht')
  rw [laid_nmT] at hd
  have hc := cells_of_texts Tryz.underlying46 Tryz.underlying9 (by kernel_rfl) (by kernel_rfl) hd
  have key : ∀ k : Nat, k < 10 → W.cell? ⟨0, k, none⟩ = some (.string ⟨(wordL k).toArray⟩) := fun i hi => by
    have := World.var?_cell g_nm hvar i
    rw [this, ← Array.getElem?_toList, hc]
    simp [nmT, hi]
  have hlt := World.block_lt_of_cell? W _ (key 0 (by omega))
  intro w' hb
  exact ⟨Go.Joins.tab_stays g_pow ht hb (Nat.le_refl _), Nat.lt_of_lt_of_le hlt hb.size, fun k hk => (hb.cell (p := ⟨0, k, none⟩) hlt).trans (key k hk)⟩
def ev0V : Value := .agg #[.int .i64 0, .bool false, .int .i64 0, .int .i64 0, .int .i64 0, .int .i64 0, .bool false, .int .i64 0, .int .i64 0, .slice none 0 0]
set_option maxRecDepth 100000 in
theorem shellTells_lifted (os : Os) (started : os.Started) (H : Type) (enc : TypeId × Value → H) (F : Stop.Interp) :
    ReturnsInHanded {} Tryz.checked os 4 .any ((Rows.OpenSpec.upto Rows.shellTellsSpec).preRow enc Tryz.prog Tryz.f4 Rows.shellTellsUptoRow.domain false Rows.shellTellsUptoRow.laid) (((Rows.OpenSpec.upto Rows.shellTellsSpec).at F).post enc Tryz.prog Tryz.f4 false true false false) := by
  have hx : ∃ places, DataW.whole enc Tryz.prog ((World.laidAll Tryz.prog os Rows.shellTellsUptoRow.laid).forCall (fun _ _ => 0) ⟨#[], #[ev0V], []⟩).memory Tryz.f4.params.toList Rows.shellTellsSpec.vars false #[ev0V].toList 8 = some ([.agg [.lit (.int .i64 0), .lit (.bool false), .agg [.lit (.int .i64 0), .lit (.int .i64 0), .lit (.int .i64 0), .lit (.int .i64 0)], .agg [.lit (.bool false), .lit (.int .i64 0), .lit (.int .i64 0), .nil]]], [], places) := ⟨[], by kernel_rfl⟩
  obtain ⟨places, hx⟩ := hx
  have hok : Input.okWideB Tryz.prog ((World.laidAll Tryz.prog os Rows.shellTellsUptoRow.laid).forCall (fun _ _ => 0) ⟨#[], #[ev0V], []⟩) 4 ⟨#[], #[ev0V], []⟩ = true := by kernel_rfl
  refine returnsInHanded_of_row (C := Tryz.checked) (s := Rows.OpenSpec.upto Rows.shellTellsSpec) own started (by kernel_rfl) Tryz.func4
    ⟨World.laidAll Tryz.prog os Rows.shellTellsUptoRow.laid, fun _ _ => 0, ⟨#[], #[ev0V], []⟩, World.laidAll_os _ _ _, World.shaped_of_ZipB (by kernel_rfl) (by kernel_rfl), (Input.okWide_of_okWideB (base := 0) hok).1, (Input.okWide_of_okWideB hok).2,
      OpenSpec.preRow_of_cond 8 hx (by kernel_rfl) (fun k hk => by cases hk; kernel_rfl) (by kernel_rfl) (by rw [MakeChecks.laidMetH_plain _ _ _ (by kernel_rfl)]; exact laidMet_laidAll _ (by kernel_rfl) (by kernel_rfl)), by
        simp only [Assume.holds]
        exact ⟨by simp, by simp, by simp, by simp, by simp⟩⟩ ?_
  intro W base args ds gs before hval0 hW _ hcond _ hL _ _
  have hval : ∀ (j : Nat) t v, Tryz.f4.params[j]? = some t → args[j]? = some v → Value.okWide Tryz.prog W .any base t v := hval0
  have hW' := hW
  obtain ⟨p, q, hA0, hV, rfl, _, _⟩ := hW
  have hA : DataW.TrodAll enc Tryz.prog W 0 (fun _ => true) true Tryz.f4.params.toList args.toList ds p := hA0
  rw [Tryz.params4] at hA hval
  obtain ⟨v0, d0, rfl, rfl, h0⟩ := trodAll_one hA
  obtain ⟨rfl, rfl⟩ := trodVars_none hV
  obtain ⟨cs0, rfl, hcs0⟩ := okWide_struct Tryz.underlying39 (hval 0 39 v0 rfl rfl)
  have k0 := h0
  have lt0 : ∀ x ∈ p, x.block < W.heap.size := by obtain ⟨m, hm⟩ := k0; exact DataW.trod_lt m _ _ _ hm
  obtain ⟨fuel0, hf0⟩ := h0
  obtain ⟨th, ret, o, r, pb, pc, pg, po, e0, hth, hop, hpr, hrt, hbk⟩ := open_ev hf0
  obtain rfl : cs0 = #[.int .i64 th, .bool ret, .int .i64 o.kind, .int .i64 o.key, .int .i64 o.val, .int .i64 o.hi, .bool r.ok, .int .i64 r.key, .int .i64 r.val, .slice pb r.pairs.length pc] := by
    apply Array.ext'
    simpa [Value.cells] using e0
  have hnl : r.pairs.length ≤ 1048576 := by
    have h1 := of_decide_eq_true (hcond _ rfl)
    simp only [Rows.uptoBulkAll, List.append_nil] at h1
    have h2 : r.pairs.length ≤ Rows.uptoBulk d0 := hbk
    omega
  clear hA0 hval0
  have hl := laid_now hL
  refine (tells_law th ret o.kind o.key o.val o.hi r.ok r.key r.val pb r.pairs.length pc (tellL th ret o r) W hl
    (fun V hV => tell_any th ret o r pb pc pg po V hth hop hrt (hpr.below hV) hnl (hl.on hV)) (fun V hV => rTell_any th ret o r pb pc pg po V hth hop hrt (hpr.below hV) hnl)).mono fun e W' ⟨he, bel⟩ => ?_
  subst he
  exact ⟨_, rfl, _, _, _, [], _, [], hW', trodAll_mk1 (shut_bool Tryz.underlying4 _), trodAll_mk1 (Below.trod laidOut (by kernel_rfl) (of_decide_eq_true (by kernel_rfl)) k0 bel lt0), rfl, bel.frame _, fun h => by cases h⟩
theorem shellTells_alone : OpenClaim.holds Tryz.pinned (Rows.OpenSpec.upto Rows.shellTellsSpec) { Rows.shellTellsUptoRow with leaving := false } :=
  OpenClaim.holds_of_cond 4 Tryz.f4 rfl rfl rfl rfl rfl rfl rfl ⟨rfl, rfl, rfl, rfl, rfl⟩ rfl rfl rfl rfl rfl (by kernel_rfl) Tryz.func4 tells_facts
    (of_decide_eq_true (by kernel_rfl)) (by unfold Func.isWrapper; first | (rw [if_pos (by decide +kernel)]; kernel_rfl) | (rw [if_neg (by decide +kernel)]; exact ⟨rfl, rfl⟩))
    (fun os started H enc _ F => by rw [OpenClaim.pre_eq_preRow]; exact shellTells_lifted os started H enc F)
theorem shellTells_row : Rows.ShellTellsUptoSaid := holds_leaving shellTells_alone rfl tells_wf rfl rfl
theorem plain_tells (f : FuncId) (fn : Func) (hf : Tryz.pinned.checked.prog.funcNamed "larch/larchlaw28.ShellTells" = some f) (hfn : Tryz.pinned.checked.prog.funcs[f]? = some fn) :
    true = Tryz.pinned.checked.prog.looks [] ∧ ∀ (j : Nat) t, fn.params[j]? = some t → Tryz.pinned.checked.prog.wantsStandIn t = false := by
  obtain rfl : f = 4 := Option.some.inj ((show Tryz.prog.funcNamed "larch/larchlaw28.ShellTells" = some 4 by kernel_rfl).symm.trans hf) |>.symm
  obtain rfl : fn = Tryz.f4 := (Option.some.inj (Tryz.func4.symm.trans hfn)).symm
  refine ⟨by kernel_rfl, fun j t ht => ?_⟩
  rw [Tryz.params4] at ht
  obtain rfl : t = 39 := by simpa using Array.mem_of_getElem? ht
  exact (show Tryz.prog.wantsStandIn 39 = false by kernel_rfl)
/-- The tied card. -/
theorem shellTells_proved : Rows.ShellTellsUptoCardSaid :=
  tied_goes .later _ _ _ _ shellTells_row tells_text shellTellsUpto_row_tie rfl ⟨rfl, rfl⟩ (by kernel_rfl) rfl plain_tells tells_goes
#print axioms shellTells_proved

end Go.Proofs.YtgiblcieplnncaaGreatDoor

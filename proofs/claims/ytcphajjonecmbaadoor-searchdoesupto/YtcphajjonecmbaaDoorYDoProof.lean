/- Proved: whatever the thing, the state and the operations, SearchDoes returns true, and its arguments read as before: the landed search.Check, Run and Do answer as the document does. Conditions: the arguments are of bulk at most 1048576 (the second form); the variable search.kinds holds what the program lays there (the card ties it). -/
import Derived.Test.YtcphajjonecmbaaDoorYLDo
import Derived.Test.YtcphajjonecmbaaDoorYOpen
import Derived.Test.YtcphajjonecmbaaDoorYDoFct
import Derived.Test.YtcphajjonecmbaaDoorTie
import Derived.Test.YtcphajjonecmbaaDoorCards
import Derived.Lay
import Derived.SevenTiedAt
import Derived.Stop.Joined
import Derived.Stop.LaidErr
import Derived.LaidMore
import Derived.Deep.DeepHandedRow
import Derived.JoinedCond












namespace Go.Proofs.YtcphajjonecmbaaDoor

open Go.ChangeShapes Go.WideShapes Go.ChangeAt Go.RowKit Go.Deep

set_option maxRecDepth 100000 in
theorem searchDoes_lifted (os : Os) (started : os.Started) (H : Type) (enc : TypeId × Value → H) (F : Stop.Interp) :
    ReturnsInHanded {} Tryd.checked os 3 .any ((Rows.OpenSpec.upto Rows.searchDoesSpec).preRow enc Tryd.prog Tryd.f3 Rows.searchDoesUptoRow.domain false Rows.searchDoesUptoRow.laid) (((Rows.OpenSpec.upto Rows.searchDoesSpec).at F).post enc Tryd.prog Tryd.f3 false true false false) := by
  have hx : ∃ places, DataW.whole enc Tryd.prog ((World.laidAll Tryd.prog os Rows.searchDoesUptoRow.laid).forCall (fun _ _ => 0) ⟨#[], #[.int .i64 0, .agg #[.slice none 0 0, .slice none 0 0], .slice none 0 0], []⟩).memory Tryd.f3.params.toList Rows.searchDoesSpec.vars false #[.int .i64 0, .agg #[.slice none 0 0, .slice none 0 0], .slice none 0 0].toList 8 = some ([.lit (.int .i64 0), .agg [.nil, .nil], .nil], [], places) := ⟨[], by kernel_rfl⟩
  obtain ⟨places, hx⟩ := hx
  have hok : Input.okWideB Tryd.prog ((World.laidAll Tryd.prog os Rows.searchDoesUptoRow.laid).forCall (fun _ _ => 0) ⟨#[], #[.int .i64 0, .agg #[.slice none 0 0, .slice none 0 0], .slice none 0 0], []⟩) 3 ⟨#[], #[.int .i64 0, .agg #[.slice none 0 0, .slice none 0 0], .slice none 0 0], []⟩ = true := by kernel_rfl
  refine returnsInHanded_of_row (C := Tryd.checked) (s := Rows.OpenSpec.upto Rows.searchDoesSpec) own started (by kernel_rfl) Tryd.func3
    ⟨World.laidAll Tryd.prog os Rows.searchDoesUptoRow.laid, fun _ _ => 0, ⟨#[], #[.int .i64 0, .agg #[.slice none 0 0, .slice none 0 0], .slice none 0 0], []⟩, World.laidAll_os _ _ _, World.shaped_of_ZipB (by kernel_rfl) (by kernel_rfl), (Input.okWide_of_okWideB (base := 0) hok).1, (Input.okWide_of_okWideB hok).2,
      OpenSpec.preRow_of_cond 8 hx (by kernel_rfl) (fun k hk => by cases hk; kernel_rfl) (by kernel_rfl) (by rw [MakeChecks.laidMetH_plain _ _ _ (by kernel_rfl)]; exact laidMet_laidAll _ (by kernel_rfl) (by kernel_rfl)), by
        simp only [Assume.holds]
        exact ⟨by simp, by simp, by simp, by simp, by simp⟩⟩ ?_
  intro W base args ds gs before hval0 hW _ hcond _ hL _ _
  have hval : ∀ (j : Nat) t v, Tryd.f3.params[j]? = some t → args[j]? = some v → Value.okWide Tryd.prog W .any base t v := hval0
  have hW' := hW
  obtain ⟨p, q, hA0, hV, rfl, hfz, _⟩ := hW
  have hA : DataW.TrodAll enc Tryd.prog W 0 (fun _ => true) true Tryd.f3.params.toList args.toList ds p := hA0
  rw [Tryd.params3] at hA hval
  obtain ⟨v0, v1, v2, d0, d1, d2, p0, p1, p2, rfl, rfl, rfl, h0, h1, h2⟩ := trodAll_three hA
  obtain ⟨rfl, rfl⟩ := trodVars_none hV
  obtain ⟨t, rfl⟩ := okWide_int Tryd.underlying3 (hval 0 3 v0 rfl rfl)
  obtain ⟨cs1, rfl, hcs1⟩ := okWide_struct Tryd.underlying25 (hval 1 25 v1 rfl rfl)
  obtain ⟨oa, on, oc, rfl⟩ := okWide_slice Tryd.underlying26 (hval 2 26 v2 rfl rfl)
  have k0 := h0
  have k1 := h1
  have k2 := h2
  have lt0 : ∀ x ∈ p0, x.block < W.heap.size := by obtain ⟨m, hm⟩ := k0; exact DataW.trod_lt m _ _ _ hm
  have lt1 : ∀ x ∈ p1, x.block < W.heap.size := by obtain ⟨m, hm⟩ := k1; exact DataW.trod_lt m _ _ _ hm
  have lt2 : ∀ x ∈ p2, x.block < W.heap.size := by obtain ⟨m, hm⟩ := k2; exact DataW.trod_lt m _ _ _ hm
  obtain ⟨fuel1, hf1⟩ := h1
  obtain ⟨fuel2, hf2⟩ := h2
  obtain ⟨sx, s, e1, hst, hbv, hbp⟩ := open_state7 hf1 (fun b' o' hm => hfz b' o' (List.mem_append_left _ (List.mem_append_left _ (List.mem_append_right _ hm))))
  obtain rfl : cs1 = #[.slice sx.va s.vals.length sx.vc, .slice sx.pa s.prs.length sx.pc] := by
    apply Array.ext'
    simpa [Value.cells] using e1
  obtain ⟨oa', oc', og, oo, ops, e2, hop, hbo⟩ := open_opsB hf2
  obtain ⟨rfl, rfl, rfl⟩ : oa = oa' ∧ on = ops.length ∧ oc = oc' := by
    simp [Value.cells] at e2
    exact e2
  have hbk : Rows.uptoBulk d0 + (Rows.uptoBulk d1 + (Rows.uptoBulk d2 + 0)) ≤ 1048576 := by
    have h1 := of_decide_eq_true (hcond _ rfl)
    simpa only [Rows.uptoBulkAll, List.append_nil] using h1
  have hbv' : s.vals.length ≤ Rows.uptoBulk d1 := hbv
  have hbp' : s.prs.length ≤ Rows.uptoBulk d1 := hbp
  have hbo' : ops.length ≤ Rows.uptoBulk d2 := hbo
  clear hA0 hval0
  refine (searchDoes_any t sx s oa og oo oc ops W hst (kdAt_now hL) hop (by omega) (by omega) (by omega)).mono fun e W' ⟨he, bel⟩ => ?_
  subst he
  exact ⟨_, rfl, _, _, _, [], _, [], hW', trodAll_mk1 (shut_bool Tryd.underlying4 _), trodAll_mk3 (Below.trod laidOut (by kernel_rfl) (of_decide_eq_true (by kernel_rfl)) k0 bel lt0) (Below.trod laidOut (by kernel_rfl) (of_decide_eq_true (by kernel_rfl)) k1 bel lt1) (Below.trod laidOut (by kernel_rfl) (of_decide_eq_true (by kernel_rfl)) k2 bel lt2), rfl, bel.frame _, fun h => by cases h⟩
theorem searchDoes_row : Rows.SearchDoesUptoSaid :=
  OpenClaim.holds_of_cond 3 Tryd.f3 rfl rfl rfl rfl rfl rfl rfl ⟨rfl, rfl, rfl, rfl, rfl⟩ rfl rfl rfl rfl rfl (by kernel_rfl) Tryd.func3 searchDoes_facts
    (of_decide_eq_true (by kernel_rfl)) (by unfold Func.isWrapper; first | (rw [if_pos (by decide +kernel)]; kernel_rfl) | (rw [if_neg (by decide +kernel)]; exact ⟨rfl, rfl⟩))
    (fun os started H enc _ F => by rw [OpenClaim.pre_eq_preRow]; exact searchDoes_lifted os started H enc F)
theorem searchDoes_plain (f : FuncId) (fn : Func) (hf : Tryd.pinned.checked.prog.funcNamed "larch/larchlaw07.SearchDoes" = some f) (hfn : Tryd.pinned.checked.prog.funcs[f]? = some fn) :
    false = Tryd.pinned.checked.prog.looks [] ∧ ∀ (j : Nat) t, fn.params[j]? = some t → Tryd.pinned.checked.prog.wantsStandIn t = false := by
  obtain rfl : f = 3 := Option.some.inj ((show Tryd.prog.funcNamed "larch/larchlaw07.SearchDoes" = some 3 by kernel_rfl).symm.trans hf) |>.symm
  obtain rfl : fn = Tryd.f3 := (Option.some.inj (Tryd.func3.symm.trans hfn)).symm
  refine ⟨by kernel_rfl, fun j t ht => ?_⟩
  rw [Tryd.params3] at ht
  have hm : t ∈ [3, 25, 26] := by simpa using Array.mem_of_getElem? ht
  have hall : ([3, 25, 26].all fun u => !Tryd.prog.wantsStandIn u) = true := by kernel_rfl
  exact (show Tryd.prog.wantsStandIn t = false by simpa using List.all_eq_true.1 hall t hm)
/-- The tied card. -/
theorem searchDoes_proved : Rows.SearchDoesUptoCardSaid :=
  Claim7.holds_tied_plain_at .later [] [.data] true (true, "4e9844a7b1cc5e119318a6b6ead0da5958dd47b795122b3d77fe31aaa7806c5a") false searchDoes_row (fun _ h => by cases h) searchDoes_text (fun _ h => by cases h) searchDoesUpto_row_tie rfl ⟨rfl, rfl⟩ (by kernel_rfl) rfl searchDoes_plain searchDoes_goes
#print axioms searchDoes_proved

end Go.Proofs.YtcphajjonecmbaaDoor

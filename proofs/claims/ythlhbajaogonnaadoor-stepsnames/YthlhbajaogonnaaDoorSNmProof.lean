
/- Proved: whatever the move and the text, StepsNames returns true, and its arguments read as before: the landed steps.Name, Of and All answer as the reference does, and each move's name leads back to it. Condition: the variable of the program that the row lists holds what the program lays there (the card ties it). -/

import Derived.Test.YthlhbajaogonnaaDoorSLNm

import Derived.Test.YthlhbajaogonnaaDoorSNmO

import Derived.Test.YthlhbajaogonnaaDoorSOpen

import Derived.Test.YthlhbajaogonnaaDoorCards

import Derived.Test.YthlhbajaogonnaaDoorTie

import Derived.ProofKit

import Derived.OpenShut

import Derived.Deep.Slices

import Derived.Deep.Strs

import Derived.Lay

import Derived.SevenTiedAt

import Derived.Stop.Joined

import Derived.Stop.LaidErr

import Derived.Lib.LaidTab

namespace Go.Proofs.YthlhbajaogonnaaDoor

open Go.ChangeShapes Go.WideShapes Go.ChangeAt Go.RowKit Go.Deep

set_option maxRecDepth 100000 in
theorem stepsNames_lifted (os : Os) (started : os.Started) (H : Type) (enc : TypeId × Value → H) :
    ReturnsInHanded {} Tryd.checked os 3 .any (fun w args => (Rows.stepsNamesSpec.pre enc Tryd.prog Tryd.f3 Rows.stepsNamesRow.domain false w args ∧ laidMetH Tryd.prog Rows.stepsNamesRow.laid w) ∧ sizedMet enc Tryd.prog Tryd.f3 (OpenSpec.ofChange Rows.stepsNamesSpec) false w args)
      (Rows.stepsNamesSpec.post enc Tryd.prog Tryd.f3 false true false false) := by
  refine returnsInHanded_of_change_and (C := Tryd.checked) (X := fun w _ => laidMetH Tryd.prog Rows.stepsNamesRow.laid w) (fun _ _ _ hh h => h.of_heap hh) own started (by kernel_rfl) Tryd.func3
    (ChangeSpec.witness_shaped (enc := enc) (C := Tryd.checked) (os := os) (X := fun w _ => laidMetH Tryd.prog Rows.stepsNamesRow.laid w) false (World.laidAll Tryd.prog os Rows.stepsNamesRow.laid) #[.agg #[.int .i64 0, .bool false], .string ⟨#[]⟩] 8 (World.laidAll_os _ _ _)
      (World.shaped_of_ZipB (by kernel_rfl) (by kernel_rfl)) (by kernel_rfl) (by kernel_rfl) (by kernel_rfl)
      (by rw [MakeChecks.laidMetH_plain _ _ _ (by kernel_rfl)]; exact laidMet_laidAll _ (by kernel_rfl) (by kernel_rfl))) ?_
  intro W base args ds gs before hval0 hW _ _ hL _
  have hval : ∀ (j : Nat) t v, Tryd.f3.params[j]? = some t → args[j]? = some v → Value.okWide Tryd.prog W .any base t v := hval0
  have hW' := hW
  obtain ⟨p, q, hA0, hV, rfl, _, _⟩ := hW
  have hA : DataW.TrodAll enc Tryd.prog W 0 (fun _ => true) true Tryd.f3.params.toList args.toList ds p := hA0
  rw [Tryd.params3] at hA hval
  obtain ⟨v0, v1, d0, d1, p0, p1, rfl, rfl, rfl, h0, h1⟩ := trodAll_two hA
  obtain ⟨rfl, rfl⟩ := trodVars_none hV
  obtain ⟨cs0, rfl, hcs0⟩ := okWide_struct Tryd.underlying23 (hval 0 23 v0 rfl rfl)
  have k0 := h0
  have k1 := h1
  have lt0 : ∀ x ∈ p0, x.block < W.heap.size := by obtain ⟨m, hm⟩ := k0; exact DataW.trod_lt m _ _ _ hm
  have lt1 : ∀ x ∈ p1, x.block < W.heap.size := by obtain ⟨m, hm⟩ := k1; exact DataW.trod_lt m _ _ _ hm
  obtain ⟨fuel0, hf0⟩ := h0
  obtain ⟨km, mi, e0⟩ := open_move hf0
  obtain rfl : cs0 = #[.int .i64 km, .bool mi] := by
    apply Array.ext'
    simpa [Value.cells] using e0
  obtain ⟨bs, rfl⟩ := okWide_string Tryd.underlying9 (hval 1 9 v1 rfl rfl)
  obtain ⟨⟨s⟩⟩ := bs
  clear hA0 hval0
  refine (stepsNames_any km mi s W (nmAt_now hL) (fun W => awake_any W) (fun a c W => to_any a c W)).mono fun e W' ⟨he, bel⟩ => ?_
  subst he
  exact ⟨_, rfl, _, _, _, [], _, [], hW', trodAll_mk1 (shut_bool Tryd.underlying4 _), trodAll_mk2 (Below.trod laidOut (by kernel_rfl) (of_decide_eq_true (by kernel_rfl)) k0 bel lt0) (Below.trod laidOut (by kernel_rfl) (of_decide_eq_true (by kernel_rfl)) k1 bel lt1), rfl, bel.frame _, fun h => by cases h⟩
theorem stepsNames_row : Rows.StepsNamesSaid :=
  OpenClaim.holds_of_wide 3 Tryd.f3 rfl rfl rfl rfl rfl rfl rfl ⟨rfl, rfl, rfl, rfl, rfl⟩ rfl rfl rfl rfl rfl (by kernel_rfl) Tryd.func3 (by kernel_rfl)
    (of_decide_eq_true (by kernel_rfl)) (by unfold Func.isWrapper; first | (rw [if_pos (by decide +kernel)]; kernel_rfl) | (rw [if_neg (by decide +kernel)]; exact ⟨rfl, rfl⟩))
    (fun os started H enc _ => stepsNames_lifted os started H enc)
/-- The tied card. -/
theorem stepsNames_proved : Rows.StepsNamesCardSaid :=
  Claim7.holds_tied_plain_at .later [] [.data] true (true, "4e96d21c7488153723323d1cff058aaee74dcb3780970ef5a9862a5c11b5af89") false stepsNames_row (fun _ h => by cases h) (by kernel_rfl) (fun _ h => by cases h) stepsNames_row_tie rfl ⟨rfl, rfl⟩ (by kernel_rfl) rfl
    (fun f fn hf hfn => by
      obtain rfl : f = 3 := Option.some.inj ((show Tryd.prog.funcNamed "larch/larchlaw18.StepsNames" = some 3 by kernel_rfl).symm.trans hf) |>.symm
      obtain rfl : fn = Tryd.f3 := (Option.some.inj (Tryd.func3.symm.trans hfn)).symm
      exact ⟨by kernel_rfl, fun j t ht => by
        rw [Tryd.params3] at ht
        have hm : t ∈ [23, 9] := by simpa using Array.mem_of_getElem? ht
        have hall : ([23, 9].all fun u => !Tryd.prog.wantsStandIn u) = true := by kernel_rfl
        exact (show Tryd.prog.wantsStandIn t = false by simpa using List.all_eq_true.1 hall t hm)⟩)
    (by kernel_rfl)
#print axioms stepsNames_proved

end Go.Proofs.YthlhbajaogonnaaDoor

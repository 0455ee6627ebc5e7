/- Proved: whatever the Case, ModelLists returns true, and its argument reads as before: the landed model.Check, Kind, Plain, Changes, Of, Find, Part, Differ, Same and SameRet answer as the reference does. -/
import Derived.Test.YtjpfgfcggekklaaMQ6
import Derived.Test.YtjpfgfcggekklaaMOpen
namespace Go.Proofs.Ytjpfgfcggekklaa
open Go.ChangeShapes Go.WideShapes Go.ChangeAt Go.RowKit Go.Deep

set_option maxRecDepth 100000 in
theorem lists_lifted (os : Os) (started : os.Started) (H : Type) (enc : TypeId × Value → H) :
    ReturnsInHanded {} Try.checked os 3 .any (Rows.modelListsSpec.pre6 enc Try.prog Try.f3 Rows.modelListsRow.domain false) (Rows.modelListsSpec.post enc Try.prog Try.f3 false true false false) := by
  refine returnsInHanded_of_change_sized (C := Try.checked) own started (by kernel_rfl) Try.func3
    (ChangeSpec.witness6 (enc := enc) (C := Try.checked) false ⟨#[], #[.agg #[.slice none 0 0, .slice none 0 0, .slice none 0 0, .slice none 0 0, .int .i64 0, .int .i64 0, .int .i64 0, .int .i64 0, .bool false, .int .i64 0, .int .i64 0, .slice none 0 0, .int .i64 0, .int .i64 0]], []⟩ 8 (by kernel_rfl) (by kernel_rfl) (by kernel_rfl) (by kernel_rfl)) ?_
  intro W base args ds gs before hval0 hW _ hsz0 _
  have hsz : (DataW.weightsEach Try.prog (Try.f3.params.toList ++ Rows.modelListsSpec.plain.varTypes Try.prog) (ds ++ gs)).all (· ≤ reachBytes) = true := hsz0
  have hval : ∀ (j : Nat) t v, Try.f3.params[j]? = some t → args[j]? = some v → Value.okWide Try.prog W .any base t v := hval0
  have hW' := hW
  obtain ⟨p, q, hA0, hV, rfl, hfz, hnd⟩ := hW
  have hA : DataW.TrodAll enc Try.prog W 0 (fun _ => true) true Try.f3.params.toList args.toList ds p := hA0
  rw [Try.params3] at hA hval hsz
  obtain ⟨v0, d0, rfl, rfl, h0⟩ := trodAll_one hA
  obtain ⟨rfl, rfl⟩ := trodVars_none hV
  obtain ⟨cs, rfl, hcs⟩ := okWide_struct Try.underlying29 (hval 0 29 v0 rfl rfl)
  have k0 := h0
  have lt0 : ∀ x ∈ p, x.block < W.heap.size := by obtain ⟨m, hm⟩ := k0; exact DataW.trod_lt m _ _ _ hm
  obtain ⟨fuel0, hf0⟩ := h0
  obtain ⟨ma, na, oa, qa, ra, mc, mg, mo, nc, ng, no, og, oo, oc, qg, qo, qc, rg, ro, rc, Ms, Ns, Os, Qs, op, rt, u, v, e, hm1, hm2, hm3, hn1, hn2, hn3, ho1, ho2, ho3, hq1, hq2, hq3, hr1, _, _, _⟩ := open_case2 hf0
  have hcs2 : cs = #[.slice ma Ms.length mc, .slice na Ns.length nc, .slice oa Os.length oc, .slice qa Qs.length qc, .int .i64 op.kind, .int .i64 op.key, .int .i64 op.val, .int .i64 op.hi, .bool rt.ok, .int .i64 rt.key, .int .i64 rt.val, .slice ra rt.pairs.length rc, .int .i64 u, .int .i64 v] := by
    apply Array.ext'
    simpa [Value.cells] using e
  subst hcs2
  have hmt : (Ms.take 300).length = min 300 Ms.length := List.length_take
  have hm300 : (Ms.take 300).length ≤ 300 := by rw [hmt]; omega
  have hmle : (Ms.take 300).length ≤ Ms.length := List.length_take_le' _ _
  have hnt : (Ns.take 300).length = min 300 Ns.length := List.length_take
  have hn300 : (Ns.take 300).length ≤ 300 := by rw [hnt]; omega
  have hnle : (Ns.take 300).length ≤ Ns.length := List.length_take_le' _ _
  clear hA0 hval0
  refine (lists_any ma na oa qa ra Ms.length mc Ns.length nc oc qc og oo qg qo mg mo ng no rg ro rc (Ms.take 300) (Ns.take 300) Os Qs op rt u v W (by rw [hmt]; omega) (by rw [hnt]; omega) (by omega) (by omega) hm300 hn300 (hm1.take 300) (fun z => ⟨by have := (hm2 z).1; omega, (hm2 z).2⟩) (hn1.take 300) (fun z => ⟨by have := (hn2 z).1; omega, (hn2 z).2⟩) ho1 ho2 ho3 hq1 hq2 hq3 hr1).mono fun e W' ⟨he, bel⟩ => ?_
  subst he
  exact ⟨_, rfl, _, _, _, [], _, [], hW', trodAll_mk1 (shut_bool Try.underlying4 _), trodAll_mk1 (Below.trod laidOut (by kernel_rfl) (of_decide_eq_true (by kernel_rfl)) k0 bel lt0), rfl, bel.frame _, fun h => by cases h⟩

/-- For every input ModelLists returns true, and its argument reads as before. -/
theorem modelLists_proved : Rows.ModelListsSaid :=
  OpenClaim.holds_of_wide 3 Try.f3 rfl rfl rfl rfl rfl rfl rfl ⟨rfl, rfl, rfl, rfl, rfl⟩ rfl rfl rfl rfl rfl (by kernel_rfl) Try.func3 (by kernel_rfl)
    (of_decide_eq_true (by kernel_rfl)) (by unfold Func.isWrapper; first | (rw [if_pos (by decide +kernel)]; kernel_rfl) | (rw [if_neg (by decide +kernel)]; exact ⟨rfl, rfl⟩))
    (fun os started H enc _ => lists_lifted os started H enc)
#print axioms modelLists_proved
end Go.Proofs.Ytjpfgfcggekklaa

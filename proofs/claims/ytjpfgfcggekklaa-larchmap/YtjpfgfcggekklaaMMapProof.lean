/- Proved: whatever the Look, LarchMap returns true, and its argument reads as before: behind any operations the map's keys rise, what is there is found and got, ranges, neighbours and ends are those of the pairs. -/
import Derived.Test.YtjpfgfcggekklaaMT4
import Derived.Test.YtjpfgfcggekklaaMOpen
namespace Go.Proofs.Ytjpfgfcggekklaa
open Go.ChangeShapes Go.WideShapes Go.ChangeAt Go.RowKit Go.Deep

theorem clook : Try.prog.cellsOf 62 = 4 := by kernel_rfl
section
variable {H : Type} {enc : TypeId × Value → H} {w : World}
theorem open_look {n : Nat} {cs : List Value} {x : DataW H × List MemPlace} (h : DataW.trod enc Try.prog w 0 (fun _ => true) true n 62 cs = some x) :
    ∃ (ma oa : Option Addr) (mc mg mo og oo oc : Nat) (Ms : PL) (Os : List OpD) (u v : Int), cs = [.slice ma Ms.length mc, .slice oa Os.length oc, .int .i64 u, .int .i64 v] ∧
      PairsAt w ma mg mo Ms ∧ NilOk ma Ms.length mc ∧ Ms.length ≤ mc ∧ OpsAt w oa og oo Os := by
  obtain ⟨y0, y1, y2, y3, m, _, hl, g0, g1, g2, g3⟩ := Go.Joins.trod_struct4 Try.underlying62 h
  rw [clook] at hl
  simp only [ci, cps, cops] at g0 g1 g2 g3
  match cs, hl with
  | [v0, v1, v2, v3], _ =>
    simp at g0 g1 g2 g3
    obtain ⟨ma, mc, mg, mo, Ms, e0, hm1, hm2, hm3, _⟩ := open_pairs g0
    obtain ⟨oa, oc, og, oo, Os, e1, ho1, _, _⟩ := open_ops g1
    obtain ⟨u, e2, _, _⟩ := DataW.trod_int Try.underlying3 g2
    obtain ⟨v, e3, _, _⟩ := DataW.trod_int Try.underlying3 g3
    simp at e0 e1 e2 e3
    exact ⟨ma, oa, mc, mg, mo, og, oo, oc, Ms, Os, u, v, by rw [e0, e1, e2, e3], hm1, hm2, hm3, ho1⟩
end

set_option maxRecDepth 100000 in
theorem map_lifted (os : Os) (started : os.Started) (H : Type) (enc : TypeId × Value → H) :
    ReturnsInHanded {} Try.checked os 7 .any (Rows.larchMapSpec.pre6 enc Try.prog Try.f7 Rows.larchMapRow.domain false) (Rows.larchMapSpec.post enc Try.prog Try.f7 false true false false) := by
  refine returnsInHanded_of_change_sized (C := Try.checked) own started (by kernel_rfl) Try.func7
    (ChangeSpec.witness6 (enc := enc) (C := Try.checked) false ⟨#[], #[.agg #[.slice none 0 0, .slice none 0 0, .int .i64 0, .int .i64 0]], []⟩ 8 (by kernel_rfl) (by kernel_rfl) (by kernel_rfl) (by kernel_rfl)) ?_
  intro W base args ds gs before hval0 hW _ hsz0 _
  have hval : ∀ (j : Nat) t v, Try.f7.params[j]? = some t → args[j]? = some v → Value.okWide Try.prog W .any base t v := hval0
  have hW' := hW
  obtain ⟨p, q, hA0, hV, rfl, hfz, hnd⟩ := hW
  have hA : DataW.TrodAll enc Try.prog W 0 (fun _ => true) true Try.f7.params.toList args.toList ds p := hA0
  rw [Try.params7] at hA hval
  obtain ⟨v0, d0, rfl, rfl, h0⟩ := trodAll_one hA
  obtain ⟨rfl, rfl⟩ := trodVars_none hV
  obtain ⟨cs, rfl, hcs⟩ := okWide_struct Try.underlying62 (hval 0 62 v0 rfl rfl)
  have k0 := h0
  have lt0 : ∀ x ∈ p, x.block < W.heap.size := by obtain ⟨m, hm⟩ := k0; exact DataW.trod_lt m _ _ _ hm
  obtain ⟨fuel0, hf0⟩ := h0
  obtain ⟨ma, oa, mc, mg, mo, og, oo, oc, Ms, Os, u, v, e, hm1, hm2, hm3, ho1⟩ := open_look hf0
  have hcs2 : cs = #[.slice ma Ms.length mc, .slice oa Os.length oc, .int .i64 u, .int .i64 v] := by
    apply Array.ext'
    simpa [Value.cells] using e
  subst hcs2
  clear hA0 hval0
  refine (map_any ma oa mc mg mo oc og oo Ms Os u v W hm1 hm2 hm3 ho1).mono fun e W' ⟨he, bel⟩ => ?_
  subst he
  exact ⟨_, rfl, _, _, _, [], _, [], hW', trodAll_mk1 (shut_bool Try.underlying4 _), trodAll_mk1 (Below.trod laidOut (by kernel_rfl) (of_decide_eq_true (by kernel_rfl)) k0 bel lt0), rfl, bel.frame _, fun h => by cases h⟩

/-- For every input LarchMap returns true, and its argument reads as before. -/
theorem larchMap_proved : Rows.LarchMapSaid :=
  OpenClaim.holds_of_wide 7 Try.f7 rfl rfl rfl rfl rfl rfl rfl ⟨rfl, rfl, rfl, rfl, rfl⟩ rfl rfl rfl rfl rfl (by kernel_rfl) Try.func7 (by kernel_rfl)
    (of_decide_eq_true (by kernel_rfl)) (by unfold Func.isWrapper; first | (rw [if_pos (by decide +kernel)]; kernel_rfl) | (rw [if_neg (by decide +kernel)]; exact ⟨rfl, rfl⟩))
    (fun os started H enc _ => map_lifted os started H enc)
#print axioms larchMap_proved
end Go.Proofs.Ytjpfgfcggekklaa

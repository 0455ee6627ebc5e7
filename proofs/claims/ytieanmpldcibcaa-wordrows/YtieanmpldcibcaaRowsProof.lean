/- Proved: whatever the kind, the start and the accesses, WordRows returns true, and its arguments read as before: by the landed word.Do and word.Steps a row of accesses is its beginning and then the rest from what that left, and Steps ends where Do does. -/
import Derived.Test.YtieanmpldcibcaaRowsW
import Derived.Test.YtieanmpldcibcaaOpenActs
namespace Go.Proofs.Ytieanmpldcibcaa
open Go.ChangeShapes Go.WideShapes Go.ChangeAt Go.RowKit Go.Deep

theorem rows_any (k start : Int) (hs : U64 start) (ab ao n cap : Nat) (dk da db : Nat → Int) (w : World) (base : Option Addr) (h : Acts w base ab ao n dk da db) (hcap : n ≤ cap) (hnil : base = none → n = 0 ∧ cap = 0) (hbytes : n * 24 ≤ 140737488355328) :
    Calls Try.prog 3 #[.int .i64 k, .int .u64 start, .slice base n cap] w fun e w' => e = .returned (.bool true) ∧ Below w.heap.size w w' := by
  by_cases he : rowErr k n dk = 0
  · obtain ⟨h1, h2, h3⟩ := rowErr_zero he
    by_cases h0 : n = 0
    · subst h0
      refine rows_zero k start hs cap w base ?_ h1
      cases base with
      | none => exact Or.inl ⟨rfl, (hnil rfl).2⟩
      | some a => exact Or.inr ⟨a, rfl⟩
    · obtain rfl : base = some ⟨ab, ao, none⟩ := h.base h0
      exact rows_ok k start hs ab ao n (n / 2) cap dk da db w h hcap he h2 (by omega) (by omega) (by omega)
  · exact rows_err k start ab ao n cap dk da db w base h hbytes he

theorem own : ownKnob Try.prog.godebug = none := by kernel_rfl
theorem laidOut : laidOutB Try.prog = true := by kernel_rfl

set_option maxRecDepth 100000 in
theorem rows_lifted (os : Os) (started : os.Started) (H : Type) (enc : TypeId × Value → H) :
    ReturnsInHanded {} Try.checked os 3 .any (Rows.wordRowsSpec.pre6 enc Try.prog Try.f3 Rows.wordRowsRow.domain false) (Rows.wordRowsSpec.post enc Try.prog Try.f3 false true false false) := by
  refine returnsInHanded_of_change_sized (C := Try.checked) own started (by kernel_rfl) Try.func3
    (ChangeSpec.witness6 (enc := enc) (C := Try.checked) false ⟨#[], #[.int .i64 0, .int .u64 0, .slice none 0 0], []⟩ 8 (by kernel_rfl) (by kernel_rfl) (by kernel_rfl) (by kernel_rfl)) ?_
  intro W base args ds gs before hval0 hW _ hsz0 _
  have hsz : (DataW.weightsEach Try.prog (Try.f3.params.toList ++ Rows.wordRowsSpec.plain.varTypes Try.prog) (ds ++ gs)).all (· ≤ reachBytes) = true := hsz0
  have hval : ∀ (j : Nat) t v, Try.f3.params[j]? = some t → args[j]? = some v → Value.okWide Try.prog W .any base t v := hval0
  have hW' := hW
  obtain ⟨p, q, hA0, hV, rfl, hfz, hnd⟩ := hW
  have hA : DataW.TrodAll enc Try.prog W 0 (fun _ => true) true Try.f3.params.toList args.toList ds p := hA0
  rw [Try.params3] at hA hval hsz
  obtain ⟨v0, v1, v2, d0, d1, d2, p0, p1, p2, rfl, rfl, rfl, h0, h1, h2⟩ := trodAll_three hA
  obtain ⟨rfl, rfl⟩ := trodVars_none hV
  obtain ⟨a0, rfl, rfl, rfl, w0⟩ := open_int Try.underlying3 (hval 0 3 v0 rfl rfl) h0
  obtain ⟨a1, rfl, rfl, rfl, w1⟩ := open_int Try.underlying22 (hval 1 22 v1 rfl rfl) h1
  obtain ⟨ad, len, cap, rfl⟩ := okWide_slice Try.underlying23 (hval 2 23 v2 rfl rfl)
  have k2 := h2
  have lt2 : ∀ x ∈ p2, x.block < W.heap.size := by obtain ⟨m, hm⟩ := k2; exact DataW.trod_lt m _ _ _ hm
  obtain ⟨fuel, hf⟩ := h2
  obtain ⟨ab, ao, dk, da, db, hacts, hcap, hnil, hsome, hdat⟩ := open_acts (T := 23) (E := 51) Try.underlying23 Try.underlying51 (by kernel_rfl) rfl rfl rfl rfl rfl rfl hf
  have hbytes : len * 24 ≤ 140737488355328 := by
    rcases hdat with h | ⟨el, sp, hd, hl⟩
    · omega
    · simp at hd
      subst hd
      have := sized_slice hsz (j := 2) (t := 23) (e := 51) rfl rfl Try.underlying23
      have hb : Try.prog.bytesOf 51 = 24 := by kernel_rfl
      rw [hb] at this
      simp only [reachBytes] at this
      omega
  clear hA0 hval0
  refine (rows_any a0 a1 (u64_wf w1) ab ao len cap dk da db W ad hacts hcap hnil hbytes).mono fun e W' ⟨he, bel⟩ => ?_
  subst he
  exact ⟨_, rfl, _, _, _, [], _, [], hW', trodAll_mk1 (shut_bool Try.underlying4 _), trodAll_mk3 (shut_int Try.underlying3 w0) (shut_int Try.underlying22 w1) (Below.trod laidOut (by kernel_rfl) (of_decide_eq_true (by kernel_rfl)) k2 bel lt2), rfl, bel.frame _, fun h => by cases h⟩

/-- For every input WordRows returns true, and its arguments read as before. -/
theorem wordRows_proved : Rows.WordRowsSaid :=
  OpenClaim.holds_of_wide 3 Try.f3 rfl rfl rfl rfl rfl rfl rfl ⟨rfl, rfl, rfl, rfl, rfl⟩ rfl rfl rfl rfl rfl (by kernel_rfl) Try.func3 (by kernel_rfl)
    (of_decide_eq_true (by kernel_rfl)) (by unfold Func.isWrapper; first | (rw [if_pos (by decide +kernel)]; kernel_rfl) | (rw [if_neg (by decide +kernel)]; exact ⟨rfl, rfl⟩))
    (fun os started H enc _ => rows_lifted os started H enc)
#print axioms wordRows_proved
end Go.Proofs.Ytieanmpldcibcaa

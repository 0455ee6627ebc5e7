/- Proved: whatever the kind, the start and the accesses, LarchOneWins returns true, and its arguments read as before: by the landed word.Do and word.Steps a row of accesses is the accesses one by one. -/
import Derived.Test.YtieanmpldcibcaaWins2
import Derived.Test.YtieanmpldcibcaaWins3
import Derived.Test.YtieanmpldcibcaaOpenActs
namespace Go.Proofs.Ytieanmpldcibcaa
open Go.ChangeShapes Go.WideShapes Go.ChangeAt Go.RowKit Go.Deep

theorem rowErr_five {k : Int} {n : Nat} {dk : Nat → Int} (hn : n ≤ 10000) (h : ¬ rowErr k n dk = 0) : rowErr k n dk = 5 := by
  unfold rowErr at h ⊢
  by_cases h1 : isK k = true
  · rw [if_pos h1, if_neg (by omega)] at h ⊢
    split
    · rename_i h2; rw [if_pos h2] at h; exact absurd rfl h
    · rfl
  · rw [if_neg h1]

theorem wins_any (k start : Int) (hs : U64 start) (ab ao n cap : Nat) (dk da db : Nat → Int) (w : World) (base : Option Addr) (h : Acts w base ab ao n dk da db) (hcap : n ≤ cap) (hnil : base = none → n = 0 ∧ cap = 0) :
    Calls Try.prog 4 #[.int .i64 k, .int .u64 start, .slice base n cap] w fun e w' => e = .returned (.bool true) ∧ Below w.heap.size w w' := by
  by_cases h0 : n = 0
  · subst h0
    have hbc : base = none ∧ cap = 0 ∨ ∃ a, base = some a := by
      cases base with
      | none => exact Or.inl ⟨rfl, (hnil rfl).2⟩
      | some a => exact Or.inr ⟨a, rfl⟩
    by_cases hk : isK k = true
    · exact wins_zero k start hs cap w base hbc hk
    · exact wins_zero_err k start cap w base hbc (by simpa using hk)
  · obtain rfl : base = some ⟨ab, ao, none⟩ := h.base h0
    by_cases hN : 200 < n
    · have h' := Acts.left h (m := 200) (by omega)
      by_cases he : rowErr k 200 dk = 0
      · exact wins_ok200 k start hs ab ao n cap dk da db w h' hN hcap he
      · exact wins_err200 k start ab ao n cap dk da db w h' hN hcap (rowErr_five (by omega) he)
    · by_cases he : rowErr k n dk = 0
      · exact wins_ok k start hs ab ao n cap dk da db w h (by omega) (by omega) he
      · exact wins_err k start ab ao n cap dk da db w h (by omega) (by omega) (rowErr_five (by omega) he)

theorem own : ownKnob Try.prog.godebug = none := by kernel_rfl
theorem laidOut : laidOutB Try.prog = true := by kernel_rfl

set_option maxRecDepth 100000 in
theorem wins_lifted (os : Os) (started : os.Started) (H : Type) (enc : TypeId × Value → H) :
    ReturnsInHanded {} Try.checked os 4 .any (Rows.larchOneWinsSpec.pre6 enc Try.prog Try.f4 Rows.larchOneWinsRow.domain false) (Rows.larchOneWinsSpec.post enc Try.prog Try.f4 false true false false) := by
  refine returnsInHanded_of_change (C := Try.checked) own started (by kernel_rfl) Try.func4
    (ChangeSpec.witness6 (enc := enc) (C := Try.checked) false ⟨#[], #[.int .i64 0, .int .u64 0, .slice none 0 0], []⟩ 8 (by kernel_rfl) (by kernel_rfl) (by kernel_rfl) (by kernel_rfl)) ?_
  intro W base args ds gs before hval0 hW _ _
  have hval : ∀ (j : Nat) t v, Try.f4.params[j]? = some t → args[j]? = some v → Value.okWide Try.prog W .any base t v := hval0
  have hW' := hW
  obtain ⟨p, q, hA0, hV, rfl, hfz, hnd⟩ := hW
  have hA : DataW.TrodAll enc Try.prog W 0 (fun _ => true) true Try.f4.params.toList args.toList ds p := hA0
  rw [Try.params4] at hA hval
  obtain ⟨v0, v1, v2, d0, d1, d2, p0, p1, p2, rfl, rfl, rfl, h0, h1, h2⟩ := trodAll_three hA
  obtain ⟨rfl, rfl⟩ := trodVars_none hV
  obtain ⟨a0, rfl, rfl, rfl, w0⟩ := open_int Try.underlying3 (hval 0 3 v0 rfl rfl) h0
  obtain ⟨a1, rfl, rfl, rfl, w1⟩ := open_int Try.underlying22 (hval 1 22 v1 rfl rfl) h1
  obtain ⟨ad, len, cap, rfl⟩ := okWide_slice Try.underlying29 (hval 2 29 v2 rfl rfl)
  have k2 := h2
  have lt2 : ∀ x ∈ p2, x.block < W.heap.size := by obtain ⟨m, hm⟩ := k2; exact DataW.trod_lt m _ _ _ hm
  obtain ⟨fuel, hf⟩ := h2
  obtain ⟨ab, ao, dk, da, db, hacts, hcap, hnil, _, _⟩ := open_acts (T := 29) (E := 38) Try.underlying29 Try.underlying38 (by kernel_rfl) rfl rfl rfl rfl rfl rfl hf
  clear hA0 hval0
  refine (wins_any a0 a1 (u64_wf w1) ab ao len cap dk da db W ad hacts hcap hnil).mono fun e W' ⟨he, bel⟩ => ?_
  subst he
  exact ⟨_, rfl, _, _, _, [], _, [], hW', trodAll_mk1 (shut_bool Try.underlying4 _), trodAll_mk3 (shut_int Try.underlying3 w0) (shut_int Try.underlying22 w1) (Below.trod laidOut (by kernel_rfl) (of_decide_eq_true (by kernel_rfl)) k2 bel lt2), rfl, bel.frame _, fun h => by cases h⟩

/-- For every input LarchOneWins returns true, and its arguments read as before. -/
theorem larchOneWins_proved : Rows.LarchOneWinsSaid :=
  OpenClaim.holds_of_wide 4 Try.f4 rfl rfl rfl rfl rfl rfl rfl ⟨rfl, rfl, rfl, rfl, rfl⟩ rfl rfl rfl rfl rfl (by kernel_rfl) Try.func4 (by kernel_rfl)
    (of_decide_eq_true (by kernel_rfl)) (by unfold Func.isWrapper; first | (rw [if_pos (by decide +kernel)]; kernel_rfl) | (rw [if_neg (by decide +kernel)]; exact ⟨rfl, rfl⟩))
    (fun os started H enc _ => wins_lifted os started H enc)
#print axioms larchOneWins_proved
end Go.Proofs.Ytieanmpldcibcaa

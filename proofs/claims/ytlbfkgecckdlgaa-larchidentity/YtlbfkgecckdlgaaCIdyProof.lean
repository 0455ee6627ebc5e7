/- Proved: whatever the cells, the number of things and the acts, LarchIdentity returns true, and its arguments read as before: the cells of the landed cell.Ids hold things, not their contents, and each access passes the gate once. -/
import Derived.Test.YtlbfkgecckdlgaaCIdy3
import Derived.Test.YtlbfkgecckdlgaaCIdy4
import Derived.Test.YtlbfkgecckdlgaaCOpen
namespace Go.Proofs.Ytlbfkgecckdlgaa
open Go.ChangeShapes Go.WideShapes Go.ChangeAt Go.RowKit Go.Deep

theorem idy_any (cb co m ca ab ao n cap : Nat) (T : Int) (x base : Option Addr) (f dk di da db : Nat → Int) (w : World) (hx : NumsAt w x cb co m f) (hxn : x = none → m = 0 ∧ ca = 0) (hm8 : m * 8 ≤ 140737488355328) (h : CActs w base ab ao n dk di da db) (hbn : base = none → n = 0 ∧ cap = 0) (hnc : n ≤ cap) :
    Calls Try.prog 10 #[.slice x m ca, .int .i64 T, .slice base n cap] w fun e w' => e = .returned (.bool true) ∧ Below w.heap.size w w' := by
  by_cases hb : 200 < n
  · exact idy_great cb co m ca ab ao n cap T x base f dk di da db w hx hxn hm8 h hbn hnc hb
  · exact idy_small cb co m ca ab ao n cap T x base f dk di da db w hx hxn hm8 h hbn hb

set_option maxRecDepth 100000 in
theorem idy_lifted (os : Os) (started : os.Started) (H : Type) (enc : TypeId × Value → H) :
    ReturnsInHanded {} Try.checked os 10 .any (Rows.larchIdentitySpec.pre6 enc Try.prog Try.f10 Rows.larchIdentityRow.domain false) (Rows.larchIdentitySpec.post enc Try.prog Try.f10 false true false false) := by
  refine returnsInHanded_of_change_sized (C := Try.checked) own started (by kernel_rfl) Try.func10
    (ChangeSpec.witness6 (enc := enc) (C := Try.checked) false ⟨#[], #[.slice none 0 0, .int .i64 0, .slice none 0 0], []⟩ 8 (by kernel_rfl) (by kernel_rfl) (by kernel_rfl) (by kernel_rfl)) ?_
  intro W base args ds gs before hval0 hW _ hsz0 _
  have hsz : (DataW.weightsEach Try.prog (Try.f10.params.toList ++ Rows.larchIdentitySpec.plain.varTypes Try.prog) (ds ++ gs)).all (· ≤ reachBytes) = true := hsz0
  have hval : ∀ (j : Nat) t v, Try.f10.params[j]? = some t → args[j]? = some v → Value.okWide Try.prog W .any base t v := hval0
  have hW' := hW
  obtain ⟨p, q, hA0, hV, rfl, hfz, hnd⟩ := hW
  have hA : DataW.TrodAll enc Try.prog W 0 (fun _ => true) true Try.f10.params.toList args.toList ds p := hA0
  rw [Try.params10] at hA hval hsz
  obtain ⟨v0, v2, v1, d0, d2, d1, p0, p2, p1, rfl, rfl, rfl, h0, h2, h1⟩ := trodAll_three hA
  obtain ⟨rfl, rfl⟩ := trodVars_none hV
  obtain ⟨ad, m, ca, rfl⟩ := okWide_slice Try.underlying22 (hval 0 22 v0 rfl rfl)
  obtain ⟨a2, rfl, rfl, rfl, w2⟩ := open_int Try.underlying3 (hval 1 3 v2 rfl rfl) h2
  obtain ⟨bd, len, cap, rfl⟩ := okWide_slice Try.underlying30 (hval 2 30 v1 rfl rfl)
  have k0 := h0
  have k1 := h1
  have lt0 : ∀ x ∈ p0, x.block < W.heap.size := by obtain ⟨m, hm⟩ := k0; exact DataW.trod_lt m _ _ _ hm
  have lt1 : ∀ x ∈ p1, x.block < W.heap.size := by obtain ⟨m, hm⟩ := k1; exact DataW.trod_lt m _ _ _ hm
  obtain ⟨fuel0, hf0⟩ := h0
  obtain ⟨fuel1, hf1⟩ := h1
  obtain ⟨cb, co, f, hnums, _, _, hnil0, hdat0⟩ := open_nums hf0
  obtain ⟨ab, ao, dk, di, da, db, hacts, _, hcap, hnil, hdat⟩ := open_cacts (T := 30) (E := 36) Try.underlying30 Try.underlying36 (by kernel_rfl) rfl rfl rfl rfl rfl rfl rfl rfl hf1
  have hm8 : m * 8 ≤ 140737488355328 := by
    rcases hdat0 with h | ⟨el, sp, hd, hl⟩
    · omega
    · simp at hd
      subst hd
      have := sized_slice hsz (j := 0) (t := 22) (e := 3) rfl rfl Try.underlying22
      have hb : Try.prog.bytesOf 3 = 8 := by kernel_rfl
      rw [hb] at this
      simp only [reachBytes] at this
      omega
  clear hA0 hval0
  refine (idy_any cb co m ca ab ao len cap a2 ad bd f dk di da db W hnums hnil0 hm8 hacts hnil hcap).mono fun e W' ⟨he, bel⟩ => ?_
  subst he
  exact ⟨_, rfl, _, _, _, [], _, [], hW', trodAll_mk1 (shut_bool Try.underlying4 _), trodAll_mk3 (Below.trod laidOut (by kernel_rfl) (of_decide_eq_true (by kernel_rfl)) k0 bel lt0) (shut_int Try.underlying3 w2) (Below.trod laidOut (by kernel_rfl) (of_decide_eq_true (by kernel_rfl)) k1 bel lt1), rfl, bel.frame _, fun h => by cases h⟩

/-- For every input LarchIdentity returns true, and its arguments read as before. -/
theorem larchIdentity_proved : Rows.LarchIdentitySaid :=
  OpenClaim.holds_of_wide 10 Try.f10 rfl rfl rfl rfl rfl rfl rfl ⟨rfl, rfl, rfl, rfl, rfl⟩ rfl rfl rfl rfl rfl (by kernel_rfl) Try.func10 (by kernel_rfl)
    (of_decide_eq_true (by kernel_rfl)) (by unfold Func.isWrapper; first | (rw [if_pos (by decide +kernel)]; kernel_rfl) | (rw [if_neg (by decide +kernel)]; exact ⟨rfl, rfl⟩))
    (fun os started H enc _ => idy_lifted os started H enc)
#print axioms larchIdentity_proved
end Go.Proofs.Ytlbfkgecckdlgaa

/- Proved: whatever the two numbers, CellRound returns true, and its arguments read as before: Add there and back, Swap there and back, Cas there and back, Or and And on one number of the landed cell.Num. -/
import Derived.Test.YtlbfkgecckdlgaaCRound2
import Derived.Test.YtlbfkgecckdlgaaCLift
namespace Go.Proofs.Ytlbfkgecckdlgaa
open Go.ChangeShapes Go.WideShapes Go.ChangeAt Go.RowKit

theorem ofInt_emod (x : Int) (a : Nat) (h : x % 18446744073709551616 = (a : Int) % 18446744073709551616) : BitVec.ofInt 64 x = BitVec.ofNat 64 a := by
  apply BitVec.eq_of_toInt_eq
  rw [← BitVec.ofInt_natCast, BitVec.toInt_ofInt, BitVec.toInt_ofInt, ← Int.emod_bmod, show (((2 ^ 64 : Nat) : Nat) : Int) = 18446744073709551616 from rfl, h]
  exact Int.emod_bmod _ _

theorem wrap_emod (x : Int) : IntKind.i64.wrap x % 18446744073709551616 = x % 18446744073709551616 := by
  rw [IntKind.wrap_i64]; omega
theorem wrap_back {d : Int} (hd : I64 d) (x : Int) (h : x % 18446744073709551616 = d % 18446744073709551616) : IntKind.i64.wrap x = d := by
  rw [IntKind.wrap_i64]; unfold I64 at hd; omega

theorem absorb {n d : Int} (hd : I64 d) : bits .and .i64 (bits .or .i64 n d) d = d := by
  show IntKind.i64.wrap ((BitVec.ofInt 64 (IntKind.i64.wrap ((BitVec.ofInt 64 n ||| BitVec.ofInt 64 d).toNat : Int)) &&& BitVec.ofInt 64 d).toNat : Int) = d
  rw [ofInt_emod (IntKind.i64.wrap ((BitVec.ofInt 64 n ||| BitVec.ofInt 64 d).toNat : Int)) (BitVec.ofInt 64 n ||| BitVec.ofInt 64 d).toNat (wrap_emod _), BitVec.ofNat_toNat, BitVec.setWidth_eq]
  have e : (BitVec.ofInt 64 n ||| BitVec.ofInt 64 d) &&& BitVec.ofInt 64 d = BitVec.ofInt 64 d := by
    ext i
    simp
    intro h
    exact Or.inr h
  rw [e]
  apply wrap_back hd
  rw [BitVec.toNat_ofInt]
  omega

theorem round_any (n d : Int) (hn : I64 n) (hd : I64 d) (w : World) :
    Calls Try.prog 6 #[.int .i64 n, .int .i64 d] w fun e w' => e = .returned (.bool true) ∧ Below w.heap.size w w' := by
  refine round_walk n d _ _ _ w rfl rfl ?_ ?_ rfl (absorb hd)
  · show IntKind.i64.wrap (n + d) = wrap64 (n + d)
    rw [IntKind.wrap_i64]; unfold wrap64; rfl
  · show IntKind.i64.wrap (wrap64 (n + d) + wrap64 (-d)) = n
    rw [IntKind.wrap_i64]
    unfold I64 wrap64 at *
    omega

set_option maxRecDepth 100000 in
theorem round_lifted (os : Os) (started : os.Started) (H : Type) (enc : TypeId × Value → H) :
    ReturnsInHanded {} Try.checked os 6 .any (Rows.cellRoundSpec.pre6 enc Try.prog Try.f6 Rows.cellRoundRow.domain false) (Rows.cellRoundSpec.post enc Try.prog Try.f6 false true false false) := by
  refine returnsInHanded_of_change (C := Try.checked) own started (by kernel_rfl) Try.func6
    (ChangeSpec.witness6 (enc := enc) (C := Try.checked) false ⟨#[], #[.int .i64 0, .int .i64 0], []⟩ 8 (by kernel_rfl) (by kernel_rfl) (by kernel_rfl) (by kernel_rfl)) ?_
  intro W base args ds gs before hval0 hW hcnd _
  have hval : ∀ (j : Nat) t v, Try.f6.params[j]? = some t → args[j]? = some v → Value.okWide Try.prog W .any base t v := hval0
  have hW' := hW
  obtain ⟨p, q, hA0, hV, rfl, hfz, hnd⟩ := hW
  have hA : DataW.TrodAll enc Try.prog W 0 (fun _ => true) true Try.f6.params.toList args.toList ds p := hA0
  rw [Try.params6] at hA hval
  obtain ⟨v0, vs0, d0, ds0, p0, q0, hargs, rfl, rfl, h0, r0⟩ := trodAll_cons hA
  obtain ⟨v1, vs1, d1, ds1, p1, q1, rfl, rfl, rfl, h1, r1⟩ := trodAll_cons r0
  obtain ⟨rfl, rfl, rfl⟩ := trodAll_nil r1
  obtain rfl : args = #[v0, v1] := by cases args; simp_all
  obtain ⟨rfl, rfl⟩ := trodVars_none hV
  obtain ⟨a0, rfl, rfl, rfl, w0⟩ := open_int Try.underlying3 (hval 0 3 v0 rfl rfl) h0
  obtain ⟨a1, rfl, rfl, rfl, w1⟩ := open_int Try.underlying3 (hval 1 3 v1 rfl rfl) h1
  clear hA0 hval0
  simp only [List.append_nil] at hW'
  refine (round_any a0 a1 (i64_wf w0) (i64_wf w1) W).mono fun e W' ⟨he, bel⟩ => ?_
  subst he
  exact ⟨_, rfl, _, _, _, [], [], [], hW', trodAll_mk1 (shut_bool Try.underlying4 _), (trodAll_cons_mk (shut_int Try.underlying3 w0) (trodAll_cons_mk (shut_int Try.underlying3 w1) trodAll_mk0)), rfl, bel.frame _, fun h => by cases h⟩

/-- For every input CellRound returns true, and its arguments read as before. -/
theorem cellRound_proved : Rows.CellRoundSaid :=
  OpenClaim.holds_of_wide 6 Try.f6 rfl rfl rfl rfl rfl rfl rfl ⟨rfl, rfl, rfl, rfl, rfl⟩ rfl rfl rfl rfl rfl (by kernel_rfl) Try.func6 (by kernel_rfl)
    (of_decide_eq_true (by kernel_rfl)) (by unfold Func.isWrapper; first | (rw [if_pos (by decide +kernel)]; kernel_rfl) | (rw [if_neg (by decide +kernel)]; exact ⟨rfl, rfl⟩))
    (fun os started H enc _ => round_lifted os started H enc)
#print axioms cellRound_proved
end Go.Proofs.Ytlbfkgecckdlgaa

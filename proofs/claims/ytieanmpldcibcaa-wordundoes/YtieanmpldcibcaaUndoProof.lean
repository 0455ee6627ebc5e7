/- Proved: whatever the kind, the start and the number, WordUndoes returns true, and its arguments read as before: adding and taking away, swaps and compare-and-swaps undo each other by the landed word.Do. -/
import Derived.Test.YtieanmpldcibcaaUndo
import Derived.ProofKit
import Derived.OpenShut
namespace Go.Proofs.Ytieanmpldcibcaa
open Go.ChangeShapes Go.WideShapes Go.ChangeAt Go.RowKit

theorem oneIs (k start d a b : Int) (hs : U64 start) (ha : U64 a) (hb : U64 b) (h1 : isK k = true) (h2 : can k d = true) (o : Int) (q : Bool) (x : Int) (eo : ov k (cut k start) d a = o) (eq : ok k (cut k start) d a = q) (ex : nx k (cut k start) d a b = x) : OneIs k start d a b o q x := by
  intro W
  rw [← eo, ← eq, ← ex]
  exact one_ok k start d a b hs ha hb h1 h2 W

theorem cutIs (k s : Int) (hs : U64 s) : CutIs k s (cut k s) := by
  intro W
  refine (refCut_any k s hs W).mono ?_
  rintro e w' ⟨rfl, rfl⟩
  exact ⟨rfl, rfl⟩

theorem u64_zero : U64 0 := by unfold U64; omega
theorem u64_cut (k s : Int) : U64 (cut k s) := Cn_u64 (Cn_cut k s)
theorem wrap_u64 (n : Int) : U64 (IntKind.u64.wrap n) := by rw [IntKind.wrap_u64]; unfold U64; omega

theorem can_all {k d : Int} (hd : d = 1 ∨ d = 2 ∨ d = 4 ∨ d = 5) : can k d = true := by rcases hd with rfl | rfl | rfl | rfl <;> simp [can]
theorem can_num {k d : Int} (hk : k ≠ 5) (hd : d = 3 ∨ d = 6 ∨ d = 7) : can k d = true := by rcases hd with rfl | rfl | rfl <;> simp [can, hk]

theorem cut_back (k v n : Int) (hk : k ≠ 5) (hv : Cn k v) : cut k (cut k (cut k (v + n)) + IntKind.u64.wrap (-n)) = v := by
  rw [cut_cut, IntKind.wrap_u64]
  unfold Cn cut at *
  rw [if_neg hk] at hv ⊢
  split at hv
  · rename_i h
    rw [if_neg hk, if_pos h, if_pos h] at *
    unfold lo32 at *
    omega
  · rename_i h
    rw [if_neg hk, if_neg h, if_neg h] at *
    unfold lo64 at *
    omega

theorem and_self' {k v : Int} (hv : Cn k v) : ((v.toNat &&& (cut k v).toNat : Nat) : Int) = v := by
  rw [hv, Nat.and_self]
  have := (Cn_u64 hv).1
  omega
theorem or_self' {k v : Int} (hv : Cn k v) : ((v.toNat ||| (cut k v).toNat : Nat) : Int) = v := by
  rw [hv, Nat.or_self]
  have := (Cn_u64 hv).1
  omega

theorem undoes_any (k start n : Int) (hs : U64 start) (hn : U64 n) (w : World) :
    Calls Try.prog 5 #[.int .i64 k, .int .u64 start, .int .u64 n] w fun e w' => e = .returned (.bool true) ∧ Below w.heap.size w w' := by
  by_cases hk : isK k = true
  · have hV : Cn k (cut k start) := Cn_cut k start
    have hC : Cn k (cut k n) := Cn_cut k n
    have uv := u64_cut k start
    have uc := u64_cut k n
    have H1 : OneIs k start 4 n 0 (cut k start) true (cut k n) := oneIs _ _ _ _ _ hs hn u64_zero hk (can_all (by omega)) _ _ _ (by simp [ov]) (by simp [ok]) (by simp [nx])
    have H2 : OneIs k (cut k n) 4 (cut k start) 0 (cut k n) true (cut k start) := oneIs _ _ _ _ _ uc uv u64_zero hk (can_all (by omega)) _ _ _ (by simp [ov]; exact hC) (by simp [ok]) (by simp [nx]; exact hV)
    have H3 : OneIs k start 5 n (cut k start) 0 (cut k start == cut k n) (cut k start) := oneIs _ _ _ _ _ hs hn uv hk (can_all (by omega)) _ _ _ (by simp [ov]) (by simp [ok]) (by simp [nx]; intro _; exact hV)
    have H4 : OneIs k start 5 (cut k start) n 0 true (cut k n) := oneIs _ _ _ _ _ hs uv hn hk (can_all (by omega)) _ _ _ (by simp [ov]) (by simp [ok]; exact hV.symm) (by simp [nx]; intro h; exact absurd hV.symm h)
    by_cases h5 : k = 5
    · refine undoes_bool k start n (cut k start) (cut k n) (cut k start == cut k n) w hk h5 ?_ (cutIs k start hs) (cutIs k n hn) H1 H2 H3 H4 ?_
      · rw [Bool.eq_iff_iff]; simp; omega
      · intro W g hg t
        subst hg
        have hr : rowErr 5 1 (fun _ => 3) = 5 := by decide
        have hd := Do_err 5 start W.heap.size 0 1 1 (fun _ => 3) (fun _ => n) (fun _ => 0) _ _ (Acts.one W 3 n 0 hn u64_zero t) (by rw [hr]; decide)
        rw [hr] at hd
        refine hd.mono ?_
        rintro e w' ⟨rfl, hb⟩
        exact ⟨rfl, ((Below.refl _ _).alloc (Nat.le_refl _) _).trans (hb.mono (by simp))⟩
    · refine undoes_walk k start n (cut k start) (cut k n) (cut k (cut k start + n)) (cut k start == cut k n) w hk (by simp [h5]) ?_ (cutIs k start hs) (cutIs k n hn) H1 H2 H3 H4 ?_ ?_ ?_ ?_
      · rw [Bool.eq_iff_iff]; simp; omega
      · exact oneIs _ _ _ _ _ hs hn u64_zero hk (can_num h5 (by omega)) _ _ _ (by simp [ov]) (by simp [ok]) (by simp [nx])
      · exact oneIs _ _ _ _ _ (u64_cut _ _) (wrap_u64 _) u64_zero hk (can_num h5 (by omega)) _ _ _ (by simp [ov]; exact cut_back k _ n h5 hV) (by simp [ok]) (by simp [nx]; exact cut_back k _ n h5 hV)
      · exact oneIs _ _ _ _ _ hs uv u64_zero hk (can_num h5 (by omega)) _ _ _ (by simp [ov]) (by simp [ok]) (by simp only [nx]; exact and_self' hV)
      · exact oneIs _ _ _ _ _ hs uv u64_zero hk (can_num h5 (by omega)) _ _ _ (by simp [ov]) (by simp [ok]) (by simp only [nx]; exact or_self' hV)
  · have hk' : isK k = false := by simpa using hk
    refine undoes_none k start n w hk' ?_
    intro W
    have hr : rowErr k 0 (fun _ => 0) = 5 := rowErr_kind hk'
    have hd := Do_err k start 0 0 0 0 (fun _ => 0) (fun _ => 0) (fun _ => 0) W none (Acts.none W) (by rw [hr]; decide)
    rw [hr] at hd
    exact hd

theorem own : ownKnob Try.prog.godebug = none := by kernel_rfl

theorem u64_wf {a : Int} (h : (Lit.int .u64 a).wf = true) : U64 a := by
  simp [Lit.wf, IntKind.min, IntKind.max, IntKind.bits, IntKind.signed] at h
  unfold U64
  omega

set_option maxRecDepth 100000 in
theorem undoes_lifted (os : Os) (started : os.Started) (H : Type) (enc : TypeId × Value → H) :
    ReturnsInHanded {} Try.checked os 5 .any (Rows.wordUndoesSpec.pre6 enc Try.prog Try.f5 Rows.wordUndoesRow.domain false) (Rows.wordUndoesSpec.post enc Try.prog Try.f5 false true false false) := by
  refine returnsInHanded_of_change (C := Try.checked) own started (by kernel_rfl) Try.func5
    (ChangeSpec.witness6 (enc := enc) (C := Try.checked) false ⟨#[], #[.int .i64 0, .int .u64 0, .int .u64 0], []⟩ 8 (by kernel_rfl) (by kernel_rfl) (by kernel_rfl) (by kernel_rfl)) ?_
  intro W base args ds gs before hval0 hW hcnd _
  have hval : ∀ (j : Nat) t v, Try.f5.params[j]? = some t → args[j]? = some v → Value.okWide Try.prog W .any base t v := hval0
  have hW' := hW
  obtain ⟨p, q, hA0, hV, rfl, hfz, hnd⟩ := hW
  have hA : DataW.TrodAll enc Try.prog W 0 (fun _ => true) true Try.f5.params.toList args.toList ds p := hA0
  rw [Try.params5] at hA hval
  obtain ⟨v0, vs0, d0, ds0, p0, q0, hargs, rfl, rfl, h0, r0⟩ := trodAll_cons hA
  obtain ⟨v1, vs1, d1, ds1, p1, q1, rfl, rfl, rfl, h1, r1⟩ := trodAll_cons r0
  obtain ⟨v2, vs2, d2, ds2, p2, q2, rfl, rfl, rfl, h2, r2⟩ := trodAll_cons r1
  obtain ⟨rfl, rfl, rfl⟩ := trodAll_nil r2
  obtain rfl : args = #[v0, v1, v2] := by cases args; simp_all
  obtain ⟨rfl, rfl⟩ := trodVars_none hV
  obtain ⟨a0, rfl, rfl, rfl, w0⟩ := open_int Try.underlying3 (hval 0 3 v0 rfl rfl) h0
  obtain ⟨a1, rfl, rfl, rfl, w1⟩ := open_int Try.underlying22 (hval 1 22 v1 rfl rfl) h1
  obtain ⟨a2, rfl, rfl, rfl, w2⟩ := open_int Try.underlying22 (hval 2 22 v2 rfl rfl) h2
  clear hA0 hval0
  simp only [List.append_nil] at hW'
  refine (undoes_any a0 a1 a2 (u64_wf w1) (u64_wf w2) W).mono fun e W' ⟨he, bel⟩ => ?_
  subst he
  exact ⟨_, rfl, _, _, _, [], [], [], hW', trodAll_mk1 (shut_bool Try.underlying4 _), (trodAll_cons_mk (shut_int Try.underlying3 w0) (trodAll_cons_mk (shut_int Try.underlying22 w1) (trodAll_cons_mk (shut_int Try.underlying22 w2) trodAll_mk0))), rfl, bel.frame _, fun h => by cases h⟩

/-- For every input WordUndoes returns true, and its arguments read as before. -/
theorem wordUndoes_proved : Rows.WordUndoesSaid :=
  OpenClaim.holds_of_wide 5 Try.f5 rfl rfl rfl rfl rfl rfl rfl ⟨rfl, rfl, rfl, rfl, rfl⟩ rfl rfl rfl rfl rfl (by kernel_rfl) Try.func5 (by kernel_rfl)
    (of_decide_eq_true (by kernel_rfl)) (by unfold Func.isWrapper; first | (rw [if_pos (by decide +kernel)]; kernel_rfl) | (rw [if_neg (by decide +kernel)]; exact ⟨rfl, rfl⟩))
    (fun os started H enc _ => undoes_lifted os started H enc)
#print axioms wordUndoes_proved
end Go.Proofs.Ytieanmpldcibcaa

/- Proved: whatever the case and the operation, SearchEasier returns true, and its arguments read as before: in the landed search, without its last return, or with an invocation more, a history is right in each order in which it was, and Count counts no fewer. Conditions: the arguments are of bulk at most 1048576 (the second form); the variable search.kinds holds what the program lays there (the card ties it). -/
import Derived.Test.YtcphajjonecmbaaDoorYEas
import Derived.Test.YtcphajjonecmbaaDoorYOpen
import Derived.Test.YtcphajjonecmbaaDoorYEaFct
import Derived.Test.YtcphajjonecmbaaDoorTie
import Derived.Test.YtcphajjonecmbaaDoorCards
import Derived.Lay
import Derived.SevenTiedAt
import Derived.Stop.Joined
import Derived.Stop.LaidErr
import Derived.LaidMore
import Derived.Deep.DeepHandedRow
import Derived.JoinedCond
import Derived.Lib.SmallJoins













namespace Go.Proofs.YtcphajjonecmbaaDoor

open Go.ChangeShapes Go.WideShapes Go.ChangeAt Go.RowKit Go.Deep

theorem ccase7 : Tryd.prog.cellsOf 54 = 5 := by kernel_rfl
theorem cint7 : Tryd.prog.cellsOf 3 = 1 := by kernel_rfl
theorem cevs7 : Tryd.prog.cellsOf 52 = 1 := by kernel_rfl
theorem slice_cap7 {H : Type} {enc : TypeId × Value → H} {w : World} {a0 : Option Addr} {len cap : Nat} {n : Nat} {x : DataW H × List MemPlace} (h : DataW.trod enc Tryd.prog w 0 (fun _ => true) true n 52 [.slice a0 len cap] = some x) : len ≤ cap := by
  rcases open_slice Tryd.underlying52 h with ⟨hcs, _⟩ | ⟨a, l, c, m, n, D, Pl, hcs, _, hl, _⟩
  · simp at hcs
    omega
  · simp at hcs
    omega
theorem open_case7 {H : Type} {enc : TypeId × Value → H} {w : World} {n : Nat} {cs : List Value} {x : DataW H × List MemPlace} (h : DataW.trod enc Tryd.prog w 0 (fun _ => true) true n 54 cs = some x) (hwt : (x.1.weights Tryd.prog 54).all (· ≤ reachBytes) = true) (hfz : w.noneFrozen x.2) :
    ∃ (t : Int) (sx : SX) (s : SD) (base : Option Addr) (b o c : Nat) (hs : List EvD) (pb : Nat → Option Addr) (pc pg po : Nat → Nat) (ov : Value), cs = [.int .i64 t, .slice sx.va s.vals.length sx.vc, .slice sx.pa s.prs.length sx.pc, .slice base hs.length c, ov] ∧ StAt w sx s ∧ EvsAt w base b o hs pb pc pg po ∧ hs.length ≤ c ∧ (base = none → hs.length = 0 ∧ c = 0) ∧ s.vals.length ≤ Rows.uptoBulk x.1 ∧ s.prs.length ≤ Rows.uptoBulk x.1 := by
  obtain ⟨y0, y1, y2, y3, m, hx, hl, g0, g1, g2, g3⟩ := Go.Joins.trod_struct4 Tryd.underlying54 h
  rw [ccase7] at hl
  simp only [cint7, c7s, cevs7, cis] at g0 g1 g2 g3
  match cs, hl with
  | [v0, v1, v2, v3, v4], _ =>
    simp at g0 g1 g2 g3
    obtain ⟨t, e0, -, -⟩ := DataW.trod_int Tryd.underlying3 g0
    obtain ⟨sx, s, e1, hst, hbv, hbp⟩ := open_state7 g1 (fun b' o' hm => hfz b' o' (by rw [hx]; exact List.mem_append_right _ (List.mem_append_left _ hm)))
    obtain ⟨a2, l2, k2, e2, -⟩ := bulk_slice Tryd.underlying52 g2
    simp at e0 e1 e2
    obtain ⟨rfl, rfl⟩ := e1
    subst e0 e2
    have hcap := slice_cap7 g2
    have hw2 : (y2.1.weights Tryd.prog 52).all (· ≤ reachBytes) = true := by
      rw [hx] at hwt
      simp [DataW.weights, Tryd.underlying54, DataW.weightsEach, List.all_append] at hwt ⊢
      exact hwt.2.2.1
    obtain ⟨b, o, hs, pb, pc, pg, po, rfl, hE, hn, -⟩ := open_events g2 hw2 (fun b' o' hm => hfz b' o' (by rw [hx]; exact List.mem_append_right _ (List.mem_append_right _ (List.mem_append_left _ hm))))
    have hb : Rows.uptoBulk x.1 = Rows.uptoBulk y0.1 + (Rows.uptoBulk y1.1 + (Rows.uptoBulk y2.1 + (Rows.uptoBulk y3.1 + 0))) + 1 := by rw [hx]; rfl
    exact ⟨t, sx, s, a2, b, o, k2, hs, pb, pc, pg, po, v4, rfl, hst, hE, hcap, hn, by omega, by omega⟩
set_option maxRecDepth 100000 in
theorem searchEasier_lifted (os : Os) (started : os.Started) (H : Type) (enc : TypeId × Value → H) (F : Stop.Interp) :
    ReturnsInHanded {} Tryd.checked os 7 .any ((Rows.OpenSpec.upto Rows.searchEasierSpec).preRow enc Tryd.prog Tryd.f7 Rows.searchEasierUptoRow.domain false Rows.searchEasierUptoRow.laid) (((Rows.OpenSpec.upto Rows.searchEasierSpec).at F).post enc Tryd.prog Tryd.f7 false true false false) := by
  have hx : ∃ places, DataW.whole enc Tryd.prog ((World.laidAll Tryd.prog os Rows.searchEasierUptoRow.laid).forCall (fun _ _ => 0) ⟨#[], #[.agg #[.int .i64 0, .slice none 0 0, .slice none 0 0, .slice none 0 0, .slice none 0 0], .agg #[.int .i64 0, .int .i64 0, .int .i64 0, .int .i64 0]], []⟩).memory Tryd.f7.params.toList Rows.searchEasierSpec.vars false #[.agg #[.int .i64 0, .slice none 0 0, .slice none 0 0, .slice none 0 0, .slice none 0 0], .agg #[.int .i64 0, .int .i64 0, .int .i64 0, .int .i64 0]].toList 8 = some ([.agg [.lit (.int .i64 0), .agg [.nil, .nil], .nil, .nil], .agg [.lit (.int .i64 0), .lit (.int .i64 0), .lit (.int .i64 0), .lit (.int .i64 0)]], [], places) := ⟨[], by kernel_rfl⟩
  obtain ⟨places, hx⟩ := hx
  have hok : Input.okWideB Tryd.prog ((World.laidAll Tryd.prog os Rows.searchEasierUptoRow.laid).forCall (fun _ _ => 0) ⟨#[], #[.agg #[.int .i64 0, .slice none 0 0, .slice none 0 0, .slice none 0 0, .slice none 0 0], .agg #[.int .i64 0, .int .i64 0, .int .i64 0, .int .i64 0]], []⟩) 7 ⟨#[], #[.agg #[.int .i64 0, .slice none 0 0, .slice none 0 0, .slice none 0 0, .slice none 0 0], .agg #[.int .i64 0, .int .i64 0, .int .i64 0, .int .i64 0]], []⟩ = true := by kernel_rfl
  refine returnsInHanded_of_row (C := Tryd.checked) (s := Rows.OpenSpec.upto Rows.searchEasierSpec) own started (by kernel_rfl) Tryd.func7
    ⟨World.laidAll Tryd.prog os Rows.searchEasierUptoRow.laid, fun _ _ => 0, ⟨#[], #[.agg #[.int .i64 0, .slice none 0 0, .slice none 0 0, .slice none 0 0, .slice none 0 0], .agg #[.int .i64 0, .int .i64 0, .int .i64 0, .int .i64 0]], []⟩, World.laidAll_os _ _ _, World.shaped_of_ZipB (by kernel_rfl) (by kernel_rfl), (Input.okWide_of_okWideB (base := 0) hok).1, (Input.okWide_of_okWideB hok).2,
      OpenSpec.preRow_of_cond 8 hx (by kernel_rfl) (fun k hk => by cases hk; kernel_rfl) (by kernel_rfl) (by rw [MakeChecks.laidMetH_plain _ _ _ (by kernel_rfl)]; exact laidMet_laidAll _ (by kernel_rfl) (by kernel_rfl)), by
        simp only [Assume.holds]
        exact ⟨by simp, by simp, by simp, by simp, by simp⟩⟩ ?_
  intro W base args ds gs before hval0 hW _ hcond hsz0 hL _ _
  have hsz : (DataW.weightsEach Tryd.prog (Tryd.f7.params.toList ++ Rows.searchEasierSpec.plain.varTypes Tryd.prog) (ds ++ gs)).all (· ≤ reachBytes) = true := hsz0
  have hval : ∀ (j : Nat) t v, Tryd.f7.params[j]? = some t → args[j]? = some v → Value.okWide Tryd.prog W .any base t v := hval0
  have hW' := hW
  obtain ⟨p, q, hA0, hV, rfl, hfz, _⟩ := hW
  have hA : DataW.TrodAll enc Tryd.prog W 0 (fun _ => true) true Tryd.f7.params.toList args.toList ds p := hA0
  rw [Tryd.params7] at hA hval hsz
  obtain ⟨v0, v1, d0, d1, p0, p1, rfl, rfl, rfl, h0, h1⟩ := trodAll_two hA
  obtain ⟨rfl, rfl⟩ := trodVars_none hV
  obtain ⟨cs0, rfl, hcs0⟩ := okWide_struct Tryd.underlying54 (hval 0 54 v0 rfl rfl)
  obtain ⟨cs1, rfl, hcs1⟩ := okWide_struct Tryd.underlying43 (hval 1 43 v1 rfl rfl)
  have k0 := h0
  have k1 := h1
  have lt0 : ∀ x ∈ p0, x.block < W.heap.size := by obtain ⟨m, hm⟩ := k0; exact DataW.trod_lt m _ _ _ hm
  have lt1 : ∀ x ∈ p1, x.block < W.heap.size := by obtain ⟨m, hm⟩ := k1; exact DataW.trod_lt m _ _ _ hm
  obtain ⟨fuel0, hf0⟩ := h0
  obtain ⟨fuel1, hf1⟩ := h1
  have hw0 : (d0.weights Tryd.prog 54).all (· ≤ reachBytes) = true := by
    simp only [List.cons_append, DataW.weightsEach, List.all_append, Bool.and_eq_true] at hsz
    exact hsz.1
  obtain ⟨t, sx, s, base', b, o, c, hs, pb, pc, pg, po, ov, e0, hst, hev, hcap, hnil, hbv, hbp⟩ := open_case7 hf0 hw0 (fun b' o' hm => hfz b' o' (List.mem_append_left _ (List.mem_append_left _ hm)))
  obtain rfl : cs0 = #[.int .i64 t, .slice sx.va s.vals.length sx.vc, .slice sx.pa s.prs.length sx.pc, .slice base' hs.length c, ov] := by
    apply Array.ext'
    simpa [Value.cells] using e0
  obtain ⟨op, e1⟩ := open_op hf1
  obtain rfl : cs1 = #[.int .i64 op.kind, .int .i64 op.key, .int .i64 op.val, .int .i64 op.hi] := by
    apply Array.ext'
    simpa [Value.cells] using e1
  have hbk : Rows.uptoBulk d0 + (Rows.uptoBulk d1 + 0) ≤ 1048576 := by
    have h1 := of_decide_eq_true (hcond _ rfl)
    simpa only [Rows.uptoBulkAll, List.append_nil] using h1
  have hbv' : s.vals.length ≤ Rows.uptoBulk d0 := hbv
  have hbp' : s.prs.length ≤ Rows.uptoBulk d0 := hbp
  clear hA0 hval0
  refine (searchEasier_any t sx s base' b o c hs pb pc pg po ov op W hst (kdAt_now hL) hev ⟨by omega, by omega⟩ hcap hnil).mono fun e W' ⟨he, bel⟩ => ?_
  subst he
  exact ⟨_, rfl, _, _, _, [], _, [], hW', trodAll_mk1 (shut_bool Tryd.underlying4 _), trodAll_mk2 (Below.trod laidOut (by kernel_rfl) (of_decide_eq_true (by kernel_rfl)) k0 bel lt0) (Below.trod laidOut (by kernel_rfl) (of_decide_eq_true (by kernel_rfl)) k1 bel lt1), rfl, bel.frame _, fun h => by cases h⟩
theorem searchEasier_row : Rows.SearchEasierUptoSaid :=
  OpenClaim.holds_of_cond 7 Tryd.f7 rfl rfl rfl rfl rfl rfl rfl ⟨rfl, rfl, rfl, rfl, rfl⟩ rfl rfl rfl rfl rfl (by kernel_rfl) Tryd.func7 searchEasier_facts
    (of_decide_eq_true (by kernel_rfl)) (by unfold Func.isWrapper; first | (rw [if_pos (by decide +kernel)]; kernel_rfl) | (rw [if_neg (by decide +kernel)]; exact ⟨rfl, rfl⟩))
    (fun os started H enc _ F => by rw [OpenClaim.pre_eq_preRow]; exact searchEasier_lifted os started H enc F)
theorem searchEasier_plain (f : FuncId) (fn : Func) (hf : Tryd.pinned.checked.prog.funcNamed "larch/larchlaw07.SearchEasier" = some f) (hfn : Tryd.pinned.checked.prog.funcs[f]? = some fn) :
    false = Tryd.pinned.checked.prog.looks [] ∧ ∀ (j : Nat) t, fn.params[j]? = some t → Tryd.pinned.checked.prog.wantsStandIn t = false := by
  obtain rfl : f = 7 := Option.some.inj ((show Tryd.prog.funcNamed "larch/larchlaw07.SearchEasier" = some 7 by kernel_rfl).symm.trans hf) |>.symm
  obtain rfl : fn = Tryd.f7 := (Option.some.inj (Tryd.func7.symm.trans hfn)).symm
  refine ⟨by kernel_rfl, fun j t ht => ?_⟩
  rw [Tryd.params7] at ht
  have hm : t ∈ [54, 43] := by simpa using Array.mem_of_getElem? ht
  have hall : ([54, 43].all fun u => !Tryd.prog.wantsStandIn u) = true := by kernel_rfl
  exact (show Tryd.prog.wantsStandIn t = false by simpa using List.all_eq_true.1 hall t hm)
/-- The tied card. -/
theorem searchEasier_proved : Rows.SearchEasierUptoCardSaid :=
  Claim7.holds_tied_plain_at .later [] [.data] true (true, "4e9844a7b1cc5e119318a6b6ead0da5958dd47b795122b3d77fe31aaa7806c5a") false searchEasier_row (fun _ h => by cases h) searchEasier_text (fun _ h => by cases h) searchEasierUpto_row_tie rfl ⟨rfl, rfl⟩ (by kernel_rfl) rfl searchEasier_plain searchEasier_goes
#print axioms searchEasier_proved

end Go.Proofs.YtcphajjonecmbaaDoor

/- Proved: whatever the text, ShellParses returns true, and its argument reads as before: the landed shell.Parse reads every text's game as the document does, and tells the same first wrong line. Conditions: the text has at most 1048576 letters (the second form); the six variables that the row lists hold what the program lays there (the card ties them). -/
import Derived.Test.YtknlapipkglnjaaGreatDoorHSFct
import Derived.Test.YtknlapipkglnjaaGreatDoorHQq
import Derived.Shelf.Strconv.ErrVarAll





namespace Go.Proofs.YtknlapipkglnjaaGreatDoor

open Go.ChangeShapes Go.WideShapes Go.ChangeAt Go.RowKit Go.Deep

theorem laid_nowL {W : World} (h : laidMetH Tryz.prog Rows.shellParsesUptoRow.laid W) : HLB W.heap.size W := by
  rw [MakeChecks.laidMetH_plain _ _ _ (by kernel_rfl)] at h
  have h2 := h.tail.tail
  have h5 := h2.tail.tail.tail
  have ht : Lib.TabIs Tryz.prog W "internal/strconv.uint64pow10" .u64 Lib.pow10Tab := Lib.tabIs_of_head g_pow g_powT Tryz.underlying170 Tryz.underlying141 (by kernel_rfl) (by kernel_rfl) h2
  obtain ⟨ps, ⟨g', t', cs, fuel, p, q, hg', ht', hvar, hd, _, _⟩, _⟩ := h5
  obtain rfl := Option.some.inj (g_nm.symm.trans hg')
  obtain rfl := Option.some.inj (g_nmT.symm.trans ht')
  rw [laid_nmT] at hd
  have hc := cells_of_texts Tryz.underlying103 Tryz.underlying9 (by kernel_rfl) (by kernel_rfl) hd
  have key : ∀ k : Nat, k < 10 → W.cell? ⟨0, k, none⟩ = some (.string ⟨(wordL k).toArray⟩) := fun i hi => by
    have := World.var?_cell g_nm hvar i
    rw [this, ← Array.getElem?_toList, hc]
    simp [nmT, hi]
  have hlt := World.block_lt_of_cell? W _ (key 0 (by omega))
  intro w' hb
  exact ⟨Go.Joins.tab_stays g_pow ht hb (Nat.le_refl _), Nat.lt_of_lt_of_le hlt hb.size, fun k hk => (hb.cell (p := ⟨0, k, none⟩) hlt).trans (key k hk)⟩
theorem g_syn : Tryz.prog.globalNamed "strconv.ErrSyntax" = some 5 := by kernel_rfl
theorem g_synT : (Tryz.prog.globals[ 5 ]?).map (·.type) = some 100 := by kernel_rfl
theorem g_rng : Tryz.prog.globalNamed "strconv.ErrRange" = some 6 := by kernel_rfl
theorem g_rngT : (Tryz.prog.globals[ 6 ]?).map (·.type) = some 100 := by kernel_rfl
theorem star_es : "*" ++ "errors.errorString" = "*errors.errorString" := by decide
theorem row_es (u : TypeId) (h : Tryz.prog.typeName? 3 u = some "*errors.errorString") : u = 294 :=
  typeName_ptr_named (nm := "errors.errorString") (by rw [star_es]; kernel_rfl) (by kernel_rfl) (by decide) u (by rw [star_es]; exact h)
theorem laid_now {W : World} (h : laidMetH Tryz.prog Rows.shellParsesUptoRow.laid W) : HEB W.heap.size W := by
  refine ⟨laid_nowL h, fun w' hb => ?_⟩
  rw [MakeChecks.laidMetH_plain _ _ _ (by kernel_rfl)] at h
  have h3 := h.tail.tail.tail
  have h4 := h3.tail
  obtain ⟨a, s, hv, -, -, -⟩ := laid_sentinel h4 g_syn g_synT Tryz.underlying100 row_es Tryz.underlying294 Tryz.underlying296 rfl rfl Tryz.underlying9 (by kernel_rfl) (by kernel_rfl)
  obtain ⟨a', s', hv', -, -, -⟩ := laid_sentinel h3 g_rng g_rngT Tryz.underlying100 row_es Tryz.underlying294 Tryz.underlying296 rfl rfl Tryz.underlying9 (by kernel_rfl) (by kernel_rfl)
  exact ⟨⟨_, _, Go.Joins.var_stays g_syn hv hb (Nat.le_refl _)⟩, ⟨_, _, Go.Joins.var_stays g_rng hv' hb (Nat.le_refl _)⟩⟩
set_option maxRecDepth 100000 in
theorem shellParses_lifted (os : Os) (started : os.Started) (H : Type) (enc : TypeId × Value → H) (F : Stop.Interp) :
    ReturnsInHanded {} Tryz.checked os 4 .any ((Rows.OpenSpec.upto Rows.shellParsesSpec).preRow enc Tryz.prog Tryz.f4 Rows.shellParsesUptoRow.domain false Rows.shellParsesUptoRow.laid) (((Rows.OpenSpec.upto Rows.shellParsesSpec).at F).post enc Tryz.prog Tryz.f4 false true false false) := by
  have hx : ∃ places, DataW.whole enc Tryz.prog ((World.laidAll Tryz.prog os Rows.shellParsesUptoRow.laid).forCall (fun _ _ => 0) ⟨#[], #[.string ⟨#[]⟩], []⟩).memory Tryz.f4.params.toList Rows.shellParsesSpec.vars false #[.string ⟨#[]⟩].toList 8 = some ([.lit (.string [])], [], places) := ⟨[], by kernel_rfl⟩
  obtain ⟨places, hx⟩ := hx
  have hok : Input.okWideB Tryz.prog ((World.laidAll Tryz.prog os Rows.shellParsesUptoRow.laid).forCall (fun _ _ => 0) ⟨#[], #[.string ⟨#[]⟩], []⟩) 4 ⟨#[], #[.string ⟨#[]⟩], []⟩ = true := by kernel_rfl
  refine returnsInHanded_of_row (C := Tryz.checked) (s := Rows.OpenSpec.upto Rows.shellParsesSpec) own started (by kernel_rfl) Tryz.func4
    ⟨World.laidAll Tryz.prog os Rows.shellParsesUptoRow.laid, fun _ _ => 0, ⟨#[], #[.string ⟨#[]⟩], []⟩, World.laidAll_os _ _ _, World.shaped_of_ZipB (by kernel_rfl) (by kernel_rfl), (Input.okWide_of_okWideB (base := 0) hok).1, (Input.okWide_of_okWideB hok).2,
      OpenSpec.preRow_of_cond 8 hx (by kernel_rfl) (fun k hk => by cases hk; kernel_rfl) (by kernel_rfl) (by rw [MakeChecks.laidMetH_plain _ _ _ (by kernel_rfl)]; exact laidMet_laidAll _ (by kernel_rfl) (by kernel_rfl)), by
        simp only [Assume.holds]
        exact ⟨by simp, by simp, by simp, by simp, by simp⟩⟩ ?_
  intro W base args ds gs before hval0 hW _ hcond _ hL _ _
  have hval : ∀ (j : Nat) t v, Tryz.f4.params[j]? = some t → args[j]? = some v → Value.okWide Tryz.prog W .any base t v := hval0
  have hW' := hW
  obtain ⟨p, q, hA0, hV, rfl, _, _⟩ := hW
  have hA : DataW.TrodAll enc Tryz.prog W 0 (fun _ => true) true Tryz.f4.params.toList args.toList ds p := hA0
  rw [Tryz.params4] at hA hval
  obtain ⟨v1, d1, rfl, rfl, h1⟩ := trodAll_one hA
  obtain ⟨rfl, rfl⟩ := trodVars_none hV
  have k1 := h1
  have lt1 : ∀ x ∈ p, x.block < W.heap.size := by obtain ⟨m, hm⟩ := k1; exact DataW.trod_lt m _ _ _ hm
  obtain ⟨sb1, rfl⟩ := okWide_string Tryz.underlying9 (hval 0 9 v1 rfl rfl)
  obtain ⟨fuel1, hf1⟩ := h1
  obtain ⟨sc1, hsc1, hd1, hs1⟩ := DataW.trod_string Tryz.underlying9 hf1
  obtain rfl : sb1 = sc1 := by have h := hsc1; simp [Value.cells] at h; exact h
  obtain ⟨l, rfl⟩ : ∃ l : List UInt8, sb1 = ⟨l.toArray⟩ := ⟨sb1.data.toList, rfl⟩
  have hnl : l.length ≤ 1048576 := by
    have h1 := of_decide_eq_true (hcond _ rfl)
    simp only [Rows.uptoBulkAll, List.append_nil] at h1
    have hd : d1 = .lit (.string l) := by have := hd1; simp at this; exact this.1
    rw [hd] at h1
    simp only [Rows.uptoBulk] at h1
    omega
  clear hA0 hval0
  have hl := laid_now hL
  refine (parses_law l hnl W hl (fun W' => rparse_any l (by omega) W')).mono fun e W' ⟨he, bel⟩ => ?_
  subst he
  exact ⟨_, rfl, _, _, _, [], _, [], hW', trodAll_mk1 (shut_bool Tryz.underlying4 _), trodAll_mk1 (Below.trod laidOut (by kernel_rfl) (of_decide_eq_true (by kernel_rfl)) k1 bel lt1), rfl, bel.frame _, fun h => by cases h⟩
theorem shellParses_alone : OpenClaim.holds Tryz.pinned (Rows.OpenSpec.upto Rows.shellParsesSpec) { Rows.shellParsesUptoRow with leaving := false } :=
  OpenClaim.holds_of_cond 4 Tryz.f4 rfl rfl rfl rfl rfl rfl rfl ⟨rfl, rfl, rfl, rfl, rfl⟩ rfl rfl rfl rfl rfl (by kernel_rfl) Tryz.func4 parses_facts
    (of_decide_eq_true (by kernel_rfl)) (by unfold Func.isWrapper; first | (rw [if_pos (by decide +kernel)]; kernel_rfl) | (rw [if_neg (by decide +kernel)]; exact ⟨rfl, rfl⟩))
    (fun os started H enc _ F => by rw [OpenClaim.pre_eq_preRow]; exact shellParses_lifted os started H enc F)
theorem shellParses_row : Rows.ShellParsesUptoSaid := holds_leaving shellParses_alone rfl parses_wf rfl rfl
theorem plain_ops (f : FuncId) (fn : Func) (hf : Tryz.pinned.checked.prog.funcNamed "larch/larchlaw28.ShellParses" = some f) (hfn : Tryz.pinned.checked.prog.funcs[f]? = some fn) :
    true = Tryz.pinned.checked.prog.looks [] ∧ ∀ (j : Nat) t, fn.params[j]? = some t → Tryz.pinned.checked.prog.wantsStandIn t = false := by
  obtain rfl : f = 4 := Option.some.inj ((show Tryz.prog.funcNamed "larch/larchlaw28.ShellParses" = some 4 by kernel_rfl).symm.trans hf) |>.symm
  obtain rfl : fn = Tryz.f4 := (Option.some.inj (Tryz.func4.symm.trans hfn)).symm
  refine ⟨by kernel_rfl, fun j t ht => ?_⟩
  rw [Tryz.params4] at ht
  have hm : t ∈ [ 9 ] := by simpa using Array.mem_of_getElem? ht
  have hall : ([ 9 ].all fun u => !Tryz.prog.wantsStandIn u) = true := by kernel_rfl
  exact (show Tryz.prog.wantsStandIn t = false by simpa using List.all_eq_true.1 hall t hm)
/-- The tied card. -/
theorem shellParses_proved : Rows.ShellParsesUptoCardSaid :=
  tied_goes .later _ _ _ _ shellParses_row parses_text shellParsesUpto_row_tie rfl ⟨rfl, rfl⟩ (by kernel_rfl) rfl plain_ops parses_goes
#print axioms shellParses_proved

end Go.Proofs.YtknlapipkglnjaaGreatDoor

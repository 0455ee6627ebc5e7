/- Proved: whatever the kind, the start and the accesses, WordDoes returns true, and its arguments read as before: the landed word.Do and word.Steps answer, error by error and access by access, as the reference does. -/
import Derived.Test.YtffnoaafmaeihaaGreatRefDo3
import Derived.Test.YtffnoaafmaeihaaGreatOur
import Derived.Test.YtffnoaafmaeihaaGreatOpenActs
namespace Go.Proofs.YtffnoaafmaeihaaGreat
open Go.ChangeShapes Go.WideShapes Go.ChangeAt Go.RowKit Go.Deep

theorem our_acts (ab ao n cap : Nat) (dk da db : Nat → Int) (w : World) (base : Option Addr) (h : Acts w base ab ao n dk da db) (hbytes : n * 24 ≤ 140737488355328) :
    Calls Tryz.prog 8 #[.slice base n cap] w fun e w' => ∃ b c g, e = .returned (.slice b n c) ∧ Below w.heap.size w w' ∧ Acts w' b g 0 n dk da db := by
  refine (our_any ab ao n cap dk da db w base h hbytes).mono ?_
  rintro e w' ⟨v, rfl, hb, ho⟩
  obtain ⟨b, c, g, rfl, _, ha⟩ := acts_of_owns ho h.u64 h.len
  exact ⟨b, c, g, rfl, hb, ha⟩

/-- The four calls, each as what it answers. -/
theorem refDo_out (k start : Int) (hs : U64 start) (ab ao n cap : Nat) (dk da db : Nat → Int) (w : World) (base : Option Addr) (h : Acts w base ab ao n dk da db) (he : rowErr k n dk = 0) :
    Calls Tryz.prog 6 #[.int .i64 k, .int .u64 start, .slice base n cap] w fun e w' => ∃ b c g, e = .returned (.tuple #[.slice b n c, .int .u64 (st k start dk da db n), .int .i64 0]) ∧ Below w.heap.size w w' ∧ OutsAt w' b g n (fun j => ov k (st k start dk da db j) (dk j) (da j)) (fun j => ok k (st k start dk da db j) (dk j) (da j)) := by
  refine (refDo_ok k start hs ab ao n cap dk da db w base h he).mono ?_
  rintro e w' ⟨v, rfl, hb, ho⟩
  obtain ⟨b, c, g, rfl, ha⟩ := outs_of_owns ho
  exact ⟨b, c, g, rfl, hb, ha⟩
theorem refSteps_out (k start : Int) (hs : U64 start) (ab ao n cap : Nat) (dk da db : Nat → Int) (w : World) (base : Option Addr) (h : Acts w base ab ao n dk da db) (he : rowErr k n dk = 0) :
    Calls Tryz.prog 10 #[.int .i64 k, .int .u64 start, .slice base n cap] w fun e w' => ∃ b c g, e = .returned (.tuple #[.slice b n c, .int .i64 0]) ∧ Below w.heap.size w w' ∧ NumsAt w' b g n (fun j => st k start dk da db (j + 1)) := by
  refine (refSteps_ok k start hs ab ao n cap dk da db w base h he).mono ?_
  rintro e w' ⟨v, rfl, hb, ho⟩
  obtain ⟨b, c, g, rfl, ha⟩ := nums_of_owns ho
  exact ⟨b, c, g, rfl, hb, ha⟩

theorem outs_none (w : World) : OutsAt w none 0 0 (fun _ => 0) (fun _ => false) := ⟨fun h => absurd rfl h, fun h => absurd rfl h, fun i hi => by omega⟩
theorem nums_none (w : World) : NumsAt w none 0 0 (fun _ => 0) := ⟨fun h => absurd rfl h, fun h => absurd rfl h, fun i hi => by omega⟩

set_option maxRecDepth 100000 in
set_option maxHeartbeats 1000000 in
theorem does_err (k start : Int) (ab ao n cap : Nat) (dk da db : Nat → Int) (w : World) (base : Option Addr) (h : Acts w base ab ao n dk da db) (hbytes : n * 24 ≤ 140737488355328) (he : ¬ rowErr k n dk = 0) :
    Calls Tryz.prog 3 #[.int .i64 k, .int .u64 start, .slice base n cap] w fun e w' => e = .returned (.bool true) ∧ Below w.heap.size w w' := by
  have HA : Hid _ := h
  have HR : Hid _ := fun (W : World) (hW : Acts W base ab ao n dk da db) => refDo_err k start ab ao n cap dk da db W base hW he
  have HS : Hid _ := fun (W : World) (hW : Acts W base ab ao n dk da db) => refSteps_err k start ab ao n cap dk da db W base hW he
  have HD : Hid _ := fun (W : World) (b : Option Addr) (g c : Nat) (hW : Acts W b g 0 n dk da db) => Do_err k start g 0 n c dk da db W b hW he
  have HT : Hid _ := fun (W : World) (b : Option Addr) (g c : Nat) (hW : Acts W b g 0 n dk da db) => Steps_err k start g 0 n c dk da db W b hW he
  generalize rowErr k n dk = E at *
  clear h he
  go_enter Tryz.func3, Tryz.ntmps3
  go_wp2_with (first | (go_at_call 5; refine (known_any _).mono ?_; rintro e w1 ⟨rfl, hb1⟩))
  refine Calls.mono (HR.out _ (HA.out.below hb1)) ?_
  rintro e w' ⟨rfl, rfl⟩
  go_wp2_with fail
  refine (our_acts ab ao n cap dk da db _ base (HA.out.below hb1) hbytes).mono ?_
  rintro e w2 ⟨b2, c2, g2, rfl, hb2, ha2⟩
  have hB2 : Below w.heap.size w w2 := hb1.trans (hb2.mono hb1.size)
  go_wp2_with fail
  refine Calls.mono (HD.out _ _ _ _ ha2) ?_
  rintro e w3 ⟨rfl, hb3⟩
  have hB3 : Below w.heap.size w w3 := hB2.trans (hb3.mono hB2.size)
  clear hb1 hb2 hb3 ha2 hB2
  go_wp2_with fail
  refine (are_same 0 0 0 0 0 none none (fun _ => 0) (fun _ => false) _ (outs_none _) (outs_none _) (by omega)).mono ?_
  rintro e w4 ⟨rfl, hb4⟩
  have hB4 : Below w.heap.size w w4 := hB3.trans (hb4.mono hB3.size)
  clear hb4 hB3
  go_wp2_with fail
  refine Calls.mono (HS.out _ (HA.out.below hB4)) ?_
  rintro e w' ⟨rfl, rfl⟩
  go_wp2_with fail
  refine (our_acts ab ao n cap dk da db _ base (HA.out.below hB4) hbytes).mono ?_
  rintro e w5 ⟨b5, c5, g5, rfl, hb5, ha5⟩
  have hB5 : Below w.heap.size w w5 := hB4.trans (hb5.mono hB4.size)
  go_wp2_with fail
  refine Calls.mono (HT.out _ _ _ _ ha5) ?_
  rintro e w6 ⟨rfl, hb6⟩
  have hB6 : Below w.heap.size w w6 := hB5.trans (hb6.mono hB5.size)
  clear hb5 hb6 ha5 hB5 hB4
  go_wp2_with fail
  refine (words_same 0 0 0 0 0 none none (fun _ => 0) _ (nums_none _) (nums_none _) (by omega)).mono ?_
  rintro e w7 ⟨rfl, hb7⟩
  go_wp2
  go_ret
  exact ⟨by simp, hB6.trans (hb7.mono hB6.size)⟩

set_option maxRecDepth 100000 in
set_option maxHeartbeats 1000000 in
theorem does_ok (k start : Int) (hs : U64 start) (ab ao n cap : Nat) (dk da db : Nat → Int) (w : World) (base : Option Addr) (h : Acts w base ab ao n dk da db) (he : rowErr k n dk = 0) :
    Calls Tryz.prog 3 #[.int .i64 k, .int .u64 start, .slice base n cap] w fun e w' => e = .returned (.bool true) ∧ Below w.heap.size w w' := by
  obtain ⟨_, hn, _⟩ := rowErr_zero he
  have hbytes : n * 24 ≤ 140737488355328 := by omega
  have HA : Hid _ := h
  have HR : Hid _ := fun (W : World) (hW : Acts W base ab ao n dk da db) => refDo_out k start hs ab ao n cap dk da db W base hW he
  have HS : Hid _ := fun (W : World) (hW : Acts W base ab ao n dk da db) => refSteps_out k start hs ab ao n cap dk da db W base hW he
  have HD : Hid _ := fun (W : World) (b : Option Addr) (g c : Nat) (hW : Acts W b g 0 n dk da db) => Do_ok k start hs g 0 n c dk da db W b hW he
  have HT : Hid _ := fun (W : World) (b : Option Addr) (g c : Nat) (hW : Acts W b g 0 n dk da db) => Steps_ok k start hs g 0 n c dk da db W b hW he
  clear h he hs
  generalize st k start dk da db n = S at *
  generalize (fun j => ov k (st k start dk da db j) (dk j) (da j)) = O at *
  generalize (fun j => ok k (st k start dk da db j) (dk j) (da j)) = V at *
  generalize (fun j => st k start dk da db (j + 1)) = M at *
  go_enter Tryz.func3, Tryz.ntmps3
  go_wp2_with (first | (go_at_call 5; refine (known_any _).mono ?_; rintro e w1 ⟨rfl, hb1⟩))
  refine Calls.mono (HR.out _ (HA.out.below hb1)) ?_
  rintro e w2 ⟨b2, c2, g2, rfl, hb2, ho2⟩
  have hB2 : Below w.heap.size w w2 := hb1.trans (hb2.mono hb1.size)
  go_wp2_with fail
  refine (our_acts ab ao n cap dk da db _ base (HA.out.below hB2) hbytes).mono ?_
  rintro e w3 ⟨b3, c3, g3, rfl, hb3, ha3⟩
  have hB3 : Below w.heap.size w w3 := hB2.trans (hb3.mono hB2.size)
  have ho3 := ho2.below hb3
  clear hb1 hb2 hb3 ho2 hB2
  go_wp2_with fail
  refine Calls.mono (HD.out _ _ _ _ ha3) ?_
  rintro e w4 ⟨bo, rfl, q1, q2, hb4, hd4⟩
  have hB4 : Below w.heap.size w w4 := hB3.trans (hb4.mono hB3.size)
  have ho4 := ho3.below hb4
  have hd4' := hd4.outs q2
  clear hb4 ho3 hd4 q1 q2 hB3 ha3
  go_wp2_with fail
  refine (are_same bo g2 n n c2 _ b2 O V _ hd4' ho4 hn).mono ?_
  rintro e w5 ⟨rfl, hb5⟩
  have hB5 : Below w.heap.size w w5 := hB4.trans (hb5.mono hB4.size)
  clear hb5 hB4 ho4 hd4'
  go_wp2_with fail
  refine Calls.mono (HS.out _ (HA.out.below hB5)) ?_
  rintro e w6 ⟨b6, c6, g6, rfl, hb6, ho6⟩
  have hB6 : Below w.heap.size w w6 := hB5.trans (hb6.mono hB5.size)
  go_wp2_with fail
  refine (our_acts ab ao n cap dk da db _ base (HA.out.below hB6) hbytes).mono ?_
  rintro e w7 ⟨b7, c7, g7, rfl, hb7, ha7⟩
  have hB7 : Below w.heap.size w w7 := hB6.trans (hb7.mono hB6.size)
  have ho7 := ho6.below hb7
  clear hb6 hb7 ho6 hB5 hB6
  go_wp2_with fail
  refine Calls.mono (HT.out _ _ _ _ ha7) ?_
  rintro e w8 ⟨bs, rfl, q1, q2, hb8, hd8⟩
  have hB8 : Below w.heap.size w w8 := hB7.trans (hb8.mono hB7.size)
  have ho8 := ho7.below hb8
  have hd8' := hd8.nums q2
  clear hb8 ho7 hd8 q1 q2 hB7 ha7
  go_wp2_with fail
  refine (words_same g6 bs n c6 n b6 _ M _ ho8 hd8' hn).mono ?_
  rintro e w9 ⟨rfl, hb9⟩
  go_wp2
  go_ret
  exact ⟨by simp, hB8.trans (hb9.mono hB8.size)⟩

theorem does_any (k start : Int) (hs : U64 start) (ab ao n cap : Nat) (dk da db : Nat → Int) (w : World) (base : Option Addr) (h : Acts w base ab ao n dk da db) (hbytes : n * 24 ≤ 140737488355328) :
    Calls Tryz.prog 3 #[.int .i64 k, .int .u64 start, .slice base n cap] w fun e w' => e = .returned (.bool true) ∧ Below w.heap.size w w' := by
  by_cases he : rowErr k n dk = 0
  · exact does_ok k start hs ab ao n cap dk da db w base h he
  · exact does_err k start ab ao n cap dk da db w base h hbytes he

theorem own : ownKnob Tryz.prog.godebug = none := by kernel_rfl
theorem laidOut : laidOutB Tryz.prog = true := by kernel_rfl

set_option maxRecDepth 100000 in
theorem does_lifted (os : Os) (started : os.Started) (H : Type) (enc : TypeId × Value → H) :
    ReturnsInHanded {} Tryz.checked os 3 .any (Rows.wordDoesSpec.pre6 enc Tryz.prog Tryz.f3 Rows.wordDoesRow.domain false) (Rows.wordDoesSpec.post enc Tryz.prog Tryz.f3 false true false false) := by
  refine returnsInHanded_of_change_sized (C := Tryz.checked) own started (by kernel_rfl) Tryz.func3
    (ChangeSpec.witness6 (enc := enc) (C := Tryz.checked) false ⟨#[], #[.int .i64 0, .int .u64 0, .slice none 0 0], []⟩ 8 (by kernel_rfl) (by kernel_rfl) (by kernel_rfl) (by kernel_rfl)) ?_
  intro W base args ds gs before hval0 hW _ hsz0 _
  have hsz : (DataW.weightsEach Tryz.prog (Tryz.f3.params.toList ++ Rows.wordDoesSpec.plain.varTypes Tryz.prog) (ds ++ gs)).all (· ≤ reachBytes) = true := hsz0
  have hval : ∀ (j : Nat) t v, Tryz.f3.params[j]? = some t → args[j]? = some v → Value.okWide Tryz.prog W .any base t v := hval0
  have hW' := hW
  obtain ⟨p, q, hA0, hV, rfl, hfz, hnd⟩ := hW
  have hA : DataW.TrodAll enc Tryz.prog W 0 (fun _ => true) true Tryz.f3.params.toList args.toList ds p := hA0
  rw [Tryz.params3] at hA hval hsz
  obtain ⟨v0, v1, v2, d0, d1, d2, p0, p1, p2, rfl, rfl, rfl, h0, h1, h2⟩ := trodAll_three hA
  obtain ⟨rfl, rfl⟩ := trodVars_none hV
  obtain ⟨a0, rfl, rfl, rfl, w0⟩ := open_int Tryz.underlying3 (hval 0 3 v0 rfl rfl) h0
  obtain ⟨a1, rfl, rfl, rfl, w1⟩ := open_int Tryz.underlying22 (hval 1 22 v1 rfl rfl) h1
  obtain ⟨ad, len, cap, rfl⟩ := okWide_slice Tryz.underlying23 (hval 2 23 v2 rfl rfl)
  have k2 := h2
  have lt2 : ∀ x ∈ p2, x.block < W.heap.size := by obtain ⟨m, hm⟩ := k2; exact DataW.trod_lt m _ _ _ hm
  obtain ⟨fuel, hf⟩ := h2
  obtain ⟨ab, ao, dk, da, db, hacts, hcap, hnil, hsome, hdat⟩ := open_acts (T := 23) (E := 45) Tryz.underlying23 Tryz.underlying45 (by kernel_rfl) rfl rfl rfl rfl rfl rfl hf
  have hbytes : len * 24 ≤ 140737488355328 := by
    rcases hdat with h | ⟨el, sp, hd, hl⟩
    · omega
    · simp at hd
      subst hd
      have := sized_slice hsz (j := 2) (t := 23) (e := 45) rfl rfl Tryz.underlying23
      have hb : Tryz.prog.bytesOf 45 = 24 := by kernel_rfl
      rw [hb] at this
      simp only [reachBytes] at this
      omega
  clear hA0 hval0
  refine (does_any a0 a1 (u64_wf w1) ab ao len cap dk da db W ad hacts hbytes).mono fun e W' ⟨he, bel⟩ => ?_
  subst he
  exact ⟨_, rfl, _, _, _, [], _, [], hW', trodAll_mk1 (shut_bool Tryz.underlying4 _), trodAll_mk3 (shut_int Tryz.underlying3 w0) (shut_int Tryz.underlying22 w1) (Below.trod laidOut (by kernel_rfl) (of_decide_eq_true (by kernel_rfl)) k2 bel lt2), rfl, bel.frame _, fun h => by cases h⟩

/-- For every input WordDoes returns true, and its arguments read as before. -/
theorem wordDoes_proved : Rows.WordDoesSaid :=
  OpenClaim.holds_of_wide 3 Tryz.f3 rfl rfl rfl rfl rfl rfl rfl ⟨rfl, rfl, rfl, rfl, rfl⟩ rfl rfl rfl rfl rfl (by kernel_rfl) Tryz.func3 (by kernel_rfl)
    (of_decide_eq_true (by kernel_rfl)) (by unfold Func.isWrapper; first | (rw [if_pos (by decide +kernel)]; kernel_rfl) | (rw [if_neg (by decide +kernel)]; exact ⟨rfl, rfl⟩))
    (fun os started H enc _ => does_lifted os started H enc)
#print axioms wordDoes_proved
end Go.Proofs.YtffnoaafmaeihaaGreat

/- Layer 7: event.Of (made by mk_yof.py out of layer 5's texts). Layer 7: the program's Count. Layer 7: the program's Is. Layer 7, pure: which orders are told: the steps of an order; that fitting, agreeing orders are just these. Layer 7, pure: what makes a history easier: without its last return, or with an invocation more, all its orders are still told. Layer 7, pure: Is says yes of just the orders that are told; easier histories. -/
import Derived.Test.YtcphajjonecmbaaDoorYFind
import Derived.Test.YtcphajjonecmbaaDoorYPure
import Derived.Test.YtcphajjonecmbaaDoorEFits
import Derived.Test.YtcphajjonecmbaaDoorYAgr
import Derived.Test.YtcphajjonecmbaaDoorEClone
import Derived.Test.YtcphajjonecmbaaDoorECallsP
import Derived.Deep.CutRange

namespace Go.Proofs.YtcphajjonecmbaaDoor

open Go.RowKit Go.Deep

attribute [local go_sem ↓] Go.wp_at_zero Go.wp_at_succ

attribute [local go_sem] Oper.semAt_some

/-- What Count leaves. -/
def CntP (t : Int) (s : SD) (hs : List EvD) (w : World) (e : Ending) (w' : World) : Prop :=
  Below w.heap.size w w' ∧ e = .returned (.tuple #[.int .i64 (if pErr t s hs = 0 then ((ordsO t s hs (spansL hs)).length : Int) else 0), .int .i64 (pErr t s hs)])
theorem results_t2 {fn : Func} {a b : Tmp} (h : fn.results = #[.tmp a, .tmp b]) (tmps : Array Value) (P : Program) (w : World) :
    (results fn tmps).run P w = .ok (.tuple #[tmps.getD a undef, tmps.getD b undef]) w := by
  simp only [results, h]
  simp
theorem wrap_next (n : Nat) : wrap64 (wrap64 (n : Int) + 1) = wrap64 ((n + 1 : Nat) : Int) := by
  unfold wrap64
  omega
set_option maxRecDepth 100000 in
set_option maxHeartbeats 2000000 in
theorem count_bad (t : Int) (x : SX) (s : SD) (base : Option Addr) (b o c : Nat) (hs : List EvD) (pb : Nat → Option Addr) (pc pg po : Nat → Nat) (w : World) (h : StAt w x s) (hkd : KdAt w) (hev : EvsAt w base b o hs pb pc pg po) (hz : pErr t s hs ≠ 0) :
    Calls Tryd.prog 30 #[.int .i64 t, x.v s, .slice base hs.length c] w fun e w' => e = .returned (.tuple #[.int .i64 0, .int .i64 (pErr t s hs)]) ∧ Below w.heap.size w w' := by
  have BA : Hid (Below w.heap.size w (w.alloc (.cells #[.slice x.va s.vals.length x.vc, .slice x.pa s.prs.length x.pc] 31))) := below_alloc _ _
  have PR : Hid (Calls Tryd.prog 61 #[.int .i64 t, .agg #[.slice x.va s.vals.length x.vc, .slice x.pa s.prs.length x.pc], .slice base hs.length c] (w.alloc (.cells #[.slice x.va s.vals.length x.vc, .slice x.pa s.prs.length x.pc] 31)) (ProbP t x s hs (w.alloc (.cells #[.slice x.va s.vals.length x.vc, .slice x.pa s.prs.length x.pc] 31)))) := prob_any t x s base b o c hs pb pc pg po _ (h.below BA.out) (hkd.below BA.out) (hev.below BA.out)
  have hn : (pErr t s hs != 0) = true := by simp [hz]
  unfold SX.v
  clear h hkd hev
  refine (callsIn_wide (n := 2)).1 ?_
  refine callsIn_of_wp_marks Tryd.func30 rfl trivial ?_ rfl
  refine wpIn_wide.2 ?_
  simp only [Tryd.ntmps30, List.size_toArray, List.length_cons, List.length_nil, Nat.reduceAdd, Nat.reduceSub, Array.replicate_succ, Array.replicate_zero, List.push_toArray, List.append_toArray, List.nil_append, List.cons_append]
  go_wp2_with (first | (go_at_call 61; refine PR.out.mono ?_; rintro e w1 ⟨hb1, (⟨-, rfl⟩ | ⟨hn0, -⟩)⟩; rotate_left; (exact absurd hn0 hz); dsimp only [prob0]; have B1 : Hid (Below w.heap.size w w1) := BA.out.trans (hb1.mono BA.out.size); clear hb1))
  refine ⟨.tuple #[.int .i64 0, .int .i64 (pErr t s hs)], ?_, rfl, B1.out.alloc B1.out.size _⟩
  rw [results_t2 rfl]
  simp
set_option maxRecDepth 100000 in
set_option maxHeartbeats 2000000 in
theorem count_ok (t : Int) (x : SX) (s : SD) (base : Option Addr) (b o c : Nat) (hs : List EvD) (pb : Nat → Option Addr) (pc pg po : Nat → Nat) (w : World) (h : StAt w x s) (hkd : KdAt w) (hev : EvsAt w base b o hs pb pc pg po) (hz : pErr t s hs = 0) (hsz : s.vals.length ≤ 999999000 ∧ s.prs.length ≤ 999999000) :
    Calls Tryd.prog 30 #[.int .i64 t, x.v s, .slice base hs.length c] w fun e w' => Below w.heap.size w w' ∧ e = .returned (.tuple #[.int .i64 (ordsO t s hs (spansL hs)).length, .int .i64 0]) := by
  have BA : Hid (Below w.heap.size w (w.alloc (.cells #[.slice x.va s.vals.length x.vc, .slice x.pa s.prs.length x.pc] 31))) := below_alloc _ _
  have PR : Hid (Calls Tryd.prog 61 #[.int .i64 t, .agg #[.slice x.va s.vals.length x.vc, .slice x.pa s.prs.length x.pc], .slice base hs.length c] (w.alloc (.cells #[.slice x.va s.vals.length x.vc, .slice x.pa s.prs.length x.pc] 31)) (ProbP t x s hs (w.alloc (.cells #[.slice x.va s.vals.length x.vc, .slice x.pa s.prs.length x.pc] 31)))) := prob_any t x s base b o c hs pb pc pg po _ (h.below BA.out) (hkd.below BA.out) (hev.below BA.out)
  unfold SX.v
  clear h hkd hev
  refine (callsIn_wide (n := 2)).1 ?_
  refine callsIn_of_wp_marks Tryd.func30 rfl trivial ?_ rfl
  refine wpIn_wide.2 ?_
  simp only [Tryd.ntmps30, List.size_toArray, List.length_cons, List.length_nil, Nat.reduceAdd, Nat.reduceSub, Array.replicate_succ, Array.replicate_zero, List.push_toArray, List.append_toArray, List.nil_append, List.cons_append]
  go_wp2_with (first | (go_at_call 61; refine PR.out.mono ?_; rintro e w1 ⟨hb1, (⟨hn, rfl⟩ | ⟨-, hl8, hs0, hh, hks, gc, gb, rfl, hpr⟩)⟩; (exact absurd hz hn); dsimp only [probC]; have z1 := hb1.size; have B1 : Hid (Below w.heap.size w w1) := BA.out.trans (hb1.mono BA.out.size); have HPR : Hid (PrAt w1 _ x s hs (spansL hs) gc gb) := hpr; have HF : Hid ((spansL hs).length ≤ 8 ∧ sErr t s = 0 ∧ hErr hs = 0 ∧ ksC t hs (spansL hs) = true) := ⟨hl8, hs0, hh, hks⟩; clear hb1 hpr hl8 hs0 hh hks) | (go_at_call 62; refine (orders_any t x s (spansL hs).length (retN (spansL hs) (spansL hs).length) gc gb _).mono ?_; rintro e w2 ⟨rfl, hw2⟩; dsimp only [probC] at hw2; have HW2 : Hid (w2 = _) := hw2; clear hw2))
  have B12 : Hid (Below w1.heap.size w1 w2) := by
    show Below _ _ _
    rw [HW2.out]; exact (two_blocks _ _ _ _ _).alloc (by simp; omega) _
  have z2 : w2.heap.size = w1.heap.size + 3 := by rw [HW2.out]; simp
  have PB : Hid (w2.heap[w1.heap.size + 1 + 1]? = some (.cells (probC t x s (spansL hs).length (retN (spansL hs) (spansL hs).length) gc gb) 125)) := by
    show w2.heap[_]? = _
    rw [HW2.out]; exact heap_alloc_at _ _ _ (by simp)
  have NB : Hid (w2.heap[w1.heap.size + 1]? = some (.cells #[.int .i64 0] 3)) := by
    show w2.heap[_]? = _
    rw [HW2.out]; exact (heap_alloc_old _ _ (by simp)).trans (heap_alloc_at _ _ _ (by simp))
  clear HW2
  refine wp_rangeFunc_M (gf := 96) (lb := #[.pointer (some ⟨w1.heap.size + 1 + 1, 0, none⟩)]) rfl (enters_of Tryd.func96 (by kernel_rfl) rfl)
    (orders1_any (w0 := w1) (pb := w1.heap.size + 1 + 1) (Cw := fun k => k = w1.heap.size + 1 ∨ k = w2.heap.size ∨ k = w2.heap.size + 1) (Cl := fun _ => False) HPR.out HF.out.1 HF.out.2.1 HF.out.2.2.2 (fun k hk => span_to HF.out.2.2.1 hk) hsz B12.out PB.out ?hCw ?hCp)
    (Cw := fun k => k = w1.heap.size + 1) ?hCw2 ?hCl2 (fun x => rfl)
    (fun pre R W => W.heap[w1.heap.size + 1]? = some (.cells #[.int .i64 (wrap64 (pre.length : Int))] 3) ∧ Below w1.heap.size w1 W) (fun _ _ _ => False) ?hI (fun _ _ _ _ _ _ _ q => q) ⟨by rw [show wrap64 (([] : List Yl).length : Int) = 0 from (by simp [wrap64])]; exact NB.out, B12.out⟩ ?hround ?hdone ?hstop
  case hCw =>
    intro k hk
    rcases hk with q | q | q <;> omega
  case hCp =>
    intro q
    rcases q with (q | q | q) | q
    · omega
    · omega
    · omega
    · exact q
  case hCw2 => intro k q; omega
  case hCl2 => exact fun k q => q.elim
  case hI =>
    rintro s' R A B ob hob hbut ⟨hn, hb⟩
    have hob2 : w2.heap.size ≤ ob := by rcases hob with q | q | q <;> omega
    have ln := (Array.getElem?_eq_some_iff.1 hn).1
    exact ⟨(hbut.2.1 _ ln (by omega)).trans hn, below_but hb hbut hb.size (by omega)⟩
  case hround =>
    rintro pre y R A ⟨hn, hbA⟩ hmem hob hR hpre hRb hA
    have HN : Hid (A.heap[w1.heap.size + 1]? = some (.cells #[.int .i64 (wrap64 (pre.length : Int))] 3)) := hn
    have HA : Hid (Below w1.heap.size w1 A) := hbA
    clear hmem hbA hn PR HPR
    simp only [Yl.encs]
    rw [zip_two]
    simp only [List.setIfInBounds_toArray, List.set_cons_zero, List.set_cons_succ]
    gi_wp2
    refine ⟨⟨rfl, rfl⟩, ?_⟩
    intro B hbut hBz
    have HBT : Hid (But (w2.heap.size + 1) A B) := hbut
    have HB : Hid (B.heap[w1.heap.size + 1]? = some (.cells #[.int .i64 (wrap64 (pre.length : Int))] 3)) := (hbut.2.1 _ (by omega) (by omega)).trans HN.out
    have T1 : Hid (B.heap.size = A.heap.size) := hBz
    have Z2 : Hid (w2.heap.size = w1.heap.size + 3) := z2
    obtain ⟨p0, p1⟩ := cells1 HB.out
    have hwr := wrap_next pre.length
    have HWR : Hid (wrap64 (wrap64 (pre.length : Int) + 1) = wrap64 ((pre.length + 1 : Nat) : Int)) := hwr
    generalize wrap64 (pre.length : Int) = m at *
    clear hbut hBz z2 hwr
    gi_wp2
    have z2' := Z2.out
    have sz := T1.out
    refine ⟨⟨heap_set _ (by omega) _, heap_set _ (by omega) _⟩, ⟨by simp; omega, fun k hk hc hr => (heap_set _ (fun q => hc (.inl q)) _).trans (HBT.out.2.1 k hk (fun q => hc (.inr (.inr q)))), HBT.out.2.2⟩, ?_, ?_⟩
    · rw [List.length_append, show [y].length = 1 from rfl, ← HWR.out]
      exact set1_at HB.out _
    · exact (below_but HA.out HBT.out HA.out.size (by omega)).setCell (p := ⟨w1.heap.size + 1, 0, none⟩) (show w1.heap.size ≤ w1.heap.size + 1 by omega) _
  case hdone =>
    rintro xs R W hS ⟨hn, hb⟩ hK
    have HB : Hid (Below w1.heap.size w1 W) := hb
    have HK : Hid (W.heap[w2.heap.size]? = some (.deferred (some []))) := hK
    have Z2 : Hid (w2.heap.size = w1.heap.size + 3) := z2
    have hl : xs.length = (ordsO t s hs (spansL hs)).length := by
      have : (xs.map Yl.p).length = (ordsO t s hs (spansL hs)).length := by rw [show xs.map Yl.p = ordsO t s hs (spansL hs) from hS]
      simpa using this
    have hlt := allO_lt t hs HF.out.1 [] s
    have hw : wrap64 (xs.length : Int) = ((ordsO t s hs (spansL hs)).length : Int) := by
      rw [hl]
      have : (ordsO t s hs (spansL hs)).length ≤ 20000000 := hlt
      unfold wrap64
      omega
    rw [hw] at hn
    obtain ⟨p0, p1⟩ := cells1 hn
    clear hb hK z2 PR HPR hS hl hlt hw
    go_wp2_with fail
    have z2' := Z2.out
    refine ⟨by simp, .inl ⟨_, _, rfl, run_takeDeferred HK.out, ?_⟩⟩
    refine ⟨.tuple #[.int .i64 (ordsO t s hs (spansL hs)).length, .int .i64 0], ?_, ?_, rfl⟩
    · rw [results_t2 rfl]
      simp
    · exact below_but (ob := w2.heap.size) (B1.out.trans (HB.out.mono B1.out.size)) (But.put _ _ _) (Nat.le_trans B1.out.size HB.out.size) (by have := B1.out.size; omega)
  case hstop => exact fun _ _ _ _ q => q.elim
theorem cnt7_any (t : Int) (x : SX) (s : SD) (base : Option Addr) (b o c : Nat) (hs : List EvD) (pb : Nat → Option Addr) (pc pg po : Nat → Nat) (w : World) (h : StAt w x s) (hkd : KdAt w) (hev : EvsAt w base b o hs pb pc pg po) (hsz : s.vals.length ≤ 999999000 ∧ s.prs.length ≤ 999999000) :
    Calls Tryd.prog 30 #[.int .i64 t, x.v s, .slice base hs.length c] w (CntP t s hs w) := by
  by_cases hz : pErr t s hs = 0
  · refine (count_ok t x s base b o c hs pb pc pg po w h hkd hev hz hsz).mono ?_
    rintro e w' ⟨hb, rfl⟩
    exact ⟨hb, by rw [if_pos hz, hz]⟩
  · refine (count_bad t x s base b o c hs pb pc pg po w h hkd hev hz).mono ?_
    rintro e w' ⟨rfl, hb⟩
    exact ⟨hb, by rw [if_neg hz]⟩
end Go.Proofs.YtcphajjonecmbaaDoor

namespace Go.Proofs.YtcphajjonecmbaaDoor

open Go.RowKit Go.Deep

attribute [local go_sem ↓] Go.wp_at_zero Go.wp_at_succ

/-- The operations of an order; when Is says yes. -/
def isOps (hs : List EvD) (ord : List Int) : List OpD := ord.map fun i => cOp hs (spansL hs) i.toNat
def IsOk (t : Int) (s : SD) (hs : List EvD) (ord : List Int) : Prop :=
  pErr t s hs = 0 ∧ FitsP (spansL hs) ord ∧ ∀ k, k < ord.length → agrB hs (spAt (spansL hs) (oAt ord k).toNat) (retAt (sRets t s (isOps hs ord)) k) = true
theorem fits_ordG {sp : List Sp} {ord : List Int} (h : FitsP sp ord) : OrdG sp.length (ord.map Int.toNat) ∧ ord = ordI (ord.map Int.toNat) := by
  have hm : ∀ i ∈ ord, 0 ≤ i ∧ i < sp.length := fun i hi => by
    obtain ⟨k, hk, rfl⟩ := List.getElem_of_mem hi
    have := h.1.rng k hk
    simpa [oAt, List.getD_eq_getElem?_getD, List.getElem?_eq_getElem hk] using this
  refine ⟨⟨fun i hi => ?_, ?_⟩, ?_⟩
  · obtain ⟨a, ha, rfl⟩ := List.mem_map.1 hi
    have := hm a ha
    omega
  · rw [List.Nodup, List.pairwise_iff_getElem]
    intro i j hi hj hij e
    simp at hi hj
    have h1 := h.1.once i j hij hj
    simp only [List.getElem_map] at e
    have a1 := hm ord[i] (List.getElem_mem hi)
    have a2 := hm ord[j] (List.getElem_mem hj)
    apply h1
    simp only [oAt, List.getD_eq_getElem?_getD, List.getElem?_eq_getElem hi, List.getElem?_eq_getElem hj, Option.getD_some]
    omega
  · unfold ordI
    rw [List.map_map]
    symm
    conv => rhs; rw [← List.map_id ord]
    refine List.map_congr_left (fun i hi => ?_)
    have := hm i hi
    simp
    omega
theorem fits_len {sp : List Sp} {ord : List Int} (h : FitsP sp ord) : ord.length ≤ sp.length := by
  have := (fits_ordG h).1.le
  simpa using this
/-- Operations that lie in a row so far. -/
def ROs (F : Nat → Value) (ops : List OpD) : Prop := ∀ k, k < ops.length → F (k * 4) = .int .i64 (opAt ops k).kind ∧ F (k * 4 + 1) = .int .i64 (opAt ops k).key ∧ F (k * 4 + 2) = .int .i64 (opAt ops k).val ∧ F (k * 4 + 3) = .int .i64 (opAt ops k).hi
theorem opAt_left (a b : List OpD) (i : Nat) (hi : i < a.length) : opAt (a ++ b) i = opAt a i := by
  simp [opAt, List.getD_eq_getElem?_getD, List.getElem?_append_left hi]
theorem opAt_last (a : List OpD) (r : OpD) : opAt (a ++ [r]) a.length = r := by simp [opAt, List.getD_eq_getElem?_getD]
theorem ROs.snoc {F : Nat → Value} {ops : List OpD} {r : OpD} (h : ROs F ops) : ROs (putV (putV (putV (putV F (ops.length * 4) (.int .i64 r.kind)) (ops.length * 4 + 1) (.int .i64 r.key)) (ops.length * 4 + 2) (.int .i64 r.val)) (ops.length * 4 + 3) (.int .i64 r.hi)) (ops ++ [r]) := by
  intro k hk
  by_cases e : k = ops.length
  · subst e
    rw [opAt_last]
    refine ⟨?_, ?_, ?_, ?_⟩
    · rw [putV_other _ _ _ _ (by omega), putV_other _ _ _ _ (by omega), putV_other _ _ _ _ (by omega), putV_same]
    · rw [putV_other _ _ _ _ (by omega), putV_other _ _ _ _ (by omega), putV_same]
    · rw [putV_other _ _ _ _ (by omega), putV_same]
    · rw [putV_same]
  · have hl : k < ops.length := by simp at hk; omega
    rw [opAt_left _ _ _ hl]
    obtain ⟨a, b, c, d⟩ := h k hl
    refine ⟨?_, ?_, ?_, ?_⟩
    · rw [putV_other _ _ _ _ (by omega), putV_other _ _ _ _ (by omega), putV_other _ _ _ _ (by omega), putV_other _ _ _ _ (by omega)]; exact a
    · rw [putV_other _ _ _ _ (by omega), putV_other _ _ _ _ (by omega), putV_other _ _ _ _ (by omega), putV_other _ _ _ _ (by omega)]; exact b
    · rw [putV_other _ _ _ _ (by omega), putV_other _ _ _ _ (by omega), putV_other _ _ _ _ (by omega), putV_other _ _ _ _ (by omega)]; exact c
    · rw [putV_other _ _ _ _ (by omega), putV_other _ _ _ _ (by omega), putV_other _ _ _ _ (by omega), putV_other _ _ _ _ (by omega)]; exact d
theorem ops_of_vals {w : World} {g n : Nat} {F : Nat → Value} {ops : List OpD} (h : Vals w g (n * 4) F) (hz : ROs F ops) (hn : ops.length = n) (hg : g < w.heap.size) (hm : n ≤ maxLen) : OpsAt w (some ⟨g, 0, none⟩) g 0 ops := by
  refine ⟨fun _ => rfl, fun _ => hg, fun i hi => ?_, by omega⟩
  obtain ⟨a, b, c, d⟩ := hz i hi
  simp only [Nat.zero_add]
  exact ⟨by rw [← a]; exact (h _ (by omega)).1, by rw [← b]; exact (h _ (by omega)).1, by rw [← c]; exact (h _ (by omega)).1, by rw [← d]; exact (h _ (by omega)).1⟩
theorem isOps_take (hs : List EvD) {ord : List Int} {j : Nat} (hj : j < ord.length) : isOps hs (ord.take (j + 1)) = isOps hs (ord.take j) ++ [cOp hs (spansL hs) (oAt ord j).toNat] := by
  unfold isOps
  rw [← List.take_append_getElem hj, List.map_append]
  simp only [List.map_cons, List.map_nil, oAt, List.getD_eq_getElem?_getD, List.getElem?_eq_getElem hj, Option.getD_some]
set_option maxRecDepth 100000 in
set_option maxHeartbeats 2000000 in
theorem is_bad (t : Int) (x : SX) (s : SD) (base : Option Addr) (b o c : Nat) (hs : List EvD) (pb : Nat → Option Addr) (pc pg po : Nat → Nat) (obase : Option Addr) (on oc : Nat) (w : World) (h : StAt w x s) (hkd : KdAt w) (hev : EvsAt w base b o hs pb pc pg po) (hz : pErr t s hs ≠ 0) :
    Calls Tryd.prog 29 #[.int .i64 t, x.v s, .slice base hs.length c, .slice obase on oc] w fun e w' => e = .returned (.tuple #[.bool false, .int .i64 (pErr t s hs)]) ∧ Below w.heap.size w w' := by
  have BA : Hid (Below w.heap.size w (w.alloc (.cells #[.slice x.va s.vals.length x.vc, .slice x.pa s.prs.length x.pc] 31))) := below_alloc _ _
  have PR : Hid (Calls Tryd.prog 61 #[.int .i64 t, .agg #[.slice x.va s.vals.length x.vc, .slice x.pa s.prs.length x.pc], .slice base hs.length c] (w.alloc (.cells #[.slice x.va s.vals.length x.vc, .slice x.pa s.prs.length x.pc] 31)) (ProbP t x s hs (w.alloc (.cells #[.slice x.va s.vals.length x.vc, .slice x.pa s.prs.length x.pc] 31)))) := prob_any t x s base b o c hs pb pc pg po _ (h.below BA.out) (hkd.below BA.out) (hev.below BA.out)
  have hn : (pErr t s hs != 0) = true := by simp [hz]
  unfold SX.v
  clear h hkd hev
  go_enter Tryd.func29, Tryd.ntmps29
  go_wp2_with (first | (go_at_call 61; refine PR.out.mono ?_; rintro e w1 ⟨hb1, (⟨-, rfl⟩ | ⟨hn0, -⟩)⟩; rotate_left; (exact absurd hn0 hz); dsimp only [prob0]; have B1 : Hid (Below w.heap.size w w1) := BA.out.trans (hb1.mono BA.out.size); clear hb1))
  refine bodyPost_ret (v := .tuple #[.bool false, .int .i64 (pErr t s hs)]) (by rw [results_t2 rfl]; simp) rfl ⟨rfl, B1.out.alloc B1.out.size _⟩
set_option maxRecDepth 100000 in
set_option maxHeartbeats 4000000 in
theorem is_ok (t : Int) (x : SX) (s : SD) (base : Option Addr) (b o c : Nat) (hs : List EvD) (pb : Nat → Option Addr) (pc pg po : Nat → Nat) (obase : Option Addr) (ob oo oc : Nat) (ord : List Int) (w : World) (h : StAt w x s) (hkd : KdAt w) (hev : EvsAt w base b o hs pb pc pg po) (ho : OrdAt w obase ob oo ord) (hz : pErr t s hs = 0) (hsz : s.vals.length ≤ 999999000 ∧ s.prs.length ≤ 999999000) :
    Calls Tryd.prog 29 #[.int .i64 t, x.v s, .slice base hs.length c, .slice obase ord.length oc] w fun e w' => ∃ bb, e = .returned (.tuple #[.bool bb, .int .i64 0]) ∧ Below w.heap.size w w' ∧ (bb = true ↔ IsOk t s hs ord) := by
  have BA : Hid (Below w.heap.size w (w.alloc (.cells #[.slice x.va s.vals.length x.vc, .slice x.pa s.prs.length x.pc] 31))) := below_alloc _ _
  have UN : Hid ((w.alloc (.cells #[.slice x.va s.vals.length x.vc, .slice x.pa s.prs.length x.pc] 31)).heap[w.heap.size]? = some (.cells #[.slice x.va s.vals.length x.vc, .slice x.pa s.prs.length x.pc] 31)) := heap_alloc_at _ _ _ rfl
  have PR : Hid (Calls Tryd.prog 61 #[.int .i64 t, .agg #[.slice x.va s.vals.length x.vc, .slice x.pa s.prs.length x.pc], .slice base hs.length c] (w.alloc (.cells #[.slice x.va s.vals.length x.vc, .slice x.pa s.prs.length x.pc] 31)) (ProbP t x s hs (w.alloc (.cells #[.slice x.va s.vals.length x.vc, .slice x.pa s.prs.length x.pc] 31)))) := prob_any t x s base b o c hs pb pc pg po _ (h.below BA.out) (hkd.below BA.out) (hev.below BA.out)
  have FT : Hid (∀ W, Below w.heap.size w W → Calls Tryd.prog 34 #[.slice base hs.length c, .slice obase ord.length oc] W fun e w' => ∃ r, e = .returned (.tuple #[.bool r, .int .i64 (hErr hs)]) ∧ Below W.heap.size W w' ∧ (hErr hs ≠ 0 → r = false) ∧ (hErr hs = 0 → (r = true ↔ FitsP (spansL hs) ord))) := fun W hW => Fits_any base b o c hs pb pc pg po W (hev.below hW) obase ob oo oc ord (ho.below hW)
  have HST : Hid (StAt w x s) := h
  have HO : Hid (OrdAt w obase ob oo ord) := ho
  unfold SX.v
  clear h hkd hev ho
  go_enter Tryd.func29, Tryd.ntmps29
  go_upto_region 4 with (first | (go_at_call 61; refine PR.out.mono ?_; rintro e w1 ⟨hb1, (⟨hn, rfl⟩ | ⟨-, hl8, hs0, hh, hks, gc, gb, rfl, hpr⟩)⟩; (exact absurd hz hn); dsimp only [probC]; have z1 := hb1.size; have B01 : Hid (Below (w.alloc (.cells #[.slice x.va s.vals.length x.vc, .slice x.pa s.prs.length x.pc] 31)).heap.size (w.alloc (.cells #[.slice x.va s.vals.length x.vc, .slice x.pa s.prs.length x.pc] 31)) w1) := hb1; have B1 : Hid (Below w.heap.size w w1) := BA.out.trans (hb1.mono BA.out.size); have HPR : Hid (PrAt w1 _ x s hs (spansL hs) gc gb) := hpr; have HF : Hid ((spansL hs).length ≤ 8 ∧ sErr t s = 0 ∧ hErr hs = 0 ∧ ksC t hs (spansL hs) = true) := ⟨hl8, hs0, hh, hks⟩; clear hb1 hpr hl8 hs0 hh hks))
  obtain ⟨W2, hW2⟩ : ∃ W2, W2 = w1.alloc (.cells (probC t x s (spansL hs).length (retN (spansL hs) (spansL hs).length) gc gb) 125) := ⟨_, rfl⟩
  have b12 : Below w1.heap.size w1 W2 := by rw [hW2]; exact below_alloc _ _
  have B12 : Hid (Below w1.heap.size w1 W2) := b12
  have z2 : W2.heap.size = w1.heap.size + 1 := by rw [hW2]; simp
  have PB : Hid (W2.heap[w1.heap.size]? = some (.cells (probC t x s (spansL hs).length (retN (spansL hs) (spansL hs).length) gc gb) 125)) := by
    show W2.heap[_]? = _
    rw [hW2]; exact heap_alloc_at _ _ _ rfl
  rw [World.size_alloc] at z1
  have UN2 : Hid (W2.heap[w.heap.size]? = some (.cells #[.slice x.va s.vals.length x.vc, .slice x.pa s.prs.length x.pc] 31)) := (b12.block _ (by omega)).trans ((B01.out.block _ (by simp)).trans UN.out)
  have BW2 : Hid (Below w.heap.size w W2) := B1.out.trans (b12.mono B1.out.size)
  have PR2 : Hid (PrAt W2 _ x s hs (spansL hs) gc gb) := HPR.out.below b12
  simp only [probC] at hW2
  rw [← hW2]
  clear hW2 b12 PR HPR
  by_cases hfit : FitsP (spansL hs) ord
  · have FI : Hid (FitsP (spansL hs) ord) := hfit
    have hlo : ord.length ≤ 8 := Nat.le_trans (fits_len hfit) HF.out.1
    have MK : ∀ w : World, (Instr.makeSlice 26 (.int .i64 ord.length) (.int .i64 ord.length)).run Tryd.prog w = .ok (.slice (some ⟨w.heap.size, 0, none⟩) ord.length ord.length) (w.alloc (.cells (madeCells #[.int .i64 0, .int .i64 0, .int .i64 0, .int .i64 0] (ord.length * 4)) 43)) := fun w => run_make_known (P := Tryd.prog) 26 43 (.agg #[.int .i64 0, .int .i64 0, .int .i64 0, .int .i64 0]) 4 32 ops_under op_info ord.length (by omega) (by omega) w
    clear hfit
    go_upto_region 8 with (first | (go_at_call 34; refine (FT.out _ BW2.out).mono ?_; rintro e w3 ⟨r, rfl, hb3, -, hr⟩; have B3 : Hid (Below W2.heap.size W2 w3) := hb3; obtain rfl : r = true := (hr HF.out.2.2.1).2 FI.out; clear hb3 hr))
    obtain ⟨g, hg⟩ : ∃ g, g = w3.heap.size := ⟨_, rfl⟩
    obtain ⟨W4, hW4⟩ : ∃ W4, W4 = w3.alloc (.cells (madeCells #[.int .i64 0, .int .i64 0, .int .i64 0, .int .i64 0] (ord.length * 4)) 43) := ⟨_, rfl⟩
    have B34 : Hid (Below w3.heap.size w3 W4) := by show Below _ _ _; rw [hW4]; exact below_alloc _ _
    have V4 : Hid (∃ F, Vals W4 g (ord.length * 4) F) := ⟨_, by rw [hW4, hg]; exact Vals.made4 w3 _ _ _⟩
    have zg : g < W4.heap.size := by rw [hW4, hg]; simp
    have z3 := B3.out.size
    have zgw : W2.heap.size ≤ g := by omega
    have BW3 : Hid (Below w.heap.size w w3) := BW2.out.trans (B3.out.mono BW2.out.size)
    have HG : Hid (g = w3.heap.size) := hg
    rw [← hW4, ← hg]
    clear hW4 hg MK
    obtain ⟨cl, hcm, hca, hco⟩ := PR2.out.calls
    have HCM : Hid (cl.map (·.1) = spansL hs) := hcm
    have HCA : Hid (CallsAt hs W2 (some ⟨gc, 0, none⟩) gc cl) := hca
    have HCO : Hid (∀ y ∈ cl, OwnP W2 (gc + 1) (retOf hs y.1).pairs y.2) := hco
    have gcl : gc < W2.heap.size := PR2.out.cl
    clear hcm hca hco
    go_wp2_with fail
    go_loopw [44] (fun i wr => ∃ (j : Nat) (F : Nat → Value), j ≤ ord.length ∧ i = .int .i64 j ∧ Below w3.heap.size w3 wr ∧ g < wr.heap.size ∧ Vals wr g (ord.length * 4) F ∧ ROs F (isOps hs (ord.take j))) (fun i _ => ord.length - (intOf i).toNat)
    case atStart =>
      obtain ⟨F, hF⟩ := V4.out
      exact ⟨0, F, Nat.zero_le _, rfl, B34.out, zg, hF, fun k hk => by simp [isOps] at hk⟩
    case round =>
      obtain ⟨j, F, hj, rfl, hb, hgz, hF, hro⟩ := hrel
      rename World => wr
      have HB : Hid (Below w3.heap.size w3 wr) := hb
      have HFV : Hid (Vals wr g (ord.length * 4) F) := hF
      have HRO : Hid (ROs F (isOps hs (ord.take j))) := hro
      have b2r : Below W2.heap.size W2 wr := B3.out.trans (hb.mono z3)
      have B2R : Hid (Below W2.heap.size W2 wr) := b2r
      by_cases hlt : j < ord.length
      · obtain rfl : obase = some ⟨ob, oo, none⟩ := HO.out.base (by omega)
        have c0 := (HO.out.below (BW3.out.trans (hb.mono BW3.out.size))).cells j hlt
        have lob : ob < wr.heap.size := World.block_lt_of_cell? wr _ c0
        have rng := FI.out.1.rng j hlt
        obtain ⟨i, hi⟩ : ∃ i : Nat, oAt ord j = i := ⟨(oAt ord j).toNat, by omega⟩
        have NX := isOps_take hs hlt
        rw [hi] at c0 rng NX
        have il : i < (spansL hs).length := by omega
        obtain ⟨ca, cq, cc, hpa, -, -, k0, k1, k2, k3, k4, k5, k6, k7, k8, k9, k10⟩ := call_eleven (HCA.out.below b2r) HCM.out (fun y hy => (HCO.out y hy).below b2r) il
        obtain ⟨⟨q0, _⟩, ⟨q1, _⟩, ⟨q2, _⟩, ⟨q3, _⟩, ⟨q4, _⟩, ⟨q5, _⟩⟩ := cells6 ((b2r.block _ (by omega)).trans PB.out)
        have u0 := hF (j * 4) (by omega)
        have u1 := hF (j * 4 + 1) (by omega)
        have u2 := hF (j * 4 + 2) (by omega)
        have u3 := hF (j * 4 + 3) (by omega)
        have NX' : Hid _ := NX
        have LR : Hid ((isOps hs (ord.take j)).length = j) := by show _ = _; simp [isOps]; omega
        have j0 : (0 : Int) ≤ (j : Int) := Int.natCast_nonneg _
        have j1 : (j : Int) < (ord.length : Int) := by omega
        have i0 : (0 : Int) ≤ (i : Int) := Int.natCast_nonneg _
        have i1 : (i : Int) < ((spansL hs).length : Int) := by omega
        have l1 : w1.heap.size < wr.heap.size := by have := b2r.size; omega
        have l2 : gc < wr.heap.size := Nat.lt_of_lt_of_le gcl b2r.size
        obtain ⟨o, ho⟩ : ∃ o, o = cOp hs (spansL hs) i := ⟨_, rfl⟩
        rw [← ho] at k1 k2 k3 k4
        have HOO : Hid (o = cOp hs (spansL hs) i) := ho
        clear hb hF hro b2r NX k0 k5 k6 k7 k8 k9 k10 hpa ho
        go_wp2_with fail
        have hgB := HG.out
        refine ⟨⟨j + 1, _, by omega, by go_num, ?_, by simpa using hgz, (((HFV.out.set _ _).set _ _).set _ _).set _ _, ?_⟩, by simp [intOf]; omega⟩
        · exact (((HB.out.setCell (p := ⟨g, _, none⟩) (by show w3.heap.size ≤ g; omega) _).setCell (p := ⟨g, _, none⟩) (by show w3.heap.size ≤ g; omega) _).setCell (p := ⟨g, _, none⟩) (by show w3.heap.size ≤ g; omega) _).setCell (p := ⟨g, _, none⟩) (by show w3.heap.size ≤ g; omega) _
        · rw [NX'.out, show ((i : Int)).toNat = i from by simp, ← HOO.out]
          have := HRO.out.snoc (r := o)
          rw [LR.out] at this
          exact this
      · have hje : j = ord.length := by omega
        subst hje
        have TK : ord.take ord.length = ord := List.take_length
        rw [TK] at hro
        have OPA : OpsAt wr (some ⟨g, 0, none⟩) g 0 (isOps hs ord) := ops_of_vals hF hro (by simp [isOps]) hgz (by unfold maxLen; omega)
        have hln : (isOps hs ord).length = ord.length := by simp [isOps]
        have KSN : ksN t (isOps hs ord) = true := by
          rw [ksN_iff]
          intro k hk
          rw [hln] at hk
          have rng := FI.out.1.rng k hk
          have : opAt (isOps hs ord) k = cOp hs (spansL hs) (oAt ord k).toNat := by
            simp [opAt, isOps, oAt, List.getD_eq_getElem?_getD, List.getElem?_eq_getElem hk]
          rw [this]
          exact ksC_iff.1 HF.out.2.2.2 _ (by omega)
        have BWR : Hid (Below w.heap.size w wr) := BW3.out.trans (hb.mono BW3.out.size)
        have RN : Hid (Calls Tryd.prog 58 #[.int .i64 t, .agg #[.slice x.va s.vals.length x.vc, .slice x.pa s.prs.length x.pc], .slice (some ⟨g, 0, none⟩) ord.length ord.length] wr fun e w' => ∃ (y : SX), ∃ ra rg rk, e = .returned (.tuple #[.agg #[.slice y.va (sRun t s (isOps hs ord)).vals.length y.vc, .slice y.pa (sRun t s (isOps hs ord)).prs.length y.pc], .slice ra ord.length rk]) ∧ Below wr.heap.size wr w' ∧ RetsAtM w' ra rg 0 (sRets t s (isOps hs ord))) := by
          have := run_any t x s (some ⟨g, 0, none⟩) g 0 ord.length (isOps hs ord) wr (HST.out.below BWR.out) OPA HF.out.2.1 KSN (by omega) (by omega) (by omega)
          unfold RunP at this
          rw [hln] at this
          refine this.mono ?_
          rintro e w' ⟨y, ra, rg, rk, rfl, h1, -, h3, -⟩
          exact ⟨y, ra, rg, rk, rfl, h1, h3⟩
        obtain ⟨⟨d0, _⟩, ⟨d1, _⟩⟩ := cells2 ((b2r.block _ (by omega)).trans UN2.out)
        have l1 : w.heap.size < wr.heap.size := by have := b2r.size; omega
        have HLN : Hid ((isOps hs ord).length = ord.length) := hln
        obtain ⟨SV, hSV⟩ : ∃ SV, SV = sRun t s (isOps hs ord) := ⟨_, rfl⟩
        rw [← hSV] at RN
        clear hb hF hro b2r OPA hln KSN TK hSV HRO HFV
        go_upto_region 14 with (first | (go_at_call 58; refine RN.out.mono ?_; rintro e w5 ⟨y, ra, rg, rk, rfl, hb5, hr5⟩; have B5 : Hid (Below wr.heap.size wr w5) := hb5; have R5 : Hid (RetsAtM w5 ra rg 0 (sRets t s (isOps hs ord))) := hr5; clear hb5 hr5))
        obtain ⟨W6, hW6⟩ : ∃ W6, W6 = w5.alloc (.cells #[.slice y.va SV.vals.length y.vc, .slice y.pa SV.prs.length y.pc] 31) := ⟨_, rfl⟩
        have b56 : Below w5.heap.size w5 W6 := by rw [hW6]; exact below_alloc _ _
        have BW6 : Hid (Below w.heap.size w W6) := (BWR.out.trans (B5.out.mono BWR.out.size)).trans (b56.mono (Nat.le_trans BWR.out.size B5.out.size))
        have B26 : Hid (Below W2.heap.size W2 W6) := (B2R.out.trans (B5.out.mono B2R.out.size)).trans (b56.mono (Nat.le_trans B2R.out.size B5.out.size))
        have R6 : Hid (RetsAtM W6 ra rg 0 (sRets t s (isOps hs ord))) := R5.out.below b56
        rw [← hW6]
        clear hW6 b56
        go_wp2_with fail
        go_loopw [68] (fun i wx => ∃ j : Nat, j ≤ ord.length ∧ i = .int .i64 j ∧ Below W6.heap.size W6 wx ∧ ∀ k, k < j → agrB hs (spAt (spansL hs) (oAt ord k).toNat) (retAt (sRets t s (isOps hs ord)) k) = true) (fun i _ => ord.length - (intOf i).toNat)
        case atStart => exact ⟨0, Nat.zero_le _, rfl, Below.refl _ _, fun k q => by omega⟩
        case round =>
          obtain ⟨j, hj, rfl, hbx, hall⟩ := hrel
          rename World => wx
          have HBX : Hid (Below W6.heap.size W6 wx) := hbx
          have HAL : Hid (∀ k, k < j → agrB hs (spAt (spansL hs) (oAt ord k).toNat) (retAt (sRets t s (isOps hs ord)) k) = true) := hall
          have b2x : Below W2.heap.size W2 wx := B26.out.trans (hbx.mono B26.out.size)
          clear hall
          by_cases hlt : j < ord.length
          · obtain rfl : obase = some ⟨ob, oo, none⟩ := HO.out.base (by omega)
            have c0 := (HO.out.below (BW6.out.trans (hbx.mono BW6.out.size))).cells j hlt
            have lob : ob < wx.heap.size := World.block_lt_of_cell? wx _ c0
            have rng := FI.out.1.rng j hlt
            obtain ⟨i, hi⟩ : ∃ i : Nat, oAt ord j = i := ⟨(oAt ord j).toNat, by omega⟩
            have HI : Hid (oAt ord j = i) := hi
            rw [hi] at c0 rng
            have il : i < (spansL hs).length := by omega
            obtain ⟨ca, cq, cc, hpa, -, -, k0, k1, k2, k3, k4, k5, k6, k7, k8, k9, k10⟩ := call_eleven (HCA.out.below b2x) HCM.out (fun y hy => (HCO.out y hy).below b2x) il
            obtain ⟨⟨q0, _⟩, ⟨q1, _⟩, ⟨q2, _⟩, ⟨q3, _⟩, ⟨q4, _⟩, ⟨q5, _⟩⟩ := cells6 ((b2x.block _ (by omega)).trans PB.out)
            have hrl : (sRets t s (isOps hs ord)).length = ord.length := by rw [sRets_length]; exact HLN.out
            have EX := R6.out.below hbx
            obtain rfl : ra = some ⟨rg, 0, none⟩ := EX.base (by omega)
            have zr : rg < wx.heap.size := EX.lt (by omega)
            obtain ⟨a1, g1, p1, n1, d0, d1, d2, d3, hp1⟩ := EX.cells j (by omega)
            simp only [Nat.zero_add] at d0 d1 d2 d3
            have hto := span_to HF.out.2.2.1 il
            have l1 : w1.heap.size < wx.heap.size := by have := b2x.size; omega
            have l2 : gc < wx.heap.size := Nat.lt_of_lt_of_le gcl b2x.size
            obtain ⟨r, hr⟩ : ∃ r, r = retAt (sRets t s (isOps hs ord)) j := ⟨_, rfl⟩
            have HRR : Hid (r = retAt (sRets t s (isOps hs ord)) j) := hr
            rw [← hr] at d0 d1 d2 d3 hp1
            have AG : Hid (∀ p : BelowBy wx, Calls Tryd.prog 64 #[.agg (callC hs (spAt (spansL hs) i) (.slice ca (retOf hs (spAt (spansL hs) i)).pairs.length cc)).toArray, .agg #[.bool r.ok, .int .i64 r.key, .int .i64 r.val, .slice a1 r.pairs.length n1]] p.W fun e w' => e = .returned (.bool (agrB hs (spAt (spansL hs) i) r)) ∧ Below p.W.heap.size p.W w') := fun p => agrees_any hs (spAt (spansL hs) i) r ca cq 0 cc a1 g1 p1 n1 p.W (hpa.below p.h) (hp1.below p.h) hto
            have y0 := BelowBy.cell l1 q3
            have t0 := BelowBy.cell l2 k0
            have t1 := BelowBy.cell l2 k1
            have t2 := BelowBy.cell l2 k2
            have t3 := BelowBy.cell l2 k3
            have t4 := BelowBy.cell l2 k4
            have t5 := BelowBy.cell l2 k5
            have t6 := BelowBy.cell l2 k6
            have t7 := BelowBy.cell l2 k7
            have t8 := BelowBy.cell l2 k8
            have t9 := BelowBy.cell l2 k9
            have t10 := BelowBy.cell l2 k10
            have s0 := BelowBy.cell zr d0
            have s1 := BelowBy.cell zr d1
            have s2 := BelowBy.cell zr d2
            have s3 := BelowBy.cell zr d3
            have j0 : (0 : Int) ≤ (j : Int) := Int.natCast_nonneg _
            have j1 : (j : Int) < (ord.length : Int) := by omega
            have i0 : (0 : Int) ≤ (i : Int) := Int.natCast_nonneg _
            have i1 : (i : Int) < ((spansL hs).length : Int) := by omega
            have HNX : Hid (agrB hs (spAt (spansL hs) i) r = true → ∀ k, k < j + 1 → agrB hs (spAt (spansL hs) (oAt ord k).toNat) (retAt (sRets t s (isOps hs ord)) k) = true) := fun q k hk => by
              by_cases e : k = j
              · subst e
                rw [HI.out, show ((i : Int)).toNat = i from by simp, ← HRR.out]
                exact q
              · exact HAL.out k (by omega)
            have HNN : Hid (agrB hs (spAt (spansL hs) i) r = false → ¬ IsOk t s hs ord) := fun q hq => by
              have := hq.2.2 j hlt
              rw [HI.out, show ((i : Int)).toNat = i from by simp, ← HRR.out, q] at this
              cases this
            obtain ⟨Fb, hFb⟩ : ∃ Fb, Fb = agrB hs (spAt (spansL hs) i) r := ⟨_, rfl⟩
            simp only [← hFb] at AG HNX HNN
            simp only [callC] at AG
            generalize (evAt hs (spAt (spansL hs) i).1).th = e0 at *
            generalize hcop : (evAt hs (spAt (spansL hs) i).1).op = eop at *
            have hcop' : cOp hs (spansL hs) i = eop := hcop
            rw [hcop'] at t1 t2 t3 t4
            clear hbx b2x EX hpa hp1 d0 d1 d2 d3 k0 k1 k2 k3 k4 k5 k6 k7 k8 k9 k10 q0 q1 q2 q4 q5 hr hi hFb hcop hcop'
            go_wp2_with fail
            refine wp_region_below (by kernel_rfl) (by kernel_rfl) ?_
            repeat (go_big_quiet_step ((go_at_call 64; exact below_call (AG.out _))))
            refine wpQuiet_nil ?_
            rintro _ ⟨p9, rfl⟩
            obtain ⟨W9, hW9⟩ : ∃ W9, W9 = p9.W := ⟨_, rfl⟩
            have B9 : Hid (Below wx.heap.size wx W9) := by show Below _ _ _; rw [hW9]; exact p9.h
            rw [← hW9]
            clear hW9 y0 t0 t1 t2 t3 t4 t5 t6 t7 t8 t9 t10 s0 s1 s2 s3 AG
            cases Fb with
            | true =>
              go_wp2_with fail
              exact ⟨⟨j + 1, by omega, by go_num, HBX.out.trans (B9.out.mono HBX.out.size), HNX.out (by simp)⟩, by simp [intOf]; omega⟩
            | false =>
              go_wp2_with fail
              refine bodyPost_ret (v := .tuple #[.bool false, .int .i64 0]) (by rw [results_t2 rfl]; simp) rfl (.inl ⟨rfl, BW6.out.trans ((HBX.out.trans (B9.out.mono HBX.out.size)).mono BW6.out.size), HNN.out (by simp)⟩)
          · have hok : IsOk t s hs ord := ⟨hz, FI.out, fun k hk => HAL.out k (by omega)⟩
            clear hbx b2x
            go_wp2_with fail
            refine bodyPost_ret (v := .tuple #[.bool true, .int .i64 0]) (by rw [results_t2 rfl]; simp) rfl ⟨true, rfl, BW6.out.trans (HBX.out.mono BW6.out.size), ⟨fun _ => hok, fun _ => rfl⟩⟩
  · have NF : ¬ IsOk t s hs ord := fun q => hfit q.2.1
    have HFI : Hid (¬ FitsP (spansL hs) ord) := hfit
    clear hfit
    go_wp2_with (first | (go_at_call 34; refine (FT.out _ BW2.out).mono ?_; rintro e w3 ⟨r, rfl, hb3, -, hr⟩; have B3 : Hid (Below W2.heap.size W2 w3) := hb3; obtain rfl : r = false := (by cases r; rfl; exact absurd ((hr HF.out.2.2.1).1 rfl) HFI.out); clear hb3 hr))
    refine bodyPost_ret (v := .tuple #[.bool false, .int .i64 0]) (by rw [results_t2 rfl]; simp) rfl ⟨false, rfl, BW2.out.trans (B3.out.mono BW2.out.size), ⟨fun q => (by cases q), fun q => absurd q NF⟩⟩
theorem is7_any (t : Int) (x : SX) (s : SD) (base : Option Addr) (b o c : Nat) (hs : List EvD) (pb : Nat → Option Addr) (pc pg po : Nat → Nat) (obase : Option Addr) (ob oo oc : Nat) (ord : List Int) (w : World) (h : StAt w x s) (hkd : KdAt w) (hev : EvsAt w base b o hs pb pc pg po) (ho : OrdAt w obase ob oo ord) (hsz : s.vals.length ≤ 999999000 ∧ s.prs.length ≤ 999999000) :
    Calls Tryd.prog 29 #[.int .i64 t, x.v s, .slice base hs.length c, .slice obase ord.length oc] w fun e w' => ∃ bb, e = .returned (.tuple #[.bool bb, .int .i64 (pErr t s hs)]) ∧ Below w.heap.size w w' ∧ (bb = true ↔ IsOk t s hs ord) := by
  by_cases hz : pErr t s hs = 0
  · have := is_ok t x s base b o c hs pb pc pg po obase ob oo oc ord w h hkd hev ho hz hsz
    rw [hz]
    exact this
  · refine (is_bad t x s base b o c hs pb pc pg po obase ord.length oc w h hkd hev hz).mono ?_
    rintro e w' ⟨rfl, hb⟩
    exact ⟨false, rfl, hb, ⟨fun q => (by cases q), fun q => absurd q.1 hz⟩⟩
end Go.Proofs.YtcphajjonecmbaaDoor


namespace Go.Proofs.YtcphajjonecmbaaDoor

open Go.RowKit

/-- From pre and s on, the operations l may come one after the other. -/
def StepsOk (t : Int) (hs : List EvD) (sp : List Sp) : List Nat → SD → List Nat → Prop
  | _, _, [] => True
  | pre, s, i :: l => i < sp.length ∧ onB t hs sp pre s i = true ∧ StepsOk t hs sp (pre ++ [i]) (sStep t s (cOp hs sp i)) l
theorem mem_allO (t : Int) (hs : List EvD) (sp : List Sp) : ∀ (f : Nat) (pre : List Nat) (s : SD) (p : List Nat × SD), p ∈ allO t hs sp f pre s ↔ ∃ l, l.length < f ∧ p = (pre ++ l, sRun t s (l.map (cOp hs sp))) ∧ StepsOk t hs sp pre s l ∧ wholeB sp (pre ++ l) = true
  | 0, pre, s, p => by
    simp only [allO, List.not_mem_nil, false_iff]
    rintro ⟨l, h, -⟩
    omega
  | f + 1, pre, s, p => by
    simp only [allO, List.mem_append, List.mem_flatMap, List.mem_range]
    constructor
    · rintro (h | ⟨i, hi, h⟩)
      · by_cases hw : wholeB sp pre = true
        · rw [if_pos hw, List.mem_singleton] at h
          exact ⟨[], by simp, by rw [h, List.append_nil]; rfl, trivial, by rw [List.append_nil]; exact hw⟩
        · rw [if_neg hw] at h; cases h
      · by_cases ho : onB t hs sp pre s i = true
        · rw [if_pos ho] at h
          obtain ⟨l, h1, h2, h3, h4⟩ := (mem_allO t hs sp f _ _ p).1 h
          refine ⟨i :: l, by simp; omega, by rw [h2, List.append_assoc]; rfl, ⟨hi, ho, h3⟩, ?_⟩
          rw [List.append_assoc] at h4
          exact h4
        · rw [if_neg ho] at h; cases h
    · rintro ⟨l, h1, h2, h3, h4⟩
      cases l with
      | nil =>
        left
        rw [List.append_nil] at h2 h4
        rw [if_pos h4, List.mem_singleton, h2]
        rfl
      | cons i l =>
        right
        obtain ⟨hi, ho, h3⟩ := h3
        refine ⟨i, hi, ?_⟩
        rw [if_pos ho]
        refine (mem_allO t hs sp f _ _ p).2 ⟨l, by simp at h1; omega, by rw [h2, List.append_assoc]; rfl, h3, ?_⟩
        rw [List.append_assoc]
        exact h4
/-- The steps, place by place. -/
theorem steps_iff (t : Int) (hs : List EvD) (sp : List Sp) : ∀ (l : List Nat) (pre : List Nat) (s : SD), StepsOk t hs sp pre s l ↔ ∀ k i, l[k]? = some i → i < sp.length ∧ onB t hs sp (pre ++ l.take k) (sRun t s ((l.take k).map (cOp hs sp))) i = true
  | [], pre, s => by simp [StepsOk]
  | i :: l, pre, s => by
    simp only [StepsOk]
    rw [steps_iff t hs sp l]
    constructor
    · rintro ⟨h1, h2, h3⟩ k j hk
      cases k with
      | zero =>
        obtain rfl := Option.some.inj hk
        simpa using ⟨h1, h2⟩
      | succ k =>
        have := h3 k j hk
        simpa [sRun] using this
    · intro h
      have h0 := h 0 i rfl
      refine ⟨h0.1, by simpa [sRun] using h0.2, fun k j hk => ?_⟩
      have := h (k + 1) j hk
      simpa [sRun] using this
theorem steps_ordG {t : Int} {hs : List EvD} {sp : List Sp} {l : List Nat} {s : SD} (h : StepsOk t hs sp [] s l) : OrdG sp.length l := by
  rw [steps_iff] at h
  refine ⟨fun i hi => ?_, ?_⟩
  · obtain ⟨k, hk, rfl⟩ := List.getElem_of_mem hi
    exact (h k _ (List.getElem?_eq_getElem hk)).1
  · rw [List.Nodup, List.pairwise_iff_getElem]
    intro a b ha hb hab e
    have h1 := (h b _ (List.getElem?_eq_getElem hb)).2
    have h2 := onB_not h1
    rw [List.nil_append] at h2
    have h3 : l[b] ∈ l.take b := by
      rw [← e]
      rw [List.mem_take_iff_getElem]
      exact ⟨a, by omega, rfl⟩
    rw [← List.contains_iff_mem] at h3
    rw [h3] at h2
    cases h2
/-- All that are told, from the beginning. -/
theorem mem_ordsO {t : Int} {s : SD} {hs : List EvD} {sp : List Sp} {l : List Nat} : l ∈ (ordsO t s hs sp).map (·.1) ↔ StepsOk t hs sp [] s l ∧ wholeB sp l = true := by
  rw [List.mem_map]
  constructor
  · rintro ⟨p, hp, rfl⟩
    obtain ⟨l, -, rfl, h3, h4⟩ := (mem_allO t hs sp _ _ _ p).1 hp
    exact ⟨h3, h4⟩
  · rintro ⟨h3, h4⟩
    have := (steps_ordG h3).le
    exact ⟨(l, sRun t s (l.map (cOp hs sp))), (mem_allO t hs sp _ _ _ _).2 ⟨l, by omega, rfl, h3, h4⟩, rfl⟩
theorem sRets_get (t : Int) : ∀ (l : List OpD) (s : SD) (k : Nat) (o : OpD), l[k]? = some o → (sRets t s l)[k]? = some (sRet t (sRun t s (l.take k)) o)
  | [], _, _, _, h => by simp at h
  | a :: l, s, 0, o, h => by
    obtain rfl := Option.some.inj h
    rfl
  | a :: l, s, k + 1, o, h => by
    show (sRets t (sStep t s a) l)[k]? = _
    rw [sRets_get t l _ k o h]
    rfl
theorem oAt_nat {l : List Nat} {k i : Nat} (h : l[k]? = some i) : oAt (l.map fun (j : Nat) => (j : Int)) k = (i : Int) := by
  simp [oAt, List.getD_eq_getElem?_getD, h]
theorem mayB_iff {sp : List Sp} {pre : List Nat} {i : Nat} : mayB sp pre i = true ↔ i ∉ pre ∧ ∀ j, j < sp.length → ahd (spAt sp j) (spAt sp i) = true → j ∈ pre := by
  unfold mayB
  simp only [Bool.and_eq_true, List.all_eq_true, List.mem_range, Bool.or_eq_true, Bool.not_eq_true', List.contains_iff_mem]
  constructor
  · rintro ⟨h1, h2⟩
    refine ⟨fun q => ?_, fun j hj ha => ?_⟩
    · rw [← List.contains_iff_mem] at q
      rw [q] at h1; cases h1
    · rcases h2 j hj with q | q
      · rw [ha] at q; cases q
      · exact q
  · rintro ⟨h1, h2⟩
    refine ⟨?_, fun j hj => ?_⟩
    · rw [← Bool.not_eq_true, List.contains_iff_mem]; exact h1
    · cases ha : ahd (spAt sp j) (spAt sp i)
      · exact .inl rfl
      · exact .inr (h2 j hj ha)
theorem wholeB_iff {sp : List Sp} {l : List Nat} : wholeB sp l = true ↔ ∀ j, j < sp.length → (spAt sp j).2 ≠ -1 → j ∈ l := by
  unfold wholeB
  simp only [List.all_eq_true, List.mem_range, Bool.or_eq_true, decide_eq_true_eq, List.contains_iff_mem]
  constructor
  · intro h j hj hn
    rcases h j hj with q | q
    · exact absurd q hn
    · exact q
  · intro h j hj
    by_cases e : (spAt sp j).2 = -1
    · exact .inl e
    · exact .inr (h j hj e)
/-- Fitting and agreeing orders are just those that are told. -/
theorem steps_fits {t : Int} {s : SD} {hs : List EvD} {sp : List Sp} (hself : ∀ k, k < sp.length → ahd (spAt sp k) (spAt sp k) = false) (l : List Nat) :
    (StepsOk t hs sp [] s l ∧ wholeB sp l = true) ↔ FitsP sp (l.map fun (j : Nat) => (j : Int)) ∧ ∀ k i, l[k]? = some i → agrB hs (spAt sp i) ((sRets t s (l.map (cOp hs sp))).getD k RetD.zero) = true := by
  have hlen : (l.map fun (j : Nat) => (j : Int)).length = l.length := by simp
  have hret : ∀ k i, l[k]? = some i → (sRets t s (l.map (cOp hs sp))).getD k RetD.zero = sRet t (sRun t s ((l.take k).map (cOp hs sp))) (cOp hs sp i) := fun k i h => by
    have : (l.map (cOp hs sp))[k]? = some (cOp hs sp i) := by simp [h]
    rw [List.getD_eq_getElem?_getD, sRets_get t _ s k _ this, ← List.map_take]
    rfl
  constructor
  · rintro ⟨h1, h2⟩
    have hG := steps_ordG h1
    rw [steps_iff] at h1
    have hat : ∀ k, k < l.length → ∃ i, l[k]? = some i ∧ i < sp.length ∧ onB t hs sp (l.take k) (sRun t s ((l.take k).map (cOp hs sp))) i = true := fun k hk => by
      have := h1 k _ (List.getElem?_eq_getElem hk)
      exact ⟨_, List.getElem?_eq_getElem hk, this.1, by simpa using this.2⟩
    refine ⟨⟨⟨fun k hk => ?_, fun a k hak hk => ?_, fun a k hak hk => ?_⟩, fun k hk hn => ?_⟩, fun k i hki => ?_⟩
    · rw [hlen] at hk
      obtain ⟨i, e, hi, -⟩ := hat k hk
      rw [oAt_nat e]
      omega
    · rw [hlen] at hk
      have ea := List.getElem?_eq_getElem (show a < l.length by omega)
      have ek := List.getElem?_eq_getElem hk
      rw [oAt_nat ea, oAt_nat ek]
      intro q
      have hne := List.pairwise_iff_getElem.1 hG.nd a k (by omega) hk hak
      omega
    · rw [hlen] at hk
      have ea := List.getElem?_eq_getElem (show a < l.length by omega)
      have ek := List.getElem?_eq_getElem hk
      rw [oAt_nat ea, oAt_nat ek]
      cases hh : ahd (spAt sp ((l[k] : Nat) : Int).toNat) (spAt sp ((l[a] : Nat) : Int).toNat)
      · rfl
      · exfalso
        obtain ⟨i, e, hi, ho⟩ := hat a (by omega)
        have hia : l[a] = i := Option.some.inj (ea.symm.trans e)
        rw [← hia] at ho
        unfold onB at ho
        rw [Bool.and_eq_true] at ho
        have hm := (mayB_iff.1 ho.1).2 l[k] (h1 k _ ek).1 (by simpa using hh)
        rw [List.mem_take_iff_getElem] at hm
        obtain ⟨b, hb, eb⟩ := hm
        have hne := List.pairwise_iff_getElem.1 hG.nd b k (by omega) hk (by omega)
        exact hne eb
    · rw [hlen, seenN_iff]
      have := wholeB_iff.1 h2 k hk hn
      obtain ⟨a, ha, rfl⟩ := List.getElem_of_mem this
      exact ⟨a, ha, oAt_nat (List.getElem?_eq_getElem ha)⟩
    · rw [hret k i hki]
      have hk : k < l.length := (List.getElem?_eq_some_iff.1 hki).1
      obtain ⟨i', e, hi, ho⟩ := hat k hk
      obtain rfl : i' = i := Option.some.inj (e.symm.trans hki)
      unfold onB at ho
      rw [Bool.and_eq_true] at ho
      exact ho.2
  · rintro ⟨⟨hO, hS⟩, hA⟩
    rw [hlen] at hO hS
    have hmem : ∀ j, j < sp.length → (spAt sp j).2 ≠ -1 → ∃ a, l[a]? = some j := fun j hj hn => by
      obtain ⟨a, ha, e⟩ := seenN_iff.1 (hS j hj hn)
      have ea := List.getElem?_eq_getElem ha
      rw [oAt_nat ea] at e
      exact ⟨a, by rw [ea]; congr 1; omega⟩
    refine ⟨?_, wholeB_iff.2 fun j hj hn => ?_⟩
    · rw [steps_iff]
      intro k i hki
      have hk : k < l.length := (List.getElem?_eq_some_iff.1 hki).1
      have hr := hO.rng k hk
      rw [oAt_nat hki] at hr
      refine ⟨by omega, ?_⟩
      unfold onB
      rw [Bool.and_eq_true, List.nil_append]
      refine ⟨mayB_iff.2 ⟨fun q => ?_, fun j hj ha => ?_⟩, ?_⟩
      · rw [List.mem_take_iff_getElem] at q
        obtain ⟨b, hb, eb⟩ := q
        have hbl : b < l.length := by omega
        have := hO.once b k (by omega) hk
        rw [oAt_nat (List.getElem?_eq_getElem hbl), oAt_nat hki, eb] at this
        exact this rfl
      · have hn : (spAt sp j).2 ≠ -1 := by
          unfold ahd at ha
          rw [Bool.and_eq_true, decide_eq_true_eq] at ha
          exact ha.1
        obtain ⟨a, ea⟩ := hmem j hj hn
        have hal : a < l.length := (List.getElem?_eq_some_iff.1 ea).1
        have hlt : a < k := by
          rcases Nat.lt_trichotomy a k with q | q | q
          · exact q
          · subst q
            obtain rfl : i = j := Option.some.inj (hki.symm.trans ea)
            rw [hself _ hj] at ha
            cases ha
          · have := hO.ahead k a q hal
            rw [oAt_nat ea, oAt_nat hki] at this
            simp only [Int.toNat_natCast] at this
            rw [this] at ha
            cases ha
        rw [List.mem_take_iff_getElem]
        exact ⟨a, by omega, (List.getElem?_eq_some_iff.1 ea).2⟩
      · rw [← hret k i hki]
        exact hA k i hki
    · obtain ⟨a, ea⟩ := hmem j hj hn
      exact List.mem_of_getElem? ea
end Go.Proofs.YtcphajjonecmbaaDoor

namespace Go.Proofs.YtcphajjonecmbaaDoor

open Go.RowKit

theorem ahd_self {hs : List EvD} (he : hErr hs = 0) {k : Nat} (hk : k < (spansL hs).length) : ahd (spAt (spansL hs) k) (spAt (spansL hs) k) = false := by
  obtain ⟨-, s, hst, hsl⟩ := hErr_zero he
  have hok := stN_ok hst
  rw [hsl] at hk ⊢
  unfold ahd
  rcases hok.to k hk with q | q
  · simp [q]
  · rw [Bool.and_eq_false_iff]
    right
    simp
    omega
theorem flat_sub {α β : Type} {g g' : α → List β} : ∀ {l : List α}, (∀ x ∈ l, (g x).Sublist (g' x)) → (l.flatMap g).Sublist (l.flatMap g')
  | [], _ => .slnil
  | x :: l, h => by
    simp only [List.flatMap_cons]
    exact (h x (by simp)).append (flat_sub (fun y hy => h y (by simp [hy])))
/-- One history is easier than another: what the growing of orders asks of it. -/
structure Easier (hs : List EvD) (sp : List Sp) (hs' : List EvD) (sp' : List Sp) : Prop where
  len : sp.length ≤ sp'.length
  op : ∀ i, i < sp.length → cOp hs' sp' i = cOp hs sp i
  ah : ∀ i j, i < sp.length → j < sp'.length → ahd (spAt sp' j) (spAt sp' i) = true → j < sp.length ∧ ahd (spAt sp j) (spAt sp i) = true
  ag : ∀ i r, i < sp.length → agrB hs (spAt sp i) r = true → agrB hs' (spAt sp' i) r = true
  wh : ∀ j, j < sp'.length → (spAt sp' j).2 ≠ -1 → j < sp.length ∧ (spAt sp j).2 ≠ -1
theorem Easier.may {hs hs' : List EvD} {sp sp' : List Sp} (h : Easier hs sp hs' sp') {pre : List Nat} {i : Nat} (hi : i < sp.length) (hm : mayB sp pre i = true) : mayB sp' pre i = true := by
  rw [mayB_iff] at hm ⊢
  refine ⟨hm.1, fun j hj ha => ?_⟩
  obtain ⟨h1, h2⟩ := h.ah i j hi hj ha
  exact hm.2 j h1 h2
theorem Easier.whole {hs hs' : List EvD} {sp sp' : List Sp} (h : Easier hs sp hs' sp') {pre : List Nat} (hw : wholeB sp pre = true) : wholeB sp' pre = true := by
  rw [wholeB_iff] at hw ⊢
  intro j hj hn
  obtain ⟨h1, h2⟩ := h.wh j hj hn
  exact hw j h1 h2
theorem allO_sub {hs hs' : List EvD} {sp sp' : List Sp} (t : Int) (h : Easier hs sp hs' sp') : ∀ (f f' : Nat) (pre : List Nat) (s : SD), f ≤ f' → (allO t hs sp f pre s).Sublist (allO t hs' sp' f' pre s)
  | 0, f', pre, s, _ => by simp [allO]
  | f + 1, 0, pre, s, hf => by omega
  | f + 1, f' + 1, pre, s, hf => by
    simp only [allO]
    refine List.Sublist.append ?_ ?_
    · by_cases hw : wholeB sp pre = true
      · rw [if_pos hw, if_pos (h.whole hw)]; exact List.Sublist.refl _
      · rw [if_neg hw]; exact List.nil_sublist _
    · obtain ⟨m, hm⟩ : ∃ m, sp'.length = sp.length + m := ⟨sp'.length - sp.length, by have := h.len; omega⟩
      rw [hm, List.range_add, List.flatMap_append]
      refine List.Sublist.trans ?_ (List.sublist_append_left _ _)
      refine flat_sub (fun i hi => ?_)
      have hi := List.mem_range.1 hi
      by_cases ho : onB t hs sp pre s i = true
      · have ho' : onB t hs' sp' pre s i = true := by
          unfold onB at ho ⊢
          rw [Bool.and_eq_true] at ho ⊢
          rw [h.op i hi]
          exact ⟨h.may hi ho.1, h.ag i _ hi ho.2⟩
        rw [if_pos ho, if_pos ho', h.op i hi]
        exact allO_sub t h f f' _ _ (by omega)
      · rw [if_neg ho]; exact List.nil_sublist _
theorem ordsO_sub {hs hs' : List EvD} {sp sp' : List Sp} (t : Int) (s : SD) (h : Easier hs sp hs' sp') : (ordsO t s hs sp).Sublist (ordsO t s hs' sp') := allO_sub t h _ _ _ _ (by have := h.len; omega)
/-- The events that are looked at alone count. -/
theorem stN_congr {hs hs' : List EvD} : ∀ {j : Nat}, (∀ i, i < j → evAt hs i = evAt hs' i) → stN hs j = stN hs' j
  | 0, _ => rfl
  | j + 1, h => by
    have ih := stN_congr (j := j) (fun i hi => h i (by omega))
    show (stN hs j).bind _ = (stN hs' j).bind _
    cases hst : stN hs j with
    | none => rw [← ih, hst]; rfl
    | some s =>
      rw [← ih, hst]
      show stepS hs s j = stepS hs' s j
      have hok := stN_ok hst
      have ej := h j (by omega)
      have eb : isBack hs s j ↔ isBack hs' s j := by
        unfold isBack
        rw [ej]
        constructor
        · rintro ⟨h1, h2⟩
          refine ⟨h1, ?_⟩
          rwa [← h _ (by have := hok.fr (s.beg (evAt hs' j).th.toNat - 1) (by have := hok.beg (evAt hs' j).th.toNat; omega); omega)]
        · rintro ⟨h1, h2⟩
          refine ⟨h1, ?_⟩
          rwa [h _ (by have := hok.fr (s.beg (evAt hs' j).th.toNat - 1) (by have := hok.beg (evAt hs' j).th.toNat; omega); omega)]
      have e1 : backS hs s j = backS hs' s j := by unfold backS; rw [ej]
      have e2 : goS hs s j = goS hs' s j := by unfold goS; rw [ej]
      unfold stepS
      rw [ej, e1, e2]
      by_cases hb : isBack hs s j
      · rw [if_pos hb, if_pos (eb.1 hb)]
      · rw [if_neg hb, if_neg (fun q => hb (eb.2 q))]
theorem evAt_left (a b : List EvD) {i : Nat} (hi : i < a.length) : evAt (a ++ b) i = evAt a i := by
  simp [evAt, List.getD_eq_getElem?_getD, List.getElem?_append_left hi]
/-- What is asked of a span's answer is asked of its events alone. -/
theorem agrB_congr {hs hs' : List EvD} {p : Sp} {r : RetD} (h : retOf hs p = retOf hs' p) : agrB hs p r = agrB hs' p r := by unfold agrB; rw [h]
/-- What behind the first events stands says nothing of them. -/
theorem stN_left (a : List EvD) (e : EvD) : stN (a ++ [e]) a.length = stN a a.length := stN_congr (fun _ hi => evAt_left a [e] hi)
theorem hErr_of {hs : List EvD} (hb : hs.length ≤ 100000) {s : St} (h : stN hs hs.length = some s) : hErr hs = 0 ∧ spansL hs = s.spans := by
  unfold hErr spansL
  rw [if_neg (by omega), h]
  exact ⟨rfl, rfl⟩
theorem retOf_left {a : List EvD} {e : EvD} {p : Sp} (h : p.2 = -1 ∨ 0 ≤ p.2 ∧ p.2 < a.length) : retOf (a ++ [e]) p = retOf a p := by
  unfold retOf
  rcases h with q | q
  · rw [if_pos q, if_pos q]
  · rw [if_neg (by omega), if_neg (by omega), evAt_left _ _ (by omega)]
/-- Without its last return. -/
theorem easier_drop' {a : List EvD} {e : EvD} (hr : e.ret = true) (he : hErr (a ++ [e]) = 0) : hErr a = 0 ∧ (spansL a).length = (spansL (a ++ [e])).length ∧ Easier (a ++ [e]) (spansL (a ++ [e])) a (spansL a) := by
  obtain ⟨hb, s, hst, hsl⟩ := hErr_zero he
  have hl : (a ++ [e]).length = a.length + 1 := by simp
  rw [hl] at hst hb
  have hst' : (stN (a ++ [e]) a.length).bind (fun s => stepS (a ++ [e]) s a.length) = some s := hst
  rw [stN_left] at hst'
  cases h0 : stN a a.length with
  | none => rw [h0] at hst'; cases hst'
  | some s0 =>
    rw [h0] at hst'
    have hstep : stepS (a ++ [e]) s0 a.length = some s := hst'
    obtain ⟨hea, hsa⟩ := hErr_of (by omega) h0
    have hok := stN_ok h0
    have hev : evAt (a ++ [e]) a.length = e := by simp [evAt, List.getD_eq_getElem?_getD]
    unfold stepS at hstep
    rw [hev, hr] at hstep
    by_cases hth : 0 ≤ e.th ∧ e.th < 64
    · rw [if_pos hth, if_pos rfl] at hstep
      by_cases hbk : isBack (a ++ [e]) s0 a.length
      · rw [if_pos hbk] at hstep
        obtain rfl := Option.some.inj hstep
        have hbk' := hbk.1
        rw [hev] at hbk'
        obtain ⟨k0, hk0⟩ : ∃ k0, k0 = s0.beg e.th.toNat - 1 := ⟨_, rfl⟩
        have hk0l : k0 < s0.spans.length := by have := hok.beg e.th.toNat; omega
        have hop := (hok.opn e.th.toNat hbk').1
        rw [← hk0] at hop
        have hsp : (backS (a ++ [e]) s0 a.length).spans = s0.spans.set k0 ((spAt s0.spans k0).1, (a.length : Int)) := by unfold backS; rw [hev, hk0]
        rw [hsp] at hsl
        have hat : ∀ i, spAt (spansL (a ++ [e])) i = if i = k0 then ((spAt s0.spans k0).1, (a.length : Int)) else spAt s0.spans i := fun i => by rw [hsl]; exact spAt_set _ _ _ _ hk0l
        have h1 : ∀ i, (spAt (spansL (a ++ [e])) i).1 = (spAt s0.spans i).1 := fun i => by
          rw [hat]
          split
          · rename_i q; rw [q]
          · rfl
        have hlen : (spansL (a ++ [e])).length = s0.spans.length := by rw [hsl]; simp
        refine ⟨hea, by rw [hsa, hlen], ?_⟩
        rw [hsa]
        refine ⟨by omega, fun i hi => ?_, fun i j hi hj ha => ?_, fun i r hi hag => ?_, fun j hj hn => ?_⟩
        · unfold cOp
          rw [h1, evAt_left _ _ (hok.fr i (by omega))]
        · refine ⟨by omega, ?_⟩
          unfold ahd at ha ⊢
          rw [Bool.and_eq_true, decide_eq_true_eq, decide_eq_true_eq] at ha ⊢
          have hne : j ≠ k0 := fun q => by subst q; exact ha.1 hop
          rw [h1 i, hat j, if_neg hne]
          exact ha
        · by_cases q : i = k0
          · subst q
            unfold agrB
            rw [hop]; rfl
          · rw [hat, if_neg q] at hag
            rw [← agrB_congr (retOf_left (e := e) ?_)]
            · exact hag
            · rcases hok.to i (by omega) with q | q
              · exact .inl q
              · exact .inr ⟨by omega, by omega⟩
        · have hne : j ≠ k0 := fun q => by subst q; exact hn hop
          exact ⟨by omega, by rw [hat, if_neg hne]; exact hn⟩
      · rw [if_neg hbk] at hstep; cases hstep
    · rw [if_neg hth] at hstep; cases hstep
theorem easier_drop {a : List EvD} {e : EvD} (hr : e.ret = true) (he : hErr (a ++ [e]) = 0) : hErr a = 0 ∧ Easier (a ++ [e]) (spansL (a ++ [e])) a (spansL a) := ⟨(easier_drop' hr he).1, (easier_drop' hr he).2.2⟩
theorem easier_len {a : List EvD} {e : EvD} (hr : e.ret = true) (he : hErr (a ++ [e]) = 0) : (spansL a).length ≤ (spansL (a ++ [e])).length := Nat.le_of_eq (easier_drop' hr he).2.1
/-- With an invocation more. -/
theorem easier_more {a : List EvD} {e : EvD} (hr : e.ret = false) (he : hErr (a ++ [e]) = 0) : hErr a = 0 ∧ Easier a (spansL a) (a ++ [e]) (spansL (a ++ [e])) := by
  obtain ⟨hb, s, hst, hsl⟩ := hErr_zero he
  have hl : (a ++ [e]).length = a.length + 1 := by simp
  rw [hl] at hst hb
  have hst' : (stN (a ++ [e]) a.length).bind (fun s => stepS (a ++ [e]) s a.length) = some s := hst
  rw [stN_left] at hst'
  cases h0 : stN a a.length with
  | none => rw [h0] at hst'; cases hst'
  | some s0 =>
    rw [h0] at hst'
    have hstep : stepS (a ++ [e]) s0 a.length = some s := hst'
    obtain ⟨hea, hsa⟩ := hErr_of (by omega) h0
    have hok := stN_ok h0
    have hev : evAt (a ++ [e]) a.length = e := by simp [evAt, List.getD_eq_getElem?_getD]
    unfold stepS at hstep
    rw [hev, hr] at hstep
    by_cases hth : 0 ≤ e.th ∧ e.th < 64
    · rw [if_pos hth, if_neg (by decide)] at hstep
      by_cases hg : s0.beg e.th.toNat = 0 ∧ isInv e = true
      · rw [if_pos hg] at hstep
        obtain rfl := Option.some.inj hstep
        have hsp : (goS (a ++ [e]) s0 a.length).spans = s0.spans ++ [(a.length, -1)] := rfl
        rw [hsp] at hsl
        have hat : ∀ i, spAt (spansL (a ++ [e])) i = if i = s0.spans.length then (a.length, -1) else spAt s0.spans i := fun i => by rw [hsl]; exact spAt_append _ _ _
        have hlen : (spansL (a ++ [e])).length = s0.spans.length + 1 := by rw [hsl]; simp
        refine ⟨hea, ?_⟩
        rw [hsa]
        refine ⟨by omega, fun i hi => ?_, fun i j hi hj ha => ?_, fun i r hi hag => ?_, fun j hj hn => ?_⟩
        · unfold cOp
          rw [hat, if_neg (by omega), evAt_left _ _ (hok.fr i hi)]
        · have hne : j ≠ s0.spans.length := fun q => by
            rw [hat j, if_pos q] at ha
            simp [ahd] at ha
          rw [hat j, if_neg hne, hat i, if_neg (by omega)] at ha
          exact ⟨by omega, ha⟩
        · rw [hat, if_neg (by omega), agrB_congr (retOf_left (e := e) ?_)]
          · exact hag
          · rcases hok.to i hi with q | q
            · exact .inl q
            · exact .inr ⟨by omega, by omega⟩
        · have hne : j ≠ s0.spans.length := fun q => by
            rw [hat j, if_pos q] at hn
            exact hn rfl
          rw [hat j, if_neg hne] at hn
          exact ⟨by omega, hn⟩
      · rw [if_neg hg] at hstep; cases hstep
    · rw [if_neg hth] at hstep; cases hstep
end Go.Proofs.YtcphajjonecmbaaDoor


namespace Go.Proofs.YtcphajjonecmbaaDoor

open Go.RowKit

theorem pErr_zero {t : Int} {s : SD} {hs : List EvD} : pErr t s hs = 0 ↔ sErr t s = 0 ∧ hErr hs = 0 ∧ ksC t hs (spansL hs) = true ∧ (spansL hs).length ≤ 8 := by
  unfold pErr
  constructor
  · intro h
    split at h
    · rename_i q; exact absurd h q
    · rename_i q
      split at h
      · cases h
      · rename_i q2
        split at h
        · rename_i q3
          split at h
          · cases h
          · exact ⟨by omega, by omega, q3, by omega⟩
        · cases h
  · rintro ⟨h1, h2, h3, h4⟩
    rw [if_neg (by omega), if_neg (by omega), if_pos h3, if_neg (by omega)]
theorem pErr_in (t : Int) (s : SD) (hs : List EvD) : pErr t s hs = 0 ∨ pErr t s hs = 2 ∨ pErr t s hs = 3 ∨ pErr t s hs = 5 := by
  unfold pErr
  split
  · rcases sErr_cases t s with q | q | q <;> rw [q] <;> simp
  · split
    · simp
    · split
      · split <;> simp
      · simp
theorem isOps_ordI (hs : List EvD) (l : List Nat) : isOps hs (ordI l) = l.map (cOp hs (spansL hs)) := by
  unfold isOps ordI
  rw [List.map_map]
  rfl
theorem isOk_iff {t : Int} {s : SD} {hs : List EvD} {ord : List Int} : IsOk t s hs ord ↔ pErr t s hs = 0 ∧ ∃ l, ord = ordI l ∧ l ∈ (ordsO t s hs (spansL hs)).map (·.1) := by
  constructor
  · rintro ⟨h1, h2, h3⟩
    obtain ⟨-, hl⟩ := fits_ordG h2
    obtain ⟨l, hl'⟩ : ∃ l, l = ord.map Int.toNat := ⟨_, rfl⟩
    rw [← hl'] at hl
    subst hl
    refine ⟨h1, l, rfl, mem_ordsO.2 ((steps_fits (fun k hk => ahd_self (pErr_zero.1 h1).2.1 hk) l).2 ⟨h2, fun k i hki => ?_⟩)⟩
    have hk : k < (ordI l).length := by rw [ordI_length]; exact (List.getElem?_eq_some_iff.1 hki).1
    have := h3 k hk
    rw [show oAt (ordI l) k = (i : Int) from oAt_nat hki, isOps_ordI] at this
    exact this
  · rintro ⟨h1, l, rfl, hl⟩
    obtain ⟨h2, h3⟩ := (steps_fits (fun k hk => ahd_self (pErr_zero.1 h1).2.1 hk) l).1 (mem_ordsO.1 hl)
    refine ⟨h1, h2, fun k hk => ?_⟩
    rw [ordI_length] at hk
    have hki := List.getElem?_eq_getElem hk
    rw [show oAt (ordI l) k = ((l[k] : Nat) : Int) from oAt_nat hki, isOps_ordI]
    exact h3 k _ hki
theorem Easier.isOk {t : Int} {s : SD} {hs hs' : List EvD} (E : Easier hs (spansL hs) hs' (spansL hs')) (hz : pErr t s hs' = 0) {l : List Nat} (hl : l ∈ (ordsO t s hs (spansL hs)).map (·.1)) : IsOk t s hs' (ordI l) :=
  isOk_iff.2 ⟨hz, l, rfl, (List.Sublist.map _ (ordsO_sub t s E)).subset hl⟩
theorem Easier.count {t : Int} {s : SD} {hs hs' : List EvD} (E : Easier hs (spansL hs) hs' (spansL hs')) : (ordsO t s hs (spansL hs)).length ≤ (ordsO t s hs' (spansL hs')).length := (ordsO_sub t s E).length_le
/-- Without its last return a history is no worse. -/
theorem pErr_drop {t : Int} {s : SD} {a : List EvD} {e : EvD} (hr : e.ret = true) (hz : pErr t s (a ++ [e]) = 0) : pErr t s a = 0 ∧ Easier (a ++ [e]) (spansL (a ++ [e])) a (spansL a) := by
  obtain ⟨h1, h2, h3, h4⟩ := pErr_zero.1 hz
  obtain ⟨h5, E⟩ := easier_drop hr h2
  refine ⟨pErr_zero.2 ⟨h1, h5, ksC_iff.2 fun i hi => ?_, ?_⟩, E⟩
  · have hl : (spansL a).length ≤ (spansL (a ++ [e])).length := easier_len hr h2
    rw [E.op i (by omega)]
    exact ksC_iff.1 h3 i (by omega)
  · have hl : (spansL a).length ≤ (spansL (a ++ [e])).length := easier_len hr h2
    omega
end Go.Proofs.YtcphajjonecmbaaDoor




namespace Go.Proofs.YtcphajjonecmbaaDoor

open Go.ChangeShapes Go.WideShapes Go.ChangeAt Go.RowKit Go.Deep

attribute [local go_sem ↓] Go.wp_at_zero Go.wp_at_succ

/-- The cells of an event, v its list of pairs. -/
def evC (e : EvD) (v : Value) : List Value := [.int .i64 e.th, .bool e.ret, .int .i64 e.op.kind, .int .i64 e.op.key, .int .i64 e.op.val, .int .i64 e.op.hi, .bool e.rt.ok, .int .i64 e.rt.key, .int .i64 e.rt.val, v]
theorem ev_info : (Tryd.prog.info? 84).map (fun i => (i.zero, i.size, i.bytes)) = some (some (.agg #[.int .i64 0, .bool false, .int .i64 0, .int .i64 0, .int .i64 0, .int .i64 0, .bool false, .int .i64 0, .int .i64 0, .slice none 0 0]), 10, 96) := by kernel_rfl
theorem evs_under : Tryd.prog.underlying 52 = some (.slice 84) := by kernel_rfl
theorem pairs_set_any {w : World} {base : Option Addr} {b o : Nat} {ps : PL} (h : PairsAt w base b o ps) {g j : Nat} {v : Value} (hg : ps.length ≠ 0 → b ≠ g) : PairsAt (w.setCell ⟨g, j, none⟩ v) base b o ps := by
  by_cases hn : ps.length = 0
  · exact ⟨fun q => absurd hn q, fun q => absurd hn q, fun i hi => by omega, h.len, fun i hi => by omega⟩
  · exact h.apart' (Ne.symm (hg hn))
def thN (hs : List EvD) (t : Int) : Nat → List EvD
  | 0 => []
  | j + 1 => if (evAt hs j).th = t then thN hs t j ++ [evAt hs j] else thN hs t j
theorem thN_le (hs : List EvD) (t : Int) : ∀ j, (thN hs t j).length ≤ j
  | 0 => Nat.le_refl _
  | j + 1 => by
    have := thN_le hs t j
    simp only [thN]
    split
    · simp; omega
    · omega

def evsC : List (EvD × Value) → List Value
  | [] => []
  | x :: t => evC x.1 x.2 ++ evsC t
theorem evsC_append (b : List (EvD × Value)) : ∀ a, evsC (a ++ b) = evsC a ++ evsC b
  | [] => rfl
  | x :: t => by simp [evsC, evsC_append b t]
theorem evC_length (e : EvD) (v : Value) : (evC e v).length = 10 := rfl
theorem evsC_length : ∀ a, (evsC a).length = a.length * 10
  | [] => rfl
  | x :: t => by simp only [evsC, List.length_append, evC_length, evsC_length t, List.length_cons]; omega
theorem evsC_get : ∀ (a : List (EvD × Value)) (k i : Nat) (x : EvD × Value), a[k]? = some x → i < 10 → (evsC a)[k * 10 + i]? = (evC x.1 x.2)[i]?
  | [], k, i, x, h, _ => by simp at h
  | y :: t, 0, i, x, h, hi => by
    simp only [List.getElem?_cons_zero, Option.some.injEq] at h
    subst h
    simp only [evsC, Nat.zero_mul, Nat.zero_add]
    rw [List.getElem?_append_left (by exact hi)]
  | y :: t, k + 1, i, x, h, hi => by
    have ih := evsC_get t k i x (by simpa using h) hi
    simp only [evsC]
    rw [List.getElem?_append_right (by rw [evC_length]; omega), evC_length, show (k + 1) * 10 + i - 10 = k * 10 + i by omega]
    exact ih
/-- The list of pairs of an event, apart from the row that the event lies in. -/
def ERet (w : World) (B : Nat) (row : Option Nat) (e : EvD) (v : Value) : Prop :=
  ∃ a g o cap, v = .slice a e.rt.pairs.length cap ∧ (e.rt.pairs.length ≠ 0 → B ≤ g ∧ row ≠ some g) ∧ PairsAt w a g o e.rt.pairs ∧ (a = none → e.rt.pairs.length = 0 ∧ cap = 0) ∧ e.rt.pairs.length * 16 ≤ 140737488355328
def ERets (w : World) (B : Nat) (row : Option Nat) (m : List (EvD × Value)) : Prop := ∀ x ∈ m, ERet w B row x.1 x.2
theorem ERet.below {w w' : World} {B : Nat} {row : Option Nat} {e : EvD} {v : Value} (h : ERet w B row e v) (hb : Below w.heap.size w w') : ERet w' B row e v := by
  obtain ⟨a, g, o, cap, e1, h1, h2, h3⟩ := h
  exact ⟨a, g, o, cap, e1, h1, h2.below hb, h3⟩
theorem ERets.below {w w' : World} {B : Nat} {row : Option Nat} {m : List (EvD × Value)} (h : ERets w B row m) (hb : Below w.heap.size w w') : ERets w' B row m := fun x hx => (h x hx).below hb
theorem pairs_grown {w w1 : World} {row : Option Nat} {a : Option Addr} {g o : Nat} {ps : PL} (h : PairsAt w a g o ps) (hg : w.grownBy w1 row) (hr : ps.length ≠ 0 → row ≠ some g) : PairsAt w1 a g o ps := by
  refine ⟨h.base, fun hn => Nat.lt_of_lt_of_le (h.lt hn) hg.size, fun i hi => ?_, h.len, fun i hi => (hg.frozen_far ⟨g, _, none⟩ (h.lt (by omega)) (fun q => hr (by omega) q.symm)).trans (h.thaw i hi)⟩
  have hl := h.lt (by omega)
  have hne := hr (by omega)
  exact ⟨(hg.cell_far ⟨g, _, none⟩ hl (fun q => hne q.symm)).trans (h.cells i hi).1, (hg.cell_far ⟨g, _, none⟩ hl (fun q => hne q.symm)).trans (h.cells i hi).2⟩
theorem ERet.grown {w w1 : World} {B : Nat} {row row' : Option Nat} {e : EvD} {v : Value} (h : ERet w B row e v) (hg : w.grownBy w1 row) (hr : ∀ g, row' = some g → row = some g ∨ w.heap.size ≤ g) : ERet w1 B row' e v := by
  obtain ⟨a, g, o, cap, e1, h1, h2, h3⟩ := h
  refine ⟨a, g, o, cap, e1, fun hn => ⟨(h1 hn).1, fun q => ?_⟩, pairs_grown h2 hg (fun hn => (h1 hn).2), h3⟩
  rcases hr g q with r | r
  · exact (h1 hn).2 r
  · have := h2.lt hn; omega
theorem ERets.grown {w w1 : World} {B : Nat} {row row' : Option Nat} {m : List (EvD × Value)} (h : ERets w B row m) (hg : w.grownBy w1 row) (hr : ∀ g, row' = some g → row = some g ∨ w.heap.size ≤ g) : ERets w1 B row' m := fun x hx => (h x hx).grown hg hr
/-- Events in memory of the call's own. -/
def EvsNew (w : World) (B B2 : Nat) (v : Value) (l : List EvD) : Prop :=
  ∃ base cap g pb pc pg po, v = .slice base l.length cap ∧ EvsAt w base g 0 l pb pc pg po ∧ (l.length ≠ 0 → B ≤ g) ∧ (base = none → cap = 0) ∧ ∀ i, i < l.length → (evAt l i).rt.pairs.length ≠ 0 → B2 ≤ pg i
theorem EvsNew.nil (w : World) (B B2 : Nat) : EvsNew w B B2 (.slice none 0 0) [] :=
  ⟨none, 0, 0, fun _ => none, fun _ => 0, fun _ => 0, fun _ => 0, rfl, ⟨fun q => absurd rfl q, fun q => absurd rfl q, by simp, fun i hi => by simp at hi, fun i hi => by simp at hi, fun i hi => by simp at hi, fun i hi => by simp at hi, fun i hi => by simp at hi⟩, fun q => absurd rfl q, fun _ => rfl, fun i hi => by simp at hi⟩
theorem EvsNew.below {w w' : World} {B B2 : Nat} {v : Value} {l : List EvD} (h : EvsNew w B B2 v l) (hb : Below w.heap.size w w') : EvsNew w' B B2 v l := by
  obtain ⟨base, cap, g, pb, pc, pg, po, e, h1, h2⟩ := h
  exact ⟨base, cap, g, pb, pc, pg, po, e, h1.below hb, h2⟩
theorem evAt_map {m : List (EvD × Value)} {l : List EvD} (hm : m.map (·.1) = l) {i : Nat} {x : EvD × Value} (hx : m[i]? = some x) : evAt l i = x.1 := by
  unfold evAt
  rw [← hm, List.getD_eq_getElem?_getD, List.getElem?_map, hx]
  rfl
theorem evs_of {w : World} {B2 : Nat} {base : Option Addr} {g : Nat} {row : Option Nat} {m : List (EvD × Value)} {l : List EvD} (hm : m.map (·.1) = l) (hb : m.length ≠ 0 → base = some ⟨g, 0, none⟩) (hl : m.length ≠ 0 → g < w.heap.size) (hlen : l.length ≤ maxLen)
    (hc : ∀ k x, m[k]? = some x → ∀ i, i < 10 → w.cell? ⟨g, k * 10 + i, none⟩ = (evC x.1 x.2)[i]?) (hp : ERets w B2 row m) (hfr : ∀ j, j < l.length * 10 → w.frozen? ⟨g, j, none⟩ = false) :
    ∃ pb pc pg po, EvsAt w base g 0 l pb pc pg po ∧ ∀ i, i < l.length → (evAt l i).rt.pairs.length ≠ 0 → B2 ≤ pg i := by
  have hml : m.length = l.length := by rw [← hm, List.length_map]
  have key : ∀ i, i < l.length → ∃ y : (Option Addr) × Nat × Nat × Nat, (∀ k, k < 10 → w.cell? ⟨g, 0 + i * 10 + k, none⟩ = (evC (evAt l i) (.slice y.1 (evAt l i).rt.pairs.length y.2.1))[k]?) ∧ PairsAt w y.1 y.2.2.1 y.2.2.2 (evAt l i).rt.pairs ∧ (y.1 = none → (evAt l i).rt.pairs.length = 0 ∧ y.2.1 = 0) ∧ (evAt l i).rt.pairs.length * 16 ≤ 140737488355328 ∧ ((evAt l i).rt.pairs.length ≠ 0 → B2 ≤ y.2.2.1) := by
    intro i hi
    obtain ⟨x, hx⟩ : ∃ x, m[i]? = some x := ⟨m[i], List.getElem?_eq_getElem (by omega)⟩
    obtain ⟨a, q, o, cap, h1, h2, h3, h4, h5⟩ := hp x (List.mem_of_getElem? hx)
    rw [evAt_map hm hx]
    refine ⟨(a, cap, q, o), fun k hk => ?_, h3, h4, h5, fun hn => (h2 hn).1⟩
    rw [Nat.zero_add, hc i x hx k hk, h1]
  obtain ⟨f, hf⟩ := choose_lt key
  refine ⟨fun i => (f i).1, fun i => (f i).2.1, fun i => (f i).2.2.1, fun i => (f i).2.2.2, ⟨fun q => hb (by omega), fun q => hl (by omega), hlen, fun i hi => ?_, fun i hi => ?_, fun i hi => ?_, fun i hi => ?_, fun i hi => by rw [Nat.zero_add]; exact hfr i hi⟩, fun i hi => (hf i hi).2.2.2.2⟩
  · have q := (hf i hi).1
    exact ⟨q 0 (by omega), q 1 (by omega)⟩
  · have q := (hf i hi).1
    exact ⟨q 2 (by omega), q 3 (by omega), q 4 (by omega), q 5 (by omega)⟩
  · have q := (hf i hi).1
    exact ⟨q 6 (by omega), q 7 (by omega), q 8 (by omega), q 9 (by omega)⟩
  · obtain ⟨_, q1, q2, q3, _⟩ := hf i hi
    exact ⟨q1, q2, q3⟩
/-- A row of events that is owned: events in memory. -/
theorem own_evs {w : World} {B B2 : Nat} {T : TypeId} {v : Value} {m : List (EvD × Value)} {l : List EvD} (hm : m.map (·.1) = l) (ho : w.ownsRow B T 10 v m.length (evsC m)) (hr : ERets w B2 v.ownBlock m) : EvsNew w B B2 v l := by
  have hml : m.length = l.length := by rw [← hm, List.length_map]
  by_cases hn : m.length = 0
  · obtain rfl : l = [] := List.length_eq_zero_iff.1 (by omega)
    obtain rfl : m = [] := List.length_eq_zero_iff.1 hn
    obtain ⟨_, h⟩ := ho
    rcases h with ⟨rfl, _⟩ | ⟨g, cap, cur, rfl, hg, hh, h1, h2, h3, h4⟩
    · exact EvsNew.nil _ _ _
    · exact ⟨_, cap, g, fun _ => none, fun _ => 0, fun _ => 0, fun _ => 0, rfl, ⟨fun q => absurd rfl q, fun q => absurd rfl q, by simp, fun i hi => by simp at hi, fun i hi => by simp at hi, fun i hi => by simp at hi, fun i hi => by simp at hi, fun i hi => by simp at hi⟩, fun q => absurd rfl q, (fun q => by cases q), fun i hi => by simp at hi⟩
  · obtain ⟨g, cap, e, h1, h2, h3, h4, h5, h6⟩ := owns_some ho (by omega)
    obtain ⟨pb, pc, pg, po, h, hB⟩ := evs_of (base := some ⟨g, 0, none⟩) (g := g) hm (fun _ => rfl) (fun _ => h2) (by omega) (fun k x hx i hi => by have hk := (List.getElem?_eq_some_iff.1 hx).1; rw [h5 _ (by omega)]; exact evsC_get m k i x hx hi) hr (fun j _ => h6 j)
    exact ⟨_, cap, g, pb, pc, pg, po, by rw [e, hml], h, fun _ => h1, (fun q => by cases q), hB⟩
theorem frozen_new (w : World) (cs : Array Value) (T : TypeId) (k : Nat) : (w.alloc (.cells cs T)).frozen? ⟨w.heap.size, k, none⟩ = false := by
  simp only [World.frozen?, heap_alloc_at w (.cells cs T) w.heap.size rfl]
  simp
theorem owns_other {w : World} {B sz : Nat} {e : TypeId} {v : Value} {n : Nat} {xs : List Value} (h : w.ownsRow B e sz v n xs) (b j : Nat) (u : Value) (hb : v.ownBlock ≠ some b) : (w.setCell ⟨b, j, none⟩ u).ownsRow B e sz v n xs := by
  obtain ⟨h0, h⟩ := h
  rcases h with h | ⟨g, cap, cur, rfl, hg, hh, h1, h2, h3, h4⟩
  · exact ⟨h0, Or.inl h⟩
  · refine ⟨h0, Or.inr ⟨g, cap, cur, rfl, hg, ?_, h1, h2, h3, h4⟩⟩
    have hne : b ≠ g := fun e => hb (by simp [Value.ownBlock, e])
    simp [World.setCell, Array.getElem?_modify, hne, hh]
theorem ERet.set {w : World} {B : Nat} {row : Option Nat} {e : EvD} {v : Value} (h : ERet w B row e v) {b j : Nat} {u : Value} (hb : ∀ a g o cap, v = .slice a e.rt.pairs.length cap → PairsAt w a g o e.rt.pairs → e.rt.pairs.length ≠ 0 → g ≠ b) : ERet (w.setCell ⟨b, j, none⟩ u) B row e v := by
  obtain ⟨a, g, o, cap, e1, h1, h2, h3⟩ := h
  exact ⟨a, g, o, cap, e1, h1, pairs_set_any h2 (hb a g o cap e1 h2), h3⟩
theorem pairs_set_new {w : World} {a : Option Addr} {g o : Nat} {ps : PL} (h : PairsAt w a g o ps) {b j : Nat} {u : Value} (hb : w.heap.size ≤ b) : PairsAt (w.setCell ⟨b, j, none⟩ u) a g o ps :=
  pairs_set_any h (fun hn => by have := h.lt hn; omega)
/-- What is held of the worlds between an event's copy and its append: four cells of a block that isn't the row's are written. -/
theorem four_set {wr w2 : World} {n B : Nat} {T : TypeId} {row : Value} {m : List (EvD × Value)} {u6 u7 u8 u9 : Value} (hn : n = wr.heap.size) (ho : wr.ownsRow B T 10 row m.length (evsC m)) (hr : ERets wr B row.ownBlock m) (hb : Below wr.heap.size wr w2) {W3 : World} (hW : W3 = (((w2.setCell ⟨n, 6, none⟩ u6).setCell ⟨n, 7, none⟩ u7).setCell ⟨n, 8, none⟩ u8).setCell ⟨n, 9, none⟩ u9) :
    W3.ownsRow B T 10 row m.length (evsC m) ∧ ERets W3 B row.ownBlock m ∧ Below wr.heap.size wr W3 ∧ W3.heap.size = w2.heap.size := by
  have hne : row.ownBlock ≠ some n := fun q => by have := (owns_lt ho n q).2; omega
  subst hW
  refine ⟨owns_other (owns_other (owns_other (owns_other (owns_below ho hb) _ _ _ hne) _ _ _ hne) _ _ _ hne) _ _ _ hne, ?_, ?_, by simp⟩
  · intro x hx
    obtain ⟨a, g, o, cap, e1, h1, h2, h3⟩ := hr x hx
    have hg : x.1.rt.pairs.length ≠ 0 → g ≠ n := fun q => by have := h2.lt q; omega
    exact ⟨a, g, o, cap, e1, h1, pairs_set_any (pairs_set_any (pairs_set_any (pairs_set_any (h2.below hb) hg) hg) hg) hg, h3⟩
  · exact (((hb.setCell (by simp [hn]) _).setCell (by simp [hn]) _).setCell (by simp [hn]) _).setCell (by simp [hn]) _
theorem pairs_four {w2 : World} {n : Nat} {a : Option Addr} {g : Nat} {ps : PL} {u6 u7 u8 u9 : Value} (h : PairsAt w2 a g 0 ps) (hg : ps.length ≠ 0 → g ≠ n) {W3 : World} (hW : W3 = (((w2.setCell ⟨n, 6, none⟩ u6).setCell ⟨n, 7, none⟩ u7).setCell ⟨n, 8, none⟩ u8).setCell ⟨n, 9, none⟩ u9) : PairsAt W3 a g 0 ps := by
  subst hW
  exact pairs_set_any (pairs_set_any (pairs_set_any (pairs_set_any h hg) hg) hg) hg
theorem cells_four {w2 : World} {n : Nat} {f : Nat → Value} {u6 u7 u8 u9 : Value} (h : ∀ k, k < 10 → w2.cell? ⟨n, k, none⟩ = some (f k)) {W3 : World} (hW : W3 = (((w2.setCell ⟨n, 6, none⟩ u6).setCell ⟨n, 7, none⟩ u7).setCell ⟨n, 8, none⟩ u8).setCell ⟨n, 9, none⟩ u9) :
    (∀ k, k < 6 → W3.cell? ⟨n, k, none⟩ = some (f k)) ∧ W3.cell? ⟨n, 6, none⟩ = some u6 ∧ W3.cell? ⟨n, 7, none⟩ = some u7 ∧ W3.cell? ⟨n, 8, none⟩ = some u8 ∧ W3.cell? ⟨n, 9, none⟩ = some u9 := by
  subst hW
  have ne : ∀ a b : Nat, a ≠ b → (⟨n, a, none⟩ : Addr) ≠ ⟨n, b, none⟩ := fun a b h q => h (congrArg Addr.off q)
  have some_of : ∀ k, k < 10 → (w2.cell? ⟨n, k, none⟩).isSome = true := fun k hk => by rw [h k hk]; rfl
  refine ⟨fun k hk => ?_, ?_, ?_, ?_, ?_⟩
  · rw [World.cell?_setCell_other _ _ _ _ (ne _ _ (by omega)), World.cell?_setCell_other _ _ _ _ (ne _ _ (by omega)), World.cell?_setCell_other _ _ _ _ (ne _ _ (by omega)), World.cell?_setCell_other _ _ _ _ (ne _ _ (by omega)), h k (by omega)]
  · rw [World.cell?_setCell_other _ _ _ _ (ne _ _ (by omega)), World.cell?_setCell_other _ _ _ _ (ne _ _ (by omega)), World.cell?_setCell_other _ _ _ _ (ne _ _ (by omega))]
    exact World.cell?_setCell_same _ _ _ (by rw [h 6 (by omega)])
  · rw [World.cell?_setCell_other _ _ _ _ (ne _ _ (by omega)), World.cell?_setCell_other _ _ _ _ (ne _ _ (by omega))]
    exact World.cell?_setCell_same _ _ _ (by rw [World.cell?_setCell_other _ _ _ _ (ne _ _ (by omega)), h 7 (by omega)])
  · rw [World.cell?_setCell_other _ _ _ _ (ne _ _ (by omega))]
    exact World.cell?_setCell_same _ _ _ (by rw [World.cell?_setCell_other _ _ _ _ (ne _ _ (by omega)), World.cell?_setCell_other _ _ _ _ (ne _ _ (by omega)), h 8 (by omega)])
  · exact World.cell?_setCell_same _ _ _ (by rw [World.cell?_setCell_other _ _ _ _ (ne _ _ (by omega)), World.cell?_setCell_other _ _ _ _ (ne _ _ (by omega)), World.cell?_setCell_other _ _ _ _ (ne _ _ (by omega)), h 9 (by omega)])
theorem take_snoc_ev {hs : List EvD} {j : Nat} (h : j < hs.length) : hs.take (j + 1) = hs.take j ++ [evAt hs j] := by
  rw [List.take_succ_eq_append_getElem h]
  congr 1
  unfold evAt
  rw [List.getD_eq_getElem?_getD, List.getElem?_eq_getElem h]
  rfl
/-- A row of events, one more behind. -/
theorem rows_snoc {w2 w3 : World} {B gg : Nat} {o : Obj} {row : Value} {m : List (EvD × Value)} {e : EvD} {v : Value} (hr : ERets w2 B row.ownBlock m) (hv : ERet w2 B row.ownBlock e v) (hg : (w2.alloc o).grownBy w3 row.ownBlock) (hat : row.ownBlock = some gg ∨ gg = w2.heap.size + 1) : ERets w3 B (some gg) (m ++ [(e, v)]) := by
  have h2 : ERets w2 B row.ownBlock (m ++ [(e, v)]) := by
    intro x hx
    rcases List.mem_append.1 hx with q | q
    · exact hr x q
    · rw [List.mem_singleton] at q; subst q; exact hv
  refine (h2.below (below_alloc w2 o)).grown hg ?_
  intro g q
  cases q
  rcases hat with r | r
  · exact Or.inl r
  · right; simp; omega
theorem evsC_snoc (m : List (EvD × Value)) (e : EvD) (v : Value) : evsC (m ++ [(e, v)]) = evsC m ++ evC e v := by rw [evsC_append]; simp [evsC]

set_option maxRecDepth 100000 in
set_option maxHeartbeats 2000000 in
theorem Of_any (base : Option Addr) (b o c : Nat) (hs : List EvD) (pb : Nat → Option Addr) (pc pg po : Nat → Nat) (w : World) (h : EvsAt w base b o hs pb pc pg po) (t : Int) :
    Calls Tryd.prog 36 #[.slice base hs.length c, .int .i64 t] w fun e w' => ∃ v, e = .returned (.tuple #[v, .int .i64 (hErr hs)]) ∧ Below w.heap.size w w' ∧ (hErr hs ≠ 0 → v = .slice none 0 0) ∧ (hErr hs = 0 → EvsNew w' w.heap.size w.heap.size v (thN hs t hs.length)) := by
  have HA : Hid _ := h
  clear h
  by_cases he : hErr hs = 0
  · have hn : (hErr hs != 0) = false := by simp [he]
    have hbn := (hErr_zero he).1
    have HE : Hid _ := he
    clear he
    obtain ⟨i0, hi0, hz0, hz1, hz2⟩ := info_parts ev_info
    go_enter Tryd.func36, Tryd.ntmps36
    go_wp2_with fail
    refine (check_any base b o c hs pb pc pg po _ HA.out).mono ?_
    rintro e w1 ⟨rfl, hb1⟩
    have B1 : Hid _ := hb1
    clear hb1
    go_wp2_with fail
    go_loopw [7, 17] (fun v i wr => ∃ (j : Nat) (m : List (EvD × Value)), j ≤ hs.length ∧ i = .int .i64 j ∧ Below w.heap.size w wr ∧ m.map (·.1) = thN hs t j ∧ wr.ownsRow w.heap.size 84 10 v m.length (evsC m) ∧ ERets wr w.heap.size v.ownBlock m) (fun _ i _ => hs.length - (intOf i).toNat)
    case atStart => exact ⟨0, [], Nat.zero_le _, rfl, B1.out, by simp [thN], World.ownsRow_nil _ _ _ _, fun x hx => by cases hx⟩
    case round =>
      obtain ⟨j, m, hj, rfl, hbw, hmap, hown, hrets⟩ := hrel
      obtain ⟨oa, oc, rfl⟩ := owns_form hown
      have HW : Hid _ := hbw
      have HM : Hid _ := hmap
      have HO : Hid (World.ownsRow _ _ _ _ _ _ _) := hown
      have HR : Hid (ERets _ _ _ _) := hrets
      have HOL : Hid _ := owns_lt hown
      by_cases hlt : j < hs.length
      · obtain rfl : base = some ⟨b, o, none⟩ := HA.out.base (by omega)
        have EV := HA.out.below hbw
        have zx : b < wr.heap.size := EV.lt (by omega)
        obtain ⟨d0, d1⟩ := EV.c0 j hlt
        obtain ⟨d2, d3, d4, d5⟩ := EV.c1 j hlt
        obtain ⟨d6, d7, d8, d9⟩ := EV.c2 j hlt
        have j0 : (0 : Int) ≤ (j : Int) := Int.natCast_nonneg _
        have j1 : (j : Int) < (hs.length : Int) := by omega
        have PX : Hid _ := EV.prs j hlt
        have zw := hbw.size
        have hml : m.length ≤ j := by have := congrArg List.length hmap; rw [List.length_map] at this; rw [this]; exact thN_le hs t j
        clear EV hbw hmap hown hrets
        by_cases ht : (evAt hs j).th = t
        · have hq : ((evAt hs j).th == t) = true := by simp [ht]
          have HN : Hid (thN hs t (j + 1) = thN hs t j ++ [evAt hs j]) := by show thN hs t (j + 1) = _; simp only [thN]; rw [if_pos ht]
          clear ht
          go_wp2_with fail
          refine (copyOf_any (pb j) (pg j) (po j) (pc j) (evAt hs j).rt _ (PX.out.1.below (below_alloc _ _)) PX.out.2.1 PX.out.2.2).mono ?_
          rintro e w2 ⟨a2, g2, c2, rfl, hg2, hpa2, hb2, hnl2⟩
          have z2 := hb2.size
          have hbx : Below wr.heap.size wr w2 := (below_alloc wr _).trans (hb2.mono (by simp))
          have hc2 : ∀ k, k < 10 → w2.cell? ⟨wr.heap.size, k, none⟩ = some ((evC (evAt hs j) (.slice (pb j) (evAt hs j).rt.pairs.length (pc j))).getD k (.bool false)) := by
            intro k hk
            refine (hb2.cell (p := ⟨wr.heap.size, k, none⟩) (by simp)).trans ((cell_new wr _ _ k).trans ?_)
            match k, hk with
            | 0, _ => rfl
            | 1, _ => rfl
            | 2, _ => rfl
            | 3, _ => rfl
            | 4, _ => rfl
            | 5, _ => rfl
            | 6, _ => rfl
            | 7, _ => rfl
            | 8, _ => rfl
            | 9, _ => rfl
          have hf2 : ∀ k, w2.frozen? ⟨wr.heap.size, k, none⟩ = false := fun k => (hb2.frozen (p := ⟨wr.heap.size, k, none⟩) (by simp)).trans (frozen_new wr _ _ k)
          have e6 := hc2 6 (by omega)
          have e7 := hc2 7 (by omega)
          have e8 := hc2 8 (by omega)
          have e9 := hc2 9 (by omega)
          have f6 := hf2 6
          have f7 := hf2 7
          have f8 := hf2 8
          have f9 := hf2 9
          have HC2 : Hid _ := hc2
          have HX2 : Hid _ := hbx
          have HP2 : Hid _ := hpa2
          have HG2 : Hid _ := hg2
          have HNL : Hid _ := hnl2
          clear hnl2
          have zz : wr.heap.size < w2.heap.size := by simp at z2; omega
          clear hb2 hc2 hf2 hbx hpa2 hg2 d0 d1 d2 d3 d4 d5 d6 d7 d8 d9
          go_upto_region 10 with fail
          obtain ⟨W3, hW3⟩ : ∃ W3, W3 = (((w2.setCell ⟨wr.heap.size, 6, none⟩ (.bool (evAt hs j).rt.ok)).setCell ⟨wr.heap.size, 7, none⟩ (.int .i64 (evAt hs j).rt.key)).setCell ⟨wr.heap.size, 8, none⟩ (.int .i64 (evAt hs j).rt.val)).setCell ⟨wr.heap.size, 9, none⟩ (.slice a2 (evAt hs j).rt.pairs.length c2) := ⟨_, rfl⟩
          rw [← hW3]
          obtain ⟨o3, r3, b3, z3⟩ := four_set rfl HO.out HR.out HX2.out hW3
          obtain ⟨k05, k6, k7, k8, k9⟩ := cells_four HC2.out hW3
          have k0 := k05 0 (by omega)
          have k1 := k05 1 (by omega)
          have k2 := k05 2 (by omega)
          have k3 := k05 3 (by omega)
          have k4 := k05 4 (by omega)
          have k5 := k05 5 (by omega)
          simp only [evC, List.getD_cons_zero, List.getD_cons_succ] at k0 k1 k2 k3 k4 k5
          have P3 : PairsAt W3 a2 g2 0 (evAt hs j).rt.pairs := pairs_four HP2.out (fun q => by have := HG2.out q; simp at this; omega) hW3
          have R3 : Hid (ERets W3 w.heap.size _ m) := r3
          have E3 : Hid (ERet W3 w.heap.size (Value.ownBlock (.slice oa m.length oc)) (evAt hs j) (.slice a2 (evAt hs j).rt.pairs.length c2)) := ⟨_, g2, 0, c2, rfl, fun q => ⟨by have := HG2.out q; simp at this; omega, fun r => by have h1 := (HOL.out _ r).2; have h2 := HG2.out q; simp at h2; omega⟩, P3, (fun z => ⟨Classical.byContradiction (fun n => by have := HP2.out.base n; rw [z] at this; cases this), HNL.out z⟩), PX.out.2.2⟩
          have B3 : Hid (Below w.heap.size w W3) := HW.out.trans (b3.mono HW.out.size)
          have O3 : Hid (World.ownsRow _ _ _ _ _ _ _) := o3
          have zz3 : wr.heap.size < W3.heap.size := by omega
          clear hW3 k05 o3 r3 b3 z3 P3 e6 e7 e8 e9 f6 f7 f8 f9
          go_wp2_with (first | (at_builtin; (refine wpList_append_lies _ (by rfl) _ _ _ (by rfl) w.heap.size 84 i0 _ 10 96 evs_under hi0 hz0 hz1 hz2 rfl (by omega) _ m.length _ (by rfl) (O3.out.alloc _) ⟨W3.heap.size, 0, none⟩ 1 1 [.int .i64 (evAt hs j).th, .bool (evAt hs j).ret, .int .i64 (evAt hs j).op.kind, .int .i64 (evAt hs j).op.key, .int .i64 (evAt hs j).op.val, .int .i64 (evAt hs j).op.hi, .bool (evAt hs j).rt.ok, .int .i64 (evAt hs j).rt.key, .int .i64 (evAt hs j).rt.val, .slice a2 (evAt hs j).rt.pairs.length c2] (by rfl) (by rfl) (World.news_of_block (cs := #[.int .i64 (evAt hs j).th, .bool (evAt hs j).ret, .int .i64 (evAt hs j).op.kind, .int .i64 (evAt hs j).op.key, .int .i64 (evAt hs j).op.val, .int .i64 (evAt hs j).op.hi, .bool (evAt hs j).rt.ok, .int .i64 (evAt hs j).rt.key, .int .i64 (evAt hs j).rt.val, .slice a2 (evAt hs j).rt.pairs.length c2]) (t := 84) (fr := (0, 0)) (heap_alloc_at _ _ _ (by simp))) (by simp [Value.oneCell']) (by omega) (by unfold maxLen; omega) (by omega) (by simp; omega) (W3.heap.size + 1) (by simp) ?_); intro gg cap w3 hown3 hgrow hat hlt3))
          have HG : Hid (World.grownBy _ _ _) := hgrow
          have HAT : Hid _ := hat
          have HO3 : Hid (World.ownsRow _ _ _ _ _ _ _) := hown3
          clear hgrow hat hown3
          go_wp2_with fail
          refine ⟨⟨j + 1, m ++ [(evAt hs j, .slice a2 (evAt hs j).rt.pairs.length c2)], by omega, by go_num, Below.grown (B3.out.alloc B3.out.size _) HG.out (by have := B3.out.size; simp; omega) (fun k hk => (HOL.out k hk).1), ?_, ?_, rows_snoc R3.out E3.out HG.out HAT.out⟩, by simp [intOf]; omega⟩
          · rw [List.map_append, HM.out]; exact HN.out.symm
          · rw [evsC_snoc, List.length_append]; exact HO3.out
        · have hq : ((evAt hs j).th == t) = false := by rw [beq_eq_false_iff_ne]; exact ht
          have HN : Hid (thN hs t (j + 1) = thN hs t j) := by show thN hs t (j + 1) = _; simp only [thN]; rw [if_neg ht]
          clear ht
          go_wp2_with fail
          refine ⟨⟨j + 1, m, by omega, by go_num, HW.out.alloc HW.out.size _, by rw [HN.out]; exact HM.out, HO.out.alloc _, HR.out.below (below_alloc _ _)⟩, by simp [intOf]; omega⟩
      · obtain rfl : j = hs.length := by omega
        clear hbw hmap hown hrets
        go_wp2_with fail
        go_ret2
        exact ⟨_, by rw [HE.out]; rfl, HW.out, fun q => absurd HE.out q, fun _ => own_evs HM.out HO.out HR.out⟩
  · have hn : (hErr hs != 0) = true := by simp [he]
    have HE : Hid _ := he
    clear he
    go_enter Tryd.func36, Tryd.ntmps36
    go_wp2_with fail
    refine (check_any base b o c hs pb pc pg po _ HA.out).mono ?_
    rintro e w1 ⟨rfl, hb⟩
    go_wp2_with fail
    go_ret2
    exact ⟨_, rfl, hb, fun _ => rfl, fun q => absurd q HE.out⟩
end Go.Proofs.YtcphajjonecmbaaDoor

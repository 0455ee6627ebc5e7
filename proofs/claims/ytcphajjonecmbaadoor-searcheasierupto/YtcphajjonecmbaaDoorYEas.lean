/- Layer 7: the law SearchEasier (made by mk_yeas.py). Layer 7: what the law of easier histories wants: a history's first events, Is's and Count's answers as values; the law where nothing is found. Layer 7: a history that an event is appended to: the two appends of a statement that draws its order. -/
import Derived.Test.YtcphajjonecmbaaDoorYOf
import Derived.Test.YtcphajjonecmbaaDoorYAwk
import Derived.Deep.RegionHeld3
import Derived.Deep.CutRange
import Derived.Deep.CutBlock





namespace Go.Proofs.YtcphajjonecmbaaDoor

open Go.RowKit Go.Deep

attribute [local go_sem ↓] Go.wp_at_zero Go.wp_at_succ

set_option maxRecDepth 100000 in
theorem toE_any (x : SX) (s : SD) (w : World) : Calls Tryd.prog 13 #[.agg #[.slice x.va s.vals.length x.vc, .slice x.pa s.prs.length x.pc]] w fun e w' => e = .returned (.agg #[.slice x.va s.vals.length x.vc, .slice x.pa s.prs.length x.pc]) ∧ Below w.heap.size w w' := by
  generalize s.vals.length = n
  generalize s.prs.length = m
  go_enter Tryd.func13, Tryd.ntmps13
  go_wp2_with fail
  refine bodyPost_ret (v := .agg #[.slice x.va n x.vc, .slice x.pa m x.pc]) ?_ rfl ⟨rfl, two_blocks _ _ _ _ _⟩
  rw [results_cell1 rfl]; go_simp
theorem EvsAt.take7 {w : World} {base : Option Addr} {b o : Nat} {hs : List EvD} {pb : Nat → Option Addr} {pc pg po : Nat → Nat} (h : EvsAt w base b o hs pb pc pg po) (m : Nat) : EvsAt w base b o (hs.take m) pb pc pg po := by
  have hl : (hs.take m).length ≤ hs.length := List.length_take_le' _ _
  have hlm : (hs.take m).length ≤ m := List.length_take_le _ _
  have e : ∀ i, i < (hs.take m).length → evAt (hs.take m) i = evAt hs i := by
    intro i hi
    unfold evAt
    rw [List.getD_eq_getElem?_getD, List.getD_eq_getElem?_getD, List.getElem?_take, if_pos (by omega)]
  refine ⟨fun hn => h.base (by omega), fun hn => h.lt (by omega), by have := h.len; omega, fun i hi => ?_, fun i hi => ?_, fun i hi => ?_, fun i hi => ?_, fun i hi => h.thaw i (by omega)⟩
  · rw [e i hi]; exact h.c0 i (by omega)
  · rw [e i hi]; exact h.c1 i (by omega)
  · rw [e i hi]; exact h.c2 i (by omega)
  · rw [e i hi]; exact h.prs i (by omega)
theorem is7_val (t : Int) (x : SX) (s : SD) (base : Option Addr) (b o c : Nat) (hs : List EvD) (pb : Nat → Option Addr) (pc pg po : Nat → Nat) (obase : Option Addr) (ob oo oc : Nat) (ord : List Int) (w : World) (h : StAt w x s) (hkd : KdAt w) (hev : EvsAt w base b o hs pb pc pg po) (ho : OrdAt w obase ob oo ord) (hsz : s.vals.length ≤ 999999000 ∧ s.prs.length ≤ 999999000) (ok : Bool) (hok : ok = true ↔ IsOk t s hs ord) :
    Calls Tryd.prog 29 #[.int .i64 t, x.v s, .slice base hs.length c, .slice obase ord.length oc] w fun e w' => e = .returned (.tuple #[.bool ok, .int .i64 (pErr t s hs)]) ∧ Below w.heap.size w w' := by
  refine (is7_any t x s base b o c hs pb pc pg po obase ob oo oc ord w h hkd hev ho hsz).mono ?_
  rintro e w' ⟨bb, rfl, hb, hi⟩
  rw [Bool.eq_iff_iff.2 (hi.trans hok.symm)]
  exact ⟨rfl, hb⟩
theorem cells5 {w : World} {b : Nat} {c0 c1 c2 c3 c4 : Value} {T : TypeId} (h : w.heap[b]? = some (.cells #[c0, c1, c2, c3, c4] T)) : w.cell? ⟨b, 0, none⟩ = some c0 ∧ w.cell? ⟨b, 1, none⟩ = some c1 ∧ w.cell? ⟨b, 2, none⟩ = some c2 ∧ w.cell? ⟨b, 3, none⟩ = some c3 ∧ w.cell? ⟨b, 4, none⟩ = some c4 := by
  simp [World.cell?, h]
/-- The boxes of the law. -/
structure CaseB (w W0 : World) (t : Int) (x : SX) (s : SD) (hv ov : Value) (p : OpD) : Prop where
  b : Below w.heap.size w W0
  z : W0.heap.size = w.heap.size + 2
  r0 : W0.heap[w.heap.size]? = some (.cells #[.int .i64 t, .slice x.va s.vals.length x.vc, .slice x.pa s.prs.length x.pc, hv, ov] 54)
  r1 : W0.heap[w.heap.size + 1]? = some (.cells #[.int .i64 p.kind, .int .i64 p.key, .int .i64 p.val, .int .i64 p.hi] 43)
theorem CaseB.mk0 (w : World) (t : Int) (x : SX) (s : SD) (hv ov : Value) (p : OpD) : CaseB w ((w.alloc (.cells #[.int .i64 t, .slice x.va s.vals.length x.vc, .slice x.pa s.prs.length x.pc, hv, ov] 54)).alloc (.cells #[.int .i64 p.kind, .int .i64 p.key, .int .i64 p.val, .int .i64 p.hi] 43)) t x s hv ov p :=
  ⟨two_blocks _ _ _ _ _, by simp, (heap_alloc_old _ _ (by simp)).trans (heap_alloc_at _ _ _ rfl), heap_alloc_at _ _ _ (by simp)⟩

set_option maxRecDepth 100000 in
set_option maxHeartbeats 4000000 in
theorem easier_no (t : Int) (x : SX) (s : SD) (base : Option Addr) (n c : Nat) (ov : Value) (p : OpD) (w : World) (hkd : KdAt w) (E nn : Int)
    (FI : Hid (∀ W, Below w.heap.size w W → Calls Tryd.prog 27 #[.int .i64 t, .agg #[.slice x.va s.vals.length x.vc, .slice x.pa s.prs.length x.pc], .slice base n c] W fun e w' => e = .returned (.tuple #[.slice none 0 0, .bool false, .int .i64 E]) ∧ Below W.heap.size W w'))
    (CN : Hid (∀ W, Below w.heap.size w W → Calls Tryd.prog 30 #[.int .i64 t, .agg #[.slice x.va s.vals.length x.vc, .slice x.pa s.prs.length x.pc], .slice base n c] W fun e w' => e = .returned (.tuple #[.int .i64 nn, .int .i64 E]) ∧ Below W.heap.size W w')) :
    Calls Tryd.prog 7 #[.agg #[.int .i64 t, .slice x.va s.vals.length x.vc, .slice x.pa s.prs.length x.pc, .slice base n c, ov], .agg #[.int .i64 p.kind, .int .i64 p.key, .int .i64 p.val, .int .i64 p.hi]] w fun e w' => e = .returned (.bool true) ∧ Below w.heap.size w w' := by
  obtain ⟨W0, hW0⟩ : ∃ W0, W0 = (w.alloc (.cells #[.int .i64 t, .slice x.va s.vals.length x.vc, .slice x.pa s.prs.length x.pc, .slice base n c, ov] 54)).alloc (.cells #[.int .i64 p.kind, .int .i64 p.key, .int .i64 p.val, .int .i64 p.hi] 43) := ⟨_, rfl⟩
  have CB : Hid (CaseB w W0 t x s (.slice base n c) ov p) := by show CaseB _ _ _ _ _ _ _ _; rw [hW0]; exact CaseB.mk0 _ _ _ _ _ _ _
  have z0 : w.heap.size < W0.heap.size := by have := CB.out.z; omega
  have AW : Hid (Calls Tryd.prog 10 #[] W0 fun e w' => e = .returned (.bool true) ∧ Below W0.heap.size W0 w') := awake_any W0 (hkd.below CB.out.b)
  have TO : Hid (∀ W, Calls Tryd.prog 13 #[.agg #[.slice x.va s.vals.length x.vc, .slice x.pa s.prs.length x.pc]] W fun e w' => e = .returned (.agg #[.slice x.va s.vals.length x.vc, .slice x.pa s.prs.length x.pc]) ∧ Below W.heap.size W w') := fun W => toE_any x s W
  clear hkd
  go_enter Tryd.func7, Tryd.ntmps7
  go_upto_region 1 with fail
  rw [← hW0]
  clear hW0
  go_upto_region 4 with (first | (go_at_call 10; refine AW.out.mono ?_; rintro e w1 ⟨rfl, hb1⟩; have B1 : Hid (Below W0.heap.size W0 w1) := hb1; have h1 := hb1.size; obtain ⟨c0, c1, c2, c3, -⟩ := cells5 ((hb1.block _ z0).trans CB.out.r0); clear hb1) | (go_at_call 13; refine (TO.out _).mono ?_; rintro e w2 ⟨rfl, hb2⟩; have B2 : Hid (Below w1.heap.size w1 w2) := hb2; have h2 := hb2.size; clear hb2))
  obtain ⟨W3, hW3⟩ : ∃ W3, W3 = w2.alloc (.cells #[.slice x.va s.vals.length x.vc, .slice x.pa s.prs.length x.pc] 31) := ⟨_, rfl⟩
  have K3 : Hid (Below w.heap.size w W3) := by show Below _ _ _; rw [hW3]; exact ((CB.out.b.trans (B1.out.mono CB.out.b.size)).trans (B2.out.mono (by have := CB.out.b.size; omega))).alloc (by have := CB.out.b.size; omega) _
  have z3 : w.heap.size < W3.heap.size := by rw [hW3]; simp; omega
  have y3 : w2.heap.size < W3.heap.size := by rw [hW3]; simp
  have R3 : Hid (W3.heap[w.heap.size]? = some (.cells #[.int .i64 t, .slice x.va s.vals.length x.vc, .slice x.pa s.prs.length x.pc, .slice base n c, ov] 54)) := by show W3.heap[_]? = _; rw [hW3]; exact (heap_alloc_old _ _ (by omega)).trans ((B2.out.block _ (by omega)).trans ((B1.out.block _ z0).trans CB.out.r0))
  have S3 : Hid (W3.heap[w2.heap.size]? = some (.cells #[.slice x.va s.vals.length x.vc, .slice x.pa s.prs.length x.pc] 31)) := by show W3.heap[_]? = _; rw [hW3]; exact heap_alloc_at _ _ _ rfl
  have KS : Hid (∀ W', Below W3.heap.size W3 W' → W'.cell? ⟨w.heap.size, 0, none⟩ = some (.int .i64 t) ∧ W'.cell? ⟨w.heap.size, 3, none⟩ = some (.slice base n c) ∧ W'.cell? ⟨w2.heap.size, 0, none⟩ = some (.slice x.va s.vals.length x.vc) ∧ W'.cell? ⟨w2.heap.size, 1, none⟩ = some (.slice x.pa s.prs.length x.pc)) := fun W' hb => by
    obtain ⟨e0, e1, e2, e3, -⟩ := cells5 ((hb.block _ z3).trans R3.out)
    obtain ⟨⟨d0, -⟩, ⟨d1, -⟩⟩ := cells2 ((hb.block _ y3).trans S3.out)
    exact ⟨e0, e3, d0, d1⟩
  rw [← hW3]
  obtain ⟨c0', c3', d0, d1⟩ := KS.out _ (Below.refl _ _)
  clear hW3 c0 c1 c2 c3 h1 h2 R3 S3 B2 B1
  by_cases hE : E = 0
  · subst hE
    go_wp2_with (first | (go_at_call 27; refine (FI.out _ K3.out).mono ?_; rintro e w4 ⟨rfl, hb4⟩; have B4 : Hid (Below w.heap.size w w4) := K3.out.trans (hb4.mono K3.out.size); obtain ⟨c4, c5, d4, d5⟩ := KS.out _ hb4; have y4 := hb4.size; clear hb4) | (go_at_call 30; refine (CN.out _ B4.out).mono ?_; rintro e w5 ⟨rfl, hb5⟩; have B5 : Hid (Below w.heap.size w w5) := B4.out.trans (hb5.mono B4.out.size); clear hb5))
    (try go_ret)
    exact ⟨rfl, B5.out⟩
  · have hE' : (E != 0) = true := by simp [hE]
    go_wp2_with (first | (go_at_call 27; refine (FI.out _ K3.out).mono ?_; rintro e w4 ⟨rfl, hb4⟩; have B4 : Hid (Below w.heap.size w w4) := K3.out.trans (hb4.mono K3.out.size); obtain ⟨c4, c5, d4, d5⟩ := KS.out _ hb4; have y4 := hb4.size; clear hb4) | (go_at_call 30; refine (CN.out _ B4.out).mono ?_; rintro e w5 ⟨rfl, hb5⟩; have B5 : Hid (Below w.heap.size w w5) := B4.out.trans (hb5.mono B4.out.size); clear hb5))
    (try go_ret)
    exact ⟨rfl, B5.out⟩
end Go.Proofs.YtcphajjonecmbaaDoor

namespace Go.Proofs.YtcphajjonecmbaaDoor

open Go.RowKit Go.Deep

theorem own_empty (W : World) (B : Nat) (T : TypeId) (sz g : Nat) (hg : g = W.heap.size) (hB : B ≤ W.heap.size) : (W.alloc (.cells #[] T)).ownsRow B T sz (.slice (some ⟨g, 0, none⟩) 0 0) 0 [] := by
  subst hg
  exact ⟨by simp, Or.inr ⟨W.heap.size, 0, #[], rfl, hB, heap_alloc_at _ _ _ rfl, Nat.le_refl _, by unfold maxLen; omega, by simp, by simp⟩⟩
/-- append of a slice, nil or not, at a step of a region that draws its order. -/
theorem step_append_all {P : Program} {w : World} {ops : Array Oper} {o : Oper} {a : Act} {K : Act → World → Prop} {Q : Exit → Act → World → Prop} {E : Prop} (hgd : o.guard = none) (s x : Operand) (t : TypeId)
    (ho : o.op = .call { callee := .builtin .append, args := #[s, x], argTypes := #[t, t] })
    (base : Nat) (e : TypeId) (i : TypeInfo) (z : Value) (size bytes : Nat) (ht : P.underlying t = some (.slice e)) (hi : P.info? e = some i) (hz : i.zero = some z)
    (hsize : i.size = size) (hby : i.bytes = bytes) (hzs : z.cells.size = size) (hsz : 0 < size)
    (v : Value) (n : Nat) (xs : List Value) (hs : a.eval s = v) (hown : w.ownsRow base e size v n xs)
    (sd : Option Addr) (m c : Nat) (news : List Value) (hx : a.eval x = .slice sd m c) (hnone : sd = none → m = 0 ∧ c = 0) (hl : news.length = m * size) (hnews : ∀ ad, sd = some ad → ∀ j u, news[j]? = some u → w.cell? (ad.add j) = some u) (h1 : ∀ u ∈ news, u.oneCell' = true)
    (h63 : n + m ≤ maxLen) (hbytes : (n + m) * bytes ≤ 140737488355328) (hbase : base ≤ w.heap.size)
    (h : ∀ v' w', w'.ownsRow base e size v' (n + m) (xs ++ news) → w.grownBy w' v.ownBlock → (v' = .slice none 0 0 ↔ v = .slice none 0 0 ∧ m = 0) → K (a.put o.dst v') w') :
    if Region.wanted o (yielded ops a.tmps) = true then Oper.wp P o a w K Q else E := by
  have hw : Region.wanted o (yielded ops a.tmps) = true := by simp [Region.wanted, hgd]
  rw [if_pos hw]
  cases sd with
  | none =>
    obtain ⟨rfl, rfl⟩ := hnone rfl
    have hrun := run_append_owned_none (P := P) (w := w) base t o.type e i size ht hi v n xs hown
    obtain rfl : news = [] := List.length_eq_zero_iff.1 (by simpa using hl)
    unfold Oper.wp
    simp [execOp, ho, resolve, invoke, builtin, hs, hx, hrun, Result.andThen]
    exact h v w (by simpa using hown) (grown_refl _ _) (by simp)
  | some ad =>
    obtain ⟨v', w', hr, h2, h3, h4, _⟩ := run_append_own_at (P := P) w base t o.type e i z size bytes ht hi hz hsize hby hzs hsz v n xs hown ad m c news hl (hnews ad rfl) h1 h63 hbytes hbase
    unfold Oper.wp
    simp [execOp, ho, resolve, invoke, builtin, hs, hx, hr, Result.andThen]
    exact h v' w' h2 h3 h4

/-- The rows of the events as they lie. -/
def mOf (hs : List EvD) (pb : Nat → Option Addr) (pc : Nat → Nat) : List (EvD × Value) := (List.range hs.length).map fun i => (evAt hs i, .slice (pb i) (evAt hs i).rt.pairs.length (pc i))
theorem mOf_length (hs : List EvD) (pb : Nat → Option Addr) (pc : Nat → Nat) : (mOf hs pb pc).length = hs.length := by simp [mOf]
theorem mOf_get {hs : List EvD} {pb : Nat → Option Addr} {pc : Nat → Nat} {i : Nat} (hi : i < hs.length) : (mOf hs pb pc)[i]? = some (evAt hs i, .slice (pb i) (evAt hs i).rt.pairs.length (pc i)) := by
  simp [mOf, List.getElem?_map, List.getElem?_range hi]
theorem mOf_map (hs : List EvD) (pb : Nat → Option Addr) (pc : Nat → Nat) : (mOf hs pb pc).map (·.1) = hs := by
  refine List.ext_getElem? fun i => ?_
  rw [List.getElem?_map]
  by_cases hi : i < hs.length
  · rw [mOf_get hi]
    simp [evAt, List.getD_eq_getElem?_getD, List.getElem?_eq_getElem hi]
  · rw [List.getElem?_eq_none (by rw [mOf_length]; omega), List.getElem?_eq_none (by omega)]
    rfl
theorem evsC_one (l : List (EvD × Value)) (h : ∀ x ∈ l, x.2.oneCell' = true) : ∀ u ∈ evsC l, u.oneCell' = true := by
  induction l with
  | nil => intro u hu; cases hu
  | cons x l ih =>
    intro u hu
    simp only [evsC] at hu
    rcases List.mem_append.1 hu with q | q
    · simp only [evC, List.mem_cons, List.not_mem_nil, or_false] at q
      rcases q with rfl | rfl | rfl | rfl | rfl | rfl | rfl | rfl | rfl | rfl
      all_goals first | rfl | exact h x (by simp)
    · exact ih (fun y hy => h y (by simp [hy])) u q
theorem mOf_one (hs : List EvD) (pb : Nat → Option Addr) (pc : Nat → Nat) : ∀ u ∈ evsC (mOf hs pb pc), u.oneCell' = true :=
  evsC_one _ fun x hx => by
    obtain ⟨i, -, rfl⟩ := List.mem_map.1 hx
    rfl
theorem evs_news {w : World} {base : Option Addr} {b o : Nat} {hs : List EvD} {pb : Nat → Option Addr} {pc pg po : Nat → Nat} (h : EvsAt w base b o hs pb pc pg po) (ad : Addr) (had : base = some ad) (j : Nat) (u : Value) (hu : (evsC (mOf hs pb pc))[j]? = some u) : w.cell? (ad.add j) = some u := by
  have hj := (List.getElem?_eq_some_iff.1 hu).1
  rw [evsC_length, mOf_length] at hj
  obtain ⟨i, r, hr, rfl⟩ : ∃ i r, r < 10 ∧ j = i * 10 + r := ⟨j / 10, j % 10, by omega, by omega⟩
  have hi : i < hs.length := by omega
  rw [evsC_get _ i r _ (mOf_get hi) hr] at hu
  have hb := h.base (by omega)
  rw [hb] at had
  obtain rfl := (Option.some.inj had).symm
  rw [Addr.add_lit, ← Nat.add_assoc]
  obtain ⟨q0, q1⟩ := h.c0 i hi
  obtain ⟨q2, q3, q4, q5⟩ := h.c1 i hi
  obtain ⟨q6, q7, q8, q9⟩ := h.c2 i hi
  match r, hr with
  | 0, _ => rw [Nat.add_zero, q0]; exact hu
  | 1, _ => rw [q1]; exact hu
  | 2, _ => rw [q2]; exact hu
  | 3, _ => rw [q3]; exact hu
  | 4, _ => rw [q4]; exact hu
  | 5, _ => rw [q5]; exact hu
  | 6, _ => rw [q6]; exact hu
  | 7, _ => rw [q7]; exact hu
  | 8, _ => rw [q8]; exact hu
  | 9, _ => rw [q9]; exact hu
/-- The new event's cells where they lie. -/
def EvNw (w : World) (k : Nat) (e : EvD) : Prop := k < w.heap.size ∧ ∀ i, i < 10 → w.cell? ⟨k, i, none⟩ = (evC e (.slice none 0 0))[i]?
theorem EvNw.mk0 {w : World} {k : Nat} {e : EvD} {T : TypeId} (h : w.heap[k]? = some (.cells (evC e (.slice none 0 0)).toArray T)) : EvNw w k e := by
  refine ⟨(Array.getElem?_eq_some_iff.1 h).1, fun i hi => ?_⟩
  simp [World.cell?, h]
theorem EvNw.grown {w w1 : World} {k : Nat} {e : EvD} {row : Option Nat} (h : EvNw w k e) (hg : w.grownBy w1 row) (hr : row ≠ some k) : EvNw w1 k e :=
  ⟨Nat.lt_of_lt_of_le h.1 hg.size, fun i hi => (hg.cell_far ⟨k, i, none⟩ h.1 (fun q => hr q.symm)).trans (h.2 i hi)⟩
theorem EvNw.news {w : World} {k : Nat} {e : EvD} (h : EvNw w k e) (ad : Addr) (had : (some ⟨k, 0, none⟩ : Option Addr) = some ad) (j : Nat) (u : Value) (hu : (evC e (.slice none 0 0))[j]? = some u) : w.cell? (ad.add j) = some u := by
  obtain rfl := (Option.some.inj had).symm
  have hj := (List.getElem?_eq_some_iff.1 hu).1
  rw [evC_length] at hj
  rw [Addr.add_lit, Nat.zero_add, h.2 j hj]
  exact hu
theorem evC_one (e : EvD) : ∀ u ∈ evC e (.slice none 0 0), u.oneCell' = true := fun u hu => evsC_one [(e, .slice none 0 0)] (by simp [Value.oneCell']) u (by simpa [evsC] using hu)
theorem bd1 (W : World) (E : Obj) : Below W.heap.size W (W.drew.alloc E) := ((Below.refl _ _).drew).alloc (Nat.le_refl _) _
theorem bd2 (W : World) (E F : Obj) : Below W.heap.size W ((W.drew.alloc E).alloc F) := (bd1 W E).alloc (by simp) _
theorem grown_b {W c wA : World} {row : Option Nat} (hb : Below W.heap.size W c) (hg : c.grownBy wA row) (hr : ∀ k, row = some k → W.heap.size ≤ k) : Below W.heap.size W wA := Below.grown hb hg hb.size hr
/-- What the statement leaves. -/
def MoreP (W : World) (hs : List EvD) (e : EvD) (v : Value) (wx : World) : Prop :=
  ∃ mb mg mc pb pc pg po, v = .slice mb (hs.length + 1) mc ∧ Below W.heap.size W wx ∧ EvsAt wx mb mg 0 (hs ++ [e]) pb pc pg po
theorem more_fin {W wx : World} {T : TypeId} {v : Value} {base : Option Addr} {b o : Nat} {hs : List EvD} {pb : Nat → Option Addr} {pc pg po : Nat → Nat} {e : EvD} (he : EvsAt W base b o hs pb pc pg po) (hn : e.rt.pairs = []) (hb : Below W.heap.size W wx)
    (ho : wx.ownsRow W.heap.size T 10 v (0 + hs.length + 1) ([] ++ evsC (mOf hs pb pc) ++ evC e (.slice none 0 0))) : MoreP W hs e v wx := by
  have hm : (mOf hs pb pc ++ [(e, Value.slice none 0 0)]).map (·.1) = hs ++ [e] := by rw [List.map_append, mOf_map]; rfl
  have hl : (mOf hs pb pc ++ [(e, Value.slice none 0 0)]).length = 0 + hs.length + 1 := by rw [List.length_append, mOf_length]; simp
  rw [List.nil_append, ← evsC_snoc, ← hl] at ho
  have hlt := owns_lt ho
  obtain ⟨mb, mc, mg, pb', pc', pg', po', hv, h1, -⟩ := own_evs (B2 := 0) hm ho (fun x hx => by
    rcases List.mem_append.1 hx with q | q
    · obtain ⟨i, hi, rfl⟩ := List.mem_map.1 q
      have hi := List.mem_range.1 hi
      obtain ⟨h1, h2, h3⟩ := he.prs i hi
      exact ⟨pb i, pg i, po i, pc i, rfl, fun hn => ⟨Nat.zero_le _, fun q => by have a1 := (hlt _ q).1; have a2 := h1.lt hn; omega⟩, h1.below hb, h2, h3⟩
    · rw [List.mem_singleton] at q
      subst q
      refine ⟨none, 0, 0, 0, by rw [hn]; rfl, fun q => absurd (by rw [hn]; rfl) q, ?_, fun _ => ⟨by rw [hn]; rfl, rfl⟩, by rw [hn]; simp⟩
      show PairsAt wx none 0 0 e.rt.pairs
      rw [hn]
      exact ⟨fun q => absurd rfl q, fun q => absurd rfl q, fun i hi => by simp at hi, by simp, fun i hi => by simp at hi⟩)
  exact ⟨mb, mg, mc, pb', pc', pg', po', by rw [hv]; simp, hb, h1⟩
end Go.Proofs.YtcphajjonecmbaaDoor


namespace Go.Proofs.YtcphajjonecmbaaDoor

open Go.RowKit Go.Deep

attribute [local go_sem ↓] Go.wp_at_zero Go.wp_at_succ

set_option maxRecDepth 100000 in
set_option maxHeartbeats 4000000 in
theorem easier_yes (t : Int) (x : SX) (s : SD) (base : Option Addr) (b o c : Nat) (hs : List EvD) (pb : Nat → Option Addr) (pc pg po : Nat → Nat) (ov : Value) (p : OpD) (w : World) (h : StAt w x s) (hkd : KdAt w) (hev : EvsAt w base b o hs pb pc pg po) (hsz : s.vals.length ≤ 999999000 ∧ s.prs.length ≤ 999999000) (hcap : hs.length ≤ c) (hnil : base = none → hs.length = 0 ∧ c = 0) (hz : pErr t s hs = 0) (q : List Nat × SD) (l : List (List Nat × SD)) (hq : ordsO t s hs (spansL hs) = q :: l) :
    Calls Tryd.prog 7 #[.agg #[.int .i64 t, .slice x.va s.vals.length x.vc, .slice x.pa s.prs.length x.pc, .slice base hs.length c, ov], .agg #[.int .i64 p.kind, .int .i64 p.key, .int .i64 p.val, .int .i64 p.hi]] w fun e w' => e = .returned (.bool true) ∧ Below w.heap.size w w' := by
  have FI : Hid (∀ W, Below w.heap.size w W → Calls Tryd.prog 27 #[.int .i64 t, .agg #[.slice x.va s.vals.length x.vc, .slice x.pa s.prs.length x.pc], .slice base hs.length c] W fun e w' => ∃ g cF, e = .returned (.tuple #[.slice (some ⟨g, 0, none⟩) q.1.length cF, .bool true, .int .i64 0]) ∧ Below W.heap.size W w' ∧ RoO w' W.heap.size g 0 cF (ordI q.1)) := fun W hW => by
    refine (find_any t x s base b o c hs pb pc pg po W (h.below hW) (hkd.below hW) (hev.below hW) hsz).mono ?_
    rintro e w' ⟨hb, (⟨h1, -⟩ | ⟨-, h2, -⟩ | ⟨-, p', l', g, c', h1, rfl, hr⟩)⟩
    · exact absurd hz h1
    · rw [hq] at h2; cases h2
    · rw [hq] at h1
      obtain ⟨rfl, rfl⟩ := List.cons.inj h1
      exact ⟨g, c', rfl, hb, hr⟩
  obtain ⟨nn, hnn⟩ : ∃ nn : Nat, nn = (ordsO t s hs (spansL hs)).length := ⟨_, rfl⟩
  have CN : Hid (∀ W, Below w.heap.size w W → Calls Tryd.prog 30 #[.int .i64 t, .agg #[.slice x.va s.vals.length x.vc, .slice x.pa s.prs.length x.pc], .slice base hs.length c] W fun e w' => e = .returned (.tuple #[.int .i64 nn, .int .i64 0]) ∧ Below W.heap.size W w') := fun W hW => by
    refine (cnt7_any t x s base b o c hs pb pc pg po W (h.below hW) (hkd.below hW) (hev.below hW) hsz).mono ?_
    rintro e w' ⟨hb, rfl⟩
    rw [if_pos hz, hz, ← hnn]
    exact ⟨rfl, hb⟩
  obtain ⟨W0, hW0⟩ : ∃ W0, W0 = (w.alloc (.cells #[.int .i64 t, .slice x.va s.vals.length x.vc, .slice x.pa s.prs.length x.pc, .slice base hs.length c, ov] 54)).alloc (.cells #[.int .i64 p.kind, .int .i64 p.key, .int .i64 p.val, .int .i64 p.hi] 43) := ⟨_, rfl⟩
  have CB : Hid (CaseB w W0 t x s (.slice base hs.length c) ov p) := by show CaseB _ _ _ _ _ _ _ _; rw [hW0]; exact CaseB.mk0 _ _ _ _ _ _ _
  have z0 : w.heap.size < W0.heap.size := by have := CB.out.z; omega
  have AW : Hid (Calls Tryd.prog 10 #[] W0 fun e w' => e = .returned (.bool true) ∧ Below W0.heap.size W0 w') := awake_any W0 (hkd.below CB.out.b)
  have TO : Hid (∀ W, Calls Tryd.prog 13 #[.agg #[.slice x.va s.vals.length x.vc, .slice x.pa s.prs.length x.pc]] W fun e w' => e = .returned (.agg #[.slice x.va s.vals.length x.vc, .slice x.pa s.prs.length x.pc]) ∧ Below W.heap.size W w') := fun W => toE_any x s W
  have HA : Hid (StAt w x s) := h
  have HK : Hid (KdAt w) := hkd
  have HE : Hid (EvsAt w base b o hs pb pc pg po) := hev
  have HZ : Hid (pErr t s hs = 0) := hz
  have HQ : Hid (ordsO t s hs (spansL hs) = q :: l) := hq
  have HN : Hid (nn = (ordsO t s hs (spansL hs)).length) := hnn
  have hlen := hev.len
  unfold maxLen at hlen
  clear h hkd hev hz hq hnn
  go_enter Tryd.func7, Tryd.ntmps7
  go_upto_region 1 with fail
  rw [← hW0]
  clear hW0
  go_upto_region 4 with (first | (go_at_call 10; refine AW.out.mono ?_; rintro e w1 ⟨rfl, hb1⟩; have B1 : Hid (Below W0.heap.size W0 w1) := hb1; have h1 := hb1.size; obtain ⟨c0, c1, c2, c3, -⟩ := cells5 ((hb1.block _ z0).trans CB.out.r0); clear hb1) | (go_at_call 13; refine (TO.out _).mono ?_; rintro e w2 ⟨rfl, hb2⟩; have B2 : Hid (Below w1.heap.size w1 w2) := hb2; have h2 := hb2.size; clear hb2))
  obtain ⟨W3, hW3⟩ : ∃ W3, W3 = w2.alloc (.cells #[.slice x.va s.vals.length x.vc, .slice x.pa s.prs.length x.pc] 31) := ⟨_, rfl⟩
  have K3 : Hid (Below w.heap.size w W3) := by show Below _ _ _; rw [hW3]; exact ((CB.out.b.trans (B1.out.mono CB.out.b.size)).trans (B2.out.mono (by have := CB.out.b.size; omega))).alloc (by have := CB.out.b.size; omega) _
  have z3 : w.heap.size < W3.heap.size := by rw [hW3]; simp; omega
  have x3 : w.heap.size + 1 < W3.heap.size := by have := CB.out.z; rw [hW3]; simp; omega
  have y3 : w2.heap.size < W3.heap.size := by rw [hW3]; simp
  have R3 : Hid (W3.heap[w.heap.size]? = some (.cells #[.int .i64 t, .slice x.va s.vals.length x.vc, .slice x.pa s.prs.length x.pc, .slice base hs.length c, ov] 54)) := by show W3.heap[_]? = _; rw [hW3]; exact (heap_alloc_old _ _ (by omega)).trans ((B2.out.block _ (by omega)).trans ((B1.out.block _ z0).trans CB.out.r0))
  have O3 : Hid (W3.heap[w.heap.size + 1]? = some (.cells #[.int .i64 p.kind, .int .i64 p.key, .int .i64 p.val, .int .i64 p.hi] 43)) := by have := CB.out.z; show W3.heap[_]? = _; rw [hW3]; exact (heap_alloc_old _ _ (by omega)).trans ((B2.out.block _ (by omega)).trans ((B1.out.block _ (by omega)).trans CB.out.r1))
  have S3 : Hid (W3.heap[w2.heap.size]? = some (.cells #[.slice x.va s.vals.length x.vc, .slice x.pa s.prs.length x.pc] 31)) := by show W3.heap[_]? = _; rw [hW3]; exact heap_alloc_at _ _ _ rfl
  have KS : Hid (∀ W', Below W3.heap.size W3 W' → W'.cell? ⟨w.heap.size, 0, none⟩ = some (.int .i64 t) ∧ W'.cell? ⟨w.heap.size, 3, none⟩ = some (.slice base hs.length c) ∧ (W'.cell? ⟨w.heap.size + 1, 0, none⟩ = some (.int .i64 p.kind) ∧ W'.cell? ⟨w.heap.size + 1, 1, none⟩ = some (.int .i64 p.key) ∧ W'.cell? ⟨w.heap.size + 1, 2, none⟩ = some (.int .i64 p.val) ∧ W'.cell? ⟨w.heap.size + 1, 3, none⟩ = some (.int .i64 p.hi)) ∧ W'.cell? ⟨w2.heap.size, 0, none⟩ = some (.slice x.va s.vals.length x.vc) ∧ W'.cell? ⟨w2.heap.size, 1, none⟩ = some (.slice x.pa s.prs.length x.pc)) := fun W' hb => by
    obtain ⟨e0, e1, e2, e3, -⟩ := cells5 ((hb.block _ z3).trans R3.out)
    obtain ⟨⟨d0, -⟩, ⟨d1, -⟩⟩ := cells2 ((hb.block _ y3).trans S3.out)
    obtain ⟨⟨f0, -⟩, ⟨f1, -⟩, ⟨f2, -⟩, ⟨f3, -⟩⟩ := cells4 ((hb.block _ x3).trans O3.out)
    exact ⟨e0, e3, ⟨f0, f1, f2, f3⟩, d0, d1⟩
  rw [← hW3]
  obtain ⟨c0', c3', -, d0, d1⟩ := KS.out _ (Below.refl _ _)
  clear hW3 c0 c1 c2 c3 h1 h2 R3 S3 O3 B2 B1 AW TO
  go_upto_region 8 with (first | (go_at_call 27; refine (FI.out _ K3.out).mono ?_; rintro e w4 ⟨g, cF, rfl, hb4, hr4⟩; have B4 : Hid (Below W3.heap.size W3 w4) := hb4; have RF4 : Hid (RoO w4 W3.heap.size g 0 cF (ordI q.1)) := hr4; obtain ⟨c4, c5, c6, d4, d5⟩ := KS.out _ hb4; have y4 := hb4.size; clear hb4 hr4) | (go_at_call 30; refine (CN.out _ (K3.out.trans (B4.out.mono K3.out.size))).mono ?_; rintro e w5 ⟨rfl, hb5⟩; have B5 : Hid (Below W3.heap.size W3 w5) := B4.out.trans (hb5.mono B4.out.size); have RF5 : Hid (RoO w5 W3.heap.size g 0 cF (ordI q.1)) := RF4.out.below hb5; clear hb5))
  clear c0' c3' d0 d1 c4 c5 c6 d4 d5 y4 FI CN RF4 B4
  obtain ⟨c0, c3, -, d0, d1⟩ := KS.out _ B5.out
  obtain ⟨rB, hrB⟩ : ∃ rB : Bool, rB = (decide (hs.length ≠ 0) && (evAt hs (hs.length - 1)).ret) := ⟨_, rfl⟩
  have HR : Hid (rB = (decide (hs.length ≠ 0) && (evAt hs (hs.length - 1)).ret)) := hrB
  clear hrB
  have HE5 : Hid (EvsAt w5 base b o hs pb pc pg po) := HE.out.below (K3.out.trans (B5.out.mono K3.out.size))
  go_upto_region 9 with fail
  go_cut [70] from 61 to 70 (fun v wx => v = .bool rB ∧ wx = w5)
  case first =>
    by_cases hn : hs.length = 0
    · obtain rfl : rB = false := by rw [HR.out]; simp [hn]
      have hk : ¬ (0 : Int) ≤ (hs.length : Int) - 1 := by omega
      clear hn
      go_wp2_with fail
      go_meet
      exact ⟨rfl, rfl⟩
    · obtain rfl : base = some ⟨b, o, none⟩ := HE5.out.base hn
      have e1 := (HE5.out.c0 (hs.length - 1) (by omega)).2
      have er : (evAt hs (hs.length - 1)).ret = rB := by rw [HR.out]; simp [hn]
      rw [er] at e1
      have e2 : w5.cell? ⟨b, o + ((hs.length : Int) - 1).toNat * 10 + 1, none⟩ = some (.bool rB) := by rw [show ((hs.length : Int) - 1).toNat = hs.length - 1 by omega]; exact e1
      have j0 : (0 : Int) ≤ (hs.length : Int) - 1 := by omega
      have j1 : (hs.length : Int) - 1 < (hs.length : Int) := by omega
      have zb : b < w5.heap.size := HE5.out.lt hn
      clear er hn
      go_wp2_with fail
      go_meet
      exact ⟨rfl, rfl⟩
  case rest =>
    obtain ⟨rfl, hw⟩ := hcut
    have hw' := hw.symm
    clear hw
    subst hw'
    go_upto_if 70 with fail
    go_cut [] from 71 to 108 (fun wx => Below w5.heap.size w5 wx)
    case first =>
      by_cases hB : rB = true
      · subst hB
        have hR := HR.out
        rw [eq_comm, Bool.and_eq_true, decide_eq_true_eq] at hR
        obtain ⟨hn, hret⟩ := hR
        have hs2 : hs = hs.take (hs.length - 1) ++ [evAt hs (hs.length - 1)] := by
          have := take_snoc_ev (hs := hs) (j := hs.length - 1) (by omega)
          rw [show hs.length - 1 + 1 = hs.length by omega, List.take_length] at this
          exact this
        have D : pErr t s (hs.take (hs.length - 1)) = 0 ∧ Easier hs (spansL hs) (hs.take (hs.length - 1)) (spansL (hs.take (hs.length - 1))) := by
          have := pErr_drop (a := hs.take (hs.length - 1)) hret (t := t) (s := s) (by rw [← hs2]; exact HZ.out)
          rw [← hs2] at this
          exact this
        obtain ⟨a, ha⟩ : ∃ a, a = hs.take (hs.length - 1) := ⟨_, rfl⟩
        have hal : a.length = hs.length - 1 := by rw [ha, List.length_take]; omega
        have hev : EvsAt w5 base b o a pb pc pg po := by rw [ha]; exact HE5.out.take7 _
        rw [← ha] at D
        have hok := D.2.isOk D.1 (l := q.1) (by rw [HQ.out]; simp)
        obtain ⟨mm, hmm⟩ : ∃ mm : Nat, mm = (ordsO t s a (spansL a)).length := ⟨_, rfl⟩
        have hc := D.2.count (t := t) (s := s)
        rw [← hmm, ← HN.out] at hc
        have X5 : Below w.heap.size w w5 := K3.out.trans (B5.out.mono K3.out.size)
        have IS : Hid (∀ p : BelowBy w5, Calls Tryd.prog 29 #[.int .i64 t, .agg #[.slice x.va s.vals.length x.vc, .slice x.pa s.prs.length x.pc], .slice base (hs.length - 1) c, .slice (some ⟨g, 0, none⟩) q.1.length cF] p.W fun e w' => e = .returned (.tuple #[.bool true, .int .i64 0]) ∧ Below p.W.heap.size p.W w') := fun p => by
          have := is7_val t x s base b o c a pb pc pg po (some ⟨g, 0, none⟩) g 0 cF (ordI q.1) p.W (HA.out.below (X5.trans (p.h.mono X5.size))) (HK.out.below (X5.trans (p.h.mono X5.size))) (hev.below p.h) (RF5.out.below p.h).ord hsz true ⟨fun _ => hok, fun _ => rfl⟩
          rw [D.1, hal, ordI_length] at this
          exact this
        have CT : Hid (∀ p : BelowBy w5, Calls Tryd.prog 30 #[.int .i64 t, .agg #[.slice x.va s.vals.length x.vc, .slice x.pa s.prs.length x.pc], .slice base (hs.length - 1) c] p.W fun e w' => e = .returned (.tuple #[.int .i64 mm, .int .i64 0]) ∧ Below p.W.heap.size p.W w') := fun p => by
          have := cnt7_any t x s base b o c a pb pc pg po p.W (HA.out.below (X5.trans (p.h.mono X5.size))) (HK.out.below (X5.trans (p.h.mono X5.size))) (hev.below p.h) hsz
          rw [hal] at this
          refine this.mono ?_
          rintro e w' ⟨hb, rfl⟩
          rw [if_pos D.1, D.1, ← hmm]
          exact ⟨rfl, hb⟩
        have z5 := B5.out.size
        have y0 := BelowBy.cell (show w.heap.size < w5.heap.size by omega) c0
        have y1 := BelowBy.cell (show w.heap.size < w5.heap.size by omega) c3
        have y2 := BelowBy.cell (show w2.heap.size < w5.heap.size by omega) d0
        have y3' := BelowBy.cell (show w2.heap.size < w5.heap.size by omega) d1
        have j0 : (0 : Int) ≤ (hs.length : Int) - 1 := by omega
        have j1 : (hs.length : Int) - 1 ≤ (c : Int) := by omega
        have jt : ((hs.length : Int) - 1).toNat = hs.length - 1 := by omega
        have hmn : ¬ ((mm : Int) < (nn : Int)) := by omega
        obtain rfl : base = some ⟨b, o, none⟩ := HE5.out.base hn
        clear hs2 hret D ha hal hev hok hmm hc X5 hn
        go_wp2_with fail
        refine wp_region_below (by kernel_rfl) (by kernel_rfl) ?_
        repeat (go_big_quiet_step (first | (go_at_call 29; exact below_call (IS.out _))))
        refine wpQuiet_nil ?_
        rintro _ ⟨p10, rfl⟩
        obtain ⟨w6, hw6⟩ : ∃ w6, w6 = p10.W := ⟨_, rfl⟩
        have B6 : Hid (Below w5.heap.size w5 w6) := by show Below _ _ _; rw [hw6]; exact p10.h
        rw [← hw6]
        clear hw6 y0 y1 y2 y3' c0 c3 d0 d1 IS
        have z6 := B6.out.size
        obtain ⟨c0, c3, -, d0, d1⟩ := KS.out _ (B5.out.trans (B6.out.mono z5))
        have CT2 : Hid (∀ p : BelowBy w6, Calls Tryd.prog 30 #[.int .i64 t, .agg #[.slice x.va s.vals.length x.vc, .slice x.pa s.prs.length x.pc], .slice (some ⟨b, o, none⟩) (hs.length - 1) c] p.W fun e w' => e = .returned (.tuple #[.int .i64 mm, .int .i64 0]) ∧ Below p.W.heap.size p.W w') := fun p => CT.out ⟨p.W, B6.out.trans (p.h.mono z6)⟩
        have y0 := BelowBy.cell (show w.heap.size < w6.heap.size by omega) c0
        have y1 := BelowBy.cell (show w.heap.size < w6.heap.size by omega) c3
        have y2 := BelowBy.cell (show w2.heap.size < w6.heap.size by omega) d0
        have y3' := BelowBy.cell (show w2.heap.size < w6.heap.size by omega) d1
        go_wp2_with fail
        refine wp_region_below (by kernel_rfl) (by kernel_rfl) ?_
        repeat (go_big_quiet_step (first | (go_at_call 30; exact below_call (CT2.out _))))
        refine wpQuiet_nil ?_
        rintro _ ⟨p11, rfl⟩
        obtain ⟨w7, hw7⟩ : ∃ w7, w7 = p11.W := ⟨_, rfl⟩
        have B7 : Hid (Below w6.heap.size w6 w7) := by show Below _ _ _; rw [hw7]; exact p11.h
        rw [← hw7]
        clear hw7 y0 y1 y2 y3' c0 c3 d0 d1 CT CT2
        go_wp2_with fail
        go_meet
        exact B6.out.trans (B7.out.mono z6)
      · obtain rfl : rB = false := by simpa using hB
        clear hB
        go_wp2_with fail
        go_meet
        exact Below.refl _ _
    case rest =>
      have B8 : Hid (Below W3.heap.size W3 wc) := B5.out.trans (hcut.mono B5.out.size)
      have RF8 : Hid (RoO wc W3.heap.size g 0 cF (ordI q.1)) := RF5.out.below hcut
      clear hcut c0 c3 d0 d1 HE5 RF5 B5 HR
      generalize wc = w8 at *
      have hE0 := (pErr_zero.1 HZ.out).2.1
      have OF : Hid (∀ (k : Nat) W, Below W3.heap.size W3 W → Calls Tryd.prog 36 #[.slice base hs.length c, .int .i64 (k : Int)] W fun e w' => ∃ tb tg tc pb' pc' pg' po', e = .returned (.tuple #[.slice tb (thN hs (k : Int) hs.length).length tc, .int .i64 0]) ∧ Below W.heap.size W w' ∧ EvsAt w' tb tg 0 (thN hs (k : Int) hs.length) pb' pc' pg' po') := fun k W hW => by
        refine (Of_any base b o c hs pb pc pg po W (HE.out.below (K3.out.trans (hW.mono K3.out.size))) (k : Int)).mono ?_
        rintro e w' ⟨v, rfl, hb, -, hn⟩
        obtain ⟨tb, tc, tg, pb', pc', pg', po', rfl, hte, -⟩ := hn hE0
        rw [hE0]
        exact ⟨tb, tg, tc, pb', pc', pg', po', rfl, hb, hte⟩
      clear hE0
      go_upto_block 0 with fail
      go_cut [16] from 109 to 140 (fun v wx => ∃ fr : Int, v = .int .i64 fr ∧ Below w8.heap.size w8 wx)
      case first =>
        go_wp2_with fail
        go_loopw [16, 17] (fun f i wr => ∃ (k : Nat) (fr : Int), k ≤ 64 ∧ f = .int .i64 fr ∧ i = .int .i64 (k : Int) ∧ Below w8.heap.size w8 wr) (fun _ i _ => 64 - (intOf i).toNat)
        case atStart => exact ⟨0, -1, by omega, rfl, rfl, Below.refl _ _⟩
        case round =>
          obtain ⟨k, fr, hk, rfl, rfl, hbw⟩ := hrel
          rename World => wr
          have BW : Hid (Below w8.heap.size w8 wr) := hbw
          have BV : Hid (Below W3.heap.size W3 wr) := B8.out.trans (hbw.mono B8.out.size)
          obtain ⟨c0, c3, -, d0, d1⟩ := KS.out _ BV.out
          clear hbw
          by_cases hlt : k < 64
          · have k1 : (k : Int) < 64 := by omega
            have k0 : (0 : Int) ≤ (k : Int) := Int.natCast_nonneg _
            by_cases hf : fr < 0
            · go_upto_region 19 with (first | (go_at_call 36; refine (OF.out k _ BV.out).mono ?_; rintro e w9 ⟨tb, tg, tc, pb', pc', pg', po', rfl, hb9, he9⟩; have B9 : Hid (Below w8.heap.size w8 w9) := BW.out.trans (hb9.mono BW.out.size); have HT : Hid (EvsAt w9 tb tg 0 (thN hs (k : Int) hs.length) pb' pc' pg' po') := he9; clear hb9 he9))
              generalize thN hs (k : Int) hs.length = T at *
              have hTl := HT.out.len
              unfold maxLen at hTl
              by_cases hT0 : T.length = 0
              · clear OF c0 c3 d0 d1
                go_wp2_with fail
                exact ⟨⟨k + 1, k, by omega, rfl, by go_num, B9.out⟩, by simp [intOf]; omega⟩
              · obtain rfl : tb = some ⟨tg, 0, none⟩ := HT.out.base hT0
                have e1 := (HT.out.c0 (T.length - 1) (by omega)).2
                rw [Nat.zero_add] at e1
                obtain ⟨rb, hrb⟩ : ∃ rb, rb = (evAt T (T.length - 1)).ret := ⟨_, rfl⟩
                rw [← hrb] at e1
                have j0 : (0 : Int) ≤ (T.length : Int) - 1 := by omega
                have j1 : (T.length : Int) - 1 < (T.length : Int) := by omega
                have j2 : ¬ ((T.length : Int) = 0) := by omega
                have zb : tg < w9.heap.size := HT.out.lt hT0
                have jq : ((T.length : Int) == 0) = false := beq_eq_false_iff_ne.2 j2
                clear hrb OF c0 c3 d0 d1
                cases rb
                · go_wp2_with fail
                  exact ⟨⟨k + 1, fr, by omega, rfl, by go_num, B9.out⟩, by simp [intOf]; omega⟩
                · go_wp2_with fail
                  exact ⟨⟨k + 1, k, by omega, rfl, by go_num, B9.out⟩, by simp [intOf]; omega⟩
            · have hf' : ¬ fr < 0 := hf
              go_wp2_with fail
              go_meet
              exact ⟨fr, rfl, BW.out⟩
          · obtain rfl : k = 64 := by omega
            go_wp2_with fail
            go_meet
            exact ⟨fr, rfl, BW.out⟩
      case rest =>
        obtain ⟨fr, rfl, hbw⟩ := hcut
        have B10 : Hid (Below W3.heap.size W3 wc) := B8.out.trans (hbw.mono B8.out.size)
        have RF10 : Hid (RoO wc W3.heap.size g 0 cF (ordI q.1)) := RF8.out.below hbw
        clear hbw RF8 B8 OF
        rename World => W10
        have KM : Hid (∀ w', Below W10.heap.size W10 w' → w'.cell? ⟨w.heap.size, 3, none⟩ = some (.slice base hs.length c) ∧ w'.cell? ⟨w.heap.size + 1, 0, none⟩ = some (.int .i64 p.kind) ∧ w'.cell? ⟨w.heap.size + 1, 1, none⟩ = some (.int .i64 p.key) ∧ w'.cell? ⟨w.heap.size + 1, 2, none⟩ = some (.int .i64 p.val) ∧ w'.cell? ⟨w.heap.size + 1, 3, none⟩ = some (.int .i64 p.hi)) := fun w' hb => by
          obtain ⟨-, e3, ⟨f0, f1, f2, f3⟩, -, -⟩ := KS.out _ (B10.out.trans (hb.mono B10.out.size))
          exact ⟨e3, f0, f1, f2, f3⟩
        obtain ⟨c3, f0, f1, f2, f3⟩ := KM.out _ (Below.refl _ _)
        have HE10 : Hid (EvsAt W10 base b o hs pb pc pg po) := HE.out.below (K3.out.trans (B10.out.mono K3.out.size))
        have hl5 : hs.length ≤ 100000 := (hErr_zero (pErr_zero.1 HZ.out).2.1).1
        have l10 : w.heap.size < W10.heap.size := Nat.lt_of_lt_of_le z3 B10.out.size
        have l11 : w.heap.size + 1 < W10.heap.size := Nat.lt_of_lt_of_le x3 B10.out.size
        have l12 : w2.heap.size < W10.heap.size := Nat.lt_of_lt_of_le y3 B10.out.size
        have HNIL : Hid (base = none → hs.length = 0 ∧ c = 0) := hnil
        obtain ⟨i0, hi0, hz0, hz1, hz2⟩ := info_parts ev_info
        clear hnil
        go_upto_region 21 with fail
        go_cut [20] from 141 to 149 (fun v wx => MoreP W10 hs ⟨fr, false, p, ⟨false, 0, 0, []⟩⟩ v wx)
        case first =>
          go_region_held3 (fun w' => w'.cell? ⟨w.heap.size, 3, none⟩ = some (.slice base hs.length c) ∧ w'.cell? ⟨w.heap.size + 1, 0, none⟩ = some (.int .i64 p.kind) ∧ w'.cell? ⟨w.heap.size + 1, 1, none⟩ = some (.int .i64 p.key) ∧ w'.cell? ⟨w.heap.size + 1, 2, none⟩ = some (.int .i64 p.val) ∧ w'.cell? ⟨w.heap.size + 1, 3, none⟩ = some (.int .i64 p.hi))
            (first | (refine KM.out _ ?_; (repeat' (first | with_reducible exact Below.refl _ _ | with_reducible exact XB.out | with_reducible exact XA.out | with_reducible refine Below.drew ?_ | with_reducible refine Below.alloc ?_ ?_ _)) <;> (first | (simp; done) | (simp; omega) | (show _ ≤ _; omega))) | fail)
            (first
              | ((refine step_append_all (by rfl) _ _ _ (by rfl) W10.heap.size 84 i0 _ 10 96 evs_under hi0 hz0 hz1 hz2 rfl (by omega) v1 (0 + hs.length) ([] ++ evsC (mOf hs pb pc)) (by rfl) (HO1.out.alloc _) (some ⟨wA.heap.size, 0, none⟩) 1 1 (evC (⟨fr, false, p, ⟨false, 0, 0, []⟩⟩ : EvD) (.slice none 0 0)) (by rfl) (fun h => by cases h) (by rfl) (fun ad had jj u hu => EvNw.news (EvNw.mk0 (w := wA.alloc _) (T := 84) (heap_alloc_at _ _ _ rfl)) ad had jj u hu) (evC_one _) (by unfold maxLen; omega) (by omega) (by have := XA.out.size; simp; omega) ?_); intro v2 wB hown2 hgrow2 hnl2; have XB : Hid (Below W10.heap.size W10 wB) := grown_b (XA.out.alloc XA.out.size _) hgrow2 (fun k hk => (owns_lt HO1.out k hk).1); have HO2 : Hid (World.ownsRow _ _ _ _ _ _ _) := hown2; clear hown2 hgrow2 hnl2)
              | ((refine step_append_all (by rfl) _ _ _ (by rfl) W10.heap.size 84 i0 _ 10 96 evs_under hi0 hz0 hz1 hz2 rfl (by omega) v1 (0 + hs.length) ([] ++ evsC (mOf hs pb pc)) (by rfl) (HO1.out) (some ⟨W10.heap.size + 1, 0, none⟩) 1 1 (evC (⟨fr, false, p, ⟨false, 0, 0, []⟩⟩ : EvD) (.slice none 0 0)) (by rfl) (fun h => by cases h) (by rfl) (fun ad had jj u hu => EvNw.news (NE.out) ad had jj u hu) (evC_one _) (by unfold maxLen; omega) (by omega) (XA.out.size) ?_); intro v2 wB hown2 hgrow2 hnl2; have XB : Hid (Below W10.heap.size W10 wB) := grown_b (XA.out) hgrow2 (fun k hk => (owns_lt HO1.out k hk).1); have HO2 : Hid (World.ownsRow _ _ _ _ _ _ _) := hown2; clear hown2 hgrow2 hnl2)
              | ((refine step_append_all (by rfl) _ _ _ (by rfl) W10.heap.size 84 i0 _ 10 96 evs_under hi0 hz0 hz1 hz2 rfl (by omega) v1 (0 + hs.length) ([] ++ evsC (mOf hs pb pc)) (by rfl) (HO1.out) (some ⟨W10.heap.size, 0, none⟩) 1 1 (evC (⟨fr, false, p, ⟨false, 0, 0, []⟩⟩ : EvD) (.slice none 0 0)) (by rfl) (fun h => by cases h) (by rfl) (fun ad had jj u hu => EvNw.news (NE.out) ad had jj u hu) (evC_one _) (by unfold maxLen; omega) (by omega) (XA.out.size) ?_); intro v2 wB hown2 hgrow2 hnl2; have XB : Hid (Below W10.heap.size W10 wB) := grown_b (XA.out) hgrow2 (fun k hk => (owns_lt HO1.out k hk).1); have HO2 : Hid (World.ownsRow _ _ _ _ _ _ _) := hown2; clear hown2 hgrow2 hnl2)
              | ((refine step_append_all (by rfl) _ _ _ (by rfl) W10.heap.size 84 i0 _ 10 96 evs_under hi0 hz0 hz1 hz2 rfl (by omega) (.slice (some ⟨W10.heap.size, 0, none⟩) 0 0) 0 [] (by rfl) (own_empty W10.drew _ _ _ _ rfl (Nat.le_refl _)) base hs.length c (evsC (mOf hs pb pc)) (by rfl) HNIL.out (by rw [evsC_length, mOf_length]) (fun ad had jj u hu => evs_news (HE10.out.below (bd1 _ _)) ad had jj u hu) (mOf_one _ _ _) (by unfold maxLen; omega) (by omega) (by first | (simp; done) | (simp; omega)) ?_); intro v1 wA hown1 hgrow1 hnl1; have XA : Hid (Below W10.heap.size W10 wA) := grown_b (bd1 _ _) hgrow1 (fun k hk => by simp [Value.ownBlock] at hk; omega); have hzA : W10.heap.size ≤ wA.heap.size := XA.out.size; have HO1 : Hid (World.ownsRow _ _ _ _ _ _ _) := hown1; clear hown1 hgrow1 hnl1)
              | ((refine step_append_all (by rfl) _ _ _ (by rfl) W10.heap.size 84 i0 _ 10 96 evs_under hi0 hz0 hz1 hz2 rfl (by omega) (.slice (some ⟨W10.heap.size, 0, none⟩) 0 0) 0 [] (by rfl) ((own_empty W10.drew _ _ _ _ rfl (Nat.le_refl _)).alloc _) base hs.length c (evsC (mOf hs pb pc)) (by rfl) HNIL.out (by rw [evsC_length, mOf_length]) (fun ad had jj u hu => evs_news (HE10.out.below (bd2 _ _ _)) ad had jj u hu) (mOf_one _ _ _) (by unfold maxLen; omega) (by omega) (by first | (simp; done) | (simp; omega)) ?_); intro v1 wA hown1 hgrow1 hnl1; have XA : Hid (Below W10.heap.size W10 wA) := grown_b (bd2 _ _ _) hgrow1 (fun k hk => by simp [Value.ownBlock] at hk; omega); have hzA : W10.heap.size ≤ wA.heap.size := XA.out.size; have HO1 : Hid (World.ownsRow _ _ _ _ _ _ _) := hown1; have NE : Hid (EvNw wA (W10.heap.size + 1) (⟨fr, false, p, ⟨false, 0, 0, []⟩⟩ : EvD)) := (EvNw.mk0 (w := (W10.drew.alloc _).alloc _) (T := 84) (heap_alloc_at _ _ _ (by simp))).grown hgrow1 (by simp [Value.ownBlock]); clear hown1 hgrow1 hnl1)
              | ((refine step_append_all (by rfl) _ _ _ (by rfl) W10.heap.size 84 i0 _ 10 96 evs_under hi0 hz0 hz1 hz2 rfl (by omega) (.slice (some ⟨W10.heap.size + 1, 0, none⟩) 0 0) 0 [] (by rfl) (own_empty (W10.drew.alloc _) _ _ _ _ (by simp) (by simp)) base hs.length c (evsC (mOf hs pb pc)) (by rfl) HNIL.out (by rw [evsC_length, mOf_length]) (fun ad had jj u hu => evs_news (HE10.out.below (bd2 _ _ _)) ad had jj u hu) (mOf_one _ _ _) (by unfold maxLen; omega) (by omega) (by first | (simp; done) | (simp; omega)) ?_); intro v1 wA hown1 hgrow1 hnl1; have XA : Hid (Below W10.heap.size W10 wA) := grown_b (bd2 _ _ _) hgrow1 (fun k hk => by simp [Value.ownBlock] at hk; omega); have hzA : W10.heap.size ≤ wA.heap.size := XA.out.size; have HO1 : Hid (World.ownsRow _ _ _ _ _ _ _) := hown1; have NE : Hid (EvNw wA W10.heap.size (⟨fr, false, p, ⟨false, 0, 0, []⟩⟩ : EvD)) := (EvNw.mk0 (w := (W10.drew.alloc _).alloc _) (T := 84) ((heap_alloc_old _ _ (by simp)).trans (heap_alloc_at _ _ _ rfl))).grown hgrow1 (by simp [Value.ownBlock]); clear hown1 hgrow1 hnl1))
          all_goals go_wp2_with fail
          all_goals go_meet
          all_goals exact more_fin HE10.out rfl XB.out HO2.out
        case rest =>
          obtain ⟨mb, mg, mc, pb2, pc2, pg2, po2, rfl, hbm, hem⟩ := hcut
          have B11 : Hid (Below W3.heap.size W3 wc) := B10.out.trans (hbm.mono B10.out.size)
          have RF11 : Hid (RoO wc W3.heap.size g 0 cF (ordI q.1)) := RF10.out.below hbm
          have HM : Hid (EvsAt wc mb mg 0 (hs ++ [(⟨fr, false, p, ⟨false, 0, 0, []⟩⟩ : EvD)]) pb2 pc2 pg2 po2) := hem
          clear hbm hem RF10 B10 KM c3 f0 f1 f2 f3 HE10 hi0 hz0 hz1 hz2
          rename World => W11
          obtain ⟨H2, hH2⟩ : ∃ H2, H2 = hs ++ [(⟨fr, false, p, ⟨false, 0, 0, []⟩⟩ : EvD)] := ⟨_, rfl⟩
          have HM2 : Hid (EvsAt W11 mb mg 0 H2 pb2 pc2 pg2 po2) := by show EvsAt _ _ _ _ _ _ _ _ _; rw [hH2]; exact HM.out
          have hl2 : H2.length = hs.length + 1 := by rw [hH2]; simp
          obtain ⟨E, hE⟩ : ∃ E, E = pErr t s H2 := ⟨_, rfl⟩
          obtain ⟨mm, hmm⟩ : ∃ mm : Nat, mm = (ordsO t s H2 (spansL H2)).length := ⟨_, rfl⟩
          have X11 : Below w.heap.size w W11 := K3.out.trans (B11.out.mono K3.out.size)
          have hEz : E = 0 → IsOk t s H2 (ordI q.1) ∧ nn ≤ mm := fun hz => by
            have hz2 : pErr t s H2 = 0 := by rw [← hE]; exact hz
            have D := easier_more (a := hs) (e := (⟨fr, false, p, ⟨false, 0, 0, []⟩⟩ : EvD)) rfl (by rw [← hH2]; exact (pErr_zero.1 hz2).2.1)
            rw [← hH2] at D
            refine ⟨D.2.isOk hz2 (l := q.1) (by rw [HQ.out]; simp), ?_⟩
            rw [HN.out, hmm]
            exact D.2.count
          have IS : Hid (∀ W, Below W11.heap.size W11 W → Calls Tryd.prog 29 #[.int .i64 t, .agg #[.slice x.va s.vals.length x.vc, .slice x.pa s.prs.length x.pc], .slice mb (hs.length + 1) mc, .slice (some ⟨g, 0, none⟩) q.1.length cF] W fun e w' => e = .returned (.tuple #[.bool (decide (E = 0)), .int .i64 E]) ∧ Below W.heap.size W w') := fun W hW => by
            have := is7_val t x s mb mg 0 mc H2 pb2 pc2 pg2 po2 (some ⟨g, 0, none⟩) g 0 cF (ordI q.1) W (HA.out.below (X11.trans (hW.mono X11.size))) (HK.out.below (X11.trans (hW.mono X11.size))) (HM2.out.below hW) (RF11.out.below hW).ord hsz (decide (E = 0)) ⟨fun h => (hEz (of_decide_eq_true h)).1, fun h => by rw [hE]; simp [h.1]⟩
            rw [hl2, ordI_length, ← hE] at this
            exact this
          have CT : Hid (∀ W, Below W11.heap.size W11 W → E = 0 → Calls Tryd.prog 30 #[.int .i64 t, .agg #[.slice x.va s.vals.length x.vc, .slice x.pa s.prs.length x.pc], .slice mb (hs.length + 1) mc] W fun e w' => e = .returned (.tuple #[.int .i64 mm, .int .i64 0]) ∧ Below W.heap.size W w') := fun W hW hz => by
            have := cnt7_any t x s mb mg 0 mc H2 pb2 pc2 pg2 po2 W (HA.out.below (X11.trans (hW.mono X11.size))) (HK.out.below (X11.trans (hW.mono X11.size))) (HM2.out.below hW) hsz
            rw [hl2] at this
            refine this.mono ?_
            rintro e w' ⟨hb, rfl⟩
            rw [← hE, hz, ← hmm]
            exact ⟨rfl, hb⟩
          have hEc : E = 0 ∨ E = 2 ∨ E = 3 ∨ E = 5 := by rw [hE]; exact pErr_in _ _ _
          have HEZ : Hid (E = 0 → IsOk t s H2 (ordI q.1) ∧ nn ≤ mm) := hEz
          have HX : Hid (Below w.heap.size w W11) := X11
          obtain ⟨c0, -, -, d0, d1⟩ := KS.out _ B11.out
          clear hE hmm hH2 hl2 X11 hEz HM
          by_cases hfr : fr < 0
          · go_wp2_with fail
            (try go_ret)
            exact ⟨rfl, HX.out⟩
          · rcases hEc with rfl | rfl | rfl | rfl
            · have hnm : (nn : Int) ≤ (mm : Int) := by have := (HEZ.out rfl).2; omega
              have CT0 : Hid (∀ W, Below W11.heap.size W11 W → Calls Tryd.prog 30 #[.int .i64 t, .agg #[.slice x.va s.vals.length x.vc, .slice x.pa s.prs.length x.pc], .slice mb (hs.length + 1) mc] W fun e w' => e = .returned (.tuple #[.int .i64 mm, .int .i64 0]) ∧ Below W.heap.size W w') := fun W hW => CT.out W hW rfl
              clear CT
              go_wp2_with (first | (go_at_call 29; refine (IS.out _ (Below.refl _ _)).mono ?_; rintro e w12 ⟨rfl, hb12⟩; have B12 : Hid (Below W11.heap.size W11 w12) := hb12; obtain ⟨c4, -, -, d4, d5⟩ := KS.out _ (B11.out.trans (hb12.mono B11.out.size)); clear hb12) | (go_at_call 30; refine (CT0.out _ B12.out).mono ?_; rintro e w13 ⟨rfl, hb13⟩; have B13 : Hid (Below W11.heap.size W11 w13) := B12.out.trans (hb13.mono B12.out.size); clear hb13))
              (try go_ret)
              exact ⟨rfl, HX.out.trans (B13.out.mono HX.out.size)⟩
            all_goals
              go_wp2_with (first | (go_at_call 29; refine (IS.out _ (Below.refl _ _)).mono ?_; rintro e w12 ⟨rfl, hb12⟩; have B12 : Hid (Below W11.heap.size W11 w12) := hb12; obtain ⟨c4, -, -, d4, d5⟩ := KS.out _ (B11.out.trans (hb12.mono B11.out.size)); clear hb12))
              (try go_ret)
              exact ⟨rfl, HX.out.trans (B12.out.mono HX.out.size)⟩
theorem searchEasier_any (t : Int) (x : SX) (s : SD) (base : Option Addr) (b o c : Nat) (hs : List EvD) (pb : Nat → Option Addr) (pc pg po : Nat → Nat) (ov : Value) (p : OpD) (w : World) (h : StAt w x s) (hkd : KdAt w) (hev : EvsAt w base b o hs pb pc pg po) (hsz : s.vals.length ≤ 999999000 ∧ s.prs.length ≤ 999999000) (hcap : hs.length ≤ c) (hnil : base = none → hs.length = 0 ∧ c = 0) :
    Calls Tryd.prog 7 #[.agg #[.int .i64 t, .slice x.va s.vals.length x.vc, .slice x.pa s.prs.length x.pc, .slice base hs.length c, ov], .agg #[.int .i64 p.kind, .int .i64 p.key, .int .i64 p.val, .int .i64 p.hi]] w fun e w' => e = .returned (.bool true) ∧ Below w.heap.size w w' := by
  cases hq : ordsO t s hs (spansL hs) with
  | cons q l =>
    by_cases hz : pErr t s hs = 0
    · exact easier_yes t x s base b o c hs pb pc pg po ov p w h hkd hev hsz hcap hnil hz q l hq
    · refine easier_no t x s base hs.length c ov p w hkd (pErr t s hs) 0 (fun W hW => ?_) (fun W hW => ?_)
      · refine (find_any t x s base b o c hs pb pc pg po W (h.below hW) (hkd.below hW) (hev.below hW) hsz).mono ?_
        rintro e w' ⟨hb, (⟨-, rfl⟩ | ⟨h1, -⟩ | ⟨h1, -⟩)⟩
        · exact ⟨rfl, hb⟩
        · exact absurd h1 hz
        · exact absurd h1 hz
      · refine (cnt7_any t x s base b o c hs pb pc pg po W (h.below hW) (hkd.below hW) (hev.below hW) hsz).mono ?_
        rintro e w' ⟨hb, rfl⟩
        rw [if_neg hz]
        exact ⟨rfl, hb⟩
  | nil =>
    refine easier_no t x s base hs.length c ov p w hkd (pErr t s hs) 0 (fun W hW => ?_) (fun W hW => ?_)
    · refine (find_any t x s base b o c hs pb pc pg po W (h.below hW) (hkd.below hW) (hev.below hW) hsz).mono ?_
      rintro e w' ⟨hb, (⟨-, rfl⟩ | ⟨h1, -, rfl⟩ | ⟨-, p', l', g, c', h1, -⟩)⟩
      · exact ⟨rfl, hb⟩
      · rw [h1]; exact ⟨rfl, hb⟩
      · rw [hq] at h1; cases h1
    · refine (cnt7_any t x s base b o c hs pb pc pg po W (h.below hW) (hkd.below hW) (hev.below hW) hsz).mono ?_
      rintro e w' ⟨hb, rfl⟩
      rw [hq]
      split
      · exact ⟨rfl, hb⟩
      · exact ⟨rfl, hb⟩
end Go.Proofs.YtcphajjonecmbaaDoor

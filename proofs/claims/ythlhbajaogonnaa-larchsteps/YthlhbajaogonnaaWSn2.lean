/- Layer 17: Reds, Overs, Total. Layer 17: Overs; isLightLeaf; even. Layer 17: even, Even, Sound. Layer 17: Even, Sound. Layer 17: Sound. Layer 17, pure: places for keys; the tree of the keys as a table; what is handed down a tree. Layer 17: keysOf. Layer 17: sums, Sums. Layer 17: isRed, isOver, isFault, reds. Layer 17: Sums, Violations, check, First; Bound of 7. Layer 17: Violations. -/
import Derived.Test.YthlhbajaogonnaaTRoot
import Derived.Test.YthlhbajaogonnaaTBt2
import Derived.Test.YthlhbajaogonnaaTMir
import Derived.Deep.QuietTactic
import Derived.BigQuiet
import Derived.Test.YthlhbajaogonnaaTSrch
import Derived.Deep.RegionHeld3
import Derived.Deep.CutRange



namespace Go.Proofs.Ythlhbajaogonnaa

/-- A node with its place for its key. -/
def namD (i : Nat) (n : NdD) : NdD := if n.inf = 0 then ⟨(i : Int), n.inf, n.wt, n.val, n.l, n.r⟩ else n
/-- The first m nodes named. -/
def namN (t : NL) (m : Nat) : NL := (List.range t.length).map fun i => if i < m then namD i (ndAt t i) else ndAt t i
def namL (t : NL) : NL := namN t t.length
theorem namN_length (t : NL) (m : Nat) : (namN t m).length = t.length := by simp [namN]
theorem namN_at (t : NL) (m i : Nat) (h : i < t.length) : ndAt (namN t m) i = if i < m then namD i (ndAt t i) else ndAt t i := by
  conv => lhs; unfold ndAt namN
  rw [List.getD_eq_getElem?_getD, List.getElem?_map, List.getElem?_range h]
  rfl
theorem nl_ext' {a b : NL} (hl : a.length = b.length) (h : ∀ i, i < a.length → ndAt a i = ndAt b i) : a = b := by
  apply List.ext_getElem hl
  intro i h1 h2
  have := h i h1
  simpa [ndAt, List.getD_eq_getElem?_getD, List.getElem?_eq_getElem h1, List.getElem?_eq_getElem h2] using this
theorem namN_zero (t : NL) : namN t 0 = t := nl_ext' (namN_length t 0) fun i hi => by
  rw [namN_length] at hi
  rw [namN_at t 0 i hi, if_neg (by omega)]
/-- Its key set. -/
def setK (T : NL) (i : Nat) (a : Int) : NL := T.set i ⟨a, (ndAt T i).inf, (ndAt T i).wt, (ndAt T i).val, (ndAt T i).l, (ndAt T i).r⟩
theorem namN_same (t : NL) (m : Nat) (h : m < t.length) (hi : (ndAt t m).inf ≠ 0) : namN t (m + 1) = namN t m := by
  refine nl_ext' (by rw [namN_length, namN_length]) fun i hi' => ?_
  rw [namN_length] at hi'
  rw [namN_at t _ i hi', namN_at t _ i hi']
  by_cases e : i = m
  · subst e
    rw [if_pos (by omega), if_neg (by omega)]
    unfold namD
    rw [if_neg hi]
  · by_cases c : i < m
    · rw [if_pos (by omega), if_pos c]
    · rw [if_neg (by omega), if_neg c]
theorem namN_succ (t : NL) (m : Nat) (h : m < t.length) (hi : (ndAt t m).inf = 0) : setK (namN t m) m (m : Int) = namN t (m + 1) := by
  have hl : m < (namN t m).length := by rw [namN_length]; exact h
  refine nl_ext' (by unfold setK; rw [List.length_set, namN_length, namN_length]) fun i hi' => ?_
  have hi2 : i < t.length := by unfold setK at hi'; rwa [List.length_set, namN_length] at hi'
  rw [namN_at t _ i hi2]
  unfold setK
  by_cases e : i = m
  · subst e
    rw [ndAt_set _ _ _ hl, namN_at t _ i h, if_neg (by omega), if_pos (by omega)]
    unfold namD
    rw [if_pos hi]
  · have : ndAt ((namN t m).set m ⟨(m : Int), (ndAt (namN t m) m).inf, (ndAt (namN t m) m).wt, (ndAt (namN t m) m).val, (ndAt (namN t m) m).l, (ndAt (namN t m) m).r⟩) i = ndAt (namN t m) i := by
      unfold ndAt
      rw [List.getD_eq_getElem?_getD, List.getElem?_set_ne (Ne.symm e), ← List.getD_eq_getElem?_getD]
    rw [this, namN_at t _ i hi2]
    by_cases c : i < m
    · rw [if_pos c, if_pos (by omega)]
    · rw [if_neg c, if_neg (by omega)]
theorem namL_length (t : NL) : (namL t).length = t.length := namN_length _ _
theorem namL_at (t : NL) (i : Nat) (h : i < t.length) : ndAt (namL t) i = namD i (ndAt t i) := by
  unfold namL
  rw [namN_at t _ i h, if_pos h]
theorem namD_lr (i : Nat) (n : NdD) : (namD i n).l = n.l ∧ (namD i n).r = n.r ∧ (namD i n).inf = n.inf ∧ (namD i n).wt = n.wt ∧ (namD i n).val = n.val := by
  unfold namD
  split <;> exact ⟨rfl, rfl, rfl, rfl, rfl⟩
theorem namL_tree {t : NL} {p : Nat} {L : List Nat} (h : Tree t p L) : Tree (namL t) p L := by
  induction h with
  | @leaf p hp hl hr =>
    have e := namD_lr p (ndAt t p)
    exact Tree.leaf (by rw [namL_length]; exact hp) (by rw [namL_at t p hp, e.1]; exact hl) (by rw [namL_at t p hp, e.2.1]; exact hr)
  | @inner p l r L R hp hl hr _ _ ih1 ih2 =>
    have e := namD_lr p (ndAt t p)
    exact Tree.inner (by rw [namL_length]; exact hp) (by rw [namL_at t p hp, e.1]; exact hl) (by rw [namL_at t p hp, e.2.1]; exact hr) ih1 ih2
theorem namL_form {t : NL} (hf : InForm t) : InForm (namL t) := by
  obtain ⟨L, h1, h2, h3⟩ := hf.tree
  refine form_of_tree (fun i hi => ?_) (namL_tree h1) h2 (by rw [namL_length]; exact h3)
  rw [namL_length] at hi ⊢
  rw [namL_at t i hi]
  have h := hf.good.node i hi
  unfold namD
  split
  · rename_i q
    exact ⟨h.1, Or.inl q, h.2.2⟩
  · exact h
theorem namL_formE {t : NL} (he : formE t = 0) : formE (namL t) = 0 := by
  obtain ⟨h1, h2⟩ := formE_ok he
  exact formE_of (by rw [namL_length]; exact h1) (namL_form h2)
/-- keysOf's answer: the error, the table. -/
noncomputable def keyE (t : NL) : Int := if (rootR t).2 = 4 then 0 else (rootR t).2
open Classical in
noncomputable def keysA (t : NL) : NL := if (rootR t).2 = 0 then subL (namL t) (rootR t).1 else []
theorem rootR_form {t : NL} (h : (rootR t).2 = 0) : formE t = 0 := by
  unfold rootR at h
  split at h
  · rename_i q
    exact absurd h q
  · rename_i q
    simpa using q
theorem root_at {t : NL} (h : (rootR t).2 = 0) : ∃ x : Nat, rootR t = ((x : Int), 0) ∧ x < t.length := by
  rcases rootR_cases (rootR_form h) with e | e | e
  · rw [e] at h; simp at h
  · rw [e] at h; simp at h
  · exact e
/-- The tree of the keys. -/
theorem keys_lay {t : NL} (h : (rootR t).2 = 0) : ∃ (x : Nat) (b : BT), rootR t = ((x : Int), 0) ∧ x < t.length ∧ Abs (namL t) x b ∧ keysA t = b.lay 0 ∧ b.ok ∧ b.size ≤ 100000 := by
  have he := rootR_form h
  obtain ⟨hb, hf⟩ := formE_ok he
  obtain ⟨x, hx, hxl⟩ := root_at h
  obtain ⟨M, h1, h2, h3, -⟩ := form_at hf x hxl
  obtain ⟨b, hb1, hb2⟩ := (namL_tree h1).abs
  refine ⟨x, b, hx, hxl, hb1, ?_, abs_ok (namL_form hf) hb1, by omega⟩
  unfold keysA
  rw [if_pos h, hx]
  unfold subL
  rw [if_pos ⟨namL_formE he, by simp, by rw [namL_length]; simpa using hxl⟩]
  simp only [Int.toNat_natCast]
  rw [theL_of (namL_tree h1)]
  exact part_lay (namL_tree h1) h2 hb1
/-- What is handed down: f to the children, out at each node. -/
def inh (f : PD → Int → Int) (out : Bool → PD → Int → List Int) : BT → Int → List Int
  | .leaf d, a => out true d a
  | .node d l r, a => out false d a ++ (inh f out l (f d a) ++ inh f out r (f d a))
/-- What a walk over a table that is numbered from the root on has still to pass from i on, with what is handed to each. -/
def Pend (K : NL) (A : Nat → Int) : Nat → List (BT × Int) → Prop
  | i, [] => i = K.length
  | i, (b, a) :: S => LaidT K i b ∧ A i = a ∧ Pend K A (i + b.size) S
def inhS (f : PD → Int → Int) (out : Bool → PD → Int → List Int) : List (BT × Int) → List Int
  | [] => []
  | (b, a) :: S => inh f out b a ++ inhS f out S
theorem pend_first (b : BT) (A : Nat → Int) : Pend (b.lay 0) A 0 [(b, A 0)] := ⟨laid_self b, rfl, by show 0 + b.size = _; rw [BT.lay_length]; omega⟩
theorem pend_congr {K : NL} {A A' : Nat → Int} : ∀ {S : List (BT × Int)} {i : Nat}, (∀ x, i ≤ x → A' x = A x) → Pend K A i S → Pend K A' i S
  | [], _, _, h => h
  | (b, a) :: S, i, hA, h => ⟨h.1, (hA i (Nat.le_refl _)).trans h.2.1, pend_congr (fun x hx => hA x (by omega)) h.2.2⟩
/-- One step. -/
theorem pend_step {K : NL} {A : Nat → Int} {f : PD → Int → Int} {out : Bool → PD → Int → List Int} {i : Nat} {S : List (BT × Int)} (h : Pend K A i S) (hi : i < K.length) :
    (∃ S', (ndAt K i).l = -1 ∧ (ndAt K i).r = -1 ∧ Pend K A (i + 1) S' ∧ inhS f out S = out true (ndP (ndAt K i)) (A i) ++ inhS f out S') ∨
    (∃ (l r : Nat) (S' : List (BT × Int)), (ndAt K i).l = (l : Int) ∧ (ndAt K i).r = (r : Int) ∧ l = i + 1 ∧ i + 1 < r ∧ r < K.length ∧ Pend K (fun x => if x = r then f (ndP (ndAt K i)) (A i) else if x = l then f (ndP (ndAt K i)) (A i) else A x) (i + 1) S' ∧ inhS f out S = out false (ndP (ndAt K i)) (A i) ++ inhS f out S') := by
  cases S with
  | nil => exact absurd h (by show ¬ i = K.length; omega)
  | cons e S =>
    obtain ⟨b, a⟩ := e
    obtain ⟨h1, rfl, h3⟩ := h
    cases b with
    | leaf d =>
      obtain ⟨-, q⟩ := laid_leaf h1
      refine Or.inl ⟨S, by rw [q], by rw [q], h3, ?_⟩
      rw [q]
      rfl
    | node d l r =>
      obtain ⟨-, q, q1, q2⟩ := laid_node h1
      have ls := l.size_pos
      have rs := r.size_pos
      refine Or.inr ⟨i + 1, i + 1 + l.size, (l, f d (A i)) :: (r, f d (A i)) :: S, by rw [q], by rw [q], rfl, by omega, by have := q2.1; omega, ?_, ?_⟩
      · have e1 : ndP (ndAt K i) = d := by rw [q]; rfl
        rw [e1]
        refine ⟨q1, ?_, q2, ?_, ?_⟩
        · simp
        · simp
        · have e2 : i + (BT.node d l r).size = i + 1 + l.size + r.size := by simp only [BT.size]; omega
          rw [e2] at h3
          exact pend_congr (fun x hx => by
            show (if x = i + 1 + l.size then _ else if x = i + 1 then _ else A x) = A x
            rw [if_neg (by omega), if_neg (by omega)]) h3
      · have e1 : ndP (ndAt K i) = d := by rw [q]; rfl
        rw [e1]
        simp [inhS, inh]
end Go.Proofs.Ythlhbajaogonnaa

namespace Go.Proofs.Ythlhbajaogonnaa

open Go.RowKit

attribute [local go_sem ↓] Go.wp_at_zero Go.wp_at_succ

theorem MAt.key {w0 x : World} {g cap : Nat} {T : NL} (h : MAt w0 x g cap T) (i : Nat) (hi : i < T.length) : (x.cell? ⟨g, i * 6, none⟩ = some (.int .i64 (ndAt T i).key) ∧ x.frozen? ⟨g, i * 6, none⟩ = false) ∧ x.cell? ⟨g, i * 6 + 1, none⟩ = some (.int .i64 (ndAt T i).inf) := by
  obtain ⟨g', cap', hv, -, -, -, -, hc, hfr⟩ := owns_some h.own (by omega)
  injection hv with e1 _ _
  injection e1 with e1
  injection e1 with e1 _ _
  subst e1
  obtain ⟨b0, b1, -⟩ := ndCells_get T i hi
  exact ⟨⟨(hc _ (by omega)).trans b0, hfr _⟩, (hc _ (by omega)).trans b1⟩
theorem MAt.putK {w0 x : World} {g cap : Nat} {T : NL} (h : MAt w0 x g cap T) (i : Nat) (a : Int) (hi : i < T.length) (hg : w0.heap.size ≤ g) : MAt w0 (x.setCell ⟨g, i * 6, none⟩ (.int .i64 a)) g cap (setK T i a) := by
  refine ⟨?_, h.below.setCell hg _⟩
  unfold setK
  rw [ndCells_setK 0 (.int .i64 a) T i _ hi (by omega) (fun j hj hn => by
    have c : j = 1 ∨ j = 2 ∨ j = 3 ∨ j = 4 ∨ j = 5 := by omega
    rcases c with rfl | rfl | rfl | rfl | rfl <;> rfl) rfl, List.length_set]
  exact owns_put h.own _ _
set_option maxRecDepth 100000 in
set_option maxHeartbeats 1000000 in
theorem keysOf_any (base : Option Addr) (b o c : Nat) (t : NL) (w : World) (h : NodesAt w base b o t) :
    Calls Try.prog 83 #[.slice base t.length c] w fun e w' => ∃ v, e = .returned (.tuple #[v, .int .i64 (keyE t)]) ∧ w'.ownsRow w.heap.size 55 6 v (keysA t).length (ndCells (keysA t)) ∧ Below w.heap.size w w' := by
  have HA : Hid (NodesAt _ _ _ _ _) := h
  clear h
  by_cases h4 : (rootR t).2 = 4
  · have F : Hid (keysA t = []) := by show keysA t = _; unfold keysA; rw [if_neg (by omega)]
    have FE : Hid (keyE t = 0) := by show keyE t = _; unfold keyE; rw [if_pos h4]
    have H4 : Hid ((rootR t).2 = 4) := h4
    clear h4
    go_enter Try.func83, Try.ntmps83
    go_wp2_with (first | (go_at_call 44; refine (Root_any _ b o c t _ HA.out).mono ?_; rintro e w1 ⟨rfl, hb1⟩; rw [H4.out]; have B1 : Hid (Below w.heap.size w w1) := hb1; clear hb1))
    go_ret2
    refine ⟨_, by rw [FE.out]; rfl, ?_, B1.out⟩
    rw [F.out]
    exact World.ownsRow_nil _ _ _ _
  · by_cases h0 : (rootR t).2 = 0
    · have he := rootR_form h0
      obtain ⟨hbig, hf⟩ := formE_ok he
      have hpos := hf.pos
      obtain rfl : base = some ⟨b, o, none⟩ := HA.out.base (by omega)
      have FE : Hid (keyE t = 0) := by show keyE t = _; unfold keyE; rw [if_neg h4, h0]
      have FA : Hid (keysA t = subL (namL t) (rootR t).1) := by show keysA t = _; unfold keysA; rw [if_pos h0]
      obtain ⟨x, hx, hxl⟩ := root_at h0
      have FS : Hid (subE (namL t) (rootR t).1 = 0) := by
        show subE _ _ = _
        unfold subE
        rw [if_neg (by simp [namL_formE he]), if_pos ⟨by rw [hx]; simp, by rw [hx, namL_length]; simpa using hxl⟩]
      have H0 : Hid ((rootR t).2 = 0) := h0
      have HLN : Hid (∀ m, (namN t m).length = t.length) := namN_length t
      have HLL : Hid ((namL t).length = t.length) := namL_length t
      clear h4 h0 he hf hx
      go_enter Try.func83, Try.ntmps83
      go_wp2_with (first | (go_at_call 44; refine (Root_any _ b o c t _ HA.out).mono ?_; rintro e w1 ⟨rfl, hb1⟩; rw [H0.out]; have B1 : Hid (Below w.heap.size w w1) := hb1; have hz1 := hb1.size; clear hb1) | (go_at_call 40; refine (nclone_any _ b o c t _ (HA.out.below B1.out) hpos (by omega)).mono ?_; rintro e w2 ⟨g2, c2, rfl, ho2, hb2⟩; have T0 : Hid (MAt w1 w2 g2 c2 (namN t 0)) := ⟨(by rw [namN_zero]; exact ho2), hb2⟩; have hz2 := hb2.size; obtain ⟨hg1, hg2⟩ := owns_lt ho2 g2 rfl; clear hb2 ho2))
      go_loopw [22] (fun i wr => ∃ m : Nat, m ≤ t.length ∧ i = .int .i64 m ∧ MAt w1 wr g2 c2 (namN t m)) (fun i _ => t.length - (intOf i).toNat)
      case atStart => exact ⟨0, Nat.zero_le _, rfl, T0.out⟩
      case round =>
        obtain ⟨m, hm, rfl, hT⟩ := hrel
        have TM : Hid (MAt _ _ _ _ _) := hT
        obtain ⟨-, hgl⟩ := hT.lt
        by_cases hlm : m < t.length
        · have m0 : (0 : Int) ≤ (m : Int) := Int.natCast_nonneg _
          have m1 : (m : Int) < (t.length : Int) := by omega
          have hmN : m < (namN t m).length := by rw [HLN.out]; exact hlm
          obtain ⟨c0, c1⟩ := hT.key m hmN
          rw [namN_at t m m hlm, if_neg (by omega)] at c0 c1
          by_cases hi : (ndAt t m).inf = 0
          · have ST : Hid (MAt w1 _ g2 c2 (namN t (m + 1))) := (by rw [← namN_succ t m hlm hi]; exact hT.putK m (m : Int) hmN hg1)
            have d : ((ndAt t m).inf == 0) = true := by simp [hi]
            clear hT hi
            generalize (ndAt t m).inf = k1 at *
            go_wp2_with fail
            exact ⟨⟨m + 1, by omega, by go_num, ST.out⟩, by simp [intOf]; omega⟩
          · have HS : Hid (namN t (m + 1) = namN t m) := namN_same t m hlm hi
            have d : ((ndAt t m).inf == 0) = false := by simp [hi]
            clear hT hi
            generalize (ndAt t m).inf = k1 at *
            go_wp2_with fail
            exact ⟨⟨m + 1, by omega, by go_num, by rw [HS.out]; exact TM.out⟩, by simp [intOf]; omega⟩
        · obtain rfl : m = t.length := by omega
          have BW : Hid (Below w.heap.size w wr) := B1.out.trans (hT.below.mono B1.out.size)
          have TA : Hid (MAt w1 wr g2 c2 (namL t)) := hT
          clear hT
          go_wp2_with fail
          have hc := Sub_any (some ⟨g2, 0, none⟩) g2 0 c2 (namL t) (rootR t).1 wr TA.out.nodes
          rw [HLL.out] at hc
          refine hc.mono ?_
          rintro e w3 ⟨v3, rfl, ho3, hb3⟩
          have O3 : Hid (World.ownsRow _ _ _ _ _ _ _) := ho3
          have B3 : Hid (Below w.heap.size w w3) := BW.out.trans (hb3.mono BW.out.size)
          rw [FS.out]
          clear ho3 hb3 hc
          go_wp2_with fail
          go_ret2
          refine ⟨_, by rw [FE.out]; rfl, ?_, B3.out⟩
          rw [FA.out]
          exact owns_down O3.out BW.out.size
    · have F : Hid (keysA t = []) := by show keysA t = _; unfold keysA; rw [if_neg h0]
      have FE : Hid (keyE t = (rootR t).2) := by show keyE t = _; unfold keyE; rw [if_neg h4]
      have d4 : ((rootR t).2 == 4) = false := by simp [h4]
      have d0 : ((rootR t).2 != 0) = true := by simp [h0]
      clear h4 h0
      go_enter Try.func83, Try.ntmps83
      go_wp2_with (first | (go_at_call 44; refine (Root_any _ b o c t _ HA.out).mono ?_; rintro e w1 ⟨rfl, hb1⟩; have B1 : Hid (Below w.heap.size w w1) := hb1; clear hb1))
      go_ret2
      refine ⟨_, by rw [FE.out]; rfl, ?_, B1.out⟩
      rw [F.out]
      exact World.ownsRow_nil _ _ _ _
end Go.Proofs.Ythlhbajaogonnaa

namespace Go.Proofs.Ythlhbajaogonnaa

open Go.RowKit

attribute [local go_sem ↓] Go.wp_at_zero Go.wp_at_succ

set_option maxRecDepth 100000 in
theorem wLeaf_any (a0 a1 a2 a3 a4 a5 : Int) (w : World) :
    Calls Try.prog 99 #[.agg #[.int .i64 a0, .int .i64 a1, .int .i64 a2, .int .i64 a3, .int .i64 a4, .int .i64 a5]] w fun e w' => e = .returned (.bool (rleafB ⟨a0, a1, a2, a3, a4, a5⟩)) ∧ Below w.heap.size w w' := by
  go_enter Try.func99, Try.ntmps99
  go_wp2
  go_ret
  exact ⟨by rw [show rleafB ⟨a0, a1, a2, a3, a4, a5⟩ = (a4 == -1) by by_cases h : a4 = -1 <;> simp [rleafB, h]]; rfl, below_alloc _ _⟩
/-- Rows of numbers. -/
def isC (L : List Int) : List Value := L.map (fun x : Int => Value.int .i64 x)
theorem isC_length (L : List Int) : (isC L).length = L.length := by simp [isC]
theorem isC_append (a b : List Int) : isC (a ++ b) = isC a ++ isC b := by simp [isC]
/-- What is handed down by place, and what has come out. -/
structure SAt (w0 x : World) (n : Nat) (A : Nat → Int) (v : Value) (V : List Int) : Prop where
  own : x.ownsRow (w0.heap.size + 1) 3 1 v V.length (isC V)
  ab : Ints x w0.heap.size n A
  lt : w0.heap.size < x.heap.size
  below : Below w0.heap.size w0 x
theorem SAt.quiet {w0 x y : World} {n : Nat} {A : Nat → Int} {v : Value} {V : List Int} (h : SAt w0 x n A v V) (hb : Below x.heap.size x y) : SAt w0 y n A v V :=
  ⟨owns_below h.own hb, h.ab.below h.lt hb, Nat.lt_of_lt_of_le h.lt hb.size, h.below.trans (hb.mono h.below.size)⟩
theorem SAt.drew {w0 x : World} {n : Nat} {A : Nat → Int} {v : Value} {V : List Int} (h : SAt w0 x n A v V) : SAt w0 x.drew n A v V := ⟨h.own, h.ab, h.lt, h.below.drew⟩
theorem SAt.two {w0 x : World} {n : Nat} {A : Nat → Int} {v : Value} {V : List Int} (h : SAt w0 x n A v V) {l r : Nat} (a : Int) (hl : l < n) (hr : r < n) : SAt w0 ((x.setCell ⟨w0.heap.size, l, none⟩ (.int .i64 a)).setCell ⟨w0.heap.size, r, none⟩ (.int .i64 a)) n (fun y => if y = r then a else if y = l then a else A y) v V :=
  ⟨owns_apart (owns_apart h.own _ _ _ (by omega)) _ _ _ (by omega), (h.ab.set l a hl).set r a hr, by simpa using h.lt, (h.below.setCell (Nat.le_refl _) _).setCell (Nat.le_refl _) _⟩
theorem SAt.push {w0 x y : World} {n : Nat} {A : Nat → Int} {v v' : Value} {V : List Int} {a : Int} {o : Obj} (h : SAt w0 x n A v V) (hg : (x.alloc o).grownBy y v.ownBlock) (ho : y.ownsRow (w0.heap.size + 1) 3 1 v' (V.length + 1) (isC V ++ [.int .i64 a])) : SAt w0 y n A v' (V ++ [a]) :=
  ⟨by rw [List.length_append, isC_append]; exact ho, h.ab.far hg h.lt (fun b q => by have := (owns_lt h.own b q).1; omega), by have := hg.size; rw [World.size_alloc] at this; have := h.lt; omega, Below.grown (h.below.alloc h.below.size o) hg (by rw [World.size_alloc]; have := h.below.size; omega) (fun k q => by have := (owns_lt h.own k q).1; omega)⟩
theorem SAt.len {w0 x : World} {n : Nat} {A : Nat → Int} {v : Value} {V : List Int} (h : SAt w0 x n A v V) : slLen v = V.length := by
  rcases Go.Joins.ownsRow_forms h.own with ⟨rfl, q⟩ | ⟨_, _, rfl⟩
  · rw [q]; rfl
  · rfl
def sumF (d : PD) (a : Int) : Int := a + d.wt
def sumO (lf : Bool) (d : PD) (a : Int) : List Int := if lf then [a + d.wt] else []
/-- The sums of a tree, from the left to the right. -/
def sumsB (b : BT) : List Int := inh sumF sumO b 0
theorem inh_len (f : PD → Int → Int) (out : Bool → PD → Int → List Int) (ho : ∀ lf d a, (out lf d a).length ≤ 1) : ∀ (b : BT) (a : Int), (inh f out b a).length ≤ b.size
  | .leaf d, a => ho true d a
  | .node d l r, a => by
    have h1 := inh_len f out ho l (f d a)
    have h2 := inh_len f out ho r (f d a)
    have h3 := ho false d a
    simp only [inh, BT.size, List.length_append]
    omega
theorem sumO_len (lf : Bool) (d : PD) (a : Int) : (sumO lf d a).length ≤ 1 := by unfold sumO; split <;> simp
theorem wrap_ok (a : Int) (h1 : -9223372036854775808 ≤ a) (h2 : a ≤ 9223372036854775807) : IntKind.i64.wrap a = a := by rw [IntKind.wrap_i64] <;> omega
set_option maxRecDepth 100000 in
set_option maxHeartbeats 2000000 in
theorem wsums_any (base : Option Addr) (b o c : Nat) (B : BT) (K : NL) (w : World) (h : NodesAt w base b o K) (hK : K = B.lay 0) (hok : B.ok) (hs : B.size ≤ 100000) :
    Calls Try.prog 95 #[.slice base K.length c] w fun e w' => ∃ v, e = .returned v ∧ w'.ownsRow w.heap.size 3 1 v (sumsB B).length (isC (sumsB B)) ∧ Below w.heap.size w w' := by
  have hKl : K.length = B.size := by rw [hK, BT.lay_length]
  have hpos : 0 < K.length := by rw [hKl]; exact B.size_pos
  have HG : Hid (∀ i, i < K.length → NodeOk (ndAt K i) K.length) := by rw [hK]; exact (lay_form hok).good.node
  have hX : (sumsB B).length ≤ 100000 := Nat.le_trans (inh_len _ _ sumO_len B 0) hs
  have P0 : Hid (Pend K (fun _ => 0) 0 [(B, 0)]) := by rw [hK]; exact pend_first B (fun _ => 0)
  have X0 : Hid (inhS sumF sumO [(B, 0)] = sumsB B) := by show inhS _ _ _ = _; simp [inhS, sumsB]
  have hKb : K.length ≤ 100000 := by omega
  obtain rfl : base = some ⟨b, o, none⟩ := h.base (by omega)
  have hbl := h.lt (by omega)
  have HA : Hid (NodesAt _ _ _ _ _) := h
  clear h hK hok hs hKl
  generalize sumsB B = X at *
  obtain ⟨i0, hi0, hz0, hz1, hz2⟩ := info_parts in_info
  have hmi := run_make_known (P := Try.prog) 33 3 (.int .i64 0) 1 8 ins_under in_info K.length (by omega) (by omega)
  have Z0 : Hid (SAt w (w.alloc (.cells (madeCells #[.int .i64 0] K.length) 3)) K.length (fun _ => 0) (.slice none 0 0) []) := by
    rw [made_zeros]
    exact ⟨World.ownsRow_nil _ _ _ _, zeros_ints w 3 K.length, by simp, below_alloc _ _⟩
  go_enter Try.func95, Try.ntmps95
  go_wp2_with fail
  go_loopw [3, 13] (fun v i wr => ∃ (m : Nat) (V : List Int) (A : Nat → Int) (Q : List (BT × Int)), m ≤ K.length ∧ i = .int .i64 m ∧ Pend K A m Q ∧ V ++ inhS sumF sumO Q = X ∧ (∀ x, 0 ≤ A x ∧ A x ≤ 1000000 * (m : Int)) ∧ SAt w wr K.length A v V) (fun _ i _ => K.length - (intOf i).toNat)
  case atStart => exact ⟨0, [], fun _ => 0, [(B, 0)], Nat.zero_le _, rfl, P0.out, by rw [X0.out]; rfl, fun x => by simp, Z0.out⟩
  case round =>
    obtain ⟨m, V, A, Q, hm, rfl, hP, hV, hAb, hS⟩ := hrel
    have S0 : Hid (SAt _ _ _ _ _ _) := hS
    have hlt := hS.lt
    have hz := hS.below.size
    by_cases hlm : m < K.length
    · have m0 : (0 : Int) ≤ (m : Int) := Int.natCast_nonneg _
      have m1 : (m : Int) < (K.length : Int) := by omega
      have HC : Hid _ := (HA.out.below hS.below).cells m hlm
      have am := (hS.ab m hlm).1
      have hVl : V.length ≤ 100000 := by have := congrArg List.length hV; simp at this; omega
      have hbr : b < wr.heap.size := by omega
      have hok := HG.out m hlm
      have w1 := hok.2.2.1
      have w2 := hok.2.2.2
      obtain ⟨a1, a2⟩ := hAb m
      have HAB : Hid _ := hAb
      have sw : IntKind.i64.wrap (A m + (ndAt K m).wt) = A m + (ndAt K m).wt := wrap_ok _ (by omega) (by omega)
      have nsz : w.heap.size ≠ wr.heap.size := by omega
      have nsz' : wr.heap.size ≠ w.heap.size := by omega
      rcases pend_step (f := sumF) (out := sumO) hP hlm with ⟨Q', hl, hr, hP', hO⟩ | ⟨l, r, Q', hl, hr, hl1, hr1, hr2, hP', hO⟩
      · have HLF : Hid (rleafB (ndAt K m) = true) := rleafB_yes hl
        have HP : Hid (Pend _ _ _ _) := hP'
        have HV : Hid ((V ++ [A m + (ndAt K m).wt]) ++ inhS sumF sumO Q' = X) := by show _ = _; rw [← hV, hO]; simp [sumO, ndP]
        clear hP hP' hO hV hAb hS hl hr hok
        generalize ndAt K m = nd at *
        obtain ⟨k0, k1, k2, k3, k4, k5⟩ := nd
        simp only at HC HV sw w1 w2
        obtain ⟨c0, c1, c2, c3, c4, c5⟩ := HC.out
        go_wp2_with fail
        generalize hW1 : wr.alloc (.cells #[.int .i64 k0, .int .i64 k1, .int .i64 k2, .int .i64 k3, .int .i64 k4, .int .i64 k5] 55) = W1
        have S1 : Hid (SAt w W1 K.length A u3 V) := by rw [← hW1]; exact S0.out.quiet (below_alloc _ _)
        obtain ⟨bl, q0, q1, q2, q3, q4, q5⟩ := box_cells (hW1 ▸ heap_alloc_at wr _ wr.heap.size rfl)
        have am1 := (S1.out.ab m hlm).1
        have lt1 := S1.out.lt
        clear hW1 c0 c1 c2 c3 c4 c5 am
        go_quiet (fail)
        have S2 : Hid (SAt w (W1.drewN nq) K.length A u3 V) := S1.out.quiet (below_drewN (Below.refl _ _) nq)
        generalize hW2 : W1.drewN nq = W2 at *
        have hB2 : Below W1.heap.size W1 W2 := by rw [← hW2]; exact below_drewN (Below.refl _ _) nq
        have r0 := (hB2.cell (p := ⟨wr.heap.size, 0, none⟩) bl).trans q0
        have r1 := (hB2.cell (p := ⟨wr.heap.size, 1, none⟩) bl).trans q1
        have r2 := (hB2.cell (p := ⟨wr.heap.size, 2, none⟩) bl).trans q2
        have r3 := (hB2.cell (p := ⟨wr.heap.size, 3, none⟩) bl).trans q3
        have r4 := (hB2.cell (p := ⟨wr.heap.size, 4, none⟩) bl).trans q4
        have r5 := (hB2.cell (p := ⟨wr.heap.size, 5, none⟩) bl).trans q5
        have lt2 := S2.out.lt
        clear hW2 hB2 q0 q1 q2 q3 q4 q5 am1
        go_wp2_with (first | (go_at_call 99; refine (wLeaf_any _ _ _ _ _ _ _).mono ?_; rintro e w3 ⟨rfl, hb3⟩; rw [HLF.out]; have S3 : Hid (SAt w w3 K.length A u3 V) := S2.out.quiet hb3; have lt3 := S3.out.lt; clear hb3) | (at_builtin; (refine wpList_append_lies _ (by rfl) _ _ _ (by rfl) (w.heap.size + 1) 3 i0 _ 1 8 ins_under hi0 hz0 hz1 hz2 rfl (by omega) _ V.length _ (by rfl) (S3.out.own.alloc _) ⟨w3.heap.size, 0, none⟩ 1 1 [.int .i64 (A m + k2)] (by rfl) (by rfl) (World.news_of_block (cs := #[.int .i64 (A m + k2)]) (t := 3) (fr := (0, 0)) (heap_alloc_at _ _ _ (by simp))) (by simp [Value.oneCell']) (by omega) (by unfold maxLen; omega) (by omega) (by simp; omega) (w3.heap.size + 1) (by simp) ?_); intro g4 c4 w4 ho4 hg4 hat4 hl4; have S4 : Hid (SAt w w4 K.length A (.slice (some ⟨g4, 0, none⟩) (V.length + 1) c4) (V ++ [A m + k2])) := S3.out.push hg4 ho4; clear ho4 hg4 hat4 hl4))
        exact ⟨⟨m + 1, V ++ [A m + k2], A, Q', by omega, by go_num, HP.out, HV.out, fun x => ⟨(HAB.out x).1, by have := (HAB.out x).2; omega⟩, S4.out⟩, by simp [intOf]; omega⟩
      · have HLF : Hid (rleafB (ndAt K m) = false) := rleafB_no (by omega)
        have HP : Hid (Pend _ _ _ _) := hP'
        have HV : Hid (V ++ inhS sumF sumO Q' = X) := by show _ = _; rw [← hV, hO]; simp [sumO]
        have HNB : Hid (∀ x, 0 ≤ (if x = r then sumF (ndP (ndAt K m)) (A m) else if x = l then sumF (ndP (ndAt K m)) (A m) else A x) ∧ (if x = r then sumF (ndP (ndAt K m)) (A m) else if x = l then sumF (ndP (ndAt K m)) (A m) else A x) ≤ 1000000 * ((m + 1 : Nat) : Int)) := fun x => by
          have hx := hAb x
          have e : sumF (ndP (ndAt K m)) (A m) = A m + (ndAt K m).wt := rfl
          rw [e]
          split
          · omega
          · split <;> omega
        have l0 : (0 : Int) ≤ (l : Int) := Int.natCast_nonneg _
        have r0' : (0 : Int) ≤ (r : Int) := Int.natCast_nonneg _
        have hll : l < K.length := by omega
        have l3 : (l : Int) < (K.length : Int) := by omega
        have r3' : (r : Int) < (K.length : Int) := by omega
        have hne : l ≠ r := by omega
        have hne' : r ≠ l := by omega
        clear hP hP' hO hV hAb hS hok hl1 hr1
        have eF : sumF (ndP (ndAt K m)) (A m) = A m + (ndAt K m).wt := rfl
        rw [eF] at HP HNB
        clear eF
        generalize ndAt K m = nd at *
        obtain ⟨k0, k1, k2, k3, k4, k5⟩ := nd
        simp only at HC HP HNB sw w1 w2 hl hr
        subst hl hr
        obtain ⟨c0, c1, c2, c3, c4, c5⟩ := HC.out
        go_wp2_with fail
        generalize hW1 : wr.alloc (.cells #[.int .i64 k0, .int .i64 k1, .int .i64 k2, .int .i64 k3, .int .i64 (l : Int), .int .i64 (r : Int)] 55) = W1
        have S1 : Hid (SAt w W1 K.length A u3 V) := by rw [← hW1]; exact S0.out.quiet (below_alloc _ _)
        have HBX : Hid _ := (hW1 ▸ heap_alloc_at wr _ wr.heap.size rfl : W1.heap[wr.heap.size]? = some (.cells #[.int .i64 k0, .int .i64 k1, .int .i64 k2, .int .i64 k3, .int .i64 (l : Int), .int .i64 (r : Int)] 55))
        obtain ⟨bl, q0, q1, q2, q3, q4, q5⟩ := box_cells HBX.out
        have am1 := (S1.out.ab m hlm).1
        have lt1 := S1.out.lt
        clear hW1 c0 c1 c2 c3 c4 c5 am
        go_quiet (fail)
        have S2 : Hid (SAt w (W1.drewN nq) K.length A u3 V) := S1.out.quiet (below_drewN (Below.refl _ _) nq)
        generalize hW2 : W1.drewN nq = W2 at *
        have hB2 : Below W1.heap.size W1 W2 := by rw [← hW2]; exact below_drewN (Below.refl _ _) nq
        have HB2 : Hid (W2.heap[wr.heap.size]? = _) := (hB2.block _ bl).trans HBX.out
        have lt2 := S2.out.lt
        clear hW2 hB2 q0 q1 q2 q3 q4 q5 am1 bl
        obtain ⟨bl, q0, q1, q2, q3, q4, q5⟩ := box_cells HB2.out
        go_wp2_with (first | (go_at_call 99; refine (wLeaf_any _ _ _ _ _ _ _).mono ?_; rintro e w3 ⟨rfl, hb3⟩; rw [HLF.out]; have S3 : Hid (SAt w w3 K.length A u3 V) := S2.out.quiet hb3; have lt3 := S3.out.lt; obtain ⟨bl3, s0, s1, s2, s3, s4, s5⟩ := box_cells ((hb3.block _ bl).trans HB2.out); have v1 := (S3.out.ab l hll).1; have v2 := (S3.out.ab r hr2).1; have f1 := (S3.out.ab l hll).2; have f2 := (S3.out.ab r hr2).2; clear hb3))
        go_region
        go_wp2_with fail
        exact ⟨⟨m + 1, V, _, Q', by omega, by go_num, HP.out, HV.out, HNB.out, by first | exact (S3.out.two _ hll hr2).drew | exact S3.out.two _ hll hr2⟩, by simp [intOf]; omega⟩
    · obtain rfl : m = K.length := by omega
      have hQ : Q = [] := by
        cases Q with
        | nil => rfl
        | cons e Q => obtain ⟨b1, a1⟩ := e; have := hP.1.1; have := b1.size_pos; omega
      have HX : Hid (V = X) := by show V = X; rw [← hV, hQ]; simp [inhS]
      clear hP hV hAb hS
      go_wp2_with fail
      go_ret
      refine ⟨_, rfl, ?_, S0.out.below⟩
      rw [← HX.out]
      exact owns_down S0.out.own (by omega)
end Go.Proofs.Ythlhbajaogonnaa



namespace Go.Proofs.Ythlhbajaogonnaa

open Go.RowKit

attribute [local go_sem ↓] Go.wp_at_zero Go.wp_at_succ

structure BelowBy (w : World) where
  W : World
  h : Below w.heap.size w W
instance (w : World) : Inhabited (BelowBy w) := ⟨⟨w, Below.refl _ _⟩⟩
theorem wp_region_below {P : Program} {id : Nat} {Q : Exit → Act → World → Prop} {a : Act} {w : World} {l : List Oper} (hm : P.follows .mixedOrders = true) (hB : Region.lexB .any l.toArray = true)
    (h : wpQuiet P l.toArray (fun w' => ∃ p : BelowBy w, w' = p.W) (fun a' => ∀ w', (∃ p : BelowBy w, w' = p.W) → Q .normal a' w') l a) : (Code.region id l.toArray true).wp P Q a w :=
  wp_region_quiet (C := fun w' => ∃ p : BelowBy w, w' = p.W) hm hB ⟨⟨{ w with drawn := w.drawn + 1 }, ⟨rfl, rfl, rfl, Nat.le_refl _, fun _ _ => rfl⟩⟩, rfl⟩ (by simpa using h)
theorem below_call {P : Program} {f : FuncId} {args : Array Value} {w : World} {p : BelowBy w} {v : Value}
    (h : Calls P f args p.W fun e w' => e = .returned v ∧ Below p.W.heap.size p.W w') : Calls P f args p.W fun e w' => e = .returned v ∧ ∃ p' : BelowBy w, w' = p'.W :=
  h.mono fun _ w' ⟨he, hb⟩ => ⟨he, ⟨w', p.h.trans (hb.mono p.h.size)⟩, rfl⟩
theorem BelowBy.cell {w : World} {b o : Nat} {v : Value} (hb : b < w.heap.size) (h : w.cell? ⟨b, o, none⟩ = some v) (p : BelowBy w) : p.W.cell? ⟨b, o, none⟩ = some v := (p.h.cell (p := ⟨b, o, none⟩) hb).trans h

/-- A node in a box. -/
structure Bx (w : World) (bx : Nat) (k0 k1 k2 k3 k4 k5 : Int) : Prop where
  lt : bx < w.heap.size
  c : w.cell? ⟨bx, 0, none⟩ = some (.int .i64 k0) ∧ w.cell? ⟨bx, 1, none⟩ = some (.int .i64 k1) ∧ w.cell? ⟨bx, 2, none⟩ = some (.int .i64 k2) ∧ w.cell? ⟨bx, 3, none⟩ = some (.int .i64 k3) ∧ w.cell? ⟨bx, 4, none⟩ = some (.int .i64 k4) ∧ w.cell? ⟨bx, 5, none⟩ = some (.int .i64 k5)
theorem Bx.below {w x : World} {bx : Nat} {k0 k1 k2 k3 k4 k5 : Int} (h : Bx w bx k0 k1 k2 k3 k4 k5) (hb : Below w.heap.size w x) : Bx x bx k0 k1 k2 k3 k4 k5 := by
  have e : ∀ j, x.cell? ⟨bx, j, none⟩ = w.cell? ⟨bx, j, none⟩ := fun j => hb.cell (p := ⟨bx, j, none⟩) h.lt
  exact ⟨Nat.lt_of_lt_of_le h.lt hb.size, by simp only [e]; exact h.c⟩
theorem Bx.far {w x : World} {o : Obj} {row : Option Nat} {bx : Nat} {k0 k1 k2 k3 k4 k5 : Int} (h : Bx w bx k0 k1 k2 k3 k4 k5) (hg : (w.alloc o).grownBy x row) (hr : ∀ b, row = some b → b ≠ bx) : Bx x bx k0 k1 k2 k3 k4 k5 := by
  obtain ⟨c0, c1, c2, c3, c4, c5⟩ := h.c
  have hz := hg.size
  rw [World.size_alloc] at hz
  have f : ∀ j v, w.cell? ⟨bx, j, none⟩ = some v → x.cell? ⟨bx, j, none⟩ = some v := fun j v hc => far_cell (p := ⟨bx, j, none⟩) hg h.lt hr hc
  exact ⟨by have := h.lt; omega, f _ _ c0, f _ _ c1, f _ _ c2, f _ _ c3, f _ _ c4, f _ _ c5⟩
theorem bx_new {x : World} {bx : Nat} {k0 k1 k2 k3 k4 k5 : Int} {T : TypeId} (h : x.heap[bx]? = some (.cells #[.int .i64 k0, .int .i64 k1, .int .i64 k2, .int .i64 k3, .int .i64 k4, .int .i64 k5] T)) : Bx x bx k0 k1 k2 k3 k4 k5 := by
  obtain ⟨bl, q⟩ := box_cells h
  exact ⟨bl, q⟩

def redQ (a k : Int) : Bool := a == 0 && k == 0
def overQ (k : Int) : Bool := decide (1 < k)
def faultQ (a k : Int) : Bool := redQ a k || overQ k
set_option maxRecDepth 100000 in
theorem isRed_any (a k : Int) (w : World) :
    Calls Try.prog 100 #[.int .i64 a, .int .i64 k] w fun e w' => e = .returned (.bool (redQ a k)) ∧ Below w.heap.size w w' := by
  by_cases h : a = 0
  · have d : (a == 0) = true := by simp [h]
    have F : Hid (redQ a k = (k == 0)) := by show redQ a k = _; unfold redQ; rw [d]; rfl
    clear h
    go_enter Try.func100, Try.ntmps100
    go_wp2
    go_ret
    exact ⟨by rw [F.out]; rfl, Below.refl _ _⟩
  · have d : (a == 0) = false := by simp [h]
    have F : Hid (redQ a k = false) := by show redQ a k = _; unfold redQ; rw [d]; rfl
    clear h
    go_enter Try.func100, Try.ntmps100
    go_wp2
    go_ret
    exact ⟨by rw [F.out]; rfl, Below.refl _ _⟩
def redF (d : PD) (_ : Int) : Int := d.wt
def redO (_ : Bool) (d : PD) (a : Int) : List Int := if redQ a d.wt then [d.key] else []
/-- The reds of a tree, from the root on. -/
def redsB (b : BT) : List Int := inh redF redO b 1
theorem redO_len (lf : Bool) (d : PD) (a : Int) : (redO lf d a).length ≤ 1 := by unfold redO; split <;> simp
theorem SAt.one {w0 x : World} {n : Nat} {A : Nat → Int} {v : Value} {V : List Int} (h : SAt w0 x n A v V) {l : Nat} (a : Int) (hl : l < n) : SAt w0 (x.setCell ⟨w0.heap.size, l, none⟩ (.int .i64 a)) n (fun y => if y = l then a else A y) v V :=
  ⟨owns_apart h.own _ _ _ (by omega), h.ab.set l a hl, by simpa using h.lt, h.below.setCell (Nat.le_refl _) _⟩
set_option maxRecDepth 100000 in
set_option maxHeartbeats 2000000 in
theorem wreds_any (base : Option Addr) (b o c : Nat) (B : BT) (K : NL) (w : World) (h : NodesAt w base b o K) (hK : K = B.lay 0) (hs : B.size ≤ 100000) :
    Calls Try.prog 87 #[.slice base K.length c] w fun e w' => ∃ v, e = .returned v ∧ w'.ownsRow w.heap.size 3 1 v (redsB B).length (isC (redsB B)) ∧ Below w.heap.size w w' := by
  have hKl : K.length = B.size := by rw [hK, BT.lay_length]
  have hpos : 0 < K.length := by rw [hKl]; exact B.size_pos
  have hX : (redsB B).length ≤ 100000 := Nat.le_trans (inh_len _ _ redO_len B 1) hs
  have P0 : Hid (Pend K (fun y => if y = 0 then 1 else 0) 0 [(B, 1)]) := by rw [hK]; exact pend_first B (fun y => if y = 0 then 1 else 0)
  have X0 : Hid (inhS redF redO [(B, 1)] = redsB B) := by show inhS _ _ _ = _; simp [inhS, redsB]
  have hKb : K.length ≤ 100000 := by omega
  have dK : ((K.length : Int) == 0) = false := beq_eq_false_iff_ne.2 (by omega)
  obtain rfl : base = some ⟨b, o, none⟩ := h.base (by omega)
  have hbl := h.lt (by omega)
  have HA : Hid (NodesAt _ _ _ _ _) := h
  clear h hK hs hKl
  generalize redsB B = X at *
  obtain ⟨i0, hi0, hz0, hz1, hz2⟩ := info_parts in_info
  have hmi := run_make_known (P := Try.prog) 33 3 (.int .i64 0) 1 8 ins_under in_info K.length (by omega) (by omega)
  have Z0 : Hid (SAt w (w.alloc (.cells (madeCells #[.int .i64 0] K.length) 3)) K.length (fun _ => 0) (.slice none 0 0) []) := by
    rw [made_zeros]
    exact ⟨World.ownsRow_nil _ _ _ _, zeros_ints w 3 K.length, by simp, below_alloc _ _⟩
  have Z1 : Hid (SAt w (w.alloc (.cells ((madeCells #[.int .i64 0] K.length).setIfInBounds 0 (.int .i64 1)) 3)) K.length (fun y => if y = 0 then 1 else 0) (.slice none 0 0) []) := by
    have := Z0.out.one (l := 0) 1 hpos
    rw [World.setCell_alloc_at _ _ _ _ _ rfl] at this
    exact this
  have hc0 : (madeCells #[.int .i64 0] K.length)[0]? = some (.int .i64 0) := by rw [made_zeros]; simp [hpos]
  go_enter Try.func87, Try.ntmps87
  go_wp2_with fail
  go_loopw [3, 17] (fun v i wr => ∃ (m : Nat) (V : List Int) (A : Nat → Int) (Q : List (BT × Int)), m ≤ K.length ∧ i = .int .i64 m ∧ Pend K A m Q ∧ V ++ inhS redF redO Q = X ∧ SAt w wr K.length A v V) (fun _ i _ => K.length - (intOf i).toNat)
  case atStart => exact ⟨0, [], _, [(B, 1)], Nat.zero_le _, rfl, P0.out, by rw [X0.out]; rfl, Z1.out⟩
  case round =>
    obtain ⟨m, V, A, Q, hm, rfl, hP, hV, hS⟩ := hrel
    have S0 : Hid (SAt _ _ _ _ _ _) := hS
    have hlt := hS.lt
    have hz := hS.below.size
    by_cases hlm : m < K.length
    · have m0 : (0 : Int) ≤ (m : Int) := Int.natCast_nonneg _
      have m1 : (m : Int) < (K.length : Int) := by omega
      have HC : Hid _ := (HA.out.below hS.below).cells m hlm
      have hVl : V.length ≤ 100000 := by have := congrArg List.length hV; simp at this; omega
      have hbr : b < wr.heap.size := by omega
      have HOB : Hid (∀ g, u3.ownBlock = some g → g ≠ wr.heap.size) := fun g q => by have := (owns_lt hS.own g q).2; omega
      have nsz : w.heap.size ≠ wr.heap.size := by omega
      have nsz' : wr.heap.size ≠ w.heap.size := by omega
      rcases pend_step (f := redF) (out := redO) hP hlm with ⟨Q', hl, hr, hP', hO⟩ | ⟨l, r, Q', hl, hr, hl1, hr1, hr2, hP', hO⟩
      · cases hq : redQ (A m) (ndAt K m).wt
        · have HQ : Hid (redQ (A m) (ndAt K m).wt = false) := hq
          have HP : Hid (Pend _ _ _ _) := hP'
          have HLF : Hid (rleafB (ndAt K m) = true) := rleafB_yes hl
          have HV : Hid (V ++ inhS redF redO Q' = X) := by show _ = _; rw [← hV, hO]; unfold redO; rw [show (ndP (ndAt K m)).wt = (ndAt K m).wt from rfl, hq]; simp
          clear hP hP' hO hV hS hr hl hq
          generalize ndAt K m = nd at *
          obtain ⟨k0, k1, k2, k3, k4, k5⟩ := nd
          simp only at HC HV HQ
          obtain ⟨c0, c1, c2, c3, c4, c5⟩ := HC.out
          go_wp2_with fail
          generalize hW1 : wr.alloc (.cells #[.int .i64 k0, .int .i64 k1, .int .i64 k2, .int .i64 k3, .int .i64 k4, .int .i64 k5] 55) = W1
          have S1 : Hid (SAt w W1 K.length A u3 V) := by rw [← hW1]; exact S0.out.quiet (below_alloc _ _)
          have X1 : Hid (Bx W1 wr.heap.size k0 k1 k2 k3 k4 k5) := bx_new (hW1 ▸ heap_alloc_at wr _ wr.heap.size rfl)
          have z1 := BelowBy.cell S1.out.lt (S1.out.ab m hlm).1
          have z2 := BelowBy.cell X1.out.lt X1.out.c.2.2.1
          have SR : Hid (∀ p : BelowBy W1, Calls Try.prog 100 #[.int .i64 (A m), .int .i64 k2] p.W fun e w' => e = .returned (.bool false) ∧ Below p.W.heap.size p.W w') := fun p => by
            have := isRed_any (A m) k2 p.W
            rw [HQ.out] at this
            exact this
          clear hW1 c0 c1 c2 c3 c4 c5
          refine wp_region_below (by kernel_rfl) (by kernel_rfl) ?_
          repeat (go_big_quiet_step ((go_at_call 100; exact below_call (SR.out _))))
          refine wpQuiet_nil ?_
          rintro _ ⟨p, rfl⟩
          have S2 : Hid (SAt w p.W K.length A u3 V) := S1.out.quiet p.h
          have X2 : Hid (Bx p.W wr.heap.size k0 k1 k2 k3 k4 k5) := X1.out.below p.h
          clear z1 z2 SR
          generalize p.W = W2 at *
          obtain ⟨y0, y1, y2, y3, y4, y5⟩ := X2.out.c
          have yl := X2.out.lt
          have lt2 := S2.out.lt
          go_wp2_with (first | (go_at_call 99; have hqq := S2; refine (wLeaf_any _ _ _ _ _ _ _).mono ?_; rintro e w3 ⟨rfl, hb3⟩; rw [HLF.out]; have S3 : Hid (SAt w w3 K.length A u3 V) := S2.out.quiet hb3; have X3 : Hid (Bx w3 wr.heap.size k0 k1 k2 k3 k4 k5) := X2.out.below hb3; have lt3 := S3.out.lt; have yl3 := X3.out.lt; clear hb3 hqq y0 y1 y2 y3 y4 y5))
          exact ⟨⟨m + 1, V, A, Q', by omega, by go_num, HP.out, HV.out, S3.out⟩, by simp [intOf]; omega⟩
        · have HQ : Hid (redQ (A m) (ndAt K m).wt = true) := hq
          have HP : Hid (Pend _ _ _ _) := hP'
          have HLF : Hid (rleafB (ndAt K m) = true) := rleafB_yes hl
          have HV : Hid ((V ++ [(ndAt K m).key]) ++ inhS redF redO Q' = X) := by show _ = _; rw [← hV, hO]; unfold redO; rw [show (ndP (ndAt K m)).wt = (ndAt K m).wt from rfl, hq]; simp [ndP]
          clear hP hP' hO hV hS hr hl hq
          generalize ndAt K m = nd at *
          obtain ⟨k0, k1, k2, k3, k4, k5⟩ := nd
          simp only at HC HV HQ
          obtain ⟨c0, c1, c2, c3, c4, c5⟩ := HC.out
          go_wp2_with fail
          generalize hW1 : wr.alloc (.cells #[.int .i64 k0, .int .i64 k1, .int .i64 k2, .int .i64 k3, .int .i64 k4, .int .i64 k5] 55) = W1
          have S1 : Hid (SAt w W1 K.length A u3 V) := by rw [← hW1]; exact S0.out.quiet (below_alloc _ _)
          have X1 : Hid (Bx W1 wr.heap.size k0 k1 k2 k3 k4 k5) := bx_new (hW1 ▸ heap_alloc_at wr _ wr.heap.size rfl)
          have z1 := BelowBy.cell S1.out.lt (S1.out.ab m hlm).1
          have z2 := BelowBy.cell X1.out.lt X1.out.c.2.2.1
          have SR : Hid (∀ p : BelowBy W1, Calls Try.prog 100 #[.int .i64 (A m), .int .i64 k2] p.W fun e w' => e = .returned (.bool true) ∧ Below p.W.heap.size p.W w') := fun p => by
            have := isRed_any (A m) k2 p.W
            rw [HQ.out] at this
            exact this
          clear hW1 c0 c1 c2 c3 c4 c5
          refine wp_region_below (by kernel_rfl) (by kernel_rfl) ?_
          repeat (go_big_quiet_step ((go_at_call 100; exact below_call (SR.out _))))
          refine wpQuiet_nil ?_
          rintro _ ⟨p, rfl⟩
          have S2 : Hid (SAt w p.W K.length A u3 V) := S1.out.quiet p.h
          have X2 : Hid (Bx p.W wr.heap.size k0 k1 k2 k3 k4 k5) := X1.out.below p.h
          clear z1 z2 SR
          generalize p.W = W2 at *
          obtain ⟨y0, y1, y2, y3, y4, y5⟩ := X2.out.c
          have yl := X2.out.lt
          have lt2 := S2.out.lt
          go_wp2_with (first | (at_builtin; have hqq := S2; (refine wpList_append_lies _ (by rfl) _ _ _ (by rfl) (w.heap.size + 1) 3 i0 _ 1 8 ins_under hi0 hz0 hz1 hz2 rfl (by omega) _ V.length _ (by rfl) (S2.out.own.alloc _) ⟨W2.heap.size, 0, none⟩ 1 1 [.int .i64 k0] (by rfl) (by rfl) (World.news_of_block (cs := #[.int .i64 k0]) (t := 3) (fr := (0, 0)) (heap_alloc_at _ _ _ (by simp))) (by simp [Value.oneCell']) (by omega) (by unfold maxLen; omega) (by omega) (by simp; omega) (W2.heap.size + 1) (by simp) ?_); intro g4 c4 w4 ho4 hg4 hat4 hl4; have S4 : Hid (SAt w w4 K.length A (.slice (some ⟨g4, 0, none⟩) (V.length + 1) c4) (V ++ [k0])) := S2.out.push hg4 ho4; have X4 : Hid (Bx w4 wr.heap.size k0 k1 k2 k3 k4 k5) := X2.out.far hg4 HOB.out; clear y0 y1 y2 y3 y4 y5 yl S2 X2 hqq; obtain ⟨y0, y1, y2, y3, y4, y5⟩ := X4.out.c; have yl := X4.out.lt; have lt4 := S4.out.lt; clear ho4 hg4 hat4 hl4) | (go_at_call 99; have hqq := S4; refine (wLeaf_any _ _ _ _ _ _ _).mono ?_; rintro e w3 ⟨rfl, hb3⟩; rw [HLF.out]; have S3 : Hid (SAt w w3 K.length A (.slice (some ⟨g4, 0, none⟩) (V.length + 1) c4) (V ++ [k0])) := S4.out.quiet hb3; have X3 : Hid (Bx w3 wr.heap.size k0 k1 k2 k3 k4 k5) := X4.out.below hb3; have lt3 := S3.out.lt; have yl3 := X3.out.lt; clear hb3 hqq y0 y1 y2 y3 y4 y5))
          exact ⟨⟨m + 1, (V ++ [k0]), A, Q', by omega, by go_num, HP.out, HV.out, S3.out⟩, by simp [intOf]; omega⟩
      · cases hq : redQ (A m) (ndAt K m).wt
        · have HQ : Hid (redQ (A m) (ndAt K m).wt = false) := hq
          have HP : Hid (Pend _ _ _ _) := hP'
          have HLF : Hid (rleafB (ndAt K m) = false) := rleafB_no (by omega)
          have HV : Hid (V ++ inhS redF redO Q' = X) := by show _ = _; rw [← hV, hO]; unfold redO; rw [show (ndP (ndAt K m)).wt = (ndAt K m).wt from rfl, hq]; simp
          have l0 : (0 : Int) ≤ (l : Int) := Int.natCast_nonneg _
          have r0' : (0 : Int) ≤ (r : Int) := Int.natCast_nonneg _
          have hll : l < K.length := by omega
          have l3 : (l : Int) < (K.length : Int) := by omega
          have r3' : (r : Int) < (K.length : Int) := by omega
          have hne : l ≠ r := by omega
          have hne' : r ≠ l := by omega
          have eF : redF (ndP (ndAt K m)) (A m) = (ndAt K m).wt := rfl
          rw [eF] at HP
          clear hP hP' hO hV hS hl1 hr1 hq eF
          generalize ndAt K m = nd at *
          obtain ⟨k0, k1, k2, k3, k4, k5⟩ := nd
          simp only at HC HV HQ HP hl hr
          subst hl hr
          obtain ⟨c0, c1, c2, c3, c4, c5⟩ := HC.out
          go_wp2_with fail
          generalize hW1 : wr.alloc (.cells #[.int .i64 k0, .int .i64 k1, .int .i64 k2, .int .i64 k3, .int .i64 (l : Int), .int .i64 (r : Int)] 55) = W1
          have S1 : Hid (SAt w W1 K.length A u3 V) := by rw [← hW1]; exact S0.out.quiet (below_alloc _ _)
          have X1 : Hid (Bx W1 wr.heap.size k0 k1 k2 k3 (l : Int) (r : Int)) := bx_new (hW1 ▸ heap_alloc_at wr _ wr.heap.size rfl)
          have z1 := BelowBy.cell S1.out.lt (S1.out.ab m hlm).1
          have z2 := BelowBy.cell X1.out.lt X1.out.c.2.2.1
          have SR : Hid (∀ p : BelowBy W1, Calls Try.prog 100 #[.int .i64 (A m), .int .i64 k2] p.W fun e w' => e = .returned (.bool false) ∧ Below p.W.heap.size p.W w') := fun p => by
            have := isRed_any (A m) k2 p.W
            rw [HQ.out] at this
            exact this
          clear hW1 c0 c1 c2 c3 c4 c5
          refine wp_region_below (by kernel_rfl) (by kernel_rfl) ?_
          repeat (go_big_quiet_step ((go_at_call 100; exact below_call (SR.out _))))
          refine wpQuiet_nil ?_
          rintro _ ⟨p, rfl⟩
          have S2 : Hid (SAt w p.W K.length A u3 V) := S1.out.quiet p.h
          have X2 : Hid (Bx p.W wr.heap.size k0 k1 k2 k3 (l : Int) (r : Int)) := X1.out.below p.h
          clear z1 z2 SR
          generalize p.W = W2 at *
          obtain ⟨y0, y1, y2, y3, y4, y5⟩ := X2.out.c
          have yl := X2.out.lt
          have lt2 := S2.out.lt
          go_wp2_with (first | (go_at_call 99; have hqq := S2; refine (wLeaf_any _ _ _ _ _ _ _).mono ?_; rintro e w3 ⟨rfl, hb3⟩; rw [HLF.out]; have S3 : Hid (SAt w w3 K.length A u3 V) := S2.out.quiet hb3; have X3 : Hid (Bx w3 wr.heap.size k0 k1 k2 k3 (l : Int) (r : Int)) := X2.out.below hb3; have lt3 := S3.out.lt; have yl3 := X3.out.lt; clear hb3 hqq y0 y1 y2 y3 y4 y5; have v1 := (S3.out.ab l hll).1; have v2 := (S3.out.ab r hr2).1; have f1 := (S3.out.ab l hll).2; have f2 := (S3.out.ab r hr2).2; obtain ⟨s0, s1, s2, s3, s4, s5⟩ := X3.out.c))
          go_region
          go_wp2_with fail
          exact ⟨⟨m + 1, V, _, Q', by omega, by go_num, HP.out, HV.out, by first | exact (S3.out.two _ hll hr2).drew | exact S3.out.two _ hll hr2⟩, by simp [intOf]; omega⟩
        · have HQ : Hid (redQ (A m) (ndAt K m).wt = true) := hq
          have HP : Hid (Pend _ _ _ _) := hP'
          have HLF : Hid (rleafB (ndAt K m) = false) := rleafB_no (by omega)
          have HV : Hid ((V ++ [(ndAt K m).key]) ++ inhS redF redO Q' = X) := by show _ = _; rw [← hV, hO]; unfold redO; rw [show (ndP (ndAt K m)).wt = (ndAt K m).wt from rfl, hq]; simp [ndP]
          have l0 : (0 : Int) ≤ (l : Int) := Int.natCast_nonneg _
          have r0' : (0 : Int) ≤ (r : Int) := Int.natCast_nonneg _
          have hll : l < K.length := by omega
          have l3 : (l : Int) < (K.length : Int) := by omega
          have r3' : (r : Int) < (K.length : Int) := by omega
          have hne : l ≠ r := by omega
          have hne' : r ≠ l := by omega
          have eF : redF (ndP (ndAt K m)) (A m) = (ndAt K m).wt := rfl
          rw [eF] at HP
          clear hP hP' hO hV hS hl1 hr1 hq eF
          generalize ndAt K m = nd at *
          obtain ⟨k0, k1, k2, k3, k4, k5⟩ := nd
          simp only at HC HV HQ HP hl hr
          subst hl hr
          obtain ⟨c0, c1, c2, c3, c4, c5⟩ := HC.out
          go_wp2_with fail
          generalize hW1 : wr.alloc (.cells #[.int .i64 k0, .int .i64 k1, .int .i64 k2, .int .i64 k3, .int .i64 (l : Int), .int .i64 (r : Int)] 55) = W1
          have S1 : Hid (SAt w W1 K.length A u3 V) := by rw [← hW1]; exact S0.out.quiet (below_alloc _ _)
          have X1 : Hid (Bx W1 wr.heap.size k0 k1 k2 k3 (l : Int) (r : Int)) := bx_new (hW1 ▸ heap_alloc_at wr _ wr.heap.size rfl)
          have z1 := BelowBy.cell S1.out.lt (S1.out.ab m hlm).1
          have z2 := BelowBy.cell X1.out.lt X1.out.c.2.2.1
          have SR : Hid (∀ p : BelowBy W1, Calls Try.prog 100 #[.int .i64 (A m), .int .i64 k2] p.W fun e w' => e = .returned (.bool true) ∧ Below p.W.heap.size p.W w') := fun p => by
            have := isRed_any (A m) k2 p.W
            rw [HQ.out] at this
            exact this
          clear hW1 c0 c1 c2 c3 c4 c5
          refine wp_region_below (by kernel_rfl) (by kernel_rfl) ?_
          repeat (go_big_quiet_step ((go_at_call 100; exact below_call (SR.out _))))
          refine wpQuiet_nil ?_
          rintro _ ⟨p, rfl⟩
          have S2 : Hid (SAt w p.W K.length A u3 V) := S1.out.quiet p.h
          have X2 : Hid (Bx p.W wr.heap.size k0 k1 k2 k3 (l : Int) (r : Int)) := X1.out.below p.h
          clear z1 z2 SR
          generalize p.W = W2 at *
          obtain ⟨y0, y1, y2, y3, y4, y5⟩ := X2.out.c
          have yl := X2.out.lt
          have lt2 := S2.out.lt
          go_wp2_with (first | (at_builtin; have hqq := S2; (refine wpList_append_lies _ (by rfl) _ _ _ (by rfl) (w.heap.size + 1) 3 i0 _ 1 8 ins_under hi0 hz0 hz1 hz2 rfl (by omega) _ V.length _ (by rfl) (S2.out.own.alloc _) ⟨W2.heap.size, 0, none⟩ 1 1 [.int .i64 k0] (by rfl) (by rfl) (World.news_of_block (cs := #[.int .i64 k0]) (t := 3) (fr := (0, 0)) (heap_alloc_at _ _ _ (by simp))) (by simp [Value.oneCell']) (by omega) (by unfold maxLen; omega) (by omega) (by simp; omega) (W2.heap.size + 1) (by simp) ?_); intro g4 c4 w4 ho4 hg4 hat4 hl4; have S4 : Hid (SAt w w4 K.length A (.slice (some ⟨g4, 0, none⟩) (V.length + 1) c4) (V ++ [k0])) := S2.out.push hg4 ho4; have X4 : Hid (Bx w4 wr.heap.size k0 k1 k2 k3 (l : Int) (r : Int)) := X2.out.far hg4 HOB.out; clear y0 y1 y2 y3 y4 y5 yl S2 X2 hqq; obtain ⟨y0, y1, y2, y3, y4, y5⟩ := X4.out.c; have yl := X4.out.lt; have lt4 := S4.out.lt; clear ho4 hg4 hat4 hl4) | (go_at_call 99; have hqq := S4; refine (wLeaf_any _ _ _ _ _ _ _).mono ?_; rintro e w3 ⟨rfl, hb3⟩; rw [HLF.out]; have S3 : Hid (SAt w w3 K.length A (.slice (some ⟨g4, 0, none⟩) (V.length + 1) c4) (V ++ [k0])) := S4.out.quiet hb3; have X3 : Hid (Bx w3 wr.heap.size k0 k1 k2 k3 (l : Int) (r : Int)) := X4.out.below hb3; have lt3 := S3.out.lt; have yl3 := X3.out.lt; clear hb3 hqq y0 y1 y2 y3 y4 y5; have v1 := (S3.out.ab l hll).1; have v2 := (S3.out.ab r hr2).1; have f1 := (S3.out.ab l hll).2; have f2 := (S3.out.ab r hr2).2; obtain ⟨s0, s1, s2, s3, s4, s5⟩ := X3.out.c))
          go_region
          go_wp2_with fail
          exact ⟨⟨m + 1, (V ++ [k0]), _, Q', by omega, by go_num, HP.out, HV.out, by first | exact (S3.out.two _ hll hr2).drew | exact S3.out.two _ hll hr2⟩, by simp [intOf]; omega⟩
    · obtain rfl : m = K.length := by omega
      have hQ : Q = [] := by
        cases Q with
        | nil => rfl
        | cons e Q => obtain ⟨b1, a1⟩ := e; have := hP.1.1; have := b1.size_pos; omega
      have HX : Hid (V = X) := by show V = X; rw [← hV, hQ]; simp [inhS]
      clear hP hV hS
      go_wp2_with fail
      go_ret
      refine ⟨_, rfl, ?_, S0.out.below⟩
      rw [← HX.out]
      exact owns_down S0.out.own (by omega)
set_option maxRecDepth 100000 in
theorem wreds_none (base : Option Addr) (c : Nat) (w : World) :
    Calls Try.prog 87 #[.slice base 0 c] w fun e w' => e = .returned (.slice none 0 0) ∧ Below w.heap.size w w' := by
  go_enter Try.func87, Try.ntmps87
  go_wp2_with fail
  go_ret
  exact ⟨rfl, Below.refl _ _⟩
end Go.Proofs.Ythlhbajaogonnaa


namespace Go.Proofs.Ythlhbajaogonnaa

open Go.RowKit

attribute [local go_sem ↓] Go.wp_at_zero Go.wp_at_succ

/-- The tree of the keys; none: an empty map, or no table. -/
def Keyed (t : NL) : Option BT → Prop
  | none => keysA t = []
  | some B => keyE t = 0 ∧ keysA t = B.lay 0 ∧ B.ok ∧ B.size ≤ 100000
theorem keyed_of (t : NL) : ∃ o, Keyed t o := by
  by_cases h : (rootR t).2 = 0
  · obtain ⟨x, b, -, -, -, h4, h5, h6⟩ := keys_lay h
    exact ⟨some b, by unfold keyE; rw [if_neg (by omega), h], h4, h5, h6⟩
  · exact ⟨none, by show keysA t = []; unfold keysA; rw [if_neg h]⟩
theorem keyed_bad {t : NL} {o : Option BT} (h : Keyed t o) (he : keyE t ≠ 0) : o = none := by
  cases o with
  | none => rfl
  | some B => exact absurd h.1 he
def sumsO : Option BT → List Int
  | none => []
  | some B => sumsB B
/-- The overs among the first m nodes, each as often as it is too heavy. -/
def ovN (K : NL) : Nat → Int
  | 0 => 0
  | m + 1 => ovN K m + max ((ndAt K m).wt - 1) 0
theorem ovN_le {K : NL} (h : ∀ i, i < K.length → NodeOk (ndAt K i) K.length) : ∀ m, m ≤ K.length → 0 ≤ ovN K m ∧ ovN K m ≤ 1000000 * (m : Int)
  | 0, _ => by simp [ovN]
  | m + 1, hm => by
    have h1 := ovN_le h m (by omega)
    have h2 := h m (by omega)
    have w1 := h2.2.2.1
    have w2 := h2.2.2.2
    simp only [ovN]
    omega
def vioO : Option BT → Int
  | none => 0
  | some B => (redsB B).length + ovN (B.lay 0) (B.lay 0).length
set_option maxRecDepth 100000 in
set_option maxHeartbeats 1000000 in
theorem wsums_none (base : Option Addr) (c : Nat) (w : World) :
    Calls Try.prog 95 #[.slice base 0 c] w fun e w' => e = .returned (.slice none 0 0) ∧ Below w.heap.size w w' := by
  have hmi := run_make_known (P := Try.prog) 33 3 (.int .i64 0) 1 8 ins_under in_info 0 (by omega) (by omega)
  simp only [Int.natCast_zero] at hmi
  go_enter Try.func95, Try.ntmps95
  go_wp2_with fail
  go_loopw [3, 13] (fun v i wr => v = .slice none 0 0 ∧ i = .int .i64 0 ∧ Below w.heap.size w wr) (fun _ _ _ => 0)
  case atStart => exact ⟨rfl, rfl, below_alloc _ _⟩
  case round =>
    obtain ⟨rfl, rfl, hb⟩ := hrel
    have HB : Hid (Below w.heap.size w wr) := hb
    clear hb
    go_wp2_with fail
    go_ret
    exact ⟨rfl, HB.out⟩
theorem keyE_form {t : NL} (h : keyE t = 0) : formE t = 0 := by
  unfold keyE rootR at h
  by_cases q : formE t = 0
  · exact q
  · rw [if_pos q] at h
    simp only at h
    split at h
    · rename_i e
      unfold formE at e
      split at e
      · omega
      · split at e <;> omega
    · exact h
/-- The first violation among places, below a weight. -/
def fstL (t : NL) : Int → List Nat → Int
  | _, [] => -1
  | a, x :: P => if faultQ a (ndAt t x).wt then (x : Int) else fstL t (ndAt t x).wt P
noncomputable def firstA (t : NL) (key : Int) : Int := if keyE t = 0 then fstL t 1 (wayL t key) else 0
theorem Way.all {t : NL} {key : Int} {p : Nat} {P : List Nat} (h : Way t key p P) : ∀ x ∈ P, x < t.length := by
  induction h with
  | leaf hp => intro x hx; simp at hx; subst hx; exact hp
  | inner hp _ _ _ _ ih => intro x hx; simp at hx; rcases hx with rfl | hx; exact hp; exact ih x hx
end Go.Proofs.Ythlhbajaogonnaa

namespace Go.Proofs.Ythlhbajaogonnaa

open Go.RowKit

attribute [local go_sem ↓] Go.wp_at_zero Go.wp_at_succ

theorem own_slice {w : World} {B : Nat} {e : TypeId} {k n : Nat} {v : Value} {cs : List Value} (h : w.ownsRow B e k v n cs) : ∃ bs cp, v = .slice bs n cp := by
  rcases Go.Joins.ownsRow_forms h with ⟨rfl, q⟩ | ⟨_, _, rfl⟩
  · exact ⟨none, 0, by rw [q]⟩
  · exact ⟨_, _, rfl⟩
def redsO : Option BT → List Int
  | none => []
  | some B => redsB B
theorem wredsO_any (base : Option Addr) (b o c : Nat) (t : NL) (k : Option BT) (w : World) (h : NodesAt w base b o (keysA t)) (hk : Keyed t k) :
    Calls Try.prog 87 #[.slice base (keysA t).length c] w fun e w' => ∃ v, e = .returned v ∧ w'.ownsRow w.heap.size 3 1 v (redsO k).length (isC (redsO k)) ∧ Below w.heap.size w w' := by
  cases k with
  | none =>
    have hkk : keysA t = [] := hk
    rw [hkk]
    refine (wreds_none base c w).mono ?_
    rintro e w' ⟨rfl, hb⟩
    exact ⟨_, rfl, World.ownsRow_nil _ _ _ _, hb⟩
  | some B => exact wreds_any base b o c B (keysA t) w h hk.2.1 hk.2.2.2
theorem keys_ok {t : NL} {k : Option BT} (hk : Keyed t k) : (keysA t).length ≤ 100000 ∧ (∀ i, i < (keysA t).length → NodeOk (ndAt (keysA t) i) (keysA t).length) ∧ (redsO k).length ≤ 100000 ∧ vioO k = (redsO k).length + ovN (keysA t) (keysA t).length := by
  cases k with
  | none =>
    have hkk : keysA t = [] := hk
    rw [hkk]
    exact ⟨by simp, fun i hi => by simp at hi, by simp [redsO], by simp [redsO, vioO, ovN]⟩
  | some B =>
    rw [hk.2.1]
    exact ⟨by rw [BT.lay_length]; exact hk.2.2.2, (lay_form hk.2.2.1).good.node, Nat.le_trans (inh_len _ _ redO_len B 1) hk.2.2.2, rfl⟩
set_option maxRecDepth 100000 in
set_option maxHeartbeats 1000000 in
theorem Violations_any (base : Option Addr) (b o c : Nat) (t : NL) (k : Option BT) (w : World) (h : NodesAt w base b o t) (hk : Keyed t k) :
    Calls Try.prog 56 #[.slice base t.length c] w fun e w' => e = .returned (.tuple #[.int .i64 (vioO k), .int .i64 (keyE t)]) ∧ Below w.heap.size w w' := by
  have HA : Hid (NodesAt _ _ _ _ _) := h
  have HK : Hid (Keyed t k) := hk
  clear h
  by_cases he : keyE t = 0
  · have d : (keyE t != 0) = false := by simp [he]
    have HE : Hid (keyE t = 0) := he
    obtain ⟨hK1, hK2, hK3, hK4⟩ := keys_ok hk
    have HOV : Hid (∀ m, m ≤ (keysA t).length → 0 ≤ ovN (keysA t) m ∧ ovN (keysA t) m ≤ 1000000 * (m : Int)) := ovN_le hK2
    have HNK : Hid (∀ i, i < (keysA t).length → NodeOk (ndAt (keysA t) i) (keysA t).length) := hK2
    have HV : Hid (vioO k = _) := hK4
    clear he hK2 hK4 hk
    go_enter Try.func56, Try.ntmps56
    go_wp2_with fail
    refine (keysOf_any base b o c t _ HA.out).mono ?_
    rintro e w1 ⟨v1, rfl, ho1, hb1⟩
    obtain ⟨bs1, cp1, g1, rfl, -, -, hn1⟩ := nodes_of_owns ho1
    have N1 : Hid (NodesAt _ _ _ _ _) := hn1
    have B1 : Hid (Below w.heap.size w w1) := hb1
    have HC : Hid (Calls _ _ _ _ _) := wredsO_any bs1 g1 0 cp1 t k w1 hn1 HK.out
    clear ho1 hn1 hb1
    generalize keysA t = K at *
    go_wp2_with fail
    refine HC.out.mono ?_
    rintro e w2 ⟨v2, rfl, ho2, hb2⟩
    obtain ⟨bs2, cp2, rfl⟩ := own_slice ho2
    have B2 : Hid (Below w.heap.size w w2) := B1.out.trans (hb2.mono B1.out.size)
    have N2 : Hid (NodesAt w2 bs1 g1 0 K) := N1.out.below hb2
    clear ho2 hb2
    generalize redsO k = R at *
    go_wp2_with fail
    go_loopw [6, 22] (fun n i wr => ∃ m : Nat, m ≤ K.length ∧ i = .int .i64 m ∧ n = .int .i64 ((R.length : Int) + ovN K m) ∧ Below w2.heap.size w2 wr) (fun _ i _ => K.length - (intOf i).toNat)
    case atStart => exact ⟨0, Nat.zero_le _, rfl, by simp [ovN], Below.refl _ _⟩
    case round =>
      obtain ⟨m, hm, rfl, rfl, hb⟩ := hrel
      have BW : Hid (Below w2.heap.size w2 wr) := hb
      by_cases hlm : m < K.length
      · obtain rfl : bs1 = some ⟨g1, 0, none⟩ := N2.out.base (by omega)
        have hg1 := N2.out.lt (by omega)
        have HCC : Hid _ := (N2.out.below hb).cells m hlm
        have hz := hb.size
        have hgr : g1 < wr.heap.size := by omega
        have m0 : (0 : Int) ≤ (m : Int) := Int.natCast_nonneg _
        have m1 : (m : Int) < (K.length : Int) := by omega
        have hok := HNK.out m hlm
        have w1' := hok.2.2.1
        have w2' := hok.2.2.2
        obtain ⟨o1, o2⟩ := HOV.out m (by omega)
        have HS : Hid (ovN K (m + 1) = ovN K m + max ((ndAt K m).wt - 1) 0) := rfl
        clear hb hok
        generalize ovN K m = s at *
        generalize ndAt K m = nd at *
        obtain ⟨k0, k1, k2, k3, k4, k5⟩ := nd
        simp only at HCC HS w1' w2'
        obtain ⟨c0, c1, c2, c3, c4, c5⟩ := HCC.out
        simp only [Nat.zero_add] at c0 c1 c2 c3 c4 c5
        have e1 : IntKind.i64.wrap (k2 - 1) = k2 - 1 := wrap_ok _ (by omega) (by omega)
        have e2 : IntKind.i64.wrap ((R.length : Int) + s + max (k2 - 1) 0) = (R.length : Int) + s + max (k2 - 1) 0 := wrap_ok _ (by omega) (by omega)
        go_wp2_with fail
        refine ⟨⟨m + 1, by omega, by go_num, ?_, BW.out.trans ((below_alloc _ _).mono BW.out.size)⟩, by simp [intOf]; omega⟩
        rw [HS.out]
        rw [Int.add_assoc]
      · obtain rfl : m = K.length := by omega
        clear hb
        go_wp2_with fail
        go_ret2
        exact ⟨by rw [HV.out, HE.out]; rfl, B2.out.trans (BW.out.mono B2.out.size)⟩
  · have d : (keyE t != 0) = true := by simp [he]
    obtain rfl := keyed_bad hk he
    clear he hk
    go_enter Try.func56, Try.ntmps56
    go_wp2_with (first | (go_at_call 83; refine (keysOf_any base b o c t _ HA.out).mono ?_; rintro e w1 ⟨v1, rfl, -, hb1⟩; have B1 : Hid (Below w.heap.size w w1) := hb1; clear hb1))
    go_ret2
    exact ⟨rfl, B1.out⟩
end Go.Proofs.Ythlhbajaogonnaa



namespace Go.Proofs.Ythlhbajaogonnaa

open Go.RowKit

attribute [local go_sem ↓] Go.wp_at_zero Go.wp_at_succ

theorem eqB {a b : Int} (h : a = b) : (a != b) = false ∧ decide (a ≠ b) = false ∧ (a == b) = true := by simp [h]
theorem neB {a b : Int} (h : a ≠ b) : (a != b) = true ∧ decide (a ≠ b) = true ∧ (a == b) = false := by simp [h]
/-- A slice of numbers, handed in. -/
structure WsAt (w : World) (base : Option Addr) (g o : Nat) (L : List Int) : Prop where
  base : L.length ≠ 0 → base = some ⟨g, o, none⟩
  lt : L.length ≠ 0 → g < w.heap.size
  cells : ∀ i, i < L.length → w.cell? ⟨g, o + i, none⟩ = some (.int .i64 (L.getD i 0))
  len : L.length ≤ maxLen
theorem WsAt.below {w w' : World} {base : Option Addr} {g o : Nat} {L : List Int} (h : WsAt w base g o L) (hb : Below w.heap.size w w') : WsAt w' base g o L :=
  ⟨h.base, fun hn => Nat.lt_of_lt_of_le (h.lt hn) hb.size, fun i hi => (hb.cell (p := ⟨g, o + i, none⟩) (h.lt (by omega))).trans (h.cells i hi), h.len⟩
theorem isC_get (L : List Int) (i : Nat) (h : i < L.length) : (isC L)[i]? = some (.int .i64 (L.getD i 0)) := by
  simp [isC, List.getElem?_map, List.getD_eq_getElem?_getD, List.getElem?_eq_getElem h]
theorem ws_of_owns {w : World} {B : Nat} {e : TypeId} {v : Value} {L : List Int} (h : w.ownsRow B e 1 v L.length (isC L)) :
    ∃ base cap g, v = .slice base L.length cap ∧ (L.length ≠ 0 → B ≤ g) ∧ (base = none → L.length = 0 ∧ cap = 0) ∧ WsAt w base g 0 L := by
  obtain ⟨_, h⟩ := h
  rcases h with ⟨rfl, h0⟩ | ⟨g, cap, cur, rfl, hg, hh, h1, h2, h3, h4⟩
  · exact ⟨none, 0, 0, by rw [h0], fun h => absurd h0 h, fun _ => ⟨h0, rfl⟩, fun h => absurd h0 h, fun h => absurd h0 h, fun i hi => by omega, by rw [h0]; omega⟩
  · refine ⟨_, _, g, rfl, fun _ => hg, (fun h => by cases h), fun _ => rfl, fun _ => (Array.getElem?_eq_some_iff.1 hh).1, fun i hi => ?_, by omega⟩
    rw [← isC_get L i hi, ← h4, List.getElem?_take, if_pos (by omega), Nat.zero_add]
    simp [World.cell?, hh]

/-- A row of numbers that is ours. -/
structure JRow (w0 x : World) (v : Value) (V : List Int) : Prop where
  own : x.ownsRow w0.heap.size 3 1 v V.length (isC V)
  below : Below w0.heap.size w0 x
theorem JRow.grown {w0 x y : World} {v v' : Value} {V : List Int} {q : Int} {o : Obj} (h : JRow w0 x v V) (hg : (x.alloc o).grownBy y v.ownBlock) (ho : y.ownsRow w0.heap.size 3 1 v' (V.length + 1) (isC V ++ [.int .i64 q])) : JRow w0 y v' (V ++ [q]) :=
  ⟨by rw [List.length_append, isC_append]; exact ho, Below.grown (h.below.alloc h.below.size o) hg (by rw [World.size_alloc]; have := h.below.size; omega) (fun k hk => (owns_lt h.own k hk).1)⟩

/-- The weights of the first m nodes. -/
def totN (K : NL) : Nat → Int
  | 0 => 0
  | m + 1 => totN K m + (ndAt K m).wt
theorem totN_le {K : NL} (h : ∀ i, i < K.length → NodeOk (ndAt K i) K.length) : ∀ m, m ≤ K.length → 0 ≤ totN K m ∧ totN K m ≤ 1000000 * (m : Int)
  | 0, _ => by simp [totN]
  | m + 1, hm => by
    have h1 := totN_le h m (by omega)
    have h2 := h m (by omega)
    have w1 := h2.2.2.1
    have w2 := h2.2.2.2
    simp only [totN]
    omega
theorem keys_bad {t : NL} (he : keyE t ≠ 0) : keysA t = [] := by
  unfold keysA
  rw [if_neg]
  intro h
  apply he
  unfold keyE
  rw [if_neg (by omega), h]
end Go.Proofs.Ythlhbajaogonnaa

namespace Go.Proofs.Ythlhbajaogonnaa

open Go.RowKit

attribute [local go_sem ↓] Go.wp_at_zero Go.wp_at_succ

/-- The keys of the overs among the first m nodes. -/
def ovsL (K : NL) : Nat → List Int
  | 0 => []
  | m + 1 => ovsL K m ++ (if overQ (ndAt K m).wt then [(ndAt K m).key] else [])
theorem ovsL_len (K : NL) : ∀ m, (ovsL K m).length ≤ m
  | 0 => by simp [ovsL]
  | m + 1 => by
    have := ovsL_len K m
    simp only [ovsL, List.length_append]
    split <;> simp <;> omega
theorem JRow.quiet {w0 x y : World} {v : Value} {V : List Int} (h : JRow w0 x v V) (hb : Below x.heap.size x y) : JRow w0 y v V := ⟨owns_below h.own hb, h.below.trans (hb.mono h.below.size)⟩
/-- The least and the greatest of the first m + 1 numbers. -/
def minN (L : List Int) : Nat → Int
  | 0 => L.getD 0 0
  | m + 1 => min (minN L m) (L.getD (m + 1) 0)
def maxN (L : List Int) : Nat → Int
  | 0 => L.getD 0 0
  | m + 1 => max (maxN L m) (L.getD (m + 1) 0)
set_option maxRecDepth 100000 in
set_option maxHeartbeats 1000000 in
theorem slMin_any (a1 : Option Addr) (g o c1 : Nat) (L : List Int) (w : World) (hx : WsAt w a1 g o L) (hl : 0 < L.length) :
    Calls Try.prog 96 #[.slice a1 L.length c1] w fun e w' => e = .returned (.int .i64 (minN L (L.length - 1))) ∧ Below w.heap.size w w' := by
  have lx := hx.len
  unfold maxLen at lx
  obtain rfl : a1 = some ⟨g, o, none⟩ := hx.base (by omega)
  have hg := hx.lt (by omega)
  have HX : Hid (WsAt _ _ _ _ _) := hx
  have s0 := hx.cells 0 hl
  rw [Nat.add_zero] at s0
  have HM0 : Hid (minN L 0 = L.getD 0 0) := rfl
  have HMS : Hid (∀ m, minN L (m + 1) = min (minN L m) (L.getD (m + 1) 0)) := fun _ => rfl
  have z1 : decide ((L.length : Int) < 1) = false := decide_eq_false (by omega)
  have z2 : (0 : Int) < (L.length : Int) := by omega
  clear hx
  generalize hy : L.getD 0 0 = y at s0 HM0
  clear hy
  go_enter Try.func96, Try.ntmps96
  go_wp2_with fail
  go_loopw [3, 4] (fun v i wr => ∃ m : Nat, m < L.length ∧ i = .int .i64 ((m + 1 : Nat) : Int) ∧ v = .int .i64 (minN L m) ∧ Below w.heap.size w wr) (fun _ i _ => L.length + 1 - (intOf i).toNat)
  case atStart => exact ⟨0, hl, rfl, by rw [HM0.out], Below.refl _ _⟩
  case round =>
    obtain ⟨m, hm, rfl, rfl, hb⟩ := hrel
    have BW : Hid (Below w.heap.size w wr) := hb
    by_cases hlm : m + 1 < L.length
    · have s1 := (HX.out.below hb).cells (m + 1) hlm
      have hgr : g < wr.heap.size := by have := hb.size; omega
      have HS : Hid _ := HMS.out m
      have i0 : (0 : Int) ≤ ((m + 1 : Nat) : Int) := Int.natCast_nonneg _
      have i1 : ((m + 1 : Nat) : Int) < (L.length : Int) := by omega
      clear hb s0
      generalize L.getD (m + 1) 0 = q at *
      generalize minN L m = u at *
      generalize hi : m + 1 = i at *
      go_wp2_with fail
      exact ⟨⟨i, by omega, by go_num, by rw [HS.out], BW.out⟩, by simp [intOf]; omega⟩
    · have e : m = L.length - 1 := by omega
      have HE : Hid (minN L m = minN L (L.length - 1)) := by show _ = _; rw [e]
      have n1 : decide (((m + 1 : Nat) : Int) < (L.length : Int)) = false := decide_eq_false (by omega)
      have n2 : decide (m + 1 < L.length) = false := decide_eq_false (by omega)
      clear hb e s0
      go_wp2_with fail
      go_ret
      exact ⟨by rw [← HE.out]; rfl, BW.out⟩
end Go.Proofs.Ythlhbajaogonnaa

namespace Go.Proofs.Ythlhbajaogonnaa

open Go.RowKit

attribute [local go_sem ↓] Go.wp_at_zero Go.wp_at_succ

set_option maxRecDepth 100000 in
set_option maxHeartbeats 1000000 in
theorem slMax_any (a1 : Option Addr) (g o c1 : Nat) (L : List Int) (w : World) (hx : WsAt w a1 g o L) (hl : 0 < L.length) :
    Calls Try.prog 97 #[.slice a1 L.length c1] w fun e w' => e = .returned (.int .i64 (maxN L (L.length - 1))) ∧ Below w.heap.size w w' := by
  have lx := hx.len
  unfold maxLen at lx
  obtain rfl : a1 = some ⟨g, o, none⟩ := hx.base (by omega)
  have hg := hx.lt (by omega)
  have HX : Hid (WsAt _ _ _ _ _) := hx
  have s0 := hx.cells 0 hl
  rw [Nat.add_zero] at s0
  have HM0 : Hid (maxN L 0 = L.getD 0 0) := rfl
  have HMS : Hid (∀ m, maxN L (m + 1) = max (maxN L m) (L.getD (m + 1) 0)) := fun _ => rfl
  have z1 : decide ((L.length : Int) < 1) = false := decide_eq_false (by omega)
  have z2 : (0 : Int) < (L.length : Int) := by omega
  clear hx
  generalize hy : L.getD 0 0 = y at s0 HM0
  clear hy
  go_enter Try.func97, Try.ntmps97
  go_wp2_with fail
  go_loopw [3, 4] (fun v i wr => ∃ m : Nat, m < L.length ∧ i = .int .i64 ((m + 1 : Nat) : Int) ∧ v = .int .i64 (maxN L m) ∧ Below w.heap.size w wr) (fun _ i _ => L.length + 1 - (intOf i).toNat)
  case atStart => exact ⟨0, hl, rfl, by rw [HM0.out], Below.refl _ _⟩
  case round =>
    obtain ⟨m, hm, rfl, rfl, hb⟩ := hrel
    have BW : Hid (Below w.heap.size w wr) := hb
    by_cases hlm : m + 1 < L.length
    · have s1 := (HX.out.below hb).cells (m + 1) hlm
      have hgr : g < wr.heap.size := by have := hb.size; omega
      have HS : Hid _ := HMS.out m
      have i0 : (0 : Int) ≤ ((m + 1 : Nat) : Int) := Int.natCast_nonneg _
      have i1 : ((m + 1 : Nat) : Int) < (L.length : Int) := by omega
      clear hb s0
      generalize L.getD (m + 1) 0 = q at *
      generalize maxN L m = u at *
      generalize hi : m + 1 = i at *
      go_wp2_with fail
      exact ⟨⟨i, by omega, by go_num, by rw [HS.out], BW.out⟩, by simp [intOf]; omega⟩
    · have e : m = L.length - 1 := by omega
      have HE : Hid (maxN L m = maxN L (L.length - 1)) := by show _ = _; rw [e]
      have n1 : decide (((m + 1 : Nat) : Int) < (L.length : Int)) = false := decide_eq_false (by omega)
      have n2 : decide (m + 1 < L.length) = false := decide_eq_false (by omega)
      clear hb e s0
      go_wp2_with fail
      go_ret
      exact ⟨by rw [← HE.out]; rfl, BW.out⟩
/-- even's answer. -/
def evS (L : List Int) : Int := if L.length = 0 then 0 else if minN L (L.length - 1) = maxN L (L.length - 1) then L.getD 0 0 else 0
def evB (L : List Int) : Bool := if L.length = 0 then true else decide (minN L (L.length - 1) = maxN L (L.length - 1))
theorem wsumsO_any (base : Option Addr) (b o c : Nat) (t : NL) (k : Option BT) (w : World) (h : NodesAt w base b o (keysA t)) (hk : Keyed t k) :
    Calls Try.prog 95 #[.slice base (keysA t).length c] w fun e w' => ∃ v, e = .returned v ∧ w'.ownsRow w.heap.size 3 1 v (sumsO k).length (isC (sumsO k)) ∧ Below w.heap.size w w' := by
  cases k with
  | none =>
    have hkk : keysA t = [] := hk
    rw [hkk]
    refine (wsums_none base c w).mono ?_
    rintro e w' ⟨rfl, hb⟩
    exact ⟨_, rfl, World.ownsRow_nil _ _ _ _, hb⟩
  | some B => exact wsums_any base b o c B (keysA t) w h hk.2.1 hk.2.2.1 hk.2.2.2
set_option maxRecDepth 100000 in
set_option maxHeartbeats 1000000 in
theorem weven_any (base : Option Addr) (b o c : Nat) (t : NL) (k : Option BT) (w : World) (h : NodesAt w base b o (keysA t)) (hk : Keyed t k) :
    Calls Try.prog 84 #[.slice base (keysA t).length c] w fun e w' => e = .returned (.tuple #[.int .i64 (evS (sumsO k)), .bool (evB (sumsO k))]) ∧ Below w.heap.size w w' := by
  have HC : Hid (Calls _ _ _ _ _) := wsumsO_any base b o c t k w h hk
  clear h hk
  generalize (keysA t).length = kl at *
  generalize sumsO k = L at *
  go_enter Try.func84, Try.ntmps84
  go_wp2_with fail
  refine HC.out.mono ?_
  rintro e w1 ⟨v1, rfl, ho1, hb1⟩
  obtain ⟨a1, c1, g1, rfl, -, -, hs1⟩ := ws_of_owns ho1
  have S1 : Hid (WsAt w1 a1 g1 0 L) := hs1
  have B1 : Hid (Below w.heap.size w w1) := hb1
  clear ho1 hs1 hb1
  by_cases hl : L.length = 0
  · have F1 : Hid (evS L = 0) := by show evS L = _; unfold evS; rw [if_pos hl]
    have F2 : Hid (evB L = true) := by show evB L = _; unfold evB; rw [if_pos hl]
    have d : ((L.length : Int) == 0) = true := by simp [hl]
    clear hl
    go_wp2_with fail
    go_ret2
    exact ⟨by rw [F1.out, F2.out]; rfl, B1.out⟩
  · have hpos : 0 < L.length := by omega
    have d : ((L.length : Int) == 0) = false := beq_eq_false_iff_ne.2 (by omega)
    obtain rfl : a1 = some ⟨g1, 0, none⟩ := S1.out.base (by omega)
    have z2 : (0 : Int) < (L.length : Int) := by omega
    by_cases hq : minN L (L.length - 1) = maxN L (L.length - 1)
    · have F0 : evS L = L.getD 0 0 := by unfold evS; rw [if_neg hl, if_pos hq]
      obtain ⟨y, hy⟩ : ∃ y, L.getD 0 0 = y := ⟨_, rfl⟩
      have HY : Hid (L.getD 0 0 = y) := hy
      have F1 : Hid (evS L = y) := by show _ = _; rw [F0, hy]
      clear F0 hy
      have F2 : Hid (evB L = true) := by show evB L = _; unfold evB; rw [if_neg hl]; exact decide_eq_true hq
      obtain ⟨d1, d2, -⟩ := eqB hq
      clear hl hq
      go_wp2_with (first | (go_at_call 96; refine (slMin_any _ g1 0 c1 L _ S1.out hpos).mono ?_; rintro e w2 ⟨rfl, hb2⟩; have S2 : Hid (WsAt w2 (some ⟨g1, 0, none⟩) g1 0 L) := S1.out.below hb2; have B2 : Hid (Below w.heap.size w w2) := B1.out.trans (hb2.mono B1.out.size); clear hb2) | (go_at_call 97; refine (slMax_any _ g1 0 c1 L _ S2.out hpos).mono ?_; rintro e w3 ⟨rfl, hb3⟩; have B3 : Hid (Below w.heap.size w w3) := B2.out.trans (hb3.mono B2.out.size); have s0 := (S2.out.below hb3).cells 0 hpos; rw [Nat.add_zero, HY.out] at s0; have gl3 := (S2.out.below hb3).lt (by omega); clear hb3))
      go_ret2
      exact ⟨by rw [F1.out, F2.out]; rfl, B3.out⟩
    · have F1 : Hid (evS L = 0) := by show evS L = _; unfold evS; rw [if_neg hl, if_neg hq]
      have F2 : Hid (evB L = false) := by show evB L = _; unfold evB; rw [if_neg hl]; exact decide_eq_false hq
      obtain ⟨d1, d2, -⟩ := neB hq
      clear hl hq
      go_wp2_with (first | (go_at_call 96; refine (slMin_any _ g1 0 c1 L _ S1.out hpos).mono ?_; rintro e w2 ⟨rfl, hb2⟩; have S2 : Hid (WsAt w2 (some ⟨g1, 0, none⟩) g1 0 L) := S1.out.below hb2; have B2 : Hid (Below w.heap.size w w2) := B1.out.trans (hb2.mono B1.out.size); clear hb2) | (go_at_call 97; refine (slMax_any _ g1 0 c1 L _ S2.out hpos).mono ?_; rintro e w3 ⟨rfl, hb3⟩; have B3 : Hid (Below w.heap.size w w3) := B2.out.trans (hb3.mono B2.out.size); clear hb3))
      go_ret2
      exact ⟨by rw [F1.out, F2.out]; rfl, B3.out⟩
end Go.Proofs.Ythlhbajaogonnaa

namespace Go.Proofs.Ythlhbajaogonnaa

open Go.RowKit

attribute [local go_sem ↓] Go.wp_at_zero Go.wp_at_succ

set_option maxRecDepth 100000 in
set_option maxHeartbeats 1000000 in
theorem Even_any (base : Option Addr) (b o c : Nat) (t : NL) (k : Option BT) (w : World) (h : NodesAt w base b o t) (hk : Keyed t k) :
    Calls Try.prog 54 #[.slice base t.length c] w fun e w' => e = .returned (.tuple #[.int .i64 (if keyE t = 0 then evS (sumsO k) else 0), .bool (if keyE t = 0 then evB (sumsO k) else false), .int .i64 (keyE t)]) ∧ Below w.heap.size w w' := by
  have HA : Hid (NodesAt _ _ _ _ _) := h
  have HK : Hid (Keyed t k) := hk
  clear h hk
  by_cases he : keyE t = 0
  · have d : (keyE t != 0) = false := by simp [he]
    have HE : Hid (keyE t = 0) := he
    rw [if_pos he, if_pos he]
    clear he
    go_enter Try.func54, Try.ntmps54
    go_wp2_with fail
    refine (keysOf_any base b o c t _ HA.out).mono ?_
    rintro e w1 ⟨v1, rfl, ho1, hb1⟩
    obtain ⟨bs1, cp1, g1, rfl, -, -, hn1⟩ := nodes_of_owns ho1
    have B1 : Hid (Below w.heap.size w w1) := hb1
    have HC : Hid (Calls _ _ _ _ _) := weven_any bs1 g1 0 cp1 t k w1 hn1 HK.out
    clear ho1 hn1 hb1
    go_wp2_with fail
    refine HC.out.mono ?_
    rintro e w2 ⟨rfl, hb2⟩
    have B2 : Hid (Below w.heap.size w w2) := B1.out.trans (hb2.mono B1.out.size)
    clear hb2
    go_wp2_with fail
    go_ret3
    exact ⟨by rw [HE.out]; rfl, B2.out⟩
  · have d : (keyE t != 0) = true := by simp [he]
    rw [if_neg he, if_neg he]
    clear he
    go_enter Try.func54, Try.ntmps54
    go_wp2_with (first | (go_at_call 83; refine (keysOf_any base b o c t _ HA.out).mono ?_; rintro e w1 ⟨v1, rfl, -, hb1⟩; have B1 : Hid (Below w.heap.size w w1) := hb1; clear hb1))
    go_ret3
    exact ⟨rfl, B1.out⟩
def lightB (n : NdD) : Bool := rleafB n && n.wt == 0
set_option maxRecDepth 100000 in
theorem isLightLeaf_any (a0 a1 a2 a3 a4 a5 : Int) (w : World) :
    Calls Try.prog 86 #[.agg #[.int .i64 a0, .int .i64 a1, .int .i64 a2, .int .i64 a3, .int .i64 a4, .int .i64 a5]] w fun e w' => e = .returned (.bool (lightB ⟨a0, a1, a2, a3, a4, a5⟩)) ∧ Below w.heap.size w w' := by
  have B0 : Hid (Below w.heap.size w (w.alloc (.cells #[.int .i64 a0, .int .i64 a1, .int .i64 a2, .int .i64 a3, .int .i64 a4, .int .i64 a5] 55))) := below_alloc _ _
  have X1 : Hid (∀ (x : World), Below (w.heap.size + 1) (w.alloc (.cells #[.int .i64 a0, .int .i64 a1, .int .i64 a2, .int .i64 a3, .int .i64 a4, .int .i64 a5] 55)) x → Bx x w.heap.size a0 a1 a2 a3 a4 a5) := fun x hx => (bx_new (heap_alloc_at _ _ _ rfl)).below (by rw [World.size_alloc]; exact hx)
  cases hl : rleafB ⟨a0, a1, a2, a3, a4, a5⟩
  · have HLB : Hid (rleafB ⟨a0, a1, a2, a3, a4, a5⟩ = false) := hl
    have F : Hid (lightB ⟨a0, a1, a2, a3, a4, a5⟩ = false) := by show lightB _ = _; unfold lightB; rw [hl]; rfl
    clear hl
    go_enter Try.func86, Try.ntmps86
    go_wp2_with (first | (go_at_call 99; refine (wLeaf_any _ _ _ _ _ _ _).mono ?_; rintro e w3 ⟨rfl, hb3⟩; rw [HLB.out]; have B3 : Hid (Below w.heap.size w w3) := B0.out.trans (hb3.mono (by simp)); clear hb3))
    go_ret
    exact ⟨by rw [F.out]; rfl, B3.out⟩
  · have HLB : Hid (rleafB ⟨a0, a1, a2, a3, a4, a5⟩ = true) := hl
    have F : Hid (lightB ⟨a0, a1, a2, a3, a4, a5⟩ = (a2 == 0)) := by show lightB _ = _; unfold lightB; rw [hl]; rfl
    clear hl
    go_enter Try.func86, Try.ntmps86
    go_wp2_with (first | (go_at_call 99; refine (wLeaf_any _ _ _ _ _ _ _).mono ?_; rintro e w3 ⟨rfl, hb3⟩; rw [HLB.out]; have B3 : Hid (Below w.heap.size w w3) := B0.out.trans (hb3.mono (by simp)); obtain ⟨y0, y1, y2, y3, y4, y5⟩ := (X1.out w3 (by rw [World.size_alloc] at hb3; exact hb3)).c; clear hb3))
    go_ret
    exact ⟨by rw [F.out]; rfl, B3.out⟩
/-- Is there a light leaf among the nodes? -/
def lightN (K : NL) : Nat → Bool
  | 0 => false
  | m + 1 => lightN K m || lightB (ndAt K m)
theorem lightN_up {K : NL} {m n : Nat} (h : m ≤ n) (hq : lightN K m = true) : lightN K n = true := by
  induction n with
  | zero => obtain rfl : m = 0 := by omega
            exact hq
  | succ n ih =>
    by_cases e : m = n + 1
    · rw [← e]; exact hq
    · simp only [lightN]; rw [ih (by omega)]; rfl
set_option maxRecDepth 100000 in
set_option maxHeartbeats 1000000 in
theorem indexN_any (a1 : Option Addr) (g o c1 : Nat) (K : NL) (w : World) (hx : NodesAt w a1 g o K) :
    Calls Try.prog 98 #[.slice a1 K.length c1, .func (.func 86) #[] #[]] w fun e w' => ∃ r : Int, e = .returned (.int .i64 r) ∧ Below w.heap.size w w' ∧ decide (0 ≤ r) = lightN K K.length := by
  have lx := hx.len
  unfold maxLen at lx
  have HX : Hid (NodesAt _ _ _ _ _) := hx
  clear hx
  go_enter Try.func98, Try.ntmps98
  go_wp2_with fail
  go_loopw [8] (fun i wr => ∃ j : Nat, j ≤ K.length ∧ i = .int .i64 j ∧ lightN K j = false ∧ Below w.heap.size w wr) (fun i _ => K.length - (intOf i).toNat)
  case atStart => exact ⟨0, Nat.zero_le _, rfl, rfl, Below.refl _ _⟩
  case round =>
    obtain ⟨j, hj, rfl, hall, hbw⟩ := hrel
    have HW : Hid (Below _ _ _) := hbw
    by_cases hlt : j < K.length
    · obtain rfl : a1 = some ⟨g, o, none⟩ := HX.out.base (by omega)
      have zx : g < wr.heap.size := (HX.out.below hbw).lt (by omega)
      have HCC : Hid _ := (HX.out.below hbw).cells j hlt
      have j0 : (0 : Int) ≤ (j : Int) := Int.natCast_nonneg _
      have j1 : (j : Int) < (K.length : Int) := by omega
      have HS : Hid (lightN K (j + 1) = lightB (ndAt K j)) := by show _ = _; simp only [lightN]; rw [hall]; rfl
      have HU : Hid (lightN K (j + 1) = true → lightN K K.length = true) := lightN_up (by omega)
      clear hbw hall
      generalize ndAt K j = nd at *
      obtain ⟨k0, k1, k2, k3, k4, k5⟩ := nd
      simp only at HCC
      obtain ⟨c0, c1', c2, c3, c4, c5⟩ := HCC.out
      go_wp2_with fail
      refine (isLightLeaf_any _ _ _ _ _ _ _).mono ?_
      rintro e w2 ⟨rfl, hb2⟩
      have B2 : Hid (Below w.heap.size w w2) := HW.out.trans (hb2.mono HW.out.size)
      clear hb2 c0 c1' c2 c3 c4 c5
      cases hq : lightB ⟨k0, k1, k2, k3, k4, k5⟩
      · have HQ : Hid (lightN K (j + 1) = false) := by show _ = _; rw [HS.out, hq]
        go_wp2_with fail
        exact ⟨⟨j + 1, by omega, by go_num, HQ.out, B2.out⟩, by simp [intOf]; omega⟩
      · have HQ : Hid (lightN K K.length = true) := HU.out (by rw [HS.out, hq])
        go_wp2_with fail
        go_ret
        exact ⟨_, rfl, B2.out, by rw [HQ.out]; simp⟩
    · obtain rfl : j = K.length := by omega
      have HQ : Hid (lightN K K.length = false) := hall
      clear hbw hall
      go_wp2_with fail
      go_ret
      exact ⟨_, rfl, HW.out, by rw [HQ.out]; rfl⟩
set_option maxRecDepth 100000 in
theorem containsN_any (a1 : Option Addr) (g o c1 : Nat) (K : NL) (w : World) (hx : NodesAt w a1 g o K) :
    Calls Try.prog 85 #[.slice a1 K.length c1, .func (.func 86) #[] #[]] w fun e w' => e = .returned (.bool (lightN K K.length)) ∧ Below w.heap.size w w' := by
  have HX : Hid (NodesAt _ _ _ _ _) := hx
  clear hx
  go_enter Try.func85, Try.ntmps85
  go_wp2_with (first | (go_at_call 98; refine (indexN_any a1 g o c1 K _ HX.out).mono ?_; rintro e w1 ⟨r, rfl, hb1, hr1⟩; have B1 : Hid (Below w.heap.size w w1) := hb1; have HR : Hid (_ = lightN K K.length) := hr1; clear hb1 hr1))
  go_ret
  exact ⟨by rw [← HR.out]; rfl, B1.out⟩
end Go.Proofs.Ythlhbajaogonnaa

namespace Go.Proofs.Ythlhbajaogonnaa

open Go.RowKit

attribute [local go_sem ↓] Go.wp_at_zero Go.wp_at_succ

noncomputable def sndB (t : NL) (k : Option BT) : Bool := if keyE t ≠ 0 then false else if (keysA t).length = 0 then true else evB (sumsO k) && ((ndAt (keysA t) 0).wt == 1 && !lightN (keysA t) (keysA t).length)
set_option maxRecDepth 100000 in
set_option maxHeartbeats 1000000 in
theorem Sound_any (base : Option Addr) (b o c : Nat) (t : NL) (k : Option BT) (w : World) (h : NodesAt w base b o t) (hk : Keyed t k) :
    Calls Try.prog 55 #[.slice base t.length c] w fun e w' => e = .returned (.tuple #[.bool (sndB t k), .int .i64 (keyE t)]) ∧ Below w.heap.size w w' := by
  have HA : Hid (NodesAt _ _ _ _ _) := h
  have HK : Hid (Keyed t k) := hk
  clear h hk
  by_cases he : keyE t = 0
  · have d : (keyE t != 0) = false := by simp [he]
    have d' : (keyE t == 0) = true := by simp [he]
    have HE : Hid (keyE t = 0) := he
    go_enter Try.func55, Try.ntmps55
    go_wp2_with fail
    refine (keysOf_any base b o c t _ HA.out).mono ?_
    rintro e w1 ⟨v1, rfl, ho1, hb1⟩
    obtain ⟨bs1, cp1, g1, rfl, -, -, hn1⟩ := nodes_of_owns ho1
    have N1 : Hid (NodesAt _ _ _ _ _) := hn1
    have B1 : Hid (Below w.heap.size w w1) := hb1
    clear ho1 hb1
    by_cases hl : (keysA t).length = 0
    · have F : Hid (sndB t k = true) := by show sndB t k = _; unfold sndB; rw [if_neg (by simp [he]), if_pos hl]
      have z : (((keysA t).length : Int) == 0) = true := by simp [hl]
      clear hl he hn1
      generalize (keysA t).length = kl at *
      go_wp2_with fail
      go_ret2
      exact ⟨by rw [F.out, HE.out]; rfl, B1.out⟩
    · have F : Hid (sndB t k = (evB (sumsO k) && ((ndAt (keysA t) 0).wt == 1 && !lightN (keysA t) (keysA t).length))) := by show sndB t k = _; unfold sndB; rw [if_neg (by simp [he]), if_neg hl]
      have z : (((keysA t).length : Int) == 0) = false := beq_eq_false_iff_ne.2 (by omega)
      have HC : Hid (Calls _ _ _ _ _) := weven_any bs1 g1 0 cp1 t k w1 hn1 HK.out
      have hpos : 0 < (keysA t).length := by omega
      have z2 : (0 : Int) < ((keysA t).length : Int) := by omega
      obtain rfl : bs1 = some ⟨g1, 0, none⟩ := hn1.base hl
      clear hl he hn1
      generalize keysA t = K at *
      go_wp2_with fail
      refine HC.out.mono ?_
      rintro e w2 ⟨rfl, hb2⟩
      have B2 : Hid (Below w.heap.size w w2) := B1.out.trans (hb2.mono B1.out.size)
      have N2 : Hid (NodesAt w2 (some ⟨g1, 0, none⟩) g1 0 K) := N1.out.below hb2
      have gl := N2.out.lt (by omega)
      have s0 := (N2.out.cells 0 hpos).2.2.1
      simp only [Nat.zero_mul, Nat.add_zero, Nat.zero_add] at s0
      clear hb2
      cases hv : evB (sumsO k)
      · have F' : Hid (sndB t k = false) := by show sndB t k = _; rw [F.out, hv]; rfl
        clear hv
        go_wp2_with fail
        go_ret2
        exact ⟨by rw [F'.out, HE.out]; rfl, B2.out⟩
      · by_cases hq : (ndAt K 0).wt = 1
        · have F' : Hid (sndB t k = !lightN K K.length) := by show sndB t k = _; rw [F.out, hv, hq]; rfl
          have q : ((ndAt K 0).wt == 1) = true := by simp [hq]
          clear hv hq
          generalize (ndAt K 0).wt = y at *
          go_wp2_with (first | (go_at_call 85; refine (containsN_any _ g1 0 cp1 K _ N2.out).mono ?_; rintro e w3 ⟨rfl, hb3⟩; have B3 : Hid (Below w.heap.size w w3) := B2.out.trans (hb3.mono B2.out.size); clear hb3))
          go_ret2
          exact ⟨by rw [F'.out, HE.out]; rfl, B3.out⟩
        · have F' : Hid (sndB t k = false) := by show sndB t k = _; rw [F.out, hv]; simp [hq]
          have q : ((ndAt K 0).wt == 1) = false := by simp [hq]
          clear hv hq
          generalize (ndAt K 0).wt = y at *
          go_wp2_with fail
          go_ret2
          exact ⟨by rw [F'.out, HE.out]; rfl, B2.out⟩
  · have d : (keyE t != 0) = true := by simp [he]
    have d' : (keyE t == 0) = false := by simp [he]
    have F : Hid (sndB t k = false) := by show sndB t k = _; unfold sndB; rw [if_pos he]
    clear he
    go_enter Try.func55, Try.ntmps55
    go_wp2_with (first | (go_at_call 83; refine (keysOf_any base b o c t _ HA.out).mono ?_; rintro e w1 ⟨v1, rfl, ho1, hb1⟩; obtain ⟨bs1, cp1, rfl⟩ := own_slice ho1; have B1 : Hid (Below w.heap.size w w1) := hb1; clear ho1 hb1))
    go_ret2
    exact ⟨by rw [F.out]; rfl, B1.out⟩
end Go.Proofs.Ythlhbajaogonnaa

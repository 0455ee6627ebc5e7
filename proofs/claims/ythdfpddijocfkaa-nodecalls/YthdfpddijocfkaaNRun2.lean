/- Layer 20, pure: Read's run over the nodes of a table gives the table. Layer 20: a node's children through a gate; which way a search goes; nodes told apart. Layer 20: node.search: it tells each node of a search's way. Layer 20: Path, Find and Get of a search's way. Layer 20: Find and Get. Layer 20: the nodes of a table are made. Layer 20: maps keyed by nodes. Layer 20: Read, as steps of a list of nodes still to come. Layer 20, pure: Read's run over a table numbered from its root. -/
import Derived.Test.YthdfpddijocfkaaNGate
import Derived.Test.YthdfpddijocfkaaSMir
import Derived.Maps.OwnSet

namespace Go.Proofs.Ythdfpddijocfkaa

open Go.RowKit

attribute [local go_sem ↓] Go.wp_at_zero Go.wp_at_succ

/-- nil, or a whole node. -/
def OkR (w : World) (x : Option Nat) : Prop := PtrOk Try.prog 63 w (x.map fun g => (⟨g, 0, none⟩ : Addr))
theorem OkR.none (w : World) : OkR w none := Or.inl rfl
theorem RcAt.okr {w : World} {g fb : Nat} {n : GN} (h : RcAt w g fb n) : OkR w (some g) := h.ok
theorem rp_info : (Try.prog.info? 63).map (fun i => decide (i.size = 0)) = some false := by kernel_rfl
theorem rp_under : Try.prog.underlying 41 = some (.pointer 63) := by kernel_rfl
theorem equalInR (d : Nat) {W : World} {x y : Option Nat} (hx : OkR W x) (hy : OkR W y) : (Op.equalIn (d + 1) 41 (ptrO x) (ptrO y)).run Try.prog W = .ok (decide (x = y)) W := by
  obtain ⟨j, hj, hz⟩ := Option.map_eq_some_iff.1 rp_info
  have hz' : j.size ≠ 0 := by simpa using hz
  cases x with
  | none =>
    cases y with
    | none => simp [Op.equalIn, ptrO, run_underlying (P := Try.prog) rp_under]
    | some b => simp [Op.equalIn, ptrO, run_underlying (P := Try.prog) rp_under]
  | some a =>
    cases y with
    | none => simp [Op.equalIn, ptrO, run_underlying (P := Try.prog) rp_under]
    | some b =>
      by_cases e : a = b
      · subst e
        simp [Op.equalIn, ptrO, run_underlying (P := Try.prog) rp_under, typeInfo, sizeOf, hj, run_sameAddr_same]
      · rcases hx with hx | ⟨b1, cs1, h1, h2, _⟩
        · cases hx
        rcases hy with hy | ⟨b2, cs2, h3, h4, _⟩
        · cases hy
        simp at h1 h3
        subst h1
        subst h3
        have hb := run_sameAddr_other (P := Try.prog) W (a := ⟨a, 0, none⟩) (b := ⟨b, 0, none⟩) (fun q => e (congrArg Addr.block q)) h2 h4
        simp [Op.equalIn, ptrO, run_underlying (P := Try.prog) rp_under, typeInfo, sizeOf, hj, hz', hb, e]
theorem equalR {W : World} {x y : Option Nat} (hx : OkR W x) (hy : OkR W y) : (Op.equal 41 (ptrO x) (ptrO y)).run Try.prog W = .ok (decide (x = y)) W := equalInR 9999 hx hy
theorem eqlR {W : World} {x y : Option Nat} (hx : OkR W x) (hy : OkR W y) : (binOp .eql 41 (ptrO x) (ptrO y)).run Try.prog W = .ok (.bool (decide (x = y))) W := by
  have h := equalR hx hy
  unfold ptrO at h ⊢
  simp only [binOp]
  simp [h]

set_option maxRecDepth 100000 in
set_option maxHeartbeats 400000 in
theorem loadS {gv : Value} {Tb : Nat → Prop} {most : Nat} {G : List Int → World → Prop} (g : GateS gv Tb most G) (ks : List Int) (hk : ks.length < most) (b i : Nat) (x : Option Addr) (w : World) (hG : G ks w) (hb : ¬ Tb b) (ht : typ w b 126) (hc : w.cell? ⟨b, i, none⟩ = some (.pointer x)) (hx : ∀ w1, Pd Tb w w1 → PtrOk Try.prog 63 w1 x) :
    Calls Try.prog 77 #[.pointer (some ⟨b, i, none⟩), gv] w fun e w' => e = .returned (.pointer x) ∧ G (ks ++ [1]) w' ∧ Pd Tb w w' := by
  have HP : Hid _ := g.pass ks 1 w hG hk
  have Hx : Hid _ := hx
  have HT : Hid (typ w b 126) := ht
  clear hx ht
  go_enter Try.func77, Try.ntmps77
  go_wp2_with (first | (go_at_call 65; refine Calls.mono HP.out ?_; rintro e w1 ⟨rfl, hg1, hk1⟩; have hc1 := (World.cell?_of_block (w := w) (a := ⟨b, i, none⟩) (hk1.blk b HT.out.lt hb (fun q => absurd (HT.out.one q) (by decide)))).trans hc; have px : Hid _ := Hx.out w1 hk1; have HG1 : Hid (G (ks ++ [1]) w1) := hg1; have HK1 : Hid (Pd Tb w w1) := hk1; clear hg1 hk1) | (go_at_call 66; refine (wordR _ _ _).mono ?_; rintro e w' ⟨rfl, rfl⟩) | (go_at_call 82; refine (pLoadR b i x _ hc1 px.out).mono ?_; rintro e w' ⟨rfl, rfl⟩))
  go_ret
  exact ⟨rfl, HG1.out, HK1.out⟩
theorem rLen_any (g fb : Nat) (n : GN) (w : World) (h : RcAt w g fb n) : Calls Try.prog 21 #[.pointer (some ⟨g, 0, none⟩)] w fun e w' => e = .returned (.int .i64 n.ch.length) ∧ w' = w := by
  obtain ⟨_, _, _, _, _, c5⟩ := h.cells
  go_enter Try.func21, Try.ntmps21
  go_wp2_with fail
  go_ret
  exact ⟨rfl, rfl⟩
theorem rField_any (g fb : Nat) (n : GN) (j : Nat) (w : World) (h : RcAt w g fb n) (hj : j < n.ch.length) (_hlen : n.ch.length ≤ 2) : Calls Try.prog 51 #[.pointer (some ⟨g, 0, none⟩), .int .i64 j] w fun e w' => e = .returned (.pointer (some ⟨fb, j, none⟩)) ∧ w' = w := by
  obtain ⟨_, _, _, _, _, c5⟩ := h.cells
  have HR : Hid _ := h
  have j0 : (0 : Int) ≤ (j : Int) := Int.natCast_nonneg _
  have j1 : (j : Int) < (n.ch.length : Int) := by omega
  have j2 : decide ((j : Int) < 0) = false := decide_eq_false (by omega)
  have j3 : decide ((n.ch.length : Int) ≤ (j : Int)) = false := decide_eq_false (by omega)
  clear h
  go_enter Try.func51, Try.ntmps51
  go_wp2_with fail
  refine (rLen_any g fb n _ HR.out).mono ?_
  rintro e w' ⟨rfl, rfl⟩
  go_wp2_with fail
  go_ret
  exact ⟨rfl, rfl⟩
theorem rGet_any {gv : Value} {Tb : Nat → Prop} {most : Nat} {G : List Int → World → Prop} (gt : GateS gv Tb most G) (ks : List Int) (hk : ks.length < most) (g fb : Nat) (n : GN) (j : Nat) (w : World) (hG : G ks w) (h : RcAt w g fb n) (hj : j < n.ch.length) (hlen : n.ch.length ≤ 2) (hf : ¬ Tb fb) (hx : ∀ w1, Pd Tb w w1 → OkR w1 (n.ch.getD j none)) :
    Calls Try.prog 64 #[.pointer (some ⟨g, 0, none⟩), gv, .int .i64 j] w fun e w' => e = .returned (ptrO (n.ch.getD j none)) ∧ G (ks ++ [1]) w' ∧ Pd Tb w w' := by
  have HR : Hid _ := h
  obtain ⟨y, hy⟩ : ∃ y, n.ch.getD j none = y := ⟨_, rfl⟩
  have hc := (h.field hj).1
  rw [hy] at hc hx ⊢
  have HL : Hid _ := loadS gt ks hk fb j _ w hG hf h.typ.2 hc hx
  clear h hx hy hc
  unfold ptrO
  go_enter Try.func64, Try.ntmps64
  go_wp2_with fail
  refine (rField_any g fb n j _ HR.out hj hlen).mono ?_
  rintro e w1 ⟨rfl, rfl⟩
  go_wp2_with fail
  refine Calls.mono HL.out ?_
  rintro e w' ⟨rfl, h1, h2⟩
  have H1 : Hid (G (ks ++ [1]) w') := h1
  have H2 : Hid (Pd Tb w1 w') := h2
  clear h1 h2
  go_wp2_with fail
  go_ret
  exact ⟨rfl, H1.out, H2.out⟩
/-- What a child's question answers. -/
def chO (n : GN) (j : Nat) : Option Nat := if n.lf then none else n.ch.getD j none
def chK (n : GN) : List Int := if n.lf then [] else [1]
theorem child_any {gv : Value} {Tb : Nat → Prop} {most : Nat} {G : List Int → World → Prop} (gt : GateS gv Tb most G) (ks : List Int) (hk : ks.length < most) (g fb : Nat) (n : GN) (j : Nat) (w : World) (hG : G ks w) (h : RcAt w g fb n) (hj : n.lf = false → j < n.ch.length) (hlen : n.ch.length ≤ 2) (hf : ¬ Tb fb) (hx : n.lf = false → ∀ w1, Pd Tb w w1 → OkR w1 (n.ch.getD j none)) :
    Calls Try.prog 46 #[gv, .pointer (some ⟨g, 0, none⟩), .int .i64 j] w fun e w' => e = .returned (ptrO (chO n j)) ∧ G (ks ++ chK n) w' ∧ Pd Tb w w' := by
  obtain ⟨_, _, _, _, c4, _⟩ := h.cells
  unfold chO chK
  cases hl : n.lf
  · have HG : Hid _ := rGet_any gt ks hk g fb n j w hG h (hj hl) hlen hf (hx hl)
    rw [hl] at c4
    clear h hx hj
    go_enter Try.func46, Try.ntmps46
    go_wp2_with fail
    refine Calls.mono HG.out ?_
    rintro e w' ⟨rfl, h1, h2⟩
    have H1 : Hid (G (ks ++ [1]) w') := h1
    have H2 : Hid (Pd Tb w w') := h2
    clear h1 h2
    go_wp2_with fail
    go_ret
    exact ⟨rfl, H1.out, H2.out⟩
  · rw [hl] at c4
    have H1 : Hid (G ks w) := hG
    clear h hx hj hG
    go_enter Try.func46, Try.ntmps46
    go_wp2_with fail
    go_ret
    exact ⟨rfl, by simpa using H1.out, Pd.refl _ _⟩
theorem Left_any {gv : Value} {Tb : Nat → Prop} {most : Nat} {G : List Int → World → Prop} (gt : GateS gv Tb most G) (ks : List Int) (hk : ks.length < most) (g fb : Nat) (n : GN) (w : World) (hG : G ks w) (h : RcAt w g fb n) (hj : n.lf = false → n.ch.length = 2) (hlen : n.ch.length ≤ 2) (hf : ¬ Tb fb) (hx : n.lf = false → ∀ w1, Pd Tb w w1 → OkR w1 (n.ch.getD 0 none)) :
    Calls Try.prog 23 #[gv, .pointer (some ⟨g, 0, none⟩)] w fun e w' => e = .returned (ptrO (chO n 0)) ∧ G (ks ++ chK n) w' ∧ Pd Tb w w' := by
  have HC : Hid _ := child_any gt ks hk g fb n 0 w hG h (fun q => by rw [hj q]; omega) hlen hf hx
  clear h hx hj hG
  generalize chO n 0 = y at HC ⊢
  unfold ptrO at HC ⊢
  go_enter Try.func23, Try.ntmps23
  go_wp2_with fail
  refine Calls.mono HC.out ?_
  rintro e w' ⟨rfl, h1, h2⟩
  have H1 : Hid (G (ks ++ chK n) w') := h1
  have H2 : Hid (Pd Tb w w') := h2
  clear h1 h2
  go_wp2_with fail
  go_ret
  exact ⟨rfl, H1.out, H2.out⟩
theorem Right_any {gv : Value} {Tb : Nat → Prop} {most : Nat} {G : List Int → World → Prop} (gt : GateS gv Tb most G) (ks : List Int) (hk : ks.length < most) (g fb : Nat) (n : GN) (w : World) (hG : G ks w) (h : RcAt w g fb n) (hj : n.lf = false → n.ch.length = 2) (hlen : n.ch.length ≤ 2) (hf : ¬ Tb fb) (hx : n.lf = false → ∀ w1, Pd Tb w w1 → OkR w1 (n.ch.getD 1 none)) :
    Calls Try.prog 24 #[gv, .pointer (some ⟨g, 0, none⟩)] w fun e w' => e = .returned (ptrO (chO n 1)) ∧ G (ks ++ chK n) w' ∧ Pd Tb w w' := by
  have HC : Hid _ := child_any gt ks hk g fb n 1 w hG h (fun q => by rw [hj q]; omega) hlen hf hx
  clear h hx hj hG
  generalize chO n 1 = y at HC ⊢
  unfold ptrO at HC ⊢
  go_enter Try.func24, Try.ntmps24
  go_wp2_with fail
  refine Calls.mono HC.out ?_
  rintro e w' ⟨rfl, h1, h2⟩
  have H1 : Hid (G (ks ++ chK n) w') := h1
  have H2 : Hid (Pd Tb w w') := h2
  clear h1 h2
  go_wp2_with fail
  go_ret
  exact ⟨rfl, H1.out, H2.out⟩
def belowN (key : Int) (n : GN) : Bool := decide (n.i = 1) || decide (key < n.k)
theorem Below_any (key : Int) (g fb : Nat) (n : GN) (w : World) (h : RcAt w g fb n) :
    Calls Try.prog 26 #[.int .i64 key, .pointer (some ⟨g, 0, none⟩)] w fun e w' => e = .returned (.bool (belowN key n)) ∧ w' = w := by
  obtain ⟨c0, c1, _⟩ := h.cells
  clear h
  unfold belowN
  by_cases hi : n.i = 1
  · have q : (n.i == 1) = true := by simp [hi]
    have HI : Hid (n.i = 1) := hi
    clear hi
    go_enter Try.func26, Try.ntmps26
    go_wp2_with fail
    go_ret
    exact ⟨by simp [HI.out], rfl⟩
  · have q : (n.i == 1) = false := by rw [beq_eq_false_iff_ne]; exact hi
    have HI : Hid (n.i = 1 → False) := hi
    clear hi
    go_enter Try.func26, Try.ntmps26
    go_wp2_with fail
    go_ret
    exact ⟨by rw [decide_eq_false HI.out]; simp, rfl⟩
end Go.Proofs.Ythdfpddijocfkaa

namespace Go.Proofs.Ythdfpddijocfkaa

open Go.RowKit

attribute [local go_sem ↓] Go.wp_at_zero Go.wp_at_succ

/-- A node of a way: its block, its fields' block, what it holds. -/
structure Stp where
  g : Nat
  fb : Nat
  n : GN
def nxt (key : Int) (n : GN) : Option Nat := if belowN key n then chO n 0 else chO n 1
/-- The nodes that a search for the key passes. -/
structure ChainAt (w : World) (key : Int) (N : Nat) (L : List Stp) : Prop where
  rc : ∀ s ∈ L, RcAt w s.g s.fb s.n ∧ s.g < N ∧ s.fb < N ∧ (s.n.lf = false → s.n.ch.length = 2) ∧ s.n.ch.length ≤ 2
  next : ∀ j s, L[j]? = some s → nxt key s.n = (L[j + 1]?).map (·.g)
  nodup : (L.map (·.g)).Nodup
theorem ChainAt.below {w w' : World} {key : Int} {N : Nat} {L : List Stp} (h : ChainAt w key N L) (hb : Below N w w') : ChainAt w' key N L :=
  ⟨fun s hs => by
    obtain ⟨h1, h2, h3, h4⟩ := h.rc s hs
    refine ⟨?_, h2, h3, h4⟩
    exact ⟨by obtain ⟨a, b, e⟩ := h1.rc; exact ⟨a, b, (hb.block _ h2).trans e⟩, (hb.block _ h3).trans h1.fl⟩, h.next, h.nodup⟩
theorem ChainAt.okr {w : World} {key : Int} {N : Nat} {L : List Stp} (h : ChainAt w key N L) (j : Nat) : OkR w ((L[j]?).map (·.g)) := by
  cases e : L[j]? with
  | none => exact OkR.none w
  | some s => exact (h.rc s (List.mem_of_getElem? e)).1.okr
def kdL : List Stp → List Int
  | [] => []
  | s :: t => chK s.n ++ kdL t
theorem kdL_append : ∀ a b : List Stp, kdL (a ++ b) = kdL a ++ kdL b
  | [], _ => rfl
  | s :: t, b => by simp [kdL, kdL_append t b]
theorem kdL_take {L : List Stp} {j : Nat} {s : Stp} (h : L[j]? = some s) : kdL (L.take (j + 1)) = kdL (L.take j) ++ chK s.n := by
  have hj := (List.getElem?_eq_some_iff.1 h).1
  have e : L[j] = s := (List.getElem?_eq_some_iff.1 h).2
  rw [List.take_succ_eq_append_getElem hj, kdL_append, e]
  simp [kdL]
theorem kdL_le : ∀ L : List Stp, (kdL L).length ≤ L.length
  | [] => Nat.le_refl _
  | s :: t => by
    have := kdL_le t
    simp only [kdL, List.length_append, List.length_cons]
    unfold chK
    split <;> simp <;> omega
theorem kdL_take_le (L : List Stp) (j : Nat) : (kdL (L.take j)).length ≤ (kdL L).length := by
  conv => rhs; rw [← List.take_append_drop j L, kdL_append]
  simp

set_option maxRecDepth 100000 in
set_option maxHeartbeats 2000000 in
theorem search_path {gv : Value} {Tb : Nat → Prop} {most : Nat} {G : List Int → World → Prop} (gt : GateS gv Tb most G) (ks : List Int) (pb : Nat) (key : Int) (N : Nat) (hNt : ∀ t, Tb t → N ≤ t) (L : List Stp) (w : World) (hNw : N ≤ w.heap.size) (hC : ChainAt w key N L) (hL : L.length ≤ 100000) (hk : ks.length + (kdL L).length < most) (Inv : Nat → World → Prop) (hI : Inv 0 w) (hG : G ks w)
    (ip : ∀ j w w', Inv j w → Pd Tb w w' → Inv j w')
    (tp : ∀ j s w, L[j]? = some s → Inv j w → Calls Try.prog 53 #[.pointer (some ⟨s.g, 0, none⟩), .pointer (some ⟨pb, 0, none⟩)] w fun e w' => e = .returned (.tuple #[]) ∧ Inv (j + 1) w' ∧ Od Tb w w' ∧ Below N w w') :
    Calls Try.prog 49 #[gv, ptrO ((L[0]?).map (·.g)), .int .i64 key, .func (.func 53) #[] #[.pointer (some ⟨pb, 0, none⟩)]] w fun e w' => e = .returned (.tuple #[]) ∧ Inv L.length w' ∧ G (ks ++ kdL L) w' ∧ Below N w w' := by
  have HC : Hid _ := hC
  have HI0 : Hid (Inv 0 w) := hI
  have HG0 : Hid (G ks w) := hG
  have HK0 : Hid (ks.length + (kdL L).length < most) := hk
  clear hC hI hG hk
  unfold ptrO
  generalize hy0 : (Option.map (fun g => (⟨g, 0, none⟩ : Addr)) ((L[0]?).map (·.g))) = y0
  have HY0 : Hid (Value.pointer y0 = ptrO ((L[0]?).map (·.g))) := by show _ = _; unfold ptrO; rw [hy0]
  clear hy0
  go_enter Try.func49, Try.ntmps49
  go_wp2_with fail
  go_loopw [11, 8, 9, 10] (fun vn ve vp vt wr => ∃ (j T : Nat) (x : Option Nat), j ≤ L.length ∧ vn = ptrO ((L[j]?).map (·.g)) ∧ ve = ptrO x ∧ vp = .int .i64 j ∧ vt = .int .i64 T ∧ 1 ≤ T ∧ T ≤ 2 * j + 1 ∧ (x = none ∨ ∃ i, i < j ∧ x = (L[i]?).map (·.g)) ∧ Inv j wr ∧ G (ks ++ kdL (L.take j)) wr ∧ Below N w wr) (fun _ _ vp _ _ => L.length - (intOf vp).toNat)
  case atStart => exact ⟨0, 1, none, Nat.zero_le _, HY0.out, rfl, rfl, rfl, by omega, by omega, Or.inl rfl, HI0.out, by simpa [kdL] using HG0.out, Below.refl _ _⟩
  case round =>
    clear HI0 HG0 HY0
    obtain ⟨j, T, x, hj, rfl, rfl, rfl, rfl, hT1, hT2, hx, hinv, hg, hbw⟩ := hrel
    rename World => wr
    have HX : Hid (x = none ∨ ∃ i, i < j ∧ x = (L[i]?).map (·.g)) := hx
    have HI1 : Hid (Inv j wr) := hinv
    have HG0 : Hid (G (ks ++ kdL (L.take j)) wr) := hg
    have HW : Hid (Below N w wr) := hbw
    have CW : Hid _ := HC.out.below hbw
    clear hinv hg hbw hx
    by_cases hlt : j < L.length
    · obtain ⟨s, hs⟩ : ∃ s, L[j]? = some s := ⟨L[j], List.getElem?_eq_getElem hlt⟩
      have HS : Hid (L[j]? = some s) := hs
      have HM : Hid (s ∈ L) := List.mem_of_getElem? hs
      have HK : Hid (ks.length + (kdL (L.take j)).length < most) := by show _ < _; have h1 := kdL_take_le L j; have h2 := HK0.out; omega
      have okx : OkR wr x := by
        rcases HX.out with rfl | ⟨i, _, rfl⟩
        · exact OkR.none _
        · exact CW.out.okr i
      have hne : x ≠ some s.g := by
        rintro rfl
        rcases HX.out with h | ⟨i, h1, h2⟩
        · cases h
        · have hil : i < L.length := by omega
          rw [List.getElem?_eq_getElem hil] at h2
          have hs' : L[j] = s := (List.getElem?_eq_some_iff.1 hs).2
          have e1 : (L.map (·.g))[i]? = (L.map (·.g))[j]? := by
            rw [List.getElem?_map, List.getElem?_map, hs, List.getElem?_eq_getElem hil]
            simpa using h2.symm
          have := (List.getElem?_inj (by simpa using hil) CW.out.nodup).1 e1
          omega
      have heq := eqlR (CW.out.rc s HM.out).1.okr okx
      rw [decide_eq_false (fun q => hne q.symm)] at heq
      unfold ptrO at heq
      simp only [Option.map_some] at heq
      have hn1 : ptrO ((L[j]?).map (·.g)) = .pointer (some ⟨s.g, 0, none⟩) := by rw [hs]; rfl
      rw [hn1]
      unfold ptrO
      have jT : (T : Int) ≤ 200001 := by omega
      have j0 : (0 : Int) ≤ (j : Int) := Int.natCast_nonneg _
      have j9 : (j : Int) < 100000 := by omega
      have t0 : (0 : Int) ≤ (T : Int) := Int.natCast_nonneg _
      obtain ⟨T2, hT⟩ : ∃ T2, T2 = 2 * T := ⟨_, rfl⟩
      have w2 : wrap64 (2 * (T : Int)) = (T2 : Int) := by unfold wrap64; omega
      have w3 : IntKind.i64.wrap (2 * (T : Int)) = (T2 : Int) := by rw [IntKind.wrap_i64] <;> omega
      clear hn1 hs okx hne
      generalize hxx : (Option.map (fun g => (⟨g, 0, none⟩ : Addr)) x) = xx at heq
      have HXX : Hid (Value.pointer xx = ptrO x) := by show _ = _; unfold ptrO; rw [hxx]
      clear hxx
      by_cases hjt : j = T
      · have qjt : ((j : Int) == (T : Int)) = true := by simp [hjt]
        have HJT : Hid (j = T) := hjt
        clear hjt
        go_wp2_with fail
        refine (tp j s _ HS.out HI1.out).mono ?_
        rintro e w2 ⟨rfl, hi2, ho2, hb2⟩
        have HI2 : Hid (Inv (j + 1) w2) := hi2
        have HG1 : Hid (G (ks ++ kdL (L.take j)) w2) := gt.keep _ _ _ HG0.out ho2
        have HW2 : Hid (Below N w w2) := HW.out.trans hb2
        have C1 : Hid _ := CW.out.below hb2
        have HNW : Hid (N ≤ w2.heap.size) := Nat.le_trans hNw HW2.out.size
        clear hi2 ho2 hb2 heq
        go_wp2_with fail
        refine (Below_any key s.g s.fb s.n _ (C1.out.rc s HM.out).1).mono ?_
        rintro e w4 ⟨rfl, hw4⟩
        subst hw4
        cases hbl : belowN key s.n
        · have HB : Hid (belowN key s.n = false) := hbl
          clear hbl
          go_wp2_with fail
          have hq : chO s.n 1 = (L[j + 1]?).map (·.g) := by rw [← C1.out.next j s HS.out]; unfold nxt; rw [HB.out]; rfl
          refine (Right_any gt (ks ++ kdL (L.take j)) (by have := HK.out; rw [List.length_append]; omega) s.g s.fb s.n _ HG1.out (C1.out.rc s HM.out).1 (C1.out.rc s HM.out).2.2.2.1 (C1.out.rc s HM.out).2.2.2.2 (fun q => by have := hNt _ q; have := (C1.out.rc s HM.out).2.2.1; omega) (fun ql w1 hp => by
            have h0 := (C1.out.below (hp.below HNW.out hNt)).okr (j + 1)
            rw [← hq] at h0
            unfold chO at h0
            rw [ql] at h0
            exact h0)).mono ?_
          rintro e w3 ⟨rfl, hg3, hp3⟩
          rw [hq]
          have HI3 : Hid (Inv (j + 1) w3) := ip _ _ _ HI2.out hp3
          have HG3 : Hid (G (ks ++ kdL (L.take (j + 1))) w3) := by show G _ _; rw [kdL_take HS.out, ← List.append_assoc]; exact hg3
          have HB3 : Hid (Below N w w3) := HW2.out.trans (hp3.below HNW.out hNt)
          clear hg3 hp3 hq
          unfold ptrO
          generalize hyy : (Option.map (fun g => (⟨g, 0, none⟩ : Addr)) ((L[j + 1]?).map (·.g))) = yy
          have HYY : Hid (Value.pointer yy = ptrO ((L[j + 1]?).map (·.g))) := by show _ = _; unfold ptrO; rw [hyy]
          clear hyy
          go_wp2_with fail
          exact ⟨⟨j + 1, T2, some s.g, by omega, by first | exact HYY.out | rfl, by first | rfl | exact HXX.out, by go_num, by first | rfl | go_num, by omega, by have := HJT.out; omega, Or.inr ⟨j, by omega, by rw [HS.out]; rfl⟩, HI3.out, HG3.out, HB3.out⟩, by simp [intOf]; omega⟩
        · have HB : Hid (belowN key s.n = true) := hbl
          clear hbl
          go_wp2_with fail
          have hq : chO s.n 0 = (L[j + 1]?).map (·.g) := by rw [← C1.out.next j s HS.out]; unfold nxt; rw [HB.out]; rfl
          refine (Left_any gt (ks ++ kdL (L.take j)) (by have := HK.out; rw [List.length_append]; omega) s.g s.fb s.n _ HG1.out (C1.out.rc s HM.out).1 (C1.out.rc s HM.out).2.2.2.1 (C1.out.rc s HM.out).2.2.2.2 (fun q => by have := hNt _ q; have := (C1.out.rc s HM.out).2.2.1; omega) (fun ql w1 hp => by
            have h0 := (C1.out.below (hp.below HNW.out hNt)).okr (j + 1)
            rw [← hq] at h0
            unfold chO at h0
            rw [ql] at h0
            exact h0)).mono ?_
          rintro e w3 ⟨rfl, hg3, hp3⟩
          rw [hq]
          have HI3 : Hid (Inv (j + 1) w3) := ip _ _ _ HI2.out hp3
          have HG3 : Hid (G (ks ++ kdL (L.take (j + 1))) w3) := by show G _ _; rw [kdL_take HS.out, ← List.append_assoc]; exact hg3
          have HB3 : Hid (Below N w w3) := HW2.out.trans (hp3.below HNW.out hNt)
          clear hg3 hp3 hq
          unfold ptrO
          generalize hyy : (Option.map (fun g => (⟨g, 0, none⟩ : Addr)) ((L[j + 1]?).map (·.g))) = yy
          have HYY : Hid (Value.pointer yy = ptrO ((L[j + 1]?).map (·.g))) := by show _ = _; unfold ptrO; rw [hyy]
          clear hyy
          go_wp2_with fail
          exact ⟨⟨j + 1, T2, some s.g, by omega, by first | exact HYY.out | rfl, by first | rfl | exact HXX.out, by go_num, by first | rfl | go_num, by omega, by have := HJT.out; omega, Or.inr ⟨j, by omega, by rw [HS.out]; rfl⟩, HI3.out, HG3.out, HB3.out⟩, by simp [intOf]; omega⟩
      · have qjt : ((j : Int) == (T : Int)) = false := by rw [beq_eq_false_iff_ne]; omega
        have HJT : Hid (j = T → False) := hjt
        clear hjt
        go_wp2_with fail
        refine (tp j s _ HS.out HI1.out).mono ?_
        rintro e w2 ⟨rfl, hi2, ho2, hb2⟩
        have HI2 : Hid (Inv (j + 1) w2) := hi2
        have HG1 : Hid (G (ks ++ kdL (L.take j)) w2) := gt.keep _ _ _ HG0.out ho2
        have HW2 : Hid (Below N w w2) := HW.out.trans hb2
        have C1 : Hid _ := CW.out.below hb2
        have HNW : Hid (N ≤ w2.heap.size) := Nat.le_trans hNw HW2.out.size
        clear hi2 ho2 hb2 heq
        go_wp2_with fail
        refine (Below_any key s.g s.fb s.n _ (C1.out.rc s HM.out).1).mono ?_
        rintro e w4 ⟨rfl, hw4⟩
        subst hw4
        cases hbl : belowN key s.n
        · have HB : Hid (belowN key s.n = false) := hbl
          clear hbl
          go_wp2_with fail
          have hq : chO s.n 1 = (L[j + 1]?).map (·.g) := by rw [← C1.out.next j s HS.out]; unfold nxt; rw [HB.out]; rfl
          refine (Right_any gt (ks ++ kdL (L.take j)) (by have := HK.out; rw [List.length_append]; omega) s.g s.fb s.n _ HG1.out (C1.out.rc s HM.out).1 (C1.out.rc s HM.out).2.2.2.1 (C1.out.rc s HM.out).2.2.2.2 (fun q => by have := hNt _ q; have := (C1.out.rc s HM.out).2.2.1; omega) (fun ql w1 hp => by
            have h0 := (C1.out.below (hp.below HNW.out hNt)).okr (j + 1)
            rw [← hq] at h0
            unfold chO at h0
            rw [ql] at h0
            exact h0)).mono ?_
          rintro e w3 ⟨rfl, hg3, hp3⟩
          rw [hq]
          have HI3 : Hid (Inv (j + 1) w3) := ip _ _ _ HI2.out hp3
          have HG3 : Hid (G (ks ++ kdL (L.take (j + 1))) w3) := by show G _ _; rw [kdL_take HS.out, ← List.append_assoc]; exact hg3
          have HB3 : Hid (Below N w w3) := HW2.out.trans (hp3.below HNW.out hNt)
          clear hg3 hp3 hq
          unfold ptrO
          generalize hyy : (Option.map (fun g => (⟨g, 0, none⟩ : Addr)) ((L[j + 1]?).map (·.g))) = yy
          have HYY : Hid (Value.pointer yy = ptrO ((L[j + 1]?).map (·.g))) := by show _ = _; unfold ptrO; rw [hyy]
          clear hyy
          go_wp2_with fail
          exact ⟨⟨j + 1, T, x, by omega, by first | exact HYY.out | rfl, by first | rfl | exact HXX.out, by go_num, by first | rfl | go_num, by omega, by have := HJT.out; omega, by rcases HX.out with h | ⟨i, h1, h2⟩; exact Or.inl h; exact Or.inr ⟨i, by omega, h2⟩, HI3.out, HG3.out, HB3.out⟩, by simp [intOf]; omega⟩
        · have HB : Hid (belowN key s.n = true) := hbl
          clear hbl
          go_wp2_with fail
          have hq : chO s.n 0 = (L[j + 1]?).map (·.g) := by rw [← C1.out.next j s HS.out]; unfold nxt; rw [HB.out]; rfl
          refine (Left_any gt (ks ++ kdL (L.take j)) (by have := HK.out; rw [List.length_append]; omega) s.g s.fb s.n _ HG1.out (C1.out.rc s HM.out).1 (C1.out.rc s HM.out).2.2.2.1 (C1.out.rc s HM.out).2.2.2.2 (fun q => by have := hNt _ q; have := (C1.out.rc s HM.out).2.2.1; omega) (fun ql w1 hp => by
            have h0 := (C1.out.below (hp.below HNW.out hNt)).okr (j + 1)
            rw [← hq] at h0
            unfold chO at h0
            rw [ql] at h0
            exact h0)).mono ?_
          rintro e w3 ⟨rfl, hg3, hp3⟩
          rw [hq]
          have HI3 : Hid (Inv (j + 1) w3) := ip _ _ _ HI2.out hp3
          have HG3 : Hid (G (ks ++ kdL (L.take (j + 1))) w3) := by show G _ _; rw [kdL_take HS.out, ← List.append_assoc]; exact hg3
          have HB3 : Hid (Below N w w3) := HW2.out.trans (hp3.below HNW.out hNt)
          clear hg3 hp3 hq
          unfold ptrO
          generalize hyy : (Option.map (fun g => (⟨g, 0, none⟩ : Addr)) ((L[j + 1]?).map (·.g))) = yy
          have HYY : Hid (Value.pointer yy = ptrO ((L[j + 1]?).map (·.g))) := by show _ = _; unfold ptrO; rw [hyy]
          clear hyy
          go_wp2_with fail
          exact ⟨⟨j + 1, T, x, by omega, by first | exact HYY.out | rfl, by first | rfl | exact HXX.out, by go_num, by first | rfl | go_num, by omega, by have := HJT.out; omega, by rcases HX.out with h | ⟨i, h1, h2⟩; exact Or.inl h; exact Or.inr ⟨i, by omega, h2⟩, HI3.out, HG3.out, HB3.out⟩, by simp [intOf]; omega⟩
    · obtain rfl : j = L.length := by omega
      have hn1 : ptrO ((L[L.length]?).map (·.g)) = .pointer none := by rw [List.getElem?_eq_none (Nat.le_refl _)]; rfl
      rw [hn1]
      clear hn1 CW
      generalize hxx : ptrO x = xx
      clear hxx
      go_wp2_with fail
      refine bodyPost_end (results_none rfl _ _ _) rfl ?_
      have hg := HG0.out
      rw [List.take_length] at hg
      exact ⟨rfl, HI1.out, hg, HW.out⟩

set_option maxRecDepth 100000 in
set_option maxHeartbeats 2000000 in
theorem search_find {gv : Value} {Tb : Nat → Prop} {most : Nat} {G : List Int → World → Prop} (gt : GateS gv Tb most G) (ks : List Int) (b1 b2 b3 : Nat) (key : Int) (N : Nat) (hNt : ∀ t, Tb t → N ≤ t) (L : List Stp) (w : World) (hNw : N ≤ w.heap.size) (hC : ChainAt w key N L) (hL : L.length ≤ 100000) (hk : ks.length + (kdL L).length < most) (Inv : Nat → World → Prop) (hI : Inv 0 w) (hG : G ks w)
    (ip : ∀ j w w', Inv j w → Pd Tb w w' → Inv j w')
    (tp : ∀ j s w, L[j]? = some s → Inv j w → Calls Try.prog 50 #[.pointer (some ⟨s.g, 0, none⟩), .pointer (some ⟨b1, 0, none⟩), .pointer (some ⟨b2, 0, none⟩), .pointer (some ⟨b3, 0, none⟩)] w fun e w' => e = .returned (.tuple #[]) ∧ Inv (j + 1) w' ∧ Od Tb w w' ∧ Below N w w') :
    Calls Try.prog 49 #[gv, ptrO ((L[0]?).map (·.g)), .int .i64 key, .func (.func 50) #[] #[.pointer (some ⟨b1, 0, none⟩), .pointer (some ⟨b2, 0, none⟩), .pointer (some ⟨b3, 0, none⟩)]] w fun e w' => e = .returned (.tuple #[]) ∧ Inv L.length w' ∧ G (ks ++ kdL L) w' ∧ Below N w w' := by
  have HC : Hid _ := hC
  have HI0 : Hid (Inv 0 w) := hI
  have HG0 : Hid (G ks w) := hG
  have HK0 : Hid (ks.length + (kdL L).length < most) := hk
  clear hC hI hG hk
  unfold ptrO
  generalize hy0 : (Option.map (fun g => (⟨g, 0, none⟩ : Addr)) ((L[0]?).map (·.g))) = y0
  have HY0 : Hid (Value.pointer y0 = ptrO ((L[0]?).map (·.g))) := by show _ = _; unfold ptrO; rw [hy0]
  clear hy0
  go_enter Try.func49, Try.ntmps49
  go_wp2_with fail
  go_loopw [11, 8, 9, 10] (fun vn ve vp vt wr => ∃ (j T : Nat) (x : Option Nat), j ≤ L.length ∧ vn = ptrO ((L[j]?).map (·.g)) ∧ ve = ptrO x ∧ vp = .int .i64 j ∧ vt = .int .i64 T ∧ 1 ≤ T ∧ T ≤ 2 * j + 1 ∧ (x = none ∨ ∃ i, i < j ∧ x = (L[i]?).map (·.g)) ∧ Inv j wr ∧ G (ks ++ kdL (L.take j)) wr ∧ Below N w wr) (fun _ _ vp _ _ => L.length - (intOf vp).toNat)
  case atStart => exact ⟨0, 1, none, Nat.zero_le _, HY0.out, rfl, rfl, rfl, by omega, by omega, Or.inl rfl, HI0.out, by simpa [kdL] using HG0.out, Below.refl _ _⟩
  case round =>
    clear HI0 HG0 HY0
    obtain ⟨j, T, x, hj, rfl, rfl, rfl, rfl, hT1, hT2, hx, hinv, hg, hbw⟩ := hrel
    rename World => wr
    have HX : Hid (x = none ∨ ∃ i, i < j ∧ x = (L[i]?).map (·.g)) := hx
    have HI1 : Hid (Inv j wr) := hinv
    have HG0 : Hid (G (ks ++ kdL (L.take j)) wr) := hg
    have HW : Hid (Below N w wr) := hbw
    have CW : Hid _ := HC.out.below hbw
    clear hinv hg hbw hx
    by_cases hlt : j < L.length
    · obtain ⟨s, hs⟩ : ∃ s, L[j]? = some s := ⟨L[j], List.getElem?_eq_getElem hlt⟩
      have HS : Hid (L[j]? = some s) := hs
      have HM : Hid (s ∈ L) := List.mem_of_getElem? hs
      have HK : Hid (ks.length + (kdL (L.take j)).length < most) := by show _ < _; have h1 := kdL_take_le L j; have h2 := HK0.out; omega
      have okx : OkR wr x := by
        rcases HX.out with rfl | ⟨i, _, rfl⟩
        · exact OkR.none _
        · exact CW.out.okr i
      have hne : x ≠ some s.g := by
        rintro rfl
        rcases HX.out with h | ⟨i, h1, h2⟩
        · cases h
        · have hil : i < L.length := by omega
          rw [List.getElem?_eq_getElem hil] at h2
          have hs' : L[j] = s := (List.getElem?_eq_some_iff.1 hs).2
          have e1 : (L.map (·.g))[i]? = (L.map (·.g))[j]? := by
            rw [List.getElem?_map, List.getElem?_map, hs, List.getElem?_eq_getElem hil]
            simpa using h2.symm
          have := (List.getElem?_inj (by simpa using hil) CW.out.nodup).1 e1
          omega
      have heq := eqlR (CW.out.rc s HM.out).1.okr okx
      rw [decide_eq_false (fun q => hne q.symm)] at heq
      unfold ptrO at heq
      simp only [Option.map_some] at heq
      have hn1 : ptrO ((L[j]?).map (·.g)) = .pointer (some ⟨s.g, 0, none⟩) := by rw [hs]; rfl
      rw [hn1]
      unfold ptrO
      have jT : (T : Int) ≤ 200001 := by omega
      have j0 : (0 : Int) ≤ (j : Int) := Int.natCast_nonneg _
      have j9 : (j : Int) < 100000 := by omega
      have t0 : (0 : Int) ≤ (T : Int) := Int.natCast_nonneg _
      obtain ⟨T2, hT⟩ : ∃ T2, T2 = 2 * T := ⟨_, rfl⟩
      have w2 : wrap64 (2 * (T : Int)) = (T2 : Int) := by unfold wrap64; omega
      have w3 : IntKind.i64.wrap (2 * (T : Int)) = (T2 : Int) := by rw [IntKind.wrap_i64] <;> omega
      clear hn1 hs okx hne
      generalize hxx : (Option.map (fun g => (⟨g, 0, none⟩ : Addr)) x) = xx at heq
      have HXX : Hid (Value.pointer xx = ptrO x) := by show _ = _; unfold ptrO; rw [hxx]
      clear hxx
      by_cases hjt : j = T
      · have qjt : ((j : Int) == (T : Int)) = true := by simp [hjt]
        have HJT : Hid (j = T) := hjt
        clear hjt
        go_wp2_with fail
        refine (tp j s _ HS.out HI1.out).mono ?_
        rintro e w2 ⟨rfl, hi2, ho2, hb2⟩
        have HI2 : Hid (Inv (j + 1) w2) := hi2
        have HG1 : Hid (G (ks ++ kdL (L.take j)) w2) := gt.keep _ _ _ HG0.out ho2
        have HW2 : Hid (Below N w w2) := HW.out.trans hb2
        have C1 : Hid _ := CW.out.below hb2
        have HNW : Hid (N ≤ w2.heap.size) := Nat.le_trans hNw HW2.out.size
        clear hi2 ho2 hb2 heq
        go_wp2_with fail
        refine (Below_any key s.g s.fb s.n _ (C1.out.rc s HM.out).1).mono ?_
        rintro e w4 ⟨rfl, hw4⟩
        subst hw4
        cases hbl : belowN key s.n
        · have HB : Hid (belowN key s.n = false) := hbl
          clear hbl
          go_wp2_with fail
          have hq : chO s.n 1 = (L[j + 1]?).map (·.g) := by rw [← C1.out.next j s HS.out]; unfold nxt; rw [HB.out]; rfl
          refine (Right_any gt (ks ++ kdL (L.take j)) (by have := HK.out; rw [List.length_append]; omega) s.g s.fb s.n _ HG1.out (C1.out.rc s HM.out).1 (C1.out.rc s HM.out).2.2.2.1 (C1.out.rc s HM.out).2.2.2.2 (fun q => by have := hNt _ q; have := (C1.out.rc s HM.out).2.2.1; omega) (fun ql w1 hp => by
            have h0 := (C1.out.below (hp.below HNW.out hNt)).okr (j + 1)
            rw [← hq] at h0
            unfold chO at h0
            rw [ql] at h0
            exact h0)).mono ?_
          rintro e w3 ⟨rfl, hg3, hp3⟩
          rw [hq]
          have HI3 : Hid (Inv (j + 1) w3) := ip _ _ _ HI2.out hp3
          have HG3 : Hid (G (ks ++ kdL (L.take (j + 1))) w3) := by show G _ _; rw [kdL_take HS.out, ← List.append_assoc]; exact hg3
          have HB3 : Hid (Below N w w3) := HW2.out.trans (hp3.below HNW.out hNt)
          clear hg3 hp3 hq
          unfold ptrO
          generalize hyy : (Option.map (fun g => (⟨g, 0, none⟩ : Addr)) ((L[j + 1]?).map (·.g))) = yy
          have HYY : Hid (Value.pointer yy = ptrO ((L[j + 1]?).map (·.g))) := by show _ = _; unfold ptrO; rw [hyy]
          clear hyy
          go_wp2_with fail
          exact ⟨⟨j + 1, T2, some s.g, by omega, by first | exact HYY.out | rfl, by first | rfl | exact HXX.out, by go_num, by first | rfl | go_num, by omega, by have := HJT.out; omega, Or.inr ⟨j, by omega, by rw [HS.out]; rfl⟩, HI3.out, HG3.out, HB3.out⟩, by simp [intOf]; omega⟩
        · have HB : Hid (belowN key s.n = true) := hbl
          clear hbl
          go_wp2_with fail
          have hq : chO s.n 0 = (L[j + 1]?).map (·.g) := by rw [← C1.out.next j s HS.out]; unfold nxt; rw [HB.out]; rfl
          refine (Left_any gt (ks ++ kdL (L.take j)) (by have := HK.out; rw [List.length_append]; omega) s.g s.fb s.n _ HG1.out (C1.out.rc s HM.out).1 (C1.out.rc s HM.out).2.2.2.1 (C1.out.rc s HM.out).2.2.2.2 (fun q => by have := hNt _ q; have := (C1.out.rc s HM.out).2.2.1; omega) (fun ql w1 hp => by
            have h0 := (C1.out.below (hp.below HNW.out hNt)).okr (j + 1)
            rw [← hq] at h0
            unfold chO at h0
            rw [ql] at h0
            exact h0)).mono ?_
          rintro e w3 ⟨rfl, hg3, hp3⟩
          rw [hq]
          have HI3 : Hid (Inv (j + 1) w3) := ip _ _ _ HI2.out hp3
          have HG3 : Hid (G (ks ++ kdL (L.take (j + 1))) w3) := by show G _ _; rw [kdL_take HS.out, ← List.append_assoc]; exact hg3
          have HB3 : Hid (Below N w w3) := HW2.out.trans (hp3.below HNW.out hNt)
          clear hg3 hp3 hq
          unfold ptrO
          generalize hyy : (Option.map (fun g => (⟨g, 0, none⟩ : Addr)) ((L[j + 1]?).map (·.g))) = yy
          have HYY : Hid (Value.pointer yy = ptrO ((L[j + 1]?).map (·.g))) := by show _ = _; unfold ptrO; rw [hyy]
          clear hyy
          go_wp2_with fail
          exact ⟨⟨j + 1, T2, some s.g, by omega, by first | exact HYY.out | rfl, by first | rfl | exact HXX.out, by go_num, by first | rfl | go_num, by omega, by have := HJT.out; omega, Or.inr ⟨j, by omega, by rw [HS.out]; rfl⟩, HI3.out, HG3.out, HB3.out⟩, by simp [intOf]; omega⟩
      · have qjt : ((j : Int) == (T : Int)) = false := by rw [beq_eq_false_iff_ne]; omega
        have HJT : Hid (j = T → False) := hjt
        clear hjt
        go_wp2_with fail
        refine (tp j s _ HS.out HI1.out).mono ?_
        rintro e w2 ⟨rfl, hi2, ho2, hb2⟩
        have HI2 : Hid (Inv (j + 1) w2) := hi2
        have HG1 : Hid (G (ks ++ kdL (L.take j)) w2) := gt.keep _ _ _ HG0.out ho2
        have HW2 : Hid (Below N w w2) := HW.out.trans hb2
        have C1 : Hid _ := CW.out.below hb2
        have HNW : Hid (N ≤ w2.heap.size) := Nat.le_trans hNw HW2.out.size
        clear hi2 ho2 hb2 heq
        go_wp2_with fail
        refine (Below_any key s.g s.fb s.n _ (C1.out.rc s HM.out).1).mono ?_
        rintro e w4 ⟨rfl, hw4⟩
        subst hw4
        cases hbl : belowN key s.n
        · have HB : Hid (belowN key s.n = false) := hbl
          clear hbl
          go_wp2_with fail
          have hq : chO s.n 1 = (L[j + 1]?).map (·.g) := by rw [← C1.out.next j s HS.out]; unfold nxt; rw [HB.out]; rfl
          refine (Right_any gt (ks ++ kdL (L.take j)) (by have := HK.out; rw [List.length_append]; omega) s.g s.fb s.n _ HG1.out (C1.out.rc s HM.out).1 (C1.out.rc s HM.out).2.2.2.1 (C1.out.rc s HM.out).2.2.2.2 (fun q => by have := hNt _ q; have := (C1.out.rc s HM.out).2.2.1; omega) (fun ql w1 hp => by
            have h0 := (C1.out.below (hp.below HNW.out hNt)).okr (j + 1)
            rw [← hq] at h0
            unfold chO at h0
            rw [ql] at h0
            exact h0)).mono ?_
          rintro e w3 ⟨rfl, hg3, hp3⟩
          rw [hq]
          have HI3 : Hid (Inv (j + 1) w3) := ip _ _ _ HI2.out hp3
          have HG3 : Hid (G (ks ++ kdL (L.take (j + 1))) w3) := by show G _ _; rw [kdL_take HS.out, ← List.append_assoc]; exact hg3
          have HB3 : Hid (Below N w w3) := HW2.out.trans (hp3.below HNW.out hNt)
          clear hg3 hp3 hq
          unfold ptrO
          generalize hyy : (Option.map (fun g => (⟨g, 0, none⟩ : Addr)) ((L[j + 1]?).map (·.g))) = yy
          have HYY : Hid (Value.pointer yy = ptrO ((L[j + 1]?).map (·.g))) := by show _ = _; unfold ptrO; rw [hyy]
          clear hyy
          go_wp2_with fail
          exact ⟨⟨j + 1, T, x, by omega, by first | exact HYY.out | rfl, by first | rfl | exact HXX.out, by go_num, by first | rfl | go_num, by omega, by have := HJT.out; omega, by rcases HX.out with h | ⟨i, h1, h2⟩; exact Or.inl h; exact Or.inr ⟨i, by omega, h2⟩, HI3.out, HG3.out, HB3.out⟩, by simp [intOf]; omega⟩
        · have HB : Hid (belowN key s.n = true) := hbl
          clear hbl
          go_wp2_with fail
          have hq : chO s.n 0 = (L[j + 1]?).map (·.g) := by rw [← C1.out.next j s HS.out]; unfold nxt; rw [HB.out]; rfl
          refine (Left_any gt (ks ++ kdL (L.take j)) (by have := HK.out; rw [List.length_append]; omega) s.g s.fb s.n _ HG1.out (C1.out.rc s HM.out).1 (C1.out.rc s HM.out).2.2.2.1 (C1.out.rc s HM.out).2.2.2.2 (fun q => by have := hNt _ q; have := (C1.out.rc s HM.out).2.2.1; omega) (fun ql w1 hp => by
            have h0 := (C1.out.below (hp.below HNW.out hNt)).okr (j + 1)
            rw [← hq] at h0
            unfold chO at h0
            rw [ql] at h0
            exact h0)).mono ?_
          rintro e w3 ⟨rfl, hg3, hp3⟩
          rw [hq]
          have HI3 : Hid (Inv (j + 1) w3) := ip _ _ _ HI2.out hp3
          have HG3 : Hid (G (ks ++ kdL (L.take (j + 1))) w3) := by show G _ _; rw [kdL_take HS.out, ← List.append_assoc]; exact hg3
          have HB3 : Hid (Below N w w3) := HW2.out.trans (hp3.below HNW.out hNt)
          clear hg3 hp3 hq
          unfold ptrO
          generalize hyy : (Option.map (fun g => (⟨g, 0, none⟩ : Addr)) ((L[j + 1]?).map (·.g))) = yy
          have HYY : Hid (Value.pointer yy = ptrO ((L[j + 1]?).map (·.g))) := by show _ = _; unfold ptrO; rw [hyy]
          clear hyy
          go_wp2_with fail
          exact ⟨⟨j + 1, T, x, by omega, by first | exact HYY.out | rfl, by first | rfl | exact HXX.out, by go_num, by first | rfl | go_num, by omega, by have := HJT.out; omega, by rcases HX.out with h | ⟨i, h1, h2⟩; exact Or.inl h; exact Or.inr ⟨i, by omega, h2⟩, HI3.out, HG3.out, HB3.out⟩, by simp [intOf]; omega⟩
    · obtain rfl : j = L.length := by omega
      have hn1 : ptrO ((L[L.length]?).map (·.g)) = .pointer none := by rw [List.getElem?_eq_none (Nat.le_refl _)]; rfl
      rw [hn1]
      clear hn1 CW
      generalize hxx : ptrO x = xx
      clear hxx
      go_wp2_with fail
      refine bodyPost_end (results_none rfl _ _ _) rfl ?_
      have hg := HG0.out
      rw [List.take_length] at hg
      exact ⟨rfl, HI1.out, hg, HW.out⟩
end Go.Proofs.Ythdfpddijocfkaa

namespace Go.Proofs.Ythdfpddijocfkaa

open Go.RowKit

attribute [local go_sem ↓] Go.wp_at_zero Go.wp_at_succ

theorem recps_under : Try.prog.underlying 78 = some (.slice 41) := by kernel_rfl
theorem recp_info : (Try.prog.info? 41).map (fun i => (i.zero, i.size, i.bytes)) = some (some (.pointer none), 1, 8) := by kernel_rfl
def ptC (L : List Stp) : List Value := L.map fun s => .pointer (some ⟨s.g, 0, none⟩)
/-- The tapes' boxes are there. -/
def Tbs (Tb : Nat → Prop) (w : World) : Prop := ∀ t, Tb t → typ w t 102
theorem Tbs.pd {Tb : Nat → Prop} {w w' : World} (h : Tbs Tb w) (k : Pd Tb w w') : Tbs Tb w' := fun t q => k.box t _ q (h t q)
theorem Tbs.od {Tb : Nat → Prop} {w w' : World} (h : Tbs Tb w) (k : Od Tb w w') : Tbs Tb w' := fun t q => (typ.same (k.here t q (h t q).lt)).2 (h t q)
theorem Tbs.not {Tb : Nat → Prop} {w : World} (h : Tbs Tb w) {b : Nat} {T : TypeId} (ht : typ w b T) (hT : T ≠ 102) : ¬ Tb b := fun q => hT (ht.one (h b q))
theorem typ.keepPd {Tb : Nat → Prop} {w w' : World} (k : Pd Tb w w') (hb : Tbs Tb w) {b : Nat} {T : TypeId} (ht : typ w b T) (h1 : T ≠ 102) (h2 : T ≠ 3) : w'.heap[b]? = w.heap[b]? := k.blk b ht.lt (hb.not ht h1) (fun q => h2 (ht.one q))
/-- An own row stands beside a pass. -/
theorem owns_pd {Tb : Nat → Prop} {w w' : World} (k : Pd Tb w w') (hb : Tbs Tb w) {B sz : Nat} {e : TypeId} {v : Value} {n : Nat} {xs : List Value} (h : w.ownsRow B e sz v n xs) (h1 : e ≠ 102) (h2 : e ≠ 3) : w'.ownsRow B e sz v n xs := by
  obtain ⟨a1, a2⟩ := h
  refine ⟨a1, ?_⟩
  rcases a2 with ⟨rfl, e0⟩ | ⟨g, cap, cur, rfl, hB, hg, hr⟩
  · exact Or.inl ⟨rfl, e0⟩
  · exact Or.inr ⟨g, cap, cur, rfl, hB, (typ.keepPd k hb ⟨_, _, hg⟩ h1 h2).trans hg, hr⟩
/-- Path's box: the row of the nodes that were told. -/
structure PInv (Tb : Nat → Prop) (pb B : Nat) (L : List Stp) (j : Nat) (w : World) : Prop where
  row : ∃ v, w.heap[pb]? = some (.cells #[v] 78 (0, 0)) ∧ w.ownsRow B 41 1 v j (ptC (L.take j))
  lt : pb < B
  size : B ≤ w.heap.size
  tbs : Tbs Tb w
theorem PInv.pd {Tb : Nat → Prop} {pb B : Nat} {L : List Stp} {j : Nat} {w w' : World} (h : PInv Tb pb B L j w) (k : Pd Tb w w') : PInv Tb pb B L j w' := by
  obtain ⟨⟨v, hb, ho⟩, hlt, hsz, ht⟩ := h
  exact ⟨⟨v, (typ.keepPd k ht ⟨_, _, hb⟩ (by decide) (by decide)).trans hb, owns_pd k ht ho (by decide) (by decide)⟩, hlt, Nat.le_trans hsz k.size, ht.pd k⟩
theorem take_ptC {L : List Stp} {j : Nat} {s : Stp} (h : L[j]? = some s) : ptC (L.take (j + 1)) = ptC (L.take j) ++ [.pointer (some ⟨s.g, 0, none⟩)] := by
  have hj := (List.getElem?_eq_some_iff.1 h).1
  have e : L[j] = s := (List.getElem?_eq_some_iff.1 h).2
  rw [List.take_succ_eq_append_getElem hj, e]
  simp [ptC]

set_option maxRecDepth 100000 in
set_option maxHeartbeats 1000000 in
theorem path_tell (Tb : Nat → Prop) (pb B N : Nat) (L : List Stp) (j : Nat) (s : Stp) (w : World) (hs : L[j]? = some s) (hL : L.length ≤ 100000) (h : PInv Tb pb B L j w) (hN : N ≤ pb) :
    Calls Try.prog 53 #[.pointer (some ⟨s.g, 0, none⟩), .pointer (some ⟨pb, 0, none⟩)] w fun e w' => e = .returned (.tuple #[]) ∧ PInv Tb pb B L (j + 1) w' ∧ Od Tb w w' ∧ Below N w w' := by
  obtain ⟨i0, hi0, hz0, hz1, hz2⟩ := info_parts recp_info
  obtain ⟨⟨v, hb, ho⟩, hlt, hsz, htb⟩ := h
  have HTB : Hid (Tbs Tb w) := htb
  have hjl := (List.getElem?_eq_some_iff.1 hs).1
  have hc : w.cell? ⟨pb, 0, none⟩ = some v := by simp [World.cell?, hb]
  have hz : w.frozen? ⟨pb, 0, none⟩ = false := by simp [World.frozen?, hb]
  obtain ⟨a, c, rfl⟩ := owns_slice ho
  have HT : Hid (∀ r, Value.ownBlock (.slice a j c) = some r → typ w r 41) := fun r q => owns_typ ho q
  have HB : Hid (w.heap[pb]? = some (.cells #[.slice a j c] 78 (0, 0))) := hb
  have HS : Hid (L[j]? = some s) := hs
  have HOG := owns_lt ho
  clear htb hb hs
  go_enter Try.func53, Try.ntmps53
  go_wp2_with (first | (at_builtin; (refine wpList_append_lies _ (by rfl) _ _ _ (by rfl) B 41 i0 _ 1 8 recps_under hi0 hz0 hz1 hz2 rfl (by omega) _ j (ptC (L.take j)) (by rfl) (ho.alloc _) ⟨w.heap.size, 0, none⟩ 1 1 [.pointer (some ⟨s.g, 0, none⟩)] (by rfl) (by rfl) (World.news_of_block (cs := #[.pointer (some ⟨s.g, 0, none⟩)]) (t := 41) (fr := (0, 0)) (heap_alloc_at _ _ _ rfl)) (by simp [Value.oneCell']) (by omega) (by unfold maxLen; omega) (by omega) (by simp; omega) (w.heap.size + 1) (by simp) ?_); intro gg cap w1 hown1 hgrow hat hlt1; have hB1 : Below B w w1 := Below.grown ((Below.refl B w).alloc hsz _) hgrow (by simp; omega) (fun k hk => (HOG k hk).1); have HG : Hid (World.grownBy _ _ _) := hgrow; have hc1 := (hB1.cell (p := ⟨pb, 0, none⟩) hlt).trans hc; have hz1' := (hB1.frozen (p := ⟨pb, 0, none⟩) hlt).trans hz))
  refine bodyPost_end (results_none rfl _ _ _) rfl ?_
  have hs1 : B ≤ w1.heap.size := Nat.le_trans hsz hB1.size
  have hb1 : w1.heap[pb]? = some (.cells #[.slice a j c] 78 (0, 0)) := (hB1.block pb hlt).trans HB.out
  have hrow : (w1.setCell ⟨pb, 0, none⟩ (.slice (some ⟨gg, 0, none⟩) (j + 1) cap)).ownsRow B 41 1 (.slice (some ⟨gg, 0, none⟩) (j + 1) cap) (j + 1) (ptC (L.take (j + 1))) := by
    rw [take_ptC HS.out]
    exact owns_apart hown1 pb 0 _ hlt
  have OD : Od Tb w (w1.setCell ⟨pb, 0, none⟩ (.slice (some ⟨gg, 0, none⟩) (j + 1) cap)) := by
    refine Od.trans (Od.trans (Od.of_below (below_alloc w _)) (Od.grown HG.out (fun r q => ?_))) (Od.set ⟨_, _, hb1⟩ (by decide) (HTB.out.not ⟨_, _, HB.out⟩ (by decide)))
    refine ⟨HTB.out.not (HT.out r q) (by decide), 41, by decide, ?_⟩
    obtain ⟨cs, fr, e⟩ := HT.out r q
    exact ⟨cs, fr, (heap_alloc_old _ _ (Array.getElem?_eq_some_iff.1 e).1).trans e⟩
  refine ⟨rfl, ⟨⟨_, ?_, hrow⟩, hlt, by simpa using hs1, HTB.out.od OD⟩, OD, ?_⟩
  · rw [Go.Joins.block_setCell hb1]
    rfl
  · exact (hB1.mono (by omega)).setCell (by simpa using hN) _

set_option maxRecDepth 100000 in
set_option maxHeartbeats 1000000 in
theorem Path_any {gv : Value} {Tb : Nat → Prop} {most : Nat} {G : List Int → World → Prop} (gt : GateS gv Tb most G) (ks : List Int) (key : Int) (N : Nat) (hNt : ∀ t, Tb t → N ≤ t) (L : List Stp) (w : World) (hNw : N ≤ w.heap.size) (hC : ChainAt w key N L) (hL : L.length ≤ 100000) (hk : ks.length + (kdL L).length < most) (hG : G ks w) (hT : Tbs Tb w) :
    Calls Try.prog 33 #[gv, ptrO ((L[0]?).map (·.g)), .int .i64 key] w fun e w' => ∃ v, e = .returned v ∧ w'.ownsRow w.heap.size 41 1 v L.length (ptC L) ∧ G (ks ++ kdL L) w' ∧ Tbs Tb w' ∧ Below N w w' := by
  have ODA : Od Tb w (w.alloc (.cells #[.slice none 0 0] 78)) := Od.of_below (below_alloc w _)
  have PI : PInv Tb w.heap.size (w.heap.size + 1) L 0 (w.alloc (.cells #[.slice none 0 0] 78)) := ⟨⟨.slice none 0 0, heap_alloc_at _ _ _ rfl, World.ownsRow_nil _ _ _ _⟩, by omega, by simp, hT.od ODA⟩
  have HS : Hid _ := search_path gt ks w.heap.size key N hNt L (w.alloc (.cells #[.slice none 0 0] 78)) (by simp; omega) (hC.below ((below_alloc w _).mono hNw)) hL hk (PInv Tb w.heap.size (w.heap.size + 1) L) PI (gt.keep _ _ _ hG ODA) (fun j w w' h k => h.pd k) (fun j s w hs h => path_tell Tb _ _ N L j s w hs hL h (by omega))
  have HB0 : Hid (Below N w (w.alloc (.cells #[.slice none 0 0] 78))) := (below_alloc w _).mono hNw
  clear PI ODA hC hG hT
  unfold ptrO at HS ⊢
  generalize (Option.map (fun g => (⟨g, 0, none⟩ : Addr)) ((L[0]?).map (·.g))) = y0 at HS ⊢
  go_enter Try.func33, Try.ntmps33
  go_wp2_with fail
  refine Calls.mono HS.out ?_
  rintro e w2 ⟨rfl, hi, hg, hb⟩
  obtain ⟨⟨v, hv, ho⟩, hlt, hsz, htb⟩ := hi
  have c0 : w2.cell? ⟨w.heap.size, 0, none⟩ = some v := by simp [World.cell?, hv]
  have HO : Hid (w2.ownsRow (w.heap.size + 1) 41 1 v L.length (ptC L)) := by
    rw [List.take_length] at ho
    exact ho
  have HG : Hid (G (ks ++ kdL L) w2) := hg
  have HT : Hid (Tbs Tb w2) := htb
  have HB : Hid (Below N w w2) := HB0.out.trans hb
  clear hv ho hg htb hb
  go_wp2_with fail
  go_ret
  exact ⟨_, rfl, owns_down HO.out (by omega), HG.out, HT.out, HB.out⟩
def la (L : List Stp) (j k : Nat) : Option Nat := if k ≤ j then (L[j - k]?).map (·.g) else none
theorem la_one (L : List Stp) (j : Nat) : la L (j + 1) 1 = (L[j]?).map (·.g) := by unfold la; rw [if_pos (by omega)]; rfl
theorem la_next (L : List Stp) (j k : Nat) : la L (j + 1) (k + 1) = la L j k := by
  unfold la
  by_cases h : k ≤ j
  · rw [if_pos h, if_pos (by omega), show j + 1 - (k + 1) = j - k by omega]
  · rw [if_neg h, if_neg (by omega)]
/-- Find's boxes. -/
structure FInv (Tb : Nat → Prop) (N b1 b2 b3 : Nat) (L : List Stp) (j : Nat) (w : World) : Prop where
  c1 : w.heap[b1]? = some (.cells #[ptrO (la L j 1)] 41 (0, 0))
  c2 : w.heap[b2]? = some (.cells #[ptrO (la L j 2)] 41 (0, 0))
  c3 : w.heap[b3]? = some (.cells #[ptrO (la L j 3)] 41 (0, 0))
  ne : b1 ≠ b2 ∧ b1 ≠ b3 ∧ b2 ≠ b3
  ge : N ≤ b1 ∧ N ≤ b2 ∧ N ≤ b3
  tbs : Tbs Tb w
theorem FInv.pd {Tb : Nat → Prop} {N b1 b2 b3 : Nat} {L : List Stp} {j : Nat} {w w' : World} (h : FInv Tb N b1 b2 b3 L j w) (k : Pd Tb w w') : FInv Tb N b1 b2 b3 L j w' :=
  ⟨(typ.keepPd k h.tbs ⟨_, _, h.c1⟩ (by decide) (by decide)).trans h.c1, (typ.keepPd k h.tbs ⟨_, _, h.c2⟩ (by decide) (by decide)).trans h.c2, (typ.keepPd k h.tbs ⟨_, _, h.c3⟩ (by decide) (by decide)).trans h.c3, h.ne, h.ge, h.tbs.pd k⟩
theorem box_set {w : World} {b : Nat} {u : Value} {T : TypeId} (h : w.heap[b]? = some (.cells #[u] T (0, 0))) (v : Value) : (w.setCell ⟨b, 0, none⟩ v).heap[b]? = some (.cells #[v] T (0, 0)) := by
  rw [Go.Joins.block_setCell h]
  rfl
theorem box_apart {w : World} {b c : Nat} {o : Obj} (h : w.heap[b]? = some o) (hne : b ≠ c) (v : Value) : (w.setCell ⟨c, 0, none⟩ v).heap[b]? = some o := by
  rw [Below.heap_setCell _ _ _ _ (by simpa using hne)]
  exact h

set_option maxRecDepth 100000 in
set_option maxHeartbeats 1000000 in
theorem find_tell (Tb : Nat → Prop) (b1 b2 b3 N : Nat) (L : List Stp) (j : Nat) (s : Stp) (w : World) (hs : L[j]? = some s) (h : FInv Tb N b1 b2 b3 L j w) :
    Calls Try.prog 50 #[.pointer (some ⟨s.g, 0, none⟩), .pointer (some ⟨b1, 0, none⟩), .pointer (some ⟨b2, 0, none⟩), .pointer (some ⟨b3, 0, none⟩)] w fun e w' => e = .returned (.tuple #[]) ∧ FInv Tb N b1 b2 b3 L (j + 1) w' ∧ Od Tb w w' ∧ Below N w w' := by
  obtain ⟨h1, h2, h3, ⟨n1, n2, n3⟩, ⟨g1, g2, g3⟩, ht⟩ := h
  have d1 : w.cell? ⟨b1, 0, none⟩ = some (ptrO (la L j 1)) := by simp [World.cell?, h1]
  have d2 : w.cell? ⟨b2, 0, none⟩ = some (ptrO (la L j 2)) := by simp [World.cell?, h2]
  have d3 : w.cell? ⟨b3, 0, none⟩ = some (ptrO (la L j 3)) := by simp [World.cell?, h3]
  have f1 : w.frozen? ⟨b1, 0, none⟩ = false := by simp [World.frozen?, h1]
  have f2 : w.frozen? ⟨b2, 0, none⟩ = false := by simp [World.frozen?, h2]
  have f3 : w.frozen? ⟨b3, 0, none⟩ = false := by simp [World.frozen?, h3]
  have p1 : ptrO (la L (j + 1) 1) = .pointer (some ⟨s.g, 0, none⟩) := by rw [la_one, hs]; rfl
  have A1 := box_set h1 (.pointer (some ⟨s.g, 0, none⟩))
  have A2 := box_apart h2 (Ne.symm n1) (.pointer (some ⟨s.g, 0, none⟩))
  have A3 := box_apart h3 (Ne.symm n2) (.pointer (some ⟨s.g, 0, none⟩))
  have B1 := box_apart A1 n1 (ptrO (la L j 1))
  have B2 := box_set A2 (ptrO (la L j 1))
  have B3 := box_apart A3 (Ne.symm n3) (ptrO (la L j 1))
  have C1 := box_apart B1 n2 (ptrO (la L j 2))
  have C2 := box_apart B2 n3 (ptrO (la L j 2))
  have C3 := box_set B3 (ptrO (la L j 2))
  have o1 : Od Tb w _ := Od.set (v := .pointer (some ⟨s.g, 0, none⟩)) (j := 0) ⟨_, _, h1⟩ (by decide) (ht.not ⟨_, _, h1⟩ (by decide))
  have o2 : Od Tb _ _ := Od.set (v := ptrO (la L j 1)) (j := 0) ⟨_, _, A2⟩ (by decide) (ht.not ⟨_, _, h2⟩ (by decide))
  have o3 : Od Tb _ _ := Od.set (v := ptrO (la L j 2)) (j := 0) ⟨_, _, B3⟩ (by decide) (ht.not ⟨_, _, h3⟩ (by decide))
  have OD := (o1.trans o2).trans o3
  have BL : Below N w _ := (((Below.refl N w).setCell (p := ⟨b1, 0, none⟩) g1 (.pointer (some ⟨s.g, 0, none⟩))).setCell (p := ⟨b2, 0, none⟩) g2 (ptrO (la L j 1))).setCell (p := ⟨b3, 0, none⟩) g3 (ptrO (la L j 2))
  have FI : Hid (FInv Tb N b1 b2 b3 L (j + 1) (((w.setCell ⟨b1, 0, none⟩ (.pointer (some ⟨s.g, 0, none⟩))).setCell ⟨b2, 0, none⟩ (ptrO (la L j 1))).setCell ⟨b3, 0, none⟩ (ptrO (la L j 2)))) := ⟨by rw [p1]; exact C1, by rw [la_next]; exact C2, by rw [la_next]; exact C3, ⟨n1, n2, n3⟩, ⟨g1, g2, g3⟩, ht.od OD⟩
  have HO : Hid (Od Tb w _) := OD
  have HB : Hid (Below N w _) := BL
  have c2' : (w.setCell ⟨b1, 0, none⟩ (.pointer (some ⟨s.g, 0, none⟩))).cell? ⟨b2, 0, none⟩ = some (ptrO (la L j 2)) := by simp [World.cell?, A2]
  have c3' : ((w.setCell ⟨b1, 0, none⟩ (.pointer (some ⟨s.g, 0, none⟩))).setCell ⟨b2, 0, none⟩ (ptrO (la L j 1))).cell? ⟨b3, 0, none⟩ = some (ptrO (la L j 3)) := by simp [World.cell?, B3]
  clear h1 h2 h3 A1 A2 A3 B1 B2 B3 C1 C2 C3 o1 o2 o3 OD BL ht p1 hs
  generalize la L j 1 = y1 at *
  generalize la L j 2 = y2 at *
  generalize la L j 3 = y3 at *
  unfold ptrO at *
  generalize (Option.map (fun g => (⟨g, 0, none⟩ : Addr)) y1) = z1 at *
  generalize (Option.map (fun g => (⟨g, 0, none⟩ : Addr)) y2) = z2 at *
  generalize (Option.map (fun g => (⟨g, 0, none⟩ : Addr)) y3) = z3 at *
  go_enter Try.func50, Try.ntmps50
  go_wp2_with fail
  refine bodyPost_end (results_none rfl _ _ _) rfl ?_
  exact ⟨rfl, FI.out, HO.out, HB.out⟩
end Go.Proofs.Ythdfpddijocfkaa

namespace Go.Proofs.Ythdfpddijocfkaa

open Go.RowKit

attribute [local go_sem ↓] Go.wp_at_zero Go.wp_at_succ

theorem results_cell3 {fn : Func} {p u q : Tmp} {ty ty' ty'' : TypeId} (h : fn.results = #[.cell p ty, .cell u ty', .cell q ty'']) (tmps : Array Value) (P : Program) (w : World) :
    (results fn tmps).run P w =
      ((asAddr (tmps.getD p undef)).run P w).andThen fun a w₁ => ((loadVar ty a).run P w₁).andThen fun v w₂ => ((asAddr (tmps.getD u undef)).run P w₂).andThen fun a' w₃ => ((loadVar ty' a').run P w₃).andThen fun v' w₄ => ((asAddr (tmps.getD q undef)).run P w₄).andThen fun a'' w₅ => ((loadVar ty'' a'').run P w₅).andThen fun v'' w₆ => .ok (.tuple #[v, v', v'']) w₆ := by
  simp only [results, h]
  simp [Sem.run_bind, Result.andThen]
theorem Od.drew {Tb : Nat → Prop} {w w' : World} (h : Od Tb w w') : Od Tb w w'.drew := ⟨h.size, h.here, h.ints⟩
/-- The three boxes are stored once more as they are. -/
theorem boxes_again {w : World} {b1 b2 b3 : Nat} {v1 v2 v3 : Value} {T : TypeId} (h1 : w.heap[b1]? = some (.cells #[v1] T (0, 0))) (h2 : w.heap[b2]? = some (.cells #[v2] T (0, 0))) (h3 : w.heap[b3]? = some (.cells #[v3] T (0, 0))) (n1 : b1 ≠ b2) (n2 : b1 ≠ b3) (n3 : b2 ≠ b3) :
    ∀ W, (W = ((w.setCell ⟨b1, 0, none⟩ v1).setCell ⟨b2, 0, none⟩ v2).setCell ⟨b3, 0, none⟩ v3) → W.heap[b1]? = some (.cells #[v1] T (0, 0)) ∧ W.heap[b2]? = some (.cells #[v2] T (0, 0)) ∧ W.heap[b3]? = some (.cells #[v3] T (0, 0)) := by
  rintro W rfl
  have A1 := box_set h1 v1
  have A2 := box_apart h2 (Ne.symm n1) v1
  have A3 := box_apart h3 (Ne.symm n2) v1
  have B1 := box_apart A1 n1 v2
  have B2 := box_set A2 v2
  have B3 := box_apart A3 (Ne.symm n3) v2
  exact ⟨box_apart B1 n2 v3, box_apart B2 n3 v3, box_set B3 v3⟩

set_option maxRecDepth 100000 in
set_option maxHeartbeats 2000000 in
theorem Find_any {gv : Value} {Tb : Nat → Prop} {most : Nat} {G : List Int → World → Prop} (gt : GateS gv Tb most G) (ks : List Int) (key : Int) (N : Nat) (hNt : ∀ t, Tb t → N ≤ t) (L : List Stp) (w : World) (hNw : N ≤ w.heap.size) (hC : ChainAt w key N L) (hL : L.length ≤ 100000) (hk : ks.length + (kdL L).length < most) (hG : G ks w) (hT : Tbs Tb w) :
    Calls Try.prog 30 #[gv, ptrO ((L[0]?).map (·.g)), .int .i64 key] w fun e w' => e = .returned (.tuple #[ptrO (la L L.length 1), ptrO (la L L.length 2), ptrO (la L L.length 3)]) ∧ G (ks ++ kdL L) w' ∧ Tbs Tb w' ∧ Below N w w' := by
  obtain ⟨W, hW⟩ : ∃ W, W = ((w.alloc (.cells #[.pointer none] 41)).alloc (.cells #[.pointer none] 41)).alloc (.cells #[.pointer none] 41) := ⟨_, rfl⟩
  have HB0 : Below w.heap.size w W := by rw [hW]; exact ((below_alloc w _).alloc (by simp) _).alloc (by simp; omega) _
  have ODA : Od Tb w W := Od.of_below HB0
  have h1 : W.heap[w.heap.size]? = some (.cells #[.pointer none] 41 (0, 0)) := by
    rw [hW]
    exact (heap_alloc_old _ _ (by simp; omega)).trans ((heap_alloc_old _ _ (by simp)).trans (heap_alloc_at _ _ _ rfl))
  have h2 : W.heap[w.heap.size + 1]? = some (.cells #[.pointer none] 41 (0, 0)) := by
    rw [hW]
    exact (heap_alloc_old _ _ (by simp)).trans (heap_alloc_at _ _ _ (by simp))
  have h3 : W.heap[w.heap.size + 1 + 1]? = some (.cells #[.pointer none] 41 (0, 0)) := by
    rw [hW]
    exact heap_alloc_at _ _ _ (by simp)
  have FI : FInv Tb N w.heap.size (w.heap.size + 1) (w.heap.size + 1 + 1) L 0 W := ⟨h1, h2, h3, ⟨by omega, by omega, by omega⟩, ⟨hNw, by omega, by omega⟩, hT.od ODA⟩
  have HS : Hid _ := search_find gt ks w.heap.size (w.heap.size + 1) (w.heap.size + 1 + 1) key N hNt L W (by have := HB0.size; omega) (hC.below (HB0.mono hNw)) hL hk (FInv Tb N w.heap.size (w.heap.size + 1) (w.heap.size + 1 + 1) L) FI (gt.keep _ _ _ hG ODA) (fun j w w' h k => h.pd k) (fun j s w hs h => find_tell Tb _ _ _ N L j s w hs h)
  have HB : Hid (Below N w W) := HB0.mono hNw
  have HGK : Hid (∀ ks w w', G ks w → Od Tb w w' → G ks w') := gt.keep
  clear FI ODA hC hG hT h1 h2 h3 HB0
  obtain ⟨z1, hz1⟩ : ∃ z, ptrO (la L L.length 1) = .pointer z := ⟨_, rfl⟩
  obtain ⟨z2, hz2⟩ : ∃ z, ptrO (la L L.length 2) = .pointer z := ⟨_, rfl⟩
  obtain ⟨z3, hz3⟩ : ∃ z, ptrO (la L L.length 3) = .pointer z := ⟨_, rfl⟩
  have HZ1 : Hid (ptrO (la L L.length 1) = .pointer z1) := hz1
  have HZ2 : Hid (ptrO (la L L.length 2) = .pointer z2) := hz2
  have HZ3 : Hid (ptrO (la L L.length 3) = .pointer z3) := hz3
  rw [hz1, hz2, hz3]
  clear hz1 hz2 hz3
  unfold ptrO at HS
  generalize hy : ptrO ((L[0]?).map (·.g)) = y0
  unfold ptrO at hy
  generalize (Option.map (fun g => (⟨g, 0, none⟩ : Addr)) ((L[0]?).map (·.g))) = y1 at HS hy
  subst hy
  subst hW
  go_enter Try.func30, Try.ntmps30
  go_wp2_with fail
  refine Calls.mono HS.out ?_
  rintro e w2 ⟨rfl, hi, hg, hb⟩
  obtain ⟨c1, c2, c3, ⟨n1, n2, n3⟩, ⟨g1, g2, g3⟩, ht⟩ := hi
  rw [HZ1.out] at c1
  rw [HZ2.out] at c2
  rw [HZ3.out] at c3
  have HG : Hid (G (ks ++ kdL L) w2) := hg
  have HT : Hid (Tbs Tb w2) := ht
  have HBB : Hid (Below N w w2) := HB.out.trans hb
  have BA := boxes_again c1 c2 c3 n1 n2 n3
  have o1 : Od Tb w2 _ := Od.set (v := .pointer z1) (j := 0) ⟨_, _, c1⟩ (by decide) (ht.not ⟨_, _, c1⟩ (by decide))
  have o2 : Od Tb _ _ := Od.set (v := .pointer z2) (j := 0) ⟨_, _, box_apart c2 (Ne.symm n1) (.pointer z1)⟩ (by decide) (ht.not ⟨_, _, c2⟩ (by decide))
  have o3 : Od Tb _ _ := Od.set (v := .pointer z3) (j := 0) ⟨_, _, box_apart (box_apart c3 (Ne.symm n2) (.pointer z1)) (Ne.symm n3) (.pointer z2)⟩ (by decide) (ht.not ⟨_, _, c3⟩ (by decide))
  have OD : Hid (Od Tb w2 _) := (o1.trans o2).trans o3
  have BL : Hid (Below N w2 _) := (((Below.refl N w2).setCell (p := ⟨w.heap.size, 0, none⟩) g1 (.pointer z1)).setCell (p := ⟨w.heap.size + 1, 0, none⟩) g2 (.pointer z2)).setCell (p := ⟨w.heap.size + 1 + 1, 0, none⟩) g3 (.pointer z3)
  have BO := BA _ rfl
  have HBO : Hid _ := BO
  have d1 : w2.cell? ⟨w.heap.size, 0, none⟩ = some (.pointer z1) := by simp [World.cell?, c1]
  have d2 : w2.cell? ⟨w.heap.size + 1, 0, none⟩ = some (.pointer z2) := by simp [World.cell?, c2]
  have d3 : w2.cell? ⟨w.heap.size + 1 + 1, 0, none⟩ = some (.pointer z3) := by simp [World.cell?, c3]
  have f1 : w2.frozen? ⟨w.heap.size, 0, none⟩ = false := by simp [World.frozen?, c1]
  have f2 : w2.frozen? ⟨w.heap.size + 1, 0, none⟩ = false := by simp [World.frozen?, c2]
  have f3 : w2.frozen? ⟨w.heap.size + 1 + 1, 0, none⟩ = false := by simp [World.frozen?, c3]
  clear BA BO o1 o2 o3 c1 c2 c3 n1 n2 n3 hg ht hb
  go_wp2_with fail
  go_region
  go_wp2_with fail
  refine bodyPost_ret (v := .tuple #[.pointer z1, .pointer z2, .pointer z3]) ?_ rfl ?_
  · rw [results_cell3 rfl]; go_simp
  · exact ⟨rfl, HGK.out _ _ _ HG.out (Od.drew OD.out), HT.out.od (Od.drew OD.out), HBB.out.trans BL.out.drew⟩

/-- What Get answers of the leaf at which the search ends. -/
def getN (key : Int) (n : GN) : Option Int := if n.lf = true ∧ n.i = 0 ∧ n.k = key then some n.v else none
def getA (r : Option Int) : Value := .tuple #[.int .i64 (r.getD 0), .bool r.isSome]
theorem la_last {L : List Stp} {s : Stp} (h : L.getLast? = some s) : la L L.length 1 = some s.g := by
  have hn : L ≠ [] := fun e => by rw [e] at h; cases h
  have hl : 0 < L.length := List.length_pos_iff.2 hn
  unfold la
  rw [if_pos (by omega)]
  rw [List.getLast?_eq_getElem?] at h
  rw [h]
  rfl
set_option maxRecDepth 100000 in
set_option maxHeartbeats 1000000 in
theorem Get_any {gv : Value} {Tb : Nat → Prop} {most : Nat} {G : List Int → World → Prop} (gt : GateS gv Tb most G) (ks : List Int) (key : Int) (N : Nat) (hNt : ∀ t, Tb t → N ≤ t) (L : List Stp) (w : World) (hNw : N ≤ w.heap.size) (hC : ChainAt w key N L) (hL : L.length ≤ 100000) (hk : ks.length + (kdL L).length < most) (hG : G ks w) (hT : Tbs Tb w) (s : Stp) (hs : L.getLast? = some s) :
    Calls Try.prog 32 #[gv, ptrO ((L[0]?).map (·.g)), .int .i64 key] w fun e w' => e = .returned (getA (getN key s.n)) ∧ G (ks ++ kdL L) w' ∧ Tbs Tb w' ∧ Below N w w' := by
  have HF : Hid _ := Find_any gt ks key N hNt L w hNw hC hL hk hG hT
  have hl := la_last hs
  have hm : s ∈ L := List.mem_of_getLast? hs
  have HR : Hid (∀ w', Below N w w' → RcAt w' s.g s.fb s.n) := fun w' hb => ((hC.below hb).rc s hm).1
  rw [hl] at HF
  clear hC hs hl hm hG hT
  generalize la L L.length 2 = y2 at HF
  generalize la L L.length 3 = y3 at HF
  generalize hy : ptrO ((L[0]?).map (·.g)) = y0 at HF ⊢
  unfold ptrO at hy HF
  simp only [Option.map_some] at HF
  generalize (Option.map (fun g => (⟨g, 0, none⟩ : Addr)) ((L[0]?).map (·.g))) = y1 at hy
  generalize (Option.map (fun g => (⟨g, 0, none⟩ : Addr)) y2) = z2 at HF
  generalize (Option.map (fun g => (⟨g, 0, none⟩ : Addr)) y3) = z3 at HF
  subst hy
  unfold getN
  have key1 : ∀ (a : Bool), s.n.lf = a → ∀ (b : Bool), (s.n.i != 0) = b → ∀ (d : Bool), (s.n.k != key) = d → Calls Try.prog 32 #[gv, .pointer y1, .int .i64 key] w fun e w' => e = .returned (getA (if a = true ∧ b = false ∧ d = false then some s.n.v else none)) ∧ G (ks ++ kdL L) w' ∧ Tbs Tb w' ∧ Below N w w' := by
    intro a ha b hb d hd
    cases a <;> cases b <;> cases d
    all_goals
      go_enter Try.func32, Try.ntmps32
      go_wp2_with fail
      refine Calls.mono HF.out ?_
      rintro e w2 ⟨rfl, hg, ht, hbw⟩
      obtain ⟨c0, c1, _, c3, c4, _⟩ := (HR.out w2 hbw).cells
      rw [ha] at c4
      have HG : Hid (G (ks ++ kdL L) w2) := hg
      have HT : Hid (Tbs Tb w2) := ht
      have HB : Hid (Below N w w2) := hbw
      clear hg ht hbw
      go_wp2_with fail
      go_ret2
      exact ⟨rfl, HG.out, HT.out, HB.out⟩
  have h2 := key1 s.n.lf rfl (s.n.i != 0) rfl (s.n.k != key) rfl
  have e : (s.n.lf = true ∧ (s.n.i != 0) = false ∧ (s.n.k != key) = false) ↔ (s.n.lf = true ∧ s.n.i = 0 ∧ s.n.k = key) := by simp
  simpa only [e] using h2
end Go.Proofs.Ythdfpddijocfkaa


namespace Go.Proofs.Ythdfpddijocfkaa

open Go.RowKit

attribute [local go_sem ↓] Go.wp_at_zero Go.wp_at_succ

/-- A table numbered from its root: where the children stand. -/
structure LaidOk (T : NL) : Prop where
  pos : 0 < T.length
  big : T.length ≤ 100000
  each : ∀ k, k < T.length → (ndP (ndAt T k)).ok ∧ (((ndAt T k).l = -1 ∧ (ndAt T k).r = -1) ∨ ∃ r : Nat, (ndAt T k).l = ((k + 1 : Nat) : Int) ∧ (ndAt T k).r = (r : Int) ∧ k + 1 < r ∧ r < T.length ∧ (ndAt T k).val = 0)
theorem lay_ok {b : BT} (hb : b.ok) (hs : b.size ≤ 100000) : LaidOk (b.lay 0) := by
  refine ⟨by rw [BT.lay_length]; exact b.size_pos, by rw [BT.lay_length]; exact hs, fun k hk => ?_⟩
  rw [BT.lay_length] at hk
  obtain ⟨h1, h2⟩ := laid_each b hb (laid_self b) k hk
  simp only [Nat.zero_add] at h1 h2
  refine ⟨h1, ?_⟩
  rcases h2 with h2 | ⟨h2, h3, h4, h5⟩
  · exact Or.inl h2
  · exact Or.inr ⟨(ndAt (b.lay 0) k).r.toNat, h2, by omega, by omega, by rw [BT.lay_length]; omega, h5⟩
theorem norm_lay {t : NL} (he : formE t = 0) : ∃ b : BT, normL t = b.lay 0 ∧ b.ok ∧ b.size ≤ 100000 ∧ Abs t 0 b := by
  obtain ⟨hb, hf⟩ := formE_ok he
  obtain ⟨b, h1, h2, h3⟩ := form_abs hf
  obtain ⟨ht, hn, hl⟩ := theL_form hf
  exact ⟨b, by rw [normL_ok he]; exact part_lay ht hn h1, h3, by omega, h1⟩
theorem norm_ok {t : NL} (he : formE t = 0) : LaidOk (normL t) := by
  obtain ⟨b, h1, h2, h3, _⟩ := norm_lay he
  rw [h1]
  exact lay_ok h2 h3
/-- The node at a place of a table, by the blocks of all places. -/
def gnT (T : NL) (G : Nat → Nat) (i : Nat) : GN := if (ndAt T i).l = -1 then ⟨(ndAt T i).key, (ndAt T i).inf, (ndAt T i).wt, (ndAt T i).val, true, []⟩ else ⟨(ndAt T i).key, (ndAt T i).inf, (ndAt T i).wt, 0, false, [some (G (ndAt T i).l.toNat), some (G (ndAt T i).r.toNat)]⟩
/-- The nodes from place k on are made. -/
structure MdAt (T : NL) (nb k : Nat) (G F : Nat → Nat) (w : World) : Prop where
  row : ∃ cs, w.heap[nb]? = some (.cells cs 41 (0, 0)) ∧ cs.size = T.length ∧ ∀ i, k ≤ i → i < T.length → cs[i]? = some (.pointer (some ⟨G i, 0, none⟩))
  rcd : ∀ i, k ≤ i → i < T.length → RcAt w (G i) (F i) (gnT T G i) ∧ nb < G i ∧ nb < F i
  dec : ∀ i j, k ≤ i → i < j → j < T.length → G j < G i
theorem MdAt.below {T : NL} {nb k : Nat} {G F : Nat → Nat} {w w' : World} (h : MdAt T nb k G F w) (hb : Below w.heap.size w w') : MdAt T nb k G F w' := by
  obtain ⟨cs, h1, h2⟩ := h.row
  exact ⟨⟨cs, (hb.block _ (Array.getElem?_eq_some_iff.1 h1).1).trans h1, h2⟩, fun i h1 h2 => ⟨(h.rcd i h1 h2).1.below hb, (h.rcd i h1 h2).2⟩, h.dec⟩
theorem MdAt.cell {T : NL} {nb k : Nat} {G F : Nat → Nat} {w : World} (h : MdAt T nb k G F w) {i : Nat} (hi : i < T.length) : (∃ u, w.cell? ⟨nb, i, none⟩ = some u) ∧ w.frozen? ⟨nb, i, none⟩ = false ∧ (k ≤ i → w.cell? ⟨nb, i, none⟩ = some (.pointer (some ⟨G i, 0, none⟩))) := by
  obtain ⟨cs, h1, h2, h3⟩ := h.row
  simp only [World.cell?, World.frozen?, h1]
  refine ⟨⟨cs[i], Array.getElem?_eq_getElem (by omega)⟩, by simp, fun hk => h3 i hk hi⟩
theorem MdAt.lt {T : NL} {nb k : Nat} {G F : Nat → Nat} {w : World} (h : MdAt T nb k G F w) : nb < w.heap.size := by obtain ⟨cs, h1, _⟩ := h.row; exact (Array.getElem?_eq_some_iff.1 h1).1
theorem MdAt.step {T : NL} (ok : LaidOk T) {nb p : Nat} {G F : Nat → Nat} {w w3 : World} (h : MdAt T nb (p + 1) G F w) (hp : p < T.length) (hb : Below w.heap.size w w3) {g fb : Nat} (hg : w.heap.size ≤ g) (hf : w.heap.size ≤ fb) (hr : RcAt w3 g fb (gnT T G p)) :
    MdAt T nb p (fun i => if i = p then g else G i) (fun i => if i = p then fb else F i) (w3.setCell ⟨nb, p, none⟩ (.pointer (some ⟨g, 0, none⟩))) := by
  have h' := h.below hb
  have hnb := h.lt
  obtain ⟨cs, h1, h2, h3⟩ := h'.row
  have ge : ∀ i, p ≤ i → i < T.length → gnT T (fun i => if i = p then g else G i) i = gnT T G i := by
    intro i hi1 hi2
    rcases (ok.each i hi2).2 with ⟨e, _⟩ | ⟨r, e1, e2, e3, e4, _⟩
    · unfold gnT
      rw [if_pos e, if_pos e]
    · unfold gnT
      rw [if_neg (by rw [e1]; omega), if_neg (by rw [e1]; omega), e1, e2]
      simp only [Int.toNat_natCast]
      rw [if_neg (by omega), if_neg (by omega)]
  have rk : ∀ {a b : Nat} {n : GN}, RcAt w3 a b n → a ≠ nb → b ≠ nb → RcAt (w3.setCell ⟨nb, p, none⟩ (.pointer (some ⟨g, 0, none⟩))) a b n := by
    intro a b n hr h1 h2
    refine ⟨?_, ?_⟩
    · obtain ⟨x, y, e⟩ := hr.rc
      exact ⟨x, y, by rw [Below.heap_setCell _ _ _ _ (by simpa using h1)]; exact e⟩
    · rw [Below.heap_setCell _ _ _ _ (by simpa using h2)]
      exact hr.fl
  refine ⟨⟨cs.setIfInBounds p (.pointer (some ⟨g, 0, none⟩)), by rw [Go.Joins.block_setCell h1], by simpa using h2, fun i hi1 hi2 => ?_⟩, fun i hi1 hi2 => ?_, fun i j hi hij hj => ?_⟩
  · rw [Array.getElem?_setIfInBounds]
    by_cases e : p = i
    · subst e; rw [if_pos rfl, if_pos (by omega), if_pos rfl]
    · rw [if_neg e, if_neg (by omega)]; exact h3 i (by omega) hi2
  · rw [ge i hi1 hi2]
    by_cases e : i = p
    · subst e
      rw [if_pos rfl, if_pos rfl]
      exact ⟨rk hr (by omega) (by omega), by omega, by omega⟩
    · rw [if_neg e, if_neg e]
      obtain ⟨q1, q2, q3⟩ := h'.rcd i (by omega) hi2
      exact ⟨rk q1 (by omega) (by omega), q2, q3⟩
  · rw [if_neg (show j ≠ p by omega)]
    by_cases e : i = p
    · rw [if_pos e]
      have := (h.rcd j (by omega) hj).1.lt
      omega
    · rw [if_neg e]; exact h.dec i j (by omega) hij hj

set_option maxRecDepth 100000 in
set_option maxHeartbeats 4000000 in
theorem made_any (base : Option Addr) (b o c : Nat) (t : NL) (w : World) (h : NodesAt w base b o t) :
    Calls Try.prog 41 #[.slice base t.length c] w fun e w' => Below w.heap.size w w' ∧ (formE t ≠ 0 → e = .returned (.tuple #[.slice none 0 0, .int .i64 (formE t)])) ∧ (formE t = 0 → ∃ nb G F, e = .returned (.tuple #[.slice (some ⟨nb, 0, none⟩) (normL t).length (normL t).length, .int .i64 0]) ∧ w.heap.size ≤ nb ∧ MdAt (normL t) nb 0 G F w') := by
  have HA : Hid _ := norm_any base b o c t w h
  by_cases he : formE t = 0
  · have hne : (formE t != 0) = false := by simp [he]
    have OK := norm_ok he
    have HE : Hid (formE t = 0) := he
    have hmk := run_make_known (P := Try.prog) 78 41 (.pointer none) 1 8 recps_under recp_info (normL t).length (by have := OK.big; omega) (by have := OK.big; omega)
    clear h he
    go_enter Try.func41, Try.ntmps41
    go_wp2_with fail
    refine Calls.mono HA.out ?_
    rintro e w1 ⟨v1, rfl, ho, hb⟩
    obtain ⟨a1, c1, g1, rfl, -, -, hn⟩ := nodes_of_owns ho
    have NT : Hid _ := hn
    have B1 : Hid (Below w.heap.size w w1) := hb
    clear ho hn hb
    generalize hT : normL t = T at *
    have HT : Hid (normL t = T) := hT
    clear hT
    have HOK : Hid (LaidOk T) := OK
    have l0 : (0 : Int) ≤ (T.length : Int) := Int.natCast_nonneg _
    have l1 : (T.length : Int) ≤ 100000 := by have := OK.big; omega
    clear OK
    go_wp2_with fail
    clear hmk
    go_loopw [7] (fun vi wr => ∃ (k : Nat) (G F : Nat → Nat), k ≤ T.length ∧ vi = .int .i64 ((k : Int) - 1) ∧ MdAt T w1.heap.size k G F wr ∧ Below w1.heap.size w1 wr) (fun vi _ => (intOf vi + 1).toNat)
    case atStart =>
      refine ⟨T.length, fun _ => 0, fun _ => 0, Nat.le_refl _, by first | rfl | go_num, ⟨⟨_, heap_alloc_at _ _ _ rfl, size_madeCells _ _, fun i h1 h2 => by omega⟩, fun i h1 h2 => by omega, fun i j h1 h2 h3 => by omega⟩, below_alloc _ _⟩
    case round =>
      obtain ⟨k, G, F, hk, rfl, hmd, hbw⟩ := hrel
      rename World => wr
      have MD : Hid (MdAt T w1.heap.size k G F wr) := hmd
      have HW : Hid (Below w1.heap.size w1 wr) := hbw
      clear hmd hbw
      by_cases hk0 : 0 < k
      · obtain ⟨p, rfl⟩ : ∃ p, k = p + 1 := ⟨k - 1, by omega⟩
        have NW : Hid _ := NT.out.below HW.out
        obtain ⟨d0, d1, d2, d3, d4, d5⟩ := NW.out.cells p (by omega)
        obtain rfl : a1 = some ⟨g1, 0, none⟩ := NW.out.base (by omega)
        have ep : ((p + 1 : Nat) : Int) - 1 = (p : Int) := by omega
        rw [ep]
        have p0 : (0 : Int) ≤ (p : Int) := Int.natCast_nonneg _
        have p1 : (p : Int) < (T.length : Int) := by omega
        obtain ⟨⟨u, hu⟩, hz, _⟩ := MD.out.cell (i := p) (by omega)
        have HU : Hid (∀ W', Below wr.heap.size wr W' → W'.cell? ⟨w1.heap.size, p, none⟩ = some u ∧ W'.frozen? ⟨w1.heap.size, p, none⟩ = false) := fun W' hb => ⟨(hb.cell (p := ⟨w1.heap.size, p, none⟩) MD.out.lt).trans hu, (hb.frozen (p := ⟨w1.heap.size, p, none⟩) MD.out.lt).trans hz⟩
        have lnb : w1.heap.size < wr.heap.size := MD.out.lt
        clear hu hz ep
        simp only [Nat.zero_add] at d0 d1 d2 d3 d4 d5
        rcases (HOK.out.each p (by omega)).2 with ⟨e1, e2⟩ | ⟨r, e1, e2, e3, e4, e5⟩
        · rw [e1] at d4
          have HN : Hid (gnT T G p = ⟨(ndAt T p).key, (ndAt T p).inf, (ndAt T p).wt, (ndAt T p).val, true, []⟩) := by show _ = _; unfold gnT; rw [if_pos e1]
          clear e1 e2
          go_wp2_with fail
          refine (leafR _ _ _ _ _).mono ?_
          rintro e w3 ⟨g, fb, rfl, h1, h2, h3, h4⟩
          have hbx : Below wr.heap.size wr w3 := (below_alloc wr _).trans (h4.mono (by simp))
          obtain ⟨f1, f2⟩ := HU.out w3 hbx
          have MS : Hid _ := MdAt.step HOK.out MD.out (by omega) hbx (g := g) (fb := fb) (by simp at h1; omega) (by simp at h2; omega) (by rw [HN.out]; exact h3)
          have BS : Hid (Below w1.heap.size w1 (w3.setCell ⟨w1.heap.size, p, none⟩ (.pointer (some ⟨g, 0, none⟩)))) := (HW.out.trans (hbx.mono (by omega))).setCell (Nat.le_refl _) _
          clear h1 h2 h3 h4 hbx
          go_wp2_with fail
          exact ⟨⟨p, _, _, by omega, by first | rfl | go_num, MS.out, BS.out⟩, by first | (simp [intOf]; done) | (simp [intOf]; omega)⟩
        · have HN : Hid (gnT T G p = ⟨(ndAt T p).key, (ndAt T p).inf, (ndAt T p).wt, 0, false, [some (G (p + 1)), some (G r)]⟩) := by show _ = _; unfold gnT; rw [if_neg (by rw [e1]; omega), e1, e2]; rfl
          have cl := (MD.out.cell (i := p + 1) (by omega)).2.2 (Nat.le_refl _)
          have cr := (MD.out.cell (i := r) (by omega)).2.2 (by omega)
          have LL : Hid (∀ W', Below wr.heap.size wr W' → LiesN W' (some (G (p + 1)))) := fun W' hb => ((MD.out.rcd (p + 1) (Nat.le_refl _) (by omega)).1.below hb).lies
          have LR : Hid (∀ W', Below wr.heap.size wr W' → LiesN W' (some (G r))) := fun W' hb => ((MD.out.rcd r (by omega) (by omega)).1.below hb).lies
          have e6 : ((ndAt T p).l == -1) = false := by rw [e1, beq_eq_false_iff_ne]; omega
          rw [e1] at d4 e6
          rw [e2] at d5
          have r0 : (0 : Int) ≤ (r : Int) := Int.natCast_nonneg _
          have r1 : (r : Int) < (T.length : Int) := by omega
          have q0 : (0 : Int) ≤ ((p + 1 : Nat) : Int) := Int.natCast_nonneg _
          have q1 : ((p + 1 : Nat) : Int) < (T.length : Int) := by omega
          obtain ⟨q, hq⟩ : ∃ q, q = p + 1 := ⟨_, rfl⟩
          rw [← hq] at d4 e6 cl LL q0 q1 HN
          have HQ : Hid (q = p + 1) := hq
          have pq : p < q := by omega
          have pr : p < r := by omega
          clear e1 e2 e3 e4 e5 hq
          go_wp2_with fail
          obtain ⟨W1, hW1⟩ : ∃ W1, W1 = wr.alloc (.cells #[.int .i64 (ndAt T p).key, .int .i64 (ndAt T p).inf, .int .i64 (ndAt T p).wt, .int .i64 (ndAt T p).val, .int .i64 (q : Int), .int .i64 (r : Int)] 81) := ⟨_, rfl⟩
          rw [← hW1]
          have b0 : Below wr.heap.size wr W1 := by rw [hW1]; exact below_alloc _ _
          have hx : W1.heap[wr.heap.size]? = some (.cells #[.int .i64 (ndAt T p).key, .int .i64 (ndAt T p).inf, .int .i64 (ndAt T p).wt, .int .i64 (ndAt T p).val, .int .i64 (q : Int), .int .i64 (r : Int)] 81) := by rw [hW1]; exact heap_alloc_at _ _ _ rfl
          have zx : wr.heap.size < W1.heap.size := (Array.getElem?_eq_some_iff.1 hx).1
          have x0 : W1.cell? ⟨wr.heap.size, 0, none⟩ = some (.int .i64 (ndAt T p).key) := by simp only [World.cell?, hx]; rfl
          have x1 : W1.cell? ⟨wr.heap.size, 1, none⟩ = some (.int .i64 (ndAt T p).inf) := by simp only [World.cell?, hx]; rfl
          have x2 : W1.cell? ⟨wr.heap.size, 2, none⟩ = some (.int .i64 (ndAt T p).wt) := by simp only [World.cell?, hx]; rfl
          have x4 : W1.cell? ⟨wr.heap.size, 4, none⟩ = some (.int .i64 (q : Int)) := by simp only [World.cell?, hx]; rfl
          have x5 : W1.cell? ⟨wr.heap.size, 5, none⟩ = some (.int .i64 (r : Int)) := by simp only [World.cell?, hx]; rfl
          have B0 : Hid (Below wr.heap.size wr W1) := b0
          have s1 := (b0.cell (p := ⟨w1.heap.size, q, none⟩) lnb).trans cl
          have s2 := (b0.cell (p := ⟨w1.heap.size, r, none⟩) lnb).trans cr
          have nb1 : w1.heap.size < W1.heap.size := by omega
          clear b0 cl cr d0 d1 d2 d3 d4 d5 hx hW1
          go_region_held3 (fun w' => w'.cell? ⟨wr.heap.size, 0, none⟩ = some (.int .i64 (ndAt T p).key) ∧ w'.cell? ⟨wr.heap.size, 1, none⟩ = some (.int .i64 (ndAt T p).inf) ∧ w'.cell? ⟨wr.heap.size, 2, none⟩ = some (.int .i64 (ndAt T p).wt) ∧ w'.cell? ⟨wr.heap.size, 4, none⟩ = some (.int .i64 (q : Int)) ∧ w'.cell? ⟨wr.heap.size, 5, none⟩ = some (.int .i64 (r : Int)) ∧ w'.cell? ⟨w1.heap.size, q, none⟩ = some (.pointer (some ⟨G q, 0, none⟩)) ∧ w'.cell? ⟨w1.heap.size, r, none⟩ = some (.pointer (some ⟨G r, 0, none⟩)))
            (first
              | go_keep
              | (go_split_ands; refine ⟨?_, ?_, ?_, ?_, ?_, ?_, ?_⟩ <;> (first | (refine (B4.out.cell (by simp; omega)).trans ?_; assumption) | (refine (B4.out.cell (by simp; omega)).trans ?_; simpa using (by assumption))))
              | (go_split_ands; refine ⟨?_, ?_, ?_, ?_, ?_, ?_, ?_⟩ <;> ((refine (World.cell?_setCell_other _ _ _ _ (fun e => by have e1 := congrArg Addr.block e; have e2 := congrArg Addr.off e; simp at e1 e2; omega)).trans ?_); assumption)))
            (first | (go_at_call 20; refine (innerR (ndAt T p).key (ndAt T p).inf (ndAt T p).wt (some (G q)) (some (G r)) _ (LL.out _ (by first | exact B0.out | exact B0.out.drew)) (LR.out _ (by first | exact B0.out | exact B0.out.drew))).mono ?_; rintro e w3 ⟨g, fb, rfl, h1, h2, h3, h4⟩; have B4 : Hid (Below W1.heap.size W1 w3) := (by first | exact h4 | exact (Below.refl _ _).drew.trans h4); have hbx : Below wr.heap.size wr w3 := B0.out.trans (B4.out.mono (by omega)); obtain ⟨f1, f2⟩ := HU.out w3 hbx; have MS : Hid (MdAt T w1.heap.size p (fun i => if i = p then g else G i) (fun i => if i = p then fb else F i) (w3.setCell ⟨w1.heap.size, p, none⟩ (.pointer (some ⟨g, 0, none⟩)))) := MdAt.step HOK.out MD.out (by omega) hbx (g := g) (fb := fb) (by simp at h1; omega) (by simp at h2; omega) (by rw [HN.out]; exact h3); have BS : Hid (Below w1.heap.size w1 (w3.setCell ⟨w1.heap.size, p, none⟩ (.pointer (some ⟨g, 0, none⟩)))) := (HW.out.trans (hbx.mono (by omega))).setCell (Nat.le_refl _) _; clear h1 h2 h3 h4 hbx))
          all_goals
            go_wp2_with fail
            exact ⟨⟨p, _, _, by omega, by first | rfl | go_num, by first | exact MS.out | exact MS.out.below (Below.refl _ _).drew, by first | exact BS.out | exact BS.out.drew⟩, by first | (simp [intOf]; done) | (simp [intOf]; omega)⟩
      · obtain rfl : k = 0 := by omega
        have MD0 := MD.out
        clear hk0
        go_wp2_with fail
        go_ret2
        refine ⟨B1.out.trans (HW.out.mono B1.out.size), fun q => absurd HE.out q, fun _ => ?_⟩
        rw [HT.out]
        exact ⟨_, G, F, rfl, B1.out.size, MD.out⟩
  · have hne : (formE t != 0) = true := by simp [he]
    have HE : Hid (formE t = 0 → False) := he
    clear h he
    go_enter Try.func41, Try.ntmps41
    go_wp2_with fail
    refine Calls.mono HA.out ?_
    rintro e w1 ⟨v1, rfl, ho, hb⟩
    have B1 : Hid (Below w.heap.size w w1) := hb
    clear ho hb
    go_wp2_with fail
    go_ret2
    exact ⟨B1.out, fun _ => rfl, fun q => absurd q HE.out⟩
end Go.Proofs.Ythdfpddijocfkaa


namespace Go.Proofs.Ythdfpddijocfkaa

open Go.RowKit

attribute [local go_sem ↓] Go.wp_at_zero Go.wp_at_succ

/-- A map keyed by nodes: its entries as they were put. -/
def PMap (w : World) (mb : Nat) (l : List (Nat × Value)) : Prop := ∃ es clock, w.heap[mb]? = some (.map es clock) ∧ es.toList.map (fun e => (e.key, e.val)) = l.map (fun x => (ptrO (some x.1), x.2))
theorem PMap.lt {w : World} {mb : Nat} {l : List (Nat × Value)} (h : PMap w mb l) : mb < w.heap.size := by obtain ⟨_, _, e, _⟩ := h; exact (Array.getElem?_eq_some_iff.1 e).1
theorem PMap.same {w w' : World} {mb : Nat} {l : List (Nat × Value)} (h : PMap w mb l) (hb : w'.heap[mb]? = w.heap[mb]?) : PMap w' mb l := by obtain ⟨es, c, e, q⟩ := h; exact ⟨es, c, hb.trans e, q⟩
theorem PMap.notyp {w : World} {mb : Nat} {l : List (Nat × Value)} (h : PMap w mb l) (T : TypeId) : ¬ typ w mb T := by
  obtain ⟨es, c, e, _⟩ := h
  rintro ⟨cs, fr, f⟩
  rw [e] at f
  cases f
theorem PMap.made (w : World) : PMap (w.alloc (.map #[] 0)) w.heap.size [] := ⟨#[], 0, heap_alloc_at _ _ _ rfl, rfl⟩
def fnd (q : Option Nat) : List (Nat × Value) → Option Value
  | [] => none
  | x :: t => if q = some x.1 then some x.2 else fnd q t
theorem findAsking_run {w : World} {q : Option Nat} (hq : OkR w q) : ∀ (es : List MapEntry) (l : List (Nat × Value)) (i : Nat), es.map (fun e => (e.key, e.val)) = l.map (fun x => (ptrO (some x.1), x.2)) → (∀ x ∈ l, OkR w (some x.1)) →
    ∃ r, (Instr.findAsking 41 (ptrO q) es i).run Try.prog w = .ok r w ∧ r.map (·.2) = fnd q l
  | [], [], i, _, _ => ⟨none, rfl, rfl⟩
  | [], _ :: _, i, h, _ => by simp at h
  | _ :: _, [], i, h, _ => by simp at h
  | e :: es, x :: t, i, h, hok => by
    simp only [List.map_cons, List.cons.injEq, Prod.mk.injEq] at h
    obtain ⟨⟨h1, h2⟩, h3⟩ := h
    have heq := equalR hq (hok x (List.mem_cons_self))
    rw [← h1] at heq
    by_cases e1 : q = some x.1
    · refine ⟨some (i, e.val), ?_, ?_⟩
      · unfold Instr.findAsking
        rw [decide_eq_true e1] at heq
        simp [heq, Result.andThen]
      · simp [fnd, e1, h2]
    · obtain ⟨r, r1, r2⟩ := findAsking_run hq es t (i + 1) h3 (fun y hy => hok y (List.mem_cons_of_mem _ hy))
      refine ⟨r, ?_, ?_⟩
      · unfold Instr.findAsking
        rw [decide_eq_false e1] at heq
        simp [heq, Result.andThen, r1]
      · simp [fnd, e1, r2]
theorem findKey_run {w : World} {q : Option Nat} (hq : OkR w q) (es : List MapEntry) (l : List (Nat × Value)) (h : es.map (fun e => (e.key, e.val)) = l.map (fun x => (ptrO (some x.1), x.2))) (hok : ∀ x ∈ l, OkR w (some x.1)) :
    ∃ r, (Instr.findKey 41 (ptrO q) es).run Try.prog w = .ok r w ∧ r.map (·.2) = fnd q l := by
  obtain ⟨r, r1, r2⟩ := findAsking_run hq es l 0 h hok
  cases es with
  | nil =>
    cases l with
    | nil => exact ⟨none, by simp [Instr.findKey, run_underlying (P := Try.prog) rp_under, Instr.findNow, Result.andThen], rfl⟩
    | cons x t => simp at h
  | cons e es =>
    refine ⟨r, ?_, r2⟩
    cases l with
    | nil => simp at h
    | cons x t =>
      simp only [List.map_cons, List.cons.injEq, Prod.mk.injEq] at h
      have hs : Instr.sameNow (.pointer 63) (ptrO q) e.key = none := rfl
      simp [Instr.findKey, run_underlying (P := Try.prog) rp_under, Instr.findNow, hs, Result.andThen, r1]
theorem checkKey_run (em : Bool) (w : World) (q : Option Nat) : (Instr.checkKey em 10000 41 (ptrO q)).run Try.prog w = .ok () w := by
  show (Instr.checkKey em (9999 + 1) _ _).run Try.prog w = _
  unfold Instr.checkKey
  simp [run_underlying (P := Try.prog) rp_under, Sem.run_bind, Result.andThen, ptrO]
/-- v, ok := m[p] -/
theorem lookup_run {w : World} {mb : Nat} {l : List (Nat × Value)} {T E : TypeId} (hT : Try.prog.underlying T = some (.map 41 E)) (hm : PMap w mb l) (hok : ∀ x ∈ l, OkR w (some x.1)) {q : Option Nat} (hq : OkR w q) {z : Value} (hz : (zeroValue E).run Try.prog w = .ok z w) (ok : Bool) :
    (Instr.lookup T (.map (some mb)) (ptrO q) ok).run Try.prog w = .ok (if ok then .tuple #[(fnd q l).getD z, .bool (fnd q l).isSome] else (fnd q l).getD z) w := by
  obtain ⟨es, c, he, hl⟩ := hm
  obtain ⟨r, r1, r2⟩ := findKey_run hq es.toList l hl hok
  have hg := Go.MapKept.run_getObj_map (P := Try.prog) he
  have hc := checkKey_run es.isEmpty w q
  cases r with
  | none =>
    rw [← r2]
    cases ok <;> simp [Instr.lookup, run_underlying (P := Try.prog) hT, Sem.run_bind, Result.andThen, hg, hc, r1, hz]
  | some y =>
    rw [← r2]
    cases ok <;> simp [Instr.lookup, run_underlying (P := Try.prog) hT, Sem.run_bind, Result.andThen, hg, hc, r1]
/-- m[p] = v, of a node that isn't there. -/
theorem update_run {w : World} {mb : Nat} {l : List (Nat × Value)} {T E : TypeId} (hT : Try.prog.underlying T = some (.map 41 E)) (hm : PMap w mb l) (hok : ∀ x ∈ l, OkR w (some x.1)) {g : Nat} (hq : OkR w (some g)) (hn : fnd (some g) l = none) (v : Value) :
    ∃ w', (Instr.mapUpdate T (.map (some mb)) (ptrO (some g)) v).run Try.prog w = .ok () w' ∧ PMap w' mb (l ++ [(g, v)]) ∧ w.grownBy w' (some mb) := by
  obtain ⟨es, c, he, hl⟩ := hm
  obtain ⟨r, r1, r2⟩ := findKey_run hq es.toList l hl hok
  have hr : r = none := by rw [hn] at r2; cases r with | none => rfl | some y => simp at r2
  subst hr
  have hg := Go.MapKept.run_getObj_map (P := Try.prog) he
  have hc := checkKey_run false w (some g)
  have hlt := (Array.getElem?_eq_some_iff.1 he).1
  have hso := Go.MapKept.run_setObj_map (P := Try.prog) (.map (es.push ⟨ptrO (some g), v, c⟩) (c + 1)) he
  refine ⟨{ w with heap := w.heap.setIfInBounds mb (.map (es.push ⟨ptrO (some g), v, c⟩) (c + 1)) }, by simp [Instr.mapUpdate, run_underlying (P := Try.prog) hT, Result.andThen, hg, hc, r1, hso], ⟨es.push ⟨ptrO (some g), v, c⟩, c + 1, by simp [hlt], ?_⟩, ⟨rfl, rfl, rfl, by simp, fun k hk hne => ?_⟩⟩
  · simp [hl]
  · have : mb ≠ k := fun e => hne (by rw [e])
    simp [this]
end Go.Proofs.Ythdfpddijocfkaa


namespace Go.Proofs.Ythdfpddijocfkaa

open Go.RowKit

attribute [local go_sem ↓] Go.wp_at_zero Go.wp_at_succ

/-- Where Read's loop stands: the table so far, the nodes it has met, the row of those ahead, what it has noted. -/
structure RS where
  T : NL
  met : List Nat
  row : List (Option Nat × Int)
  ks : List Int
def ahC : List (Option Nat × Int) → List Value
  | [] => []
  | x :: t => ptrO x.1 :: .int .i64 x.2 :: ahC t
theorem ahC_append : ∀ a b : List (Option Nat × Int), ahC (a ++ b) = ahC a ++ ahC b
  | [], _ => rfl
  | x :: t, b => by simp [ahC, ahC_append t b]
theorem ahC_length : ∀ a : List (Option Nat × Int), (ahC a).length = a.length * 2
  | [] => rfl
  | x :: t => by simp [ahC, ahC_length t]; omega
theorem ahC_last (rest : List (Option Nat × Int)) (x : Option Nat) (ab : Int) : (ahC (rest ++ [(x, ab)]))[rest.length * 2]? = some (ptrO x) ∧ (ahC (rest ++ [(x, ab)]))[rest.length * 2 + 1]? = some (.int .i64 ab) := by
  rw [ahC_append]
  refine ⟨?_, ?_⟩
  · rw [List.getElem?_append_right (by rw [ahC_length]; omega), ahC_length, show rest.length * 2 - rest.length * 2 = 0 by omega]; rfl
  · rw [List.getElem?_append_right (by rw [ahC_length]; omega), ahC_length, show rest.length * 2 + 1 - rest.length * 2 = 1 by omega]; rfl
def plainN (n : GN) (p : Nat) : NdD := ⟨n.k, n.i, n.wt, n.v, if n.lf then -1 else ((p + 1 : Nat) : Int), -1⟩
def setRt (T : NL) (i : Nat) (v : Int) : NL := T.set i { ndAt T i with r := v }
theorem setRt_length (T : NL) (i : Nat) (v : Int) : (setRt T i v).length = T.length := by unfold setRt; simp
theorem ndCells_setRt : ∀ (T : NL) (i : Nat) (v : Int), i < T.length → ndCells (setRt T i v) = (ndCells T).set (i * 6 + 5) (.int .i64 v)
  | [], i, _, h => by simp at h
  | n :: t, 0, v, _ => by simp [setRt, ndCells, ndAt]
  | n :: t, i + 1, v, h => by
    have ih := ndCells_setRt t i v (by simpa using h)
    have e : (i + 1) * 6 + 5 = (i * 6 + 5) + 1 + 1 + 1 + 1 + 1 + 1 := by omega
    rw [e]
    simp only [setRt, List.set_cons_succ, ndCells]
    rw [← ih]
    simp [setRt, ndAt]
/-- One step of Read's loop over a graph. -/
structure RStep (gr : Nat → Option (Nat × GN)) (s s' : RS) (rest : List (Option Nat × Int)) (g : Nat) (ab : Int) (fb : Nat) (n : GN) : Prop where
  row : s.row = rest ++ [(some g, ab)]
  at_ : gr g = some (fb, n)
  new : g ∉ s.met
  small : s.T.length < 100000
  up : ab = -1 ∨ ∃ i : Nat, ab = (i : Int) ∧ i < s.T.length
  met' : s'.met = s.met ++ [g]
  T' : s'.T = if ab = -1 then s.T ++ [plainN n s.T.length] else setRt (s.T ++ [plainN n s.T.length]) ab.toNat (s.T.length : Int)
  row' : s'.row = if n.lf then rest else rest ++ [(chO n 1, (s.T.length : Int)), (chO n 0, -1)]
  ks' : s'.ks = s.ks ++ (chK n ++ chK n)
  two : n.lf = false → n.ch.length = 2
  le2 : n.ch.length ≤ 2
  chs : ∀ j q, n.lf = false → n.ch.getD j none = some q → (gr q).isSome = true
/-- A run of Read's loop. -/
structure RRun (gr : Nat → Option (Nat × GN)) (tr : Nat → RS) (m : Nat) : Prop where
  step : ∀ j, j < m → ∃ rest g ab fb n, RStep gr (tr j) (tr (j + 1)) rest g ab fb n
  lenT : ∀ j, j ≤ m → (tr j).T.length = j
  lenR : ∀ j, j ≤ m → (tr j).row.length ≤ 200001
  metg : ∀ j, j ≤ m → ∀ q ∈ (tr j).met, (gr q).isSome = true
  fin : (tr m).row = [] ∨ ∃ rest x ab, (tr m).row = rest ++ [(x, ab)] ∧ (x = none ∨ ∃ q, x = some q ∧ q ∈ (tr m).met)
theorem fnd_met (g : Nat) (v : Value) : ∀ l : List Nat, (fnd (some g) (l.map fun x => (x, v))).isSome = decide (g ∈ l)
  | [] => rfl
  | x :: t => by
    simp only [List.map_cons, fnd]
    by_cases e : g = x
    · subst e; simp
    · rw [if_neg (by simpa using e), fnd_met g v t]
      simp [e]
theorem fnd_none (v : Value) : ∀ l : List Nat, (fnd none (l.map fun x => (x, v))) = none
  | [] => rfl
  | x :: t => by simp [fnd, fnd_none v t]
/-- The graph lies in memory, below N. -/
def GrAt (w : World) (N : Nat) (gr : Nat → Option (Nat × GN)) : Prop := ∀ g fb n, gr g = some (fb, n) → RcAt w g fb n ∧ g < N ∧ fb < N
theorem GrAt.below {w w' : World} {N : Nat} {gr : Nat → Option (Nat × GN)} (h : GrAt w N gr) (hb : Below N w w') : GrAt w' N gr := fun g fb n e => by
  obtain ⟨h1, h2, h3⟩ := h g fb n e
  exact ⟨⟨by obtain ⟨a, b, e⟩ := h1.rc; exact ⟨a, b, (hb.block _ h2).trans e⟩, (hb.block _ h3).trans h1.fl⟩, h2, h3⟩
theorem GrAt.okr {w : World} {N : Nat} {gr : Nat → Option (Nat × GN)} (h : GrAt w N gr) {g : Nat} (hg : (gr g).isSome = true) : OkR w (some g) := by
  obtain ⟨⟨fb, n⟩, e⟩ := Option.isSome_iff_exists.1 hg
  exact (h g fb n e).1.okr
theorem results_cell1 {fn : Func} {p : Tmp} {ty : TypeId} (h : fn.results = #[.cell p ty]) (tmps : Array Value) (P : Program) (w : World) :
    (results fn tmps).run P w = ((asAddr (tmps.getD p undef)).run P w).andThen fun a w₁ => (loadVar ty a).run P w₁ := by
  simp only [results, h]
  simp [Sem.run_bind, Result.andThen]
theorem plain_any (g fb p : Nat) (n : GN) (w : World) (h : RcAt w g fb n) (hp : p ≤ 100000) :
    Calls Try.prog 48 #[.pointer (some ⟨g, 0, none⟩), .int .i64 p] w fun e w' => e = .returned (.agg #[.int .i64 (plainN n p).key, .int .i64 (plainN n p).inf, .int .i64 (plainN n p).wt, .int .i64 (plainN n p).val, .int .i64 (plainN n p).l, .int .i64 (plainN n p).r]) ∧ Below w.heap.size w w' := by
  obtain ⟨c0, c1, c2, c3, c4, _⟩ := h.cells
  have hl := h.lt
  have w1 : wrap64 ((p : Int) + 1) = ((p + 1 : Nat) : Int) := by unfold wrap64; omega
  have w2 : IntKind.i64.wrap ((p : Int) + 1) = ((p + 1 : Nat) : Int) := by rw [IntKind.wrap_i64] <;> omega
  clear h
  unfold plainN
  cases hlf : n.lf
  · rw [hlf] at c4
    clear hlf
    go_enter Try.func48, Try.ntmps48
    go_wp2_with fail
    refine bodyPost_ret (v := .agg #[.int .i64 n.k, .int .i64 n.i, .int .i64 n.wt, .int .i64 n.v, .int .i64 ((p + 1 : Nat) : Int), .int .i64 (-1)]) ?_ rfl ?_
    · rw [results_cell1 rfl]; go_simp
    · exact ⟨rfl, by repeat (first | exact Below.refl _ _ | refine Below.setCell ?_ (by simp) _ | refine Below.alloc ?_ (by simp <;> omega) _)⟩
  · rw [hlf] at c4
    clear hlf
    go_enter Try.func48, Try.ntmps48
    go_wp2_with fail
    refine bodyPost_ret (v := .agg #[.int .i64 n.k, .int .i64 n.i, .int .i64 n.wt, .int .i64 n.v, .int .i64 (-1), .int .i64 (-1)]) ?_ rfl ?_
    · rw [results_cell1 rfl]; go_simp
    · exact ⟨rfl, by repeat (first | exact Below.refl _ _ | refine Below.setCell ?_ (by simp) _ | refine Below.alloc ?_ (by simp <;> omega) _)⟩
theorem owns_grownO {W W' : World} {B sz : Nat} {e : TypeId} {v : Value} {n : Nat} {xs : List Value} {r : Option Nat} (h : W.ownsRow B e sz v n xs) (hg : W.grownBy W' r) (hr : ∀ q, r = some q → v.ownBlock ≠ some q) : W'.ownsRow B e sz v n xs := by
  obtain ⟨h1, h2⟩ := h
  refine ⟨h1, ?_⟩
  rcases h2 with ⟨rfl, e0⟩ | ⟨g, cap, cur, rfl, hB, hg', hr'⟩
  · exact Or.inl ⟨rfl, e0⟩
  · exact Or.inr ⟨g, cap, cur, rfl, hB, (hg.block g (Array.getElem?_eq_some_iff.1 hg').1 (fun q => hr g q.symm rfl)).trans hg', hr'⟩
theorem owns_setO {w : World} {B sz : Nat} {e : TypeId} {v : Value} {n : Nat} {xs : List Value} (h : w.ownsRow B e sz v n xs) (b j : Nat) (u : Value) (hb : v.ownBlock ≠ some b) : (w.setCell ⟨b, j, none⟩ u).ownsRow B e sz v n xs := by
  obtain ⟨h0, h⟩ := h
  rcases h with h | ⟨g, cap, cur, rfl, hg, hh, h1, h2, h3, h4⟩
  · exact ⟨h0, Or.inl h⟩
  · refine ⟨h0, Or.inr ⟨g, cap, cur, rfl, hg, ?_, h1, h2, h3, h4⟩⟩
    have hne : b ≠ g := fun e => hb (by simp [Value.ownBlock, e])
    simp [World.setCell, Array.getElem?_modify, hne, hh]
/-- What Read holds between its steps. -/
structure RI (Tb : Nat → Prop) (G : List Int → World → Prop) (ks : List Int) (N B mb : Nat) (w : World) (vt vr : Value) (T : NL) (row : List (Option Nat × Int)) (l : List Nat) (kk : List Int) (W : World) : Prop where
  ot : W.ownsRow B 81 6 vt T.length (ndCells T)
  oa : W.ownsRow B 108 2 vr row.length (ahC row)
  pm : PMap W mb (l.map fun x => (x, .agg #[]))
  g : G (ks ++ kk) W
  tb : Tbs Tb W
  bl : Below N w W
  hb : B ≤ W.heap.size
section

variable {gv : Value} {Tb : Nat → Prop} {most : Nat} {G : List Int → World → Prop} {ks : List Int} {N B mb : Nat} {w : World} {vt vr : Value} {T : NL} {row : List (Option Nat × Int)} {l : List Nat} {kk : List Int} {W W' : World}

theorem RI.below (gt : GateS gv Tb most G) (h : RI Tb G ks N B mb w vt vr T row l kk W) (hN : N ≤ B) (hb : Below W.heap.size W W') : RI Tb G ks N B mb w vt vr T row l kk W' :=
  ⟨owns_below h.ot hb, owns_below h.oa hb, h.pm.same (hb.block _ h.pm.lt), gt.keep _ _ _ h.g (Od.of_below hb), h.tb.od (Od.of_below hb), h.bl.trans (hb.mono (by have := h.hb; omega)), Nat.le_trans h.hb hb.size⟩
theorem RI.drew (gt : GateS gv Tb most G) (h : RI Tb G ks N B mb w vt vr T row l kk W) : RI Tb G ks N B mb w vt vr T row l kk W.drew :=
  ⟨h.ot.drew, h.oa.drew, h.pm, gt.keep _ _ _ h.g ⟨Nat.le_refl _, fun _ _ _ => rfl, fun _ _ => rfl⟩, h.tb, h.bl.drew, h.hb⟩
theorem RI.put (gt : GateS gv Tb most G) (h : RI Tb G ks N B mb w vt vr T row l kk W) (hN : N ≤ mb) {l' : List Nat} (hp : PMap W' mb (l'.map fun x => (x, .agg #[]))) (hg : W.grownBy W' (some mb)) : RI Tb G ks N B mb w vt vr T row l' kk W' := by
  have od : Od Tb W W' := ⟨hg.size, fun t ht _ => hg.block t (h.tb t ht).lt (fun e => h.pm.notyp _ (by injection e with e; rw [← e]; exact h.tb t ht)), fun k hk => hg.block k hk.lt (fun e => h.pm.notyp _ (by injection e with e; rw [← e]; exact hk))⟩
  refine ⟨owns_grownO h.ot hg (fun q e ho => h.pm.notyp _ (by injection e with e; rw [e]; exact owns_typ h.ot ho)), owns_grownO h.oa hg (fun q e ho => h.pm.notyp _ (by injection e with e; rw [e]; exact owns_typ h.oa ho)), hp, gt.keep _ _ _ h.g od, h.tb.od od, ?_, Nat.le_trans h.hb hg.size⟩
  exact h.bl.trans ⟨hg.os, hg.tape, hg.output, hg.size, fun k hk => by
    by_cases hw : k < W.heap.size
    · exact hg.block k hw (fun e => by injection e with e; omega)
    · have := h.bl.size; have := h.hb; have := h.pm.lt; omega⟩
theorem RI.growT (gt : GateS gv Tb most G) (h : RI Tb G ks N B mb w vt vr T row l kk W) (hN : N ≤ B) {vt' : Value} {T' : NL} {o : Obj} (ho : W'.ownsRow B 81 6 vt' T'.length (ndCells T')) (hg : (W.alloc o).grownBy W' vt.ownBlock) : RI Tb G ks N B mb w vt' vr T' row l kk W' := by
  have h1 := h.below gt hN (below_alloc W o)
  have od : Od Tb (W.alloc o) W' := Od.grown hg (fun r q => ⟨h1.tb.not (owns_typ h1.ot q) (by decide), _, by decide, owns_typ h1.ot q⟩)
  refine ⟨ho, owns_grownO h1.oa hg (fun q e ho' => absurd ((owns_typ h1.ot e).one (owns_typ h1.oa ho')) (by decide)), h1.pm.same (hg.block _ h1.pm.lt (fun e => h1.pm.notyp _ (owns_typ h1.ot e.symm))), gt.keep _ _ _ h1.g od, h1.tb.od od, h1.bl.trans ?_, Nat.le_trans h1.hb hg.size⟩
  exact Below.grown (Below.refl N _) hg (by have := h1.hb; omega) (fun r q => Nat.le_trans hN (owns_ge h1.ot r q))
theorem RI.growA (gt : GateS gv Tb most G) (h : RI Tb G ks N B mb w vt vr T row l kk W) (hN : N ≤ B) {vr' : Value} {row' : List (Option Nat × Int)} {o : Obj} (ho : W'.ownsRow B 108 2 vr' row'.length (ahC row')) (hg : (W.alloc o).grownBy W' vr.ownBlock) : RI Tb G ks N B mb w vt vr' T row' l kk W' := by
  have h1 := h.below gt hN (below_alloc W o)
  have od : Od Tb (W.alloc o) W' := Od.grown hg (fun r q => ⟨h1.tb.not (owns_typ h1.oa q) (by decide), _, by decide, owns_typ h1.oa q⟩)
  refine ⟨owns_grownO h1.ot hg (fun q e ho' => absurd ((owns_typ h1.oa e).one (owns_typ h1.ot ho')) (by decide)), ho, h1.pm.same (hg.block _ h1.pm.lt (fun e => h1.pm.notyp _ (owns_typ h1.oa e.symm))), gt.keep _ _ _ h1.g od, h1.tb.od od, h1.bl.trans ?_, Nat.le_trans h1.hb hg.size⟩
  exact Below.grown (Below.refl N _) hg (by have := h1.hb; omega) (fun r q => Nat.le_trans hN (owns_ge h1.oa r q))
theorem RI.setT {a c : Nat} (gt : GateS gv Tb most G) (h : RI Tb G ks N B mb w (.slice (some ⟨a, 0, none⟩) T.length c) vr T row l kk W) (hN : N ≤ B) {i : Nat} {v : Int} (hi : i < T.length) : RI Tb G ks N B mb w (.slice (some ⟨a, 0, none⟩) T.length c) vr (setRt T i v) row l kk (W.setCell ⟨a, i * 6 + 5, none⟩ (.int .i64 v)) := by
  have ht : typ W a 81 := owns_typ h.ot rfl
  have hge : B ≤ a := owns_ge h.ot a rfl
  have od : Od Tb W (W.setCell ⟨a, i * 6 + 5, none⟩ (.int .i64 v)) := Od.set ht (by decide) (h.tb.not ht (by decide))
  refine ⟨?_, owns_setO h.oa _ _ _ (fun e => absurd ((owns_typ h.oa e).one ht) (by decide)), h.pm.same (Below.heap_setCell _ _ _ _ (fun e => h.pm.notyp _ (by have e' : mb = a := e; rw [e']; exact ht))), gt.keep _ _ _ h.g od, h.tb.od od, h.bl.setCell (Nat.le_trans hN hge) _, by simpa using h.hb⟩
  rw [setRt_length, ndCells_setRt T i v hi]
  exact owns_put h.ot _ _
theorem RI.pd (h : RI Tb G ks N B mb w vt vr T row l kk W) (hN : N ≤ B) (hNt : ∀ t, Tb t → N ≤ t) {kk' : List Int} (hg : G (ks ++ kk') W') (hp : Pd Tb W W') : RI Tb G ks N B mb w vt vr T row l kk' W' :=
  ⟨owns_pd hp h.tb h.ot (by decide) (by decide), owns_pd hp h.tb h.oa (by decide) (by decide), h.pm.same (hp.blk _ h.pm.lt (fun q => h.pm.notyp _ (h.tb _ q)) (fun q => h.pm.notyp _ q)), hg, h.tb.pd hp, h.bl.trans (hp.below (by have := h.hb; omega) hNt), Nat.le_trans h.hb hp.size⟩
theorem RI.cut {a c : Nat} {x : Option Nat} {ab : Int} (h : RI Tb G ks N B mb w vt (.slice (some ⟨a, 0, none⟩) (row.length + 1) c) T (row ++ [(x, ab)]) l kk W) : RI Tb G ks N B mb w vt (.slice (some ⟨a, 0, none⟩) row.length c) T row l kk W := by
  have ho := h.oa
  rw [List.length_append, List.length_cons, List.length_nil] at ho
  have hc := owns_cut ho row.length (by omega)
  rw [ahC_append, List.take_left' (by rw [ahC_length])] at hc
  exact ⟨h.ot, hc, h.pm, h.g, h.tb, h.bl, h.hb⟩
end

end Go.Proofs.Ythdfpddijocfkaa

namespace Go.Proofs.Ythdfpddijocfkaa

open Go.RowKit

/-- The places still to come when j nodes have been met, with those whose right child they are. -/
def pend : BT → Nat → Int → Nat → List (Nat × Int)
  | .leaf _, o, ab, j => if j = 0 then [(o, ab)] else []
  | .node _ l r, o, ab, j => if j = 0 then [(o, ab)] else if j - 1 < l.size then (o + 1 + l.size, (o : Int)) :: pend l (o + 1) (-1) (j - 1) else pend r (o + 1 + l.size) o (j - 1 - l.size)
theorem pend_end : ∀ (b : BT) (o : Nat) (ab : Int), pend b o ab b.size = []
  | .leaf _, o, ab => rfl
  | .node _ l r, o, ab => by
    unfold pend
    rw [if_neg (by simp [BT.size]), if_neg (by simp only [BT.size]; omega)]
    have : (BT.node ‹_› l r).size - 1 - l.size = r.size := by simp only [BT.size]; omega
    rw [this]
    exact pend_end r _ _
theorem pend_le : ∀ (b : BT) (o : Nat) (ab : Int) (j : Nat), (pend b o ab j).length ≤ j + 1
  | .leaf _, o, ab, j => by unfold pend; split <;> simp
  | .node _ l r, o, ab, j => by
    unfold pend
    split
    · simp
    · rename_i h
      split
      · have := pend_le l (o + 1) (-1) (j - 1)
        simp only [List.length_cons]
        omega
      · have := pend_le r (o + 1 + l.size) o (j - 1 - l.size)
        omega
/-- What is behind a place: its children, the right one first. -/
def kidsA (n : NdD) (p : Nat) : List (Nat × Int) := if n.l = -1 then [] else [(n.r.toNat, (p : Int)), (n.l.toNat, -1)]
theorem lay_right : ∀ (l : BT) (o : Nat), ∀ k', k' < l.size → ((ndAt (l.lay o) k').r = -1 ∨ (ndAt (l.lay o) k').r < ((o + l.size : Nat) : Int))
  | .leaf d, o, k', h => by
    simp only [BT.size] at h
    obtain rfl : k' = 0 := by omega
    exact Or.inl rfl
  | .node d l r, o, k', h => by
    have hr := r.size_pos
    simp only [BT.size] at h ⊢
    cases k' with
    | zero => right; show ((o + 1 + l.size : Nat) : Int) < _; omega
    | succ k =>
      by_cases hk : k < l.size
      · have e : ndAt ((BT.node d l r).lay o) (k + 1) = ndAt (l.lay (o + 1)) k := by
          simp only [BT.lay, ndAt, List.getD_eq_getElem?_getD, List.getElem?_cons_succ]
          rw [List.getElem?_append_left (by rw [BT.lay_length]; exact hk)]
        rw [e]
        rcases lay_right l (o + 1) k hk with q | q
        · exact Or.inl q
        · exact Or.inr (by omega)
      · have e : ndAt ((BT.node d l r).lay o) (k + 1) = ndAt (r.lay (o + 1 + l.size)) (k - l.size) := by
          simp only [BT.lay, ndAt, List.getD_eq_getElem?_getD, List.getElem?_cons_succ]
          rw [List.getElem?_append_right (by rw [BT.lay_length]; omega), BT.lay_length]
        rw [e]
        rcases lay_right r (o + 1 + l.size) (k - l.size) (by omega) with q | q
        · exact Or.inl q
        · exact Or.inr (by omega)
theorem pendA_step (b : BT) : ∀ (o : Nat) (ab : Int) (j : Nat), j < b.size → ∃ rest a, pend b o ab j = rest ++ [(o + j, a)] ∧ pend b o ab (j + 1) = rest ++ kidsA (ndAt (b.lay o) j) (o + j) ∧ (j = 0 → a = ab) ∧ (0 < j → a = -1 ∨ ∃ k, k < j ∧ a = ((o + k : Nat) : Int)) ∧ (∀ k, k < j → ((ndAt (b.lay o) k).r = ((o + j : Nat) : Int) ↔ a = ((o + k : Nat) : Int)))
  := by
  induction b with
  | leaf d =>
    intro o ab j hj
    simp only [BT.size] at hj
    obtain rfl : j = 0 := by omega
    exact ⟨[], ab, rfl, by simp [pend, kidsA, BT.lay, ndAt], fun _ => rfl, fun h => by omega, fun k hk => by omega⟩
  | node d l r ihl ihr =>
    intro o ab j hj
    have hl := l.size_pos
    have hr := r.size_pos
    simp only [BT.size] at hj
    have e0 : ndAt ((BT.node d l r).lay o) 0 = ⟨d.key, d.inf, d.wt, d.val, ((o + 1 : Nat) : Int), ((o + 1 + l.size : Nat) : Int)⟩ := rfl
    have eL : ∀ k, k < l.size → ndAt ((BT.node d l r).lay o) (k + 1) = ndAt (l.lay (o + 1)) k := by
      intro k hk
      simp only [BT.lay, ndAt, List.getD_eq_getElem?_getD, List.getElem?_cons_succ]
      rw [List.getElem?_append_left (by rw [BT.lay_length]; exact hk)]
    have eR : ∀ k, ndAt ((BT.node d l r).lay o) (k + 1 + l.size) = ndAt (r.lay (o + 1 + l.size)) k := by
      intro k
      have : k + 1 + l.size = (l.size + k) + 1 := by omega
      rw [this]
      simp only [BT.lay, ndAt, List.getD_eq_getElem?_getD, List.getElem?_cons_succ]
      rw [List.getElem?_append_right (by rw [BT.lay_length]; omega), BT.lay_length, show l.size + k - l.size = k by omega]
    by_cases h0 : j = 0
    · subst h0
      refine ⟨[], ab, by simp [pend], ?_, fun _ => rfl, fun h => by omega, fun k hk => by omega⟩
      rw [e0]
      unfold pend
      rw [if_neg (by omega), if_pos (by omega)]
      have : pend l (o + 1) (-1) 0 = [(o + 1, -1)] := by cases l <;> simp [pend]
      simp only [Nat.zero_add, Nat.sub_self, this, kidsA]
      rw [if_neg (show ¬ (((o + 1 : Nat) : Int) = -1) by omega)]
      simp only [Int.toNat_natCast]
      rfl
    · by_cases h1 : j - 1 < l.size
      · obtain ⟨rest, a, p1, p2, p3, p4, p5⟩ := ihl (o + 1) (-1) (j - 1) h1
        have P4 : Hid (0 < j - 1 → a = -1 ∨ ∃ k, k < j - 1 ∧ a = ((o + 1 + k : Nat) : Int)) := p4
        clear p4
        have hjn : ndAt ((BT.node d l r).lay o) j = ndAt (l.lay (o + 1)) (j - 1) := by have := eL (j - 1) h1; rwa [show j - 1 + 1 = j by omega] at this
        refine ⟨(o + 1 + l.size, (o : Int)) :: rest, a, ?_, ?_, fun h => absurd h h0, fun _ => ?_, fun k hk => ?_⟩
        · unfold pend
          rw [if_neg h0, if_pos h1, p1, show o + 1 + (j - 1) = o + j by omega]
          rfl
        · rw [hjn]
          unfold pend
          rw [if_neg (by omega)]
          by_cases h2 : j < l.size
          · rw [if_pos (by omega), show j + 1 - 1 = (j - 1) + 1 by omega, p2, show o + 1 + (j - 1) = o + j by omega]
            rfl
          · have hjl : j = l.size := by omega
            rw [if_neg (by omega), show j + 1 - 1 - l.size = 0 by omega]
            have e1 : pend r (o + 1 + l.size) (o : Int) 0 = [(o + 1 + l.size, (o : Int))] := by cases r <;> simp [pend]
            have e2 : pend l (o + 1) (-1) (j - 1 + 1) = [] := by rw [show j - 1 + 1 = l.size by omega]; exact pend_end l _ _
            rw [e2, show o + 1 + (j - 1) = o + j by omega] at p2
            have := List.append_eq_nil_iff.1 p2.symm
            rw [e1, this.1, this.2]
            rfl
        · by_cases h2 : j - 1 = 0
          · exact Or.inl (p3 h2)
          · rcases P4.out (by omega) with h | ⟨k, hk, h⟩
            · exact Or.inl h
            · exact Or.inr ⟨k + 1, by omega, by rw [h]; omega⟩
        · cases k with
          | zero =>
            rw [e0]
            simp only []
            constructor
            · intro h; omega
            · intro h
              by_cases h2 : j - 1 = 0
              · rw [p3 h2] at h; omega
              · rcases P4.out (by omega) with q | ⟨k', hk', q⟩ <;> (rw [q] at h; omega)
          | succ k =>
            rw [eL k (by omega)]
            have := p5 k (by omega)
            rw [show o + 1 + (j - 1) = o + j by omega] at this
            rw [this]
            constructor <;> (intro h; rw [h]; omega)
      · obtain ⟨jr, hjr⟩ : ∃ jr, j = jr + 1 + l.size := ⟨j - 1 - l.size, by omega⟩
        subst hjr
        obtain ⟨rest, a, p1, p2, p3, p4, p5⟩ := ihr (o + 1 + l.size) (o : Int) jr (by omega)
        have P4 : Hid (0 < jr → a = -1 ∨ ∃ k, k < jr ∧ a = ((o + 1 + l.size + k : Nat) : Int)) := p4
        clear p4
        refine ⟨rest, a, ?_, ?_, fun h => absurd h h0, fun _ => ?_, fun k hk => ?_⟩
        · unfold pend
          rw [if_neg h0, if_neg h1, show jr + 1 + l.size - 1 - l.size = jr by omega, p1, show o + 1 + l.size + jr = o + (jr + 1 + l.size) by omega]
        · rw [eR jr]
          unfold pend
          rw [if_neg (by omega), if_neg (by omega), show jr + 1 + l.size + 1 - 1 - l.size = jr + 1 by omega, p2, show o + 1 + l.size + jr = o + (jr + 1 + l.size) by omega]
        · by_cases h2 : jr = 0
          · exact Or.inr ⟨0, by omega, by rw [p3 h2]; rfl⟩
          · rcases P4.out (by omega) with h | ⟨k, hk, h⟩
            · exact Or.inl h
            · exact Or.inr ⟨k + 1 + l.size, by omega, by rw [h]; omega⟩
        · have hb : ∀ k', k' < l.size → ((ndAt (l.lay (o + 1)) k').r = -1 ∨ (ndAt (l.lay (o + 1)) k').r < ((o + 1 + l.size : Nat) : Int)) := lay_right l (o + 1)
          cases k with
          | zero =>
            rw [e0]
            simp only []
            by_cases h2 : jr = 0
            · subst h2
              rw [p3 rfl]
              constructor <;> (intro h; omega)
            · constructor
              · intro h; omega
              · intro h
                rcases P4.out (by omega) with q | ⟨k', hk', q⟩ <;> (rw [q] at h; omega)
          | succ k =>
            by_cases hkl : k < l.size
            · rw [eL k hkl]
              have hbk := hb k hkl
              constructor
              · intro h; rcases hbk with q | q <;> omega
              · intro h
                by_cases h2 : jr = 0
                · rw [p3 h2] at h; omega
                · rcases P4.out (by omega) with q | ⟨k', hk', q⟩ <;> (rw [q] at h; omega)
            · obtain ⟨kr, hkr⟩ : ∃ kr, k + 1 = kr + 1 + l.size := ⟨k - l.size, by omega⟩
              rw [hkr, eR kr]
              have := p5 kr (by omega)
              rw [show o + 1 + l.size + jr = o + (jr + 1 + l.size) by omega] at this
              rw [this]
              constructor <;> (intro h; rw [h]; omega)
end Go.Proofs.Ythdfpddijocfkaa

namespace Go.Proofs.Ythdfpddijocfkaa

open Go.RowKit

def trN (T : NL) (j k : Nat) : NdD := { ndAt T k with r := if (ndAt T k).r < (j : Int) then (ndAt T k).r else -1 }
def trT (T : NL) (j : Nat) : NL := (List.range j).map (trN T j)
def trK (T : NL) : Nat → List Int
  | 0 => []
  | j + 1 => trK T j ++ (if (ndAt T j).l = -1 then [] else [1, 1])
def trS (b : BT) (G : Nat → Nat) (j : Nat) : RS := ⟨trT (b.lay 0) j, (List.range j).map G, (pend b 0 (-1) j).map (fun x => (some (G x.1), x.2)), trK (b.lay 0) j⟩
open Classical in
/-- The graph of a table's nodes. -/
noncomputable def grT (T : NL) (G F : Nat → Nat) (g : Nat) : Option (Nat × GN) := if h : ∃ i, i < T.length ∧ G i = g then some (F (Classical.choose h), gnT T G (Classical.choose h)) else none
theorem grT_at {T : NL} {G F : Nat → Nat} (inj : ∀ i j, i < T.length → j < T.length → G i = G j → i = j) {i : Nat} (hi : i < T.length) : grT T G F (G i) = some (F i, gnT T G i) := by
  have h : ∃ k, k < T.length ∧ G k = G i := ⟨i, hi, rfl⟩
  have e : Classical.choose h = i := inj _ _ (Classical.choose_spec h).1 hi (Classical.choose_spec h).2
  unfold grT
  rw [dif_pos h, e]
theorem grT_some {T : NL} {G F : Nat → Nat} {g : Nat} {x : Nat × GN} (h : grT T G F g = some x) : ∃ i, i < T.length ∧ G i = g ∧ x = (F i, gnT T G i) := by
  unfold grT at h
  split at h
  · rename_i hh
    exact ⟨Classical.choose hh, (Classical.choose_spec hh).1, (Classical.choose_spec hh).2, (Option.some.inj h).symm⟩
  · cases h
theorem trT_get (T : NL) (j i : Nat) : (trT T j)[i]? = if i < j then some (trN T j i) else none := by
  unfold trT
  rw [List.getElem?_map]
  by_cases h : i < j
  · rw [List.getElem?_range h, if_pos h]; rfl
  · rw [List.getElem?_eq_none (by simpa using h), if_neg h]; rfl
theorem trT_length (T : NL) (j : Nat) : (trT T j).length = j := by unfold trT; simp
theorem trT_all {T : NL} (ok : LaidOk T) : trT T T.length = T := by
  apply List.ext_getElem?
  intro i
  rw [trT_get]
  by_cases h : i < T.length
  · rw [if_pos h, List.getElem?_eq_getElem h]
    have e : ndAt T i = T[i] := by unfold ndAt; rw [List.getD_eq_getElem?_getD, List.getElem?_eq_getElem h]; rfl
    have hr : (ndAt T i).r < (T.length : Int) := by
      rcases (ok.each i h).2 with ⟨_, q⟩ | ⟨r, _, q, _, q2, _⟩ <;> (rw [q]; omega)
    unfold trN
    rw [if_pos hr, ← e]
  · rw [if_neg h, List.getElem?_eq_none (by omega)]
theorem trT_next {T : NL} (ok : LaidOk T) {G : Nat → Nat} {j : Nat} (hj : j < T.length) {a : Int} (ha : a = -1 ∨ ∃ k, k < j ∧ a = (k : Int)) (hk : ∀ k, k < j → ((ndAt T k).r = (j : Int) ↔ a = (k : Int))) :
    trT T (j + 1) = if a = -1 then trT T j ++ [plainN (gnT T G j) j] else setRt (trT T j ++ [plainN (gnT T G j) j]) a.toNat (j : Int) := by
  have hp : plainN (gnT T G j) j = trN T (j + 1) j := by
    rcases (ok.each j hj).2 with ⟨e1, e2⟩ | ⟨r, e1, e2, e3, _, e5⟩
    · unfold plainN gnT trN
      generalize ndAt T j = N at e1 e2 ⊢
      obtain ⟨a1, a2, a3, a4, a5, a6⟩ := N
      simp only at e1 e2
      subst e1
      subst e2
      simp
    · unfold plainN gnT trN
      generalize ndAt T j = N at e1 e2 e5 ⊢
      obtain ⟨a1, a2, a3, a4, a5, a6⟩ := N
      simp only at e1 e2 e5
      subst e1
      subst e2
      subst e5
      simp only []
      rw [if_neg (show ¬ (((j + 1 : Nat) : Int) = -1) by omega), if_neg (show ¬ ((r : Int) < ((j + 1 : Nat) : Int)) by omega)]
      simp
  have hT : ∀ i, i < j → trN T (j + 1) i = if a = (i : Int) then { trN T j i with r := (j : Int) } else trN T j i := by
    intro i hi
    have h1 := hk i hi
    unfold trN
    by_cases q : a = (i : Int)
    · have h2 := h1.2 q
      rw [if_pos q, h2, if_pos (by omega)]
    · rw [if_neg q]
      have h2 : (ndAt T i).r ≠ (j : Int) := fun e => q (h1.1 e)
      congr 1
      by_cases h3 : (ndAt T i).r < (j : Int)
      · rw [if_pos h3, if_pos (by omega)]
      · rw [if_neg h3, if_neg (by omega)]
  have hl : (trT T j ++ [plainN (gnT T G j) j]).length = j + 1 := by rw [List.length_append, trT_length]; rfl
  have hg : ∀ i, (trT T j ++ [plainN (gnT T G j) j])[i]? = if i < j then some (trN T j i) else if i = j then some (trN T (j + 1) j) else none := by
    intro i
    by_cases h : i < j
    · rw [if_pos h, List.getElem?_append_left (by rw [trT_length]; exact h), trT_get, if_pos h]
    · rw [if_neg h, List.getElem?_append_right (by rw [trT_length]; omega), trT_length]
      by_cases h2 : i = j
      · subst h2; rw [if_pos rfl, Nat.sub_self, hp]; rfl
      · rw [if_neg h2, List.getElem?_eq_none (by simp; omega)]
  rcases ha with rfl | ⟨k, hkj, rfl⟩
  · rw [if_pos rfl]
    apply List.ext_getElem?
    intro i
    rw [trT_get, hg]
    by_cases h : i < j
    · rw [if_pos (by omega), if_pos h, hT i h, if_neg (by omega)]
    · rw [if_neg h]
      by_cases h2 : i = j
      · subst h2; rw [if_pos (by omega), if_pos rfl]
      · rw [if_neg (by omega), if_neg h2]
  · rw [if_neg (by omega), Int.toNat_natCast]
    apply List.ext_getElem?
    intro i
    have hn : ndAt (trT T j ++ [plainN (gnT T G j) j]) k = trN T j k := by
      unfold ndAt
      rw [List.getD_eq_getElem?_getD, hg, if_pos hkj]
      rfl
    unfold setRt
    rw [List.getElem?_set, hn, hl, trT_get, hg]
    by_cases h : k = i
    · subst h
      rw [if_pos rfl, if_pos (by omega), if_pos (by omega), hT k hkj, if_pos rfl]
    · rw [if_neg h]
      by_cases h3 : i < j
      · rw [if_pos (by omega), if_pos h3, hT i h3, if_neg (by omega)]
      · rw [if_neg h3]
        by_cases h2 : i = j
        · subst h2; rw [if_pos (by omega), if_pos rfl]
        · rw [if_neg (by omega), if_neg h2]
theorem gnT_two (T : NL) (G : Nat → Nat) (i : Nat) : ((gnT T G i).lf = false → (gnT T G i).ch.length = 2) ∧ (gnT T G i).ch.length ≤ 2 := by
  unfold gnT
  split <;> simp
theorem gnT_lf (T : NL) (G : Nat → Nat) (i : Nat) : (gnT T G i).lf = decide ((ndAt T i).l = -1) := by
  unfold gnT
  split
  · rename_i h; simp [h]
  · rename_i h; simp [h]
theorem lay_run {b : BT} (hs : b.size ≤ 100000) (ok : LaidOk (b.lay 0)) {G F : Nat → Nat} (inj : ∀ i j, i < (b.lay 0).length → j < (b.lay 0).length → G i = G j → i = j) : RRun (grT (b.lay 0) G F) (trS b G) b.size := by
  have hlen : (b.lay 0).length = b.size := BT.lay_length b 0
  refine ⟨fun j hj => ?_, fun j hj => trT_length _ _, fun j hj => ?_, fun j hj q hq => ?_, Or.inl ?_⟩
  · obtain ⟨rest, a, p1, p2, p3, p4, p5⟩ := pendA_step b 0 (-1) j hj
    simp only [Nat.zero_add] at p1 p2 p4 p5
    have hjl : j < (b.lay 0).length := by omega
    have hup : a = -1 ∨ ∃ k, k < j ∧ a = (k : Int) := by
      by_cases h0 : j = 0
      · exact Or.inl (p3 h0)
      · exact p4 (by omega)
    refine ⟨rest.map (fun x => (some (G x.1), x.2)), G j, a, F j, gnT (b.lay 0) G j, ?_, grT_at inj hjl, ?_, ?_, ?_, ?_, ?_, ?_, ?_, (gnT_two _ _ _).1, (gnT_two _ _ _).2, ?_⟩
    · show (pend b 0 (-1) j).map _ = _
      rw [p1, List.map_append]
      rfl
    · show G j ∉ (List.range j).map G
      intro h
      obtain ⟨k, hk, e⟩ := List.mem_map.1 h
      have hk' := List.mem_range.1 hk
      have := inj k j (by omega) hjl e
      omega
    · show (trT _ j).length < _
      rw [trT_length]; omega
    · rcases hup with h | ⟨k, h1, h2⟩
      · exact Or.inl h
      · exact Or.inr ⟨k, h2, by show k < (trT _ j).length; rw [trT_length]; exact h1⟩
    · show (List.range (j + 1)).map G = (List.range j).map G ++ [G j]
      rw [List.range_succ, List.map_append]; rfl
    · show trT _ (j + 1) = if a = -1 then trT _ j ++ [plainN _ (trT _ j).length] else setRt (trT _ j ++ [plainN _ (trT _ j).length]) a.toNat ((trT _ j).length : Int)
      rw [trT_length]
      exact trT_next ok hjl hup p5
    · show (pend b 0 (-1) (j + 1)).map _ = if (gnT _ G j).lf then _ else _ ++ [(chO _ 1, ((trT _ j).length : Int)), (chO _ 0, -1)]
      rw [trT_length, p2, List.map_append]
      unfold kidsA chO gnT
      by_cases h : (ndAt (b.lay 0) j).l = -1
      · simp [h]
      · simp [h]
    · show trK _ (j + 1) = trK _ j ++ (chK _ ++ chK _)
      unfold chK gnT
      by_cases h : (ndAt (b.lay 0) j).l = -1
      · simp [trK, h]
      · simp [trK, h]
    · intro i q hlf hq
      rcases (ok.each j hjl).2 with ⟨e1, e2⟩ | ⟨r, e1, e2, e3, e4, _⟩
      · rw [gnT_lf, e1] at hlf; simp at hlf
      · unfold gnT at hq
        rw [if_neg (by rw [e1]; omega), e1, e2] at hq
        simp only [Int.toNat_natCast] at hq
        match i, hq with
        | 0, hq =>
          simp at hq
          rw [← hq, grT_at inj (by omega)]; rfl
        | 1, hq =>
          simp at hq
          rw [← hq, grT_at inj (by omega)]; rfl
        | i + 2, hq => simp at hq
  · show ((pend b 0 (-1) j).map _).length ≤ _
    rw [List.length_map]
    have := pend_le b 0 (-1) j
    omega
  · obtain ⟨k, hk, rfl⟩ := List.mem_map.1 hq
    have hk' := List.mem_range.1 hk
    rw [grT_at inj (by omega)]; rfl
  · show (pend b 0 (-1) b.size).map _ = []
    rw [pend_end]; rfl
theorem trK_le {T : NL} : ∀ j, (trK T j).length ≤ 2 * j
  | 0 => Nat.le_refl _
  | j + 1 => by
    have := trK_le (T := T) j
    simp only [trK, List.length_append]
    split <;> simp <;> omega
theorem trK_mono (T : NL) : ∀ {j m : Nat}, j ≤ m → (trK T j).length ≤ (trK T m).length := by
  intro j m h
  induction m with
  | zero =>
    have e : j = 0 := by omega
    rw [e]
    exact Nat.le_refl _
  | succ m ih =>
    by_cases e : j = m + 1
    · subst e; exact Nat.le_refl _
    · have := ih (by omega)
      simp only [trK, List.length_append]
      omega
end Go.Proofs.Ythdfpddijocfkaa

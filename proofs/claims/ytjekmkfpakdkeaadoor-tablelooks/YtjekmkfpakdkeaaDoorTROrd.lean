/- Layer 16: Ordered of the reference. -/
import Derived.Test.YtjekmkfpakdkeaaDoorTOrdd
namespace Go.Proofs.YtjekmkfpakdkeaaDoor
open Go.RowKit
attribute [local go_sem ↓] Go.wp_at_zero Go.wp_at_succ

/-- A span of the reference's InOrder. -/
structure S6 where
  p : Nat
  lo : Int
  hi : Int
  hl : Bool
  hh : Bool
  nv : Bool
def in6 (s : S6) (k : Int) : Prop := s.nv = false ∧ (s.hl = true → s.lo ≤ k) ∧ (s.hh = true → k < s.hi)
def left6 (n : NdD) (l : Nat) (s : S6) : S6 := if n.inf = 1 then ⟨l, s.lo, s.hi, s.hl, s.hh, s.nv⟩ else if s.hh = false ∨ n.key < s.hi then ⟨l, s.lo, n.key, s.hl, true, s.nv⟩ else ⟨l, s.lo, s.hi, s.hl, s.hh, s.nv⟩
def right6 (n : NdD) (r : Nat) (s : S6) : S6 := if n.inf = 1 then ⟨r, s.lo, s.hi, s.hl, s.hh, true⟩ else if s.hl = false ∨ s.lo < n.key then ⟨r, n.key, s.hi, true, s.hh, s.nv⟩ else ⟨r, s.lo, s.hi, s.hl, s.hh, s.nv⟩
theorem left6_in (n : NdD) (l : Nat) (s : S6) : in6 (left6 n l s) = fun k => in6 s k ∧ goesL n k := by
  funext k
  apply propext
  obtain ⟨p, lo, hi, hl, hh, nv⟩ := s
  unfold left6 goesL
  by_cases q : n.inf = 1
  · rw [if_pos q]; simp [q, in6]
  · rw [if_neg q]
    cases hh
    · simp only [in6, true_or, if_true]
      simp [q]
      cases nv <;> cases hl <;> simp
    · by_cases q' : n.key < hi
      · rw [if_pos (Or.inr q')]
        simp only [in6, q, false_or]
        constructor
        · rintro ⟨a, b, c⟩; have := c trivial; exact ⟨⟨a, b, fun _ => by omega⟩, this⟩
        · rintro ⟨⟨a, b, c⟩, d⟩; exact ⟨a, b, fun _ => d⟩
      · rw [if_neg (by simp; omega)]
        simp only [in6, q, false_or]
        constructor
        · rintro ⟨a, b, c⟩; have := c trivial; exact ⟨⟨a, b, c⟩, by omega⟩
        · rintro ⟨⟨a, b, c⟩, d⟩; exact ⟨a, b, c⟩
theorem right6_in (n : NdD) (r : Nat) (s : S6) : in6 (right6 n r s) = fun k => in6 s k ∧ ¬ goesL n k := by
  funext k
  apply propext
  obtain ⟨p, lo, hi, hl, hh, nv⟩ := s
  unfold right6 goesL
  by_cases q : n.inf = 1
  · rw [if_pos q]; simp [q, in6]
  · rw [if_neg q]
    cases hl
    · rw [if_pos (Or.inl rfl)]
      simp only [in6, q, false_or]
      constructor
      · rintro ⟨a, b, c⟩; have := b trivial; exact ⟨⟨a, (fun h => by cases h), c⟩, by omega⟩
      · rintro ⟨⟨a, b, c⟩, d⟩; exact ⟨a, fun _ => by omega, c⟩
    · by_cases q' : lo < n.key
      · rw [if_pos (Or.inr q')]
        simp only [in6, q, false_or]
        constructor
        · rintro ⟨a, b, c⟩; have := b trivial; exact ⟨⟨a, fun _ => by omega, c⟩, by omega⟩
        · rintro ⟨⟨a, b, c⟩, d⟩; exact ⟨a, fun _ => by omega, c⟩
      · rw [if_neg (by simp; omega)]
        simp only [in6, q, false_or]
        constructor
        · rintro ⟨a, b, c⟩; have := b trivial; exact ⟨⟨a, b, c⟩, by omega⟩
        · rintro ⟨⟨a, b, c⟩, d⟩; exact ⟨a, b, c⟩
theorem left6_p (n : NdD) (l : Nat) (s : S6) : (left6 n l s).p = l := by unfold left6; split; rfl; split <;> rfl
theorem right6_p (n : NdD) (r : Nat) (s : S6) : (right6 n r s).p = r := by unfold right6; split; rfl; split <;> rfl
/-- What InOrder has still to ask is what Ordered asks. -/
theorem ord6_push {t : NL} {s : S6} {l r : Nat} {Q : List S6} (hs : s.p < t.length) (hl : (ndAt t s.p).l = (l : Int)) (hr : (ndAt t s.p).r = (r : Int)) (h : ordP t ↔ ∀ q ∈ s :: Q, OrdAt t q.p (in6 q)) :
    ordP t ↔ ∀ q ∈ right6 (ndAt t s.p) r s :: left6 (ndAt t s.p) l s :: Q, OrdAt t q.p (in6 q) := by
  rw [h]
  simp only [List.forall_mem_cons]
  rw [ord_inner hs hl hr, left6_in, right6_in, left6_p, right6_p]
  exact ⟨fun q => ⟨q.1.2, q.1.1, q.2⟩, fun q => ⟨⟨q.2.1, q.1⟩, q.2.2⟩⟩

def s6Cs : List S6 → List Value
  | [] => []
  | s :: Q => .int .i64 (s.p : Int) :: .int .i64 s.lo :: .int .i64 s.hi :: .bool s.hl :: .bool s.hh :: .bool s.nv :: s6Cs Q
theorem s6Cs_append : ∀ a b : List S6, s6Cs (a ++ b) = s6Cs a ++ s6Cs b
  | [], _ => rfl
  | n :: t, b => by simp [s6Cs, s6Cs_append t b]
theorem s6Cs_length : ∀ t : List S6, (s6Cs t).length = t.length * 6
  | [] => rfl
  | n :: t => by simp [s6Cs, s6Cs_length t]; omega
theorem s6Cs_inj : ∀ a b : List S6, s6Cs a = s6Cs b → a = b
  | [], [], _ => rfl
  | [], _ :: _, h => by cases h
  | _ :: _, [], h => by cases h
  | ⟨p, lo, hi, hl, hh, nv⟩ :: a, ⟨p', lo', hi', hl', hh', nv'⟩ :: b, h => by
    simp only [s6Cs, List.cons.injEq, Value.int.injEq, Value.bool.injEq, true_and] at h
    obtain ⟨h1, h2, h3, h4, h5, h6, h7⟩ := h
    obtain rfl := Int.ofNat.inj h1
    rw [h2, h3, h4, h5, h6, s6Cs_inj a b h7]
theorem s6_info : (Tryd.prog.info? 87).map (fun i => (i.zero, i.size, i.bytes)) = some (some (.agg #[.int .i64 0, .int .i64 0, .int .i64 0, .bool false, .bool false, .bool false]), 6, 32) := by kernel_rfl
theorem s6_under : Tryd.prog.underlying 88 = some (.slice 87) := by kernel_rfl
theorem todo_det {t : NL} : ∀ {S R R' : List Nat}, Todo t S R → Todo t S R' → R = R'
  | [], R, R', h, h' => by rw [show R = [] from h, show R' = [] from h']
  | s :: S, R, R', ⟨L, M, h1, h2, h3⟩, ⟨L', M', h1', h2', h3'⟩ => by rw [h3, h3', h1.det h1', todo_det h2 h2']
theorem owns_uniq {w : World} {B sz : Nat} {e : TypeId} {v : Value} {n n' : Nat} {xs xs' : List Value} (h : w.ownsRow B e sz v n xs) (h' : w.ownsRow B e sz v n' xs') : xs = xs' := by
  obtain ⟨q, h⟩ := h
  obtain ⟨q', h'⟩ := h'
  rcases h with ⟨rfl, h0⟩ | ⟨g, cap, cur, rfl, hg, hh, h1, h2, h3, h4⟩ <;> rcases h' with ⟨hv, h0'⟩ | ⟨g', cap', cur', hv, hg', hh', h1', h2', h3', h4'⟩
  · subst h0 h0'
    rw [Nat.zero_mul] at q q'
    rw [List.length_eq_zero_iff.1 q, List.length_eq_zero_iff.1 q']
  · cases hv
  · cases hv
  · injection hv with e1 e2 e3
    injection e1 with e1
    injection e1 with e1 _ _
    subst e1 e2
    rw [hh] at hh'
    injection hh' with hh'
    injection hh' with e4
    subst e4
    rw [← h4, ← h4']
open Classical in
/-- How many places are still to be passed. -/
noncomputable def rest6 (t : NL) (B : Nat) (v : Value) (w : World) : Nat := if h : ∃ R : List Nat, ∃ Q : List S6, w.ownsRow B 87 6 v Q.length (s6Cs Q.reverse) ∧ Todo t (Q.map S6.p) R then (Classical.choose h).length else 0
theorem rest6_eq {t : NL} {B : Nat} {v : Value} {w : World} {Q : List S6} {R : List Nat} (ho : w.ownsRow B 87 6 v Q.length (s6Cs Q.reverse)) (hT : Todo t (Q.map S6.p) R) : rest6 t B v w = R.length := by
  have hx : ∃ R : List Nat, ∃ Q : List S6, w.ownsRow B 87 6 v Q.length (s6Cs Q.reverse) ∧ Todo t (Q.map S6.p) R := ⟨R, Q, ho, hT⟩
  unfold rest6
  rw [dif_pos hx]
  obtain ⟨Q', ho', hT'⟩ := Classical.choose_spec hx
  have e : Q' = Q := by
    have := s6Cs_inj _ _ (owns_uniq ho' ho)
    simpa using this
  rw [e] at hT'
  rw [todo_det hT' hT]
theorem six_cells {w : World} {b : Nat} {v0 v1 v2 v3 v4 v5 : Value} {T : TypeId} (h : w.heap[b]? = some (.cells #[v0, v1, v2, v3, v4, v5] T)) : b < w.heap.size ∧ (w.cell? ⟨b, 0, none⟩ = some v0 ∧ w.frozen? ⟨b, 0, none⟩ = false) ∧ (w.cell? ⟨b, 1, none⟩ = some v1 ∧ w.frozen? ⟨b, 1, none⟩ = false) ∧ (w.cell? ⟨b, 2, none⟩ = some v2 ∧ w.frozen? ⟨b, 2, none⟩ = false) ∧ (w.cell? ⟨b, 3, none⟩ = some v3 ∧ w.frozen? ⟨b, 3, none⟩ = false) ∧ (w.cell? ⟨b, 4, none⟩ = some v4 ∧ w.frozen? ⟨b, 4, none⟩ = false) ∧ (w.cell? ⟨b, 5, none⟩ = some v5 ∧ w.frozen? ⟨b, 5, none⟩ = false) := by
  refine ⟨(Array.getElem?_eq_some_iff.1 h).1, ⟨?_, ?_⟩, ⟨?_, ?_⟩, ⟨?_, ?_⟩, ⟨?_, ?_⟩, ⟨?_, ?_⟩, ?_, ?_⟩ <;> simp [World.cell?, World.frozen?, h]
/-- Two boxes behind a world. -/
structure Two6 (w0 : World) (bl br : Nat) (ca cb : Array Value) (x : World) : Prop where
  l : x.heap[bl]? = some (.cells ca 87)
  r : x.heap[br]? = some (.cells cb 87)
  ne : bl ≠ br
  gl : w0.heap.size ≤ bl
  gr : w0.heap.size ≤ br
  below : Below w0.heap.size w0 x
theorem heap_set {w : World} {b k : Nat} {ca : Array Value} {T : TypeId} (h : w.heap[b]? = some (.cells ca T)) (v : Value) : (w.setCell ⟨b, k, none⟩ v).heap[b]? = some (.cells (ca.setIfInBounds k v) T) := by
  simp [World.setCell, Array.getElem?_modify, h]
theorem Two6.setL {w0 x : World} {bl br : Nat} {ca cb : Array Value} (h : Two6 w0 bl br ca cb x) (k : Nat) (v : Value) : Two6 w0 bl br (ca.setIfInBounds k v) cb (x.setCell ⟨bl, k, none⟩ v) :=
  ⟨heap_set h.l v, by rw [Below.heap_setCell _ _ _ _ (by simpa using Ne.symm h.ne)]; exact h.r, h.ne, h.gl, h.gr, h.below.setCell h.gl _⟩
theorem Two6.setR {w0 x : World} {bl br : Nat} {ca cb : Array Value} (h : Two6 w0 bl br ca cb x) (k : Nat) (v : Value) : Two6 w0 bl br ca (cb.setIfInBounds k v) (x.setCell ⟨br, k, none⟩ v) :=
  ⟨by rw [Below.heap_setCell _ _ _ _ (by simpa using h.ne)]; exact h.l, heap_set h.r v, h.ne, h.gl, h.gr, h.below.setCell h.gr _⟩
theorem Two6.drew {w0 x : World} {bl br : Nat} {ca cb : Array Value} (h : Two6 w0 bl br ca cb x) : Two6 w0 bl br ca cb x.drew := ⟨h.l, h.r, h.ne, h.gl, h.gr, h.below.drew⟩
theorem two6_a (w : World) (c : Array Value) : Two6 w w.heap.size (w.heap.size + 1) c c ((w.alloc (.cells c 87)).alloc (.cells c 87)) :=
  ⟨(heap_alloc_old _ _ (by simp)).trans (heap_alloc_at _ _ _ rfl), heap_alloc_at _ _ _ (by simp), by omega, by omega, by omega, (below_alloc w _).alloc (by simp) _⟩
theorem two6_b (w : World) (c : Array Value) : Two6 w (w.heap.size + 1) w.heap.size c c ((w.alloc (.cells c 87)).alloc (.cells c 87)) :=
  ⟨heap_alloc_at _ _ _ (by simp), (heap_alloc_old _ _ (by simp)).trans (heap_alloc_at _ _ _ rfl), by omega, by omega, by omega, (below_alloc w _).alloc (by simp) _⟩
def Two6Ex (w0 : World) (ca cb : Array Value) (v u : Value) (x : World) : Prop := ∃ bl br, v = .pointer (some ⟨bl, 0, none⟩) ∧ u = .pointer (some ⟨br, 0, none⟩) ∧ Two6 w0 bl br ca cb x
-- WALK
theorem s6_cut (s : S6) (Q : List S6) : (s6Cs (s :: Q).reverse).take (Q.length * 6) = s6Cs Q.reverse := by
  rw [List.reverse_cons, s6Cs_append, List.take_left' (by rw [s6Cs_length]; simp)]
theorem s6_top (s : S6) (Q : List S6) (k : Nat) : (s6Cs (s :: Q).reverse)[Q.length * 6 + k]? = (s6Cs [s])[k]? := by
  rw [List.reverse_cons, s6Cs_append, List.getElem?_append_right (by rw [s6Cs_length]; simp)]
  congr 1
  rw [s6Cs_length]; simp
theorem in6_first (t : NL) : ordP t ↔ ∀ q ∈ [(⟨0, 0, 0, false, false, false⟩ : S6)], OrdAt t q.p (in6 q) := by
  have e : in6 ⟨0, 0, 0, false, false, false⟩ = fun _ => True := by funext k; simp [in6]
  simp only [List.mem_singleton, forall_eq, e]
  exact Iff.rfl
theorem push6 {w : World} {B x0 y0 : Nat} {x1 x2 y1 y2 : Int} {x3 x4 x5 y3 y4 y5 : Bool} {v : Value} {Q : List S6} {s : S6} (h : w.ownsRow B 87 6 v (Q.length + 2) ((s6Cs (s :: Q).reverse).take (Q.length * 6) ++ [.int .i64 (x0 : Int), .int .i64 x1, .int .i64 x2, .bool x3, .bool x4, .bool x5, .int .i64 (y0 : Int), .int .i64 y1, .int .i64 y2, .bool y3, .bool y4, .bool y5])) :
    w.ownsRow B 87 6 v ((⟨y0, y1, y2, y3, y4, y5⟩ : S6) :: ⟨x0, x1, x2, x3, x4, x5⟩ :: Q).length (s6Cs ((⟨y0, y1, y2, y3, y4, y5⟩ : S6) :: ⟨x0, x1, x2, x3, x4, x5⟩ :: Q).reverse) := by
  rw [s6_cut] at h
  have e : s6Cs ((⟨y0, y1, y2, y3, y4, y5⟩ : S6) :: ⟨x0, x1, x2, x3, x4, x5⟩ :: Q).reverse = s6Cs Q.reverse ++ [.int .i64 (x0 : Int), .int .i64 x1, .int .i64 x2, .bool x3, .bool x4, .bool x5, .int .i64 (y0 : Int), .int .i64 y1, .int .i64 y2, .bool y3, .bool y4, .bool y5] := by
    simp [s6Cs_append, s6Cs]
  rw [e]
  exact h
/-- A span's cells. -/
def C6 (s : S6) : Array Value := #[.int .i64 (s.p : Int), .int .i64 s.lo, .int .i64 s.hi, .bool s.hl, .bool s.hh, .bool s.nv]
set_option maxRecDepth 100000 in
set_option maxHeartbeats 4000000 in
theorem rInOrder_any (base : Option Addr) (b o c : Nat) (t : NL) (L : List Nat) (w : World) (B : Bool) (h : NodesAt w base b o t) (hT : Tree t 0 L) (hL : L.length ≤ 1000000) (hY : ordP t → B = true) (hN : ¬ ordP t → B = false) :
    Calls Tryd.prog 65 #[.slice base t.length c] w fun e w' => e = .returned (.bool B) ∧ Below w.heap.size w w' := by
  have HA : Hid _ := h
  have HT : Hid _ := hT
  have hlt := hT.lt
  obtain rfl : base = some ⟨b, o, none⟩ := h.base (by omega)
  have hbl := h.lt (by omega)
  have FY : Hid (ordP t → B = true) := hY
  have FN : Hid (¬ ordP t → B = false) := hN
  clear h hT hY hN
  obtain ⟨i0, hi0, hz0, hz1, hz2⟩ := info_parts s6_info
  go_enter Tryd.func65, Tryd.ntmps65
  go_wp2_with fail
  go_loopw [3] (fun v wr => ∃ (Q : List S6) (R : List Nat), R.length ≤ L.length ∧ Todo t (Q.map S6.p) R ∧ (ordP t ↔ ∀ q ∈ Q, OrdAt t q.p (in6 q)) ∧ Below w.heap.size w wr ∧ wr.ownsRow w.heap.size 87 6 v Q.length (s6Cs Q.reverse)) (fun v wr => rest6 t w.heap.size v wr)
  case atStart =>
    refine ⟨[⟨0, 0, 0, false, false, false⟩], L, Nat.le_refl _, todo_one HT.out, in6_first t, below_alloc _ _, ?_⟩
    exact World.ownsRow_lit w #[.int .i64 0, .int .i64 0, .int .i64 0, .bool false, .bool false, .bool false] 1 (Nat.le_refl _) (by unfold maxLen; omega) rfl
  case round =>
    obtain ⟨Q, R, hRL, hS, hO, hbw, hown⟩ := hrel
    have HM : Hid (rest6 t w.heap.size u3 wr = R.length) := rest6_eq hown hS
    have HRL : Hid _ := hRL
    cases Q with
    | nil =>
      have F : Hid (B = true) := FY.out (hO.2 (fun q hq => by cases hq))
      rcases Go.Joins.ownsRow_forms hown with ⟨rfl, _⟩ | ⟨ga, ca, rfl⟩
      all_goals
        have HB : Hid _ := hbw
        clear hown hbw hO hS hRL
        go_wp2_with fail
        go_ret
        exact ⟨by rw [F.out]; rfl, HB.out⟩
    | cons s Q =>
      have hS' : Todo t (s.p :: Q.map S6.p) R := hS
      obtain ⟨hs, hstep⟩ := todo_step hS'
      have hRl := todo_length hS
      have hQl : Q.length + 1 ≤ 1000000 := by simp at hRl; omega
      obtain ⟨ga, ca, rfl, hga, hgl, hcap, hcm, hcell, hfr⟩ := owns_some hown (by simp)
      have tc : ∀ k, k < 6 → wr.cell? ⟨ga, Q.length * 6 + k, none⟩ = (s6Cs [s])[k]? := fun k hk => (hcell _ (by simp; omega)).trans (s6_top s Q k)
      have t0 := tc 0 (by omega)
      have t1 := tc 1 (by omega)
      have t2 := tc 2 (by omega)
      have t3 := tc 3 (by omega)
      have t4 := tc 4 (by omega)
      have t5 := tc 5 (by omega)
      clear tc
      simp only [s6Cs, Nat.add_zero, List.getElem?_cons_zero, List.getElem?_cons_succ] at t0 t1 t2 t3 t4 t5
      have HC : Hid _ := (HA.out.below hbw).cells s.p hs
      have hbs := hbw.size
      have hbr : b < wr.heap.size := by omega
      have hi1 : ((Q.length + 1 : Nat) : Int) - 1 = (Q.length : Int) := by omega
      have HB : Hid _ := hbw
      have HOW : Hid (World.ownsRow _ _ _ _ _ _ _) := hown
      have HO : Hid (ordP t ↔ ∀ q ∈ s :: Q, OrdAt t q.p (in6 q)) := hO
      have s0 : (0 : Int) ≤ (s.p : Int) := Int.natCast_nonneg _
      have s1 : (s.p : Int) < (t.length : Int) := by omega
      clear hbw hown hO hS hS' hcell hRL hRl
      rcases hstep with ⟨R', hR, hl', hr', hTd⟩ | ⟨l, r, R', R'', hR, hl', hr', hll, hrl, -, hTd, hRR⟩
      · have HLF : Hid _ := rleafB_yes (n := ndAt t s.p) hl'
        have HTD : Hid (Todo t _ _) := hTd
        have HR : Hid _ := hR
        have HQ : Hid (ordP t ↔ (((ndAt t s.p).inf = 0 → in6 s (ndAt t s.p).key) ∧ ∀ p ∈ Q, OrdAt t p.p (in6 p))) := by
          show _ ↔ _
          rw [HO.out]
          simp only [List.forall_mem_cons]
          rw [ord_leaf hs hl' hr']
        clear hl' hr' hTd hR HO
        simp only [List.length_cons] at *
        generalize ndAt t s.p = nd at HC HLF HQ
        obtain ⟨k0, k1, k2, k3, k4, k5⟩ := nd
        obtain ⟨p, lo, hi, hl, hh, nv⟩ := s
        simp only at HC HQ t0 t1 t2 t3 t4 t5 s0 s1 hs
        obtain ⟨c0, c1, c2, c3, c4, c5⟩ := HC.out
        have hfork : True := trivial
        clear hfork
        by_cases g1 : k1 = 0
        · have d1 : (k1 == 0) = true := by simp [g1]
          cases nv with
          | true =>
            have F : Hid (B = false) := FN.out (fun q => by have := (HQ.out.1 q).1 g1; simp [in6] at this)
            clear g1
            go_wp2_with (first | (go_at_call 57; refine (rLeaf_any _ _ _ _ _ _ _).mono ?_; rintro e w4 ⟨rfl, hb4⟩; rw [HLF.out]; have hz4 := hb4.size; simp only [World.size_alloc] at hz4; have HN4 : Hid _ := (hb4.block (wr.heap.size + 1) (by simp)).trans (heap_alloc_at _ _ _ (by simp)); have HS4 : Hid _ := (hb4.block wr.heap.size (by simp; omega)).trans ((heap_alloc_old _ _ (by simp)).trans (heap_alloc_at _ _ _ rfl)); have HB4 : Hid (Below w.heap.size w w4) := ((HB.out.alloc hbs _).alloc (by simp; omega) _).trans (hb4.mono (by simp; omega)); have HO4 : Hid (World.ownsRow _ _ _ _ _ _ _) := owns_below HOW.out ((below_alloc wr _).trans (((below_alloc _ _).trans (hb4.mono (by simp))).mono (by simp))); obtain ⟨nl, n0, n1, n2, n3, n4, n5⟩ := box_cells HN4.out; obtain ⟨sl, z0, z1, z2, z3, z4, z5⟩ := box_cells HS4.out; clear hb4))
            go_ret
            exact ⟨by rw [F.out]; rfl, HB4.out⟩
          | false =>
            cases hl with
            | true =>
              by_cases g2 : k0 < lo
              · have d2 : decide (k0 < lo) = true := by simp [g2]
                have F : Hid (B = false) := FN.out (fun q => by have := (HQ.out.1 q).1 g1; simp [in6] at this; omega)
                clear g1
                go_wp2_with (first | (go_at_call 57; refine (rLeaf_any _ _ _ _ _ _ _).mono ?_; rintro e w4 ⟨rfl, hb4⟩; rw [HLF.out]; have hz4 := hb4.size; simp only [World.size_alloc] at hz4; have HN4 : Hid _ := (hb4.block (wr.heap.size + 1) (by simp)).trans (heap_alloc_at _ _ _ (by simp)); have HS4 : Hid _ := (hb4.block wr.heap.size (by simp; omega)).trans ((heap_alloc_old _ _ (by simp)).trans (heap_alloc_at _ _ _ rfl)); have HB4 : Hid (Below w.heap.size w w4) := ((HB.out.alloc hbs _).alloc (by simp; omega) _).trans (hb4.mono (by simp; omega)); have HO4 : Hid (World.ownsRow _ _ _ _ _ _ _) := owns_below HOW.out ((below_alloc wr _).trans (((below_alloc _ _).trans (hb4.mono (by simp))).mono (by simp))); obtain ⟨nl, n0, n1, n2, n3, n4, n5⟩ := box_cells HN4.out; obtain ⟨sl, z0, z1, z2, z3, z4, z5⟩ := box_cells HS4.out; clear hb4))
                go_ret
                exact ⟨by rw [F.out]; rfl, HB4.out⟩
              · have d2 : decide (k0 < lo) = false := by simp [g2]
                have d2' : lo ≤ k0 := by omega
                cases hh with
                | true =>
                  by_cases g3 : hi ≤ k0
                  · have d3 : decide (hi ≤ k0) = true := by simp [g3]
                    have d3' : decide (k0 ≥ hi) = true := by simp [g3]
                    have F : Hid (B = false) := FN.out (fun q => by have := (HQ.out.1 q).1 g1; simp [in6] at this; omega)
                    clear g1
                    go_wp2_with (first | (go_at_call 57; refine (rLeaf_any _ _ _ _ _ _ _).mono ?_; rintro e w4 ⟨rfl, hb4⟩; rw [HLF.out]; have hz4 := hb4.size; simp only [World.size_alloc] at hz4; have HN4 : Hid _ := (hb4.block (wr.heap.size + 1) (by simp)).trans (heap_alloc_at _ _ _ (by simp)); have HS4 : Hid _ := (hb4.block wr.heap.size (by simp; omega)).trans ((heap_alloc_old _ _ (by simp)).trans (heap_alloc_at _ _ _ rfl)); have HB4 : Hid (Below w.heap.size w w4) := ((HB.out.alloc hbs _).alloc (by simp; omega) _).trans (hb4.mono (by simp; omega)); have HO4 : Hid (World.ownsRow _ _ _ _ _ _ _) := owns_below HOW.out ((below_alloc wr _).trans (((below_alloc _ _).trans (hb4.mono (by simp))).mono (by simp))); obtain ⟨nl, n0, n1, n2, n3, n4, n5⟩ := box_cells HN4.out; obtain ⟨sl, z0, z1, z2, z3, z4, z5⟩ := box_cells HS4.out; clear hb4))
                    go_ret
                    exact ⟨by rw [F.out]; rfl, HB4.out⟩
                  · have d3 : decide (hi ≤ k0) = false := by simp [g3]
                    have d3' : decide (k0 ≥ hi) = false := by simp [g3]
                    have d4 : k0 < hi := by omega
                    have HG : Hid (ordP t ↔ ∀ q ∈ Q, OrdAt t q.p (in6 q)) := HQ.out.trans ⟨fun q => q.2, fun q => ⟨fun _ => by simp [in6]; try omega, q⟩⟩
                    clear g1
                    go_wp2_with (first | (go_at_call 57; refine (rLeaf_any _ _ _ _ _ _ _).mono ?_; rintro e w4 ⟨rfl, hb4⟩; rw [HLF.out]; have hz4 := hb4.size; simp only [World.size_alloc] at hz4; have HN4 : Hid _ := (hb4.block (wr.heap.size + 1) (by simp)).trans (heap_alloc_at _ _ _ (by simp)); have HS4 : Hid _ := (hb4.block wr.heap.size (by simp; omega)).trans ((heap_alloc_old _ _ (by simp)).trans (heap_alloc_at _ _ _ rfl)); have HB4 : Hid (Below w.heap.size w w4) := ((HB.out.alloc hbs _).alloc (by simp; omega) _).trans (hb4.mono (by simp; omega)); have HO4 : Hid (World.ownsRow _ _ _ _ _ _ _) := owns_below HOW.out ((below_alloc wr _).trans (((below_alloc _ _).trans (hb4.mono (by simp))).mono (by simp))); obtain ⟨nl, n0, n1, n2, n3, n4, n5⟩ := box_cells HN4.out; obtain ⟨sl, z0, z1, z2, z3, z4, z5⟩ := box_cells HS4.out; clear hb4))
                    exact ⟨⟨Q, R', by have := HRL.out; rw [HR.out] at this; simp at this; omega, HTD.out, HG.out, HB4.out, by rw [← s6_cut]; exact owns_cut HO4.out Q.length (by simp)⟩, by rw [HM.out, rest6_eq (Q := Q) (R := R') (by rw [← s6_cut]; exact owns_cut HO4.out Q.length (by simp)) HTD.out, HR.out]; simp⟩
                | false =>
                  have HG : Hid (ordP t ↔ ∀ q ∈ Q, OrdAt t q.p (in6 q)) := HQ.out.trans ⟨fun q => q.2, fun q => ⟨fun _ => by simp [in6]; try omega, q⟩⟩
                  clear g1
                  go_wp2_with (first | (go_at_call 57; refine (rLeaf_any _ _ _ _ _ _ _).mono ?_; rintro e w4 ⟨rfl, hb4⟩; rw [HLF.out]; have hz4 := hb4.size; simp only [World.size_alloc] at hz4; have HN4 : Hid _ := (hb4.block (wr.heap.size + 1) (by simp)).trans (heap_alloc_at _ _ _ (by simp)); have HS4 : Hid _ := (hb4.block wr.heap.size (by simp; omega)).trans ((heap_alloc_old _ _ (by simp)).trans (heap_alloc_at _ _ _ rfl)); have HB4 : Hid (Below w.heap.size w w4) := ((HB.out.alloc hbs _).alloc (by simp; omega) _).trans (hb4.mono (by simp; omega)); have HO4 : Hid (World.ownsRow _ _ _ _ _ _ _) := owns_below HOW.out ((below_alloc wr _).trans (((below_alloc _ _).trans (hb4.mono (by simp))).mono (by simp))); obtain ⟨nl, n0, n1, n2, n3, n4, n5⟩ := box_cells HN4.out; obtain ⟨sl, z0, z1, z2, z3, z4, z5⟩ := box_cells HS4.out; clear hb4))
                  exact ⟨⟨Q, R', by have := HRL.out; rw [HR.out] at this; simp at this; omega, HTD.out, HG.out, HB4.out, by rw [← s6_cut]; exact owns_cut HO4.out Q.length (by simp)⟩, by rw [HM.out, rest6_eq (Q := Q) (R := R') (by rw [← s6_cut]; exact owns_cut HO4.out Q.length (by simp)) HTD.out, HR.out]; simp⟩
            | false =>
              cases hh with
              | true =>
                by_cases g3 : hi ≤ k0
                · have d3 : decide (hi ≤ k0) = true := by simp [g3]
                  have d3' : decide (k0 ≥ hi) = true := by simp [g3]
                  have F : Hid (B = false) := FN.out (fun q => by have := (HQ.out.1 q).1 g1; simp [in6] at this; omega)
                  clear g1
                  go_wp2_with (first | (go_at_call 57; refine (rLeaf_any _ _ _ _ _ _ _).mono ?_; rintro e w4 ⟨rfl, hb4⟩; rw [HLF.out]; have hz4 := hb4.size; simp only [World.size_alloc] at hz4; have HN4 : Hid _ := (hb4.block (wr.heap.size + 1) (by simp)).trans (heap_alloc_at _ _ _ (by simp)); have HS4 : Hid _ := (hb4.block wr.heap.size (by simp; omega)).trans ((heap_alloc_old _ _ (by simp)).trans (heap_alloc_at _ _ _ rfl)); have HB4 : Hid (Below w.heap.size w w4) := ((HB.out.alloc hbs _).alloc (by simp; omega) _).trans (hb4.mono (by simp; omega)); have HO4 : Hid (World.ownsRow _ _ _ _ _ _ _) := owns_below HOW.out ((below_alloc wr _).trans (((below_alloc _ _).trans (hb4.mono (by simp))).mono (by simp))); obtain ⟨nl, n0, n1, n2, n3, n4, n5⟩ := box_cells HN4.out; obtain ⟨sl, z0, z1, z2, z3, z4, z5⟩ := box_cells HS4.out; clear hb4))
                  go_ret
                  exact ⟨by rw [F.out]; rfl, HB4.out⟩
                · have d3 : decide (hi ≤ k0) = false := by simp [g3]
                  have d3' : decide (k0 ≥ hi) = false := by simp [g3]
                  have d4 : k0 < hi := by omega
                  have HG : Hid (ordP t ↔ ∀ q ∈ Q, OrdAt t q.p (in6 q)) := HQ.out.trans ⟨fun q => q.2, fun q => ⟨fun _ => by simp [in6]; try omega, q⟩⟩
                  clear g1
                  go_wp2_with (first | (go_at_call 57; refine (rLeaf_any _ _ _ _ _ _ _).mono ?_; rintro e w4 ⟨rfl, hb4⟩; rw [HLF.out]; have hz4 := hb4.size; simp only [World.size_alloc] at hz4; have HN4 : Hid _ := (hb4.block (wr.heap.size + 1) (by simp)).trans (heap_alloc_at _ _ _ (by simp)); have HS4 : Hid _ := (hb4.block wr.heap.size (by simp; omega)).trans ((heap_alloc_old _ _ (by simp)).trans (heap_alloc_at _ _ _ rfl)); have HB4 : Hid (Below w.heap.size w w4) := ((HB.out.alloc hbs _).alloc (by simp; omega) _).trans (hb4.mono (by simp; omega)); have HO4 : Hid (World.ownsRow _ _ _ _ _ _ _) := owns_below HOW.out ((below_alloc wr _).trans (((below_alloc _ _).trans (hb4.mono (by simp))).mono (by simp))); obtain ⟨nl, n0, n1, n2, n3, n4, n5⟩ := box_cells HN4.out; obtain ⟨sl, z0, z1, z2, z3, z4, z5⟩ := box_cells HS4.out; clear hb4))
                  exact ⟨⟨Q, R', by have := HRL.out; rw [HR.out] at this; simp at this; omega, HTD.out, HG.out, HB4.out, by rw [← s6_cut]; exact owns_cut HO4.out Q.length (by simp)⟩, by rw [HM.out, rest6_eq (Q := Q) (R := R') (by rw [← s6_cut]; exact owns_cut HO4.out Q.length (by simp)) HTD.out, HR.out]; simp⟩
              | false =>
                have HG : Hid (ordP t ↔ ∀ q ∈ Q, OrdAt t q.p (in6 q)) := HQ.out.trans ⟨fun q => q.2, fun q => ⟨fun _ => by simp [in6]; try omega, q⟩⟩
                clear g1
                go_wp2_with (first | (go_at_call 57; refine (rLeaf_any _ _ _ _ _ _ _).mono ?_; rintro e w4 ⟨rfl, hb4⟩; rw [HLF.out]; have hz4 := hb4.size; simp only [World.size_alloc] at hz4; have HN4 : Hid _ := (hb4.block (wr.heap.size + 1) (by simp)).trans (heap_alloc_at _ _ _ (by simp)); have HS4 : Hid _ := (hb4.block wr.heap.size (by simp; omega)).trans ((heap_alloc_old _ _ (by simp)).trans (heap_alloc_at _ _ _ rfl)); have HB4 : Hid (Below w.heap.size w w4) := ((HB.out.alloc hbs _).alloc (by simp; omega) _).trans (hb4.mono (by simp; omega)); have HO4 : Hid (World.ownsRow _ _ _ _ _ _ _) := owns_below HOW.out ((below_alloc wr _).trans (((below_alloc _ _).trans (hb4.mono (by simp))).mono (by simp))); obtain ⟨nl, n0, n1, n2, n3, n4, n5⟩ := box_cells HN4.out; obtain ⟨sl, z0, z1, z2, z3, z4, z5⟩ := box_cells HS4.out; clear hb4))
                exact ⟨⟨Q, R', by have := HRL.out; rw [HR.out] at this; simp at this; omega, HTD.out, HG.out, HB4.out, by rw [← s6_cut]; exact owns_cut HO4.out Q.length (by simp)⟩, by rw [HM.out, rest6_eq (Q := Q) (R := R') (by rw [← s6_cut]; exact owns_cut HO4.out Q.length (by simp)) HTD.out, HR.out]; simp⟩
        · have d1 : (k1 == 0) = false := by simp [g1]
          have HG : Hid (ordP t ↔ ∀ q ∈ Q, OrdAt t q.p (in6 q)) := HQ.out.trans ⟨fun q => q.2, fun q => ⟨fun h => absurd h g1, q⟩⟩
          clear g1
          go_wp2_with (first | (go_at_call 57; refine (rLeaf_any _ _ _ _ _ _ _).mono ?_; rintro e w4 ⟨rfl, hb4⟩; rw [HLF.out]; have hz4 := hb4.size; simp only [World.size_alloc] at hz4; have HN4 : Hid _ := (hb4.block (wr.heap.size + 1) (by simp)).trans (heap_alloc_at _ _ _ (by simp)); have HS4 : Hid _ := (hb4.block wr.heap.size (by simp; omega)).trans ((heap_alloc_old _ _ (by simp)).trans (heap_alloc_at _ _ _ rfl)); have HB4 : Hid (Below w.heap.size w w4) := ((HB.out.alloc hbs _).alloc (by simp; omega) _).trans (hb4.mono (by simp; omega)); have HO4 : Hid (World.ownsRow _ _ _ _ _ _ _) := owns_below HOW.out ((below_alloc wr _).trans (((below_alloc _ _).trans (hb4.mono (by simp))).mono (by simp))); obtain ⟨nl, n0, n1, n2, n3, n4, n5⟩ := box_cells HN4.out; obtain ⟨sl, z0, z1, z2, z3, z4, z5⟩ := box_cells HS4.out; clear hb4))
          exact ⟨⟨Q, R', by have := HRL.out; rw [HR.out] at this; simp at this; omega, HTD.out, HG.out, HB4.out, by rw [← s6_cut]; exact owns_cut HO4.out Q.length (by simp)⟩, by rw [HM.out, rest6_eq (Q := Q) (R := R') (by rw [← s6_cut]; exact owns_cut HO4.out Q.length (by simp)) HTD.out, HR.out]; simp⟩
      · have HLF : Hid _ := rleafB_no (n := ndAt t s.p) (by omega)
        have HTD : Hid (Todo t (r :: l :: Q.map S6.p) R'') := hTd
        have HR : Hid (R.length = R''.length + 1) := by show _ = _; rw [hR]; simp; omega
        have HP : Hid _ := ord6_push hs hl' hr' HO.out
        have hSR := todo_length hTd
        have hS2 : Q.length + 2 ≤ 1000000 := by have := HR.out; have := HRL.out; simp at hSR; omega
        clear hTd hR HO hSR hRR
        simp only [List.length_cons] at *
        have NDH : Hid _ := (rfl : ndAt t s.p = ndAt t s.p)
        clear NDH
        generalize ndAt t s.p = nd at HC HLF HP hl' hr'
        obtain ⟨k0, k1, k2, k3, k4, k5⟩ := nd
        obtain ⟨p, lo, hi, hl, hh, nv⟩ := s
        simp only at HC HP hl' hr' t0 t1 t2 t3 t4 t5 s0 s1 hs
        subst hl' hr'
        obtain ⟨c0, c1, c2, c3, c4, c5⟩ := HC.out
        go_wp2_with (first | (go_at_call 57; refine (rLeaf_any _ _ _ _ _ _ _).mono ?_; rintro e w4 ⟨rfl, hb4⟩; rw [HLF.out]; have hz4 := hb4.size; simp only [World.size_alloc] at hz4; have HN4 : Hid _ := (hb4.block (wr.heap.size + 1) (by simp)).trans (heap_alloc_at _ _ _ (by simp)); have HS4 : Hid _ := (hb4.block wr.heap.size (by simp; omega)).trans ((heap_alloc_old _ _ (by simp)).trans (heap_alloc_at _ _ _ rfl)); have HB4 : Hid (Below w.heap.size w w4) := ((HB.out.alloc hbs _).alloc (by simp; omega) _).trans (hb4.mono (by simp; omega)); have HO4 : Hid (World.ownsRow _ _ _ _ _ _ _) := owns_below HOW.out ((below_alloc wr _).trans (((below_alloc _ _).trans (hb4.mono (by simp))).mono (by simp))); obtain ⟨nl, n0, n1, n2, n3, n4, n5⟩ := box_cells HN4.out; obtain ⟨sl, z0, z1, z2, z3, z4, z5⟩ := box_cells HS4.out; clear hb4))
        go_cut [6, 7] from 60 to 61 (fun v6 v7 wx => Two6Ex w4 #[.int .i64 (p : Int), .int .i64 lo, .int .i64 hi, .bool hl, .bool hh, .bool nv] #[.int .i64 (p : Int), .int .i64 lo, .int .i64 hi, .bool hl, .bool hh, .bool nv] v6 v7 wx)
        case first =>
          go_region
          all_goals go_wp2_with fail
          all_goals go_meet
          all_goals first | exact ⟨_, _, rfl, rfl, two6_a _ _⟩ | exact ⟨_, _, rfl, rfl, two6_b _ _⟩ | exact ⟨_, _, rfl, rfl, (two6_a _ _).drew⟩ | exact ⟨_, _, rfl, rfl, (two6_b _ _).drew⟩
        case rest =>
          obtain ⟨bl, br, rfl, rfl, hT6⟩ := hcut
          have HT6 : Hid (Two6 _ _ _ _ _ _) := hT6
          have hne := hT6.ne
          have hne' := Ne.symm hT6.ne
          have hg1 := hT6.gl
          have hg2 := hT6.gr
          have HN5 : Hid _ := (hT6.below.block _ nl).trans HN4.out
          obtain ⟨nl5, m0, m1, m2, m3, m4, m5⟩ := box_cells HN5.out
          obtain ⟨ll5, l0, l1, l2, l3, l4, l5⟩ := six_cells hT6.l
          obtain ⟨rr5, r0, r1, r2, r3, r4, r5⟩ := six_cells hT6.r
          have q1 : bl ≠ wr.heap.size + 1 := by omega
          have q2 : br ≠ wr.heap.size + 1 := by omega
          have q3 : wr.heap.size + 1 ≠ bl := by omega
          have q4 : wr.heap.size + 1 ≠ br := by omega
          clear hT6 c0 c1 c2 c3 c4 c5 t0 t1 t2 t3 t4 t5 n0 n1 n2 n3 n4 n5 z0 z1 z2 z3 z4 z5
          generalize wc = w5 at *
          go_wp2_with fail
          go_cut [] from 62 to 67 (fun wx => Two6 w4 bl br #[.int .i64 (l : Int), .int .i64 lo, .int .i64 hi, .bool hl, .bool hh, .bool nv] #[.int .i64 (r : Int), .int .i64 lo, .int .i64 hi, .bool hl, .bool hh, .bool nv] wx)
          case first =>
            go_region
            all_goals go_wp2_with fail
            all_goals go_meet
            all_goals first | exact (HT6.out.setL 0 _).setR 0 _ | exact (HT6.out.setR 0 _).setL 0 _ | exact ((HT6.out.setL 0 _).setR 0 _).drew | exact ((HT6.out.setR 0 _).setL 0 _).drew
          case rest =>
            have HT7 : Hid (Two6 _ _ _ _ _ _) := hcut
            have HN7 : Hid _ := (hcut.below.block _ nl).trans HN4.out
            clear m0 m1 m2 m3 m4 m5 l0 l1 l2 l3 l4 l5 r0 r1 r2 r3 r4 r5 nl5 ll5 rr5
            obtain ⟨nl5, m0, m1, m2, m3, m4, m5⟩ := box_cells HN7.out
            obtain ⟨ll5, l0, l1, l2, l3, l4, l5⟩ := six_cells hcut.l
            obtain ⟨rr5, r0, r1, r2, r3, r4, r5⟩ := six_cells hcut.r
            clear hcut
            generalize wc = w6 at *
            go_upto_if 70 with fail
            go_cut [] from 68 to 99 (fun wx => Two6 w4 bl br (C6 (left6 ⟨k0, k1, k2, k3, (l : Int), (r : Int)⟩ l ⟨p, lo, hi, hl, hh, nv⟩)) (C6 (right6 ⟨k0, k1, k2, k3, (l : Int), (r : Int)⟩ r ⟨p, lo, hi, hl, hh, nv⟩)) wx)
            case first =>
              by_cases g1 : k1 = 1
              · have d1 : (k1 == 1) = true := by simp [g1]
                have e1 : left6 ⟨k0, k1, k2, k3, (l : Int), (r : Int)⟩ l ⟨p, lo, hi, hl, hh, nv⟩ = ⟨l, lo, hi, hl, hh, nv⟩ := by simp [left6, g1]
                have e2 : right6 ⟨k0, k1, k2, k3, (l : Int), (r : Int)⟩ r ⟨p, lo, hi, hl, hh, nv⟩ = ⟨r, lo, hi, hl, hh, true⟩ := by simp [right6, g1]
                have E1 : Hid _ := e1
                have E2 : Hid _ := e2
                clear e1 e2 g1
                go_wp2_with fail
                go_meet
                rw [E1.out, E2.out]
                exact HT7.out.setR 5 _
              · have d1 : (k1 == 1) = false := by simp [g1]
                cases hh with
                | false =>
                  have e1 : left6 ⟨k0, k1, k2, k3, (l : Int), (r : Int)⟩ l ⟨p, lo, hi, hl, false, nv⟩ = ⟨l, lo, k0, hl, true, nv⟩ := by simp [left6, g1]
                  cases hl with
                  | false =>
                    have e2 : right6 ⟨k0, k1, k2, k3, (l : Int), (r : Int)⟩ r ⟨p, lo, hi, false, false, nv⟩ = ⟨r, k0, hi, true, false, nv⟩ := by simp [right6, g1]
                    have E1 : Hid _ := e1
                    have E2 : Hid _ := e2
                    clear e1 e2 g1
                    go_wp2_with fail
                    go_region
                    all_goals go_wp2_with fail
                    all_goals go_region
                    all_goals go_wp2_with fail
                    all_goals go_meet
                    all_goals rw [E1.out, E2.out]
                    all_goals first | exact ((((HT7.out.setL 4 (.bool true)).setL 2 (.int .i64 k0)).setR 3 (.bool true)).setR 1 (.int .i64 k0)) | exact ((((HT7.out.setL 4 (.bool true)).setL 2 (.int .i64 k0)).setR 1 (.int .i64 k0)).setR 3 (.bool true)) | exact ((((HT7.out.setL 2 (.int .i64 k0)).setL 4 (.bool true)).setR 3 (.bool true)).setR 1 (.int .i64 k0)) | exact ((((HT7.out.setL 2 (.int .i64 k0)).setL 4 (.bool true)).setR 1 (.int .i64 k0)).setR 3 (.bool true)) | exact ((((HT7.out.setL 4 (.bool true)).setL 2 (.int .i64 k0)).setR 3 (.bool true)).setR 1 (.int .i64 k0)).drew | exact ((((HT7.out.setL 4 (.bool true)).setL 2 (.int .i64 k0)).setR 3 (.bool true)).setR 1 (.int .i64 k0)).drew.drew | exact ((((HT7.out.setL 4 (.bool true)).setL 2 (.int .i64 k0)).setR 1 (.int .i64 k0)).setR 3 (.bool true)).drew | exact ((((HT7.out.setL 4 (.bool true)).setL 2 (.int .i64 k0)).setR 1 (.int .i64 k0)).setR 3 (.bool true)).drew.drew | exact ((((HT7.out.setL 2 (.int .i64 k0)).setL 4 (.bool true)).setR 3 (.bool true)).setR 1 (.int .i64 k0)).drew | exact ((((HT7.out.setL 2 (.int .i64 k0)).setL 4 (.bool true)).setR 3 (.bool true)).setR 1 (.int .i64 k0)).drew.drew | exact ((((HT7.out.setL 2 (.int .i64 k0)).setL 4 (.bool true)).setR 1 (.int .i64 k0)).setR 3 (.bool true)).drew | exact ((((HT7.out.setL 2 (.int .i64 k0)).setL 4 (.bool true)).setR 1 (.int .i64 k0)).setR 3 (.bool true)).drew.drew
                  | true =>
                    by_cases g3 : lo < k0
                    · have d3 : decide (lo < k0) = true := by simp [g3]
                      have d3' : decide (k0 > lo) = true := by simp [g3]
                      have e2 : right6 ⟨k0, k1, k2, k3, (l : Int), (r : Int)⟩ r ⟨p, lo, hi, true, false, nv⟩ = ⟨r, k0, hi, true, false, nv⟩ := by simp [right6, g1, g3]
                      have E1 : Hid _ := e1
                      have E2 : Hid _ := e2
                      clear e1 e2 g1
                      go_wp2_with fail
                      go_region
                      all_goals go_wp2_with fail
                      all_goals go_region
                      all_goals go_wp2_with fail
                      all_goals go_meet
                      all_goals rw [E1.out, E2.out]
                      all_goals first | exact ((((HT7.out.setL 4 (.bool true)).setL 2 (.int .i64 k0)).setR 3 (.bool true)).setR 1 (.int .i64 k0)) | exact ((((HT7.out.setL 4 (.bool true)).setL 2 (.int .i64 k0)).setR 1 (.int .i64 k0)).setR 3 (.bool true)) | exact ((((HT7.out.setL 2 (.int .i64 k0)).setL 4 (.bool true)).setR 3 (.bool true)).setR 1 (.int .i64 k0)) | exact ((((HT7.out.setL 2 (.int .i64 k0)).setL 4 (.bool true)).setR 1 (.int .i64 k0)).setR 3 (.bool true)) | exact ((((HT7.out.setL 4 (.bool true)).setL 2 (.int .i64 k0)).setR 3 (.bool true)).setR 1 (.int .i64 k0)).drew | exact ((((HT7.out.setL 4 (.bool true)).setL 2 (.int .i64 k0)).setR 3 (.bool true)).setR 1 (.int .i64 k0)).drew.drew | exact ((((HT7.out.setL 4 (.bool true)).setL 2 (.int .i64 k0)).setR 1 (.int .i64 k0)).setR 3 (.bool true)).drew | exact ((((HT7.out.setL 4 (.bool true)).setL 2 (.int .i64 k0)).setR 1 (.int .i64 k0)).setR 3 (.bool true)).drew.drew | exact ((((HT7.out.setL 2 (.int .i64 k0)).setL 4 (.bool true)).setR 3 (.bool true)).setR 1 (.int .i64 k0)).drew | exact ((((HT7.out.setL 2 (.int .i64 k0)).setL 4 (.bool true)).setR 3 (.bool true)).setR 1 (.int .i64 k0)).drew.drew | exact ((((HT7.out.setL 2 (.int .i64 k0)).setL 4 (.bool true)).setR 1 (.int .i64 k0)).setR 3 (.bool true)).drew | exact ((((HT7.out.setL 2 (.int .i64 k0)).setL 4 (.bool true)).setR 1 (.int .i64 k0)).setR 3 (.bool true)).drew.drew
                    · have d3 : decide (lo < k0) = false := by simp [g3]
                      have d3' : decide (k0 > lo) = false := by simp [g3]
                      have d3n : k0 ≤ lo := by omega
                      have e2 : right6 ⟨k0, k1, k2, k3, (l : Int), (r : Int)⟩ r ⟨p, lo, hi, true, false, nv⟩ = ⟨r, lo, hi, true, false, nv⟩ := by simp [right6, g1]; omega
                      have E1 : Hid _ := e1
                      have E2 : Hid _ := e2
                      clear e1 e2 g1
                      go_wp2_with fail
                      go_region
                      all_goals go_wp2_with fail
                      all_goals go_meet
                      all_goals rw [E1.out, E2.out]
                      all_goals first | exact ((HT7.out.setL 4 (.bool true)).setL 2 (.int .i64 k0)) | exact ((HT7.out.setL 2 (.int .i64 k0)).setL 4 (.bool true)) | exact ((HT7.out.setL 4 (.bool true)).setL 2 (.int .i64 k0)).drew | exact ((HT7.out.setL 4 (.bool true)).setL 2 (.int .i64 k0)).drew.drew | exact ((HT7.out.setL 2 (.int .i64 k0)).setL 4 (.bool true)).drew | exact ((HT7.out.setL 2 (.int .i64 k0)).setL 4 (.bool true)).drew.drew
                | true =>
                  by_cases g2 : k0 < hi
                  · have d2 : decide (k0 < hi) = true := by simp [g2]
                    have e1 : left6 ⟨k0, k1, k2, k3, (l : Int), (r : Int)⟩ l ⟨p, lo, hi, hl, true, nv⟩ = ⟨l, lo, k0, hl, true, nv⟩ := by simp [left6, g1, g2]
                    cases hl with
                    | false =>
                      have e2 : right6 ⟨k0, k1, k2, k3, (l : Int), (r : Int)⟩ r ⟨p, lo, hi, false, true, nv⟩ = ⟨r, k0, hi, true, true, nv⟩ := by simp [right6, g1]
                      have E1 : Hid _ := e1
                      have E2 : Hid _ := e2
                      clear e1 e2 g1
                      go_wp2_with fail
                      go_region
                      all_goals go_wp2_with fail
                      all_goals go_region
                      all_goals go_wp2_with fail
                      all_goals go_meet
                      all_goals rw [E1.out, E2.out]
                      all_goals first | exact ((((HT7.out.setL 4 (.bool true)).setL 2 (.int .i64 k0)).setR 3 (.bool true)).setR 1 (.int .i64 k0)) | exact ((((HT7.out.setL 4 (.bool true)).setL 2 (.int .i64 k0)).setR 1 (.int .i64 k0)).setR 3 (.bool true)) | exact ((((HT7.out.setL 2 (.int .i64 k0)).setL 4 (.bool true)).setR 3 (.bool true)).setR 1 (.int .i64 k0)) | exact ((((HT7.out.setL 2 (.int .i64 k0)).setL 4 (.bool true)).setR 1 (.int .i64 k0)).setR 3 (.bool true)) | exact ((((HT7.out.setL 4 (.bool true)).setL 2 (.int .i64 k0)).setR 3 (.bool true)).setR 1 (.int .i64 k0)).drew | exact ((((HT7.out.setL 4 (.bool true)).setL 2 (.int .i64 k0)).setR 3 (.bool true)).setR 1 (.int .i64 k0)).drew.drew | exact ((((HT7.out.setL 4 (.bool true)).setL 2 (.int .i64 k0)).setR 1 (.int .i64 k0)).setR 3 (.bool true)).drew | exact ((((HT7.out.setL 4 (.bool true)).setL 2 (.int .i64 k0)).setR 1 (.int .i64 k0)).setR 3 (.bool true)).drew.drew | exact ((((HT7.out.setL 2 (.int .i64 k0)).setL 4 (.bool true)).setR 3 (.bool true)).setR 1 (.int .i64 k0)).drew | exact ((((HT7.out.setL 2 (.int .i64 k0)).setL 4 (.bool true)).setR 3 (.bool true)).setR 1 (.int .i64 k0)).drew.drew | exact ((((HT7.out.setL 2 (.int .i64 k0)).setL 4 (.bool true)).setR 1 (.int .i64 k0)).setR 3 (.bool true)).drew | exact ((((HT7.out.setL 2 (.int .i64 k0)).setL 4 (.bool true)).setR 1 (.int .i64 k0)).setR 3 (.bool true)).drew.drew
                    | true =>
                      by_cases g3 : lo < k0
                      · have d3 : decide (lo < k0) = true := by simp [g3]
                        have d3' : decide (k0 > lo) = true := by simp [g3]
                        have e2 : right6 ⟨k0, k1, k2, k3, (l : Int), (r : Int)⟩ r ⟨p, lo, hi, true, true, nv⟩ = ⟨r, k0, hi, true, true, nv⟩ := by simp [right6, g1, g3]
                        have E1 : Hid _ := e1
                        have E2 : Hid _ := e2
                        clear e1 e2 g1
                        go_wp2_with fail
                        go_region
                        all_goals go_wp2_with fail
                        all_goals go_region
                        all_goals go_wp2_with fail
                        all_goals go_meet
                        all_goals rw [E1.out, E2.out]
                        all_goals first | exact ((((HT7.out.setL 4 (.bool true)).setL 2 (.int .i64 k0)).setR 3 (.bool true)).setR 1 (.int .i64 k0)) | exact ((((HT7.out.setL 4 (.bool true)).setL 2 (.int .i64 k0)).setR 1 (.int .i64 k0)).setR 3 (.bool true)) | exact ((((HT7.out.setL 2 (.int .i64 k0)).setL 4 (.bool true)).setR 3 (.bool true)).setR 1 (.int .i64 k0)) | exact ((((HT7.out.setL 2 (.int .i64 k0)).setL 4 (.bool true)).setR 1 (.int .i64 k0)).setR 3 (.bool true)) | exact ((((HT7.out.setL 4 (.bool true)).setL 2 (.int .i64 k0)).setR 3 (.bool true)).setR 1 (.int .i64 k0)).drew | exact ((((HT7.out.setL 4 (.bool true)).setL 2 (.int .i64 k0)).setR 3 (.bool true)).setR 1 (.int .i64 k0)).drew.drew | exact ((((HT7.out.setL 4 (.bool true)).setL 2 (.int .i64 k0)).setR 1 (.int .i64 k0)).setR 3 (.bool true)).drew | exact ((((HT7.out.setL 4 (.bool true)).setL 2 (.int .i64 k0)).setR 1 (.int .i64 k0)).setR 3 (.bool true)).drew.drew | exact ((((HT7.out.setL 2 (.int .i64 k0)).setL 4 (.bool true)).setR 3 (.bool true)).setR 1 (.int .i64 k0)).drew | exact ((((HT7.out.setL 2 (.int .i64 k0)).setL 4 (.bool true)).setR 3 (.bool true)).setR 1 (.int .i64 k0)).drew.drew | exact ((((HT7.out.setL 2 (.int .i64 k0)).setL 4 (.bool true)).setR 1 (.int .i64 k0)).setR 3 (.bool true)).drew | exact ((((HT7.out.setL 2 (.int .i64 k0)).setL 4 (.bool true)).setR 1 (.int .i64 k0)).setR 3 (.bool true)).drew.drew
                      · have d3 : decide (lo < k0) = false := by simp [g3]
                        have d3' : decide (k0 > lo) = false := by simp [g3]
                        have d3n : k0 ≤ lo := by omega
                        have e2 : right6 ⟨k0, k1, k2, k3, (l : Int), (r : Int)⟩ r ⟨p, lo, hi, true, true, nv⟩ = ⟨r, lo, hi, true, true, nv⟩ := by simp [right6, g1]; omega
                        have E1 : Hid _ := e1
                        have E2 : Hid _ := e2
                        clear e1 e2 g1
                        go_wp2_with fail
                        go_region
                        all_goals go_wp2_with fail
                        all_goals go_meet
                        all_goals rw [E1.out, E2.out]
                        all_goals first | exact ((HT7.out.setL 4 (.bool true)).setL 2 (.int .i64 k0)) | exact ((HT7.out.setL 2 (.int .i64 k0)).setL 4 (.bool true)) | exact ((HT7.out.setL 4 (.bool true)).setL 2 (.int .i64 k0)).drew | exact ((HT7.out.setL 4 (.bool true)).setL 2 (.int .i64 k0)).drew.drew | exact ((HT7.out.setL 2 (.int .i64 k0)).setL 4 (.bool true)).drew | exact ((HT7.out.setL 2 (.int .i64 k0)).setL 4 (.bool true)).drew.drew
                  · have d2 : decide (k0 < hi) = false := by simp [g2]
                    have d2n : hi ≤ k0 := by omega
                    have e1 : left6 ⟨k0, k1, k2, k3, (l : Int), (r : Int)⟩ l ⟨p, lo, hi, hl, true, nv⟩ = ⟨l, lo, hi, hl, true, nv⟩ := by simp [left6, g1]; omega
                    cases hl with
                    | false =>
                      have e2 : right6 ⟨k0, k1, k2, k3, (l : Int), (r : Int)⟩ r ⟨p, lo, hi, false, true, nv⟩ = ⟨r, k0, hi, true, true, nv⟩ := by simp [right6, g1]
                      have E1 : Hid _ := e1
                      have E2 : Hid _ := e2
                      clear e1 e2 g1
                      go_wp2_with fail
                      go_region
                      all_goals go_wp2_with fail
                      all_goals go_meet
                      all_goals rw [E1.out, E2.out]
                      all_goals first | exact ((HT7.out.setR 3 (.bool true)).setR 1 (.int .i64 k0)) | exact ((HT7.out.setR 1 (.int .i64 k0)).setR 3 (.bool true)) | exact ((HT7.out.setR 3 (.bool true)).setR 1 (.int .i64 k0)).drew | exact ((HT7.out.setR 3 (.bool true)).setR 1 (.int .i64 k0)).drew.drew | exact ((HT7.out.setR 1 (.int .i64 k0)).setR 3 (.bool true)).drew | exact ((HT7.out.setR 1 (.int .i64 k0)).setR 3 (.bool true)).drew.drew
                    | true =>
                      by_cases g3 : lo < k0
                      · have d3 : decide (lo < k0) = true := by simp [g3]
                        have d3' : decide (k0 > lo) = true := by simp [g3]
                        have e2 : right6 ⟨k0, k1, k2, k3, (l : Int), (r : Int)⟩ r ⟨p, lo, hi, true, true, nv⟩ = ⟨r, k0, hi, true, true, nv⟩ := by simp [right6, g1, g3]
                        have E1 : Hid _ := e1
                        have E2 : Hid _ := e2
                        clear e1 e2 g1
                        go_wp2_with fail
                        go_region
                        all_goals go_wp2_with fail
                        all_goals go_meet
                        all_goals rw [E1.out, E2.out]
                        all_goals first | exact ((HT7.out.setR 3 (.bool true)).setR 1 (.int .i64 k0)) | exact ((HT7.out.setR 1 (.int .i64 k0)).setR 3 (.bool true)) | exact ((HT7.out.setR 3 (.bool true)).setR 1 (.int .i64 k0)).drew | exact ((HT7.out.setR 3 (.bool true)).setR 1 (.int .i64 k0)).drew.drew | exact ((HT7.out.setR 1 (.int .i64 k0)).setR 3 (.bool true)).drew | exact ((HT7.out.setR 1 (.int .i64 k0)).setR 3 (.bool true)).drew.drew
                      · have d3 : decide (lo < k0) = false := by simp [g3]
                        have d3' : decide (k0 > lo) = false := by simp [g3]
                        have d3n : k0 ≤ lo := by omega
                        have e2 : right6 ⟨k0, k1, k2, k3, (l : Int), (r : Int)⟩ r ⟨p, lo, hi, true, true, nv⟩ = ⟨r, lo, hi, true, true, nv⟩ := by simp [right6, g1]; omega
                        have E1 : Hid _ := e1
                        have E2 : Hid _ := e2
                        clear e1 e2 g1
                        go_wp2_with fail
                        all_goals go_meet
                        all_goals rw [E1.out, E2.out]
                        all_goals first | exact HT7.out | exact HT7.out.drew | exact HT7.out.drew.drew
            case rest =>
              have HT8 : Hid (Two6 _ _ _ _ _ _) := hcut
              have HO8 : Hid (World.ownsRow _ _ _ _ _ _ _) := owns_below (owns_cut HO4.out Q.length (by simp)) hcut.below
              have HB8 : Hid (Below w.heap.size w wc) := HB4.out.trans (hcut.below.mono HB4.out.size)
              have HZ : Hid _ := left6_p ⟨k0, k1, k2, k3, (l : Int), (r : Int)⟩ l ⟨p, lo, hi, hl, hh, nv⟩
              have HY : Hid _ := right6_p ⟨k0, k1, k2, k3, (l : Int), (r : Int)⟩ r ⟨p, lo, hi, hl, hh, nv⟩
              generalize left6 ⟨k0, k1, k2, k3, (l : Int), (r : Int)⟩ l ⟨p, lo, hi, hl, hh, nv⟩ = x at *
              generalize right6 ⟨k0, k1, k2, k3, (l : Int), (r : Int)⟩ r ⟨p, lo, hi, hl, hh, nv⟩ = y at *
              obtain ⟨x0, x1, x2, x3, x4, x5⟩ := x
              obtain ⟨y0, y1, y2, y3, y4, y5⟩ := y
              have e1 := hcut.l
              have e2 := hcut.r
              unfold C6 at e1 e2
              clear l0 l1 l2 l3 l4 l5 r0 r1 r2 r3 r4 r5 ll5 rr5 m0 m1 m2 m3 m4 m5 nl5
              obtain ⟨ll5, ⟨l0, -⟩, ⟨l1, -⟩, ⟨l2, -⟩, ⟨l3, -⟩, ⟨l4, -⟩, ⟨l5, -⟩⟩ := six_cells e1
              obtain ⟨rr5, ⟨r0, -⟩, ⟨r1, -⟩, ⟨r2, -⟩, ⟨r3, -⟩, ⟨r4, -⟩, ⟨r5, -⟩⟩ := six_cells e2
              clear e1 e2 hcut
              generalize wc = w8 at *
              have hfst : True := trivial
              go_wp2_with (first | (at_builtin; have hq := hfst; (refine wpList_append_lies _ (by rfl) _ _ _ (by rfl) w.heap.size 87 i0 _ 6 32 s6_under hi0 hz0 hz1 hz2 rfl (by omega) _ Q.length _ (by rfl) (HO8.out.alloc _) ⟨w8.heap.size, 0, none⟩ 2 2 [.int .i64 (x0 : Int), .int .i64 x1, .int .i64 x2, .bool x3, .bool x4, .bool x5, .int .i64 (y0 : Int), .int .i64 y1, .int .i64 y2, .bool y3, .bool y4, .bool y5] (by rfl) (by rfl) (World.news_of_block (cs := #[.int .i64 (x0 : Int), .int .i64 x1, .int .i64 x2, .bool x3, .bool x4, .bool x5, .int .i64 (y0 : Int), .int .i64 y1, .int .i64 y2, .bool y3, .bool y4, .bool y5]) (t := 87) (fr := (0, 0)) (heap_alloc_at _ _ _ (by simp))) (by simp [Value.oneCell']) (by omega) (by unfold maxLen; omega) (by omega) (by have := HB8.out.size; simp; omega) (w8.heap.size + 1) (by simp) ?_); clear hfst; intro g9 c9 w9 hown9 hgrow9 hat9 hlt9; have HO9 : Hid (World.ownsRow _ _ _ _ _ _ _) := hown9; have HB9 : Hid (Below w.heap.size w w9) := Below.grown (HB8.out.alloc HB8.out.size _) hgrow9 (by rw [World.size_alloc]; have := HB8.out.size; omega) (fun k hk => by simp [Value.ownBlock] at hk; omega); clear hgrow9 hat9 hown9))
              have HX : Hid _ := (push6 HO9.out)
              exact ⟨⟨⟨y0, y1, y2, y3, y4, y5⟩ :: ⟨x0, x1, x2, x3, x4, x5⟩ :: Q, R'', by have := HRL.out; have := HR.out; omega, by rw [List.map_cons, List.map_cons, HZ.out, HY.out]; exact HTD.out, HP.out, HB9.out, HX.out⟩, by rw [HM.out, rest6_eq HX.out (R := R'') (by rw [List.map_cons, List.map_cons, HZ.out, HY.out]; exact HTD.out), HR.out]; omega⟩
set_option maxRecDepth 100000 in
set_option maxHeartbeats 1000000 in
theorem rOrdered_any (base : Option Addr) (b o c : Nat) (t : NL) (w : World) (h : NodesAt w base b o t) :
    Calls Tryd.prog 32 #[.slice base t.length c] w fun e w' => e = .returned (.tuple #[.bool (ordB t), .int .i64 (formE t)]) ∧ Below w.heap.size w w' := by
  have HA : Hid _ := h
  clear h
  by_cases he : formE t = 0
  · obtain ⟨hb, hf⟩ := formE_ok he
    obtain ⟨hT, -, hlen⟩ := theL_form hf
    have HT : Hid _ := hT
    have HE : Hid _ := he
    have FY : Hid (ordP t → ordB t = true) := ordB_yes he
    have FN : Hid (¬ ordP t → ordB t = false) := ordB_no
    obtain ⟨e1, e2⟩ := e_eq he
    clear he hf hT
    go_enter Tryd.func32, Tryd.ntmps32
    go_wp2_with (first | (go_at_call 14; refine (rcheck_any _ b o c t _ HA.out).mono ?_; rintro e w1 ⟨rfl, hb1⟩; have HB1 : Hid _ := hb1; clear hb1) | (go_at_call 65; refine (rInOrder_any _ b o c t _ _ (ordB t) (HA.out.below HB1.out) HT.out (by omega) FY.out FN.out).mono ?_; rintro e w2 ⟨rfl, hb2⟩; have HB2 : Hid (Below _ _ _) := HB1.out.trans (hb2.mono HB1.out.size); clear hb2))
    go_ret2
    exact ⟨by rw [HE.out]; rfl, HB2.out⟩
  · have F : Hid (ordB t = false) := ordB_bad he
    obtain ⟨e1, e2⟩ := e_ne he
    clear he
    go_enter Tryd.func32, Tryd.ntmps32
    go_wp2_with (first | (go_at_call 14; refine (rcheck_any _ b o c t _ HA.out).mono ?_; rintro e w1 ⟨rfl, hb1⟩; have HB1 : Hid _ := hb1; clear hb1))
    go_ret2
    exact ⟨by rw [F.out]; rfl, HB1.out⟩
end Go.Proofs.YtjekmkfpakdkeaaDoor

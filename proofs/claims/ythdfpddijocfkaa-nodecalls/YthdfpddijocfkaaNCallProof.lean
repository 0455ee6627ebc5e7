/- Proved: whatever the Case, NodeCalls returns true, and its argument reads as before: the landed node.Leaf, Inner and Entry make new nodes that hold what they were given; Left, Right, Below, Find, Path, Get and Read answer of them as the document says, with the accesses that it names; a field that was swung is seen by all; no node, a node that is met twice and a nil child are told. Layer 20: Get and the pairs of an ordered table; Get and Read without a tape. Appends: in a region that draws its order, of a row that may be empty; and what an append leaves of the row that it was given. Layer 20: rows of rows, each in a block of its own; what all of NodeMemory's late statements know. Layer 20: Swing and Entry. Layer 20: Path and Find with a tape that may be older than the nodes. Layer 20: a few nodes: what is known of them along NodeCalls. Layer 20: Read of nil, of a node that is met twice, of a nil child. Layer 20: the law NodeTables. Layer 20: NodeCalls cut into its statements. Layer 20: NodeCalls from its statement 6 on. Layer 20: NodeCalls from its statement 9 on. Layer 20: NodeCalls from its statement 17 on. Layer 20: NodeCalls from its statement 22 on. Layer 20: NodeCalls from its statement 30 on. Layer 20: the law NodeCalls. Layer 20: a Case that is read as data. -/
import Derived.Test.YthdfpddijocfkaaNSame
import Derived.Deep.RegionHeld3
import Derived.Test.YthdfpddijocfkaaNRun2
import Derived.Deep.CutRange
import Derived.Deep.CutBlock
import Derived.BigQuiet
import Derived.Test.YthdfpddijocfkaaSMir
import Derived.ProofKit
import Derived.OpenShut
import Derived.Deep.Slices
import Derived.Deep.Strs
import Derived.Lib.SmallJoins
import Derived.Test.YthdfpddijocfkaaRows

namespace Go.Proofs.Ythdfpddijocfkaa

open Go.RowKit

theorem lastN_getLastD (P : List Nat) : lastN P = P.getLastD 0 := by
  unfold lastN
  rw [List.getLastD_eq_getLast?, List.getLast?_eq_getElem?, List.getD_eq_getElem?_getD]
theorem mem_theL {t : NL} (he : formE t = 0) {x : Nat} (hx : x < t.length) : x ∈ theL t 0 := by
  obtain ⟨-, hf⟩ := formE_ok he
  obtain ⟨h1, h2, h3⟩ := theL_form hf
  exact all_in h2 h1.all h3 x hx
theorem ans_some {t : NL} (he : formE t = 0) {k v : Int} (h : ansK t k = some v) : ∃ y ∈ kvL t (theL t 0), (ndAt t y).key = k := by
  obtain ⟨a1, a2, a3, a4⟩ := way_all he k
  obtain ⟨r1, -⟩ := way_raw he k
  rw [h] at r1
  obtain ⟨x, hx1, hx2, hx3, -, -⟩ := way_last (G := fun _ => 0) (F := fun _ => 0) a1
  have hl : (wayL t k).getLastD 0 = x := by rw [List.getLastD_eq_getLast?, hx1]; rfl
  rw [hl] at r1
  by_cases q : (ndAt t x).inf = 0 ∧ (ndAt t x).key = k
  · refine ⟨x, List.mem_filter.2 ⟨mem_theL he hx2, ?_⟩, q.2⟩
    have hr : (ndAt t x).r = -1 := by
      rcases ((formE_ok he).2.good.node x hx2).1 with e | e
      · exact e.2
      · omega
    simp [kvB, leafB, hx3, hr, q.1]
  · rw [if_neg q] at r1
    cases r1
theorem ord_ans {t : NL} (he : formE t = 0) (ho : ordQ t = true) {y : Nat} (hy : y ∈ kvL t (theL t 0)) : ansK t (ndAt t y).key = some (ndAt t y).val := by
  have h := of_decide_eq_true ho y hy
  rw [lastN_getLastD] at h
  obtain ⟨r1, -⟩ := way_raw he (ndAt t y).key
  rw [h] at r1
  have hk := (List.mem_filter.1 hy).2
  have hi : (ndAt t y).inf = 0 := by
    simp [kvB] at hk
    omega
  rw [r1, if_pos ⟨hi, rfl⟩]
theorem ord_there {t : NL} (he : formE t = 0) (ho : ordQ t = true) (k : Int) : (ansK t k).isSome = decide (∃ y ∈ kvL t (theL t 0), (ndAt t y).key = k) := by
  by_cases q : ∃ y ∈ kvL t (theL t 0), (ndAt t y).key = k
  · rw [decide_eq_true q]
    obtain ⟨y, hy, rfl⟩ := q
    rw [ord_ans he ho hy]
    rfl
  · rw [decide_eq_false q]
    cases e : ansK t k with
    | none => rfl
    | some v => exact absurd (ans_some he e) q
/-- Get without a tape, of a table's nodes. -/
theorem GetT {t : NL} (he : formE t = 0) (N : Nat) (G F : Nat → Nat) (key : Int) (w : World) (hNw : N ≤ w.heap.size) (h : NdsAt w N (normL t) G F) :
    Calls Try.prog 32 #[.nilIface, .pointer (some ⟨G 0, 0, none⟩), .int .i64 key] w fun e w' => e = .returned (getA (ansK t key)) ∧ Below N w w' := by
  obtain ⟨y1, y2, y3⟩ := wayN (norm_form he) key
  obtain ⟨x, hx1, hx2, hx3, hx4, hx5⟩ := way_last (G := G) (F := F) y1
  have HG := Get_any (gateS_nil 1000000) [] key N (fun t ht => ht.elim) (wst (normL t) G F (wayL (normL t) key)) w hNw (wayChain_at (norm_ok he) h y1) (by unfold wst; simpa using y3) (by rw [way_kinds y1]; simp; omega) trivial (Tbs.nil w) _ hx4
  rw [hx5] at HG
  refine HG.mono ?_
  rintro e w' ⟨rfl, _, _, hb⟩
  refine ⟨?_, hb⟩
  have : getN key (gnT (normL t) G x) = ansK t key := by
    unfold ansK
    rw [getN_ans, List.getLastD_eq_getLast?, hx1]
    rfl
  rw [this]
/-- Read without a tape, of a table's nodes. -/
theorem ReadN {t : NL} (he : formE t = 0) (N : Nat) (G F : Nat → Nat) (w : World) (hNw : N ≤ w.heap.size) (h : NdsAt w N (normL t) G F) :
    Calls Try.prog 28 #[.nilIface, .pointer (some ⟨G 0, 0, none⟩)] w fun e w' => ∃ v, e = .returned (.tuple #[v, .int .i64 0]) ∧ w'.ownsRow w.heap.size 81 6 v (normL t).length (ndCells (normL t)) ∧ Below N w w' := by
  obtain ⟨b, hl, hok, hs, ha⟩ := norm_lay he
  rw [hl] at h ⊢
  refine (ReadT (gateS_nil 1000000) [] N (fun t ht => ht.elim) b hs (lay_ok hok hs) G F w hNw h ?_ trivial (Tbs.nil w)).mono ?_
  · have := trK_le (T := b.lay 0) b.size
    simp
    omega
  · rintro e w' ⟨v, h1, h2, _, _, h3⟩
    exact ⟨v, h1, h2, h3⟩
end Go.Proofs.Ythdfpddijocfkaa


namespace Go.Proofs.Ythdfpddijocfkaa

open Go.RowKit

theorem step_append_all {P : Program} {w : World} {ops : Array Oper} {o : Oper} {a : Act} {K : Act → World → Prop} {Q : Exit → Act → World → Prop} {E : Prop} (hgd : o.guard = none) (s x : Operand) (t : TypeId)
    (ho : o.op = .call { callee := .builtin .append, args := #[s, x], argTypes := #[t, t] })
    (base : Nat) (e : TypeId) (i : TypeInfo) (z : Value) (size bytes : Nat) (ht : P.underlying t = some (.slice e)) (hi : P.info? e = some i) (hz : i.zero = some z)
    (hsize : i.size = size) (hby : i.bytes = bytes) (hzs : z.cells.size = size) (hsz : 0 < size)
    (v : Value) (n : Nat) (xs : List Value) (hs : a.eval s = v) (hown : w.ownsRow base e size v n xs)
    (sd : Option Addr) (m c : Nat) (news : List Value) (hx : a.eval x = .slice sd m c) (hnone : sd = none → m = 0 ∧ c = 0) (hl : news.length = m * size) (hnews : ∀ ad, sd = some ad → ∀ j u, news[j]? = some u → w.cell? (ad.add j) = some u) (h1 : ∀ u ∈ news, u.oneCell' = true)
    (h63 : n + m ≤ maxLen) (hbytes : (n + m) * bytes ≤ 140737488355328) (hbase : base ≤ w.heap.size)
    (h : ∀ v' w', w'.ownsRow base e size v' (n + m) (xs ++ news) → w.grownBy w' v.ownBlock → (v' = .slice none 0 0 ↔ v = .slice none 0 0 ∧ m = 0) → K (a.put o.dst v') w') :
    if Region.wanted o (yielded ops a.tmps) = true then Oper.wp P o a w K Q else E := by
  have hw : Region.wanted o (yielded ops a.tmps) = true := by simp [Region.wanted, hgd]
  rw [if_pos hw]
  cases sd with
  | none =>
    obtain ⟨rfl, rfl⟩ := hnone rfl
    have hrun := run_append_owned_none (P := P) (w := w) base t o.type e i size ht hi v n xs hown
    obtain rfl : news = [] := List.length_eq_zero_iff.1 (by simpa using hl)
    unfold Oper.wp
    simp [execOp, ho, resolve, invoke, builtin, hs, hx, hrun, Result.andThen]
    exact h v w (by simpa using hown) (grown_refl _ _) (by simp)
  | some ad =>
    obtain ⟨v', w', hr, h2, h3, h4, _⟩ := run_append_own_at (P := P) w base t o.type e i z size bytes ht hi hz hsize hby hzs hsz v n xs hown ad m c news hl (hnews ad rfl) h1 h63 hbytes hbase
    unfold Oper.wp
    simp [execOp, ho, resolve, invoke, builtin, hs, hx, hr, Result.andThen]
    exact h v' w' h2 h3 h4
/-- The row that an append was given is still there. -/
theorem run_append_keeps {P : Program} (w : World) (base : Nat) (t ty e : TypeId) (i : TypeInfo) (z : Value) (size bytes : Nat) (ht : P.underlying t = some (.slice e)) (hi : P.info? e = some i) (hz : i.zero = some z)
    (hsize : i.size = size) (hby : i.bytes = bytes) (hzs : z.cells.size = size)
    (v : Value) (n : Nat) (xs : List Value) (hown : w.ownsRow base e size v n xs)
    (a : Addr) (m c : Nat) (news : List Value) (hl : news.length = m * size) (hnews : ∀ j u, news[j]? = some u → w.cell? (a.add j) = some u) (h1 : ∀ u ∈ news, u.oneCell' = true) (hm : 0 < m)
    (h63 : n + m ≤ maxLen) (hbytes : (n + m) * bytes ≤ 140737488355328) :
    ∃ v' w', (Builtin.append_ #[t, t] ty #[v, .slice (some a) m c]).run P w = .ok v' w' ∧ w'.ownsRow base e size v n xs ∧ w.grownBy w' v.ownBlock := by
  subst hsize
  subst hby
  have hsmall : n + m ≤ 9223372036854775807 := by simp only [maxLen] at h63; omega
  rcases hown.2 with ⟨rfl, rfl⟩ | ⟨g, cap, cur, rfl, hbg, hg, hnc, hcm, hcs, htake⟩
  · have hr := run_append_nil (P := P) w t ty e i z ht hi hz a m c news hl hnews (by omega) (by omega) (by have hb := hbytes; simp only [Nat.zero_add] at hb; omega)
    refine ⟨_, _, hr, ?_, ⟨rfl, rfl, rfl, by simp, fun k hk _ => heap_alloc_old w.drew _ hk⟩⟩
    have hx : xs = [] := List.eq_nil_of_length_eq_zero (by simpa using hown.1)
    rw [hx]
    exact World.ownsRow_nil _ _ _ _
  · by_cases hroom : n + m ≤ cap
    · have hfit : n * i.size + news.length ≤ cur.size := by rw [hl, hcs, ← Nat.add_mul]; exact Nat.mul_le_mul_right _ hroom
      have hr := run_append_room (P := P) w t ty e i ht hi g n cap cur hg a m c news hl hnews h1 hroom hfit
      refine ⟨_, _, hr, ⟨hown.1, .inr ⟨g, cap, _, rfl, hbg, setRow_heap w g cur _ e _ hg, hnc, hcm, ?_, ?_⟩⟩, ⟨rfl, rfl, rfl, by simp, fun k _ hk => setRow_other w g k _ (fun e => hk (by simp [Value.ownBlock, e]))⟩⟩
      · simp only [List.size_toArray, List.length_append, List.length_take, List.length_drop, Array.length_toList]
        omega
      · rw [htake, List.append_assoc, ← hown.1]
        exact List.take_left
    · have holds : ∀ j u, xs[j]? = some u → w.cell? ((⟨g, 0, none⟩ : Addr).add j) = some u := hown.cells (g := g) rfl
      have hr := run_append_grow (P := P) w t ty e i z ht hi hz ⟨g, 0, none⟩ n cap xs hown.1 holds a m c news hl hnews (by omega) (by omega) (growslice_fits (by omega) hbytes)
      refine ⟨_, _, hr, ⟨hown.1, .inr ⟨g, cap, cur, rfl, hbg, ?_, hnc, hcm, hcs, htake⟩⟩, ⟨rfl, rfl, rfl, by simp, fun k hk _ => heap_alloc_old w.drew _ hk⟩⟩
      rw [heap_alloc_old w.drew _ (Array.getElem?_eq_some_iff.1 hg).1]
      exact hg
theorem wpList_append_keeps {P : Program} {w : World} {ops : Array Oper} {rest : List Oper} {o : Oper} {a : Act} {Q : Exit → Act → World → Prop} (hgd : o.guard = none) (s x : Operand) (t : TypeId)
    (ho : o.op = .call { callee := .builtin .append, args := #[s, x], argTypes := #[t, t] })
    (base : Nat) (e : TypeId) (i : TypeInfo) (z : Value) (size bytes : Nat) (ht : P.underlying t = some (.slice e)) (hi : P.info? e = some i) (hz : i.zero = some z)
    (hsize : i.size = size) (hby : i.bytes = bytes) (hzs : z.cells.size = size)
    (v : Value) (n : Nat) (xs : List Value) (hs : a.eval s = v) (hown : w.ownsRow base e size v n xs)
    (ad : Addr) (m c : Nat) (news : List Value) (hx : a.eval x = .slice (some ad) m c) (hl : news.length = m * size) (hnews : ∀ j u, news[j]? = some u → w.cell? (ad.add j) = some u) (h1 : ∀ u ∈ news, u.oneCell' = true) (hm : 0 < m)
    (h63 : n + m ≤ maxLen) (hbytes : (n + m) * bytes ≤ 140737488355328)
    (h : ∀ v' w', w'.ownsRow base e size v n xs → w.grownBy w' v.ownBlock → wpList P ops Q rest (a.put o.dst v') w') : wpList P ops Q (o :: rest) a w := by
  refine wpList_plain hgd fun K hK => ?_
  obtain ⟨v', w', hr, h2, h3⟩ := run_append_keeps (P := P) w base t o.type e i z size bytes ht hi hz hsize hby hzs v n xs hown ad m c news hl hnews h1 hm h63 hbytes
  unfold Oper.wp
  simp [execOp, ho, resolve, invoke, builtin, hs, hx, hr, Result.andThen]
  exact hK _ _ (h v' w' h2 h3)
/-- make with room. -/
theorem run_make_room {P : Program} (t e : TypeId) (z : Value) (sz bytes : Nat) (ht : P.underlying t = some (.slice e)) (hinfo : (P.info? e).map (fun i => (i.zero, i.size, i.bytes)) = some (some z, sz, bytes)) (n : Nat) (hn : bytes * n ≤ 281474976710656) (h63 : n ≤ 9223372036854775807) (w : World) :
    (Instr.makeSlice t (.int .i64 0) (.int .i64 (n : Int))).run P w = .ok (.slice (some ⟨w.heap.size, 0, none⟩) 0 n) (w.alloc (.cells (madeCells z.cells (n * sz)) e)) := by
  obtain ⟨i, hi, he⟩ := Option.map_eq_some_iff.1 hinfo
  simp only [Prod.mk.injEq] at he
  obtain ⟨h1, h2, h3⟩ := he
  subst h2 h3
  have hb : (i.bytes : Int) * (n : Int) ≤ 281474976710656 := by
    have h : ((i.bytes * n : Nat) : Int) ≤ 281474976710656 := by omega
    rwa [Int.natCast_mul] at h
  have h := run_make (P := P) w t e i z ht hi h1 .i64 .i64 0 (n : Int) (by omega) (by omega) hb (by omega)
  simpa using h
theorem nodes_row {z : World} {B g c : Nat} {t : NL} (h : z.ownsRow B 81 6 (.slice (some ⟨g, 0, none⟩) t.length c) t.length (ndCells t)) : NodesAt z (some ⟨g, 0, none⟩) g 0 t := by
  obtain ⟨bs, cp, g', hv, -, -, hn⟩ := nodes_of_owns h
  injection hv with h1 _ _
  by_cases q : t.length = 0
  · exact ⟨fun h => absurd q h, fun h => absurd q h, fun i hi => by omega, hn.len⟩
  · have := hn.base q
    rw [← h1] at this
    injection this with this
    injection this with this _ _
    subst this
    rw [← h1] at hn
    exact hn
theorem ws_row {z : World} {B g c : Nat} {L : List Int} (h : z.ownsRow B 3 1 (.slice (some ⟨g, 0, none⟩) L.length c) L.length (isC L)) : WsAt z (some ⟨g, 0, none⟩) g 0 L := by
  obtain ⟨bs, cp, g', hv, -, -, hn⟩ := ws_of_owns h
  injection hv with h1 _ _
  by_cases q : L.length = 0
  · exact ⟨fun h => absurd q h, fun h => absurd q h, fun i hi => by omega, hn.len⟩
  · have := hn.base q
    rw [← h1] at this
    injection this with this
    injection this with this _ _
    subst this
    rw [← h1] at hn
    exact hn
end Go.Proofs.Ythdfpddijocfkaa


namespace Go.Proofs.Ythdfpddijocfkaa

open Go.RowKit

theorem gb_set (w : World) (g j : Nat) (u : Value) : w.grownBy (w.setCell ⟨g, j, none⟩ u) (some g) :=
  ⟨rfl, rfl, rfl, by simp [World.setCell], fun k _ hn => Below.heap_setCell _ _ _ _ (fun e => hn (by simp [e]))⟩
theorem gb_trans {a b c : World} {r : Option Nat} (h : a.grownBy b r) (k : b.grownBy c r) : a.grownBy c r :=
  ⟨k.os.trans h.os, k.tape.trans h.tape, k.output.trans h.output, Nat.le_trans h.size k.size, fun i hi hn => (k.block i (Nat.lt_of_lt_of_le hi h.size) hn).trans (h.block i hi hn)⟩
theorem gb_below {a b : World} (r : Option Nat) (h : Below a.heap.size a b) : a.grownBy b r := ⟨h.os, h.tape, h.output, h.size, fun k hk _ => h.block k hk⟩
theorem gb_alloc {a x : World} {o : Obj} {r : Option Nat} (h : (a.alloc o).grownBy x r) : a.grownBy x r := gb_trans (gb_below r (below_alloc a o)) h
theorem gb_to {a b : World} {r : Option Nat} (h : a.grownBy b r) (B : Nat) (hB : B ≤ a.heap.size) (hr : ∀ g, r = some g → B ≤ g) : Below B a b :=
  ⟨h.os, h.tape, h.output, h.size, fun k hk => h.block k (by omega) (fun e => by have := hr k e.symm; omega)⟩
theorem gb_owns {a b : World} {r : Option Nat} (h : a.grownBy b r) {B sz n : Nat} {e : TypeId} {v : Value} {xs : List Value} (ho : a.ownsRow B e sz v n xs) (hne : ∀ g, v.ownBlock = some g → r ≠ some g) : b.ownsRow B e sz v n xs := by
  obtain ⟨h0, h1⟩ := ho
  rcases h1 with h1 | ⟨g, cap, cur, hv, hg, hh, r1⟩
  · exact ⟨h0, Or.inl h1⟩
  · have hl : g < a.heap.size := (Array.getElem?_eq_some_iff.1 hh).1
    exact ⟨h0, Or.inr ⟨g, cap, cur, hv, hg, (h.block g hl (fun q => hne g (by rw [hv]; rfl) q.symm)).trans hh, r1⟩⟩
theorem own_block {w : World} {B sz n : Nat} {e : TypeId} {v : Value} {xs : List Value} (h : w.ownsRow B e sz v n xs) {g : Nat} (hg : v.ownBlock = some g) : ∃ cur, w.heap[g]? = some (.cells cur e (0, 0)) := by
  rcases h.2 with ⟨rfl, _⟩ | ⟨g', cap, cur, rfl, _, hh, _⟩
  · cases hg
  · simp [Value.ownBlock] at hg
    subst hg
    exact ⟨cur, hh⟩
theorem own_ne {w : World} {B B' sz sz' n n' : Nat} {e e' : TypeId} {v v' : Value} {xs xs' : List Value} (h : w.ownsRow B e sz v n xs) (h' : w.ownsRow B' e' sz' v' n' xs') (hne : e ≠ e') : ∀ g, v.ownBlock = some g → v'.ownBlock ≠ some g := by
  intro g hg hg'
  obtain ⟨c, h1⟩ := own_block h hg
  obtain ⟨c', h2⟩ := own_block h' hg'
  have := h1.symm.trans h2
  injection this with this
  injection this with _ this _
  exact hne this
def updN {α : Type} (D : Nat → α) (i : Nat) (d : α) : Nat → α := fun q => if q = i then d else D q
def extN {α : Type} (D : Nat → α) (n : Nat) (f : Nat → α) : Nat → α := fun i => if i < n then D i else f (i - n)
theorem updN_at {α : Type} (D : Nat → α) (i : Nat) (d : α) : updN D i d i = d := by simp [updN]
theorem updN_ne {α : Type} (D : Nat → α) {i q : Nat} (d : α) (h : q ≠ i) : updN D i d q = D q := by simp [updN, h]
theorem updN_self {α : Type} (D : Nat → α) (i : Nat) : updN D i (D i) = D := by
  funext q
  unfold updN
  split
  · rename_i h; rw [h]
  · rfl
theorem extN_lt {α : Type} (D : Nat → α) {n i : Nat} (f : Nat → α) (h : i < n) : extN D n f i = D i := by simp [extN, h]
theorem extN_ge {α : Type} (D : Nat → α) {n : Nat} (f : Nat → α) (j : Nat) : extN D n f (n + j) = f j := by
  unfold extN
  rw [if_neg (by omega)]
  congr 1
  omega
theorem extN_map {α : Type} (D : Nat → α) (n m : Nat) (f : Nat → α) : (List.range (n + m)).map (extN D n f) = (List.range n).map D ++ (List.range m).map f := by
  rw [List.range_add, List.map_append, List.map_map]
  congr 1
  · exact List.map_congr_left fun i hi => extN_lt D f (List.mem_range.1 hi)
  · exact List.map_congr_left fun i _ => extN_ge D f i
structure RRs {α : Type} (e tt : TypeId) (sz : Nat) (lf : α → Nat) (cf : α → List Value) (B : Nat) (z : World) (n : Nat) (vR : Value) (vs : Nat → Value) (D : Nat → α) : Prop where
  row : ∀ i, i < n → z.ownsRow B e sz (vs i) (lf (D i)) (cf (D i))
  sep : ∀ i j, i < n → j < n → i ≠ j → ∀ g, (vs i).ownBlock = some g → (vs j).ownBlock ≠ some g
  small : ∀ i, i < n → lf (D i) ≤ 100000
  top : z.ownsRow B tt 1 vR n ((List.range n).map vs)
  apart : ∀ i, i < n → ∀ g, (vs i).ownBlock = some g → vR.ownBlock ≠ some g
section

variable {α : Type} {e tt : TypeId} {sz : Nat} {lf : α → Nat} {cf : α → List Value} {B n : Nat} {z y : World} {vR : Value} {vs : Nat → Value} {D : Nat → α}

theorem RRs.nil (hz : World) (D : Nat → α) : RRs e tt sz lf cf B hz 0 (.slice none 0 0) vs D :=
  ⟨fun i hi => by omega, fun i j hi => by omega, fun i hi => by omega, World.ownsRow_nil _ _ _ _, fun i hi => by omega⟩
theorem RRs.keep (h : RRs e tt sz lf cf B z n vR vs D) {r : Option Nat} (hg : z.grownBy y r) (h1 : ∀ i, i < n → ∀ g, (vs i).ownBlock = some g → r ≠ some g) (h2 : ∀ g, vR.ownBlock = some g → r ≠ some g) : RRs e tt sz lf cf B y n vR vs D :=
  ⟨fun i hi => gb_owns hg (h.row i hi) (h1 i hi), h.sep, h.small, gb_owns hg h.top h2, h.apart⟩
theorem RRs.below (h : RRs e tt sz lf cf B z n vR vs D) (hb : Below z.heap.size z y) : RRs e tt sz lf cf B y n vR vs D :=
  h.keep (r := none) (gb_below _ hb) (fun _ _ _ _ q => by cases q) (fun _ _ q => by cases q)
theorem RRs.chg (h : RRs e tt sz lf cf B z n vR vs D) {i : Nat} (hi : i < n) (hg : z.grownBy y (vs i).ownBlock) (d : α) (hd : lf d ≤ 100000) (hr : y.ownsRow B e sz (vs i) (lf d) (cf d)) : RRs e tt sz lf cf B y n vR vs (updN D i d) := by
  refine ⟨fun q hq => ?_, h.sep, fun q hq => ?_, gb_owns hg h.top (fun g h1 h2 => h.apart i hi g h2 h1), h.apart⟩
  · by_cases hqi : q = i
    · subst hqi; rw [updN_at]; exact hr
    · rw [updN_ne _ _ hqi]
      exact gb_owns hg (h.row q hq) (fun g h1 h2 => h.sep q i hq hi hqi g h1 h2)
  · by_cases hqi : q = i
    · subst hqi; rw [updN_at]; exact hd
    · rw [updN_ne _ _ hqi]; exact h.small q hq
theorem RRs.push (h : RRs e tt sz lf cf B z n vR vs D) {x : World} {m : Nat} {f : Nat → Value} {fD : Nat → α} {v' : Value} (hb : Below z.heap.size z y)
    (hr : ∀ j, j < m → y.ownsRow B e sz (f j) (lf (fD j)) (cf (fD j))) (hf : ∀ j, j < m → ∀ g, (f j).ownBlock = some g → (∀ i, i < n → (vs i).ownBlock ≠ some g) ∧ vR.ownBlock ≠ some g) (hs : ∀ i j, i < m → j < m → i ≠ j → ∀ g, (f i).ownBlock = some g → (f j).ownBlock ≠ some g) (hl : ∀ j, j < m → lf (fD j) ≤ 100000)
    (hc : y.grownBy x vR.ownBlock) (ht : x.ownsRow B tt 1 v' (n + m) ((List.range n).map vs ++ (List.range m).map f)) (hat : ∀ g, v'.ownBlock = some g → vR.ownBlock = some g ∨ y.heap.size ≤ g) :
    RRs e tt sz lf cf B x (n + m) v' (extN vs n f) (extN D n fD) := by
  have hy := h.below hb
  have zy := hb.size
  have old : ∀ i, i < n → ∀ g, (vs i).ownBlock = some g → g < z.heap.size := fun i hi g hg => (owns_lt (h.row i hi) g hg).2
  have cs : ∀ i, i < n + m → i < n ∨ ∃ j, j < m ∧ i = n + j := fun i hi => by
    rcases Nat.lt_or_ge i n with a | a
    · exact Or.inl a
    · exact Or.inr ⟨i - n, by omega, by omega⟩
  refine ⟨fun i hi => ?_, fun i j hi hj hij g => ?_, fun i hi => ?_, by rw [extN_map]; exact ht, fun i hi g hg hg' => ?_⟩
  · rcases cs i hi with a | ⟨j, hj, rfl⟩
    · rw [extN_lt _ _ a, extN_lt _ _ a]
      exact gb_owns hc (hy.row i a) (fun g h1 h2 => h.apart i a g h1 h2)
    · rw [extN_ge, extN_ge]
      exact gb_owns hc (hr j hj) (fun g h1 h2 => (hf j hj g h1).2 h2)
  · rcases cs i hi with a | ⟨p, hp, rfl⟩ <;> rcases cs j hj with b | ⟨q, hq, rfl⟩
    · rw [extN_lt _ _ a, extN_lt _ _ b]; exact h.sep i j a b hij g
    · rw [extN_lt _ _ a, extN_ge]
      intro h1 h2
      exact (hf q hq g h2).1 i a h1
    · rw [extN_lt _ _ b, extN_ge]
      intro h1 h2
      exact (hf p hp g h1).1 j b h2
    · rw [extN_ge, extN_ge]; exact hs p q hp hq (by omega) g
  · rcases cs i hi with a | ⟨j, hj, rfl⟩
    · rw [extN_lt _ _ a]; exact h.small i a
    · rw [extN_ge]; exact hl j hj
  · rcases hat g hg' with q | q
    · rcases cs i hi with a | ⟨j, hj, rfl⟩
      · rw [extN_lt _ _ a] at hg; exact h.apart i a g hg q
      · rw [extN_ge] at hg
        exact (hf j hj g hg).2 q
    · rcases cs i hi with a | ⟨j, hj, rfl⟩
      · rw [extN_lt _ _ a] at hg
        have := old i a g hg
        omega
      · rw [extN_ge] at hg
        have := (owns_lt (hr j hj) g hg).2
        omega
theorem RRs.cell (h : RRs e tt sz lf cf B z n vR vs D) (hn : 0 < n) : ∃ g cp, vR = .slice (some ⟨g, 0, none⟩) n cp ∧ B ≤ g ∧ g < z.heap.size ∧ ∀ i, i < n → z.cell? ⟨g, i, none⟩ = some (vs i) := by
  obtain ⟨g, cp, hv, hB, hl, -, -, hc, -⟩ := owns_some h.top hn
  refine ⟨g, cp, hv, hB, hl, fun i hi => ?_⟩
  rw [hc i (by omega)]
  simp [hi]
end

theorem NdsAt.keep {z y : World} {N : Nat} {T : NL} {G F : Nat → Nat} (h : NdsAt z N T G F) {r : Option Nat} (hg : z.grownBy y r) (hr : ∀ g, r = some g → ∃ cur e, z.heap[g]? = some (.cells cur e (0, 0)) ∧ e ≠ 63 ∧ e ≠ 126) : NdsAt y N T G F := by
  refine ⟨fun i hi => ?_, h.inj⟩
  obtain ⟨h1, h2, h3⟩ := h.rc i hi
  refine ⟨⟨?_, ?_⟩, h2, h3⟩
  · obtain ⟨a, b, e⟩ := h1.rc
    refine ⟨a, b, (hg.block _ h1.lt (fun q => ?_)).trans e⟩
    obtain ⟨cur, ty, q1, q2, q3⟩ := hr _ q.symm
    have := q1.symm.trans e
    injection this with this
    injection this with _ this _
    exact q2 this
  · refine (hg.block _ h1.ltf (fun q => ?_)).trans h1.fl
    obtain ⟨cur, ty, q1, q2, q3⟩ := hr _ q.symm
    have := q1.symm.trans h1.fl
    injection this with this
    injection this with _ this _
    exact q3 this
/-- Tables and lists in rows of rows, the document's table, the nodes. -/
structure MQ (w : World) (B N : Nat) (D0 : Prop) (t U : NL) (G F : Nat → Nat) (vU : Value) (nT : Nat) (vT : Value) (ts : Nat → Value) (T : Nat → NL) (nL : Nat) (vL : Value) (vs : Nat → Value) (L : Nat → List Int) (z : World) : Prop where
  tb : RRs 81 22 6 List.length ndCells B z nT vT ts T
  ls : RRs 3 23 1 List.length isC B z nL vL vs L
  u : z.ownsRow 0 81 6 vU U.length (ndCells U)
  uB : ∀ g, vU.ownBlock = some g → g < B
  nd : D0 → NdsAt z N t G F
  lN : N ≤ z.heap.size
  bl : Below w.heap.size w z
  wB : w.heap.size ≤ B
section

variable {w z y : World} {B N nT nL : Nat} {D0 : Prop} {t U : NL} {G F : Nat → Nat} {vU vT vL : Value} {ts vs : Nat → Value} {T : Nat → NL} {L : Nat → List Int}

theorem MQ.below (h : MQ w B N D0 t U G F vU nT vT ts T nL vL vs L z) (hb : Below z.heap.size z y) : MQ w B N D0 t U G F vU nT vT ts T nL vL vs L y :=
  ⟨h.tb.below hb, h.ls.below hb, owns_below h.u hb, h.uB, fun q => (h.nd q).below (hb.mono h.lN), Nat.le_trans h.lN hb.size, h.bl.trans (hb.mono h.bl.size), h.wB⟩
theorem MQ.chgT (h : MQ w B N D0 t U G F vU nT vT ts T nL vL vs L z) {i : Nat} (hi : i < nT) (hg : z.grownBy y (ts i).ownBlock) (d : NL) (hd : d.length ≤ 100000) (hr : y.ownsRow B 81 6 (ts i) d.length (ndCells d)) : MQ w B N D0 t U G F vU nT vT ts (updN T i d) nL vL vs L y := by
  have hro := h.tb.row i hi
  refine ⟨h.tb.chg hi hg d hd hr, h.ls.keep hg (fun j hj => fun g h1 h2 => own_ne hro (h.ls.row j hj) (by decide) g h2 h1) (fun g h1 h2 => own_ne hro h.ls.top (by decide) g h2 h1), gb_owns hg h.u (fun g h1 h2 => ?_), h.uB, fun q => (h.nd q).keep hg (fun g h1 => ?_), Nat.le_trans h.lN hg.size, h.bl.trans (gb_to hg _ h.bl.size (fun g h1 => ?_)), h.wB⟩
  · have := h.uB g h1
    have := (owns_lt hro g h2).1
    omega
  · obtain ⟨c, hc⟩ := own_block hro h1
    exact ⟨c, _, hc, by decide, by decide⟩
  · exact Nat.le_trans h.wB (owns_lt hro g h1).1
theorem MQ.chgL (h : MQ w B N D0 t U G F vU nT vT ts T nL vL vs L z) {i : Nat} (hi : i < nL) (hg : z.grownBy y (vs i).ownBlock) (d : List Int) (hd : d.length ≤ 100000) (hr : y.ownsRow B 3 1 (vs i) d.length (isC d)) : MQ w B N D0 t U G F vU nT vT ts T nL vL vs (updN L i d) y := by
  have hro := h.ls.row i hi
  refine ⟨h.tb.keep hg (fun j hj => fun g h1 h2 => own_ne hro (h.tb.row j hj) (by decide) g h2 h1) (fun g h1 h2 => own_ne hro h.tb.top (by decide) g h2 h1), h.ls.chg hi hg d hd hr, gb_owns hg h.u (fun g h1 h2 => ?_), h.uB, fun q => (h.nd q).keep hg (fun g h1 => ?_), Nat.le_trans h.lN hg.size, h.bl.trans (gb_to hg _ h.bl.size (fun g h1 => ?_)), h.wB⟩
  · have := h.uB g h1
    have := (owns_lt hro g h2).1
    omega
  · obtain ⟨c, hc⟩ := own_block hro h1
    exact ⟨c, _, hc, by decide, by decide⟩
  · exact Nat.le_trans h.wB (owns_lt hro g h1).1
/-- Something else is written over: a row of nodes that lies below all of these. -/
theorem MQ.other (h : MQ w B N D0 t U G F vU nT vT ts T nL vL vs L z) {g : Nat} (hg : z.grownBy y (some g)) (hB : g < B) (hu : ∀ k, vU.ownBlock = some k → k ≠ g) (hw : w.heap.size ≤ g) (hty : ∃ cur, z.heap[g]? = some (.cells cur 81 (0, 0))) : MQ w B N D0 t U G F vU nT vT ts T nL vL vs L y := by
  refine ⟨h.tb.keep hg (fun j hj k h1 h2 => ?_) (fun k h1 h2 => ?_), h.ls.keep hg (fun j hj k h1 h2 => ?_) (fun k h1 h2 => ?_), gb_owns hg h.u (fun k h1 h2 => hu k h1 (by simpa using h2.symm)), h.uB, fun q => (h.nd q).keep hg (fun k h1 => ?_), Nat.le_trans h.lN hg.size, h.bl.trans (gb_to hg _ h.bl.size (fun k h1 => ?_)), h.wB⟩
  · have := (owns_lt (h.tb.row j hj) k h1).1; simp at h2; omega
  · have := (owns_lt h.tb.top k h1).1; simp at h2; omega
  · have := (owns_lt (h.ls.row j hj) k h1).1; simp at h2; omega
  · have := (owns_lt h.ls.top k h1).1; simp at h2; omega
  · obtain ⟨c, hc⟩ := hty
    simp at h1
    subst h1
    exact ⟨c, _, hc, by decide, by decide⟩
  · simp at h1; omega
end

theorem gb_six (x : World) (g i : Nat) (a b c d e f : Value) : x.grownBy ((((((x.setCell ⟨g, i * 6, none⟩ a).setCell ⟨g, i * 6 + 1, none⟩ b).setCell ⟨g, i * 6 + 2, none⟩ c).setCell ⟨g, i * 6 + 3, none⟩ d).setCell ⟨g, i * 6 + 4, none⟩ e).setCell ⟨g, i * 6 + 5, none⟩ f) (some g) :=
  gb_trans (gb_trans (gb_trans (gb_trans (gb_trans (gb_set _ _ _ _) (gb_set _ _ _ _)) (gb_set _ _ _ _)) (gb_set _ _ _ _)) (gb_set _ _ _ _)) (gb_set _ _ _ _)
theorem own_six {x : World} {B g cap : Nat} {T : NL} (h : x.ownsRow B 81 6 (.slice (some ⟨g, 0, none⟩) T.length cap) T.length (ndCells T)) (i : Nat) (n : NdD) (hi : i < T.length) : ((((((x.setCell ⟨g, i * 6, none⟩ (.int .i64 n.key)).setCell ⟨g, i * 6 + 1, none⟩ (.int .i64 n.inf)).setCell ⟨g, i * 6 + 2, none⟩ (.int .i64 n.wt)).setCell ⟨g, i * 6 + 3, none⟩ (.int .i64 n.val)).setCell ⟨g, i * 6 + 4, none⟩ (.int .i64 n.l)).setCell ⟨g, i * 6 + 5, none⟩ (.int .i64 n.r)).ownsRow B 81 6 (.slice (some ⟨g, 0, none⟩) T.length cap) T.length (ndCells (T.set i n)) := by
  rw [ndCells_set _ _ _ hi]
  exact owns_put (owns_put (owns_put (owns_put (owns_put (owns_put h _ _) _ _) _ _) _ _) _ _) _ _
theorem own_cells {x : World} {B g cap : Nat} {T : NL} (h : x.ownsRow B 81 6 (.slice (some ⟨g, 0, none⟩) T.length cap) T.length (ndCells T)) (i : Nat) (hi : i < T.length) : (x.cell? ⟨g, i * 6, none⟩ = some (.int .i64 (ndAt T i).key) ∧ x.frozen? ⟨g, i * 6, none⟩ = false) ∧ (x.cell? ⟨g, i * 6 + 1, none⟩ = some (.int .i64 (ndAt T i).inf) ∧ x.frozen? ⟨g, i * 6 + 1, none⟩ = false) ∧ (x.cell? ⟨g, i * 6 + 2, none⟩ = some (.int .i64 (ndAt T i).wt) ∧ x.frozen? ⟨g, i * 6 + 2, none⟩ = false) ∧ (x.cell? ⟨g, i * 6 + 3, none⟩ = some (.int .i64 (ndAt T i).val) ∧ x.frozen? ⟨g, i * 6 + 3, none⟩ = false) ∧ (x.cell? ⟨g, i * 6 + 4, none⟩ = some (.int .i64 (ndAt T i).l) ∧ x.frozen? ⟨g, i * 6 + 4, none⟩ = false) ∧ (x.cell? ⟨g, i * 6 + 5, none⟩ = some (.int .i64 (ndAt T i).r) ∧ x.frozen? ⟨g, i * 6 + 5, none⟩ = false) := by
  obtain ⟨g', cap', hv, -, -, -, -, hc, hfr⟩ := owns_some h (by omega)
  injection hv with e1 _ _
  injection e1 with e1
  injection e1 with e1 _ _
  subst e1
  obtain ⟨b0, b1, b2, b3, b4, b5⟩ := ndCells_get T i hi
  exact ⟨⟨(hc _ (by omega)).trans b0, hfr _⟩, ⟨(hc _ (by omega)).trans b1, hfr _⟩, ⟨(hc _ (by omega)).trans b2, hfr _⟩, ⟨(hc _ (by omega)).trans b3, hfr _⟩, ⟨(hc _ (by omega)).trans b4, hfr _⟩, (hc _ (by omega)).trans b5, hfr _⟩
end Go.Proofs.Ythdfpddijocfkaa

namespace Go.Proofs.Ythdfpddijocfkaa

open Go.RowKit

theorem RRs.top_at {α : Type} {e tt : TypeId} {sz : Nat} {lf : α → Nat} {cf : α → List Value} {B n g c : Nat} {z : World} {vs : Nat → Value} {D : Nat → α} (h : RRs e tt sz lf cf B z n (.slice (some ⟨g, 0, none⟩) n c) vs D) (i : Nat) (hi : i < n) : z.cell? ⟨g, i, none⟩ = some (vs i) ∧ g < z.heap.size := by
  obtain ⟨g', cp, hv, -, hl, hc⟩ := h.cell (by omega)
  injection hv with e1 _ _
  injection e1 with e1
  injection e1 with e1 _ _
  subst e1
  exact ⟨hc i hi, hl⟩
section

variable {w z y : World} {B N nT nL : Nat} {D0 : Prop} {t U : NL} {G F : Nat → Nat} {vU vT vL : Value} {ts vs : Nat → Value} {T : Nat → NL} {L : Nat → List Int}

theorem MQ.rowT (h : MQ w B N D0 t U G F vU nT vT ts T nL vL vs L z) {i : Nat} (hi : i < nT) : ∃ a c, ts i = .slice a (T i).length c ∧ (T i).length ≤ 100000 ∧ (0 < (T i).length → ∃ g, a = some ⟨g, 0, none⟩) := by
  obtain ⟨a, c, hv⟩ := own_slice (h.tb.row i hi)
  refine ⟨a, c, hv, h.tb.small i hi, fun q => ?_⟩
  obtain ⟨g, c', hv', -⟩ := owns_some (h.tb.row i hi) q
  rw [hv] at hv'
  injection hv' with hv' _ _
  exact ⟨g, hv'⟩
theorem MQ.rowL (h : MQ w B N D0 t U G F vU nT vT ts T nL vL vs L z) {i : Nat} (hi : i < nL) : ∃ a c, vs i = .slice a (L i).length c ∧ (L i).length ≤ 100000 ∧ (0 < (L i).length → ∃ g, a = some ⟨g, 0, none⟩) := by
  obtain ⟨a, c, hv⟩ := own_slice (h.ls.row i hi)
  refine ⟨a, c, hv, h.ls.small i hi, fun q => ?_⟩
  obtain ⟨g, c', hv', -⟩ := owns_some (h.ls.row i hi) q
  rw [hv] at hv'
  injection hv' with hv' _ _
  exact ⟨g, hv'⟩
theorem MQ.putT (h : MQ w B N D0 t U G F vU nT vT ts T nL vL vs L z) {i g c : Nat} (hi : i < nT) (hv : ts i = .slice (some ⟨g, 0, none⟩) (T i).length c) (p : Nat) (hp : p < (T i).length) (n : NdD) :
    MQ w B N D0 t U G F vU nT vT ts (updN T i ((T i).set p n)) nL vL vs L ((((((z.setCell ⟨g, p * 6, none⟩ (.int .i64 n.key)).setCell ⟨g, p * 6 + 1, none⟩ (.int .i64 n.inf)).setCell ⟨g, p * 6 + 2, none⟩ (.int .i64 n.wt)).setCell ⟨g, p * 6 + 3, none⟩ (.int .i64 n.val)).setCell ⟨g, p * 6 + 4, none⟩ (.int .i64 n.l)).setCell ⟨g, p * 6 + 5, none⟩ (.int .i64 n.r)) := by
  have r := h.tb.row i hi
  have hl := h.tb.small i hi
  refine h.chgT hi ?_ _ (by rw [List.length_set]; exact hl) ?_
  · rw [hv]; exact gb_six _ _ _ _ _ _ _ _ _
  · rw [hv] at r ⊢
    rw [List.length_set]
    exact own_six r p n hp
theorem isC_setN (L : List Int) (j : Nat) (a : Int) : (isC L).set j (.int .i64 a) = isC (L.set j a) := by
  unfold isC
  rw [List.map_set]
theorem MQ.putL (h : MQ w B N D0 t U G F vU nT vT ts T nL vL vs L z) {i g c : Nat} (hi : i < nL) (hv : vs i = .slice (some ⟨g, 0, none⟩) (L i).length c) (p : Nat) (a : Int) :
    MQ w B N D0 t U G F vU nT vT ts T nL vL vs (updN L i ((L i).set p a)) (z.setCell ⟨g, p, none⟩ (.int .i64 a)) := by
  have r := h.ls.row i hi
  have hl := h.ls.small i hi
  refine h.chgL hi ?_ _ (by rw [List.length_set]; exact hl) ?_
  · rw [hv]; exact gb_set _ _ _ _
  · rw [hv] at r ⊢
    rw [List.length_set, ← isC_setN]
    exact owns_put r p _
theorem MQ.growT (h : MQ w B N D0 t U G F vU nT vT ts T nL vL vs L z) {i : Nat} (hi : i < nT) {o : Obj} (hg : (z.alloc o).grownBy y (ts i).ownBlock) (hr : y.ownsRow B 81 6 (ts i) (T i).length (ndCells (T i))) : MQ w B N D0 t U G F vU nT vT ts T nL vL vs L y := by
  have := h.chgT hi (gb_alloc hg) (T i) (h.tb.small i hi) hr
  rwa [updN_self] at this
theorem MQ.growL (h : MQ w B N D0 t U G F vU nT vT ts T nL vL vs L z) {i : Nat} (hi : i < nL) {o : Obj} (hg : (z.alloc o).grownBy y (vs i).ownBlock) (hr : y.ownsRow B 3 1 (vs i) (L i).length (isC (L i))) : MQ w B N D0 t U G F vU nT vT ts T nL vL vs L y := by
  have := h.chgL hi (gb_alloc hg) (L i) (h.ls.small i hi) hr
  rwa [updN_self] at this
theorem MQ.cellT (h : MQ w B N D0 t U G F vU nT vT ts T nL vL vs L z) {i g c : Nat} (hi : i < nT) (hv : ts i = .slice (some ⟨g, 0, none⟩) (T i).length c) (p : Nat) (hp : p < (T i).length) : (z.cell? ⟨g, p * 6, none⟩ = some (.int .i64 (ndAt (T i) p).key) ∧ z.frozen? ⟨g, p * 6, none⟩ = false) ∧ (z.cell? ⟨g, p * 6 + 1, none⟩ = some (.int .i64 (ndAt (T i) p).inf) ∧ z.frozen? ⟨g, p * 6 + 1, none⟩ = false) ∧ (z.cell? ⟨g, p * 6 + 2, none⟩ = some (.int .i64 (ndAt (T i) p).wt) ∧ z.frozen? ⟨g, p * 6 + 2, none⟩ = false) ∧ (z.cell? ⟨g, p * 6 + 3, none⟩ = some (.int .i64 (ndAt (T i) p).val) ∧ z.frozen? ⟨g, p * 6 + 3, none⟩ = false) ∧ (z.cell? ⟨g, p * 6 + 4, none⟩ = some (.int .i64 (ndAt (T i) p).l) ∧ z.frozen? ⟨g, p * 6 + 4, none⟩ = false) ∧ (z.cell? ⟨g, p * 6 + 5, none⟩ = some (.int .i64 (ndAt (T i) p).r) ∧ z.frozen? ⟨g, p * 6 + 5, none⟩ = false) := by
  have r := h.tb.row i hi
  rw [hv] at r
  exact own_cells r p hp
theorem MQ.cellL (h : MQ w B N D0 t U G F vU nT vT ts T nL vL vs L z) {i g c : Nat} (hi : i < nL) (hv : vs i = .slice (some ⟨g, 0, none⟩) (L i).length c) (p : Nat) (hp : p < (L i).length) : z.cell? ⟨g, p, none⟩ = some (.int .i64 ((L i).getD p 0)) ∧ z.frozen? ⟨g, p, none⟩ = false := by
  have r := h.ls.row i hi
  rw [hv] at r
  obtain ⟨g', c', hv', -, -, -, -, hc, hf⟩ := owns_some r (by omega)
  injection hv' with e1 _ _
  injection e1 with e1
  injection e1 with e1 _ _
  subst e1
  rw [hc p (by omega)]
  exact ⟨by simp [isC, List.getD_eq_getElem?_getD, List.getElem?_eq_getElem hp], hf p⟩
end

theorem key_set {T : NL} {p p' : Nat} {n : NdD} (hp : p < T.length) : (ndAt (T.set p n) p').key = if p' = p then n.key else (ndAt T p').key := by
  unfold ndAt
  by_cases e : p' = p
  · subst e
    rw [if_pos rfl, List.getD_eq_getElem?_getD, List.getElem?_set_self hp]
    rfl
  · rw [if_neg e, List.getD_eq_getElem?_getD, List.getElem?_set_ne (fun h => e h.symm), ← List.getD_eq_getElem?_getD]
theorem int_set {L : List Int} {p p' : Nat} {a : Int} (hp : p < L.length) : (L.set p a).getD p' 0 = if p' = p then a else L.getD p' 0 := by
  by_cases e : p' = p
  · subst e
    rw [if_pos rfl, List.getD_eq_getElem?_getD, List.getElem?_set_self hp]
    rfl
  · rw [if_neg e, List.getD_eq_getElem?_getD, List.getElem?_set_ne (fun h => e h.symm), ← List.getD_eq_getElem?_getD]
section

variable {w z y : World} {B N nT nL : Nat} {D0 : Prop} {t U : NL} {G F : Nat → Nat} {vU vT vL : Value} {ts vs : Nat → Value} {T : Nat → NL} {L : Nat → List Int}

theorem MQ.pushT (h : MQ w B N D0 t U G F vU nT vT ts T nL vL vs L z) {x : World} {v' r : Value} {R : NL} {o : Obj} (hb : Below z.heap.size z y) (hr : y.ownsRow B 81 6 r R.length (ndCells R)) (hf : ∀ g, r.ownBlock = some g → z.heap.size ≤ g) (hl : R.length ≤ 100000) (hc : (y.alloc o).grownBy x vT.ownBlock) (ht : x.ownsRow B 22 1 v' (nT + 1) ((List.range nT).map ts ++ [r])) (hat : ∀ g, v'.ownBlock = some g → vT.ownBlock = some g ∨ y.heap.size ≤ g) :
    MQ w B N D0 t U G F vU (nT + 1) v' (extN ts nT fun _ => r) (extN T nT fun _ => R) nL vL vs L x := by
  have hy := h.below hb
  have hg := gb_alloc hc
  refine ⟨h.tb.push (m := 1) (f := fun _ => r) (fD := fun _ => R) hb (fun _ _ => hr) (fun _ _ g h1 => ⟨fun i hi h2 => ?_, fun h2 => ?_⟩) (fun i j hi hj hij => absurd (by omega : i = j) hij) (fun _ _ => hl) hg ht hat, hy.ls.keep hg (fun j hj g h1 h2 => own_ne (hy.ls.row j hj) hy.tb.top (by decide) g h1 h2) (fun g h1 h2 => own_ne hy.ls.top hy.tb.top (by decide) g h1 h2), gb_owns hg hy.u (fun g h1 h2 => ?_), h.uB, fun q => (hy.nd q).keep hg (fun g h1 => ?_), Nat.le_trans hy.lN hg.size, hy.bl.trans (gb_to hg _ hy.bl.size (fun g h1 => ?_)), h.wB⟩
  · have := hf g h1
    have := (owns_lt (h.tb.row i hi) g h2).2
    omega
  · have := hf g h1
    have := (owns_lt h.tb.top g h2).2
    omega
  · have := h.uB g h1
    have := (owns_lt h.tb.top g h2).1
    omega
  · obtain ⟨c, hc⟩ := own_block hy.tb.top h1
    exact ⟨c, _, hc, by decide, by decide⟩
  · exact Nat.le_trans h.wB (owns_lt h.tb.top g h1).1
theorem MQ.pushL (h : MQ w B N D0 t U G F vU nT vT ts T nL vL vs L z) {x : World} {v' : Value} {o : Obj} {m : Nat} {f : Nat → Value} {fD : Nat → List Int} (hb : Below z.heap.size z y) (hr : ∀ j, j < m → y.ownsRow B 3 1 (f j) (fD j).length (isC (fD j))) (hf : ∀ j, j < m → ∀ g, (f j).ownBlock = some g → (∀ i, i < nL → (vs i).ownBlock ≠ some g) ∧ vL.ownBlock ≠ some g) (hs : ∀ i j, i < m → j < m → i ≠ j → ∀ g, (f i).ownBlock = some g → (f j).ownBlock ≠ some g) (hl : ∀ j, j < m → (fD j).length ≤ 100000) (hc : (y.alloc o).grownBy x vL.ownBlock) (ht : x.ownsRow B 23 1 v' (nL + m) ((List.range nL).map vs ++ (List.range m).map f)) (hat : ∀ g, v'.ownBlock = some g → vL.ownBlock = some g ∨ y.heap.size ≤ g) :
    MQ w B N D0 t U G F vU nT vT ts T (nL + m) v' (extN vs nL f) (extN L nL fD) x := by
  have hy := h.below hb
  have hg := gb_alloc hc
  refine ⟨hy.tb.keep hg (fun j hj g h1 h2 => own_ne (hy.tb.row j hj) hy.ls.top (by decide) g h1 h2) (fun g h1 h2 => own_ne hy.tb.top hy.ls.top (by decide) g h1 h2), h.ls.push hb hr hf hs hl hg ht hat, gb_owns hg hy.u (fun g h1 h2 => ?_), h.uB, fun q => (hy.nd q).keep hg (fun g h1 => ?_), Nat.le_trans hy.lN hg.size, hy.bl.trans (gb_to hg _ hy.bl.size (fun g h1 => ?_)), h.wB⟩
  · have := h.uB g h1
    have := (owns_lt h.ls.top g h2).1
    omega
  · obtain ⟨c, hc⟩ := own_block hy.ls.top h1
    exact ⟨c, _, hc, by decide, by decide⟩
  · exact Nat.le_trans h.wB (owns_lt h.ls.top g h1).1
end

end Go.Proofs.Ythdfpddijocfkaa

namespace Go.Proofs.Ythdfpddijocfkaa

open Go.RowKit

attribute [local go_sem ↓] Go.wp_at_zero Go.wp_at_succ

theorem vs_gb {b i : Nat} {v : Value} {w w' : World} (h : VStep (fun _ => False) b i v w w') : w.grownBy w' (some b) :=
  ⟨h.kp.os, h.kp.tape, h.kp.output, h.kp.size, fun k hk hn => h.kp.block k hk (fun q => q.elim (fun q => q) (fun e => hn (by rw [e])))⟩
theorem RcAt.swung {w w' : World} {g fb j : Nat} {n : GN} {y : Option Nat} (h : RcAt w g fb n) (hv : VStep (fun _ => False) fb j (ptrO y) w w') : RcAt w' g fb { n with ch := n.ch.set j y } := by
  have hne : g ≠ fb := fun e => by
    subst e
    exact h.ne h
  refine ⟨?_, ?_⟩
  · obtain ⟨a, b, e⟩ := h.rc
    refine ⟨a, b, ?_⟩
    rw [hv.kp.block g h.lt (fun q => q.elim (fun q => q) hne), e]
    simp
  · show w'.heap[fb]? = _
    rw [hv.at_, Go.Joins.block_setCell h.fl]
    simp [List.map_set]
set_option maxRecDepth 100000 in
set_option maxHeartbeats 1000000 in
theorem swingHit (g fb : Nat) (n : GN) (j : Nat) (y : Option Nat) (w : World) (h : RcAt w g fb n) (hj : j < n.ch.length) (hlen : n.ch.length ≤ 2) (hx : OkR w (n.ch.getD j none)) (hy : OkR w y) :
    Calls Try.prog 31 #[.pointer (some ⟨g, 0, none⟩), .nilIface, .int .i64 j, ptrO (n.ch.getD j none), ptrO y] w fun e w' => e = .returned (.bool true) ∧ RcAt w' g fb { n with ch := n.ch.set j y } ∧ w.grownBy w' (some fb) := by
  have HR : Hid _ := h
  obtain ⟨hc, hz⟩ := h.field hj
  have HS : Hid (∀ w', VStep (fun _ => False) fb j (ptrO y) w w' → RcAt w' g fb { n with ch := n.ch.set j y } ∧ w.grownBy w' (some fb)) := fun w' hv => ⟨h.swung hv, vs_gb hv⟩
  have hl := h.ltf
  have HX : Hid (OkR w (n.ch.getD j none)) := hx
  have HY : Hid (OkR w y) := hy
  unfold OkR at HX HY
  unfold ptrO at hc HS ⊢
  generalize ((n.ch.getD j none).map fun g => (⟨g, 0, none⟩ : Addr)) = px at *
  generalize (y.map fun g => (⟨g, 0, none⟩ : Addr)) = py at *
  have HC : Hid _ := cHitR (gate_nil 10) [] (by simp) fb j px py w trivial (fun q => q) hl hc hz (fun w1 k => HX.out.kp k (fun _ _ q => q)) (fun w1 k => HY.out.kp k (fun _ _ q => q))
  clear h hx hy hc hz hl
  go_enter Try.func31, Try.ntmps31
  go_wp2_with fail
  refine (rField_any g fb n j _ HR.out hj hlen).mono ?_
  rintro e w1 ⟨rfl, rfl⟩
  go_wp2_with fail
  refine Calls.mono HC.out ?_
  rintro e w' ⟨rfl, _, hv⟩
  have HV : Hid _ := HS.out w' hv
  clear hv
  go_wp2_with fail
  go_ret
  exact ⟨rfl, HV.out⟩
set_option maxRecDepth 100000 in
set_option maxHeartbeats 1000000 in
theorem swingMiss (g fb : Nat) (n : GN) (j : Nat) (x y : Option Nat) (w : World) (h : RcAt w g fb n) (hj : j < n.ch.length) (hlen : n.ch.length ≤ 2) (ho : OkR w (n.ch.getD j none)) (hx : OkR w x) (hy : OkR w y) (hne : n.ch.getD j none ≠ x) :
    Calls Try.prog 31 #[.pointer (some ⟨g, 0, none⟩), .nilIface, .int .i64 j, ptrO x, ptrO y] w fun e w' => e = .returned (.bool false) ∧ Below w.heap.size w w' := by
  have HR : Hid _ := h
  obtain ⟨hc, hz⟩ := h.field hj
  have hl := h.ltf
  have HO : Hid (OkR w (n.ch.getD j none)) := ho
  have HX : Hid (OkR w x) := hx
  have HY : Hid (OkR w y) := hy
  unfold OkR at HX HY HO
  have HNE : Hid ((n.ch.getD j none).map (fun g => (⟨g, 0, none⟩ : Addr)) ≠ x.map (fun g => (⟨g, 0, none⟩ : Addr))) := fun e => hne (by
    cases h1 : n.ch.getD j none <;> cases h2 : x <;> rw [h1, h2] at e <;> simp at e ⊢
    exact e)
  unfold ptrO at hc ⊢
  clear hne ho hx hy
  generalize ((n.ch.getD j none).map fun g => (⟨g, 0, none⟩ : Addr)) = po at *
  generalize (x.map fun g => (⟨g, 0, none⟩ : Addr)) = px at *
  generalize (y.map fun g => (⟨g, 0, none⟩ : Addr)) = py at *
  have HB : Hid (∀ w', VStep (fun _ => False) fb j (.pointer po) w w' → Below w.heap.size w w') := fun w' hv => ⟨hv.kp.os, hv.kp.tape, hv.kp.output, hv.kp.size, fun k hk => by
    by_cases e : k = fb
    · subst e
      rw [hv.at_]
      simp only [World.cell?] at hc
      obtain ⟨cs, T, fr, hb⟩ : ∃ cs T fr, w.heap[k]? = some (.cells cs T fr) := ⟨_, _, _, HR.out.fl⟩
      rw [Go.Joins.block_setCell hb, hb]
      rw [hb] at hc
      simp only at hc
      congr 2
      apply Array.ext_getElem?
      intro i
      rw [Array.getElem?_setIfInBounds]
      by_cases q : j = i
      · subst q
        rw [if_pos rfl]
        split
        · simpa using hc.symm
        · rw [Array.getElem?_eq_none (by omega)]
      · rw [if_neg q]
    · exact hv.kp.block k hk (fun q => q.elim (fun q => q) e)⟩
  have HC : Hid _ := cMissR (gate_nil 10) [] (by simp) fb j po px py w trivial (fun q => q) hl hc hz (fun w1 k => HO.out.kp k (fun _ _ q => q)) (fun w1 k => HX.out.kp k (fun _ _ q => q)) (fun w1 k => HY.out.kp k (fun _ _ q => q)) HNE
  clear h hc hz hl
  go_enter Try.func31, Try.ntmps31
  go_wp2_with fail
  refine (rField_any g fb n j _ HR.out hj hlen).mono ?_
  rintro e w1 ⟨rfl, rfl⟩
  go_wp2_with fail
  refine Calls.mono HC.out ?_
  rintro e w' ⟨rfl, _, hv⟩
  have HV : Hid _ := HB.out w' hv
  clear hv
  go_wp2_with fail
  go_ret
  exact ⟨rfl, HV.out⟩

/-- The crown of an empty map, made anew. -/
def EntR (w : World) (e : Ending) (w' : World) : Prop := ∃ g f gl fl gr fr, e = .returned (.pointer (some ⟨g, 0, none⟩)) ∧ w.heap.size ≤ gl ∧ w.heap.size ≤ fl ∧ gl < gr ∧ fl < fr ∧ gr < g ∧ fr < f ∧ RcAt w' g f ⟨0, 1, 1, 0, false, [some gl, some gr]⟩ ∧ RcAt w' gl fl ⟨0, 1, 1, 0, true, []⟩ ∧ RcAt w' gr fr ⟨0, 1, 1, 0, true, []⟩ ∧ Below w.heap.size w w'
set_option maxRecDepth 100000 in
set_option maxHeartbeats 1000000 in
theorem Entry_any (w : World) : Calls Try.prog 27 #[] w fun e w' => EntR w e w' := by
  go_enter Try.func27, Try.ntmps27
  go_wp2_with fail
  refine (leafR 0 1 1 0 _).mono ?_
  rintro e w1 ⟨gl, fl, rfl, l1, l2, l3, l4⟩
  have L3 : Hid _ := l3
  have B1 : Hid (Below w.heap.size w w1) := l4
  clear l3 l4
  go_wp2_with fail
  refine (leafR 0 1 1 0 _).mono ?_
  rintro e w2 ⟨gr, fr, rfl, r1, r2, r3, r4⟩
  have R3 : Hid _ := r3
  have L3' : Hid _ := L3.out.below r4
  have B2 : Hid (Below w.heap.size w w2) := B1.out.trans (r4.mono B1.out.size)
  have l5 := L3.out.lt
  have l7 := L3.out.ltf
  have r7 := r3.ltf
  have l6 := B1.out.size
  clear r3 r4 L3 B1
  have HI : Hid _ := innerR 0 1 1 (some gl) (some gr) w2 L3'.out.lies R3.out.lies
  unfold ptrO at HI
  simp only [Option.map_some] at HI
  go_wp2_with fail
  refine Calls.mono HI.out ?_
  rintro e w3 ⟨g, f, rfl, i1, i2, i3, i4⟩
  have q1 := B2.out.size
  have q2 := R3.out.lt
  have RES : Hid (EntR w (.returned (.pointer (some ⟨g, 0, none⟩))) w3) := ⟨g, f, gl, fl, gr, fr, rfl, l1, l2, by omega, by omega, by omega, by omega, i3, L3'.out.below i4, R3.out.below i4, B2.out.trans (i4.mono B2.out.size)⟩
  clear i3 i4
  go_wp2_with fail
  go_ret
  exact RES.out
end Go.Proofs.Ythdfpddijocfkaa

namespace Go.Proofs.Ythdfpddijocfkaa

open Go.RowKit

attribute [local go_sem ↓] Go.wp_at_zero Go.wp_at_succ

/-- Below N all is as it was but for rows of numbers and tapes; and below the tapes all. -/
structure Bt (Tb : Nat → Prop) (N : Nat) (w w' : World) : Prop where
  os : w'.os = w.os
  tape : w'.tape = w.tape
  output : w'.output = w.output
  size : w.heap.size ≤ w'.heap.size
  low : ∀ k, k < N → (∀ t, Tb t → k < t) → w'.heap[k]? = w.heap[k]?
  blk : ∀ k, k < N → ¬ typ w k 3 → ¬ typ w k 102 → w'.heap[k]? = w.heap[k]?
theorem Bt.refl (Tb : Nat → Prop) (N : Nat) (w : World) : Bt Tb N w w := ⟨rfl, rfl, rfl, Nat.le_refl _, fun _ _ _ => rfl, fun _ _ _ _ => rfl⟩
theorem Bt.trans {Tb : Nat → Prop} {N : Nat} {a b c : World} (h : Bt Tb N a b) (k : Bt Tb N b c) : Bt Tb N a c :=
  ⟨k.os.trans h.os, k.tape.trans h.tape, k.output.trans h.output, Nat.le_trans h.size k.size, fun i hi hl => (k.low i hi hl).trans (h.low i hi hl), fun i hi h1 h2 => by
    have e := h.blk i hi h1 h2
    exact (k.blk i hi (fun q => h1 ((typ.same e).1 q)) (fun q => h2 ((typ.same e).1 q))).trans e⟩
theorem Bt.of_below {Tb : Nat → Prop} {N : Nat} {w w' : World} (h : Below N w w') : Bt Tb N w w' := ⟨h.os, h.tape, h.output, h.size, fun k hk _ => h.block k hk, fun k hk _ _ => h.block k hk⟩
theorem Bt.mono {Tb : Nat → Prop} {N M : Nat} {w w' : World} (h : Bt Tb N w w') (hm : M ≤ N) : Bt Tb M w w' := ⟨h.os, h.tape, h.output, h.size, fun k hk => h.low k (by omega), fun k hk => h.blk k (by omega)⟩
theorem Bt.to_below {Tb : Nat → Prop} {N M : Nat} {w w' : World} (h : Bt Tb N w w') (hm : M ≤ N) (hT : ∀ t, Tb t → M ≤ t) : Below M w w' := ⟨h.os, h.tape, h.output, h.size, fun k hk => h.low k (by omega) (fun t q => by have := hT t q; omega)⟩
theorem Pd.bt {Tb : Nat → Prop} {N : Nat} {w w' : World} (h : Pd Tb w w') (hw : N ≤ w.heap.size) (hT : Tbs Tb w) : Bt Tb N w w' :=
  ⟨h.os, h.tape, h.output, h.size, fun k hk hl => h.low k (by omega) hl, fun k hk h1 h2 => h.blk k (by omega) (fun q => h2 (hT k q)) h1⟩
theorem RcAt.bt {Tb : Nat → Prop} {N : Nat} {w w' : World} {g fb : Nat} {n : GN} (h : RcAt w g fb n) (k : Bt Tb N w w') (hg : g < N) (hf : fb < N) : RcAt w' g fb n := by
  obtain ⟨t1, t2⟩ := h.typ
  have q1 := k.blk g hg (fun q => absurd (t1.one q) (by decide)) (fun q => absurd (t1.one q) (by decide))
  have q2 := k.blk fb hf (fun q => absurd (t2.one q) (by decide)) (fun q => absurd (t2.one q) (by decide))
  exact ⟨by obtain ⟨a, b, e⟩ := h.rc; exact ⟨a, b, q1.trans e⟩, q2.trans h.fl⟩
theorem ChainAt.bt {Tb : Nat → Prop} {w w' : World} {key : Int} {N : Nat} {L : List Stp} (h : ChainAt w key N L) (hb : Bt Tb N w w') : ChainAt w' key N L :=
  ⟨fun s hs => by
    obtain ⟨h1, h2, h3, h4⟩ := h.rc s hs
    exact ⟨h1.bt hb h2 h3, h2, h3, h4⟩, h.next, h.nodup⟩

set_option maxRecDepth 100000 in
set_option maxHeartbeats 2000000 in
theorem search_pathB {gv : Value} {Tb : Nat → Prop} {most : Nat} {G : List Int → World → Prop} (gt : GateS gv Tb most G) (ks : List Int) (pb : Nat) (key : Int) (N : Nat) (L : List Stp) (w : World) (hNw : N ≤ w.heap.size) (hC : ChainAt w key N L) (hL : L.length ≤ 100000) (hk : ks.length + (kdL L).length < most) (Inv : Nat → World → Prop) (hI : Inv 0 w) (hG : G ks w)
    (hTI : ∀ j w, Inv j w → Tbs Tb w) (ip : ∀ j w w', Inv j w → Pd Tb w w' → Inv j w')
    (tp : ∀ j s w, L[j]? = some s → Inv j w → Calls Try.prog 53 #[.pointer (some ⟨s.g, 0, none⟩), .pointer (some ⟨pb, 0, none⟩)] w fun e w' => e = .returned (.tuple #[]) ∧ Inv (j + 1) w' ∧ Od Tb w w' ∧ Bt Tb N w w') :
    Calls Try.prog 49 #[gv, ptrO ((L[0]?).map (·.g)), .int .i64 key, .func (.func 53) #[] #[.pointer (some ⟨pb, 0, none⟩)]] w fun e w' => e = .returned (.tuple #[]) ∧ Inv L.length w' ∧ G (ks ++ kdL L) w' ∧ Bt Tb N w w' := by
  have HC : Hid _ := hC
  have HI0 : Hid (Inv 0 w) := hI
  have HG0 : Hid (G ks w) := hG
  have HK0 : Hid (ks.length + (kdL L).length < most) := hk
  clear hC hI hG hk
  unfold ptrO
  generalize hy0 : (Option.map (fun g => (⟨g, 0, none⟩ : Addr)) ((L[0]?).map (·.g))) = y0
  have HY0 : Hid (Value.pointer y0 = ptrO ((L[0]?).map (·.g))) := by show _ = _; unfold ptrO; rw [hy0]
  clear hy0
  go_enter Try.func49, Try.ntmps49
  go_wp2_with fail
  go_loopw [11, 8, 9, 10] (fun vn ve vp vt wr => ∃ (j T : Nat) (x : Option Nat), j ≤ L.length ∧ vn = ptrO ((L[j]?).map (·.g)) ∧ ve = ptrO x ∧ vp = .int .i64 j ∧ vt = .int .i64 T ∧ 1 ≤ T ∧ T ≤ 2 * j + 1 ∧ (x = none ∨ ∃ i, i < j ∧ x = (L[i]?).map (·.g)) ∧ Inv j wr ∧ G (ks ++ kdL (L.take j)) wr ∧ Bt Tb N w wr) (fun _ _ vp _ _ => L.length - (intOf vp).toNat)
  case atStart => exact ⟨0, 1, none, Nat.zero_le _, HY0.out, rfl, rfl, rfl, by omega, by omega, Or.inl rfl, HI0.out, by simpa [kdL] using HG0.out, Bt.refl _ _ _⟩
  case round =>
    clear HI0 HG0 HY0
    obtain ⟨j, T, x, hj, rfl, rfl, rfl, rfl, hT1, hT2, hx, hinv, hg, hbw⟩ := hrel
    rename World => wr
    have HX : Hid (x = none ∨ ∃ i, i < j ∧ x = (L[i]?).map (·.g)) := hx
    have HI1 : Hid (Inv j wr) := hinv
    have HG0 : Hid (G (ks ++ kdL (L.take j)) wr) := hg
    have HW : Hid (Bt Tb N w wr) := hbw
    have CW : Hid _ := HC.out.bt hbw
    clear hinv hg hbw hx
    by_cases hlt : j < L.length
    · obtain ⟨s, hs⟩ : ∃ s, L[j]? = some s := ⟨L[j], List.getElem?_eq_getElem hlt⟩
      have HS : Hid (L[j]? = some s) := hs
      have HM : Hid (s ∈ L) := List.mem_of_getElem? hs
      have HK : Hid (ks.length + (kdL (L.take j)).length < most) := by show _ < _; have h1 := kdL_take_le L j; have h2 := HK0.out; omega
      have okx : OkR wr x := by
        rcases HX.out with rfl | ⟨i, _, rfl⟩
        · exact OkR.none _
        · exact CW.out.okr i
      have hne : x ≠ some s.g := by
        rintro rfl
        rcases HX.out with h | ⟨i, h1, h2⟩
        · cases h
        · have hil : i < L.length := by omega
          rw [List.getElem?_eq_getElem hil] at h2
          have hs' : L[j] = s := (List.getElem?_eq_some_iff.1 hs).2
          have e1 : (L.map (·.g))[i]? = (L.map (·.g))[j]? := by
            rw [List.getElem?_map, List.getElem?_map, hs, List.getElem?_eq_getElem hil]
            simpa using h2.symm
          have := (List.getElem?_inj (by simpa using hil) CW.out.nodup).1 e1
          omega
      have heq := eqlR (CW.out.rc s HM.out).1.okr okx
      rw [decide_eq_false (fun q => hne q.symm)] at heq
      unfold ptrO at heq
      simp only [Option.map_some] at heq
      have hn1 : ptrO ((L[j]?).map (·.g)) = .pointer (some ⟨s.g, 0, none⟩) := by rw [hs]; rfl
      rw [hn1]
      unfold ptrO
      have jT : (T : Int) ≤ 200001 := by omega
      have j0 : (0 : Int) ≤ (j : Int) := Int.natCast_nonneg _
      have j9 : (j : Int) < 100000 := by omega
      have t0 : (0 : Int) ≤ (T : Int) := Int.natCast_nonneg _
      obtain ⟨T2, hT⟩ : ∃ T2, T2 = 2 * T := ⟨_, rfl⟩
      have w2 : wrap64 (2 * (T : Int)) = (T2 : Int) := by unfold wrap64; omega
      have w3 : IntKind.i64.wrap (2 * (T : Int)) = (T2 : Int) := by rw [IntKind.wrap_i64] <;> omega
      clear hn1 hs okx hne
      generalize hxx : (Option.map (fun g => (⟨g, 0, none⟩ : Addr)) x) = xx at heq
      have HXX : Hid (Value.pointer xx = ptrO x) := by show _ = _; unfold ptrO; rw [hxx]
      clear hxx
      by_cases hjt : j = T
      · have qjt : ((j : Int) == (T : Int)) = true := by simp [hjt]
        have HJT : Hid (j = T) := hjt
        clear hjt
        go_wp2_with fail
        refine (tp j s _ HS.out HI1.out).mono ?_
        rintro e w2 ⟨rfl, hi2, ho2, hb2⟩
        have HI2 : Hid (Inv (j + 1) w2) := hi2
        have HG1 : Hid (G (ks ++ kdL (L.take j)) w2) := gt.keep _ _ _ HG0.out ho2
        have HW2 : Hid (Bt Tb N w w2) := HW.out.trans hb2
        have C1 : Hid _ := CW.out.bt hb2
        have HNW : Hid (N ≤ w2.heap.size) := Nat.le_trans hNw HW2.out.size
        clear hi2 ho2 hb2 heq
        go_wp2_with fail
        refine (Below_any key s.g s.fb s.n _ (C1.out.rc s HM.out).1).mono ?_
        rintro e w4 ⟨rfl, hw4⟩
        subst hw4
        cases hbl : belowN key s.n
        · have HB : Hid (belowN key s.n = false) := hbl
          clear hbl
          go_wp2_with fail
          have hq : chO s.n 1 = (L[j + 1]?).map (·.g) := by rw [← C1.out.next j s HS.out]; unfold nxt; rw [HB.out]; rfl
          refine (Right_any gt (ks ++ kdL (L.take j)) (by have := HK.out; rw [List.length_append]; omega) s.g s.fb s.n _ HG1.out (C1.out.rc s HM.out).1 (C1.out.rc s HM.out).2.2.2.1 (C1.out.rc s HM.out).2.2.2.2 ((hTI _ _ HI2.out).not (C1.out.rc s HM.out).1.typ.2 (by decide)) (fun ql w1 hp => by
            have h0 := (C1.out.bt (hp.bt HNW.out (hTI _ _ HI2.out))).okr (j + 1)
            rw [← hq] at h0
            unfold chO at h0
            rw [ql] at h0
            exact h0)).mono ?_
          rintro e w3 ⟨rfl, hg3, hp3⟩
          rw [hq]
          have HI3 : Hid (Inv (j + 1) w3) := ip _ _ _ HI2.out hp3
          have HG3 : Hid (G (ks ++ kdL (L.take (j + 1))) w3) := by show G _ _; rw [kdL_take HS.out, ← List.append_assoc]; exact hg3
          have HB3 : Hid (Bt Tb N w w3) := HW2.out.trans (hp3.bt HNW.out (hTI _ _ HI2.out))
          clear hg3 hp3 hq
          unfold ptrO
          generalize hyy : (Option.map (fun g => (⟨g, 0, none⟩ : Addr)) ((L[j + 1]?).map (·.g))) = yy
          have HYY : Hid (Value.pointer yy = ptrO ((L[j + 1]?).map (·.g))) := by show _ = _; unfold ptrO; rw [hyy]
          clear hyy
          go_wp2_with fail
          exact ⟨⟨j + 1, T2, some s.g, by omega, by first | exact HYY.out | rfl, by first | rfl | exact HXX.out, by go_num, by first | rfl | go_num, by omega, by have := HJT.out; omega, Or.inr ⟨j, by omega, by rw [HS.out]; rfl⟩, HI3.out, HG3.out, HB3.out⟩, by simp [intOf]; omega⟩
        · have HB : Hid (belowN key s.n = true) := hbl
          clear hbl
          go_wp2_with fail
          have hq : chO s.n 0 = (L[j + 1]?).map (·.g) := by rw [← C1.out.next j s HS.out]; unfold nxt; rw [HB.out]; rfl
          refine (Left_any gt (ks ++ kdL (L.take j)) (by have := HK.out; rw [List.length_append]; omega) s.g s.fb s.n _ HG1.out (C1.out.rc s HM.out).1 (C1.out.rc s HM.out).2.2.2.1 (C1.out.rc s HM.out).2.2.2.2 ((hTI _ _ HI2.out).not (C1.out.rc s HM.out).1.typ.2 (by decide)) (fun ql w1 hp => by
            have h0 := (C1.out.bt (hp.bt HNW.out (hTI _ _ HI2.out))).okr (j + 1)
            rw [← hq] at h0
            unfold chO at h0
            rw [ql] at h0
            exact h0)).mono ?_
          rintro e w3 ⟨rfl, hg3, hp3⟩
          rw [hq]
          have HI3 : Hid (Inv (j + 1) w3) := ip _ _ _ HI2.out hp3
          have HG3 : Hid (G (ks ++ kdL (L.take (j + 1))) w3) := by show G _ _; rw [kdL_take HS.out, ← List.append_assoc]; exact hg3
          have HB3 : Hid (Bt Tb N w w3) := HW2.out.trans (hp3.bt HNW.out (hTI _ _ HI2.out))
          clear hg3 hp3 hq
          unfold ptrO
          generalize hyy : (Option.map (fun g => (⟨g, 0, none⟩ : Addr)) ((L[j + 1]?).map (·.g))) = yy
          have HYY : Hid (Value.pointer yy = ptrO ((L[j + 1]?).map (·.g))) := by show _ = _; unfold ptrO; rw [hyy]
          clear hyy
          go_wp2_with fail
          exact ⟨⟨j + 1, T2, some s.g, by omega, by first | exact HYY.out | rfl, by first | rfl | exact HXX.out, by go_num, by first | rfl | go_num, by omega, by have := HJT.out; omega, Or.inr ⟨j, by omega, by rw [HS.out]; rfl⟩, HI3.out, HG3.out, HB3.out⟩, by simp [intOf]; omega⟩
      · have qjt : ((j : Int) == (T : Int)) = false := by rw [beq_eq_false_iff_ne]; omega
        have HJT : Hid (j = T → False) := hjt
        clear hjt
        go_wp2_with fail
        refine (tp j s _ HS.out HI1.out).mono ?_
        rintro e w2 ⟨rfl, hi2, ho2, hb2⟩
        have HI2 : Hid (Inv (j + 1) w2) := hi2
        have HG1 : Hid (G (ks ++ kdL (L.take j)) w2) := gt.keep _ _ _ HG0.out ho2
        have HW2 : Hid (Bt Tb N w w2) := HW.out.trans hb2
        have C1 : Hid _ := CW.out.bt hb2
        have HNW : Hid (N ≤ w2.heap.size) := Nat.le_trans hNw HW2.out.size
        clear hi2 ho2 hb2 heq
        go_wp2_with fail
        refine (Below_any key s.g s.fb s.n _ (C1.out.rc s HM.out).1).mono ?_
        rintro e w4 ⟨rfl, hw4⟩
        subst hw4
        cases hbl : belowN key s.n
        · have HB : Hid (belowN key s.n = false) := hbl
          clear hbl
          go_wp2_with fail
          have hq : chO s.n 1 = (L[j + 1]?).map (·.g) := by rw [← C1.out.next j s HS.out]; unfold nxt; rw [HB.out]; rfl
          refine (Right_any gt (ks ++ kdL (L.take j)) (by have := HK.out; rw [List.length_append]; omega) s.g s.fb s.n _ HG1.out (C1.out.rc s HM.out).1 (C1.out.rc s HM.out).2.2.2.1 (C1.out.rc s HM.out).2.2.2.2 ((hTI _ _ HI2.out).not (C1.out.rc s HM.out).1.typ.2 (by decide)) (fun ql w1 hp => by
            have h0 := (C1.out.bt (hp.bt HNW.out (hTI _ _ HI2.out))).okr (j + 1)
            rw [← hq] at h0
            unfold chO at h0
            rw [ql] at h0
            exact h0)).mono ?_
          rintro e w3 ⟨rfl, hg3, hp3⟩
          rw [hq]
          have HI3 : Hid (Inv (j + 1) w3) := ip _ _ _ HI2.out hp3
          have HG3 : Hid (G (ks ++ kdL (L.take (j + 1))) w3) := by show G _ _; rw [kdL_take HS.out, ← List.append_assoc]; exact hg3
          have HB3 : Hid (Bt Tb N w w3) := HW2.out.trans (hp3.bt HNW.out (hTI _ _ HI2.out))
          clear hg3 hp3 hq
          unfold ptrO
          generalize hyy : (Option.map (fun g => (⟨g, 0, none⟩ : Addr)) ((L[j + 1]?).map (·.g))) = yy
          have HYY : Hid (Value.pointer yy = ptrO ((L[j + 1]?).map (·.g))) := by show _ = _; unfold ptrO; rw [hyy]
          clear hyy
          go_wp2_with fail
          exact ⟨⟨j + 1, T, x, by omega, by first | exact HYY.out | rfl, by first | rfl | exact HXX.out, by go_num, by first | rfl | go_num, by omega, by have := HJT.out; omega, by rcases HX.out with h | ⟨i, h1, h2⟩; exact Or.inl h; exact Or.inr ⟨i, by omega, h2⟩, HI3.out, HG3.out, HB3.out⟩, by simp [intOf]; omega⟩
        · have HB : Hid (belowN key s.n = true) := hbl
          clear hbl
          go_wp2_with fail
          have hq : chO s.n 0 = (L[j + 1]?).map (·.g) := by rw [← C1.out.next j s HS.out]; unfold nxt; rw [HB.out]; rfl
          refine (Left_any gt (ks ++ kdL (L.take j)) (by have := HK.out; rw [List.length_append]; omega) s.g s.fb s.n _ HG1.out (C1.out.rc s HM.out).1 (C1.out.rc s HM.out).2.2.2.1 (C1.out.rc s HM.out).2.2.2.2 ((hTI _ _ HI2.out).not (C1.out.rc s HM.out).1.typ.2 (by decide)) (fun ql w1 hp => by
            have h0 := (C1.out.bt (hp.bt HNW.out (hTI _ _ HI2.out))).okr (j + 1)
            rw [← hq] at h0
            unfold chO at h0
            rw [ql] at h0
            exact h0)).mono ?_
          rintro e w3 ⟨rfl, hg3, hp3⟩
          rw [hq]
          have HI3 : Hid (Inv (j + 1) w3) := ip _ _ _ HI2.out hp3
          have HG3 : Hid (G (ks ++ kdL (L.take (j + 1))) w3) := by show G _ _; rw [kdL_take HS.out, ← List.append_assoc]; exact hg3
          have HB3 : Hid (Bt Tb N w w3) := HW2.out.trans (hp3.bt HNW.out (hTI _ _ HI2.out))
          clear hg3 hp3 hq
          unfold ptrO
          generalize hyy : (Option.map (fun g => (⟨g, 0, none⟩ : Addr)) ((L[j + 1]?).map (·.g))) = yy
          have HYY : Hid (Value.pointer yy = ptrO ((L[j + 1]?).map (·.g))) := by show _ = _; unfold ptrO; rw [hyy]
          clear hyy
          go_wp2_with fail
          exact ⟨⟨j + 1, T, x, by omega, by first | exact HYY.out | rfl, by first | rfl | exact HXX.out, by go_num, by first | rfl | go_num, by omega, by have := HJT.out; omega, by rcases HX.out with h | ⟨i, h1, h2⟩; exact Or.inl h; exact Or.inr ⟨i, by omega, h2⟩, HI3.out, HG3.out, HB3.out⟩, by simp [intOf]; omega⟩
    · obtain rfl : j = L.length := by omega
      have hn1 : ptrO ((L[L.length]?).map (·.g)) = .pointer none := by rw [List.getElem?_eq_none (Nat.le_refl _)]; rfl
      rw [hn1]
      clear hn1 CW
      generalize hxx : ptrO x = xx
      clear hxx
      go_wp2_with fail
      refine bodyPost_end (results_none rfl _ _ _) rfl ?_
      have hg := HG0.out
      rw [List.take_length] at hg
      exact ⟨rfl, HI1.out, hg, HW.out⟩


set_option maxRecDepth 100000 in
set_option maxHeartbeats 2000000 in
theorem search_findB {gv : Value} {Tb : Nat → Prop} {most : Nat} {G : List Int → World → Prop} (gt : GateS gv Tb most G) (ks : List Int) (b1 b2 b3 : Nat) (key : Int) (N : Nat) (L : List Stp) (w : World) (hNw : N ≤ w.heap.size) (hC : ChainAt w key N L) (hL : L.length ≤ 100000) (hk : ks.length + (kdL L).length < most) (Inv : Nat → World → Prop) (hI : Inv 0 w) (hG : G ks w)
    (hTI : ∀ j w, Inv j w → Tbs Tb w) (ip : ∀ j w w', Inv j w → Pd Tb w w' → Inv j w')
    (tp : ∀ j s w, L[j]? = some s → Inv j w → Calls Try.prog 50 #[.pointer (some ⟨s.g, 0, none⟩), .pointer (some ⟨b1, 0, none⟩), .pointer (some ⟨b2, 0, none⟩), .pointer (some ⟨b3, 0, none⟩)] w fun e w' => e = .returned (.tuple #[]) ∧ Inv (j + 1) w' ∧ Od Tb w w' ∧ Bt Tb N w w') :
    Calls Try.prog 49 #[gv, ptrO ((L[0]?).map (·.g)), .int .i64 key, .func (.func 50) #[] #[.pointer (some ⟨b1, 0, none⟩), .pointer (some ⟨b2, 0, none⟩), .pointer (some ⟨b3, 0, none⟩)]] w fun e w' => e = .returned (.tuple #[]) ∧ Inv L.length w' ∧ G (ks ++ kdL L) w' ∧ Bt Tb N w w' := by
  have HC : Hid _ := hC
  have HI0 : Hid (Inv 0 w) := hI
  have HG0 : Hid (G ks w) := hG
  have HK0 : Hid (ks.length + (kdL L).length < most) := hk
  clear hC hI hG hk
  unfold ptrO
  generalize hy0 : (Option.map (fun g => (⟨g, 0, none⟩ : Addr)) ((L[0]?).map (·.g))) = y0
  have HY0 : Hid (Value.pointer y0 = ptrO ((L[0]?).map (·.g))) := by show _ = _; unfold ptrO; rw [hy0]
  clear hy0
  go_enter Try.func49, Try.ntmps49
  go_wp2_with fail
  go_loopw [11, 8, 9, 10] (fun vn ve vp vt wr => ∃ (j T : Nat) (x : Option Nat), j ≤ L.length ∧ vn = ptrO ((L[j]?).map (·.g)) ∧ ve = ptrO x ∧ vp = .int .i64 j ∧ vt = .int .i64 T ∧ 1 ≤ T ∧ T ≤ 2 * j + 1 ∧ (x = none ∨ ∃ i, i < j ∧ x = (L[i]?).map (·.g)) ∧ Inv j wr ∧ G (ks ++ kdL (L.take j)) wr ∧ Bt Tb N w wr) (fun _ _ vp _ _ => L.length - (intOf vp).toNat)
  case atStart => exact ⟨0, 1, none, Nat.zero_le _, HY0.out, rfl, rfl, rfl, by omega, by omega, Or.inl rfl, HI0.out, by simpa [kdL] using HG0.out, Bt.refl _ _ _⟩
  case round =>
    clear HI0 HG0 HY0
    obtain ⟨j, T, x, hj, rfl, rfl, rfl, rfl, hT1, hT2, hx, hinv, hg, hbw⟩ := hrel
    rename World => wr
    have HX : Hid (x = none ∨ ∃ i, i < j ∧ x = (L[i]?).map (·.g)) := hx
    have HI1 : Hid (Inv j wr) := hinv
    have HG0 : Hid (G (ks ++ kdL (L.take j)) wr) := hg
    have HW : Hid (Bt Tb N w wr) := hbw
    have CW : Hid _ := HC.out.bt hbw
    clear hinv hg hbw hx
    by_cases hlt : j < L.length
    · obtain ⟨s, hs⟩ : ∃ s, L[j]? = some s := ⟨L[j], List.getElem?_eq_getElem hlt⟩
      have HS : Hid (L[j]? = some s) := hs
      have HM : Hid (s ∈ L) := List.mem_of_getElem? hs
      have HK : Hid (ks.length + (kdL (L.take j)).length < most) := by show _ < _; have h1 := kdL_take_le L j; have h2 := HK0.out; omega
      have okx : OkR wr x := by
        rcases HX.out with rfl | ⟨i, _, rfl⟩
        · exact OkR.none _
        · exact CW.out.okr i
      have hne : x ≠ some s.g := by
        rintro rfl
        rcases HX.out with h | ⟨i, h1, h2⟩
        · cases h
        · have hil : i < L.length := by omega
          rw [List.getElem?_eq_getElem hil] at h2
          have hs' : L[j] = s := (List.getElem?_eq_some_iff.1 hs).2
          have e1 : (L.map (·.g))[i]? = (L.map (·.g))[j]? := by
            rw [List.getElem?_map, List.getElem?_map, hs, List.getElem?_eq_getElem hil]
            simpa using h2.symm
          have := (List.getElem?_inj (by simpa using hil) CW.out.nodup).1 e1
          omega
      have heq := eqlR (CW.out.rc s HM.out).1.okr okx
      rw [decide_eq_false (fun q => hne q.symm)] at heq
      unfold ptrO at heq
      simp only [Option.map_some] at heq
      have hn1 : ptrO ((L[j]?).map (·.g)) = .pointer (some ⟨s.g, 0, none⟩) := by rw [hs]; rfl
      rw [hn1]
      unfold ptrO
      have jT : (T : Int) ≤ 200001 := by omega
      have j0 : (0 : Int) ≤ (j : Int) := Int.natCast_nonneg _
      have j9 : (j : Int) < 100000 := by omega
      have t0 : (0 : Int) ≤ (T : Int) := Int.natCast_nonneg _
      obtain ⟨T2, hT⟩ : ∃ T2, T2 = 2 * T := ⟨_, rfl⟩
      have w2 : wrap64 (2 * (T : Int)) = (T2 : Int) := by unfold wrap64; omega
      have w3 : IntKind.i64.wrap (2 * (T : Int)) = (T2 : Int) := by rw [IntKind.wrap_i64] <;> omega
      clear hn1 hs okx hne
      generalize hxx : (Option.map (fun g => (⟨g, 0, none⟩ : Addr)) x) = xx at heq
      have HXX : Hid (Value.pointer xx = ptrO x) := by show _ = _; unfold ptrO; rw [hxx]
      clear hxx
      by_cases hjt : j = T
      · have qjt : ((j : Int) == (T : Int)) = true := by simp [hjt]
        have HJT : Hid (j = T) := hjt
        clear hjt
        go_wp2_with fail
        refine (tp j s _ HS.out HI1.out).mono ?_
        rintro e w2 ⟨rfl, hi2, ho2, hb2⟩
        have HI2 : Hid (Inv (j + 1) w2) := hi2
        have HG1 : Hid (G (ks ++ kdL (L.take j)) w2) := gt.keep _ _ _ HG0.out ho2
        have HW2 : Hid (Bt Tb N w w2) := HW.out.trans hb2
        have C1 : Hid _ := CW.out.bt hb2
        have HNW : Hid (N ≤ w2.heap.size) := Nat.le_trans hNw HW2.out.size
        clear hi2 ho2 hb2 heq
        go_wp2_with fail
        refine (Below_any key s.g s.fb s.n _ (C1.out.rc s HM.out).1).mono ?_
        rintro e w4 ⟨rfl, hw4⟩
        subst hw4
        cases hbl : belowN key s.n
        · have HB : Hid (belowN key s.n = false) := hbl
          clear hbl
          go_wp2_with fail
          have hq : chO s.n 1 = (L[j + 1]?).map (·.g) := by rw [← C1.out.next j s HS.out]; unfold nxt; rw [HB.out]; rfl
          refine (Right_any gt (ks ++ kdL (L.take j)) (by have := HK.out; rw [List.length_append]; omega) s.g s.fb s.n _ HG1.out (C1.out.rc s HM.out).1 (C1.out.rc s HM.out).2.2.2.1 (C1.out.rc s HM.out).2.2.2.2 ((hTI _ _ HI2.out).not (C1.out.rc s HM.out).1.typ.2 (by decide)) (fun ql w1 hp => by
            have h0 := (C1.out.bt (hp.bt HNW.out (hTI _ _ HI2.out))).okr (j + 1)
            rw [← hq] at h0
            unfold chO at h0
            rw [ql] at h0
            exact h0)).mono ?_
          rintro e w3 ⟨rfl, hg3, hp3⟩
          rw [hq]
          have HI3 : Hid (Inv (j + 1) w3) := ip _ _ _ HI2.out hp3
          have HG3 : Hid (G (ks ++ kdL (L.take (j + 1))) w3) := by show G _ _; rw [kdL_take HS.out, ← List.append_assoc]; exact hg3
          have HB3 : Hid (Bt Tb N w w3) := HW2.out.trans (hp3.bt HNW.out (hTI _ _ HI2.out))
          clear hg3 hp3 hq
          unfold ptrO
          generalize hyy : (Option.map (fun g => (⟨g, 0, none⟩ : Addr)) ((L[j + 1]?).map (·.g))) = yy
          have HYY : Hid (Value.pointer yy = ptrO ((L[j + 1]?).map (·.g))) := by show _ = _; unfold ptrO; rw [hyy]
          clear hyy
          go_wp2_with fail
          exact ⟨⟨j + 1, T2, some s.g, by omega, by first | exact HYY.out | rfl, by first | rfl | exact HXX.out, by go_num, by first | rfl | go_num, by omega, by have := HJT.out; omega, Or.inr ⟨j, by omega, by rw [HS.out]; rfl⟩, HI3.out, HG3.out, HB3.out⟩, by simp [intOf]; omega⟩
        · have HB : Hid (belowN key s.n = true) := hbl
          clear hbl
          go_wp2_with fail
          have hq : chO s.n 0 = (L[j + 1]?).map (·.g) := by rw [← C1.out.next j s HS.out]; unfold nxt; rw [HB.out]; rfl
          refine (Left_any gt (ks ++ kdL (L.take j)) (by have := HK.out; rw [List.length_append]; omega) s.g s.fb s.n _ HG1.out (C1.out.rc s HM.out).1 (C1.out.rc s HM.out).2.2.2.1 (C1.out.rc s HM.out).2.2.2.2 ((hTI _ _ HI2.out).not (C1.out.rc s HM.out).1.typ.2 (by decide)) (fun ql w1 hp => by
            have h0 := (C1.out.bt (hp.bt HNW.out (hTI _ _ HI2.out))).okr (j + 1)
            rw [← hq] at h0
            unfold chO at h0
            rw [ql] at h0
            exact h0)).mono ?_
          rintro e w3 ⟨rfl, hg3, hp3⟩
          rw [hq]
          have HI3 : Hid (Inv (j + 1) w3) := ip _ _ _ HI2.out hp3
          have HG3 : Hid (G (ks ++ kdL (L.take (j + 1))) w3) := by show G _ _; rw [kdL_take HS.out, ← List.append_assoc]; exact hg3
          have HB3 : Hid (Bt Tb N w w3) := HW2.out.trans (hp3.bt HNW.out (hTI _ _ HI2.out))
          clear hg3 hp3 hq
          unfold ptrO
          generalize hyy : (Option.map (fun g => (⟨g, 0, none⟩ : Addr)) ((L[j + 1]?).map (·.g))) = yy
          have HYY : Hid (Value.pointer yy = ptrO ((L[j + 1]?).map (·.g))) := by show _ = _; unfold ptrO; rw [hyy]
          clear hyy
          go_wp2_with fail
          exact ⟨⟨j + 1, T2, some s.g, by omega, by first | exact HYY.out | rfl, by first | rfl | exact HXX.out, by go_num, by first | rfl | go_num, by omega, by have := HJT.out; omega, Or.inr ⟨j, by omega, by rw [HS.out]; rfl⟩, HI3.out, HG3.out, HB3.out⟩, by simp [intOf]; omega⟩
      · have qjt : ((j : Int) == (T : Int)) = false := by rw [beq_eq_false_iff_ne]; omega
        have HJT : Hid (j = T → False) := hjt
        clear hjt
        go_wp2_with fail
        refine (tp j s _ HS.out HI1.out).mono ?_
        rintro e w2 ⟨rfl, hi2, ho2, hb2⟩
        have HI2 : Hid (Inv (j + 1) w2) := hi2
        have HG1 : Hid (G (ks ++ kdL (L.take j)) w2) := gt.keep _ _ _ HG0.out ho2
        have HW2 : Hid (Bt Tb N w w2) := HW.out.trans hb2
        have C1 : Hid _ := CW.out.bt hb2
        have HNW : Hid (N ≤ w2.heap.size) := Nat.le_trans hNw HW2.out.size
        clear hi2 ho2 hb2 heq
        go_wp2_with fail
        refine (Below_any key s.g s.fb s.n _ (C1.out.rc s HM.out).1).mono ?_
        rintro e w4 ⟨rfl, hw4⟩
        subst hw4
        cases hbl : belowN key s.n
        · have HB : Hid (belowN key s.n = false) := hbl
          clear hbl
          go_wp2_with fail
          have hq : chO s.n 1 = (L[j + 1]?).map (·.g) := by rw [← C1.out.next j s HS.out]; unfold nxt; rw [HB.out]; rfl
          refine (Right_any gt (ks ++ kdL (L.take j)) (by have := HK.out; rw [List.length_append]; omega) s.g s.fb s.n _ HG1.out (C1.out.rc s HM.out).1 (C1.out.rc s HM.out).2.2.2.1 (C1.out.rc s HM.out).2.2.2.2 ((hTI _ _ HI2.out).not (C1.out.rc s HM.out).1.typ.2 (by decide)) (fun ql w1 hp => by
            have h0 := (C1.out.bt (hp.bt HNW.out (hTI _ _ HI2.out))).okr (j + 1)
            rw [← hq] at h0
            unfold chO at h0
            rw [ql] at h0
            exact h0)).mono ?_
          rintro e w3 ⟨rfl, hg3, hp3⟩
          rw [hq]
          have HI3 : Hid (Inv (j + 1) w3) := ip _ _ _ HI2.out hp3
          have HG3 : Hid (G (ks ++ kdL (L.take (j + 1))) w3) := by show G _ _; rw [kdL_take HS.out, ← List.append_assoc]; exact hg3
          have HB3 : Hid (Bt Tb N w w3) := HW2.out.trans (hp3.bt HNW.out (hTI _ _ HI2.out))
          clear hg3 hp3 hq
          unfold ptrO
          generalize hyy : (Option.map (fun g => (⟨g, 0, none⟩ : Addr)) ((L[j + 1]?).map (·.g))) = yy
          have HYY : Hid (Value.pointer yy = ptrO ((L[j + 1]?).map (·.g))) := by show _ = _; unfold ptrO; rw [hyy]
          clear hyy
          go_wp2_with fail
          exact ⟨⟨j + 1, T, x, by omega, by first | exact HYY.out | rfl, by first | rfl | exact HXX.out, by go_num, by first | rfl | go_num, by omega, by have := HJT.out; omega, by rcases HX.out with h | ⟨i, h1, h2⟩; exact Or.inl h; exact Or.inr ⟨i, by omega, h2⟩, HI3.out, HG3.out, HB3.out⟩, by simp [intOf]; omega⟩
        · have HB : Hid (belowN key s.n = true) := hbl
          clear hbl
          go_wp2_with fail
          have hq : chO s.n 0 = (L[j + 1]?).map (·.g) := by rw [← C1.out.next j s HS.out]; unfold nxt; rw [HB.out]; rfl
          refine (Left_any gt (ks ++ kdL (L.take j)) (by have := HK.out; rw [List.length_append]; omega) s.g s.fb s.n _ HG1.out (C1.out.rc s HM.out).1 (C1.out.rc s HM.out).2.2.2.1 (C1.out.rc s HM.out).2.2.2.2 ((hTI _ _ HI2.out).not (C1.out.rc s HM.out).1.typ.2 (by decide)) (fun ql w1 hp => by
            have h0 := (C1.out.bt (hp.bt HNW.out (hTI _ _ HI2.out))).okr (j + 1)
            rw [← hq] at h0
            unfold chO at h0
            rw [ql] at h0
            exact h0)).mono ?_
          rintro e w3 ⟨rfl, hg3, hp3⟩
          rw [hq]
          have HI3 : Hid (Inv (j + 1) w3) := ip _ _ _ HI2.out hp3
          have HG3 : Hid (G (ks ++ kdL (L.take (j + 1))) w3) := by show G _ _; rw [kdL_take HS.out, ← List.append_assoc]; exact hg3
          have HB3 : Hid (Bt Tb N w w3) := HW2.out.trans (hp3.bt HNW.out (hTI _ _ HI2.out))
          clear hg3 hp3 hq
          unfold ptrO
          generalize hyy : (Option.map (fun g => (⟨g, 0, none⟩ : Addr)) ((L[j + 1]?).map (·.g))) = yy
          have HYY : Hid (Value.pointer yy = ptrO ((L[j + 1]?).map (·.g))) := by show _ = _; unfold ptrO; rw [hyy]
          clear hyy
          go_wp2_with fail
          exact ⟨⟨j + 1, T, x, by omega, by first | exact HYY.out | rfl, by first | rfl | exact HXX.out, by go_num, by first | rfl | go_num, by omega, by have := HJT.out; omega, by rcases HX.out with h | ⟨i, h1, h2⟩; exact Or.inl h; exact Or.inr ⟨i, by omega, h2⟩, HI3.out, HG3.out, HB3.out⟩, by simp [intOf]; omega⟩
    · obtain rfl : j = L.length := by omega
      have hn1 : ptrO ((L[L.length]?).map (·.g)) = .pointer none := by rw [List.getElem?_eq_none (Nat.le_refl _)]; rfl
      rw [hn1]
      clear hn1 CW
      generalize hxx : ptrO x = xx
      clear hxx
      go_wp2_with fail
      refine bodyPost_end (results_none rfl _ _ _) rfl ?_
      have hg := HG0.out
      rw [List.take_length] at hg
      exact ⟨rfl, HI1.out, hg, HW.out⟩

set_option maxRecDepth 100000 in
set_option maxHeartbeats 1000000 in
theorem Path_bt {gv : Value} {Tb : Nat → Prop} {most : Nat} {G : List Int → World → Prop} (gt : GateS gv Tb most G) (ks : List Int) (key : Int) (N : Nat) (L : List Stp) (w : World) (hNw : N ≤ w.heap.size) (hC : ChainAt w key N L) (hL : L.length ≤ 100000) (hk : ks.length + (kdL L).length < most) (hG : G ks w) (hT : Tbs Tb w) :
    Calls Try.prog 33 #[gv, ptrO ((L[0]?).map (·.g)), .int .i64 key] w fun e w' => ∃ v, e = .returned v ∧ w'.ownsRow w.heap.size 41 1 v L.length (ptC L) ∧ G (ks ++ kdL L) w' ∧ Tbs Tb w' ∧ Bt Tb N w w' := by
  have ODA : Od Tb w (w.alloc (.cells #[.slice none 0 0] 78)) := Od.of_below (below_alloc w _)
  have PI : PInv Tb w.heap.size (w.heap.size + 1) L 0 (w.alloc (.cells #[.slice none 0 0] 78)) := ⟨⟨.slice none 0 0, heap_alloc_at _ _ _ rfl, World.ownsRow_nil _ _ _ _⟩, by omega, by simp, hT.od ODA⟩
  have HS : Hid _ := search_pathB gt ks w.heap.size key N L (w.alloc (.cells #[.slice none 0 0] 78)) (by simp; omega) (hC.below ((below_alloc w _).mono hNw)) hL hk (PInv Tb w.heap.size (w.heap.size + 1) L) PI (gt.keep _ _ _ hG ODA) (fun j w h => h.tbs) (fun j w w' h k => h.pd k) (fun j s w hs h => (path_tell Tb _ _ N L j s w hs hL h (by omega)).mono (fun e w' ⟨q1, q2, q3, q4⟩ => ⟨q1, q2, q3, Bt.of_below q4⟩))
  have HB0 : Hid (Below N w (w.alloc (.cells #[.slice none 0 0] 78))) := (below_alloc w _).mono hNw
  clear PI ODA hC hG hT
  unfold ptrO at HS ⊢
  generalize (Option.map (fun g => (⟨g, 0, none⟩ : Addr)) ((L[0]?).map (·.g))) = y0 at HS ⊢
  go_enter Try.func33, Try.ntmps33
  go_wp2_with fail
  refine Calls.mono HS.out ?_
  rintro e w2 ⟨rfl, hi, hg, hb⟩
  obtain ⟨⟨v, hv, ho⟩, hlt, hsz, htb⟩ := hi
  have c0 : w2.cell? ⟨w.heap.size, 0, none⟩ = some v := by simp [World.cell?, hv]
  have HO : Hid (w2.ownsRow (w.heap.size + 1) 41 1 v L.length (ptC L)) := by
    rw [List.take_length] at ho
    exact ho
  have HG : Hid (G (ks ++ kdL L) w2) := hg
  have HT : Hid (Tbs Tb w2) := htb
  have HB : Hid (Bt Tb N w w2) := (Bt.of_below HB0.out).trans hb
  clear hv ho hg htb hb
  go_wp2_with fail
  go_ret
  exact ⟨_, rfl, owns_down HO.out (by omega), HG.out, HT.out, HB.out⟩

set_option maxRecDepth 100000 in
set_option maxHeartbeats 2000000 in
theorem Find_bt {gv : Value} {Tb : Nat → Prop} {most : Nat} {G : List Int → World → Prop} (gt : GateS gv Tb most G) (ks : List Int) (key : Int) (N : Nat) (L : List Stp) (w : World) (hNw : N ≤ w.heap.size) (hC : ChainAt w key N L) (hL : L.length ≤ 100000) (hk : ks.length + (kdL L).length < most) (hG : G ks w) (hT : Tbs Tb w) :
    Calls Try.prog 30 #[gv, ptrO ((L[0]?).map (·.g)), .int .i64 key] w fun e w' => e = .returned (.tuple #[ptrO (la L L.length 1), ptrO (la L L.length 2), ptrO (la L L.length 3)]) ∧ G (ks ++ kdL L) w' ∧ Tbs Tb w' ∧ Bt Tb N w w' := by
  obtain ⟨W, hW⟩ : ∃ W, W = ((w.alloc (.cells #[.pointer none] 41)).alloc (.cells #[.pointer none] 41)).alloc (.cells #[.pointer none] 41) := ⟨_, rfl⟩
  have HB0 : Below w.heap.size w W := by rw [hW]; exact ((below_alloc w _).alloc (by simp) _).alloc (by simp; omega) _
  have ODA : Od Tb w W := Od.of_below HB0
  have h1 : W.heap[w.heap.size]? = some (.cells #[.pointer none] 41 (0, 0)) := by
    rw [hW]
    exact (heap_alloc_old _ _ (by simp; omega)).trans ((heap_alloc_old _ _ (by simp)).trans (heap_alloc_at _ _ _ rfl))
  have h2 : W.heap[w.heap.size + 1]? = some (.cells #[.pointer none] 41 (0, 0)) := by
    rw [hW]
    exact (heap_alloc_old _ _ (by simp)).trans (heap_alloc_at _ _ _ (by simp))
  have h3 : W.heap[w.heap.size + 1 + 1]? = some (.cells #[.pointer none] 41 (0, 0)) := by
    rw [hW]
    exact heap_alloc_at _ _ _ (by simp)
  have FI : FInv Tb N w.heap.size (w.heap.size + 1) (w.heap.size + 1 + 1) L 0 W := ⟨h1, h2, h3, ⟨by omega, by omega, by omega⟩, ⟨hNw, by omega, by omega⟩, hT.od ODA⟩
  have HS : Hid _ := search_findB gt ks w.heap.size (w.heap.size + 1) (w.heap.size + 1 + 1) key N L W (by have := HB0.size; omega) (hC.below (HB0.mono hNw)) hL hk (FInv Tb N w.heap.size (w.heap.size + 1) (w.heap.size + 1 + 1) L) FI (gt.keep _ _ _ hG ODA) (fun j w h => h.tbs) (fun j w w' h k => h.pd k) (fun j s w hs h => (find_tell Tb _ _ _ N L j s w hs h).mono (fun e w' ⟨q1, q2, q3, q4⟩ => ⟨q1, q2, q3, Bt.of_below q4⟩))
  have HB : Hid (Below N w W) := HB0.mono hNw
  have HGK : Hid (∀ ks w w', G ks w → Od Tb w w' → G ks w') := gt.keep
  clear FI ODA hC hG hT h1 h2 h3 HB0
  obtain ⟨z1, hz1⟩ : ∃ z, ptrO (la L L.length 1) = .pointer z := ⟨_, rfl⟩
  obtain ⟨z2, hz2⟩ : ∃ z, ptrO (la L L.length 2) = .pointer z := ⟨_, rfl⟩
  obtain ⟨z3, hz3⟩ : ∃ z, ptrO (la L L.length 3) = .pointer z := ⟨_, rfl⟩
  have HZ1 : Hid (ptrO (la L L.length 1) = .pointer z1) := hz1
  have HZ2 : Hid (ptrO (la L L.length 2) = .pointer z2) := hz2
  have HZ3 : Hid (ptrO (la L L.length 3) = .pointer z3) := hz3
  rw [hz1, hz2, hz3]
  clear hz1 hz2 hz3
  unfold ptrO at HS
  generalize hy : ptrO ((L[0]?).map (·.g)) = y0
  unfold ptrO at hy
  generalize (Option.map (fun g => (⟨g, 0, none⟩ : Addr)) ((L[0]?).map (·.g))) = y1 at HS hy
  subst hy
  subst hW
  go_enter Try.func30, Try.ntmps30
  go_wp2_with fail
  refine Calls.mono HS.out ?_
  rintro e w2 ⟨rfl, hi, hg, hb⟩
  obtain ⟨c1, c2, c3, ⟨n1, n2, n3⟩, ⟨g1, g2, g3⟩, ht⟩ := hi
  rw [HZ1.out] at c1
  rw [HZ2.out] at c2
  rw [HZ3.out] at c3
  have HG : Hid (G (ks ++ kdL L) w2) := hg
  have HT : Hid (Tbs Tb w2) := ht
  have HBB : Hid (Bt Tb N w w2) := (Bt.of_below HB.out).trans hb
  have BA := boxes_again c1 c2 c3 n1 n2 n3
  have o1 : Od Tb w2 _ := Od.set (v := .pointer z1) (j := 0) ⟨_, _, c1⟩ (by decide) (ht.not ⟨_, _, c1⟩ (by decide))
  have o2 : Od Tb _ _ := Od.set (v := .pointer z2) (j := 0) ⟨_, _, box_apart c2 (Ne.symm n1) (.pointer z1)⟩ (by decide) (ht.not ⟨_, _, c2⟩ (by decide))
  have o3 : Od Tb _ _ := Od.set (v := .pointer z3) (j := 0) ⟨_, _, box_apart (box_apart c3 (Ne.symm n2) (.pointer z1)) (Ne.symm n3) (.pointer z2)⟩ (by decide) (ht.not ⟨_, _, c3⟩ (by decide))
  have OD : Hid (Od Tb w2 _) := (o1.trans o2).trans o3
  have BL : Hid (Below N w2 _) := (((Below.refl N w2).setCell (p := ⟨w.heap.size, 0, none⟩) g1 (.pointer z1)).setCell (p := ⟨w.heap.size + 1, 0, none⟩) g2 (.pointer z2)).setCell (p := ⟨w.heap.size + 1 + 1, 0, none⟩) g3 (.pointer z3)
  have BO := BA _ rfl
  have HBO : Hid _ := BO
  have d1 : w2.cell? ⟨w.heap.size, 0, none⟩ = some (.pointer z1) := by simp [World.cell?, c1]
  have d2 : w2.cell? ⟨w.heap.size + 1, 0, none⟩ = some (.pointer z2) := by simp [World.cell?, c2]
  have d3 : w2.cell? ⟨w.heap.size + 1 + 1, 0, none⟩ = some (.pointer z3) := by simp [World.cell?, c3]
  have f1 : w2.frozen? ⟨w.heap.size, 0, none⟩ = false := by simp [World.frozen?, c1]
  have f2 : w2.frozen? ⟨w.heap.size + 1, 0, none⟩ = false := by simp [World.frozen?, c2]
  have f3 : w2.frozen? ⟨w.heap.size + 1 + 1, 0, none⟩ = false := by simp [World.frozen?, c3]
  clear BA BO o1 o2 o3 c1 c2 c3 n1 n2 n3 hg ht hb
  go_wp2_with fail
  go_region
  go_wp2_with fail
  refine bodyPost_ret (v := .tuple #[.pointer z1, .pointer z2, .pointer z3]) ?_ rfl ?_
  · rw [results_cell3 rfl]; go_simp
  · exact ⟨rfl, HGK.out _ _ _ HG.out (Od.drew OD.out), HT.out.od (Od.drew OD.out), HBB.out.trans (Bt.of_below BL.out.drew)⟩

end Go.Proofs.Ythdfpddijocfkaa



namespace Go.Proofs.Ythdfpddijocfkaa

open Go.RowKit

attribute [local go_sem ↓] Go.wp_at_zero Go.wp_at_succ

theorem neqR {W : World} {x y : Option Nat} (hx : OkR W x) (hy : OkR W y) : (binOp .neq 41 (ptrO x) (ptrO y)).run Try.prog W = .ok (.bool (!decide (x = y))) W := by
  have h := equalR hx hy
  unfold ptrO at h ⊢
  simp only [binOp]
  simp [h]
theorem eqlS {W : World} {a b : Nat} (hx : OkR W (some a)) (hy : OkR W (some b)) (c : Bool) (hc : decide (a = b) = c) : (binOp .eql 41 (.pointer (some ⟨a, 0, none⟩)) (.pointer (some ⟨b, 0, none⟩))).run Try.prog W = .ok (.bool c) W := by
  have h := eqlR hx hy
  unfold ptrO at h
  simpa [← hc] using h
theorem neqS {W : World} {a b : Nat} (hx : OkR W (some a)) (hy : OkR W (some b)) (c : Bool) (hc : (!decide (a = b)) = c) : (binOp .neq 41 (.pointer (some ⟨a, 0, none⟩)) (.pointer (some ⟨b, 0, none⟩))).run Try.prog W = .ok (.bool c) W := by
  have h := neqR hx hy
  unfold ptrO at h
  simpa [← hc] using h
theorem neqN (W : World) : (binOp .neq 41 (.pointer none) (.pointer none)).run Try.prog W = .ok (.bool false) W := by
  have h := neqR (OkR.none W) (OkR.none W)
  unfold ptrO at h
  simpa using h
/-- The Case stands, and all below the call is as it was. -/
structure CS (w : World) (key inf wt val : Int) (z : World) : Prop where
  cb : ∃ a b fr, z.heap[w.heap.size]? = some (.cells #[a, b, .int .i64 key, .int .i64 inf, .int .i64 wt, .int .i64 val] 25 fr)
  bl : Below w.heap.size w z
section

variable {w z y : World} {key inf wt val : Int}

theorem CS.lt (h : CS w key inf wt val z) : w.heap.size < z.heap.size := by
  obtain ⟨_, _, _, e⟩ := h.cb
  exact (Array.getElem?_eq_some_iff.1 e).1
theorem CS.cells (h : CS w key inf wt val z) : z.cell? ⟨w.heap.size, 2, none⟩ = some (.int .i64 key) ∧ z.cell? ⟨w.heap.size, 3, none⟩ = some (.int .i64 inf) ∧ z.cell? ⟨w.heap.size, 4, none⟩ = some (.int .i64 wt) ∧ z.cell? ⟨w.heap.size, 5, none⟩ = some (.int .i64 val) := by
  obtain ⟨_, _, _, e⟩ := h.cb
  simp only [World.cell?, e]
  exact ⟨rfl, rfl, rfl, rfl⟩
theorem CS.below (h : CS w key inf wt val z) (hb : Below z.heap.size z y) : CS w key inf wt val y := by
  have hl := h.lt
  obtain ⟨a, b, fr, e⟩ := h.cb
  exact ⟨⟨a, b, fr, (hb.block _ hl).trans e⟩, h.bl.trans (hb.mono h.bl.size)⟩
theorem CS.gb (h : CS w key inf wt val z) {g : Nat} (hg : z.grownBy y (some g)) (hr : w.heap.size < g) : CS w key inf wt val y := by
  have hl := h.lt
  obtain ⟨a, b, fr, e⟩ := h.cb
  exact ⟨⟨a, b, fr, (hg.block _ hl (fun q => by simp at q; omega)).trans e⟩, h.bl.trans (gb_to hg _ h.bl.size (fun k hk => by simp at hk; omega))⟩
theorem CS.bt (h : CS w key inf wt val z) {Tb : Nat → Prop} (hb : Bt Tb z.heap.size z y) (ht : ∀ t, Tb t → w.heap.size < t) : CS w key inf wt val y := by
  have hl := h.lt
  obtain ⟨a, b, fr, e⟩ := h.cb
  exact ⟨⟨a, b, fr, (hb.low _ hl ht).trans e⟩, h.bl.trans (hb.to_below h.bl.size (fun t q => Nat.le_of_lt (ht t q)))⟩
end

theorem gb_od {Tb : Nat → Prop} {z y : World} {g : Nat} {T : TypeId} (hg : z.grownBy y (some g)) (ht : typ z g T) (hT : T ≠ 3) (hb : ¬ Tb g) : Od Tb z y :=
  ⟨hg.size, fun t q hl => hg.block t hl (fun e => hb (by simp at e; rw [← e]; exact q)), fun k t => hg.block k t.lt (fun e => hT (by simp at e; subst e; exact ht.one t))⟩
/-- The Case, the tape, the nodes. -/
structure NS (w : World) (key inf wt val : Int) (tb B : Nat) (ks : List Int) (fs : List (Nat × Nat × GN)) (z : World) : Prop where
  cs : CS w key inf wt val z
  nt : NilTape tb B ks z
  bx : Tbs (TOne tb) z
  rc : ∀ x ∈ fs, RcAt z x.1 x.2.1 x.2.2
  tl : w.heap.size < tb
section

variable {w z y : World} {key inf wt val : Int} {tb B : Nat} {ks : List Int} {fs : List (Nat × Nat × GN)}

theorem NS.below (h : NS w key inf wt val tb B ks fs z) (hb : Below z.heap.size z y) : NS w key inf wt val tb B ks fs y :=
  ⟨h.cs.below hb, (gateS_nilT tb B 100000 (Nat.le_refl _)).keep _ _ _ h.nt (Od.of_below hb), h.bx.od (Od.of_below hb), fun x hx => (h.rc x hx).below hb, h.tl⟩
theorem NS.push (h : NS w key inf wt val tb B ks fs z) (hb : Below z.heap.size z y) (x : Nat × Nat × GN) (hx : RcAt y x.1 x.2.1 x.2.2) : NS w key inf wt val tb B ks (x :: fs) y := by
  have h' := h.below hb
  exact ⟨h'.cs, h'.nt, h'.bx, fun q hq => by rcases List.mem_cons.1 hq with rfl | hq; exact hx; exact h'.rc q hq, h'.tl⟩
theorem NS.sub (h : NS w key inf wt val tb B ks fs z) {gs : List (Nat × Nat × GN)} (hs : ∀ x ∈ gs, x ∈ fs) : NS w key inf wt val tb B ks gs z := ⟨h.cs, h.nt, h.bx, fun x hx => h.rc x (hs x hx), h.tl⟩
theorem NS.bt (h : NS w key inf wt val tb B ks fs z) {ks' : List Int} (hb : Bt (TOne tb) z.heap.size z y) (hg : NilTape tb B ks' y) (ht : Tbs (TOne tb) y) : NS w key inf wt val tb B ks' fs y :=
  ⟨h.cs.bt hb (fun t q => by have e : t = tb := q; rw [e]; exact h.tl), hg, ht, fun x hx => (h.rc x hx).bt hb (h.rc x hx).lt (h.rc x hx).ltf, h.tl⟩
theorem NS.pass (h : NS w key inf wt val tb B ks fs z) {ks' : List Int} (hp : Pd (TOne tb) z y) (hg : NilTape tb B ks' y) : NS w key inf wt val tb B ks' fs y :=
  h.bt (hp.bt (Nat.le_refl _) h.bx) hg (h.bx.pd hp)
/-- A field is swung: the node changes, the others stand. -/
theorem NS.swing (h : NS w key inf wt val tb B ks fs z) {g fb : Nat} {n : GN} (hn : RcAt z g fb n) (hl : w.heap.size < fb) (hg : z.grownBy y (some fb)) (n' : GN) (hr : RcAt y g fb n') (hap : ∀ x ∈ fs, x.2.1 ≠ fb) : NS w key inf wt val tb B ks ((g, fb, n') :: fs) y := by
  have hty := hn.typ.2
  have hnt : ¬ TOne tb fb := h.bx.not hty (by decide)
  have od : Od (TOne tb) z y := gb_od hg hty (by decide) hnt
  refine ⟨h.cs.gb hg hl, (gateS_nilT tb B 100000 (Nat.le_refl _)).keep _ _ _ h.nt od, h.bx.od od, fun x hx => ?_, h.tl⟩
  rcases List.mem_cons.1 hx with rfl | hx
  · exact hr
  · have k := h.rc x hx
    have h1 : x.1 ≠ fb := fun e => by rw [e] at k; exact k.ne hn
    exact ⟨by obtain ⟨a, b, e⟩ := k.rc; exact ⟨a, b, (hg.block _ k.lt (fun q => h1 (by simpa using q))).trans e⟩, (hg.block _ k.ltf (fun q => hap x hx (by simpa using q))).trans k.fl⟩
end

theorem owns_bt {Tb : Nat → Prop} {w w' : World} (k : Bt Tb w.heap.size w w') {B sz : Nat} {e : TypeId} {v : Value} {n : Nat} {xs : List Value} (h : w.ownsRow B e sz v n xs) (h1 : e ≠ 102) (h2 : e ≠ 3) : w'.ownsRow B e sz v n xs := by
  obtain ⟨a1, a2⟩ := h
  refine ⟨a1, ?_⟩
  rcases a2 with ⟨rfl, e0⟩ | ⟨g, cap, cur, rfl, hB, hg, hr⟩
  · exact Or.inl ⟨rfl, e0⟩
  · have ht : typ w g e := ⟨_, _, hg⟩
    exact Or.inr ⟨g, cap, cur, rfl, hB, (k.blk g ht.lt (fun q => h2 (ht.one q)) (fun q => h1 (ht.one q))).trans hg, hr⟩
/-! ### Ways. -/
theorem chain_one {w : World} {key : Int} {N g fb : Nat} {n : GN} (h : RcAt w g fb n) (hg : g < N) (hf : fb < N) (hl : n.lf = true) (hc : n.ch = []) : ChainAt w key N [⟨g, fb, n⟩] := by
  refine ⟨fun s hs => ?_, fun j s hs => ?_, by simp⟩
  · simp at hs
    subst hs
    exact ⟨h, hg, hf, (fun q => by have q' : n.lf = false := q; rw [hl] at q'; cases q'), (by simp [hc])⟩
  · cases j with
    | zero =>
      simp at hs
      subst hs
      unfold nxt chO
      simp [hl]
    | succ j => simp at hs
theorem chain_cons {w : World} {key : Int} {N g fb : Nat} {n : GN} {s : Stp} {L : List Stp} (h : RcAt w g fb n) (hg : g < N) (hf : fb < N) (h2 : n.ch.length = 2) (hL : ChainAt w key N (s :: L)) (hx : nxt key n = some s.g) (hnd : ∀ x ∈ s :: L, x.g ≠ g) : ChainAt w key N (⟨g, fb, n⟩ :: s :: L) := by
  refine ⟨fun x hx => ?_, fun j x hj => ?_, ?_⟩
  · rcases List.mem_cons.1 hx with rfl | hx
    · exact ⟨h, hg, hf, fun _ => h2, Nat.le_of_eq h2⟩
    · exact hL.rc x hx
  · cases j with
    | zero =>
      simp at hj
      subst hj
      rw [hx]
      rfl
    | succ j =>
      rw [List.getElem?_cons_succ] at hj ⊢
      exact hL.next j x hj
  · rw [List.map_cons, List.nodup_cons]
    refine ⟨fun q => ?_, hL.nodup⟩
    obtain ⟨x, hx, e⟩ := List.mem_map.1 q
    exact hnd x hx e
theorem nxt_crown (key : Int) (k wt v : Int) (a b : Option Nat) : nxt key ⟨k, 1, wt, v, false, [a, b]⟩ = a := by
  unfold nxt belowN chO
  simp
/-! ### Tables. -/
def eB : BT := .node ⟨0, 1, 1, 0⟩ (.leaf ⟨0, 1, 1, 0⟩) (.leaf ⟨0, 1, 1, 0⟩)
def eT : NL := [⟨0, 1, 1, 0, 1, 2⟩, ⟨0, 1, 1, 0, -1, -1⟩, ⟨0, 1, 1, 0, -1, -1⟩]
theorem e_lay : eB.lay 0 = eT := rfl
def sB : BT := .node ⟨0, 1, 1, 0⟩ (.node ⟨0, 1, 1, 0⟩ (.leaf ⟨6, 0, 1, 60⟩) (.leaf ⟨0, 1, 1, 0⟩)) (.leaf ⟨0, 1, 1, 0⟩)
def sT : NL := [⟨0, 1, 1, 0, 1, 4⟩, ⟨0, 1, 1, 0, 2, 3⟩, ⟨6, 0, 1, 60, -1, -1⟩, ⟨0, 1, 1, 0, -1, -1⟩, ⟨0, 1, 1, 0, -1, -1⟩]
theorem s_lay : sB.lay 0 = sT := rfl
theorem pd_crown : PD.ok ⟨0, 1, 1, 0⟩ := ⟨Or.inr ⟨rfl, rfl, rfl⟩, by decide, by decide⟩
theorem eB_ok : eB.ok := ⟨pd_crown, rfl, pd_crown, pd_crown⟩
theorem sB_ok : sB.ok := ⟨pd_crown, rfl, ⟨pd_crown, rfl, ⟨Or.inl rfl, by decide, by decide⟩, pd_crown⟩, pd_crown⟩
theorem e_nds {w : World} {N g f gl fl gr fr : Nat} (h : RcAt w g f ⟨0, 1, 1, 0, false, [some gl, some gr]⟩) (hl : RcAt w gl fl ⟨0, 1, 1, 0, true, []⟩) (hr : RcAt w gr fr ⟨0, 1, 1, 0, true, []⟩) (n1 : gl ≠ gr) (n2 : gr ≠ g) (n3 : gl ≠ g) (b : g < N ∧ f < N ∧ gl < N ∧ fl < N ∧ gr < N ∧ fr < N) :
    NdsAt w N (eB.lay 0) (fun i => if i = 0 then g else if i = 1 then gl else gr) (fun i => if i = 0 then f else if i = 1 then fl else fr) := by
  rw [e_lay]
  have cs : ∀ i, i < eT.length → i = 0 ∨ i = 1 ∨ i = 2 := fun i hi => by
    have : eT.length = 3 := rfl
    omega
  refine ⟨fun i hi => ?_, fun i j hi hj => ?_⟩
  · rcases cs i hi with rfl | rfl | rfl
    · exact ⟨h, b.1, b.2.1⟩
    · exact ⟨hl, b.2.2.1, b.2.2.2.1⟩
    · exact ⟨hr, b.2.2.2.2.1, b.2.2.2.2.2⟩
  · rcases cs i hi with rfl | rfl | rfl <;> rcases cs j hj with rfl | rfl | rfl <;> simp <;> omega
theorem s_nds {w : World} {N g f c fc g6 f6 g0 f0 gr fr : Nat} (h : RcAt w g f ⟨0, 1, 1, 0, false, [some c, some gr]⟩) (hc : RcAt w c fc ⟨0, 1, 1, 0, false, [some g6, some g0]⟩) (h6 : RcAt w g6 f6 ⟨6, 0, 1, 60, true, []⟩) (h0 : RcAt w g0 f0 ⟨0, 1, 1, 0, true, []⟩) (hr : RcAt w gr fr ⟨0, 1, 1, 0, true, []⟩) (nd : [g, c, g6, g0, gr].Nodup) (b : ∀ x ∈ [g, f, c, fc, g6, f6, g0, f0, gr, fr], x < N) :
    NdsAt w N (sB.lay 0) (fun i => [g, c, g6, g0, gr].getD i 0) (fun i => [f, fc, f6, f0, fr].getD i 0) := by
  rw [s_lay]
  have cs : ∀ i, i < sT.length → i = 0 ∨ i = 1 ∨ i = 2 ∨ i = 3 ∨ i = 4 := fun i hi => by
    have : sT.length = 5 := rfl
    omega
  refine ⟨fun i hi => ?_, fun i j hi hj e => ?_⟩
  · rcases cs i hi with rfl | rfl | rfl | rfl | rfl
    · exact ⟨h, b _ (by simp), b _ (by simp)⟩
    · exact ⟨hc, b _ (by simp), b _ (by simp)⟩
    · exact ⟨h6, b _ (by simp), b _ (by simp)⟩
    · exact ⟨h0, b _ (by simp), b _ (by simp)⟩
    · exact ⟨hr, b _ (by simp), b _ (by simp)⟩
  · have hl : sT.length = 5 := rfl
    have e' : [g, c, g6, g0, gr][i]? = [g, c, g6, g0, gr][j]? := by
      have hi' : i < [g, c, g6, g0, gr].length := by show i < 5; omega
      have hj' : j < [g, c, g6, g0, gr].length := by show j < 5; omega
      simp only [List.getD_eq_getElem?_getD, List.getElem?_eq_getElem hi', List.getElem?_eq_getElem hj', Option.getD_some] at e
      rw [List.getElem?_eq_getElem hi', List.getElem?_eq_getElem hj', e]
    exact (List.getElem?_inj (by show i < 5; omega) nd).1 e'
set_option maxRecDepth 100000 in
theorem nempty_any (w : World) : Calls Try.prog 29 #[] w fun e w' => e = .returned (.slice (some ⟨w.heap.size, 0, none⟩) 3 3) ∧ NodesAt w' (some ⟨w.heap.size, 0, none⟩) w.heap.size 0 eT ∧ Below w.heap.size w w' := by
  go_enter Try.func29, Try.ntmps29
  go_wp2_with fail
  go_ret
  have O : (w.alloc (.cells (ndCells eT).toArray 81)).heap[w.heap.size]? = some (.cells (ndCells eT).toArray 81 (0, 0)) := heap_alloc_at _ _ _ rfl
  refine ⟨rfl, nodes_of_cells (fun j hj => ?_) (by simp) (by decide), below_alloc _ _⟩
  have hj' : j < 18 := hj
  show (w.alloc (.cells (ndCells eT).toArray 81)).cell? _ = _
  unfold World.cell?
  rw [O]
  simp
end Go.Proofs.Ythdfpddijocfkaa

namespace Go.Proofs.Ythdfpddijocfkaa

open Go.RowKit

attribute [local go_sem ↓] Go.wp_at_zero Go.wp_at_succ

set_option maxRecDepth 100000 in
theorem read_nil (w : World) : Calls Try.prog 28 #[.nilIface, .pointer none] w fun e w' => e = .returned (.tuple #[.slice none 0 0, .int .i64 10]) ∧ w' = w := by
  go_enter Try.func28, Try.ntmps28
  go_wp2_with fail
  go_ret2
  exact ⟨rfl, rfl⟩
/-- A graph of two nodes. -/
def gr2 (g fb : Nat) (n : GN) (s fs : Nat) (m : GN) : Nat → Option (Nat × GN) := fun q => if q = g then some (fb, n) else if q = s then some (fs, m) else none
theorem gr2_at {w : World} {g fb s fs : Nat} {n m : GN} (h : RcAt w g fb n) (k : RcAt w s fs m) : GrAt w w.heap.size (gr2 g fb n s fs m) := by
  intro q b x e
  unfold gr2 at e
  split at e
  · rename_i q'
    subst q'
    simp only [Option.some.injEq, Prod.mk.injEq] at e
    obtain ⟨rfl, rfl⟩ := e
    exact ⟨h, h.lt, h.ltf⟩
  · split at e
    · rename_i q'
      subst q'
      simp only [Option.some.injEq, Prod.mk.injEq] at e
      obtain ⟨rfl, rfl⟩ := e
      exact ⟨k, k.lt, k.ltf⟩
    · cases e
theorem read_twice (g fb s fs : Nat) (k i wt k' i' wt' v' : Int) (w : World) (h : RcAt w g fb ⟨k, i, wt, 0, false, [some s, some s]⟩) (hs : RcAt w s fs ⟨k', i', wt', v', true, []⟩) (hne : s ≠ g) :
    Calls Try.prog 28 #[.nilIface, .pointer (some ⟨g, 0, none⟩)] w fun e w' => e = .returned (.tuple #[.slice none 0 0, .int .i64 3]) ∧ Below w.heap.size w w' := by
  let n : GN := ⟨k, i, wt, 0, false, [some s, some s]⟩
  let m : GN := ⟨k', i', wt', v', true, []⟩
  let tr : Nat → RS := fun j => match j with
    | 0 => ⟨[], [], [(some g, -1)], []⟩
    | 1 => ⟨[plainN n 0], [g], [(some s, 0), (some s, -1)], [1, 1]⟩
    | _ => ⟨[plainN n 0, plainN m 1], [g, s], [(some s, 0)], [1, 1]⟩
  have hg : gr2 g fb n s fs m g = some (fb, n) := by unfold gr2; rw [if_pos rfl]
  have hs' : gr2 g fb n s fs m s = some (fs, m) := by unfold gr2; rw [if_neg hne, if_pos rfl]
  have run : RRun (gr2 g fb n s fs m) tr 2 := by
    refine ⟨fun j hj => ?_, fun j hj => ?_, fun j hj => ?_, fun j hj q hq => ?_, Or.inr ⟨[], some s, 0, rfl, Or.inr ⟨s, rfl, by simp [tr]⟩⟩⟩
    · rcases (show j = 0 ∨ j = 1 by omega) with rfl | rfl
      · refine ⟨[], g, -1, fb, n, rfl, hg, by simp [tr], by simp [tr], Or.inl rfl, rfl, rfl, rfl, rfl, fun _ => rfl, by simp [n], fun j q _ hq => ?_⟩
        have : q = s := by
          match j, hq with
          | 0, hq => simpa [n] using hq.symm
          | 1, hq => simpa [n] using hq.symm
          | j + 2, hq => simp [n] at hq
        rw [this, hs']
        rfl
      · exact ⟨[(some s, 0)], s, -1, fs, m, rfl, hs', by simp [tr, hne], by simp [tr], Or.inl rfl, rfl, rfl, rfl, rfl, fun q => (by cases q), by simp [m], fun j q hq => (by cases hq)⟩
    · rcases (show j = 0 ∨ j = 1 ∨ j = 2 by omega) with rfl | rfl | rfl <;> rfl
    · rcases (show j = 0 ∨ j = 1 ∨ j = 2 by omega) with rfl | rfl | rfl <;> simp [tr]
    · rcases (show j = 0 ∨ j = 1 ∨ j = 2 by omega) with rfl | rfl | rfl
      · simp [tr] at hq
      · simp [tr] at hq; rw [hq, hg]; rfl
      · simp [tr] at hq
        rcases hq with rfl | rfl
        · rw [hg]; rfl
        · rw [hs']; rfl
  refine (Read_any (gateS_nil 1000000) [] w.heap.size (fun t ht => ht.elim) _ tr 2 (by omega) run g rfl w (Nat.le_refl _) (gr2_at h hs) (fun j hj => ?_) trivial (Tbs.nil w)).mono ?_
  · rcases (show j = 0 ∨ j = 1 ∨ j = 2 by omega) with rfl | rfl | rfl <;> simp [tr]
  · rintro e w' ⟨_, h2, _, _, hb⟩
    exact ⟨h2 (by simp [tr]), hb⟩
theorem read_hole (g fb s fs : Nat) (k i wt k' i' wt' v' : Int) (w : World) (h : RcAt w g fb ⟨k, i, wt, 0, false, [none, some s]⟩) (hs : RcAt w s fs ⟨k', i', wt', v', true, []⟩) (hne : s ≠ g) :
    Calls Try.prog 28 #[.nilIface, .pointer (some ⟨g, 0, none⟩)] w fun e w' => e = .returned (.tuple #[.slice none 0 0, .int .i64 3]) ∧ Below w.heap.size w w' := by
  let n : GN := ⟨k, i, wt, 0, false, [none, some s]⟩
  let m : GN := ⟨k', i', wt', v', true, []⟩
  let tr : Nat → RS := fun j => match j with
    | 0 => ⟨[], [], [(some g, -1)], []⟩
    | _ => ⟨[plainN n 0], [g], [(some s, 0), (none, -1)], [1, 1]⟩
  have hg : gr2 g fb n s fs m g = some (fb, n) := by unfold gr2; rw [if_pos rfl]
  have hs' : gr2 g fb n s fs m s = some (fs, m) := by unfold gr2; rw [if_neg hne, if_pos rfl]
  have run : RRun (gr2 g fb n s fs m) tr 1 := by
    refine ⟨fun j hj => ?_, fun j hj => ?_, fun j hj => ?_, fun j hj q hq => ?_, Or.inr ⟨[(some s, 0)], none, -1, rfl, Or.inl rfl⟩⟩
    · obtain rfl : j = 0 := by omega
      refine ⟨[], g, -1, fb, n, rfl, hg, by simp [tr], by simp [tr], Or.inl rfl, rfl, rfl, rfl, rfl, fun _ => rfl, by simp [n], fun j q _ hq => ?_⟩
      have : q = s := by
        match j, hq with
        | 0, hq => simp [n] at hq
        | 1, hq => simpa [n] using hq.symm
        | j + 2, hq => simp [n] at hq
      rw [this, hs']
      rfl
    · rcases (show j = 0 ∨ j = 1 by omega) with rfl | rfl <;> rfl
    · rcases (show j = 0 ∨ j = 1 by omega) with rfl | rfl <;> simp [tr]
    · rcases (show j = 0 ∨ j = 1 by omega) with rfl | rfl
      · simp [tr] at hq
      · simp [tr] at hq; rw [hq, hg]; rfl
  refine (Read_any (gateS_nil 1000000) [] w.heap.size (fun t ht => ht.elim) _ tr 1 (by omega) run g rfl w (Nat.le_refl _) (gr2_at h hs) (fun j hj => ?_) trivial (Tbs.nil w)).mono ?_
  · rcases (show j = 0 ∨ j = 1 by omega) with rfl | rfl <;> simp [tr]
  · rintro e w' ⟨_, h2, _, _, hb⟩
    exact ⟨h2 (by simp [tr]), hb⟩
end Go.Proofs.Ythdfpddijocfkaa



namespace Go.Proofs.Ythdfpddijocfkaa

open Go.RowKit

attribute [local go_sem ↓] Go.wp_at_zero Go.wp_at_succ

theorem nlSelf (a : NL) : nlEq a a = true := by unfold nlEq; simp
theorem isSelf (a : List Int) : isEq a a = true := by unfold isEq; simp
theorem sk_fold (t : NL) (ks : List Int) : ∃ L M, (if skE t ks = 0 then ks.length else 0) = L.length ∧ M.length = L.length ∧ (if skE t ks = 0 then skC (skA t ks) else []) = skC L ∧ (if skE t ks = 0 then isC (skN t ks) else []) = isC M := by
  by_cases h : skE t ks = 0
  · refine ⟨skA t ks, skN t ks, ?_⟩
    simp [h, skA, skN]
  · refine ⟨[], [], ?_⟩
    simp [h, skC, isC]
theorem WsAt.take {w : World} {base : Option Addr} {g o : Nat} {L : List Int} (h : WsAt w base g o L) (m : Nat) : WsAt w base g o (L.take m) := by
  have hl : (L.take m).length = min m L.length := List.length_take
  refine ⟨fun q => h.base (by omega), fun q => h.lt (by omega), fun i hi => ?_, by have := h.len; omega⟩
  rw [h.cells i (by omega)]
  simp only [List.getD_eq_getElem?_getD]
  rw [List.getElem?_take, if_pos (by omega)]
theorem map_len (L : List Int) : (isC L).length = L.length := by simp [isC]
/-- Round, Walk and Seek over a handed-in table. -/
theorem kr_len (t : NL) : formE t = 0 → (rdK t).length < 100000 := fun he => by
  have := rdK_len he
  have := inn_count he
  have := (formE_ok he).1
  omega

set_option maxRecDepth 100000 in
set_option maxHeartbeats 1000000 in
theorem nodeTables_any (bT : Option Addr) (b o cT : Nat) (t : NL) (bk : Option Addr) (gk ok ck : Nat) (keys : List Int) (key inf wt val : Int) (w : World) (h : NodesAt w bT b o t) (hTn : bT = none → t.length = 0 ∧ cT = 0) (hTb : t.length * 48 ≤ 140737488355328) (hk : WsAt w bk gk ok keys) (hKn : bk = none → keys.length = 0 ∧ ck = 0) (hKb : keys.length * 8 ≤ 140737488355328) (hKc : keys.length ≤ ck) :
    Calls Try.prog 3 #[.agg #[.slice bT t.length cT, .slice bk keys.length ck, .int .i64 key, .int .i64 inf, .int .i64 wt, .int .i64 val]] w fun e w' => e = .returned (.bool true) ∧ Below w.heap.size w w' := by
  have HTN : Hid (bT = none → t.length = 0 ∧ cT = 0) := hTn
  have HKN : Hid (bk = none → keys.length = 0 ∧ ck = 0) := hKn
  have HKC : Hid (keys.length ≤ ck) := hKc
  generalize hW1 : w.alloc (.cells #[.slice bT t.length cT, .slice bk keys.length ck, .int .i64 key, .int .i64 inf, .int .i64 wt, .int .i64 val] 25) = W1
  have hs1 : W1.heap.size = w.heap.size + 1 := by rw [← hW1]; simp
  have hb1 : Below w.heap.size w W1 := by rw [← hW1]; exact below_alloc _ _
  have hbk : W1.heap[w.heap.size]? = some (.cells #[.slice bT t.length cT, .slice bk keys.length ck, .int .i64 key, .int .i64 inf, .int .i64 wt, .int .i64 val] 25) := by rw [← hW1]; exact heap_alloc_at _ _ _ rfl
  have NT : Hid (∀ z, Below W1.heap.size W1 z → NodesAt z bT b o t) := fun z hz => (h.below hb1).below hz
  have NW : Hid (∀ z, Below W1.heap.size W1 z → WsAt z bk gk ok keys) := fun z hz => (hk.below hb1).below hz
  have CC : Hid (∀ z, Below W1.heap.size W1 z → z.cell? ⟨w.heap.size, 0, none⟩ = some (.slice bT t.length cT) ∧ z.cell? ⟨w.heap.size, 1, none⟩ = some (.slice bk keys.length ck) ∧ z.cell? ⟨w.heap.size, 2, none⟩ = some (.int .i64 key)) := fun z hz => by
    have e := (hz.block _ (by omega)).trans hbk
    exact ⟨by simp [World.cell?, e], by simp [World.cell?, e], by simp [World.cell?, e]⟩
  have BL : Hid (∀ z, Below W1.heap.size W1 z → Below w.heap.size w z ∧ w.heap.size < z.heap.size) := fun z hz => ⟨hb1.trans (hz.mono hb1.size), by have := hz.size; omega⟩
  have qE : (formE t != formE t) = false := by simp
  obtain ⟨KR, hKR⟩ : ∃ K, K = (if formE t = 0 then rdK t else []) := ⟨_, rfl⟩
  have HKR : Hid (KR = (if formE t = 0 then rdK t else [])) := hKR
  clear h hk hTn hKn hb1 hbk hKc hKR
  go_enter Try.func3, Try.ntmps3
  go_wp2_with fail
  clear hW1
  refine (nfix_any _).mono ?_
  rintro e w2 ⟨rfl, hb2⟩
  have H2 : Hid (Below W1.heap.size W1 w2) := hb2
  obtain ⟨e0, e1, e2⟩ := CC.out _ H2.out
  clear hb2
  go_wp2_with fail
  refine (nCopied_any bT b o cT t _ (NT.out _ H2.out) HTN.out hTb).mono ?_
  rintro e w3 ⟨v3, rfl, ho3, hb3⟩
  obtain ⟨a3, c3, g3, rfl, -, -, hn3⟩ := nodes_of_owns ho3
  have H3 : Hid (Below W1.heap.size W1 w3) := H2.out.trans (hb3.mono H2.out.size)
  have R4 : Hid _ := Round_any a3 g3 0 c3 t w3 hn3 (kr_len t)
  clear ho3 hn3 hb3 e0 e1 e2
  rw [← HKR.out] at R4
  go_wp2_with fail
  refine Calls.mono R4.out ?_
  rintro e w4 ⟨v4, u4, rfl, ho4, hk4, hb4⟩
  obtain ⟨a4, c4, g4, rfl, -, -, hn4⟩ := nodes_of_owns ho4
  obtain ⟨ak4, ck4, gk4, rfl, -, -, hs4⟩ := ws_of_owns (L := KR) hk4
  have N4 : Hid (NodesAt w4 a4 g4 0 (normL t)) := hn4
  have K4 : Hid (WsAt w4 ak4 gk4 0 KR) := hs4
  have H4 : Hid (Below W1.heap.size W1 w4) := H3.out.trans (hb4.mono H3.out.size)
  obtain ⟨e0, e1, e2⟩ := CC.out _ H4.out
  have R5 : Hid _ := rRound_any bT b o cT t w4 (NT.out _ H4.out)
  rw [← HKR.out] at R5
  clear ho4 hk4 hb4 hn4 hs4 R4 H3 H2
  go_wp2_with fail
  refine Calls.mono R5.out ?_
  rintro e w5 ⟨v5, u5, rfl, ho5, hk5, hb5⟩
  obtain ⟨a5, c5, g5, rfl, -, -, hn5⟩ := nodes_of_owns ho5
  obtain ⟨ak5, ck5, gk5, rfl, -, -, hs5⟩ := ws_of_owns (L := KR) hk5
  have N5 : Hid (NodesAt w5 a5 g5 0 (normL t)) := hn5
  have K5 : Hid (WsAt w5 ak5 gk5 0 KR) := hs5
  have N45 : Hid (NodesAt w5 a4 g4 0 (normL t)) := N4.out.below hb5
  have K45 : Hid (WsAt w5 ak4 gk4 0 KR) := K4.out.below hb5
  have H5 : Hid (Below W1.heap.size W1 w5) := H4.out.trans (hb5.mono H4.out.size)
  clear ho5 hk5 hb5 hn5 hs5 R5 H4 N4 K4 e0 e1 e2
  go_wp2_with fail
  refine (vSame_any a4 a5 g4 0 c4 g5 0 c5 (normL t) (normL t) _ N45.out N5.out).mono ?_
  rintro e w6 ⟨rfl, hb6⟩
  rw [nlSelf]
  have K6 : Hid (WsAt w6 ak5 gk5 0 KR) := K5.out.below hb6
  have K46 : Hid (WsAt w6 ak4 gk4 0 KR) := K45.out.below hb6
  have H6 : Hid (Below W1.heap.size W1 w6) := H5.out.trans (hb6.mono H5.out.size)
  clear hb6 H5 N5 N45 K5 K45
  go_wp2_with fail
  refine (sameInts_any ak4 ak5 gk4 0 ck4 gk5 0 ck5 KR KR _ K46.out K6.out).mono ?_
  rintro e w7 ⟨rfl, hb7⟩
  rw [isSelf]
  have H7 : Hid (Below W1.heap.size W1 w7) := H6.out.trans (hb7.mono H6.out.size)
  have H7d : Hid (Below W1.heap.size W1 w7.drew) := H7.out.drew
  obtain ⟨e0, e1, e2⟩ := CC.out _ H7.out
  clear hb7 H6 K6 K46
  go_wp2_with fail
  go_region_held3 (fun w' => w'.cell? ⟨w.heap.size, 0, none⟩ = some (.slice bT t.length cT) ∧ w'.cell? ⟨w.heap.size, 2, none⟩ = some (.int .i64 key))
    (first
      | (with_reducible exact X8.out)
      | (with_reducible exact X9.out)
      | go_keep)
    (first
      | (go_at_call 9; refine (nCopied_any bT b o cT t _ (NT.out _ H7d.out) HTN.out hTb).mono ?_; rintro e w8 ⟨v8, rfl, ho8, hb8⟩; obtain ⟨a8, c8, g8, rfl, -, -, hn8⟩ := nodes_of_owns ho8; have N8 : Hid (NodesAt w8 a8 g8 0 t) := hn8; have H8 : Hid (Below W1.heap.size W1 w8) := H7d.out.trans (hb8.mono H7d.out.size); have X8 : Hid (w8.cell? ⟨w.heap.size, 0, none⟩ = some (.slice bT t.length cT) ∧ w8.cell? ⟨w.heap.size, 2, none⟩ = some (.int .i64 key)) := ⟨(CC.out _ H8.out).1, (CC.out _ H8.out).2.2⟩; clear ho8 hn8 hb8)
      | (go_at_call 13; refine (Walk_any a8 g8 0 c8 t key _ N8.out).mono ?_; rintro e w9 ⟨v9, u9, rfl, ho9, hk9, hb9⟩; rw [natC_isC] at ho9; have lW : ((wkL t key).map fun x : Nat => (x : Int)).length = (wkL t key).length := List.length_map _; rw [← lW] at ho9; obtain ⟨a9, c9, g9, rfl, -, -, hn9⟩ := ws_of_owns ho9; obtain ⟨ak9, ck9, gk9, rfl, -, -, hs9⟩ := ws_of_owns (L := wkK t key) hk9; have N9 : Hid (WsAt w9 a9 g9 0 ((wkL t key).map fun x : Nat => (x : Int))) := hn9; have K9 : Hid (WsAt w9 ak9 gk9 0 (wkK t key)) := hs9; have H9 : Hid (Below W1.heap.size W1 w9) := H8.out.trans (hb9.mono H8.out.size); have X9 : Hid (w9.cell? ⟨w.heap.size, 0, none⟩ = some (.slice bT t.length cT) ∧ w9.cell? ⟨w.heap.size, 2, none⟩ = some (.int .i64 key)) := ⟨(CC.out _ H9.out).1, (CC.out _ H9.out).2.2⟩; clear ho9 hk9 hn9 hs9 hb9 lW))
  clear e0 e1 e2
  obtain ⟨e0, e1, e2⟩ := CC.out _ H9.out
  go_wp2_with fail
  refine (rWalk_any bT b o cT t key _ (NT.out _ H9.out)).mono ?_
  rintro e w10 ⟨v10, u10, rfl, ho10, hk10, hb10⟩
  rw [natC_isC] at ho10
  have lW : ((wkL t key).map fun x : Nat => (x : Int)).length = (wkL t key).length := List.length_map _
  rw [← lW] at ho10
  obtain ⟨a10, c10, g10, rfl, -, -, hn10⟩ := ws_of_owns ho10
  obtain ⟨ak10, ck10, gk10, rfl, -, -, hs10⟩ := ws_of_owns (L := wkK t key) hk10
  have N10 : Hid (WsAt w10 a10 g10 0 ((wkL t key).map fun x : Nat => (x : Int))) := hn10
  have K10 : Hid (WsAt w10 ak10 gk10 0 (wkK t key)) := hs10
  have N910 : Hid (WsAt w10 a9 g9 0 ((wkL t key).map fun x : Nat => (x : Int))) := N9.out.below hb10
  have K910 : Hid (WsAt w10 ak9 gk9 0 (wkK t key)) := K9.out.below hb10
  have H10 : Hid (Below W1.heap.size W1 w10) := H9.out.trans (hb10.mono H9.out.size)
  clear ho10 hk10 hb10 hn10 hs10 e0 e1 e2 X9 X8 H9 H8 N8 N9 K9
  have SI : Hid _ := sameInts_any a9 a10 g9 0 c9 g10 0 c10 _ _ _ N910.out N10.out
  rw [isSelf, List.length_map] at SI
  clear lW
  go_wp2_with fail
  refine Calls.mono SI.out ?_
  rintro e w11 ⟨rfl, hb11⟩
  have K11 : Hid (WsAt w11 ak10 gk10 0 (wkK t key)) := K10.out.below hb11
  have K911 : Hid (WsAt w11 ak9 gk9 0 (wkK t key)) := K910.out.below hb11
  have H11 : Hid (Below W1.heap.size W1 w11) := H10.out.trans (hb11.mono H10.out.size)
  clear hb11 SI H10 N10 N910 K10 K910
  go_wp2_with fail
  refine (sameInts_any ak9 ak10 gk9 0 ck9 gk10 0 ck10 (wkK t key) (wkK t key) _ K911.out K11.out).mono ?_
  rintro e w12 ⟨rfl, hb12⟩
  rw [isSelf]
  have H12 : Hid (Below W1.heap.size W1 w12) := H11.out.trans (hb12.mono H11.out.size)
  obtain ⟨e0, e1, e2⟩ := CC.out _ H12.out
  clear hb12 H11 K11 K911
  have l0 : (0 : Int) ≤ (keys.length : Int) := Int.natCast_nonneg _
  rcases (show keys.length ≤ 100 ∨ (100 < keys.length ∧ keys.length ≤ 1000) ∨ 1000 < keys.length by omega) with hl | hl | hl
  · have hc := HKC.out
    have q1 : (keys.length : Int) ≤ 1000 := by omega
    have q2 : min (keys.length : Int) 100 = (keys.length : Int) := by omega
    have q3 : (keys.length : Int) ≤ (ck : Int) := by omega
    have NK : Hid (∀ z, Below W1.heap.size W1 z → WsAt z bk gk ok keys) := NW
    have HNIL : Hid (bk = none → keys.length = 0 ∧ ck = 0) := HKN
    have hKb2 := hKb
    clear hl
    go_wp2_with fail
    obtain ⟨L, M, lL, lM, eL, eM⟩ := sk_fold t keys
    have HLL : Hid ((if skE t keys = 0 then keys.length else 0) = L.length) := lL
    have HLM : Hid (M.length = L.length) := lM
    have HEL : Hid ((if skE t keys = 0 then skC (skA t keys) else []) = skC L) := eL
    have HEM : Hid ((if skE t keys = 0 then isC (skN t keys) else []) = isC M) := eM
    clear lL lM eL eM
    have qS : (skE t keys == skE t keys) = true := by simp
    refine (nCopied_any bT b o cT t _ (NT.out _ H12.out) HTN.out hTb).mono ?_
    rintro e w13 ⟨v13, rfl, ho13, hb13⟩
    obtain ⟨a13, c13, g13, rfl, -, -, hn13⟩ := nodes_of_owns ho13
    have N13 : Hid (NodesAt w13 a13 g13 0 t) := hn13
    have H13 : Hid (Below W1.heap.size W1 w13) := H12.out.trans (hb13.mono H12.out.size)
    have RI : Hid _ := nInts_any bk gk ok ck keys w13 (NK.out _ H13.out) HNIL.out hKb2
    clear ho13 hn13 hb13 e0 e1 e2
    go_wp2_with fail
    refine Calls.mono RI.out ?_
    rintro e w14 ⟨v14, rfl, ho14, hb14⟩
    obtain ⟨a14, c14, g14, rfl, -, -, hs14⟩ := ws_of_owns (L := keys) ho14
    have H14 : Hid (Below W1.heap.size W1 w14) := H13.out.trans (hb14.mono H13.out.size)
    have RS : Hid _ := Seek_any a13 g13 0 c13 t a14 g14 0 c14 keys w14 (N13.out.below hb14) hs14
    rw [HLL.out, HEL.out, HEM.out] at RS
    clear ho14 hs14 hb14 RI H13 N13
    go_wp2_with fail
    refine Calls.mono RS.out ?_
    rintro e w15 ⟨v15, u15, rfl, ho15, hk15, hb15⟩
    rw [← HLM.out] at hk15
    obtain ⟨a15, c15, g15, rfl, hr15⟩ := rt_of_owns ho15 rfl
    obtain ⟨ak15, ck15, gk15, rfl, -, -, hs15⟩ := ws_of_owns (L := M) hk15
    have R15 : Hid (RtAt w15 a15 g15 L) := hr15
    have K15 : Hid (WsAt w15 ak15 gk15 0 M) := hs15
    have H15 : Hid (Below W1.heap.size W1 w15) := H14.out.trans (hb15.mono H14.out.size)
    obtain ⟨e0, e1, e2⟩ := CC.out _ H15.out
    have RT : Hid _ := rSeek_any bT b o cT t bk gk ok ck keys w15 (NT.out _ H15.out) (NK.out _ H15.out)
    rw [HLL.out, HEL.out, HEM.out] at RT
    clear ho15 hk15 hr15 hs15 hb15 RS H14
    go_wp2_with fail
    refine Calls.mono RT.out ?_
    rintro e w16 ⟨v16, u16, rfl, ho16, hk16, hb16⟩
    rw [← HLM.out] at hk16
    obtain ⟨a16, c16, g16, rfl, hr16⟩ := rt_of_owns ho16 rfl
    obtain ⟨ak16, ck16, gk16, rfl, -, -, hs16⟩ := ws_of_owns (L := M) hk16
    have R16 : Hid (RtAt w16 a16 g16 L) := hr16
    have R516 : Hid (RtAt w16 a15 g15 L) := R15.out.below hb16
    have K16 : Hid (WsAt w16 ak16 gk16 0 M) := hs16
    have K516 : Hid (WsAt w16 ak15 gk15 0 M) := K15.out.below hb16
    have H16 : Hid (Below W1.heap.size W1 w16) := H15.out.trans (hb16.mono H15.out.size)
    clear ho16 hk16 hr16 hs16 hb16 RT H15 R15 K15 e0 e1 e2
    go_wp2_with fail
    refine (sameInts_any ak15 ak16 gk15 0 ck15 gk16 0 ck16 M M _ K516.out K16.out).mono ?_
    rintro e w17 ⟨rfl, hb17⟩
    rw [isSelf]
    have R17 : Hid (RtAt w17 a16 g16 L) := R16.out.below hb17
    have R517 : Hid (RtAt w17 a15 g15 L) := R516.out.below hb17
    have H17 : Hid (Below W1.heap.size W1 w17) := H16.out.trans (hb17.mono H16.out.size)
    clear hb17 R16 R516 K16 K516 H16
    go_wp2_with fail
    refine (nSameRets_any a15 a16 g15 c15 g16 c16 L _ R517.out R17.out).mono ?_
    rintro e w18 ⟨rfl, hb18⟩
    have H18 : Hid (Below W1.heap.size W1 w18) := H17.out.trans (hb18.mono H17.out.size)
    clear hb18
    go_wp2_with fail
    go_ret
    exact ⟨rfl, (BL.out _ H18.out).1⟩
  · have hc := HKC.out
    have q1 : (keys.length : Int) ≤ 1000 := by omega
    have q2 : min (keys.length : Int) 100 = 100 := by omega
    have q3 : (100 : Int) ≤ (ck : Int) := by omega
    have hlen : (keys.take 100).length = 100 := by rw [List.length_take]; omega
    have NK : Hid (∀ z, Below W1.heap.size W1 z → WsAt z bk gk ok (keys.take 100)) := fun z hz => (NW.out z hz).take 100
    have HNIL : Hid (bk = none → (keys.take 100).length = 0 ∧ ck = 0) := fun q => by have := HKN.out q; omega
    have hKb2 : (keys.take 100).length * 8 ≤ 140737488355328 := by omega
    clear hl
    generalize keys.take 100 = ks at *
    go_wp2_with fail
    obtain ⟨L, M, lL, lM, eL, eM⟩ := sk_fold t ks
    have HLL : Hid ((if skE t ks = 0 then ks.length else 0) = L.length) := lL
    have HLM : Hid (M.length = L.length) := lM
    have HEL : Hid ((if skE t ks = 0 then skC (skA t ks) else []) = skC L) := eL
    have HEM : Hid ((if skE t ks = 0 then isC (skN t ks) else []) = isC M) := eM
    clear lL lM eL eM
    have qS : (skE t ks == skE t ks) = true := by simp
    refine (nCopied_any bT b o cT t _ (NT.out _ H12.out) HTN.out hTb).mono ?_
    rintro e w13 ⟨v13, rfl, ho13, hb13⟩
    obtain ⟨a13, c13, g13, rfl, -, -, hn13⟩ := nodes_of_owns ho13
    have N13 : Hid (NodesAt w13 a13 g13 0 t) := hn13
    have H13 : Hid (Below W1.heap.size W1 w13) := H12.out.trans (hb13.mono H12.out.size)
    have RI : Hid _ := nInts_any bk gk ok ck ks w13 (NK.out _ H13.out) HNIL.out hKb2
    rw [hlen] at RI
    clear ho13 hn13 hb13 e0 e1 e2
    go_wp2_with fail
    refine Calls.mono RI.out ?_
    rintro e w14 ⟨v14, rfl, ho14, hb14⟩
    rw [← hlen] at ho14
    obtain ⟨a14, c14, g14, rfl, -, -, hs14⟩ := ws_of_owns (L := ks) ho14
    have H14 : Hid (Below W1.heap.size W1 w14) := H13.out.trans (hb14.mono H13.out.size)
    have RS : Hid _ := Seek_any a13 g13 0 c13 t a14 g14 0 c14 ks w14 (N13.out.below hb14) hs14
    rw [HLL.out, HEL.out, HEM.out, hlen] at RS
    clear ho14 hs14 hb14 RI H13 N13
    go_wp2_with fail
    refine Calls.mono RS.out ?_
    rintro e w15 ⟨v15, u15, rfl, ho15, hk15, hb15⟩
    rw [← HLM.out] at hk15
    obtain ⟨a15, c15, g15, rfl, hr15⟩ := rt_of_owns ho15 rfl
    obtain ⟨ak15, ck15, gk15, rfl, -, -, hs15⟩ := ws_of_owns (L := M) hk15
    have R15 : Hid (RtAt w15 a15 g15 L) := hr15
    have K15 : Hid (WsAt w15 ak15 gk15 0 M) := hs15
    have H15 : Hid (Below W1.heap.size W1 w15) := H14.out.trans (hb15.mono H14.out.size)
    obtain ⟨e0, e1, e2⟩ := CC.out _ H15.out
    have RT : Hid _ := rSeek_any bT b o cT t bk gk ok ck ks w15 (NT.out _ H15.out) (NK.out _ H15.out)
    rw [HLL.out, HEL.out, HEM.out, hlen] at RT
    clear ho15 hk15 hr15 hs15 hb15 RS H14
    go_wp2_with fail
    refine Calls.mono RT.out ?_
    rintro e w16 ⟨v16, u16, rfl, ho16, hk16, hb16⟩
    rw [← HLM.out] at hk16
    obtain ⟨a16, c16, g16, rfl, hr16⟩ := rt_of_owns ho16 rfl
    obtain ⟨ak16, ck16, gk16, rfl, -, -, hs16⟩ := ws_of_owns (L := M) hk16
    have R16 : Hid (RtAt w16 a16 g16 L) := hr16
    have R516 : Hid (RtAt w16 a15 g15 L) := R15.out.below hb16
    have K16 : Hid (WsAt w16 ak16 gk16 0 M) := hs16
    have K516 : Hid (WsAt w16 ak15 gk15 0 M) := K15.out.below hb16
    have H16 : Hid (Below W1.heap.size W1 w16) := H15.out.trans (hb16.mono H15.out.size)
    clear ho16 hk16 hr16 hs16 hb16 RT H15 R15 K15 e0 e1 e2
    go_wp2_with fail
    refine (sameInts_any ak15 ak16 gk15 0 ck15 gk16 0 ck16 M M _ K516.out K16.out).mono ?_
    rintro e w17 ⟨rfl, hb17⟩
    rw [isSelf]
    have R17 : Hid (RtAt w17 a16 g16 L) := R16.out.below hb17
    have R517 : Hid (RtAt w17 a15 g15 L) := R516.out.below hb17
    have H17 : Hid (Below W1.heap.size W1 w17) := H16.out.trans (hb17.mono H16.out.size)
    clear hb17 R16 R516 K16 K516 H16
    go_wp2_with fail
    refine (nSameRets_any a15 a16 g15 c15 g16 c16 L _ R517.out R17.out).mono ?_
    rintro e w18 ⟨rfl, hb18⟩
    have H18 : Hid (Below W1.heap.size W1 w18) := H17.out.trans (hb18.mono H17.out.size)
    clear hb18
    go_wp2_with fail
    go_ret
    exact ⟨rfl, (BL.out _ H18.out).1⟩
  · have q1 : (1000 : Int) < (keys.length : Int) := by omega
    have NK : Hid (∀ z, Below W1.heap.size W1 z → WsAt z bk gk ok keys) := NW
    have HNIL : Hid (bk = none → keys.length = 0 ∧ ck = 0) := HKN
    have hKb2 := hKb
    clear hl
    go_wp2_with fail
    obtain ⟨L, M, lL, lM, eL, eM⟩ := sk_fold t keys
    have HLL : Hid ((if skE t keys = 0 then keys.length else 0) = L.length) := lL
    have HLM : Hid (M.length = L.length) := lM
    have HEL : Hid ((if skE t keys = 0 then skC (skA t keys) else []) = skC L) := eL
    have HEM : Hid ((if skE t keys = 0 then isC (skN t keys) else []) = isC M) := eM
    clear lL lM eL eM
    have qS : (skE t keys == skE t keys) = true := by simp
    refine (nCopied_any bT b o cT t _ (NT.out _ H12.out) HTN.out hTb).mono ?_
    rintro e w13 ⟨v13, rfl, ho13, hb13⟩
    obtain ⟨a13, c13, g13, rfl, -, -, hn13⟩ := nodes_of_owns ho13
    have N13 : Hid (NodesAt w13 a13 g13 0 t) := hn13
    have H13 : Hid (Below W1.heap.size W1 w13) := H12.out.trans (hb13.mono H12.out.size)
    have RI : Hid _ := nInts_any bk gk ok ck keys w13 (NK.out _ H13.out) HNIL.out hKb2
    clear ho13 hn13 hb13 e0 e1 e2
    go_wp2_with fail
    refine Calls.mono RI.out ?_
    rintro e w14 ⟨v14, rfl, ho14, hb14⟩
    obtain ⟨a14, c14, g14, rfl, -, -, hs14⟩ := ws_of_owns (L := keys) ho14
    have H14 : Hid (Below W1.heap.size W1 w14) := H13.out.trans (hb14.mono H13.out.size)
    have RS : Hid _ := Seek_any a13 g13 0 c13 t a14 g14 0 c14 keys w14 (N13.out.below hb14) hs14
    rw [HLL.out, HEL.out, HEM.out] at RS
    clear ho14 hs14 hb14 RI H13 N13
    go_wp2_with fail
    refine Calls.mono RS.out ?_
    rintro e w15 ⟨v15, u15, rfl, ho15, hk15, hb15⟩
    rw [← HLM.out] at hk15
    obtain ⟨a15, c15, g15, rfl, hr15⟩ := rt_of_owns ho15 rfl
    obtain ⟨ak15, ck15, gk15, rfl, -, -, hs15⟩ := ws_of_owns (L := M) hk15
    have R15 : Hid (RtAt w15 a15 g15 L) := hr15
    have K15 : Hid (WsAt w15 ak15 gk15 0 M) := hs15
    have H15 : Hid (Below W1.heap.size W1 w15) := H14.out.trans (hb15.mono H14.out.size)
    obtain ⟨e0, e1, e2⟩ := CC.out _ H15.out
    have RT : Hid _ := rSeek_any bT b o cT t bk gk ok ck keys w15 (NT.out _ H15.out) (NK.out _ H15.out)
    rw [HLL.out, HEL.out, HEM.out] at RT
    clear ho15 hk15 hr15 hs15 hb15 RS H14
    go_wp2_with fail
    refine Calls.mono RT.out ?_
    rintro e w16 ⟨v16, u16, rfl, ho16, hk16, hb16⟩
    rw [← HLM.out] at hk16
    obtain ⟨a16, c16, g16, rfl, hr16⟩ := rt_of_owns ho16 rfl
    obtain ⟨ak16, ck16, gk16, rfl, -, -, hs16⟩ := ws_of_owns (L := M) hk16
    have R16 : Hid (RtAt w16 a16 g16 L) := hr16
    have R516 : Hid (RtAt w16 a15 g15 L) := R15.out.below hb16
    have K16 : Hid (WsAt w16 ak16 gk16 0 M) := hs16
    have K516 : Hid (WsAt w16 ak15 gk15 0 M) := K15.out.below hb16
    have H16 : Hid (Below W1.heap.size W1 w16) := H15.out.trans (hb16.mono H15.out.size)
    clear ho16 hk16 hr16 hs16 hb16 RT H15 R15 K15 e0 e1 e2
    go_wp2_with fail
    refine (sameInts_any ak15 ak16 gk15 0 ck15 gk16 0 ck16 M M _ K516.out K16.out).mono ?_
    rintro e w17 ⟨rfl, hb17⟩
    rw [isSelf]
    have R17 : Hid (RtAt w17 a16 g16 L) := R16.out.below hb17
    have R517 : Hid (RtAt w17 a15 g15 L) := R516.out.below hb17
    have H17 : Hid (Below W1.heap.size W1 w17) := H16.out.trans (hb17.mono H16.out.size)
    clear hb17 R16 R516 K16 K516 H16
    go_wp2_with fail
    refine (nSameRets_any a15 a16 g15 c15 g16 c16 L _ R517.out R17.out).mono ?_
    rintro e w18 ⟨rfl, hb18⟩
    have H18 : Hid (Below W1.heap.size W1 w18) := H17.out.trans (hb18.mono H17.out.size)
    clear hb18
    go_wp2_with fail
    go_ret
    exact ⟨rfl, (BL.out _ H18.out).1⟩
end Go.Proofs.Ythdfpddijocfkaa


namespace Go.Proofs.Ythdfpddijocfkaa

open Go.RowKit

def dropSeqC : Nat → Code → Code
  | 0, c => c
  | n + 1, .seq _ b => dropSeqC n b
  | _ + 1, c => c
noncomputable def clFrom (n : Nat) : Code := dropSeqC n (Try.f4.body.getD .skip)
set_option maxRecDepth 100000 in
def ClAt6 : Prop := ∀ (w : World) (key inf wt val : Int) (gl fl gr fr gn fn : Nat) (X : World) (u0 u2 u6 u7 u8 u9 u10 u11 u12 u13 u14 u15 u16 u17 u18 u19 u20 u21 u22 u23 u24 u25 u26 u27 u28 u29 u30 u31 u32 u33 u34 u35 u36 u37 u38 u39 u40 u41 u42 u43 u44 u45 u46 u47 u48 u49 u50 u51 u52 u53 u54 u55 u56 u57 u58 u59 u60 u61 u62 u63 u64 u65 u66 u67 u68 u69 u70 u71 u72 u73 u74 u75 u76 u77 u78 u79 u80 u81 u82 u83 u84 u85 u86 u87 u88 u89 u90 u91 u92 u93 u94 u95 u96 u97 u98 u99 u100 u101 u102 u103 u104 u105 u106 u107 u108 u109 u110 u111 u112 u113 u114 u115 u116 u117 u118 u119 u120 u121 u122 u123 u124 u125 u126 u127 u128 u129 u130 u131 u132 u133 u134 u135 u136 u137 u138 u139 u140 u141 u142 u143 u144 u145 u146 u147 u148 u149 u150 u151 u152 u153 u154 u155 u156 u157 u158 u159 u160 u161 u162 u163 u164 u165 u166 u167 u168 u169 u170 u171 u172 u173 u174 u175 u176 u177 u178 u179 u180 u181 u182 u183 u184 u185 u186 u187 u188 u189 u190 u191 u192 u193 u194 u195 u196 u197 u198 u199 u200 u201 u202 u203 u204 u205 u206 u207 u208 u209 u210 u211 u212 u213 u214 u215 u216 u217 u218 u219 u220 u221 u222 u223 u224 u225 u226 u227 u228 u229 u230 u231 u232 u233 u234 u235 u236 u237 u238 u239 u240 u241 u242 u243 u244 u245 u246 u247 u248 u249 u250 u251 u252 u253 u254 u255 u256 u257 u258 u259 u260 u261 u262 u263 u264 u265 u266 u267 u268 u269 u270 u271 u272 u273 u274 u275 u276 u277 u278 u279 u280 u281 u282 u283 u284 u285 u286 u287 u288 u289 u290 u291 u292 u293 u294 u295 u296 u297 u298 u299 u300 u301 u302 u303 u304 u305 u306 u307 u308 u309 u310 u311 u312 u313 u314 u315 u316 u317 u318 u319 u320 u321 u322 u323 u324 u325 u326 u327 u328 u329 u330 u331 u332 u333 u334 u335 u336 u337 u338 u339 u340 u341 u342 u343 u344 u345 u346 u347 u348 u349 u350 u351 u352 u353 u354 u355 u356 u357 u358 u359 u360 u361 u362 u363 u364 u365 u366 u367 u368 u369 u370 u371 u372 : Value) (_hC : CS w key inf wt val X) (_h1 : RcAt X gl fl ⟨key, inf, wt, val, true, []⟩) (_h2 : RcAt X gr fr ⟨1, 0, 2, 3, true, []⟩) (_h3 : RcAt X gn fn ⟨key, inf, wt, 0, false, [some gl, some gr]⟩) (_o1 : w.heap.size < fl) (_o2 : gl < gr) (_o3 : gr < gn) (_p2 : fl < fr) (_p3 : fr < fn), Code.wp Try.prog (clFrom 6) (bodyPost Try.prog Try.f4 fun e w' => e = .returned (.bool true) ∧ Below w.heap.size w w') ⟨#[u0, .pointer (some ⟨w.heap.size, 0, none⟩), u2, .pointer (some ⟨gl, 0, none⟩), .pointer (some ⟨gr, 0, none⟩), .pointer (some ⟨gn, 0, none⟩), u6, u7, u8, u9, u10, u11, u12, u13, u14, u15, u16, u17, u18, u19, u20, u21, u22, u23, u24, u25, u26, u27, u28, u29, u30, u31, u32, u33, u34, u35, u36, u37, u38, u39, u40, u41, u42, u43, u44, u45, u46, u47, u48, u49, u50, u51, u52, u53, u54, u55, u56, u57, u58, u59, u60, u61, u62, u63, u64, u65, u66, u67, u68, u69, u70, u71, u72, u73, u74, u75, u76, u77, u78, u79, u80, u81, u82, u83, u84, u85, u86, u87, u88, u89, u90, u91, u92, u93, u94, u95, u96, u97, u98, u99, u100, u101, u102, u103, u104, u105, u106, u107, u108, u109, u110, u111, u112, u113, u114, u115, u116, u117, u118, u119, u120, u121, u122, u123, u124, u125, u126, u127, u128, u129, u130, u131, u132, u133, u134, u135, u136, u137, u138, u139, u140, u141, u142, u143, u144, u145, u146, u147, u148, u149, u150, u151, u152, u153, u154, u155, u156, u157, u158, u159, u160, u161, u162, u163, u164, u165, u166, u167, u168, u169, u170, u171, u172, u173, u174, u175, u176, u177, u178, u179, u180, u181, u182, u183, u184, u185, u186, u187, u188, u189, u190, u191, u192, u193, u194, u195, u196, u197, u198, u199, u200, u201, u202, u203, u204, u205, u206, u207, u208, u209, u210, u211, u212, u213, u214, u215, u216, u217, u218, u219, u220, u221, u222, u223, u224, u225, u226, u227, u228, u229, u230, u231, u232, u233, u234, u235, u236, u237, u238, u239, u240, u241, u242, u243, u244, u245, u246, u247, u248, u249, u250, u251, u252, u253, u254, u255, u256, u257, u258, u259, u260, u261, u262, u263, u264, u265, u266, u267, u268, u269, u270, u271, u272, u273, u274, u275, u276, u277, u278, u279, u280, u281, u282, u283, u284, u285, u286, u287, u288, u289, u290, u291, u292, u293, u294, u295, u296, u297, u298, u299, u300, u301, u302, u303, u304, u305, u306, u307, u308, u309, u310, u311, u312, u313, u314, u315, u316, u317, u318, u319, u320, u321, u322, u323, u324, u325, u326, u327, u328, u329, u330, u331, u332, u333, u334, u335, u336, u337, u338, u339, u340, u341, u342, u343, u344, u345, u346, u347, u348, u349, u350, u351, u352, u353, u354, u355, u356, u357, u358, u359, u360, u361, u362, u363, u364, u365, u366, u367, u368, u369, u370, u371, u372], []⟩ X
set_option maxRecDepth 100000 in
def ClAt9 : Prop := ∀ (w : World) (key inf wt val : Int) (gl fl gr fr gn fn : Nat) (tb Bt0 : Nat) (X : World) (u0 u2 u7 u8 u9 u10 u11 u12 u13 u14 u15 u16 u17 u18 u19 u20 u21 u22 u23 u24 u25 u26 u27 u28 u29 u30 u31 u32 u33 u34 u35 u36 u37 u38 u39 u40 u41 u42 u43 u44 u45 u46 u47 u48 u49 u50 u51 u52 u53 u54 u55 u56 u57 u58 u59 u60 u61 u62 u63 u64 u65 u66 u67 u68 u69 u70 u71 u72 u73 u74 u75 u76 u77 u78 u79 u80 u81 u82 u83 u84 u85 u86 u87 u88 u89 u90 u91 u92 u93 u94 u95 u96 u97 u98 u99 u100 u101 u102 u103 u104 u105 u106 u107 u108 u109 u110 u111 u112 u113 u114 u115 u116 u117 u118 u119 u120 u121 u122 u123 u124 u125 u126 u127 u128 u129 u130 u131 u132 u133 u134 u135 u136 u137 u138 u139 u140 u141 u142 u143 u144 u145 u146 u147 u148 u149 u150 u151 u152 u153 u154 u155 u156 u157 u158 u159 u160 u161 u162 u163 u164 u165 u166 u167 u168 u169 u170 u171 u172 u173 u174 u175 u176 u177 u178 u179 u180 u181 u182 u183 u184 u185 u186 u187 u188 u189 u190 u191 u192 u193 u194 u195 u196 u197 u198 u199 u200 u201 u202 u203 u204 u205 u206 u207 u208 u209 u210 u211 u212 u213 u214 u215 u216 u217 u218 u219 u220 u221 u222 u223 u224 u225 u226 u227 u228 u229 u230 u231 u232 u233 u234 u235 u236 u237 u238 u239 u240 u241 u242 u243 u244 u245 u246 u247 u248 u249 u250 u251 u252 u253 u254 u255 u256 u257 u258 u259 u260 u261 u262 u263 u264 u265 u266 u267 u268 u269 u270 u271 u272 u273 u274 u275 u276 u277 u278 u279 u280 u281 u282 u283 u284 u285 u286 u287 u288 u289 u290 u291 u292 u293 u294 u295 u296 u297 u298 u299 u300 u301 u302 u303 u304 u305 u306 u307 u308 u309 u310 u311 u312 u313 u314 u315 u316 u317 u318 u319 u320 u321 u322 u323 u324 u325 u326 u327 u328 u329 u330 u331 u332 u333 u334 u335 u336 u337 u338 u339 u340 u341 u342 u343 u344 u345 u346 u347 u348 u349 u350 u351 u352 u353 u354 u355 u356 u357 u358 u359 u360 u361 u362 u363 u364 u365 u366 u367 u368 u369 u370 u371 u372 : Value) (_hS : NS w key inf wt val tb Bt0 [1, 1] [(gl, fl, ⟨key, inf, wt, val, true, []⟩), (gr, fr, ⟨1, 0, 2, 3, true, []⟩), (gn, fn, ⟨key, inf, wt, 0, false, [some gl, some gr]⟩)] X) (_o1 : w.heap.size < fl) (_o2 : gl < gr) (_o3 : gr < gn) (_p2 : fl < fr) (_p3 : fr < fn), Code.wp Try.prog (clFrom 9) (bodyPost Try.prog Try.f4 fun e w' => e = .returned (.bool true) ∧ Below w.heap.size w w') ⟨#[u0, .pointer (some ⟨w.heap.size, 0, none⟩), u2, .pointer (some ⟨gl, 0, none⟩), .pointer (some ⟨gr, 0, none⟩), .pointer (some ⟨gn, 0, none⟩), .pointer (some ⟨tb, 0, none⟩), u7, u8, u9, u10, u11, u12, u13, u14, u15, u16, u17, u18, u19, u20, u21, u22, u23, u24, u25, u26, u27, u28, u29, u30, u31, u32, u33, u34, u35, u36, u37, u38, u39, u40, u41, u42, u43, u44, u45, u46, u47, u48, u49, u50, u51, u52, u53, u54, u55, u56, u57, u58, u59, u60, u61, u62, u63, u64, u65, u66, u67, u68, u69, u70, u71, u72, u73, u74, u75, u76, u77, u78, u79, u80, u81, u82, u83, u84, u85, u86, u87, u88, u89, u90, u91, u92, u93, u94, u95, u96, u97, u98, u99, u100, u101, u102, u103, u104, u105, u106, u107, u108, u109, u110, u111, u112, u113, u114, u115, u116, u117, u118, u119, u120, u121, u122, u123, u124, u125, u126, u127, u128, u129, u130, u131, u132, u133, u134, u135, u136, u137, u138, u139, u140, u141, u142, u143, u144, u145, u146, u147, u148, u149, u150, u151, u152, u153, u154, u155, u156, u157, u158, u159, u160, u161, u162, u163, u164, u165, u166, u167, u168, u169, u170, u171, u172, u173, u174, u175, u176, u177, u178, u179, u180, u181, u182, u183, u184, u185, u186, u187, u188, u189, u190, u191, u192, u193, u194, u195, u196, u197, u198, u199, u200, u201, u202, u203, u204, u205, u206, u207, u208, u209, u210, u211, u212, u213, u214, u215, u216, u217, u218, u219, u220, u221, u222, u223, u224, u225, u226, u227, u228, u229, u230, u231, u232, u233, u234, u235, u236, u237, u238, u239, u240, u241, u242, u243, u244, u245, u246, u247, u248, u249, u250, u251, u252, u253, u254, u255, u256, u257, u258, u259, u260, u261, u262, u263, u264, u265, u266, u267, u268, u269, u270, u271, u272, u273, u274, u275, u276, u277, u278, u279, u280, u281, u282, u283, u284, u285, u286, u287, u288, u289, u290, u291, u292, u293, u294, u295, u296, u297, u298, u299, u300, u301, u302, u303, u304, u305, u306, u307, u308, u309, u310, u311, u312, u313, u314, u315, u316, u317, u318, u319, u320, u321, u322, u323, u324, u325, u326, u327, u328, u329, u330, u331, u332, u333, u334, u335, u336, u337, u338, u339, u340, u341, u342, u343, u344, u345, u346, u347, u348, u349, u350, u351, u352, u353, u354, u355, u356, u357, u358, u359, u360, u361, u362, u363, u364, u365, u366, u367, u368, u369, u370, u371, u372], []⟩ X
set_option maxRecDepth 100000 in
def ClAt17 : Prop := ∀ (w : World) (key inf wt val : Int) (gl fl gr fr gn fn : Nat) (tb Bt0 : Nat) (gel fel ger fer ge fe : Nat) (X : World) (u0 u2 u8 u9 u10 u11 u12 u13 u14 u15 u16 u17 u18 u19 u20 u21 u22 u23 u24 u25 u26 u27 u28 u29 u30 u31 u32 u33 u34 u35 u36 u37 u38 u39 u40 u41 u42 u43 u44 u45 u46 u47 u48 u49 u50 u51 u52 u53 u54 u55 u56 u57 u58 u59 u60 u61 u62 u63 u64 u65 u66 u67 u68 u69 u70 u71 u72 u73 u74 u75 u76 u77 u78 u79 u80 u81 u82 u83 u84 u85 u86 u87 u88 u89 u90 u91 u92 u93 u94 u95 u96 u97 u98 u99 u100 u101 u102 u103 u104 u105 u106 u107 u108 u109 u110 u111 u112 u113 u114 u115 u116 u117 u118 u119 u120 u121 u122 u123 u124 u125 u126 u127 u128 u129 u130 u131 u132 u133 u134 u135 u136 u137 u138 u139 u140 u141 u142 u143 u144 u145 u146 u147 u148 u149 u150 u151 u152 u153 u154 u155 u156 u157 u158 u159 u160 u161 u162 u163 u164 u165 u166 u167 u168 u169 u170 u171 u172 u173 u174 u175 u176 u177 u178 u179 u180 u181 u182 u183 u184 u185 u186 u187 u188 u189 u190 u191 u192 u193 u194 u195 u196 u197 u198 u199 u200 u201 u202 u203 u204 u205 u206 u207 u208 u209 u210 u211 u212 u213 u214 u215 u216 u217 u218 u219 u220 u221 u222 u223 u224 u225 u226 u227 u228 u229 u230 u231 u232 u233 u234 u235 u236 u237 u238 u239 u240 u241 u242 u243 u244 u245 u246 u247 u248 u249 u250 u251 u252 u253 u254 u255 u256 u257 u258 u259 u260 u261 u262 u263 u264 u265 u266 u267 u268 u269 u270 u271 u272 u273 u274 u275 u276 u277 u278 u279 u280 u281 u282 u283 u284 u285 u286 u287 u288 u289 u290 u291 u292 u293 u294 u295 u296 u297 u298 u299 u300 u301 u302 u303 u304 u305 u306 u307 u308 u309 u310 u311 u312 u313 u314 u315 u316 u317 u318 u319 u320 u321 u322 u323 u324 u325 u326 u327 u328 u329 u330 u331 u332 u333 u334 u335 u336 u337 u338 u339 u340 u341 u342 u343 u344 u345 u346 u347 u348 u349 u350 u351 u352 u353 u354 u355 u356 u357 u358 u359 u360 u361 u362 u363 u364 u365 u366 u367 u368 u369 u370 u371 u372 : Value) (_hS : NS w key inf wt val tb Bt0 [1, 1] [(gl, fl, ⟨key, inf, wt, val, true, []⟩), (gr, fr, ⟨1, 0, 2, 3, true, []⟩), (gn, fn, ⟨key, inf, wt, 0, false, [some gl, some gr]⟩), (ge, fe, ⟨0, 1, 1, 0, false, [some gel, some ger]⟩), (gel, fel, ⟨0, 1, 1, 0, true, []⟩), (ger, fer, ⟨0, 1, 1, 0, true, []⟩)] X) (_o1 : w.heap.size < fl) (_o2 : gl < gr) (_o3 : gr < gn) (_p2 : fl < fr) (_p3 : fr < fn) (_o4 : gn < gel) (_o5 : gel < ger) (_o6 : ger < ge) (_p4 : fn < fel) (_p5 : fel < fer) (_p6 : fer < fe), Code.wp Try.prog (clFrom 17) (bodyPost Try.prog Try.f4 fun e w' => e = .returned (.bool true) ∧ Below w.heap.size w w') ⟨#[u0, .pointer (some ⟨w.heap.size, 0, none⟩), u2, .pointer (some ⟨gl, 0, none⟩), .pointer (some ⟨gr, 0, none⟩), .pointer (some ⟨gn, 0, none⟩), .pointer (some ⟨tb, 0, none⟩), .pointer (some ⟨ge, 0, none⟩), u8, u9, u10, u11, u12, u13, u14, u15, u16, u17, u18, u19, u20, u21, u22, u23, u24, u25, u26, u27, u28, u29, u30, u31, u32, u33, u34, u35, u36, u37, u38, u39, u40, u41, u42, u43, u44, u45, u46, u47, u48, u49, u50, u51, u52, u53, u54, u55, u56, u57, u58, u59, u60, u61, u62, u63, u64, u65, u66, u67, u68, u69, u70, u71, u72, u73, u74, u75, u76, u77, u78, u79, u80, u81, u82, u83, u84, u85, u86, u87, u88, u89, u90, u91, u92, u93, u94, u95, u96, u97, u98, u99, u100, u101, u102, u103, u104, u105, u106, u107, u108, u109, u110, u111, u112, u113, u114, u115, u116, u117, u118, u119, u120, u121, u122, u123, u124, u125, u126, u127, u128, u129, u130, u131, u132, u133, u134, u135, u136, u137, u138, u139, u140, u141, u142, u143, u144, u145, u146, u147, u148, u149, u150, u151, u152, u153, u154, u155, u156, u157, u158, u159, u160, u161, u162, u163, u164, u165, u166, u167, u168, u169, u170, u171, u172, u173, u174, u175, u176, u177, u178, u179, u180, u181, u182, u183, u184, u185, u186, u187, u188, u189, u190, u191, u192, u193, u194, u195, u196, u197, u198, u199, u200, u201, u202, u203, u204, u205, u206, u207, u208, u209, u210, u211, u212, u213, u214, u215, u216, u217, u218, u219, u220, u221, u222, u223, u224, u225, u226, u227, u228, u229, u230, u231, u232, u233, u234, u235, u236, u237, u238, u239, u240, u241, u242, u243, u244, u245, u246, u247, u248, u249, u250, u251, u252, u253, u254, u255, u256, u257, u258, u259, u260, u261, u262, u263, u264, u265, u266, u267, u268, u269, u270, u271, u272, u273, u274, u275, u276, u277, u278, u279, u280, u281, u282, u283, u284, u285, u286, u287, u288, u289, u290, u291, u292, u293, u294, u295, u296, u297, u298, u299, u300, u301, u302, u303, u304, u305, u306, u307, u308, u309, u310, u311, u312, u313, u314, u315, u316, u317, u318, u319, u320, u321, u322, u323, u324, u325, u326, u327, u328, u329, u330, u331, u332, u333, u334, u335, u336, u337, u338, u339, u340, u341, u342, u343, u344, u345, u346, u347, u348, u349, u350, u351, u352, u353, u354, u355, u356, u357, u358, u359, u360, u361, u362, u363, u364, u365, u366, u367, u368, u369, u370, u371, u372], []⟩ X
set_option maxRecDepth 100000 in
def ClAt22 : Prop := ∀ (w : World) (key inf wt val : Int) (tb Bt0 : Nat) (ge fe ger fer gc fc g5 f5 g0 f0 : Nat) (X : World) (u0 u2 u3 u4 u5 u8 u9 u10 u11 u12 u14 u15 u16 u17 u18 u19 u20 u21 u22 u23 u24 u25 u26 u27 u28 u29 u30 u31 u32 u33 u34 u35 u36 u37 u38 u39 u40 u41 u42 u43 u44 u45 u46 u47 u48 u49 u50 u51 u52 u53 u54 u55 u56 u57 u58 u59 u60 u61 u62 u63 u64 u65 u66 u67 u68 u69 u70 u71 u72 u73 u74 u75 u76 u77 u78 u79 u80 u81 u82 u83 u84 u85 u86 u87 u88 u89 u90 u91 u92 u93 u94 u95 u96 u97 u98 u99 u100 u101 u102 u103 u104 u105 u106 u107 u108 u109 u110 u111 u112 u113 u114 u115 u116 u117 u118 u119 u120 u121 u122 u123 u124 u125 u126 u127 u128 u129 u130 u131 u132 u133 u134 u135 u136 u137 u138 u139 u140 u141 u142 u143 u144 u145 u146 u147 u148 u149 u150 u151 u152 u153 u154 u155 u156 u157 u158 u159 u160 u161 u162 u163 u164 u165 u166 u167 u168 u169 u170 u171 u172 u173 u174 u175 u176 u177 u178 u179 u180 u181 u182 u183 u184 u185 u186 u187 u188 u189 u190 u191 u192 u193 u194 u195 u196 u197 u198 u199 u200 u201 u202 u203 u204 u205 u206 u207 u208 u209 u210 u211 u212 u213 u214 u215 u216 u217 u218 u219 u220 u221 u222 u223 u224 u225 u226 u227 u228 u229 u230 u231 u232 u233 u234 u235 u236 u237 u238 u239 u240 u241 u242 u243 u244 u245 u246 u247 u248 u249 u250 u251 u252 u253 u254 u255 u256 u257 u258 u259 u260 u261 u262 u263 u264 u265 u266 u267 u268 u269 u270 u271 u272 u273 u274 u275 u276 u277 u278 u279 u280 u281 u282 u283 u284 u285 u286 u287 u288 u289 u290 u291 u292 u293 u294 u295 u296 u297 u298 u299 u300 u301 u302 u303 u304 u305 u306 u307 u308 u309 u310 u311 u312 u313 u314 u315 u316 u317 u318 u319 u320 u321 u322 u323 u324 u325 u326 u327 u328 u329 u330 u331 u332 u333 u334 u335 u336 u337 u338 u339 u340 u341 u342 u343 u344 u345 u346 u347 u348 u349 u350 u351 u352 u353 u354 u355 u356 u357 u358 u359 u360 u361 u362 u363 u364 u365 u366 u367 u368 u369 u370 u371 u372 : Value) (_hS : NS w key inf wt val tb Bt0 [1, 1] [(ge, fe, ⟨0, 1, 1, 0, false, [some gc, some ger]⟩), (ger, fer, ⟨0, 1, 1, 0, true, []⟩), (gc, fc, ⟨0, 1, 1, 0, false, [some g5, some g0]⟩), (g5, f5, ⟨5, 0, 1, val, true, []⟩), (g0, f0, ⟨0, 1, 1, 0, true, []⟩)] X) (_o1 : w.heap.size < fe) (_o2 : ger < ge) (_o3 : ge < g5) (_o4 : g5 < g0) (_o5 : g0 < gc) (_p2 : fer < fe) (_p3 : fe < f5) (_p4 : f5 < f0) (_p5 : f0 < fc), Code.wp Try.prog (clFrom 22) (bodyPost Try.prog Try.f4 fun e w' => e = .returned (.bool true) ∧ Below w.heap.size w w') ⟨#[u0, .pointer (some ⟨w.heap.size, 0, none⟩), u2, u3, u4, u5, .pointer (some ⟨tb, 0, none⟩), .pointer (some ⟨ge, 0, none⟩), u8, u9, u10, u11, u12, .pointer (some ⟨gc, 0, none⟩), u14, u15, u16, u17, u18, u19, u20, u21, u22, u23, u24, u25, u26, u27, u28, u29, u30, u31, u32, u33, u34, u35, u36, u37, u38, u39, u40, u41, u42, u43, u44, u45, u46, u47, u48, u49, u50, u51, u52, u53, u54, u55, u56, u57, u58, u59, u60, u61, u62, u63, u64, u65, u66, u67, u68, u69, u70, u71, u72, u73, u74, u75, u76, u77, u78, u79, u80, u81, u82, u83, u84, u85, u86, u87, u88, u89, u90, u91, u92, u93, u94, u95, u96, u97, u98, u99, u100, u101, u102, u103, u104, u105, u106, u107, u108, u109, u110, u111, u112, u113, u114, u115, u116, u117, u118, u119, u120, u121, u122, u123, u124, u125, u126, u127, u128, u129, u130, u131, u132, u133, u134, u135, u136, u137, u138, u139, u140, u141, u142, u143, u144, u145, u146, u147, u148, u149, u150, u151, u152, u153, u154, u155, u156, u157, u158, u159, u160, u161, u162, u163, u164, u165, u166, u167, u168, u169, u170, u171, u172, u173, u174, u175, u176, u177, u178, u179, u180, u181, u182, u183, u184, u185, u186, u187, u188, u189, u190, u191, u192, u193, u194, u195, u196, u197, u198, u199, u200, u201, u202, u203, u204, u205, u206, u207, u208, u209, u210, u211, u212, u213, u214, u215, u216, u217, u218, u219, u220, u221, u222, u223, u224, u225, u226, u227, u228, u229, u230, u231, u232, u233, u234, u235, u236, u237, u238, u239, u240, u241, u242, u243, u244, u245, u246, u247, u248, u249, u250, u251, u252, u253, u254, u255, u256, u257, u258, u259, u260, u261, u262, u263, u264, u265, u266, u267, u268, u269, u270, u271, u272, u273, u274, u275, u276, u277, u278, u279, u280, u281, u282, u283, u284, u285, u286, u287, u288, u289, u290, u291, u292, u293, u294, u295, u296, u297, u298, u299, u300, u301, u302, u303, u304, u305, u306, u307, u308, u309, u310, u311, u312, u313, u314, u315, u316, u317, u318, u319, u320, u321, u322, u323, u324, u325, u326, u327, u328, u329, u330, u331, u332, u333, u334, u335, u336, u337, u338, u339, u340, u341, u342, u343, u344, u345, u346, u347, u348, u349, u350, u351, u352, u353, u354, u355, u356, u357, u358, u359, u360, u361, u362, u363, u364, u365, u366, u367, u368, u369, u370, u371, u372], []⟩ X
set_option maxRecDepth 100000 in
def ClAt30 : Prop := ∀ (w : World) (key inf wt val : Int) (g6 f6 : Nat) (X : World) (u0 u1 u2 u3 u4 u5 u6 u7 u8 u9 u10 u11 u12 u13 u14 u15 u16 u17 u18 u20 u21 u22 u23 u24 u25 u26 u27 u28 u29 u30 u31 u32 u33 u34 u35 u36 u37 u38 u39 u40 u41 u42 u43 u44 u45 u46 u47 u48 u49 u50 u51 u52 u53 u54 u55 u56 u57 u58 u59 u60 u61 u62 u63 u64 u65 u66 u67 u68 u69 u70 u71 u72 u73 u74 u75 u76 u77 u78 u79 u80 u81 u82 u83 u84 u85 u86 u87 u88 u89 u90 u91 u92 u93 u94 u95 u96 u97 u98 u99 u100 u101 u102 u103 u104 u105 u106 u107 u108 u109 u110 u111 u112 u113 u114 u115 u116 u117 u118 u119 u120 u121 u122 u123 u124 u125 u126 u127 u128 u129 u130 u131 u132 u133 u134 u135 u136 u137 u138 u139 u140 u141 u142 u143 u144 u145 u146 u147 u148 u149 u150 u151 u152 u153 u154 u155 u156 u157 u158 u159 u160 u161 u162 u163 u164 u165 u166 u167 u168 u169 u170 u171 u172 u173 u174 u175 u176 u177 u178 u179 u180 u181 u182 u183 u184 u185 u186 u187 u188 u189 u190 u191 u192 u193 u194 u195 u196 u197 u198 u199 u200 u201 u202 u203 u204 u205 u206 u207 u208 u209 u210 u211 u212 u213 u214 u215 u216 u217 u218 u219 u220 u221 u222 u223 u224 u225 u226 u227 u228 u229 u230 u231 u232 u233 u234 u235 u236 u237 u238 u239 u240 u241 u242 u243 u244 u245 u246 u247 u248 u249 u250 u251 u252 u253 u254 u255 u256 u257 u258 u259 u260 u261 u262 u263 u264 u265 u266 u267 u268 u269 u270 u271 u272 u273 u274 u275 u276 u277 u278 u279 u280 u281 u282 u283 u284 u285 u286 u287 u288 u289 u290 u291 u292 u293 u294 u295 u296 u297 u298 u299 u300 u301 u302 u303 u304 u305 u306 u307 u308 u309 u310 u311 u312 u313 u314 u315 u316 u317 u318 u319 u320 u321 u322 u323 u324 u325 u326 u327 u328 u329 u330 u331 u332 u333 u334 u335 u336 u337 u338 u339 u340 u341 u342 u343 u344 u345 u346 u347 u348 u349 u350 u351 u352 u353 u354 u355 u356 u357 u358 u359 u360 u361 u362 u363 u364 u365 u366 u367 u368 u369 u370 u371 u372 : Value) (_hC : CS w key inf wt val X) (_h6 : RcAt X g6 f6 ⟨6, 0, 1, 60, true, []⟩), Code.wp Try.prog (clFrom 30) (bodyPost Try.prog Try.f4 fun e w' => e = .returned (.bool true) ∧ Below w.heap.size w w') ⟨#[u0, u1, u2, u3, u4, u5, u6, u7, u8, u9, u10, u11, u12, u13, u14, u15, u16, u17, u18, .pointer (some ⟨g6, 0, none⟩), u20, u21, u22, u23, u24, u25, u26, u27, u28, u29, u30, u31, u32, u33, u34, u35, u36, u37, u38, u39, u40, u41, u42, u43, u44, u45, u46, u47, u48, u49, u50, u51, u52, u53, u54, u55, u56, u57, u58, u59, u60, u61, u62, u63, u64, u65, u66, u67, u68, u69, u70, u71, u72, u73, u74, u75, u76, u77, u78, u79, u80, u81, u82, u83, u84, u85, u86, u87, u88, u89, u90, u91, u92, u93, u94, u95, u96, u97, u98, u99, u100, u101, u102, u103, u104, u105, u106, u107, u108, u109, u110, u111, u112, u113, u114, u115, u116, u117, u118, u119, u120, u121, u122, u123, u124, u125, u126, u127, u128, u129, u130, u131, u132, u133, u134, u135, u136, u137, u138, u139, u140, u141, u142, u143, u144, u145, u146, u147, u148, u149, u150, u151, u152, u153, u154, u155, u156, u157, u158, u159, u160, u161, u162, u163, u164, u165, u166, u167, u168, u169, u170, u171, u172, u173, u174, u175, u176, u177, u178, u179, u180, u181, u182, u183, u184, u185, u186, u187, u188, u189, u190, u191, u192, u193, u194, u195, u196, u197, u198, u199, u200, u201, u202, u203, u204, u205, u206, u207, u208, u209, u210, u211, u212, u213, u214, u215, u216, u217, u218, u219, u220, u221, u222, u223, u224, u225, u226, u227, u228, u229, u230, u231, u232, u233, u234, u235, u236, u237, u238, u239, u240, u241, u242, u243, u244, u245, u246, u247, u248, u249, u250, u251, u252, u253, u254, u255, u256, u257, u258, u259, u260, u261, u262, u263, u264, u265, u266, u267, u268, u269, u270, u271, u272, u273, u274, u275, u276, u277, u278, u279, u280, u281, u282, u283, u284, u285, u286, u287, u288, u289, u290, u291, u292, u293, u294, u295, u296, u297, u298, u299, u300, u301, u302, u303, u304, u305, u306, u307, u308, u309, u310, u311, u312, u313, u314, u315, u316, u317, u318, u319, u320, u321, u322, u323, u324, u325, u326, u327, u328, u329, u330, u331, u332, u333, u334, u335, u336, u337, u338, u339, u340, u341, u342, u343, u344, u345, u346, u347, u348, u349, u350, u351, u352, u353, u354, u355, u356, u357, u358, u359, u360, u361, u362, u363, u364, u365, u366, u367, u368, u369, u370, u371, u372], []⟩ X
end Go.Proofs.Ythdfpddijocfkaa




namespace Go.Proofs.Ythdfpddijocfkaa

open Go.RowKit

attribute [local go_sem ↓] Go.wp_at_zero Go.wp_at_succ

set_option maxRecDepth 100000 in
set_option maxHeartbeats 4000000 in
theorem clat6 (next : ClAt9) : ClAt6 := by
  unfold ClAt6
  intro w key inf wt val gl fl gr fr gn fn X u0 u2 u6 u7 u8 u9 u10 u11 u12 u13 u14 u15 u16 u17 u18 u19 u20 u21 u22 u23 u24 u25 u26 u27 u28 u29 u30 u31 u32 u33 u34 u35 u36 u37 u38 u39 u40 u41 u42 u43 u44 u45 u46 u47 u48 u49 u50 u51 u52 u53 u54 u55 u56 u57 u58 u59 u60 u61 u62 u63 u64 u65 u66 u67 u68 u69 u70 u71 u72 u73 u74 u75 u76 u77 u78 u79 u80 u81 u82 u83 u84 u85 u86 u87 u88 u89 u90 u91 u92 u93 u94 u95 u96 u97 u98 u99 u100 u101 u102 u103 u104 u105 u106 u107 u108 u109 u110 u111 u112 u113 u114 u115 u116 u117 u118 u119 u120 u121 u122 u123 u124 u125 u126 u127 u128 u129 u130 u131 u132 u133 u134 u135 u136 u137 u138 u139 u140 u141 u142 u143 u144 u145 u146 u147 u148 u149 u150 u151 u152 u153 u154 u155 u156 u157 u158 u159 u160 u161 u162 u163 u164 u165 u166 u167 u168 u169 u170 u171 u172 u173 u174 u175 u176 u177 u178 u179 u180 u181 u182 u183 u184 u185 u186 u187 u188 u189 u190 u191 u192 u193 u194 u195 u196 u197 u198 u199 u200 u201 u202 u203 u204 u205 u206 u207 u208 u209 u210 u211 u212 u213 u214 u215 u216 u217 u218 u219 u220 u221 u222 u223 u224 u225 u226 u227 u228 u229 u230 u231 u232 u233 u234 u235 u236 u237 u238 u239 u240 u241 u242 u243 u244 u245 u246 u247 u248 u249 u250 u251 u252 u253 u254 u255 u256 u257 u258 u259 u260 u261 u262 u263 u264 u265 u266 u267 u268 u269 u270 u271 u272 u273 u274 u275 u276 u277 u278 u279 u280 u281 u282 u283 u284 u285 u286 u287 u288 u289 u290 u291 u292 u293 u294 u295 u296 u297 u298 u299 u300 u301 u302 u303 u304 u305 u306 u307 u308 u309 u310 u311 u312 u313 u314 u315 u316 u317 u318 u319 u320 u321 u322 u323 u324 u325 u326 u327 u328 u329 u330 u331 u332 u333 u334 u335 u336 u337 u338 u339 u340 u341 u342 u343 u344 u345 u346 u347 u348 u349 u350 u351 u352 u353 u354 u355 u356 u357 u358 u359 u360 u361 u362 u363 u364 u365 u366 u367 u368 u369 u370 u371 u372 hC h1 h2 h3 o1 o2 o3 p2 p3
  have C0 : Hid (CS w key inf wt val X) := hC
  have L0 : Hid (RcAt X gl fl ⟨key, inf, wt, val, true, []⟩) := h1
  have R0 : Hid (RcAt X gr fr ⟨1, 0, 2, 3, true, []⟩) := h2
  have N0 : Hid (RcAt X gn fn ⟨key, inf, wt, 0, false, [some gl, some gr]⟩) := h3
  have gt : Hid _ := gateS_nilT X.heap.size (X.heap.size + 1) 100000 (Nat.le_refl _)
  have HO : Hid (w.heap.size < fl ∧ gl < gr ∧ gr < gn ∧ fl < fr ∧ fr < fn) := ⟨o1, o2, o3, p2, p3⟩
  clear hC h1 h2 h3 o1 o2 o3 p2 p3
  conv => arg 2; whnf
  go_wp2_with fail
  refine (newTape_any _).mono ?_
  rintro e x1 ⟨rfl, hx1⟩
  obtain ⟨ht1, ht2⟩ := tape_new X
  rw [← hx1] at ht1 ht2
  have b1 : Below X.heap.size X x1 := by rw [hx1]; exact below_alloc _ _
  have S1 : Hid (NS w key inf wt val X.heap.size (X.heap.size + 1) [] [(gl, fl, ⟨key, inf, wt, val, true, []⟩), (gr, fr, ⟨1, 0, 2, 3, true, []⟩), (gn, fn, ⟨key, inf, wt, 0, false, [some gl, some gr]⟩)] x1) := ⟨C0.out.below b1, ht1, ht2, fun x hx => by
    simp only [List.mem_cons, List.not_mem_nil, or_false] at hx
    rcases hx with rfl | rfl | rfl
    · exact L0.out.below b1
    · exact R0.out.below b1
    · exact N0.out.below b1, C0.out.lt⟩
  clear hx1 ht1 ht2 b1 C0 L0 R0 N0
  generalize X.heap.size = tb at *
  have N1 : Hid (RcAt x1 gn fn ⟨key, inf, wt, 0, false, [some gl, some gr]⟩) := S1.out.rc (gn, fn, ⟨key, inf, wt, 0, false, [some gl, some gr]⟩) (by simp)
  have L1 : Hid (RcAt x1 gl fl ⟨key, inf, wt, val, true, []⟩) := S1.out.rc (gl, fl, ⟨key, inf, wt, val, true, []⟩) (by simp)
  have GL : Hid (Calls Try.prog 23 #[.iface 64 (.pointer (some ⟨tb, 0, none⟩)), .pointer (some ⟨gn, 0, none⟩)] x1 fun e w' => e = .returned (.pointer (some ⟨gl, 0, none⟩)) ∧ NilTape tb (tb + 1) [1] w' ∧ Pd (TOne tb) x1 w') := Left_any gt.out [] (by simp) gn fn ⟨key, inf, wt, 0, false, [some gl, some gr]⟩ x1 S1.out.nt N1.out (fun _ => rfl) (by simp) (S1.out.bx.not N1.out.typ.2 (by decide)) (fun _ y hp => (L1.out.pd hp (S1.out.bx.not L1.out.typ.1 (by decide)) (S1.out.bx.not L1.out.typ.2 (by decide))).ok)
  go_wp2_with fail
  refine Calls.mono GL.out ?_
  rintro e x2 ⟨rfl, hg2, hp2⟩
  have S2 : Hid (NS w key inf wt val tb (tb + 1) [1] [(gl, fl, ⟨key, inf, wt, val, true, []⟩), (gr, fr, ⟨1, 0, 2, 3, true, []⟩), (gn, fn, ⟨key, inf, wt, 0, false, [some gl, some gr]⟩)] x2) := S1.out.pass hp2 hg2
  have hq2 := neqS (S2.out.rc (gl, fl, ⟨key, inf, wt, val, true, []⟩) (by simp)).ok (S2.out.rc (gl, fl, ⟨key, inf, wt, val, true, []⟩) (by simp)).ok false (by simp)
  have N2 : Hid (RcAt x2 gn fn ⟨key, inf, wt, 0, false, [some gl, some gr]⟩) := S2.out.rc (gn, fn, ⟨key, inf, wt, 0, false, [some gl, some gr]⟩) (by simp)
  have R2 : Hid (RcAt x2 gr fr ⟨1, 0, 2, 3, true, []⟩) := S2.out.rc (gr, fr, ⟨1, 0, 2, 3, true, []⟩) (by simp)
  have GR : Hid (Calls Try.prog 24 #[.iface 64 (.pointer (some ⟨tb, 0, none⟩)), .pointer (some ⟨gn, 0, none⟩)] x2 fun e w' => e = .returned (.pointer (some ⟨gr, 0, none⟩)) ∧ NilTape tb (tb + 1) [1, 1] w' ∧ Pd (TOne tb) x2 w') := Right_any gt.out [1] (by simp) gn fn ⟨key, inf, wt, 0, false, [some gl, some gr]⟩ x2 S2.out.nt N2.out (fun _ => rfl) (by simp) (S2.out.bx.not N2.out.typ.2 (by decide)) (fun _ y hp => (R2.out.pd hp (S2.out.bx.not R2.out.typ.1 (by decide)) (S2.out.bx.not R2.out.typ.2 (by decide))).ok)
  clear GL hg2 hp2 S1 N1 L1
  go_wp2_with fail
  refine Calls.mono GR.out ?_
  rintro e x3 ⟨rfl, hg3, hp3⟩
  have S3 : Hid (NS w key inf wt val tb (tb + 1) [1, 1] [(gl, fl, ⟨key, inf, wt, val, true, []⟩), (gr, fr, ⟨1, 0, 2, 3, true, []⟩), (gn, fn, ⟨key, inf, wt, 0, false, [some gl, some gr]⟩)] x3) := S2.out.pass hp3 hg3
  have hq3 := neqS (S3.out.rc (gr, fr, ⟨1, 0, 2, 3, true, []⟩) (by simp)).ok (S3.out.rc (gr, fr, ⟨1, 0, 2, 3, true, []⟩) (by simp)).ok false (by simp)
  have L3 : Hid (RcAt x3 gl fl ⟨key, inf, wt, val, true, []⟩) := S3.out.rc (gl, fl, ⟨key, inf, wt, val, true, []⟩) (by simp)
  have GM : Hid (Calls Try.prog 23 #[.iface 64 (.pointer (some ⟨tb, 0, none⟩)), .pointer (some ⟨gl, 0, none⟩)] x3 fun e w' => e = .returned (.pointer none) ∧ NilTape tb (tb + 1) [1, 1] w' ∧ Pd (TOne tb) x3 w') := Left_any gt.out [1, 1] (by simp) gl fl ⟨key, inf, wt, val, true, []⟩ x3 S3.out.nt L3.out (fun q => by cases q) (by simp) (S3.out.bx.not L3.out.typ.2 (by decide)) (fun q => by cases q)
  clear GR hg3 hp3 S2 N2 R2 hq2
  go_wp2_with fail
  refine Calls.mono GM.out ?_
  rintro e x4 ⟨rfl, hg4, hp4⟩
  have S4 : Hid (NS w key inf wt val tb (tb + 1) [1, 1] [(gl, fl, ⟨key, inf, wt, val, true, []⟩), (gr, fr, ⟨1, 0, 2, 3, true, []⟩), (gn, fn, ⟨key, inf, wt, 0, false, [some gl, some gr]⟩)] x4) := S3.out.pass hp4 hg4
  have hq4 := neqN x4
  have GZ : Hid (Calls Try.prog 24 #[.nilIface, .pointer (some ⟨gr, 0, none⟩)] x4 fun e w' => e = .returned (.pointer none) ∧ Below x4.heap.size x4 w') := ((Right_any (gateS_nil 10) [] (by simp) gr fr ⟨1, 0, 2, 3, true, []⟩ x4 trivial (S4.out.rc (gr, fr, ⟨1, 0, 2, 3, true, []⟩) (by simp)) (fun q => by cases q) (by simp) (fun q => q) (fun q => by cases q)).mono (fun e w' ⟨q1, _, q3⟩ => ⟨q1, q3.below (Nat.le_refl _) (fun t q => q.elim)⟩))
  clear GM hg4 hp4 S3 L3 hq3
  go_wp2_with fail
  refine Calls.mono GZ.out ?_
  rintro e x5 ⟨rfl, hb5⟩
  have S5 : Hid (NS w key inf wt val tb (tb + 1) [1, 1] [(gl, fl, ⟨key, inf, wt, val, true, []⟩), (gr, fr, ⟨1, 0, 2, 3, true, []⟩), (gn, fn, ⟨key, inf, wt, 0, false, [some gl, some gr]⟩)] x5) := S4.out.below hb5
  have hq5 := neqN x5
  clear GZ hb5 S4 hq4
  go_wp2_with fail
  refine (kinds_all tb (tb + 1) [1, 1] x5 S5.out.nt (by simp)).mono ?_
  rintro e x6 ⟨v6, rfl, ho6, hb6⟩
  obtain ⟨a6, c6, g6, rfl, -, -, hs6⟩ := ws_of_owns (L := [1, 1]) ho6
  have S6 : Hid (NS w key inf wt val tb (tb + 1) [1, 1] [(gl, fl, ⟨key, inf, wt, val, true, []⟩), (gr, fr, ⟨1, 0, 2, 3, true, []⟩), (gn, fn, ⟨key, inf, wt, 0, false, [some gl, some gr]⟩)] x6) := S5.out.below hb6
  have SI : Hid (Calls Try.prog 12 #[.slice a6 2 c6, .slice (some ⟨x6.heap.size, 0, none⟩) 2 2] (x6.alloc (.cells #[.int .i64 1, .int .i64 1] 3)) fun e w' => e = .returned (.bool true) ∧ Below (x6.alloc (.cells #[.int .i64 1, .int .i64 1] 3)).heap.size (x6.alloc (.cells #[.int .i64 1, .int .i64 1] 3)) w') := by
    have := sameInts_any a6 (some ⟨x6.heap.size, 0, none⟩) g6 0 c6 x6.heap.size 0 2 [1, 1] [1, 1] (x6.alloc (.cells (isC [1, 1]).toArray 3)) (hs6.below (below_alloc _ _)) (ws_litN x6 [1, 1] 3 (by decide))
    rw [isSelf] at this
    exact this
  have S6' : Hid (NS w key inf wt val tb (tb + 1) [1, 1] [(gl, fl, ⟨key, inf, wt, val, true, []⟩), (gr, fr, ⟨1, 0, 2, 3, true, []⟩), (gn, fn, ⟨key, inf, wt, 0, false, [some gl, some gr]⟩)] (x6.alloc (.cells #[.int .i64 1, .int .i64 1] 3))) := S6.out.below (below_alloc _ _)
  clear ho6 hs6 hb6 S5 S6 hq5
  go_wp2_with fail
  refine Calls.mono SI.out ?_
  rintro e x7 ⟨rfl, hb7⟩
  have S7 : Hid (NS w key inf wt val tb (tb + 1) [1, 1] [(gl, fl, ⟨key, inf, wt, val, true, []⟩), (gr, fr, ⟨1, 0, 2, 3, true, []⟩), (gn, fn, ⟨key, inf, wt, 0, false, [some gl, some gr]⟩)] x7) := S6'.out.below hb7
  obtain ⟨e2, e3, e4, e5⟩ := S7.out.cs.cells
  have lt7 := S7.out.cs.lt
  have z2 := BelowBy.cell lt7 e2
  have z3 := BelowBy.cell lt7 e3
  have z5 := BelowBy.cell lt7 e5
  have N7 : Hid (RcAt x7 gn fn ⟨key, inf, wt, 0, false, [some gl, some gr]⟩) := S7.out.rc (gn, fn, ⟨key, inf, wt, 0, false, [some gl, some gr]⟩) (by simp)
  have BE : Hid (∀ p : BelowBy x7, Calls Try.prog 26 #[.int .i64 val, .pointer (some ⟨gn, 0, none⟩)] p.W fun e w' => e = .returned (.bool (belowN val ⟨key, inf, wt, 0, false, [some gl, some gr]⟩)) ∧ Below p.W.heap.size p.W w') := fun p => (Below_any val gn fn _ _ (N7.out.below p.h)).mono (fun e w' ⟨q1, q2⟩ => ⟨q1, by rw [q2]; exact Below.refl _ _⟩)
  clear hb7 S6' SI e2 e3 e4 e5 N7
  obtain ⟨bb, hbb⟩ : ∃ b : Bool, decide (val < key) = b := ⟨_, rfl⟩
  have dd : (bb != bb) = false := by simp
  have dt : (true != true) = false := rfl
  by_cases hinf : inf = 1
  · have d1 : (inf == 1) = true := by simp [hinf]
    have hbe : belowN val ⟨key, inf, wt, 0, false, [some gl, some gr]⟩ = true := by unfold belowN; simp [hinf]
    rw [hbe] at BE
    clear hbe hinf
    go_wp2_with fail
    refine wp_region_below (by kernel_rfl) (by kernel_rfl) ?_
    repeat (go_big_quiet_step ((go_at_call 26; exact below_call (BE.out _))))
    refine wpQuiet_nil ?_
    rintro _ ⟨p, rfl⟩
    have PB : Hid (Below x7.heap.size x7 p.W) := p.h
    clear z2 z3 z5 BE
    generalize p.W = Z at *
    go_upto_if 146 with fail
    go_cut [] from 132 to 146 (fun wx => Below x7.heap.size x7 wx)
    case first =>
      go_wp2_with fail
      go_meet
      exact PB.out
    case rest =>
      rename_i hK
      refine hK _ _ ?_
      obtain ⟨q1, q2, q3, q4, q5⟩ := HO.out
      exact next w key inf wt val gl fl gr fr gn fn tb (tb + 1) wc _ _ _ _ _ _ _ _ _ _ _ _ _ _ _ _ _ _ _ _ _ _ _ _ _ _ _ _ _ _ _ _ _ _ _ _ _ _ _ _ _ _ _ _ _ _ _ _ _ _ _ _ _ _ _ _ _ _ _ _ _ _ _ _ _ _ _ _ _ _ _ _ _ _ _ _ _ _ _ _ _ _ _ _ _ _ _ _ _ _ _ _ _ _ _ _ _ _ _ _ _ _ _ _ _ _ _ _ _ _ _ _ _ _ _ _ _ _ _ _ _ _ _ _ _ _ _ _ _ _ _ _ _ _ _ _ _ _ _ _ _ _ _ _ _ _ _ _ _ _ _ _ _ _ _ _ _ _ _ _ _ _ _ _ _ _ _ _ _ _ _ _ _ _ _ _ _ _ _ _ _ _ _ _ _ _ _ _ _ _ _ _ _ _ _ _ _ _ _ _ _ _ _ _ _ _ _ _ _ _ _ _ _ _ _ _ _ _ _ _ _ _ _ _ _ _ _ _ _ _ _ _ _ _ _ _ _ _ _ _ _ _ _ _ _ _ _ _ _ _ _ _ _ _ _ _ _ _ _ _ _ _ _ _ _ _ _ _ _ _ _ _ _ _ _ _ _ _ _ _ _ _ _ _ _ _ _ _ _ _ _ _ _ _ _ _ _ _ _ _ _ _ _ _ _ _ _ _ _ _ _ _ _ _ _ _ _ _ _ _ _ _ _ _ _ _ _ _ _ _ _ _ _ _ _ _ _ _ _ _ _ _ _ _ _ _ _ _ _ _ _ _ _ _ _ _ _ _ _ _ _ _ _ _ _ _ _ _ (S7.out.below hcut) q1 q2 q3 q4 q5
  · have d1 : (inf == 1) = false := by simp [hinf]
    have hbe : belowN val ⟨key, inf, wt, 0, false, [some gl, some gr]⟩ = bb := by unfold belowN; rw [← hbb]; simp [hinf]
    rw [hbe] at BE
    clear hbe hinf
    go_wp2_with fail
    refine wp_region_below (by kernel_rfl) (by kernel_rfl) ?_
    repeat (go_big_quiet_step ((go_at_call 26; exact below_call (BE.out _))))
    refine wpQuiet_nil ?_
    rintro _ ⟨p, rfl⟩
    have PB : Hid (Below x7.heap.size x7 p.W) := p.h
    clear z2 z3 z5 BE
    generalize p.W = Z at *
    go_upto_if 146 with fail
    go_cut [] from 132 to 146 (fun wx => Below x7.heap.size x7 wx)
    case first =>
      go_wp2_with fail
      go_meet
      exact PB.out
    case rest =>
      rename_i hK
      refine hK _ _ ?_
      obtain ⟨q1, q2, q3, q4, q5⟩ := HO.out
      exact next w key inf wt val gl fl gr fr gn fn tb (tb + 1) wc _ _ _ _ _ _ _ _ _ _ _ _ _ _ _ _ _ _ _ _ _ _ _ _ _ _ _ _ _ _ _ _ _ _ _ _ _ _ _ _ _ _ _ _ _ _ _ _ _ _ _ _ _ _ _ _ _ _ _ _ _ _ _ _ _ _ _ _ _ _ _ _ _ _ _ _ _ _ _ _ _ _ _ _ _ _ _ _ _ _ _ _ _ _ _ _ _ _ _ _ _ _ _ _ _ _ _ _ _ _ _ _ _ _ _ _ _ _ _ _ _ _ _ _ _ _ _ _ _ _ _ _ _ _ _ _ _ _ _ _ _ _ _ _ _ _ _ _ _ _ _ _ _ _ _ _ _ _ _ _ _ _ _ _ _ _ _ _ _ _ _ _ _ _ _ _ _ _ _ _ _ _ _ _ _ _ _ _ _ _ _ _ _ _ _ _ _ _ _ _ _ _ _ _ _ _ _ _ _ _ _ _ _ _ _ _ _ _ _ _ _ _ _ _ _ _ _ _ _ _ _ _ _ _ _ _ _ _ _ _ _ _ _ _ _ _ _ _ _ _ _ _ _ _ _ _ _ _ _ _ _ _ _ _ _ _ _ _ _ _ _ _ _ _ _ _ _ _ _ _ _ _ _ _ _ _ _ _ _ _ _ _ _ _ _ _ _ _ _ _ _ _ _ _ _ _ _ _ _ _ _ _ _ _ _ _ _ _ _ _ _ _ _ _ _ _ _ _ _ _ _ _ _ _ _ _ _ _ _ _ _ _ _ _ _ _ _ _ _ _ _ _ _ _ _ _ _ _ _ _ _ _ _ _ _ _ _ _ (S7.out.below hcut) q1 q2 q3 q4 q5
end Go.Proofs.Ythdfpddijocfkaa




namespace Go.Proofs.Ythdfpddijocfkaa

open Go.RowKit

attribute [local go_sem ↓] Go.wp_at_zero Go.wp_at_succ

set_option maxRecDepth 100000 in
set_option maxHeartbeats 4000000 in
theorem clat9 (next : ClAt17) : ClAt9 := by
  unfold ClAt9
  intro w key inf wt val gl fl gr fr gn fn tb Bt0 X u0 u2 u7 u8 u9 u10 u11 u12 u13 u14 u15 u16 u17 u18 u19 u20 u21 u22 u23 u24 u25 u26 u27 u28 u29 u30 u31 u32 u33 u34 u35 u36 u37 u38 u39 u40 u41 u42 u43 u44 u45 u46 u47 u48 u49 u50 u51 u52 u53 u54 u55 u56 u57 u58 u59 u60 u61 u62 u63 u64 u65 u66 u67 u68 u69 u70 u71 u72 u73 u74 u75 u76 u77 u78 u79 u80 u81 u82 u83 u84 u85 u86 u87 u88 u89 u90 u91 u92 u93 u94 u95 u96 u97 u98 u99 u100 u101 u102 u103 u104 u105 u106 u107 u108 u109 u110 u111 u112 u113 u114 u115 u116 u117 u118 u119 u120 u121 u122 u123 u124 u125 u126 u127 u128 u129 u130 u131 u132 u133 u134 u135 u136 u137 u138 u139 u140 u141 u142 u143 u144 u145 u146 u147 u148 u149 u150 u151 u152 u153 u154 u155 u156 u157 u158 u159 u160 u161 u162 u163 u164 u165 u166 u167 u168 u169 u170 u171 u172 u173 u174 u175 u176 u177 u178 u179 u180 u181 u182 u183 u184 u185 u186 u187 u188 u189 u190 u191 u192 u193 u194 u195 u196 u197 u198 u199 u200 u201 u202 u203 u204 u205 u206 u207 u208 u209 u210 u211 u212 u213 u214 u215 u216 u217 u218 u219 u220 u221 u222 u223 u224 u225 u226 u227 u228 u229 u230 u231 u232 u233 u234 u235 u236 u237 u238 u239 u240 u241 u242 u243 u244 u245 u246 u247 u248 u249 u250 u251 u252 u253 u254 u255 u256 u257 u258 u259 u260 u261 u262 u263 u264 u265 u266 u267 u268 u269 u270 u271 u272 u273 u274 u275 u276 u277 u278 u279 u280 u281 u282 u283 u284 u285 u286 u287 u288 u289 u290 u291 u292 u293 u294 u295 u296 u297 u298 u299 u300 u301 u302 u303 u304 u305 u306 u307 u308 u309 u310 u311 u312 u313 u314 u315 u316 u317 u318 u319 u320 u321 u322 u323 u324 u325 u326 u327 u328 u329 u330 u331 u332 u333 u334 u335 u336 u337 u338 u339 u340 u341 u342 u343 u344 u345 u346 u347 u348 u349 u350 u351 u352 u353 u354 u355 u356 u357 u358 u359 u360 u361 u362 u363 u364 u365 u366 u367 u368 u369 u370 u371 u372 hS o1 o2 o3 p2 p3
  have S0 : Hid (NS w key inf wt val tb Bt0 [1, 1] [(gl, fl, ⟨key, inf, wt, val, true, []⟩), (gr, fr, ⟨1, 0, 2, 3, true, []⟩), (gn, fn, ⟨key, inf, wt, 0, false, [some gl, some gr]⟩)] X) := hS
  have HO : Hid (w.heap.size < fl ∧ gl < gr ∧ gr < gn ∧ fl < fr ∧ fr < fn) := ⟨o1, o2, o3, p2, p3⟩
  clear hS o1 o2 o3 p2 p3
  conv => arg 2; whnf
  go_wp2_with fail
  refine (Entry_any _).mono ?_
  rintro e x1 ⟨ge, fe, gel, fel, ger, fer, rfl, a1, a2, a3, a4, a5, a6, h1, h2, h3, hb1⟩
  have S1 : Hid (NS w key inf wt val tb Bt0 [1, 1] [(gl, fl, ⟨key, inf, wt, val, true, []⟩), (gr, fr, ⟨1, 0, 2, 3, true, []⟩), (gn, fn, ⟨key, inf, wt, 0, false, [some gl, some gr]⟩), (ge, fe, ⟨0, 1, 1, 0, false, [some gel, some ger]⟩), (gel, fel, ⟨0, 1, 1, 0, true, []⟩), (ger, fer, ⟨0, 1, 1, 0, true, []⟩)] x1) := (((S0.out.push hb1 (ge, fe, ⟨0, 1, 1, 0, false, [some gel, some ger]⟩) h1).push (Below.refl _ _) (gel, fel, ⟨0, 1, 1, 0, true, []⟩) h2).push (Below.refl _ _) (ger, fer, ⟨0, 1, 1, 0, true, []⟩) h3).sub (fun x hx => by simp only [List.mem_cons, List.not_mem_nil, or_false] at hx; rcases hx with rfl | rfl | rfl | rfl | rfl | rfl <;> simp)
  have o4 : gn < gel := Nat.lt_of_lt_of_le (S0.out.rc (gn, fn, ⟨key, inf, wt, 0, false, [some gl, some gr]⟩) (by simp)).lt a1
  have p4 : fn < fel := Nat.lt_of_lt_of_le (S0.out.rc (gn, fn, ⟨key, inf, wt, 0, false, [some gl, some gr]⟩) (by simp)).ltf a2
  have HE : Hid (gn < gel ∧ gel < ger ∧ ger < ge ∧ fn < fel ∧ fel < fer ∧ fer < fe) := ⟨o4, a3, a5, p4, a4, a6⟩
  have l1 := h1.lt
  clear h1 h2 h3 hb1 S0 o4 p4
  go_wp2_with fail
  refine (Entry_any _).mono ?_
  rintro e x2 ⟨gz, fz, glz, flz, grz, frz, rfl, b1, b2, b3, b4, b5, b6, k1, k2, k3, hb2⟩
  have S2 : Hid (NS w key inf wt val tb Bt0 [1, 1] [(gl, fl, ⟨key, inf, wt, val, true, []⟩), (gr, fr, ⟨1, 0, 2, 3, true, []⟩), (gn, fn, ⟨key, inf, wt, 0, false, [some gl, some gr]⟩), (ge, fe, ⟨0, 1, 1, 0, false, [some gel, some ger]⟩), (gel, fel, ⟨0, 1, 1, 0, true, []⟩), (ger, fer, ⟨0, 1, 1, 0, true, []⟩)] x2) := S1.out.below hb2
  have hq := eqlS (S2.out.rc (ge, fe, ⟨0, 1, 1, 0, false, [some gel, some ger]⟩) (by simp)).ok k1.ok false (decide_eq_false (by omega))
  have ea := (S2.out.rc (ge, fe, ⟨0, 1, 1, 0, false, [some gel, some ger]⟩) (by simp))
  have eb := (S2.out.rc (gel, fel, ⟨0, 1, 1, 0, true, []⟩) (by simp))
  have ec := (S2.out.rc (ger, fer, ⟨0, 1, 1, 0, true, []⟩) (by simp))
  have RR : Hid (Calls Try.prog 28 #[.nilIface, .pointer (some ⟨ge, 0, none⟩)] x2 fun e w' => ∃ v, e = .returned (.tuple #[v, .int .i64 0]) ∧ w'.ownsRow x2.heap.size 81 6 v 3 (ndCells eT) ∧ Below x2.heap.size x2 w') := (ReadT (gateS_nil 1000000) [] x2.heap.size (fun t ht => ht.elim) eB (by decide) (lay_ok eB_ok (by decide)) _ _ x2 (Nat.le_refl _) (e_nds ea eb ec (by omega) (by omega) (by omega) ⟨ea.lt, ea.ltf, eb.lt, eb.ltf, ec.lt, ec.ltf⟩) (by have h1 := trK_le (T := eB.lay 0) eB.size; have h2 : eB.size = 3 := rfl; simp; omega) trivial (Tbs.nil x2)).mono (fun e w' ⟨v, q1, q2, _, _, q3⟩ => ⟨v, q1, q2, q3⟩)
  clear k1 k2 k3 hb2 S1 ea eb ec b1 b2 b3 b4 b5 b6
  go_wp2_with fail
  clear hq
  refine Calls.mono RR.out ?_
  rintro e x3 ⟨v3, rfl, ho3, hb3⟩
  obtain ⟨a3', c3, g3, hv3, -, -, hn3⟩ := nodes_of_owns (t := eT) ho3
  obtain rfl : v3 = .slice a3' 3 c3 := hv3
  have N3 : Hid (NodesAt x3 a3' g3 0 eT) := hn3
  have S3 : Hid (NS w key inf wt val tb Bt0 [1, 1] [(gl, fl, ⟨key, inf, wt, val, true, []⟩), (gr, fr, ⟨1, 0, 2, 3, true, []⟩), (gn, fn, ⟨key, inf, wt, 0, false, [some gl, some gr]⟩), (ge, fe, ⟨0, 1, 1, 0, false, [some gel, some ger]⟩), (gel, fel, ⟨0, 1, 1, 0, true, []⟩), (ger, fer, ⟨0, 1, 1, 0, true, []⟩)] x3) := S2.out.below hb3
  clear ho3 hn3 hb3 S2 RR
  go_wp2_with fail
  refine (nempty_any _).mono ?_
  rintro e x4 ⟨rfl, hn4, hb4⟩
  have S4 : Hid (NS w key inf wt val tb Bt0 [1, 1] [(gl, fl, ⟨key, inf, wt, val, true, []⟩), (gr, fr, ⟨1, 0, 2, 3, true, []⟩), (gn, fn, ⟨key, inf, wt, 0, false, [some gl, some gr]⟩), (ge, fe, ⟨0, 1, 1, 0, false, [some gel, some ger]⟩), (gel, fel, ⟨0, 1, 1, 0, true, []⟩), (ger, fer, ⟨0, 1, 1, 0, true, []⟩)] x4) := S3.out.below hb4
  have SM : Hid (Calls Try.prog 11 #[.slice a3' 3 c3, .slice (some ⟨x3.heap.size, 0, none⟩) 3 3] x4 fun e w' => e = .returned (.bool true) ∧ Below x4.heap.size x4 w') := by
    have := vSame_any a3' (some ⟨x3.heap.size, 0, none⟩) g3 0 c3 x3.heap.size 0 3 eT eT x4 (N3.out.below hb4) hn4
    rw [nlSelf] at this
    exact this
  clear hn4 hb4 S3 N3
  go_wp2_with fail
  refine Calls.mono SM.out ?_
  rintro e x5 ⟨rfl, hb5⟩
  have S5 : Hid (NS w key inf wt val tb Bt0 [1, 1] [(gl, fl, ⟨key, inf, wt, val, true, []⟩), (gr, fr, ⟨1, 0, 2, 3, true, []⟩), (gn, fn, ⟨key, inf, wt, 0, false, [some gl, some gr]⟩), (ge, fe, ⟨0, 1, 1, 0, false, [some gel, some ger]⟩), (gel, fel, ⟨0, 1, 1, 0, true, []⟩), (ger, fer, ⟨0, 1, 1, 0, true, []⟩)] x5) := S4.out.below hb5
  obtain ⟨e2, e3, e4, e5⟩ := S5.out.cs.cells
  have lt5 := S5.out.cs.lt
  have ea := (S5.out.rc (ge, fe, ⟨0, 1, 1, 0, false, [some gel, some ger]⟩) (by simp))
  have eb := (S5.out.rc (gel, fel, ⟨0, 1, 1, 0, true, []⟩) (by simp))
  have FI : Hid (Calls Try.prog 30 #[.nilIface, .pointer (some ⟨ge, 0, none⟩), .int .i64 key] x5 fun e w' => e = .returned (.tuple #[.pointer (some ⟨gel, 0, none⟩), .pointer (some ⟨ge, 0, none⟩), .pointer none]) ∧ Below x5.heap.size x5 w') := (Find_any (gateS_nil 1000000) [] key x5.heap.size (fun t ht => ht.elim) [⟨ge, fe, ⟨0, 1, 1, 0, false, [some gel, some ger]⟩⟩, ⟨gel, fel, ⟨0, 1, 1, 0, true, []⟩⟩] x5 (Nat.le_refl _) (chain_cons ea ea.lt ea.ltf rfl (chain_one eb eb.lt eb.ltf rfl rfl) (nxt_crown _ _ _ _ _ _) (fun x hx => by simp at hx; subst hx; show gel ≠ ge; have := HE.out; omega)) (by simp) (by simp [kdL, chK]) trivial (Tbs.nil x5)).mono (fun e w' ⟨q1, _, _, q4⟩ => ⟨q1, q4⟩)
  clear hb5 S4 SM ea eb
  go_wp2_with fail
  refine Calls.mono FI.out ?_
  rintro e x6 ⟨rfl, hb6⟩
  have S6 : Hid (NS w key inf wt val tb Bt0 [1, 1] [(gl, fl, ⟨key, inf, wt, val, true, []⟩), (gr, fr, ⟨1, 0, 2, 3, true, []⟩), (gn, fn, ⟨key, inf, wt, 0, false, [some gl, some gr]⟩), (ge, fe, ⟨0, 1, 1, 0, false, [some gel, some ger]⟩), (gel, fel, ⟨0, 1, 1, 0, true, []⟩), (ger, fer, ⟨0, 1, 1, 0, true, []⟩)] x6) := S5.out.below hb6
  have GL : Hid (Calls Try.prog 23 #[.nilIface, .pointer (some ⟨ge, 0, none⟩)] x6 fun e w' => e = .returned (.pointer (some ⟨gel, 0, none⟩)) ∧ Below x6.heap.size x6 w') := ((Left_any (gateS_nil 10) [] (by simp) ge fe ⟨0, 1, 1, 0, false, [some gel, some ger]⟩ x6 trivial (S6.out.rc (ge, fe, ⟨0, 1, 1, 0, false, [some gel, some ger]⟩) (by simp)) (fun _ => rfl) (by simp) (fun q => q) (fun _ y hp => ((S6.out.rc (gel, fel, ⟨0, 1, 1, 0, true, []⟩) (by simp)).pd hp (fun q => q) (fun q => q)).ok)).mono (fun e w' ⟨q1, _, q3⟩ => ⟨q1, q3.below (Nat.le_refl _) (fun t q => q.elim)⟩))
  clear hb6 S5 FI e2 e3 e4 e5 lt5
  go_wp2_with fail
  refine Calls.mono GL.out ?_
  rintro e x7 ⟨rfl, hb7⟩
  have S7 : Hid (NS w key inf wt val tb Bt0 [1, 1] [(gl, fl, ⟨key, inf, wt, val, true, []⟩), (gr, fr, ⟨1, 0, 2, 3, true, []⟩), (gn, fn, ⟨key, inf, wt, 0, false, [some gl, some gr]⟩), (ge, fe, ⟨0, 1, 1, 0, false, [some gel, some ger]⟩), (gel, fel, ⟨0, 1, 1, 0, true, []⟩), (ger, fer, ⟨0, 1, 1, 0, true, []⟩)] x7) := S6.out.below hb7
  have hq1 := neqS (S7.out.rc (gel, fel, ⟨0, 1, 1, 0, true, []⟩) (by simp)).ok (S7.out.rc (gel, fel, ⟨0, 1, 1, 0, true, []⟩) (by simp)).ok false (by simp)
  have hq2 := neqS (S7.out.rc (ge, fe, ⟨0, 1, 1, 0, false, [some gel, some ger]⟩) (by simp)).ok (S7.out.rc (ge, fe, ⟨0, 1, 1, 0, false, [some gel, some ger]⟩) (by simp)).ok false (by simp)
  have hq3 := neqN x7
  obtain ⟨e2, e3, e4, e5⟩ := S7.out.cs.cells
  have lt7 := S7.out.cs.lt
  have la := (S7.out.rc (gl, fl, ⟨key, inf, wt, val, true, []⟩) (by simp))
  have FI : Hid (Calls Try.prog 30 #[.nilIface, .pointer (some ⟨gl, 0, none⟩), .int .i64 key] x7 fun e w' => e = .returned (.tuple #[.pointer (some ⟨gl, 0, none⟩), .pointer none, .pointer none]) ∧ Below x7.heap.size x7 w') := (Find_any (gateS_nil 1000000) [] key x7.heap.size (fun t ht => ht.elim) [⟨gl, fl, ⟨key, inf, wt, val, true, []⟩⟩] x7 (Nat.le_refl _) (chain_one la la.lt la.ltf rfl rfl) (by simp) (by simp [kdL, chK]) trivial (Tbs.nil x7)).mono (fun e w' ⟨q1, _, _, q4⟩ => ⟨q1, q4⟩)
  clear hb7 S6 GL la
  go_wp2_with fail
  refine Calls.mono FI.out ?_
  rintro e x8 ⟨rfl, hb8⟩
  have S8 : Hid (NS w key inf wt val tb Bt0 [1, 1] [(gl, fl, ⟨key, inf, wt, val, true, []⟩), (gr, fr, ⟨1, 0, 2, 3, true, []⟩), (gn, fn, ⟨key, inf, wt, 0, false, [some gl, some gr]⟩), (ge, fe, ⟨0, 1, 1, 0, false, [some gel, some ger]⟩), (gel, fel, ⟨0, 1, 1, 0, true, []⟩), (ger, fer, ⟨0, 1, 1, 0, true, []⟩)] x8) := S7.out.below hb8
  clear hq1 hq2 hq3
  have hq1 := neqS (S8.out.rc (gl, fl, ⟨key, inf, wt, val, true, []⟩) (by simp)).ok (S8.out.rc (gl, fl, ⟨key, inf, wt, val, true, []⟩) (by simp)).ok false (by simp)
  have hq3 := neqN x8
  clear hb8 S7 FI e2 e3 e4 e5 lt7
  go_upto_if 207 with fail
  go_cut [] from 197 to 207 (fun wx => wx = x8)
  case first =>
    go_wp2_with fail
    go_meet
    rfl
  case rest =>
    rename_i hK
    refine hK _ _ ?_
    obtain ⟨q1, q2, q3, q4, q5⟩ := HO.out
    obtain ⟨r1, r2, r3, r4, r5, r6⟩ := HE.out
    exact next w key inf wt val gl fl gr fr gn fn tb Bt0 gel fel ger fer ge fe wc _ _ _ _ _ _ _ _ _ _ _ _ _ _ _ _ _ _ _ _ _ _ _ _ _ _ _ _ _ _ _ _ _ _ _ _ _ _ _ _ _ _ _ _ _ _ _ _ _ _ _ _ _ _ _ _ _ _ _ _ _ _ _ _ _ _ _ _ _ _ _ _ _ _ _ _ _ _ _ _ _ _ _ _ _ _ _ _ _ _ _ _ _ _ _ _ _ _ _ _ _ _ _ _ _ _ _ _ _ _ _ _ _ _ _ _ _ _ _ _ _ _ _ _ _ _ _ _ _ _ _ _ _ _ _ _ _ _ _ _ _ _ _ _ _ _ _ _ _ _ _ _ _ _ _ _ _ _ _ _ _ _ _ _ _ _ _ _ _ _ _ _ _ _ _ _ _ _ _ _ _ _ _ _ _ _ _ _ _ _ _ _ _ _ _ _ _ _ _ _ _ _ _ _ _ _ _ _ _ _ _ _ _ _ _ _ _ _ _ _ _ _ _ _ _ _ _ _ _ _ _ _ _ _ _ _ _ _ _ _ _ _ _ _ _ _ _ _ _ _ _ _ _ _ _ _ _ _ _ _ _ _ _ _ _ _ _ _ _ _ _ _ _ _ _ _ _ _ _ _ _ _ _ _ _ _ _ _ _ _ _ _ _ _ _ _ _ _ _ _ _ _ _ _ _ _ _ _ _ _ _ _ _ _ _ _ _ _ _ _ _ _ _ _ _ _ _ _ _ _ _ _ _ _ _ _ _ _ _ _ _ _ _ _ _ _ _ _ _ _ _ _ _ _ _ _ _ _ _ _ _ _ _ _ _ _ _ (by rw [hcut]; exact S8.out) q1 q2 q3 q4 q5 r1 r2 r3 r4 r5 r6
end Go.Proofs.Ythdfpddijocfkaa




namespace Go.Proofs.Ythdfpddijocfkaa

open Go.RowKit

attribute [local go_sem ↓] Go.wp_at_zero Go.wp_at_succ

set_option maxRecDepth 100000 in
set_option maxHeartbeats 4000000 in
theorem clat17 (next : ClAt22) : ClAt17 := by
  unfold ClAt17
  intro w key inf wt val gl fl gr fr gn fn tb Bt0 gel fel ger fer ge fe X u0 u2 u8 u9 u10 u11 u12 u13 u14 u15 u16 u17 u18 u19 u20 u21 u22 u23 u24 u25 u26 u27 u28 u29 u30 u31 u32 u33 u34 u35 u36 u37 u38 u39 u40 u41 u42 u43 u44 u45 u46 u47 u48 u49 u50 u51 u52 u53 u54 u55 u56 u57 u58 u59 u60 u61 u62 u63 u64 u65 u66 u67 u68 u69 u70 u71 u72 u73 u74 u75 u76 u77 u78 u79 u80 u81 u82 u83 u84 u85 u86 u87 u88 u89 u90 u91 u92 u93 u94 u95 u96 u97 u98 u99 u100 u101 u102 u103 u104 u105 u106 u107 u108 u109 u110 u111 u112 u113 u114 u115 u116 u117 u118 u119 u120 u121 u122 u123 u124 u125 u126 u127 u128 u129 u130 u131 u132 u133 u134 u135 u136 u137 u138 u139 u140 u141 u142 u143 u144 u145 u146 u147 u148 u149 u150 u151 u152 u153 u154 u155 u156 u157 u158 u159 u160 u161 u162 u163 u164 u165 u166 u167 u168 u169 u170 u171 u172 u173 u174 u175 u176 u177 u178 u179 u180 u181 u182 u183 u184 u185 u186 u187 u188 u189 u190 u191 u192 u193 u194 u195 u196 u197 u198 u199 u200 u201 u202 u203 u204 u205 u206 u207 u208 u209 u210 u211 u212 u213 u214 u215 u216 u217 u218 u219 u220 u221 u222 u223 u224 u225 u226 u227 u228 u229 u230 u231 u232 u233 u234 u235 u236 u237 u238 u239 u240 u241 u242 u243 u244 u245 u246 u247 u248 u249 u250 u251 u252 u253 u254 u255 u256 u257 u258 u259 u260 u261 u262 u263 u264 u265 u266 u267 u268 u269 u270 u271 u272 u273 u274 u275 u276 u277 u278 u279 u280 u281 u282 u283 u284 u285 u286 u287 u288 u289 u290 u291 u292 u293 u294 u295 u296 u297 u298 u299 u300 u301 u302 u303 u304 u305 u306 u307 u308 u309 u310 u311 u312 u313 u314 u315 u316 u317 u318 u319 u320 u321 u322 u323 u324 u325 u326 u327 u328 u329 u330 u331 u332 u333 u334 u335 u336 u337 u338 u339 u340 u341 u342 u343 u344 u345 u346 u347 u348 u349 u350 u351 u352 u353 u354 u355 u356 u357 u358 u359 u360 u361 u362 u363 u364 u365 u366 u367 u368 u369 u370 u371 u372 hS o1 o2 o3 p2 p3 o4 o5 o6 p4 p5 p6
  have S0 : Hid (NS w key inf wt val tb Bt0 [1, 1] [(gl, fl, ⟨key, inf, wt, val, true, []⟩), (gr, fr, ⟨1, 0, 2, 3, true, []⟩), (gn, fn, ⟨key, inf, wt, 0, false, [some gl, some gr]⟩), (ge, fe, ⟨0, 1, 1, 0, false, [some gel, some ger]⟩), (gel, fel, ⟨0, 1, 1, 0, true, []⟩), (ger, fer, ⟨0, 1, 1, 0, true, []⟩)] X) := hS
  have HO : Hid (w.heap.size < fl ∧ gl < gr ∧ gr < gn ∧ fl < fr ∧ fr < fn) := ⟨o1, o2, o3, p2, p3⟩
  have HE : Hid (gn < gel ∧ gel < ger ∧ ger < ge ∧ fn < fel ∧ fel < fer ∧ fer < fe) := ⟨o4, o5, o6, p4, p5, p6⟩
  obtain ⟨e2, e3, e4, e5⟩ := S0.out.cs.cells
  have lt0 := S0.out.cs.lt
  clear hS o1 o2 o3 p2 p3 o4 o5 o6 p4 p5 p6
  conv => arg 2; whnf
  go_wp2_with fail
  refine (leafR 5 0 1 val _).mono ?_
  rintro e x1 ⟨g5, f5, rfl, a1, a2, a3, a4⟩
  have S1 : Hid (NS w key inf wt val tb Bt0 [1, 1] [(g5, f5, ⟨5, 0, 1, val, true, []⟩), (gl, fl, ⟨key, inf, wt, val, true, []⟩), (gr, fr, ⟨1, 0, 2, 3, true, []⟩), (gn, fn, ⟨key, inf, wt, 0, false, [some gl, some gr]⟩), (ge, fe, ⟨0, 1, 1, 0, false, [some gel, some ger]⟩), (gel, fel, ⟨0, 1, 1, 0, true, []⟩), (ger, fer, ⟨0, 1, 1, 0, true, []⟩)] x1) := S0.out.push a4 (g5, f5, ⟨5, 0, 1, val, true, []⟩) a3
  have q1 := a3.lt
  have q1' := a3.ltf
  have q1a : ge < g5 := Nat.lt_of_lt_of_le (S0.out.rc (ge, fe, ⟨0, 1, 1, 0, false, [some gel, some ger]⟩) (by simp)).lt a1
  have q1b : fe < f5 := Nat.lt_of_lt_of_le (S0.out.rc (ge, fe, ⟨0, 1, 1, 0, false, [some gel, some ger]⟩) (by simp)).ltf a2
  clear a3 a4 S0 e2 e3 e4 e5 lt0
  go_wp2_with fail
  refine (leafR 0 1 1 0 _).mono ?_
  rintro e x2 ⟨g0, f0, rfl, b1, b2, b3, b4⟩
  have S2 : Hid (NS w key inf wt val tb Bt0 [1, 1] [(g0, f0, ⟨0, 1, 1, 0, true, []⟩), (g5, f5, ⟨5, 0, 1, val, true, []⟩), (gl, fl, ⟨key, inf, wt, val, true, []⟩), (gr, fr, ⟨1, 0, 2, 3, true, []⟩), (gn, fn, ⟨key, inf, wt, 0, false, [some gl, some gr]⟩), (ge, fe, ⟨0, 1, 1, 0, false, [some gel, some ger]⟩), (gel, fel, ⟨0, 1, 1, 0, true, []⟩), (ger, fer, ⟨0, 1, 1, 0, true, []⟩)] x2) := S1.out.push b4 (g0, f0, ⟨0, 1, 1, 0, true, []⟩) b3
  have q2 := b3.lt
  have q2' := b3.ltf
  have HI : Hid _ := innerR 0 1 1 (some g5) (some g0) x2 (S2.out.rc (g5, f5, ⟨5, 0, 1, val, true, []⟩) (by simp)).lies (S2.out.rc (g0, f0, ⟨0, 1, 1, 0, true, []⟩) (by simp)).lies
  unfold ptrO at HI
  simp only [Option.map_some] at HI
  clear b3 b4 S1
  go_wp2_with fail
  refine Calls.mono HI.out ?_
  rintro e x3 ⟨gc, fc, rfl, c1, c2, c3, c4⟩
  have S3 : Hid (NS w key inf wt val tb Bt0 [1, 1] [(gc, fc, ⟨0, 1, 1, 0, false, [some g5, some g0]⟩), (g0, f0, ⟨0, 1, 1, 0, true, []⟩), (g5, f5, ⟨5, 0, 1, val, true, []⟩), (gl, fl, ⟨key, inf, wt, val, true, []⟩), (gr, fr, ⟨1, 0, 2, 3, true, []⟩), (gn, fn, ⟨key, inf, wt, 0, false, [some gl, some gr]⟩), (ge, fe, ⟨0, 1, 1, 0, false, [some gel, some ger]⟩), (gel, fel, ⟨0, 1, 1, 0, true, []⟩), (ger, fer, ⟨0, 1, 1, 0, true, []⟩)] x3) := S2.out.push c4 (gc, fc, ⟨0, 1, 1, 0, false, [some g5, some g0]⟩) c3
  have HG : Hid (ge < g5 ∧ g5 < g0 ∧ g0 < gc ∧ fe < f5 ∧ f5 < f0 ∧ f0 < fc) := by refine ⟨q1a, ?_, ?_, q1b, ?_, ?_⟩ <;> omega
  have GL : Hid (Calls Try.prog 23 #[.nilIface, .pointer (some ⟨ge, 0, none⟩)] x3 fun e w' => e = .returned (.pointer (some ⟨gel, 0, none⟩)) ∧ Below x3.heap.size x3 w') := ((Left_any (gateS_nil 10) [] (by simp) ge fe ⟨0, 1, 1, 0, false, [some gel, some ger]⟩ x3 trivial (S3.out.rc (ge, fe, ⟨0, 1, 1, 0, false, [some gel, some ger]⟩) (by simp)) (fun _ => rfl) (by simp) (fun q => q) (fun _ y hp => ((S3.out.rc (gel, fel, ⟨0, 1, 1, 0, true, []⟩) (by simp)).pd hp (fun q => q) (fun q => q)).ok)).mono (fun e w' ⟨q1, _, q3⟩ => ⟨q1, q3.below (Nat.le_refl _) (fun t q => q.elim)⟩))
  clear c3 c4 S2 q1 q1' q1a q1b q2 q2' HI a1 a2 b1 b2 c1 c2
  go_wp2_with fail
  refine Calls.mono GL.out ?_
  rintro e x4 ⟨rfl, hb4⟩
  have S4 : Hid (NS w key inf wt val tb Bt0 [1, 1] [(gc, fc, ⟨0, 1, 1, 0, false, [some g5, some g0]⟩), (g0, f0, ⟨0, 1, 1, 0, true, []⟩), (g5, f5, ⟨5, 0, 1, val, true, []⟩), (gl, fl, ⟨key, inf, wt, val, true, []⟩), (gr, fr, ⟨1, 0, 2, 3, true, []⟩), (gn, fn, ⟨key, inf, wt, 0, false, [some gl, some gr]⟩), (ge, fe, ⟨0, 1, 1, 0, false, [some gel, some ger]⟩), (gel, fel, ⟨0, 1, 1, 0, true, []⟩), (ger, fer, ⟨0, 1, 1, 0, true, []⟩)] x4) := S3.out.below hb4
  have E4 : Hid (RcAt x4 ge fe ⟨0, 1, 1, 0, false, [some gel, some ger]⟩) := S4.out.rc (ge, fe, ⟨0, 1, 1, 0, false, [some gel, some ger]⟩) (by simp)
  have SW : Hid (Calls Try.prog 31 #[.pointer (some ⟨ge, 0, none⟩), .nilIface, .int .i64 0, .pointer (some ⟨gel, 0, none⟩), .pointer (some ⟨gc, 0, none⟩)] x4 fun e w' => e = .returned (.bool true) ∧ RcAt w' ge fe ⟨0, 1, 1, 0, false, [some gc, some ger]⟩ ∧ x4.grownBy w' (some fe)) := swingHit ge fe ⟨0, 1, 1, 0, false, [some gel, some ger]⟩ 0 (some gc) x4 E4.out (by simp) (by simp) (S4.out.rc (gel, fel, ⟨0, 1, 1, 0, true, []⟩) (by simp)).ok (S4.out.rc (gc, fc, ⟨0, 1, 1, 0, false, [some g5, some g0]⟩) (by simp)).ok
  clear hb4 S3 GL
  go_wp2_with fail
  refine Calls.mono SW.out ?_
  rintro e x5 ⟨rfl, hr5, hg5⟩
  have S5 : Hid (NS w key inf wt val tb Bt0 [1, 1] [(ge, fe, ⟨0, 1, 1, 0, false, [some gc, some ger]⟩), (gc, fc, ⟨0, 1, 1, 0, false, [some g5, some g0]⟩), (g0, f0, ⟨0, 1, 1, 0, true, []⟩), (g5, f5, ⟨5, 0, 1, val, true, []⟩), (gl, fl, ⟨key, inf, wt, val, true, []⟩), (gn, fn, ⟨key, inf, wt, 0, false, [some gl, some gr]⟩), (gel, fel, ⟨0, 1, 1, 0, true, []⟩), (ger, fer, ⟨0, 1, 1, 0, true, []⟩)] x5) := (S4.out.sub (gs := [(gc, fc, ⟨0, 1, 1, 0, false, [some g5, some g0]⟩), (g0, f0, ⟨0, 1, 1, 0, true, []⟩), (g5, f5, ⟨5, 0, 1, val, true, []⟩), (gl, fl, ⟨key, inf, wt, val, true, []⟩), (gn, fn, ⟨key, inf, wt, 0, false, [some gl, some gr]⟩), (gel, fel, ⟨0, 1, 1, 0, true, []⟩), (ger, fer, ⟨0, 1, 1, 0, true, []⟩)]) (fun x hx => by simp only [List.mem_cons, List.not_mem_nil, or_false] at hx; rcases hx with rfl | rfl | rfl | rfl | rfl | rfl | rfl <;> simp)).swing E4.out (by have := HO.out; have := HE.out; omega) hg5 ⟨0, 1, 1, 0, false, [some gc, some ger]⟩ hr5 (fun x hx => by
    have h1 := HO.out
    have h2 := HE.out
    have h3 := HG.out
    simp only [List.mem_cons, List.not_mem_nil, or_false] at hx
    rcases hx with rfl | rfl | rfl | rfl | rfl | rfl | rfl
    · show fc ≠ fe; omega
    · show f0 ≠ fe; omega
    · show f5 ≠ fe; omega
    · show fl ≠ fe; omega
    · show fn ≠ fe; omega
    · show fel ≠ fe; omega
    · show fer ≠ fe; omega)
  have E5 : Hid (RcAt x5 ge fe ⟨0, 1, 1, 0, false, [some gc, some ger]⟩) := S5.out.rc (ge, fe, ⟨0, 1, 1, 0, false, [some gc, some ger]⟩) (by simp)
  have SW2 : Hid (Calls Try.prog 31 #[.pointer (some ⟨ge, 0, none⟩), .nilIface, .int .i64 0, .pointer (some ⟨gl, 0, none⟩), .pointer (some ⟨gn, 0, none⟩)] x5 fun e w' => e = .returned (.bool false) ∧ Below x5.heap.size x5 w') := swingMiss ge fe ⟨0, 1, 1, 0, false, [some gc, some ger]⟩ 0 (some gl) (some gn) x5 E5.out (by simp) (by simp) (S5.out.rc (gc, fc, ⟨0, 1, 1, 0, false, [some g5, some g0]⟩) (by simp)).ok (S5.out.rc (gl, fl, ⟨key, inf, wt, val, true, []⟩) (by simp)).ok (S5.out.rc (gn, fn, ⟨key, inf, wt, 0, false, [some gl, some gr]⟩) (by simp)).ok (by show some gc ≠ some gl; have h1 := HO.out; have h2 := HE.out; have h3 := HG.out; simp; omega)
  clear hr5 hg5 S4 E4 SW
  go_wp2_with fail
  refine Calls.mono SW2.out ?_
  rintro e x6 ⟨rfl, hb6⟩
  have S6 : Hid (NS w key inf wt val tb Bt0 [1, 1] [(ge, fe, ⟨0, 1, 1, 0, false, [some gc, some ger]⟩), (ger, fer, ⟨0, 1, 1, 0, true, []⟩), (gc, fc, ⟨0, 1, 1, 0, false, [some g5, some g0]⟩), (g5, f5, ⟨5, 0, 1, val, true, []⟩), (g0, f0, ⟨0, 1, 1, 0, true, []⟩)] x6) := (S5.out.below hb6).sub (fun x hx => by simp only [List.mem_cons, List.not_mem_nil, or_false] at hx; rcases hx with rfl | rfl | rfl | rfl | rfl <;> simp)
  have le := (S6.out.rc (ge, fe, ⟨0, 1, 1, 0, false, [some gc, some ger]⟩) (by simp))
  have lc := (S6.out.rc (gc, fc, ⟨0, 1, 1, 0, false, [some g5, some g0]⟩) (by simp))
  have l5 := (S6.out.rc (g5, f5, ⟨5, 0, 1, val, true, []⟩) (by simp))
  have HGG : Hid (g5 < gc ∧ ge < gc ∧ ge < g5) := by have := HG.out; exact ⟨by omega, by omega, by omega⟩
  have GE : Hid (Calls Try.prog 32 #[.nilIface, .pointer (some ⟨ge, 0, none⟩), .int .i64 5] x6 fun e w' => e = .returned (.tuple #[.int .i64 val, .bool true]) ∧ Below x6.heap.size x6 w') := (Get_any (gateS_nil 1000000) [] 5 x6.heap.size (fun t ht => ht.elim) [⟨ge, fe, ⟨0, 1, 1, 0, false, [some gc, some ger]⟩⟩, ⟨gc, fc, ⟨0, 1, 1, 0, false, [some g5, some g0]⟩⟩, ⟨g5, f5, ⟨5, 0, 1, val, true, []⟩⟩] x6 (Nat.le_refl _) (chain_cons le le.lt le.ltf rfl (chain_cons lc lc.lt lc.ltf rfl (chain_one l5 l5.lt l5.ltf rfl rfl) (nxt_crown _ _ _ _ _ _) (fun x hx => by simp at hx; subst hx; show g5 ≠ gc; have := HGG.out; omega)) (nxt_crown _ _ _ _ _ _) (fun x hx => by simp at hx; rcases hx with rfl | rfl; (show gc ≠ ge; have := HGG.out; omega); (show g5 ≠ ge; have := HGG.out; omega))) (by simp) (by simp [kdL, chK]) trivial (Tbs.nil x6) ⟨g5, f5, ⟨5, 0, 1, val, true, []⟩⟩ rfl).mono (fun e w' ⟨q1, _, _, q4⟩ => ⟨by rw [q1]; simp [getA, getN], q4⟩)
  clear hb6 S5 E5 SW2 le lc l5
  go_wp2_with fail
  refine Calls.mono GE.out ?_
  rintro e x7 ⟨rfl, hb7⟩
  have S7 : Hid (NS w key inf wt val tb Bt0 [1, 1] [(ge, fe, ⟨0, 1, 1, 0, false, [some gc, some ger]⟩), (ger, fer, ⟨0, 1, 1, 0, true, []⟩), (gc, fc, ⟨0, 1, 1, 0, false, [some g5, some g0]⟩), (g5, f5, ⟨5, 0, 1, val, true, []⟩), (g0, f0, ⟨0, 1, 1, 0, true, []⟩)] x7) := S6.out.below hb7
  obtain ⟨e2, e3, e4, e5⟩ := S7.out.cs.cells
  have lt7 := S7.out.cs.lt
  have qv : (val != val) = false := by simp
  have le := (S7.out.rc (ge, fe, ⟨0, 1, 1, 0, false, [some gc, some ger]⟩) (by simp))
  have lc := (S7.out.rc (gc, fc, ⟨0, 1, 1, 0, false, [some g5, some g0]⟩) (by simp))
  have l5 := (S7.out.rc (g5, f5, ⟨5, 0, 1, val, true, []⟩) (by simp))
  have GE2 : Hid (Calls Try.prog 32 #[.nilIface, .pointer (some ⟨ge, 0, none⟩), .int .i64 6] x7 fun e w' => e = .returned (.tuple #[.int .i64 0, .bool false]) ∧ Below x7.heap.size x7 w') := (Get_any (gateS_nil 1000000) [] 6 x7.heap.size (fun t ht => ht.elim) [⟨ge, fe, ⟨0, 1, 1, 0, false, [some gc, some ger]⟩⟩, ⟨gc, fc, ⟨0, 1, 1, 0, false, [some g5, some g0]⟩⟩, ⟨g5, f5, ⟨5, 0, 1, val, true, []⟩⟩] x7 (Nat.le_refl _) (chain_cons le le.lt le.ltf rfl (chain_cons lc lc.lt lc.ltf rfl (chain_one l5 l5.lt l5.ltf rfl rfl) (nxt_crown _ _ _ _ _ _) (fun x hx => by simp at hx; subst hx; show g5 ≠ gc; have := HGG.out; omega)) (nxt_crown _ _ _ _ _ _) (fun x hx => by simp at hx; rcases hx with rfl | rfl; (show gc ≠ ge; have := HGG.out; omega); (show g5 ≠ ge; have := HGG.out; omega))) (by simp) (by simp [kdL, chK]) trivial (Tbs.nil x7) ⟨g5, f5, ⟨5, 0, 1, val, true, []⟩⟩ rfl).mono (fun e w' ⟨q1, _, _, q4⟩ => ⟨by rw [q1]; simp [getA, getN], q4⟩)
  clear hb7 S6 GE le lc l5
  go_wp2_with fail
  refine Calls.mono GE2.out ?_
  rintro e x8 ⟨rfl, hb8⟩
  have S8 : Hid (NS w key inf wt val tb Bt0 [1, 1] [(ge, fe, ⟨0, 1, 1, 0, false, [some gc, some ger]⟩), (ger, fer, ⟨0, 1, 1, 0, true, []⟩), (gc, fc, ⟨0, 1, 1, 0, false, [some g5, some g0]⟩), (g5, f5, ⟨5, 0, 1, val, true, []⟩), (g0, f0, ⟨0, 1, 1, 0, true, []⟩)] x8) := S7.out.below hb8
  clear hb8 S7 GE2 e2 e3 e4 e5 lt7
  go_upto_if 243 with fail
  go_cut [] from 239 to 243 (fun wx => wx = x8)
  case first =>
    go_wp2_with fail
    go_meet
    rfl
  case rest =>
    rename_i hK
    refine hK _ _ ?_
    have h1 := HO.out
    have h2 := HE.out
    have h3 := HG.out
    exact next w key inf wt val tb Bt0 ge fe ger fer gc fc g5 f5 g0 f0 wc _ _ _ _ _ _ _ _ _ _ _ _ _ _ _ _ _ _ _ _ _ _ _ _ _ _ _ _ _ _ _ _ _ _ _ _ _ _ _ _ _ _ _ _ _ _ _ _ _ _ _ _ _ _ _ _ _ _ _ _ _ _ _ _ _ _ _ _ _ _ _ _ _ _ _ _ _ _ _ _ _ _ _ _ _ _ _ _ _ _ _ _ _ _ _ _ _ _ _ _ _ _ _ _ _ _ _ _ _ _ _ _ _ _ _ _ _ _ _ _ _ _ _ _ _ _ _ _ _ _ _ _ _ _ _ _ _ _ _ _ _ _ _ _ _ _ _ _ _ _ _ _ _ _ _ _ _ _ _ _ _ _ _ _ _ _ _ _ _ _ _ _ _ _ _ _ _ _ _ _ _ _ _ _ _ _ _ _ _ _ _ _ _ _ _ _ _ _ _ _ _ _ _ _ _ _ _ _ _ _ _ _ _ _ _ _ _ _ _ _ _ _ _ _ _ _ _ _ _ _ _ _ _ _ _ _ _ _ _ _ _ _ _ _ _ _ _ _ _ _ _ _ _ _ _ _ _ _ _ _ _ _ _ _ _ _ _ _ _ _ _ _ _ _ _ _ _ _ _ _ _ _ _ _ _ _ _ _ _ _ _ _ _ _ _ _ _ _ _ _ _ _ _ _ _ _ _ _ _ _ _ _ _ _ _ _ _ _ _ _ _ _ _ _ _ _ _ _ _ _ _ _ _ _ _ _ _ _ _ _ _ _ _ _ _ _ _ _ _ _ _ _ _ _ _ _ _ _ _ _ _ _ _ _ _ _ _ _ _ (by rw [hcut]; exact S8.out) (by omega) (by omega) (by omega) (by omega) (by omega) (by omega) (by omega) (by omega) (by omega)
end Go.Proofs.Ythdfpddijocfkaa




namespace Go.Proofs.Ythdfpddijocfkaa

open Go.RowKit

attribute [local go_sem ↓] Go.wp_at_zero Go.wp_at_succ

set_option maxRecDepth 100000 in
set_option maxHeartbeats 4000000 in
theorem clat22 (next : ClAt30) : ClAt22 := by
  unfold ClAt22
  intro w key inf wt val tb Bt0 ge fe ger fer gc fc g5 f5 g0 f0 X u0 u2 u3 u4 u5 u8 u9 u10 u11 u12 u14 u15 u16 u17 u18 u19 u20 u21 u22 u23 u24 u25 u26 u27 u28 u29 u30 u31 u32 u33 u34 u35 u36 u37 u38 u39 u40 u41 u42 u43 u44 u45 u46 u47 u48 u49 u50 u51 u52 u53 u54 u55 u56 u57 u58 u59 u60 u61 u62 u63 u64 u65 u66 u67 u68 u69 u70 u71 u72 u73 u74 u75 u76 u77 u78 u79 u80 u81 u82 u83 u84 u85 u86 u87 u88 u89 u90 u91 u92 u93 u94 u95 u96 u97 u98 u99 u100 u101 u102 u103 u104 u105 u106 u107 u108 u109 u110 u111 u112 u113 u114 u115 u116 u117 u118 u119 u120 u121 u122 u123 u124 u125 u126 u127 u128 u129 u130 u131 u132 u133 u134 u135 u136 u137 u138 u139 u140 u141 u142 u143 u144 u145 u146 u147 u148 u149 u150 u151 u152 u153 u154 u155 u156 u157 u158 u159 u160 u161 u162 u163 u164 u165 u166 u167 u168 u169 u170 u171 u172 u173 u174 u175 u176 u177 u178 u179 u180 u181 u182 u183 u184 u185 u186 u187 u188 u189 u190 u191 u192 u193 u194 u195 u196 u197 u198 u199 u200 u201 u202 u203 u204 u205 u206 u207 u208 u209 u210 u211 u212 u213 u214 u215 u216 u217 u218 u219 u220 u221 u222 u223 u224 u225 u226 u227 u228 u229 u230 u231 u232 u233 u234 u235 u236 u237 u238 u239 u240 u241 u242 u243 u244 u245 u246 u247 u248 u249 u250 u251 u252 u253 u254 u255 u256 u257 u258 u259 u260 u261 u262 u263 u264 u265 u266 u267 u268 u269 u270 u271 u272 u273 u274 u275 u276 u277 u278 u279 u280 u281 u282 u283 u284 u285 u286 u287 u288 u289 u290 u291 u292 u293 u294 u295 u296 u297 u298 u299 u300 u301 u302 u303 u304 u305 u306 u307 u308 u309 u310 u311 u312 u313 u314 u315 u316 u317 u318 u319 u320 u321 u322 u323 u324 u325 u326 u327 u328 u329 u330 u331 u332 u333 u334 u335 u336 u337 u338 u339 u340 u341 u342 u343 u344 u345 u346 u347 u348 u349 u350 u351 u352 u353 u354 u355 u356 u357 u358 u359 u360 u361 u362 u363 u364 u365 u366 u367 u368 u369 u370 u371 u372 hS o1 o2 o3 o4 o5 p2 p3 p4 p5
  have S0 : Hid (NS w key inf wt val tb Bt0 [1, 1] [(ge, fe, ⟨0, 1, 1, 0, false, [some gc, some ger]⟩), (ger, fer, ⟨0, 1, 1, 0, true, []⟩), (gc, fc, ⟨0, 1, 1, 0, false, [some g5, some g0]⟩), (g5, f5, ⟨5, 0, 1, val, true, []⟩), (g0, f0, ⟨0, 1, 1, 0, true, []⟩)] X) := hS
  have HG : Hid (w.heap.size < fe ∧ ger < ge ∧ ge < g5 ∧ g5 < g0 ∧ g0 < gc ∧ fer < fe ∧ fe < f5 ∧ f5 < f0 ∧ f0 < fc) := ⟨o1, o2, o3, o4, o5, p2, p3, p4, p5⟩
  obtain ⟨e2, e3, e4, e5⟩ := S0.out.cs.cells
  have lt0 := S0.out.cs.lt
  have gt : Hid _ := gateS_nilT tb Bt0 100000 (Nat.le_refl _)
  have le := (S0.out.rc (ge, fe, ⟨0, 1, 1, 0, false, [some gc, some ger]⟩) (by simp))
  have lc := (S0.out.rc (gc, fc, ⟨0, 1, 1, 0, false, [some g5, some g0]⟩) (by simp))
  have l5 := (S0.out.rc (g5, f5, ⟨5, 0, 1, val, true, []⟩) (by simp))
  have PA : Hid (Calls Try.prog 33 #[.iface 64 (.pointer (some ⟨tb, 0, none⟩)), .pointer (some ⟨ge, 0, none⟩), .int .i64 key] X fun e w' => ∃ v, e = .returned v ∧ w'.ownsRow X.heap.size 41 1 v 3 [.pointer (some ⟨ge, 0, none⟩), .pointer (some ⟨gc, 0, none⟩), .pointer (some ⟨g5, 0, none⟩)] ∧ NilTape tb Bt0 [1, 1, 1, 1] w' ∧ Tbs (TOne tb) w' ∧ Bt (TOne tb) X.heap.size X w') := Path_bt gt.out [1, 1] key X.heap.size [⟨ge, fe, ⟨0, 1, 1, 0, false, [some gc, some ger]⟩⟩, ⟨gc, fc, ⟨0, 1, 1, 0, false, [some g5, some g0]⟩⟩, ⟨g5, f5, ⟨5, 0, 1, val, true, []⟩⟩] X (Nat.le_refl _) (chain_cons le le.lt le.ltf rfl (chain_cons lc lc.lt lc.ltf rfl (chain_one l5 l5.lt l5.ltf rfl rfl) (nxt_crown _ _ _ _ _ _) (fun x hx => by simp at hx; subst hx; show g5 ≠ gc; have := HG.out; omega)) (nxt_crown _ _ _ _ _ _) (fun x hx => by simp at hx; rcases hx with rfl | rfl; (show gc ≠ ge; have := HG.out; omega); (show g5 ≠ ge; have := HG.out; omega))) (by simp) (by simp [kdL, chK]) S0.out.nt S0.out.bx
  clear hS o1 o2 o3 o4 o5 p2 p3 p4 p5 le lc l5
  conv => arg 2; whnf
  go_wp2_with fail
  refine Calls.mono PA.out ?_
  rintro e x1 ⟨v1, rfl, ho1, hg1, ht1, hb1⟩
  have S1 : Hid (NS w key inf wt val tb Bt0 [1, 1, 1, 1] [(ge, fe, ⟨0, 1, 1, 0, false, [some gc, some ger]⟩), (ger, fer, ⟨0, 1, 1, 0, true, []⟩), (gc, fc, ⟨0, 1, 1, 0, false, [some g5, some g0]⟩), (g5, f5, ⟨5, 0, 1, val, true, []⟩), (g0, f0, ⟨0, 1, 1, 0, true, []⟩)] x1) := S0.out.bt hb1 hg1 ht1
  have O1 : Hid (x1.ownsRow X.heap.size 41 1 v1 3 [.pointer (some ⟨ge, 0, none⟩), .pointer (some ⟨gc, 0, none⟩), .pointer (some ⟨g5, 0, none⟩)]) := ho1
  clear ho1 hg1 ht1 hb1 S0 PA e2 e3 e4 e5 lt0
  obtain ⟨e2, e3, e4, e5⟩ := S1.out.cs.cells
  have lt1 := S1.out.cs.lt
  have le := (S1.out.rc (ge, fe, ⟨0, 1, 1, 0, false, [some gc, some ger]⟩) (by simp))
  have lc := (S1.out.rc (gc, fc, ⟨0, 1, 1, 0, false, [some g5, some g0]⟩) (by simp))
  have l5 := (S1.out.rc (g5, f5, ⟨5, 0, 1, val, true, []⟩) (by simp))
  have FI : Hid (Calls Try.prog 30 #[.iface 64 (.pointer (some ⟨tb, 0, none⟩)), .pointer (some ⟨ge, 0, none⟩), .int .i64 key] x1 fun e w' => e = .returned (.tuple #[.pointer (some ⟨g5, 0, none⟩), .pointer (some ⟨gc, 0, none⟩), .pointer (some ⟨ge, 0, none⟩)]) ∧ NilTape tb Bt0 [1, 1, 1, 1, 1, 1] w' ∧ Tbs (TOne tb) w' ∧ Bt (TOne tb) x1.heap.size x1 w') := Find_bt gt.out [1, 1, 1, 1] key x1.heap.size [⟨ge, fe, ⟨0, 1, 1, 0, false, [some gc, some ger]⟩⟩, ⟨gc, fc, ⟨0, 1, 1, 0, false, [some g5, some g0]⟩⟩, ⟨g5, f5, ⟨5, 0, 1, val, true, []⟩⟩] x1 (Nat.le_refl _) (chain_cons le le.lt le.ltf rfl (chain_cons lc lc.lt lc.ltf rfl (chain_one l5 l5.lt l5.ltf rfl rfl) (nxt_crown _ _ _ _ _ _) (fun x hx => by simp at hx; subst hx; show g5 ≠ gc; have := HG.out; omega)) (nxt_crown _ _ _ _ _ _) (fun x hx => by simp at hx; rcases hx with rfl | rfl; (show gc ≠ ge; have := HG.out; omega); (show g5 ≠ ge; have := HG.out; omega))) (by simp) (by simp [kdL, chK]) S1.out.nt S1.out.bx
  clear le lc l5
  go_wp2_with fail
  refine Calls.mono FI.out ?_
  rintro e x2 ⟨rfl, hg2, ht2, hb2⟩
  have S2 : Hid (NS w key inf wt val tb Bt0 [1, 1, 1, 1, 1, 1] [(ge, fe, ⟨0, 1, 1, 0, false, [some gc, some ger]⟩), (ger, fer, ⟨0, 1, 1, 0, true, []⟩), (gc, fc, ⟨0, 1, 1, 0, false, [some g5, some g0]⟩), (g5, f5, ⟨5, 0, 1, val, true, []⟩), (g0, f0, ⟨0, 1, 1, 0, true, []⟩)] x2) := S1.out.bt hb2 hg2 ht2
  have O2 := owns_bt hb2 O1.out (by decide) (by decide)
  obtain ⟨gp, cp, rfl, -, -, -, -, hcp, -⟩ := owns_some O2 (by omega)
  have m0 : x2.cell? ⟨gp, 0, none⟩ = some (.pointer (some ⟨ge, 0, none⟩)) := hcp 0 (by omega)
  have m1 : x2.cell? ⟨gp, 1, none⟩ = some (.pointer (some ⟨gc, 0, none⟩)) := hcp 1 (by omega)
  have m2 : x2.cell? ⟨gp, 2, none⟩ = some (.pointer (some ⟨g5, 0, none⟩)) := hcp 2 (by omega)
  have hqe := neqS (S2.out.rc (ge, fe, ⟨0, 1, 1, 0, false, [some gc, some ger]⟩) (by simp)).ok (S2.out.rc (ge, fe, ⟨0, 1, 1, 0, false, [some gc, some ger]⟩) (by simp)).ok false (by simp)
  have hqc := neqS (S2.out.rc (gc, fc, ⟨0, 1, 1, 0, false, [some g5, some g0]⟩) (by simp)).ok (S2.out.rc (gc, fc, ⟨0, 1, 1, 0, false, [some g5, some g0]⟩) (by simp)).ok false (by simp)
  have hq5 := neqS (S2.out.rc (g5, f5, ⟨5, 0, 1, val, true, []⟩) (by simp)).ok (S2.out.rc (g5, f5, ⟨5, 0, 1, val, true, []⟩) (by simp)).ok false (by simp)
  clear hg2 ht2 hb2 S1 O1 O2 hcp FI e2 e3 e4 e5 lt1
  go_wp2_with fail
  refine (kinds_all tb Bt0 [1, 1, 1, 1, 1, 1] x2 S2.out.nt (by simp)).mono ?_
  rintro e x3 ⟨v3, rfl, ho3, hb3⟩
  obtain ⟨a3, c3, g3, rfl, -, -, hs3⟩ := ws_of_owns (L := [1, 1, 1, 1, 1, 1]) ho3
  have S3 : Hid (NS w key inf wt val tb Bt0 [1, 1, 1, 1, 1, 1] [(ge, fe, ⟨0, 1, 1, 0, false, [some gc, some ger]⟩), (ger, fer, ⟨0, 1, 1, 0, true, []⟩), (gc, fc, ⟨0, 1, 1, 0, false, [some g5, some g0]⟩), (g5, f5, ⟨5, 0, 1, val, true, []⟩), (g0, f0, ⟨0, 1, 1, 0, true, []⟩)] x3) := S2.out.below hb3
  have SI : Hid (Calls Try.prog 12 #[.slice a3 6 c3, .slice (some ⟨x3.heap.size, 0, none⟩) 6 6] (x3.alloc (.cells #[.int .i64 1, .int .i64 1, .int .i64 1, .int .i64 1, .int .i64 1, .int .i64 1] 3)) fun e w' => e = .returned (.bool true) ∧ Below (x3.alloc (.cells #[.int .i64 1, .int .i64 1, .int .i64 1, .int .i64 1, .int .i64 1, .int .i64 1] 3)).heap.size (x3.alloc (.cells #[.int .i64 1, .int .i64 1, .int .i64 1, .int .i64 1, .int .i64 1, .int .i64 1] 3)) w') := by
    have := sameInts_any a3 (some ⟨x3.heap.size, 0, none⟩) g3 0 c3 x3.heap.size 0 6 [1, 1, 1, 1, 1, 1] [1, 1, 1, 1, 1, 1] (x3.alloc (.cells (isC [1, 1, 1, 1, 1, 1]).toArray 3)) (hs3.below (below_alloc _ _)) (ws_litN x3 [1, 1, 1, 1, 1, 1] 3 (by decide))
    rw [isSelf] at this
    exact this
  have S3' : Hid (NS w key inf wt val tb Bt0 [1, 1, 1, 1, 1, 1] [(ge, fe, ⟨0, 1, 1, 0, false, [some gc, some ger]⟩), (ger, fer, ⟨0, 1, 1, 0, true, []⟩), (gc, fc, ⟨0, 1, 1, 0, false, [some g5, some g0]⟩), (g5, f5, ⟨5, 0, 1, val, true, []⟩), (g0, f0, ⟨0, 1, 1, 0, true, []⟩)] (x3.alloc (.cells #[.int .i64 1, .int .i64 1, .int .i64 1, .int .i64 1, .int .i64 1, .int .i64 1] 3))) := S3.out.below (below_alloc _ _)
  clear ho3 hs3 hb3 S2 S3 m0 m1 m2 hqe hqc hq5
  go_wp2_with fail
  refine Calls.mono SI.out ?_
  rintro e x4 ⟨rfl, hb4⟩
  have S4 : Hid (NS w key inf wt val tb Bt0 [1, 1, 1, 1, 1, 1] [(ge, fe, ⟨0, 1, 1, 0, false, [some gc, some ger]⟩), (ger, fer, ⟨0, 1, 1, 0, true, []⟩), (gc, fc, ⟨0, 1, 1, 0, false, [some g5, some g0]⟩), (g5, f5, ⟨5, 0, 1, val, true, []⟩), (g0, f0, ⟨0, 1, 1, 0, true, []⟩)] x4) := S3'.out.below hb4
  clear hb4 S3' SI
  go_wp2_with fail
  refine (leafR 6 0 1 60 _).mono ?_
  rintro e x5 ⟨g6, f6, rfl, a1, a2, a3, a4⟩
  have S5 : Hid (NS w key inf wt val tb Bt0 [1, 1, 1, 1, 1, 1] [(g6, f6, ⟨6, 0, 1, 60, true, []⟩), (ge, fe, ⟨0, 1, 1, 0, false, [some gc, some ger]⟩), (ger, fer, ⟨0, 1, 1, 0, true, []⟩), (gc, fc, ⟨0, 1, 1, 0, false, [some g5, some g0]⟩), (g5, f5, ⟨5, 0, 1, val, true, []⟩), (g0, f0, ⟨0, 1, 1, 0, true, []⟩)] x5) := S4.out.push a4 (g6, f6, ⟨6, 0, 1, 60, true, []⟩) a3
  have H6 : Hid (gc < g6 ∧ fc < f6) := ⟨Nat.lt_of_lt_of_le (S4.out.rc (gc, fc, ⟨0, 1, 1, 0, false, [some g5, some g0]⟩) (by simp)).lt a1, Nat.lt_of_lt_of_le (S4.out.rc (gc, fc, ⟨0, 1, 1, 0, false, [some g5, some g0]⟩) (by simp)).ltf a2⟩
  have N5 : Hid (RcAt x5 gc fc ⟨0, 1, 1, 0, false, [some g5, some g0]⟩) := S5.out.rc (gc, fc, ⟨0, 1, 1, 0, false, [some g5, some g0]⟩) (by simp)
  have SW : Hid (Calls Try.prog 31 #[.pointer (some ⟨gc, 0, none⟩), .nilIface, .int .i64 0, .pointer (some ⟨g5, 0, none⟩), .pointer (some ⟨g6, 0, none⟩)] x5 fun e w' => e = .returned (.bool true) ∧ RcAt w' gc fc ⟨0, 1, 1, 0, false, [some g6, some g0]⟩ ∧ x5.grownBy w' (some fc)) := swingHit gc fc ⟨0, 1, 1, 0, false, [some g5, some g0]⟩ 0 (some g6) x5 N5.out (by simp) (by simp) (S5.out.rc (g5, f5, ⟨5, 0, 1, val, true, []⟩) (by simp)).ok (S5.out.rc (g6, f6, ⟨6, 0, 1, 60, true, []⟩) (by simp)).ok
  clear a1 a2 a3 a4 S4
  go_wp2_with fail
  refine Calls.mono SW.out ?_
  rintro e x6 ⟨rfl, hr6, hg6⟩
  have S6 : Hid (NS w key inf wt val tb Bt0 [1, 1, 1, 1, 1, 1] [(gc, fc, ⟨0, 1, 1, 0, false, [some g6, some g0]⟩), (g6, f6, ⟨6, 0, 1, 60, true, []⟩), (ge, fe, ⟨0, 1, 1, 0, false, [some gc, some ger]⟩), (ger, fer, ⟨0, 1, 1, 0, true, []⟩), (g5, f5, ⟨5, 0, 1, val, true, []⟩), (g0, f0, ⟨0, 1, 1, 0, true, []⟩)] x6) := (S5.out.sub (gs := [(g6, f6, ⟨6, 0, 1, 60, true, []⟩), (ge, fe, ⟨0, 1, 1, 0, false, [some gc, some ger]⟩), (ger, fer, ⟨0, 1, 1, 0, true, []⟩), (g5, f5, ⟨5, 0, 1, val, true, []⟩), (g0, f0, ⟨0, 1, 1, 0, true, []⟩)]) (fun x hx => by simp only [List.mem_cons, List.not_mem_nil, or_false] at hx; rcases hx with rfl | rfl | rfl | rfl | rfl <;> simp)).swing N5.out (by have := HG.out; omega) hg6 ⟨0, 1, 1, 0, false, [some g6, some g0]⟩ hr6 (fun x hx => by
    have h1 := HG.out
    have h2 := H6.out
    simp only [List.mem_cons, List.not_mem_nil, or_false] at hx
    rcases hx with rfl | rfl | rfl | rfl | rfl
    · show f6 ≠ fc; omega
    · show fe ≠ fc; omega
    · show fer ≠ fc; omega
    · show f5 ≠ fc; omega
    · show f0 ≠ fc; omega)
  have le := (S6.out.rc (ge, fe, ⟨0, 1, 1, 0, false, [some gc, some ger]⟩) (by simp))
  have lc := (S6.out.rc (gc, fc, ⟨0, 1, 1, 0, false, [some g6, some g0]⟩) (by simp))
  have l5 := (S6.out.rc (g6, f6, ⟨6, 0, 1, 60, true, []⟩) (by simp))
  have GE : Hid (Calls Try.prog 32 #[.nilIface, .pointer (some ⟨ge, 0, none⟩), .int .i64 6] x6 fun e w' => e = .returned (.tuple #[.int .i64 60, .bool true]) ∧ Below x6.heap.size x6 w') := (Get_any (gateS_nil 1000000) [] 6 x6.heap.size (fun t ht => ht.elim) [⟨ge, fe, ⟨0, 1, 1, 0, false, [some gc, some ger]⟩⟩, ⟨gc, fc, ⟨0, 1, 1, 0, false, [some g6, some g0]⟩⟩, ⟨g6, f6, ⟨6, 0, 1, 60, true, []⟩⟩] x6 (Nat.le_refl _) (chain_cons le le.lt le.ltf rfl (chain_cons lc lc.lt lc.ltf rfl (chain_one l5 l5.lt l5.ltf rfl rfl) (nxt_crown _ _ _ _ _ _) (fun x hx => by simp at hx; subst hx; show g6 ≠ gc; have := H6.out; omega)) (nxt_crown _ _ _ _ _ _) (fun x hx => by simp at hx; rcases hx with rfl | rfl; (show gc ≠ ge; have := HG.out; omega); (show g6 ≠ ge; have := HG.out; have := H6.out; omega))) (by simp) (by simp [kdL, chK]) trivial (Tbs.nil x6) ⟨g6, f6, ⟨6, 0, 1, 60, true, []⟩⟩ rfl).mono (fun e w' ⟨q1, _, _, q4⟩ => ⟨by rw [q1]; simp [getA, getN], q4⟩)
  clear hr6 hg6 S5 N5 SW le lc l5
  go_wp2_with fail
  refine Calls.mono GE.out ?_
  rintro e x7 ⟨rfl, hb7⟩
  have S7 : Hid (NS w key inf wt val tb Bt0 [1, 1, 1, 1, 1, 1] [(gc, fc, ⟨0, 1, 1, 0, false, [some g6, some g0]⟩), (g6, f6, ⟨6, 0, 1, 60, true, []⟩), (ge, fe, ⟨0, 1, 1, 0, false, [some gc, some ger]⟩), (ger, fer, ⟨0, 1, 1, 0, true, []⟩), (g5, f5, ⟨5, 0, 1, val, true, []⟩), (g0, f0, ⟨0, 1, 1, 0, true, []⟩)] x7) := S6.out.below hb7
  have le : RcAt x7 ge fe ⟨0, 1, 1, 0, false, [some gc, some ger]⟩ := S7.out.rc (ge, fe, ⟨0, 1, 1, 0, false, [some gc, some ger]⟩) (by simp)
  have lc : RcAt x7 gc fc ⟨0, 1, 1, 0, false, [some g6, some g0]⟩ := S7.out.rc (gc, fc, ⟨0, 1, 1, 0, false, [some g6, some g0]⟩) (by simp)
  have l6 : RcAt x7 g6 f6 ⟨6, 0, 1, 60, true, []⟩ := S7.out.rc (g6, f6, ⟨6, 0, 1, 60, true, []⟩) (by simp)
  have l0 : RcAt x7 g0 f0 ⟨0, 1, 1, 0, true, []⟩ := S7.out.rc (g0, f0, ⟨0, 1, 1, 0, true, []⟩) (by simp)
  have lr : RcAt x7 ger fer ⟨0, 1, 1, 0, true, []⟩ := S7.out.rc (ger, fer, ⟨0, 1, 1, 0, true, []⟩) (by simp)
  have RR : Hid (Calls Try.prog 28 #[.nilIface, .pointer (some ⟨ge, 0, none⟩)] x7 fun e w' => ∃ v, e = .returned (.tuple #[v, .int .i64 0]) ∧ w'.ownsRow x7.heap.size 81 6 v 5 (ndCells sT) ∧ Below x7.heap.size x7 w') := (ReadT (gateS_nil 1000000) [] x7.heap.size (fun t ht => ht.elim) sB (by decide) (lay_ok sB_ok (by decide)) _ _ x7 (Nat.le_refl _) (s_nds le lc l6 l0 lr (by have h1 := HG.out; have h2 := H6.out; simp; omega) (fun x hx => by
    have h1 := le.lt; have h2 := le.ltf; have h3 := lc.lt; have h4 := lc.ltf; have h5 := l6.lt; have h6 := l6.ltf; have h7 := l0.lt; have h8 := l0.ltf; have h9 := lr.lt; have h10 := lr.ltf
    simp only [List.mem_cons, List.not_mem_nil, or_false] at hx
    omega)) (by have h1 := trK_le (T := sB.lay 0) sB.size; have h2 : sB.size = 5 := rfl; simp; omega) trivial (Tbs.nil x7)).mono (fun e w' ⟨v, q1, q2, _, _, q3⟩ => ⟨v, q1, q2, q3⟩)
  clear hb7 S6 GE le lc l6 l0 lr
  go_wp2_with fail
  refine Calls.mono RR.out ?_
  rintro e x8 ⟨v8, rfl, ho8, hb8⟩
  obtain ⟨gp8, cp8, rfl, -, -, -, -, hc8, -⟩ := owns_some ho8 (by omega)
  have S8 : Hid (NS w key inf wt val tb Bt0 [1, 1, 1, 1, 1, 1] [(gc, fc, ⟨0, 1, 1, 0, false, [some g6, some g0]⟩), (g6, f6, ⟨6, 0, 1, 60, true, []⟩), (ge, fe, ⟨0, 1, 1, 0, false, [some gc, some ger]⟩), (ger, fer, ⟨0, 1, 1, 0, true, []⟩), (g5, f5, ⟨5, 0, 1, val, true, []⟩), (g0, f0, ⟨0, 1, 1, 0, true, []⟩)] x8) := S7.out.below hb8
  have m12 : x8.cell? ⟨gp8, 12, none⟩ = some (.int .i64 6) := hc8 12 (by omega)
  have m15 : x8.cell? ⟨gp8, 15, none⟩ = some (.int .i64 60) := hc8 15 (by omega)
  clear ho8 hb8 hc8 S7 RR
  go_upto_if 345 with fail
  go_cut [] from 317 to 345 (fun wx => wx = x8)
  case first =>
    go_wp2_with fail
    go_meet
    rfl
  case rest =>
    rename_i hK
    refine hK _ _ ?_
    exact next w key inf wt val g6 f6 wc _ _ _ _ _ _ _ _ _ _ _ _ _ _ _ _ _ _ _ _ _ _ _ _ _ _ _ _ _ _ _ _ _ _ _ _ _ _ _ _ _ _ _ _ _ _ _ _ _ _ _ _ _ _ _ _ _ _ _ _ _ _ _ _ _ _ _ _ _ _ _ _ _ _ _ _ _ _ _ _ _ _ _ _ _ _ _ _ _ _ _ _ _ _ _ _ _ _ _ _ _ _ _ _ _ _ _ _ _ _ _ _ _ _ _ _ _ _ _ _ _ _ _ _ _ _ _ _ _ _ _ _ _ _ _ _ _ _ _ _ _ _ _ _ _ _ _ _ _ _ _ _ _ _ _ _ _ _ _ _ _ _ _ _ _ _ _ _ _ _ _ _ _ _ _ _ _ _ _ _ _ _ _ _ _ _ _ _ _ _ _ _ _ _ _ _ _ _ _ _ _ _ _ _ _ _ _ _ _ _ _ _ _ _ _ _ _ _ _ _ _ _ _ _ _ _ _ _ _ _ _ _ _ _ _ _ _ _ _ _ _ _ _ _ _ _ _ _ _ _ _ _ _ _ _ _ _ _ _ _ _ _ _ _ _ _ _ _ _ _ _ _ _ _ _ _ _ _ _ _ _ _ _ _ _ _ _ _ _ _ _ _ _ _ _ _ _ _ _ _ _ _ _ _ _ _ _ _ _ _ _ _ _ _ _ _ _ _ _ _ _ _ _ _ _ _ _ _ _ _ _ _ _ _ _ _ _ _ _ _ _ _ _ _ _ _ _ _ _ _ _ _ _ _ _ _ _ _ _ _ _ _ _ _ _ _ _ _ _ _ _ _ (by rw [hcut]; exact S8.out.cs) (by rw [hcut]; exact S8.out.rc (g6, f6, ⟨6, 0, 1, 60, true, []⟩) (by simp))
end Go.Proofs.Ythdfpddijocfkaa




namespace Go.Proofs.Ythdfpddijocfkaa

open Go.RowKit

attribute [local go_sem ↓] Go.wp_at_zero Go.wp_at_succ

set_option maxRecDepth 100000 in
set_option maxHeartbeats 4000000 in
theorem clat30 : ClAt30 := by
  unfold ClAt30
  intro w key inf wt val g6 f6 X u0 u1 u2 u3 u4 u5 u6 u7 u8 u9 u10 u11 u12 u13 u14 u15 u16 u17 u18 u20 u21 u22 u23 u24 u25 u26 u27 u28 u29 u30 u31 u32 u33 u34 u35 u36 u37 u38 u39 u40 u41 u42 u43 u44 u45 u46 u47 u48 u49 u50 u51 u52 u53 u54 u55 u56 u57 u58 u59 u60 u61 u62 u63 u64 u65 u66 u67 u68 u69 u70 u71 u72 u73 u74 u75 u76 u77 u78 u79 u80 u81 u82 u83 u84 u85 u86 u87 u88 u89 u90 u91 u92 u93 u94 u95 u96 u97 u98 u99 u100 u101 u102 u103 u104 u105 u106 u107 u108 u109 u110 u111 u112 u113 u114 u115 u116 u117 u118 u119 u120 u121 u122 u123 u124 u125 u126 u127 u128 u129 u130 u131 u132 u133 u134 u135 u136 u137 u138 u139 u140 u141 u142 u143 u144 u145 u146 u147 u148 u149 u150 u151 u152 u153 u154 u155 u156 u157 u158 u159 u160 u161 u162 u163 u164 u165 u166 u167 u168 u169 u170 u171 u172 u173 u174 u175 u176 u177 u178 u179 u180 u181 u182 u183 u184 u185 u186 u187 u188 u189 u190 u191 u192 u193 u194 u195 u196 u197 u198 u199 u200 u201 u202 u203 u204 u205 u206 u207 u208 u209 u210 u211 u212 u213 u214 u215 u216 u217 u218 u219 u220 u221 u222 u223 u224 u225 u226 u227 u228 u229 u230 u231 u232 u233 u234 u235 u236 u237 u238 u239 u240 u241 u242 u243 u244 u245 u246 u247 u248 u249 u250 u251 u252 u253 u254 u255 u256 u257 u258 u259 u260 u261 u262 u263 u264 u265 u266 u267 u268 u269 u270 u271 u272 u273 u274 u275 u276 u277 u278 u279 u280 u281 u282 u283 u284 u285 u286 u287 u288 u289 u290 u291 u292 u293 u294 u295 u296 u297 u298 u299 u300 u301 u302 u303 u304 u305 u306 u307 u308 u309 u310 u311 u312 u313 u314 u315 u316 u317 u318 u319 u320 u321 u322 u323 u324 u325 u326 u327 u328 u329 u330 u331 u332 u333 u334 u335 u336 u337 u338 u339 u340 u341 u342 u343 u344 u345 u346 u347 u348 u349 u350 u351 u352 u353 u354 u355 u356 u357 u358 u359 u360 u361 u362 u363 u364 u365 u366 u367 u368 u369 u370 u371 u372 hC h6
  have C0 : Hid (CS w key inf wt val X) := hC
  have N0 : Hid (RcAt X g6 f6 ⟨6, 0, 1, 60, true, []⟩) := h6
  clear hC h6
  conv => arg 2; whnf
  go_wp2_with fail
  refine (read_nil _).mono ?_
  rintro e x1 ⟨rfl, hx1⟩
  subst hx1
  have HI : Hid _ := innerR 1 0 1 (some g6) (some g6) x1 N0.out.lies N0.out.lies
  unfold ptrO at HI
  simp only [Option.map_some] at HI
  go_wp2_with fail
  refine Calls.mono HI.out ?_
  rintro e x2 ⟨g, f, rfl, a1, a2, a3, a4⟩
  have C2 : Hid (CS w key inf wt val x2) := C0.out.below a4
  have N2 : Hid (RcAt x2 g6 f6 ⟨6, 0, 1, 60, true, []⟩) := N0.out.below a4
  have RT : Hid _ := read_twice g f g6 f6 1 0 1 6 0 1 60 x2 a3 N2.out (by have := N0.out.lt; omega)
  clear a1 a2 a3 a4 HI C0 N0
  go_wp2_with fail
  refine Calls.mono RT.out ?_
  rintro e x3 ⟨rfl, hb3⟩
  have C3 : Hid (CS w key inf wt val x3) := C2.out.below hb3
  have N3 : Hid (RcAt x3 g6 f6 ⟨6, 0, 1, 60, true, []⟩) := N2.out.below hb3
  have HI : Hid _ := innerR 1 0 1 none (some g6) x3 (fun q e => by cases e) N3.out.lies
  unfold ptrO at HI
  simp only [Option.map_some, Option.map_none] at HI
  clear hb3 RT C2 N2
  go_wp2_with fail
  refine Calls.mono HI.out ?_
  rintro e x4 ⟨g', f', rfl, b1, b2, b3, b4⟩
  have C4 : Hid (CS w key inf wt val x4) := C3.out.below b4
  have N4 : Hid (RcAt x4 g6 f6 ⟨6, 0, 1, 60, true, []⟩) := N3.out.below b4
  have RT : Hid _ := read_hole g' f' g6 f6 1 0 1 6 0 1 60 x4 b3 N4.out (by have := N3.out.lt; omega)
  clear b1 b2 b3 b4 HI C3 N3
  go_wp2_with fail
  refine Calls.mono RT.out ?_
  rintro e x5 ⟨rfl, hb5⟩
  have C5 : Hid (CS w key inf wt val x5) := C4.out.below hb5
  clear hb5 RT C4 N4
  go_wp2_with fail
  go_ret
  exact ⟨rfl, C5.out.bl⟩
end Go.Proofs.Ythdfpddijocfkaa








namespace Go.Proofs.Ythdfpddijocfkaa

open Go.RowKit

attribute [local go_sem ↓] Go.wp_at_zero Go.wp_at_succ

theorem cl6 : ClAt6 := clat6 (clat9 (clat17 (clat22 clat30)))
set_option maxRecDepth 100000 in
set_option maxHeartbeats 4000000 in
theorem nodeCalls_any (v0 v1 : Value) (key inf wt val : Int) (w : World) :
    Calls Try.prog 4 #[.agg #[v0, v1, .int .i64 key, .int .i64 inf, .int .i64 wt, .int .i64 val]] w fun e w' => e = .returned (.bool true) ∧ Below w.heap.size w w' := by
  generalize hW1 : w.alloc (.cells #[v0, v1, .int .i64 key, .int .i64 inf, .int .i64 wt, .int .i64 val] 25) = W1
  have C1 : Hid (CS w key inf wt val W1) := ⟨⟨v0, v1, _, by rw [← hW1]; exact heap_alloc_at _ _ _ rfl⟩, by rw [← hW1]; exact below_alloc _ _⟩
  go_enter Try.func4, Try.ntmps4
  go_wp2_with fail
  clear hW1
  refine (nfix_any _).mono ?_
  rintro e w2 ⟨rfl, hb2⟩
  have C2 : Hid (CS w key inf wt val w2) := C1.out.below hb2
  obtain ⟨e2, e3, e4, e5⟩ := C2.out.cells
  have lt2 := C2.out.lt
  clear hb2 C1
  go_wp2_with fail
  refine (leafR key inf wt val _).mono ?_
  rintro e w3 ⟨gl, fl, rfl, l1, l2, l3, l4⟩
  have L3 : Hid (RcAt w3 gl fl ⟨key, inf, wt, val, true, []⟩) := l3
  have C3 : Hid (CS w key inf wt val w3) := C2.out.below l4
  have q3 := l4.size
  have hl3 := l3.lt
  have hf3 := l3.ltf
  clear l3 l4 e2 e3 e4 e5
  go_wp2_with fail
  refine (leafR 1 0 2 3 _).mono ?_
  rintro e w4 ⟨gr, fr, rfl, r1, r2, r3, r4⟩
  have L4 : Hid (RcAt w4 gl fl ⟨key, inf, wt, val, true, []⟩) := L3.out.below r4
  have R4 : Hid (RcAt w4 gr fr ⟨1, 0, 2, 3, true, []⟩) := r3
  have C4 : Hid (CS w key inf wt val w4) := C3.out.below r4
  have q4 := r4.size
  have hl4 := r3.lt
  have hf4 := r3.ltf
  obtain ⟨e2, e3, e4, e5⟩ := C4.out.cells
  have lt4 := C4.out.lt
  have HI : Hid _ := innerR key inf wt (some gl) (some gr) w4 L4.out.lies R4.out.lies
  unfold ptrO at HI
  simp only [Option.map_some] at HI
  clear r3 r4 L3
  go_wp2_with fail
  refine Calls.mono HI.out ?_
  rintro e w5 ⟨gn, fn, rfl, i1, i2, i3, i4⟩
  have L5 : Hid (RcAt w5 gl fl ⟨key, inf, wt, val, true, []⟩) := L4.out.below i4
  have R5 : Hid (RcAt w5 gr fr ⟨1, 0, 2, 3, true, []⟩) := R4.out.below i4
  have N5 : Hid (RcAt w5 gn fn ⟨key, inf, wt, 0, false, [some gl, some gr]⟩) := i3
  have C5 : Hid (CS w key inf wt val w5) := C4.out.below i4
  have q5 := i4.size
  have hq := eqlS L5.out.ok R5.out.ok false (decide_eq_false (by omega))
  have RL1 : Hid (Calls Try.prog 21 #[.pointer (some ⟨gl, 0, none⟩)] w5 fun e w' => e = .returned (.int .i64 0) ∧ w' = w5) := rLen_any gl fl _ w5 L5.out
  have RL2 : Hid (Calls Try.prog 21 #[.pointer (some ⟨gn, 0, none⟩)] w5 fun e w' => e = .returned (.int .i64 2) ∧ w' = w5) := rLen_any gn fn _ w5 N5.out
  clear i3 i4 HI e2 e3 e4 e5
  go_wp2_with fail
  refine Calls.mono RL1.out ?_
  rintro e w6 ⟨rfl, hw6⟩
  rw [hw6]
  clear hw6 w6
  go_wp2_with fail
  refine Calls.mono RL2.out ?_
  rintro e w6 ⟨rfl, hw6⟩
  rw [hw6]
  clear hw6 w6
  obtain ⟨e2, e3, e4, e5⟩ := C5.out.cells
  have lt5 := C5.out.lt
  obtain ⟨a0, a1, a2, a3, a4, -⟩ := L5.out.cells
  obtain ⟨b0, b1, b2, b3, b4, -⟩ := N5.out.cells
  have ll5 := L5.out.lt
  have ln5 := N5.out.lt
  have z2 := BelowBy.cell lt5 e2
  have z3 := BelowBy.cell lt5 e3
  have z4 := BelowBy.cell lt5 e4
  have z5 := BelowBy.cell lt5 e5
  have x0 := BelowBy.cell ll5 a0
  have x1 := BelowBy.cell ll5 a1
  have x2 := BelowBy.cell ll5 a2
  have x3 := BelowBy.cell ll5 a3
  have x4 := BelowBy.cell ll5 a4
  have y0 := BelowBy.cell ln5 b0
  have y1 := BelowBy.cell ln5 b1
  have y2 := BelowBy.cell ln5 b2
  have y3 := BelowBy.cell ln5 b3
  have y4 := BelowBy.cell ln5 b4
  clear hq e2 e3 e4 e5 a0 a1 a2 a3 a4 b0 b1 b2 b3 b4 RL1 RL2
  go_wp2_with fail
  refine wp_region_below (by kernel_rfl) (by kernel_rfl) ?_
  repeat (go_big_quiet_step (fail))
  refine wpQuiet_nil ?_
  rintro _ ⟨p, rfl⟩
  have PB : Hid (Below w5.heap.size w5 p.W) := p.h
  clear x0 x1 x2 x3 x4 y0 y1 y2 y3 y4 z2 z3 z4 z5
  generalize p.W = Z at *
  go_upto_if 97 with fail
  go_cut [] from 24 to 97 (fun wx => Below w5.heap.size w5 wx)
  case first =>
    go_wp2_with fail
    go_meet
    exact PB.out
  case rest =>
    rename_i hK
    refine hK _ _ ?_
    exact cl6 w key inf wt val gl fl gr fr gn fn wc _ _ _ _ _ _ _ _ _ _ _ _ _ _ _ _ _ _ _ _ _ _ _ _ _ _ _ _ _ _ _ _ _ _ _ _ _ _ _ _ _ _ _ _ _ _ _ _ _ _ _ _ _ _ _ _ _ _ _ _ _ _ _ _ _ _ _ _ _ _ _ _ _ _ _ _ _ _ _ _ _ _ _ _ _ _ _ _ _ _ _ _ _ _ _ _ _ _ _ _ _ _ _ _ _ _ _ _ _ _ _ _ _ _ _ _ _ _ _ _ _ _ _ _ _ _ _ _ _ _ _ _ _ _ _ _ _ _ _ _ _ _ _ _ _ _ _ _ _ _ _ _ _ _ _ _ _ _ _ _ _ _ _ _ _ _ _ _ _ _ _ _ _ _ _ _ _ _ _ _ _ _ _ _ _ _ _ _ _ _ _ _ _ _ _ _ _ _ _ _ _ _ _ _ _ _ _ _ _ _ _ _ _ _ _ _ _ _ _ _ _ _ _ _ _ _ _ _ _ _ _ _ _ _ _ _ _ _ _ _ _ _ _ _ _ _ _ _ _ _ _ _ _ _ _ _ _ _ _ _ _ _ _ _ _ _ _ _ _ _ _ _ _ _ _ _ _ _ _ _ _ _ _ _ _ _ _ _ _ _ _ _ _ _ _ _ _ _ _ _ _ _ _ _ _ _ _ _ _ _ _ _ _ _ _ _ _ _ _ _ _ _ _ _ _ _ _ _ _ _ _ _ _ _ _ _ _ _ _ _ _ _ _ _ _ _ _ _ _ _ _ _ _ _ _ _ _ _ _ _ _ _ _ _ _ _ _ _ _ (C5.out.below hcut) (L5.out.below hcut) (R5.out.below hcut) (N5.out.below hcut) (by omega) (by omega) (by omega) (by omega) (by omega)
end Go.Proofs.Ythdfpddijocfkaa







namespace Go.Proofs.Ythdfpddijocfkaa

open Go.ChangeShapes Go.WideShapes Go.ChangeAt Go.RowKit Go.Deep

theorem struct6x {P : Program} {H : Type} {enc : TypeId × Value → H} {w : World} {base : Nat} {spare : Nat → Bool} {held : Bool} {t : TypeId} {f0 f1 f2 f3 f4 f5 : Field} {fuel : Nat} {cs : List Value} {x : DataW H × List MemPlace} (ht : P.underlying t = some (.struct #[f0, f1, f2, f3, f4, f5])) (h : DataW.trod enc P w base spare held fuel t cs = some x) :
    ∃ y0 y1 y2 y3 y4 y5 n, x.1 = .agg [y0.1, y1.1, y2.1, y3.1, y4.1, y5.1] ∧ cs.length = P.cellsOf t ∧ DataW.trod enc P w base spare held n f0.type ((cs.drop f0.offset).take (P.cellsOf f0.type)) = some y0 ∧
      DataW.trod enc P w base spare held n f1.type ((cs.drop f1.offset).take (P.cellsOf f1.type)) = some y1 ∧ DataW.trod enc P w base spare held n f2.type ((cs.drop f2.offset).take (P.cellsOf f2.type)) = some y2 ∧
      DataW.trod enc P w base spare held n f3.type ((cs.drop f3.offset).take (P.cellsOf f3.type)) = some y3 ∧ DataW.trod enc P w base spare held n f4.type ((cs.drop f4.offset).take (P.cellsOf f4.type)) = some y4 ∧ DataW.trod enc P w base spare held n f5.type ((cs.drop f5.offset).take (P.cellsOf f5.type)) = some y5 := by
  obtain ⟨xs, n, _, rfl, hl, hlen, hf⟩ := DataW.trod_struct ht h
  match xs, hlen with
  | [y0, y1, y2, y3, y4, y5], _ => exact ⟨y0, y1, y2, y3, y4, y5, n, by simp, hl, by simpa using hf 0 f0 rfl, by simpa using hf 1 f1 rfl, by simpa using hf 2 f2 rfl, by simpa using hf 3 f3 rfl, by simpa using hf 4 f4 rfl, by simpa using hf 5 f5 rfl⟩
theorem nccase : Try.prog.cellsOf 25 = 6 := by kernel_rfl
section

variable {H : Type} {enc : TypeId × Value → H} {w : World}

theorem open_ks {n : Nat} {cs : List Value} {x : DataW H × List MemPlace} (h : DataW.trod enc Try.prog w 0 (fun _ => true) true n 23 cs = some x) :
    ∃ (a0 : Option Addr) (cap g o : Nat) (L : List Int), cs = [.slice a0 L.length cap] ∧ WsAt w a0 g o L ∧ (a0 = none → L.length = 0 ∧ cap = 0) ∧ L.length ≤ cap ∧ ((x.1.weights Try.prog 23).all (· ≤ reachBytes) = true → L.length * 8 ≤ 140737488351232) := by
  rcases open_slice Try.underlying23 h with ⟨hcs, _⟩ | ⟨a, len, cap, m, n, D, Pl, hcs, _, hl, hm, hme, hx, hel⟩
  · exact ⟨none, 0, 0, 0, [], by simpa using hcs, ⟨fun h => absurd rfl h, fun h => absurd rfl h, fun i hi => by simp at hi, by simp⟩, fun _ => ⟨rfl, rfl⟩, Nat.le_refl _, fun _ => by simp⟩
  · simp at hme
    subst hme
    have hw : ∀ k, k ≤ len → (x.1.weights Try.prog 23).all (· ≤ reachBytes) = true → k * 8 ≤ 140737488351232 := by
      intro k hk hwt
      rw [hx] at hwt
      simp only [DataW.weights, Try.underlying23, bin, List.all_cons, Bool.and_eq_true, decide_eq_true_eq] at hwt
      have := hwt.1
      simp [reachBytes] at this
      omega
    by_cases hlen : len = 0
    · subst hlen
      exact ⟨some a, m, 0, 0, [], hcs, ⟨fun h => absurd rfl h, fun h => absurd rfl h, fun i hi => by simp at hi, by simp⟩, (fun h => by cases h), Nat.zero_le _, fun _ => by simp⟩
    · have key : ∀ i, i < m → ∃ d : Int, w.cell? (a.add i) = some (.int .i64 d) := by
        intro i hi
        obtain ⟨cs, h1, h2⟩ := hel i hi
        rw [ci] at h1
        obtain ⟨a0, e0, _, _⟩ := DataW.trod_int Try.underlying3 h2
        subst e0
        obtain ⟨_, _, hcell⟩ := World.cells?_some h1
        have e0 := hcell 0 (by omega)
        rw [Deep.add_add] at e0
        exact ⟨a0, by simpa using e0⟩
      obtain ⟨f, hf⟩ := choose_lt key
      obtain ⟨b, o, s⟩ := a
      have hs : s = none := by
        have := hf 0 (by omega)
        simpa [Addr.add] using World.cell?_spot this
      subst hs
      simp only [addr_add'] at hf
      have e : ((List.range len).map f).length = len := by simp
      refine ⟨_, m, b, o, (List.range len).map f, by rw [e]; exact hcs, ⟨fun _ => rfl, fun _ => ?_, fun i hi => ?_, by simp; omega⟩, (fun h => by cases h), by rw [e]; omega, fun hwt => by rw [e]; exact hw len (Nat.le_refl _) hwt⟩
      · exact World.block_lt_of_cell? w _ (hf 0 (by omega))
      · simp at hi
        rw [hf i (by omega)]
        simp [List.getD_eq_getElem?_getD, List.getElem?_range hi]
theorem open_ncase {n : Nat} {cs : List Value} {x : DataW H × List MemPlace} (h : DataW.trod enc Try.prog w 0 (fun _ => true) true n 25 cs = some x) (hwt : (x.1.weights Try.prog 25).all (· ≤ reachBytes) = true) :
    ∃ (bT bw : Option Addr) (cT b o cw gw ow : Nat) (t : NL) (W : List Int) (a b' c d : Int), cs = [.slice bT t.length cT, .slice bw W.length cw, .int .i64 a, .int .i64 b', .int .i64 c, .int .i64 d] ∧ NodesAt w bT b o t ∧ (bT = none → t.length = 0 ∧ cT = 0) ∧ t.length * 48 ≤ 140737488351232 ∧ WsAt w bw gw ow W ∧ (bw = none → W.length = 0 ∧ cw = 0) ∧ W.length ≤ cw ∧ W.length * 8 ≤ 140737488351232 := by
  obtain ⟨y0, y1, y2, y3, y4, y5, m, hx, hl, g0, g1, g2, g3, g4, g5⟩ := struct6x Try.underlying25 h
  rw [nccase] at hl
  simp only [ci, cns, cis] at g0 g1 g2 g3 g4 g5
  rw [hx] at hwt
  simp only [DataW.weights, Try.underlying25, DataW.weightsEach, List.map_cons, List.map_nil, List.all_append, Bool.and_eq_true] at hwt
  match cs, hl with
  | [v0, v1, v2, v3, v4, v5], _ =>
    simp at g0 g1 g2 g3 g4 g5
    obtain ⟨bT, cT, b, o, t, e0, h1, h2, h3⟩ := open_nodes g0
    obtain ⟨bw, cw, gw, ow, W, e1, h4, h5, h5b, h6⟩ := open_ks g1
    obtain ⟨a, e2, _, _⟩ := DataW.trod_int Try.underlying3 g2
    obtain ⟨b', e3, _, _⟩ := DataW.trod_int Try.underlying3 g3
    obtain ⟨c, e4, _, _⟩ := DataW.trod_int Try.underlying3 g4
    obtain ⟨d, e5, _, _⟩ := DataW.trod_int Try.underlying3 g5
    simp at e0 e1 e2 e3 e4 e5
    exact ⟨bT, bw, cT, b, o, cw, gw, ow, t, W, a, b', c, d, by rw [e0, e1, e2, e3, e4, e5], h1, h2, h3 hwt.1, h4, h5, h5b, h6 hwt.2.1⟩
end

end Go.Proofs.Ythdfpddijocfkaa



namespace Go.Proofs.Ythdfpddijocfkaa

open Go.ChangeShapes Go.WideShapes Go.ChangeAt Go.RowKit Go.Deep

set_option maxRecDepth 100000 in
theorem nodeCalls_lifted (os : Os) (started : os.Started) (H : Type) (enc : TypeId × Value → H) :
    ReturnsInHanded {} Try.checked os 4 .any (Rows.nodeCallsSpec.pre6 enc Try.prog Try.f4 Rows.nodeCallsRow.domain false) (Rows.nodeCallsSpec.post enc Try.prog Try.f4 false true false false) := by
  refine returnsInHanded_of_change_sized (C := Try.checked) own started (by kernel_rfl) Try.func4
    (ChangeSpec.witness6 (enc := enc) (C := Try.checked) false ⟨#[], #[.agg #[.slice none 0 0, .slice none 0 0, .int .i64 0, .int .i64 0, .int .i64 0, .int .i64 0]], []⟩ 8 (by kernel_rfl) (by kernel_rfl) (by kernel_rfl) (by kernel_rfl)) ?_
  intro W base args ds gs before hval0 hW _ hsz0 _
  have hsz : (DataW.weightsEach Try.prog (Try.f4.params.toList ++ Rows.nodeCallsSpec.plain.varTypes Try.prog) (ds ++ gs)).all (· ≤ reachBytes) = true := hsz0
  have hval : ∀ (j : Nat) t v, Try.f4.params[j]? = some t → args[j]? = some v → Value.okWide Try.prog W .any base t v := hval0
  have hW' := hW
  obtain ⟨p, q, hA0, hV, rfl, hfz, hnd⟩ := hW
  have hA : DataW.TrodAll enc Try.prog W 0 (fun _ => true) true Try.f4.params.toList args.toList ds p := hA0
  rw [Try.params4] at hA hval hsz
  obtain ⟨v0, d0, rfl, rfl, h0⟩ := trodAll_one hA
  obtain ⟨rfl, rfl⟩ := trodVars_none hV
  obtain ⟨cs, rfl, hcs⟩ := okWide_struct Try.underlying25 (hval 0 25 v0 rfl rfl)
  have k0 := h0
  have lt0 : ∀ x ∈ p, x.block < W.heap.size := by obtain ⟨m, hm⟩ := k0; exact DataW.trod_lt m _ _ _ hm
  obtain ⟨fuel0, hf0⟩ := h0
  have hw0 : (d0.weights Try.prog 25).all (· ≤ reachBytes) = true := by
    simp only [List.cons_append, DataW.weightsEach, List.all_append, Bool.and_eq_true] at hsz
    exact hsz.1
  obtain ⟨bT, bw, cT, b, o, cw, gw, ow, t, Ws, x0, x1, x2, x3, e, -, -, -, -, -, -, -⟩ := open_ncase hf0 hw0
  have hcs2 : cs = #[.slice bT t.length cT, .slice bw Ws.length cw, .int .i64 x0, .int .i64 x1, .int .i64 x2, .int .i64 x3] := by
    apply Array.ext'
    simpa [Value.cells] using e
  subst hcs2
  clear hA0 hval0
  refine (nodeCalls_any _ _ x0 x1 x2 x3 W).mono fun e W' ⟨he, bel⟩ => ?_
  subst he
  exact ⟨_, rfl, _, _, _, [], _, [], hW', trodAll_mk1 (shut_bool Try.underlying4 _), trodAll_mk1 (Below.trod laidOut (by kernel_rfl) (of_decide_eq_true (by kernel_rfl)) k0 bel lt0), rfl, bel.frame _, fun h => by cases h⟩

/-- For every input NodeCalls returns true, and its argument reads as before. -/
theorem nodeCalls_proved : Rows.NodeCallsSaid :=
  OpenClaim.holds_of_wide 4 Try.f4 rfl rfl rfl rfl rfl rfl rfl ⟨rfl, rfl, rfl, rfl, rfl⟩ rfl rfl rfl rfl rfl (by kernel_rfl) Try.func4 (by kernel_rfl)
    (of_decide_eq_true (by kernel_rfl)) (by unfold Func.isWrapper; first | (rw [if_pos (by decide +kernel)]; kernel_rfl) | (rw [if_neg (by decide +kernel)]; exact ⟨rfl, rfl⟩))
    (fun os started H enc _ => nodeCalls_lifted os started H enc)
#print axioms nodeCalls_proved

end Go.Proofs.Ythdfpddijocfkaa

/- Proved: whatever the Case, NodeMemory returns true, and its argument reads as before: the landed node.Round, Walk, Seek, Make and Read leave a table and keys that are handed in as they are, spare room too; asked twice they answer the same, in memory of its own; what is written over in the table or in the answers changes neither the other answers nor what Read finds of the nodes. Layer 20: Get and the pairs of an ordered table; Get and Read without a tape. Appends: in a region that draws its order, of a row that may be empty; and what an append leaves of the row that it was given. Layer 20: rows of rows, each in a block of its own; what all of NodeMemory's late statements know. Layer 20: the law NodeTables. Layer 20: Walk's two answers lie apart. Layer 20: NodeMemory cut into its statements. Layer 20: NodeMemory from its statement 12 on. Layer 20: NodeMemory from its statement 13 on. Layer 20: NodeMemory from its statement 14 on. Layer 20: NodeMemory from its statement 15 on. Layer 20: NodeMemory from its statement 16 on. Layer 20: NodeMemory from its statement 17 on. Layer 20: NodeMemory from its statement 18 on. Layer 20: NodeMemory from its statement 19 on. Layer 20: NodeMemory from its statement 20 on. Layer 20: NodeMemory from its statement 21 on. Layer 20: the law NodeMemory. Layer 20: a Case that is read as data. -/
import Derived.Test.YthdfpddijocfkaaNSame
import Derived.Deep.RegionHeld3
import Derived.Deep.CutRange
import Derived.Deep.CutBlock
import Derived.BigQuiet
import Derived.Test.YthdfpddijocfkaaSMir
import Derived.ProofKit
import Derived.OpenShut
import Derived.Deep.Slices
import Derived.Deep.Strs
import Derived.Lib.SmallJoins
import Derived.Test.YthdfpddijocfkaaRows

namespace Go.Proofs.Ythdfpddijocfkaa

open Go.RowKit

theorem lastN_getLastD (P : List Nat) : lastN P = P.getLastD 0 := by
  unfold lastN
  rw [List.getLastD_eq_getLast?, List.getLast?_eq_getElem?, List.getD_eq_getElem?_getD]
theorem mem_theL {t : NL} (he : formE t = 0) {x : Nat} (hx : x < t.length) : x ∈ theL t 0 := by
  obtain ⟨-, hf⟩ := formE_ok he
  obtain ⟨h1, h2, h3⟩ := theL_form hf
  exact all_in h2 h1.all h3 x hx
theorem ans_some {t : NL} (he : formE t = 0) {k v : Int} (h : ansK t k = some v) : ∃ y ∈ kvL t (theL t 0), (ndAt t y).key = k := by
  obtain ⟨a1, a2, a3, a4⟩ := way_all he k
  obtain ⟨r1, -⟩ := way_raw he k
  rw [h] at r1
  obtain ⟨x, hx1, hx2, hx3, -, -⟩ := way_last (G := fun _ => 0) (F := fun _ => 0) a1
  have hl : (wayL t k).getLastD 0 = x := by rw [List.getLastD_eq_getLast?, hx1]; rfl
  rw [hl] at r1
  by_cases q : (ndAt t x).inf = 0 ∧ (ndAt t x).key = k
  · refine ⟨x, List.mem_filter.2 ⟨mem_theL he hx2, ?_⟩, q.2⟩
    have hr : (ndAt t x).r = -1 := by
      rcases ((formE_ok he).2.good.node x hx2).1 with e | e
      · exact e.2
      · omega
    simp [kvB, leafB, hx3, hr, q.1]
  · rw [if_neg q] at r1
    cases r1
theorem ord_ans {t : NL} (he : formE t = 0) (ho : ordQ t = true) {y : Nat} (hy : y ∈ kvL t (theL t 0)) : ansK t (ndAt t y).key = some (ndAt t y).val := by
  have h := of_decide_eq_true ho y hy
  rw [lastN_getLastD] at h
  obtain ⟨r1, -⟩ := way_raw he (ndAt t y).key
  rw [h] at r1
  have hk := (List.mem_filter.1 hy).2
  have hi : (ndAt t y).inf = 0 := by
    simp [kvB] at hk
    omega
  rw [r1, if_pos ⟨hi, rfl⟩]
theorem ord_there {t : NL} (he : formE t = 0) (ho : ordQ t = true) (k : Int) : (ansK t k).isSome = decide (∃ y ∈ kvL t (theL t 0), (ndAt t y).key = k) := by
  by_cases q : ∃ y ∈ kvL t (theL t 0), (ndAt t y).key = k
  · rw [decide_eq_true q]
    obtain ⟨y, hy, rfl⟩ := q
    rw [ord_ans he ho hy]
    rfl
  · rw [decide_eq_false q]
    cases e : ansK t k with
    | none => rfl
    | some v => exact absurd (ans_some he e) q
/-- Get without a tape, of a table's nodes. -/
theorem GetT {t : NL} (he : formE t = 0) (N : Nat) (G F : Nat → Nat) (key : Int) (w : World) (hNw : N ≤ w.heap.size) (h : NdsAt w N (normL t) G F) :
    Calls Try.prog 32 #[.nilIface, .pointer (some ⟨G 0, 0, none⟩), .int .i64 key] w fun e w' => e = .returned (getA (ansK t key)) ∧ Below N w w' := by
  obtain ⟨y1, y2, y3⟩ := wayN (norm_form he) key
  obtain ⟨x, hx1, hx2, hx3, hx4, hx5⟩ := way_last (G := G) (F := F) y1
  have HG := Get_any (gateS_nil 1000000) [] key N (fun t ht => ht.elim) (wst (normL t) G F (wayL (normL t) key)) w hNw (wayChain_at (norm_ok he) h y1) (by unfold wst; simpa using y3) (by rw [way_kinds y1]; simp; omega) trivial (Tbs.nil w) _ hx4
  rw [hx5] at HG
  refine HG.mono ?_
  rintro e w' ⟨rfl, _, _, hb⟩
  refine ⟨?_, hb⟩
  have : getN key (gnT (normL t) G x) = ansK t key := by
    unfold ansK
    rw [getN_ans, List.getLastD_eq_getLast?, hx1]
    rfl
  rw [this]
/-- Read without a tape, of a table's nodes. -/
theorem ReadN {t : NL} (he : formE t = 0) (N : Nat) (G F : Nat → Nat) (w : World) (hNw : N ≤ w.heap.size) (h : NdsAt w N (normL t) G F) :
    Calls Try.prog 28 #[.nilIface, .pointer (some ⟨G 0, 0, none⟩)] w fun e w' => ∃ v, e = .returned (.tuple #[v, .int .i64 0]) ∧ w'.ownsRow w.heap.size 81 6 v (normL t).length (ndCells (normL t)) ∧ Below N w w' := by
  obtain ⟨b, hl, hok, hs, ha⟩ := norm_lay he
  rw [hl] at h ⊢
  refine (ReadT (gateS_nil 1000000) [] N (fun t ht => ht.elim) b hs (lay_ok hok hs) G F w hNw h ?_ trivial (Tbs.nil w)).mono ?_
  · have := trK_le (T := b.lay 0) b.size
    simp
    omega
  · rintro e w' ⟨v, h1, h2, _, _, h3⟩
    exact ⟨v, h1, h2, h3⟩
end Go.Proofs.Ythdfpddijocfkaa


namespace Go.Proofs.Ythdfpddijocfkaa

open Go.RowKit

theorem step_append_all {P : Program} {w : World} {ops : Array Oper} {o : Oper} {a : Act} {K : Act → World → Prop} {Q : Exit → Act → World → Prop} {E : Prop} (hgd : o.guard = none) (s x : Operand) (t : TypeId)
    (ho : o.op = .call { callee := .builtin .append, args := #[s, x], argTypes := #[t, t] })
    (base : Nat) (e : TypeId) (i : TypeInfo) (z : Value) (size bytes : Nat) (ht : P.underlying t = some (.slice e)) (hi : P.info? e = some i) (hz : i.zero = some z)
    (hsize : i.size = size) (hby : i.bytes = bytes) (hzs : z.cells.size = size) (hsz : 0 < size)
    (v : Value) (n : Nat) (xs : List Value) (hs : a.eval s = v) (hown : w.ownsRow base e size v n xs)
    (sd : Option Addr) (m c : Nat) (news : List Value) (hx : a.eval x = .slice sd m c) (hnone : sd = none → m = 0 ∧ c = 0) (hl : news.length = m * size) (hnews : ∀ ad, sd = some ad → ∀ j u, news[j]? = some u → w.cell? (ad.add j) = some u) (h1 : ∀ u ∈ news, u.oneCell' = true)
    (h63 : n + m ≤ maxLen) (hbytes : (n + m) * bytes ≤ 140737488355328) (hbase : base ≤ w.heap.size)
    (h : ∀ v' w', w'.ownsRow base e size v' (n + m) (xs ++ news) → w.grownBy w' v.ownBlock → (v' = .slice none 0 0 ↔ v = .slice none 0 0 ∧ m = 0) → K (a.put o.dst v') w') :
    if Region.wanted o (yielded ops a.tmps) = true then Oper.wp P o a w K Q else E := by
  have hw : Region.wanted o (yielded ops a.tmps) = true := by simp [Region.wanted, hgd]
  rw [if_pos hw]
  cases sd with
  | none =>
    obtain ⟨rfl, rfl⟩ := hnone rfl
    have hrun := run_append_owned_none (P := P) (w := w) base t o.type e i size ht hi v n xs hown
    obtain rfl : news = [] := List.length_eq_zero_iff.1 (by simpa using hl)
    unfold Oper.wp
    simp [execOp, ho, resolve, invoke, builtin, hs, hx, hrun, Result.andThen]
    exact h v w (by simpa using hown) (grown_refl _ _) (by simp)
  | some ad =>
    obtain ⟨v', w', hr, h2, h3, h4, _⟩ := run_append_own_at (P := P) w base t o.type e i z size bytes ht hi hz hsize hby hzs hsz v n xs hown ad m c news hl (hnews ad rfl) h1 h63 hbytes hbase
    unfold Oper.wp
    simp [execOp, ho, resolve, invoke, builtin, hs, hx, hr, Result.andThen]
    exact h v' w' h2 h3 h4
/-- The row that an append was given is still there. -/
theorem run_append_keeps {P : Program} (w : World) (base : Nat) (t ty e : TypeId) (i : TypeInfo) (z : Value) (size bytes : Nat) (ht : P.underlying t = some (.slice e)) (hi : P.info? e = some i) (hz : i.zero = some z)
    (hsize : i.size = size) (hby : i.bytes = bytes) (hzs : z.cells.size = size)
    (v : Value) (n : Nat) (xs : List Value) (hown : w.ownsRow base e size v n xs)
    (a : Addr) (m c : Nat) (news : List Value) (hl : news.length = m * size) (hnews : ∀ j u, news[j]? = some u → w.cell? (a.add j) = some u) (h1 : ∀ u ∈ news, u.oneCell' = true) (hm : 0 < m)
    (h63 : n + m ≤ maxLen) (hbytes : (n + m) * bytes ≤ 140737488355328) :
    ∃ v' w', (Builtin.append_ #[t, t] ty #[v, .slice (some a) m c]).run P w = .ok v' w' ∧ w'.ownsRow base e size v n xs ∧ w.grownBy w' v.ownBlock := by
  subst hsize
  subst hby
  have hsmall : n + m ≤ 9223372036854775807 := by simp only [maxLen] at h63; omega
  rcases hown.2 with ⟨rfl, rfl⟩ | ⟨g, cap, cur, rfl, hbg, hg, hnc, hcm, hcs, htake⟩
  · have hr := run_append_nil (P := P) w t ty e i z ht hi hz a m c news hl hnews (by omega) (by omega) (by have hb := hbytes; simp only [Nat.zero_add] at hb; omega)
    refine ⟨_, _, hr, ?_, ⟨rfl, rfl, rfl, by simp, fun k hk _ => heap_alloc_old w.drew _ hk⟩⟩
    have hx : xs = [] := List.eq_nil_of_length_eq_zero (by simpa using hown.1)
    rw [hx]
    exact World.ownsRow_nil _ _ _ _
  · by_cases hroom : n + m ≤ cap
    · have hfit : n * i.size + news.length ≤ cur.size := by rw [hl, hcs, ← Nat.add_mul]; exact Nat.mul_le_mul_right _ hroom
      have hr := run_append_room (P := P) w t ty e i ht hi g n cap cur hg a m c news hl hnews h1 hroom hfit
      refine ⟨_, _, hr, ⟨hown.1, .inr ⟨g, cap, _, rfl, hbg, setRow_heap w g cur _ e _ hg, hnc, hcm, ?_, ?_⟩⟩, ⟨rfl, rfl, rfl, by simp, fun k _ hk => setRow_other w g k _ (fun e => hk (by simp [Value.ownBlock, e]))⟩⟩
      · simp only [List.size_toArray, List.length_append, List.length_take, List.length_drop, Array.length_toList]
        omega
      · rw [htake, List.append_assoc, ← hown.1]
        exact List.take_left
    · have holds : ∀ j u, xs[j]? = some u → w.cell? ((⟨g, 0, none⟩ : Addr).add j) = some u := hown.cells (g := g) rfl
      have hr := run_append_grow (P := P) w t ty e i z ht hi hz ⟨g, 0, none⟩ n cap xs hown.1 holds a m c news hl hnews (by omega) (by omega) (growslice_fits (by omega) hbytes)
      refine ⟨_, _, hr, ⟨hown.1, .inr ⟨g, cap, cur, rfl, hbg, ?_, hnc, hcm, hcs, htake⟩⟩, ⟨rfl, rfl, rfl, by simp, fun k hk _ => heap_alloc_old w.drew _ hk⟩⟩
      rw [heap_alloc_old w.drew _ (Array.getElem?_eq_some_iff.1 hg).1]
      exact hg
theorem wpList_append_keeps {P : Program} {w : World} {ops : Array Oper} {rest : List Oper} {o : Oper} {a : Act} {Q : Exit → Act → World → Prop} (hgd : o.guard = none) (s x : Operand) (t : TypeId)
    (ho : o.op = .call { callee := .builtin .append, args := #[s, x], argTypes := #[t, t] })
    (base : Nat) (e : TypeId) (i : TypeInfo) (z : Value) (size bytes : Nat) (ht : P.underlying t = some (.slice e)) (hi : P.info? e = some i) (hz : i.zero = some z)
    (hsize : i.size = size) (hby : i.bytes = bytes) (hzs : z.cells.size = size)
    (v : Value) (n : Nat) (xs : List Value) (hs : a.eval s = v) (hown : w.ownsRow base e size v n xs)
    (ad : Addr) (m c : Nat) (news : List Value) (hx : a.eval x = .slice (some ad) m c) (hl : news.length = m * size) (hnews : ∀ j u, news[j]? = some u → w.cell? (ad.add j) = some u) (h1 : ∀ u ∈ news, u.oneCell' = true) (hm : 0 < m)
    (h63 : n + m ≤ maxLen) (hbytes : (n + m) * bytes ≤ 140737488355328)
    (h : ∀ v' w', w'.ownsRow base e size v n xs → w.grownBy w' v.ownBlock → wpList P ops Q rest (a.put o.dst v') w') : wpList P ops Q (o :: rest) a w := by
  refine wpList_plain hgd fun K hK => ?_
  obtain ⟨v', w', hr, h2, h3⟩ := run_append_keeps (P := P) w base t o.type e i z size bytes ht hi hz hsize hby hzs v n xs hown ad m c news hl hnews h1 hm h63 hbytes
  unfold Oper.wp
  simp [execOp, ho, resolve, invoke, builtin, hs, hx, hr, Result.andThen]
  exact hK _ _ (h v' w' h2 h3)
/-- make with room. -/
theorem run_make_room {P : Program} (t e : TypeId) (z : Value) (sz bytes : Nat) (ht : P.underlying t = some (.slice e)) (hinfo : (P.info? e).map (fun i => (i.zero, i.size, i.bytes)) = some (some z, sz, bytes)) (n : Nat) (hn : bytes * n ≤ 281474976710656) (h63 : n ≤ 9223372036854775807) (w : World) :
    (Instr.makeSlice t (.int .i64 0) (.int .i64 (n : Int))).run P w = .ok (.slice (some ⟨w.heap.size, 0, none⟩) 0 n) (w.alloc (.cells (madeCells z.cells (n * sz)) e)) := by
  obtain ⟨i, hi, he⟩ := Option.map_eq_some_iff.1 hinfo
  simp only [Prod.mk.injEq] at he
  obtain ⟨h1, h2, h3⟩ := he
  subst h2 h3
  have hb : (i.bytes : Int) * (n : Int) ≤ 281474976710656 := by
    have h : ((i.bytes * n : Nat) : Int) ≤ 281474976710656 := by omega
    rwa [Int.natCast_mul] at h
  have h := run_make (P := P) w t e i z ht hi h1 .i64 .i64 0 (n : Int) (by omega) (by omega) hb (by omega)
  simpa using h
theorem nodes_row {z : World} {B g c : Nat} {t : NL} (h : z.ownsRow B 81 6 (.slice (some ⟨g, 0, none⟩) t.length c) t.length (ndCells t)) : NodesAt z (some ⟨g, 0, none⟩) g 0 t := by
  obtain ⟨bs, cp, g', hv, -, -, hn⟩ := nodes_of_owns h
  injection hv with h1 _ _
  by_cases q : t.length = 0
  · exact ⟨fun h => absurd q h, fun h => absurd q h, fun i hi => by omega, hn.len⟩
  · have := hn.base q
    rw [← h1] at this
    injection this with this
    injection this with this _ _
    subst this
    rw [← h1] at hn
    exact hn
theorem ws_row {z : World} {B g c : Nat} {L : List Int} (h : z.ownsRow B 3 1 (.slice (some ⟨g, 0, none⟩) L.length c) L.length (isC L)) : WsAt z (some ⟨g, 0, none⟩) g 0 L := by
  obtain ⟨bs, cp, g', hv, -, -, hn⟩ := ws_of_owns h
  injection hv with h1 _ _
  by_cases q : L.length = 0
  · exact ⟨fun h => absurd q h, fun h => absurd q h, fun i hi => by omega, hn.len⟩
  · have := hn.base q
    rw [← h1] at this
    injection this with this
    injection this with this _ _
    subst this
    rw [← h1] at hn
    exact hn
end Go.Proofs.Ythdfpddijocfkaa


namespace Go.Proofs.Ythdfpddijocfkaa

open Go.RowKit

theorem gb_set (w : World) (g j : Nat) (u : Value) : w.grownBy (w.setCell ⟨g, j, none⟩ u) (some g) :=
  ⟨rfl, rfl, rfl, by simp [World.setCell], fun k _ hn => Below.heap_setCell _ _ _ _ (fun e => hn (by simp [e]))⟩
theorem gb_trans {a b c : World} {r : Option Nat} (h : a.grownBy b r) (k : b.grownBy c r) : a.grownBy c r :=
  ⟨k.os.trans h.os, k.tape.trans h.tape, k.output.trans h.output, Nat.le_trans h.size k.size, fun i hi hn => (k.block i (Nat.lt_of_lt_of_le hi h.size) hn).trans (h.block i hi hn)⟩
theorem gb_below {a b : World} (r : Option Nat) (h : Below a.heap.size a b) : a.grownBy b r := ⟨h.os, h.tape, h.output, h.size, fun k hk _ => h.block k hk⟩
theorem gb_alloc {a x : World} {o : Obj} {r : Option Nat} (h : (a.alloc o).grownBy x r) : a.grownBy x r := gb_trans (gb_below r (below_alloc a o)) h
theorem gb_to {a b : World} {r : Option Nat} (h : a.grownBy b r) (B : Nat) (hB : B ≤ a.heap.size) (hr : ∀ g, r = some g → B ≤ g) : Below B a b :=
  ⟨h.os, h.tape, h.output, h.size, fun k hk => h.block k (by omega) (fun e => by have := hr k e.symm; omega)⟩
theorem gb_owns {a b : World} {r : Option Nat} (h : a.grownBy b r) {B sz n : Nat} {e : TypeId} {v : Value} {xs : List Value} (ho : a.ownsRow B e sz v n xs) (hne : ∀ g, v.ownBlock = some g → r ≠ some g) : b.ownsRow B e sz v n xs := by
  obtain ⟨h0, h1⟩ := ho
  rcases h1 with h1 | ⟨g, cap, cur, hv, hg, hh, r1⟩
  · exact ⟨h0, Or.inl h1⟩
  · have hl : g < a.heap.size := (Array.getElem?_eq_some_iff.1 hh).1
    exact ⟨h0, Or.inr ⟨g, cap, cur, hv, hg, (h.block g hl (fun q => hne g (by rw [hv]; rfl) q.symm)).trans hh, r1⟩⟩
theorem own_block {w : World} {B sz n : Nat} {e : TypeId} {v : Value} {xs : List Value} (h : w.ownsRow B e sz v n xs) {g : Nat} (hg : v.ownBlock = some g) : ∃ cur, w.heap[g]? = some (.cells cur e (0, 0)) := by
  rcases h.2 with ⟨rfl, _⟩ | ⟨g', cap, cur, rfl, _, hh, _⟩
  · cases hg
  · simp [Value.ownBlock] at hg
    subst hg
    exact ⟨cur, hh⟩
theorem own_ne {w : World} {B B' sz sz' n n' : Nat} {e e' : TypeId} {v v' : Value} {xs xs' : List Value} (h : w.ownsRow B e sz v n xs) (h' : w.ownsRow B' e' sz' v' n' xs') (hne : e ≠ e') : ∀ g, v.ownBlock = some g → v'.ownBlock ≠ some g := by
  intro g hg hg'
  obtain ⟨c, h1⟩ := own_block h hg
  obtain ⟨c', h2⟩ := own_block h' hg'
  have := h1.symm.trans h2
  injection this with this
  injection this with _ this _
  exact hne this
def updN {α : Type} (D : Nat → α) (i : Nat) (d : α) : Nat → α := fun q => if q = i then d else D q
def extN {α : Type} (D : Nat → α) (n : Nat) (f : Nat → α) : Nat → α := fun i => if i < n then D i else f (i - n)
theorem updN_at {α : Type} (D : Nat → α) (i : Nat) (d : α) : updN D i d i = d := by simp [updN]
theorem updN_ne {α : Type} (D : Nat → α) {i q : Nat} (d : α) (h : q ≠ i) : updN D i d q = D q := by simp [updN, h]
theorem updN_self {α : Type} (D : Nat → α) (i : Nat) : updN D i (D i) = D := by
  funext q
  unfold updN
  split
  · rename_i h; rw [h]
  · rfl
theorem extN_lt {α : Type} (D : Nat → α) {n i : Nat} (f : Nat → α) (h : i < n) : extN D n f i = D i := by simp [extN, h]
theorem extN_ge {α : Type} (D : Nat → α) {n : Nat} (f : Nat → α) (j : Nat) : extN D n f (n + j) = f j := by
  unfold extN
  rw [if_neg (by omega)]
  congr 1
  omega
theorem extN_map {α : Type} (D : Nat → α) (n m : Nat) (f : Nat → α) : (List.range (n + m)).map (extN D n f) = (List.range n).map D ++ (List.range m).map f := by
  rw [List.range_add, List.map_append, List.map_map]
  congr 1
  · exact List.map_congr_left fun i hi => extN_lt D f (List.mem_range.1 hi)
  · exact List.map_congr_left fun i _ => extN_ge D f i
structure RRs {α : Type} (e tt : TypeId) (sz : Nat) (lf : α → Nat) (cf : α → List Value) (B : Nat) (z : World) (n : Nat) (vR : Value) (vs : Nat → Value) (D : Nat → α) : Prop where
  row : ∀ i, i < n → z.ownsRow B e sz (vs i) (lf (D i)) (cf (D i))
  sep : ∀ i j, i < n → j < n → i ≠ j → ∀ g, (vs i).ownBlock = some g → (vs j).ownBlock ≠ some g
  small : ∀ i, i < n → lf (D i) ≤ 100000
  top : z.ownsRow B tt 1 vR n ((List.range n).map vs)
  apart : ∀ i, i < n → ∀ g, (vs i).ownBlock = some g → vR.ownBlock ≠ some g
section

variable {α : Type} {e tt : TypeId} {sz : Nat} {lf : α → Nat} {cf : α → List Value} {B n : Nat} {z y : World} {vR : Value} {vs : Nat → Value} {D : Nat → α}

theorem RRs.nil (hz : World) (D : Nat → α) : RRs e tt sz lf cf B hz 0 (.slice none 0 0) vs D :=
  ⟨fun i hi => by omega, fun i j hi => by omega, fun i hi => by omega, World.ownsRow_nil _ _ _ _, fun i hi => by omega⟩
theorem RRs.keep (h : RRs e tt sz lf cf B z n vR vs D) {r : Option Nat} (hg : z.grownBy y r) (h1 : ∀ i, i < n → ∀ g, (vs i).ownBlock = some g → r ≠ some g) (h2 : ∀ g, vR.ownBlock = some g → r ≠ some g) : RRs e tt sz lf cf B y n vR vs D :=
  ⟨fun i hi => gb_owns hg (h.row i hi) (h1 i hi), h.sep, h.small, gb_owns hg h.top h2, h.apart⟩
theorem RRs.below (h : RRs e tt sz lf cf B z n vR vs D) (hb : Below z.heap.size z y) : RRs e tt sz lf cf B y n vR vs D :=
  h.keep (r := none) (gb_below _ hb) (fun _ _ _ _ q => by cases q) (fun _ _ q => by cases q)
theorem RRs.chg (h : RRs e tt sz lf cf B z n vR vs D) {i : Nat} (hi : i < n) (hg : z.grownBy y (vs i).ownBlock) (d : α) (hd : lf d ≤ 100000) (hr : y.ownsRow B e sz (vs i) (lf d) (cf d)) : RRs e tt sz lf cf B y n vR vs (updN D i d) := by
  refine ⟨fun q hq => ?_, h.sep, fun q hq => ?_, gb_owns hg h.top (fun g h1 h2 => h.apart i hi g h2 h1), h.apart⟩
  · by_cases hqi : q = i
    · subst hqi; rw [updN_at]; exact hr
    · rw [updN_ne _ _ hqi]
      exact gb_owns hg (h.row q hq) (fun g h1 h2 => h.sep q i hq hi hqi g h1 h2)
  · by_cases hqi : q = i
    · subst hqi; rw [updN_at]; exact hd
    · rw [updN_ne _ _ hqi]; exact h.small q hq
theorem RRs.push (h : RRs e tt sz lf cf B z n vR vs D) {x : World} {m : Nat} {f : Nat → Value} {fD : Nat → α} {v' : Value} (hb : Below z.heap.size z y)
    (hr : ∀ j, j < m → y.ownsRow B e sz (f j) (lf (fD j)) (cf (fD j))) (hf : ∀ j, j < m → ∀ g, (f j).ownBlock = some g → (∀ i, i < n → (vs i).ownBlock ≠ some g) ∧ vR.ownBlock ≠ some g) (hs : ∀ i j, i < m → j < m → i ≠ j → ∀ g, (f i).ownBlock = some g → (f j).ownBlock ≠ some g) (hl : ∀ j, j < m → lf (fD j) ≤ 100000)
    (hc : y.grownBy x vR.ownBlock) (ht : x.ownsRow B tt 1 v' (n + m) ((List.range n).map vs ++ (List.range m).map f)) (hat : ∀ g, v'.ownBlock = some g → vR.ownBlock = some g ∨ y.heap.size ≤ g) :
    RRs e tt sz lf cf B x (n + m) v' (extN vs n f) (extN D n fD) := by
  have hy := h.below hb
  have zy := hb.size
  have old : ∀ i, i < n → ∀ g, (vs i).ownBlock = some g → g < z.heap.size := fun i hi g hg => (owns_lt (h.row i hi) g hg).2
  have cs : ∀ i, i < n + m → i < n ∨ ∃ j, j < m ∧ i = n + j := fun i hi => by
    rcases Nat.lt_or_ge i n with a | a
    · exact Or.inl a
    · exact Or.inr ⟨i - n, by omega, by omega⟩
  refine ⟨fun i hi => ?_, fun i j hi hj hij g => ?_, fun i hi => ?_, by rw [extN_map]; exact ht, fun i hi g hg hg' => ?_⟩
  · rcases cs i hi with a | ⟨j, hj, rfl⟩
    · rw [extN_lt _ _ a, extN_lt _ _ a]
      exact gb_owns hc (hy.row i a) (fun g h1 h2 => h.apart i a g h1 h2)
    · rw [extN_ge, extN_ge]
      exact gb_owns hc (hr j hj) (fun g h1 h2 => (hf j hj g h1).2 h2)
  · rcases cs i hi with a | ⟨p, hp, rfl⟩ <;> rcases cs j hj with b | ⟨q, hq, rfl⟩
    · rw [extN_lt _ _ a, extN_lt _ _ b]; exact h.sep i j a b hij g
    · rw [extN_lt _ _ a, extN_ge]
      intro h1 h2
      exact (hf q hq g h2).1 i a h1
    · rw [extN_lt _ _ b, extN_ge]
      intro h1 h2
      exact (hf p hp g h1).1 j b h2
    · rw [extN_ge, extN_ge]; exact hs p q hp hq (by omega) g
  · rcases cs i hi with a | ⟨j, hj, rfl⟩
    · rw [extN_lt _ _ a]; exact h.small i a
    · rw [extN_ge]; exact hl j hj
  · rcases hat g hg' with q | q
    · rcases cs i hi with a | ⟨j, hj, rfl⟩
      · rw [extN_lt _ _ a] at hg; exact h.apart i a g hg q
      · rw [extN_ge] at hg
        exact (hf j hj g hg).2 q
    · rcases cs i hi with a | ⟨j, hj, rfl⟩
      · rw [extN_lt _ _ a] at hg
        have := old i a g hg
        omega
      · rw [extN_ge] at hg
        have := (owns_lt (hr j hj) g hg).2
        omega
theorem RRs.cell (h : RRs e tt sz lf cf B z n vR vs D) (hn : 0 < n) : ∃ g cp, vR = .slice (some ⟨g, 0, none⟩) n cp ∧ B ≤ g ∧ g < z.heap.size ∧ ∀ i, i < n → z.cell? ⟨g, i, none⟩ = some (vs i) := by
  obtain ⟨g, cp, hv, hB, hl, -, -, hc, -⟩ := owns_some h.top hn
  refine ⟨g, cp, hv, hB, hl, fun i hi => ?_⟩
  rw [hc i (by omega)]
  simp [hi]
end

theorem NdsAt.keep {z y : World} {N : Nat} {T : NL} {G F : Nat → Nat} (h : NdsAt z N T G F) {r : Option Nat} (hg : z.grownBy y r) (hr : ∀ g, r = some g → ∃ cur e, z.heap[g]? = some (.cells cur e (0, 0)) ∧ e ≠ 63 ∧ e ≠ 126) : NdsAt y N T G F := by
  refine ⟨fun i hi => ?_, h.inj⟩
  obtain ⟨h1, h2, h3⟩ := h.rc i hi
  refine ⟨⟨?_, ?_⟩, h2, h3⟩
  · obtain ⟨a, b, e⟩ := h1.rc
    refine ⟨a, b, (hg.block _ h1.lt (fun q => ?_)).trans e⟩
    obtain ⟨cur, ty, q1, q2, q3⟩ := hr _ q.symm
    have := q1.symm.trans e
    injection this with this
    injection this with _ this _
    exact q2 this
  · refine (hg.block _ h1.ltf (fun q => ?_)).trans h1.fl
    obtain ⟨cur, ty, q1, q2, q3⟩ := hr _ q.symm
    have := q1.symm.trans h1.fl
    injection this with this
    injection this with _ this _
    exact q3 this
/-- Tables and lists in rows of rows, the document's table, the nodes. -/
structure MQ (w : World) (B N : Nat) (D0 : Prop) (t U : NL) (G F : Nat → Nat) (vU : Value) (nT : Nat) (vT : Value) (ts : Nat → Value) (T : Nat → NL) (nL : Nat) (vL : Value) (vs : Nat → Value) (L : Nat → List Int) (z : World) : Prop where
  tb : RRs 81 22 6 List.length ndCells B z nT vT ts T
  ls : RRs 3 23 1 List.length isC B z nL vL vs L
  u : z.ownsRow 0 81 6 vU U.length (ndCells U)
  uB : ∀ g, vU.ownBlock = some g → g < B
  nd : D0 → NdsAt z N t G F
  lN : N ≤ z.heap.size
  bl : Below w.heap.size w z
  wB : w.heap.size ≤ B
section

variable {w z y : World} {B N nT nL : Nat} {D0 : Prop} {t U : NL} {G F : Nat → Nat} {vU vT vL : Value} {ts vs : Nat → Value} {T : Nat → NL} {L : Nat → List Int}

theorem MQ.below (h : MQ w B N D0 t U G F vU nT vT ts T nL vL vs L z) (hb : Below z.heap.size z y) : MQ w B N D0 t U G F vU nT vT ts T nL vL vs L y :=
  ⟨h.tb.below hb, h.ls.below hb, owns_below h.u hb, h.uB, fun q => (h.nd q).below (hb.mono h.lN), Nat.le_trans h.lN hb.size, h.bl.trans (hb.mono h.bl.size), h.wB⟩
theorem MQ.chgT (h : MQ w B N D0 t U G F vU nT vT ts T nL vL vs L z) {i : Nat} (hi : i < nT) (hg : z.grownBy y (ts i).ownBlock) (d : NL) (hd : d.length ≤ 100000) (hr : y.ownsRow B 81 6 (ts i) d.length (ndCells d)) : MQ w B N D0 t U G F vU nT vT ts (updN T i d) nL vL vs L y := by
  have hro := h.tb.row i hi
  refine ⟨h.tb.chg hi hg d hd hr, h.ls.keep hg (fun j hj => fun g h1 h2 => own_ne hro (h.ls.row j hj) (by decide) g h2 h1) (fun g h1 h2 => own_ne hro h.ls.top (by decide) g h2 h1), gb_owns hg h.u (fun g h1 h2 => ?_), h.uB, fun q => (h.nd q).keep hg (fun g h1 => ?_), Nat.le_trans h.lN hg.size, h.bl.trans (gb_to hg _ h.bl.size (fun g h1 => ?_)), h.wB⟩
  · have := h.uB g h1
    have := (owns_lt hro g h2).1
    omega
  · obtain ⟨c, hc⟩ := own_block hro h1
    exact ⟨c, _, hc, by decide, by decide⟩
  · exact Nat.le_trans h.wB (owns_lt hro g h1).1
theorem MQ.chgL (h : MQ w B N D0 t U G F vU nT vT ts T nL vL vs L z) {i : Nat} (hi : i < nL) (hg : z.grownBy y (vs i).ownBlock) (d : List Int) (hd : d.length ≤ 100000) (hr : y.ownsRow B 3 1 (vs i) d.length (isC d)) : MQ w B N D0 t U G F vU nT vT ts T nL vL vs (updN L i d) y := by
  have hro := h.ls.row i hi
  refine ⟨h.tb.keep hg (fun j hj => fun g h1 h2 => own_ne hro (h.tb.row j hj) (by decide) g h2 h1) (fun g h1 h2 => own_ne hro h.tb.top (by decide) g h2 h1), h.ls.chg hi hg d hd hr, gb_owns hg h.u (fun g h1 h2 => ?_), h.uB, fun q => (h.nd q).keep hg (fun g h1 => ?_), Nat.le_trans h.lN hg.size, h.bl.trans (gb_to hg _ h.bl.size (fun g h1 => ?_)), h.wB⟩
  · have := h.uB g h1
    have := (owns_lt hro g h2).1
    omega
  · obtain ⟨c, hc⟩ := own_block hro h1
    exact ⟨c, _, hc, by decide, by decide⟩
  · exact Nat.le_trans h.wB (owns_lt hro g h1).1
/-- Something else is written over: a row of nodes that lies below all of these. -/
theorem MQ.other (h : MQ w B N D0 t U G F vU nT vT ts T nL vL vs L z) {g : Nat} (hg : z.grownBy y (some g)) (hB : g < B) (hu : ∀ k, vU.ownBlock = some k → k ≠ g) (hw : w.heap.size ≤ g) (hty : ∃ cur, z.heap[g]? = some (.cells cur 81 (0, 0))) : MQ w B N D0 t U G F vU nT vT ts T nL vL vs L y := by
  refine ⟨h.tb.keep hg (fun j hj k h1 h2 => ?_) (fun k h1 h2 => ?_), h.ls.keep hg (fun j hj k h1 h2 => ?_) (fun k h1 h2 => ?_), gb_owns hg h.u (fun k h1 h2 => hu k h1 (by simpa using h2.symm)), h.uB, fun q => (h.nd q).keep hg (fun k h1 => ?_), Nat.le_trans h.lN hg.size, h.bl.trans (gb_to hg _ h.bl.size (fun k h1 => ?_)), h.wB⟩
  · have := (owns_lt (h.tb.row j hj) k h1).1; simp at h2; omega
  · have := (owns_lt h.tb.top k h1).1; simp at h2; omega
  · have := (owns_lt (h.ls.row j hj) k h1).1; simp at h2; omega
  · have := (owns_lt h.ls.top k h1).1; simp at h2; omega
  · obtain ⟨c, hc⟩ := hty
    simp at h1
    subst h1
    exact ⟨c, _, hc, by decide, by decide⟩
  · simp at h1; omega
end

theorem gb_six (x : World) (g i : Nat) (a b c d e f : Value) : x.grownBy ((((((x.setCell ⟨g, i * 6, none⟩ a).setCell ⟨g, i * 6 + 1, none⟩ b).setCell ⟨g, i * 6 + 2, none⟩ c).setCell ⟨g, i * 6 + 3, none⟩ d).setCell ⟨g, i * 6 + 4, none⟩ e).setCell ⟨g, i * 6 + 5, none⟩ f) (some g) :=
  gb_trans (gb_trans (gb_trans (gb_trans (gb_trans (gb_set _ _ _ _) (gb_set _ _ _ _)) (gb_set _ _ _ _)) (gb_set _ _ _ _)) (gb_set _ _ _ _)) (gb_set _ _ _ _)
theorem own_six {x : World} {B g cap : Nat} {T : NL} (h : x.ownsRow B 81 6 (.slice (some ⟨g, 0, none⟩) T.length cap) T.length (ndCells T)) (i : Nat) (n : NdD) (hi : i < T.length) : ((((((x.setCell ⟨g, i * 6, none⟩ (.int .i64 n.key)).setCell ⟨g, i * 6 + 1, none⟩ (.int .i64 n.inf)).setCell ⟨g, i * 6 + 2, none⟩ (.int .i64 n.wt)).setCell ⟨g, i * 6 + 3, none⟩ (.int .i64 n.val)).setCell ⟨g, i * 6 + 4, none⟩ (.int .i64 n.l)).setCell ⟨g, i * 6 + 5, none⟩ (.int .i64 n.r)).ownsRow B 81 6 (.slice (some ⟨g, 0, none⟩) T.length cap) T.length (ndCells (T.set i n)) := by
  rw [ndCells_set _ _ _ hi]
  exact owns_put (owns_put (owns_put (owns_put (owns_put (owns_put h _ _) _ _) _ _) _ _) _ _) _ _
theorem own_cells {x : World} {B g cap : Nat} {T : NL} (h : x.ownsRow B 81 6 (.slice (some ⟨g, 0, none⟩) T.length cap) T.length (ndCells T)) (i : Nat) (hi : i < T.length) : (x.cell? ⟨g, i * 6, none⟩ = some (.int .i64 (ndAt T i).key) ∧ x.frozen? ⟨g, i * 6, none⟩ = false) ∧ (x.cell? ⟨g, i * 6 + 1, none⟩ = some (.int .i64 (ndAt T i).inf) ∧ x.frozen? ⟨g, i * 6 + 1, none⟩ = false) ∧ (x.cell? ⟨g, i * 6 + 2, none⟩ = some (.int .i64 (ndAt T i).wt) ∧ x.frozen? ⟨g, i * 6 + 2, none⟩ = false) ∧ (x.cell? ⟨g, i * 6 + 3, none⟩ = some (.int .i64 (ndAt T i).val) ∧ x.frozen? ⟨g, i * 6 + 3, none⟩ = false) ∧ (x.cell? ⟨g, i * 6 + 4, none⟩ = some (.int .i64 (ndAt T i).l) ∧ x.frozen? ⟨g, i * 6 + 4, none⟩ = false) ∧ (x.cell? ⟨g, i * 6 + 5, none⟩ = some (.int .i64 (ndAt T i).r) ∧ x.frozen? ⟨g, i * 6 + 5, none⟩ = false) := by
  obtain ⟨g', cap', hv, -, -, -, -, hc, hfr⟩ := owns_some h (by omega)
  injection hv with e1 _ _
  injection e1 with e1
  injection e1 with e1 _ _
  subst e1
  obtain ⟨b0, b1, b2, b3, b4, b5⟩ := ndCells_get T i hi
  exact ⟨⟨(hc _ (by omega)).trans b0, hfr _⟩, ⟨(hc _ (by omega)).trans b1, hfr _⟩, ⟨(hc _ (by omega)).trans b2, hfr _⟩, ⟨(hc _ (by omega)).trans b3, hfr _⟩, ⟨(hc _ (by omega)).trans b4, hfr _⟩, (hc _ (by omega)).trans b5, hfr _⟩
end Go.Proofs.Ythdfpddijocfkaa

namespace Go.Proofs.Ythdfpddijocfkaa

open Go.RowKit

theorem RRs.top_at {α : Type} {e tt : TypeId} {sz : Nat} {lf : α → Nat} {cf : α → List Value} {B n g c : Nat} {z : World} {vs : Nat → Value} {D : Nat → α} (h : RRs e tt sz lf cf B z n (.slice (some ⟨g, 0, none⟩) n c) vs D) (i : Nat) (hi : i < n) : z.cell? ⟨g, i, none⟩ = some (vs i) ∧ g < z.heap.size := by
  obtain ⟨g', cp, hv, -, hl, hc⟩ := h.cell (by omega)
  injection hv with e1 _ _
  injection e1 with e1
  injection e1 with e1 _ _
  subst e1
  exact ⟨hc i hi, hl⟩
section

variable {w z y : World} {B N nT nL : Nat} {D0 : Prop} {t U : NL} {G F : Nat → Nat} {vU vT vL : Value} {ts vs : Nat → Value} {T : Nat → NL} {L : Nat → List Int}

theorem MQ.rowT (h : MQ w B N D0 t U G F vU nT vT ts T nL vL vs L z) {i : Nat} (hi : i < nT) : ∃ a c, ts i = .slice a (T i).length c ∧ (T i).length ≤ 100000 ∧ (0 < (T i).length → ∃ g, a = some ⟨g, 0, none⟩) := by
  obtain ⟨a, c, hv⟩ := own_slice (h.tb.row i hi)
  refine ⟨a, c, hv, h.tb.small i hi, fun q => ?_⟩
  obtain ⟨g, c', hv', -⟩ := owns_some (h.tb.row i hi) q
  rw [hv] at hv'
  injection hv' with hv' _ _
  exact ⟨g, hv'⟩
theorem MQ.rowL (h : MQ w B N D0 t U G F vU nT vT ts T nL vL vs L z) {i : Nat} (hi : i < nL) : ∃ a c, vs i = .slice a (L i).length c ∧ (L i).length ≤ 100000 ∧ (0 < (L i).length → ∃ g, a = some ⟨g, 0, none⟩) := by
  obtain ⟨a, c, hv⟩ := own_slice (h.ls.row i hi)
  refine ⟨a, c, hv, h.ls.small i hi, fun q => ?_⟩
  obtain ⟨g, c', hv', -⟩ := owns_some (h.ls.row i hi) q
  rw [hv] at hv'
  injection hv' with hv' _ _
  exact ⟨g, hv'⟩
theorem MQ.putT (h : MQ w B N D0 t U G F vU nT vT ts T nL vL vs L z) {i g c : Nat} (hi : i < nT) (hv : ts i = .slice (some ⟨g, 0, none⟩) (T i).length c) (p : Nat) (hp : p < (T i).length) (n : NdD) :
    MQ w B N D0 t U G F vU nT vT ts (updN T i ((T i).set p n)) nL vL vs L ((((((z.setCell ⟨g, p * 6, none⟩ (.int .i64 n.key)).setCell ⟨g, p * 6 + 1, none⟩ (.int .i64 n.inf)).setCell ⟨g, p * 6 + 2, none⟩ (.int .i64 n.wt)).setCell ⟨g, p * 6 + 3, none⟩ (.int .i64 n.val)).setCell ⟨g, p * 6 + 4, none⟩ (.int .i64 n.l)).setCell ⟨g, p * 6 + 5, none⟩ (.int .i64 n.r)) := by
  have r := h.tb.row i hi
  have hl := h.tb.small i hi
  refine h.chgT hi ?_ _ (by rw [List.length_set]; exact hl) ?_
  · rw [hv]; exact gb_six _ _ _ _ _ _ _ _ _
  · rw [hv] at r ⊢
    rw [List.length_set]
    exact own_six r p n hp
theorem isC_setN (L : List Int) (j : Nat) (a : Int) : (isC L).set j (.int .i64 a) = isC (L.set j a) := by
  unfold isC
  rw [List.map_set]
theorem MQ.putL (h : MQ w B N D0 t U G F vU nT vT ts T nL vL vs L z) {i g c : Nat} (hi : i < nL) (hv : vs i = .slice (some ⟨g, 0, none⟩) (L i).length c) (p : Nat) (a : Int) :
    MQ w B N D0 t U G F vU nT vT ts T nL vL vs (updN L i ((L i).set p a)) (z.setCell ⟨g, p, none⟩ (.int .i64 a)) := by
  have r := h.ls.row i hi
  have hl := h.ls.small i hi
  refine h.chgL hi ?_ _ (by rw [List.length_set]; exact hl) ?_
  · rw [hv]; exact gb_set _ _ _ _
  · rw [hv] at r ⊢
    rw [List.length_set, ← isC_setN]
    exact owns_put r p _
theorem MQ.growT (h : MQ w B N D0 t U G F vU nT vT ts T nL vL vs L z) {i : Nat} (hi : i < nT) {o : Obj} (hg : (z.alloc o).grownBy y (ts i).ownBlock) (hr : y.ownsRow B 81 6 (ts i) (T i).length (ndCells (T i))) : MQ w B N D0 t U G F vU nT vT ts T nL vL vs L y := by
  have := h.chgT hi (gb_alloc hg) (T i) (h.tb.small i hi) hr
  rwa [updN_self] at this
theorem MQ.growL (h : MQ w B N D0 t U G F vU nT vT ts T nL vL vs L z) {i : Nat} (hi : i < nL) {o : Obj} (hg : (z.alloc o).grownBy y (vs i).ownBlock) (hr : y.ownsRow B 3 1 (vs i) (L i).length (isC (L i))) : MQ w B N D0 t U G F vU nT vT ts T nL vL vs L y := by
  have := h.chgL hi (gb_alloc hg) (L i) (h.ls.small i hi) hr
  rwa [updN_self] at this
theorem MQ.cellT (h : MQ w B N D0 t U G F vU nT vT ts T nL vL vs L z) {i g c : Nat} (hi : i < nT) (hv : ts i = .slice (some ⟨g, 0, none⟩) (T i).length c) (p : Nat) (hp : p < (T i).length) : (z.cell? ⟨g, p * 6, none⟩ = some (.int .i64 (ndAt (T i) p).key) ∧ z.frozen? ⟨g, p * 6, none⟩ = false) ∧ (z.cell? ⟨g, p * 6 + 1, none⟩ = some (.int .i64 (ndAt (T i) p).inf) ∧ z.frozen? ⟨g, p * 6 + 1, none⟩ = false) ∧ (z.cell? ⟨g, p * 6 + 2, none⟩ = some (.int .i64 (ndAt (T i) p).wt) ∧ z.frozen? ⟨g, p * 6 + 2, none⟩ = false) ∧ (z.cell? ⟨g, p * 6 + 3, none⟩ = some (.int .i64 (ndAt (T i) p).val) ∧ z.frozen? ⟨g, p * 6 + 3, none⟩ = false) ∧ (z.cell? ⟨g, p * 6 + 4, none⟩ = some (.int .i64 (ndAt (T i) p).l) ∧ z.frozen? ⟨g, p * 6 + 4, none⟩ = false) ∧ (z.cell? ⟨g, p * 6 + 5, none⟩ = some (.int .i64 (ndAt (T i) p).r) ∧ z.frozen? ⟨g, p * 6 + 5, none⟩ = false) := by
  have r := h.tb.row i hi
  rw [hv] at r
  exact own_cells r p hp
theorem MQ.cellL (h : MQ w B N D0 t U G F vU nT vT ts T nL vL vs L z) {i g c : Nat} (hi : i < nL) (hv : vs i = .slice (some ⟨g, 0, none⟩) (L i).length c) (p : Nat) (hp : p < (L i).length) : z.cell? ⟨g, p, none⟩ = some (.int .i64 ((L i).getD p 0)) ∧ z.frozen? ⟨g, p, none⟩ = false := by
  have r := h.ls.row i hi
  rw [hv] at r
  obtain ⟨g', c', hv', -, -, -, -, hc, hf⟩ := owns_some r (by omega)
  injection hv' with e1 _ _
  injection e1 with e1
  injection e1 with e1 _ _
  subst e1
  rw [hc p (by omega)]
  exact ⟨by simp [isC, List.getD_eq_getElem?_getD, List.getElem?_eq_getElem hp], hf p⟩
end

theorem key_set {T : NL} {p p' : Nat} {n : NdD} (hp : p < T.length) : (ndAt (T.set p n) p').key = if p' = p then n.key else (ndAt T p').key := by
  unfold ndAt
  by_cases e : p' = p
  · subst e
    rw [if_pos rfl, List.getD_eq_getElem?_getD, List.getElem?_set_self hp]
    rfl
  · rw [if_neg e, List.getD_eq_getElem?_getD, List.getElem?_set_ne (fun h => e h.symm), ← List.getD_eq_getElem?_getD]
theorem int_set {L : List Int} {p p' : Nat} {a : Int} (hp : p < L.length) : (L.set p a).getD p' 0 = if p' = p then a else L.getD p' 0 := by
  by_cases e : p' = p
  · subst e
    rw [if_pos rfl, List.getD_eq_getElem?_getD, List.getElem?_set_self hp]
    rfl
  · rw [if_neg e, List.getD_eq_getElem?_getD, List.getElem?_set_ne (fun h => e h.symm), ← List.getD_eq_getElem?_getD]
section

variable {w z y : World} {B N nT nL : Nat} {D0 : Prop} {t U : NL} {G F : Nat → Nat} {vU vT vL : Value} {ts vs : Nat → Value} {T : Nat → NL} {L : Nat → List Int}

theorem MQ.pushT (h : MQ w B N D0 t U G F vU nT vT ts T nL vL vs L z) {x : World} {v' r : Value} {R : NL} {o : Obj} (hb : Below z.heap.size z y) (hr : y.ownsRow B 81 6 r R.length (ndCells R)) (hf : ∀ g, r.ownBlock = some g → z.heap.size ≤ g) (hl : R.length ≤ 100000) (hc : (y.alloc o).grownBy x vT.ownBlock) (ht : x.ownsRow B 22 1 v' (nT + 1) ((List.range nT).map ts ++ [r])) (hat : ∀ g, v'.ownBlock = some g → vT.ownBlock = some g ∨ y.heap.size ≤ g) :
    MQ w B N D0 t U G F vU (nT + 1) v' (extN ts nT fun _ => r) (extN T nT fun _ => R) nL vL vs L x := by
  have hy := h.below hb
  have hg := gb_alloc hc
  refine ⟨h.tb.push (m := 1) (f := fun _ => r) (fD := fun _ => R) hb (fun _ _ => hr) (fun _ _ g h1 => ⟨fun i hi h2 => ?_, fun h2 => ?_⟩) (fun i j hi hj hij => absurd (by omega : i = j) hij) (fun _ _ => hl) hg ht hat, hy.ls.keep hg (fun j hj g h1 h2 => own_ne (hy.ls.row j hj) hy.tb.top (by decide) g h1 h2) (fun g h1 h2 => own_ne hy.ls.top hy.tb.top (by decide) g h1 h2), gb_owns hg hy.u (fun g h1 h2 => ?_), h.uB, fun q => (hy.nd q).keep hg (fun g h1 => ?_), Nat.le_trans hy.lN hg.size, hy.bl.trans (gb_to hg _ hy.bl.size (fun g h1 => ?_)), h.wB⟩
  · have := hf g h1
    have := (owns_lt (h.tb.row i hi) g h2).2
    omega
  · have := hf g h1
    have := (owns_lt h.tb.top g h2).2
    omega
  · have := h.uB g h1
    have := (owns_lt h.tb.top g h2).1
    omega
  · obtain ⟨c, hc⟩ := own_block hy.tb.top h1
    exact ⟨c, _, hc, by decide, by decide⟩
  · exact Nat.le_trans h.wB (owns_lt h.tb.top g h1).1
theorem MQ.pushL (h : MQ w B N D0 t U G F vU nT vT ts T nL vL vs L z) {x : World} {v' : Value} {o : Obj} {m : Nat} {f : Nat → Value} {fD : Nat → List Int} (hb : Below z.heap.size z y) (hr : ∀ j, j < m → y.ownsRow B 3 1 (f j) (fD j).length (isC (fD j))) (hf : ∀ j, j < m → ∀ g, (f j).ownBlock = some g → (∀ i, i < nL → (vs i).ownBlock ≠ some g) ∧ vL.ownBlock ≠ some g) (hs : ∀ i j, i < m → j < m → i ≠ j → ∀ g, (f i).ownBlock = some g → (f j).ownBlock ≠ some g) (hl : ∀ j, j < m → (fD j).length ≤ 100000) (hc : (y.alloc o).grownBy x vL.ownBlock) (ht : x.ownsRow B 23 1 v' (nL + m) ((List.range nL).map vs ++ (List.range m).map f)) (hat : ∀ g, v'.ownBlock = some g → vL.ownBlock = some g ∨ y.heap.size ≤ g) :
    MQ w B N D0 t U G F vU nT vT ts T (nL + m) v' (extN vs nL f) (extN L nL fD) x := by
  have hy := h.below hb
  have hg := gb_alloc hc
  refine ⟨hy.tb.keep hg (fun j hj g h1 h2 => own_ne (hy.tb.row j hj) hy.ls.top (by decide) g h1 h2) (fun g h1 h2 => own_ne hy.tb.top hy.ls.top (by decide) g h1 h2), h.ls.push hb hr hf hs hl hg ht hat, gb_owns hg hy.u (fun g h1 h2 => ?_), h.uB, fun q => (hy.nd q).keep hg (fun g h1 => ?_), Nat.le_trans hy.lN hg.size, hy.bl.trans (gb_to hg _ hy.bl.size (fun g h1 => ?_)), h.wB⟩
  · have := h.uB g h1
    have := (owns_lt h.ls.top g h2).1
    omega
  · obtain ⟨c, hc⟩ := own_block hy.ls.top h1
    exact ⟨c, _, hc, by decide, by decide⟩
  · exact Nat.le_trans h.wB (owns_lt h.ls.top g h1).1
end

end Go.Proofs.Ythdfpddijocfkaa



namespace Go.Proofs.Ythdfpddijocfkaa

open Go.RowKit

attribute [local go_sem ↓] Go.wp_at_zero Go.wp_at_succ

theorem nlSelf (a : NL) : nlEq a a = true := by unfold nlEq; simp
theorem isSelf (a : List Int) : isEq a a = true := by unfold isEq; simp
theorem sk_fold (t : NL) (ks : List Int) : ∃ L M, (if skE t ks = 0 then ks.length else 0) = L.length ∧ M.length = L.length ∧ (if skE t ks = 0 then skC (skA t ks) else []) = skC L ∧ (if skE t ks = 0 then isC (skN t ks) else []) = isC M := by
  by_cases h : skE t ks = 0
  · refine ⟨skA t ks, skN t ks, ?_⟩
    simp [h, skA, skN]
  · refine ⟨[], [], ?_⟩
    simp [h, skC, isC]
theorem WsAt.take {w : World} {base : Option Addr} {g o : Nat} {L : List Int} (h : WsAt w base g o L) (m : Nat) : WsAt w base g o (L.take m) := by
  have hl : (L.take m).length = min m L.length := List.length_take
  refine ⟨fun q => h.base (by omega), fun q => h.lt (by omega), fun i hi => ?_, by have := h.len; omega⟩
  rw [h.cells i (by omega)]
  simp only [List.getD_eq_getElem?_getD]
  rw [List.getElem?_take, if_pos (by omega)]
theorem map_len (L : List Int) : (isC L).length = L.length := by simp [isC]
/-- Round, Walk and Seek over a handed-in table. -/
theorem kr_len (t : NL) : formE t = 0 → (rdK t).length < 100000 := fun he => by
  have := rdK_len he
  have := inn_count he
  have := (formE_ok he).1
  omega

set_option maxRecDepth 100000 in
set_option maxHeartbeats 1000000 in
theorem nodeTables_any (bT : Option Addr) (b o cT : Nat) (t : NL) (bk : Option Addr) (gk ok ck : Nat) (keys : List Int) (key inf wt val : Int) (w : World) (h : NodesAt w bT b o t) (hTn : bT = none → t.length = 0 ∧ cT = 0) (hTb : t.length * 48 ≤ 140737488355328) (hk : WsAt w bk gk ok keys) (hKn : bk = none → keys.length = 0 ∧ ck = 0) (hKb : keys.length * 8 ≤ 140737488355328) (hKc : keys.length ≤ ck) :
    Calls Try.prog 3 #[.agg #[.slice bT t.length cT, .slice bk keys.length ck, .int .i64 key, .int .i64 inf, .int .i64 wt, .int .i64 val]] w fun e w' => e = .returned (.bool true) ∧ Below w.heap.size w w' := by
  have HTN : Hid (bT = none → t.length = 0 ∧ cT = 0) := hTn
  have HKN : Hid (bk = none → keys.length = 0 ∧ ck = 0) := hKn
  have HKC : Hid (keys.length ≤ ck) := hKc
  generalize hW1 : w.alloc (.cells #[.slice bT t.length cT, .slice bk keys.length ck, .int .i64 key, .int .i64 inf, .int .i64 wt, .int .i64 val] 25) = W1
  have hs1 : W1.heap.size = w.heap.size + 1 := by rw [← hW1]; simp
  have hb1 : Below w.heap.size w W1 := by rw [← hW1]; exact below_alloc _ _
  have hbk : W1.heap[w.heap.size]? = some (.cells #[.slice bT t.length cT, .slice bk keys.length ck, .int .i64 key, .int .i64 inf, .int .i64 wt, .int .i64 val] 25) := by rw [← hW1]; exact heap_alloc_at _ _ _ rfl
  have NT : Hid (∀ z, Below W1.heap.size W1 z → NodesAt z bT b o t) := fun z hz => (h.below hb1).below hz
  have NW : Hid (∀ z, Below W1.heap.size W1 z → WsAt z bk gk ok keys) := fun z hz => (hk.below hb1).below hz
  have CC : Hid (∀ z, Below W1.heap.size W1 z → z.cell? ⟨w.heap.size, 0, none⟩ = some (.slice bT t.length cT) ∧ z.cell? ⟨w.heap.size, 1, none⟩ = some (.slice bk keys.length ck) ∧ z.cell? ⟨w.heap.size, 2, none⟩ = some (.int .i64 key)) := fun z hz => by
    have e := (hz.block _ (by omega)).trans hbk
    exact ⟨by simp [World.cell?, e], by simp [World.cell?, e], by simp [World.cell?, e]⟩
  have BL : Hid (∀ z, Below W1.heap.size W1 z → Below w.heap.size w z ∧ w.heap.size < z.heap.size) := fun z hz => ⟨hb1.trans (hz.mono hb1.size), by have := hz.size; omega⟩
  have qE : (formE t != formE t) = false := by simp
  obtain ⟨KR, hKR⟩ : ∃ K, K = (if formE t = 0 then rdK t else []) := ⟨_, rfl⟩
  have HKR : Hid (KR = (if formE t = 0 then rdK t else [])) := hKR
  clear h hk hTn hKn hb1 hbk hKc hKR
  go_enter Try.func3, Try.ntmps3
  go_wp2_with fail
  clear hW1
  refine (nfix_any _).mono ?_
  rintro e w2 ⟨rfl, hb2⟩
  have H2 : Hid (Below W1.heap.size W1 w2) := hb2
  obtain ⟨e0, e1, e2⟩ := CC.out _ H2.out
  clear hb2
  go_wp2_with fail
  refine (nCopied_any bT b o cT t _ (NT.out _ H2.out) HTN.out hTb).mono ?_
  rintro e w3 ⟨v3, rfl, ho3, hb3⟩
  obtain ⟨a3, c3, g3, rfl, -, -, hn3⟩ := nodes_of_owns ho3
  have H3 : Hid (Below W1.heap.size W1 w3) := H2.out.trans (hb3.mono H2.out.size)
  have R4 : Hid _ := Round_any a3 g3 0 c3 t w3 hn3 (kr_len t)
  clear ho3 hn3 hb3 e0 e1 e2
  rw [← HKR.out] at R4
  go_wp2_with fail
  refine Calls.mono R4.out ?_
  rintro e w4 ⟨v4, u4, rfl, ho4, hk4, hb4⟩
  obtain ⟨a4, c4, g4, rfl, -, -, hn4⟩ := nodes_of_owns ho4
  obtain ⟨ak4, ck4, gk4, rfl, -, -, hs4⟩ := ws_of_owns (L := KR) hk4
  have N4 : Hid (NodesAt w4 a4 g4 0 (normL t)) := hn4
  have K4 : Hid (WsAt w4 ak4 gk4 0 KR) := hs4
  have H4 : Hid (Below W1.heap.size W1 w4) := H3.out.trans (hb4.mono H3.out.size)
  obtain ⟨e0, e1, e2⟩ := CC.out _ H4.out
  have R5 : Hid _ := rRound_any bT b o cT t w4 (NT.out _ H4.out)
  rw [← HKR.out] at R5
  clear ho4 hk4 hb4 hn4 hs4 R4 H3 H2
  go_wp2_with fail
  refine Calls.mono R5.out ?_
  rintro e w5 ⟨v5, u5, rfl, ho5, hk5, hb5⟩
  obtain ⟨a5, c5, g5, rfl, -, -, hn5⟩ := nodes_of_owns ho5
  obtain ⟨ak5, ck5, gk5, rfl, -, -, hs5⟩ := ws_of_owns (L := KR) hk5
  have N5 : Hid (NodesAt w5 a5 g5 0 (normL t)) := hn5
  have K5 : Hid (WsAt w5 ak5 gk5 0 KR) := hs5
  have N45 : Hid (NodesAt w5 a4 g4 0 (normL t)) := N4.out.below hb5
  have K45 : Hid (WsAt w5 ak4 gk4 0 KR) := K4.out.below hb5
  have H5 : Hid (Below W1.heap.size W1 w5) := H4.out.trans (hb5.mono H4.out.size)
  clear ho5 hk5 hb5 hn5 hs5 R5 H4 N4 K4 e0 e1 e2
  go_wp2_with fail
  refine (vSame_any a4 a5 g4 0 c4 g5 0 c5 (normL t) (normL t) _ N45.out N5.out).mono ?_
  rintro e w6 ⟨rfl, hb6⟩
  rw [nlSelf]
  have K6 : Hid (WsAt w6 ak5 gk5 0 KR) := K5.out.below hb6
  have K46 : Hid (WsAt w6 ak4 gk4 0 KR) := K45.out.below hb6
  have H6 : Hid (Below W1.heap.size W1 w6) := H5.out.trans (hb6.mono H5.out.size)
  clear hb6 H5 N5 N45 K5 K45
  go_wp2_with fail
  refine (sameInts_any ak4 ak5 gk4 0 ck4 gk5 0 ck5 KR KR _ K46.out K6.out).mono ?_
  rintro e w7 ⟨rfl, hb7⟩
  rw [isSelf]
  have H7 : Hid (Below W1.heap.size W1 w7) := H6.out.trans (hb7.mono H6.out.size)
  have H7d : Hid (Below W1.heap.size W1 w7.drew) := H7.out.drew
  obtain ⟨e0, e1, e2⟩ := CC.out _ H7.out
  clear hb7 H6 K6 K46
  go_wp2_with fail
  go_region_held3 (fun w' => w'.cell? ⟨w.heap.size, 0, none⟩ = some (.slice bT t.length cT) ∧ w'.cell? ⟨w.heap.size, 2, none⟩ = some (.int .i64 key))
    (first
      | (with_reducible exact X8.out)
      | (with_reducible exact X9.out)
      | go_keep)
    (first
      | (go_at_call 9; refine (nCopied_any bT b o cT t _ (NT.out _ H7d.out) HTN.out hTb).mono ?_; rintro e w8 ⟨v8, rfl, ho8, hb8⟩; obtain ⟨a8, c8, g8, rfl, -, -, hn8⟩ := nodes_of_owns ho8; have N8 : Hid (NodesAt w8 a8 g8 0 t) := hn8; have H8 : Hid (Below W1.heap.size W1 w8) := H7d.out.trans (hb8.mono H7d.out.size); have X8 : Hid (w8.cell? ⟨w.heap.size, 0, none⟩ = some (.slice bT t.length cT) ∧ w8.cell? ⟨w.heap.size, 2, none⟩ = some (.int .i64 key)) := ⟨(CC.out _ H8.out).1, (CC.out _ H8.out).2.2⟩; clear ho8 hn8 hb8)
      | (go_at_call 13; refine (Walk_any a8 g8 0 c8 t key _ N8.out).mono ?_; rintro e w9 ⟨v9, u9, rfl, ho9, hk9, hb9⟩; rw [natC_isC] at ho9; have lW : ((wkL t key).map fun x : Nat => (x : Int)).length = (wkL t key).length := List.length_map _; rw [← lW] at ho9; obtain ⟨a9, c9, g9, rfl, -, -, hn9⟩ := ws_of_owns ho9; obtain ⟨ak9, ck9, gk9, rfl, -, -, hs9⟩ := ws_of_owns (L := wkK t key) hk9; have N9 : Hid (WsAt w9 a9 g9 0 ((wkL t key).map fun x : Nat => (x : Int))) := hn9; have K9 : Hid (WsAt w9 ak9 gk9 0 (wkK t key)) := hs9; have H9 : Hid (Below W1.heap.size W1 w9) := H8.out.trans (hb9.mono H8.out.size); have X9 : Hid (w9.cell? ⟨w.heap.size, 0, none⟩ = some (.slice bT t.length cT) ∧ w9.cell? ⟨w.heap.size, 2, none⟩ = some (.int .i64 key)) := ⟨(CC.out _ H9.out).1, (CC.out _ H9.out).2.2⟩; clear ho9 hk9 hn9 hs9 hb9 lW))
  clear e0 e1 e2
  obtain ⟨e0, e1, e2⟩ := CC.out _ H9.out
  go_wp2_with fail
  refine (rWalk_any bT b o cT t key _ (NT.out _ H9.out)).mono ?_
  rintro e w10 ⟨v10, u10, rfl, ho10, hk10, hb10⟩
  rw [natC_isC] at ho10
  have lW : ((wkL t key).map fun x : Nat => (x : Int)).length = (wkL t key).length := List.length_map _
  rw [← lW] at ho10
  obtain ⟨a10, c10, g10, rfl, -, -, hn10⟩ := ws_of_owns ho10
  obtain ⟨ak10, ck10, gk10, rfl, -, -, hs10⟩ := ws_of_owns (L := wkK t key) hk10
  have N10 : Hid (WsAt w10 a10 g10 0 ((wkL t key).map fun x : Nat => (x : Int))) := hn10
  have K10 : Hid (WsAt w10 ak10 gk10 0 (wkK t key)) := hs10
  have N910 : Hid (WsAt w10 a9 g9 0 ((wkL t key).map fun x : Nat => (x : Int))) := N9.out.below hb10
  have K910 : Hid (WsAt w10 ak9 gk9 0 (wkK t key)) := K9.out.below hb10
  have H10 : Hid (Below W1.heap.size W1 w10) := H9.out.trans (hb10.mono H9.out.size)
  clear ho10 hk10 hb10 hn10 hs10 e0 e1 e2 X9 X8 H9 H8 N8 N9 K9
  have SI : Hid _ := sameInts_any a9 a10 g9 0 c9 g10 0 c10 _ _ _ N910.out N10.out
  rw [isSelf, List.length_map] at SI
  clear lW
  go_wp2_with fail
  refine Calls.mono SI.out ?_
  rintro e w11 ⟨rfl, hb11⟩
  have K11 : Hid (WsAt w11 ak10 gk10 0 (wkK t key)) := K10.out.below hb11
  have K911 : Hid (WsAt w11 ak9 gk9 0 (wkK t key)) := K910.out.below hb11
  have H11 : Hid (Below W1.heap.size W1 w11) := H10.out.trans (hb11.mono H10.out.size)
  clear hb11 SI H10 N10 N910 K10 K910
  go_wp2_with fail
  refine (sameInts_any ak9 ak10 gk9 0 ck9 gk10 0 ck10 (wkK t key) (wkK t key) _ K911.out K11.out).mono ?_
  rintro e w12 ⟨rfl, hb12⟩
  rw [isSelf]
  have H12 : Hid (Below W1.heap.size W1 w12) := H11.out.trans (hb12.mono H11.out.size)
  obtain ⟨e0, e1, e2⟩ := CC.out _ H12.out
  clear hb12 H11 K11 K911
  have l0 : (0 : Int) ≤ (keys.length : Int) := Int.natCast_nonneg _
  rcases (show keys.length ≤ 100 ∨ (100 < keys.length ∧ keys.length ≤ 1000) ∨ 1000 < keys.length by omega) with hl | hl | hl
  · have hc := HKC.out
    have q1 : (keys.length : Int) ≤ 1000 := by omega
    have q2 : min (keys.length : Int) 100 = (keys.length : Int) := by omega
    have q3 : (keys.length : Int) ≤ (ck : Int) := by omega
    have NK : Hid (∀ z, Below W1.heap.size W1 z → WsAt z bk gk ok keys) := NW
    have HNIL : Hid (bk = none → keys.length = 0 ∧ ck = 0) := HKN
    have hKb2 := hKb
    clear hl
    go_wp2_with fail
    obtain ⟨L, M, lL, lM, eL, eM⟩ := sk_fold t keys
    have HLL : Hid ((if skE t keys = 0 then keys.length else 0) = L.length) := lL
    have HLM : Hid (M.length = L.length) := lM
    have HEL : Hid ((if skE t keys = 0 then skC (skA t keys) else []) = skC L) := eL
    have HEM : Hid ((if skE t keys = 0 then isC (skN t keys) else []) = isC M) := eM
    clear lL lM eL eM
    have qS : (skE t keys == skE t keys) = true := by simp
    refine (nCopied_any bT b o cT t _ (NT.out _ H12.out) HTN.out hTb).mono ?_
    rintro e w13 ⟨v13, rfl, ho13, hb13⟩
    obtain ⟨a13, c13, g13, rfl, -, -, hn13⟩ := nodes_of_owns ho13
    have N13 : Hid (NodesAt w13 a13 g13 0 t) := hn13
    have H13 : Hid (Below W1.heap.size W1 w13) := H12.out.trans (hb13.mono H12.out.size)
    have RI : Hid _ := nInts_any bk gk ok ck keys w13 (NK.out _ H13.out) HNIL.out hKb2
    clear ho13 hn13 hb13 e0 e1 e2
    go_wp2_with fail
    refine Calls.mono RI.out ?_
    rintro e w14 ⟨v14, rfl, ho14, hb14⟩
    obtain ⟨a14, c14, g14, rfl, -, -, hs14⟩ := ws_of_owns (L := keys) ho14
    have H14 : Hid (Below W1.heap.size W1 w14) := H13.out.trans (hb14.mono H13.out.size)
    have RS : Hid _ := Seek_any a13 g13 0 c13 t a14 g14 0 c14 keys w14 (N13.out.below hb14) hs14
    rw [HLL.out, HEL.out, HEM.out] at RS
    clear ho14 hs14 hb14 RI H13 N13
    go_wp2_with fail
    refine Calls.mono RS.out ?_
    rintro e w15 ⟨v15, u15, rfl, ho15, hk15, hb15⟩
    rw [← HLM.out] at hk15
    obtain ⟨a15, c15, g15, rfl, hr15⟩ := rt_of_owns ho15 rfl
    obtain ⟨ak15, ck15, gk15, rfl, -, -, hs15⟩ := ws_of_owns (L := M) hk15
    have R15 : Hid (RtAt w15 a15 g15 L) := hr15
    have K15 : Hid (WsAt w15 ak15 gk15 0 M) := hs15
    have H15 : Hid (Below W1.heap.size W1 w15) := H14.out.trans (hb15.mono H14.out.size)
    obtain ⟨e0, e1, e2⟩ := CC.out _ H15.out
    have RT : Hid _ := rSeek_any bT b o cT t bk gk ok ck keys w15 (NT.out _ H15.out) (NK.out _ H15.out)
    rw [HLL.out, HEL.out, HEM.out] at RT
    clear ho15 hk15 hr15 hs15 hb15 RS H14
    go_wp2_with fail
    refine Calls.mono RT.out ?_
    rintro e w16 ⟨v16, u16, rfl, ho16, hk16, hb16⟩
    rw [← HLM.out] at hk16
    obtain ⟨a16, c16, g16, rfl, hr16⟩ := rt_of_owns ho16 rfl
    obtain ⟨ak16, ck16, gk16, rfl, -, -, hs16⟩ := ws_of_owns (L := M) hk16
    have R16 : Hid (RtAt w16 a16 g16 L) := hr16
    have R516 : Hid (RtAt w16 a15 g15 L) := R15.out.below hb16
    have K16 : Hid (WsAt w16 ak16 gk16 0 M) := hs16
    have K516 : Hid (WsAt w16 ak15 gk15 0 M) := K15.out.below hb16
    have H16 : Hid (Below W1.heap.size W1 w16) := H15.out.trans (hb16.mono H15.out.size)
    clear ho16 hk16 hr16 hs16 hb16 RT H15 R15 K15 e0 e1 e2
    go_wp2_with fail
    refine (sameInts_any ak15 ak16 gk15 0 ck15 gk16 0 ck16 M M _ K516.out K16.out).mono ?_
    rintro e w17 ⟨rfl, hb17⟩
    rw [isSelf]
    have R17 : Hid (RtAt w17 a16 g16 L) := R16.out.below hb17
    have R517 : Hid (RtAt w17 a15 g15 L) := R516.out.below hb17
    have H17 : Hid (Below W1.heap.size W1 w17) := H16.out.trans (hb17.mono H16.out.size)
    clear hb17 R16 R516 K16 K516 H16
    go_wp2_with fail
    refine (nSameRets_any a15 a16 g15 c15 g16 c16 L _ R517.out R17.out).mono ?_
    rintro e w18 ⟨rfl, hb18⟩
    have H18 : Hid (Below W1.heap.size W1 w18) := H17.out.trans (hb18.mono H17.out.size)
    clear hb18
    go_wp2_with fail
    go_ret
    exact ⟨rfl, (BL.out _ H18.out).1⟩
  · have hc := HKC.out
    have q1 : (keys.length : Int) ≤ 1000 := by omega
    have q2 : min (keys.length : Int) 100 = 100 := by omega
    have q3 : (100 : Int) ≤ (ck : Int) := by omega
    have hlen : (keys.take 100).length = 100 := by rw [List.length_take]; omega
    have NK : Hid (∀ z, Below W1.heap.size W1 z → WsAt z bk gk ok (keys.take 100)) := fun z hz => (NW.out z hz).take 100
    have HNIL : Hid (bk = none → (keys.take 100).length = 0 ∧ ck = 0) := fun q => by have := HKN.out q; omega
    have hKb2 : (keys.take 100).length * 8 ≤ 140737488355328 := by omega
    clear hl
    generalize keys.take 100 = ks at *
    go_wp2_with fail
    obtain ⟨L, M, lL, lM, eL, eM⟩ := sk_fold t ks
    have HLL : Hid ((if skE t ks = 0 then ks.length else 0) = L.length) := lL
    have HLM : Hid (M.length = L.length) := lM
    have HEL : Hid ((if skE t ks = 0 then skC (skA t ks) else []) = skC L) := eL
    have HEM : Hid ((if skE t ks = 0 then isC (skN t ks) else []) = isC M) := eM
    clear lL lM eL eM
    have qS : (skE t ks == skE t ks) = true := by simp
    refine (nCopied_any bT b o cT t _ (NT.out _ H12.out) HTN.out hTb).mono ?_
    rintro e w13 ⟨v13, rfl, ho13, hb13⟩
    obtain ⟨a13, c13, g13, rfl, -, -, hn13⟩ := nodes_of_owns ho13
    have N13 : Hid (NodesAt w13 a13 g13 0 t) := hn13
    have H13 : Hid (Below W1.heap.size W1 w13) := H12.out.trans (hb13.mono H12.out.size)
    have RI : Hid _ := nInts_any bk gk ok ck ks w13 (NK.out _ H13.out) HNIL.out hKb2
    rw [hlen] at RI
    clear ho13 hn13 hb13 e0 e1 e2
    go_wp2_with fail
    refine Calls.mono RI.out ?_
    rintro e w14 ⟨v14, rfl, ho14, hb14⟩
    rw [← hlen] at ho14
    obtain ⟨a14, c14, g14, rfl, -, -, hs14⟩ := ws_of_owns (L := ks) ho14
    have H14 : Hid (Below W1.heap.size W1 w14) := H13.out.trans (hb14.mono H13.out.size)
    have RS : Hid _ := Seek_any a13 g13 0 c13 t a14 g14 0 c14 ks w14 (N13.out.below hb14) hs14
    rw [HLL.out, HEL.out, HEM.out, hlen] at RS
    clear ho14 hs14 hb14 RI H13 N13
    go_wp2_with fail
    refine Calls.mono RS.out ?_
    rintro e w15 ⟨v15, u15, rfl, ho15, hk15, hb15⟩
    rw [← HLM.out] at hk15
    obtain ⟨a15, c15, g15, rfl, hr15⟩ := rt_of_owns ho15 rfl
    obtain ⟨ak15, ck15, gk15, rfl, -, -, hs15⟩ := ws_of_owns (L := M) hk15
    have R15 : Hid (RtAt w15 a15 g15 L) := hr15
    have K15 : Hid (WsAt w15 ak15 gk15 0 M) := hs15
    have H15 : Hid (Below W1.heap.size W1 w15) := H14.out.trans (hb15.mono H14.out.size)
    obtain ⟨e0, e1, e2⟩ := CC.out _ H15.out
    have RT : Hid _ := rSeek_any bT b o cT t bk gk ok ck ks w15 (NT.out _ H15.out) (NK.out _ H15.out)
    rw [HLL.out, HEL.out, HEM.out, hlen] at RT
    clear ho15 hk15 hr15 hs15 hb15 RS H14
    go_wp2_with fail
    refine Calls.mono RT.out ?_
    rintro e w16 ⟨v16, u16, rfl, ho16, hk16, hb16⟩
    rw [← HLM.out] at hk16
    obtain ⟨a16, c16, g16, rfl, hr16⟩ := rt_of_owns ho16 rfl
    obtain ⟨ak16, ck16, gk16, rfl, -, -, hs16⟩ := ws_of_owns (L := M) hk16
    have R16 : Hid (RtAt w16 a16 g16 L) := hr16
    have R516 : Hid (RtAt w16 a15 g15 L) := R15.out.below hb16
    have K16 : Hid (WsAt w16 ak16 gk16 0 M) := hs16
    have K516 : Hid (WsAt w16 ak15 gk15 0 M) := K15.out.below hb16
    have H16 : Hid (Below W1.heap.size W1 w16) := H15.out.trans (hb16.mono H15.out.size)
    clear ho16 hk16 hr16 hs16 hb16 RT H15 R15 K15 e0 e1 e2
    go_wp2_with fail
    refine (sameInts_any ak15 ak16 gk15 0 ck15 gk16 0 ck16 M M _ K516.out K16.out).mono ?_
    rintro e w17 ⟨rfl, hb17⟩
    rw [isSelf]
    have R17 : Hid (RtAt w17 a16 g16 L) := R16.out.below hb17
    have R517 : Hid (RtAt w17 a15 g15 L) := R516.out.below hb17
    have H17 : Hid (Below W1.heap.size W1 w17) := H16.out.trans (hb17.mono H16.out.size)
    clear hb17 R16 R516 K16 K516 H16
    go_wp2_with fail
    refine (nSameRets_any a15 a16 g15 c15 g16 c16 L _ R517.out R17.out).mono ?_
    rintro e w18 ⟨rfl, hb18⟩
    have H18 : Hid (Below W1.heap.size W1 w18) := H17.out.trans (hb18.mono H17.out.size)
    clear hb18
    go_wp2_with fail
    go_ret
    exact ⟨rfl, (BL.out _ H18.out).1⟩
  · have q1 : (1000 : Int) < (keys.length : Int) := by omega
    have NK : Hid (∀ z, Below W1.heap.size W1 z → WsAt z bk gk ok keys) := NW
    have HNIL : Hid (bk = none → keys.length = 0 ∧ ck = 0) := HKN
    have hKb2 := hKb
    clear hl
    go_wp2_with fail
    obtain ⟨L, M, lL, lM, eL, eM⟩ := sk_fold t keys
    have HLL : Hid ((if skE t keys = 0 then keys.length else 0) = L.length) := lL
    have HLM : Hid (M.length = L.length) := lM
    have HEL : Hid ((if skE t keys = 0 then skC (skA t keys) else []) = skC L) := eL
    have HEM : Hid ((if skE t keys = 0 then isC (skN t keys) else []) = isC M) := eM
    clear lL lM eL eM
    have qS : (skE t keys == skE t keys) = true := by simp
    refine (nCopied_any bT b o cT t _ (NT.out _ H12.out) HTN.out hTb).mono ?_
    rintro e w13 ⟨v13, rfl, ho13, hb13⟩
    obtain ⟨a13, c13, g13, rfl, -, -, hn13⟩ := nodes_of_owns ho13
    have N13 : Hid (NodesAt w13 a13 g13 0 t) := hn13
    have H13 : Hid (Below W1.heap.size W1 w13) := H12.out.trans (hb13.mono H12.out.size)
    have RI : Hid _ := nInts_any bk gk ok ck keys w13 (NK.out _ H13.out) HNIL.out hKb2
    clear ho13 hn13 hb13 e0 e1 e2
    go_wp2_with fail
    refine Calls.mono RI.out ?_
    rintro e w14 ⟨v14, rfl, ho14, hb14⟩
    obtain ⟨a14, c14, g14, rfl, -, -, hs14⟩ := ws_of_owns (L := keys) ho14
    have H14 : Hid (Below W1.heap.size W1 w14) := H13.out.trans (hb14.mono H13.out.size)
    have RS : Hid _ := Seek_any a13 g13 0 c13 t a14 g14 0 c14 keys w14 (N13.out.below hb14) hs14
    rw [HLL.out, HEL.out, HEM.out] at RS
    clear ho14 hs14 hb14 RI H13 N13
    go_wp2_with fail
    refine Calls.mono RS.out ?_
    rintro e w15 ⟨v15, u15, rfl, ho15, hk15, hb15⟩
    rw [← HLM.out] at hk15
    obtain ⟨a15, c15, g15, rfl, hr15⟩ := rt_of_owns ho15 rfl
    obtain ⟨ak15, ck15, gk15, rfl, -, -, hs15⟩ := ws_of_owns (L := M) hk15
    have R15 : Hid (RtAt w15 a15 g15 L) := hr15
    have K15 : Hid (WsAt w15 ak15 gk15 0 M) := hs15
    have H15 : Hid (Below W1.heap.size W1 w15) := H14.out.trans (hb15.mono H14.out.size)
    obtain ⟨e0, e1, e2⟩ := CC.out _ H15.out
    have RT : Hid _ := rSeek_any bT b o cT t bk gk ok ck keys w15 (NT.out _ H15.out) (NK.out _ H15.out)
    rw [HLL.out, HEL.out, HEM.out] at RT
    clear ho15 hk15 hr15 hs15 hb15 RS H14
    go_wp2_with fail
    refine Calls.mono RT.out ?_
    rintro e w16 ⟨v16, u16, rfl, ho16, hk16, hb16⟩
    rw [← HLM.out] at hk16
    obtain ⟨a16, c16, g16, rfl, hr16⟩ := rt_of_owns ho16 rfl
    obtain ⟨ak16, ck16, gk16, rfl, -, -, hs16⟩ := ws_of_owns (L := M) hk16
    have R16 : Hid (RtAt w16 a16 g16 L) := hr16
    have R516 : Hid (RtAt w16 a15 g15 L) := R15.out.below hb16
    have K16 : Hid (WsAt w16 ak16 gk16 0 M) := hs16
    have K516 : Hid (WsAt w16 ak15 gk15 0 M) := K15.out.below hb16
    have H16 : Hid (Below W1.heap.size W1 w16) := H15.out.trans (hb16.mono H15.out.size)
    clear ho16 hk16 hr16 hs16 hb16 RT H15 R15 K15 e0 e1 e2
    go_wp2_with fail
    refine (sameInts_any ak15 ak16 gk15 0 ck15 gk16 0 ck16 M M _ K516.out K16.out).mono ?_
    rintro e w17 ⟨rfl, hb17⟩
    rw [isSelf]
    have R17 : Hid (RtAt w17 a16 g16 L) := R16.out.below hb17
    have R517 : Hid (RtAt w17 a15 g15 L) := R516.out.below hb17
    have H17 : Hid (Below W1.heap.size W1 w17) := H16.out.trans (hb17.mono H16.out.size)
    clear hb17 R16 R516 K16 K516 H16
    go_wp2_with fail
    refine (nSameRets_any a15 a16 g15 c15 g16 c16 L _ R517.out R17.out).mono ?_
    rintro e w18 ⟨rfl, hb18⟩
    have H18 : Hid (Below W1.heap.size W1 w18) := H17.out.trans (hb18.mono H17.out.size)
    clear hb18
    go_wp2_with fail
    go_ret
    exact ⟨rfl, (BL.out _ H18.out).1⟩
end Go.Proofs.Ythdfpddijocfkaa


namespace Go.Proofs.Ythdfpddijocfkaa

open Go.RowKit

attribute [local go_sem ↓] Go.wp_at_zero Go.wp_at_succ

set_option maxRecDepth 100000 in
set_option maxHeartbeats 4000000 in
theorem Walk_sep (base : Option Addr) (b o c : Nat) (t : NL) (key : Int) (w : World) (h : NodesAt w base b o t) :
    Calls Try.prog 13 #[.slice base t.length c, .int .i64 key] w fun e w' => ∃ v u, e = .returned (.tuple #[v, u, .int .i64 (formE t)]) ∧ w'.ownsRow w.heap.size 3 1 v (wkL t key).length (natC (wkL t key)) ∧ w'.ownsRow w.heap.size 3 1 u (wkK t key).length ((wkK t key).map (Value.int .i64)) ∧ (∀ g, v.ownBlock = some g → u.ownBlock ≠ some g) ∧ Below w.heap.size w w' := by
  have HM : Hid _ := made_any base b o c t w h
  by_cases he : formE t = 0
  · have HE : Hid (formE t = 0) := he
    have OK : Hid (LaidOk (normL t)) := norm_ok he
    obtain ⟨hw1, hw2, hw3⟩ := wayN (norm_form he) key
    have e1 : wkL t key = wayL (normL t) key := if_pos he
    have e2 : wkK t key = List.replicate ((wayL (normL t) key).length - 1) 1 := by unfold wkK; rw [e1]
    rw [e1, e2]
    clear e1 e2
    generalize normL t = T at *
    generalize wayL T key = P at *
    have WY : Hid (Way T key 0 P) := hw1
    obtain ⟨i0, hi0, hz0, hz1, hz2⟩ := info_parts int_info
    have q : (formE t != 0) = false := by simp [he]
    have hmkm := makeH
    have lp := OK.out.pos
    have lb := OK.out.big
    clear h he hw1
    go_enter Try.func13, Try.ntmps13
    go_wp2_with fail
    refine Calls.mono HM.out ?_
    rintro e w1 ⟨hb, _, h2⟩
    obtain ⟨nb, G, F, rfl, hnb, hmd⟩ := h2 HE.out
    have HB : Hid (Below w.heap.size w w1) := hb
    have MD : Hid (MdAt T nb 0 G F w1) := hmd
    have ND : Hid (NdsAt w1 w1.heap.size T G F) := hmd.nds
    have l0 : (0 : Int) < (T.length : Int) := by omega
    have l1 : (T.length : Int) ≤ 100000 := by omega
    clear hb hmd h2
    go_wp2_with fail
    clear hmkm
    go_loopw [29] (fun vi wr => ∃ k : Nat, k ≤ T.length ∧ vi = .int .i64 (k : Int) ∧ PMap wr w1.heap.size (pls G k) ∧ Below w1.heap.size w1 wr) (fun vi _ => T.length - (intOf vi).toNat)
    case atStart =>
      exact ⟨0, Nat.zero_le _, rfl, PMap.made w1, below_alloc _ _⟩
    case round =>
      obtain ⟨k, hk, rfl, hpm, hbw⟩ := hrel
      rename World => wr
      have PM : Hid (PMap wr w1.heap.size (pls G k)) := hpm
      have HW : Hid (Below w1.heap.size w1 wr) := hbw
      clear hpm hbw
      have k0 : (0 : Int) ≤ (k : Int) := Int.natCast_nonneg _
      by_cases hkl : k < T.length
      · have k1 : (k : Int) < (T.length : Int) := by omega
        have c0 := ((MD.out.below HW.out).cell hkl).2.2 (Nat.zero_le _)
        have ND1 := ND.out.below HW.out
        obtain ⟨W3, hup, hpm, hgw⟩ := update_run placemap_under PM.out (fun x hx => by obtain ⟨i, hi, rfl⟩ := List.mem_map.1 hx; exact ND1.okr (by have := List.mem_range.1 hi; omega)) (ND1.okr hkl) (pls_none ND1.inj hkl) (.int .i64 (k : Int))
        have hup' : (Instr.mapUpdate 97 (.map (some w1.heap.size)) (.pointer (some ⟨G k, 0, none⟩)) (.int .i64 (k : Int))).run Try.prog wr = .ok () W3 := hup
        have PM3 : Hid (PMap W3 w1.heap.size (pls G (k + 1))) := by show PMap _ _ _; rw [pls_succ]; exact hpm
        have HW3 : Hid (Below w1.heap.size w1 W3) := HW.out.grown hgw HW.out.size (fun q e => by injection e with e; omega)
        clear hup hpm hgw ND1
        go_wp2_with fail
        exact ⟨⟨k + 1, by omega, by first | rfl | go_num, PM3.out, HW3.out⟩, by simp [intOf]; omega⟩
      · obtain rfl : k = T.length := by omega
        go_wp2_with fail
        refine (newTape_any _).mono ?_
        rintro e w2 ⟨rfl, hw2⟩
        obtain ⟨ht1, ht2⟩ := tape_new wr
        rw [← hw2] at ht1 ht2
        have b12 : Below wr.heap.size wr w2 := by rw [hw2]; exact below_alloc _ _
        have HT1 : Hid (NilTape wr.heap.size (wr.heap.size + 1) [] w2) := ht1
        have HT2 : Hid (Tbs (TOne wr.heap.size) w2) := ht2
        have HB2 : Hid (Below wr.heap.size wr w2) := b12
        have z1 : w1.heap.size ≤ wr.heap.size := HW.out.size
        have HB12 : Hid (Below w1.heap.size w1 w2) := HW.out.trans (b12.mono z1)
        have z2 : wr.heap.size ≤ w2.heap.size := b12.size
        have hmb : w1.heap.size < wr.heap.size := PM.out.lt
        have PM2 : Hid (PMap w2 w1.heap.size (pls G T.length)) := PM.out.same (b12.block _ PM.out.lt)
        have c0 := ((MD.out.below HB12.out).cell (i := 0) lp).2.2 (Nat.zero_le _)
        have CH : Hid (ChainAt w2 key wr.heap.size (wst T G F P)) := wayChain_at OK.out ((ND.out.below HB12.out).mono z1) WY.out
        obtain ⟨x, hx1, hx2, hx3, hx4, hx5⟩ := way_last (G := G) (F := F) WY.out
        have HP : Hid _ := Path_any (gateS_nilT wr.heap.size (wr.heap.size + 1) 100000 (Nat.le_refl _)) [] key wr.heap.size (fun t ht => by have e : t = wr.heap.size := ht; omega) (wst T G F P) w2 (by omega) CH.out (by unfold wst; simpa using hw3) (by rw [way_kinds WY.out]; simp; omega) HT1.out HT2.out
        rw [hx5] at HP
        clear ht1 ht2 b12 hw2 hx1 hx2 hx3 hx4 hx5 PM
        go_wp2_with fail
        refine Calls.mono HP.out ?_
        rintro e w3 ⟨v3, rfl, ho3, hg3, ht3, hb3⟩
        have l3 : (wst T G F P).length = P.length := by unfold wst; simp
        rw [l3] at ho3
        obtain ⟨a3, c3, rfl⟩ := owns_slice ho3
        have HO3 : Hid (w3.ownsRow w2.heap.size 41 1 (.slice a3 P.length c3) P.length (ptC (wst T G F P))) := ho3
        have HG3 : Hid (NilTape wr.heap.size (wr.heap.size + 1) (List.replicate (P.length - 1) 1) w3) := by rw [List.nil_append, way_kinds WY.out] at hg3; exact hg3
        have HB3 : Hid (Below w1.heap.size w1 w3) := HB12.out.trans (hb3.mono z1)
        have z3 : w2.heap.size ≤ w3.heap.size := hb3.size
        have PM3 : Hid (PMap w3 w1.heap.size (pls G T.length)) := PM2.out.same (hb3.block _ hmb)
        obtain ⟨gp, ha3, -, hgp, hgc, hgx⟩ := own_row1 HO3.out hw2
        subst ha3
        have HGX : Hid (∀ j, j < P.length → w3.cell? ⟨gp, j, none⟩ = (ptC (wst T G F P))[j]?) := hgx
        clear ho3 hg3 ht3 hb3 PM2 CH c0 hgx
        have p0 : (0 : Int) < (P.length : Int) := by omega
        have p1 : (P.length : Int) ≤ 100000 := by omega
        go_wp2_with fail
        go_loopw [47, 13] (fun vi vp wr' => ∃ j : Nat, j ≤ P.length ∧ vi = .int .i64 (j : Int) ∧ wr'.ownsRow w3.heap.size 3 1 vp j (natC (P.take j)) ∧ Below w3.heap.size w3 wr') (fun vi _ _ => P.length - (intOf vi).toNat)
        case atStart =>
          exact ⟨0, Nat.zero_le _, rfl, World.ownsRow_nil _ _ _ _, Below.refl _ _⟩
        case round =>
          obtain ⟨j, hj, rfl, ho, hb⟩ := hrel
          rename World => wj
          have HJ : Hid (Below w3.heap.size w3 wj) := hb
          obtain ⟨aj, cj, rfl⟩ := owns_slice ho
          have j0 : (0 : Int) ≤ (j : Int) := Int.natCast_nonneg _
          have OJ := ho
          have OJ1 : Hid (wj.ownsRow w3.heap.size 3 1 (.slice aj j cj) j (natC (P.take j))) := ho
          have zj : w3.heap.size ≤ wj.heap.size := hb.size
          clear ho hb
          by_cases hjl : j < P.length
          · have j1 : (j : Int) < (P.length : Int) := by omega
            obtain ⟨p, hp⟩ : ∃ p, P[j]? = some p := ⟨P[j], List.getElem?_eq_getElem hjl⟩
            have hpT : p < T.length := (way_next WY.out j p hp).1
            have ND1 := ND.out.below (HB3.out.trans (HJ.out.mono (by omega)))
            have PMj : PMap wj w1.heap.size (pls G T.length) := PM3.out.same (HJ.out.block _ PM3.out.lt)
            have hlk := lookup_run placemap_under PMj (fun x hx => by obtain ⟨i, hi, rfl⟩ := List.mem_map.1 hx; exact ND1.okr (by have := List.mem_range.1 hi; omega)) (ND1.okr hpT) (int_zero wj) false
            rw [pls_at ND1.inj hpT] at hlk
            have hlk' : (Instr.lookup 97 (.map (some w1.heap.size)) (.pointer (some ⟨G p, 0, none⟩)) false).run Try.prog wj = .ok (.int .i64 (p : Int)) wj := hlk
            have HTK : Hid (P.take (j + 1) = P.take j ++ [p]) := by show _ = _; rw [List.take_add_one, hp]; rfl
            have c0 : wj.cell? ⟨gp, j, none⟩ = some (.pointer (some ⟨G p, 0, none⟩)) := by
              rw [HJ.out.cell (p := ⟨gp, j, none⟩) hgp, HGX.out j hjl]
              unfold ptC wst
              rw [List.getElem?_map, List.getElem?_map, hp]
              rfl
            clear hlk ND1 PMj hp hpT
            go_wp2_with (first | (at_builtin; (refine wpList_append_lies _ (by rfl) _ _ _ (by rfl) w3.heap.size 3 i0 _ 1 8 ints_under hi0 hz0 hz1 hz2 rfl (by omega) _ j (natC (P.take j)) (by rfl) (OJ.alloc _) ⟨wj.heap.size, 0, none⟩ 1 1 [.int .i64 (p : Int)] (by rfl) (by rfl) (World.news_of_block (cs := #[.int .i64 (p : Int)]) (t := 3) (fr := (0, 0)) (heap_alloc_at _ _ _ rfl)) (by simp [Value.oneCell']) (by omega) (by unfold maxLen; omega) (by omega) (by simp; omega) (wj.heap.size + 1) (by simp) ?_); intro gg cap wk hown1 hgrow hat hlt1; have HK1 : Hid (wk.ownsRow w3.heap.size 3 1 (.slice (some ⟨gg, 0, none⟩) (j + 1) cap) (j + 1) (natC (P.take j) ++ [.int .i64 (p : Int)])) := hown1; have HKB : Hid (Below w3.heap.size w3 wk) := HJ.out.trans (Below.grown ((Below.refl w3.heap.size wj).alloc zj _) hgrow (by simp; omega) (owns_ge OJ1.out)); clear hgrow hat hlt1))
            refine ⟨⟨j + 1, by omega, by first | rfl | go_num, ?_, HKB.out⟩, by simp [intOf]; omega⟩
            rw [HTK.out, natC_snoc]
            exact HK1.out
          · obtain rfl : j = P.length := by omega
            have HTj : Hid (NilTape wr.heap.size (wr.heap.size + 1) (List.replicate (P.length - 1) 1) wj) := (gateS_nilT wr.heap.size (wr.heap.size + 1) 100000 (Nat.le_refl _)).keep _ _ _ HG3.out (Od.of_below HJ.out)
            have HV : Hid (wj.ownsRow w3.heap.size 3 1 (.slice aj P.length cj) P.length (natC P)) := by
              have := OJ
              rwa [List.take_length] at this
            clear OJ OJ1
            generalize hv : Value.slice aj P.length cj = vj at HV ⊢
            clear hv
            go_wp2_with fail
            refine (kinds_all _ _ _ _ HTj.out (by simp; omega)).mono ?_
            rintro e w4 ⟨v4, rfl, ho4, hb4⟩
            have HO4 : Hid _ := ho4
            have HB4 : Hid (Below wj.heap.size wj w4) := hb4
            clear ho4 hb4
            go_wp2_with fail
            go_ret3
            rw [HE.out]
            refine ⟨_, _, rfl, owns_down (owns_below HV.out HB4.out) (by have := HB.out.size; omega), owns_down HO4.out (by have := HB.out.size; omega), fun g h1 h2 => by have := (owns_lt HV.out g h1).2; have := (owns_lt HO4.out g h2).1; omega, ?_⟩
            exact HB.out.trans ((HB3.out.trans ((HJ.out.trans (HB4.out.mono zj)).mono (by omega))).mono HB.out.size)
  · have HE : Hid (formE t = 0 → False) := he
    have q : (formE t != 0) = true := by simp [he]
    have e1 : wkL t key = [] := if_neg he
    have e2 : wkK t key = [] := by unfold wkK; rw [e1]; rfl
    rw [e1, e2]
    clear h he e1 e2
    go_enter Try.func13, Try.ntmps13
    go_wp2_with fail
    refine Calls.mono HM.out ?_
    rintro e w1 ⟨hb, h1, _⟩
    obtain rfl := h1 HE.out
    have HB : Hid (Below w.heap.size w w1) := hb
    clear hb h1
    go_wp2_with fail
    go_ret3
    exact ⟨_, _, rfl, World.ownsRow_nil _ _ _ _, World.ownsRow_nil _ _ _ _, fun g h1 => (by cases h1), HB.out⟩
end Go.Proofs.Ythdfpddijocfkaa



namespace Go.Proofs.Ythdfpddijocfkaa

open Go.RowKit

theorem ll_info : (Try.prog.info? 23).map (fun i => (i.zero, i.size, i.bytes)) = some (some (.slice none 0 0), 1, 24) := by kernel_rfl
theorem ll_under : Try.prog.underlying 91 = some (.slice 23) := by kernel_rfl
theorem tt_info : (Try.prog.info? 22).map (fun i => (i.zero, i.size, i.bytes)) = some (some (.slice none 0 0), 1, 24) := by kernel_rfl
theorem tt_under : Try.prog.underlying 90 = some (.slice 22) := by kernel_rfl
def n77 : NdD := ⟨77, 0, 0, 0, 0, 0⟩
/-- What all of NodeMemory knows behind its two rows with room. -/
structure NB (w w5 : World) (bT bk : Option Addr) (b o cT gk ok ck g3 c3 g5 c5 : Nat) (t : NL) (W : List Int) (key : Int) : Prop where
  hTn : bT = none → t.length = 0 ∧ cT = 0
  hTb : t.length * 48 ≤ 140737488351232
  hWb : W.length * 8 ≤ 140737488351232
  hc3 : t.length + 1 ≤ c3
  hc5 : W.length + 1 ≤ c5
  NT : ∀ z, Below w5.heap.size w5 z → NodesAt z bT b o t
  NW : ∀ z, Below w5.heap.size w5 z → WsAt z bk gk ok W
  CC : ∀ z, Below w5.heap.size w5 z → z.cell? ⟨w.heap.size, 0, none⟩ = some (.slice bT t.length cT) ∧ z.cell? ⟨w.heap.size, 1, none⟩ = some (.slice bk W.length ck) ∧ z.cell? ⟨w.heap.size, 2, none⟩ = some (.int .i64 key)
  BL : ∀ z, Below w5.heap.size w5 z → Below w.heap.size w z ∧ w.heap.size < z.heap.size
  OT : ∀ z, Below w5.heap.size w5 z → z.ownsRow w.heap.size 81 6 (.slice (some ⟨g3, 0, none⟩) (t.length + 1) c3) (t.length + 1) (ndCells (t ++ [n77]))
  OW : ∀ z, Below w5.heap.size w5 z → z.ownsRow w.heap.size 3 1 (.slice (some ⟨g5, 0, none⟩) (W.length + 1) c5) (W.length + 1) (isC (W ++ [77]))
  lt3 : g3 < w5.heap.size
  lt5 : g5 < w5.heap.size
theorem NB.nodes {w w5 : World} {bT bk : Option Addr} {b o cT gk ok ck g3 c3 g5 c5 : Nat} {t : NL} {W : List Int} {key : Int} (h : NB w w5 bT bk b o cT gk ok ck g3 c3 g5 c5 t W key) (z : World) (hz : Below w5.heap.size w5 z) : NodesAt z (some ⟨g3, 0, none⟩) g3 0 t := by
  have q := owns_cut (h.OT z hz) t.length (by omega)
  rw [ndCells_append, ← ndCells_length t, List.take_left] at q
  exact nodes_row q
theorem NB.ws {w w5 : World} {bT bk : Option Addr} {b o cT gk ok ck g3 c3 g5 c5 : Nat} {t : NL} {W : List Int} {key : Int} (h : NB w w5 bT bk b o cT gk ok ck g3 c3 g5 c5 t W key) (z : World) (hz : Below w5.heap.size w5 z) : WsAt z (some ⟨g5, 0, none⟩) g5 0 W := by
  have q := owns_cut (h.OW z hz) W.length (by omega)
  rw [isC_append, Nat.mul_one, show W.length = (isC W).length from (isC_length W).symm, List.take_left, isC_length] at q
  exact ws_row q
theorem wk_len (t : NL) (key : Int) : (wkL t key).length ≤ 100000 ∧ (wkK t key).length ≤ 100000 := by
  have : (wkL t key).length ≤ 100000 := by
    unfold wkL
    split
    · rename_i h
      exact (wayN (norm_form h) key).2.2
    · simp
  refine ⟨this, ?_⟩
  unfold wkK
  rw [List.length_replicate]
  omega
theorem nrm_len (t : NL) : (normL t).length ≤ 100000 := by
  by_cases h : formE t = 0
  · exact (norm_ok h).big
  · rw [normL_bad h]; simp
theorem ska_len {t : NL} {ks : List Int} {n : Nat} (h : (if skE t ks = 0 then ks.length else 0) = n) : n ≤ 1000 := by
  rw [← h]
  split
  · rename_i q
    unfold skE at q
    split at q
    · contradiction
    · split at q
      · cases q
      · omega
  · omega
def dropSeq : Nat → Code → Code
  | 0, c => c
  | n + 1, .seq _ b => dropSeq n b
  | _ + 1, c => c
noncomputable def memFrom (n : Nat) : Code := dropSeq n (Try.f6.body.getD .skip)
set_option maxRecDepth 100000 in
def MemAt12 : Prop := ∀ (w w5 : World) (bT bk : Option Addr) (b o cT gk ok ck g3 c3 g5 c5 : Nat) (t : NL) (W : List Int) (key : Int) (a7 a8 a10 a13 a14 : Option Addr) (c7 g7 g8 c8 g10 c10 g13 c13 g14 c14 : Nat) (U : NL) (ks KR Q LM : List Int) (LA : List (Option Int)) (X : World) (u0 u2 u11 u12 u18 u19 u20 u21 u22 u23 u24 u25 u26 u27 u28 u29 u30 u31 u32 u33 u34 u35 u36 u37 u38 u39 u40 u41 u42 u43 u44 u45 u46 u47 u48 u49 u50 u51 u52 u53 u54 u55 u56 u57 u58 u59 u60 u61 u62 u63 u64 u65 u66 u67 u68 u69 u70 u71 u72 u73 u74 u75 u76 u77 u78 u79 u80 u81 u82 u83 u84 u85 u86 u87 u88 u89 u90 u91 u92 u93 u94 u95 u96 u97 u98 u99 u100 u101 u102 u103 u104 u105 u106 u107 u108 u109 u110 u111 u112 u113 u114 u115 u116 u117 u118 u119 u120 u121 u122 u123 u124 u125 u126 u127 u128 u129 u130 u131 u132 u133 u134 u135 u136 u137 u138 u139 u140 u141 u142 u143 u144 u145 u146 u147 u148 u149 u150 u151 u152 u153 u154 u155 u156 u157 u158 u159 u160 u161 u162 u163 u164 u165 u166 u167 u168 u169 u170 u171 u172 u173 u174 u175 u176 u177 u178 u179 u180 u181 u182 u183 u184 u185 u186 u187 u188 u189 u190 u191 u192 u193 u194 u195 u196 u197 u198 u199 u200 u201 u202 u203 u204 u205 u206 u207 u208 u209 u210 u211 u212 u213 u214 u215 u216 u217 u218 u219 u220 u221 u222 u223 u224 u225 u226 u227 u228 u229 u230 u231 u232 u233 u234 u235 u236 u237 u238 u239 u240 u241 u242 u243 u244 u245 u246 u247 u248 u249 u250 u251 u252 u253 u254 u255 u256 u257 u258 u259 u260 u261 u262 u263 u264 u265 u266 u267 u268 u269 u270 u271 u272 u273 u274 u275 u276 u277 u278 u279 u280 u281 u282 u283 u284 u285 u286 u287 u288 u289 u290 u291 u292 u293 u294 u295 u296 u297 u298 u299 u300 u301 u302 u303 u304 u305 u306 u307 u308 u309 u310 u311 u312 u313 u314 u315 u316 u317 u318 u319 u320 u321 u322 u323 u324 u325 u326 u327 u328 u329 u330 u331 u332 u333 u334 u335 u336 u337 u338 u339 u340 u341 u342 u343 u344 u345 u346 u347 u348 u349 u350 u351 u352 u353 u354 u355 u356 u357 u358 u359 u360 u361 u362 u363 u364 u365 u366 u367 u368 u369 u370 u371 u372 u373 u374 u375 u376 u377 u378 u379 u380 u381 u382 u383 u384 : Value) (_hM : NB w w5 bT bk b o cT gk ok ck g3 c3 g5 c5 t W key) (_hU : U = normL t) (_hKR : KR = if formE t = 0 then rdK t else []) (_hQ : Q = (wkL t key).map fun x : Nat => (x : Int)) (_hl1 : (if skE t ks = 0 then ks.length else 0) = LA.length) (_hl2 : LM.length = LA.length) (_hl3 : (if skE t ks = 0 then skC (skA t ks) else []) = skC LA) (_hl4 : (if skE t ks = 0 then isC (skN t ks) else []) = isC LM) (_hS : ∀ z, Below w5.heap.size w5 z → WsAt z (some ⟨g5, 0, none⟩) g5 0 ks) (_hkc : ks.length ≤ c5) (_hY : Below w5.heap.size w5 X) (_h7 : X.ownsRow w5.heap.size 81 6 (.slice a7 U.length c7) U.length (ndCells U)) (_h7n : NodesAt X a7 g7 0 U) (_h8 : WsAt X a8 g8 0 KR) (_h10 : WsAt X a10 g10 0 Q) (_h13 : RtAt X a13 g13 LA) (_h14 : WsAt X a14 g14 0 LM), Code.wp Try.prog (memFrom 12) (bodyPost Try.prog Try.f6 fun e w' => e = .returned (.bool true) ∧ Below w.heap.size w w') ⟨#[u0, .pointer (some ⟨w.heap.size, 0, none⟩), u2, .slice (some ⟨g3, 0, none⟩) (t.length + 1) c3, .slice (some ⟨g3, 0, none⟩) t.length c3, .slice (some ⟨g5, 0, none⟩) (W.length + 1) c5, .slice (some ⟨g5, 0, none⟩) ks.length c5, .slice a7 U.length c7, .slice a8 KR.length c8, .int .i64 (formE t), .slice a10 Q.length c10, u11, u12, .slice a13 LA.length c13, .slice a14 LM.length c14, .int .i64 (skE t ks), .slice none 0 0, .slice none 0 0, u18, u19, u20, u21, u22, u23, u24, u25, u26, u27, u28, u29, u30, u31, u32, u33, u34, u35, u36, u37, u38, u39, u40, u41, u42, u43, u44, u45, u46, u47, u48, u49, u50, u51, u52, u53, u54, u55, u56, u57, u58, u59, u60, u61, u62, u63, u64, u65, u66, u67, u68, u69, u70, u71, u72, u73, u74, u75, u76, u77, u78, u79, u80, u81, u82, u83, u84, u85, u86, u87, u88, u89, u90, u91, u92, u93, u94, u95, u96, u97, u98, u99, u100, u101, u102, u103, u104, u105, u106, u107, u108, u109, u110, u111, u112, u113, u114, u115, u116, u117, u118, u119, u120, u121, u122, u123, u124, u125, u126, u127, u128, u129, u130, u131, u132, u133, u134, u135, u136, u137, u138, u139, u140, u141, u142, u143, u144, u145, u146, u147, u148, u149, u150, u151, u152, u153, u154, u155, u156, u157, u158, u159, u160, u161, u162, u163, u164, u165, u166, u167, u168, u169, u170, u171, u172, u173, u174, u175, u176, u177, u178, u179, u180, u181, u182, u183, u184, u185, u186, u187, u188, u189, u190, u191, u192, u193, u194, u195, u196, u197, u198, u199, u200, u201, u202, u203, u204, u205, u206, u207, u208, u209, u210, u211, u212, u213, u214, u215, u216, u217, u218, u219, u220, u221, u222, u223, u224, u225, u226, u227, u228, u229, u230, u231, u232, u233, u234, u235, u236, u237, u238, u239, u240, u241, u242, u243, u244, u245, u246, u247, u248, u249, u250, u251, u252, u253, u254, u255, u256, u257, u258, u259, u260, u261, u262, u263, u264, u265, u266, u267, u268, u269, u270, u271, u272, u273, u274, u275, u276, u277, u278, u279, u280, u281, u282, u283, u284, u285, u286, u287, u288, u289, u290, u291, u292, u293, u294, u295, u296, u297, u298, u299, u300, u301, u302, u303, u304, u305, u306, u307, u308, u309, u310, u311, u312, u313, u314, u315, u316, u317, u318, u319, u320, u321, u322, u323, u324, u325, u326, u327, u328, u329, u330, u331, u332, u333, u334, u335, u336, u337, u338, u339, u340, u341, u342, u343, u344, u345, u346, u347, u348, u349, u350, u351, u352, u353, u354, u355, u356, u357, u358, u359, u360, u361, u362, u363, u364, u365, u366, u367, u368, u369, u370, u371, u372, u373, u374, u375, u376, u377, u378, u379, u380, u381, u382, u383, u384], []⟩ X
set_option maxRecDepth 100000 in
def MemAt13 : Prop := ∀ (w w5 : World) (bT bk : Option Addr) (b o cT gk ok ck g3 c3 g5 c5 : Nat) (t : NL) (W : List Int) (key : Int) (a7 : Option Addr) (c7 : Nat) (U : NL) (B gT cT2 gL cL : Nat) (ts vs : Nat → Value) (Ts : Nat → NL) (Ls : Nat → List Int) (X : World) (u0 u2 u6 u8 u9 u10 u11 u12 u13 u14 u15 u18 u19 u20 u21 u22 u23 u24 u25 u26 u27 u28 u29 u30 u31 u32 u33 u34 u35 u36 u37 u38 u39 u40 u41 u42 u43 u44 u45 u46 u47 u48 u49 u50 u51 u52 u53 u54 u55 u56 u57 u58 u59 u60 u61 u62 u63 u64 u65 u66 u67 u68 u69 u70 u71 u72 u73 u74 u75 u76 u77 u78 u79 u80 u81 u82 u83 u84 u85 u86 u87 u88 u89 u90 u91 u92 u93 u94 u95 u96 u97 u98 u99 u100 u101 u102 u103 u104 u105 u106 u107 u108 u109 u110 u111 u112 u113 u114 u115 u116 u117 u118 u119 u120 u121 u122 u123 u124 u125 u126 u127 u128 u129 u130 u131 u132 u133 u134 u135 u136 u137 u138 u139 u140 u141 u142 u143 u144 u145 u146 u147 u148 u149 u150 u151 u152 u153 u154 u155 u156 u157 u158 u159 u160 u161 u162 u163 u164 u165 u166 u167 u168 u169 u170 u171 u172 u173 u174 u175 u176 u177 u178 u179 u180 u181 u182 u183 u184 u185 u186 u187 u188 u189 u190 u191 u192 u193 u194 u195 u196 u197 u198 u199 u200 u201 u202 u203 u204 u205 u206 u207 u208 u209 u210 u211 u212 u213 u214 u215 u216 u217 u218 u219 u220 u221 u222 u223 u224 u225 u226 u227 u228 u229 u230 u231 u232 u233 u234 u235 u236 u237 u238 u239 u240 u241 u242 u243 u244 u245 u246 u247 u248 u249 u250 u251 u252 u253 u254 u255 u256 u257 u258 u259 u260 u261 u262 u263 u264 u265 u266 u267 u268 u269 u270 u271 u272 u273 u274 u275 u276 u277 u278 u279 u280 u281 u282 u283 u284 u285 u286 u287 u288 u289 u290 u291 u292 u293 u294 u295 u296 u297 u298 u299 u300 u301 u302 u303 u304 u305 u306 u307 u308 u309 u310 u311 u312 u313 u314 u315 u316 u317 u318 u319 u320 u321 u322 u323 u324 u325 u326 u327 u328 u329 u330 u331 u332 u333 u334 u335 u336 u337 u338 u339 u340 u341 u342 u343 u344 u345 u346 u347 u348 u349 u350 u351 u352 u353 u354 u355 u356 u357 u358 u359 u360 u361 u362 u363 u364 u365 u366 u367 u368 u369 u370 u371 u372 u373 u374 u375 u376 u377 u378 u379 u380 u381 u382 u383 u384 : Value) (_hM : NB w w5 bT bk b o cT gk ok ck g3 c3 g5 c5 t W key) (_hU : U = normL t) (_hB : w5.heap.size ≤ B) (_hY : Below w5.heap.size w5 X) (_h7 : ∀ g, Value.ownBlock (.slice a7 U.length c7) = some g → w5.heap.size ≤ g) (_hQ : MQ w B 0 False (normL t) U (fun _ => 0) (fun _ => 0) (.slice a7 U.length c7) (2) (.slice (some ⟨gT, 0, none⟩) 2 cT2) ts Ts (8) (.slice (some ⟨gL, 0, none⟩) 8 cL) vs Ls X), Code.wp Try.prog (memFrom 13) (bodyPost Try.prog Try.f6 fun e w' => e = .returned (.bool true) ∧ Below w.heap.size w w') ⟨#[u0, .pointer (some ⟨w.heap.size, 0, none⟩), u2, .slice (some ⟨g3, 0, none⟩) (t.length + 1) c3, .slice (some ⟨g3, 0, none⟩) t.length c3, .slice (some ⟨g5, 0, none⟩) (W.length + 1) c5, u6, .slice a7 U.length c7, u8, u9, u10, u11, u12, u13, u14, u15, .slice (some ⟨gT, 0, none⟩) 2 cT2, .slice (some ⟨gL, 0, none⟩) 8 cL, u18, u19, u20, u21, u22, u23, u24, u25, u26, u27, u28, u29, u30, u31, u32, u33, u34, u35, u36, u37, u38, u39, u40, u41, u42, u43, u44, u45, u46, u47, u48, u49, u50, u51, u52, u53, u54, u55, u56, u57, u58, u59, u60, u61, u62, u63, u64, u65, u66, u67, u68, u69, u70, u71, u72, u73, u74, u75, u76, u77, u78, u79, u80, u81, u82, u83, u84, u85, u86, u87, u88, u89, u90, u91, u92, u93, u94, u95, u96, u97, u98, u99, u100, u101, u102, u103, u104, u105, u106, u107, u108, u109, u110, u111, u112, u113, u114, u115, u116, u117, u118, u119, u120, u121, u122, u123, u124, u125, u126, u127, u128, u129, u130, u131, u132, u133, u134, u135, u136, u137, u138, u139, u140, u141, u142, u143, u144, u145, u146, u147, u148, u149, u150, u151, u152, u153, u154, u155, u156, u157, u158, u159, u160, u161, u162, u163, u164, u165, u166, u167, u168, u169, u170, u171, u172, u173, u174, u175, u176, u177, u178, u179, u180, u181, u182, u183, u184, u185, u186, u187, u188, u189, u190, u191, u192, u193, u194, u195, u196, u197, u198, u199, u200, u201, u202, u203, u204, u205, u206, u207, u208, u209, u210, u211, u212, u213, u214, u215, u216, u217, u218, u219, u220, u221, u222, u223, u224, u225, u226, u227, u228, u229, u230, u231, u232, u233, u234, u235, u236, u237, u238, u239, u240, u241, u242, u243, u244, u245, u246, u247, u248, u249, u250, u251, u252, u253, u254, u255, u256, u257, u258, u259, u260, u261, u262, u263, u264, u265, u266, u267, u268, u269, u270, u271, u272, u273, u274, u275, u276, u277, u278, u279, u280, u281, u282, u283, u284, u285, u286, u287, u288, u289, u290, u291, u292, u293, u294, u295, u296, u297, u298, u299, u300, u301, u302, u303, u304, u305, u306, u307, u308, u309, u310, u311, u312, u313, u314, u315, u316, u317, u318, u319, u320, u321, u322, u323, u324, u325, u326, u327, u328, u329, u330, u331, u332, u333, u334, u335, u336, u337, u338, u339, u340, u341, u342, u343, u344, u345, u346, u347, u348, u349, u350, u351, u352, u353, u354, u355, u356, u357, u358, u359, u360, u361, u362, u363, u364, u365, u366, u367, u368, u369, u370, u371, u372, u373, u374, u375, u376, u377, u378, u379, u380, u381, u382, u383, u384], []⟩ X
set_option maxRecDepth 100000 in
def MemAt14 : Prop := ∀ (w w5 : World) (bT bk : Option Addr) (b o cT gk ok ck g3 c3 g5 c5 : Nat) (t : NL) (W : List Int) (key : Int) (a7 : Option Addr) (c7 : Nat) (U : NL) (B gT cT2 gL cL : Nat) (ts vs : Nat → Value) (Ts : Nat → NL) (Ls : Nat → List Int) (NN : Nat) (G F : Nat → Nat) (vN : Value) (X : World) (u0 u2 u6 u8 u9 u10 u11 u12 u13 u14 u15 u18 u19 u20 u21 u22 u23 u24 u25 u26 u27 u30 u31 u32 u33 u34 u35 u36 u37 u38 u39 u40 u41 u42 u43 u44 u45 u46 u47 u48 u49 u50 u51 u52 u53 u54 u55 u56 u57 u58 u59 u60 u61 u62 u63 u64 u65 u66 u67 u68 u69 u70 u71 u72 u73 u74 u75 u76 u77 u78 u79 u80 u81 u82 u83 u84 u85 u86 u87 u88 u89 u90 u91 u92 u93 u94 u95 u96 u97 u98 u99 u100 u101 u102 u103 u104 u105 u106 u107 u108 u109 u110 u111 u112 u113 u114 u115 u116 u117 u118 u119 u120 u121 u122 u123 u124 u125 u126 u127 u128 u129 u130 u131 u132 u133 u134 u135 u136 u137 u138 u139 u140 u141 u142 u143 u144 u145 u146 u147 u148 u149 u150 u151 u152 u153 u154 u155 u156 u157 u158 u159 u160 u161 u162 u163 u164 u165 u166 u167 u168 u169 u170 u171 u172 u173 u174 u175 u176 u177 u178 u179 u180 u181 u182 u183 u184 u185 u186 u187 u188 u189 u190 u191 u192 u193 u194 u195 u196 u197 u198 u199 u200 u201 u202 u203 u204 u205 u206 u207 u208 u209 u210 u211 u212 u213 u214 u215 u216 u217 u218 u219 u220 u221 u222 u223 u224 u225 u226 u227 u228 u229 u230 u231 u232 u233 u234 u235 u236 u237 u238 u239 u240 u241 u242 u243 u244 u245 u246 u247 u248 u249 u250 u251 u252 u253 u254 u255 u256 u257 u258 u259 u260 u261 u262 u263 u264 u265 u266 u267 u268 u269 u270 u271 u272 u273 u274 u275 u276 u277 u278 u279 u280 u281 u282 u283 u284 u285 u286 u287 u288 u289 u290 u291 u292 u293 u294 u295 u296 u297 u298 u299 u300 u301 u302 u303 u304 u305 u306 u307 u308 u309 u310 u311 u312 u313 u314 u315 u316 u317 u318 u319 u320 u321 u322 u323 u324 u325 u326 u327 u328 u329 u330 u331 u332 u333 u334 u335 u336 u337 u338 u339 u340 u341 u342 u343 u344 u345 u346 u347 u348 u349 u350 u351 u352 u353 u354 u355 u356 u357 u358 u359 u360 u361 u362 u363 u364 u365 u366 u367 u368 u369 u370 u371 u372 u373 u374 u375 u376 u377 u378 u379 u380 u381 u382 u383 u384 : Value) (_hM : NB w w5 bT bk b o cT gk ok ck g3 c3 g5 c5 t W key) (_hU : U = normL t) (_hB : w5.heap.size ≤ B) (_hY : Below w5.heap.size w5 X) (_hN : formE t = 0 → vN = .pointer (some ⟨G 0, 0, none⟩)) (_h7 : ∀ g, Value.ownBlock (.slice a7 U.length c7) = some g → w5.heap.size ≤ g) (_hQ : MQ w B NN (formE t = 0) (normL t) U G F (.slice a7 U.length c7) 2 (.slice (some ⟨gT, 0, none⟩) 2 cT2) ts Ts 8 (.slice (some ⟨gL, 0, none⟩) 8 cL) vs Ls X), Code.wp Try.prog (memFrom 14) (bodyPost Try.prog Try.f6 fun e w' => e = .returned (.bool true) ∧ Below w.heap.size w w') ⟨#[u0, .pointer (some ⟨w.heap.size, 0, none⟩), u2, .slice (some ⟨g3, 0, none⟩) (t.length + 1) c3, .slice (some ⟨g3, 0, none⟩) t.length c3, .slice (some ⟨g5, 0, none⟩) (W.length + 1) c5, u6, .slice a7 U.length c7, u8, u9, u10, u11, u12, u13, u14, u15, .slice (some ⟨gT, 0, none⟩) 2 cT2, .slice (some ⟨gL, 0, none⟩) 8 cL, u18, u19, u20, u21, u22, u23, u24, u25, u26, u27, vN, .int .i64 (formE t), u30, u31, u32, u33, u34, u35, u36, u37, u38, u39, u40, u41, u42, u43, u44, u45, u46, u47, u48, u49, u50, u51, u52, u53, u54, u55, u56, u57, u58, u59, u60, u61, u62, u63, u64, u65, u66, u67, u68, u69, u70, u71, u72, u73, u74, u75, u76, u77, u78, u79, u80, u81, u82, u83, u84, u85, u86, u87, u88, u89, u90, u91, u92, u93, u94, u95, u96, u97, u98, u99, u100, u101, u102, u103, u104, u105, u106, u107, u108, u109, u110, u111, u112, u113, u114, u115, u116, u117, u118, u119, u120, u121, u122, u123, u124, u125, u126, u127, u128, u129, u130, u131, u132, u133, u134, u135, u136, u137, u138, u139, u140, u141, u142, u143, u144, u145, u146, u147, u148, u149, u150, u151, u152, u153, u154, u155, u156, u157, u158, u159, u160, u161, u162, u163, u164, u165, u166, u167, u168, u169, u170, u171, u172, u173, u174, u175, u176, u177, u178, u179, u180, u181, u182, u183, u184, u185, u186, u187, u188, u189, u190, u191, u192, u193, u194, u195, u196, u197, u198, u199, u200, u201, u202, u203, u204, u205, u206, u207, u208, u209, u210, u211, u212, u213, u214, u215, u216, u217, u218, u219, u220, u221, u222, u223, u224, u225, u226, u227, u228, u229, u230, u231, u232, u233, u234, u235, u236, u237, u238, u239, u240, u241, u242, u243, u244, u245, u246, u247, u248, u249, u250, u251, u252, u253, u254, u255, u256, u257, u258, u259, u260, u261, u262, u263, u264, u265, u266, u267, u268, u269, u270, u271, u272, u273, u274, u275, u276, u277, u278, u279, u280, u281, u282, u283, u284, u285, u286, u287, u288, u289, u290, u291, u292, u293, u294, u295, u296, u297, u298, u299, u300, u301, u302, u303, u304, u305, u306, u307, u308, u309, u310, u311, u312, u313, u314, u315, u316, u317, u318, u319, u320, u321, u322, u323, u324, u325, u326, u327, u328, u329, u330, u331, u332, u333, u334, u335, u336, u337, u338, u339, u340, u341, u342, u343, u344, u345, u346, u347, u348, u349, u350, u351, u352, u353, u354, u355, u356, u357, u358, u359, u360, u361, u362, u363, u364, u365, u366, u367, u368, u369, u370, u371, u372, u373, u374, u375, u376, u377, u378, u379, u380, u381, u382, u383, u384], []⟩ X
set_option maxRecDepth 100000 in
def MemAt15 : Prop := ∀ (w w5 : World) (bT bk : Option Addr) (b o cT gk ok ck g3 c3 g5 c5 : Nat) (t : NL) (W : List Int) (key : Int) (a7 : Option Addr) (c7 : Nat) (U : NL) (B gT cT2 gL cL : Nat) (ts vs : Nat → Value) (Ts : Nat → NL) (Ls : Nat → List Int) (NN : Nat) (G F : Nat → Nat) (vN : Value) (X : World) (u0 u1 u2 u3 u5 u6 u8 u9 u10 u11 u12 u13 u14 u15 u18 u19 u20 u21 u22 u23 u24 u25 u26 u27 u30 u31 u32 u33 u34 u35 u36 u37 u38 u39 u40 u41 u42 u43 u44 u45 u46 u47 u48 u49 u50 u51 u52 u53 u54 u55 u56 u57 u58 u59 u60 u61 u62 u63 u64 u65 u66 u67 u68 u69 u70 u71 u72 u73 u74 u75 u76 u77 u78 u79 u80 u81 u82 u83 u84 u85 u86 u87 u88 u89 u90 u91 u92 u93 u94 u95 u96 u97 u98 u99 u100 u101 u102 u103 u104 u105 u106 u107 u108 u109 u110 u111 u112 u113 u114 u115 u116 u117 u118 u119 u120 u121 u122 u123 u124 u125 u126 u127 u128 u129 u130 u131 u132 u133 u134 u135 u136 u137 u138 u139 u140 u141 u142 u143 u144 u145 u146 u147 u148 u149 u150 u151 u152 u153 u154 u155 u156 u157 u158 u159 u160 u161 u162 u163 u164 u165 u166 u167 u168 u169 u170 u171 u172 u173 u174 u175 u176 u177 u178 u179 u180 u181 u182 u183 u184 u185 u186 u187 u188 u189 u190 u191 u192 u193 u194 u195 u196 u197 u198 u199 u200 u201 u202 u203 u204 u205 u206 u207 u208 u209 u210 u211 u212 u213 u214 u215 u216 u217 u218 u219 u220 u221 u222 u223 u224 u225 u226 u227 u228 u229 u230 u231 u232 u233 u234 u235 u236 u237 u238 u239 u240 u241 u242 u243 u244 u245 u246 u247 u248 u249 u250 u251 u252 u253 u254 u255 u256 u257 u258 u259 u260 u261 u262 u263 u264 u265 u266 u267 u268 u269 u270 u271 u272 u273 u274 u275 u276 u277 u278 u279 u280 u281 u282 u283 u284 u285 u286 u287 u288 u289 u290 u291 u292 u293 u294 u295 u296 u297 u298 u299 u300 u301 u302 u303 u304 u305 u306 u307 u308 u309 u310 u311 u312 u313 u314 u315 u316 u317 u318 u319 u320 u321 u322 u323 u324 u325 u326 u327 u328 u329 u330 u331 u332 u333 u334 u335 u336 u337 u338 u339 u340 u341 u342 u343 u344 u345 u346 u347 u348 u349 u350 u351 u352 u353 u354 u355 u356 u357 u358 u359 u360 u361 u362 u363 u364 u365 u366 u367 u368 u369 u370 u371 u372 u373 u374 u375 u376 u377 u378 u379 u380 u381 u382 u383 u384 : Value) (_hM : NB w w5 bT bk b o cT gk ok ck g3 c3 g5 c5 t W key) (_hU : U = normL t) (_hB : w5.heap.size ≤ B) (_hY : Below w5.heap.size w5 X) (_hN : formE t = 0 → vN = .pointer (some ⟨G 0, 0, none⟩)) (_h7 : ∀ g, Value.ownBlock (.slice a7 U.length c7) = some g → w5.heap.size ≤ g) (_hQ : MQ w B NN (formE t = 0) (normL t) U G F (.slice a7 U.length c7) 2 (.slice (some ⟨gT, 0, none⟩) 2 cT2) ts Ts 8 (.slice (some ⟨gL, 0, none⟩) 8 cL) vs Ls X), Code.wp Try.prog (memFrom 15) (bodyPost Try.prog Try.f6 fun e w' => e = .returned (.bool true) ∧ Below w.heap.size w w') ⟨#[u0, u1, u2, u3, .slice (some ⟨g3, 0, none⟩) t.length c3, u5, u6, .slice a7 U.length c7, u8, u9, u10, u11, u12, u13, u14, u15, .slice (some ⟨gT, 0, none⟩) 2 cT2, .slice (some ⟨gL, 0, none⟩) 8 cL, u18, u19, u20, u21, u22, u23, u24, u25, u26, u27, vN, .int .i64 (formE t), u30, u31, u32, u33, u34, u35, u36, u37, u38, u39, u40, u41, u42, u43, u44, u45, u46, u47, u48, u49, u50, u51, u52, u53, u54, u55, u56, u57, u58, u59, u60, u61, u62, u63, u64, u65, u66, u67, u68, u69, u70, u71, u72, u73, u74, u75, u76, u77, u78, u79, u80, u81, u82, u83, u84, u85, u86, u87, u88, u89, u90, u91, u92, u93, u94, u95, u96, u97, u98, u99, u100, u101, u102, u103, u104, u105, u106, u107, u108, u109, u110, u111, u112, u113, u114, u115, u116, u117, u118, u119, u120, u121, u122, u123, u124, u125, u126, u127, u128, u129, u130, u131, u132, u133, u134, u135, u136, u137, u138, u139, u140, u141, u142, u143, u144, u145, u146, u147, u148, u149, u150, u151, u152, u153, u154, u155, u156, u157, u158, u159, u160, u161, u162, u163, u164, u165, u166, u167, u168, u169, u170, u171, u172, u173, u174, u175, u176, u177, u178, u179, u180, u181, u182, u183, u184, u185, u186, u187, u188, u189, u190, u191, u192, u193, u194, u195, u196, u197, u198, u199, u200, u201, u202, u203, u204, u205, u206, u207, u208, u209, u210, u211, u212, u213, u214, u215, u216, u217, u218, u219, u220, u221, u222, u223, u224, u225, u226, u227, u228, u229, u230, u231, u232, u233, u234, u235, u236, u237, u238, u239, u240, u241, u242, u243, u244, u245, u246, u247, u248, u249, u250, u251, u252, u253, u254, u255, u256, u257, u258, u259, u260, u261, u262, u263, u264, u265, u266, u267, u268, u269, u270, u271, u272, u273, u274, u275, u276, u277, u278, u279, u280, u281, u282, u283, u284, u285, u286, u287, u288, u289, u290, u291, u292, u293, u294, u295, u296, u297, u298, u299, u300, u301, u302, u303, u304, u305, u306, u307, u308, u309, u310, u311, u312, u313, u314, u315, u316, u317, u318, u319, u320, u321, u322, u323, u324, u325, u326, u327, u328, u329, u330, u331, u332, u333, u334, u335, u336, u337, u338, u339, u340, u341, u342, u343, u344, u345, u346, u347, u348, u349, u350, u351, u352, u353, u354, u355, u356, u357, u358, u359, u360, u361, u362, u363, u364, u365, u366, u367, u368, u369, u370, u371, u372, u373, u374, u375, u376, u377, u378, u379, u380, u381, u382, u383, u384], []⟩ X
set_option maxRecDepth 100000 in
def MemAt16 : Prop := ∀ (w w5 : World) (bT bk : Option Addr) (b o cT gk ok ck g3 c3 g5 c5 : Nat) (t : NL) (W : List Int) (key : Int) (a7 : Option Addr) (c7 : Nat) (U : NL) (B gT cT2 gL cL : Nat) (ts vs : Nat → Value) (Ts : Nat → NL) (Ls : Nat → List Int) (NN : Nat) (G F : Nat → Nat) (vN : Value) (X : World) (u0 u1 u2 u3 u4 u5 u6 u8 u9 u10 u11 u12 u13 u14 u15 u18 u19 u20 u21 u22 u23 u24 u25 u26 u27 u30 u31 u32 u33 u34 u35 u36 u37 u38 u39 u40 u41 u42 u43 u44 u45 u46 u47 u48 u49 u50 u51 u52 u53 u54 u55 u56 u57 u58 u59 u60 u61 u62 u63 u64 u65 u66 u67 u68 u69 u70 u71 u72 u73 u74 u75 u76 u77 u78 u79 u80 u81 u82 u83 u84 u85 u86 u87 u88 u89 u90 u91 u92 u93 u94 u95 u96 u97 u98 u99 u100 u101 u102 u103 u104 u105 u106 u107 u108 u109 u110 u111 u112 u113 u114 u115 u116 u117 u118 u119 u120 u121 u122 u123 u124 u125 u126 u127 u128 u129 u130 u131 u132 u133 u134 u135 u136 u137 u138 u139 u140 u141 u142 u143 u144 u145 u146 u147 u148 u149 u150 u151 u152 u153 u154 u155 u156 u157 u158 u159 u160 u161 u162 u163 u164 u165 u166 u167 u168 u169 u170 u171 u172 u173 u174 u175 u176 u177 u178 u179 u180 u181 u182 u183 u184 u185 u186 u187 u188 u189 u190 u191 u192 u193 u194 u195 u196 u197 u198 u199 u200 u201 u202 u203 u204 u205 u206 u207 u208 u209 u210 u211 u212 u213 u214 u215 u216 u217 u218 u219 u220 u221 u222 u223 u224 u225 u226 u227 u228 u229 u230 u231 u232 u233 u234 u235 u236 u237 u238 u239 u240 u241 u242 u243 u244 u245 u246 u247 u248 u249 u250 u251 u252 u253 u254 u255 u256 u257 u258 u259 u260 u261 u262 u263 u264 u265 u266 u267 u268 u269 u270 u271 u272 u273 u274 u275 u276 u277 u278 u279 u280 u281 u282 u283 u284 u285 u286 u287 u288 u289 u290 u291 u292 u293 u294 u295 u296 u297 u298 u299 u300 u301 u302 u303 u304 u305 u306 u307 u308 u309 u310 u311 u312 u313 u314 u315 u316 u317 u318 u319 u320 u321 u322 u323 u324 u325 u326 u327 u328 u329 u330 u331 u332 u333 u334 u335 u336 u337 u338 u339 u340 u341 u342 u343 u344 u345 u346 u347 u348 u349 u350 u351 u352 u353 u354 u355 u356 u357 u358 u359 u360 u361 u362 u363 u364 u365 u366 u367 u368 u369 u370 u371 u372 u373 u374 u375 u376 u377 u378 u379 u380 u381 u382 u383 u384 : Value) (_hM : NB w w5 bT bk b o cT gk ok ck g3 c3 g5 c5 t W key) (_hU : U = normL t) (_hN : formE t = 0 → vN = .pointer (some ⟨G 0, 0, none⟩)) (_hQ : MQ w B NN (formE t = 0) (normL t) U G F (.slice a7 U.length c7) 2 (.slice (some ⟨gT, 0, none⟩) 2 cT2) ts Ts 8 (.slice (some ⟨gL, 0, none⟩) 8 cL) vs Ls X), Code.wp Try.prog (memFrom 16) (bodyPost Try.prog Try.f6 fun e w' => e = .returned (.bool true) ∧ Below w.heap.size w w') ⟨#[u0, u1, u2, u3, u4, u5, u6, .slice a7 U.length c7, u8, u9, u10, u11, u12, u13, u14, u15, .slice (some ⟨gT, 0, none⟩) 2 cT2, .slice (some ⟨gL, 0, none⟩) 8 cL, u18, u19, u20, u21, u22, u23, u24, u25, u26, u27, vN, .int .i64 (formE t), u30, u31, u32, u33, u34, u35, u36, u37, u38, u39, u40, u41, u42, u43, u44, u45, u46, u47, u48, u49, u50, u51, u52, u53, u54, u55, u56, u57, u58, u59, u60, u61, u62, u63, u64, u65, u66, u67, u68, u69, u70, u71, u72, u73, u74, u75, u76, u77, u78, u79, u80, u81, u82, u83, u84, u85, u86, u87, u88, u89, u90, u91, u92, u93, u94, u95, u96, u97, u98, u99, u100, u101, u102, u103, u104, u105, u106, u107, u108, u109, u110, u111, u112, u113, u114, u115, u116, u117, u118, u119, u120, u121, u122, u123, u124, u125, u126, u127, u128, u129, u130, u131, u132, u133, u134, u135, u136, u137, u138, u139, u140, u141, u142, u143, u144, u145, u146, u147, u148, u149, u150, u151, u152, u153, u154, u155, u156, u157, u158, u159, u160, u161, u162, u163, u164, u165, u166, u167, u168, u169, u170, u171, u172, u173, u174, u175, u176, u177, u178, u179, u180, u181, u182, u183, u184, u185, u186, u187, u188, u189, u190, u191, u192, u193, u194, u195, u196, u197, u198, u199, u200, u201, u202, u203, u204, u205, u206, u207, u208, u209, u210, u211, u212, u213, u214, u215, u216, u217, u218, u219, u220, u221, u222, u223, u224, u225, u226, u227, u228, u229, u230, u231, u232, u233, u234, u235, u236, u237, u238, u239, u240, u241, u242, u243, u244, u245, u246, u247, u248, u249, u250, u251, u252, u253, u254, u255, u256, u257, u258, u259, u260, u261, u262, u263, u264, u265, u266, u267, u268, u269, u270, u271, u272, u273, u274, u275, u276, u277, u278, u279, u280, u281, u282, u283, u284, u285, u286, u287, u288, u289, u290, u291, u292, u293, u294, u295, u296, u297, u298, u299, u300, u301, u302, u303, u304, u305, u306, u307, u308, u309, u310, u311, u312, u313, u314, u315, u316, u317, u318, u319, u320, u321, u322, u323, u324, u325, u326, u327, u328, u329, u330, u331, u332, u333, u334, u335, u336, u337, u338, u339, u340, u341, u342, u343, u344, u345, u346, u347, u348, u349, u350, u351, u352, u353, u354, u355, u356, u357, u358, u359, u360, u361, u362, u363, u364, u365, u366, u367, u368, u369, u370, u371, u372, u373, u374, u375, u376, u377, u378, u379, u380, u381, u382, u383, u384], []⟩ X
set_option maxRecDepth 100000 in
def MemAt17 : Prop := ∀ (w w5 : World) (bT bk : Option Addr) (b o cT gk ok ck g3 c3 g5 c5 : Nat) (t : NL) (W : List Int) (key : Int) (a7 : Option Addr) (c7 : Nat) (U : NL) (B gT cT2 gL cL : Nat) (ts vs : Nat → Value) (Ts : Nat → NL) (Ls : Nat → List Int) (NN : Nat) (G F : Nat → Nat) (vN : Value) (nT : Nat) (X : World) (u0 u1 u2 u3 u4 u5 u6 u8 u9 u10 u11 u12 u13 u14 u15 u18 u19 u20 u21 u22 u23 u24 u25 u26 u27 u30 u31 u32 u33 u34 u35 u36 u37 u38 u39 u40 u41 u42 u43 u44 u45 u46 u47 u48 u49 u50 u51 u52 u53 u54 u55 u56 u57 u58 u59 u60 u61 u62 u63 u64 u65 u66 u67 u68 u69 u70 u71 u72 u73 u74 u75 u76 u77 u78 u79 u80 u81 u82 u83 u84 u85 u86 u87 u88 u89 u90 u91 u92 u93 u94 u95 u96 u97 u98 u99 u100 u101 u102 u103 u104 u105 u106 u107 u108 u109 u110 u111 u112 u113 u114 u115 u116 u117 u118 u119 u120 u121 u122 u123 u124 u125 u126 u127 u128 u129 u130 u131 u132 u133 u134 u135 u136 u137 u138 u139 u140 u141 u142 u143 u144 u145 u146 u147 u148 u149 u150 u151 u152 u153 u154 u155 u156 u157 u158 u159 u160 u161 u162 u163 u164 u165 u166 u167 u168 u169 u170 u171 u172 u173 u174 u175 u176 u177 u178 u179 u180 u181 u182 u183 u184 u185 u186 u187 u188 u189 u190 u191 u192 u193 u194 u195 u196 u197 u198 u199 u200 u201 u202 u203 u204 u205 u206 u207 u208 u209 u210 u211 u212 u213 u214 u215 u216 u217 u218 u219 u220 u221 u222 u223 u224 u225 u226 u227 u228 u229 u230 u231 u232 u233 u234 u235 u236 u237 u238 u239 u240 u241 u242 u243 u244 u245 u246 u247 u248 u249 u250 u251 u252 u253 u254 u255 u256 u257 u258 u259 u260 u261 u262 u263 u264 u265 u266 u267 u268 u269 u270 u271 u272 u273 u274 u275 u276 u277 u278 u279 u280 u281 u282 u283 u284 u285 u286 u287 u288 u289 u290 u291 u292 u293 u294 u295 u296 u297 u298 u299 u300 u301 u302 u303 u304 u305 u306 u307 u308 u309 u310 u311 u312 u313 u314 u315 u316 u317 u318 u319 u320 u321 u322 u323 u324 u325 u326 u327 u328 u329 u330 u331 u332 u333 u334 u335 u336 u337 u338 u339 u340 u341 u342 u343 u344 u345 u346 u347 u348 u349 u350 u351 u352 u353 u354 u355 u356 u357 u358 u359 u360 u361 u362 u363 u364 u365 u366 u367 u368 u369 u370 u371 u372 u373 u374 u375 u376 u377 u378 u379 u380 u381 u382 u383 u384 : Value) (_hM : NB w w5 bT bk b o cT gk ok ck g3 c3 g5 c5 t W key) (_hU : U = normL t) (_hN : formE t = 0 → vN = .pointer (some ⟨G 0, 0, none⟩)) (_hn : nT ≤ 3) (_hQ : MQ w B NN (formE t = 0) (normL t) U G F (.slice a7 U.length c7) nT (.slice (some ⟨gT, 0, none⟩) nT cT2) ts Ts 8 (.slice (some ⟨gL, 0, none⟩) 8 cL) vs Ls X), Code.wp Try.prog (memFrom 17) (bodyPost Try.prog Try.f6 fun e w' => e = .returned (.bool true) ∧ Below w.heap.size w w') ⟨#[u0, u1, u2, u3, u4, u5, u6, .slice a7 U.length c7, u8, u9, u10, u11, u12, u13, u14, u15, .slice (some ⟨gT, 0, none⟩) nT cT2, .slice (some ⟨gL, 0, none⟩) 8 cL, u18, u19, u20, u21, u22, u23, u24, u25, u26, u27, vN, .int .i64 (formE t), u30, u31, u32, u33, u34, u35, u36, u37, u38, u39, u40, u41, u42, u43, u44, u45, u46, u47, u48, u49, u50, u51, u52, u53, u54, u55, u56, u57, u58, u59, u60, u61, u62, u63, u64, u65, u66, u67, u68, u69, u70, u71, u72, u73, u74, u75, u76, u77, u78, u79, u80, u81, u82, u83, u84, u85, u86, u87, u88, u89, u90, u91, u92, u93, u94, u95, u96, u97, u98, u99, u100, u101, u102, u103, u104, u105, u106, u107, u108, u109, u110, u111, u112, u113, u114, u115, u116, u117, u118, u119, u120, u121, u122, u123, u124, u125, u126, u127, u128, u129, u130, u131, u132, u133, u134, u135, u136, u137, u138, u139, u140, u141, u142, u143, u144, u145, u146, u147, u148, u149, u150, u151, u152, u153, u154, u155, u156, u157, u158, u159, u160, u161, u162, u163, u164, u165, u166, u167, u168, u169, u170, u171, u172, u173, u174, u175, u176, u177, u178, u179, u180, u181, u182, u183, u184, u185, u186, u187, u188, u189, u190, u191, u192, u193, u194, u195, u196, u197, u198, u199, u200, u201, u202, u203, u204, u205, u206, u207, u208, u209, u210, u211, u212, u213, u214, u215, u216, u217, u218, u219, u220, u221, u222, u223, u224, u225, u226, u227, u228, u229, u230, u231, u232, u233, u234, u235, u236, u237, u238, u239, u240, u241, u242, u243, u244, u245, u246, u247, u248, u249, u250, u251, u252, u253, u254, u255, u256, u257, u258, u259, u260, u261, u262, u263, u264, u265, u266, u267, u268, u269, u270, u271, u272, u273, u274, u275, u276, u277, u278, u279, u280, u281, u282, u283, u284, u285, u286, u287, u288, u289, u290, u291, u292, u293, u294, u295, u296, u297, u298, u299, u300, u301, u302, u303, u304, u305, u306, u307, u308, u309, u310, u311, u312, u313, u314, u315, u316, u317, u318, u319, u320, u321, u322, u323, u324, u325, u326, u327, u328, u329, u330, u331, u332, u333, u334, u335, u336, u337, u338, u339, u340, u341, u342, u343, u344, u345, u346, u347, u348, u349, u350, u351, u352, u353, u354, u355, u356, u357, u358, u359, u360, u361, u362, u363, u364, u365, u366, u367, u368, u369, u370, u371, u372, u373, u374, u375, u376, u377, u378, u379, u380, u381, u382, u383, u384], []⟩ X
set_option maxRecDepth 100000 in
def MemAt18 : Prop := ∀ (w w5 : World) (bT bk : Option Addr) (b o cT gk ok ck g3 c3 g5 c5 : Nat) (t : NL) (W : List Int) (key : Int) (a7 : Option Addr) (c7 : Nat) (U : NL) (B gT cT2 gL cL : Nat) (ts vs : Nat → Value) (Ts : Nat → NL) (Ls : Nat → List Int) (NN : Nat) (G F : Nat → Nat) (vN : Value) (nT : Nat) (X : World) (u0 u1 u2 u3 u4 u5 u6 u8 u9 u10 u11 u12 u13 u14 u15 u18 u19 u20 u21 u22 u23 u24 u25 u26 u27 u30 u31 u32 u33 u34 u35 u36 u37 u38 u39 u40 u41 u42 u43 u44 u45 u46 u47 u48 u49 u50 u51 u52 u53 u54 u55 u56 u57 u58 u59 u60 u61 u62 u63 u64 u65 u66 u67 u68 u69 u70 u71 u72 u73 u74 u75 u76 u77 u78 u79 u80 u81 u82 u83 u84 u85 u86 u87 u88 u89 u90 u91 u92 u93 u94 u95 u96 u97 u98 u99 u100 u101 u102 u103 u104 u105 u106 u107 u108 u109 u110 u111 u112 u113 u114 u115 u116 u117 u118 u119 u120 u121 u122 u123 u124 u125 u126 u127 u128 u129 u130 u131 u132 u133 u134 u135 u136 u137 u138 u139 u140 u141 u142 u143 u144 u145 u146 u147 u148 u149 u150 u151 u152 u153 u154 u155 u156 u157 u158 u159 u160 u161 u162 u163 u164 u165 u166 u167 u168 u169 u170 u171 u172 u173 u174 u175 u176 u177 u178 u179 u180 u181 u182 u183 u184 u185 u186 u187 u188 u189 u190 u191 u192 u193 u194 u195 u196 u197 u198 u199 u200 u201 u202 u203 u204 u205 u206 u207 u208 u209 u210 u211 u212 u213 u214 u215 u216 u217 u218 u219 u220 u221 u222 u223 u224 u225 u226 u227 u228 u229 u230 u231 u232 u233 u234 u235 u236 u237 u238 u239 u240 u241 u242 u243 u244 u245 u246 u247 u248 u249 u250 u251 u252 u253 u254 u255 u256 u257 u258 u259 u260 u261 u262 u263 u264 u265 u266 u267 u268 u269 u270 u271 u272 u273 u274 u275 u276 u277 u278 u279 u280 u281 u282 u283 u284 u285 u286 u287 u288 u289 u290 u291 u292 u293 u294 u295 u296 u297 u298 u299 u300 u301 u302 u303 u304 u305 u306 u307 u308 u309 u310 u311 u312 u313 u314 u315 u316 u317 u318 u319 u320 u321 u322 u323 u324 u325 u326 u327 u328 u329 u330 u331 u332 u333 u334 u335 u336 u337 u338 u339 u340 u341 u342 u343 u344 u345 u346 u347 u348 u349 u350 u351 u352 u353 u354 u355 u356 u357 u358 u359 u360 u361 u362 u363 u364 u365 u366 u367 u368 u369 u370 u371 u372 u373 u374 u375 u376 u377 u378 u379 u380 u381 u382 u383 u384 : Value) (_hM : NB w w5 bT bk b o cT gk ok ck g3 c3 g5 c5 t W key) (_hU : U = normL t) (_hN : formE t = 0 → vN = .pointer (some ⟨G 0, 0, none⟩)) (_hn : nT ≤ 3) (_hQ : MQ w B NN (formE t = 0) (normL t) U G F (.slice a7 U.length c7) nT (.slice (some ⟨gT, 0, none⟩) nT cT2) ts Ts 8 (.slice (some ⟨gL, 0, none⟩) 8 cL) vs Ls X) (_hA : ∀ q, q < nT → ∀ p, p < (Ts q).length → (ndAt (Ts q) p).key = 200000 * (q : Int) + p), Code.wp Try.prog (memFrom 18) (bodyPost Try.prog Try.f6 fun e w' => e = .returned (.bool true) ∧ Below w.heap.size w w') ⟨#[u0, u1, u2, u3, u4, u5, u6, .slice a7 U.length c7, u8, u9, u10, u11, u12, u13, u14, u15, .slice (some ⟨gT, 0, none⟩) nT cT2, .slice (some ⟨gL, 0, none⟩) 8 cL, u18, u19, u20, u21, u22, u23, u24, u25, u26, u27, vN, .int .i64 (formE t), u30, u31, u32, u33, u34, u35, u36, u37, u38, u39, u40, u41, u42, u43, u44, u45, u46, u47, u48, u49, u50, u51, u52, u53, u54, u55, u56, u57, u58, u59, u60, u61, u62, u63, u64, u65, u66, u67, u68, u69, u70, u71, u72, u73, u74, u75, u76, u77, u78, u79, u80, u81, u82, u83, u84, u85, u86, u87, u88, u89, u90, u91, u92, u93, u94, u95, u96, u97, u98, u99, u100, u101, u102, u103, u104, u105, u106, u107, u108, u109, u110, u111, u112, u113, u114, u115, u116, u117, u118, u119, u120, u121, u122, u123, u124, u125, u126, u127, u128, u129, u130, u131, u132, u133, u134, u135, u136, u137, u138, u139, u140, u141, u142, u143, u144, u145, u146, u147, u148, u149, u150, u151, u152, u153, u154, u155, u156, u157, u158, u159, u160, u161, u162, u163, u164, u165, u166, u167, u168, u169, u170, u171, u172, u173, u174, u175, u176, u177, u178, u179, u180, u181, u182, u183, u184, u185, u186, u187, u188, u189, u190, u191, u192, u193, u194, u195, u196, u197, u198, u199, u200, u201, u202, u203, u204, u205, u206, u207, u208, u209, u210, u211, u212, u213, u214, u215, u216, u217, u218, u219, u220, u221, u222, u223, u224, u225, u226, u227, u228, u229, u230, u231, u232, u233, u234, u235, u236, u237, u238, u239, u240, u241, u242, u243, u244, u245, u246, u247, u248, u249, u250, u251, u252, u253, u254, u255, u256, u257, u258, u259, u260, u261, u262, u263, u264, u265, u266, u267, u268, u269, u270, u271, u272, u273, u274, u275, u276, u277, u278, u279, u280, u281, u282, u283, u284, u285, u286, u287, u288, u289, u290, u291, u292, u293, u294, u295, u296, u297, u298, u299, u300, u301, u302, u303, u304, u305, u306, u307, u308, u309, u310, u311, u312, u313, u314, u315, u316, u317, u318, u319, u320, u321, u322, u323, u324, u325, u326, u327, u328, u329, u330, u331, u332, u333, u334, u335, u336, u337, u338, u339, u340, u341, u342, u343, u344, u345, u346, u347, u348, u349, u350, u351, u352, u353, u354, u355, u356, u357, u358, u359, u360, u361, u362, u363, u364, u365, u366, u367, u368, u369, u370, u371, u372, u373, u374, u375, u376, u377, u378, u379, u380, u381, u382, u383, u384], []⟩ X
set_option maxRecDepth 100000 in
def MemAt19 : Prop := ∀ (w w5 : World) (bT bk : Option Addr) (b o cT gk ok ck g3 c3 g5 c5 : Nat) (t : NL) (W : List Int) (key : Int) (a7 : Option Addr) (c7 : Nat) (U : NL) (B gT cT2 gL cL : Nat) (ts vs : Nat → Value) (Ts : Nat → NL) (Ls : Nat → List Int) (NN : Nat) (G F : Nat → Nat) (vN : Value) (nT : Nat) (X : World) (u0 u1 u2 u3 u4 u5 u6 u8 u9 u10 u11 u12 u13 u14 u15 u18 u19 u20 u21 u22 u23 u24 u25 u26 u27 u30 u31 u32 u33 u34 u35 u36 u37 u38 u39 u40 u41 u42 u43 u44 u45 u46 u47 u48 u49 u50 u51 u52 u53 u54 u55 u56 u57 u58 u59 u60 u61 u62 u63 u64 u65 u66 u67 u68 u69 u70 u71 u72 u73 u74 u75 u76 u77 u78 u79 u80 u81 u82 u83 u84 u85 u86 u87 u88 u89 u90 u91 u92 u93 u94 u95 u96 u97 u98 u99 u100 u101 u102 u103 u104 u105 u106 u107 u108 u109 u110 u111 u112 u113 u114 u115 u116 u117 u118 u119 u120 u121 u122 u123 u124 u125 u126 u127 u128 u129 u130 u131 u132 u133 u134 u135 u136 u137 u138 u139 u140 u141 u142 u143 u144 u145 u146 u147 u148 u149 u150 u151 u152 u153 u154 u155 u156 u157 u158 u159 u160 u161 u162 u163 u164 u165 u166 u167 u168 u169 u170 u171 u172 u173 u174 u175 u176 u177 u178 u179 u180 u181 u182 u183 u184 u185 u186 u187 u188 u189 u190 u191 u192 u193 u194 u195 u196 u197 u198 u199 u200 u201 u202 u203 u204 u205 u206 u207 u208 u209 u210 u211 u212 u213 u214 u215 u216 u217 u218 u219 u220 u221 u222 u223 u224 u225 u226 u227 u228 u229 u230 u231 u232 u233 u234 u235 u236 u237 u238 u239 u240 u241 u242 u243 u244 u245 u246 u247 u248 u249 u250 u251 u252 u253 u254 u255 u256 u257 u258 u259 u260 u261 u262 u263 u264 u265 u266 u267 u268 u269 u270 u271 u272 u273 u274 u275 u276 u277 u278 u279 u280 u281 u282 u283 u284 u285 u286 u287 u288 u289 u290 u291 u292 u293 u294 u295 u296 u297 u298 u299 u300 u301 u302 u303 u304 u305 u306 u307 u308 u309 u310 u311 u312 u313 u314 u315 u316 u317 u318 u319 u320 u321 u322 u323 u324 u325 u326 u327 u328 u329 u330 u331 u332 u333 u334 u335 u336 u337 u338 u339 u340 u341 u342 u343 u344 u345 u346 u347 u348 u349 u350 u351 u352 u353 u354 u355 u356 u357 u358 u359 u360 u361 u362 u363 u364 u365 u366 u367 u368 u369 u370 u371 u372 u373 u374 u375 u376 u377 u378 u379 u380 u381 u382 u383 u384 : Value) (_hM : NB w w5 bT bk b o cT gk ok ck g3 c3 g5 c5 t W key) (_hU : U = normL t) (_hN : formE t = 0 → vN = .pointer (some ⟨G 0, 0, none⟩)) (_hn : nT ≤ 3) (_hQ : MQ w B NN (formE t = 0) (normL t) U G F (.slice a7 U.length c7) nT (.slice (some ⟨gT, 0, none⟩) nT cT2) ts Ts 8 (.slice (some ⟨gL, 0, none⟩) 8 cL) vs Ls X) (_hA : ∀ q, q < nT → ∀ p, p < (Ts q).length → (ndAt (Ts q) p).key = 200000 * (q : Int) + p) (_hC : ∀ q, q < 8 → ∀ p, p < (Ls q).length → (Ls q).getD p 0 = 400000 * (q : Int) + p), Code.wp Try.prog (memFrom 19) (bodyPost Try.prog Try.f6 fun e w' => e = .returned (.bool true) ∧ Below w.heap.size w w') ⟨#[u0, u1, u2, u3, u4, u5, u6, .slice a7 U.length c7, u8, u9, u10, u11, u12, u13, u14, u15, .slice (some ⟨gT, 0, none⟩) nT cT2, .slice (some ⟨gL, 0, none⟩) 8 cL, u18, u19, u20, u21, u22, u23, u24, u25, u26, u27, vN, .int .i64 (formE t), u30, u31, u32, u33, u34, u35, u36, u37, u38, u39, u40, u41, u42, u43, u44, u45, u46, u47, u48, u49, u50, u51, u52, u53, u54, u55, u56, u57, u58, u59, u60, u61, u62, u63, u64, u65, u66, u67, u68, u69, u70, u71, u72, u73, u74, u75, u76, u77, u78, u79, u80, u81, u82, u83, u84, u85, u86, u87, u88, u89, u90, u91, u92, u93, u94, u95, u96, u97, u98, u99, u100, u101, u102, u103, u104, u105, u106, u107, u108, u109, u110, u111, u112, u113, u114, u115, u116, u117, u118, u119, u120, u121, u122, u123, u124, u125, u126, u127, u128, u129, u130, u131, u132, u133, u134, u135, u136, u137, u138, u139, u140, u141, u142, u143, u144, u145, u146, u147, u148, u149, u150, u151, u152, u153, u154, u155, u156, u157, u158, u159, u160, u161, u162, u163, u164, u165, u166, u167, u168, u169, u170, u171, u172, u173, u174, u175, u176, u177, u178, u179, u180, u181, u182, u183, u184, u185, u186, u187, u188, u189, u190, u191, u192, u193, u194, u195, u196, u197, u198, u199, u200, u201, u202, u203, u204, u205, u206, u207, u208, u209, u210, u211, u212, u213, u214, u215, u216, u217, u218, u219, u220, u221, u222, u223, u224, u225, u226, u227, u228, u229, u230, u231, u232, u233, u234, u235, u236, u237, u238, u239, u240, u241, u242, u243, u244, u245, u246, u247, u248, u249, u250, u251, u252, u253, u254, u255, u256, u257, u258, u259, u260, u261, u262, u263, u264, u265, u266, u267, u268, u269, u270, u271, u272, u273, u274, u275, u276, u277, u278, u279, u280, u281, u282, u283, u284, u285, u286, u287, u288, u289, u290, u291, u292, u293, u294, u295, u296, u297, u298, u299, u300, u301, u302, u303, u304, u305, u306, u307, u308, u309, u310, u311, u312, u313, u314, u315, u316, u317, u318, u319, u320, u321, u322, u323, u324, u325, u326, u327, u328, u329, u330, u331, u332, u333, u334, u335, u336, u337, u338, u339, u340, u341, u342, u343, u344, u345, u346, u347, u348, u349, u350, u351, u352, u353, u354, u355, u356, u357, u358, u359, u360, u361, u362, u363, u364, u365, u366, u367, u368, u369, u370, u371, u372, u373, u374, u375, u376, u377, u378, u379, u380, u381, u382, u383, u384], []⟩ X
set_option maxRecDepth 100000 in
def MemAt20 : Prop := ∀ (w w5 : World) (bT bk : Option Addr) (b o cT gk ok ck g3 c3 g5 c5 : Nat) (t : NL) (W : List Int) (key : Int) (a7 : Option Addr) (c7 : Nat) (U : NL) (B gT cT2 gL cL : Nat) (ts vs : Nat → Value) (Ts : Nat → NL) (Ls : Nat → List Int) (NN : Nat) (G F : Nat → Nat) (vN : Value) (nT : Nat) (X : World) (u0 u1 u2 u3 u4 u5 u6 u8 u9 u10 u11 u12 u13 u14 u15 u18 u19 u20 u21 u22 u23 u24 u25 u26 u27 u30 u31 u32 u33 u34 u35 u36 u37 u38 u39 u40 u41 u42 u43 u44 u45 u46 u47 u48 u49 u50 u51 u52 u53 u54 u55 u56 u57 u58 u59 u60 u61 u62 u63 u64 u65 u66 u67 u68 u69 u70 u71 u72 u73 u74 u75 u76 u77 u78 u79 u80 u81 u82 u83 u84 u85 u86 u87 u88 u89 u90 u91 u92 u93 u94 u95 u96 u97 u98 u99 u100 u101 u102 u103 u104 u105 u106 u107 u108 u109 u110 u111 u112 u113 u114 u115 u116 u117 u118 u119 u120 u121 u122 u123 u124 u125 u126 u127 u128 u129 u130 u131 u132 u133 u134 u135 u136 u137 u138 u139 u140 u141 u142 u143 u144 u145 u146 u147 u148 u149 u150 u151 u152 u153 u154 u155 u156 u157 u158 u159 u160 u161 u162 u163 u164 u165 u166 u167 u168 u169 u170 u171 u172 u173 u174 u175 u176 u177 u178 u179 u180 u181 u182 u183 u184 u185 u186 u187 u188 u189 u190 u191 u192 u193 u194 u195 u196 u197 u198 u199 u200 u201 u202 u203 u204 u205 u206 u207 u208 u209 u210 u211 u212 u213 u214 u215 u216 u217 u218 u219 u220 u221 u222 u223 u224 u225 u226 u227 u228 u229 u230 u231 u232 u233 u234 u235 u236 u237 u238 u239 u240 u241 u242 u243 u244 u245 u246 u247 u248 u249 u250 u251 u252 u253 u254 u255 u256 u257 u258 u259 u260 u261 u262 u263 u264 u265 u266 u267 u268 u269 u270 u271 u272 u273 u274 u275 u276 u277 u278 u279 u280 u281 u282 u283 u284 u285 u286 u287 u288 u289 u290 u291 u292 u293 u294 u295 u296 u297 u298 u299 u300 u301 u302 u303 u304 u305 u306 u307 u308 u309 u310 u311 u312 u313 u314 u315 u316 u317 u318 u319 u320 u321 u322 u323 u324 u325 u326 u327 u328 u329 u330 u331 u332 u333 u334 u335 u336 u337 u338 u339 u340 u341 u342 u343 u344 u345 u346 u347 u348 u349 u350 u351 u352 u353 u354 u355 u356 u357 u358 u359 u360 u361 u362 u363 u364 u365 u366 u367 u368 u369 u370 u371 u372 u373 u374 u375 u376 u377 u378 u379 u380 u381 u382 u383 u384 : Value) (_hM : NB w w5 bT bk b o cT gk ok ck g3 c3 g5 c5 t W key) (_hU : U = normL t) (_hN : formE t = 0 → vN = .pointer (some ⟨G 0, 0, none⟩)) (_hn : nT ≤ 3) (_hQ : MQ w B NN (formE t = 0) (normL t) U G F (.slice a7 U.length c7) nT (.slice (some ⟨gT, 0, none⟩) nT cT2) ts Ts 8 (.slice (some ⟨gL, 0, none⟩) 8 cL) vs Ls X) (_hC : ∀ q, q < 8 → ∀ p, p < (Ls q).length → (Ls q).getD p 0 = 400000 * (q : Int) + p), Code.wp Try.prog (memFrom 20) (bodyPost Try.prog Try.f6 fun e w' => e = .returned (.bool true) ∧ Below w.heap.size w w') ⟨#[u0, u1, u2, u3, u4, u5, u6, .slice a7 U.length c7, u8, u9, u10, u11, u12, u13, u14, u15, .slice (some ⟨gT, 0, none⟩) nT cT2, .slice (some ⟨gL, 0, none⟩) 8 cL, u18, u19, u20, u21, u22, u23, u24, u25, u26, u27, vN, .int .i64 (formE t), u30, u31, u32, u33, u34, u35, u36, u37, u38, u39, u40, u41, u42, u43, u44, u45, u46, u47, u48, u49, u50, u51, u52, u53, u54, u55, u56, u57, u58, u59, u60, u61, u62, u63, u64, u65, u66, u67, u68, u69, u70, u71, u72, u73, u74, u75, u76, u77, u78, u79, u80, u81, u82, u83, u84, u85, u86, u87, u88, u89, u90, u91, u92, u93, u94, u95, u96, u97, u98, u99, u100, u101, u102, u103, u104, u105, u106, u107, u108, u109, u110, u111, u112, u113, u114, u115, u116, u117, u118, u119, u120, u121, u122, u123, u124, u125, u126, u127, u128, u129, u130, u131, u132, u133, u134, u135, u136, u137, u138, u139, u140, u141, u142, u143, u144, u145, u146, u147, u148, u149, u150, u151, u152, u153, u154, u155, u156, u157, u158, u159, u160, u161, u162, u163, u164, u165, u166, u167, u168, u169, u170, u171, u172, u173, u174, u175, u176, u177, u178, u179, u180, u181, u182, u183, u184, u185, u186, u187, u188, u189, u190, u191, u192, u193, u194, u195, u196, u197, u198, u199, u200, u201, u202, u203, u204, u205, u206, u207, u208, u209, u210, u211, u212, u213, u214, u215, u216, u217, u218, u219, u220, u221, u222, u223, u224, u225, u226, u227, u228, u229, u230, u231, u232, u233, u234, u235, u236, u237, u238, u239, u240, u241, u242, u243, u244, u245, u246, u247, u248, u249, u250, u251, u252, u253, u254, u255, u256, u257, u258, u259, u260, u261, u262, u263, u264, u265, u266, u267, u268, u269, u270, u271, u272, u273, u274, u275, u276, u277, u278, u279, u280, u281, u282, u283, u284, u285, u286, u287, u288, u289, u290, u291, u292, u293, u294, u295, u296, u297, u298, u299, u300, u301, u302, u303, u304, u305, u306, u307, u308, u309, u310, u311, u312, u313, u314, u315, u316, u317, u318, u319, u320, u321, u322, u323, u324, u325, u326, u327, u328, u329, u330, u331, u332, u333, u334, u335, u336, u337, u338, u339, u340, u341, u342, u343, u344, u345, u346, u347, u348, u349, u350, u351, u352, u353, u354, u355, u356, u357, u358, u359, u360, u361, u362, u363, u364, u365, u366, u367, u368, u369, u370, u371, u372, u373, u374, u375, u376, u377, u378, u379, u380, u381, u382, u383, u384], []⟩ X
set_option maxRecDepth 100000 in
def MemAt21 : Prop := ∀ (w w5 : World) (bT bk : Option Addr) (b o cT gk ok ck g3 c3 g5 c5 : Nat) (t : NL) (W : List Int) (key : Int) (a7 : Option Addr) (c7 : Nat) (U : NL) (B gT cT2 gL cL : Nat) (ts vs : Nat → Value) (Ts : Nat → NL) (Ls : Nat → List Int) (NN : Nat) (G F : Nat → Nat) (vN : Value) (nT : Nat) (X : World) (u0 u1 u2 u3 u4 u5 u6 u8 u9 u10 u11 u12 u13 u14 u15 u18 u19 u20 u21 u22 u23 u24 u25 u26 u27 u30 u31 u32 u33 u34 u35 u36 u37 u38 u39 u40 u41 u42 u43 u44 u45 u46 u47 u48 u49 u50 u51 u52 u53 u54 u55 u56 u57 u58 u59 u60 u61 u62 u63 u64 u65 u66 u67 u68 u69 u70 u71 u72 u73 u74 u75 u76 u77 u78 u79 u80 u81 u82 u83 u84 u85 u86 u87 u88 u89 u90 u91 u92 u93 u94 u95 u96 u97 u98 u99 u100 u101 u102 u103 u104 u105 u106 u107 u108 u109 u110 u111 u112 u113 u114 u115 u116 u117 u118 u119 u120 u121 u122 u123 u124 u125 u126 u127 u128 u129 u130 u131 u132 u133 u134 u135 u136 u137 u138 u139 u140 u141 u142 u143 u144 u145 u146 u147 u148 u149 u150 u151 u152 u153 u154 u155 u156 u157 u158 u159 u160 u161 u162 u163 u164 u165 u166 u167 u168 u169 u170 u171 u172 u173 u174 u175 u176 u177 u178 u179 u180 u181 u182 u183 u184 u185 u186 u187 u188 u189 u190 u191 u192 u193 u194 u195 u196 u197 u198 u199 u200 u201 u202 u203 u204 u205 u206 u207 u208 u209 u210 u211 u212 u213 u214 u215 u216 u217 u218 u219 u220 u221 u222 u223 u224 u225 u226 u227 u228 u229 u230 u231 u232 u233 u234 u235 u236 u237 u238 u239 u240 u241 u242 u243 u244 u245 u246 u247 u248 u249 u250 u251 u252 u253 u254 u255 u256 u257 u258 u259 u260 u261 u262 u263 u264 u265 u266 u267 u268 u269 u270 u271 u272 u273 u274 u275 u276 u277 u278 u279 u280 u281 u282 u283 u284 u285 u286 u287 u288 u289 u290 u291 u292 u293 u294 u295 u296 u297 u298 u299 u300 u301 u302 u303 u304 u305 u306 u307 u308 u309 u310 u311 u312 u313 u314 u315 u316 u317 u318 u319 u320 u321 u322 u323 u324 u325 u326 u327 u328 u329 u330 u331 u332 u333 u334 u335 u336 u337 u338 u339 u340 u341 u342 u343 u344 u345 u346 u347 u348 u349 u350 u351 u352 u353 u354 u355 u356 u357 u358 u359 u360 u361 u362 u363 u364 u365 u366 u367 u368 u369 u370 u371 u372 u373 u374 u375 u376 u377 u378 u379 u380 u381 u382 u383 u384 : Value) (_hM : NB w w5 bT bk b o cT gk ok ck g3 c3 g5 c5 t W key) (_hU : U = normL t) (_hN : formE t = 0 → vN = .pointer (some ⟨G 0, 0, none⟩)) (_hn : nT ≤ 3) (_hQ : MQ w B NN (formE t = 0) (normL t) U G F (.slice a7 U.length c7) nT (.slice (some ⟨gT, 0, none⟩) nT cT2) ts Ts 8 (.slice (some ⟨gL, 0, none⟩) 8 cL) vs Ls X), Code.wp Try.prog (memFrom 21) (bodyPost Try.prog Try.f6 fun e w' => e = .returned (.bool true) ∧ Below w.heap.size w w') ⟨#[u0, u1, u2, u3, u4, u5, u6, .slice a7 U.length c7, u8, u9, u10, u11, u12, u13, u14, u15, .slice (some ⟨gT, 0, none⟩) nT cT2, .slice (some ⟨gL, 0, none⟩) 8 cL, u18, u19, u20, u21, u22, u23, u24, u25, u26, u27, vN, .int .i64 (formE t), u30, u31, u32, u33, u34, u35, u36, u37, u38, u39, u40, u41, u42, u43, u44, u45, u46, u47, u48, u49, u50, u51, u52, u53, u54, u55, u56, u57, u58, u59, u60, u61, u62, u63, u64, u65, u66, u67, u68, u69, u70, u71, u72, u73, u74, u75, u76, u77, u78, u79, u80, u81, u82, u83, u84, u85, u86, u87, u88, u89, u90, u91, u92, u93, u94, u95, u96, u97, u98, u99, u100, u101, u102, u103, u104, u105, u106, u107, u108, u109, u110, u111, u112, u113, u114, u115, u116, u117, u118, u119, u120, u121, u122, u123, u124, u125, u126, u127, u128, u129, u130, u131, u132, u133, u134, u135, u136, u137, u138, u139, u140, u141, u142, u143, u144, u145, u146, u147, u148, u149, u150, u151, u152, u153, u154, u155, u156, u157, u158, u159, u160, u161, u162, u163, u164, u165, u166, u167, u168, u169, u170, u171, u172, u173, u174, u175, u176, u177, u178, u179, u180, u181, u182, u183, u184, u185, u186, u187, u188, u189, u190, u191, u192, u193, u194, u195, u196, u197, u198, u199, u200, u201, u202, u203, u204, u205, u206, u207, u208, u209, u210, u211, u212, u213, u214, u215, u216, u217, u218, u219, u220, u221, u222, u223, u224, u225, u226, u227, u228, u229, u230, u231, u232, u233, u234, u235, u236, u237, u238, u239, u240, u241, u242, u243, u244, u245, u246, u247, u248, u249, u250, u251, u252, u253, u254, u255, u256, u257, u258, u259, u260, u261, u262, u263, u264, u265, u266, u267, u268, u269, u270, u271, u272, u273, u274, u275, u276, u277, u278, u279, u280, u281, u282, u283, u284, u285, u286, u287, u288, u289, u290, u291, u292, u293, u294, u295, u296, u297, u298, u299, u300, u301, u302, u303, u304, u305, u306, u307, u308, u309, u310, u311, u312, u313, u314, u315, u316, u317, u318, u319, u320, u321, u322, u323, u324, u325, u326, u327, u328, u329, u330, u331, u332, u333, u334, u335, u336, u337, u338, u339, u340, u341, u342, u343, u344, u345, u346, u347, u348, u349, u350, u351, u352, u353, u354, u355, u356, u357, u358, u359, u360, u361, u362, u363, u364, u365, u366, u367, u368, u369, u370, u371, u372, u373, u374, u375, u376, u377, u378, u379, u380, u381, u382, u383, u384], []⟩ X
end Go.Proofs.Ythdfpddijocfkaa




namespace Go.Proofs.Ythdfpddijocfkaa

open Go.RowKit

attribute [local go_sem ↓] Go.wp_at_zero Go.wp_at_succ

set_option maxRecDepth 100000 in
set_option maxHeartbeats 4000000 in
theorem memat12 (next : MemAt13) : MemAt12 := by
  unfold MemAt12
  intro w w5 bT bk b o cT gk ok ck g3 c3 g5 c5 t W key a7 a8 a10 a13 a14 c7 g7 g8 c8 g10 c10 g13 c13 g14 c14 U ks KR Q LM LA X u0 u2 u11 u12 u18 u19 u20 u21 u22 u23 u24 u25 u26 u27 u28 u29 u30 u31 u32 u33 u34 u35 u36 u37 u38 u39 u40 u41 u42 u43 u44 u45 u46 u47 u48 u49 u50 u51 u52 u53 u54 u55 u56 u57 u58 u59 u60 u61 u62 u63 u64 u65 u66 u67 u68 u69 u70 u71 u72 u73 u74 u75 u76 u77 u78 u79 u80 u81 u82 u83 u84 u85 u86 u87 u88 u89 u90 u91 u92 u93 u94 u95 u96 u97 u98 u99 u100 u101 u102 u103 u104 u105 u106 u107 u108 u109 u110 u111 u112 u113 u114 u115 u116 u117 u118 u119 u120 u121 u122 u123 u124 u125 u126 u127 u128 u129 u130 u131 u132 u133 u134 u135 u136 u137 u138 u139 u140 u141 u142 u143 u144 u145 u146 u147 u148 u149 u150 u151 u152 u153 u154 u155 u156 u157 u158 u159 u160 u161 u162 u163 u164 u165 u166 u167 u168 u169 u170 u171 u172 u173 u174 u175 u176 u177 u178 u179 u180 u181 u182 u183 u184 u185 u186 u187 u188 u189 u190 u191 u192 u193 u194 u195 u196 u197 u198 u199 u200 u201 u202 u203 u204 u205 u206 u207 u208 u209 u210 u211 u212 u213 u214 u215 u216 u217 u218 u219 u220 u221 u222 u223 u224 u225 u226 u227 u228 u229 u230 u231 u232 u233 u234 u235 u236 u237 u238 u239 u240 u241 u242 u243 u244 u245 u246 u247 u248 u249 u250 u251 u252 u253 u254 u255 u256 u257 u258 u259 u260 u261 u262 u263 u264 u265 u266 u267 u268 u269 u270 u271 u272 u273 u274 u275 u276 u277 u278 u279 u280 u281 u282 u283 u284 u285 u286 u287 u288 u289 u290 u291 u292 u293 u294 u295 u296 u297 u298 u299 u300 u301 u302 u303 u304 u305 u306 u307 u308 u309 u310 u311 u312 u313 u314 u315 u316 u317 u318 u319 u320 u321 u322 u323 u324 u325 u326 u327 u328 u329 u330 u331 u332 u333 u334 u335 u336 u337 u338 u339 u340 u341 u342 u343 u344 u345 u346 u347 u348 u349 u350 u351 u352 u353 u354 u355 u356 u357 u358 u359 u360 u361 u362 u363 u364 u365 u366 u367 u368 u369 u370 u371 u372 u373 u374 u375 u376 u377 u378 u379 u380 u381 u382 u383 u384 hM hU hKR hQ hl1 hl2 hl3 hl4 hS hkc hY h7 h7n h8 h10 h13 h14
  have HMB : Hid (NB w w5 bT bk b o cT gk ok ck g3 c3 g5 c5 t W key) := hM
  have HU : Hid (U = normL t) := hU
  have HUL : Hid (U.length ≤ 100000) := by show U.length ≤ 100000; rw [hU]; exact nrm_len t
  have HKR : Hid (KR = if formE t = 0 then rdK t else []) := hKR
  have HKL : Hid (KR.length ≤ 100000) := by
    show KR.length ≤ 100000
    rw [hKR]
    split
    · rename_i h; exact Nat.le_of_lt (kr_len t h)
    · simp
  have HQ : Hid (Q = (wkL t key).map fun x : Nat => (x : Int)) := hQ
  have HQL : Hid (Q.length = (wkL t key).length) := by show _ = _; rw [hQ]; exact List.length_map _
  have HQ1 : Hid (Q.length ≤ 100000) := by show Q.length ≤ 100000; rw [HQL.out]; exact (wk_len t key).1
  have HL1 : Hid ((if skE t ks = 0 then ks.length else 0) = LA.length) := hl1
  have HL2 : Hid (LM.length = LA.length) := hl2
  have HL3 : Hid ((if skE t ks = 0 then skC (skA t ks) else []) = skC LA) := hl3
  have HL4 : Hid ((if skE t ks = 0 then isC (skN t ks) else []) = isC LM) := hl4
  have HLM : Hid (LM.length ≤ 100000) := by
    show LM.length ≤ 100000
    have := ska_len hl1
    omega
  have HKK : Hid ((wkK t key).length ≤ 100000) := (wk_len t key).2
  have N3 : Hid (∀ z, Below w5.heap.size w5 z → NodesAt z (some ⟨g3, 0, none⟩) g3 0 t) := hM.nodes
  have SK : Hid (∀ z, Below w5.heap.size w5 z → WsAt z (some ⟨g5, 0, none⟩) g5 0 ks) := hS
  have CC : Hid (∀ z, Below w5.heap.size w5 z → z.cell? ⟨w.heap.size, 0, none⟩ = some (.slice bT t.length cT) ∧ z.cell? ⟨w.heap.size, 1, none⟩ = some (.slice bk W.length ck) ∧ z.cell? ⟨w.heap.size, 2, none⟩ = some (.int .i64 key)) := hM.CC
  have BL : Hid (∀ z, Below w5.heap.size w5 z → Below w.heap.size w z ∧ w.heap.size < z.heap.size) := hM.BL
  have Z8 : Hid (∀ z, Below X.heap.size X z → Below w5.heap.size w5 z) := fun z hz => hY.trans (hz.mono hY.size)
  have S7 : Hid (∀ z, Below X.heap.size X z → NodesAt z a7 g7 0 U) := fun z hz => h7n.below hz
  have S8 : Hid (∀ z, Below X.heap.size X z → WsAt z a8 g8 0 KR) := fun z hz => h8.below hz
  have S10 : Hid (∀ z, Below X.heap.size X z → WsAt z a10 g10 0 Q) := fun z hz => h10.below hz
  have S13 : Hid (∀ z, Below X.heap.size X z → RtAt z a13 g13 LA) := fun z hz => h13.below hz
  have S14 : Hid (∀ z, Below X.heap.size X z → WsAt z a14 g14 0 LM) := fun z hz => h14.below hz
  have y8 := hY.size
  have hkc' := hkc
  have O7 : Hid (∀ g, Value.ownBlock (.slice a7 U.length c7) = some g → w5.heap.size ≤ g ∧ g < X.heap.size) := owns_lt h7
  have Q00 : Hid (MQ w X.heap.size 0 False (normL t) U (fun _ => 0) (fun _ => 0) (.slice a7 U.length c7) (0) (.slice none 0 0) (fun _ => .slice none 0 0) (fun _ => []) (0) (.slice none 0 0) (fun _ => .slice none 0 0) (fun _ => []) X) := ⟨RRs.nil _ _, RRs.nil _ _, owns_down h7 (Nat.zero_le _), fun g h => (owns_lt h7 g h).2, fun q => q.elim, Nat.zero_le _, (hM.BL X hY).1, Nat.le_of_lt (hM.BL X hY).2⟩
  have qE : (formE t != formE t) = false := by simp
  have qS : (skE t ks != skE t ks) = false := by simp
  have HY : Hid (Below w5.heap.size w5 X) := hY
  clear hM hU hKR hQ hl1 hl2 hl3 hl4 hS hkc hY h7 h7n h8 h10 h13 h14
  conv => arg 2; whnf
  go_upto_block 0 with fail
  go_cut [16, 17, 18, 19, 20, 21, 22, 23, 24, 25, 26, 27] from 108 to 181 (fun s16 s17 s18 s19 s20 s21 s22 s23 s24 s25 s26 s27 wx => ∃ (gT cT2 gL cL : Nat) (ts vs : Nat → Value) (Ts : Nat → NL) (Ls : Nat → List Int), s16 = .slice (some ⟨gT, 0, none⟩) 2 cT2 ∧ s17 = .slice (some ⟨gL, 0, none⟩) 8 cL ∧ MQ w X.heap.size 0 False (normL t) U (fun _ => 0) (fun _ => 0) (.slice a7 U.length c7) (2) (.slice (some ⟨gT, 0, none⟩) 2 cT2) ts Ts (8) (.slice (some ⟨gL, 0, none⟩) 8 cL) vs Ls wx ∧ Below X.heap.size X wx)
  case first =>
    go_wp2_with fail
    go_loopw [16, 17, 18] (fun vT vL kk wr => ∃ (j : Nat) (ts : Nat → Value) (Ts : Nat → NL) (vs : Nat → Value) (Ls : Nat → List Int), j ≤ 2 ∧ kk = .int .i64 j ∧ MQ w X.heap.size 0 False (normL t) U (fun _ => 0) (fun _ => 0) (.slice a7 U.length c7) (j) vT ts Ts (4 * j) vL vs Ls wr ∧ Below X.heap.size X wr) (fun _ _ i _ => 2 - (intOf i).toNat)
    case atStart => exact ⟨0, _, _, _, _, by omega, rfl, Q00.out, Below.refl _ _⟩
    case round =>
      obtain ⟨j, ts, Ts, vs, Ls, hj, rfl, hm, hbz⟩ := hrel
      by_cases hj2 : j < 2
      · have dj : decide ((j : Int) < 2) = true := decide_eq_true (by omega)
        generalize wr = V0 at *
        have M1 : Hid (MQ w X.heap.size 0 False (normL t) U (fun _ => 0) (fun _ => 0) (.slice a7 U.length c7) (j) u16 ts Ts (4 * j) u17 vs Ls V0) := hm
        have B0 : Hid (Below X.heap.size X V0) := hbz
        have q0 := hbz.size
        have RR1 : Hid _ := Round_any (some ⟨g3, 0, none⟩) g3 0 c3 t V0 (N3.out _ (Z8.out _ B0.out)) (kr_len t)
        rw [← HU.out, ← HKR.out] at RR1
        clear hm hbz
        go_wp2_with fail
        refine Calls.mono RR1.out ?_
        rintro e x1 ⟨y1, k1, rfl, ho1, hk1, hb1⟩
        obtain ⟨s1a, s1c, rfl⟩ := own_slice ho1
        obtain ⟨p1a, p1c, rfl⟩ := own_slice hk1
        have O1 : Hid (x1.ownsRow V0.heap.size 81 6 (.slice s1a U.length s1c) U.length (ndCells U)) := ho1
        have P1 : Hid (x1.ownsRow V0.heap.size 3 1 (.slice p1a KR.length p1c) KR.length (isC KR)) := hk1
        have B1 : Hid (Below X.heap.size X x1) := B0.out.trans (hb1.mono B0.out.size)
        have C1 : Hid (Below V0.heap.size V0 x1) := hb1
        have q1 := hb1.size
        have RR2 : Hid _ := Walk_sep (some ⟨g3, 0, none⟩) g3 0 c3 t key x1 (N3.out _ (Z8.out _ B1.out))
        obtain ⟨e0, e1, e2⟩ := CC.out _ (Z8.out _ B1.out)
        have lt1 := (BL.out _ (Z8.out _ B1.out)).2
        clear ho1 hk1 hb1 RR1 B0
        go_wp2_with fail
        refine Calls.mono RR2.out ?_
        rintro e x2 ⟨y2, k2, rfl, ho2, hk2, hsep, hb2⟩
        rw [natC_isC, ← HQ.out, ← HQL.out] at ho2
        obtain ⟨s2a, s2c, rfl⟩ := own_slice ho2
        obtain ⟨p2a, p2c, rfl⟩ := own_slice hk2
        have O2 : Hid (x2.ownsRow x1.heap.size 3 1 (.slice s2a Q.length s2c) Q.length (isC Q)) := ho2
        have P2 : Hid (x2.ownsRow x1.heap.size 3 1 (.slice p2a (wkK t key).length p2c) (wkK t key).length (isC (wkK t key))) := hk2
        have SEP : Hid (∀ g, Value.ownBlock (.slice s2a Q.length s2c) = some g → Value.ownBlock (.slice p2a (wkK t key).length p2c) ≠ some g) := hsep
        have B2 : Hid (Below X.heap.size X x2) := B1.out.trans (hb2.mono B1.out.size)
        have D2 : Hid (Below x1.heap.size x1 x2) := hb2
        have q2 := hb2.size
        have RR3 : Hid _ := Seek_any (some ⟨g3, 0, none⟩) g3 0 c3 t (some ⟨g5, 0, none⟩) g5 0 c5 ks x2 (N3.out _ (Z8.out _ B2.out)) (SK.out _ (Z8.out _ B2.out))
        rw [HL1.out, HL3.out, HL4.out] at RR3
        clear ho2 hk2 hb2 RR2 B1 e0 e1 e2 lt1 hsep
        go_wp2_with fail
        refine Calls.mono RR3.out ?_
        rintro e x3 ⟨y3, k3, rfl, ho3, hk3, hb3⟩
        rw [← HL2.out] at hk3
        obtain ⟨r3a, r3c, r3g, rfl, hr3⟩ := rt_of_owns ho3 rfl
        obtain ⟨p3a, p3c, rfl⟩ := own_slice hk3
        have P3 : Hid (x3.ownsRow x2.heap.size 3 1 (.slice p3a LM.length p3c) LM.length (isC LM)) := hk3
        have T3 : Hid (RtAt x3 r3a r3g LA) := hr3
        have B3 : Hid (Below X.heap.size X x3) := B2.out.trans (hb3.mono B2.out.size)
        have q3 := hb3.size
        have C3 : Hid (Below V0.heap.size V0 x3) := C1.out.trans ((D2.out.trans (hb3.mono q2)).mono q1)
        have A0 : Hid (x3.ownsRow V0.heap.size 81 6 (.slice s1a U.length s1c) U.length (ndCells U)) := owns_below (owns_below O1.out D2.out) hb3
        have A1 : Hid (x3.ownsRow V0.heap.size 3 1 (.slice p1a KR.length p1c) KR.length (isC KR)) := owns_below (owns_below P1.out D2.out) hb3
        have A2 : Hid (x3.ownsRow V0.heap.size 3 1 (.slice s2a Q.length s2c) Q.length (isC Q)) := owns_down (owns_below O2.out hb3) (by omega)
        have A3 : Hid (x3.ownsRow V0.heap.size 3 1 (.slice p2a (wkK t key).length p2c) (wkK t key).length (isC (wkK t key))) := owns_down (owns_below P2.out hb3) (by omega)
        have A4 : Hid (x3.ownsRow V0.heap.size 3 1 (.slice p3a LM.length p3c) LM.length (isC LM)) := owns_down P3.out (by omega)
        have b1 : Hid (∀ g, Value.ownBlock (.slice p1a KR.length p1c) = some g → V0.heap.size ≤ g ∧ g < x1.heap.size) := owns_lt P1.out
        have b2 : Hid (∀ g, Value.ownBlock (.slice s2a Q.length s2c) = some g → x1.heap.size ≤ g ∧ g < x2.heap.size) := owns_lt O2.out
        have b3 : Hid (∀ g, Value.ownBlock (.slice p2a (wkK t key).length p2c) = some g → x1.heap.size ≤ g ∧ g < x2.heap.size) := owns_lt P2.out
        have b4 : Hid (∀ g, Value.ownBlock (.slice p3a LM.length p3c) = some g → x2.heap.size ≤ g ∧ g < x3.heap.size) := owns_lt P3.out
        clear ho3 hk3 hr3 hb3 RR3 O1 P1 O2 P2 P3 C1 D2 B2
        obtain ⟨z0a, z0c, z0g, z0e, -, -, hz0⟩ := nodes_of_owns A0.out
        obtain ⟨z1a, z1c, z1g, z1e, -, -, hz1⟩ := ws_of_owns A1.out
        obtain ⟨z2a, z2c, z2g, z2e, -, -, hz2⟩ := ws_of_owns A2.out
        obtain ⟨z4a, z4c, z4g, z4e, -, -, hz4⟩ := ws_of_owns A4.out
        injection z0e with za0 _ zc0
        injection z1e with za1 _ zc1
        injection z2e with za2 _ zc2
        injection z4e with za4 _ zc4
        subst za0 zc0 za1 zc1 za2 zc2 za4 zc4
        have V1 : Hid (NodesAt x3 s1a z0g 0 U) := hz0
        have V2 : Hid (WsAt x3 p1a z1g 0 KR) := hz1
        have V3 : Hid (WsAt x3 s2a z2g 0 Q) := hz2
        have V5 : Hid (WsAt x3 p3a z4g 0 LM) := hz4
        clear hz0 hz1 hz2 hz4
        go_wp2_with fail
        refine (vSame_any s1a a7 z0g 0 s1c g7 0 c7 U U _ V1.out (S7.out _ B3.out)).mono ?_
        rintro e x4 ⟨rfl, hb4⟩
        rw [nlSelf]
        have A : Hid (Below x3.heap.size x3 x4) := hb4
        have A4' : Hid (Below X.heap.size X x4) := B3.out.trans (hb4.mono B3.out.size)
        clear hb4 V1
        go_wp2_with fail
        refine (sameInts_any p1a a8 z1g 0 p1c g8 0 c8 KR KR _ (V2.out.below A.out) (S8.out _ A4'.out)).mono ?_
        rintro e x5 ⟨rfl, hb5⟩
        rw [isSelf]
        have A5 : Hid (Below x3.heap.size x3 x5) := A.out.trans (hb5.mono A.out.size)
        have A5' : Hid (Below X.heap.size X x5) := B3.out.trans (A5.out.mono B3.out.size)
        clear hb5 V2 A A4'
        go_wp2_with fail
        refine (sameInts_any s2a a10 z2g 0 s2c g10 0 c10 Q Q _ (V3.out.below A5.out) (S10.out _ A5'.out)).mono ?_
        rintro e x6 ⟨rfl, hb6⟩
        rw [isSelf]
        have A6 : Hid (Below x3.heap.size x3 x6) := A5.out.trans (hb6.mono A5.out.size)
        have A6' : Hid (Below X.heap.size X x6) := B3.out.trans (A6.out.mono B3.out.size)
        clear hb6 V3 A5 A5'
        have SI : Hid _ := sameInts_any p3a a14 z4g 0 p3c g14 0 c14 LM LM _ (V5.out.below A6.out) (S14.out _ A6'.out)
        rw [isSelf] at SI
        go_wp2_with fail
        refine Calls.mono SI.out ?_
        rintro e x7 ⟨rfl, hb7⟩
        have A7 : Hid (Below x3.heap.size x3 x7) := A6.out.trans (hb7.mono A6.out.size)
        have A7' : Hid (Below X.heap.size X x7) := B3.out.trans (A7.out.mono B3.out.size)
        clear hb7 V5 A6 A6' SI
        go_wp2_with fail
        refine (nSameRets_any r3a a13 r3g r3c g13 c13 LA _ (T3.out.below A7.out) (S13.out _ A7'.out)).mono ?_
        rintro e x8 ⟨rfl, hb8⟩
        have A8 : Hid (Below x3.heap.size x3 x8) := A7.out.trans (hb8.mono A7.out.size)
        have A8' : Hid (Below X.heap.size X x8) := B3.out.trans (A8.out.mono B3.out.size)
        have C8 : Hid (Below V0.heap.size V0 x8) := C3.out.trans (A8.out.mono C3.out.size)
        have q8 := A8'.out.size
        have q8' := C8.out.size
        clear hb8 A7 A7' T3 C3
        have TP : Hid (x8.ownsRow X.heap.size 22 1 u16 j ((List.range j).map ts)) := (M1.out.below C8.out).tb.top
        obtain ⟨j0, hj0, hy0, hy1, hy2⟩ := info_parts tt_info
        obtain ⟨k0, hk0, hx0, hx1, hx2⟩ := info_parts ll_info
        have HP : Hid (∀ (g11 c11 : Nat) (w11 : World) (ob : Obj), w11.ownsRow X.heap.size 22 1 (.slice (some ⟨g11, 0, none⟩) (j + 1) c11) (j + 1) ((List.range j).map ts ++ [.slice s1a U.length s1c]) → (x8.alloc ob).grownBy w11 u16.ownBlock → (u16.ownBlock = some g11 ∨ g11 = x8.heap.size + 1) → MQ w X.heap.size 0 False (normL t) U (fun _ => 0) (fun _ => 0) (.slice a7 U.length c7) (j + 1) (.slice (some ⟨g11, 0, none⟩) (j + 1) c11) (extN ts j fun _ => .slice s1a U.length s1c) (extN Ts j fun _ => U) (4 * j) u17 vs Ls w11 ∧ w11.ownsRow V0.heap.size 3 1 (.slice p1a KR.length p1c) KR.length (isC KR) ∧ w11.ownsRow V0.heap.size 3 1 (.slice s2a Q.length s2c) Q.length (isC Q) ∧ w11.ownsRow V0.heap.size 3 1 (.slice p2a (wkK t key).length p2c) (wkK t key).length (isC (wkK t key)) ∧ w11.ownsRow V0.heap.size 3 1 (.slice p3a LM.length p3c) LM.length (isC LM) ∧ Below X.heap.size X w11) := fun g11 c11 w11 ob ho hg hat => by
          have hg' := gb_alloc hg
          refine ⟨M1.out.pushT C8.out (owns_down (owns_below A0.out A8.out) (by omega)) (fun g h => (owns_lt A0.out g h).1) HUL.out hg ho (fun g h => ?_), gb_owns hg' (owns_below A1.out A8.out) (own_ne (owns_below A1.out A8.out) TP.out (by decide)), gb_owns hg' (owns_below A2.out A8.out) (own_ne (owns_below A2.out A8.out) TP.out (by decide)), gb_owns hg' (owns_below A3.out A8.out) (own_ne (owns_below A3.out A8.out) TP.out (by decide)), gb_owns hg' (owns_below A4.out A8.out) (own_ne (owns_below A4.out A8.out) TP.out (by decide)), A8'.out.trans (gb_to hg' _ q8 (fun g h => (owns_lt TP.out g h).1))⟩
          have e : g11 = g := by simpa [Value.ownBlock] using h
          subst e
          rcases hat with q | q
          · exact Or.inl q
          · exact Or.inr (by omega)
        have HP2 : Hid (∀ (g11 c11 : Nat) (w11 : World), (MQ w X.heap.size 0 False (normL t) U (fun _ => 0) (fun _ => 0) (.slice a7 U.length c7) (j + 1) (.slice (some ⟨g11, 0, none⟩) (j + 1) c11) (extN ts j fun _ => .slice s1a U.length s1c) (extN Ts j fun _ => U) (4 * j) u17 vs Ls w11 ∧ w11.ownsRow V0.heap.size 3 1 (.slice p1a KR.length p1c) KR.length (isC KR) ∧ w11.ownsRow V0.heap.size 3 1 (.slice s2a Q.length s2c) Q.length (isC Q) ∧ w11.ownsRow V0.heap.size 3 1 (.slice p2a (wkK t key).length p2c) (wkK t key).length (isC (wkK t key)) ∧ w11.ownsRow V0.heap.size 3 1 (.slice p3a LM.length p3c) LM.length (isC LM) ∧ Below X.heap.size X w11) → ∀ (g12 c12 : Nat) (w12 : World) (ob : Obj), w12.ownsRow X.heap.size 23 1 (.slice (some ⟨g12, 0, none⟩) (4 * j + 4) c12) (4 * j + 4) ((List.range (4 * j)).map vs ++ [.slice p1a KR.length p1c, .slice s2a Q.length s2c, .slice p2a (wkK t key).length p2c, .slice p3a LM.length p3c]) → (w11.alloc ob).grownBy w12 u17.ownBlock → (u17.ownBlock = some g12 ∨ g12 = w11.heap.size + 1) → (∃ (ts' : Nat → Value) (Ts' : Nat → NL) (vs' : Nat → Value) (Ls' : Nat → List Int), MQ w X.heap.size 0 False (normL t) U (fun _ => 0) (fun _ => 0) (.slice a7 U.length c7) (j + 1) (.slice (some ⟨g11, 0, none⟩) (j + 1) c11) ts' Ts' (4 * (j + 1)) (.slice (some ⟨g12, 0, none⟩) (4 * j + 4) c12) vs' Ls' w12) ∧ Below X.heap.size X w12) := fun g11 c11 w11 lp g12 c12 w12 ob ho hg hat => by
          obtain ⟨m1, a1, a2, a3, a4, bx⟩ := lp
          have old : ∀ i, i < 4 * j → ∀ g, (vs i).ownBlock = some g → g < V0.heap.size := fun i hi g hg => (owns_lt (M1.out.ls.row i hi) g hg).2
          have topz : ∀ g, u17.ownBlock = some g → g < V0.heap.size := fun g hg => (owns_lt M1.out.ls.top g hg).2
          have cs : ∀ i, i < 4 → i = 0 ∨ i = 1 ∨ i = 2 ∨ i = 3 := fun i hi => by omega
          refine ⟨⟨_, _, _, _, m1.pushL (m := 4) (f := fun i => match i with | 0 => .slice p1a KR.length p1c | 1 => .slice s2a Q.length s2c | 2 => .slice p2a (wkK t key).length p2c | _ => .slice p3a LM.length p3c) (fD := fun i => match i with | 0 => KR | 1 => Q | 2 => wkK t key | _ => LM) (Below.refl _ _) (fun i hi => ?_) (fun i hi g hg => ?_) (fun i i' hi hi' hne g h1 h2 => ?_) (fun i hi => ?_) hg ho (fun g h => ?_)⟩, bx.trans (gb_to (gb_alloc hg) _ bx.size (fun g h => (owns_lt m1.ls.top g h).1))⟩
          · rcases cs i hi with rfl | rfl | rfl | rfl
            · exact owns_down a1 (by omega)
            · exact owns_down a2 (by omega)
            · exact owns_down a3 (by omega)
            · exact owns_down a4 (by omega)
          · have hge : V0.heap.size ≤ g := by
              rcases cs i hi with rfl | rfl | rfl | rfl
              · exact (owns_lt a1 g hg).1
              · exact (owns_lt a2 g hg).1
              · exact (owns_lt a3 g hg).1
              · exact (owns_lt a4 g hg).1
            exact ⟨fun i hi h => by have := old i hi g h; omega, fun h => by have := topz g h; omega⟩
          · rcases cs i hi with rfl | rfl | rfl | rfl <;> rcases cs i' hi' with rfl | rfl | rfl | rfl
            all_goals first | exact absurd rfl hne | skip
            · have := (b1.out g h1).2; have := (b2.out g h2).1; omega
            · have := (b1.out g h1).2; have := (b3.out g h2).1; omega
            · have := (b1.out g h1).2; have := (b4.out g h2).1; omega
            · have := (b2.out g h1).1; have := (b1.out g h2).2; omega
            · exact SEP.out g h1 h2
            · have := (b2.out g h1).2; have := (b4.out g h2).1; omega
            · have := (b3.out g h1).1; have := (b1.out g h2).2; omega
            · exact SEP.out g h2 h1
            · have := (b3.out g h1).2; have := (b4.out g h2).1; omega
            · have := (b4.out g h1).1; have := (b1.out g h2).2; omega
            · have := (b4.out g h1).1; have := (b2.out g h2).2; omega
            · have := (b4.out g h1).1; have := (b3.out g h2).2; omega
          · rcases cs i hi with rfl | rfl | rfl | rfl
            · exact HKL.out
            · exact HQ1.out
            · exact HKK.out
            · exact HLM.out
          · have e : g12 = g := by simpa [Value.ownBlock] using h
            subst e
            rcases hat with q | q
            · exact Or.inl q
            · exact Or.inr (by omega)
        clear b1 b2 b3 b4 A0 A1 A2 A3 A4 A8 SEP
        go_wp2_with (first
          | (at_builtin; have hqq := TP; (refine wpList_append_lies _ (by rfl) _ _ _ (by rfl) X.heap.size 22 j0 _ 1 24 tt_under hj0 hy0 hy1 hy2 rfl (by omega) _ j _ (by rfl) (TP.out.alloc _) ⟨x8.heap.size, 0, none⟩ 1 1 [.slice s1a U.length s1c] (by rfl) (by rfl) (World.news_of_block (cs := #[.slice s1a U.length s1c]) (t := 22) (fr := (0, 0)) (heap_alloc_at _ _ _ (by simp))) (by simp [Value.oneCell']) (by omega) (by unfold maxLen; omega) (by omega) (by simp; omega) (x8.heap.size + 1) (by simp) ?_); intro g11 c11 w11 ho hg hat hl; have LP : Hid _ := HP.out g11 c11 w11 _ ho hg hat; have q11 := LP.out.2.2.2.2.2.size; clear ho hg hat hl hqq TP HP)
          | (at_builtin; have hqq := LP; (refine wpList_append_lies _ (by rfl) _ _ _ (by rfl) X.heap.size 23 k0 _ 1 24 ll_under hk0 hx0 hx1 hx2 rfl (by omega) _ (4 * j) _ (by rfl) (LP.out.1.ls.top.alloc _) ⟨w11.heap.size, 0, none⟩ 4 4 [.slice p1a KR.length p1c, .slice s2a Q.length s2c, .slice p2a (wkK t key).length p2c, .slice p3a LM.length p3c] (by rfl) (by rfl) (World.news_of_block (cs := #[.slice p1a KR.length p1c, .slice s2a Q.length s2c, .slice p2a (wkK t key).length p2c, .slice p3a LM.length p3c]) (t := 23) (fr := (0, 0)) (heap_alloc_at _ _ _ (by simp))) (by simp [Value.oneCell']) (by omega) (by unfold maxLen; omega) (by omega) (by simp; omega) (w11.heap.size + 1) (by simp) ?_); intro g12 c12 w12 ho hg hat hl; have LP2 : Hid _ := HP2.out g11 c11 w11 LP.out g12 c12 w12 _ ho hg hat; clear ho hg hat hl hqq))
        obtain ⟨⟨ts', Ts', vs', Ls', lp⟩, bp⟩ := LP2.out
        exact ⟨⟨j + 1, ts', Ts', vs', Ls', by omega, by go_num, lp, bp⟩, by simp [intOf]; omega⟩
      · obtain rfl : j = 2 := by omega
        have M2 : Hid (MQ w X.heap.size 0 False (normL t) U (fun _ => 0) (fun _ => 0) (.slice a7 U.length c7) (2) u16 ts Ts (8) u17 vs Ls wr) := hm
        have B2 : Hid (Below X.heap.size X wr) := hbz
        obtain ⟨gT, cT2, rfl, -, -, -⟩ := hm.tb.cell (by omega)
        obtain ⟨gL, cL, rfl, -, -, -⟩ := hm.ls.cell (by omega)
        clear hm hbz
        go_wp2_with fail
        go_meet
        exact ⟨gT, cT2, gL, cL, ts, vs, Ts, Ls, rfl, rfl, M2.out, B2.out⟩
  case rest =>
    rename_i hK
    obtain ⟨gT, cT2, gL, cL, ts, vs, Ts, Ls, rfl, rfl, m2, hb⟩ := hcut
    refine hK _ _ ?_
    exact next w w5 bT bk b o cT gk ok ck g3 c3 g5 c5 t W key a7 c7 U X.heap.size gT cT2 gL cL ts vs Ts Ls wc _ _ _ _ _ _ _ _ _ _ _ _ _ _ _ _ _ _ _ _ _ _ _ _ _ _ _ _ _ _ _ _ _ _ _ _ _ _ _ _ _ _ _ _ _ _ _ _ _ _ _ _ _ _ _ _ _ _ _ _ _ _ _ _ _ _ _ _ _ _ _ _ _ _ _ _ _ _ _ _ _ _ _ _ _ _ _ _ _ _ _ _ _ _ _ _ _ _ _ _ _ _ _ _ _ _ _ _ _ _ _ _ _ _ _ _ _ _ _ _ _ _ _ _ _ _ _ _ _ _ _ _ _ _ _ _ _ _ _ _ _ _ _ _ _ _ _ _ _ _ _ _ _ _ _ _ _ _ _ _ _ _ _ _ _ _ _ _ _ _ _ _ _ _ _ _ _ _ _ _ _ _ _ _ _ _ _ _ _ _ _ _ _ _ _ _ _ _ _ _ _ _ _ _ _ _ _ _ _ _ _ _ _ _ _ _ _ _ _ _ _ _ _ _ _ _ _ _ _ _ _ _ _ _ _ _ _ _ _ _ _ _ _ _ _ _ _ _ _ _ _ _ _ _ _ _ _ _ _ _ _ _ _ _ _ _ _ _ _ _ _ _ _ _ _ _ _ _ _ _ _ _ _ _ _ _ _ _ _ _ _ _ _ _ _ _ _ _ _ _ _ _ _ _ _ _ _ _ _ _ _ _ _ _ _ _ _ _ _ _ _ _ _ _ _ _ _ _ _ _ _ _ _ _ _ _ _ _ _ _ _ _ _ _ _ _ _ _ _ _ _ _ _ _ _ _ _ _ _ _ _ _ _ _ _ _ _ _ _ _ _ _ _ _ _ _ _ _ HMB.out HU.out y8 (Z8.out _ hb) (fun g h => (O7.out g h).1) m2
end Go.Proofs.Ythdfpddijocfkaa




namespace Go.Proofs.Ythdfpddijocfkaa

open Go.RowKit

attribute [local go_sem ↓] Go.wp_at_zero Go.wp_at_succ

set_option maxRecDepth 100000 in
set_option maxHeartbeats 4000000 in
theorem memat13 (next : MemAt14) : MemAt13 := by
  unfold MemAt13
  intro w w5 bT bk b o cT gk ok ck g3 c3 g5 c5 t W key a7 c7 U B gT cT2 gL cL ts vs Ts Ls X u0 u2 u6 u8 u9 u10 u11 u12 u13 u14 u15 u18 u19 u20 u21 u22 u23 u24 u25 u26 u27 u28 u29 u30 u31 u32 u33 u34 u35 u36 u37 u38 u39 u40 u41 u42 u43 u44 u45 u46 u47 u48 u49 u50 u51 u52 u53 u54 u55 u56 u57 u58 u59 u60 u61 u62 u63 u64 u65 u66 u67 u68 u69 u70 u71 u72 u73 u74 u75 u76 u77 u78 u79 u80 u81 u82 u83 u84 u85 u86 u87 u88 u89 u90 u91 u92 u93 u94 u95 u96 u97 u98 u99 u100 u101 u102 u103 u104 u105 u106 u107 u108 u109 u110 u111 u112 u113 u114 u115 u116 u117 u118 u119 u120 u121 u122 u123 u124 u125 u126 u127 u128 u129 u130 u131 u132 u133 u134 u135 u136 u137 u138 u139 u140 u141 u142 u143 u144 u145 u146 u147 u148 u149 u150 u151 u152 u153 u154 u155 u156 u157 u158 u159 u160 u161 u162 u163 u164 u165 u166 u167 u168 u169 u170 u171 u172 u173 u174 u175 u176 u177 u178 u179 u180 u181 u182 u183 u184 u185 u186 u187 u188 u189 u190 u191 u192 u193 u194 u195 u196 u197 u198 u199 u200 u201 u202 u203 u204 u205 u206 u207 u208 u209 u210 u211 u212 u213 u214 u215 u216 u217 u218 u219 u220 u221 u222 u223 u224 u225 u226 u227 u228 u229 u230 u231 u232 u233 u234 u235 u236 u237 u238 u239 u240 u241 u242 u243 u244 u245 u246 u247 u248 u249 u250 u251 u252 u253 u254 u255 u256 u257 u258 u259 u260 u261 u262 u263 u264 u265 u266 u267 u268 u269 u270 u271 u272 u273 u274 u275 u276 u277 u278 u279 u280 u281 u282 u283 u284 u285 u286 u287 u288 u289 u290 u291 u292 u293 u294 u295 u296 u297 u298 u299 u300 u301 u302 u303 u304 u305 u306 u307 u308 u309 u310 u311 u312 u313 u314 u315 u316 u317 u318 u319 u320 u321 u322 u323 u324 u325 u326 u327 u328 u329 u330 u331 u332 u333 u334 u335 u336 u337 u338 u339 u340 u341 u342 u343 u344 u345 u346 u347 u348 u349 u350 u351 u352 u353 u354 u355 u356 u357 u358 u359 u360 u361 u362 u363 u364 u365 u366 u367 u368 u369 u370 u371 u372 u373 u374 u375 u376 u377 u378 u379 u380 u381 u382 u383 u384 hM hU hB hY h7 hQ
  have HMB : Hid (NB w w5 bT bk b o cT gk ok ck g3 c3 g5 c5 t W key) := hM
  have HU : Hid (U = normL t) := hU
  have H7 : Hid (∀ g, Value.ownBlock (.slice a7 U.length c7) = some g → w5.heap.size ≤ g) := h7
  have HB : Hid (w5.heap.size ≤ B) := hB
  have Y0 : Hid (Below w5.heap.size w5 X) := hY
  have Q0 : Hid (MQ w B 0 False (normL t) U (fun _ => 0) (fun _ => 0) (.slice a7 U.length c7) (2) (.slice (some ⟨gT, 0, none⟩) 2 cT2) ts Ts (8) (.slice (some ⟨gL, 0, none⟩) 8 cL) vs Ls X) := hQ
  have HMK : Hid _ := Make_any (some ⟨g3, 0, none⟩) g3 0 c3 t X (hM.nodes X hY)
  clear hM hU h7 hB hY hQ
  conv => arg 2; whnf
  conv => arg 4; dsimp only
  go_upto_region 23 with fail
  go_cut [28, 29] from 182 to 186 (fun s28 s29 wx => ∃ (G F : Nat → Nat), s29 = .int .i64 (formE t) ∧ (formE t = 0 → s28 = .pointer (some ⟨G 0, 0, none⟩)) ∧ (formE t = 0 → NdsAt wx wx.heap.size (normL t) G F) ∧ Below X.heap.size X wx)
  case first =>
    go_wp2_with fail
    refine Calls.mono HMK.out ?_
    rintro e x1 ⟨hb1, hbad, hok⟩
    have B1 : Hid (Below X.heap.size X x1) := hb1
    by_cases he : formE t = 0
    · obtain ⟨G, F, rfl, -, hnd, -⟩ := hok he
      have HE : Hid (formE t = 0) := he
      have HND : Hid (NdsAt x1 x1.heap.size (normL t) G F) := hnd
      clear hb1 hbad hok he hnd
      go_wp2_with fail
      go_meet
      exact ⟨G, F, by rw [HE.out], fun _ => rfl, fun _ => HND.out, B1.out⟩
    · obtain rfl := hbad he
      have HE : Hid (formE t = 0 → False) := he
      clear hb1 hbad hok he
      go_wp2_with fail
      go_meet
      exact ⟨fun _ => 0, fun _ => 0, rfl, fun q => (HE.out q).elim, fun q => (HE.out q).elim, B1.out⟩
  case rest =>
    rename_i hK
    rename_i s28 s29
    obtain ⟨G, F, rfl, h28, hnd, hb⟩ := hcut
    have M1 := Q0.out.below hb
    refine hK _ _ ?_
    exact next w w5 bT bk b o cT gk ok ck g3 c3 g5 c5 t W key a7 c7 U B gT cT2 gL cL ts vs Ts Ls wc.heap.size G F _ wc _ _ _ _ _ _ _ _ _ _ _ _ _ _ _ _ _ _ _ _ _ _ _ _ _ _ _ _ _ _ _ _ _ _ _ _ _ _ _ _ _ _ _ _ _ _ _ _ _ _ _ _ _ _ _ _ _ _ _ _ _ _ _ _ _ _ _ _ _ _ _ _ _ _ _ _ _ _ _ _ _ _ _ _ _ _ _ _ _ _ _ _ _ _ _ _ _ _ _ _ _ _ _ _ _ _ _ _ _ _ _ _ _ _ _ _ _ _ _ _ _ _ _ _ _ _ _ _ _ _ _ _ _ _ _ _ _ _ _ _ _ _ _ _ _ _ _ _ _ _ _ _ _ _ _ _ _ _ _ _ _ _ _ _ _ _ _ _ _ _ _ _ _ _ _ _ _ _ _ _ _ _ _ _ _ _ _ _ _ _ _ _ _ _ _ _ _ _ _ _ _ _ _ _ _ _ _ _ _ _ _ _ _ _ _ _ _ _ _ _ _ _ _ _ _ _ _ _ _ _ _ _ _ _ _ _ _ _ _ _ _ _ _ _ _ _ _ _ _ _ _ _ _ _ _ _ _ _ _ _ _ _ _ _ _ _ _ _ _ _ _ _ _ _ _ _ _ _ _ _ _ _ _ _ _ _ _ _ _ _ _ _ _ _ _ _ _ _ _ _ _ _ _ _ _ _ _ _ _ _ _ _ _ _ _ _ _ _ _ _ _ _ _ _ _ _ _ _ _ _ _ _ _ _ _ _ _ _ _ _ _ _ _ _ _ _ _ _ _ _ _ _ _ _ _ _ _ _ _ _ _ _ _ _ _ _ _ _ _ _ _ _ _ _ _ _ HMB.out HU.out HB.out (Y0.out.trans (hb.mono Y0.out.size)) h28 H7.out ⟨M1.tb, M1.ls, M1.u, M1.uB, hnd, Nat.le_refl _, M1.bl, M1.wB⟩
end Go.Proofs.Ythdfpddijocfkaa




namespace Go.Proofs.Ythdfpddijocfkaa

open Go.RowKit

attribute [local go_sem ↓] Go.wp_at_zero Go.wp_at_succ

set_option maxRecDepth 100000 in
set_option maxHeartbeats 4000000 in
theorem memat14 (next : MemAt15) : MemAt14 := by
  unfold MemAt14
  intro w w5 bT bk b o cT gk ok ck g3 c3 g5 c5 t W key a7 c7 U B gT cT2 gL cL ts vs Ts Ls NN G F vN X u0 u2 u6 u8 u9 u10 u11 u12 u13 u14 u15 u18 u19 u20 u21 u22 u23 u24 u25 u26 u27 u30 u31 u32 u33 u34 u35 u36 u37 u38 u39 u40 u41 u42 u43 u44 u45 u46 u47 u48 u49 u50 u51 u52 u53 u54 u55 u56 u57 u58 u59 u60 u61 u62 u63 u64 u65 u66 u67 u68 u69 u70 u71 u72 u73 u74 u75 u76 u77 u78 u79 u80 u81 u82 u83 u84 u85 u86 u87 u88 u89 u90 u91 u92 u93 u94 u95 u96 u97 u98 u99 u100 u101 u102 u103 u104 u105 u106 u107 u108 u109 u110 u111 u112 u113 u114 u115 u116 u117 u118 u119 u120 u121 u122 u123 u124 u125 u126 u127 u128 u129 u130 u131 u132 u133 u134 u135 u136 u137 u138 u139 u140 u141 u142 u143 u144 u145 u146 u147 u148 u149 u150 u151 u152 u153 u154 u155 u156 u157 u158 u159 u160 u161 u162 u163 u164 u165 u166 u167 u168 u169 u170 u171 u172 u173 u174 u175 u176 u177 u178 u179 u180 u181 u182 u183 u184 u185 u186 u187 u188 u189 u190 u191 u192 u193 u194 u195 u196 u197 u198 u199 u200 u201 u202 u203 u204 u205 u206 u207 u208 u209 u210 u211 u212 u213 u214 u215 u216 u217 u218 u219 u220 u221 u222 u223 u224 u225 u226 u227 u228 u229 u230 u231 u232 u233 u234 u235 u236 u237 u238 u239 u240 u241 u242 u243 u244 u245 u246 u247 u248 u249 u250 u251 u252 u253 u254 u255 u256 u257 u258 u259 u260 u261 u262 u263 u264 u265 u266 u267 u268 u269 u270 u271 u272 u273 u274 u275 u276 u277 u278 u279 u280 u281 u282 u283 u284 u285 u286 u287 u288 u289 u290 u291 u292 u293 u294 u295 u296 u297 u298 u299 u300 u301 u302 u303 u304 u305 u306 u307 u308 u309 u310 u311 u312 u313 u314 u315 u316 u317 u318 u319 u320 u321 u322 u323 u324 u325 u326 u327 u328 u329 u330 u331 u332 u333 u334 u335 u336 u337 u338 u339 u340 u341 u342 u343 u344 u345 u346 u347 u348 u349 u350 u351 u352 u353 u354 u355 u356 u357 u358 u359 u360 u361 u362 u363 u364 u365 u366 u367 u368 u369 u370 u371 u372 u373 u374 u375 u376 u377 u378 u379 u380 u381 u382 u383 u384 hM hU hB hY hN h7 hQ
  have HMB : Hid (NB w w5 bT bk b o cT gk ok ck g3 c3 g5 c5 t W key) := hM
  have HU : Hid (U = normL t) := hU
  have HN : Hid (formE t = 0 → vN = .pointer (some ⟨G 0, 0, none⟩)) := hN
  have Q0 : Hid (MQ w B NN (formE t = 0) (normL t) U G F (.slice a7 U.length c7) 2 (.slice (some ⟨gT, 0, none⟩) 2 cT2) ts Ts 8 (.slice (some ⟨gL, 0, none⟩) 8 cL) vs Ls X) := hQ
  have H7 : Hid (∀ g, Value.ownBlock (.slice a7 U.length c7) = some g → w5.heap.size ≤ g) := h7
  have HB : Hid (w5.heap.size ≤ B) := hB
  have N3 : Hid (∀ z, Below w5.heap.size w5 z → NodesAt z (some ⟨g3, 0, none⟩) g3 0 t) := hM.nodes
  have S5 : Hid (∀ z, Below w5.heap.size w5 z → WsAt z (some ⟨g5, 0, none⟩) g5 0 W) := hM.ws
  have NT : Hid (∀ z, Below w5.heap.size w5 z → NodesAt z bT b o t) := hM.NT
  have NW : Hid (∀ z, Below w5.heap.size w5 z → WsAt z bk gk ok W) := hM.NW
  have Y0 : Hid (Below w5.heap.size w5 X) := hY
  have hTb := hM.hTb
  have hWb := hM.hWb
  have hc3 := hM.hc3
  have hc5 := hM.hc5
  obtain ⟨e0, e1, e2⟩ := hM.CC X hY
  have lw := (hM.BL X hY).2
  have l3x : g3 < X.heap.size := by have := hM.lt3; have := hY.size; omega
  have l5x : g5 < X.heap.size := by have := hM.lt5; have := hY.size; omega
  have t77 : X.cell? ⟨g3, t.length * 6, none⟩ = some (.int .i64 77) := by
    obtain ⟨g', c', hv, -, -, -, -, hc, -⟩ := owns_some (hM.OT X hY) (by omega)
    injection hv with hv _ _
    injection hv with hv
    injection hv with hv _ _
    subst hv
    rw [hc _ (by omega), ndCells_append, List.getElem?_append_right (by rw [ndCells_length]; omega), ndCells_length]
    simp [ndCells, n77]
  have w77 : X.cell? ⟨g5, W.length, none⟩ = some (.int .i64 77) := by
    obtain ⟨g', c', hv, -, -, -, -, hc, -⟩ := owns_some (hM.OW X hY) (by omega)
    injection hv with hv _ _
    injection hv with hv
    injection hv with hv _ _
    subst hv
    rw [hc _ (by omega), isC_append, List.getElem?_append_right (by rw [isC_length]; omega), isC_length]
    simp [isC]
  have z0 := BelowBy.cell lw e0
  have z1 := BelowBy.cell lw e1
  have z3 := BelowBy.cell l3x t77
  have z5 := BelowBy.cell l5x w77
  have BY : Hid (∀ p : BelowBy X, Below w5.heap.size w5 p.W) := fun p => Y0.out.trans (p.h.mono Y0.out.size)
  have SS : Hid (∀ p : BelowBy X, Calls Try.prog 11 #[.slice (some ⟨g3, 0, none⟩) t.length c3, .slice bT t.length cT] p.W fun e w' => e = .returned (.bool true) ∧ Below p.W.heap.size p.W w') := fun p => by
    have := vSame_any (some ⟨g3, 0, none⟩) bT g3 0 c3 b o cT t t p.W (N3.out _ (BY.out p)) (NT.out _ (BY.out p))
    rw [nlSelf] at this
    exact this
  have SI : Hid (∀ p : BelowBy X, Calls Try.prog 12 #[.slice (some ⟨g5, 0, none⟩) W.length c5, .slice bk W.length ck] p.W fun e w' => e = .returned (.bool true) ∧ Below p.W.heap.size p.W w') := fun p => by
    have := sameInts_any (some ⟨g5, 0, none⟩) bk g5 0 c5 gk ok ck W W p.W (S5.out _ (BY.out p)) (NW.out _ (BY.out p))
    rw [isSelf] at this
    exact this
  have n0 : (0 : Int) ≤ (t.length : Int) := Int.natCast_nonneg _
  have n1 : (t.length : Int) < ((t.length + 1 : Nat) : Int) := by omega
  have n1' : (t.length : Int) < (t.length : Int) + 1 := by omega
  have m0 : (0 : Int) ≤ (W.length : Int) := Int.natCast_nonneg _
  have m1 : (W.length : Int) < ((W.length + 1 : Nat) : Int) := by omega
  have m1' : (W.length : Int) < (W.length : Int) + 1 := by omega
  have m2 : (W.length : Int) ≤ (c5 : Int) := by omega
  clear hM hY e0 e1 e2 t77 w77 N3 NT S5 NW hU hN hQ h7 hB
  conv => arg 2; whnf
  go_wp2_with fail
  refine wp_region_below (by kernel_rfl) (by kernel_rfl) ?_
  repeat (go_big_quiet_step (first | (go_at_call 11; exact below_call (SS.out _)) | (go_at_call 12; exact below_call (SI.out _))))
  refine wpQuiet_nil ?_
  rintro _ ⟨p, rfl⟩
  have PB : Hid (Below w5.heap.size w5 p.W) := BY.out p
  have PQ : Hid (MQ w B NN (formE t = 0) (normL t) U G F (.slice a7 U.length c7) 2 (.slice (some ⟨gT, 0, none⟩) 2 cT2) ts Ts 8 (.slice (some ⟨gL, 0, none⟩) 8 cL) vs Ls p.W) := Q0.out.below p.h
  clear z0 z1 z3 z5 SS SI BY
  generalize p.W = Z at *
  go_upto_if 220 with fail
  go_cut [] from 187 to 220 (fun wx => Below w5.heap.size w5 wx ∧ MQ w B NN (formE t = 0) (normL t) U G F (.slice a7 U.length c7) 2 (.slice (some ⟨gT, 0, none⟩) 2 cT2) ts Ts 8 (.slice (some ⟨gL, 0, none⟩) 8 cL) vs Ls wx)
  case first =>
    go_wp2_with fail
    go_meet
    exact ⟨PB.out, PQ.out⟩
  case rest =>
    rename_i hK
    obtain ⟨c1, c2⟩ := hcut
    refine hK _ _ ?_
    exact next w w5 bT bk b o cT gk ok ck g3 c3 g5 c5 t W key a7 c7 U B gT cT2 gL cL ts vs Ts Ls NN G F vN wc _ _ _ _ _ _ _ _ _ _ _ _ _ _ _ _ _ _ _ _ _ _ _ _ _ _ _ _ _ _ _ _ _ _ _ _ _ _ _ _ _ _ _ _ _ _ _ _ _ _ _ _ _ _ _ _ _ _ _ _ _ _ _ _ _ _ _ _ _ _ _ _ _ _ _ _ _ _ _ _ _ _ _ _ _ _ _ _ _ _ _ _ _ _ _ _ _ _ _ _ _ _ _ _ _ _ _ _ _ _ _ _ _ _ _ _ _ _ _ _ _ _ _ _ _ _ _ _ _ _ _ _ _ _ _ _ _ _ _ _ _ _ _ _ _ _ _ _ _ _ _ _ _ _ _ _ _ _ _ _ _ _ _ _ _ _ _ _ _ _ _ _ _ _ _ _ _ _ _ _ _ _ _ _ _ _ _ _ _ _ _ _ _ _ _ _ _ _ _ _ _ _ _ _ _ _ _ _ _ _ _ _ _ _ _ _ _ _ _ _ _ _ _ _ _ _ _ _ _ _ _ _ _ _ _ _ _ _ _ _ _ _ _ _ _ _ _ _ _ _ _ _ _ _ _ _ _ _ _ _ _ _ _ _ _ _ _ _ _ _ _ _ _ _ _ _ _ _ _ _ _ _ _ _ _ _ _ _ _ _ _ _ _ _ _ _ _ _ _ _ _ _ _ _ _ _ _ _ _ _ _ _ _ _ _ _ _ _ _ _ _ _ _ _ _ _ _ _ _ _ _ _ _ _ _ _ _ _ _ _ _ _ _ _ _ _ _ _ _ _ _ _ _ _ _ _ _ _ _ _ _ _ _ _ _ _ _ _ _ _ _ _ _ _ _ _ _ _ _ HMB.out HU.out HB.out c1 HN.out H7.out c2
end Go.Proofs.Ythdfpddijocfkaa




namespace Go.Proofs.Ythdfpddijocfkaa

open Go.RowKit

attribute [local go_sem ↓] Go.wp_at_zero Go.wp_at_succ

set_option maxRecDepth 100000 in
set_option maxHeartbeats 4000000 in
theorem memat15 (next : MemAt16) : MemAt15 := by
  unfold MemAt15
  intro w w5 bT bk b o cT gk ok ck g3 c3 g5 c5 t W key a7 c7 U B gT cT2 gL cL ts vs Ts Ls NN G F vN X u0 u1 u2 u3 u5 u6 u8 u9 u10 u11 u12 u13 u14 u15 u18 u19 u20 u21 u22 u23 u24 u25 u26 u27 u30 u31 u32 u33 u34 u35 u36 u37 u38 u39 u40 u41 u42 u43 u44 u45 u46 u47 u48 u49 u50 u51 u52 u53 u54 u55 u56 u57 u58 u59 u60 u61 u62 u63 u64 u65 u66 u67 u68 u69 u70 u71 u72 u73 u74 u75 u76 u77 u78 u79 u80 u81 u82 u83 u84 u85 u86 u87 u88 u89 u90 u91 u92 u93 u94 u95 u96 u97 u98 u99 u100 u101 u102 u103 u104 u105 u106 u107 u108 u109 u110 u111 u112 u113 u114 u115 u116 u117 u118 u119 u120 u121 u122 u123 u124 u125 u126 u127 u128 u129 u130 u131 u132 u133 u134 u135 u136 u137 u138 u139 u140 u141 u142 u143 u144 u145 u146 u147 u148 u149 u150 u151 u152 u153 u154 u155 u156 u157 u158 u159 u160 u161 u162 u163 u164 u165 u166 u167 u168 u169 u170 u171 u172 u173 u174 u175 u176 u177 u178 u179 u180 u181 u182 u183 u184 u185 u186 u187 u188 u189 u190 u191 u192 u193 u194 u195 u196 u197 u198 u199 u200 u201 u202 u203 u204 u205 u206 u207 u208 u209 u210 u211 u212 u213 u214 u215 u216 u217 u218 u219 u220 u221 u222 u223 u224 u225 u226 u227 u228 u229 u230 u231 u232 u233 u234 u235 u236 u237 u238 u239 u240 u241 u242 u243 u244 u245 u246 u247 u248 u249 u250 u251 u252 u253 u254 u255 u256 u257 u258 u259 u260 u261 u262 u263 u264 u265 u266 u267 u268 u269 u270 u271 u272 u273 u274 u275 u276 u277 u278 u279 u280 u281 u282 u283 u284 u285 u286 u287 u288 u289 u290 u291 u292 u293 u294 u295 u296 u297 u298 u299 u300 u301 u302 u303 u304 u305 u306 u307 u308 u309 u310 u311 u312 u313 u314 u315 u316 u317 u318 u319 u320 u321 u322 u323 u324 u325 u326 u327 u328 u329 u330 u331 u332 u333 u334 u335 u336 u337 u338 u339 u340 u341 u342 u343 u344 u345 u346 u347 u348 u349 u350 u351 u352 u353 u354 u355 u356 u357 u358 u359 u360 u361 u362 u363 u364 u365 u366 u367 u368 u369 u370 u371 u372 u373 u374 u375 u376 u377 u378 u379 u380 u381 u382 u383 u384 hM hU hB hY hN h7 hQ
  have HMB : Hid (NB w w5 bT bk b o cT gk ok ck g3 c3 g5 c5 t W key) := hM
  have HU : Hid (U = normL t) := hU
  have HN : Hid (formE t = 0 → vN = .pointer (some ⟨G 0, 0, none⟩)) := hN
  have Q0 : Hid (MQ w B NN (formE t = 0) (normL t) U G F (.slice a7 U.length c7) 2 (.slice (some ⟨gT, 0, none⟩) 2 cT2) ts Ts 8 (.slice (some ⟨gL, 0, none⟩) 8 cL) vs Ls X) := hQ
  have O0 : Hid (X.ownsRow w.heap.size 81 6 (.slice (some ⟨g3, 0, none⟩) (t ++ [n77]).length c3) (t ++ [n77]).length (ndCells (t ++ [n77]))) := by
    have := hM.OT X hY
    show World.ownsRow _ _ _ _ _ _ _
    rw [List.length_append]
    exact this
  have H7 : Hid (∀ k, Value.ownBlock (.slice a7 U.length c7) = some k → k ≠ g3) := fun k hk e => by have := h7 k hk; have := hM.lt3; omega
  have l3 : g3 < B := by have := hM.lt3; omega
  have ge : w.heap.size ≤ g3 := (owns_lt (hM.OT X hY) g3 rfl).1
  have hTb := hM.hTb
  have hc3 := hM.hc3
  clear hM hU hN hQ hB hY h7
  conv => arg 2; whnf
  go_upto_block 2 with fail
  go_cut [30] from 221 to 232 (fun s30 wx => MQ w B NN (formE t = 0) (normL t) U G F (.slice a7 U.length c7) 2 (.slice (some ⟨gT, 0, none⟩) 2 cT2) ts Ts 8 (.slice (some ⟨gL, 0, none⟩) 8 cL) vs Ls wx)
  case first =>
    go_wp2_with fail
    go_loopw [30] (fun i wr => ∃ (j : Nat) (Tz : NL), j ≤ t.length ∧ i = .int .i64 j ∧ Tz.length = t.length + 1 ∧ wr.ownsRow w.heap.size 81 6 (.slice (some ⟨g3, 0, none⟩) Tz.length c3) Tz.length (ndCells Tz) ∧ MQ w B NN (formE t = 0) (normL t) U G F (.slice a7 U.length c7) 2 (.slice (some ⟨gT, 0, none⟩) 2 cT2) ts Ts 8 (.slice (some ⟨gL, 0, none⟩) 8 cL) vs Ls wr) (fun i _ => t.length - (intOf i).toNat)
    case atStart => exact ⟨0, _, Nat.zero_le _, rfl, by simp, O0.out, Q0.out⟩
    case round =>
      obtain ⟨j, Tz, hj, rfl, hlen, hown, hm⟩ := hrel
      have M1 : Hid (MQ w B NN (formE t = 0) (normL t) U G F (.slice a7 U.length c7) 2 (.slice (some ⟨gT, 0, none⟩) 2 cT2) ts Ts 8 (.slice (some ⟨gL, 0, none⟩) 8 cL) vs Ls wr) := hm
      have i0 : (0 : Int) ≤ (j : Int) := Int.natCast_nonneg _
      by_cases hjl : j < t.length
      · have i1 : (j : Int) < (t.length : Int) := by omega
        obtain ⟨⟨m0, f0⟩, ⟨m1, f1⟩, ⟨m2, f2⟩, ⟨m3, f3⟩, ⟨m4, f4⟩, m5, f5⟩ := own_cells hown j (by omega)
        have ng : IntKind.i64.wrap (-(j : Int)) = -(j : Int) := wrap_ok _ (by omega) (by omega)
        have hb := own_block hown (g := g3) rfl
        have OW2 : Hid _ := own_six hown j ⟨-(j : Int), 0, 0, 0, 0, 0⟩ (by omega)
        have MW2 : Hid _ := hm.other (gb_six wr g3 j (.int .i64 (-(j : Int))) (.int .i64 0) (.int .i64 0) (.int .i64 0) (.int .i64 0) (.int .i64 0)) l3 H7.out ge hb
        have HL : Hid (Tz.length = t.length + 1) := hlen
        clear hown hm hlen hb
        go_wp2_with fail
        exact ⟨⟨j + 1, Tz.set j ⟨-(j : Int), 0, 0, 0, 0, 0⟩, by omega, by go_num, by rw [List.length_set]; exact HL.out, by rw [List.length_set]; exact OW2.out, MW2.out⟩, by simp [intOf]; omega⟩
      · obtain rfl : j = t.length := by omega
        clear hown hm hlen
        go_wp2_with fail
        go_meet
        exact M1.out
  case rest =>
    rename_i hK
    refine hK _ _ ?_
    exact next w w5 bT bk b o cT gk ok ck g3 c3 g5 c5 t W key a7 c7 U B gT cT2 gL cL ts vs Ts Ls NN G F vN wc _ _ _ _ _ _ _ _ _ _ _ _ _ _ _ _ _ _ _ _ _ _ _ _ _ _ _ _ _ _ _ _ _ _ _ _ _ _ _ _ _ _ _ _ _ _ _ _ _ _ _ _ _ _ _ _ _ _ _ _ _ _ _ _ _ _ _ _ _ _ _ _ _ _ _ _ _ _ _ _ _ _ _ _ _ _ _ _ _ _ _ _ _ _ _ _ _ _ _ _ _ _ _ _ _ _ _ _ _ _ _ _ _ _ _ _ _ _ _ _ _ _ _ _ _ _ _ _ _ _ _ _ _ _ _ _ _ _ _ _ _ _ _ _ _ _ _ _ _ _ _ _ _ _ _ _ _ _ _ _ _ _ _ _ _ _ _ _ _ _ _ _ _ _ _ _ _ _ _ _ _ _ _ _ _ _ _ _ _ _ _ _ _ _ _ _ _ _ _ _ _ _ _ _ _ _ _ _ _ _ _ _ _ _ _ _ _ _ _ _ _ _ _ _ _ _ _ _ _ _ _ _ _ _ _ _ _ _ _ _ _ _ _ _ _ _ _ _ _ _ _ _ _ _ _ _ _ _ _ _ _ _ _ _ _ _ _ _ _ _ _ _ _ _ _ _ _ _ _ _ _ _ _ _ _ _ _ _ _ _ _ _ _ _ _ _ _ _ _ _ _ _ _ _ _ _ _ _ _ _ _ _ _ _ _ _ _ _ _ _ _ _ _ _ _ _ _ _ _ _ _ _ _ _ _ _ _ _ _ _ _ _ _ _ _ _ _ _ _ _ _ _ _ _ _ _ _ _ _ _ _ _ _ _ _ _ _ _ _ _ _ _ _ _ _ _ _ _ _ _ HMB.out HU.out HN.out hcut
end Go.Proofs.Ythdfpddijocfkaa




namespace Go.Proofs.Ythdfpddijocfkaa

open Go.RowKit

attribute [local go_sem ↓] Go.wp_at_zero Go.wp_at_succ

set_option maxRecDepth 100000 in
set_option maxHeartbeats 4000000 in
theorem memat16 (next : MemAt17) : MemAt16 := by
  unfold MemAt16
  intro w w5 bT bk b o cT gk ok ck g3 c3 g5 c5 t W key a7 c7 U B gT cT2 gL cL ts vs Ts Ls NN G F vN X u0 u1 u2 u3 u4 u5 u6 u8 u9 u10 u11 u12 u13 u14 u15 u18 u19 u20 u21 u22 u23 u24 u25 u26 u27 u30 u31 u32 u33 u34 u35 u36 u37 u38 u39 u40 u41 u42 u43 u44 u45 u46 u47 u48 u49 u50 u51 u52 u53 u54 u55 u56 u57 u58 u59 u60 u61 u62 u63 u64 u65 u66 u67 u68 u69 u70 u71 u72 u73 u74 u75 u76 u77 u78 u79 u80 u81 u82 u83 u84 u85 u86 u87 u88 u89 u90 u91 u92 u93 u94 u95 u96 u97 u98 u99 u100 u101 u102 u103 u104 u105 u106 u107 u108 u109 u110 u111 u112 u113 u114 u115 u116 u117 u118 u119 u120 u121 u122 u123 u124 u125 u126 u127 u128 u129 u130 u131 u132 u133 u134 u135 u136 u137 u138 u139 u140 u141 u142 u143 u144 u145 u146 u147 u148 u149 u150 u151 u152 u153 u154 u155 u156 u157 u158 u159 u160 u161 u162 u163 u164 u165 u166 u167 u168 u169 u170 u171 u172 u173 u174 u175 u176 u177 u178 u179 u180 u181 u182 u183 u184 u185 u186 u187 u188 u189 u190 u191 u192 u193 u194 u195 u196 u197 u198 u199 u200 u201 u202 u203 u204 u205 u206 u207 u208 u209 u210 u211 u212 u213 u214 u215 u216 u217 u218 u219 u220 u221 u222 u223 u224 u225 u226 u227 u228 u229 u230 u231 u232 u233 u234 u235 u236 u237 u238 u239 u240 u241 u242 u243 u244 u245 u246 u247 u248 u249 u250 u251 u252 u253 u254 u255 u256 u257 u258 u259 u260 u261 u262 u263 u264 u265 u266 u267 u268 u269 u270 u271 u272 u273 u274 u275 u276 u277 u278 u279 u280 u281 u282 u283 u284 u285 u286 u287 u288 u289 u290 u291 u292 u293 u294 u295 u296 u297 u298 u299 u300 u301 u302 u303 u304 u305 u306 u307 u308 u309 u310 u311 u312 u313 u314 u315 u316 u317 u318 u319 u320 u321 u322 u323 u324 u325 u326 u327 u328 u329 u330 u331 u332 u333 u334 u335 u336 u337 u338 u339 u340 u341 u342 u343 u344 u345 u346 u347 u348 u349 u350 u351 u352 u353 u354 u355 u356 u357 u358 u359 u360 u361 u362 u363 u364 u365 u366 u367 u368 u369 u370 u371 u372 u373 u374 u375 u376 u377 u378 u379 u380 u381 u382 u383 u384 hM hU hN hQ
  have HMB : Hid (NB w w5 bT bk b o cT gk ok ck g3 c3 g5 c5 t W key) := hM
  have HU : Hid (U = normL t) := hU
  have HUL : Hid (U.length ≤ 100000) := by show U.length ≤ 100000; rw [hU]; exact nrm_len t
  have HN : Hid (formE t = 0 → vN = .pointer (some ⟨G 0, 0, none⟩)) := hN
  have Q0 : Hid (MQ w B NN (formE t = 0) (normL t) U G F (.slice a7 U.length c7) 2 (.slice (some ⟨gT, 0, none⟩) 2 cT2) ts Ts 8 (.slice (some ⟨gL, 0, none⟩) 8 cL) vs Ls X) := hQ
  obtain ⟨j0, hj0, hy0, hy1, hy2⟩ := info_parts tt_info
  clear hM hU hN hQ
  conv => arg 2; whnf
  go_upto_if 234 with fail
  go_cut [16, 31, 32] from 233 to 251 (fun s16 s31 s32 wx => ∃ (nT gT' cT' : Nat) (ts' : Nat → Value) (Ts' : Nat → NL), s16 = .slice (some ⟨gT', 0, none⟩) nT cT' ∧ nT ≤ 3 ∧ MQ w B NN (formE t = 0) (normL t) U G F (.slice a7 U.length c7) nT (.slice (some ⟨gT', 0, none⟩) nT cT') ts' Ts' 8 (.slice (some ⟨gL, 0, none⟩) 8 cL) vs Ls wx)
  case first =>
    by_cases he : formE t = 0
    · have HE : Hid (formE t = 0) := he
      have d0 : (formE t == 0) = true := by simp [he]
      have hvN := HN.out he
      have RR : Hid _ := ReadN HE.out X.heap.size G F X (Nat.le_refl _) ((Q0.out.nd HE.out).mono Q0.out.lN)
      rw [← hvN] at RR
      clear he HN hvN
      go_wp2_with fail
      refine Calls.mono RR.out ?_
      rintro e x1 ⟨v1, rfl, ho1, hb1⟩
      rw [← HU.out] at ho1
      obtain ⟨a1, c1, g1, rfl, -, -, hn1⟩ := nodes_of_owns ho1
      have N1 : Hid (NodesAt x1 a1 g1 0 U) := hn1
      have O1 : Hid (x1.ownsRow X.heap.size 81 6 (.slice a1 U.length c1) U.length (ndCells U)) := ho1
      have B1 : Hid (Below X.heap.size X x1) := hb1
      have Q1 : Hid (MQ w B NN (formE t = 0) (normL t) U G F (.slice a7 U.length c7) 2 (.slice (some ⟨gT, 0, none⟩) 2 cT2) ts Ts 8 (.slice (some ⟨gL, 0, none⟩) 8 cL) vs Ls x1) := Q0.out.below hb1
      obtain ⟨z1a, z1c, z1g, z1e, -, -, hz1⟩ := nodes_of_owns Q1.out.u
      injection z1e with za1 _ zc1
      subst za1 zc1
      have V1 : Hid (NodesAt x1 a7 z1g 0 U) := hz1
      clear ho1 hn1 hb1 hz1
      go_wp2_with fail
      refine (vSame_any a1 a7 g1 0 c1 z1g 0 c7 U U _ N1.out V1.out).mono ?_
      rintro e x2 ⟨rfl, hb2⟩
      rw [nlSelf]
      have B2 : Hid (Below X.heap.size X x2) := B1.out.trans (hb2.mono B1.out.size)
      have O2 : Hid (x2.ownsRow X.heap.size 81 6 (.slice a1 U.length c1) U.length (ndCells U)) := owns_below O1.out hb2
      have TP : Hid (x2.ownsRow B 22 1 (.slice (some ⟨gT, 0, none⟩) 2 cT2) 2 ((List.range 2).map ts)) := (Q0.out.below B2.out).tb.top
      have lB : B ≤ X.heap.size := by have := (Q0.out.tb.top_at 0 (by omega)).2; have := (owns_lt Q0.out.tb.top gT rfl).1; omega
      have lx : X.heap.size ≤ x2.heap.size := B2.out.size
      have HP : Hid (∀ (g11 c11 : Nat) (w11 : World) (ob : Obj), w11.ownsRow B 22 1 (.slice (some ⟨g11, 0, none⟩) (2 + 1) c11) (2 + 1) ((List.range 2).map ts ++ [.slice a1 U.length c1]) → (x2.alloc ob).grownBy w11 (Value.ownBlock (.slice (some ⟨gT, 0, none⟩) 2 cT2)) → (Value.ownBlock (.slice (some ⟨gT, 0, none⟩) 2 cT2) = some g11 ∨ g11 = x2.heap.size + 1) → ∃ (ts' : Nat → Value) (Ts' : Nat → NL), MQ w B NN (formE t = 0) (normL t) U G F (.slice a7 U.length c7) 3 (.slice (some ⟨g11, 0, none⟩) 3 c11) ts' Ts' 8 (.slice (some ⟨gL, 0, none⟩) 8 cL) vs Ls w11) := fun g11 c11 w11 ob ho hg hat => by
        refine ⟨_, _, Q0.out.pushT B2.out (owns_down O2.out lB) (fun g h => (owns_lt O2.out g h).1) HUL.out hg ho (fun g h => ?_)⟩
        have e : g11 = g := by simpa [Value.ownBlock] using h
        subst e
        rcases hat with q | q
        · exact Or.inl q
        · exact Or.inr (by omega)
      clear hb2 B1 O1 N1 V1 Q1
      go_wp2_with (first | (at_builtin; have hqq := TP; (refine wpList_append_lies _ (by rfl) _ _ _ (by rfl) B 22 j0 _ 1 24 tt_under hj0 hy0 hy1 hy2 rfl (by omega) _ 2 _ (by rfl) (TP.out.alloc _) ⟨x2.heap.size, 0, none⟩ 1 1 [.slice a1 U.length c1] (by rfl) (by rfl) (World.news_of_block (cs := #[.slice a1 U.length c1]) (t := 22) (fr := (0, 0)) (heap_alloc_at _ _ _ (by simp))) (by simp [Value.oneCell']) (by omega) (by unfold maxLen; omega) (by omega) (by simp; omega) (x2.heap.size + 1) (by simp) ?_); intro g11 c11 w11 ho hg hat hl; have LP : Hid _ := HP.out g11 c11 w11 _ ho hg hat; clear ho hg hat hl hqq))
      go_meet
      obtain ⟨ts', Ts', lp⟩ := LP.out
      exact ⟨3, g11, c11, ts', Ts', rfl, by omega, lp⟩
    · have d0 : (formE t == 0) = false := by simp [he]
      clear he HN
      go_wp2_with fail
      go_meet
      exact ⟨2, gT, cT2, ts, Ts, rfl, by omega, Q0.out⟩
  case rest =>
    rename_i hK
    obtain ⟨nT, gT', cT', ts', Ts', rfl, hn, R1⟩ := hcut
    refine hK _ _ ?_
    exact next w w5 bT bk b o cT gk ok ck g3 c3 g5 c5 t W key a7 c7 U B gT' cT' gL cL ts' vs Ts' Ls NN G F vN nT wc _ _ _ _ _ _ _ _ _ _ _ _ _ _ _ _ _ _ _ _ _ _ _ _ _ _ _ _ _ _ _ _ _ _ _ _ _ _ _ _ _ _ _ _ _ _ _ _ _ _ _ _ _ _ _ _ _ _ _ _ _ _ _ _ _ _ _ _ _ _ _ _ _ _ _ _ _ _ _ _ _ _ _ _ _ _ _ _ _ _ _ _ _ _ _ _ _ _ _ _ _ _ _ _ _ _ _ _ _ _ _ _ _ _ _ _ _ _ _ _ _ _ _ _ _ _ _ _ _ _ _ _ _ _ _ _ _ _ _ _ _ _ _ _ _ _ _ _ _ _ _ _ _ _ _ _ _ _ _ _ _ _ _ _ _ _ _ _ _ _ _ _ _ _ _ _ _ _ _ _ _ _ _ _ _ _ _ _ _ _ _ _ _ _ _ _ _ _ _ _ _ _ _ _ _ _ _ _ _ _ _ _ _ _ _ _ _ _ _ _ _ _ _ _ _ _ _ _ _ _ _ _ _ _ _ _ _ _ _ _ _ _ _ _ _ _ _ _ _ _ _ _ _ _ _ _ _ _ _ _ _ _ _ _ _ _ _ _ _ _ _ _ _ _ _ _ _ _ _ _ _ _ _ _ _ _ _ _ _ _ _ _ _ _ _ _ _ _ _ _ _ _ _ _ _ _ _ _ _ _ _ _ _ _ _ _ _ _ _ _ _ _ _ _ _ _ _ _ _ _ _ _ _ _ _ _ _ _ _ _ _ _ _ _ _ _ _ _ _ _ _ _ _ _ _ _ _ _ _ _ _ _ _ _ _ _ _ _ _ _ _ _ _ _ _ _ _ _ _ _ HMB.out HU.out HN.out hn R1
end Go.Proofs.Ythdfpddijocfkaa




namespace Go.Proofs.Ythdfpddijocfkaa

open Go.RowKit

attribute [local go_sem ↓] Go.wp_at_zero Go.wp_at_succ

set_option maxRecDepth 100000 in
set_option maxHeartbeats 4000000 in
theorem memat17 (next : MemAt18) : MemAt17 := by
  unfold MemAt17
  intro w w5 bT bk b o cT gk ok ck g3 c3 g5 c5 t W key a7 c7 U B gT cT2 gL cL ts vs Ts Ls NN G F vN nT X u0 u1 u2 u3 u4 u5 u6 u8 u9 u10 u11 u12 u13 u14 u15 u18 u19 u20 u21 u22 u23 u24 u25 u26 u27 u30 u31 u32 u33 u34 u35 u36 u37 u38 u39 u40 u41 u42 u43 u44 u45 u46 u47 u48 u49 u50 u51 u52 u53 u54 u55 u56 u57 u58 u59 u60 u61 u62 u63 u64 u65 u66 u67 u68 u69 u70 u71 u72 u73 u74 u75 u76 u77 u78 u79 u80 u81 u82 u83 u84 u85 u86 u87 u88 u89 u90 u91 u92 u93 u94 u95 u96 u97 u98 u99 u100 u101 u102 u103 u104 u105 u106 u107 u108 u109 u110 u111 u112 u113 u114 u115 u116 u117 u118 u119 u120 u121 u122 u123 u124 u125 u126 u127 u128 u129 u130 u131 u132 u133 u134 u135 u136 u137 u138 u139 u140 u141 u142 u143 u144 u145 u146 u147 u148 u149 u150 u151 u152 u153 u154 u155 u156 u157 u158 u159 u160 u161 u162 u163 u164 u165 u166 u167 u168 u169 u170 u171 u172 u173 u174 u175 u176 u177 u178 u179 u180 u181 u182 u183 u184 u185 u186 u187 u188 u189 u190 u191 u192 u193 u194 u195 u196 u197 u198 u199 u200 u201 u202 u203 u204 u205 u206 u207 u208 u209 u210 u211 u212 u213 u214 u215 u216 u217 u218 u219 u220 u221 u222 u223 u224 u225 u226 u227 u228 u229 u230 u231 u232 u233 u234 u235 u236 u237 u238 u239 u240 u241 u242 u243 u244 u245 u246 u247 u248 u249 u250 u251 u252 u253 u254 u255 u256 u257 u258 u259 u260 u261 u262 u263 u264 u265 u266 u267 u268 u269 u270 u271 u272 u273 u274 u275 u276 u277 u278 u279 u280 u281 u282 u283 u284 u285 u286 u287 u288 u289 u290 u291 u292 u293 u294 u295 u296 u297 u298 u299 u300 u301 u302 u303 u304 u305 u306 u307 u308 u309 u310 u311 u312 u313 u314 u315 u316 u317 u318 u319 u320 u321 u322 u323 u324 u325 u326 u327 u328 u329 u330 u331 u332 u333 u334 u335 u336 u337 u338 u339 u340 u341 u342 u343 u344 u345 u346 u347 u348 u349 u350 u351 u352 u353 u354 u355 u356 u357 u358 u359 u360 u361 u362 u363 u364 u365 u366 u367 u368 u369 u370 u371 u372 u373 u374 u375 u376 u377 u378 u379 u380 u381 u382 u383 u384 hM hU hN hn hQ
  have HMB : Hid (NB w w5 bT bk b o cT gk ok ck g3 c3 g5 c5 t W key) := hM
  have HU : Hid (U = normL t) := hU
  have HN : Hid (formE t = 0 → vN = .pointer (some ⟨G 0, 0, none⟩)) := hN
  have Q0 : Hid (MQ w B NN (formE t = 0) (normL t) U G F (.slice a7 U.length c7) nT (.slice (some ⟨gT, 0, none⟩) nT cT2) ts Ts 8 (.slice (some ⟨gL, 0, none⟩) 8 cL) vs Ls X) := hQ
  clear hM hU hN hQ
  conv => arg 2; whnf
  go_upto_block 4 with fail
  go_cut [33] from 252 to 277 (fun s33 wx => ∃ Ls' : Nat → NL, MQ w B NN (formE t = 0) (normL t) U G F (.slice a7 U.length c7) nT (.slice (some ⟨gT, 0, none⟩) nT cT2) ts Ls' 8 (.slice (some ⟨gL, 0, none⟩) 8 cL) vs Ls wx ∧ ∀ q', q' < nT → ∀ pz, pz < (Ls' q').length → (ndAt (Ls' q') pz).key = 200000 * (q' : Int) + pz)
  case first =>
    go_wp2_with fail
    go_loopw [33] (fun i wr => ∃ (q : Nat) (Ls' : Nat → NL), q ≤ nT ∧ i = .int .i64 q ∧ MQ w B NN (formE t = 0) (normL t) U G F (.slice a7 U.length c7) nT (.slice (some ⟨gT, 0, none⟩) nT cT2) ts Ls' 8 (.slice (some ⟨gL, 0, none⟩) 8 cL) vs Ls wr ∧ ∀ q', q' < q → ∀ pz, pz < (Ls' q').length → (ndAt (Ls' q') pz).key = 200000 * (q' : Int) + pz) (fun i _ => nT - (intOf i).toNat)
    case atStart => exact ⟨0, Ts, by omega, rfl, Q0.out, fun q hq => by omega⟩
    case round =>
      obtain ⟨q, Ls1, hq, rfl, hm, hall⟩ := hrel
      by_cases hqn : q < nT
      · have dq : decide ((q : Int) < (nT : Int)) = true := decide_eq_true (by omega)
        have q0' : (0 : Int) ≤ (q : Int) := Int.natCast_nonneg _
        have q1' : (q : Int) < (nT : Int) := by omega
        have M1 : Hid (MQ w B NN (formE t = 0) (normL t) U G F (.slice a7 U.length c7) nT (.slice (some ⟨gT, 0, none⟩) nT cT2) ts Ls1 8 (.slice (some ⟨gL, 0, none⟩) 8 cL) vs Ls wr) := hm
        have HAL : Hid (∀ q', q' < q → ∀ pz, pz < (Ls1 q').length → (ndAt (Ls1 q') pz).key = 200000 * (q' : Int) + pz) := hall
        obtain ⟨va, vc, hv, hsm, hsome⟩ := hm.rowT hqn
        have HSM : Hid (0 < (Ls1 q).length → ∃ g, va = some ⟨g, 0, none⟩) := hsome
        have HVQ : Hid (ts q = .slice va (Ls1 q).length vc) := hv
        clear hm hall hv hsome
        generalize wr = X1 at *
        go_upto_block 5 with fail
        go_cut [34] from 252 to 277 (fun s34 wx => ∃ Ls' : Nat → NL, MQ w B NN (formE t = 0) (normL t) U G F (.slice a7 U.length c7) nT (.slice (some ⟨gT, 0, none⟩) nT cT2) ts Ls' 8 (.slice (some ⟨gL, 0, none⟩) 8 cL) vs Ls wx ∧ ∀ q', q' < q + 1 → ∀ pz, pz < (Ls' q').length → (ndAt (Ls' q') pz).key = 200000 * (q' : Int) + pz)
        case first =>
          go_wp2_with fail
          go_loopw [34] (fun i wr => ∃ (p : Nat) (Ls' : Nat → NL), p ≤ (Ls1 q).length ∧ i = .int .i64 p ∧ (Ls' q).length = (Ls1 q).length ∧ MQ w B NN (formE t = 0) (normL t) U G F (.slice a7 U.length c7) nT (.slice (some ⟨gT, 0, none⟩) nT cT2) ts Ls' 8 (.slice (some ⟨gL, 0, none⟩) 8 cL) vs Ls wr ∧ (∀ q', q' < q → ∀ pz, pz < (Ls' q').length → (ndAt (Ls' q') pz).key = 200000 * (q' : Int) + pz) ∧ (∀ p', p' < p → (ndAt (Ls' q) p').key = 200000 * (q : Int) + p')) (fun i _ => (Ls1 q).length - (intOf i).toNat)
          case atStart => exact ⟨0, Ls1, Nat.zero_le _, rfl, rfl, M1.out, HAL.out, fun p hp => by omega⟩
          case round =>
            obtain ⟨p, Ls2, hp, rfl, hlen, hm2, hall, hpre⟩ := hrel
            have HM2 : Hid (MQ w B NN (formE t = 0) (normL t) U G F (.slice a7 U.length c7) nT (.slice (some ⟨gT, 0, none⟩) nT cT2) ts Ls2 8 (.slice (some ⟨gL, 0, none⟩) 8 cL) vs Ls wr) := hm2
            obtain ⟨r0, gl⟩ := hm2.tb.top_at q hqn
            rw [HVQ.out] at r0
            have p0 : (0 : Int) ≤ (p : Int) := Int.natCast_nonneg _
            by_cases hpl : p < (Ls1 q).length
            · obtain ⟨g2, rfl⟩ := HSM.out (by omega)
              have HV2 : Hid (ts q = .slice (some ⟨g2, 0, none⟩) (Ls2 q).length vc) := by show _ = _; rw [hlen]; exact HVQ.out
              obtain ⟨⟨m0, f0⟩, ⟨m1, f1⟩, ⟨m2, f2⟩, ⟨m3, f3⟩, ⟨m4, f4⟩, m5, f5⟩ := HM2.out.cellT hqn HV2.out p (by have := hlen; omega)
              have p1 : (p : Int) < ((Ls1 q).length : Int) := by omega
              have HPUT : Hid _ := HM2.out.putT hqn HV2.out p (by have := hlen; omega) ⟨200000 * (q : Int) + p, 0, 0, 0, 0, 0⟩
              have HN1 : Hid (∀ q', q' < q → ∀ pz, pz < ((updN Ls2 q ((Ls2 q).set p ⟨200000 * (q : Int) + p, 0, 0, 0, 0, 0⟩)) q').length → (ndAt ((updN Ls2 q ((Ls2 q).set p ⟨200000 * (q : Int) + p, 0, 0, 0, 0, 0⟩)) q') pz).key = 200000 * (q' : Int) + pz) := fun q' h' p' h'' => by
                have ne : q' ≠ q := by omega
                rw [updN_ne _ _ ne] at h'' ⊢
                exact hall q' h' p' h''
              have HN2 : Hid (∀ p', p' < p + 1 → (ndAt ((updN Ls2 q ((Ls2 q).set p ⟨200000 * (q : Int) + p, 0, 0, 0, 0, 0⟩)) q) p').key = 200000 * (q : Int) + p') := fun p' h' => by
                rw [updN_at, key_set (by omega)]
                by_cases e : p' = p
                · subst e; rw [if_pos rfl]
                · rw [if_neg e]; exact hpre p' (by omega)
              have HN3 : Hid (((updN Ls2 q ((Ls2 q).set p ⟨200000 * (q : Int) + p, 0, 0, 0, 0, 0⟩)) q).length = (Ls1 q).length) := by
                show _ = _
                rw [updN_at, List.length_set]
                exact hlen
              have ea : IntKind.i64.wrap (200000 * (q : Int)) = 200000 * (q : Int) := wrap_ok _ (by omega) (by omega)
              have eb : IntKind.i64.wrap (200000 * (q : Int) + (p : Int)) = 200000 * (q : Int) + (p : Int) := wrap_ok _ (by omega) (by omega)
              clear hm2 hall hpre hlen
              go_wp2_with fail
              exact ⟨⟨p + 1, updN Ls2 q ((Ls2 q).set p ⟨200000 * (q : Int) + p, 0, 0, 0, 0, 0⟩), by omega, by go_num, HN3.out, HPUT.out, HN1.out, HN2.out⟩, by simp [intOf]; omega⟩
            · obtain rfl : p = (Ls1 q).length := by omega
              have RES : Hid (∃ Ls' : Nat → NL, MQ w B NN (formE t = 0) (normL t) U G F (.slice a7 U.length c7) nT (.slice (some ⟨gT, 0, none⟩) nT cT2) ts Ls' 8 (.slice (some ⟨gL, 0, none⟩) 8 cL) vs Ls wr ∧ ∀ q', q' < q + 1 → ∀ pz, pz < (Ls' q').length → (ndAt (Ls' q') pz).key = 200000 * (q' : Int) + pz) := ⟨Ls2, hm2, fun q' h' p' h'' => by
                by_cases e : q' = q
                · subst e; exact hpre p' (by omega)
                · exact hall q' (by omega) p' h''⟩
              clear hm2 hall hpre hlen
              go_wp2_with fail
              go_meet
              exact RES.out
        case rest =>
          obtain ⟨Ls3, hL3, hall3⟩ := hcut
          have R3 : Hid (MQ w B NN (formE t = 0) (normL t) U G F (.slice a7 U.length c7) nT (.slice (some ⟨gT, 0, none⟩) nT cT2) ts Ls3 8 (.slice (some ⟨gL, 0, none⟩) 8 cL) vs Ls wc) := hL3
          have R4 : Hid (∀ q', q' < q + 1 → ∀ pz, pz < (Ls3 q').length → (ndAt (Ls3 q') pz).key = 200000 * (q' : Int) + pz) := hall3
          clear hL3 hall3
          go_wp2_with fail
          exact ⟨⟨q + 1, Ls3, by omega, by go_num, R3.out, R4.out⟩, by simp [intOf]; omega⟩
      · obtain rfl : nT = q := by omega
        have RES : Hid (∃ Ls' : Nat → NL, MQ w B NN (formE t = 0) (normL t) U G F (.slice a7 U.length c7) nT (.slice (some ⟨gT, 0, none⟩) nT cT2) ts Ls' 8 (.slice (some ⟨gL, 0, none⟩) 8 cL) vs Ls wr ∧ ∀ q', q' < nT → ∀ pz, pz < (Ls' q').length → (ndAt (Ls' q') pz).key = 200000 * (q' : Int) + pz) := ⟨Ls1, hm, hall⟩
        clear hm hall
        go_wp2_with fail
        go_meet
        exact RES.out
  case rest =>
    rename_i hK
    obtain ⟨Ls3, R1, R2⟩ := hcut
    refine hK _ _ ?_
    exact next w w5 bT bk b o cT gk ok ck g3 c3 g5 c5 t W key a7 c7 U B gT cT2 gL cL ts vs Ls3 Ls NN G F vN nT wc _ _ _ _ _ _ _ _ _ _ _ _ _ _ _ _ _ _ _ _ _ _ _ _ _ _ _ _ _ _ _ _ _ _ _ _ _ _ _ _ _ _ _ _ _ _ _ _ _ _ _ _ _ _ _ _ _ _ _ _ _ _ _ _ _ _ _ _ _ _ _ _ _ _ _ _ _ _ _ _ _ _ _ _ _ _ _ _ _ _ _ _ _ _ _ _ _ _ _ _ _ _ _ _ _ _ _ _ _ _ _ _ _ _ _ _ _ _ _ _ _ _ _ _ _ _ _ _ _ _ _ _ _ _ _ _ _ _ _ _ _ _ _ _ _ _ _ _ _ _ _ _ _ _ _ _ _ _ _ _ _ _ _ _ _ _ _ _ _ _ _ _ _ _ _ _ _ _ _ _ _ _ _ _ _ _ _ _ _ _ _ _ _ _ _ _ _ _ _ _ _ _ _ _ _ _ _ _ _ _ _ _ _ _ _ _ _ _ _ _ _ _ _ _ _ _ _ _ _ _ _ _ _ _ _ _ _ _ _ _ _ _ _ _ _ _ _ _ _ _ _ _ _ _ _ _ _ _ _ _ _ _ _ _ _ _ _ _ _ _ _ _ _ _ _ _ _ _ _ _ _ _ _ _ _ _ _ _ _ _ _ _ _ _ _ _ _ _ _ _ _ _ _ _ _ _ _ _ _ _ _ _ _ _ _ _ _ _ _ _ _ _ _ _ _ _ _ _ _ _ _ _ _ _ _ _ _ _ _ _ _ _ _ _ _ _ _ _ _ _ _ _ _ _ _ _ _ _ _ _ _ _ _ _ _ _ _ _ _ _ _ _ _ _ _ _ _ _ _ _ HMB.out HU.out HN.out hn R1 R2
end Go.Proofs.Ythdfpddijocfkaa




namespace Go.Proofs.Ythdfpddijocfkaa

open Go.RowKit

attribute [local go_sem ↓] Go.wp_at_zero Go.wp_at_succ

set_option maxRecDepth 100000 in
set_option maxHeartbeats 4000000 in
theorem memat18 (next : MemAt19) : MemAt18 := by
  unfold MemAt18
  intro w w5 bT bk b o cT gk ok ck g3 c3 g5 c5 t W key a7 c7 U B gT cT2 gL cL ts vs Ts Ls NN G F vN nT X u0 u1 u2 u3 u4 u5 u6 u8 u9 u10 u11 u12 u13 u14 u15 u18 u19 u20 u21 u22 u23 u24 u25 u26 u27 u30 u31 u32 u33 u34 u35 u36 u37 u38 u39 u40 u41 u42 u43 u44 u45 u46 u47 u48 u49 u50 u51 u52 u53 u54 u55 u56 u57 u58 u59 u60 u61 u62 u63 u64 u65 u66 u67 u68 u69 u70 u71 u72 u73 u74 u75 u76 u77 u78 u79 u80 u81 u82 u83 u84 u85 u86 u87 u88 u89 u90 u91 u92 u93 u94 u95 u96 u97 u98 u99 u100 u101 u102 u103 u104 u105 u106 u107 u108 u109 u110 u111 u112 u113 u114 u115 u116 u117 u118 u119 u120 u121 u122 u123 u124 u125 u126 u127 u128 u129 u130 u131 u132 u133 u134 u135 u136 u137 u138 u139 u140 u141 u142 u143 u144 u145 u146 u147 u148 u149 u150 u151 u152 u153 u154 u155 u156 u157 u158 u159 u160 u161 u162 u163 u164 u165 u166 u167 u168 u169 u170 u171 u172 u173 u174 u175 u176 u177 u178 u179 u180 u181 u182 u183 u184 u185 u186 u187 u188 u189 u190 u191 u192 u193 u194 u195 u196 u197 u198 u199 u200 u201 u202 u203 u204 u205 u206 u207 u208 u209 u210 u211 u212 u213 u214 u215 u216 u217 u218 u219 u220 u221 u222 u223 u224 u225 u226 u227 u228 u229 u230 u231 u232 u233 u234 u235 u236 u237 u238 u239 u240 u241 u242 u243 u244 u245 u246 u247 u248 u249 u250 u251 u252 u253 u254 u255 u256 u257 u258 u259 u260 u261 u262 u263 u264 u265 u266 u267 u268 u269 u270 u271 u272 u273 u274 u275 u276 u277 u278 u279 u280 u281 u282 u283 u284 u285 u286 u287 u288 u289 u290 u291 u292 u293 u294 u295 u296 u297 u298 u299 u300 u301 u302 u303 u304 u305 u306 u307 u308 u309 u310 u311 u312 u313 u314 u315 u316 u317 u318 u319 u320 u321 u322 u323 u324 u325 u326 u327 u328 u329 u330 u331 u332 u333 u334 u335 u336 u337 u338 u339 u340 u341 u342 u343 u344 u345 u346 u347 u348 u349 u350 u351 u352 u353 u354 u355 u356 u357 u358 u359 u360 u361 u362 u363 u364 u365 u366 u367 u368 u369 u370 u371 u372 u373 u374 u375 u376 u377 u378 u379 u380 u381 u382 u383 u384 hM hU hN hn hQ hA
  have HMB : Hid (NB w w5 bT bk b o cT gk ok ck g3 c3 g5 c5 t W key) := hM
  have HU : Hid (U = normL t) := hU
  have HN : Hid (formE t = 0 → vN = .pointer (some ⟨G 0, 0, none⟩)) := hN
  have Q0 : Hid (MQ w B NN (formE t = 0) (normL t) U G F (.slice a7 U.length c7) nT (.slice (some ⟨gT, 0, none⟩) nT cT2) ts Ts 8 (.slice (some ⟨gL, 0, none⟩) 8 cL) vs Ls X) := hQ
  have HA : Hid (∀ q, q < nT → ∀ p, p < (Ts q).length → (ndAt (Ts q) p).key = 200000 * (q : Int) + p) := hA
  clear hM hU hN hQ hA
  conv => arg 2; whnf
  go_upto_block 8 with fail
  go_cut [35] from 278 to 302 (fun s35 wx => ∃ Ls' : Nat → List Int, MQ w B NN (formE t = 0) (normL t) U G F (.slice a7 U.length c7) nT (.slice (some ⟨gT, 0, none⟩) nT cT2) ts Ts 8 (.slice (some ⟨gL, 0, none⟩) 8 cL) vs Ls' wx ∧ ∀ q', q' < 8 → ∀ pz, pz < (Ls' q').length → (Ls' q').getD pz 0 = 400000 * (q' : Int) + pz)
  case first =>
    go_wp2_with fail
    go_loopw [35] (fun i wr => ∃ (q : Nat) (Ls' : Nat → List Int), q ≤ 8 ∧ i = .int .i64 q ∧ MQ w B NN (formE t = 0) (normL t) U G F (.slice a7 U.length c7) nT (.slice (some ⟨gT, 0, none⟩) nT cT2) ts Ts 8 (.slice (some ⟨gL, 0, none⟩) 8 cL) vs Ls' wr ∧ ∀ q', q' < q → ∀ pz, pz < (Ls' q').length → (Ls' q').getD pz 0 = 400000 * (q' : Int) + pz) (fun i _ => 8 - (intOf i).toNat)
    case atStart => exact ⟨0, Ls, by omega, rfl, Q0.out, fun q hq => by omega⟩
    case round =>
      obtain ⟨q, Ls1, hq, rfl, hm, hall⟩ := hrel
      by_cases hqn : q < 8
      · have dq : decide ((q : Int) < (8 : Int)) = true := decide_eq_true (by omega)
        have q0' : (0 : Int) ≤ (q : Int) := Int.natCast_nonneg _
        have q1' : (q : Int) < (8 : Int) := by omega
        have M1 : Hid (MQ w B NN (formE t = 0) (normL t) U G F (.slice a7 U.length c7) nT (.slice (some ⟨gT, 0, none⟩) nT cT2) ts Ts 8 (.slice (some ⟨gL, 0, none⟩) 8 cL) vs Ls1 wr) := hm
        have HAL : Hid (∀ q', q' < q → ∀ pz, pz < (Ls1 q').length → (Ls1 q').getD pz 0 = 400000 * (q' : Int) + pz) := hall
        obtain ⟨va, vc, hv, hsm, hsome⟩ := hm.rowL hqn
        have HSM : Hid (0 < (Ls1 q).length → ∃ g, va = some ⟨g, 0, none⟩) := hsome
        have HVQ : Hid (vs q = .slice va (Ls1 q).length vc) := hv
        clear hm hall hv hsome
        generalize wr = X1 at *
        go_upto_block 9 with fail
        go_cut [36] from 278 to 302 (fun s36 wx => ∃ Ls' : Nat → List Int, MQ w B NN (formE t = 0) (normL t) U G F (.slice a7 U.length c7) nT (.slice (some ⟨gT, 0, none⟩) nT cT2) ts Ts 8 (.slice (some ⟨gL, 0, none⟩) 8 cL) vs Ls' wx ∧ ∀ q', q' < q + 1 → ∀ pz, pz < (Ls' q').length → (Ls' q').getD pz 0 = 400000 * (q' : Int) + pz)
        case first =>
          go_wp2_with fail
          go_loopw [36] (fun i wr => ∃ (p : Nat) (Ls' : Nat → List Int), p ≤ (Ls1 q).length ∧ i = .int .i64 p ∧ (Ls' q).length = (Ls1 q).length ∧ MQ w B NN (formE t = 0) (normL t) U G F (.slice a7 U.length c7) nT (.slice (some ⟨gT, 0, none⟩) nT cT2) ts Ts 8 (.slice (some ⟨gL, 0, none⟩) 8 cL) vs Ls' wr ∧ (∀ q', q' < q → ∀ pz, pz < (Ls' q').length → (Ls' q').getD pz 0 = 400000 * (q' : Int) + pz) ∧ (∀ p', p' < p → (Ls' q).getD p' 0 = 400000 * (q : Int) + p')) (fun i _ => (Ls1 q).length - (intOf i).toNat)
          case atStart => exact ⟨0, Ls1, Nat.zero_le _, rfl, rfl, M1.out, HAL.out, fun p hp => by omega⟩
          case round =>
            obtain ⟨p, Ls2, hp, rfl, hlen, hm2, hall, hpre⟩ := hrel
            have HM2 : Hid (MQ w B NN (formE t = 0) (normL t) U G F (.slice a7 U.length c7) nT (.slice (some ⟨gT, 0, none⟩) nT cT2) ts Ts 8 (.slice (some ⟨gL, 0, none⟩) 8 cL) vs Ls2 wr) := hm2
            obtain ⟨r0, gl⟩ := hm2.ls.top_at q hqn
            rw [HVQ.out] at r0
            have p0 : (0 : Int) ≤ (p : Int) := Int.natCast_nonneg _
            by_cases hpl : p < (Ls1 q).length
            · obtain ⟨g2, rfl⟩ := HSM.out (by omega)
              have HV2 : Hid (vs q = .slice (some ⟨g2, 0, none⟩) (Ls2 q).length vc) := by show _ = _; rw [hlen]; exact HVQ.out
              obtain ⟨m1, f1⟩ := HM2.out.cellL hqn HV2.out p (by have := hlen; omega)
              have p1 : (p : Int) < ((Ls1 q).length : Int) := by omega
              have HPUT : Hid _ := HM2.out.putL hqn HV2.out p (400000 * (q : Int) + p)
              have HN1 : Hid (∀ q', q' < q → ∀ pz, pz < ((updN Ls2 q ((Ls2 q).set p (400000 * (q : Int) + p))) q').length → ((updN Ls2 q ((Ls2 q).set p (400000 * (q : Int) + p))) q').getD pz 0 = 400000 * (q' : Int) + pz) := fun q' h' p' h'' => by
                have ne : q' ≠ q := by omega
                rw [updN_ne _ _ ne] at h'' ⊢
                exact hall q' h' p' h''
              have HN2 : Hid (∀ p', p' < p + 1 → ((updN Ls2 q ((Ls2 q).set p (400000 * (q : Int) + p))) q).getD p' 0 = 400000 * (q : Int) + p') := fun p' h' => by
                rw [updN_at, int_set (by omega)]
                by_cases e : p' = p
                · subst e; rw [if_pos rfl]
                · rw [if_neg e]; exact hpre p' (by omega)
              have HN3 : Hid (((updN Ls2 q ((Ls2 q).set p (400000 * (q : Int) + p))) q).length = (Ls1 q).length) := by
                show _ = _
                rw [updN_at, List.length_set]
                exact hlen
              have ea : IntKind.i64.wrap (400000 * (q : Int)) = 400000 * (q : Int) := wrap_ok _ (by omega) (by omega)
              have eb : IntKind.i64.wrap (400000 * (q : Int) + (p : Int)) = 400000 * (q : Int) + (p : Int) := wrap_ok _ (by omega) (by omega)
              clear hm2 hall hpre hlen
              go_wp2_with fail
              exact ⟨⟨p + 1, updN Ls2 q ((Ls2 q).set p (400000 * (q : Int) + p)), by omega, by go_num, HN3.out, HPUT.out, HN1.out, HN2.out⟩, by simp [intOf]; omega⟩
            · obtain rfl : p = (Ls1 q).length := by omega
              have RES : Hid (∃ Ls' : Nat → List Int, MQ w B NN (formE t = 0) (normL t) U G F (.slice a7 U.length c7) nT (.slice (some ⟨gT, 0, none⟩) nT cT2) ts Ts 8 (.slice (some ⟨gL, 0, none⟩) 8 cL) vs Ls' wr ∧ ∀ q', q' < q + 1 → ∀ pz, pz < (Ls' q').length → (Ls' q').getD pz 0 = 400000 * (q' : Int) + pz) := ⟨Ls2, hm2, fun q' h' p' h'' => by
                by_cases e : q' = q
                · subst e; exact hpre p' (by omega)
                · exact hall q' (by omega) p' h''⟩
              clear hm2 hall hpre hlen
              go_wp2_with fail
              go_meet
              exact RES.out
        case rest =>
          obtain ⟨Ls3, hL3, hall3⟩ := hcut
          have R3 : Hid (MQ w B NN (formE t = 0) (normL t) U G F (.slice a7 U.length c7) nT (.slice (some ⟨gT, 0, none⟩) nT cT2) ts Ts 8 (.slice (some ⟨gL, 0, none⟩) 8 cL) vs Ls3 wc) := hL3
          have R4 : Hid (∀ q', q' < q + 1 → ∀ pz, pz < (Ls3 q').length → (Ls3 q').getD pz 0 = 400000 * (q' : Int) + pz) := hall3
          clear hL3 hall3
          go_wp2_with fail
          exact ⟨⟨q + 1, Ls3, by omega, by go_num, R3.out, R4.out⟩, by simp [intOf]; omega⟩
      · obtain rfl : q = 8 := by omega
        have RES : Hid (∃ Ls' : Nat → List Int, MQ w B NN (formE t = 0) (normL t) U G F (.slice a7 U.length c7) nT (.slice (some ⟨gT, 0, none⟩) nT cT2) ts Ts 8 (.slice (some ⟨gL, 0, none⟩) 8 cL) vs Ls' wr ∧ ∀ q', q' < 8 → ∀ pz, pz < (Ls' q').length → (Ls' q').getD pz 0 = 400000 * (q' : Int) + pz) := ⟨Ls1, hm, hall⟩
        clear hm hall
        go_wp2_with fail
        go_meet
        exact RES.out
  case rest =>
    rename_i hK
    obtain ⟨Ls3, R1, R2⟩ := hcut
    refine hK _ _ ?_
    exact next w w5 bT bk b o cT gk ok ck g3 c3 g5 c5 t W key a7 c7 U B gT cT2 gL cL ts vs Ts Ls3 NN G F vN nT wc _ _ _ _ _ _ _ _ _ _ _ _ _ _ _ _ _ _ _ _ _ _ _ _ _ _ _ _ _ _ _ _ _ _ _ _ _ _ _ _ _ _ _ _ _ _ _ _ _ _ _ _ _ _ _ _ _ _ _ _ _ _ _ _ _ _ _ _ _ _ _ _ _ _ _ _ _ _ _ _ _ _ _ _ _ _ _ _ _ _ _ _ _ _ _ _ _ _ _ _ _ _ _ _ _ _ _ _ _ _ _ _ _ _ _ _ _ _ _ _ _ _ _ _ _ _ _ _ _ _ _ _ _ _ _ _ _ _ _ _ _ _ _ _ _ _ _ _ _ _ _ _ _ _ _ _ _ _ _ _ _ _ _ _ _ _ _ _ _ _ _ _ _ _ _ _ _ _ _ _ _ _ _ _ _ _ _ _ _ _ _ _ _ _ _ _ _ _ _ _ _ _ _ _ _ _ _ _ _ _ _ _ _ _ _ _ _ _ _ _ _ _ _ _ _ _ _ _ _ _ _ _ _ _ _ _ _ _ _ _ _ _ _ _ _ _ _ _ _ _ _ _ _ _ _ _ _ _ _ _ _ _ _ _ _ _ _ _ _ _ _ _ _ _ _ _ _ _ _ _ _ _ _ _ _ _ _ _ _ _ _ _ _ _ _ _ _ _ _ _ _ _ _ _ _ _ _ _ _ _ _ _ _ _ _ _ _ _ _ _ _ _ _ _ _ _ _ _ _ _ _ _ _ _ _ _ _ _ _ _ _ _ _ _ _ _ _ _ _ _ _ _ _ _ _ _ _ _ _ _ _ _ _ _ _ _ _ _ _ _ _ _ _ _ _ _ _ _ _ _ HMB.out HU.out HN.out hn R1 HA.out R2
end Go.Proofs.Ythdfpddijocfkaa




namespace Go.Proofs.Ythdfpddijocfkaa

open Go.RowKit

attribute [local go_sem ↓] Go.wp_at_zero Go.wp_at_succ

set_option maxRecDepth 100000 in
set_option maxHeartbeats 4000000 in
theorem memat19 (next : MemAt20) : MemAt19 := by
  unfold MemAt19
  intro w w5 bT bk b o cT gk ok ck g3 c3 g5 c5 t W key a7 c7 U B gT cT2 gL cL ts vs Ts Ls NN G F vN nT X u0 u1 u2 u3 u4 u5 u6 u8 u9 u10 u11 u12 u13 u14 u15 u18 u19 u20 u21 u22 u23 u24 u25 u26 u27 u30 u31 u32 u33 u34 u35 u36 u37 u38 u39 u40 u41 u42 u43 u44 u45 u46 u47 u48 u49 u50 u51 u52 u53 u54 u55 u56 u57 u58 u59 u60 u61 u62 u63 u64 u65 u66 u67 u68 u69 u70 u71 u72 u73 u74 u75 u76 u77 u78 u79 u80 u81 u82 u83 u84 u85 u86 u87 u88 u89 u90 u91 u92 u93 u94 u95 u96 u97 u98 u99 u100 u101 u102 u103 u104 u105 u106 u107 u108 u109 u110 u111 u112 u113 u114 u115 u116 u117 u118 u119 u120 u121 u122 u123 u124 u125 u126 u127 u128 u129 u130 u131 u132 u133 u134 u135 u136 u137 u138 u139 u140 u141 u142 u143 u144 u145 u146 u147 u148 u149 u150 u151 u152 u153 u154 u155 u156 u157 u158 u159 u160 u161 u162 u163 u164 u165 u166 u167 u168 u169 u170 u171 u172 u173 u174 u175 u176 u177 u178 u179 u180 u181 u182 u183 u184 u185 u186 u187 u188 u189 u190 u191 u192 u193 u194 u195 u196 u197 u198 u199 u200 u201 u202 u203 u204 u205 u206 u207 u208 u209 u210 u211 u212 u213 u214 u215 u216 u217 u218 u219 u220 u221 u222 u223 u224 u225 u226 u227 u228 u229 u230 u231 u232 u233 u234 u235 u236 u237 u238 u239 u240 u241 u242 u243 u244 u245 u246 u247 u248 u249 u250 u251 u252 u253 u254 u255 u256 u257 u258 u259 u260 u261 u262 u263 u264 u265 u266 u267 u268 u269 u270 u271 u272 u273 u274 u275 u276 u277 u278 u279 u280 u281 u282 u283 u284 u285 u286 u287 u288 u289 u290 u291 u292 u293 u294 u295 u296 u297 u298 u299 u300 u301 u302 u303 u304 u305 u306 u307 u308 u309 u310 u311 u312 u313 u314 u315 u316 u317 u318 u319 u320 u321 u322 u323 u324 u325 u326 u327 u328 u329 u330 u331 u332 u333 u334 u335 u336 u337 u338 u339 u340 u341 u342 u343 u344 u345 u346 u347 u348 u349 u350 u351 u352 u353 u354 u355 u356 u357 u358 u359 u360 u361 u362 u363 u364 u365 u366 u367 u368 u369 u370 u371 u372 u373 u374 u375 u376 u377 u378 u379 u380 u381 u382 u383 u384 hM hU hN hn hQ hA hC
  have HMB : Hid (NB w w5 bT bk b o cT gk ok ck g3 c3 g5 c5 t W key) := hM
  have HU : Hid (U = normL t) := hU
  have HN : Hid (formE t = 0 → vN = .pointer (some ⟨G 0, 0, none⟩)) := hN
  have Q0 : Hid (MQ w B NN (formE t = 0) (normL t) U G F (.slice a7 U.length c7) nT (.slice (some ⟨gT, 0, none⟩) nT cT2) ts Ts 8 (.slice (some ⟨gL, 0, none⟩) 8 cL) vs Ls X) := hQ
  have HA : Hid (∀ q, q < nT → ∀ p, p < (Ts q).length → (ndAt (Ts q) p).key = 200000 * (q : Int) + p) := hA
  have HC : Hid (∀ q, q < 8 → ∀ p, p < (Ls q).length → (Ls q).getD p 0 = 400000 * (q : Int) + p) := hC
  obtain ⟨j0, hj0, hy0, hy1, hy2⟩ := info_parts nd_info'
  clear hM hQ hU hN hA hC
  conv => arg 2; whnf
  go_upto_block 12 with fail
  go_cut [37] from 303 to 337 (fun s37 wx => MQ w B NN (formE t = 0) (normL t) U G F (.slice a7 U.length c7) nT (.slice (some ⟨gT, 0, none⟩) nT cT2) ts Ts 8 (.slice (some ⟨gL, 0, none⟩) 8 cL) vs Ls wx)
  case first =>
    go_wp2_with fail
    go_loopw [37] (fun i wr => ∃ q : Nat, q ≤ nT ∧ i = .int .i64 q ∧ MQ w B NN (formE t = 0) (normL t) U G F (.slice a7 U.length c7) nT (.slice (some ⟨gT, 0, none⟩) nT cT2) ts Ts 8 (.slice (some ⟨gL, 0, none⟩) 8 cL) vs Ls wr) (fun i _ => nT - (intOf i).toNat)
    case atStart => exact ⟨0, by omega, rfl, Q0.out⟩
    case round =>
      obtain ⟨q, hq, rfl, hm⟩ := hrel
      by_cases hqn : q < nT
      · have dq : decide ((q : Int) < (nT : Int)) = true := decide_eq_true (by omega)
        have q0' : (0 : Int) ≤ (q : Int) := Int.natCast_nonneg _
        have q1' : (q : Int) < (nT : Int) := by omega
        obtain ⟨r0, gl⟩ := hm.tb.top_at q hqn
        obtain ⟨va, vc, hv, hsm, hsome⟩ := hm.rowT hqn
        rw [hv] at r0
        have RW : Hid (wr.ownsRow B 81 6 (.slice va (Ts q).length vc) (Ts q).length (ndCells (Ts q))) := by have := hm.tb.row q hqn; rw [hv] at this; exact this
        have HG : Hid (∀ (ob : Obj) (x : World), (wr.alloc ob).grownBy x (Value.ownBlock (.slice va (Ts q).length vc)) → x.ownsRow B 81 6 (.slice va (Ts q).length vc) (Ts q).length (ndCells (Ts q)) → MQ w B NN (formE t = 0) (normL t) U G F (.slice a7 U.length c7) nT (.slice (some ⟨gT, 0, none⟩) nT cT2) ts Ts 8 (.slice (some ⟨gL, 0, none⟩) 8 cL) vs Ls x) := fun ob x h1 h2 => by
          rw [← hv] at h1 h2
          exact hm.growT hqn h1 h2
        have HVQ' : Hid (ts q = .slice va (Ts q).length vc) := hv
        have HSM : Hid (0 < (Ts q).length → ∃ g, va = some ⟨g, 0, none⟩) := hsome
        have HAQ : Hid (∀ p, p < (Ts q).length → (ndAt (Ts q) p).key = 200000 * (q : Int) + p) := HA.out q hqn
        clear hm hv hsome
        go_upto_block 13 with fail
        go_cut [38] from 303 to 337 (fun s38 wx => MQ w B NN (formE t = 0) (normL t) U G F (.slice a7 U.length c7) nT (.slice (some ⟨gT, 0, none⟩) nT cT2) ts Ts 8 (.slice (some ⟨gL, 0, none⟩) 8 cL) vs Ls wx)
        case first =>
          go_wp2_with (first | (at_builtin; have hqq := RW; (refine wpList_append_keeps (by rfl) _ _ _ (by rfl) B 81 j0 _ 6 48 nds_under' hj0 hy0 hy1 hy2 rfl _ (Ts q).length (ndCells (Ts q)) (by rfl) (RW.out.alloc _) ⟨wr.heap.size, 0, none⟩ 1 1 [.int .i64 (-1), .int .i64 0, .int .i64 0, .int .i64 0, .int .i64 0, .int .i64 0] (by rfl) (by rfl) (World.news_of_block (cs := #[.int .i64 (-1), .int .i64 0, .int .i64 0, .int .i64 0, .int .i64 0, .int .i64 0]) (t := 81) (fr := (0, 0)) (heap_alloc_at _ _ _ (by simp))) (by simp [Value.oneCell']) (by omega) (by unfold maxLen; omega) (by omega) ?_); intro v11 w11 ho hg; have LP : Hid (MQ w B NN (formE t = 0) (normL t) U G F (.slice a7 U.length c7) nT (.slice (some ⟨gT, 0, none⟩) nT cT2) ts Ts 8 (.slice (some ⟨gL, 0, none⟩) 8 cL) vs Ls w11) := HG.out _ w11 hg ho; clear ho hg hqq))
          go_loopw [38] (fun i wr' => ∃ p : Nat, p ≤ (Ts q).length ∧ i = .int .i64 p ∧ MQ w B NN (formE t = 0) (normL t) U G F (.slice a7 U.length c7) nT (.slice (some ⟨gT, 0, none⟩) nT cT2) ts Ts 8 (.slice (some ⟨gL, 0, none⟩) 8 cL) vs Ls wr') (fun i _ => (Ts q).length - (intOf i).toNat)
          case atStart => exact ⟨0, Nat.zero_le _, rfl, LP.out⟩
          case round =>
            obtain ⟨p, hp, rfl, hm2⟩ := hrel
            have HM2 : Hid (MQ w B NN (formE t = 0) (normL t) U G F (.slice a7 U.length c7) nT (.slice (some ⟨gT, 0, none⟩) nT cT2) ts Ts 8 (.slice (some ⟨gL, 0, none⟩) 8 cL) vs Ls wr) := hm2
            obtain ⟨r1, gl1⟩ := hm2.tb.top_at q hqn
            rw [HVQ'.out] at r1
            have p0 : (0 : Int) ≤ (p : Int) := Int.natCast_nonneg _
            clear hm2
            by_cases hpl : p < (Ts q).length
            · obtain ⟨g2, rfl⟩ := HSM.out (by omega)
              have HVQ : Hid (ts q = .slice (some ⟨g2, 0, none⟩) (Ts q).length vc) := HVQ'.out
              obtain ⟨⟨m1, f1⟩, -⟩ := HM2.out.cellT hqn HVQ.out p hpl
              rw [HAQ.out p hpl] at m1
              have p1 : (p : Int) < ((Ts q).length : Int) := by omega
              have ea : IntKind.i64.wrap (200000 * (q : Int)) = 200000 * (q : Int) := wrap_ok _ (by omega) (by omega)
              have eb : IntKind.i64.wrap (200000 * (q : Int) + (p : Int)) = 200000 * (q : Int) + (p : Int) := wrap_ok _ (by omega) (by omega)
              have dn : (200000 * (q : Int) + (p : Int) != 200000 * (q : Int) + (p : Int)) = false := by simp
              go_wp2_with fail
              exact ⟨⟨p + 1, by omega, by go_num, HM2.out⟩, by simp [intOf]; omega⟩
            · obtain rfl : p = (Ts q).length := by omega
              go_wp2_with fail
              go_meet
              exact HM2.out
        case rest =>
          have R5 : Hid (MQ w B NN (formE t = 0) (normL t) U G F (.slice a7 U.length c7) nT (.slice (some ⟨gT, 0, none⟩) nT cT2) ts Ts 8 (.slice (some ⟨gL, 0, none⟩) 8 cL) vs Ls wc) := hcut
          clear hcut
          go_wp2_with fail
          exact ⟨⟨q + 1, by omega, by go_num, R5.out⟩, by simp [intOf]; omega⟩
      · obtain rfl : nT = q := by omega
        have R5 : Hid (MQ w B NN (formE t = 0) (normL t) U G F (.slice a7 U.length c7) nT (.slice (some ⟨gT, 0, none⟩) nT cT2) ts Ts 8 (.slice (some ⟨gL, 0, none⟩) 8 cL) vs Ls wr) := hm
        clear hm
        go_wp2_with fail
        go_meet
        exact R5.out
  case rest =>
    rename_i hK
    refine hK _ _ ?_
    exact next w w5 bT bk b o cT gk ok ck g3 c3 g5 c5 t W key a7 c7 U B gT cT2 gL cL ts vs Ts Ls NN G F vN nT wc _ _ _ _ _ _ _ _ _ _ _ _ _ _ _ _ _ _ _ _ _ _ _ _ _ _ _ _ _ _ _ _ _ _ _ _ _ _ _ _ _ _ _ _ _ _ _ _ _ _ _ _ _ _ _ _ _ _ _ _ _ _ _ _ _ _ _ _ _ _ _ _ _ _ _ _ _ _ _ _ _ _ _ _ _ _ _ _ _ _ _ _ _ _ _ _ _ _ _ _ _ _ _ _ _ _ _ _ _ _ _ _ _ _ _ _ _ _ _ _ _ _ _ _ _ _ _ _ _ _ _ _ _ _ _ _ _ _ _ _ _ _ _ _ _ _ _ _ _ _ _ _ _ _ _ _ _ _ _ _ _ _ _ _ _ _ _ _ _ _ _ _ _ _ _ _ _ _ _ _ _ _ _ _ _ _ _ _ _ _ _ _ _ _ _ _ _ _ _ _ _ _ _ _ _ _ _ _ _ _ _ _ _ _ _ _ _ _ _ _ _ _ _ _ _ _ _ _ _ _ _ _ _ _ _ _ _ _ _ _ _ _ _ _ _ _ _ _ _ _ _ _ _ _ _ _ _ _ _ _ _ _ _ _ _ _ _ _ _ _ _ _ _ _ _ _ _ _ _ _ _ _ _ _ _ _ _ _ _ _ _ _ _ _ _ _ _ _ _ _ _ _ _ _ _ _ _ _ _ _ _ _ _ _ _ _ _ _ _ _ _ _ _ _ _ _ _ _ _ _ _ _ _ _ _ _ _ _ _ _ _ _ _ _ _ _ _ _ _ _ _ _ _ _ _ _ _ _ _ _ _ _ _ _ _ _ _ _ _ _ _ _ _ _ _ _ _ _ _ _ HMB.out HU.out HN.out hn hcut HC.out
end Go.Proofs.Ythdfpddijocfkaa




namespace Go.Proofs.Ythdfpddijocfkaa

open Go.RowKit

attribute [local go_sem ↓] Go.wp_at_zero Go.wp_at_succ

set_option maxRecDepth 100000 in
set_option maxHeartbeats 4000000 in
theorem memat20 (next : MemAt21) : MemAt20 := by
  unfold MemAt20
  intro w w5 bT bk b o cT gk ok ck g3 c3 g5 c5 t W key a7 c7 U B gT cT2 gL cL ts vs Ts Ls NN G F vN nT X u0 u1 u2 u3 u4 u5 u6 u8 u9 u10 u11 u12 u13 u14 u15 u18 u19 u20 u21 u22 u23 u24 u25 u26 u27 u30 u31 u32 u33 u34 u35 u36 u37 u38 u39 u40 u41 u42 u43 u44 u45 u46 u47 u48 u49 u50 u51 u52 u53 u54 u55 u56 u57 u58 u59 u60 u61 u62 u63 u64 u65 u66 u67 u68 u69 u70 u71 u72 u73 u74 u75 u76 u77 u78 u79 u80 u81 u82 u83 u84 u85 u86 u87 u88 u89 u90 u91 u92 u93 u94 u95 u96 u97 u98 u99 u100 u101 u102 u103 u104 u105 u106 u107 u108 u109 u110 u111 u112 u113 u114 u115 u116 u117 u118 u119 u120 u121 u122 u123 u124 u125 u126 u127 u128 u129 u130 u131 u132 u133 u134 u135 u136 u137 u138 u139 u140 u141 u142 u143 u144 u145 u146 u147 u148 u149 u150 u151 u152 u153 u154 u155 u156 u157 u158 u159 u160 u161 u162 u163 u164 u165 u166 u167 u168 u169 u170 u171 u172 u173 u174 u175 u176 u177 u178 u179 u180 u181 u182 u183 u184 u185 u186 u187 u188 u189 u190 u191 u192 u193 u194 u195 u196 u197 u198 u199 u200 u201 u202 u203 u204 u205 u206 u207 u208 u209 u210 u211 u212 u213 u214 u215 u216 u217 u218 u219 u220 u221 u222 u223 u224 u225 u226 u227 u228 u229 u230 u231 u232 u233 u234 u235 u236 u237 u238 u239 u240 u241 u242 u243 u244 u245 u246 u247 u248 u249 u250 u251 u252 u253 u254 u255 u256 u257 u258 u259 u260 u261 u262 u263 u264 u265 u266 u267 u268 u269 u270 u271 u272 u273 u274 u275 u276 u277 u278 u279 u280 u281 u282 u283 u284 u285 u286 u287 u288 u289 u290 u291 u292 u293 u294 u295 u296 u297 u298 u299 u300 u301 u302 u303 u304 u305 u306 u307 u308 u309 u310 u311 u312 u313 u314 u315 u316 u317 u318 u319 u320 u321 u322 u323 u324 u325 u326 u327 u328 u329 u330 u331 u332 u333 u334 u335 u336 u337 u338 u339 u340 u341 u342 u343 u344 u345 u346 u347 u348 u349 u350 u351 u352 u353 u354 u355 u356 u357 u358 u359 u360 u361 u362 u363 u364 u365 u366 u367 u368 u369 u370 u371 u372 u373 u374 u375 u376 u377 u378 u379 u380 u381 u382 u383 u384 hM hU hN hn hQ hC
  have HMB : Hid (NB w w5 bT bk b o cT gk ok ck g3 c3 g5 c5 t W key) := hM
  have HU : Hid (U = normL t) := hU
  have HN : Hid (formE t = 0 → vN = .pointer (some ⟨G 0, 0, none⟩)) := hN
  have Q0 : Hid (MQ w B NN (formE t = 0) (normL t) U G F (.slice a7 U.length c7) nT (.slice (some ⟨gT, 0, none⟩) nT cT2) ts Ts 8 (.slice (some ⟨gL, 0, none⟩) 8 cL) vs Ls X) := hQ
  have HC : Hid (∀ q, q < 8 → ∀ p, p < (Ls q).length → (Ls q).getD p 0 = 400000 * (q : Int) + p) := hC
  obtain ⟨j0, hj0, hy0, hy1, hy2⟩ := info_parts in_info
  clear hM hQ hU hN hC
  conv => arg 2; whnf
  go_upto_block 16 with fail
  go_cut [39] from 338 to 370 (fun s39 wx => MQ w B NN (formE t = 0) (normL t) U G F (.slice a7 U.length c7) nT (.slice (some ⟨gT, 0, none⟩) nT cT2) ts Ts 8 (.slice (some ⟨gL, 0, none⟩) 8 cL) vs Ls wx)
  case first =>
    go_wp2_with fail
    go_loopw [39] (fun i wr => ∃ q : Nat, q ≤ 8 ∧ i = .int .i64 q ∧ MQ w B NN (formE t = 0) (normL t) U G F (.slice a7 U.length c7) nT (.slice (some ⟨gT, 0, none⟩) nT cT2) ts Ts 8 (.slice (some ⟨gL, 0, none⟩) 8 cL) vs Ls wr) (fun i _ => 8 - (intOf i).toNat)
    case atStart => exact ⟨0, by omega, rfl, Q0.out⟩
    case round =>
      obtain ⟨q, hq, rfl, hm⟩ := hrel
      by_cases hqn : q < 8
      · have dq : decide ((q : Int) < (8 : Int)) = true := decide_eq_true (by omega)
        have q0' : (0 : Int) ≤ (q : Int) := Int.natCast_nonneg _
        have q1' : (q : Int) < (8 : Int) := by omega
        obtain ⟨r0, gl⟩ := hm.ls.top_at q hqn
        obtain ⟨va, vc, hv, hsm, hsome⟩ := hm.rowL hqn
        rw [hv] at r0
        have RW : Hid (wr.ownsRow B 3 1 (.slice va (Ls q).length vc) (Ls q).length (isC (Ls q))) := by have := hm.ls.row q hqn; rw [hv] at this; exact this
        have HG : Hid (∀ (ob : Obj) (x : World), (wr.alloc ob).grownBy x (Value.ownBlock (.slice va (Ls q).length vc)) → x.ownsRow B 3 1 (.slice va (Ls q).length vc) (Ls q).length (isC (Ls q)) → MQ w B NN (formE t = 0) (normL t) U G F (.slice a7 U.length c7) nT (.slice (some ⟨gT, 0, none⟩) nT cT2) ts Ts 8 (.slice (some ⟨gL, 0, none⟩) 8 cL) vs Ls x) := fun ob x h1 h2 => by
          rw [← hv] at h1 h2
          exact hm.growL hqn h1 h2
        have HVQ' : Hid (vs q = .slice va (Ls q).length vc) := hv
        have HSM : Hid (0 < (Ls q).length → ∃ g, va = some ⟨g, 0, none⟩) := hsome
        have HAQ : Hid (∀ p, p < (Ls q).length → (Ls q).getD p 0 = 400000 * (q : Int) + p) := HC.out q hqn
        clear hm hv hsome
        go_upto_block 17 with fail
        go_cut [40] from 338 to 370 (fun s40 wx => MQ w B NN (formE t = 0) (normL t) U G F (.slice a7 U.length c7) nT (.slice (some ⟨gT, 0, none⟩) nT cT2) ts Ts 8 (.slice (some ⟨gL, 0, none⟩) 8 cL) vs Ls wx)
        case first =>
          go_wp2_with (first | (at_builtin; have hqq := RW; (refine wpList_append_keeps (by rfl) _ _ _ (by rfl) B 3 j0 _ 1 8 ins_under hj0 hy0 hy1 hy2 rfl _ (Ls q).length (isC (Ls q)) (by rfl) (RW.out.alloc _) ⟨wr.heap.size, 0, none⟩ 1 1 [.int .i64 (-1)] (by rfl) (by rfl) (World.news_of_block (cs := #[.int .i64 (-1)]) (t := 3) (fr := (0, 0)) (heap_alloc_at _ _ _ (by simp))) (by simp [Value.oneCell']) (by omega) (by unfold maxLen; omega) (by omega) ?_); intro v11 w11 ho hg; have LP : Hid (MQ w B NN (formE t = 0) (normL t) U G F (.slice a7 U.length c7) nT (.slice (some ⟨gT, 0, none⟩) nT cT2) ts Ts 8 (.slice (some ⟨gL, 0, none⟩) 8 cL) vs Ls w11) := HG.out _ w11 hg ho; clear ho hg hqq))
          go_loopw [40] (fun i wr' => ∃ p : Nat, p ≤ (Ls q).length ∧ i = .int .i64 p ∧ MQ w B NN (formE t = 0) (normL t) U G F (.slice a7 U.length c7) nT (.slice (some ⟨gT, 0, none⟩) nT cT2) ts Ts 8 (.slice (some ⟨gL, 0, none⟩) 8 cL) vs Ls wr') (fun i _ => (Ls q).length - (intOf i).toNat)
          case atStart => exact ⟨0, Nat.zero_le _, rfl, LP.out⟩
          case round =>
            obtain ⟨p, hp, rfl, hm2⟩ := hrel
            have HM2 : Hid (MQ w B NN (formE t = 0) (normL t) U G F (.slice a7 U.length c7) nT (.slice (some ⟨gT, 0, none⟩) nT cT2) ts Ts 8 (.slice (some ⟨gL, 0, none⟩) 8 cL) vs Ls wr) := hm2
            obtain ⟨r1, gl1⟩ := hm2.ls.top_at q hqn
            rw [HVQ'.out] at r1
            have p0 : (0 : Int) ≤ (p : Int) := Int.natCast_nonneg _
            clear hm2
            by_cases hpl : p < (Ls q).length
            · obtain ⟨g2, rfl⟩ := HSM.out (by omega)
              have HVQ : Hid (vs q = .slice (some ⟨g2, 0, none⟩) (Ls q).length vc) := HVQ'.out
              obtain ⟨m1, f1⟩ := HM2.out.cellL hqn HVQ.out p hpl
              rw [HAQ.out p hpl] at m1
              have p1 : (p : Int) < ((Ls q).length : Int) := by omega
              have ea : IntKind.i64.wrap (400000 * (q : Int)) = 400000 * (q : Int) := wrap_ok _ (by omega) (by omega)
              have eb : IntKind.i64.wrap (400000 * (q : Int) + (p : Int)) = 400000 * (q : Int) + (p : Int) := wrap_ok _ (by omega) (by omega)
              have dn : (400000 * (q : Int) + (p : Int) != 400000 * (q : Int) + (p : Int)) = false := by simp
              go_wp2_with fail
              exact ⟨⟨p + 1, by omega, by go_num, HM2.out⟩, by simp [intOf]; omega⟩
            · obtain rfl : p = (Ls q).length := by omega
              go_wp2_with fail
              go_meet
              exact HM2.out
        case rest =>
          have R5 : Hid (MQ w B NN (formE t = 0) (normL t) U G F (.slice a7 U.length c7) nT (.slice (some ⟨gT, 0, none⟩) nT cT2) ts Ts 8 (.slice (some ⟨gL, 0, none⟩) 8 cL) vs Ls wc) := hcut
          clear hcut
          go_wp2_with fail
          exact ⟨⟨q + 1, by omega, by go_num, R5.out⟩, by simp [intOf]; omega⟩
      · obtain rfl : q = 8 := by omega
        have R5 : Hid (MQ w B NN (formE t = 0) (normL t) U G F (.slice a7 U.length c7) nT (.slice (some ⟨gT, 0, none⟩) nT cT2) ts Ts 8 (.slice (some ⟨gL, 0, none⟩) 8 cL) vs Ls wr) := hm
        clear hm
        go_wp2_with fail
        go_meet
        exact R5.out
  case rest =>
    rename_i hK
    refine hK _ _ ?_
    exact next w w5 bT bk b o cT gk ok ck g3 c3 g5 c5 t W key a7 c7 U B gT cT2 gL cL ts vs Ts Ls NN G F vN nT wc _ _ _ _ _ _ _ _ _ _ _ _ _ _ _ _ _ _ _ _ _ _ _ _ _ _ _ _ _ _ _ _ _ _ _ _ _ _ _ _ _ _ _ _ _ _ _ _ _ _ _ _ _ _ _ _ _ _ _ _ _ _ _ _ _ _ _ _ _ _ _ _ _ _ _ _ _ _ _ _ _ _ _ _ _ _ _ _ _ _ _ _ _ _ _ _ _ _ _ _ _ _ _ _ _ _ _ _ _ _ _ _ _ _ _ _ _ _ _ _ _ _ _ _ _ _ _ _ _ _ _ _ _ _ _ _ _ _ _ _ _ _ _ _ _ _ _ _ _ _ _ _ _ _ _ _ _ _ _ _ _ _ _ _ _ _ _ _ _ _ _ _ _ _ _ _ _ _ _ _ _ _ _ _ _ _ _ _ _ _ _ _ _ _ _ _ _ _ _ _ _ _ _ _ _ _ _ _ _ _ _ _ _ _ _ _ _ _ _ _ _ _ _ _ _ _ _ _ _ _ _ _ _ _ _ _ _ _ _ _ _ _ _ _ _ _ _ _ _ _ _ _ _ _ _ _ _ _ _ _ _ _ _ _ _ _ _ _ _ _ _ _ _ _ _ _ _ _ _ _ _ _ _ _ _ _ _ _ _ _ _ _ _ _ _ _ _ _ _ _ _ _ _ _ _ _ _ _ _ _ _ _ _ _ _ _ _ _ _ _ _ _ _ _ _ _ _ _ _ _ _ _ _ _ _ _ _ _ _ _ _ _ _ _ _ _ _ _ _ _ _ _ _ _ _ _ _ _ _ _ _ _ _ _ _ _ _ _ _ _ _ _ _ _ _ _ _ _ _ _ HMB.out HU.out HN.out hn hcut
end Go.Proofs.Ythdfpddijocfkaa




namespace Go.Proofs.Ythdfpddijocfkaa

open Go.RowKit

attribute [local go_sem ↓] Go.wp_at_zero Go.wp_at_succ

set_option maxRecDepth 100000 in
set_option maxHeartbeats 4000000 in
theorem memat21 : MemAt21 := by
  unfold MemAt21
  intro w w5 bT bk b o cT gk ok ck g3 c3 g5 c5 t W key a7 c7 U B gT cT2 gL cL ts vs Ts Ls NN G F vN nT X u0 u1 u2 u3 u4 u5 u6 u8 u9 u10 u11 u12 u13 u14 u15 u18 u19 u20 u21 u22 u23 u24 u25 u26 u27 u30 u31 u32 u33 u34 u35 u36 u37 u38 u39 u40 u41 u42 u43 u44 u45 u46 u47 u48 u49 u50 u51 u52 u53 u54 u55 u56 u57 u58 u59 u60 u61 u62 u63 u64 u65 u66 u67 u68 u69 u70 u71 u72 u73 u74 u75 u76 u77 u78 u79 u80 u81 u82 u83 u84 u85 u86 u87 u88 u89 u90 u91 u92 u93 u94 u95 u96 u97 u98 u99 u100 u101 u102 u103 u104 u105 u106 u107 u108 u109 u110 u111 u112 u113 u114 u115 u116 u117 u118 u119 u120 u121 u122 u123 u124 u125 u126 u127 u128 u129 u130 u131 u132 u133 u134 u135 u136 u137 u138 u139 u140 u141 u142 u143 u144 u145 u146 u147 u148 u149 u150 u151 u152 u153 u154 u155 u156 u157 u158 u159 u160 u161 u162 u163 u164 u165 u166 u167 u168 u169 u170 u171 u172 u173 u174 u175 u176 u177 u178 u179 u180 u181 u182 u183 u184 u185 u186 u187 u188 u189 u190 u191 u192 u193 u194 u195 u196 u197 u198 u199 u200 u201 u202 u203 u204 u205 u206 u207 u208 u209 u210 u211 u212 u213 u214 u215 u216 u217 u218 u219 u220 u221 u222 u223 u224 u225 u226 u227 u228 u229 u230 u231 u232 u233 u234 u235 u236 u237 u238 u239 u240 u241 u242 u243 u244 u245 u246 u247 u248 u249 u250 u251 u252 u253 u254 u255 u256 u257 u258 u259 u260 u261 u262 u263 u264 u265 u266 u267 u268 u269 u270 u271 u272 u273 u274 u275 u276 u277 u278 u279 u280 u281 u282 u283 u284 u285 u286 u287 u288 u289 u290 u291 u292 u293 u294 u295 u296 u297 u298 u299 u300 u301 u302 u303 u304 u305 u306 u307 u308 u309 u310 u311 u312 u313 u314 u315 u316 u317 u318 u319 u320 u321 u322 u323 u324 u325 u326 u327 u328 u329 u330 u331 u332 u333 u334 u335 u336 u337 u338 u339 u340 u341 u342 u343 u344 u345 u346 u347 u348 u349 u350 u351 u352 u353 u354 u355 u356 u357 u358 u359 u360 u361 u362 u363 u364 u365 u366 u367 u368 u369 u370 u371 u372 u373 u374 u375 u376 u377 u378 u379 u380 u381 u382 u383 u384 hM hU hN hn hQ
  have Q0 : Hid (MQ w B NN (formE t = 0) (normL t) U G F (.slice a7 U.length c7) nT (.slice (some ⟨gT, 0, none⟩) nT cT2) ts Ts 8 (.slice (some ⟨gL, 0, none⟩) 8 cL) vs Ls X) := hQ
  have HU : Hid (U = normL t) := hU
  have HN : Hid (formE t = 0 → vN = .pointer (some ⟨G 0, 0, none⟩)) := hN
  clear hM hQ hU hN
  conv => arg 2; whnf
  by_cases he : formE t = 0
  · have HE : Hid (formE t = 0) := he
    have d0 : (formE t != 0) = false := by simp [he]
    obtain rfl := HN.out he
    clear he HN
    go_wp2_with fail
    refine (ReadN HE.out X.heap.size G F X (Nat.le_refl _) ((Q0.out.nd HE.out).mono Q0.out.lN)).mono ?_
    rintro e x1 ⟨v1, rfl, ho1, hb1⟩
    rw [← HU.out] at ho1
    obtain ⟨a1, c1, g1, rfl, -, -, hn1⟩ := nodes_of_owns ho1
    have N1 : Hid (NodesAt x1 a1 g1 0 U) := hn1
    have Q1 : Hid (MQ w B NN (formE t = 0) (normL t) U G F (.slice a7 U.length c7) nT (.slice (some ⟨gT, 0, none⟩) nT cT2) ts Ts 8 (.slice (some ⟨gL, 0, none⟩) 8 cL) vs Ls x1) := Q0.out.below hb1
    obtain ⟨z1a, z1c, z1g, z1e, -, -, hz1⟩ := nodes_of_owns Q1.out.u
    injection z1e with za1 _ zc1
    subst za1 zc1
    have V1 : Hid (NodesAt x1 a7 z1g 0 U) := hz1
    clear ho1 hn1 hb1 hz1
    go_wp2_with fail
    refine (vSame_any a1 a7 g1 0 c1 z1g 0 c7 U U _ N1.out V1.out).mono ?_
    rintro e x2 ⟨rfl, hb2⟩
    rw [nlSelf]
    have R2 : Hid (Below w.heap.size w x2) := Q1.out.bl.trans (hb2.mono Q1.out.bl.size)
    clear hb2
    go_wp2_with fail
    go_ret
    exact ⟨rfl, R2.out⟩
  · have d0 : (formE t != 0) = true := by simp [he]
    clear he HN
    go_wp2_with fail
    go_ret
    exact ⟨rfl, Q0.out.bl⟩
end Go.Proofs.Ythdfpddijocfkaa












namespace Go.Proofs.Ythdfpddijocfkaa

open Go.RowKit

attribute [local go_sem ↓] Go.wp_at_zero Go.wp_at_succ

theorem mem12 : MemAt12 := memat12 (memat13 (memat14 (memat15 (memat16 (memat17 (memat18 (memat19 (memat20 memat21))))))))
theorem news_kept {Z w5 : World} {row : Option Nat} {k : Nat} {cs : Array Value} {T : TypeId} (hg : Z.grownBy w5 row) (hz : Z.heap[k]? = some (.cells cs T)) (hne : some k ≠ row) : ∀ j u, cs.toList[j]? = some u → w5.cell? ((⟨k, 0, none⟩ : Addr).add j) = some u :=
  World.news_of_block ((hg.block k (Array.getElem?_eq_some_iff.1 hz).1 hne).trans hz)
set_option maxRecDepth 100000 in
set_option maxHeartbeats 8000000 in
theorem nodeMemory_any (bT : Option Addr) (b o cT : Nat) (t : NL) (bk : Option Addr) (gk ok ck : Nat) (W : List Int) (key inf wt val : Int) (w : World) (h : NodesAt w bT b o t) (hTn : bT = none → t.length = 0 ∧ cT = 0) (hTb : t.length * 48 ≤ 140737488351232) (hw : WsAt w bk gk ok W) (hWn : bk = none → W.length = 0 ∧ ck = 0) (hWb : W.length * 8 ≤ 140737488351232) :
    Calls Try.prog 6 #[.agg #[.slice bT t.length cT, .slice bk W.length ck, .int .i64 key, .int .i64 inf, .int .i64 wt, .int .i64 val]] w fun e w' => e = .returned (.bool true) ∧ Below w.heap.size w w' := by
  have HTN : Hid (bT = none → t.length = 0 ∧ cT = 0) := hTn
  have HWN : Hid (bk = none → W.length = 0 ∧ ck = 0) := hWn
  obtain ⟨i0, hi0, hz0, hz1, hz2⟩ := info_parts nd_info'
  have hmk : ∀ w : World, (Instr.makeSlice 22 (.int .i64 0) (.int .i64 ((t.length : Int) + 1))).run Try.prog w = .ok (.slice (some ⟨w.heap.size, 0, none⟩) 0 (t.length + 1)) (w.alloc (.cells (madeCells #[.int .i64 0, .int .i64 0, .int .i64 0, .int .i64 0, .int .i64 0, .int .i64 0] ((t.length + 1) * 6)) 81)) := fun w => by
    have := run_make_room (P := Try.prog) 22 81 (.agg #[.int .i64 0, .int .i64 0, .int .i64 0, .int .i64 0, .int .i64 0, .int .i64 0]) 6 48 nds_under' nd_info' (t.length + 1) (by omega) (by omega) w
    simpa [Value.cells] using this
  have htl : (0 : Int) ≤ (t.length : Int) := Int.natCast_nonneg _
  have e1 : IntKind.i64.wrap ((t.length : Int) + 1) = (t.length : Int) + 1 := by rw [IntKind.wrap_i64] <;> omega
  generalize hW1 : w.alloc (.cells #[.slice bT t.length cT, .slice bk W.length ck, .int .i64 key, .int .i64 inf, .int .i64 wt, .int .i64 val] 25) = W1
  have hs1 : W1.heap.size = w.heap.size + 1 := by rw [← hW1]; simp
  have hb1 : Below w.heap.size w W1 := by rw [← hW1]; exact below_alloc _ _
  have hbk : W1.heap[w.heap.size]? = some (.cells #[.slice bT t.length cT, .slice bk W.length ck, .int .i64 key, .int .i64 inf, .int .i64 wt, .int .i64 val] 25) := by rw [← hW1]; exact heap_alloc_at _ _ _ rfl
  have NT : Hid (∀ z, Below W1.heap.size W1 z → NodesAt z bT b o t) := fun z hz => (h.below hb1).below hz
  have NW : Hid (∀ z, Below W1.heap.size W1 z → WsAt z bk gk ok W) := fun z hz => (hw.below hb1).below hz
  have CC : Hid (∀ z, Below W1.heap.size W1 z → z.cell? ⟨w.heap.size, 0, none⟩ = some (.slice bT t.length cT) ∧ z.cell? ⟨w.heap.size, 1, none⟩ = some (.slice bk W.length ck) ∧ z.cell? ⟨w.heap.size, 2, none⟩ = some (.int .i64 key)) := fun z hz => by
    have e := (hz.block _ (by omega)).trans hbk
    exact ⟨by simp [World.cell?, e], by simp [World.cell?, e], by simp [World.cell?, e]⟩
  have BL : Hid (∀ z, Below W1.heap.size W1 z → Below w.heap.size w z ∧ w.heap.size < z.heap.size) := fun z hz => ⟨hb1.trans (hz.mono hb1.size), by have := hz.size; omega⟩
  clear h hw hTn hWn hb1 hbk
  go_enter Try.func6, Try.ntmps6
  go_wp2_with fail
  clear hW1
  refine (nfix_any _).mono ?_
  rintro e w2 ⟨rfl, hb2⟩
  have H2 : Hid (Below W1.heap.size W1 w2) := hb2
  have H2d : Hid (Below W1.heap.size W1 w2.drew) := hb2.drew
  obtain ⟨e0, e1', e2⟩ := CC.out _ H2.out
  have lt2 := (BL.out _ H2.out).2
  clear hb2
  go_upto_region 3 with fail
  have BA : Hid (∀ o, Below W1.heap.size W1 (w2.drew.alloc o)) := fun o => H2d.out.alloc H2d.out.size o
  have BA2 : Hid (∀ o o', Below W1.heap.size W1 ((w2.drew.alloc o).alloc o')) := fun o o' => (BA.out o).alloc (BA.out o).size o'
  have BB : Hid (∀ o, Below w2.heap.size w2 (w2.drew.alloc o)) := fun o => (Below.refl _ _).drew.alloc (Nat.le_refl _) o
  have F3 : Hid (((w2.alloc (.cells (madeCells #[.int .i64 0, .int .i64 0, .int .i64 0, .int .i64 0, .int .i64 0, .int .i64 0] ((t.length + 1) * 6)) 81)).alloc (.cells #[.int .i64 77, .int .i64 0, .int .i64 0, .int .i64 0, .int .i64 0, .int .i64 0] 81)).drew.heap[w2.heap.size + 1]? = some (.cells #[.int .i64 77, .int .i64 0, .int .i64 0, .int .i64 0, .int .i64 0, .int .i64 0] 81)) := heap_alloc_at (w2.alloc (.cells (madeCells #[.int .i64 0, .int .i64 0, .int .i64 0, .int .i64 0, .int .i64 0, .int .i64 0] ((t.length + 1) * 6)) 81)) (.cells #[.int .i64 77, .int .i64 0, .int .i64 0, .int .i64 0, .int .i64 0, .int .i64 0] 81) _ (by simp)
  have F2 : Hid (((w2.alloc (.cells #[.int .i64 77, .int .i64 0, .int .i64 0, .int .i64 0, .int .i64 0, .int .i64 0] 81)).alloc (.cells (madeCells #[.int .i64 0, .int .i64 0, .int .i64 0, .int .i64 0, .int .i64 0, .int .i64 0] ((t.length + 1) * 6)) 81)).drew.heap[w2.heap.size]? = some (.cells #[.int .i64 77, .int .i64 0, .int .i64 0, .int .i64 0, .int .i64 0, .int .i64 0] 81)) := (heap_alloc_old (w2.alloc (.cells #[.int .i64 77, .int .i64 0, .int .i64 0, .int .i64 0, .int .i64 0, .int .i64 0] 81)) (.cells (madeCells #[.int .i64 0, .int .i64 0, .int .i64 0, .int .i64 0, .int .i64 0, .int .i64 0] ((t.length + 1) * 6)) 81) (by simp)).trans (heap_alloc_at w2 (.cells #[.int .i64 77, .int .i64 0, .int .i64 0, .int .i64 0, .int .i64 0, .int .i64 0] 81) _ rfl)
  have OM1 : Hid ((w2.alloc (.cells (madeCells #[.int .i64 0, .int .i64 0, .int .i64 0, .int .i64 0, .int .i64 0, .int .i64 0] ((t.length + 1) * 6)) 81)).drew.ownsRow w2.heap.size 81 6 (.slice (some ⟨w2.heap.size, 0, none⟩) 0 (t.length + 1)) 0 []) := (World.ownsRow_made w2 _ (t.length + 1) (Nat.le_refl _) (by unfold maxLen; omega) (size_madeCells _ _)).drew
  have OM2 : Hid (((w2.alloc (.cells #[.int .i64 77, .int .i64 0, .int .i64 0, .int .i64 0, .int .i64 0, .int .i64 0] 81)).alloc (.cells (madeCells #[.int .i64 0, .int .i64 0, .int .i64 0, .int .i64 0, .int .i64 0, .int .i64 0] ((t.length + 1) * 6)) 81)).drew.ownsRow w2.heap.size 81 6 (.slice (some ⟨w2.heap.size + 1, 0, none⟩) 0 (t.length + 1)) 0 []) := by
    have q := (World.ownsRow_made (base := w2.heap.size) (e := 81) (size := 6) (w2.alloc (.cells #[.int .i64 77, .int .i64 0, .int .i64 0, .int .i64 0, .int .i64 0, .int .i64 0] 81)) (madeCells #[.int .i64 0, .int .i64 0, .int .i64 0, .int .i64 0, .int .i64 0, .int .i64 0] ((t.length + 1) * 6)) (t.length + 1) (by simp) (by unfold maxLen; omega) (size_madeCells _ _)).drew
    rw [World.size_alloc] at q
    exact q
  have OM3 : Hid (((w2.alloc (.cells (madeCells #[.int .i64 0, .int .i64 0, .int .i64 0, .int .i64 0, .int .i64 0, .int .i64 0] ((t.length + 1) * 6)) 81)).alloc (.cells #[.int .i64 77, .int .i64 0, .int .i64 0, .int .i64 0, .int .i64 0, .int .i64 0] 81)).drew.ownsRow w2.heap.size 81 6 (.slice (some ⟨w2.heap.size, 0, none⟩) 0 (t.length + 1)) 0 []) := ((World.ownsRow_made w2 _ (t.length + 1) (Nat.le_refl _) (by unfold maxLen; omega) (size_madeCells _ _)).alloc _).drew
  have BC : Hid (∀ o, Below w2.heap.size w2 (w2.alloc o).drew) := fun o => (below_alloc _ o).drew
  have BC2 : Hid (∀ o o', Below w2.heap.size w2 ((w2.alloc o).alloc o').drew) := fun o o' => ((below_alloc _ o).alloc (below_alloc _ o).size o').drew
  have BB2 : Hid (∀ o o', Below w2.heap.size w2 ((w2.drew.alloc o).alloc o')) := fun o o' => (BB.out o).alloc (BB.out o).size o'
  go_cut [3] from 45 to 55 (fun c wx => ∃ g cp, c = .slice (some ⟨g, 0, none⟩) (t.length + 1) cp ∧ wx.ownsRow w2.heap.size 81 6 (.slice (some ⟨g, 0, none⟩) (t.length + 1) cp) (t.length + 1) (ndCells (t ++ [n77])) ∧ Below w2.heap.size w2 wx)
  case first =>
    go_wp2_with fail
    go_region_held3 (fun w' => w'.cell? ⟨w.heap.size, 0, none⟩ = some (.slice bT t.length cT))
      (first | (with_reducible exact X5.out) | (with_reducible exact X6.out) | go_keep)
      (first
        | ((refine step_append_all (by rfl) _ _ _ (by rfl) w2.heap.size 81 i0 _ 6 48 nds_under' hi0 hz0 hz1 hz2 rfl (by omega) (.slice (some ⟨_, 0, none⟩) 0 (t.length + 1)) 0 [] (by rfl) (by first | exact OM1.out | exact OM2.out | exact OM3.out) bT t.length cT (ndCells t) (by rfl) HTN.out (ndCells_length _) (nodes_news (NT.out _ (by first | exact BA.out _ | exact BA2.out _ _))) (ndCells_all _) (by unfold maxLen; omega) (by omega) (by first | (simp; done) | (simp; omega)) ?_; intro v5 w5 hown5 hgrow5 hiff5; have D5 : Hid (Below w2.heap.size w2 w5) := (by first | exact Below.grown (BC.out _) hgrow5 (BC.out _).size (by intro k hk; simp [Value.ownBlock] at hk; omega) | exact Below.grown (BC2.out _ _) hgrow5 (BC2.out _ _).size (by intro k hk; simp [Value.ownBlock] at hk; omega)); have X5 : Hid (w5.cell? ⟨w.heap.size, 0, none⟩ = some (.slice bT t.length cT)) := (CC.out _ (H2.out.trans (D5.out.mono H2.out.size))).1; rw [Nat.zero_add, List.nil_append] at hown5; have O5 : Hid (World.ownsRow _ _ _ _ _ _ _) := hown5; clear hown5))
        | ((refine step_append_lies _ (by rfl) _ _ _ (by rfl) w2.heap.size 81 i0 _ 6 48 nds_under' hi0 hz0 hz1 hz2 rfl (by omega) _ t.length (ndCells t) (by rfl) (by first | exact O5.out | exact O5.out.alloc _) _ 1 1 [.int .i64 77, .int .i64 0, .int .i64 0, .int .i64 0, .int .i64 0, .int .i64 0] (by rfl) (by rfl) (by first | exact news_kept hgrow5 F3.out (by intro q; simp [Value.ownBlock] at q) | exact news_kept hgrow5 F2.out (by intro q; simp [Value.ownBlock] at q) | exact World.news_of_block (cs := #[.int .i64 77, .int .i64 0, .int .i64 0, .int .i64 0, .int .i64 0, .int .i64 0]) (t := 81) (fr := (0, 0)) (heap_alloc_at _ _ _ (by simp))) (by simp [Value.oneCell']) (by omega) (by unfold maxLen; omega) (by omega) (by have := D5.out.size; first | exact this | (simp; omega)) _ rfl ?_; intro g6 c6 w6 hown6 hgrow6 hat6 hlt6; have D6 : Hid (Below w2.heap.size w2 w6) := (by first | exact Below.grown D5.out hgrow6 D5.out.size (fun k hk => (owns_lt O5.out k hk).1) | exact Below.grown (D5.out.alloc D5.out.size _) hgrow6 (by have := D5.out.size; simp; omega) (fun k hk => (owns_lt O5.out k hk).1)); have X6 : Hid (w6.cell? ⟨w.heap.size, 0, none⟩ = some (.slice bT t.length cT)) := (CC.out _ (H2.out.trans (D6.out.mono H2.out.size))).1; have O6 : Hid (World.ownsRow _ _ _ _ _ _ _) := hown6; clear hown6)))
    all_goals
      go_wp2_with fail
      go_meet
      exact ⟨g6, c6, rfl, by rw [ndCells_append]; exact O6.out, by first | exact D6.out | exact D6.out.drew⟩
  case rest =>
    obtain ⟨g3, c3, rfl, ho3, hb3⟩ := hcut
    generalize wc = w3 at *
    have O3 : Hid (World.ownsRow _ _ _ _ _ _ _) := ho3
    have D3 : Hid (Below w2.heap.size w2 w3) := hb3
    have H3 : Hid (Below W1.heap.size W1 w3) := H2.out.trans (hb3.mono H2.out.size)
    have H3d : Hid (Below W1.heap.size W1 w3.drew) := H3.out.drew
    clear ho3 hb3 hmk e0 e1' e2 lt2 e1 htl BA BA2 BB BB2 BC BC2 F2 F3 OM1 OM2 OM3 H2d hi0 hz0 hz1 hz2
    obtain ⟨e0, e1, e2⟩ := CC.out _ H3.out
    have lt3 := (BL.out _ H3.out).2
    obtain ⟨j0, hj0, hy0, hy1, hy2⟩ := info_parts in_info
    have hmk : ∀ w : World, (Instr.makeSlice 23 (.int .i64 0) (.int .i64 ((W.length : Int) + 1))).run Try.prog w = .ok (.slice (some ⟨w.heap.size, 0, none⟩) 0 (W.length + 1)) (w.alloc (.cells (madeCells #[.int .i64 0] (W.length + 1)) 3)) := fun w => by
      have := run_make_room (P := Try.prog) 23 3 (.int .i64 0) 1 8 ins_under in_info (W.length + 1) (by omega) (by omega) w
      simpa [Value.cells] using this
    have hwl : (0 : Int) ≤ (W.length : Int) := Int.natCast_nonneg _
    have e5 : IntKind.i64.wrap ((W.length : Int) + 1) = (W.length : Int) + 1 := by rw [IntKind.wrap_i64] <;> omega
    have t0 : (0 : Int) ≤ (t.length : Int) := Int.natCast_nonneg _
    have t1 : (t.length : Int) ≤ (c3 : Int) := by
      obtain ⟨g', cp', hv', -, -, hc', -⟩ := owns_some O3.out (by omega)
      injection hv' with _ _ hv'
      omega
    have BA : Hid (∀ o, Below W1.heap.size W1 (w3.drew.alloc o)) := fun o => H3d.out.alloc H3d.out.size o
    have BA2 : Hid (∀ o o', Below W1.heap.size W1 ((w3.drew.alloc o).alloc o')) := fun o o' => (BA.out o).alloc (BA.out o).size o'
    have F3 : Hid (((w3.alloc (.cells (madeCells #[.int .i64 0] (W.length + 1)) 3)).alloc (.cells #[.int .i64 77] 3)).drew.heap[w3.heap.size + 1]? = some (.cells #[.int .i64 77] 3)) := heap_alloc_at (w3.alloc (.cells (madeCells #[.int .i64 0] (W.length + 1)) 3)) (.cells #[.int .i64 77] 3) _ (by simp)
    have F2 : Hid (((w3.alloc (.cells #[.int .i64 77] 3)).alloc (.cells (madeCells #[.int .i64 0] (W.length + 1)) 3)).drew.heap[w3.heap.size]? = some (.cells #[.int .i64 77] 3)) := (heap_alloc_old (w3.alloc (.cells #[.int .i64 77] 3)) (.cells (madeCells #[.int .i64 0] (W.length + 1)) 3) (by simp)).trans (heap_alloc_at w3 (.cells #[.int .i64 77] 3) _ rfl)
    have OM1 : Hid ((w3.alloc (.cells (madeCells #[.int .i64 0] (W.length + 1)) 3)).drew.ownsRow w3.heap.size 3 1 (.slice (some ⟨w3.heap.size, 0, none⟩) 0 (W.length + 1)) 0 []) := (World.ownsRow_made w3 _ (W.length + 1) (Nat.le_refl _) (by unfold maxLen; omega) (by rw [size_madeCells, Nat.mul_one])).drew
    have OM2 : Hid (((w3.alloc (.cells #[.int .i64 77] 3)).alloc (.cells (madeCells #[.int .i64 0] (W.length + 1)) 3)).drew.ownsRow w3.heap.size 3 1 (.slice (some ⟨w3.heap.size + 1, 0, none⟩) 0 (W.length + 1)) 0 []) := by
      have q := (World.ownsRow_made (base := w3.heap.size) (e := 3) (size := 1) (w3.alloc (.cells #[.int .i64 77] 3)) (madeCells #[.int .i64 0] (W.length + 1)) (W.length + 1) (by simp) (by unfold maxLen; omega) (by rw [size_madeCells, Nat.mul_one])).drew
      rw [World.size_alloc] at q
      exact q
    have OM3 : Hid (((w3.alloc (.cells (madeCells #[.int .i64 0] (W.length + 1)) 3)).alloc (.cells #[.int .i64 77] 3)).drew.ownsRow w3.heap.size 3 1 (.slice (some ⟨w3.heap.size, 0, none⟩) 0 (W.length + 1)) 0 []) := ((World.ownsRow_made w3 _ (W.length + 1) (Nat.le_refl _) (by unfold maxLen; omega) (by rw [size_madeCells, Nat.mul_one])).alloc _).drew
    have BC : Hid (∀ o, Below w3.heap.size w3 (w3.alloc o).drew) := fun o => (below_alloc _ o).drew
    have BC2 : Hid (∀ o o', Below w3.heap.size w3 ((w3.alloc o).alloc o').drew) := fun o o' => ((below_alloc _ o).alloc (below_alloc _ o).size o').drew
    go_upto_region 5 with fail
    go_cut [5] from 61 to 70 (fun c wx => ∃ g cp, c = .slice (some ⟨g, 0, none⟩) (W.length + 1) cp ∧ wx.ownsRow w3.heap.size 3 1 (.slice (some ⟨g, 0, none⟩) (W.length + 1) cp) (W.length + 1) (isC (W ++ [77])) ∧ Below w3.heap.size w3 wx)
    case first =>
      go_wp2_with fail
      go_region_held3 (fun w' => w'.cell? ⟨w.heap.size, 1, none⟩ = some (.slice bk W.length ck))
        (first | (with_reducible exact X5.out) | (with_reducible exact X6.out) | go_keep)
        (first
          | ((refine step_append_all (by rfl) _ _ _ (by rfl) w3.heap.size 3 j0 _ 1 8 ins_under hj0 hy0 hy1 hy2 rfl (by omega) (.slice (some ⟨_, 0, none⟩) 0 (W.length + 1)) 0 [] (by rfl) (by first | exact OM1.out | exact OM2.out | exact OM3.out) bk W.length ck (isC W) (by rfl) HWN.out (by rw [isC_length]; omega) (ws_news (NW.out _ (by first | exact BA.out _ | exact BA2.out _ _))) (isC_all _) (by unfold maxLen; omega) (by omega) (by first | (simp; done) | (simp; omega)) ?_; intro v5 w5 hown5 hgrow5 hiff5; have D5 : Hid (Below w3.heap.size w3 w5) := (by first | exact Below.grown (BC.out _) hgrow5 (BC.out _).size (by intro k hk; simp [Value.ownBlock] at hk; omega) | exact Below.grown (BC2.out _ _) hgrow5 (BC2.out _ _).size (by intro k hk; simp [Value.ownBlock] at hk; omega)); have X5 : Hid (w5.cell? ⟨w.heap.size, 1, none⟩ = some (.slice bk W.length ck)) := (CC.out _ (H3.out.trans (D5.out.mono H3.out.size))).2.1; rw [Nat.zero_add, List.nil_append] at hown5; have O5 : Hid (World.ownsRow _ _ _ _ _ _ _) := hown5; clear hown5))
          | ((refine step_append_lies _ (by rfl) _ _ _ (by rfl) w3.heap.size 3 j0 _ 1 8 ins_under hj0 hy0 hy1 hy2 rfl (by omega) _ W.length (isC W) (by rfl) (by first | exact O5.out | exact O5.out.alloc _) _ 1 1 [.int .i64 77] (by rfl) (by rfl) (by first | exact news_kept hgrow5 F3.out (by intro q; simp [Value.ownBlock] at q) | exact news_kept hgrow5 F2.out (by intro q; simp [Value.ownBlock] at q) | exact World.news_of_block (cs := #[.int .i64 77]) (t := 3) (fr := (0, 0)) (heap_alloc_at _ _ _ (by simp))) (by simp [Value.oneCell']) (by omega) (by unfold maxLen; omega) (by omega) (by have := D5.out.size; first | exact this | (simp; omega)) _ rfl ?_; intro g6 c6 w6 hown6 hgrow6 hat6 hlt6; have D6 : Hid (Below w3.heap.size w3 w6) := (by first | exact Below.grown D5.out hgrow6 D5.out.size (fun k hk => (owns_lt O5.out k hk).1) | exact Below.grown (D5.out.alloc D5.out.size _) hgrow6 (by have := D5.out.size; simp; omega) (fun k hk => (owns_lt O5.out k hk).1)); have X6 : Hid (w6.cell? ⟨w.heap.size, 1, none⟩ = some (.slice bk W.length ck)) := (CC.out _ (H3.out.trans (D6.out.mono H3.out.size))).2.1; have O6 : Hid (World.ownsRow _ _ _ _ _ _ _) := hown6; clear hown6)))
      all_goals
        go_wp2_with fail
        go_meet
        exact ⟨g6, c6, rfl, by rw [isC_append]; exact O6.out, by first | exact D6.out | exact D6.out.drew⟩
    case rest =>
      obtain ⟨g5, c5, rfl, ho5, hb5⟩ := hcut
      generalize wc = w5 at *
      have hc3 : t.length + 1 ≤ c3 := by
        obtain ⟨g', cp', hv', -, -, hc', -⟩ := owns_some O3.out (by omega)
        injection hv' with _ _ hv'
        omega
      have hc5 : W.length + 1 ≤ c5 := by
        obtain ⟨g', cp', hv', -, -, hc', -⟩ := owns_some ho5 (by omega)
        injection hv' with _ _ hv'
        omega
      have H5 : Hid (Below W1.heap.size W1 w5) := H3.out.trans (hb5.mono H3.out.size)
      have OT : Hid (∀ z, Below w5.heap.size w5 z → z.ownsRow w2.heap.size 81 6 (.slice (some ⟨g3, 0, none⟩) (t.length + 1) c3) (t.length + 1) (ndCells (t ++ [n77]))) := fun z hz => owns_below (owns_below O3.out hb5) hz
      have OW : Hid (∀ z, Below w5.heap.size w5 z → z.ownsRow w3.heap.size 3 1 (.slice (some ⟨g5, 0, none⟩) (W.length + 1) c5) (W.length + 1) (isC (W ++ [77]))) := fun z hz => owns_below ho5 hz
      have N5 : Hid (∀ z, Below w5.heap.size w5 z → NodesAt z (some ⟨g3, 0, none⟩) g3 0 t) := fun z hz => by
        have q := owns_cut (OT.out z hz) t.length (by omega)
        rw [ndCells_append, ← ndCells_length t, List.take_left] at q
        exact nodes_row q
      have S5 : Hid (∀ z, Below w5.heap.size w5 z → WsAt z (some ⟨g5, 0, none⟩) g5 0 W) := fun z hz => by
        have q := owns_cut (OW.out z hz) W.length (by omega)
        rw [isC_append, Nat.mul_one, show W.length = (isC W).length from (isC_length W).symm, List.take_left, isC_length] at q
        exact ws_row q
      have HB5 : Hid (∀ z, Below w5.heap.size w5 z → Below W1.heap.size W1 z) := fun z hz => H5.out.trans (hz.mono H5.out.size)
      have glt3 := (owns_lt (OT.out _ (Below.refl _ _)) g3 rfl).2
      have glt5 := (owns_lt (OW.out _ (Below.refl _ _)) g5 rfl).2
      clear ho5 hb5 hmk e0 e1 e2 lt3 BA BA2 BC BC2 F2 F3 OM1 OM2 OM3 H3d D3 hj0 hy0 hy1 hy2 O3
      have HMB : Hid (NB w w5 bT bk b o cT gk ok ck g3 c3 g5 c5 t W key) := ⟨HTN.out, hTb, hWb, hc3, hc5, fun z hz => NT.out z (HB5.out z hz), fun z hz => NW.out z (HB5.out z hz), fun z hz => CC.out z (HB5.out z hz), fun z hz => BL.out z (HB5.out z hz), fun z hz => owns_down (OT.out z hz) (by have := (BL.out _ H2.out).2; omega), fun z hz => owns_down (OW.out z hz) (by have := (BL.out _ H3.out).2; omega), glt3, glt5⟩
      obtain ⟨U, hU⟩ : ∃ U, U = normL t := ⟨_, rfl⟩
      obtain ⟨KR, hKR⟩ : ∃ K, K = (if formE t = 0 then rdK t else []) := ⟨_, rfl⟩
      obtain ⟨Q, hQ⟩ : ∃ Q, Q = (wkL t key).map fun x : Nat => (x : Int) := ⟨_, rfl⟩
      have HU : Hid (U = normL t) := hU
      have HKR : Hid (KR = if formE t = 0 then rdK t else []) := hKR
      have HQ : Hid (Q = (wkL t key).map fun x : Nat => (x : Int)) := hQ
      have HQL : Hid (Q.length = (wkL t key).length) := by show _ = _; rw [hQ]; exact List.length_map _
      clear hU hKR hQ
      have hwl2 : (0 : Int) ≤ (W.length : Int) := Int.natCast_nonneg _
      have w1' : (W.length : Int) ≤ (c5 : Int) := by omega
      obtain ⟨e0, e1, e2⟩ := CC.out _ H5.out
      have lt5 := (BL.out _ H5.out).2
      rcases (show W.length ≤ 100 ∨ (100 < W.length ∧ W.length ≤ 1000) ∨ 1000 < W.length by omega) with hl | hl | hl
      · have q1 : (W.length : Int) ≤ 1000 := by omega
        have q2 : min (W.length : Int) 100 = (W.length : Int) := by omega
        have SK : Hid (∀ z, Below w5.heap.size w5 z → WsAt z (some ⟨g5, 0, none⟩) g5 0 W) := S5
        have HKC5 : Hid (W.length ≤ c5) := by show W.length ≤ c5; omega
        clear hl
        go_wp2_with fail
        clear e0 e1 e2 lt5
        obtain ⟨LA, LM, lL, lM, eL, eM⟩ := sk_fold t W
        have HLL : Hid ((if skE t W = 0 then W.length else 0) = LA.length) := lL
        have HLM : Hid (LM.length = LA.length) := lM
        have HEL : Hid ((if skE t W = 0 then skC (skA t W) else []) = skC LA) := eL
        have HEM : Hid ((if skE t W = 0 then isC (skN t W) else []) = isC LM) := eM
        clear lL lM eL eM
        obtain ⟨e0, e1, e2⟩ := CC.out _ (HB5.out _ (Below.refl _ _))
        have lt5 := (BL.out _ (HB5.out _ (Below.refl _ _))).2
        have RR1 : Hid _ := rRound_any bT b o cT t w5 (NT.out _ (HB5.out _ (Below.refl _ _)))
        rw [← HU.out, ← HKR.out] at RR1
        go_wp2_with fail
        refine Calls.mono RR1.out ?_
        rintro e w6 ⟨v6, u6, rfl, ho6, hk6, hb6⟩
        obtain ⟨a7, c7, g7, rfl, -, -, hn6⟩ := nodes_of_owns ho6
        obtain ⟨a8, c8, g8, rfl, -, -, hs6⟩ := ws_of_owns (L := KR) hk6
        have O6 : Hid (w6.ownsRow w5.heap.size 81 6 (.slice a7 U.length c7) U.length (ndCells U)) := ho6
        have N6 : Hid (NodesAt w6 a7 g7 0 U) := hn6
        have S6 : Hid (WsAt w6 a8 g8 0 KR) := hs6
        have Y6 : Hid (Below w5.heap.size w5 w6) := hb6
        clear ho6 hk6 hn6 hs6 hb6 e0 e1 e2 lt5 RR1
        obtain ⟨e0, e1, e2⟩ := CC.out _ (HB5.out _ Y6.out)
        have lt6 := (BL.out _ (HB5.out _ Y6.out)).2
        go_wp2_with fail
        refine (rWalk_any bT b o cT t key _ (NT.out _ (HB5.out _ Y6.out))).mono ?_
        rintro e w7 ⟨v7, u7, rfl, ho7, hk7, hb7⟩
        rw [natC_isC, ← HQ.out, ← HQL.out] at ho7
        obtain ⟨a10, c10, g10, rfl, -, -, hs7⟩ := ws_of_owns ho7
        obtain ⟨a11, c11, rfl⟩ := own_slice hk7
        have O7 : Hid (w7.ownsRow w5.heap.size 81 6 (.slice a7 U.length c7) U.length (ndCells U)) := owns_below O6.out hb7
        have N7 : Hid (NodesAt w7 a7 g7 0 U) := N6.out.below hb7
        have S7 : Hid (WsAt w7 a8 g8 0 KR) := S6.out.below hb7
        have S7' : Hid (WsAt w7 a10 g10 0 Q) := hs7
        have Y7 : Hid (Below w5.heap.size w5 w7) := Y6.out.trans (hb7.mono Y6.out.size)
        clear ho7 hk7 hs7 hb7 e0 e1 e2 lt6 O6 N6 S6 Y6
        obtain ⟨e0, e1, e2⟩ := CC.out _ (HB5.out _ Y7.out)
        have lt7 := (BL.out _ (HB5.out _ Y7.out)).2
        have RR3 : Hid _ := rSeek_any bT b o cT t (some ⟨g5, 0, none⟩) g5 0 c5 W w7 (NT.out _ (HB5.out _ Y7.out)) (SK.out _ Y7.out)
        rw [HLL.out, HEL.out, HEM.out] at RR3
        go_wp2_with fail
        refine Calls.mono RR3.out ?_
        rintro e w8 ⟨v8, u8, rfl, ho8, hk8, hb8⟩
        rw [← HLM.out] at hk8
        obtain ⟨a13, c13, g13, rfl, hr8⟩ := rt_of_owns ho8 rfl
        obtain ⟨a14, c14, g14, rfl, -, -, hs8⟩ := ws_of_owns (L := LM) hk8
        have O8 : Hid (∀ z, Below w8.heap.size w8 z → z.ownsRow w5.heap.size 81 6 (.slice a7 U.length c7) U.length (ndCells U)) := fun z hz => owns_below (owns_below O7.out hb8) hz
        have N8 : Hid (∀ z, Below w8.heap.size w8 z → NodesAt z a7 g7 0 U) := fun z hz => (N7.out.below hb8).below hz
        have S8 : Hid (∀ z, Below w8.heap.size w8 z → WsAt z a8 g8 0 KR) := fun z hz => (S7.out.below hb8).below hz
        have S8' : Hid (∀ z, Below w8.heap.size w8 z → WsAt z a10 g10 0 Q) := fun z hz => (S7'.out.below hb8).below hz
        have T8 : Hid (∀ z, Below w8.heap.size w8 z → RtAt z a13 g13 LA) := fun z hz => hr8.below hz
        have S8'' : Hid (∀ z, Below w8.heap.size w8 z → WsAt z a14 g14 0 LM) := fun z hz => hs8.below hz
        have Y8 : Hid (Below w5.heap.size w5 w8) := Y7.out.trans (hb8.mono Y7.out.size)
        have Z8 : Hid (∀ z, Below w8.heap.size w8 z → Below w5.heap.size w5 z) := fun z hz => Y8.out.trans (hz.mono Y8.out.size)
        clear ho8 hk8 hr8 hs8 hb8 e0 e1 e2 lt7 O7 N7 S7 S7' Y7 RR3
        go_upto_region 13 with fail
        go_cut [17] from 108 to 108 (fun s17 wx => s17 = .slice none 0 0 ∧ Below w8.heap.size w8 wx)
        case first =>
          go_wp2_with fail
          go_meet
          exact ⟨rfl, Below.refl _ _⟩
        case rest =>
          rename_i hK
          obtain ⟨rfl, hb⟩ := hcut
          refine hK _ _ ?_
          exact mem12 w w5 bT bk b o cT gk ok ck g3 c3 g5 c5 t W key a7 a8 a10 a13 a14 c7 g7 g8 c8 g10 c10 g13 c13 g14 c14 U W KR Q LM LA wc _ _ _ _ _ _ _ _ _ _ _ _ _ _ _ _ _ _ _ _ _ _ _ _ _ _ _ _ _ _ _ _ _ _ _ _ _ _ _ _ _ _ _ _ _ _ _ _ _ _ _ _ _ _ _ _ _ _ _ _ _ _ _ _ _ _ _ _ _ _ _ _ _ _ _ _ _ _ _ _ _ _ _ _ _ _ _ _ _ _ _ _ _ _ _ _ _ _ _ _ _ _ _ _ _ _ _ _ _ _ _ _ _ _ _ _ _ _ _ _ _ _ _ _ _ _ _ _ _ _ _ _ _ _ _ _ _ _ _ _ _ _ _ _ _ _ _ _ _ _ _ _ _ _ _ _ _ _ _ _ _ _ _ _ _ _ _ _ _ _ _ _ _ _ _ _ _ _ _ _ _ _ _ _ _ _ _ _ _ _ _ _ _ _ _ _ _ _ _ _ _ _ _ _ _ _ _ _ _ _ _ _ _ _ _ _ _ _ _ _ _ _ _ _ _ _ _ _ _ _ _ _ _ _ _ _ _ _ _ _ _ _ _ _ _ _ _ _ _ _ _ _ _ _ _ _ _ _ _ _ _ _ _ _ _ _ _ _ _ _ _ _ _ _ _ _ _ _ _ _ _ _ _ _ _ _ _ _ _ _ _ _ _ _ _ _ _ _ _ _ _ _ _ _ _ _ _ _ _ _ _ _ _ _ _ _ _ _ _ _ _ _ _ _ _ _ _ _ _ _ _ _ _ _ _ _ _ _ _ _ _ _ _ _ _ _ _ _ _ _ _ _ _ _ _ _ _ _ _ _ _ _ _ _ _ _ _ _ _ _ _ HMB.out HU.out HKR.out HQ.out HLL.out HLM.out HEL.out HEM.out SK.out HKC5.out (Z8.out _ hb) (O8.out _ hb) (N8.out _ hb) (S8.out _ hb) (S8'.out _ hb) (T8.out _ hb) (S8''.out _ hb)
      · have q1 : (W.length : Int) ≤ 1000 := by omega
        have q2 : min (W.length : Int) 100 = 100 := by omega
        have q3 : (100 : Int) ≤ (c5 : Int) := by omega
        have hlen : (W.take 100).length = 100 := by rw [List.length_take]; omega
        have SK : Hid (∀ z, Below w5.heap.size w5 z → WsAt z (some ⟨g5, 0, none⟩) g5 0 (W.take 100)) := fun z hz => (S5.out z hz).take 100
        have HKC5 : Hid ((W.take 100).length ≤ c5) := by show _ ≤ _; omega
        clear hl
        generalize W.take 100 = ks at *
        have HKL : Hid (ks.length = 100) := hlen
        clear hlen
        go_wp2_with fail
        clear e0 e1 e2 lt5
        obtain ⟨LA, LM, lL, lM, eL, eM⟩ := sk_fold t ks
        have HLL : Hid ((if skE t ks = 0 then ks.length else 0) = LA.length) := lL
        have HLM : Hid (LM.length = LA.length) := lM
        have HEL : Hid ((if skE t ks = 0 then skC (skA t ks) else []) = skC LA) := eL
        have HEM : Hid ((if skE t ks = 0 then isC (skN t ks) else []) = isC LM) := eM
        clear lL lM eL eM
        obtain ⟨e0, e1, e2⟩ := CC.out _ (HB5.out _ (Below.refl _ _))
        have lt5 := (BL.out _ (HB5.out _ (Below.refl _ _))).2
        have RR1 : Hid _ := rRound_any bT b o cT t w5 (NT.out _ (HB5.out _ (Below.refl _ _)))
        rw [← HU.out, ← HKR.out] at RR1
        go_wp2_with fail
        refine Calls.mono RR1.out ?_
        rintro e w6 ⟨v6, u6, rfl, ho6, hk6, hb6⟩
        obtain ⟨a7, c7, g7, rfl, -, -, hn6⟩ := nodes_of_owns ho6
        obtain ⟨a8, c8, g8, rfl, -, -, hs6⟩ := ws_of_owns (L := KR) hk6
        have O6 : Hid (w6.ownsRow w5.heap.size 81 6 (.slice a7 U.length c7) U.length (ndCells U)) := ho6
        have N6 : Hid (NodesAt w6 a7 g7 0 U) := hn6
        have S6 : Hid (WsAt w6 a8 g8 0 KR) := hs6
        have Y6 : Hid (Below w5.heap.size w5 w6) := hb6
        clear ho6 hk6 hn6 hs6 hb6 e0 e1 e2 lt5 RR1
        obtain ⟨e0, e1, e2⟩ := CC.out _ (HB5.out _ Y6.out)
        have lt6 := (BL.out _ (HB5.out _ Y6.out)).2
        go_wp2_with fail
        refine (rWalk_any bT b o cT t key _ (NT.out _ (HB5.out _ Y6.out))).mono ?_
        rintro e w7 ⟨v7, u7, rfl, ho7, hk7, hb7⟩
        rw [natC_isC, ← HQ.out, ← HQL.out] at ho7
        obtain ⟨a10, c10, g10, rfl, -, -, hs7⟩ := ws_of_owns ho7
        obtain ⟨a11, c11, rfl⟩ := own_slice hk7
        have O7 : Hid (w7.ownsRow w5.heap.size 81 6 (.slice a7 U.length c7) U.length (ndCells U)) := owns_below O6.out hb7
        have N7 : Hid (NodesAt w7 a7 g7 0 U) := N6.out.below hb7
        have S7 : Hid (WsAt w7 a8 g8 0 KR) := S6.out.below hb7
        have S7' : Hid (WsAt w7 a10 g10 0 Q) := hs7
        have Y7 : Hid (Below w5.heap.size w5 w7) := Y6.out.trans (hb7.mono Y6.out.size)
        clear ho7 hk7 hs7 hb7 e0 e1 e2 lt6 O6 N6 S6 Y6
        obtain ⟨e0, e1, e2⟩ := CC.out _ (HB5.out _ Y7.out)
        have lt7 := (BL.out _ (HB5.out _ Y7.out)).2
        have RR3 : Hid _ := rSeek_any bT b o cT t (some ⟨g5, 0, none⟩) g5 0 c5 ks w7 (NT.out _ (HB5.out _ Y7.out)) (SK.out _ Y7.out)
        rw [HLL.out, HEL.out, HEM.out, HKL.out] at RR3
        go_wp2_with fail
        refine Calls.mono RR3.out ?_
        rintro e w8 ⟨v8, u8, rfl, ho8, hk8, hb8⟩
        rw [← HLM.out] at hk8
        obtain ⟨a13, c13, g13, rfl, hr8⟩ := rt_of_owns ho8 rfl
        obtain ⟨a14, c14, g14, rfl, -, -, hs8⟩ := ws_of_owns (L := LM) hk8
        have O8 : Hid (∀ z, Below w8.heap.size w8 z → z.ownsRow w5.heap.size 81 6 (.slice a7 U.length c7) U.length (ndCells U)) := fun z hz => owns_below (owns_below O7.out hb8) hz
        have N8 : Hid (∀ z, Below w8.heap.size w8 z → NodesAt z a7 g7 0 U) := fun z hz => (N7.out.below hb8).below hz
        have S8 : Hid (∀ z, Below w8.heap.size w8 z → WsAt z a8 g8 0 KR) := fun z hz => (S7.out.below hb8).below hz
        have S8' : Hid (∀ z, Below w8.heap.size w8 z → WsAt z a10 g10 0 Q) := fun z hz => (S7'.out.below hb8).below hz
        have T8 : Hid (∀ z, Below w8.heap.size w8 z → RtAt z a13 g13 LA) := fun z hz => hr8.below hz
        have S8'' : Hid (∀ z, Below w8.heap.size w8 z → WsAt z a14 g14 0 LM) := fun z hz => hs8.below hz
        have Y8 : Hid (Below w5.heap.size w5 w8) := Y7.out.trans (hb8.mono Y7.out.size)
        have Z8 : Hid (∀ z, Below w8.heap.size w8 z → Below w5.heap.size w5 z) := fun z hz => Y8.out.trans (hz.mono Y8.out.size)
        clear ho8 hk8 hr8 hs8 hb8 e0 e1 e2 lt7 O7 N7 S7 S7' Y7 RR3
        go_upto_region 13 with fail
        go_cut [17] from 108 to 108 (fun s17 wx => s17 = .slice none 0 0 ∧ Below w8.heap.size w8 wx)
        case first =>
          go_wp2_with fail
          go_meet
          exact ⟨rfl, Below.refl _ _⟩
        case rest =>
          rename_i hK
          obtain ⟨rfl, hb⟩ := hcut
          refine hK _ _ ?_
          rw [show (Value.slice (some ⟨g5, 0, none⟩) 100 c5) = Value.slice (some ⟨g5, 0, none⟩) ks.length c5 by rw [HKL.out]]
          exact mem12 w w5 bT bk b o cT gk ok ck g3 c3 g5 c5 t W key a7 a8 a10 a13 a14 c7 g7 g8 c8 g10 c10 g13 c13 g14 c14 U ks KR Q LM LA wc _ _ _ _ _ _ _ _ _ _ _ _ _ _ _ _ _ _ _ _ _ _ _ _ _ _ _ _ _ _ _ _ _ _ _ _ _ _ _ _ _ _ _ _ _ _ _ _ _ _ _ _ _ _ _ _ _ _ _ _ _ _ _ _ _ _ _ _ _ _ _ _ _ _ _ _ _ _ _ _ _ _ _ _ _ _ _ _ _ _ _ _ _ _ _ _ _ _ _ _ _ _ _ _ _ _ _ _ _ _ _ _ _ _ _ _ _ _ _ _ _ _ _ _ _ _ _ _ _ _ _ _ _ _ _ _ _ _ _ _ _ _ _ _ _ _ _ _ _ _ _ _ _ _ _ _ _ _ _ _ _ _ _ _ _ _ _ _ _ _ _ _ _ _ _ _ _ _ _ _ _ _ _ _ _ _ _ _ _ _ _ _ _ _ _ _ _ _ _ _ _ _ _ _ _ _ _ _ _ _ _ _ _ _ _ _ _ _ _ _ _ _ _ _ _ _ _ _ _ _ _ _ _ _ _ _ _ _ _ _ _ _ _ _ _ _ _ _ _ _ _ _ _ _ _ _ _ _ _ _ _ _ _ _ _ _ _ _ _ _ _ _ _ _ _ _ _ _ _ _ _ _ _ _ _ _ _ _ _ _ _ _ _ _ _ _ _ _ _ _ _ _ _ _ _ _ _ _ _ _ _ _ _ _ _ _ _ _ _ _ _ _ _ _ _ _ _ _ _ _ _ _ _ _ _ _ _ _ _ _ _ _ _ _ _ _ _ _ _ _ _ _ _ _ _ _ _ _ _ _ _ _ _ _ _ _ _ _ _ _ _ HMB.out HU.out HKR.out HQ.out HLL.out HLM.out HEL.out HEM.out SK.out HKC5.out (Z8.out _ hb) (O8.out _ hb) (N8.out _ hb) (S8.out _ hb) (S8'.out _ hb) (T8.out _ hb) (S8''.out _ hb)
      · have q1 : (1000 : Int) < (W.length : Int) := by omega
        have SK : Hid (∀ z, Below w5.heap.size w5 z → WsAt z (some ⟨g5, 0, none⟩) g5 0 W) := S5
        have HKC5 : Hid (W.length ≤ c5) := by show W.length ≤ c5; omega
        clear hl
        go_wp2_with fail
        clear e0 e1 e2 lt5
        obtain ⟨LA, LM, lL, lM, eL, eM⟩ := sk_fold t W
        have HLL : Hid ((if skE t W = 0 then W.length else 0) = LA.length) := lL
        have HLM : Hid (LM.length = LA.length) := lM
        have HEL : Hid ((if skE t W = 0 then skC (skA t W) else []) = skC LA) := eL
        have HEM : Hid ((if skE t W = 0 then isC (skN t W) else []) = isC LM) := eM
        clear lL lM eL eM
        obtain ⟨e0, e1, e2⟩ := CC.out _ (HB5.out _ (Below.refl _ _))
        have lt5 := (BL.out _ (HB5.out _ (Below.refl _ _))).2
        have RR1 : Hid _ := rRound_any bT b o cT t w5 (NT.out _ (HB5.out _ (Below.refl _ _)))
        rw [← HU.out, ← HKR.out] at RR1
        go_wp2_with fail
        refine Calls.mono RR1.out ?_
        rintro e w6 ⟨v6, u6, rfl, ho6, hk6, hb6⟩
        obtain ⟨a7, c7, g7, rfl, -, -, hn6⟩ := nodes_of_owns ho6
        obtain ⟨a8, c8, g8, rfl, -, -, hs6⟩ := ws_of_owns (L := KR) hk6
        have O6 : Hid (w6.ownsRow w5.heap.size 81 6 (.slice a7 U.length c7) U.length (ndCells U)) := ho6
        have N6 : Hid (NodesAt w6 a7 g7 0 U) := hn6
        have S6 : Hid (WsAt w6 a8 g8 0 KR) := hs6
        have Y6 : Hid (Below w5.heap.size w5 w6) := hb6
        clear ho6 hk6 hn6 hs6 hb6 e0 e1 e2 lt5 RR1
        obtain ⟨e0, e1, e2⟩ := CC.out _ (HB5.out _ Y6.out)
        have lt6 := (BL.out _ (HB5.out _ Y6.out)).2
        go_wp2_with fail
        refine (rWalk_any bT b o cT t key _ (NT.out _ (HB5.out _ Y6.out))).mono ?_
        rintro e w7 ⟨v7, u7, rfl, ho7, hk7, hb7⟩
        rw [natC_isC, ← HQ.out, ← HQL.out] at ho7
        obtain ⟨a10, c10, g10, rfl, -, -, hs7⟩ := ws_of_owns ho7
        obtain ⟨a11, c11, rfl⟩ := own_slice hk7
        have O7 : Hid (w7.ownsRow w5.heap.size 81 6 (.slice a7 U.length c7) U.length (ndCells U)) := owns_below O6.out hb7
        have N7 : Hid (NodesAt w7 a7 g7 0 U) := N6.out.below hb7
        have S7 : Hid (WsAt w7 a8 g8 0 KR) := S6.out.below hb7
        have S7' : Hid (WsAt w7 a10 g10 0 Q) := hs7
        have Y7 : Hid (Below w5.heap.size w5 w7) := Y6.out.trans (hb7.mono Y6.out.size)
        clear ho7 hk7 hs7 hb7 e0 e1 e2 lt6 O6 N6 S6 Y6
        obtain ⟨e0, e1, e2⟩ := CC.out _ (HB5.out _ Y7.out)
        have lt7 := (BL.out _ (HB5.out _ Y7.out)).2
        have RR3 : Hid _ := rSeek_any bT b o cT t (some ⟨g5, 0, none⟩) g5 0 c5 W w7 (NT.out _ (HB5.out _ Y7.out)) (SK.out _ Y7.out)
        rw [HLL.out, HEL.out, HEM.out] at RR3
        go_wp2_with fail
        refine Calls.mono RR3.out ?_
        rintro e w8 ⟨v8, u8, rfl, ho8, hk8, hb8⟩
        rw [← HLM.out] at hk8
        obtain ⟨a13, c13, g13, rfl, hr8⟩ := rt_of_owns ho8 rfl
        obtain ⟨a14, c14, g14, rfl, -, -, hs8⟩ := ws_of_owns (L := LM) hk8
        have O8 : Hid (∀ z, Below w8.heap.size w8 z → z.ownsRow w5.heap.size 81 6 (.slice a7 U.length c7) U.length (ndCells U)) := fun z hz => owns_below (owns_below O7.out hb8) hz
        have N8 : Hid (∀ z, Below w8.heap.size w8 z → NodesAt z a7 g7 0 U) := fun z hz => (N7.out.below hb8).below hz
        have S8 : Hid (∀ z, Below w8.heap.size w8 z → WsAt z a8 g8 0 KR) := fun z hz => (S7.out.below hb8).below hz
        have S8' : Hid (∀ z, Below w8.heap.size w8 z → WsAt z a10 g10 0 Q) := fun z hz => (S7'.out.below hb8).below hz
        have T8 : Hid (∀ z, Below w8.heap.size w8 z → RtAt z a13 g13 LA) := fun z hz => hr8.below hz
        have S8'' : Hid (∀ z, Below w8.heap.size w8 z → WsAt z a14 g14 0 LM) := fun z hz => hs8.below hz
        have Y8 : Hid (Below w5.heap.size w5 w8) := Y7.out.trans (hb8.mono Y7.out.size)
        have Z8 : Hid (∀ z, Below w8.heap.size w8 z → Below w5.heap.size w5 z) := fun z hz => Y8.out.trans (hz.mono Y8.out.size)
        clear ho8 hk8 hr8 hs8 hb8 e0 e1 e2 lt7 O7 N7 S7 S7' Y7 RR3
        go_upto_region 13 with fail
        go_cut [17] from 108 to 108 (fun s17 wx => s17 = .slice none 0 0 ∧ Below w8.heap.size w8 wx)
        case first =>
          go_wp2_with fail
          go_meet
          exact ⟨rfl, Below.refl _ _⟩
        case rest =>
          rename_i hK
          obtain ⟨rfl, hb⟩ := hcut
          refine hK _ _ ?_
          exact mem12 w w5 bT bk b o cT gk ok ck g3 c3 g5 c5 t W key a7 a8 a10 a13 a14 c7 g7 g8 c8 g10 c10 g13 c13 g14 c14 U W KR Q LM LA wc _ _ _ _ _ _ _ _ _ _ _ _ _ _ _ _ _ _ _ _ _ _ _ _ _ _ _ _ _ _ _ _ _ _ _ _ _ _ _ _ _ _ _ _ _ _ _ _ _ _ _ _ _ _ _ _ _ _ _ _ _ _ _ _ _ _ _ _ _ _ _ _ _ _ _ _ _ _ _ _ _ _ _ _ _ _ _ _ _ _ _ _ _ _ _ _ _ _ _ _ _ _ _ _ _ _ _ _ _ _ _ _ _ _ _ _ _ _ _ _ _ _ _ _ _ _ _ _ _ _ _ _ _ _ _ _ _ _ _ _ _ _ _ _ _ _ _ _ _ _ _ _ _ _ _ _ _ _ _ _ _ _ _ _ _ _ _ _ _ _ _ _ _ _ _ _ _ _ _ _ _ _ _ _ _ _ _ _ _ _ _ _ _ _ _ _ _ _ _ _ _ _ _ _ _ _ _ _ _ _ _ _ _ _ _ _ _ _ _ _ _ _ _ _ _ _ _ _ _ _ _ _ _ _ _ _ _ _ _ _ _ _ _ _ _ _ _ _ _ _ _ _ _ _ _ _ _ _ _ _ _ _ _ _ _ _ _ _ _ _ _ _ _ _ _ _ _ _ _ _ _ _ _ _ _ _ _ _ _ _ _ _ _ _ _ _ _ _ _ _ _ _ _ _ _ _ _ _ _ _ _ _ _ _ _ _ _ _ _ _ _ _ _ _ _ _ _ _ _ _ _ _ _ _ _ _ _ _ _ _ _ _ _ _ _ _ _ _ _ _ _ _ _ _ _ _ _ _ _ _ _ _ _ _ _ _ _ _ _ _ _ HMB.out HU.out HKR.out HQ.out HLL.out HLM.out HEL.out HEM.out SK.out HKC5.out (Z8.out _ hb) (O8.out _ hb) (N8.out _ hb) (S8.out _ hb) (S8'.out _ hb) (T8.out _ hb) (S8''.out _ hb)
end Go.Proofs.Ythdfpddijocfkaa







namespace Go.Proofs.Ythdfpddijocfkaa

open Go.ChangeShapes Go.WideShapes Go.ChangeAt Go.RowKit Go.Deep

theorem struct6x {P : Program} {H : Type} {enc : TypeId × Value → H} {w : World} {base : Nat} {spare : Nat → Bool} {held : Bool} {t : TypeId} {f0 f1 f2 f3 f4 f5 : Field} {fuel : Nat} {cs : List Value} {x : DataW H × List MemPlace} (ht : P.underlying t = some (.struct #[f0, f1, f2, f3, f4, f5])) (h : DataW.trod enc P w base spare held fuel t cs = some x) :
    ∃ y0 y1 y2 y3 y4 y5 n, x.1 = .agg [y0.1, y1.1, y2.1, y3.1, y4.1, y5.1] ∧ cs.length = P.cellsOf t ∧ DataW.trod enc P w base spare held n f0.type ((cs.drop f0.offset).take (P.cellsOf f0.type)) = some y0 ∧
      DataW.trod enc P w base spare held n f1.type ((cs.drop f1.offset).take (P.cellsOf f1.type)) = some y1 ∧ DataW.trod enc P w base spare held n f2.type ((cs.drop f2.offset).take (P.cellsOf f2.type)) = some y2 ∧
      DataW.trod enc P w base spare held n f3.type ((cs.drop f3.offset).take (P.cellsOf f3.type)) = some y3 ∧ DataW.trod enc P w base spare held n f4.type ((cs.drop f4.offset).take (P.cellsOf f4.type)) = some y4 ∧ DataW.trod enc P w base spare held n f5.type ((cs.drop f5.offset).take (P.cellsOf f5.type)) = some y5 := by
  obtain ⟨xs, n, _, rfl, hl, hlen, hf⟩ := DataW.trod_struct ht h
  match xs, hlen with
  | [y0, y1, y2, y3, y4, y5], _ => exact ⟨y0, y1, y2, y3, y4, y5, n, by simp, hl, by simpa using hf 0 f0 rfl, by simpa using hf 1 f1 rfl, by simpa using hf 2 f2 rfl, by simpa using hf 3 f3 rfl, by simpa using hf 4 f4 rfl, by simpa using hf 5 f5 rfl⟩
theorem nccase : Try.prog.cellsOf 25 = 6 := by kernel_rfl
section

variable {H : Type} {enc : TypeId × Value → H} {w : World}

theorem open_ks {n : Nat} {cs : List Value} {x : DataW H × List MemPlace} (h : DataW.trod enc Try.prog w 0 (fun _ => true) true n 23 cs = some x) :
    ∃ (a0 : Option Addr) (cap g o : Nat) (L : List Int), cs = [.slice a0 L.length cap] ∧ WsAt w a0 g o L ∧ (a0 = none → L.length = 0 ∧ cap = 0) ∧ L.length ≤ cap ∧ ((x.1.weights Try.prog 23).all (· ≤ reachBytes) = true → L.length * 8 ≤ 140737488351232) := by
  rcases open_slice Try.underlying23 h with ⟨hcs, _⟩ | ⟨a, len, cap, m, n, D, Pl, hcs, _, hl, hm, hme, hx, hel⟩
  · exact ⟨none, 0, 0, 0, [], by simpa using hcs, ⟨fun h => absurd rfl h, fun h => absurd rfl h, fun i hi => by simp at hi, by simp⟩, fun _ => ⟨rfl, rfl⟩, Nat.le_refl _, fun _ => by simp⟩
  · simp at hme
    subst hme
    have hw : ∀ k, k ≤ len → (x.1.weights Try.prog 23).all (· ≤ reachBytes) = true → k * 8 ≤ 140737488351232 := by
      intro k hk hwt
      rw [hx] at hwt
      simp only [DataW.weights, Try.underlying23, bin, List.all_cons, Bool.and_eq_true, decide_eq_true_eq] at hwt
      have := hwt.1
      simp [reachBytes] at this
      omega
    by_cases hlen : len = 0
    · subst hlen
      exact ⟨some a, m, 0, 0, [], hcs, ⟨fun h => absurd rfl h, fun h => absurd rfl h, fun i hi => by simp at hi, by simp⟩, (fun h => by cases h), Nat.zero_le _, fun _ => by simp⟩
    · have key : ∀ i, i < m → ∃ d : Int, w.cell? (a.add i) = some (.int .i64 d) := by
        intro i hi
        obtain ⟨cs, h1, h2⟩ := hel i hi
        rw [ci] at h1
        obtain ⟨a0, e0, _, _⟩ := DataW.trod_int Try.underlying3 h2
        subst e0
        obtain ⟨_, _, hcell⟩ := World.cells?_some h1
        have e0 := hcell 0 (by omega)
        rw [Deep.add_add] at e0
        exact ⟨a0, by simpa using e0⟩
      obtain ⟨f, hf⟩ := choose_lt key
      obtain ⟨b, o, s⟩ := a
      have hs : s = none := by
        have := hf 0 (by omega)
        simpa [Addr.add] using World.cell?_spot this
      subst hs
      simp only [addr_add'] at hf
      have e : ((List.range len).map f).length = len := by simp
      refine ⟨_, m, b, o, (List.range len).map f, by rw [e]; exact hcs, ⟨fun _ => rfl, fun _ => ?_, fun i hi => ?_, by simp; omega⟩, (fun h => by cases h), by rw [e]; omega, fun hwt => by rw [e]; exact hw len (Nat.le_refl _) hwt⟩
      · exact World.block_lt_of_cell? w _ (hf 0 (by omega))
      · simp at hi
        rw [hf i (by omega)]
        simp [List.getD_eq_getElem?_getD, List.getElem?_range hi]
theorem open_ncase {n : Nat} {cs : List Value} {x : DataW H × List MemPlace} (h : DataW.trod enc Try.prog w 0 (fun _ => true) true n 25 cs = some x) (hwt : (x.1.weights Try.prog 25).all (· ≤ reachBytes) = true) :
    ∃ (bT bw : Option Addr) (cT b o cw gw ow : Nat) (t : NL) (W : List Int) (a b' c d : Int), cs = [.slice bT t.length cT, .slice bw W.length cw, .int .i64 a, .int .i64 b', .int .i64 c, .int .i64 d] ∧ NodesAt w bT b o t ∧ (bT = none → t.length = 0 ∧ cT = 0) ∧ t.length * 48 ≤ 140737488351232 ∧ WsAt w bw gw ow W ∧ (bw = none → W.length = 0 ∧ cw = 0) ∧ W.length ≤ cw ∧ W.length * 8 ≤ 140737488351232 := by
  obtain ⟨y0, y1, y2, y3, y4, y5, m, hx, hl, g0, g1, g2, g3, g4, g5⟩ := struct6x Try.underlying25 h
  rw [nccase] at hl
  simp only [ci, cns, cis] at g0 g1 g2 g3 g4 g5
  rw [hx] at hwt
  simp only [DataW.weights, Try.underlying25, DataW.weightsEach, List.map_cons, List.map_nil, List.all_append, Bool.and_eq_true] at hwt
  match cs, hl with
  | [v0, v1, v2, v3, v4, v5], _ =>
    simp at g0 g1 g2 g3 g4 g5
    obtain ⟨bT, cT, b, o, t, e0, h1, h2, h3⟩ := open_nodes g0
    obtain ⟨bw, cw, gw, ow, W, e1, h4, h5, h5b, h6⟩ := open_ks g1
    obtain ⟨a, e2, _, _⟩ := DataW.trod_int Try.underlying3 g2
    obtain ⟨b', e3, _, _⟩ := DataW.trod_int Try.underlying3 g3
    obtain ⟨c, e4, _, _⟩ := DataW.trod_int Try.underlying3 g4
    obtain ⟨d, e5, _, _⟩ := DataW.trod_int Try.underlying3 g5
    simp at e0 e1 e2 e3 e4 e5
    exact ⟨bT, bw, cT, b, o, cw, gw, ow, t, W, a, b', c, d, by rw [e0, e1, e2, e3, e4, e5], h1, h2, h3 hwt.1, h4, h5, h5b, h6 hwt.2.1⟩
end

end Go.Proofs.Ythdfpddijocfkaa



namespace Go.Proofs.Ythdfpddijocfkaa

open Go.ChangeShapes Go.WideShapes Go.ChangeAt Go.RowKit Go.Deep

set_option maxRecDepth 100000 in
theorem nodeMemory_lifted (os : Os) (started : os.Started) (H : Type) (enc : TypeId × Value → H) :
    ReturnsInHanded {} Try.checked os 6 .any (Rows.nodeMemorySpec.pre6 enc Try.prog Try.f6 Rows.nodeMemoryRow.domain false) (Rows.nodeMemorySpec.post enc Try.prog Try.f6 false true false false) := by
  refine returnsInHanded_of_change_sized (C := Try.checked) own started (by kernel_rfl) Try.func6
    (ChangeSpec.witness6 (enc := enc) (C := Try.checked) false ⟨#[], #[.agg #[.slice none 0 0, .slice none 0 0, .int .i64 0, .int .i64 0, .int .i64 0, .int .i64 0]], []⟩ 8 (by kernel_rfl) (by kernel_rfl) (by kernel_rfl) (by kernel_rfl)) ?_
  intro W base args ds gs before hval0 hW _ hsz0 _
  have hsz : (DataW.weightsEach Try.prog (Try.f6.params.toList ++ Rows.nodeMemorySpec.plain.varTypes Try.prog) (ds ++ gs)).all (· ≤ reachBytes) = true := hsz0
  have hval : ∀ (j : Nat) t v, Try.f6.params[j]? = some t → args[j]? = some v → Value.okWide Try.prog W .any base t v := hval0
  have hW' := hW
  obtain ⟨p, q, hA0, hV, rfl, hfz, hnd⟩ := hW
  have hA : DataW.TrodAll enc Try.prog W 0 (fun _ => true) true Try.f6.params.toList args.toList ds p := hA0
  rw [Try.params6] at hA hval hsz
  obtain ⟨v0, d0, rfl, rfl, h0⟩ := trodAll_one hA
  obtain ⟨rfl, rfl⟩ := trodVars_none hV
  obtain ⟨cs, rfl, hcs⟩ := okWide_struct Try.underlying25 (hval 0 25 v0 rfl rfl)
  have k0 := h0
  have lt0 : ∀ x ∈ p, x.block < W.heap.size := by obtain ⟨m, hm⟩ := k0; exact DataW.trod_lt m _ _ _ hm
  obtain ⟨fuel0, hf0⟩ := h0
  have hw0 : (d0.weights Try.prog 25).all (· ≤ reachBytes) = true := by
    simp only [List.cons_append, DataW.weightsEach, List.all_append, Bool.and_eq_true] at hsz
    exact hsz.1
  obtain ⟨bT, bw, cT, b, o, cw, gw, ow, t, Ws, x0, x1, x2, x3, e, h1, h2, h3, h4, h5, h5b, h6⟩ := open_ncase hf0 hw0
  have hcs2 : cs = #[.slice bT t.length cT, .slice bw Ws.length cw, .int .i64 x0, .int .i64 x1, .int .i64 x2, .int .i64 x3] := by
    apply Array.ext'
    simpa [Value.cells] using e
  subst hcs2
  clear hA0 hval0
  refine (nodeMemory_any bT b o cT t bw gw ow cw Ws x0 x1 x2 x3 W h1 h2 h3 h4 h5 h6).mono fun e W' ⟨he, bel⟩ => ?_
  subst he
  exact ⟨_, rfl, _, _, _, [], _, [], hW', trodAll_mk1 (shut_bool Try.underlying4 _), trodAll_mk1 (Below.trod laidOut (by kernel_rfl) (of_decide_eq_true (by kernel_rfl)) k0 bel lt0), rfl, bel.frame _, fun h => by cases h⟩

/-- For every input NodeMemory returns true, and its argument reads as before. -/
theorem nodeMemory_proved : Rows.NodeMemorySaid :=
  OpenClaim.holds_of_wide 6 Try.f6 rfl rfl rfl rfl rfl rfl rfl ⟨rfl, rfl, rfl, rfl, rfl⟩ rfl rfl rfl rfl rfl (by kernel_rfl) Try.func6 (by kernel_rfl)
    (of_decide_eq_true (by kernel_rfl)) (by unfold Func.isWrapper; first | (rw [if_pos (by decide +kernel)]; kernel_rfl) | (rw [if_neg (by decide +kernel)]; exact ⟨rfl, rfl⟩))
    (fun os started H enc _ => nodeMemory_lifted os started H enc)
#print axioms nodeMemory_proved

end Go.Proofs.Ythdfpddijocfkaa

/- For WordApart: copy between rows of structs; a row of accesses in memory of its own; what a change elsewhere leaves. -/
import Derived.Test.YtffnoaafmaeihaaGreatRefDo3
import Derived.Test.YtffnoaafmaeihaaGreatOur
import Derived.Laws.CopyOwn
import Derived.Laws.OwnMore
namespace Go.Proofs.YtffnoaafmaeihaaGreat
open Go.RowKit

theorem run_copy_sz {P : Program} (w : World) (dT sT ty elem : TypeId) (g o dLen dCap : Nat) (a : Addr) (sLen sCap sz : Nat) (cur : Array Value) (t : TypeId) (cs : List Value)
    (hu : P.underlying dT = some (.slice elem)) (hs : (P.info? elem).map (·.size) = some sz)
    (hg : w.heap[g]? = some (.cells cur t (0, 0))) (hn : cs.length = Nat.min sLen dLen * sz)
    (hsrc : ∀ j v, cs[j]? = some v → w.cell? (a.add j) = some v) (hfit : o + cs.length ≤ cur.size) (h1 : ∀ v ∈ cs, v.oneCell' = true) :
    (Builtin.copy_ #[dT, sT] ty #[.slice (some ⟨g, o, none⟩) dLen dCap, .slice (some a) sLen sCap]).run P w =
      .ok (goInt (Nat.min sLen dLen)) (w.setRow g (cur.toList.take o ++ cs ++ cur.toList.drop (o + cs.length)).toArray) := by
  have hl := run_loadCells_list (P := P) w a cs hsrc
  have hst := run_storeCells_at P g o t cs 0 cur w hg (by simpa using hfit) h1
  cases hq : P.info? elem with
  | none => simp [hq] at hs
  | some i =>
    have hi : i.size = sz := by simpa [hq] using hs
    simp [Builtin.copy_, run_underlying hu, Builtin.lenOf, Builtin.firstCells, sizeOf, typeInfo, hq, hi, ← hn, hl, hst]
theorem run_copy_zero {P : Program} (w : World) (dT sT ty elem : TypeId) (d a : Option Addr) (dLen dCap sLen sCap sz : Nat) (hu : P.underlying dT = some (.slice elem)) (hs : (P.info? elem).map (·.size) = some sz) (hn : Nat.min sLen dLen = 0) :
    (Builtin.copy_ #[dT, sT] ty #[.slice d dLen dCap, .slice a sLen sCap]).run P w = .ok (goInt 0) w := by
  cases hq : P.info? elem with
  | none => simp [hq] at hs
  | some i =>
    have hl : ∀ (x : Addr), (loadCells x 0).run P w = .ok #[] w := fun x => by simpa using run_loadCells_list (P := P) w x [] (by simp)
    cases d <;> cases a <;> simp [Builtin.copy_, run_underlying hu, Builtin.lenOf, Builtin.firstCells, sizeOf, typeInfo, hq, hn, storeCells, hl]
/-- copy to the head of a row that is known whole: the first cells are the source's, the others stay. -/
theorem run_copy_head {P : Program} {w : World} (dT sT ty elem : TypeId) (sz : Nat) (hu : P.underlying dT = some (.slice elem)) (hsz : (P.info? elem).map (·.size) = some sz)
    (sp : Option Addr) (dLen dCap sLen sCap g : Nat) (hle : sLen ≤ dLen) (cur : List Value) (t : TypeId) (hg : w.heap[g]? = some (.cells cur.toArray t (0, 0))) (cs : List Value) (hn : cs.length = sLen * sz)
    (hpos : sLen ≠ 0 → ∃ ad, sp = some ad ∧ ∀ j v, cs[j]? = some v → w.cell? (ad.add j) = some v)
    (hfit : cs.length ≤ cur.length) (h1 : ∀ v ∈ cs, v.oneCell' = true) (B : Nat) (w0 : World) (hb : Below B w0 w) (hBg : B ≤ g) :
    ∃ w', (Builtin.copy_ #[dT, sT] ty #[.slice (some ⟨g, 0, none⟩) dLen dCap, .slice sp sLen sCap]).run P w = .ok (goInt sLen) w' ∧ w'.heap[g]? = some (.cells (cs ++ cur.drop cs.length).toArray t (0, 0)) ∧ w'.heap.size = w.heap.size ∧ Below B w0 w' := by
  have hmin : Nat.min sLen dLen = sLen := Nat.min_eq_left hle
  by_cases h0 : sLen = 0
  · subst h0
    obtain rfl : cs = [] := List.eq_nil_of_length_eq_zero (by simpa using hn)
    exact ⟨w, run_copy_zero (P := P) w dT sT ty elem (some ⟨g, 0, none⟩) sp dLen dCap 0 sCap sz hu hsz hmin, by simpa using hg, rfl, hb⟩
  · obtain ⟨ad, rfl, hsrc⟩ := hpos h0
    have hrun := run_copy_sz (P := P) w dT sT ty elem g 0 dLen dCap ad sLen sCap sz cur.toArray t cs hu hsz hg (by rw [hmin]; exact hn) hsrc (by simpa using hfit) h1
    rw [hmin] at hrun
    exact ⟨_, hrun, by simpa using setRow_heap w g _ _ t _ hg, by simp [World.setRow], below_setRow hb hBg _⟩

/-- m accesses lie in block g, none frozen. -/
def Row3 (w : World) (g m : Nat) (K A C : Nat → Int) : Prop := ∀ i, i < m → (w.cell? ⟨g, i * 3, none⟩ = some (.int .i64 (K i)) ∧ w.cell? ⟨g, i * 3 + 1, none⟩ = some (.int .u64 (A i)) ∧ w.cell? ⟨g, i * 3 + 2, none⟩ = some (.int .u64 (C i))) ∧ w.frozen? ⟨g, i * 3 + 1, none⟩ = false
theorem Row3.off {w w' : World} {g m b : Nat} {K A C : Nat → Int} (h : Row3 w g m K A C) (hg : g < w.heap.size) (ho : Off b w w') (hb : g ≠ b) : Row3 w' g m K A C := fun i hi =>
  ⟨⟨(ho.cell (p := ⟨g, _, none⟩) hg hb).trans (h i hi).1.1, (ho.cell (p := ⟨g, _, none⟩) hg hb).trans (h i hi).1.2.1, (ho.cell (p := ⟨g, _, none⟩) hg hb).trans (h i hi).1.2.2⟩, (ho.frozen (p := ⟨g, _, none⟩) hg hb).trans (h i hi).2⟩
theorem Row3.below {w w' : World} {g m : Nat} {K A C : Nat → Int} (h : Row3 w g m K A C) (hg : g < w.heap.size) (hb : Below w.heap.size w w') : Row3 w' g m K A C := h.off (b := w.heap.size) hg (Off.of_below hb) (by omega)
theorem Row3.set {w : World} {g m j : Nat} {K A C : Nat → Int} (h : Row3 w g m K A C) (hj : j < m) (v : Int) : Row3 (w.setCell ⟨g, j * 3 + 1, none⟩ (.int .u64 v)) g m K (fun i => if i = j then v else A i) C := by
  intro i hi
  obtain ⟨⟨a, b, c⟩, d⟩ := h i hi
  refine ⟨⟨?_, ?_, ?_⟩, by simpa using d⟩
  · rw [World.cell?_setCell_other _ _ _ _ (addr_ne (by omega))]; exact a
  · by_cases e : i = j
    · subst e
      rw [World.cell?_setCell_same _ _ _ b]; simp
    · rw [World.cell?_setCell_other _ _ _ _ (addr_ne (by omega))]; simp only [if_neg e]; exact b
  · rw [World.cell?_setCell_other _ _ _ _ (addr_ne (by omega))]; exact c
theorem Row3.acts {w : World} {g m n : Nat} {K A C : Nat → Int} (h : Row3 w g m K A C) (hg : g < w.heap.size) (hn : n ≤ m) (hU : ∀ i, i < n → U64 (A i) ∧ U64 (C i)) (hl : n ≤ maxLen) : Acts w (some ⟨g, 0, none⟩) g 0 n K A C :=
  ⟨fun _ => rfl, fun _ => hg, fun i hi => by rw [Nat.zero_add]; exact (h i (by omega)).1, hU, hl⟩
theorem OutsAt.off {w w' : World} {base : Option Addr} {g n b : Nat} {O : Nat → Int} {V : Nat → Bool} (h : OutsAt w base g n O V) (ho : Off b w w') (hb : n ≠ 0 → g ≠ b) : OutsAt w' base g n O V :=
  ⟨h.base, fun hn => Nat.lt_of_lt_of_le (h.lt hn) ho.size, fun j hj => ⟨(ho.cell (p := ⟨g, _, none⟩) (h.lt (by omega)) (hb (by omega))).trans (h.cells j hj).1, (ho.cell (p := ⟨g, _, none⟩) (h.lt (by omega)) (hb (by omega))).trans (h.cells j hj).2⟩⟩
theorem NumsAt.off {w w' : World} {base : Option Addr} {g n b : Nat} {O : Nat → Int} (h : NumsAt w base g n O) (ho : Off b w w') (hb : n ≠ 0 → g ≠ b) : NumsAt w' base g n O :=
  ⟨h.base, fun hn => Nat.lt_of_lt_of_le (h.lt hn) ho.size, fun j hj => (ho.cell (p := ⟨g, _, none⟩) (h.lt (by omega)) (hb (by omega))).trans (h.cells j hj)⟩
theorem Off.set {b : Nat} {w w1 : World} (h : Off b w w1) (o : Nat) (v : Value) : Off b w (w1.setCell ⟨b, o, none⟩ v) :=
  h.trans ⟨rfl, rfl, rfl, by simp [World.setCell], fun k _ hn => Below.heap_setCell _ _ _ _ hn⟩
/-- Numbers that end with zeros. -/
def pad (f : Nat → Int) (n : Nat) : Nat → Int := fun i => if i < n then f i else 0
theorem actCells_one (dk da db : Nat → Int) : ∀ n, ∀ v ∈ actCells dk da db n, v.oneCell' = true
  | 0, v, h => by simp [actCells] at h
  | n + 1, v, h => by
    simp only [actCells, List.mem_append] at h
    rcases h with h | h
    · exact actCells_one dk da db n v h
    · simp at h
      rcases h with rfl | rfl | rfl <;> rfl
theorem acts_news {w : World} {base : Option Addr} {g n : Nat} {dk da db : Nat → Int} (h : Acts w base g 0 n dk da db) (hn : n ≠ 0) : ∃ ad, base = some ad ∧ ∀ j v, (actCells dk da db n)[j]? = some v → w.cell? (ad.add j) = some v := by
  refine ⟨⟨g, 0, none⟩, h.base hn, fun j v hj => ?_⟩
  have hl : j < n * 3 := by have := (List.getElem?_eq_some_iff.1 hj).1; rw [actCells_length] at this; exact this
  have ha : (⟨g, 0, none⟩ : Addr).add j = ⟨g, j, none⟩ := by
    unfold Addr.add
    split
    · rename_i q; rw [q]
    · simp
  rw [ha]
  obtain ⟨x, y, z⟩ := h.cells (j / 3) (by omega)
  obtain ⟨x', y', z'⟩ := actCells_get dk da db n (j / 3) (by omega)
  simp only [Nat.zero_add] at x y z
  have hm : j % 3 = 0 ∨ j % 3 = 1 ∨ j % 3 = 2 := by omega
  rcases hm with e | e | e
  · have q : j / 3 * 3 = j := by omega
    rw [q] at x x'
    rw [x]; rw [x'] at hj; exact hj
  · have q : j / 3 * 3 + 1 = j := by omega
    rw [q] at y y'
    rw [y]; rw [y'] at hj; exact hj
  · have q : j / 3 * 3 + 2 = j := by omega
    rw [q] at z z'
    rw [z]; rw [z'] at hj; exact hj
theorem row3_of_block {w : World} {g n : Nat} {dk da db : Nat → Int} {t : TypeId} (h : w.heap[g]? = some (.cells (actCells dk da db n ++ (madeCells #[.int .i64 0, .int .u64 0, .int .u64 0] ((n + 5) * 3)).toList.drop (actCells dk da db n).length).toArray t (0, 0))) :
    Row3 w g (n + 5) (pad dk n) (pad da n) (pad db n) := by
  intro i hi
  have hl := actCells_length dk da db n
  have hc : ∀ j, w.cell? ⟨g, j, none⟩ = (actCells dk da db n ++ (madeCells #[.int .i64 0, .int .u64 0, .int .u64 0] ((n + 5) * 3)).toList.drop (actCells dk da db n).length)[j]? := fun j => by simp [World.cell?, h]
  refine ⟨?_, by simp [World.frozen?, h]⟩
  rw [hc, hc, hc]
  unfold pad
  by_cases q : i < n
  · rw [List.getElem?_append_left (by omega), List.getElem?_append_left (by omega), List.getElem?_append_left (by omega), if_pos q, if_pos q, if_pos q]
    exact actCells_get dk da db n i q
  · have hz : ∀ j, j < (n + 5) * 3 → (madeCells #[.int .i64 0, .int .u64 0, .int .u64 0] ((n + 5) * 3)).toList[j]? = some (#[Value.int .i64 0, .int .u64 0, .int .u64 0][j % 3]!) := fun j hj => by simp [madeCells, hj]
    rw [List.getElem?_append_right (by omega), List.getElem?_append_right (by omega), List.getElem?_append_right (by omega), if_neg q, if_neg q, if_neg q, List.getElem?_drop, List.getElem?_drop, List.getElem?_drop, hl, hz _ (by omega), hz _ (by omega), hz _ (by omega)]
    refine ⟨?_, ?_, ?_⟩
    · rw [show (n * 3 + (i * 3 - n * 3)) % 3 = 0 by omega]; rfl
    · rw [show (n * 3 + (i * 3 + 1 - n * 3)) % 3 = 1 by omega]; rfl
    · rw [show (n * 3 + (i * 3 + 2 - n * 3)) % 3 = 2 by omega]; rfl
theorem act_neq (a b c : Int) (w : World) : (binOp .neq 42 (.agg #[.int .i64 a, .int .u64 b, .int .u64 c]) (.agg #[.int .i64 a, .int .u64 b, .int .u64 c])).run Tryz.prog w = .ok (.bool false) w := by
  have u3 := Tryz.underlying3
  have a3 := Tryz.isAgg3
  have z3 := Tryz.sizeOf3
  have u4 := Tryz.underlying22
  have a4 := Tryz.isAgg22
  have z4 := Tryz.sizeOf22
  have hS : Tryz.prog.underlying 42 = some (.struct (Tryz.prog.fieldsOf 42)) := by kernel_rfl
  have hp : Tryz.prog.stoodInHeld 42 = false := by kernel_rfl
  rw [run_neq_struct, show (10000 : Nat) = 9999 + 1 from rfl, run_equalIn_agg w 9999 42 _ _ hS hp]
  simp only [Program.fieldsOf, Tryz.underlying42]
  go_simp
theorem grown_refl (w : World) (r : Option Nat) : w.grownBy w r := by constructor <;> simp

/-- append of a slice, nil or not, empty or not, to an own row. -/
theorem wpList_append_all {P : Program} {w : World} {ops : Array Oper} {rest : List Oper} {o : Oper} {a : Act} {Q : Exit → Act → World → Prop} (hgd : o.guard = none) (s x : Operand) (t : TypeId)
    (ho : o.op = .call { callee := .builtin .append, args := #[s, x], argTypes := #[t, t] })
    (base : Nat) (e : TypeId) (i : TypeInfo) (z : Value) (size bytes : Nat) (ht : P.underlying t = some (.slice e)) (hi : P.info? e = some i) (hz : i.zero = some z)
    (hsize : i.size = size) (hby : i.bytes = bytes) (hzs : z.cells.size = size) (hsz : 0 < size)
    (v : Value) (n : Nat) (xs : List Value) (hs : a.eval s = v) (hown : w.ownsRow base e size v n xs)
    (sd : Option Addr) (m c : Nat) (news : List Value) (hx : a.eval x = .slice sd m c) (hnone : sd = none → m = 0 ∧ c = 0) (hl : news.length = m * size) (hnews : ∀ ad, sd = some ad → ∀ j u, news[j]? = some u → w.cell? (ad.add j) = some u) (h1 : ∀ u ∈ news, u.oneCell' = true)
    (h63 : n + m ≤ maxLen) (hbytes : (n + m) * bytes ≤ 140737488355328) (hbase : base ≤ w.heap.size)
    (h : ∀ v' w', w'.ownsRow base e size v' (n + m) (xs ++ news) → w.grownBy w' v.ownBlock → (v' = .slice none 0 0 ↔ v = .slice none 0 0 ∧ m = 0) → wpList P ops Q rest (a.put o.dst v') w') : wpList P ops Q (o :: rest) a w := by
  refine wpList_plain hgd fun K hK => ?_
  cases sd with
  | none =>
    obtain ⟨rfl, rfl⟩ := hnone rfl
    have hrun := run_append_owned_none (P := P) (w := w) base t o.type e i size ht hi v n xs hown
    obtain rfl : news = [] := List.length_eq_zero_iff.1 (by simpa using hl)
    unfold Oper.wp
    simp [execOp, ho, resolve, invoke, builtin, hs, hx, hrun, Result.andThen]
    exact hK _ _ (h v w (by simpa using hown) (grown_refl _ _) (by simp))
  | some ad =>
    obtain ⟨v', w', hr, h2, h3, h4, _⟩ := run_append_own_at (P := P) w base t o.type e i z size bytes ht hi hz hsize hby hzs hsz v n xs hown ad m c news hl (hnews ad rfl) h1 h63 hbytes hbase
    unfold Oper.wp
    simp [execOp, ho, resolve, invoke, builtin, hs, hx, hr, Result.andThen]
    exact hK _ _ (h v' w' h2 h3 h4)

/-- m answers lie in block g, none frozen. -/
def Row2 (w : World) (g m : Nat) (O : Nat → Int) (V : Nat → Bool) : Prop := ∀ i, i < m → (w.cell? ⟨g, i * 2, none⟩ = some (.int .u64 (O i)) ∧ w.cell? ⟨g, i * 2 + 1, none⟩ = some (.bool (V i))) ∧ w.frozen? ⟨g, i * 2, none⟩ = false ∧ w.frozen? ⟨g, i * 2 + 1, none⟩ = false
theorem Row2.off {w w' : World} {g m b : Nat} {O : Nat → Int} {V : Nat → Bool} (h : Row2 w g m O V) (hg : m ≠ 0 → g < w.heap.size) (ho : Off b w w') (hb : m ≠ 0 → g ≠ b) : Row2 w' g m O V := fun i hi =>
  ⟨⟨(ho.cell (p := ⟨g, _, none⟩) (hg (by omega)) (hb (by omega))).trans (h i hi).1.1, (ho.cell (p := ⟨g, _, none⟩) (hg (by omega)) (hb (by omega))).trans (h i hi).1.2⟩, (ho.frozen (p := ⟨g, _, none⟩) (hg (by omega)) (hb (by omega))).trans (h i hi).2.1, (ho.frozen (p := ⟨g, _, none⟩) (hg (by omega)) (hb (by omega))).trans (h i hi).2.2⟩
theorem Row2.below {w w' : World} {g m : Nat} {O : Nat → Int} {V : Nat → Bool} (h : Row2 w g m O V) (hg : m ≠ 0 → g < w.heap.size) (hb : Below w.heap.size w w') : Row2 w' g m O V := h.off (b := w.heap.size) hg (Off.of_below hb) (fun q => by have := hg q; omega)
theorem Row2.set {w : World} {g m j : Nat} {O : Nat → Int} {V : Nat → Bool} (h : Row2 w g m O V) (hj : j < m) (x : Int) (y : Bool) : Row2 ((w.setCell ⟨g, j * 2, none⟩ (.int .u64 x)).setCell ⟨g, j * 2 + 1, none⟩ (.bool y)) g m (fun i => if i = j then x else O i) (fun i => if i = j then y else V i) := by
  intro i hi
  obtain ⟨⟨a, b⟩, c, d⟩ := h i hi
  refine ⟨⟨?_, ?_⟩, by simpa using c, by simpa using d⟩
  · rw [World.cell?_setCell_other _ _ _ _ (addr_ne (by omega))]
    by_cases e : i = j
    · subst e
      rw [World.cell?_setCell_same _ _ _ a]
      simp only [if_true]
    · rw [World.cell?_setCell_other _ _ _ _ (addr_ne (by omega))]
      simp only [if_neg e]; exact a
  · by_cases e : i = j
    · subst e
      have b' : (w.setCell ⟨g, i * 2, none⟩ (.int .u64 x)).cell? ⟨g, i * 2 + 1, none⟩ = some (.bool (V i)) := by rw [World.cell?_setCell_other _ _ _ _ (addr_ne (by omega))]; exact b
      rw [World.cell?_setCell_same _ _ _ b']
      simp only [if_true]
    · rw [World.cell?_setCell_other _ _ _ _ (addr_ne (by omega)), World.cell?_setCell_other _ _ _ _ (addr_ne (by omega))]
      simp only [if_neg e]; exact b
/-- m numbers lie in block g, none frozen. -/
def Row1 (w : World) (g m : Nat) (O : Nat → Int) : Prop := ∀ i, i < m → w.cell? ⟨g, i, none⟩ = some (.int .u64 (O i)) ∧ w.frozen? ⟨g, i, none⟩ = false
theorem Row1.off {w w' : World} {g m b : Nat} {O : Nat → Int} (h : Row1 w g m O) (hg : m ≠ 0 → g < w.heap.size) (ho : Off b w w') (hb : m ≠ 0 → g ≠ b) : Row1 w' g m O := fun i hi =>
  ⟨(ho.cell (p := ⟨g, _, none⟩) (hg (by omega)) (hb (by omega))).trans (h i hi).1, (ho.frozen (p := ⟨g, _, none⟩) (hg (by omega)) (hb (by omega))).trans (h i hi).2⟩
theorem Row1.below {w w' : World} {g m : Nat} {O : Nat → Int} (h : Row1 w g m O) (hg : m ≠ 0 → g < w.heap.size) (hb : Below w.heap.size w w') : Row1 w' g m O := h.off (b := w.heap.size) hg (Off.of_below hb) (fun q => by have := hg q; omega)
theorem Row1.set {w : World} {g m j : Nat} {O : Nat → Int} (h : Row1 w g m O) (hj : j < m) (x : Int) : Row1 (w.setCell ⟨g, j, none⟩ (.int .u64 x)) g m (fun i => if i = j then x else O i) := by
  intro i hi
  obtain ⟨a, c⟩ := h i hi
  refine ⟨?_, by simpa using c⟩
  by_cases e : i = j
  · subst e
    rw [World.cell?_setCell_same _ _ _ a]
    simp only [if_true]
  · rw [World.cell?_setCell_other _ _ _ _ (addr_ne (by omega))]
    simp only [if_neg e]; exact a
theorem Row2.outs {w : World} {base : Option Addr} {g m : Nat} {O : Nat → Int} {V : Nat → Bool} (h : Row2 w g m O V) (hb : m ≠ 0 → base = some ⟨g, 0, none⟩) (hl : m ≠ 0 → g < w.heap.size) : OutsAt w base g m O V := ⟨hb, hl, fun j hj => (h j hj).1⟩
theorem Row1.nums {w : World} {base : Option Addr} {g m : Nat} {O : Nat → Int} (h : Row1 w g m O) (hb : m ≠ 0 → base = some ⟨g, 0, none⟩) (hl : m ≠ 0 → g < w.heap.size) : NumsAt w base g m O := ⟨hb, hl, fun j hj => (h j hj).1⟩

theorem outs_of_owns2 {w : World} {B : Nat} {e : TypeId} {v : Value} {n : Nat} {O : Nat → Int} {V : Nat → Bool} (h : w.ownsRow B e 2 v n (outCells O V n)) : ∃ base cap g, v = .slice base n cap ∧ (n ≠ 0 → B ≤ g) ∧ OutsAt w base g n O V := by
  obtain ⟨_, h⟩ := h
  rcases h with ⟨rfl, rfl⟩ | ⟨g, cap, cur, rfl, hg, hh, h1, h2, h3, h4⟩
  · exact ⟨none, 0, 0, rfl, fun h => absurd rfl h, fun h => absurd rfl h, fun h => absurd rfl h, fun i hi => by omega⟩
  · refine ⟨_, _, g, rfl, fun _ => hg, fun _ => rfl, fun _ => (Array.getElem?_eq_some_iff.1 hh).1, fun i hi => ?_⟩
    have hc := owns_cell hh h4
    obtain ⟨a, b⟩ := outCells_get O V n i hi
    exact ⟨by rw [hc _ (by omega)]; exact a, by rw [hc _ (by omega)]; exact b⟩
theorem nums_of_owns2 {w : World} {B : Nat} {e : TypeId} {v : Value} {n : Nat} {O : Nat → Int} (h : w.ownsRow B e 1 v n (numCells O n)) : ∃ base cap g, v = .slice base n cap ∧ (n ≠ 0 → B ≤ g) ∧ NumsAt w base g n O := by
  obtain ⟨_, h⟩ := h
  rcases h with ⟨rfl, rfl⟩ | ⟨g, cap, cur, rfl, hg, hh, h1, h2, h3, h4⟩
  · exact ⟨none, 0, 0, rfl, fun h => absurd rfl h, fun h => absurd rfl h, fun h => absurd rfl h, fun i hi => by omega⟩
  · refine ⟨_, _, g, rfl, fun _ => hg, fun _ => rfl, fun _ => (Array.getElem?_eq_some_iff.1 hh).1, fun i hi => ?_⟩
    have hc := owns_cell hh h4
    rw [hc _ (by omega)]; exact numCells_get O n i hi

/-- The four calls, refused or not: how many answers, the number that stays, the error. -/
def dM (k : Int) (n : Nat) (dk : Nat → Int) : Nat := if rowErr k n dk = 0 then n else 0
def dS (k start : Int) (n : Nat) (dk da db : Nat → Int) : Int := if rowErr k n dk = 0 then st k start dk da db n else 0
def dO (k start : Int) (dk da db : Nat → Int) : Nat → Int := fun j => ov k (st k start dk da db j) (dk j) (da j)
def dV (k start : Int) (dk da db : Nat → Int) : Nat → Bool := fun j => ok k (st k start dk da db j) (dk j) (da j)
def dN (k start : Int) (dk da db : Nat → Int) : Nat → Int := fun j => st k start dk da db (j + 1)
theorem dM_le (k : Int) (n : Nat) (dk : Nat → Int) : dM k n dk ≤ 10000 := by
  unfold dM
  split
  · rename_i h; exact (rowErr_zero h).2.1
  · omega
theorem Do_uni (k start : Int) (hs : U64 start) (ab ao n cap : Nat) (dk da db : Nat → Int) (w : World) (base : Option Addr) (h : Acts w base ab ao n dk da db) :
    Calls Tryz.prog 7 #[.int .i64 k, .int .u64 start, .slice base n cap] w fun e w' => ∃ b c g, e = .returned (.tuple #[.slice b (dM k n dk) c, .int .u64 (dS k start n dk da db), .int .i64 (rowErr k n dk)]) ∧ Below w.heap.size w w' ∧ (dM k n dk ≠ 0 → b = some ⟨g, 0, none⟩ ∧ w.heap.size ≤ g ∧ g < w'.heap.size) ∧ w.heap.size ≤ g ∧ Row2 w' g (dM k n dk) (dO k start dk da db) (dV k start dk da db) := by
  by_cases he : rowErr k n dk = 0
  · refine (Do_ok k start hs ab ao n cap dk da db w base h he).mono ?_
    rintro e w' ⟨bo, rfl, q1, q2, hb, ho⟩
    unfold dM dS
    rw [if_pos he, if_pos he, he]
    refine ⟨_, _, bo, rfl, hb, fun _ => ⟨rfl, q1, q2⟩, q1, fun i hi => ?_⟩
    obtain ⟨a, b, c, d⟩ := ho i hi
    rw [if_pos hi] at a
    rw [decide_eq_true hi, Bool.true_and] at b
    exact ⟨⟨a, b⟩, c, d⟩
  · refine (Do_err k start ab ao n cap dk da db w base h he).mono ?_
    rintro e w' ⟨rfl, hb⟩
    unfold dM dS
    rw [if_neg he, if_neg he]
    exact ⟨none, 0, w.heap.size, rfl, hb, fun q => absurd rfl q, Nat.le_refl _, fun i hi => by omega⟩
theorem Steps_uni (k start : Int) (hs : U64 start) (ab ao n cap : Nat) (dk da db : Nat → Int) (w : World) (base : Option Addr) (h : Acts w base ab ao n dk da db) :
    Calls Tryz.prog 11 #[.int .i64 k, .int .u64 start, .slice base n cap] w fun e w' => ∃ b c g, e = .returned (.tuple #[.slice b (dM k n dk) c, .int .i64 (rowErr k n dk)]) ∧ Below w.heap.size w w' ∧ (dM k n dk ≠ 0 → b = some ⟨g, 0, none⟩ ∧ w.heap.size ≤ g ∧ g < w'.heap.size) ∧ w.heap.size ≤ g ∧ Row1 w' g (dM k n dk) (dN k start dk da db) := by
  by_cases he : rowErr k n dk = 0
  · refine (Steps_ok k start hs ab ao n cap dk da db w base h he).mono ?_
    rintro e w' ⟨bo, rfl, q1, q2, hb, ho⟩
    unfold dM
    rw [if_pos he, he]
    refine ⟨_, _, bo, rfl, hb, fun _ => ⟨rfl, q1, q2⟩, q1, fun i hi => ?_⟩
    obtain ⟨a, c⟩ := ho i hi
    rw [if_pos hi] at a
    exact ⟨a, c⟩
  · refine (Steps_err k start ab ao n cap dk da db w base h he).mono ?_
    rintro e w' ⟨rfl, hb⟩
    unfold dM
    rw [if_neg he]
    exact ⟨none, 0, w.heap.size, rfl, hb, fun q => absurd rfl q, Nat.le_refl _, fun i hi => by omega⟩
theorem refDo_uni (k start : Int) (hs : U64 start) (ab ao n cap : Nat) (dk da db : Nat → Int) (w : World) (base : Option Addr) (h : Acts w base ab ao n dk da db) :
    Calls Tryz.prog 6 #[.int .i64 k, .int .u64 start, .slice base n cap] w fun e w' => ∃ b c g, e = .returned (.tuple #[.slice b (dM k n dk) c, .int .u64 (dS k start n dk da db), .int .i64 (rowErr k n dk)]) ∧ Below w.heap.size w w' ∧ (dM k n dk ≠ 0 → w.heap.size ≤ g) ∧ OutsAt w' b g (dM k n dk) (dO k start dk da db) (dV k start dk da db) := by
  by_cases he : rowErr k n dk = 0
  · refine (refDo_ok k start hs ab ao n cap dk da db w base h he).mono ?_
    rintro e w' ⟨v, rfl, hb, ho⟩
    unfold dM dS
    rw [if_pos he, if_pos he, he]
    obtain ⟨b, c, g, rfl, hg, ha⟩ := outs_of_owns2 ho
    exact ⟨b, c, g, rfl, hb, hg, ha⟩
  · refine (refDo_err k start ab ao n cap dk da db w base h he).mono ?_
    rintro e w' ⟨rfl, rfl⟩
    unfold dM dS
    rw [if_neg he, if_neg he]
    exact ⟨none, 0, 0, rfl, Below.refl _ _, fun q => absurd rfl q, fun q => absurd rfl q, fun q => absurd rfl q, fun i hi => by omega⟩
theorem refSteps_uni (k start : Int) (hs : U64 start) (ab ao n cap : Nat) (dk da db : Nat → Int) (w : World) (base : Option Addr) (h : Acts w base ab ao n dk da db) :
    Calls Tryz.prog 10 #[.int .i64 k, .int .u64 start, .slice base n cap] w fun e w' => ∃ b c g, e = .returned (.tuple #[.slice b (dM k n dk) c, .int .i64 (rowErr k n dk)]) ∧ Below w.heap.size w w' ∧ (dM k n dk ≠ 0 → w.heap.size ≤ g) ∧ NumsAt w' b g (dM k n dk) (dN k start dk da db) := by
  by_cases he : rowErr k n dk = 0
  · refine (refSteps_ok k start hs ab ao n cap dk da db w base h he).mono ?_
    rintro e w' ⟨v, rfl, hb, ho⟩
    unfold dM
    rw [if_pos he, he]
    obtain ⟨b, c, g, rfl, hg, ha⟩ := nums_of_owns2 ho
    exact ⟨b, c, g, rfl, hb, hg, ha⟩
  · refine (refSteps_err k start ab ao n cap dk da db w base h he).mono ?_
    rintro e w' ⟨rfl, rfl⟩
    unfold dM
    rw [if_neg he]
    exact ⟨none, 0, 0, rfl, Below.refl _ _, fun q => absurd rfl q, fun q => absurd rfl q, fun q => absurd rfl q, fun i hi => by omega⟩
theorem Acts.congr {w : World} {base : Option Addr} {ab ao n : Nat} {dk da db ek ea eb : Nat → Int} (h : Acts w base ab ao n dk da db) (hk : ∀ i, i < n → dk i = ek i ∧ da i = ea i ∧ db i = eb i) : Acts w base ab ao n ek ea eb := by
  refine ⟨h.base, h.lt, fun i hi => ?_, fun i hi => ?_, h.len⟩
  · obtain ⟨a, b, c⟩ := hk i hi
    rw [← a, ← b, ← c]; exact h.cells i hi
  · obtain ⟨_, b, c⟩ := hk i hi
    rw [← b, ← c]; exact h.u64 i hi
end Go.Proofs.YtffnoaafmaeihaaGreat

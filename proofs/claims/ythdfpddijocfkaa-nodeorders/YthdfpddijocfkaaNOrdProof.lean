/- Proved: whatever the Case, NodeOrders returns true, and its argument reads as before: the landed node.Make builds of a table's copy the nodes that Read finds again; in an ordered table Get finds each pair's value by its key, and of any other key nothing. Layer 20: the law NodeTables. Layer 20: Get and the pairs of an ordered table; Get and Read without a tape. Layer 20: the law NodeOrders. Layer 20: a Case that is read as data. -/
import Derived.Test.YthdfpddijocfkaaNSame
import Derived.Deep.RegionHeld3
import Derived.Deep.CutRange
import Derived.BigQuiet
import Derived.Test.YthdfpddijocfkaaSMir
import Derived.ProofKit
import Derived.OpenShut
import Derived.Deep.Slices
import Derived.Deep.Strs
import Derived.Lib.SmallJoins
import Derived.Test.YthdfpddijocfkaaRows



namespace Go.Proofs.Ythdfpddijocfkaa

open Go.RowKit

attribute [local go_sem ↓] Go.wp_at_zero Go.wp_at_succ

theorem nlSelf (a : NL) : nlEq a a = true := by unfold nlEq; simp
theorem isSelf (a : List Int) : isEq a a = true := by unfold isEq; simp
theorem sk_fold (t : NL) (ks : List Int) : ∃ L M, (if skE t ks = 0 then ks.length else 0) = L.length ∧ M.length = L.length ∧ (if skE t ks = 0 then skC (skA t ks) else []) = skC L ∧ (if skE t ks = 0 then isC (skN t ks) else []) = isC M := by
  by_cases h : skE t ks = 0
  · refine ⟨skA t ks, skN t ks, ?_⟩
    simp [h, skA, skN]
  · refine ⟨[], [], ?_⟩
    simp [h, skC, isC]
theorem WsAt.take {w : World} {base : Option Addr} {g o : Nat} {L : List Int} (h : WsAt w base g o L) (m : Nat) : WsAt w base g o (L.take m) := by
  have hl : (L.take m).length = min m L.length := List.length_take
  refine ⟨fun q => h.base (by omega), fun q => h.lt (by omega), fun i hi => ?_, by have := h.len; omega⟩
  rw [h.cells i (by omega)]
  simp only [List.getD_eq_getElem?_getD]
  rw [List.getElem?_take, if_pos (by omega)]
theorem map_len (L : List Int) : (isC L).length = L.length := by simp [isC]
/-- Round, Walk and Seek over a handed-in table. -/
theorem kr_len (t : NL) : formE t = 0 → (rdK t).length < 100000 := fun he => by
  have := rdK_len he
  have := inn_count he
  have := (formE_ok he).1
  omega

set_option maxRecDepth 100000 in
set_option maxHeartbeats 1000000 in
theorem nodeTables_any (bT : Option Addr) (b o cT : Nat) (t : NL) (bk : Option Addr) (gk ok ck : Nat) (keys : List Int) (key inf wt val : Int) (w : World) (h : NodesAt w bT b o t) (hTn : bT = none → t.length = 0 ∧ cT = 0) (hTb : t.length * 48 ≤ 140737488355328) (hk : WsAt w bk gk ok keys) (hKn : bk = none → keys.length = 0 ∧ ck = 0) (hKb : keys.length * 8 ≤ 140737488355328) (hKc : keys.length ≤ ck) :
    Calls Try.prog 3 #[.agg #[.slice bT t.length cT, .slice bk keys.length ck, .int .i64 key, .int .i64 inf, .int .i64 wt, .int .i64 val]] w fun e w' => e = .returned (.bool true) ∧ Below w.heap.size w w' := by
  have HTN : Hid (bT = none → t.length = 0 ∧ cT = 0) := hTn
  have HKN : Hid (bk = none → keys.length = 0 ∧ ck = 0) := hKn
  have HKC : Hid (keys.length ≤ ck) := hKc
  generalize hW1 : w.alloc (.cells #[.slice bT t.length cT, .slice bk keys.length ck, .int .i64 key, .int .i64 inf, .int .i64 wt, .int .i64 val] 25) = W1
  have hs1 : W1.heap.size = w.heap.size + 1 := by rw [← hW1]; simp
  have hb1 : Below w.heap.size w W1 := by rw [← hW1]; exact below_alloc _ _
  have hbk : W1.heap[w.heap.size]? = some (.cells #[.slice bT t.length cT, .slice bk keys.length ck, .int .i64 key, .int .i64 inf, .int .i64 wt, .int .i64 val] 25) := by rw [← hW1]; exact heap_alloc_at _ _ _ rfl
  have NT : Hid (∀ z, Below W1.heap.size W1 z → NodesAt z bT b o t) := fun z hz => (h.below hb1).below hz
  have NW : Hid (∀ z, Below W1.heap.size W1 z → WsAt z bk gk ok keys) := fun z hz => (hk.below hb1).below hz
  have CC : Hid (∀ z, Below W1.heap.size W1 z → z.cell? ⟨w.heap.size, 0, none⟩ = some (.slice bT t.length cT) ∧ z.cell? ⟨w.heap.size, 1, none⟩ = some (.slice bk keys.length ck) ∧ z.cell? ⟨w.heap.size, 2, none⟩ = some (.int .i64 key)) := fun z hz => by
    have e := (hz.block _ (by omega)).trans hbk
    exact ⟨by simp [World.cell?, e], by simp [World.cell?, e], by simp [World.cell?, e]⟩
  have BL : Hid (∀ z, Below W1.heap.size W1 z → Below w.heap.size w z ∧ w.heap.size < z.heap.size) := fun z hz => ⟨hb1.trans (hz.mono hb1.size), by have := hz.size; omega⟩
  have qE : (formE t != formE t) = false := by simp
  obtain ⟨KR, hKR⟩ : ∃ K, K = (if formE t = 0 then rdK t else []) := ⟨_, rfl⟩
  have HKR : Hid (KR = (if formE t = 0 then rdK t else [])) := hKR
  clear h hk hTn hKn hb1 hbk hKc hKR
  go_enter Try.func3, Try.ntmps3
  go_wp2_with fail
  clear hW1
  refine (nfix_any _).mono ?_
  rintro e w2 ⟨rfl, hb2⟩
  have H2 : Hid (Below W1.heap.size W1 w2) := hb2
  obtain ⟨e0, e1, e2⟩ := CC.out _ H2.out
  clear hb2
  go_wp2_with fail
  refine (nCopied_any bT b o cT t _ (NT.out _ H2.out) HTN.out hTb).mono ?_
  rintro e w3 ⟨v3, rfl, ho3, hb3⟩
  obtain ⟨a3, c3, g3, rfl, -, -, hn3⟩ := nodes_of_owns ho3
  have H3 : Hid (Below W1.heap.size W1 w3) := H2.out.trans (hb3.mono H2.out.size)
  have R4 : Hid _ := Round_any a3 g3 0 c3 t w3 hn3 (kr_len t)
  clear ho3 hn3 hb3 e0 e1 e2
  rw [← HKR.out] at R4
  go_wp2_with fail
  refine Calls.mono R4.out ?_
  rintro e w4 ⟨v4, u4, rfl, ho4, hk4, hb4⟩
  obtain ⟨a4, c4, g4, rfl, -, -, hn4⟩ := nodes_of_owns ho4
  obtain ⟨ak4, ck4, gk4, rfl, -, -, hs4⟩ := ws_of_owns (L := KR) hk4
  have N4 : Hid (NodesAt w4 a4 g4 0 (normL t)) := hn4
  have K4 : Hid (WsAt w4 ak4 gk4 0 KR) := hs4
  have H4 : Hid (Below W1.heap.size W1 w4) := H3.out.trans (hb4.mono H3.out.size)
  obtain ⟨e0, e1, e2⟩ := CC.out _ H4.out
  have R5 : Hid _ := rRound_any bT b o cT t w4 (NT.out _ H4.out)
  rw [← HKR.out] at R5
  clear ho4 hk4 hb4 hn4 hs4 R4 H3 H2
  go_wp2_with fail
  refine Calls.mono R5.out ?_
  rintro e w5 ⟨v5, u5, rfl, ho5, hk5, hb5⟩
  obtain ⟨a5, c5, g5, rfl, -, -, hn5⟩ := nodes_of_owns ho5
  obtain ⟨ak5, ck5, gk5, rfl, -, -, hs5⟩ := ws_of_owns (L := KR) hk5
  have N5 : Hid (NodesAt w5 a5 g5 0 (normL t)) := hn5
  have K5 : Hid (WsAt w5 ak5 gk5 0 KR) := hs5
  have N45 : Hid (NodesAt w5 a4 g4 0 (normL t)) := N4.out.below hb5
  have K45 : Hid (WsAt w5 ak4 gk4 0 KR) := K4.out.below hb5
  have H5 : Hid (Below W1.heap.size W1 w5) := H4.out.trans (hb5.mono H4.out.size)
  clear ho5 hk5 hb5 hn5 hs5 R5 H4 N4 K4 e0 e1 e2
  go_wp2_with fail
  refine (vSame_any a4 a5 g4 0 c4 g5 0 c5 (normL t) (normL t) _ N45.out N5.out).mono ?_
  rintro e w6 ⟨rfl, hb6⟩
  rw [nlSelf]
  have K6 : Hid (WsAt w6 ak5 gk5 0 KR) := K5.out.below hb6
  have K46 : Hid (WsAt w6 ak4 gk4 0 KR) := K45.out.below hb6
  have H6 : Hid (Below W1.heap.size W1 w6) := H5.out.trans (hb6.mono H5.out.size)
  clear hb6 H5 N5 N45 K5 K45
  go_wp2_with fail
  refine (sameInts_any ak4 ak5 gk4 0 ck4 gk5 0 ck5 KR KR _ K46.out K6.out).mono ?_
  rintro e w7 ⟨rfl, hb7⟩
  rw [isSelf]
  have H7 : Hid (Below W1.heap.size W1 w7) := H6.out.trans (hb7.mono H6.out.size)
  have H7d : Hid (Below W1.heap.size W1 w7.drew) := H7.out.drew
  obtain ⟨e0, e1, e2⟩ := CC.out _ H7.out
  clear hb7 H6 K6 K46
  go_wp2_with fail
  go_region_held3 (fun w' => w'.cell? ⟨w.heap.size, 0, none⟩ = some (.slice bT t.length cT) ∧ w'.cell? ⟨w.heap.size, 2, none⟩ = some (.int .i64 key))
    (first
      | (with_reducible exact X8.out)
      | (with_reducible exact X9.out)
      | go_keep)
    (first
      | (go_at_call 9; refine (nCopied_any bT b o cT t _ (NT.out _ H7d.out) HTN.out hTb).mono ?_; rintro e w8 ⟨v8, rfl, ho8, hb8⟩; obtain ⟨a8, c8, g8, rfl, -, -, hn8⟩ := nodes_of_owns ho8; have N8 : Hid (NodesAt w8 a8 g8 0 t) := hn8; have H8 : Hid (Below W1.heap.size W1 w8) := H7d.out.trans (hb8.mono H7d.out.size); have X8 : Hid (w8.cell? ⟨w.heap.size, 0, none⟩ = some (.slice bT t.length cT) ∧ w8.cell? ⟨w.heap.size, 2, none⟩ = some (.int .i64 key)) := ⟨(CC.out _ H8.out).1, (CC.out _ H8.out).2.2⟩; clear ho8 hn8 hb8)
      | (go_at_call 13; refine (Walk_any a8 g8 0 c8 t key _ N8.out).mono ?_; rintro e w9 ⟨v9, u9, rfl, ho9, hk9, hb9⟩; rw [natC_isC] at ho9; have lW : ((wkL t key).map fun x : Nat => (x : Int)).length = (wkL t key).length := List.length_map _; rw [← lW] at ho9; obtain ⟨a9, c9, g9, rfl, -, -, hn9⟩ := ws_of_owns ho9; obtain ⟨ak9, ck9, gk9, rfl, -, -, hs9⟩ := ws_of_owns (L := wkK t key) hk9; have N9 : Hid (WsAt w9 a9 g9 0 ((wkL t key).map fun x : Nat => (x : Int))) := hn9; have K9 : Hid (WsAt w9 ak9 gk9 0 (wkK t key)) := hs9; have H9 : Hid (Below W1.heap.size W1 w9) := H8.out.trans (hb9.mono H8.out.size); have X9 : Hid (w9.cell? ⟨w.heap.size, 0, none⟩ = some (.slice bT t.length cT) ∧ w9.cell? ⟨w.heap.size, 2, none⟩ = some (.int .i64 key)) := ⟨(CC.out _ H9.out).1, (CC.out _ H9.out).2.2⟩; clear ho9 hk9 hn9 hs9 hb9 lW))
  clear e0 e1 e2
  obtain ⟨e0, e1, e2⟩ := CC.out _ H9.out
  go_wp2_with fail
  refine (rWalk_any bT b o cT t key _ (NT.out _ H9.out)).mono ?_
  rintro e w10 ⟨v10, u10, rfl, ho10, hk10, hb10⟩
  rw [natC_isC] at ho10
  have lW : ((wkL t key).map fun x : Nat => (x : Int)).length = (wkL t key).length := List.length_map _
  rw [← lW] at ho10
  obtain ⟨a10, c10, g10, rfl, -, -, hn10⟩ := ws_of_owns ho10
  obtain ⟨ak10, ck10, gk10, rfl, -, -, hs10⟩ := ws_of_owns (L := wkK t key) hk10
  have N10 : Hid (WsAt w10 a10 g10 0 ((wkL t key).map fun x : Nat => (x : Int))) := hn10
  have K10 : Hid (WsAt w10 ak10 gk10 0 (wkK t key)) := hs10
  have N910 : Hid (WsAt w10 a9 g9 0 ((wkL t key).map fun x : Nat => (x : Int))) := N9.out.below hb10
  have K910 : Hid (WsAt w10 ak9 gk9 0 (wkK t key)) := K9.out.below hb10
  have H10 : Hid (Below W1.heap.size W1 w10) := H9.out.trans (hb10.mono H9.out.size)
  clear ho10 hk10 hb10 hn10 hs10 e0 e1 e2 X9 X8 H9 H8 N8 N9 K9
  have SI : Hid _ := sameInts_any a9 a10 g9 0 c9 g10 0 c10 _ _ _ N910.out N10.out
  rw [isSelf, List.length_map] at SI
  clear lW
  go_wp2_with fail
  refine Calls.mono SI.out ?_
  rintro e w11 ⟨rfl, hb11⟩
  have K11 : Hid (WsAt w11 ak10 gk10 0 (wkK t key)) := K10.out.below hb11
  have K911 : Hid (WsAt w11 ak9 gk9 0 (wkK t key)) := K910.out.below hb11
  have H11 : Hid (Below W1.heap.size W1 w11) := H10.out.trans (hb11.mono H10.out.size)
  clear hb11 SI H10 N10 N910 K10 K910
  go_wp2_with fail
  refine (sameInts_any ak9 ak10 gk9 0 ck9 gk10 0 ck10 (wkK t key) (wkK t key) _ K911.out K11.out).mono ?_
  rintro e w12 ⟨rfl, hb12⟩
  rw [isSelf]
  have H12 : Hid (Below W1.heap.size W1 w12) := H11.out.trans (hb12.mono H11.out.size)
  obtain ⟨e0, e1, e2⟩ := CC.out _ H12.out
  clear hb12 H11 K11 K911
  have l0 : (0 : Int) ≤ (keys.length : Int) := Int.natCast_nonneg _
  rcases (show keys.length ≤ 100 ∨ (100 < keys.length ∧ keys.length ≤ 1000) ∨ 1000 < keys.length by omega) with hl | hl | hl
  · have hc := HKC.out
    have q1 : (keys.length : Int) ≤ 1000 := by omega
    have q2 : min (keys.length : Int) 100 = (keys.length : Int) := by omega
    have q3 : (keys.length : Int) ≤ (ck : Int) := by omega
    have NK : Hid (∀ z, Below W1.heap.size W1 z → WsAt z bk gk ok keys) := NW
    have HNIL : Hid (bk = none → keys.length = 0 ∧ ck = 0) := HKN
    have hKb2 := hKb
    clear hl
    go_wp2_with fail
    obtain ⟨L, M, lL, lM, eL, eM⟩ := sk_fold t keys
    have HLL : Hid ((if skE t keys = 0 then keys.length else 0) = L.length) := lL
    have HLM : Hid (M.length = L.length) := lM
    have HEL : Hid ((if skE t keys = 0 then skC (skA t keys) else []) = skC L) := eL
    have HEM : Hid ((if skE t keys = 0 then isC (skN t keys) else []) = isC M) := eM
    clear lL lM eL eM
    have qS : (skE t keys == skE t keys) = true := by simp
    refine (nCopied_any bT b o cT t _ (NT.out _ H12.out) HTN.out hTb).mono ?_
    rintro e w13 ⟨v13, rfl, ho13, hb13⟩
    obtain ⟨a13, c13, g13, rfl, -, -, hn13⟩ := nodes_of_owns ho13
    have N13 : Hid (NodesAt w13 a13 g13 0 t) := hn13
    have H13 : Hid (Below W1.heap.size W1 w13) := H12.out.trans (hb13.mono H12.out.size)
    have RI : Hid _ := nInts_any bk gk ok ck keys w13 (NK.out _ H13.out) HNIL.out hKb2
    clear ho13 hn13 hb13 e0 e1 e2
    go_wp2_with fail
    refine Calls.mono RI.out ?_
    rintro e w14 ⟨v14, rfl, ho14, hb14⟩
    obtain ⟨a14, c14, g14, rfl, -, -, hs14⟩ := ws_of_owns (L := keys) ho14
    have H14 : Hid (Below W1.heap.size W1 w14) := H13.out.trans (hb14.mono H13.out.size)
    have RS : Hid _ := Seek_any a13 g13 0 c13 t a14 g14 0 c14 keys w14 (N13.out.below hb14) hs14
    rw [HLL.out, HEL.out, HEM.out] at RS
    clear ho14 hs14 hb14 RI H13 N13
    go_wp2_with fail
    refine Calls.mono RS.out ?_
    rintro e w15 ⟨v15, u15, rfl, ho15, hk15, hb15⟩
    rw [← HLM.out] at hk15
    obtain ⟨a15, c15, g15, rfl, hr15⟩ := rt_of_owns ho15 rfl
    obtain ⟨ak15, ck15, gk15, rfl, -, -, hs15⟩ := ws_of_owns (L := M) hk15
    have R15 : Hid (RtAt w15 a15 g15 L) := hr15
    have K15 : Hid (WsAt w15 ak15 gk15 0 M) := hs15
    have H15 : Hid (Below W1.heap.size W1 w15) := H14.out.trans (hb15.mono H14.out.size)
    obtain ⟨e0, e1, e2⟩ := CC.out _ H15.out
    have RT : Hid _ := rSeek_any bT b o cT t bk gk ok ck keys w15 (NT.out _ H15.out) (NK.out _ H15.out)
    rw [HLL.out, HEL.out, HEM.out] at RT
    clear ho15 hk15 hr15 hs15 hb15 RS H14
    go_wp2_with fail
    refine Calls.mono RT.out ?_
    rintro e w16 ⟨v16, u16, rfl, ho16, hk16, hb16⟩
    rw [← HLM.out] at hk16
    obtain ⟨a16, c16, g16, rfl, hr16⟩ := rt_of_owns ho16 rfl
    obtain ⟨ak16, ck16, gk16, rfl, -, -, hs16⟩ := ws_of_owns (L := M) hk16
    have R16 : Hid (RtAt w16 a16 g16 L) := hr16
    have R516 : Hid (RtAt w16 a15 g15 L) := R15.out.below hb16
    have K16 : Hid (WsAt w16 ak16 gk16 0 M) := hs16
    have K516 : Hid (WsAt w16 ak15 gk15 0 M) := K15.out.below hb16
    have H16 : Hid (Below W1.heap.size W1 w16) := H15.out.trans (hb16.mono H15.out.size)
    clear ho16 hk16 hr16 hs16 hb16 RT H15 R15 K15 e0 e1 e2
    go_wp2_with fail
    refine (sameInts_any ak15 ak16 gk15 0 ck15 gk16 0 ck16 M M _ K516.out K16.out).mono ?_
    rintro e w17 ⟨rfl, hb17⟩
    rw [isSelf]
    have R17 : Hid (RtAt w17 a16 g16 L) := R16.out.below hb17
    have R517 : Hid (RtAt w17 a15 g15 L) := R516.out.below hb17
    have H17 : Hid (Below W1.heap.size W1 w17) := H16.out.trans (hb17.mono H16.out.size)
    clear hb17 R16 R516 K16 K516 H16
    go_wp2_with fail
    refine (nSameRets_any a15 a16 g15 c15 g16 c16 L _ R517.out R17.out).mono ?_
    rintro e w18 ⟨rfl, hb18⟩
    have H18 : Hid (Below W1.heap.size W1 w18) := H17.out.trans (hb18.mono H17.out.size)
    clear hb18
    go_wp2_with fail
    go_ret
    exact ⟨rfl, (BL.out _ H18.out).1⟩
  · have hc := HKC.out
    have q1 : (keys.length : Int) ≤ 1000 := by omega
    have q2 : min (keys.length : Int) 100 = 100 := by omega
    have q3 : (100 : Int) ≤ (ck : Int) := by omega
    have hlen : (keys.take 100).length = 100 := by rw [List.length_take]; omega
    have NK : Hid (∀ z, Below W1.heap.size W1 z → WsAt z bk gk ok (keys.take 100)) := fun z hz => (NW.out z hz).take 100
    have HNIL : Hid (bk = none → (keys.take 100).length = 0 ∧ ck = 0) := fun q => by have := HKN.out q; omega
    have hKb2 : (keys.take 100).length * 8 ≤ 140737488355328 := by omega
    clear hl
    generalize keys.take 100 = ks at *
    go_wp2_with fail
    obtain ⟨L, M, lL, lM, eL, eM⟩ := sk_fold t ks
    have HLL : Hid ((if skE t ks = 0 then ks.length else 0) = L.length) := lL
    have HLM : Hid (M.length = L.length) := lM
    have HEL : Hid ((if skE t ks = 0 then skC (skA t ks) else []) = skC L) := eL
    have HEM : Hid ((if skE t ks = 0 then isC (skN t ks) else []) = isC M) := eM
    clear lL lM eL eM
    have qS : (skE t ks == skE t ks) = true := by simp
    refine (nCopied_any bT b o cT t _ (NT.out _ H12.out) HTN.out hTb).mono ?_
    rintro e w13 ⟨v13, rfl, ho13, hb13⟩
    obtain ⟨a13, c13, g13, rfl, -, -, hn13⟩ := nodes_of_owns ho13
    have N13 : Hid (NodesAt w13 a13 g13 0 t) := hn13
    have H13 : Hid (Below W1.heap.size W1 w13) := H12.out.trans (hb13.mono H12.out.size)
    have RI : Hid _ := nInts_any bk gk ok ck ks w13 (NK.out _ H13.out) HNIL.out hKb2
    rw [hlen] at RI
    clear ho13 hn13 hb13 e0 e1 e2
    go_wp2_with fail
    refine Calls.mono RI.out ?_
    rintro e w14 ⟨v14, rfl, ho14, hb14⟩
    rw [← hlen] at ho14
    obtain ⟨a14, c14, g14, rfl, -, -, hs14⟩ := ws_of_owns (L := ks) ho14
    have H14 : Hid (Below W1.heap.size W1 w14) := H13.out.trans (hb14.mono H13.out.size)
    have RS : Hid _ := Seek_any a13 g13 0 c13 t a14 g14 0 c14 ks w14 (N13.out.below hb14) hs14
    rw [HLL.out, HEL.out, HEM.out, hlen] at RS
    clear ho14 hs14 hb14 RI H13 N13
    go_wp2_with fail
    refine Calls.mono RS.out ?_
    rintro e w15 ⟨v15, u15, rfl, ho15, hk15, hb15⟩
    rw [← HLM.out] at hk15
    obtain ⟨a15, c15, g15, rfl, hr15⟩ := rt_of_owns ho15 rfl
    obtain ⟨ak15, ck15, gk15, rfl, -, -, hs15⟩ := ws_of_owns (L := M) hk15
    have R15 : Hid (RtAt w15 a15 g15 L) := hr15
    have K15 : Hid (WsAt w15 ak15 gk15 0 M) := hs15
    have H15 : Hid (Below W1.heap.size W1 w15) := H14.out.trans (hb15.mono H14.out.size)
    obtain ⟨e0, e1, e2⟩ := CC.out _ H15.out
    have RT : Hid _ := rSeek_any bT b o cT t bk gk ok ck ks w15 (NT.out _ H15.out) (NK.out _ H15.out)
    rw [HLL.out, HEL.out, HEM.out, hlen] at RT
    clear ho15 hk15 hr15 hs15 hb15 RS H14
    go_wp2_with fail
    refine Calls.mono RT.out ?_
    rintro e w16 ⟨v16, u16, rfl, ho16, hk16, hb16⟩
    rw [← HLM.out] at hk16
    obtain ⟨a16, c16, g16, rfl, hr16⟩ := rt_of_owns ho16 rfl
    obtain ⟨ak16, ck16, gk16, rfl, -, -, hs16⟩ := ws_of_owns (L := M) hk16
    have R16 : Hid (RtAt w16 a16 g16 L) := hr16
    have R516 : Hid (RtAt w16 a15 g15 L) := R15.out.below hb16
    have K16 : Hid (WsAt w16 ak16 gk16 0 M) := hs16
    have K516 : Hid (WsAt w16 ak15 gk15 0 M) := K15.out.below hb16
    have H16 : Hid (Below W1.heap.size W1 w16) := H15.out.trans (hb16.mono H15.out.size)
    clear ho16 hk16 hr16 hs16 hb16 RT H15 R15 K15 e0 e1 e2
    go_wp2_with fail
    refine (sameInts_any ak15 ak16 gk15 0 ck15 gk16 0 ck16 M M _ K516.out K16.out).mono ?_
    rintro e w17 ⟨rfl, hb17⟩
    rw [isSelf]
    have R17 : Hid (RtAt w17 a16 g16 L) := R16.out.below hb17
    have R517 : Hid (RtAt w17 a15 g15 L) := R516.out.below hb17
    have H17 : Hid (Below W1.heap.size W1 w17) := H16.out.trans (hb17.mono H16.out.size)
    clear hb17 R16 R516 K16 K516 H16
    go_wp2_with fail
    refine (nSameRets_any a15 a16 g15 c15 g16 c16 L _ R517.out R17.out).mono ?_
    rintro e w18 ⟨rfl, hb18⟩
    have H18 : Hid (Below W1.heap.size W1 w18) := H17.out.trans (hb18.mono H17.out.size)
    clear hb18
    go_wp2_with fail
    go_ret
    exact ⟨rfl, (BL.out _ H18.out).1⟩
  · have q1 : (1000 : Int) < (keys.length : Int) := by omega
    have NK : Hid (∀ z, Below W1.heap.size W1 z → WsAt z bk gk ok keys) := NW
    have HNIL : Hid (bk = none → keys.length = 0 ∧ ck = 0) := HKN
    have hKb2 := hKb
    clear hl
    go_wp2_with fail
    obtain ⟨L, M, lL, lM, eL, eM⟩ := sk_fold t keys
    have HLL : Hid ((if skE t keys = 0 then keys.length else 0) = L.length) := lL
    have HLM : Hid (M.length = L.length) := lM
    have HEL : Hid ((if skE t keys = 0 then skC (skA t keys) else []) = skC L) := eL
    have HEM : Hid ((if skE t keys = 0 then isC (skN t keys) else []) = isC M) := eM
    clear lL lM eL eM
    have qS : (skE t keys == skE t keys) = true := by simp
    refine (nCopied_any bT b o cT t _ (NT.out _ H12.out) HTN.out hTb).mono ?_
    rintro e w13 ⟨v13, rfl, ho13, hb13⟩
    obtain ⟨a13, c13, g13, rfl, -, -, hn13⟩ := nodes_of_owns ho13
    have N13 : Hid (NodesAt w13 a13 g13 0 t) := hn13
    have H13 : Hid (Below W1.heap.size W1 w13) := H12.out.trans (hb13.mono H12.out.size)
    have RI : Hid _ := nInts_any bk gk ok ck keys w13 (NK.out _ H13.out) HNIL.out hKb2
    clear ho13 hn13 hb13 e0 e1 e2
    go_wp2_with fail
    refine Calls.mono RI.out ?_
    rintro e w14 ⟨v14, rfl, ho14, hb14⟩
    obtain ⟨a14, c14, g14, rfl, -, -, hs14⟩ := ws_of_owns (L := keys) ho14
    have H14 : Hid (Below W1.heap.size W1 w14) := H13.out.trans (hb14.mono H13.out.size)
    have RS : Hid _ := Seek_any a13 g13 0 c13 t a14 g14 0 c14 keys w14 (N13.out.below hb14) hs14
    rw [HLL.out, HEL.out, HEM.out] at RS
    clear ho14 hs14 hb14 RI H13 N13
    go_wp2_with fail
    refine Calls.mono RS.out ?_
    rintro e w15 ⟨v15, u15, rfl, ho15, hk15, hb15⟩
    rw [← HLM.out] at hk15
    obtain ⟨a15, c15, g15, rfl, hr15⟩ := rt_of_owns ho15 rfl
    obtain ⟨ak15, ck15, gk15, rfl, -, -, hs15⟩ := ws_of_owns (L := M) hk15
    have R15 : Hid (RtAt w15 a15 g15 L) := hr15
    have K15 : Hid (WsAt w15 ak15 gk15 0 M) := hs15
    have H15 : Hid (Below W1.heap.size W1 w15) := H14.out.trans (hb15.mono H14.out.size)
    obtain ⟨e0, e1, e2⟩ := CC.out _ H15.out
    have RT : Hid _ := rSeek_any bT b o cT t bk gk ok ck keys w15 (NT.out _ H15.out) (NK.out _ H15.out)
    rw [HLL.out, HEL.out, HEM.out] at RT
    clear ho15 hk15 hr15 hs15 hb15 RS H14
    go_wp2_with fail
    refine Calls.mono RT.out ?_
    rintro e w16 ⟨v16, u16, rfl, ho16, hk16, hb16⟩
    rw [← HLM.out] at hk16
    obtain ⟨a16, c16, g16, rfl, hr16⟩ := rt_of_owns ho16 rfl
    obtain ⟨ak16, ck16, gk16, rfl, -, -, hs16⟩ := ws_of_owns (L := M) hk16
    have R16 : Hid (RtAt w16 a16 g16 L) := hr16
    have R516 : Hid (RtAt w16 a15 g15 L) := R15.out.below hb16
    have K16 : Hid (WsAt w16 ak16 gk16 0 M) := hs16
    have K516 : Hid (WsAt w16 ak15 gk15 0 M) := K15.out.below hb16
    have H16 : Hid (Below W1.heap.size W1 w16) := H15.out.trans (hb16.mono H15.out.size)
    clear ho16 hk16 hr16 hs16 hb16 RT H15 R15 K15 e0 e1 e2
    go_wp2_with fail
    refine (sameInts_any ak15 ak16 gk15 0 ck15 gk16 0 ck16 M M _ K516.out K16.out).mono ?_
    rintro e w17 ⟨rfl, hb17⟩
    rw [isSelf]
    have R17 : Hid (RtAt w17 a16 g16 L) := R16.out.below hb17
    have R517 : Hid (RtAt w17 a15 g15 L) := R516.out.below hb17
    have H17 : Hid (Below W1.heap.size W1 w17) := H16.out.trans (hb17.mono H16.out.size)
    clear hb17 R16 R516 K16 K516 H16
    go_wp2_with fail
    refine (nSameRets_any a15 a16 g15 c15 g16 c16 L _ R517.out R17.out).mono ?_
    rintro e w18 ⟨rfl, hb18⟩
    have H18 : Hid (Below W1.heap.size W1 w18) := H17.out.trans (hb18.mono H17.out.size)
    clear hb18
    go_wp2_with fail
    go_ret
    exact ⟨rfl, (BL.out _ H18.out).1⟩
end Go.Proofs.Ythdfpddijocfkaa

namespace Go.Proofs.Ythdfpddijocfkaa

open Go.RowKit

theorem lastN_getLastD (P : List Nat) : lastN P = P.getLastD 0 := by
  unfold lastN
  rw [List.getLastD_eq_getLast?, List.getLast?_eq_getElem?, List.getD_eq_getElem?_getD]
theorem mem_theL {t : NL} (he : formE t = 0) {x : Nat} (hx : x < t.length) : x ∈ theL t 0 := by
  obtain ⟨-, hf⟩ := formE_ok he
  obtain ⟨h1, h2, h3⟩ := theL_form hf
  exact all_in h2 h1.all h3 x hx
theorem ans_some {t : NL} (he : formE t = 0) {k v : Int} (h : ansK t k = some v) : ∃ y ∈ kvL t (theL t 0), (ndAt t y).key = k := by
  obtain ⟨a1, a2, a3, a4⟩ := way_all he k
  obtain ⟨r1, -⟩ := way_raw he k
  rw [h] at r1
  obtain ⟨x, hx1, hx2, hx3, -, -⟩ := way_last (G := fun _ => 0) (F := fun _ => 0) a1
  have hl : (wayL t k).getLastD 0 = x := by rw [List.getLastD_eq_getLast?, hx1]; rfl
  rw [hl] at r1
  by_cases q : (ndAt t x).inf = 0 ∧ (ndAt t x).key = k
  · refine ⟨x, List.mem_filter.2 ⟨mem_theL he hx2, ?_⟩, q.2⟩
    have hr : (ndAt t x).r = -1 := by
      rcases ((formE_ok he).2.good.node x hx2).1 with e | e
      · exact e.2
      · omega
    simp [kvB, leafB, hx3, hr, q.1]
  · rw [if_neg q] at r1
    cases r1
theorem ord_ans {t : NL} (he : formE t = 0) (ho : ordQ t = true) {y : Nat} (hy : y ∈ kvL t (theL t 0)) : ansK t (ndAt t y).key = some (ndAt t y).val := by
  have h := of_decide_eq_true ho y hy
  rw [lastN_getLastD] at h
  obtain ⟨r1, -⟩ := way_raw he (ndAt t y).key
  rw [h] at r1
  have hk := (List.mem_filter.1 hy).2
  have hi : (ndAt t y).inf = 0 := by
    simp [kvB] at hk
    omega
  rw [r1, if_pos ⟨hi, rfl⟩]
theorem ord_there {t : NL} (he : formE t = 0) (ho : ordQ t = true) (k : Int) : (ansK t k).isSome = decide (∃ y ∈ kvL t (theL t 0), (ndAt t y).key = k) := by
  by_cases q : ∃ y ∈ kvL t (theL t 0), (ndAt t y).key = k
  · rw [decide_eq_true q]
    obtain ⟨y, hy, rfl⟩ := q
    rw [ord_ans he ho hy]
    rfl
  · rw [decide_eq_false q]
    cases e : ansK t k with
    | none => rfl
    | some v => exact absurd (ans_some he e) q
/-- Get without a tape, of a table's nodes. -/
theorem GetT {t : NL} (he : formE t = 0) (N : Nat) (G F : Nat → Nat) (key : Int) (w : World) (hNw : N ≤ w.heap.size) (h : NdsAt w N (normL t) G F) :
    Calls Try.prog 32 #[.nilIface, .pointer (some ⟨G 0, 0, none⟩), .int .i64 key] w fun e w' => e = .returned (getA (ansK t key)) ∧ Below N w w' := by
  obtain ⟨y1, y2, y3⟩ := wayN (norm_form he) key
  obtain ⟨x, hx1, hx2, hx3, hx4, hx5⟩ := way_last (G := G) (F := F) y1
  have HG := Get_any (gateS_nil 1000000) [] key N (fun t ht => ht.elim) (wst (normL t) G F (wayL (normL t) key)) w hNw (wayChain_at (norm_ok he) h y1) (by unfold wst; simpa using y3) (by rw [way_kinds y1]; simp; omega) trivial (Tbs.nil w) _ hx4
  rw [hx5] at HG
  refine HG.mono ?_
  rintro e w' ⟨rfl, _, _, hb⟩
  refine ⟨?_, hb⟩
  have : getN key (gnT (normL t) G x) = ansK t key := by
    unfold ansK
    rw [getN_ans, List.getLastD_eq_getLast?, hx1]
    rfl
  rw [this]
/-- Read without a tape, of a table's nodes. -/
theorem ReadN {t : NL} (he : formE t = 0) (N : Nat) (G F : Nat → Nat) (w : World) (hNw : N ≤ w.heap.size) (h : NdsAt w N (normL t) G F) :
    Calls Try.prog 28 #[.nilIface, .pointer (some ⟨G 0, 0, none⟩)] w fun e w' => ∃ v, e = .returned (.tuple #[v, .int .i64 0]) ∧ w'.ownsRow w.heap.size 81 6 v (normL t).length (ndCells (normL t)) ∧ Below N w w' := by
  obtain ⟨b, hl, hok, hs, ha⟩ := norm_lay he
  rw [hl] at h ⊢
  refine (ReadT (gateS_nil 1000000) [] N (fun t ht => ht.elim) b hs (lay_ok hok hs) G F w hNw h ?_ trivial (Tbs.nil w)).mono ?_
  · have := trK_le (T := b.lay 0) b.size
    simp
    omega
  · rintro e w' ⟨v, h1, h2, _, _, h3⟩
    exact ⟨v, h1, h2, h3⟩
end Go.Proofs.Ythdfpddijocfkaa



namespace Go.Proofs.Ythdfpddijocfkaa

open Go.RowKit

attribute [local go_sem ↓] Go.wp_at_zero Go.wp_at_succ

set_option maxRecDepth 100000 in
set_option maxHeartbeats 1000000 in
theorem nodeOrders_any (bT : Option Addr) (b o cT : Nat) (t : NL) (bk : Option Addr) (gk ok ck : Nat) (keys : List Int) (key inf wt val : Int) (w : World) (h : NodesAt w bT b o t) (hTn : bT = none → t.length = 0 ∧ cT = 0) (hTb : t.length * 48 ≤ 140737488355328) (hk : WsAt w bk gk ok keys) (hKn : bk = none → keys.length = 0 ∧ ck = 0) (_hKb : keys.length * 8 ≤ 140737488355328) (hKc : keys.length ≤ ck) :
    Calls Try.prog 5 #[.agg #[.slice bT t.length cT, .slice bk keys.length ck, .int .i64 key, .int .i64 inf, .int .i64 wt, .int .i64 val]] w fun e w' => e = .returned (.bool true) ∧ Below w.heap.size w w' := by
  have HTN : Hid (bT = none → t.length = 0 ∧ cT = 0) := hTn
  have HKN : Hid (bk = none → keys.length = 0 ∧ ck = 0) := hKn
  have HKC : Hid (keys.length ≤ ck) := hKc
  generalize hW1 : w.alloc (.cells #[.slice bT t.length cT, .slice bk keys.length ck, .int .i64 key, .int .i64 inf, .int .i64 wt, .int .i64 val] 25) = W1
  have hs1 : W1.heap.size = w.heap.size + 1 := by rw [← hW1]; simp
  have hb1 : Below w.heap.size w W1 := by rw [← hW1]; exact below_alloc _ _
  have hbk : W1.heap[w.heap.size]? = some (.cells #[.slice bT t.length cT, .slice bk keys.length ck, .int .i64 key, .int .i64 inf, .int .i64 wt, .int .i64 val] 25) := by rw [← hW1]; exact heap_alloc_at _ _ _ rfl
  have NT : Hid (∀ z, Below W1.heap.size W1 z → NodesAt z bT b o t) := fun z hz => (h.below hb1).below hz
  have NW : Hid (∀ z, Below W1.heap.size W1 z → WsAt z bk gk ok keys) := fun z hz => (hk.below hb1).below hz
  have CC : Hid (∀ z, Below W1.heap.size W1 z → z.cell? ⟨w.heap.size, 0, none⟩ = some (.slice bT t.length cT) ∧ z.cell? ⟨w.heap.size, 1, none⟩ = some (.slice bk keys.length ck) ∧ z.cell? ⟨w.heap.size, 2, none⟩ = some (.int .i64 key)) := fun z hz => by
    have e := (hz.block _ (by omega)).trans hbk
    exact ⟨by simp [World.cell?, e], by simp [World.cell?, e], by simp [World.cell?, e]⟩
  have BL : Hid (∀ z, Below W1.heap.size W1 z → Below w.heap.size w z ∧ w.heap.size < z.heap.size) := fun z hz => ⟨hb1.trans (hz.mono hb1.size), by have := hz.size; omega⟩
  have qE : (formE t != formE t) = false := by simp
  clear h hk hTn hKn hb1 hbk hKc
  go_enter Try.func5, Try.ntmps5
  go_wp2_with fail
  clear hW1
  refine (nfix_any _).mono ?_
  rintro e w2 ⟨rfl, hb2⟩
  have H2 : Hid (Below W1.heap.size W1 w2) := hb2
  obtain ⟨e0, e1, e2⟩ := CC.out _ H2.out
  clear hb2
  go_wp2_with fail
  refine (nCopied_any bT b o cT t _ (NT.out _ H2.out) HTN.out hTb).mono ?_
  rintro e w3 ⟨v3, rfl, ho3, hb3⟩
  obtain ⟨a3, c3, g3, rfl, -, -, hn3⟩ := nodes_of_owns ho3
  have H3 : Hid (Below W1.heap.size W1 w3) := H2.out.trans (hb3.mono H2.out.size)
  have R4 : Hid _ := Make_any a3 g3 0 c3 t w3 hn3
  clear ho3 hn3 hb3 e0 e1 e2
  go_wp2_with fail
  refine Calls.mono R4.out ?_
  rintro e w4 ⟨hb4, hbad, hok⟩
  have H4 : Hid (Below W1.heap.size W1 w4) := H3.out.trans (hb4.mono H3.out.size)
  by_cases he : formE t = 0
  · have HE : Hid (formE t = 0) := he
    obtain ⟨G, F, rfl, -, hnd, -⟩ := hok he
    have ND : Hid (NdsAt w4 w4.heap.size (normL t) G F) := hnd
    clear hbad hok hb4 hnd R4
    go_wp2_with fail
    refine (ReadN HE.out _ G F w4 (Nat.le_refl _) ND.out).mono ?_
    rintro e w5 ⟨v5, rfl, ho5, hb5⟩
    obtain ⟨a5, c5, g5, rfl, -, -, hn5⟩ := nodes_of_owns ho5
    have N5 : Hid (NodesAt w5 a5 g5 0 (normL t)) := hn5
    have B45 : Hid (Below w4.heap.size w4 w5) := hb5
    have H5 : Hid (Below W1.heap.size W1 w5) := H4.out.trans (hb5.mono H4.out.size)
    obtain ⟨e0, e1, e2⟩ := CC.out _ H5.out
    clear ho5 hn5 hb5
    go_wp2_with fail
    refine (vNorm_any bT b o cT t _ (NT.out _ H5.out) HE.out).mono ?_
    rintro e w6 ⟨v6, rfl, ho6, hb6⟩
    obtain ⟨a6, c6, g6, rfl, -, -, hn6⟩ := nodes_of_owns ho6
    have N6 : Hid (NodesAt w6 a6 g6 0 (normL t)) := hn6
    have N56 : Hid (NodesAt w6 a5 g5 0 (normL t)) := N5.out.below hb6
    have B46 : Hid (Below w4.heap.size w4 w6) := B45.out.trans (hb6.mono B45.out.size)
    have H6 : Hid (Below W1.heap.size W1 w6) := H5.out.trans (hb6.mono H5.out.size)
    clear ho6 hn6 hb6 N5 B45 H5 e0 e1 e2
    go_wp2_with fail
    refine (vSame_any a5 a6 g5 0 c5 g6 0 c6 (normL t) (normL t) _ N56.out N6.out).mono ?_
    rintro e w7 ⟨rfl, hb7⟩
    rw [nlSelf]
    have B47 : Hid (Below w4.heap.size w4 w7) := B46.out.trans (hb7.mono B46.out.size)
    have H7 : Hid (Below W1.heap.size W1 w7) := H6.out.trans (hb7.mono H6.out.size)
    obtain ⟨e0, e1, e2⟩ := CC.out _ H7.out
    clear hb7 N6 N56 B46 H6
    go_wp2_with fail
    refine (vOrdered_any bT b o cT t _ (NT.out _ H7.out) HE.out).mono ?_
    rintro e w8 ⟨rfl, hb8⟩
    have B48 : Hid (Below w4.heap.size w4 w8) := B47.out.trans (hb8.mono B47.out.size)
    have H8 : Hid (Below W1.heap.size W1 w8) := H7.out.trans (hb8.mono H7.out.size)
    clear hb8 B47 H7 e0 e1 e2
    by_cases ho : ordQ t = true
    · have HO : Hid (ordQ t = true) := ho
      rw [ho]
      obtain ⟨e0, e1, e2⟩ := CC.out _ H8.out
      go_wp2_with fail
      refine (vPairs_any bT b o cT t _ (NT.out _ H8.out) HE.out).mono ?_
      rintro e w9 ⟨v9, rfl, ho9, hb9⟩
      have B49 : Hid (Below w4.heap.size w4 w9) := B48.out.trans (hb9.mono B48.out.size)
      have H9 : Hid (Below W1.heap.size W1 w9) := H8.out.trans (hb9.mono H8.out.size)
      have lY : (prK t (kvL t (theL t 0))).length ≤ 100000 := by
        obtain ⟨hbig, hf⟩ := formE_ok HE.out
        obtain ⟨-, -, h3⟩ := theL_form hf
        have := List.length_filter_le (kvB t) (theL t 0)
        unfold prK kvL
        rw [List.length_map]
        omega
      obtain ⟨a9, c9, g9, rfl, -, -, hp9⟩ := pairs_of_owns ho9 (by unfold maxLen; omega)
      have P9 : Hid (PairsAt w9 a9 g9 0 (prK t (kvL t (theL t 0)))) := hp9
      have KV : Hid (∀ i, i < (prK t (kvL t (theL t 0))).length → ansK t (keyAt (prK t (kvL t (theL t 0))) i) = some (valAt (prK t (kvL t (theL t 0))) i)) := fun i hi => by
        unfold prK at hi ⊢
        rw [List.length_map] at hi
        have hm : (kvL t (theL t 0))[i] ∈ kvL t (theL t 0) := List.getElem_mem hi
        have := ord_ans HE.out HO.out hm
        simpa [keyAt, valAt, List.getD_eq_getElem?_getD, List.getElem?_map, List.getElem?_eq_getElem hi] using this
      have TH : Hid ((ansK t key).isSome = decide (∃ i, i < (prK t (kvL t (theL t 0))).length ∧ keyAt (prK t (kvL t (theL t 0))) i = key)) := by
        show _ = _
        rw [ord_there HE.out HO.out key]
        congr 1
        apply propext
        constructor
        · rintro ⟨y, hy, hk⟩
          obtain ⟨i, hi, e⟩ := List.getElem_of_mem hy
          refine ⟨i, by unfold prK; rw [List.length_map]; exact hi, ?_⟩
          simp [prK, keyAt, List.getD_eq_getElem?_getD, List.getElem?_map, List.getElem?_eq_getElem hi, e, hk]
        · rintro ⟨i, hi, hk⟩
          unfold prK at hi
          rw [List.length_map] at hi
          refine ⟨(kvL t (theL t 0))[i], List.getElem_mem hi, ?_⟩
          simpa [prK, keyAt, List.getD_eq_getElem?_getD, List.getElem?_map, List.getElem?_eq_getElem hi] using hk
      generalize prK t (kvL t (theL t 0)) = ps at *
      have s0 : (0 : Int) ≤ (ps.length : Int) := Int.natCast_nonneg _
      have s1 : (ps.length : Int) ≤ 100000 := by omega
      clear ho9 hp9 hb9 e0 e1 e2 B48 H8
      go_wp2_with fail
      go_loopw [8] (fun vi wr => ∃ i : Nat, i ≤ ps.length ∧ vi = .int .i64 (i : Int) ∧ Below w9.heap.size w9 wr) (fun vi _ => ps.length - (intOf vi).toNat)
      case atStart => exact ⟨0, Nat.zero_le _, rfl, Below.refl _ _⟩
      case round =>
        obtain ⟨i, hi, rfl, hbw⟩ := hrel
        rename World => wr
        have HW : Hid (Below w9.heap.size w9 wr) := hbw
        have H10 : Hid (Below W1.heap.size W1 wr) := H9.out.trans (hbw.mono H9.out.size)
        have B4r : Hid (Below w4.heap.size w4 wr) := B49.out.trans (hbw.mono B49.out.size)
        clear hbw
        have i0 : (0 : Int) ≤ (i : Int) := Int.natCast_nonneg _
        by_cases hil : i < ps.length ∧ i < 300
        · obtain ⟨hi1, hi2⟩ := hil
          have i1 : (i : Int) < (ps.length : Int) := by omega
          have i2 : (i : Int) < 300 := by omega
          obtain rfl : a9 = some ⟨g9, 0, none⟩ := P9.out.base (by omega)
          obtain ⟨d0, d1⟩ := (P9.out.below HW.out).cells i hi1
          simp only [Nat.zero_add] at d0 d1
          have GT : Hid _ := GetT HE.out wr.heap.size G F (keyAt ps i) wr (Nat.le_refl _) ((ND.out.below B4r.out).mono B4r.out.size)
          rw [KV.out i hi1] at GT
          unfold getA at GT
          simp only [Option.getD_some, Option.isSome_some] at GT
          have P9w : Hid (∀ W, Below w9.heap.size w9 W → W.cell? ⟨g9, i * 2 + 1, none⟩ = some (.int .i64 (valAt ps i))) := fun W hb => by simpa using ((P9.out.below hb).cells i hi1).2
          generalize keyAt ps i = kk at *
          generalize valAt ps i = vv at *
          go_wp2_with fail
          refine Calls.mono GT.out ?_
          rintro e w10 ⟨rfl, hb10⟩
          have HW2 : Hid (Below w9.heap.size w9 w10) := HW.out.trans (hb10.mono HW.out.size)
          have d11 := P9w.out w10 HW2.out
          go_wp2_with fail
          exact ⟨⟨i + 1, by omega, by first | rfl | go_num, HW2.out⟩, by simp [intOf]; omega⟩
        · have i2 : ¬ ((i : Int) < (ps.length : Int) ∧ (i : Int) < 300) := by omega
          by_cases g1 : (i : Int) < (ps.length : Int)
          · have g2 : 300 ≤ (i : Int) := by omega
            go_wp2_with fail
            go_loopw [11, 7] (fun vi vt wq => ∃ j : Nat, j ≤ ps.length ∧ vi = .int .i64 (j : Int) ∧ vt = .bool (decide (∃ k, k < j ∧ keyAt ps k = key)) ∧ Below w9.heap.size w9 wq) (fun vi _ _ => ps.length - (intOf vi).toNat)
            case atStart => exact ⟨0, Nat.zero_le _, rfl, by simp, HW.out⟩
            case round =>
              obtain ⟨j, hj, rfl, rfl, hbq⟩ := hrel
              rename World => wq
              have HQ : Hid (Below w9.heap.size w9 wq) := hbq
              have H11 : Hid (Below W1.heap.size W1 wq) := H9.out.trans (hbq.mono H9.out.size)
              obtain ⟨e0, e1, e2⟩ := CC.out _ H11.out
              clear hbq
              have j0 : (0 : Int) ≤ (j : Int) := Int.natCast_nonneg _
              by_cases hjl : j < ps.length
              · have j1 : (j : Int) < (ps.length : Int) := by omega
                obtain rfl : a9 = some ⟨g9, 0, none⟩ := P9.out.base (by omega)
                obtain ⟨d0, d1⟩ := (P9.out.below HQ.out).cells j hjl
                simp only [Nat.zero_add] at d0 d1
                have HS : Hid (decide (∃ k, k < j + 1 ∧ keyAt ps k = key) = (decide (∃ k, k < j ∧ keyAt ps k = key) || decide (keyAt ps j = key))) := by
                  show _ = _
                  rw [← Bool.decide_or]
                  congr 1
                  apply propext
                  constructor
                  · rintro ⟨k, hk, e⟩
                    by_cases q : k = j
                    · subst q; exact Or.inr e
                    · exact Or.inl ⟨k, by omega, e⟩
                  · rintro (⟨k, hk, e⟩ | e)
                    · exact ⟨k, by omega, e⟩
                    · exact ⟨j, by omega, e⟩
                generalize decide (∃ k, k < j ∧ keyAt ps k = key) = th at *
                cases th
                · by_cases hq : keyAt ps j = key
                  · have HT2 : Hid (decide (∃ k, k < j + 1 ∧ keyAt ps k = key) = true) := by show _ = _; rw [HS.out, decide_eq_true hq]; rfl
                    have gq : (keyAt ps j == key) = true := by simp [hq]
                    clear HS hq
                    go_wp2_with fail
                    go_quiet (fail)
                    go_wp2_with fail
                    exact ⟨⟨j + 1, by omega, by first | rfl | go_num, by rw [HT2.out], below_drewN HQ.out _⟩, by simp [intOf]; omega⟩
                  · have HT2 : Hid (decide (∃ k, k < j + 1 ∧ keyAt ps k = key) = false) := by show _ = _; rw [HS.out, decide_eq_false hq]; rfl
                    have gq : (keyAt ps j == key) = false := by simp [hq]
                    clear HS hq
                    go_wp2_with fail
                    go_quiet (fail)
                    go_wp2_with fail
                    exact ⟨⟨j + 1, by omega, by first | rfl | go_num, by rw [HT2.out], below_drewN HQ.out _⟩, by simp [intOf]; omega⟩
                · have HT2 : Hid (decide (∃ k, k < j + 1 ∧ keyAt ps k = key) = true) := by show _ = _; rw [HS.out]; rfl
                  clear HS
                  go_wp2_with fail
                  go_quiet (fail)
                  go_wp2_with fail
                  exact ⟨⟨j + 1, by omega, by first | rfl | go_num, by rw [HT2.out], below_drewN HQ.out _⟩, by simp [intOf]; omega⟩
              · obtain rfl : j = ps.length := by omega
                have B4q : Hid (Below w4.heap.size w4 wq) := B49.out.trans (HQ.out.mono B49.out.size)
                have GT : Hid _ := GetT HE.out wq.heap.size G F key wq (Nat.le_refl _) ((ND.out.below B4q.out).mono B4q.out.size)
                rw [← TH.out]
                unfold getA at GT
                have HOV : Hid ((ansK t key).isSome = true ∨ (ansK t key).getD 0 = 0) := by
                  cases ansK t key with
                  | none => exact Or.inr rfl
                  | some v => exact Or.inl rfl
                generalize (ansK t key).isSome = ok1 at *
                generalize (ansK t key).getD 0 = vv at *
                have qo : (ok1 == ok1) = true := by simp
                go_wp2_with fail
                refine Calls.mono GT.out ?_
                rintro e w12 ⟨rfl, hb12⟩
                have H12 : Hid (Below W1.heap.size W1 w12) := H11.out.trans (hb12.mono H11.out.size)
                clear hb12
                rcases HOV.out with rfl | rfl
                · go_wp2_with fail
                  go_ret
                  exact ⟨rfl, (BL.out _ H12.out).1⟩
                · cases ok1
                  · go_wp2_with fail
                    go_ret
                    exact ⟨rfl, (BL.out _ H12.out).1⟩
                  · go_wp2_with fail
                    go_ret
                    exact ⟨rfl, (BL.out _ H12.out).1⟩
          · have g1' : (ps.length : Int) ≤ (i : Int) := by omega
            go_wp2_with fail
            go_loopw [11, 7] (fun vi vt wq => ∃ j : Nat, j ≤ ps.length ∧ vi = .int .i64 (j : Int) ∧ vt = .bool (decide (∃ k, k < j ∧ keyAt ps k = key)) ∧ Below w9.heap.size w9 wq) (fun vi _ _ => ps.length - (intOf vi).toNat)
            case atStart => exact ⟨0, Nat.zero_le _, rfl, by simp, HW.out⟩
            case round =>
              obtain ⟨j, hj, rfl, rfl, hbq⟩ := hrel
              rename World => wq
              have HQ : Hid (Below w9.heap.size w9 wq) := hbq
              have H11 : Hid (Below W1.heap.size W1 wq) := H9.out.trans (hbq.mono H9.out.size)
              obtain ⟨e0, e1, e2⟩ := CC.out _ H11.out
              clear hbq
              have j0 : (0 : Int) ≤ (j : Int) := Int.natCast_nonneg _
              by_cases hjl : j < ps.length
              · have j1 : (j : Int) < (ps.length : Int) := by omega
                obtain rfl : a9 = some ⟨g9, 0, none⟩ := P9.out.base (by omega)
                obtain ⟨d0, d1⟩ := (P9.out.below HQ.out).cells j hjl
                simp only [Nat.zero_add] at d0 d1
                have HS : Hid (decide (∃ k, k < j + 1 ∧ keyAt ps k = key) = (decide (∃ k, k < j ∧ keyAt ps k = key) || decide (keyAt ps j = key))) := by
                  show _ = _
                  rw [← Bool.decide_or]
                  congr 1
                  apply propext
                  constructor
                  · rintro ⟨k, hk, e⟩
                    by_cases q : k = j
                    · subst q; exact Or.inr e
                    · exact Or.inl ⟨k, by omega, e⟩
                  · rintro (⟨k, hk, e⟩ | e)
                    · exact ⟨k, by omega, e⟩
                    · exact ⟨j, by omega, e⟩
                generalize decide (∃ k, k < j ∧ keyAt ps k = key) = th at *
                cases th
                · by_cases hq : keyAt ps j = key
                  · have HT2 : Hid (decide (∃ k, k < j + 1 ∧ keyAt ps k = key) = true) := by show _ = _; rw [HS.out, decide_eq_true hq]; rfl
                    have gq : (keyAt ps j == key) = true := by simp [hq]
                    clear HS hq
                    go_wp2_with fail
                    go_quiet (fail)
                    go_wp2_with fail
                    exact ⟨⟨j + 1, by omega, by first | rfl | go_num, by rw [HT2.out], below_drewN HQ.out _⟩, by simp [intOf]; omega⟩
                  · have HT2 : Hid (decide (∃ k, k < j + 1 ∧ keyAt ps k = key) = false) := by show _ = _; rw [HS.out, decide_eq_false hq]; rfl
                    have gq : (keyAt ps j == key) = false := by simp [hq]
                    clear HS hq
                    go_wp2_with fail
                    go_quiet (fail)
                    go_wp2_with fail
                    exact ⟨⟨j + 1, by omega, by first | rfl | go_num, by rw [HT2.out], below_drewN HQ.out _⟩, by simp [intOf]; omega⟩
                · have HT2 : Hid (decide (∃ k, k < j + 1 ∧ keyAt ps k = key) = true) := by show _ = _; rw [HS.out]; rfl
                  clear HS
                  go_wp2_with fail
                  go_quiet (fail)
                  go_wp2_with fail
                  exact ⟨⟨j + 1, by omega, by first | rfl | go_num, by rw [HT2.out], below_drewN HQ.out _⟩, by simp [intOf]; omega⟩
              · obtain rfl : j = ps.length := by omega
                have B4q : Hid (Below w4.heap.size w4 wq) := B49.out.trans (HQ.out.mono B49.out.size)
                have GT : Hid _ := GetT HE.out wq.heap.size G F key wq (Nat.le_refl _) ((ND.out.below B4q.out).mono B4q.out.size)
                rw [← TH.out]
                unfold getA at GT
                have HOV : Hid ((ansK t key).isSome = true ∨ (ansK t key).getD 0 = 0) := by
                  cases ansK t key with
                  | none => exact Or.inr rfl
                  | some v => exact Or.inl rfl
                generalize (ansK t key).isSome = ok1 at *
                generalize (ansK t key).getD 0 = vv at *
                have qo : (ok1 == ok1) = true := by simp
                go_wp2_with fail
                refine Calls.mono GT.out ?_
                rintro e w12 ⟨rfl, hb12⟩
                have H12 : Hid (Below W1.heap.size W1 w12) := H11.out.trans (hb12.mono H11.out.size)
                clear hb12
                rcases HOV.out with rfl | rfl
                · go_wp2_with fail
                  go_ret
                  exact ⟨rfl, (BL.out _ H12.out).1⟩
                · cases ok1
                  · go_wp2_with fail
                    go_ret
                    exact ⟨rfl, (BL.out _ H12.out).1⟩
                  · go_wp2_with fail
                    go_ret
                    exact ⟨rfl, (BL.out _ H12.out).1⟩
    · have ho' : ordQ t = false := by simpa using ho
      rw [ho']
      go_wp2_with fail
      go_ret
      exact ⟨rfl, (BL.out _ H8.out).1⟩
  · have HE : Hid (formE t = 0 → False) := he
    have q : (formE t != 0) = true := by simp [he]
    have q2 : (formE t == formE t) = true := by simp
    obtain rfl := hbad he
    obtain ⟨e0, e1, e2⟩ := CC.out _ H4.out
    clear he hbad hok hb4 R4
    go_wp2_with fail
    refine (vcheck_any bT b o cT t _ (NT.out _ H4.out)).mono ?_
    rintro e w5 ⟨rfl, hb5⟩
    have H5 : Hid (Below W1.heap.size W1 w5) := H4.out.trans (hb5.mono H4.out.size)
    clear hb5
    go_wp2_with fail
    go_ret
    exact ⟨rfl, (BL.out _ H5.out).1⟩
end Go.Proofs.Ythdfpddijocfkaa







namespace Go.Proofs.Ythdfpddijocfkaa

open Go.ChangeShapes Go.WideShapes Go.ChangeAt Go.RowKit Go.Deep

theorem struct6x {P : Program} {H : Type} {enc : TypeId × Value → H} {w : World} {base : Nat} {spare : Nat → Bool} {held : Bool} {t : TypeId} {f0 f1 f2 f3 f4 f5 : Field} {fuel : Nat} {cs : List Value} {x : DataW H × List MemPlace} (ht : P.underlying t = some (.struct #[f0, f1, f2, f3, f4, f5])) (h : DataW.trod enc P w base spare held fuel t cs = some x) :
    ∃ y0 y1 y2 y3 y4 y5 n, x.1 = .agg [y0.1, y1.1, y2.1, y3.1, y4.1, y5.1] ∧ cs.length = P.cellsOf t ∧ DataW.trod enc P w base spare held n f0.type ((cs.drop f0.offset).take (P.cellsOf f0.type)) = some y0 ∧
      DataW.trod enc P w base spare held n f1.type ((cs.drop f1.offset).take (P.cellsOf f1.type)) = some y1 ∧ DataW.trod enc P w base spare held n f2.type ((cs.drop f2.offset).take (P.cellsOf f2.type)) = some y2 ∧
      DataW.trod enc P w base spare held n f3.type ((cs.drop f3.offset).take (P.cellsOf f3.type)) = some y3 ∧ DataW.trod enc P w base spare held n f4.type ((cs.drop f4.offset).take (P.cellsOf f4.type)) = some y4 ∧ DataW.trod enc P w base spare held n f5.type ((cs.drop f5.offset).take (P.cellsOf f5.type)) = some y5 := by
  obtain ⟨xs, n, _, rfl, hl, hlen, hf⟩ := DataW.trod_struct ht h
  match xs, hlen with
  | [y0, y1, y2, y3, y4, y5], _ => exact ⟨y0, y1, y2, y3, y4, y5, n, by simp, hl, by simpa using hf 0 f0 rfl, by simpa using hf 1 f1 rfl, by simpa using hf 2 f2 rfl, by simpa using hf 3 f3 rfl, by simpa using hf 4 f4 rfl, by simpa using hf 5 f5 rfl⟩
theorem nccase : Try.prog.cellsOf 25 = 6 := by kernel_rfl
section

variable {H : Type} {enc : TypeId × Value → H} {w : World}

theorem open_ks {n : Nat} {cs : List Value} {x : DataW H × List MemPlace} (h : DataW.trod enc Try.prog w 0 (fun _ => true) true n 23 cs = some x) :
    ∃ (a0 : Option Addr) (cap g o : Nat) (L : List Int), cs = [.slice a0 L.length cap] ∧ WsAt w a0 g o L ∧ (a0 = none → L.length = 0 ∧ cap = 0) ∧ L.length ≤ cap ∧ ((x.1.weights Try.prog 23).all (· ≤ reachBytes) = true → L.length * 8 ≤ 140737488351232) := by
  rcases open_slice Try.underlying23 h with ⟨hcs, _⟩ | ⟨a, len, cap, m, n, D, Pl, hcs, _, hl, hm, hme, hx, hel⟩
  · exact ⟨none, 0, 0, 0, [], by simpa using hcs, ⟨fun h => absurd rfl h, fun h => absurd rfl h, fun i hi => by simp at hi, by simp⟩, fun _ => ⟨rfl, rfl⟩, Nat.le_refl _, fun _ => by simp⟩
  · simp at hme
    subst hme
    have hw : ∀ k, k ≤ len → (x.1.weights Try.prog 23).all (· ≤ reachBytes) = true → k * 8 ≤ 140737488351232 := by
      intro k hk hwt
      rw [hx] at hwt
      simp only [DataW.weights, Try.underlying23, bin, List.all_cons, Bool.and_eq_true, decide_eq_true_eq] at hwt
      have := hwt.1
      simp [reachBytes] at this
      omega
    by_cases hlen : len = 0
    · subst hlen
      exact ⟨some a, m, 0, 0, [], hcs, ⟨fun h => absurd rfl h, fun h => absurd rfl h, fun i hi => by simp at hi, by simp⟩, (fun h => by cases h), Nat.zero_le _, fun _ => by simp⟩
    · have key : ∀ i, i < m → ∃ d : Int, w.cell? (a.add i) = some (.int .i64 d) := by
        intro i hi
        obtain ⟨cs, h1, h2⟩ := hel i hi
        rw [ci] at h1
        obtain ⟨a0, e0, _, _⟩ := DataW.trod_int Try.underlying3 h2
        subst e0
        obtain ⟨_, _, hcell⟩ := World.cells?_some h1
        have e0 := hcell 0 (by omega)
        rw [Deep.add_add] at e0
        exact ⟨a0, by simpa using e0⟩
      obtain ⟨f, hf⟩ := choose_lt key
      obtain ⟨b, o, s⟩ := a
      have hs : s = none := by
        have := hf 0 (by omega)
        simpa [Addr.add] using World.cell?_spot this
      subst hs
      simp only [addr_add'] at hf
      have e : ((List.range len).map f).length = len := by simp
      refine ⟨_, m, b, o, (List.range len).map f, by rw [e]; exact hcs, ⟨fun _ => rfl, fun _ => ?_, fun i hi => ?_, by simp; omega⟩, (fun h => by cases h), by rw [e]; omega, fun hwt => by rw [e]; exact hw len (Nat.le_refl _) hwt⟩
      · exact World.block_lt_of_cell? w _ (hf 0 (by omega))
      · simp at hi
        rw [hf i (by omega)]
        simp [List.getD_eq_getElem?_getD, List.getElem?_range hi]
theorem open_ncase {n : Nat} {cs : List Value} {x : DataW H × List MemPlace} (h : DataW.trod enc Try.prog w 0 (fun _ => true) true n 25 cs = some x) (hwt : (x.1.weights Try.prog 25).all (· ≤ reachBytes) = true) :
    ∃ (bT bw : Option Addr) (cT b o cw gw ow : Nat) (t : NL) (W : List Int) (a b' c d : Int), cs = [.slice bT t.length cT, .slice bw W.length cw, .int .i64 a, .int .i64 b', .int .i64 c, .int .i64 d] ∧ NodesAt w bT b o t ∧ (bT = none → t.length = 0 ∧ cT = 0) ∧ t.length * 48 ≤ 140737488351232 ∧ WsAt w bw gw ow W ∧ (bw = none → W.length = 0 ∧ cw = 0) ∧ W.length ≤ cw ∧ W.length * 8 ≤ 140737488351232 := by
  obtain ⟨y0, y1, y2, y3, y4, y5, m, hx, hl, g0, g1, g2, g3, g4, g5⟩ := struct6x Try.underlying25 h
  rw [nccase] at hl
  simp only [ci, cns, cis] at g0 g1 g2 g3 g4 g5
  rw [hx] at hwt
  simp only [DataW.weights, Try.underlying25, DataW.weightsEach, List.map_cons, List.map_nil, List.all_append, Bool.and_eq_true] at hwt
  match cs, hl with
  | [v0, v1, v2, v3, v4, v5], _ =>
    simp at g0 g1 g2 g3 g4 g5
    obtain ⟨bT, cT, b, o, t, e0, h1, h2, h3⟩ := open_nodes g0
    obtain ⟨bw, cw, gw, ow, W, e1, h4, h5, h5b, h6⟩ := open_ks g1
    obtain ⟨a, e2, _, _⟩ := DataW.trod_int Try.underlying3 g2
    obtain ⟨b', e3, _, _⟩ := DataW.trod_int Try.underlying3 g3
    obtain ⟨c, e4, _, _⟩ := DataW.trod_int Try.underlying3 g4
    obtain ⟨d, e5, _, _⟩ := DataW.trod_int Try.underlying3 g5
    simp at e0 e1 e2 e3 e4 e5
    exact ⟨bT, bw, cT, b, o, cw, gw, ow, t, W, a, b', c, d, by rw [e0, e1, e2, e3, e4, e5], h1, h2, h3 hwt.1, h4, h5, h5b, h6 hwt.2.1⟩
end

end Go.Proofs.Ythdfpddijocfkaa



namespace Go.Proofs.Ythdfpddijocfkaa

open Go.ChangeShapes Go.WideShapes Go.ChangeAt Go.RowKit Go.Deep

set_option maxRecDepth 100000 in
theorem nodeOrders_lifted (os : Os) (started : os.Started) (H : Type) (enc : TypeId × Value → H) :
    ReturnsInHanded {} Try.checked os 5 .any (Rows.nodeOrdersSpec.pre6 enc Try.prog Try.f5 Rows.nodeOrdersRow.domain false) (Rows.nodeOrdersSpec.post enc Try.prog Try.f5 false true false false) := by
  refine returnsInHanded_of_change_sized (C := Try.checked) own started (by kernel_rfl) Try.func5
    (ChangeSpec.witness6 (enc := enc) (C := Try.checked) false ⟨#[], #[.agg #[.slice none 0 0, .slice none 0 0, .int .i64 0, .int .i64 0, .int .i64 0, .int .i64 0]], []⟩ 8 (by kernel_rfl) (by kernel_rfl) (by kernel_rfl) (by kernel_rfl)) ?_
  intro W base args ds gs before hval0 hW _ hsz0 _
  have hsz : (DataW.weightsEach Try.prog (Try.f5.params.toList ++ Rows.nodeOrdersSpec.plain.varTypes Try.prog) (ds ++ gs)).all (· ≤ reachBytes) = true := hsz0
  have hval : ∀ (j : Nat) t v, Try.f5.params[j]? = some t → args[j]? = some v → Value.okWide Try.prog W .any base t v := hval0
  have hW' := hW
  obtain ⟨p, q, hA0, hV, rfl, hfz, hnd⟩ := hW
  have hA : DataW.TrodAll enc Try.prog W 0 (fun _ => true) true Try.f5.params.toList args.toList ds p := hA0
  rw [Try.params5] at hA hval hsz
  obtain ⟨v0, d0, rfl, rfl, h0⟩ := trodAll_one hA
  obtain ⟨rfl, rfl⟩ := trodVars_none hV
  obtain ⟨cs, rfl, hcs⟩ := okWide_struct Try.underlying25 (hval 0 25 v0 rfl rfl)
  have k0 := h0
  have lt0 : ∀ x ∈ p, x.block < W.heap.size := by obtain ⟨m, hm⟩ := k0; exact DataW.trod_lt m _ _ _ hm
  obtain ⟨fuel0, hf0⟩ := h0
  have hw0 : (d0.weights Try.prog 25).all (· ≤ reachBytes) = true := by
    simp only [List.cons_append, DataW.weightsEach, List.all_append, Bool.and_eq_true] at hsz
    exact hsz.1
  obtain ⟨bT, bw, cT, b, o, cw, gw, ow, t, Ws, x0, x1, x2, x3, e, h1, h2, h3, h4, h5, h5b, h6⟩ := open_ncase hf0 hw0
  have hcs2 : cs = #[.slice bT t.length cT, .slice bw Ws.length cw, .int .i64 x0, .int .i64 x1, .int .i64 x2, .int .i64 x3] := by
    apply Array.ext'
    simpa [Value.cells] using e
  subst hcs2
  clear hA0 hval0
  refine (nodeOrders_any bT b o cT t bw gw ow cw Ws x0 x1 x2 x3 W h1 h2 (by omega) h4 h5 (by omega) h5b).mono fun e W' ⟨he, bel⟩ => ?_
  subst he
  exact ⟨_, rfl, _, _, _, [], _, [], hW', trodAll_mk1 (shut_bool Try.underlying4 _), trodAll_mk1 (Below.trod laidOut (by kernel_rfl) (of_decide_eq_true (by kernel_rfl)) k0 bel lt0), rfl, bel.frame _, fun h => by cases h⟩

/-- For every input NodeOrders returns true, and its argument reads as before. -/
theorem nodeOrders_proved : Rows.NodeOrdersSaid :=
  OpenClaim.holds_of_wide 5 Try.f5 rfl rfl rfl rfl rfl rfl rfl ⟨rfl, rfl, rfl, rfl, rfl⟩ rfl rfl rfl rfl rfl (by kernel_rfl) Try.func5 (by kernel_rfl)
    (of_decide_eq_true (by kernel_rfl)) (by unfold Func.isWrapper; first | (rw [if_pos (by decide +kernel)]; kernel_rfl) | (rw [if_neg (by decide +kernel)]; exact ⟨rfl, rfl⟩))
    (fun os started H enc _ => nodeOrders_lifted os started H enc)
#print axioms nodeOrders_proved

end Go.Proofs.Ythdfpddijocfkaa

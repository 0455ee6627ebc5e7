/- Layer 6: ModelLaws from its statement 24 on. Layer 6: ModelLaws from its statement 26 on. Layer 6: ModelLaws from its statement 27 on. -/
import Derived.Test.YtjpfgfcggekklaaMW2
import Derived.Deep.DeepCutAuto
import Derived.Deep.CutRange
namespace Go.Proofs.Ytjpfgfcggekklaa
open Go.RowKit

set_option maxRecDepth 100000 in
set_option maxHeartbeats 3000000 in
theorem lawsat24 (next : LawsAt26) : LawsAt24 := by
  unfold LawsAt24
  intro w w5 w61 ma na b1 b2 ra mc nc c1 c2 rc ms ns os qs rt O N1 P G ab be r1 wa rlo rhi rne rba cb op x y m1 mk mh pa49 pk49 ph49 nb49 pa52 pk52 ph52 nb52 pa55 pk55 ph55 nb55 pa58 pk58 ph58 nb58 u0 u2 u4 u5 u6 u7 u8 u9 u10 u11 u12 u13 u14 u15 u16 u17 u18 u19 u20 u21 u22 u23 u24 u25 u26 u27 u28 u30 u31 u32 u34 u36 u38 u40 u41 u42 u43 u44 u45 u46 u47 u48 u49 u50 u51 u52 u53 u54 u55 u56 u57 u58 u59 u60 u61 u62 u63 u64 u65 u66 u67 u68 u69 u70 u71 u72 u73 u74 u75 u76 u77 u78 u79 u80 u81 u82 u83 u84 u85 u86 u87 u88 u89 u90 u91 u92 u93 u94 u95 u96 u97 u98 u99 u100 u101 u102 u103 u104 u105 u106 u107 u108 u109 u110 u111 u112 u113 u114 u115 u116 u117 u118 u119 u120 u121 u122 u123 u124 u125 u126 u127 u128 u129 u130 u131 u132 u133 u134 u135 u136 u137 u138 u139 u140 u141 u142 u143 u144 u145 u146 u147 u148 u149 u150 u151 u152 u153 u154 u155 u156 u157 u158 u159 u160 u161 u162 u163 u164 u165 u166 u167 u168 u169 u170 u171 u172 u173 u174 u175 u176 u177 u178 u179 u180 u181 u182 u183 u184 u185 u186 u187 u188 u189 u190 u191 u192 u193 u194 u195 u196 u197 u198 u199 u200 u201 u202 u203 u204 u205 u206 u207 u208 u209 u210 u211 u212 u213 u214 u215 u216 u217 u218 u219 u220 u221 u222 u223 u224 u225 u226 u227 u228 u229 u230 u231 u232 u233 u234 u235 u236 u237 u238 u239 u240 u241 u242 u243 u244 u245 u246 u247 u248 u249 u250 u251 u252 u253 u254 u255 u256 u257 u258 u259 u260 u261 u262 u263 u264 u265 u266 u267 u268 u269 u270 u271 u272 u273 u274 u275 u276 u277 u278 u279 u280 u281 u282 u283 u284 u285 u286 u287 u288 u289 u290 u291 u292 u293 u294 u295 u296 u297 u298 u299 u300 u301 u302 u303 u304 u305 u306 u307 u308 u309 u310 u311 u312 u313 u314 u315 u316 u317 u318 u319 u320 u321 u322 u323 u324 u325 u326 u327 u328 u329 u330 u331 u332 u333 u334 u335 u336 u337 u338 u339 u340 u341 u342 u343 u344 u345 u346 u347 u348 u349 u350 u351 u352 u353 u354 u355 u356 u357 u358 u359 u360 u361 u362 u363 u364 u365 u366 u367 u368 u369 u370 u371 u372 u373 u374 u375 u376 u377 u378 u379 u380 u381 u382 u383 u384 u385 u386 u387 u388 u389 u390 u391 u392 u393 u394 u395 u396 u397 u398 u399 u400 u401 hL hC hV zV hO hN hB rc49 zn49 pp49 rc52 zn52 pp52 rc55 zn55 pp55 rc58 zn58 pp58
  have CASE : Hid (∀ w' : World, Below w5.heap.size w5 w' → ∀ k, k < 14 → w'.cell? ⟨w.heap.size, k, none⟩ = ([.slice ma ms.length mc, .slice na ns.length nc, .slice b1 os.length c1, .slice b2 qs.length c2, .int .i64 op.kind, .int .i64 op.key, .int .i64 op.val, .int .i64 op.hi, .bool rt.ok, .int .i64 rt.key, .int .i64 rt.val, .slice ra rt.pairs.length rc, .int .i64 x, .int .i64 y] : List Value)[k]?) := hC
  have B3 : Hid (Below w.heap.size w w5) := hV
  have HLC : Hid (LC O N1 P G ab be r1 wa rlo rhi rne rba cb op x y) := hL
  have PM : Hid (∀ w', Below w5.heap.size w5 w' → PairsAt w' m1 mh 0 O) := fun w' hb => hO.below hb
  have NM : Hid (NilOk m1 O.length mk) := hN
  have YB : Hid (Below w5.heap.size w5 w61) := hB
  have TOW : Hid (∀ w', Below w5.heap.size w5 w' → Below w5.heap.size w5 w') := fun _ h => h
  have HVZ : Hid (w.heap.size < w5.heap.size) := zV
  have H0 : Hid (PairsAt w5 m1 mh 0 O) := hO
  have lO := hL.lO
  have lN := hL.lN
  have lP := hL.lP
  have lG := hL.lG
  have abl := hL.abl
  have bel := hL.bel
  have LG : Hid (G.length + 1 = P.length) := lG
  have lG2 : G.length ≤ 301 := by omega
  clear lG
  have COP : Hid (∀ X : PL, X.length ≤ 2000 → ∀ W a g k, PairsAt W a g 0 X → NilOk a X.length k → CopQ a k X W) := fun X hX W a g k h1 h2 => copied_any a g 0 k X W h1 h2 (by omega)
  unfold CopQ at COP
  have RC49 : Hid (∀ w', Below w61.heap.size w61 w' → ∀ k, w'.cell? ⟨nb49, k, none⟩ = (#[.bool rlo.ok, .int .i64 rlo.key, .int .i64 rlo.val, .slice pa49 rlo.pairs.length pk49] : Array Value)[k]?) := fun w' hb k => (hb.cell (p := ⟨nb49, k, none⟩) zn49).trans (rc49 k)
  have ZN49 : Hid (nb49 < w61.heap.size) := zn49
  have PP49x : Hid (∀ w', Below w61.heap.size w61 w' → PairsAt w' pa49 ph49 0 (RetD.pairs rlo)) := fun w' hb => pp49.below hb
  have RC52 : Hid (∀ w', Below w61.heap.size w61 w' → ∀ k, w'.cell? ⟨nb52, k, none⟩ = (#[.bool rhi.ok, .int .i64 rhi.key, .int .i64 rhi.val, .slice pa52 rhi.pairs.length pk52] : Array Value)[k]?) := fun w' hb k => (hb.cell (p := ⟨nb52, k, none⟩) zn52).trans (rc52 k)
  have ZN52 : Hid (nb52 < w61.heap.size) := zn52
  have PP52x : Hid (∀ w', Below w61.heap.size w61 w' → PairsAt w' pa52 ph52 0 (RetD.pairs rhi)) := fun w' hb => pp52.below hb
  have RC55 : Hid (∀ w', Below w61.heap.size w61 w' → ∀ k, w'.cell? ⟨nb55, k, none⟩ = (#[.bool rne.ok, .int .i64 rne.key, .int .i64 rne.val, .slice pa55 rne.pairs.length pk55] : Array Value)[k]?) := fun w' hb k => (hb.cell (p := ⟨nb55, k, none⟩) zn55).trans (rc55 k)
  have ZN55 : Hid (nb55 < w61.heap.size) := zn55
  have PP55x : Hid (∀ w', Below w61.heap.size w61 w' → PairsAt w' pa55 ph55 0 (RetD.pairs rne)) := fun w' hb => pp55.below hb
  have RC58 : Hid (∀ w', Below w61.heap.size w61 w' → ∀ k, w'.cell? ⟨nb58, k, none⟩ = (#[.bool rba.ok, .int .i64 rba.key, .int .i64 rba.val, .slice pa58 rba.pairs.length pk58] : Array Value)[k]?) := fun w' hb k => (hb.cell (p := ⟨nb58, k, none⟩) zn58).trans (rc58 k)
  have ZN58 : Hid (nb58 < w61.heap.size) := zn58
  have PP58x : Hid (∀ w', Below w61.heap.size w61 w' → PairsAt w' pa58 ph58 0 (RetD.pairs rba)) := fun w' hb => pp58.below hb
  clear hC hV hL hO hN hB zV rc49 pp49 rc52 pp52 rc55 pp55 rc58 pp58
  conv => arg 2; whnf
  have DQ := HLC.out.D12
  have DH : Hid (x < 9223372036854775807 → ∀ W base g cap, PairsAt W base g 0 O → NilOk base O.length cap → O.length ≤ cap → cap ≤ maxLen → DoN base cap O ⟨9, x + 1, 0, 9223372036854775807⟩ O ⟨true, 0, 0, ab⟩ W) := DQ
  clear DQ
  unfold DoN at DH
  have NONE : Hid (9223372036854775807 ≤ x → ab = []) := fun q => HLC.out.A12 (by omega)
  have hx := HLC.out.hx
  have e12 : w61.cell? ⟨w.heap.size, 12, none⟩ = some (.int .i64 x) := CASE.out _ (TOW.out _ YB.out) 12 (by omega)
  go_upto_if 346 with fail
  go_cut [40] from 346 to 359 (fun s wx => ∃ a k h, s = .slice a ab.length k ∧ Below w61.heap.size w61 wx ∧ PairsAt wx a h 0 ab)
  case first =>
    by_cases hlt : x < 9223372036854775807
    · have HLT : Hid (x < 9223372036854775807) := hlt
      have q1 : wrap64 (x + 1) = x + 1 := by unfold wrap64; omega
      have q2 : IntKind.i64.wrap (x + 1) = x + 1 := by rw [IntKind.wrap_i64]; omega
      clear e12
      have e12 : w61.cell? ⟨w.heap.size, 12, none⟩ = some (.int .i64 x) := CASE.out _ (TOW.out _ YB.out) 12 (by omega)
      have Hd62 : Hid (Below w61.heap.size w61 w61.drew) := (Below.refl _ _).drew
      have Hz62 : Hid (Below w61.heap.size w61 (w61.alloc (.cells #[.bool false, .int .i64 0, .int .i64 0, .slice none 0 0] 27)).drew) := (below_alloc _ _).drew
      have PX62 : Hid (∀ w', Below w61.heap.size w61 w' → PairsAt w' m1 mh 0 O) := fun w' hb => PM.out w' (YB.out.trans (hb.mono YB.out.size))
      have BC62 : Hid (∀ w', Below w61.heap.size w61 w' → Below w5.heap.size w5 w') := fun w' hb => (TOW.out _ YB.out).trans (hb.mono (TOW.out _ YB.out).size)
      go_wp2_with fail
      go_cut [42, 43, 44] from 347 to 357 (fun t1 t2 t3 wx => DidN w61 O ⟨true, 0, 0, ab⟩ t1 t2 t3 wx)
      case first =>
        go_region_held3 (fun w' => w'.cell? ⟨w.heap.size, 12, none⟩ = some (.int .i64 x))
          (first
            | (with_reducible exact XA62.out)
            | (with_reducible exact XZ62.out)
            | (with_reducible exact XA63.out)
            | (with_reducible exact XR63.out)
            | (with_reducible exact XC63.out)
            | go_keep)
          (first
            | (go_at_call 11; refine (COP.out O (by omega) _ m1 mh mk (PX62.out _ ?_) NM.out).mono ?_; (focus (first | exact Hd62.out | exact Hz62.out)); rintro e w62 ⟨ua62, uk62, ug62, rfl, hb62, hp62, hn62, hc62, hd62, _⟩; have Z62 : Hid (Below w61.heap.size w61 w62) := (by first | exact Hd62.out.trans hb62 | exact Hz62.out.trans (hb62.mono (by simp))); have XA62 : Hid (w62.cell? ⟨w.heap.size, 12, none⟩ = some (.int .i64 x)) := CASE.out _ (BC62.out _ Z62.out) 12 (by omega); have XZ62 : Hid ((w62.alloc (.cells #[.bool false, .int .i64 0, .int .i64 0, .slice none 0 0] 27)).cell? ⟨w.heap.size, 12, none⟩ = some (.int .i64 x)) := CASE.out _ (BC62.out _ (Z62.out.alloc Z62.out.size _)) 12 (by omega); have PC62 : Hid (PairsAt w62 ua62 ug62 0 O) := hp62; have NC62 : Hid (NilOk ua62 O.length uk62 ∧ O.length ≤ uk62 ∧ uk62 ≤ maxLen) := ⟨hn62, hc62, hd62⟩; (first | (have NB62 : Hid (NbAt w62 w61.heap.size) := ((NbAt.made w61).below (Below.refl _ _).drew).below hb62) | skip); clear hb62 hp62 hn62 hc62 hd62)
            | (go_at_call 31; refine ((DH.out HLT.out) _ ua62 ug62 uk62 ?_ NC62.out.1 NC62.out.2.1 NC62.out.2.2).mono ?_; (focus (first | exact PC62.out | exact PC62.out.below (below_alloc _ _))); rintro e w63 ⟨l63, lk63, lh63, a63, k63, h63, rfl, hb63, hp63, hn63, hq63, hg63, hh63⟩; have Z63 : Hid (Below w61.heap.size w61 w63) := (by first | exact Z62.out.trans (hb63.mono Z62.out.size) | exact (Z62.out.alloc Z62.out.size _).trans (hb63.mono (by have := Z62.out.size; simp; omega))); have XA63 : Hid (w63.cell? ⟨w.heap.size, 12, none⟩ = some (.int .i64 x)) := CASE.out _ (BC62.out _ Z63.out) 12 (by omega); have XR63 : Hid ((w63.alloc (.cells #[.bool true, .int .i64 0, .int .i64 0, .slice a63 ab.length k63] 27)).cell? ⟨w.heap.size, 12, none⟩ = some (.int .i64 x)) := CASE.out _ (BC62.out _ (Z63.out.alloc Z63.out.size _)) 12 (by omega); have PL63 : Hid (PairsAt w63 l63 lh63 0 O) := hp63; have NL63 : Hid (NilOk l63 O.length lk63) := hn63; have PR63 : Hid (PairsAt w63 a63 h63 0 (RetD.pairs ⟨true, 0, 0, ab⟩)) := hq63; (first | (have NB63 : Hid (NbAt w63 w61.heap.size) := NB62.out.below hb63; have G1 : Hid (O.length ≠ 0 → w61.heap.size < lh63) := (fun q => by have := hg63 q; have := NB62.out.lt; omega); have G2 : Hid ((RetD.pairs ⟨true, 0, 0, ab⟩).length ≠ 0 → w61.heap.size < h63) := (fun q => by have := hh63 q; have := NB62.out.lt; omega); have XC63 : Hid (((((w63.setCell ⟨w61.heap.size, 0, none⟩ (.bool true)).setCell ⟨w61.heap.size, 1, none⟩ (.int .i64 0)).setCell ⟨w61.heap.size, 2, none⟩ (.int .i64 0)).setCell ⟨w61.heap.size, 3, none⟩ (.slice a63 ab.length k63)).cell? ⟨w.heap.size, 12, none⟩ = some (.int .i64 x)) := CASE.out _ (BC62.out _ (below4 Z63.out (Nat.le_refl _) _ _ _ _)) 12 (by omega); have y0 : w63.cell? ⟨w61.heap.size, 0, none⟩ = some (.bool false) := NB63.out.cells 0; have y1 : w63.cell? ⟨w61.heap.size, 1, none⟩ = some (.int .i64 0) := NB63.out.cells 1; have y2 : w63.cell? ⟨w61.heap.size, 2, none⟩ = some (.int .i64 0) := NB63.out.cells 2; have y3 : w63.cell? ⟨w61.heap.size, 3, none⟩ = some (.slice none 0 0) := NB63.out.cells 3; have yf : ∀ k, w63.frozen? ⟨w61.heap.size, k, none⟩ = false := NB63.out.free; have yl : w61.heap.size < w63.heap.size := NB63.out.lt) | (have NB63 : Hid (NbAt w63 w62.heap.size) := (NbAt.made w62).below hb63; have G1 : Hid (O.length ≠ 0 → w62.heap.size < lh63) := (fun q => by have := hg63 q; simp at this; omega); have G2 : Hid ((RetD.pairs ⟨true, 0, 0, ab⟩).length ≠ 0 → w62.heap.size < h63) := (fun q => by have := hh63 q; simp at this; omega); have XC63 : Hid (((((w63.setCell ⟨w62.heap.size, 0, none⟩ (.bool true)).setCell ⟨w62.heap.size, 1, none⟩ (.int .i64 0)).setCell ⟨w62.heap.size, 2, none⟩ (.int .i64 0)).setCell ⟨w62.heap.size, 3, none⟩ (.slice a63 ab.length k63)).cell? ⟨w.heap.size, 12, none⟩ = some (.int .i64 x)) := CASE.out _ (BC62.out _ (below4 Z63.out Z62.out.size _ _ _ _)) 12 (by omega); have y0 : w63.cell? ⟨w62.heap.size, 0, none⟩ = some (.bool false) := NB63.out.cells 0; have y1 : w63.cell? ⟨w62.heap.size, 1, none⟩ = some (.int .i64 0) := NB63.out.cells 1; have y2 : w63.cell? ⟨w62.heap.size, 2, none⟩ = some (.int .i64 0) := NB63.out.cells 2; have y3 : w63.cell? ⟨w62.heap.size, 3, none⟩ = some (.slice none 0 0) := NB63.out.cells 3; have yf : ∀ k, w63.frozen? ⟨w62.heap.size, k, none⟩ = false := NB63.out.free; have yl : w62.heap.size < w63.heap.size := NB63.out.lt) | skip); clear hb63 hp63 hn63 hq63 hg63 hh63))
        all_goals
          go_wp2_with fail
          go_meet
          first
            | exact didn_of (did_set (r := ⟨true, 0, 0, ab⟩) Z63.out NB63.out (Nat.le_refl _) PL63.out PR63.out G1.out G2.out) NL63.out
            | exact didn_of (did_set (r := ⟨true, 0, 0, ab⟩) Z63.out NB63.out Z62.out.size PL63.out PR63.out G1.out G2.out) NL63.out
            | exact didn_of (did_new (r := ⟨true, 0, 0, ab⟩) Z63.out PL63.out PR63.out) NL63.out
      case rest =>
        obtain ⟨xa62, xk62, xh62, pa62, pk62, ph62, nb62, rfl, rfl, rfl, hbx, hnx, hcx, hpx, hnl, hqx⟩ := hcut
        generalize wc = w64 at *
        have Zc64 : Hid (Below w61.heap.size w61 w64) := hbx
        have RC62 : Hid (∀ w', Below w64.heap.size w64 w' → ∀ k, w'.cell? ⟨nb62, k, none⟩ = (#[.bool true, .int .i64 0, .int .i64 0, .slice pa62 ab.length pk62] : Array Value)[k]?) := fun w' hb k => (hb.cell (p := ⟨nb62, k, none⟩) hnx).trans (hcx k)
        have ZN62 : Hid (nb62 < w64.heap.size) := hnx
        have PL62x : Hid (∀ w', Below w64.heap.size w64 w' → PairsAt w' xa62 xh62 0 O) := fun w' hb => hpx.below hb
        have NL62x : Hid (NilOk xa62 O.length xk62) := hnl
        have PP62x : Hid (∀ w', Below w64.heap.size w64 w' → PairsAt w' pa62 ph62 0 (RetD.pairs ⟨true, 0, 0, ab⟩)) := fun w' hb => hqx.below hb
        clear hbx hnx hcx hpx hnl hqx
        clear e12
        have Cw5_w64 : Hid (Below w5.heap.size w5 w64) := YB.out.trans (Zc64.out.mono YB.out.size)
        have Cw61_w64 : Hid (Below w61.heap.size w61 w64) := Zc64.out
        have gz3 : w64.cell? ⟨nb62, 3, none⟩ = some (.slice pa62 ab.length pk62) := RC62.out _ (Below.refl _ _) 3
        go_wp2_with fail
        go_meet
        exact ⟨pa62, pk62, ph62, rfl, Zc64.out, PP62x.out _ (Below.refl _ _)⟩
    · have HLT : Hid (ab = []) := NONE.out (by omega)
      go_wp2_with fail
      go_meet
      exact ⟨none, 0, 0, by rw [HLT.out]; rfl, Below.refl _ _, by rw [HLT.out]; exact pairs_none _⟩
  case rest =>
    rename_i hK
    obtain ⟨ava, avk, avh, rfl, hbc, hpc⟩ := hcut
    generalize wc = w67 at *
    have PAav : Hid (∀ w', Below w67.heap.size w67 w' → PairsAt w' ava avh 0 ab) := fun w' hb => hpc.below hb
    have Cw5_w67 : Hid (Below w5.heap.size w5 w67) := YB.out.trans (hbc.mono YB.out.size)
    have Cw61_w67 : Hid (Below w61.heap.size w61 w67) := hbc
    refine hK _ _ ?_
    exact next w w5 w67 ma na b1 b2 ra mc nc c1 c2 rc ms ns os qs rt O N1 P G ab be r1 wa rlo rhi rne rba cb op x y m1 mk mh pa49 pk49 ph49 nb49 pa52 pk52 ph52 nb52 pa55 pk55 ph55 nb55 pa58 pk58 ph58 nb58 ava avk avh _ _ _ _ _ _ _ _ _ _ _ _ _ _ _ _ _ _ _ _ _ _ _ _ _ _ _ _ _ _ _ _ _ _ _ _ _ _ _ _ _ _ _ _ _ _ _ _ _ _ _ _ _ _ _ _ _ _ _ _ _ _ _ _ _ _ _ _ _ _ _ _ _ _ _ _ _ _ _ _ _ _ _ _ _ _ _ _ _ _ _ _ _ _ _ _ _ _ _ _ _ _ _ _ _ _ _ _ _ _ _ _ _ _ _ _ _ _ _ _ _ _ _ _ _ _ _ _ _ _ _ _ _ _ _ _ _ _ _ _ _ _ _ _ _ _ _ _ _ _ _ _ _ _ _ _ _ _ _ _ _ _ _ _ _ _ _ _ _ _ _ _ _ _ _ _ _ _ _ _ _ _ _ _ _ _ _ _ _ _ _ _ _ _ _ _ _ _ _ _ _ _ _ _ _ _ _ _ _ _ _ _ _ _ _ _ _ _ _ _ _ _ _ _ _ _ _ _ _ _ _ _ _ _ _ _ _ _ _ _ _ _ _ _ _ _ _ _ _ _ _ _ _ _ _ _ _ _ _ _ _ _ _ _ _ _ _ _ _ _ _ _ _ _ _ _ _ _ _ _ _ _ _ _ _ _ _ _ _ _ _ _ _ _ _ _ _ _ _ _ _ _ _ _ _ _ _ _ _ _ _ _ _ _ _ _ _ _ _ _ _ _ _ _ _ _ _ _ _ _ _ _ _ _ _ _ _ _ _ _ _ _ _ _ _ _ _ _ _ _ _ _ _ _ _ _ _ _ _ _ _ _ _ _ _ _ _ _ _ _ _ _ _ _ _ _ _ _ _ _ _ _ _ _ _ _ _ _ _ _ _ _ _ HLC.out CASE.out B3.out HVZ.out H0.out NM.out Cw5_w67.out (RC49.out _ Cw61_w67.out) (Nat.lt_of_lt_of_le ZN49.out (Below.size Cw61_w67.out)) (PP49x.out _ Cw61_w67.out) (RC52.out _ Cw61_w67.out) (Nat.lt_of_lt_of_le ZN52.out (Below.size Cw61_w67.out)) (PP52x.out _ Cw61_w67.out) (RC55.out _ Cw61_w67.out) (Nat.lt_of_lt_of_le ZN55.out (Below.size Cw61_w67.out)) (PP55x.out _ Cw61_w67.out) (RC58.out _ Cw61_w67.out) (Nat.lt_of_lt_of_le ZN58.out (Below.size Cw61_w67.out)) (PP58x.out _ Cw61_w67.out) (PAav.out _ (Below.refl _ _))
end Go.Proofs.Ytjpfgfcggekklaa
namespace Go.Proofs.Ytjpfgfcggekklaa
open Go.RowKit

set_option maxRecDepth 100000 in
set_option maxHeartbeats 3000000 in
theorem lawsat26 (next : LawsAt27) : LawsAt26 := by
  unfold LawsAt26
  intro w w5 w67 ma na b1 b2 ra mc nc c1 c2 rc ms ns os qs rt O N1 P G ab be r1 wa rlo rhi rne rba cb op x y m1 mk mh pa49 pk49 ph49 nb49 pa52 pk52 ph52 nb52 pa55 pk55 ph55 nb55 pa58 pk58 ph58 nb58 ava avk avh u0 u2 u4 u5 u6 u7 u8 u9 u10 u11 u12 u13 u14 u15 u16 u17 u18 u19 u20 u21 u22 u23 u24 u25 u26 u27 u28 u30 u31 u32 u34 u36 u38 u42 u43 u44 u45 u46 u47 u48 u49 u50 u51 u52 u53 u54 u55 u56 u57 u58 u59 u60 u61 u62 u63 u64 u65 u66 u67 u68 u69 u70 u71 u72 u73 u74 u75 u76 u77 u78 u79 u80 u81 u82 u83 u84 u85 u86 u87 u88 u89 u90 u91 u92 u93 u94 u95 u96 u97 u98 u99 u100 u101 u102 u103 u104 u105 u106 u107 u108 u109 u110 u111 u112 u113 u114 u115 u116 u117 u118 u119 u120 u121 u122 u123 u124 u125 u126 u127 u128 u129 u130 u131 u132 u133 u134 u135 u136 u137 u138 u139 u140 u141 u142 u143 u144 u145 u146 u147 u148 u149 u150 u151 u152 u153 u154 u155 u156 u157 u158 u159 u160 u161 u162 u163 u164 u165 u166 u167 u168 u169 u170 u171 u172 u173 u174 u175 u176 u177 u178 u179 u180 u181 u182 u183 u184 u185 u186 u187 u188 u189 u190 u191 u192 u193 u194 u195 u196 u197 u198 u199 u200 u201 u202 u203 u204 u205 u206 u207 u208 u209 u210 u211 u212 u213 u214 u215 u216 u217 u218 u219 u220 u221 u222 u223 u224 u225 u226 u227 u228 u229 u230 u231 u232 u233 u234 u235 u236 u237 u238 u239 u240 u241 u242 u243 u244 u245 u246 u247 u248 u249 u250 u251 u252 u253 u254 u255 u256 u257 u258 u259 u260 u261 u262 u263 u264 u265 u266 u267 u268 u269 u270 u271 u272 u273 u274 u275 u276 u277 u278 u279 u280 u281 u282 u283 u284 u285 u286 u287 u288 u289 u290 u291 u292 u293 u294 u295 u296 u297 u298 u299 u300 u301 u302 u303 u304 u305 u306 u307 u308 u309 u310 u311 u312 u313 u314 u315 u316 u317 u318 u319 u320 u321 u322 u323 u324 u325 u326 u327 u328 u329 u330 u331 u332 u333 u334 u335 u336 u337 u338 u339 u340 u341 u342 u343 u344 u345 u346 u347 u348 u349 u350 u351 u352 u353 u354 u355 u356 u357 u358 u359 u360 u361 u362 u363 u364 u365 u366 u367 u368 u369 u370 u371 u372 u373 u374 u375 u376 u377 u378 u379 u380 u381 u382 u383 u384 u385 u386 u387 u388 u389 u390 u391 u392 u393 u394 u395 u396 u397 u398 u399 u400 u401 hL hC hV zV hO hN hB rc49 zn49 pp49 rc52 zn52 pp52 rc55 zn55 pp55 rc58 zn58 pp58 prav
  have CASE : Hid (∀ w' : World, Below w5.heap.size w5 w' → ∀ k, k < 14 → w'.cell? ⟨w.heap.size, k, none⟩ = ([.slice ma ms.length mc, .slice na ns.length nc, .slice b1 os.length c1, .slice b2 qs.length c2, .int .i64 op.kind, .int .i64 op.key, .int .i64 op.val, .int .i64 op.hi, .bool rt.ok, .int .i64 rt.key, .int .i64 rt.val, .slice ra rt.pairs.length rc, .int .i64 x, .int .i64 y] : List Value)[k]?) := hC
  have B3 : Hid (Below w.heap.size w w5) := hV
  have HLC : Hid (LC O N1 P G ab be r1 wa rlo rhi rne rba cb op x y) := hL
  have PM : Hid (∀ w', Below w5.heap.size w5 w' → PairsAt w' m1 mh 0 O) := fun w' hb => hO.below hb
  have NM : Hid (NilOk m1 O.length mk) := hN
  have YB : Hid (Below w5.heap.size w5 w67) := hB
  have TOW : Hid (∀ w', Below w5.heap.size w5 w' → Below w5.heap.size w5 w') := fun _ h => h
  have HVZ : Hid (w.heap.size < w5.heap.size) := zV
  have H0 : Hid (PairsAt w5 m1 mh 0 O) := hO
  have lO := hL.lO
  have lN := hL.lN
  have lP := hL.lP
  have lG := hL.lG
  have abl := hL.abl
  have bel := hL.bel
  have LG : Hid (G.length + 1 = P.length) := lG
  have lG2 : G.length ≤ 301 := by omega
  clear lG
  have COP : Hid (∀ X : PL, X.length ≤ 2000 → ∀ W a g k, PairsAt W a g 0 X → NilOk a X.length k → CopQ a k X W) := fun X hX W a g k h1 h2 => copied_any a g 0 k X W h1 h2 (by omega)
  unfold CopQ at COP
  have RC49 : Hid (∀ w', Below w67.heap.size w67 w' → ∀ k, w'.cell? ⟨nb49, k, none⟩ = (#[.bool rlo.ok, .int .i64 rlo.key, .int .i64 rlo.val, .slice pa49 rlo.pairs.length pk49] : Array Value)[k]?) := fun w' hb k => (hb.cell (p := ⟨nb49, k, none⟩) zn49).trans (rc49 k)
  have ZN49 : Hid (nb49 < w67.heap.size) := zn49
  have PP49x : Hid (∀ w', Below w67.heap.size w67 w' → PairsAt w' pa49 ph49 0 (RetD.pairs rlo)) := fun w' hb => pp49.below hb
  have RC52 : Hid (∀ w', Below w67.heap.size w67 w' → ∀ k, w'.cell? ⟨nb52, k, none⟩ = (#[.bool rhi.ok, .int .i64 rhi.key, .int .i64 rhi.val, .slice pa52 rhi.pairs.length pk52] : Array Value)[k]?) := fun w' hb k => (hb.cell (p := ⟨nb52, k, none⟩) zn52).trans (rc52 k)
  have ZN52 : Hid (nb52 < w67.heap.size) := zn52
  have PP52x : Hid (∀ w', Below w67.heap.size w67 w' → PairsAt w' pa52 ph52 0 (RetD.pairs rhi)) := fun w' hb => pp52.below hb
  have RC55 : Hid (∀ w', Below w67.heap.size w67 w' → ∀ k, w'.cell? ⟨nb55, k, none⟩ = (#[.bool rne.ok, .int .i64 rne.key, .int .i64 rne.val, .slice pa55 rne.pairs.length pk55] : Array Value)[k]?) := fun w' hb k => (hb.cell (p := ⟨nb55, k, none⟩) zn55).trans (rc55 k)
  have ZN55 : Hid (nb55 < w67.heap.size) := zn55
  have PP55x : Hid (∀ w', Below w67.heap.size w67 w' → PairsAt w' pa55 ph55 0 (RetD.pairs rne)) := fun w' hb => pp55.below hb
  have RC58 : Hid (∀ w', Below w67.heap.size w67 w' → ∀ k, w'.cell? ⟨nb58, k, none⟩ = (#[.bool rba.ok, .int .i64 rba.key, .int .i64 rba.val, .slice pa58 rba.pairs.length pk58] : Array Value)[k]?) := fun w' hb k => (hb.cell (p := ⟨nb58, k, none⟩) zn58).trans (rc58 k)
  have ZN58 : Hid (nb58 < w67.heap.size) := zn58
  have PP58x : Hid (∀ w', Below w67.heap.size w67 w' → PairsAt w' pa58 ph58 0 (RetD.pairs rba)) := fun w' hb => pp58.below hb
  have PAav : Hid (∀ w', Below w67.heap.size w67 w' → PairsAt w' ava avh 0 ab) := fun w' hb => prav.below hb
  clear hC hV hL hO hN hB zV rc49 pp49 rc52 pp52 rc55 pp55 rc58 pp58 prav
  conv => arg 2; whnf
  have DQ := HLC.out.D13
  have DH : Hid ((-9223372036854775808) < x → ∀ W base g cap, PairsAt W base g 0 O → NilOk base O.length cap → O.length ≤ cap → cap ≤ maxLen → DoN base cap O ⟨9, (-9223372036854775808), 0, x - 1⟩ O ⟨true, 0, 0, be⟩ W) := DQ
  clear DQ
  unfold DoN at DH
  have NONE : Hid (x ≤ (-9223372036854775808) → be = []) := fun q => HLC.out.B13 (by omega)
  have hx := HLC.out.hx
  have e12 : w67.cell? ⟨w.heap.size, 12, none⟩ = some (.int .i64 x) := CASE.out _ (TOW.out _ YB.out) 12 (by omega)
  go_upto_if 363 with fail
  go_cut [41] from 363 to 377 (fun s wx => ∃ a k h, s = .slice a be.length k ∧ Below w67.heap.size w67 wx ∧ PairsAt wx a h 0 be)
  case first =>
    by_cases hlt : (-9223372036854775808) < x
    · have HLT : Hid ((-9223372036854775808) < x) := hlt
      have q1 : wrap64 (x - 1) = x - 1 := by unfold wrap64; omega
      have q2 : IntKind.i64.wrap (x - 1) = x - 1 := by rw [IntKind.wrap_i64]; omega
      clear e12
      have e12 : w67.cell? ⟨w.heap.size, 12, none⟩ = some (.int .i64 x) := CASE.out _ (TOW.out _ YB.out) 12 (by omega)
      have Hd72 : Hid (Below w67.heap.size w67 w67.drew) := (Below.refl _ _).drew
      have Hz72 : Hid (Below w67.heap.size w67 (w67.alloc (.cells #[.bool false, .int .i64 0, .int .i64 0, .slice none 0 0] 27)).drew) := (below_alloc _ _).drew
      have PX72 : Hid (∀ w', Below w67.heap.size w67 w' → PairsAt w' m1 mh 0 O) := fun w' hb => PM.out w' (YB.out.trans (hb.mono YB.out.size))
      have BC72 : Hid (∀ w', Below w67.heap.size w67 w' → Below w5.heap.size w5 w') := fun w' hb => (TOW.out _ YB.out).trans (hb.mono (TOW.out _ YB.out).size)
      go_wp2_with fail
      go_cut [45, 46, 47] from 364 to 375 (fun t1 t2 t3 wx => DidN w67 O ⟨true, 0, 0, be⟩ t1 t2 t3 wx)
      case first =>
        go_region_held3 (fun w' => w'.cell? ⟨w.heap.size, 12, none⟩ = some (.int .i64 x))
          (first
            | (with_reducible exact XA72.out)
            | (with_reducible exact XZ72.out)
            | (with_reducible exact XA73.out)
            | (with_reducible exact XR73.out)
            | (with_reducible exact XC73.out)
            | go_keep)
          (first
            | (go_at_call 11; refine (COP.out O (by omega) _ m1 mh mk (PX72.out _ ?_) NM.out).mono ?_; (focus (first | exact Hd72.out | exact Hz72.out)); rintro e w72 ⟨ua72, uk72, ug72, rfl, hb72, hp72, hn72, hc72, hd72, _⟩; have Z72 : Hid (Below w67.heap.size w67 w72) := (by first | exact Hd72.out.trans hb72 | exact Hz72.out.trans (hb72.mono (by simp))); have XA72 : Hid (w72.cell? ⟨w.heap.size, 12, none⟩ = some (.int .i64 x)) := CASE.out _ (BC72.out _ Z72.out) 12 (by omega); have XZ72 : Hid ((w72.alloc (.cells #[.bool false, .int .i64 0, .int .i64 0, .slice none 0 0] 27)).cell? ⟨w.heap.size, 12, none⟩ = some (.int .i64 x)) := CASE.out _ (BC72.out _ (Z72.out.alloc Z72.out.size _)) 12 (by omega); have PC72 : Hid (PairsAt w72 ua72 ug72 0 O) := hp72; have NC72 : Hid (NilOk ua72 O.length uk72 ∧ O.length ≤ uk72 ∧ uk72 ≤ maxLen) := ⟨hn72, hc72, hd72⟩; (first | (have NB72 : Hid (NbAt w72 w67.heap.size) := ((NbAt.made w67).below (Below.refl _ _).drew).below hb72) | skip); clear hb72 hp72 hn72 hc72 hd72)
            | (go_at_call 31; refine ((DH.out HLT.out) _ ua72 ug72 uk72 ?_ NC72.out.1 NC72.out.2.1 NC72.out.2.2).mono ?_; (focus (first | exact PC72.out | exact PC72.out.below (below_alloc _ _))); rintro e w73 ⟨l73, lk73, lh73, a73, k73, h73, rfl, hb73, hp73, hn73, hq73, hg73, hh73⟩; have Z73 : Hid (Below w67.heap.size w67 w73) := (by first | exact Z72.out.trans (hb73.mono Z72.out.size) | exact (Z72.out.alloc Z72.out.size _).trans (hb73.mono (by have := Z72.out.size; simp; omega))); have XA73 : Hid (w73.cell? ⟨w.heap.size, 12, none⟩ = some (.int .i64 x)) := CASE.out _ (BC72.out _ Z73.out) 12 (by omega); have XR73 : Hid ((w73.alloc (.cells #[.bool true, .int .i64 0, .int .i64 0, .slice a73 be.length k73] 27)).cell? ⟨w.heap.size, 12, none⟩ = some (.int .i64 x)) := CASE.out _ (BC72.out _ (Z73.out.alloc Z73.out.size _)) 12 (by omega); have PL73 : Hid (PairsAt w73 l73 lh73 0 O) := hp73; have NL73 : Hid (NilOk l73 O.length lk73) := hn73; have PR73 : Hid (PairsAt w73 a73 h73 0 (RetD.pairs ⟨true, 0, 0, be⟩)) := hq73; (first | (have NB73 : Hid (NbAt w73 w67.heap.size) := NB72.out.below hb73; have G1 : Hid (O.length ≠ 0 → w67.heap.size < lh73) := (fun q => by have := hg73 q; have := NB72.out.lt; omega); have G2 : Hid ((RetD.pairs ⟨true, 0, 0, be⟩).length ≠ 0 → w67.heap.size < h73) := (fun q => by have := hh73 q; have := NB72.out.lt; omega); have XC73 : Hid (((((w73.setCell ⟨w67.heap.size, 0, none⟩ (.bool true)).setCell ⟨w67.heap.size, 1, none⟩ (.int .i64 0)).setCell ⟨w67.heap.size, 2, none⟩ (.int .i64 0)).setCell ⟨w67.heap.size, 3, none⟩ (.slice a73 be.length k73)).cell? ⟨w.heap.size, 12, none⟩ = some (.int .i64 x)) := CASE.out _ (BC72.out _ (below4 Z73.out (Nat.le_refl _) _ _ _ _)) 12 (by omega); have y0 : w73.cell? ⟨w67.heap.size, 0, none⟩ = some (.bool false) := NB73.out.cells 0; have y1 : w73.cell? ⟨w67.heap.size, 1, none⟩ = some (.int .i64 0) := NB73.out.cells 1; have y2 : w73.cell? ⟨w67.heap.size, 2, none⟩ = some (.int .i64 0) := NB73.out.cells 2; have y3 : w73.cell? ⟨w67.heap.size, 3, none⟩ = some (.slice none 0 0) := NB73.out.cells 3; have yf : ∀ k, w73.frozen? ⟨w67.heap.size, k, none⟩ = false := NB73.out.free; have yl : w67.heap.size < w73.heap.size := NB73.out.lt) | (have NB73 : Hid (NbAt w73 w72.heap.size) := (NbAt.made w72).below hb73; have G1 : Hid (O.length ≠ 0 → w72.heap.size < lh73) := (fun q => by have := hg73 q; simp at this; omega); have G2 : Hid ((RetD.pairs ⟨true, 0, 0, be⟩).length ≠ 0 → w72.heap.size < h73) := (fun q => by have := hh73 q; simp at this; omega); have XC73 : Hid (((((w73.setCell ⟨w72.heap.size, 0, none⟩ (.bool true)).setCell ⟨w72.heap.size, 1, none⟩ (.int .i64 0)).setCell ⟨w72.heap.size, 2, none⟩ (.int .i64 0)).setCell ⟨w72.heap.size, 3, none⟩ (.slice a73 be.length k73)).cell? ⟨w.heap.size, 12, none⟩ = some (.int .i64 x)) := CASE.out _ (BC72.out _ (below4 Z73.out Z72.out.size _ _ _ _)) 12 (by omega); have y0 : w73.cell? ⟨w72.heap.size, 0, none⟩ = some (.bool false) := NB73.out.cells 0; have y1 : w73.cell? ⟨w72.heap.size, 1, none⟩ = some (.int .i64 0) := NB73.out.cells 1; have y2 : w73.cell? ⟨w72.heap.size, 2, none⟩ = some (.int .i64 0) := NB73.out.cells 2; have y3 : w73.cell? ⟨w72.heap.size, 3, none⟩ = some (.slice none 0 0) := NB73.out.cells 3; have yf : ∀ k, w73.frozen? ⟨w72.heap.size, k, none⟩ = false := NB73.out.free; have yl : w72.heap.size < w73.heap.size := NB73.out.lt) | skip); clear hb73 hp73 hn73 hq73 hg73 hh73))
        all_goals
          go_wp2_with fail
          go_meet
          first
            | exact didn_of (did_set (r := ⟨true, 0, 0, be⟩) Z73.out NB73.out (Nat.le_refl _) PL73.out PR73.out G1.out G2.out) NL73.out
            | exact didn_of (did_set (r := ⟨true, 0, 0, be⟩) Z73.out NB73.out Z72.out.size PL73.out PR73.out G1.out G2.out) NL73.out
            | exact didn_of (did_new (r := ⟨true, 0, 0, be⟩) Z73.out PL73.out PR73.out) NL73.out
      case rest =>
        obtain ⟨xa72, xk72, xh72, pa72, pk72, ph72, nb72, rfl, rfl, rfl, hbx, hnx, hcx, hpx, hnl, hqx⟩ := hcut
        generalize wc = w74 at *
        have Zc74 : Hid (Below w67.heap.size w67 w74) := hbx
        have RC72 : Hid (∀ w', Below w74.heap.size w74 w' → ∀ k, w'.cell? ⟨nb72, k, none⟩ = (#[.bool true, .int .i64 0, .int .i64 0, .slice pa72 be.length pk72] : Array Value)[k]?) := fun w' hb k => (hb.cell (p := ⟨nb72, k, none⟩) hnx).trans (hcx k)
        have ZN72 : Hid (nb72 < w74.heap.size) := hnx
        have PL72x : Hid (∀ w', Below w74.heap.size w74 w' → PairsAt w' xa72 xh72 0 O) := fun w' hb => hpx.below hb
        have NL72x : Hid (NilOk xa72 O.length xk72) := hnl
        have PP72x : Hid (∀ w', Below w74.heap.size w74 w' → PairsAt w' pa72 ph72 0 (RetD.pairs ⟨true, 0, 0, be⟩)) := fun w' hb => hqx.below hb
        clear hbx hnx hcx hpx hnl hqx
        clear e12
        have Cw5_w74 : Hid (Below w5.heap.size w5 w74) := YB.out.trans (Zc74.out.mono YB.out.size)
        have Cw67_w74 : Hid (Below w67.heap.size w67 w74) := Zc74.out
        have gz3 : w74.cell? ⟨nb72, 3, none⟩ = some (.slice pa72 be.length pk72) := RC72.out _ (Below.refl _ _) 3
        go_wp2_with fail
        go_meet
        exact ⟨pa72, pk72, ph72, rfl, Zc74.out, PP72x.out _ (Below.refl _ _)⟩
    · have HLT : Hid (be = []) := NONE.out (by omega)
      go_wp2_with fail
      go_meet
      exact ⟨none, 0, 0, by rw [HLT.out]; rfl, Below.refl _ _, by rw [HLT.out]; exact pairs_none _⟩
  case rest =>
    rename_i hK
    obtain ⟨bva, bvk, bvh, rfl, hbc, hpc⟩ := hcut
    generalize wc = w77 at *
    have PAbv : Hid (∀ w', Below w77.heap.size w77 w' → PairsAt w' bva bvh 0 be) := fun w' hb => hpc.below hb
    have Cw5_w77 : Hid (Below w5.heap.size w5 w77) := YB.out.trans (hbc.mono YB.out.size)
    have Cw67_w77 : Hid (Below w67.heap.size w67 w77) := hbc
    refine hK _ _ ?_
    exact next w w5 w77 ma na b1 b2 ra mc nc c1 c2 rc ms ns os qs rt O N1 P G ab be r1 wa rlo rhi rne rba cb op x y m1 mk mh pa49 pk49 ph49 nb49 pa52 pk52 ph52 nb52 pa55 pk55 ph55 nb55 pa58 pk58 ph58 nb58 ava avk avh bva bvk bvh _ _ _ _ _ _ _ _ _ _ _ _ _ _ _ _ _ _ _ _ _ _ _ _ _ _ _ _ _ _ _ _ _ _ _ _ _ _ _ _ _ _ _ _ _ _ _ _ _ _ _ _ _ _ _ _ _ _ _ _ _ _ _ _ _ _ _ _ _ _ _ _ _ _ _ _ _ _ _ _ _ _ _ _ _ _ _ _ _ _ _ _ _ _ _ _ _ _ _ _ _ _ _ _ _ _ _ _ _ _ _ _ _ _ _ _ _ _ _ _ _ _ _ _ _ _ _ _ _ _ _ _ _ _ _ _ _ _ _ _ _ _ _ _ _ _ _ _ _ _ _ _ _ _ _ _ _ _ _ _ _ _ _ _ _ _ _ _ _ _ _ _ _ _ _ _ _ _ _ _ _ _ _ _ _ _ _ _ _ _ _ _ _ _ _ _ _ _ _ _ _ _ _ _ _ _ _ _ _ _ _ _ _ _ _ _ _ _ _ _ _ _ _ _ _ _ _ _ _ _ _ _ _ _ _ _ _ _ _ _ _ _ _ _ _ _ _ _ _ _ _ _ _ _ _ _ _ _ _ _ _ _ _ _ _ _ _ _ _ _ _ _ _ _ _ _ _ _ _ _ _ _ _ _ _ _ _ _ _ _ _ _ _ _ _ _ _ _ _ _ _ _ _ _ _ _ _ _ _ _ _ _ _ _ _ _ _ _ _ _ _ _ _ _ _ _ _ _ _ _ _ _ _ _ _ _ _ _ _ _ _ _ _ _ _ _ _ _ _ _ _ _ _ _ _ _ _ _ _ _ _ _ _ _ _ _ _ _ _ _ _ _ _ _ _ _ _ _ _ _ _ _ _ _ _ _ _ _ _ _ _ _ _ HLC.out CASE.out B3.out HVZ.out H0.out NM.out Cw5_w77.out (RC49.out _ Cw67_w77.out) (Nat.lt_of_lt_of_le ZN49.out (Below.size Cw67_w77.out)) (PP49x.out _ Cw67_w77.out) (RC52.out _ Cw67_w77.out) (Nat.lt_of_lt_of_le ZN52.out (Below.size Cw67_w77.out)) (PP52x.out _ Cw67_w77.out) (RC55.out _ Cw67_w77.out) (Nat.lt_of_lt_of_le ZN55.out (Below.size Cw67_w77.out)) (PP55x.out _ Cw67_w77.out) (RC58.out _ Cw67_w77.out) (Nat.lt_of_lt_of_le ZN58.out (Below.size Cw67_w77.out)) (PP58x.out _ Cw67_w77.out) (PAav.out _ Cw67_w77.out) (PAbv.out _ (Below.refl _ _))
end Go.Proofs.Ytjpfgfcggekklaa
namespace Go.Proofs.Ytjpfgfcggekklaa
open Go.RowKit

set_option maxRecDepth 100000 in
set_option maxHeartbeats 3000000 in
theorem lawsat27  : LawsAt27 := by
  unfold LawsAt27
  intro w w5 w77 ma na b1 b2 ra mc nc c1 c2 rc ms ns os qs rt O N1 P G ab be r1 wa rlo rhi rne rba cb op x y m1 mk mh pa49 pk49 ph49 nb49 pa52 pk52 ph52 nb52 pa55 pk55 ph55 nb55 pa58 pk58 ph58 nb58 ava avk avh bva bvk bvh u0 u2 u4 u5 u6 u7 u8 u9 u10 u11 u12 u13 u14 u15 u16 u17 u18 u19 u20 u21 u22 u23 u24 u25 u26 u27 u28 u30 u31 u32 u34 u36 u38 u42 u43 u44 u45 u46 u47 u48 u49 u50 u51 u52 u53 u54 u55 u56 u57 u58 u59 u60 u61 u62 u63 u64 u65 u66 u67 u68 u69 u70 u71 u72 u73 u74 u75 u76 u77 u78 u79 u80 u81 u82 u83 u84 u85 u86 u87 u88 u89 u90 u91 u92 u93 u94 u95 u96 u97 u98 u99 u100 u101 u102 u103 u104 u105 u106 u107 u108 u109 u110 u111 u112 u113 u114 u115 u116 u117 u118 u119 u120 u121 u122 u123 u124 u125 u126 u127 u128 u129 u130 u131 u132 u133 u134 u135 u136 u137 u138 u139 u140 u141 u142 u143 u144 u145 u146 u147 u148 u149 u150 u151 u152 u153 u154 u155 u156 u157 u158 u159 u160 u161 u162 u163 u164 u165 u166 u167 u168 u169 u170 u171 u172 u173 u174 u175 u176 u177 u178 u179 u180 u181 u182 u183 u184 u185 u186 u187 u188 u189 u190 u191 u192 u193 u194 u195 u196 u197 u198 u199 u200 u201 u202 u203 u204 u205 u206 u207 u208 u209 u210 u211 u212 u213 u214 u215 u216 u217 u218 u219 u220 u221 u222 u223 u224 u225 u226 u227 u228 u229 u230 u231 u232 u233 u234 u235 u236 u237 u238 u239 u240 u241 u242 u243 u244 u245 u246 u247 u248 u249 u250 u251 u252 u253 u254 u255 u256 u257 u258 u259 u260 u261 u262 u263 u264 u265 u266 u267 u268 u269 u270 u271 u272 u273 u274 u275 u276 u277 u278 u279 u280 u281 u282 u283 u284 u285 u286 u287 u288 u289 u290 u291 u292 u293 u294 u295 u296 u297 u298 u299 u300 u301 u302 u303 u304 u305 u306 u307 u308 u309 u310 u311 u312 u313 u314 u315 u316 u317 u318 u319 u320 u321 u322 u323 u324 u325 u326 u327 u328 u329 u330 u331 u332 u333 u334 u335 u336 u337 u338 u339 u340 u341 u342 u343 u344 u345 u346 u347 u348 u349 u350 u351 u352 u353 u354 u355 u356 u357 u358 u359 u360 u361 u362 u363 u364 u365 u366 u367 u368 u369 u370 u371 u372 u373 u374 u375 u376 u377 u378 u379 u380 u381 u382 u383 u384 u385 u386 u387 u388 u389 u390 u391 u392 u393 u394 u395 u396 u397 u398 u399 u400 u401 hL hC hV zV hO hN hB rc49 zn49 pp49 rc52 zn52 pp52 rc55 zn55 pp55 rc58 zn58 pp58 prav prbv
  have CASE : Hid (∀ w' : World, Below w5.heap.size w5 w' → ∀ k, k < 14 → w'.cell? ⟨w.heap.size, k, none⟩ = ([.slice ma ms.length mc, .slice na ns.length nc, .slice b1 os.length c1, .slice b2 qs.length c2, .int .i64 op.kind, .int .i64 op.key, .int .i64 op.val, .int .i64 op.hi, .bool rt.ok, .int .i64 rt.key, .int .i64 rt.val, .slice ra rt.pairs.length rc, .int .i64 x, .int .i64 y] : List Value)[k]?) := hC
  have B3 : Hid (Below w.heap.size w w5) := hV
  have HLC : Hid (LC O N1 P G ab be r1 wa rlo rhi rne rba cb op x y) := hL
  have PM : Hid (∀ w', Below w5.heap.size w5 w' → PairsAt w' m1 mh 0 O) := fun w' hb => hO.below hb
  have NM : Hid (NilOk m1 O.length mk) := hN
  have YB : Hid (Below w5.heap.size w5 w77) := hB
  have TOW : Hid (∀ w', Below w5.heap.size w5 w' → Below w5.heap.size w5 w') := fun _ h => h
  have HVZ : Hid (w.heap.size < w5.heap.size) := zV
  have H0 : Hid (PairsAt w5 m1 mh 0 O) := hO
  have lO := hL.lO
  have lN := hL.lN
  have lP := hL.lP
  have lG := hL.lG
  have abl := hL.abl
  have bel := hL.bel
  have LG : Hid (G.length + 1 = P.length) := lG
  have lG2 : G.length ≤ 301 := by omega
  clear lG
  have COP : Hid (∀ X : PL, X.length ≤ 2000 → ∀ W a g k, PairsAt W a g 0 X → NilOk a X.length k → CopQ a k X W) := fun X hX W a g k h1 h2 => copied_any a g 0 k X W h1 h2 (by omega)
  unfold CopQ at COP
  have RC49 : Hid (∀ w', Below w77.heap.size w77 w' → ∀ k, w'.cell? ⟨nb49, k, none⟩ = (#[.bool rlo.ok, .int .i64 rlo.key, .int .i64 rlo.val, .slice pa49 rlo.pairs.length pk49] : Array Value)[k]?) := fun w' hb k => (hb.cell (p := ⟨nb49, k, none⟩) zn49).trans (rc49 k)
  have ZN49 : Hid (nb49 < w77.heap.size) := zn49
  have PP49x : Hid (∀ w', Below w77.heap.size w77 w' → PairsAt w' pa49 ph49 0 (RetD.pairs rlo)) := fun w' hb => pp49.below hb
  have RC52 : Hid (∀ w', Below w77.heap.size w77 w' → ∀ k, w'.cell? ⟨nb52, k, none⟩ = (#[.bool rhi.ok, .int .i64 rhi.key, .int .i64 rhi.val, .slice pa52 rhi.pairs.length pk52] : Array Value)[k]?) := fun w' hb k => (hb.cell (p := ⟨nb52, k, none⟩) zn52).trans (rc52 k)
  have ZN52 : Hid (nb52 < w77.heap.size) := zn52
  have PP52x : Hid (∀ w', Below w77.heap.size w77 w' → PairsAt w' pa52 ph52 0 (RetD.pairs rhi)) := fun w' hb => pp52.below hb
  have RC55 : Hid (∀ w', Below w77.heap.size w77 w' → ∀ k, w'.cell? ⟨nb55, k, none⟩ = (#[.bool rne.ok, .int .i64 rne.key, .int .i64 rne.val, .slice pa55 rne.pairs.length pk55] : Array Value)[k]?) := fun w' hb k => (hb.cell (p := ⟨nb55, k, none⟩) zn55).trans (rc55 k)
  have ZN55 : Hid (nb55 < w77.heap.size) := zn55
  have PP55x : Hid (∀ w', Below w77.heap.size w77 w' → PairsAt w' pa55 ph55 0 (RetD.pairs rne)) := fun w' hb => pp55.below hb
  have RC58 : Hid (∀ w', Below w77.heap.size w77 w' → ∀ k, w'.cell? ⟨nb58, k, none⟩ = (#[.bool rba.ok, .int .i64 rba.key, .int .i64 rba.val, .slice pa58 rba.pairs.length pk58] : Array Value)[k]?) := fun w' hb k => (hb.cell (p := ⟨nb58, k, none⟩) zn58).trans (rc58 k)
  have ZN58 : Hid (nb58 < w77.heap.size) := zn58
  have PP58x : Hid (∀ w', Below w77.heap.size w77 w' → PairsAt w' pa58 ph58 0 (RetD.pairs rba)) := fun w' hb => pp58.below hb
  have PAav : Hid (∀ w', Below w77.heap.size w77 w' → PairsAt w' ava avh 0 ab) := fun w' hb => prav.below hb
  have PAbv : Hid (∀ w', Below w77.heap.size w77 w' → PairsAt w' bva bvh 0 be) := fun w' hb => prbv.below hb
  clear hC hV hL hO hN hB zV rc49 pp49 rc52 pp52 rc55 pp55 rc58 pp58 prav prbv
  conv => arg 2; whnf
  have F1 : Hid (EndOk O 0 rlo) := HLC.out.F1
  have F2 : Hid (EndOk O ((O.length : Int) - 1) rhi) := HLC.out.F2
  have F3 : Hid (EndOk ab 0 rne) := HLC.out.F3
  have F4 : Hid (EndOk be ((be.length : Int) - 1) rba) := HLC.out.F4
  have g0 : w77.cell? ⟨nb49, 0, none⟩ = some (.bool rlo.ok) := RC49.out _ (Below.refl _ _) 0
  have g1 : w77.cell? ⟨nb49, 1, none⟩ = some (.int .i64 rlo.key) := RC49.out _ (Below.refl _ _) 1
  have g2 : w77.cell? ⟨nb49, 2, none⟩ = some (.int .i64 rlo.val) := RC49.out _ (Below.refl _ _) 2
  have g3 : w77.cell? ⟨nb49, 3, none⟩ = some (.slice pa49 rlo.pairs.length pk49) := RC49.out _ (Below.refl _ _) 3
  go_wp2_with fail
  refine (end_any m1 mh mk O _ rlo pa49 pk49 _ (PM.out _ YB.out) F1.out).mono ?_
  rintro e w80 ⟨rfl, hb80⟩
  clear g0 g1 g2 g3
  have Cw5_w80 : Hid (Below w5.heap.size w5 w80) := YB.out.trans (hb80.mono YB.out.size)
  have Cw77_w80 : Hid (Below w77.heap.size w77 w80) := hb80
  clear hb80
  have g0 : w80.cell? ⟨nb52, 0, none⟩ = some (.bool rhi.ok) := RC52.out _ Cw77_w80.out 0
  have g1 : w80.cell? ⟨nb52, 1, none⟩ = some (.int .i64 rhi.key) := RC52.out _ Cw77_w80.out 1
  have g2 : w80.cell? ⟨nb52, 2, none⟩ = some (.int .i64 rhi.val) := RC52.out _ Cw77_w80.out 2
  have g3 : w80.cell? ⟨nb52, 3, none⟩ = some (.slice pa52 rhi.pairs.length pk52) := RC52.out _ Cw77_w80.out 3
  go_wp2_with fail
  refine (end_any m1 mh mk O _ rhi pa52 pk52 _ (PM.out _ Cw5_w80.out) F2.out).mono ?_
  rintro e w81 ⟨rfl, hb81⟩
  clear g0 g1 g2 g3
  have Cw5_w81 : Hid (Below w5.heap.size w5 w81) := Cw5_w80.out.trans (hb81.mono Cw5_w80.out.size)
  have Cw77_w81 : Hid (Below w77.heap.size w77 w81) := Cw77_w80.out.trans (hb81.mono Cw77_w80.out.size)
  clear hb81
  have g0 : w81.cell? ⟨nb55, 0, none⟩ = some (.bool rne.ok) := RC55.out _ Cw77_w81.out 0
  have g1 : w81.cell? ⟨nb55, 1, none⟩ = some (.int .i64 rne.key) := RC55.out _ Cw77_w81.out 1
  have g2 : w81.cell? ⟨nb55, 2, none⟩ = some (.int .i64 rne.val) := RC55.out _ Cw77_w81.out 2
  have g3 : w81.cell? ⟨nb55, 3, none⟩ = some (.slice pa55 rne.pairs.length pk55) := RC55.out _ Cw77_w81.out 3
  go_wp2_with fail
  refine (end_any ava avh avk ab _ rne pa55 pk55 _ (PAav.out _ Cw77_w81.out) F3.out).mono ?_
  rintro e w82 ⟨rfl, hb82⟩
  clear g0 g1 g2 g3
  have Cw5_w82 : Hid (Below w5.heap.size w5 w82) := Cw5_w81.out.trans (hb82.mono Cw5_w81.out.size)
  have Cw77_w82 : Hid (Below w77.heap.size w77 w82) := Cw77_w81.out.trans (hb82.mono Cw77_w81.out.size)
  clear hb82
  have g0 : w82.cell? ⟨nb58, 0, none⟩ = some (.bool rba.ok) := RC58.out _ Cw77_w82.out 0
  have g1 : w82.cell? ⟨nb58, 1, none⟩ = some (.int .i64 rba.key) := RC58.out _ Cw77_w82.out 1
  have g2 : w82.cell? ⟨nb58, 2, none⟩ = some (.int .i64 rba.val) := RC58.out _ Cw77_w82.out 2
  have g3 : w82.cell? ⟨nb58, 3, none⟩ = some (.slice pa58 rba.pairs.length pk58) := RC58.out _ Cw77_w82.out 3
  go_wp2_with fail
  refine (end_any bva bvh bvk be _ rba pa58 pk58 _ (PAbv.out _ Cw77_w82.out) F4.out).mono ?_
  rintro e w83 ⟨rfl, hb83⟩
  clear g0 g1 g2 g3
  have Cw5_w83 : Hid (Below w5.heap.size w5 w83) := Cw5_w82.out.trans (hb83.mono Cw5_w82.out.size)
  have Cw77_w83 : Hid (Below w77.heap.size w77 w83) := Cw77_w82.out.trans (hb83.mono Cw77_w82.out.size)
  clear hb83
  go_wp2_with fail
  go_ret
  exact ⟨rfl, B3.out.trans (Below.mono Cw5_w83.out (by have := HVZ.out; omega))⟩
end Go.Proofs.Ytjpfgfcggekklaa

/- Layer 6: ModelLaws from its statement 9 on. Layer 6: ModelLaws from its statement 10 on. Layer 6: ModelLaws from its statement 11 on. Layer 6: ModelLaws from its statement 12 on. -/
import Derived.Test.YtjpfgfcggekklaaMW2
import Derived.Deep.DeepCutAuto
import Derived.Deep.CutRange
namespace Go.Proofs.Ytjpfgfcggekklaa
open Go.RowKit

set_option maxRecDepth 100000 in
set_option maxHeartbeats 3000000 in
theorem lawsat9 (next : LawsAt10) : LawsAt9 := by
  unfold LawsAt9
  intro w w5 w22 ma na b1 b2 ra mc nc c1 c2 rc ms ns os qs rt O N1 P G ab be r1 wa rlo rhi rne rba cb op x y m1 mk mh u0 u2 u4 u5 u6 u7 u8 u9 u10 u11 u12 u13 u14 u15 u16 u17 u18 u19 u20 u21 u22 u23 u24 u25 u26 u27 u28 u29 u30 u31 u32 u33 u34 u35 u36 u37 u38 u39 u40 u41 u42 u43 u44 u45 u46 u47 u48 u49 u50 u51 u52 u53 u54 u55 u56 u57 u58 u59 u60 u61 u62 u63 u64 u65 u66 u67 u68 u69 u70 u71 u72 u73 u74 u75 u76 u77 u78 u79 u80 u81 u82 u83 u84 u85 u86 u87 u88 u89 u90 u91 u92 u93 u94 u95 u96 u97 u98 u99 u100 u101 u102 u103 u104 u105 u106 u107 u108 u109 u110 u111 u112 u113 u114 u115 u116 u117 u118 u119 u120 u121 u122 u123 u124 u125 u126 u127 u128 u129 u130 u131 u132 u133 u134 u135 u136 u137 u138 u139 u140 u141 u142 u143 u144 u145 u146 u147 u148 u149 u150 u151 u152 u153 u154 u155 u156 u157 u158 u159 u160 u161 u162 u163 u164 u165 u166 u167 u168 u169 u170 u171 u172 u173 u174 u175 u176 u177 u178 u179 u180 u181 u182 u183 u184 u185 u186 u187 u188 u189 u190 u191 u192 u193 u194 u195 u196 u197 u198 u199 u200 u201 u202 u203 u204 u205 u206 u207 u208 u209 u210 u211 u212 u213 u214 u215 u216 u217 u218 u219 u220 u221 u222 u223 u224 u225 u226 u227 u228 u229 u230 u231 u232 u233 u234 u235 u236 u237 u238 u239 u240 u241 u242 u243 u244 u245 u246 u247 u248 u249 u250 u251 u252 u253 u254 u255 u256 u257 u258 u259 u260 u261 u262 u263 u264 u265 u266 u267 u268 u269 u270 u271 u272 u273 u274 u275 u276 u277 u278 u279 u280 u281 u282 u283 u284 u285 u286 u287 u288 u289 u290 u291 u292 u293 u294 u295 u296 u297 u298 u299 u300 u301 u302 u303 u304 u305 u306 u307 u308 u309 u310 u311 u312 u313 u314 u315 u316 u317 u318 u319 u320 u321 u322 u323 u324 u325 u326 u327 u328 u329 u330 u331 u332 u333 u334 u335 u336 u337 u338 u339 u340 u341 u342 u343 u344 u345 u346 u347 u348 u349 u350 u351 u352 u353 u354 u355 u356 u357 u358 u359 u360 u361 u362 u363 u364 u365 u366 u367 u368 u369 u370 u371 u372 u373 u374 u375 u376 u377 u378 u379 u380 u381 u382 u383 u384 u385 u386 u387 u388 u389 u390 u391 u392 u393 u394 u395 u396 u397 u398 u399 u400 u401 hL hC hV zV hO hN hB
  have CASE : Hid (∀ w' : World, Below w5.heap.size w5 w' → ∀ k, k < 14 → w'.cell? ⟨w.heap.size, k, none⟩ = ([.slice ma ms.length mc, .slice na ns.length nc, .slice b1 os.length c1, .slice b2 qs.length c2, .int .i64 op.kind, .int .i64 op.key, .int .i64 op.val, .int .i64 op.hi, .bool rt.ok, .int .i64 rt.key, .int .i64 rt.val, .slice ra rt.pairs.length rc, .int .i64 x, .int .i64 y] : List Value)[k]?) := hC
  have B3 : Hid (Below w.heap.size w w5) := hV
  have HLC : Hid (LC O N1 P G ab be r1 wa rlo rhi rne rba cb op x y) := hL
  have PM : Hid (∀ w', Below w5.heap.size w5 w' → PairsAt w' m1 mh 0 O) := fun w' hb => hO.below hb
  have NM : Hid (NilOk m1 O.length mk) := hN
  have YB : Hid (Below w5.heap.size w5 w22) := hB
  have TOW : Hid (∀ w', Below w5.heap.size w5 w' → Below w5.heap.size w5 w') := fun _ h => h
  have HVZ : Hid (w.heap.size < w5.heap.size) := zV
  have H0 : Hid (PairsAt w5 m1 mh 0 O) := hO
  have lO := hL.lO
  have lN := hL.lN
  have lP := hL.lP
  have lG := hL.lG
  have abl := hL.abl
  have bel := hL.bel
  have LG : Hid (G.length + 1 = P.length) := lG
  have lG2 : G.length ≤ 301 := by omega
  clear lG
  have COP : Hid (∀ X : PL, X.length ≤ 2000 → ∀ W a g k, PairsAt W a g 0 X → NilOk a X.length k → CopQ a k X W) := fun X hX W a g k h1 h2 => copied_any a g 0 k X W h1 h2 (by omega)
  unfold CopQ at COP
  clear hC hV hL hO hN hB zV 
  conv => arg 2; whnf
  have DQ := HLC.out.D1
  have DH : Hid (∀ W base g cap, PairsAt W base g 0 O → NilOk base O.length cap → O.length ≤ cap → cap ≤ maxLen → DoN base cap O op N1 r1 W) := DQ
  clear DQ
  unfold DoN at DH
  have e4 : w22.cell? ⟨w.heap.size, 4, none⟩ = some (.int .i64 op.kind) := CASE.out _ (TOW.out _ YB.out) 4 (by omega)
  have e5 : w22.cell? ⟨w.heap.size, 5, none⟩ = some (.int .i64 op.key) := CASE.out _ (TOW.out _ YB.out) 5 (by omega)
  have e6 : w22.cell? ⟨w.heap.size, 6, none⟩ = some (.int .i64 op.val) := CASE.out _ (TOW.out _ YB.out) 6 (by omega)
  have e7 : w22.cell? ⟨w.heap.size, 7, none⟩ = some (.int .i64 op.hi) := CASE.out _ (TOW.out _ YB.out) 7 (by omega)
  have Hd23 : Hid (Below w22.heap.size w22 w22.drew) := (Below.refl _ _).drew
  have Hz23 : Hid (Below w22.heap.size w22 (w22.alloc (.cells #[.bool false, .int .i64 0, .int .i64 0, .slice none 0 0] 27)).drew) := (below_alloc _ _).drew
  have PX23 : Hid (∀ w', Below w22.heap.size w22 w' → PairsAt w' m1 mh 0 O) := fun w' hb => PM.out w' (YB.out.trans (hb.mono YB.out.size))
  have BC23 : Hid (∀ w', Below w22.heap.size w22 w' → Below w5.heap.size w5 w') := fun w' hb => (TOW.out _ YB.out).trans (hb.mono (TOW.out _ YB.out).size)
  go_wp2_with fail
  go_cut [14, 15, 7] from 132 to 140 (fun t1 t2 t3 wx => DidN w22 N1 r1 t1 t2 t3 wx)
  case first =>
    go_region_held3 (fun w' => w'.cell? ⟨w.heap.size, 4, none⟩ = some (.int .i64 op.kind) ∧ w'.cell? ⟨w.heap.size, 5, none⟩ = some (.int .i64 op.key) ∧ w'.cell? ⟨w.heap.size, 6, none⟩ = some (.int .i64 op.val) ∧ w'.cell? ⟨w.heap.size, 7, none⟩ = some (.int .i64 op.hi))
      (first
        | (with_reducible exact XA23.out)
        | (with_reducible exact XZ23.out)
        | (with_reducible exact XA24.out)
        | (with_reducible exact XR24.out)
        | (with_reducible exact XC24.out)
        | go_keep)
      (first
        | (go_at_call 11; refine (COP.out O (by omega) _ m1 mh mk (PX23.out _ ?_) NM.out).mono ?_; (focus (first | exact Hd23.out | exact Hz23.out)); rintro e w23 ⟨ua23, uk23, ug23, rfl, hb23, hp23, hn23, hc23, hd23, _⟩; have Z23 : Hid (Below w22.heap.size w22 w23) := (by first | exact Hd23.out.trans hb23 | exact Hz23.out.trans (hb23.mono (by simp))); have XA23 : Hid (w23.cell? ⟨w.heap.size, 4, none⟩ = some (.int .i64 op.kind) ∧ w23.cell? ⟨w.heap.size, 5, none⟩ = some (.int .i64 op.key) ∧ w23.cell? ⟨w.heap.size, 6, none⟩ = some (.int .i64 op.val) ∧ w23.cell? ⟨w.heap.size, 7, none⟩ = some (.int .i64 op.hi)) := ⟨CASE.out _ (BC23.out _ Z23.out) 4 (by omega), CASE.out _ (BC23.out _ Z23.out) 5 (by omega), CASE.out _ (BC23.out _ Z23.out) 6 (by omega), CASE.out _ (BC23.out _ Z23.out) 7 (by omega)⟩; have XZ23 : Hid ((w23.alloc (.cells #[.bool false, .int .i64 0, .int .i64 0, .slice none 0 0] 27)).cell? ⟨w.heap.size, 4, none⟩ = some (.int .i64 op.kind) ∧ (w23.alloc (.cells #[.bool false, .int .i64 0, .int .i64 0, .slice none 0 0] 27)).cell? ⟨w.heap.size, 5, none⟩ = some (.int .i64 op.key) ∧ (w23.alloc (.cells #[.bool false, .int .i64 0, .int .i64 0, .slice none 0 0] 27)).cell? ⟨w.heap.size, 6, none⟩ = some (.int .i64 op.val) ∧ (w23.alloc (.cells #[.bool false, .int .i64 0, .int .i64 0, .slice none 0 0] 27)).cell? ⟨w.heap.size, 7, none⟩ = some (.int .i64 op.hi)) := ⟨CASE.out _ (BC23.out _ (Z23.out.alloc Z23.out.size _)) 4 (by omega), CASE.out _ (BC23.out _ (Z23.out.alloc Z23.out.size _)) 5 (by omega), CASE.out _ (BC23.out _ (Z23.out.alloc Z23.out.size _)) 6 (by omega), CASE.out _ (BC23.out _ (Z23.out.alloc Z23.out.size _)) 7 (by omega)⟩; have PC23 : Hid (PairsAt w23 ua23 ug23 0 O) := hp23; have NC23 : Hid (NilOk ua23 O.length uk23 ∧ O.length ≤ uk23 ∧ uk23 ≤ maxLen) := ⟨hn23, hc23, hd23⟩; (first | (have NB23 : Hid (NbAt w23 w22.heap.size) := ((NbAt.made w22).below (Below.refl _ _).drew).below hb23) | skip); clear hb23 hp23 hn23 hc23 hd23)
        | (go_at_call 31; refine (DH.out _ ua23 ug23 uk23 ?_ NC23.out.1 NC23.out.2.1 NC23.out.2.2).mono ?_; (focus (first | exact PC23.out | exact PC23.out.below (below_alloc _ _))); rintro e w24 ⟨l24, lk24, lh24, a24, k24, h24, rfl, hb24, hp24, hn24, hq24, hg24, hh24⟩; have Z24 : Hid (Below w22.heap.size w22 w24) := (by first | exact Z23.out.trans (hb24.mono Z23.out.size) | exact (Z23.out.alloc Z23.out.size _).trans (hb24.mono (by have := Z23.out.size; simp; omega))); have XA24 : Hid (w24.cell? ⟨w.heap.size, 4, none⟩ = some (.int .i64 op.kind) ∧ w24.cell? ⟨w.heap.size, 5, none⟩ = some (.int .i64 op.key) ∧ w24.cell? ⟨w.heap.size, 6, none⟩ = some (.int .i64 op.val) ∧ w24.cell? ⟨w.heap.size, 7, none⟩ = some (.int .i64 op.hi)) := ⟨CASE.out _ (BC23.out _ Z24.out) 4 (by omega), CASE.out _ (BC23.out _ Z24.out) 5 (by omega), CASE.out _ (BC23.out _ Z24.out) 6 (by omega), CASE.out _ (BC23.out _ Z24.out) 7 (by omega)⟩; have XR24 : Hid ((w24.alloc (.cells #[.bool r1.ok, .int .i64 r1.key, .int .i64 r1.val, .slice a24 r1.pairs.length k24] 27)).cell? ⟨w.heap.size, 4, none⟩ = some (.int .i64 op.kind) ∧ (w24.alloc (.cells #[.bool r1.ok, .int .i64 r1.key, .int .i64 r1.val, .slice a24 r1.pairs.length k24] 27)).cell? ⟨w.heap.size, 5, none⟩ = some (.int .i64 op.key) ∧ (w24.alloc (.cells #[.bool r1.ok, .int .i64 r1.key, .int .i64 r1.val, .slice a24 r1.pairs.length k24] 27)).cell? ⟨w.heap.size, 6, none⟩ = some (.int .i64 op.val) ∧ (w24.alloc (.cells #[.bool r1.ok, .int .i64 r1.key, .int .i64 r1.val, .slice a24 r1.pairs.length k24] 27)).cell? ⟨w.heap.size, 7, none⟩ = some (.int .i64 op.hi)) := ⟨CASE.out _ (BC23.out _ (Z24.out.alloc Z24.out.size _)) 4 (by omega), CASE.out _ (BC23.out _ (Z24.out.alloc Z24.out.size _)) 5 (by omega), CASE.out _ (BC23.out _ (Z24.out.alloc Z24.out.size _)) 6 (by omega), CASE.out _ (BC23.out _ (Z24.out.alloc Z24.out.size _)) 7 (by omega)⟩; have PL24 : Hid (PairsAt w24 l24 lh24 0 N1) := hp24; have NL24 : Hid (NilOk l24 N1.length lk24) := hn24; have PR24 : Hid (PairsAt w24 a24 h24 0 (RetD.pairs r1)) := hq24; (first | (have NB24 : Hid (NbAt w24 w22.heap.size) := NB23.out.below hb24; have G1 : Hid (N1.length ≠ 0 → w22.heap.size < lh24) := (fun q => by have := hg24 q; have := NB23.out.lt; omega); have G2 : Hid ((RetD.pairs r1).length ≠ 0 → w22.heap.size < h24) := (fun q => by have := hh24 q; have := NB23.out.lt; omega); have XC24 : Hid (((((w24.setCell ⟨w22.heap.size, 0, none⟩ (.bool r1.ok)).setCell ⟨w22.heap.size, 1, none⟩ (.int .i64 r1.key)).setCell ⟨w22.heap.size, 2, none⟩ (.int .i64 r1.val)).setCell ⟨w22.heap.size, 3, none⟩ (.slice a24 r1.pairs.length k24)).cell? ⟨w.heap.size, 4, none⟩ = some (.int .i64 op.kind) ∧ ((((w24.setCell ⟨w22.heap.size, 0, none⟩ (.bool r1.ok)).setCell ⟨w22.heap.size, 1, none⟩ (.int .i64 r1.key)).setCell ⟨w22.heap.size, 2, none⟩ (.int .i64 r1.val)).setCell ⟨w22.heap.size, 3, none⟩ (.slice a24 r1.pairs.length k24)).cell? ⟨w.heap.size, 5, none⟩ = some (.int .i64 op.key) ∧ ((((w24.setCell ⟨w22.heap.size, 0, none⟩ (.bool r1.ok)).setCell ⟨w22.heap.size, 1, none⟩ (.int .i64 r1.key)).setCell ⟨w22.heap.size, 2, none⟩ (.int .i64 r1.val)).setCell ⟨w22.heap.size, 3, none⟩ (.slice a24 r1.pairs.length k24)).cell? ⟨w.heap.size, 6, none⟩ = some (.int .i64 op.val) ∧ ((((w24.setCell ⟨w22.heap.size, 0, none⟩ (.bool r1.ok)).setCell ⟨w22.heap.size, 1, none⟩ (.int .i64 r1.key)).setCell ⟨w22.heap.size, 2, none⟩ (.int .i64 r1.val)).setCell ⟨w22.heap.size, 3, none⟩ (.slice a24 r1.pairs.length k24)).cell? ⟨w.heap.size, 7, none⟩ = some (.int .i64 op.hi)) := ⟨CASE.out _ (BC23.out _ (below4 Z24.out (Nat.le_refl _) _ _ _ _)) 4 (by omega), CASE.out _ (BC23.out _ (below4 Z24.out (Nat.le_refl _) _ _ _ _)) 5 (by omega), CASE.out _ (BC23.out _ (below4 Z24.out (Nat.le_refl _) _ _ _ _)) 6 (by omega), CASE.out _ (BC23.out _ (below4 Z24.out (Nat.le_refl _) _ _ _ _)) 7 (by omega)⟩; have y0 : w24.cell? ⟨w22.heap.size, 0, none⟩ = some (.bool false) := NB24.out.cells 0; have y1 : w24.cell? ⟨w22.heap.size, 1, none⟩ = some (.int .i64 0) := NB24.out.cells 1; have y2 : w24.cell? ⟨w22.heap.size, 2, none⟩ = some (.int .i64 0) := NB24.out.cells 2; have y3 : w24.cell? ⟨w22.heap.size, 3, none⟩ = some (.slice none 0 0) := NB24.out.cells 3; have yf : ∀ k, w24.frozen? ⟨w22.heap.size, k, none⟩ = false := NB24.out.free; have yl : w22.heap.size < w24.heap.size := NB24.out.lt) | (have NB24 : Hid (NbAt w24 w23.heap.size) := (NbAt.made w23).below hb24; have G1 : Hid (N1.length ≠ 0 → w23.heap.size < lh24) := (fun q => by have := hg24 q; simp at this; omega); have G2 : Hid ((RetD.pairs r1).length ≠ 0 → w23.heap.size < h24) := (fun q => by have := hh24 q; simp at this; omega); have XC24 : Hid (((((w24.setCell ⟨w23.heap.size, 0, none⟩ (.bool r1.ok)).setCell ⟨w23.heap.size, 1, none⟩ (.int .i64 r1.key)).setCell ⟨w23.heap.size, 2, none⟩ (.int .i64 r1.val)).setCell ⟨w23.heap.size, 3, none⟩ (.slice a24 r1.pairs.length k24)).cell? ⟨w.heap.size, 4, none⟩ = some (.int .i64 op.kind) ∧ ((((w24.setCell ⟨w23.heap.size, 0, none⟩ (.bool r1.ok)).setCell ⟨w23.heap.size, 1, none⟩ (.int .i64 r1.key)).setCell ⟨w23.heap.size, 2, none⟩ (.int .i64 r1.val)).setCell ⟨w23.heap.size, 3, none⟩ (.slice a24 r1.pairs.length k24)).cell? ⟨w.heap.size, 5, none⟩ = some (.int .i64 op.key) ∧ ((((w24.setCell ⟨w23.heap.size, 0, none⟩ (.bool r1.ok)).setCell ⟨w23.heap.size, 1, none⟩ (.int .i64 r1.key)).setCell ⟨w23.heap.size, 2, none⟩ (.int .i64 r1.val)).setCell ⟨w23.heap.size, 3, none⟩ (.slice a24 r1.pairs.length k24)).cell? ⟨w.heap.size, 6, none⟩ = some (.int .i64 op.val) ∧ ((((w24.setCell ⟨w23.heap.size, 0, none⟩ (.bool r1.ok)).setCell ⟨w23.heap.size, 1, none⟩ (.int .i64 r1.key)).setCell ⟨w23.heap.size, 2, none⟩ (.int .i64 r1.val)).setCell ⟨w23.heap.size, 3, none⟩ (.slice a24 r1.pairs.length k24)).cell? ⟨w.heap.size, 7, none⟩ = some (.int .i64 op.hi)) := ⟨CASE.out _ (BC23.out _ (below4 Z24.out Z23.out.size _ _ _ _)) 4 (by omega), CASE.out _ (BC23.out _ (below4 Z24.out Z23.out.size _ _ _ _)) 5 (by omega), CASE.out _ (BC23.out _ (below4 Z24.out Z23.out.size _ _ _ _)) 6 (by omega), CASE.out _ (BC23.out _ (below4 Z24.out Z23.out.size _ _ _ _)) 7 (by omega)⟩; have y0 : w24.cell? ⟨w23.heap.size, 0, none⟩ = some (.bool false) := NB24.out.cells 0; have y1 : w24.cell? ⟨w23.heap.size, 1, none⟩ = some (.int .i64 0) := NB24.out.cells 1; have y2 : w24.cell? ⟨w23.heap.size, 2, none⟩ = some (.int .i64 0) := NB24.out.cells 2; have y3 : w24.cell? ⟨w23.heap.size, 3, none⟩ = some (.slice none 0 0) := NB24.out.cells 3; have yf : ∀ k, w24.frozen? ⟨w23.heap.size, k, none⟩ = false := NB24.out.free; have yl : w23.heap.size < w24.heap.size := NB24.out.lt) | skip); clear hb24 hp24 hn24 hq24 hg24 hh24))
    all_goals
      go_wp2_with fail
      go_meet
      first
        | exact didn_of (did_set (r := r1) Z24.out NB24.out (Nat.le_refl _) PL24.out PR24.out G1.out G2.out) NL24.out
        | exact didn_of (did_set (r := r1) Z24.out NB24.out Z23.out.size PL24.out PR24.out G1.out G2.out) NL24.out
        | exact didn_of (did_new (r := r1) Z24.out PL24.out PR24.out) NL24.out
  case rest =>
    rename_i hK
    obtain ⟨xa23, xk23, xh23, pa23, pk23, ph23, nb23, rfl, rfl, rfl, hbx, hnx, hcx, hpx, hnl, hqx⟩ := hcut
    generalize wc = w25 at *
    have Zc25 : Hid (Below w22.heap.size w22 w25) := hbx
    have RC23 : Hid (∀ w', Below w25.heap.size w25 w' → ∀ k, w'.cell? ⟨nb23, k, none⟩ = (#[.bool r1.ok, .int .i64 r1.key, .int .i64 r1.val, .slice pa23 r1.pairs.length pk23] : Array Value)[k]?) := fun w' hb k => (hb.cell (p := ⟨nb23, k, none⟩) hnx).trans (hcx k)
    have ZN23 : Hid (nb23 < w25.heap.size) := hnx
    have PL23x : Hid (∀ w', Below w25.heap.size w25 w' → PairsAt w' xa23 xh23 0 N1) := fun w' hb => hpx.below hb
    have NL23x : Hid (NilOk xa23 N1.length xk23) := hnl
    have PP23x : Hid (∀ w', Below w25.heap.size w25 w' → PairsAt w' pa23 ph23 0 (RetD.pairs r1)) := fun w' hb => hqx.below hb
    clear hbx hnx hcx hpx hnl hqx
    clear e4 e5 e6 e7
    have Cw5_w25 : Hid (Below w5.heap.size w5 w25) := YB.out.trans (Zc25.out.mono YB.out.size)
    refine hK _ _ ?_
    exact next w w5 w25 ma na b1 b2 ra mc nc c1 c2 rc ms ns os qs rt O N1 P G ab be r1 wa rlo rhi rne rba cb op x y m1 mk mh xa23 xk23 xh23 _ _ _ _ _ _ _ _ _ _ _ _ _ _ _ _ _ _ _ _ _ _ _ _ _ _ _ _ _ _ _ _ _ _ _ _ _ _ _ _ _ _ _ _ _ _ _ _ _ _ _ _ _ _ _ _ _ _ _ _ _ _ _ _ _ _ _ _ _ _ _ _ _ _ _ _ _ _ _ _ _ _ _ _ _ _ _ _ _ _ _ _ _ _ _ _ _ _ _ _ _ _ _ _ _ _ _ _ _ _ _ _ _ _ _ _ _ _ _ _ _ _ _ _ _ _ _ _ _ _ _ _ _ _ _ _ _ _ _ _ _ _ _ _ _ _ _ _ _ _ _ _ _ _ _ _ _ _ _ _ _ _ _ _ _ _ _ _ _ _ _ _ _ _ _ _ _ _ _ _ _ _ _ _ _ _ _ _ _ _ _ _ _ _ _ _ _ _ _ _ _ _ _ _ _ _ _ _ _ _ _ _ _ _ _ _ _ _ _ _ _ _ _ _ _ _ _ _ _ _ _ _ _ _ _ _ _ _ _ _ _ _ _ _ _ _ _ _ _ _ _ _ _ _ _ _ _ _ _ _ _ _ _ _ _ _ _ _ _ _ _ _ _ _ _ _ _ _ _ _ _ _ _ _ _ _ _ _ _ _ _ _ _ _ _ _ _ _ _ _ _ _ _ _ _ _ _ _ _ _ _ _ _ _ _ _ _ _ _ _ _ _ _ _ _ _ _ _ _ _ _ _ _ _ _ _ _ _ _ _ _ _ _ _ _ _ _ _ _ _ _ _ _ _ _ _ _ _ _ _ _ _ _ _ _ _ _ _ _ _ _ _ _ _ _ _ _ _ _ _ _ _ _ _ _ _ _ _ _ _ _ _ _ _ _ _ _ _ HLC.out CASE.out B3.out HVZ.out H0.out NM.out Cw5_w25.out (PL23x.out _ (Below.refl _ _)) NL23x.out
end Go.Proofs.Ytjpfgfcggekklaa
namespace Go.Proofs.Ytjpfgfcggekklaa
open Go.RowKit

set_option maxRecDepth 100000 in
set_option maxHeartbeats 3000000 in
theorem lawsat10 (next : LawsAt11) : LawsAt10 := by
  unfold LawsAt10
  intro w w5 w25 ma na b1 b2 ra mc nc c1 c2 rc ms ns os qs rt O N1 P G ab be r1 wa rlo rhi rne rba cb op x y m1 mk mh xa23 xk23 xh23 u0 u2 u4 u5 u6 u8 u9 u10 u11 u12 u13 u15 u16 u17 u18 u19 u20 u21 u22 u23 u24 u25 u26 u27 u28 u29 u30 u31 u32 u33 u34 u35 u36 u37 u38 u39 u40 u41 u42 u43 u44 u45 u46 u47 u48 u49 u50 u51 u52 u53 u54 u55 u56 u57 u58 u59 u60 u61 u62 u63 u64 u65 u66 u67 u68 u69 u70 u71 u72 u73 u74 u75 u76 u77 u78 u79 u80 u81 u82 u83 u84 u85 u86 u87 u88 u89 u90 u91 u92 u93 u94 u95 u96 u97 u98 u99 u100 u101 u102 u103 u104 u105 u106 u107 u108 u109 u110 u111 u112 u113 u114 u115 u116 u117 u118 u119 u120 u121 u122 u123 u124 u125 u126 u127 u128 u129 u130 u131 u132 u133 u134 u135 u136 u137 u138 u139 u140 u141 u142 u143 u144 u145 u146 u147 u148 u149 u150 u151 u152 u153 u154 u155 u156 u157 u158 u159 u160 u161 u162 u163 u164 u165 u166 u167 u168 u169 u170 u171 u172 u173 u174 u175 u176 u177 u178 u179 u180 u181 u182 u183 u184 u185 u186 u187 u188 u189 u190 u191 u192 u193 u194 u195 u196 u197 u198 u199 u200 u201 u202 u203 u204 u205 u206 u207 u208 u209 u210 u211 u212 u213 u214 u215 u216 u217 u218 u219 u220 u221 u222 u223 u224 u225 u226 u227 u228 u229 u230 u231 u232 u233 u234 u235 u236 u237 u238 u239 u240 u241 u242 u243 u244 u245 u246 u247 u248 u249 u250 u251 u252 u253 u254 u255 u256 u257 u258 u259 u260 u261 u262 u263 u264 u265 u266 u267 u268 u269 u270 u271 u272 u273 u274 u275 u276 u277 u278 u279 u280 u281 u282 u283 u284 u285 u286 u287 u288 u289 u290 u291 u292 u293 u294 u295 u296 u297 u298 u299 u300 u301 u302 u303 u304 u305 u306 u307 u308 u309 u310 u311 u312 u313 u314 u315 u316 u317 u318 u319 u320 u321 u322 u323 u324 u325 u326 u327 u328 u329 u330 u331 u332 u333 u334 u335 u336 u337 u338 u339 u340 u341 u342 u343 u344 u345 u346 u347 u348 u349 u350 u351 u352 u353 u354 u355 u356 u357 u358 u359 u360 u361 u362 u363 u364 u365 u366 u367 u368 u369 u370 u371 u372 u373 u374 u375 u376 u377 u378 u379 u380 u381 u382 u383 u384 u385 u386 u387 u388 u389 u390 u391 u392 u393 u394 u395 u396 u397 u398 u399 u400 u401 hL hC hV zV hO hN hB pl23 nl23
  have CASE : Hid (∀ w' : World, Below w5.heap.size w5 w' → ∀ k, k < 14 → w'.cell? ⟨w.heap.size, k, none⟩ = ([.slice ma ms.length mc, .slice na ns.length nc, .slice b1 os.length c1, .slice b2 qs.length c2, .int .i64 op.kind, .int .i64 op.key, .int .i64 op.val, .int .i64 op.hi, .bool rt.ok, .int .i64 rt.key, .int .i64 rt.val, .slice ra rt.pairs.length rc, .int .i64 x, .int .i64 y] : List Value)[k]?) := hC
  have B3 : Hid (Below w.heap.size w w5) := hV
  have HLC : Hid (LC O N1 P G ab be r1 wa rlo rhi rne rba cb op x y) := hL
  have PM : Hid (∀ w', Below w5.heap.size w5 w' → PairsAt w' m1 mh 0 O) := fun w' hb => hO.below hb
  have NM : Hid (NilOk m1 O.length mk) := hN
  have YB : Hid (Below w5.heap.size w5 w25) := hB
  have TOW : Hid (∀ w', Below w5.heap.size w5 w' → Below w5.heap.size w5 w') := fun _ h => h
  have HVZ : Hid (w.heap.size < w5.heap.size) := zV
  have H0 : Hid (PairsAt w5 m1 mh 0 O) := hO
  have lO := hL.lO
  have lN := hL.lN
  have lP := hL.lP
  have lG := hL.lG
  have abl := hL.abl
  have bel := hL.bel
  have LG : Hid (G.length + 1 = P.length) := lG
  have lG2 : G.length ≤ 301 := by omega
  clear lG
  have COP : Hid (∀ X : PL, X.length ≤ 2000 → ∀ W a g k, PairsAt W a g 0 X → NilOk a X.length k → CopQ a k X W) := fun X hX W a g k h1 h2 => copied_any a g 0 k X W h1 h2 (by omega)
  unfold CopQ at COP
  have PL23x : Hid (∀ w', Below w25.heap.size w25 w' → PairsAt w' xa23 xh23 0 N1) := fun w' hb => pl23.below hb
  have NL23x : Hid (NilOk xa23 N1.length xk23) := nl23
  clear hC hV hL hO hN hB zV pl23 nl23
  conv => arg 2; whnf
  have SN : Hid (Srt N1) := HLC.out.sN
  have CKS : Hid (∀ X : PL, Srt X → ∀ W base g cap, PairsAt W base g 0 X → Calls Try.prog 10 #[.slice base X.length cap] W fun e w' => e = .returned (.int .i64 0) ∧ Below W.heap.size W w') := fun X hX W base g cap h => by
    have := pcheck_any base g 0 cap X W h
    rw [ckErr_zero.2 hX] at this; exact this
  have CH : Hid (∀ W, Calls Try.prog 17 #[.int .i64 op.kind] W fun e w' => e = .returned (.bool cb) ∧ W = w') := HLC.out.CH
  have STAY : Hid (cb = false → N1 = O) := HLC.out.STAY
  have SAMEN : Hid (cb = false → ∀ W a g k, PairsAt W a g 0 N1 → PairsAt W m1 mh 0 O → Calls Try.prog 19 #[.slice a N1.length k, .slice m1 O.length mk] W fun e w' => e = .returned (.bool true) ∧ Below W.heap.size W w') := fun q W a g k p1 p2 => by
    have := samePairs_any a m1 g 0 k mh 0 mk N1 O W p1 p2
    rw [show plEq N1 O = true by rw [STAY.out q]; simp [plEq]] at this; exact this
  have M25 : Hid (Below w5.heap.size w5 w25) := YB.out
  go_wp2_with fail
  refine (COP.out N1 (by omega) _ xa23 xh23 xk23 (PL23x.out _ (Below.refl _ _)) NL23x.out).mono ?_
  rintro e w26 ⟨ua26, uk26, ug26, rfl, hb26, hp26, -, -, -, -⟩
  have Z26 : Hid (Below w25.heap.size w25 w26) := hb26
  have PC26 : Hid (PairsAt w26 ua26 ug26 0 N1) := hp26
  clear hb26 hp26
  go_wp2_with fail
  refine (CKS.out N1 SN.out _ ua26 ug26 uk26 PC26.out).mono ?_
  rintro e w27 ⟨rfl, hb27⟩
  have Z27 : Hid (Below w25.heap.size w25 w27) := Z26.out.trans (hb27.mono Z26.out.size)
  have M27 : Hid (Below w5.heap.size w5 w27) := M25.out.trans (Z27.out.mono M25.out.size)
  clear hb27
  have e4 : w27.cell? ⟨w.heap.size, 4, none⟩ = some (.int .i64 op.kind) := CASE.out _ M27.out 4 (by omega)
  go_wp2_with fail
  refine (CH.out _).mono ?_
  rintro e wz ⟨rfl, rfl⟩
  clear e4
  cases hcc : cb
  · go_wp2_with fail
    refine (SAMEN.out hcc _ xa23 xh23 xk23 (PL23x.out _ Z27.out) (PM.out _ M27.out)).mono ?_
    rintro e w28 ⟨rfl, hb28⟩
    have Z28 : Hid (Below w25.heap.size w25 w28) := Z27.out.trans (hb28.mono Z27.out.size)
    clear hb28
    go_upto_if 161 with fail
    go_cut [] (fun wx => Below w25.heap.size w25 wx)
    case first =>
      go_wp2_with fail
      go_meet
      exact Z28.out
    case rest =>
      rename_i hK
      generalize wc = w29 at *
      have Cx : Hid (Below w5.heap.size w5 w29) := M25.out.trans (Below.mono hcut M25.out.size)
      refine hK _ _ ?_
      exact next w w5 w29 ma na b1 b2 ra mc nc c1 c2 rc ms ns os qs rt O N1 P G ab be r1 wa rlo rhi rne rba cb op x y m1 mk mh _ _ _ _ _ _ _ _ _ _ _ _ _ _ _ _ _ _ _ _ _ _ _ _ _ _ _ _ _ _ _ _ _ _ _ _ _ _ _ _ _ _ _ _ _ _ _ _ _ _ _ _ _ _ _ _ _ _ _ _ _ _ _ _ _ _ _ _ _ _ _ _ _ _ _ _ _ _ _ _ _ _ _ _ _ _ _ _ _ _ _ _ _ _ _ _ _ _ _ _ _ _ _ _ _ _ _ _ _ _ _ _ _ _ _ _ _ _ _ _ _ _ _ _ _ _ _ _ _ _ _ _ _ _ _ _ _ _ _ _ _ _ _ _ _ _ _ _ _ _ _ _ _ _ _ _ _ _ _ _ _ _ _ _ _ _ _ _ _ _ _ _ _ _ _ _ _ _ _ _ _ _ _ _ _ _ _ _ _ _ _ _ _ _ _ _ _ _ _ _ _ _ _ _ _ _ _ _ _ _ _ _ _ _ _ _ _ _ _ _ _ _ _ _ _ _ _ _ _ _ _ _ _ _ _ _ _ _ _ _ _ _ _ _ _ _ _ _ _ _ _ _ _ _ _ _ _ _ _ _ _ _ _ _ _ _ _ _ _ _ _ _ _ _ _ _ _ _ _ _ _ _ _ _ _ _ _ _ _ _ _ _ _ _ _ _ _ _ _ _ _ _ _ _ _ _ _ _ _ _ _ _ _ _ _ _ _ _ _ _ _ _ _ _ _ _ _ _ _ _ _ _ _ _ _ _ _ _ _ _ _ _ _ _ _ _ _ _ _ _ _ _ _ _ _ _ _ _ _ _ _ _ _ _ _ _ _ _ _ _ _ _ _ _ _ _ _ _ _ _ _ _ _ _ _ _ _ _ _ _ _ _ _ _ _ _ _ _ _ _ HLC.out CASE.out B3.out HVZ.out H0.out NM.out Cx.out
  · skip
    go_upto_if 161 with fail
    go_cut [] (fun wx => Below w25.heap.size w25 wx)
    case first =>
      go_wp2_with fail
      go_meet
      exact Z27.out
    case rest =>
      rename_i hK
      generalize wc = w29 at *
      have Cx : Hid (Below w5.heap.size w5 w29) := M25.out.trans (Below.mono hcut M25.out.size)
      refine hK _ _ ?_
      exact next w w5 w29 ma na b1 b2 ra mc nc c1 c2 rc ms ns os qs rt O N1 P G ab be r1 wa rlo rhi rne rba cb op x y m1 mk mh _ _ _ _ _ _ _ _ _ _ _ _ _ _ _ _ _ _ _ _ _ _ _ _ _ _ _ _ _ _ _ _ _ _ _ _ _ _ _ _ _ _ _ _ _ _ _ _ _ _ _ _ _ _ _ _ _ _ _ _ _ _ _ _ _ _ _ _ _ _ _ _ _ _ _ _ _ _ _ _ _ _ _ _ _ _ _ _ _ _ _ _ _ _ _ _ _ _ _ _ _ _ _ _ _ _ _ _ _ _ _ _ _ _ _ _ _ _ _ _ _ _ _ _ _ _ _ _ _ _ _ _ _ _ _ _ _ _ _ _ _ _ _ _ _ _ _ _ _ _ _ _ _ _ _ _ _ _ _ _ _ _ _ _ _ _ _ _ _ _ _ _ _ _ _ _ _ _ _ _ _ _ _ _ _ _ _ _ _ _ _ _ _ _ _ _ _ _ _ _ _ _ _ _ _ _ _ _ _ _ _ _ _ _ _ _ _ _ _ _ _ _ _ _ _ _ _ _ _ _ _ _ _ _ _ _ _ _ _ _ _ _ _ _ _ _ _ _ _ _ _ _ _ _ _ _ _ _ _ _ _ _ _ _ _ _ _ _ _ _ _ _ _ _ _ _ _ _ _ _ _ _ _ _ _ _ _ _ _ _ _ _ _ _ _ _ _ _ _ _ _ _ _ _ _ _ _ _ _ _ _ _ _ _ _ _ _ _ _ _ _ _ _ _ _ _ _ _ _ _ _ _ _ _ _ _ _ _ _ _ _ _ _ _ _ _ _ _ _ _ _ _ _ _ _ _ _ _ _ _ _ _ _ _ _ _ _ _ _ _ _ _ _ _ _ _ _ _ _ _ _ _ _ _ _ _ _ _ _ _ _ _ _ _ _ _ _ _ _ _ HLC.out CASE.out B3.out HVZ.out H0.out NM.out Cx.out
end Go.Proofs.Ytjpfgfcggekklaa
namespace Go.Proofs.Ytjpfgfcggekklaa
open Go.RowKit

set_option maxRecDepth 100000 in
set_option maxHeartbeats 3000000 in
theorem lawsat11 (next : LawsAt12) : LawsAt11 := by
  unfold LawsAt11
  intro w w5 w29 ma na b1 b2 ra mc nc c1 c2 rc ms ns os qs rt O N1 P G ab be r1 wa rlo rhi rne rba cb op x y m1 mk mh u0 u2 u4 u5 u6 u7 u8 u9 u10 u11 u12 u13 u14 u15 u16 u17 u18 u19 u20 u21 u22 u23 u24 u25 u26 u27 u28 u29 u30 u31 u32 u33 u34 u35 u36 u37 u38 u39 u40 u41 u42 u43 u44 u45 u46 u47 u48 u49 u50 u51 u52 u53 u54 u55 u56 u57 u58 u59 u60 u61 u62 u63 u64 u65 u66 u67 u68 u69 u70 u71 u72 u73 u74 u75 u76 u77 u78 u79 u80 u81 u82 u83 u84 u85 u86 u87 u88 u89 u90 u91 u92 u93 u94 u95 u96 u97 u98 u99 u100 u101 u102 u103 u104 u105 u106 u107 u108 u109 u110 u111 u112 u113 u114 u115 u116 u117 u118 u119 u120 u121 u122 u123 u124 u125 u126 u127 u128 u129 u130 u131 u132 u133 u134 u135 u136 u137 u138 u139 u140 u141 u142 u143 u144 u145 u146 u147 u148 u149 u150 u151 u152 u153 u154 u155 u156 u157 u158 u159 u160 u161 u162 u163 u164 u165 u166 u167 u168 u169 u170 u171 u172 u173 u174 u175 u176 u177 u178 u179 u180 u181 u182 u183 u184 u185 u186 u187 u188 u189 u190 u191 u192 u193 u194 u195 u196 u197 u198 u199 u200 u201 u202 u203 u204 u205 u206 u207 u208 u209 u210 u211 u212 u213 u214 u215 u216 u217 u218 u219 u220 u221 u222 u223 u224 u225 u226 u227 u228 u229 u230 u231 u232 u233 u234 u235 u236 u237 u238 u239 u240 u241 u242 u243 u244 u245 u246 u247 u248 u249 u250 u251 u252 u253 u254 u255 u256 u257 u258 u259 u260 u261 u262 u263 u264 u265 u266 u267 u268 u269 u270 u271 u272 u273 u274 u275 u276 u277 u278 u279 u280 u281 u282 u283 u284 u285 u286 u287 u288 u289 u290 u291 u292 u293 u294 u295 u296 u297 u298 u299 u300 u301 u302 u303 u304 u305 u306 u307 u308 u309 u310 u311 u312 u313 u314 u315 u316 u317 u318 u319 u320 u321 u322 u323 u324 u325 u326 u327 u328 u329 u330 u331 u332 u333 u334 u335 u336 u337 u338 u339 u340 u341 u342 u343 u344 u345 u346 u347 u348 u349 u350 u351 u352 u353 u354 u355 u356 u357 u358 u359 u360 u361 u362 u363 u364 u365 u366 u367 u368 u369 u370 u371 u372 u373 u374 u375 u376 u377 u378 u379 u380 u381 u382 u383 u384 u385 u386 u387 u388 u389 u390 u391 u392 u393 u394 u395 u396 u397 u398 u399 u400 u401 hL hC hV zV hO hN hB
  have CASE : Hid (∀ w' : World, Below w5.heap.size w5 w' → ∀ k, k < 14 → w'.cell? ⟨w.heap.size, k, none⟩ = ([.slice ma ms.length mc, .slice na ns.length nc, .slice b1 os.length c1, .slice b2 qs.length c2, .int .i64 op.kind, .int .i64 op.key, .int .i64 op.val, .int .i64 op.hi, .bool rt.ok, .int .i64 rt.key, .int .i64 rt.val, .slice ra rt.pairs.length rc, .int .i64 x, .int .i64 y] : List Value)[k]?) := hC
  have B3 : Hid (Below w.heap.size w w5) := hV
  have HLC : Hid (LC O N1 P G ab be r1 wa rlo rhi rne rba cb op x y) := hL
  have PM : Hid (∀ w', Below w5.heap.size w5 w' → PairsAt w' m1 mh 0 O) := fun w' hb => hO.below hb
  have NM : Hid (NilOk m1 O.length mk) := hN
  have YB : Hid (Below w5.heap.size w5 w29) := hB
  have TOW : Hid (∀ w', Below w5.heap.size w5 w' → Below w5.heap.size w5 w') := fun _ h => h
  have HVZ : Hid (w.heap.size < w5.heap.size) := zV
  have H0 : Hid (PairsAt w5 m1 mh 0 O) := hO
  have lO := hL.lO
  have lN := hL.lN
  have lP := hL.lP
  have lG := hL.lG
  have abl := hL.abl
  have bel := hL.bel
  have LG : Hid (G.length + 1 = P.length) := lG
  have lG2 : G.length ≤ 301 := by omega
  clear lG
  have COP : Hid (∀ X : PL, X.length ≤ 2000 → ∀ W a g k, PairsAt W a g 0 X → NilOk a X.length k → CopQ a k X W) := fun X hX W a g k h1 h2 => copied_any a g 0 k X W h1 h2 (by omega)
  unfold CopQ at COP
  clear hC hV hL hO hN hB zV 
  conv => arg 2; whnf
  have DQ := HLC.out.D2
  have DH : Hid (∀ W base g cap, PairsAt W base g 0 O → NilOk base O.length cap → O.length ≤ cap → cap ≤ maxLen → DoN base cap O ⟨2, x, y, 0⟩ P wa W) := DQ
  clear DQ
  unfold DoN at DH
  have e12 : w29.cell? ⟨w.heap.size, 12, none⟩ = some (.int .i64 x) := CASE.out _ (TOW.out _ YB.out) 12 (by omega)
  have e13 : w29.cell? ⟨w.heap.size, 13, none⟩ = some (.int .i64 y) := CASE.out _ (TOW.out _ YB.out) 13 (by omega)
  have Hd30 : Hid (Below w29.heap.size w29 w29.drew) := (Below.refl _ _).drew
  have Hz30 : Hid (Below w29.heap.size w29 (w29.alloc (.cells #[.bool false, .int .i64 0, .int .i64 0, .slice none 0 0] 27)).drew) := (below_alloc _ _).drew
  have PX30 : Hid (∀ w', Below w29.heap.size w29 w' → PairsAt w' m1 mh 0 O) := fun w' hb => PM.out w' (YB.out.trans (hb.mono YB.out.size))
  have BC30 : Hid (∀ w', Below w29.heap.size w29 w' → Below w5.heap.size w5 w') := fun w' hb => (TOW.out _ YB.out).trans (hb.mono (TOW.out _ YB.out).size)
  go_wp2_with fail
  go_cut [16, 17, 7] from 162 to 173 (fun t1 t2 t3 wx => DidN w29 P wa t1 t2 t3 wx)
  case first =>
    go_region_held3 (fun w' => w'.cell? ⟨w.heap.size, 12, none⟩ = some (.int .i64 x) ∧ w'.cell? ⟨w.heap.size, 13, none⟩ = some (.int .i64 y))
      (first
        | (with_reducible exact XA30.out)
        | (with_reducible exact XZ30.out)
        | (with_reducible exact XA31.out)
        | (with_reducible exact XR31.out)
        | (with_reducible exact XC31.out)
        | go_keep)
      (first
        | (go_at_call 11; refine (COP.out O (by omega) _ m1 mh mk (PX30.out _ ?_) NM.out).mono ?_; (focus (first | exact Hd30.out | exact Hz30.out)); rintro e w30 ⟨ua30, uk30, ug30, rfl, hb30, hp30, hn30, hc30, hd30, _⟩; have Z30 : Hid (Below w29.heap.size w29 w30) := (by first | exact Hd30.out.trans hb30 | exact Hz30.out.trans (hb30.mono (by simp))); have XA30 : Hid (w30.cell? ⟨w.heap.size, 12, none⟩ = some (.int .i64 x) ∧ w30.cell? ⟨w.heap.size, 13, none⟩ = some (.int .i64 y)) := ⟨CASE.out _ (BC30.out _ Z30.out) 12 (by omega), CASE.out _ (BC30.out _ Z30.out) 13 (by omega)⟩; have XZ30 : Hid ((w30.alloc (.cells #[.bool false, .int .i64 0, .int .i64 0, .slice none 0 0] 27)).cell? ⟨w.heap.size, 12, none⟩ = some (.int .i64 x) ∧ (w30.alloc (.cells #[.bool false, .int .i64 0, .int .i64 0, .slice none 0 0] 27)).cell? ⟨w.heap.size, 13, none⟩ = some (.int .i64 y)) := ⟨CASE.out _ (BC30.out _ (Z30.out.alloc Z30.out.size _)) 12 (by omega), CASE.out _ (BC30.out _ (Z30.out.alloc Z30.out.size _)) 13 (by omega)⟩; have PC30 : Hid (PairsAt w30 ua30 ug30 0 O) := hp30; have NC30 : Hid (NilOk ua30 O.length uk30 ∧ O.length ≤ uk30 ∧ uk30 ≤ maxLen) := ⟨hn30, hc30, hd30⟩; (first | (have NB30 : Hid (NbAt w30 w29.heap.size) := ((NbAt.made w29).below (Below.refl _ _).drew).below hb30) | skip); clear hb30 hp30 hn30 hc30 hd30)
        | (go_at_call 31; refine (DH.out _ ua30 ug30 uk30 ?_ NC30.out.1 NC30.out.2.1 NC30.out.2.2).mono ?_; (focus (first | exact PC30.out | exact PC30.out.below (below_alloc _ _))); rintro e w31 ⟨l31, lk31, lh31, a31, k31, h31, rfl, hb31, hp31, hn31, hq31, hg31, hh31⟩; have Z31 : Hid (Below w29.heap.size w29 w31) := (by first | exact Z30.out.trans (hb31.mono Z30.out.size) | exact (Z30.out.alloc Z30.out.size _).trans (hb31.mono (by have := Z30.out.size; simp; omega))); have XA31 : Hid (w31.cell? ⟨w.heap.size, 12, none⟩ = some (.int .i64 x) ∧ w31.cell? ⟨w.heap.size, 13, none⟩ = some (.int .i64 y)) := ⟨CASE.out _ (BC30.out _ Z31.out) 12 (by omega), CASE.out _ (BC30.out _ Z31.out) 13 (by omega)⟩; have XR31 : Hid ((w31.alloc (.cells #[.bool wa.ok, .int .i64 wa.key, .int .i64 wa.val, .slice a31 wa.pairs.length k31] 27)).cell? ⟨w.heap.size, 12, none⟩ = some (.int .i64 x) ∧ (w31.alloc (.cells #[.bool wa.ok, .int .i64 wa.key, .int .i64 wa.val, .slice a31 wa.pairs.length k31] 27)).cell? ⟨w.heap.size, 13, none⟩ = some (.int .i64 y)) := ⟨CASE.out _ (BC30.out _ (Z31.out.alloc Z31.out.size _)) 12 (by omega), CASE.out _ (BC30.out _ (Z31.out.alloc Z31.out.size _)) 13 (by omega)⟩; have PL31 : Hid (PairsAt w31 l31 lh31 0 P) := hp31; have NL31 : Hid (NilOk l31 P.length lk31) := hn31; have PR31 : Hid (PairsAt w31 a31 h31 0 (RetD.pairs wa)) := hq31; (first | (have NB31 : Hid (NbAt w31 w29.heap.size) := NB30.out.below hb31; have G1 : Hid (P.length ≠ 0 → w29.heap.size < lh31) := (fun q => by have := hg31 q; have := NB30.out.lt; omega); have G2 : Hid ((RetD.pairs wa).length ≠ 0 → w29.heap.size < h31) := (fun q => by have := hh31 q; have := NB30.out.lt; omega); have XC31 : Hid (((((w31.setCell ⟨w29.heap.size, 0, none⟩ (.bool wa.ok)).setCell ⟨w29.heap.size, 1, none⟩ (.int .i64 wa.key)).setCell ⟨w29.heap.size, 2, none⟩ (.int .i64 wa.val)).setCell ⟨w29.heap.size, 3, none⟩ (.slice a31 wa.pairs.length k31)).cell? ⟨w.heap.size, 12, none⟩ = some (.int .i64 x) ∧ ((((w31.setCell ⟨w29.heap.size, 0, none⟩ (.bool wa.ok)).setCell ⟨w29.heap.size, 1, none⟩ (.int .i64 wa.key)).setCell ⟨w29.heap.size, 2, none⟩ (.int .i64 wa.val)).setCell ⟨w29.heap.size, 3, none⟩ (.slice a31 wa.pairs.length k31)).cell? ⟨w.heap.size, 13, none⟩ = some (.int .i64 y)) := ⟨CASE.out _ (BC30.out _ (below4 Z31.out (Nat.le_refl _) _ _ _ _)) 12 (by omega), CASE.out _ (BC30.out _ (below4 Z31.out (Nat.le_refl _) _ _ _ _)) 13 (by omega)⟩; have y0 : w31.cell? ⟨w29.heap.size, 0, none⟩ = some (.bool false) := NB31.out.cells 0; have y1 : w31.cell? ⟨w29.heap.size, 1, none⟩ = some (.int .i64 0) := NB31.out.cells 1; have y2 : w31.cell? ⟨w29.heap.size, 2, none⟩ = some (.int .i64 0) := NB31.out.cells 2; have y3 : w31.cell? ⟨w29.heap.size, 3, none⟩ = some (.slice none 0 0) := NB31.out.cells 3; have yf : ∀ k, w31.frozen? ⟨w29.heap.size, k, none⟩ = false := NB31.out.free; have yl : w29.heap.size < w31.heap.size := NB31.out.lt) | (have NB31 : Hid (NbAt w31 w30.heap.size) := (NbAt.made w30).below hb31; have G1 : Hid (P.length ≠ 0 → w30.heap.size < lh31) := (fun q => by have := hg31 q; simp at this; omega); have G2 : Hid ((RetD.pairs wa).length ≠ 0 → w30.heap.size < h31) := (fun q => by have := hh31 q; simp at this; omega); have XC31 : Hid (((((w31.setCell ⟨w30.heap.size, 0, none⟩ (.bool wa.ok)).setCell ⟨w30.heap.size, 1, none⟩ (.int .i64 wa.key)).setCell ⟨w30.heap.size, 2, none⟩ (.int .i64 wa.val)).setCell ⟨w30.heap.size, 3, none⟩ (.slice a31 wa.pairs.length k31)).cell? ⟨w.heap.size, 12, none⟩ = some (.int .i64 x) ∧ ((((w31.setCell ⟨w30.heap.size, 0, none⟩ (.bool wa.ok)).setCell ⟨w30.heap.size, 1, none⟩ (.int .i64 wa.key)).setCell ⟨w30.heap.size, 2, none⟩ (.int .i64 wa.val)).setCell ⟨w30.heap.size, 3, none⟩ (.slice a31 wa.pairs.length k31)).cell? ⟨w.heap.size, 13, none⟩ = some (.int .i64 y)) := ⟨CASE.out _ (BC30.out _ (below4 Z31.out Z30.out.size _ _ _ _)) 12 (by omega), CASE.out _ (BC30.out _ (below4 Z31.out Z30.out.size _ _ _ _)) 13 (by omega)⟩; have y0 : w31.cell? ⟨w30.heap.size, 0, none⟩ = some (.bool false) := NB31.out.cells 0; have y1 : w31.cell? ⟨w30.heap.size, 1, none⟩ = some (.int .i64 0) := NB31.out.cells 1; have y2 : w31.cell? ⟨w30.heap.size, 2, none⟩ = some (.int .i64 0) := NB31.out.cells 2; have y3 : w31.cell? ⟨w30.heap.size, 3, none⟩ = some (.slice none 0 0) := NB31.out.cells 3; have yf : ∀ k, w31.frozen? ⟨w30.heap.size, k, none⟩ = false := NB31.out.free; have yl : w30.heap.size < w31.heap.size := NB31.out.lt) | skip); clear hb31 hp31 hn31 hq31 hg31 hh31))
    all_goals
      go_wp2_with fail
      go_meet
      first
        | exact didn_of (did_set (r := wa) Z31.out NB31.out (Nat.le_refl _) PL31.out PR31.out G1.out G2.out) NL31.out
        | exact didn_of (did_set (r := wa) Z31.out NB31.out Z30.out.size PL31.out PR31.out G1.out G2.out) NL31.out
        | exact didn_of (did_new (r := wa) Z31.out PL31.out PR31.out) NL31.out
  case rest =>
    rename_i hK
    obtain ⟨xa30, xk30, xh30, pa30, pk30, ph30, nb30, rfl, rfl, rfl, hbx, hnx, hcx, hpx, hnl, hqx⟩ := hcut
    generalize wc = w32 at *
    have Zc32 : Hid (Below w29.heap.size w29 w32) := hbx
    have RC30 : Hid (∀ w', Below w32.heap.size w32 w' → ∀ k, w'.cell? ⟨nb30, k, none⟩ = (#[.bool wa.ok, .int .i64 wa.key, .int .i64 wa.val, .slice pa30 wa.pairs.length pk30] : Array Value)[k]?) := fun w' hb k => (hb.cell (p := ⟨nb30, k, none⟩) hnx).trans (hcx k)
    have ZN30 : Hid (nb30 < w32.heap.size) := hnx
    have PL30x : Hid (∀ w', Below w32.heap.size w32 w' → PairsAt w' xa30 xh30 0 P) := fun w' hb => hpx.below hb
    have NL30x : Hid (NilOk xa30 P.length xk30) := hnl
    have PP30x : Hid (∀ w', Below w32.heap.size w32 w' → PairsAt w' pa30 ph30 0 (RetD.pairs wa)) := fun w' hb => hqx.below hb
    clear hbx hnx hcx hpx hnl hqx
    clear e12 e13
    have Cw5_w32 : Hid (Below w5.heap.size w5 w32) := YB.out.trans (Zc32.out.mono YB.out.size)
    refine hK _ _ ?_
    exact next w w5 w32 ma na b1 b2 ra mc nc c1 c2 rc ms ns os qs rt O N1 P G ab be r1 wa rlo rhi rne rba cb op x y m1 mk mh xa30 xk30 xh30 pa30 pk30 ph30 nb30 _ _ _ _ _ _ _ _ _ _ _ _ _ _ _ _ _ _ _ _ _ _ _ _ _ _ _ _ _ _ _ _ _ _ _ _ _ _ _ _ _ _ _ _ _ _ _ _ _ _ _ _ _ _ _ _ _ _ _ _ _ _ _ _ _ _ _ _ _ _ _ _ _ _ _ _ _ _ _ _ _ _ _ _ _ _ _ _ _ _ _ _ _ _ _ _ _ _ _ _ _ _ _ _ _ _ _ _ _ _ _ _ _ _ _ _ _ _ _ _ _ _ _ _ _ _ _ _ _ _ _ _ _ _ _ _ _ _ _ _ _ _ _ _ _ _ _ _ _ _ _ _ _ _ _ _ _ _ _ _ _ _ _ _ _ _ _ _ _ _ _ _ _ _ _ _ _ _ _ _ _ _ _ _ _ _ _ _ _ _ _ _ _ _ _ _ _ _ _ _ _ _ _ _ _ _ _ _ _ _ _ _ _ _ _ _ _ _ _ _ _ _ _ _ _ _ _ _ _ _ _ _ _ _ _ _ _ _ _ _ _ _ _ _ _ _ _ _ _ _ _ _ _ _ _ _ _ _ _ _ _ _ _ _ _ _ _ _ _ _ _ _ _ _ _ _ _ _ _ _ _ _ _ _ _ _ _ _ _ _ _ _ _ _ _ _ _ _ _ _ _ _ _ _ _ _ _ _ _ _ _ _ _ _ _ _ _ _ _ _ _ _ _ _ _ _ _ _ _ _ _ _ _ _ _ _ _ _ _ _ _ _ _ _ _ _ _ _ _ _ _ _ _ _ _ _ _ _ _ _ _ _ _ _ _ _ _ _ _ _ _ _ _ _ _ _ _ _ _ _ _ _ _ _ _ _ _ _ _ _ _ _ _ _ _ _ _ HLC.out CASE.out B3.out HVZ.out H0.out NM.out Cw5_w32.out (PL30x.out _ (Below.refl _ _)) NL30x.out (RC30.out _ (Below.refl _ _)) ZN30.out (PP30x.out _ (Below.refl _ _))
end Go.Proofs.Ytjpfgfcggekklaa
namespace Go.Proofs.Ytjpfgfcggekklaa
open Go.RowKit

set_option maxRecDepth 100000 in
set_option maxHeartbeats 3000000 in
theorem lawsat12 (next : LawsAt13) : LawsAt12 := by
  unfold LawsAt12
  intro w w5 w32 ma na b1 b2 ra mc nc c1 c2 rc ms ns os qs rt O N1 P G ab be r1 wa rlo rhi rne rba cb op x y m1 mk mh xa30 xk30 xh30 pa30 pk30 ph30 nb30 u0 u2 u4 u5 u6 u8 u9 u10 u11 u12 u13 u14 u15 u18 u19 u20 u21 u22 u23 u24 u25 u26 u27 u28 u29 u30 u31 u32 u33 u34 u35 u36 u37 u38 u39 u40 u41 u42 u43 u44 u45 u46 u47 u48 u49 u50 u51 u52 u53 u54 u55 u56 u57 u58 u59 u60 u61 u62 u63 u64 u65 u66 u67 u68 u69 u70 u71 u72 u73 u74 u75 u76 u77 u78 u79 u80 u81 u82 u83 u84 u85 u86 u87 u88 u89 u90 u91 u92 u93 u94 u95 u96 u97 u98 u99 u100 u101 u102 u103 u104 u105 u106 u107 u108 u109 u110 u111 u112 u113 u114 u115 u116 u117 u118 u119 u120 u121 u122 u123 u124 u125 u126 u127 u128 u129 u130 u131 u132 u133 u134 u135 u136 u137 u138 u139 u140 u141 u142 u143 u144 u145 u146 u147 u148 u149 u150 u151 u152 u153 u154 u155 u156 u157 u158 u159 u160 u161 u162 u163 u164 u165 u166 u167 u168 u169 u170 u171 u172 u173 u174 u175 u176 u177 u178 u179 u180 u181 u182 u183 u184 u185 u186 u187 u188 u189 u190 u191 u192 u193 u194 u195 u196 u197 u198 u199 u200 u201 u202 u203 u204 u205 u206 u207 u208 u209 u210 u211 u212 u213 u214 u215 u216 u217 u218 u219 u220 u221 u222 u223 u224 u225 u226 u227 u228 u229 u230 u231 u232 u233 u234 u235 u236 u237 u238 u239 u240 u241 u242 u243 u244 u245 u246 u247 u248 u249 u250 u251 u252 u253 u254 u255 u256 u257 u258 u259 u260 u261 u262 u263 u264 u265 u266 u267 u268 u269 u270 u271 u272 u273 u274 u275 u276 u277 u278 u279 u280 u281 u282 u283 u284 u285 u286 u287 u288 u289 u290 u291 u292 u293 u294 u295 u296 u297 u298 u299 u300 u301 u302 u303 u304 u305 u306 u307 u308 u309 u310 u311 u312 u313 u314 u315 u316 u317 u318 u319 u320 u321 u322 u323 u324 u325 u326 u327 u328 u329 u330 u331 u332 u333 u334 u335 u336 u337 u338 u339 u340 u341 u342 u343 u344 u345 u346 u347 u348 u349 u350 u351 u352 u353 u354 u355 u356 u357 u358 u359 u360 u361 u362 u363 u364 u365 u366 u367 u368 u369 u370 u371 u372 u373 u374 u375 u376 u377 u378 u379 u380 u381 u382 u383 u384 u385 u386 u387 u388 u389 u390 u391 u392 u393 u394 u395 u396 u397 u398 u399 u400 u401 hL hC hV zV hO hN hB pl30 nl30 rc30 zn30 pp30
  have CASE : Hid (∀ w' : World, Below w5.heap.size w5 w' → ∀ k, k < 14 → w'.cell? ⟨w.heap.size, k, none⟩ = ([.slice ma ms.length mc, .slice na ns.length nc, .slice b1 os.length c1, .slice b2 qs.length c2, .int .i64 op.kind, .int .i64 op.key, .int .i64 op.val, .int .i64 op.hi, .bool rt.ok, .int .i64 rt.key, .int .i64 rt.val, .slice ra rt.pairs.length rc, .int .i64 x, .int .i64 y] : List Value)[k]?) := hC
  have B3 : Hid (Below w.heap.size w w5) := hV
  have HLC : Hid (LC O N1 P G ab be r1 wa rlo rhi rne rba cb op x y) := hL
  have PM : Hid (∀ w', Below w5.heap.size w5 w' → PairsAt w' m1 mh 0 O) := fun w' hb => hO.below hb
  have NM : Hid (NilOk m1 O.length mk) := hN
  have YB : Hid (Below w5.heap.size w5 w32) := hB
  have TOW : Hid (∀ w', Below w5.heap.size w5 w' → Below w5.heap.size w5 w') := fun _ h => h
  have HVZ : Hid (w.heap.size < w5.heap.size) := zV
  have H0 : Hid (PairsAt w5 m1 mh 0 O) := hO
  have lO := hL.lO
  have lN := hL.lN
  have lP := hL.lP
  have lG := hL.lG
  have abl := hL.abl
  have bel := hL.bel
  have LG : Hid (G.length + 1 = P.length) := lG
  have lG2 : G.length ≤ 301 := by omega
  clear lG
  have COP : Hid (∀ X : PL, X.length ≤ 2000 → ∀ W a g k, PairsAt W a g 0 X → NilOk a X.length k → CopQ a k X W) := fun X hX W a g k h1 h2 => copied_any a g 0 k X W h1 h2 (by omega)
  unfold CopQ at COP
  have PL30x : Hid (∀ w', Below w32.heap.size w32 w' → PairsAt w' xa30 xh30 0 P) := fun w' hb => pl30.below hb
  have NL30x : Hid (NilOk xa30 P.length xk30) := nl30
  have RC30 : Hid (∀ w', Below w32.heap.size w32 w' → ∀ k, w'.cell? ⟨nb30, k, none⟩ = (#[.bool wa.ok, .int .i64 wa.key, .int .i64 wa.val, .slice pa30 wa.pairs.length pk30] : Array Value)[k]?) := fun w' hb k => (hb.cell (p := ⟨nb30, k, none⟩) zn30).trans (rc30 k)
  have ZN30 : Hid (nb30 < w32.heap.size) := zn30
  have PP30x : Hid (∀ w', Below w32.heap.size w32 w' → PairsAt w' pa30 ph30 0 (RetD.pairs wa)) := fun w' hb => pp30.below hb
  clear hC hV hL hO hN hB zV pl30 nl30 rc30 pp30
  conv => arg 2; whnf
  have DQ := HLC.out.D3
  have DH : Hid (∀ W base g cap, PairsAt W base g 0 P → NilOk base P.length cap → P.length ≤ cap → cap ≤ maxLen → DoN base cap P ⟨1, x, 0, 0⟩ P ⟨true, 0, y, []⟩ W) := DQ
  clear DQ
  unfold DoN at DH
  have e12 : w32.cell? ⟨w.heap.size, 12, none⟩ = some (.int .i64 x) := CASE.out _ (TOW.out _ YB.out) 12 (by omega)
  have Hd33 : Hid (Below w32.heap.size w32 w32.drew) := (Below.refl _ _).drew
  have Hz33 : Hid (Below w32.heap.size w32 (w32.alloc (.cells #[.bool false, .int .i64 0, .int .i64 0, .slice none 0 0] 27)).drew) := (below_alloc _ _).drew
  have PX33 : Hid (∀ w', Below w32.heap.size w32 w' → PairsAt w' xa30 xh30 0 P) := fun w' hb => PL30x.out w' (hb)
  have BC33 : Hid (∀ w', Below w32.heap.size w32 w' → Below w5.heap.size w5 w') := fun w' hb => (TOW.out _ YB.out).trans (hb.mono (TOW.out _ YB.out).size)
  go_wp2_with fail
  go_cut [18, 19, 10] from 174 to 183 (fun t1 t2 t3 wx => DidN w32 P ⟨true, 0, y, []⟩ t1 t2 t3 wx)
  case first =>
    go_region_held3 (fun w' => w'.cell? ⟨w.heap.size, 12, none⟩ = some (.int .i64 x))
      (first
        | (with_reducible exact XA33.out)
        | (with_reducible exact XZ33.out)
        | (with_reducible exact XA34.out)
        | (with_reducible exact XR34.out)
        | (with_reducible exact XC34.out)
        | go_keep)
      (first
        | (go_at_call 11; refine (COP.out P (by omega) _ xa30 xh30 xk30 (PX33.out _ ?_) NL30x.out).mono ?_; (focus (first | exact Hd33.out | exact Hz33.out)); rintro e w33 ⟨ua33, uk33, ug33, rfl, hb33, hp33, hn33, hc33, hd33, _⟩; have Z33 : Hid (Below w32.heap.size w32 w33) := (by first | exact Hd33.out.trans hb33 | exact Hz33.out.trans (hb33.mono (by simp))); have XA33 : Hid (w33.cell? ⟨w.heap.size, 12, none⟩ = some (.int .i64 x)) := CASE.out _ (BC33.out _ Z33.out) 12 (by omega); have XZ33 : Hid ((w33.alloc (.cells #[.bool false, .int .i64 0, .int .i64 0, .slice none 0 0] 27)).cell? ⟨w.heap.size, 12, none⟩ = some (.int .i64 x)) := CASE.out _ (BC33.out _ (Z33.out.alloc Z33.out.size _)) 12 (by omega); have PC33 : Hid (PairsAt w33 ua33 ug33 0 P) := hp33; have NC33 : Hid (NilOk ua33 P.length uk33 ∧ P.length ≤ uk33 ∧ uk33 ≤ maxLen) := ⟨hn33, hc33, hd33⟩; (first | (have NB33 : Hid (NbAt w33 w32.heap.size) := ((NbAt.made w32).below (Below.refl _ _).drew).below hb33) | skip); clear hb33 hp33 hn33 hc33 hd33)
        | (go_at_call 31; refine (DH.out _ ua33 ug33 uk33 ?_ NC33.out.1 NC33.out.2.1 NC33.out.2.2).mono ?_; (focus (first | exact PC33.out | exact PC33.out.below (below_alloc _ _))); rintro e w34 ⟨l34, lk34, lh34, a34, k34, h34, rfl, hb34, hp34, hn34, hq34, hg34, hh34⟩; have Z34 : Hid (Below w32.heap.size w32 w34) := (by first | exact Z33.out.trans (hb34.mono Z33.out.size) | exact (Z33.out.alloc Z33.out.size _).trans (hb34.mono (by have := Z33.out.size; simp; omega))); have XA34 : Hid (w34.cell? ⟨w.heap.size, 12, none⟩ = some (.int .i64 x)) := CASE.out _ (BC33.out _ Z34.out) 12 (by omega); have XR34 : Hid ((w34.alloc (.cells #[.bool true, .int .i64 0, .int .i64 y, .slice a34 0 k34] 27)).cell? ⟨w.heap.size, 12, none⟩ = some (.int .i64 x)) := CASE.out _ (BC33.out _ (Z34.out.alloc Z34.out.size _)) 12 (by omega); have PL34 : Hid (PairsAt w34 l34 lh34 0 P) := hp34; have NL34 : Hid (NilOk l34 P.length lk34) := hn34; have PR34 : Hid (PairsAt w34 a34 h34 0 (RetD.pairs ⟨true, 0, y, []⟩)) := hq34; (first | (have NB34 : Hid (NbAt w34 w32.heap.size) := NB33.out.below hb34; have G1 : Hid (P.length ≠ 0 → w32.heap.size < lh34) := (fun q => by have := hg34 q; have := NB33.out.lt; omega); have G2 : Hid ((RetD.pairs ⟨true, 0, y, []⟩).length ≠ 0 → w32.heap.size < h34) := (fun q => by have := hh34 q; have := NB33.out.lt; omega); have XC34 : Hid (((((w34.setCell ⟨w32.heap.size, 0, none⟩ (.bool true)).setCell ⟨w32.heap.size, 1, none⟩ (.int .i64 0)).setCell ⟨w32.heap.size, 2, none⟩ (.int .i64 y)).setCell ⟨w32.heap.size, 3, none⟩ (.slice a34 0 k34)).cell? ⟨w.heap.size, 12, none⟩ = some (.int .i64 x)) := CASE.out _ (BC33.out _ (below4 Z34.out (Nat.le_refl _) _ _ _ _)) 12 (by omega); have y0 : w34.cell? ⟨w32.heap.size, 0, none⟩ = some (.bool false) := NB34.out.cells 0; have y1 : w34.cell? ⟨w32.heap.size, 1, none⟩ = some (.int .i64 0) := NB34.out.cells 1; have y2 : w34.cell? ⟨w32.heap.size, 2, none⟩ = some (.int .i64 0) := NB34.out.cells 2; have y3 : w34.cell? ⟨w32.heap.size, 3, none⟩ = some (.slice none 0 0) := NB34.out.cells 3; have yf : ∀ k, w34.frozen? ⟨w32.heap.size, k, none⟩ = false := NB34.out.free; have yl : w32.heap.size < w34.heap.size := NB34.out.lt) | (have NB34 : Hid (NbAt w34 w33.heap.size) := (NbAt.made w33).below hb34; have G1 : Hid (P.length ≠ 0 → w33.heap.size < lh34) := (fun q => by have := hg34 q; simp at this; omega); have G2 : Hid ((RetD.pairs ⟨true, 0, y, []⟩).length ≠ 0 → w33.heap.size < h34) := (fun q => by have := hh34 q; simp at this; omega); have XC34 : Hid (((((w34.setCell ⟨w33.heap.size, 0, none⟩ (.bool true)).setCell ⟨w33.heap.size, 1, none⟩ (.int .i64 0)).setCell ⟨w33.heap.size, 2, none⟩ (.int .i64 y)).setCell ⟨w33.heap.size, 3, none⟩ (.slice a34 0 k34)).cell? ⟨w.heap.size, 12, none⟩ = some (.int .i64 x)) := CASE.out _ (BC33.out _ (below4 Z34.out Z33.out.size _ _ _ _)) 12 (by omega); have y0 : w34.cell? ⟨w33.heap.size, 0, none⟩ = some (.bool false) := NB34.out.cells 0; have y1 : w34.cell? ⟨w33.heap.size, 1, none⟩ = some (.int .i64 0) := NB34.out.cells 1; have y2 : w34.cell? ⟨w33.heap.size, 2, none⟩ = some (.int .i64 0) := NB34.out.cells 2; have y3 : w34.cell? ⟨w33.heap.size, 3, none⟩ = some (.slice none 0 0) := NB34.out.cells 3; have yf : ∀ k, w34.frozen? ⟨w33.heap.size, k, none⟩ = false := NB34.out.free; have yl : w33.heap.size < w34.heap.size := NB34.out.lt) | skip); clear hb34 hp34 hn34 hq34 hg34 hh34))
    all_goals
      go_wp2_with fail
      go_meet
      first
        | exact didn_of (did_set (r := ⟨true, 0, y, []⟩) Z34.out NB34.out (Nat.le_refl _) PL34.out PR34.out G1.out G2.out) NL34.out
        | exact didn_of (did_set (r := ⟨true, 0, y, []⟩) Z34.out NB34.out Z33.out.size PL34.out PR34.out G1.out G2.out) NL34.out
        | exact didn_of (did_new (r := ⟨true, 0, y, []⟩) Z34.out PL34.out PR34.out) NL34.out
  case rest =>
    rename_i hK
    obtain ⟨xa33, xk33, xh33, pa33, pk33, ph33, nb33, rfl, rfl, rfl, hbx, hnx, hcx, hpx, hnl, hqx⟩ := hcut
    generalize wc = w35 at *
    have Zc35 : Hid (Below w32.heap.size w32 w35) := hbx
    have RC33 : Hid (∀ w', Below w35.heap.size w35 w' → ∀ k, w'.cell? ⟨nb33, k, none⟩ = (#[.bool true, .int .i64 0, .int .i64 y, .slice pa33 0 pk33] : Array Value)[k]?) := fun w' hb k => (hb.cell (p := ⟨nb33, k, none⟩) hnx).trans (hcx k)
    have ZN33 : Hid (nb33 < w35.heap.size) := hnx
    have PL33x : Hid (∀ w', Below w35.heap.size w35 w' → PairsAt w' xa33 xh33 0 P) := fun w' hb => hpx.below hb
    have NL33x : Hid (NilOk xa33 P.length xk33) := hnl
    have PP33x : Hid (∀ w', Below w35.heap.size w35 w' → PairsAt w' pa33 ph33 0 (RetD.pairs ⟨true, 0, y, []⟩)) := fun w' hb => hqx.below hb
    clear hbx hnx hcx hpx hnl hqx
    clear e12
    have Cw5_w35 : Hid (Below w5.heap.size w5 w35) := YB.out.trans (Zc35.out.mono YB.out.size)
    have Cw32_w35 : Hid (Below w32.heap.size w32 w35) := Zc35.out
    refine hK _ _ ?_
    exact next w w5 w35 ma na b1 b2 ra mc nc c1 c2 rc ms ns os qs rt O N1 P G ab be r1 wa rlo rhi rne rba cb op x y m1 mk mh xa30 xk30 xh30 pa30 pk30 ph30 nb30 pa33 pk33 ph33 nb33 _ _ _ _ _ _ _ _ _ _ _ _ _ _ _ _ _ _ _ _ _ _ _ _ _ _ _ _ _ _ _ _ _ _ _ _ _ _ _ _ _ _ _ _ _ _ _ _ _ _ _ _ _ _ _ _ _ _ _ _ _ _ _ _ _ _ _ _ _ _ _ _ _ _ _ _ _ _ _ _ _ _ _ _ _ _ _ _ _ _ _ _ _ _ _ _ _ _ _ _ _ _ _ _ _ _ _ _ _ _ _ _ _ _ _ _ _ _ _ _ _ _ _ _ _ _ _ _ _ _ _ _ _ _ _ _ _ _ _ _ _ _ _ _ _ _ _ _ _ _ _ _ _ _ _ _ _ _ _ _ _ _ _ _ _ _ _ _ _ _ _ _ _ _ _ _ _ _ _ _ _ _ _ _ _ _ _ _ _ _ _ _ _ _ _ _ _ _ _ _ _ _ _ _ _ _ _ _ _ _ _ _ _ _ _ _ _ _ _ _ _ _ _ _ _ _ _ _ _ _ _ _ _ _ _ _ _ _ _ _ _ _ _ _ _ _ _ _ _ _ _ _ _ _ _ _ _ _ _ _ _ _ _ _ _ _ _ _ _ _ _ _ _ _ _ _ _ _ _ _ _ _ _ _ _ _ _ _ _ _ _ _ _ _ _ _ _ _ _ _ _ _ _ _ _ _ _ _ _ _ _ _ _ _ _ _ _ _ _ _ _ _ _ _ _ _ _ _ _ _ _ _ _ _ _ _ _ _ _ _ _ _ _ _ _ _ _ _ _ _ _ _ _ _ _ _ _ _ _ _ _ _ _ _ _ _ _ _ _ _ _ _ _ _ _ _ _ _ _ _ _ _ _ _ _ _ _ _ _ _ _ _ _ _ _ HLC.out CASE.out B3.out HVZ.out H0.out NM.out Cw5_w35.out (PL30x.out _ Cw32_w35.out) NL30x.out (RC30.out _ Cw32_w35.out) (Nat.lt_of_lt_of_le ZN30.out (Below.size Cw32_w35.out)) (PP30x.out _ Cw32_w35.out) (RC33.out _ (Below.refl _ _)) ZN33.out (PP33x.out _ (Below.refl _ _))
end Go.Proofs.Ytjpfgfcggekklaa

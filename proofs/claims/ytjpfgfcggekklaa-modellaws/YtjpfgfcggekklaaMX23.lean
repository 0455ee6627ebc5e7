/- Layer 6: ModelLaws from its statement 17 on. Layer 6: ModelLaws from its statement 19 on. Layer 6: ModelLaws from its statement 20 on. Layer 6: ModelLaws from its statement 21 on. Layer 6: ModelLaws from its statement 22 on. Layer 6: ModelLaws from its statement 23 on. -/
import Derived.Test.YtjpfgfcggekklaaMW2
import Derived.Deep.DeepCutAuto
import Derived.Deep.CutRange
namespace Go.Proofs.Ytjpfgfcggekklaa
open Go.RowKit

set_option maxRecDepth 100000 in
set_option maxHeartbeats 3000000 in
theorem lawsat17 (next : LawsAt19) : LawsAt17 := by
  unfold LawsAt17
  intro w w5 w45 ma na b1 b2 ra mc nc c1 c2 rc ms ns os qs rt O N1 P G ab be r1 wa rlo rhi rne rba cb op x y m1 mk mh u0 u2 u4 u5 u6 u7 u8 u9 u10 u11 u12 u13 u14 u15 u16 u17 u18 u19 u20 u21 u22 u23 u24 u25 u26 u27 u28 u29 u30 u31 u32 u33 u34 u35 u36 u37 u38 u39 u40 u41 u42 u43 u44 u45 u46 u47 u48 u49 u50 u51 u52 u53 u54 u55 u56 u57 u58 u59 u60 u61 u62 u63 u64 u65 u66 u67 u68 u69 u70 u71 u72 u73 u74 u75 u76 u77 u78 u79 u80 u81 u82 u83 u84 u85 u86 u87 u88 u89 u90 u91 u92 u93 u94 u95 u96 u97 u98 u99 u100 u101 u102 u103 u104 u105 u106 u107 u108 u109 u110 u111 u112 u113 u114 u115 u116 u117 u118 u119 u120 u121 u122 u123 u124 u125 u126 u127 u128 u129 u130 u131 u132 u133 u134 u135 u136 u137 u138 u139 u140 u141 u142 u143 u144 u145 u146 u147 u148 u149 u150 u151 u152 u153 u154 u155 u156 u157 u158 u159 u160 u161 u162 u163 u164 u165 u166 u167 u168 u169 u170 u171 u172 u173 u174 u175 u176 u177 u178 u179 u180 u181 u182 u183 u184 u185 u186 u187 u188 u189 u190 u191 u192 u193 u194 u195 u196 u197 u198 u199 u200 u201 u202 u203 u204 u205 u206 u207 u208 u209 u210 u211 u212 u213 u214 u215 u216 u217 u218 u219 u220 u221 u222 u223 u224 u225 u226 u227 u228 u229 u230 u231 u232 u233 u234 u235 u236 u237 u238 u239 u240 u241 u242 u243 u244 u245 u246 u247 u248 u249 u250 u251 u252 u253 u254 u255 u256 u257 u258 u259 u260 u261 u262 u263 u264 u265 u266 u267 u268 u269 u270 u271 u272 u273 u274 u275 u276 u277 u278 u279 u280 u281 u282 u283 u284 u285 u286 u287 u288 u289 u290 u291 u292 u293 u294 u295 u296 u297 u298 u299 u300 u301 u302 u303 u304 u305 u306 u307 u308 u309 u310 u311 u312 u313 u314 u315 u316 u317 u318 u319 u320 u321 u322 u323 u324 u325 u326 u327 u328 u329 u330 u331 u332 u333 u334 u335 u336 u337 u338 u339 u340 u341 u342 u343 u344 u345 u346 u347 u348 u349 u350 u351 u352 u353 u354 u355 u356 u357 u358 u359 u360 u361 u362 u363 u364 u365 u366 u367 u368 u369 u370 u371 u372 u373 u374 u375 u376 u377 u378 u379 u380 u381 u382 u383 u384 u385 u386 u387 u388 u389 u390 u391 u392 u393 u394 u395 u396 u397 u398 u399 u400 u401 hL hC hV zV hO hN hB
  have CASE : Hid (∀ w' : World, Below w5.heap.size w5 w' → ∀ k, k < 14 → w'.cell? ⟨w.heap.size, k, none⟩ = ([.slice ma ms.length mc, .slice na ns.length nc, .slice b1 os.length c1, .slice b2 qs.length c2, .int .i64 op.kind, .int .i64 op.key, .int .i64 op.val, .int .i64 op.hi, .bool rt.ok, .int .i64 rt.key, .int .i64 rt.val, .slice ra rt.pairs.length rc, .int .i64 x, .int .i64 y] : List Value)[k]?) := hC
  have B3 : Hid (Below w.heap.size w w5) := hV
  have HLC : Hid (LC O N1 P G ab be r1 wa rlo rhi rne rba cb op x y) := hL
  have PM : Hid (∀ w', Below w5.heap.size w5 w' → PairsAt w' m1 mh 0 O) := fun w' hb => hO.below hb
  have NM : Hid (NilOk m1 O.length mk) := hN
  have YB : Hid (Below w5.heap.size w5 w45) := hB
  have TOW : Hid (∀ w', Below w5.heap.size w5 w' → Below w5.heap.size w5 w') := fun _ h => h
  have HVZ : Hid (w.heap.size < w5.heap.size) := zV
  have H0 : Hid (PairsAt w5 m1 mh 0 O) := hO
  have lO := hL.lO
  have lN := hL.lN
  have lP := hL.lP
  have lG := hL.lG
  have abl := hL.abl
  have bel := hL.bel
  have LG : Hid (G.length + 1 = P.length) := lG
  have lG2 : G.length ≤ 301 := by omega
  clear lG
  have COP : Hid (∀ X : PL, X.length ≤ 2000 → ∀ W a g k, PairsAt W a g 0 X → NilOk a X.length k → CopQ a k X W) := fun X hX W a g k h1 h2 => copied_any a g 0 k X W h1 h2 (by omega)
  unfold CopQ at COP
  clear hC hV hL hO hN hB zV 
  conv => arg 2; whnf
  have DQ := HLC.out.D7
  have DH : Hid (∀ W base g cap, PairsAt W base g 0 O → NilOk base O.length cap → O.length ≤ cap → cap ≤ maxLen → DoN base cap O ⟨9, (-9223372036854775808), 0, 9223372036854775807⟩ O ⟨true, 0, 0, O⟩ W) := DQ
  clear DQ
  unfold DoN at DH
  (try dsimp only)
  go_upto_region 27 with fail
  go_cut [30, 31, 7] from 274 to 282 (fun t1 t2 t3 wx => DidN w45 O ⟨true, 0, 0, O⟩ t1 t2 t3 wx)
  case first =>
    go_wp2_with fail
    refine (COP.out O (by omega) _ m1 mh mk (PM.out _ YB.out) NM.out).mono ?_
    rintro e w46 ⟨ua, uk, ug, rfl, hb46, hp46, hn46, hc46, hd46, _⟩
    have Z46 : Hid (Below w45.heap.size w45 w46) := hb46
    have PC46 : Hid (PairsAt w46 ua ug 0 O) := hp46
    have NC46 : Hid (NilOk ua O.length uk ∧ O.length ≤ uk ∧ uk ≤ maxLen) := ⟨hn46, hc46, hd46⟩
    clear hb46 hp46 hn46 hc46 hd46
    go_wp2_with fail
    refine (DH.out _ ua ug uk PC46.out NC46.out.1 NC46.out.2.1 NC46.out.2.2).mono ?_
    rintro e w47 ⟨l1, lk1, lh1, a2, k2, h2, rfl, hb47, hp47, hn47, hq47, _, _⟩
    have Z47 : Hid (Below w45.heap.size w45 w47) := Z46.out.trans (hb47.mono Z46.out.size)
    have PL47 : Hid (PairsAt w47 l1 lh1 0 O) := hp47
    have NL47 : Hid (NilOk l1 O.length lk1) := hn47
    have PR47 : Hid (PairsAt w47 a2 h2 0 (RetD.pairs ⟨true, 0, 0, O⟩)) := hq47
    clear hb47 hp47 hn47 hq47
    go_wp2_with fail
    go_meet
    exact didn_of (did_new (r := ⟨true, 0, 0, O⟩) Z47.out PL47.out PR47.out) NL47.out
  case rest =>
    rename_i hK
    obtain ⟨xa46, xk46, xh46, pa46, pk46, ph46, nb46, rfl, rfl, rfl, hbx, hnx, hcx, _, _, hqx⟩ := hcut
    generalize wc = w48 at *
    have Zc48 : Hid (Below w45.heap.size w45 w48) := hbx
    have RC46 : Hid (∀ w', Below w48.heap.size w48 w' → ∀ k, w'.cell? ⟨nb46, k, none⟩ = (#[.bool true, .int .i64 0, .int .i64 0, .slice pa46 O.length pk46] : Array Value)[k]?) := fun w' hb k => (hb.cell (p := ⟨nb46, k, none⟩) hnx).trans (hcx k)
    have ZN46 : Hid (nb46 < w48.heap.size) := hnx
    have PP46x : Hid (∀ w', Below w48.heap.size w48 w' → PairsAt w' pa46 ph46 0 (RetD.pairs ⟨true, 0, 0, O⟩)) := fun w' hb => hqx.below hb
    clear hbx hnx hcx hqx
    have Cw5_w48 : Hid (Below w5.heap.size w5 w48) := YB.out.trans (Zc48.out.mono YB.out.size)
    refine hK _ _ ?_
    exact next w w5 w48 ma na b1 b2 ra mc nc c1 c2 rc ms ns os qs rt O N1 P G ab be r1 wa rlo rhi rne rba cb op x y m1 mk mh pa46 pk46 ph46 nb46 _ _ _ _ _ _ _ _ _ _ _ _ _ _ _ _ _ _ _ _ _ _ _ _ _ _ _ _ _ _ _ _ _ _ _ _ _ _ _ _ _ _ _ _ _ _ _ _ _ _ _ _ _ _ _ _ _ _ _ _ _ _ _ _ _ _ _ _ _ _ _ _ _ _ _ _ _ _ _ _ _ _ _ _ _ _ _ _ _ _ _ _ _ _ _ _ _ _ _ _ _ _ _ _ _ _ _ _ _ _ _ _ _ _ _ _ _ _ _ _ _ _ _ _ _ _ _ _ _ _ _ _ _ _ _ _ _ _ _ _ _ _ _ _ _ _ _ _ _ _ _ _ _ _ _ _ _ _ _ _ _ _ _ _ _ _ _ _ _ _ _ _ _ _ _ _ _ _ _ _ _ _ _ _ _ _ _ _ _ _ _ _ _ _ _ _ _ _ _ _ _ _ _ _ _ _ _ _ _ _ _ _ _ _ _ _ _ _ _ _ _ _ _ _ _ _ _ _ _ _ _ _ _ _ _ _ _ _ _ _ _ _ _ _ _ _ _ _ _ _ _ _ _ _ _ _ _ _ _ _ _ _ _ _ _ _ _ _ _ _ _ _ _ _ _ _ _ _ _ _ _ _ _ _ _ _ _ _ _ _ _ _ _ _ _ _ _ _ _ _ _ _ _ _ _ _ _ _ _ _ _ _ _ _ _ _ _ _ _ _ _ _ _ _ _ _ _ _ _ _ _ _ _ _ _ _ _ _ _ _ _ _ _ _ _ _ _ _ _ _ _ _ _ _ _ _ _ _ _ _ _ _ _ _ _ _ _ _ _ _ _ _ _ _ _ _ _ _ _ _ _ _ _ _ _ _ _ _ _ _ _ _ _ _ _ _ _ HLC.out CASE.out B3.out HVZ.out H0.out NM.out Cw5_w48.out (RC46.out _ (Below.refl _ _)) ZN46.out (PP46x.out _ (Below.refl _ _))
end Go.Proofs.Ytjpfgfcggekklaa
namespace Go.Proofs.Ytjpfgfcggekklaa
open Go.RowKit

set_option maxRecDepth 100000 in
set_option maxHeartbeats 3000000 in
theorem lawsat19 (next : LawsAt20) : LawsAt19 := by
  unfold LawsAt19
  intro w w5 w48 ma na b1 b2 ra mc nc c1 c2 rc ms ns os qs rt O N1 P G ab be r1 wa rlo rhi rne rba cb op x y m1 mk mh pa46 pk46 ph46 nb46 u0 u2 u4 u5 u6 u8 u9 u10 u11 u12 u13 u14 u15 u16 u17 u18 u19 u20 u21 u22 u23 u24 u25 u26 u27 u28 u30 u32 u33 u34 u35 u36 u37 u38 u39 u40 u41 u42 u43 u44 u45 u46 u47 u48 u49 u50 u51 u52 u53 u54 u55 u56 u57 u58 u59 u60 u61 u62 u63 u64 u65 u66 u67 u68 u69 u70 u71 u72 u73 u74 u75 u76 u77 u78 u79 u80 u81 u82 u83 u84 u85 u86 u87 u88 u89 u90 u91 u92 u93 u94 u95 u96 u97 u98 u99 u100 u101 u102 u103 u104 u105 u106 u107 u108 u109 u110 u111 u112 u113 u114 u115 u116 u117 u118 u119 u120 u121 u122 u123 u124 u125 u126 u127 u128 u129 u130 u131 u132 u133 u134 u135 u136 u137 u138 u139 u140 u141 u142 u143 u144 u145 u146 u147 u148 u149 u150 u151 u152 u153 u154 u155 u156 u157 u158 u159 u160 u161 u162 u163 u164 u165 u166 u167 u168 u169 u170 u171 u172 u173 u174 u175 u176 u177 u178 u179 u180 u181 u182 u183 u184 u185 u186 u187 u188 u189 u190 u191 u192 u193 u194 u195 u196 u197 u198 u199 u200 u201 u202 u203 u204 u205 u206 u207 u208 u209 u210 u211 u212 u213 u214 u215 u216 u217 u218 u219 u220 u221 u222 u223 u224 u225 u226 u227 u228 u229 u230 u231 u232 u233 u234 u235 u236 u237 u238 u239 u240 u241 u242 u243 u244 u245 u246 u247 u248 u249 u250 u251 u252 u253 u254 u255 u256 u257 u258 u259 u260 u261 u262 u263 u264 u265 u266 u267 u268 u269 u270 u271 u272 u273 u274 u275 u276 u277 u278 u279 u280 u281 u282 u283 u284 u285 u286 u287 u288 u289 u290 u291 u292 u293 u294 u295 u296 u297 u298 u299 u300 u301 u302 u303 u304 u305 u306 u307 u308 u309 u310 u311 u312 u313 u314 u315 u316 u317 u318 u319 u320 u321 u322 u323 u324 u325 u326 u327 u328 u329 u330 u331 u332 u333 u334 u335 u336 u337 u338 u339 u340 u341 u342 u343 u344 u345 u346 u347 u348 u349 u350 u351 u352 u353 u354 u355 u356 u357 u358 u359 u360 u361 u362 u363 u364 u365 u366 u367 u368 u369 u370 u371 u372 u373 u374 u375 u376 u377 u378 u379 u380 u381 u382 u383 u384 u385 u386 u387 u388 u389 u390 u391 u392 u393 u394 u395 u396 u397 u398 u399 u400 u401 hL hC hV zV hO hN hB rc46 zn46 pp46
  have CASE : Hid (∀ w' : World, Below w5.heap.size w5 w' → ∀ k, k < 14 → w'.cell? ⟨w.heap.size, k, none⟩ = ([.slice ma ms.length mc, .slice na ns.length nc, .slice b1 os.length c1, .slice b2 qs.length c2, .int .i64 op.kind, .int .i64 op.key, .int .i64 op.val, .int .i64 op.hi, .bool rt.ok, .int .i64 rt.key, .int .i64 rt.val, .slice ra rt.pairs.length rc, .int .i64 x, .int .i64 y] : List Value)[k]?) := hC
  have B3 : Hid (Below w.heap.size w w5) := hV
  have HLC : Hid (LC O N1 P G ab be r1 wa rlo rhi rne rba cb op x y) := hL
  have PM : Hid (∀ w', Below w5.heap.size w5 w' → PairsAt w' m1 mh 0 O) := fun w' hb => hO.below hb
  have NM : Hid (NilOk m1 O.length mk) := hN
  have YB : Hid (Below w5.heap.size w5 w48) := hB
  have TOW : Hid (∀ w', Below w5.heap.size w5 w' → Below w5.heap.size w5 w') := fun _ h => h
  have HVZ : Hid (w.heap.size < w5.heap.size) := zV
  have H0 : Hid (PairsAt w5 m1 mh 0 O) := hO
  have lO := hL.lO
  have lN := hL.lN
  have lP := hL.lP
  have lG := hL.lG
  have abl := hL.abl
  have bel := hL.bel
  have LG : Hid (G.length + 1 = P.length) := lG
  have lG2 : G.length ≤ 301 := by omega
  clear lG
  have COP : Hid (∀ X : PL, X.length ≤ 2000 → ∀ W a g k, PairsAt W a g 0 X → NilOk a X.length k → CopQ a k X W) := fun X hX W a g k h1 h2 => copied_any a g 0 k X W h1 h2 (by omega)
  unfold CopQ at COP
  have RC46 : Hid (∀ w', Below w48.heap.size w48 w' → ∀ k, w'.cell? ⟨nb46, k, none⟩ = (#[.bool true, .int .i64 0, .int .i64 0, .slice pa46 O.length pk46] : Array Value)[k]?) := fun w' hb k => (hb.cell (p := ⟨nb46, k, none⟩) zn46).trans (rc46 k)
  have ZN46 : Hid (nb46 < w48.heap.size) := zn46
  have PP46x : Hid (∀ w', Below w48.heap.size w48 w' → PairsAt w' pa46 ph46 0 (RetD.pairs ⟨true, 0, 0, O⟩)) := fun w' hb => pp46.below hb
  clear hC hV hL hO hN hB zV rc46 pp46
  conv => arg 2; whnf
  have DQ := HLC.out.D8
  have DH : Hid (∀ W base g cap, PairsAt W base g 0 O → NilOk base O.length cap → O.length ≤ cap → cap ≤ maxLen → DoN base cap O ⟨7, 0, 0, 0⟩ O rlo W) := DQ
  clear DQ
  unfold DoN at DH
  (try dsimp only)
  go_upto_region 28 with fail
  go_cut [32, 33, 10] from 283 to 290 (fun t1 t2 t3 wx => DidN w48 O rlo t1 t2 t3 wx)
  case first =>
    go_wp2_with fail
    refine (COP.out O (by omega) _ m1 mh mk (PM.out _ YB.out) NM.out).mono ?_
    rintro e w49 ⟨ua, uk, ug, rfl, hb49, hp49, hn49, hc49, hd49, _⟩
    have Z49 : Hid (Below w48.heap.size w48 w49) := hb49
    have PC49 : Hid (PairsAt w49 ua ug 0 O) := hp49
    have NC49 : Hid (NilOk ua O.length uk ∧ O.length ≤ uk ∧ uk ≤ maxLen) := ⟨hn49, hc49, hd49⟩
    clear hb49 hp49 hn49 hc49 hd49
    go_wp2_with fail
    refine (DH.out _ ua ug uk PC49.out NC49.out.1 NC49.out.2.1 NC49.out.2.2).mono ?_
    rintro e w50 ⟨l1, lk1, lh1, a2, k2, h2, rfl, hb50, hp50, hn50, hq50, _, _⟩
    have Z50 : Hid (Below w48.heap.size w48 w50) := Z49.out.trans (hb50.mono Z49.out.size)
    have PL50 : Hid (PairsAt w50 l1 lh1 0 O) := hp50
    have NL50 : Hid (NilOk l1 O.length lk1) := hn50
    have PR50 : Hid (PairsAt w50 a2 h2 0 (RetD.pairs rlo)) := hq50
    clear hb50 hp50 hn50 hq50
    go_wp2_with fail
    go_meet
    exact didn_of (did_new (r := rlo) Z50.out PL50.out PR50.out) NL50.out
  case rest =>
    rename_i hK
    obtain ⟨xa49, xk49, xh49, pa49, pk49, ph49, nb49, rfl, rfl, rfl, hbx, hnx, hcx, _, _, hqx⟩ := hcut
    generalize wc = w51 at *
    have Zc51 : Hid (Below w48.heap.size w48 w51) := hbx
    have RC49 : Hid (∀ w', Below w51.heap.size w51 w' → ∀ k, w'.cell? ⟨nb49, k, none⟩ = (#[.bool rlo.ok, .int .i64 rlo.key, .int .i64 rlo.val, .slice pa49 rlo.pairs.length pk49] : Array Value)[k]?) := fun w' hb k => (hb.cell (p := ⟨nb49, k, none⟩) hnx).trans (hcx k)
    have ZN49 : Hid (nb49 < w51.heap.size) := hnx
    have PP49x : Hid (∀ w', Below w51.heap.size w51 w' → PairsAt w' pa49 ph49 0 (RetD.pairs rlo)) := fun w' hb => hqx.below hb
    clear hbx hnx hcx hqx
    have Cw5_w51 : Hid (Below w5.heap.size w5 w51) := YB.out.trans (Zc51.out.mono YB.out.size)
    have Cw48_w51 : Hid (Below w48.heap.size w48 w51) := Zc51.out
    refine hK _ _ ?_
    exact next w w5 w51 ma na b1 b2 ra mc nc c1 c2 rc ms ns os qs rt O N1 P G ab be r1 wa rlo rhi rne rba cb op x y m1 mk mh pa46 pk46 ph46 nb46 pa49 pk49 ph49 nb49 _ _ _ _ _ _ _ _ _ _ _ _ _ _ _ _ _ _ _ _ _ _ _ _ _ _ _ _ _ _ _ _ _ _ _ _ _ _ _ _ _ _ _ _ _ _ _ _ _ _ _ _ _ _ _ _ _ _ _ _ _ _ _ _ _ _ _ _ _ _ _ _ _ _ _ _ _ _ _ _ _ _ _ _ _ _ _ _ _ _ _ _ _ _ _ _ _ _ _ _ _ _ _ _ _ _ _ _ _ _ _ _ _ _ _ _ _ _ _ _ _ _ _ _ _ _ _ _ _ _ _ _ _ _ _ _ _ _ _ _ _ _ _ _ _ _ _ _ _ _ _ _ _ _ _ _ _ _ _ _ _ _ _ _ _ _ _ _ _ _ _ _ _ _ _ _ _ _ _ _ _ _ _ _ _ _ _ _ _ _ _ _ _ _ _ _ _ _ _ _ _ _ _ _ _ _ _ _ _ _ _ _ _ _ _ _ _ _ _ _ _ _ _ _ _ _ _ _ _ _ _ _ _ _ _ _ _ _ _ _ _ _ _ _ _ _ _ _ _ _ _ _ _ _ _ _ _ _ _ _ _ _ _ _ _ _ _ _ _ _ _ _ _ _ _ _ _ _ _ _ _ _ _ _ _ _ _ _ _ _ _ _ _ _ _ _ _ _ _ _ _ _ _ _ _ _ _ _ _ _ _ _ _ _ _ _ _ _ _ _ _ _ _ _ _ _ _ _ _ _ _ _ _ _ _ _ _ _ _ _ _ _ _ _ _ _ _ _ _ _ _ _ _ _ _ _ _ _ _ _ _ _ _ _ _ _ _ _ _ _ _ _ _ _ _ _ _ _ _ _ _ _ _ _ _ _ _ _ _ _ _ _ _ _ _ HLC.out CASE.out B3.out HVZ.out H0.out NM.out Cw5_w51.out (RC46.out _ Cw48_w51.out) (Nat.lt_of_lt_of_le ZN46.out (Below.size Cw48_w51.out)) (PP46x.out _ Cw48_w51.out) (RC49.out _ (Below.refl _ _)) ZN49.out (PP49x.out _ (Below.refl _ _))
end Go.Proofs.Ytjpfgfcggekklaa
namespace Go.Proofs.Ytjpfgfcggekklaa
open Go.RowKit

set_option maxRecDepth 100000 in
set_option maxHeartbeats 3000000 in
theorem lawsat20 (next : LawsAt21) : LawsAt20 := by
  unfold LawsAt20
  intro w w5 w51 ma na b1 b2 ra mc nc c1 c2 rc ms ns os qs rt O N1 P G ab be r1 wa rlo rhi rne rba cb op x y m1 mk mh pa46 pk46 ph46 nb46 pa49 pk49 ph49 nb49 u0 u2 u4 u5 u6 u8 u9 u11 u12 u13 u14 u15 u16 u17 u18 u19 u20 u21 u22 u23 u24 u25 u26 u27 u28 u30 u32 u34 u35 u36 u37 u38 u39 u40 u41 u42 u43 u44 u45 u46 u47 u48 u49 u50 u51 u52 u53 u54 u55 u56 u57 u58 u59 u60 u61 u62 u63 u64 u65 u66 u67 u68 u69 u70 u71 u72 u73 u74 u75 u76 u77 u78 u79 u80 u81 u82 u83 u84 u85 u86 u87 u88 u89 u90 u91 u92 u93 u94 u95 u96 u97 u98 u99 u100 u101 u102 u103 u104 u105 u106 u107 u108 u109 u110 u111 u112 u113 u114 u115 u116 u117 u118 u119 u120 u121 u122 u123 u124 u125 u126 u127 u128 u129 u130 u131 u132 u133 u134 u135 u136 u137 u138 u139 u140 u141 u142 u143 u144 u145 u146 u147 u148 u149 u150 u151 u152 u153 u154 u155 u156 u157 u158 u159 u160 u161 u162 u163 u164 u165 u166 u167 u168 u169 u170 u171 u172 u173 u174 u175 u176 u177 u178 u179 u180 u181 u182 u183 u184 u185 u186 u187 u188 u189 u190 u191 u192 u193 u194 u195 u196 u197 u198 u199 u200 u201 u202 u203 u204 u205 u206 u207 u208 u209 u210 u211 u212 u213 u214 u215 u216 u217 u218 u219 u220 u221 u222 u223 u224 u225 u226 u227 u228 u229 u230 u231 u232 u233 u234 u235 u236 u237 u238 u239 u240 u241 u242 u243 u244 u245 u246 u247 u248 u249 u250 u251 u252 u253 u254 u255 u256 u257 u258 u259 u260 u261 u262 u263 u264 u265 u266 u267 u268 u269 u270 u271 u272 u273 u274 u275 u276 u277 u278 u279 u280 u281 u282 u283 u284 u285 u286 u287 u288 u289 u290 u291 u292 u293 u294 u295 u296 u297 u298 u299 u300 u301 u302 u303 u304 u305 u306 u307 u308 u309 u310 u311 u312 u313 u314 u315 u316 u317 u318 u319 u320 u321 u322 u323 u324 u325 u326 u327 u328 u329 u330 u331 u332 u333 u334 u335 u336 u337 u338 u339 u340 u341 u342 u343 u344 u345 u346 u347 u348 u349 u350 u351 u352 u353 u354 u355 u356 u357 u358 u359 u360 u361 u362 u363 u364 u365 u366 u367 u368 u369 u370 u371 u372 u373 u374 u375 u376 u377 u378 u379 u380 u381 u382 u383 u384 u385 u386 u387 u388 u389 u390 u391 u392 u393 u394 u395 u396 u397 u398 u399 u400 u401 hL hC hV zV hO hN hB rc46 zn46 pp46 rc49 zn49 pp49
  have CASE : Hid (∀ w' : World, Below w5.heap.size w5 w' → ∀ k, k < 14 → w'.cell? ⟨w.heap.size, k, none⟩ = ([.slice ma ms.length mc, .slice na ns.length nc, .slice b1 os.length c1, .slice b2 qs.length c2, .int .i64 op.kind, .int .i64 op.key, .int .i64 op.val, .int .i64 op.hi, .bool rt.ok, .int .i64 rt.key, .int .i64 rt.val, .slice ra rt.pairs.length rc, .int .i64 x, .int .i64 y] : List Value)[k]?) := hC
  have B3 : Hid (Below w.heap.size w w5) := hV
  have HLC : Hid (LC O N1 P G ab be r1 wa rlo rhi rne rba cb op x y) := hL
  have PM : Hid (∀ w', Below w5.heap.size w5 w' → PairsAt w' m1 mh 0 O) := fun w' hb => hO.below hb
  have NM : Hid (NilOk m1 O.length mk) := hN
  have YB : Hid (Below w5.heap.size w5 w51) := hB
  have TOW : Hid (∀ w', Below w5.heap.size w5 w' → Below w5.heap.size w5 w') := fun _ h => h
  have HVZ : Hid (w.heap.size < w5.heap.size) := zV
  have H0 : Hid (PairsAt w5 m1 mh 0 O) := hO
  have lO := hL.lO
  have lN := hL.lN
  have lP := hL.lP
  have lG := hL.lG
  have abl := hL.abl
  have bel := hL.bel
  have LG : Hid (G.length + 1 = P.length) := lG
  have lG2 : G.length ≤ 301 := by omega
  clear lG
  have COP : Hid (∀ X : PL, X.length ≤ 2000 → ∀ W a g k, PairsAt W a g 0 X → NilOk a X.length k → CopQ a k X W) := fun X hX W a g k h1 h2 => copied_any a g 0 k X W h1 h2 (by omega)
  unfold CopQ at COP
  have RC46 : Hid (∀ w', Below w51.heap.size w51 w' → ∀ k, w'.cell? ⟨nb46, k, none⟩ = (#[.bool true, .int .i64 0, .int .i64 0, .slice pa46 O.length pk46] : Array Value)[k]?) := fun w' hb k => (hb.cell (p := ⟨nb46, k, none⟩) zn46).trans (rc46 k)
  have ZN46 : Hid (nb46 < w51.heap.size) := zn46
  have PP46x : Hid (∀ w', Below w51.heap.size w51 w' → PairsAt w' pa46 ph46 0 (RetD.pairs ⟨true, 0, 0, O⟩)) := fun w' hb => pp46.below hb
  have RC49 : Hid (∀ w', Below w51.heap.size w51 w' → ∀ k, w'.cell? ⟨nb49, k, none⟩ = (#[.bool rlo.ok, .int .i64 rlo.key, .int .i64 rlo.val, .slice pa49 rlo.pairs.length pk49] : Array Value)[k]?) := fun w' hb k => (hb.cell (p := ⟨nb49, k, none⟩) zn49).trans (rc49 k)
  have ZN49 : Hid (nb49 < w51.heap.size) := zn49
  have PP49x : Hid (∀ w', Below w51.heap.size w51 w' → PairsAt w' pa49 ph49 0 (RetD.pairs rlo)) := fun w' hb => pp49.below hb
  clear hC hV hL hO hN hB zV rc46 pp46 rc49 pp49
  conv => arg 2; whnf
  have DQ := HLC.out.D9
  have DH : Hid (∀ W base g cap, PairsAt W base g 0 O → NilOk base O.length cap → O.length ≤ cap → cap ≤ maxLen → DoN base cap O ⟨8, 0, 0, 0⟩ O rhi W) := DQ
  clear DQ
  unfold DoN at DH
  (try dsimp only)
  go_upto_region 29 with fail
  go_cut [34, 35, 22] from 291 to 298 (fun t1 t2 t3 wx => DidN w51 O rhi t1 t2 t3 wx)
  case first =>
    go_wp2_with fail
    refine (COP.out O (by omega) _ m1 mh mk (PM.out _ YB.out) NM.out).mono ?_
    rintro e w52 ⟨ua, uk, ug, rfl, hb52, hp52, hn52, hc52, hd52, _⟩
    have Z52 : Hid (Below w51.heap.size w51 w52) := hb52
    have PC52 : Hid (PairsAt w52 ua ug 0 O) := hp52
    have NC52 : Hid (NilOk ua O.length uk ∧ O.length ≤ uk ∧ uk ≤ maxLen) := ⟨hn52, hc52, hd52⟩
    clear hb52 hp52 hn52 hc52 hd52
    go_wp2_with fail
    refine (DH.out _ ua ug uk PC52.out NC52.out.1 NC52.out.2.1 NC52.out.2.2).mono ?_
    rintro e w53 ⟨l1, lk1, lh1, a2, k2, h2, rfl, hb53, hp53, hn53, hq53, _, _⟩
    have Z53 : Hid (Below w51.heap.size w51 w53) := Z52.out.trans (hb53.mono Z52.out.size)
    have PL53 : Hid (PairsAt w53 l1 lh1 0 O) := hp53
    have NL53 : Hid (NilOk l1 O.length lk1) := hn53
    have PR53 : Hid (PairsAt w53 a2 h2 0 (RetD.pairs rhi)) := hq53
    clear hb53 hp53 hn53 hq53
    go_wp2_with fail
    go_meet
    exact didn_of (did_new (r := rhi) Z53.out PL53.out PR53.out) NL53.out
  case rest =>
    rename_i hK
    obtain ⟨xa52, xk52, xh52, pa52, pk52, ph52, nb52, rfl, rfl, rfl, hbx, hnx, hcx, _, _, hqx⟩ := hcut
    generalize wc = w54 at *
    have Zc54 : Hid (Below w51.heap.size w51 w54) := hbx
    have RC52 : Hid (∀ w', Below w54.heap.size w54 w' → ∀ k, w'.cell? ⟨nb52, k, none⟩ = (#[.bool rhi.ok, .int .i64 rhi.key, .int .i64 rhi.val, .slice pa52 rhi.pairs.length pk52] : Array Value)[k]?) := fun w' hb k => (hb.cell (p := ⟨nb52, k, none⟩) hnx).trans (hcx k)
    have ZN52 : Hid (nb52 < w54.heap.size) := hnx
    have PP52x : Hid (∀ w', Below w54.heap.size w54 w' → PairsAt w' pa52 ph52 0 (RetD.pairs rhi)) := fun w' hb => hqx.below hb
    clear hbx hnx hcx hqx
    have Cw5_w54 : Hid (Below w5.heap.size w5 w54) := YB.out.trans (Zc54.out.mono YB.out.size)
    have Cw51_w54 : Hid (Below w51.heap.size w51 w54) := Zc54.out
    refine hK _ _ ?_
    exact next w w5 w54 ma na b1 b2 ra mc nc c1 c2 rc ms ns os qs rt O N1 P G ab be r1 wa rlo rhi rne rba cb op x y m1 mk mh pa46 pk46 ph46 nb46 pa49 pk49 ph49 nb49 pa52 pk52 ph52 nb52 _ _ _ _ _ _ _ _ _ _ _ _ _ _ _ _ _ _ _ _ _ _ _ _ _ _ _ _ _ _ _ _ _ _ _ _ _ _ _ _ _ _ _ _ _ _ _ _ _ _ _ _ _ _ _ _ _ _ _ _ _ _ _ _ _ _ _ _ _ _ _ _ _ _ _ _ _ _ _ _ _ _ _ _ _ _ _ _ _ _ _ _ _ _ _ _ _ _ _ _ _ _ _ _ _ _ _ _ _ _ _ _ _ _ _ _ _ _ _ _ _ _ _ _ _ _ _ _ _ _ _ _ _ _ _ _ _ _ _ _ _ _ _ _ _ _ _ _ _ _ _ _ _ _ _ _ _ _ _ _ _ _ _ _ _ _ _ _ _ _ _ _ _ _ _ _ _ _ _ _ _ _ _ _ _ _ _ _ _ _ _ _ _ _ _ _ _ _ _ _ _ _ _ _ _ _ _ _ _ _ _ _ _ _ _ _ _ _ _ _ _ _ _ _ _ _ _ _ _ _ _ _ _ _ _ _ _ _ _ _ _ _ _ _ _ _ _ _ _ _ _ _ _ _ _ _ _ _ _ _ _ _ _ _ _ _ _ _ _ _ _ _ _ _ _ _ _ _ _ _ _ _ _ _ _ _ _ _ _ _ _ _ _ _ _ _ _ _ _ _ _ _ _ _ _ _ _ _ _ _ _ _ _ _ _ _ _ _ _ _ _ _ _ _ _ _ _ _ _ _ _ _ _ _ _ _ _ _ _ _ _ _ _ _ _ _ _ _ _ _ _ _ _ _ _ _ _ _ _ _ _ _ _ _ _ _ _ _ _ _ _ _ _ _ _ _ _ _ _ _ _ _ _ _ _ _ _ _ _ _ _ _ _ HLC.out CASE.out B3.out HVZ.out H0.out NM.out Cw5_w54.out (RC46.out _ Cw51_w54.out) (Nat.lt_of_lt_of_le ZN46.out (Below.size Cw51_w54.out)) (PP46x.out _ Cw51_w54.out) (RC49.out _ Cw51_w54.out) (Nat.lt_of_lt_of_le ZN49.out (Below.size Cw51_w54.out)) (PP49x.out _ Cw51_w54.out) (RC52.out _ (Below.refl _ _)) ZN52.out (PP52x.out _ (Below.refl _ _))
end Go.Proofs.Ytjpfgfcggekklaa
namespace Go.Proofs.Ytjpfgfcggekklaa
open Go.RowKit

set_option maxRecDepth 100000 in
set_option maxHeartbeats 3000000 in
theorem lawsat21 (next : LawsAt22) : LawsAt21 := by
  unfold LawsAt21
  intro w w5 w54 ma na b1 b2 ra mc nc c1 c2 rc ms ns os qs rt O N1 P G ab be r1 wa rlo rhi rne rba cb op x y m1 mk mh pa46 pk46 ph46 nb46 pa49 pk49 ph49 nb49 pa52 pk52 ph52 nb52 u0 u2 u4 u5 u6 u8 u9 u11 u12 u13 u14 u15 u16 u17 u18 u19 u20 u21 u23 u24 u25 u26 u27 u28 u30 u32 u34 u36 u37 u38 u39 u40 u41 u42 u43 u44 u45 u46 u47 u48 u49 u50 u51 u52 u53 u54 u55 u56 u57 u58 u59 u60 u61 u62 u63 u64 u65 u66 u67 u68 u69 u70 u71 u72 u73 u74 u75 u76 u77 u78 u79 u80 u81 u82 u83 u84 u85 u86 u87 u88 u89 u90 u91 u92 u93 u94 u95 u96 u97 u98 u99 u100 u101 u102 u103 u104 u105 u106 u107 u108 u109 u110 u111 u112 u113 u114 u115 u116 u117 u118 u119 u120 u121 u122 u123 u124 u125 u126 u127 u128 u129 u130 u131 u132 u133 u134 u135 u136 u137 u138 u139 u140 u141 u142 u143 u144 u145 u146 u147 u148 u149 u150 u151 u152 u153 u154 u155 u156 u157 u158 u159 u160 u161 u162 u163 u164 u165 u166 u167 u168 u169 u170 u171 u172 u173 u174 u175 u176 u177 u178 u179 u180 u181 u182 u183 u184 u185 u186 u187 u188 u189 u190 u191 u192 u193 u194 u195 u196 u197 u198 u199 u200 u201 u202 u203 u204 u205 u206 u207 u208 u209 u210 u211 u212 u213 u214 u215 u216 u217 u218 u219 u220 u221 u222 u223 u224 u225 u226 u227 u228 u229 u230 u231 u232 u233 u234 u235 u236 u237 u238 u239 u240 u241 u242 u243 u244 u245 u246 u247 u248 u249 u250 u251 u252 u253 u254 u255 u256 u257 u258 u259 u260 u261 u262 u263 u264 u265 u266 u267 u268 u269 u270 u271 u272 u273 u274 u275 u276 u277 u278 u279 u280 u281 u282 u283 u284 u285 u286 u287 u288 u289 u290 u291 u292 u293 u294 u295 u296 u297 u298 u299 u300 u301 u302 u303 u304 u305 u306 u307 u308 u309 u310 u311 u312 u313 u314 u315 u316 u317 u318 u319 u320 u321 u322 u323 u324 u325 u326 u327 u328 u329 u330 u331 u332 u333 u334 u335 u336 u337 u338 u339 u340 u341 u342 u343 u344 u345 u346 u347 u348 u349 u350 u351 u352 u353 u354 u355 u356 u357 u358 u359 u360 u361 u362 u363 u364 u365 u366 u367 u368 u369 u370 u371 u372 u373 u374 u375 u376 u377 u378 u379 u380 u381 u382 u383 u384 u385 u386 u387 u388 u389 u390 u391 u392 u393 u394 u395 u396 u397 u398 u399 u400 u401 hL hC hV zV hO hN hB rc46 zn46 pp46 rc49 zn49 pp49 rc52 zn52 pp52
  have CASE : Hid (∀ w' : World, Below w5.heap.size w5 w' → ∀ k, k < 14 → w'.cell? ⟨w.heap.size, k, none⟩ = ([.slice ma ms.length mc, .slice na ns.length nc, .slice b1 os.length c1, .slice b2 qs.length c2, .int .i64 op.kind, .int .i64 op.key, .int .i64 op.val, .int .i64 op.hi, .bool rt.ok, .int .i64 rt.key, .int .i64 rt.val, .slice ra rt.pairs.length rc, .int .i64 x, .int .i64 y] : List Value)[k]?) := hC
  have B3 : Hid (Below w.heap.size w w5) := hV
  have HLC : Hid (LC O N1 P G ab be r1 wa rlo rhi rne rba cb op x y) := hL
  have PM : Hid (∀ w', Below w5.heap.size w5 w' → PairsAt w' m1 mh 0 O) := fun w' hb => hO.below hb
  have NM : Hid (NilOk m1 O.length mk) := hN
  have YB : Hid (Below w5.heap.size w5 w54) := hB
  have TOW : Hid (∀ w', Below w5.heap.size w5 w' → Below w5.heap.size w5 w') := fun _ h => h
  have HVZ : Hid (w.heap.size < w5.heap.size) := zV
  have H0 : Hid (PairsAt w5 m1 mh 0 O) := hO
  have lO := hL.lO
  have lN := hL.lN
  have lP := hL.lP
  have lG := hL.lG
  have abl := hL.abl
  have bel := hL.bel
  have LG : Hid (G.length + 1 = P.length) := lG
  have lG2 : G.length ≤ 301 := by omega
  clear lG
  have COP : Hid (∀ X : PL, X.length ≤ 2000 → ∀ W a g k, PairsAt W a g 0 X → NilOk a X.length k → CopQ a k X W) := fun X hX W a g k h1 h2 => copied_any a g 0 k X W h1 h2 (by omega)
  unfold CopQ at COP
  have RC46 : Hid (∀ w', Below w54.heap.size w54 w' → ∀ k, w'.cell? ⟨nb46, k, none⟩ = (#[.bool true, .int .i64 0, .int .i64 0, .slice pa46 O.length pk46] : Array Value)[k]?) := fun w' hb k => (hb.cell (p := ⟨nb46, k, none⟩) zn46).trans (rc46 k)
  have ZN46 : Hid (nb46 < w54.heap.size) := zn46
  have PP46x : Hid (∀ w', Below w54.heap.size w54 w' → PairsAt w' pa46 ph46 0 (RetD.pairs ⟨true, 0, 0, O⟩)) := fun w' hb => pp46.below hb
  have RC49 : Hid (∀ w', Below w54.heap.size w54 w' → ∀ k, w'.cell? ⟨nb49, k, none⟩ = (#[.bool rlo.ok, .int .i64 rlo.key, .int .i64 rlo.val, .slice pa49 rlo.pairs.length pk49] : Array Value)[k]?) := fun w' hb k => (hb.cell (p := ⟨nb49, k, none⟩) zn49).trans (rc49 k)
  have ZN49 : Hid (nb49 < w54.heap.size) := zn49
  have PP49x : Hid (∀ w', Below w54.heap.size w54 w' → PairsAt w' pa49 ph49 0 (RetD.pairs rlo)) := fun w' hb => pp49.below hb
  have RC52 : Hid (∀ w', Below w54.heap.size w54 w' → ∀ k, w'.cell? ⟨nb52, k, none⟩ = (#[.bool rhi.ok, .int .i64 rhi.key, .int .i64 rhi.val, .slice pa52 rhi.pairs.length pk52] : Array Value)[k]?) := fun w' hb k => (hb.cell (p := ⟨nb52, k, none⟩) zn52).trans (rc52 k)
  have ZN52 : Hid (nb52 < w54.heap.size) := zn52
  have PP52x : Hid (∀ w', Below w54.heap.size w54 w' → PairsAt w' pa52 ph52 0 (RetD.pairs rhi)) := fun w' hb => pp52.below hb
  clear hC hV hL hO hN hB zV rc46 pp46 rc49 pp49 rc52 pp52
  conv => arg 2; whnf
  have DQ := HLC.out.D10
  have DH : Hid (∀ W base g cap, PairsAt W base g 0 O → NilOk base O.length cap → O.length ≤ cap → cap ≤ maxLen → DoN base cap O ⟨5, x, 0, 0⟩ O rne W) := DQ
  clear DQ
  unfold DoN at DH
  have e12 : w54.cell? ⟨w.heap.size, 12, none⟩ = some (.int .i64 x) := CASE.out _ (TOW.out _ YB.out) 12 (by omega)
  have Hd55 : Hid (Below w54.heap.size w54 w54.drew) := (Below.refl _ _).drew
  have Hz55 : Hid (Below w54.heap.size w54 (w54.alloc (.cells #[.bool false, .int .i64 0, .int .i64 0, .slice none 0 0] 27)).drew) := (below_alloc _ _).drew
  have PX55 : Hid (∀ w', Below w54.heap.size w54 w' → PairsAt w' m1 mh 0 O) := fun w' hb => PM.out w' (YB.out.trans (hb.mono YB.out.size))
  have BC55 : Hid (∀ w', Below w54.heap.size w54 w' → Below w5.heap.size w5 w') := fun w' hb => (TOW.out _ YB.out).trans (hb.mono (TOW.out _ YB.out).size)
  go_wp2_with fail
  go_cut [36, 37, 25] from 299 to 308 (fun t1 t2 t3 wx => DidN w54 O rne t1 t2 t3 wx)
  case first =>
    go_region_held3 (fun w' => w'.cell? ⟨w.heap.size, 12, none⟩ = some (.int .i64 x))
      (first
        | (with_reducible exact XA55.out)
        | (with_reducible exact XZ55.out)
        | (with_reducible exact XA56.out)
        | (with_reducible exact XR56.out)
        | (with_reducible exact XC56.out)
        | go_keep)
      (first
        | (go_at_call 11; refine (COP.out O (by omega) _ m1 mh mk (PX55.out _ ?_) NM.out).mono ?_; (focus (first | exact Hd55.out | exact Hz55.out)); rintro e w55 ⟨ua55, uk55, ug55, rfl, hb55, hp55, hn55, hc55, hd55, _⟩; have Z55 : Hid (Below w54.heap.size w54 w55) := (by first | exact Hd55.out.trans hb55 | exact Hz55.out.trans (hb55.mono (by simp))); have XA55 : Hid (w55.cell? ⟨w.heap.size, 12, none⟩ = some (.int .i64 x)) := CASE.out _ (BC55.out _ Z55.out) 12 (by omega); have XZ55 : Hid ((w55.alloc (.cells #[.bool false, .int .i64 0, .int .i64 0, .slice none 0 0] 27)).cell? ⟨w.heap.size, 12, none⟩ = some (.int .i64 x)) := CASE.out _ (BC55.out _ (Z55.out.alloc Z55.out.size _)) 12 (by omega); have PC55 : Hid (PairsAt w55 ua55 ug55 0 O) := hp55; have NC55 : Hid (NilOk ua55 O.length uk55 ∧ O.length ≤ uk55 ∧ uk55 ≤ maxLen) := ⟨hn55, hc55, hd55⟩; (first | (have NB55 : Hid (NbAt w55 w54.heap.size) := ((NbAt.made w54).below (Below.refl _ _).drew).below hb55) | skip); clear hb55 hp55 hn55 hc55 hd55)
        | (go_at_call 31; refine (DH.out _ ua55 ug55 uk55 ?_ NC55.out.1 NC55.out.2.1 NC55.out.2.2).mono ?_; (focus (first | exact PC55.out | exact PC55.out.below (below_alloc _ _))); rintro e w56 ⟨l56, lk56, lh56, a56, k56, h56, rfl, hb56, hp56, hn56, hq56, hg56, hh56⟩; have Z56 : Hid (Below w54.heap.size w54 w56) := (by first | exact Z55.out.trans (hb56.mono Z55.out.size) | exact (Z55.out.alloc Z55.out.size _).trans (hb56.mono (by have := Z55.out.size; simp; omega))); have XA56 : Hid (w56.cell? ⟨w.heap.size, 12, none⟩ = some (.int .i64 x)) := CASE.out _ (BC55.out _ Z56.out) 12 (by omega); have XR56 : Hid ((w56.alloc (.cells #[.bool rne.ok, .int .i64 rne.key, .int .i64 rne.val, .slice a56 rne.pairs.length k56] 27)).cell? ⟨w.heap.size, 12, none⟩ = some (.int .i64 x)) := CASE.out _ (BC55.out _ (Z56.out.alloc Z56.out.size _)) 12 (by omega); have PL56 : Hid (PairsAt w56 l56 lh56 0 O) := hp56; have NL56 : Hid (NilOk l56 O.length lk56) := hn56; have PR56 : Hid (PairsAt w56 a56 h56 0 (RetD.pairs rne)) := hq56; (first | (have NB56 : Hid (NbAt w56 w54.heap.size) := NB55.out.below hb56; have G1 : Hid (O.length ≠ 0 → w54.heap.size < lh56) := (fun q => by have := hg56 q; have := NB55.out.lt; omega); have G2 : Hid ((RetD.pairs rne).length ≠ 0 → w54.heap.size < h56) := (fun q => by have := hh56 q; have := NB55.out.lt; omega); have XC56 : Hid (((((w56.setCell ⟨w54.heap.size, 0, none⟩ (.bool rne.ok)).setCell ⟨w54.heap.size, 1, none⟩ (.int .i64 rne.key)).setCell ⟨w54.heap.size, 2, none⟩ (.int .i64 rne.val)).setCell ⟨w54.heap.size, 3, none⟩ (.slice a56 rne.pairs.length k56)).cell? ⟨w.heap.size, 12, none⟩ = some (.int .i64 x)) := CASE.out _ (BC55.out _ (below4 Z56.out (Nat.le_refl _) _ _ _ _)) 12 (by omega); have y0 : w56.cell? ⟨w54.heap.size, 0, none⟩ = some (.bool false) := NB56.out.cells 0; have y1 : w56.cell? ⟨w54.heap.size, 1, none⟩ = some (.int .i64 0) := NB56.out.cells 1; have y2 : w56.cell? ⟨w54.heap.size, 2, none⟩ = some (.int .i64 0) := NB56.out.cells 2; have y3 : w56.cell? ⟨w54.heap.size, 3, none⟩ = some (.slice none 0 0) := NB56.out.cells 3; have yf : ∀ k, w56.frozen? ⟨w54.heap.size, k, none⟩ = false := NB56.out.free; have yl : w54.heap.size < w56.heap.size := NB56.out.lt) | (have NB56 : Hid (NbAt w56 w55.heap.size) := (NbAt.made w55).below hb56; have G1 : Hid (O.length ≠ 0 → w55.heap.size < lh56) := (fun q => by have := hg56 q; simp at this; omega); have G2 : Hid ((RetD.pairs rne).length ≠ 0 → w55.heap.size < h56) := (fun q => by have := hh56 q; simp at this; omega); have XC56 : Hid (((((w56.setCell ⟨w55.heap.size, 0, none⟩ (.bool rne.ok)).setCell ⟨w55.heap.size, 1, none⟩ (.int .i64 rne.key)).setCell ⟨w55.heap.size, 2, none⟩ (.int .i64 rne.val)).setCell ⟨w55.heap.size, 3, none⟩ (.slice a56 rne.pairs.length k56)).cell? ⟨w.heap.size, 12, none⟩ = some (.int .i64 x)) := CASE.out _ (BC55.out _ (below4 Z56.out Z55.out.size _ _ _ _)) 12 (by omega); have y0 : w56.cell? ⟨w55.heap.size, 0, none⟩ = some (.bool false) := NB56.out.cells 0; have y1 : w56.cell? ⟨w55.heap.size, 1, none⟩ = some (.int .i64 0) := NB56.out.cells 1; have y2 : w56.cell? ⟨w55.heap.size, 2, none⟩ = some (.int .i64 0) := NB56.out.cells 2; have y3 : w56.cell? ⟨w55.heap.size, 3, none⟩ = some (.slice none 0 0) := NB56.out.cells 3; have yf : ∀ k, w56.frozen? ⟨w55.heap.size, k, none⟩ = false := NB56.out.free; have yl : w55.heap.size < w56.heap.size := NB56.out.lt) | skip); clear hb56 hp56 hn56 hq56 hg56 hh56))
    all_goals
      go_wp2_with fail
      go_meet
      first
        | exact didn_of (did_set (r := rne) Z56.out NB56.out (Nat.le_refl _) PL56.out PR56.out G1.out G2.out) NL56.out
        | exact didn_of (did_set (r := rne) Z56.out NB56.out Z55.out.size PL56.out PR56.out G1.out G2.out) NL56.out
        | exact didn_of (did_new (r := rne) Z56.out PL56.out PR56.out) NL56.out
  case rest =>
    rename_i hK
    obtain ⟨xa55, xk55, xh55, pa55, pk55, ph55, nb55, rfl, rfl, rfl, hbx, hnx, hcx, hpx, hnl, hqx⟩ := hcut
    generalize wc = w57 at *
    have Zc57 : Hid (Below w54.heap.size w54 w57) := hbx
    have RC55 : Hid (∀ w', Below w57.heap.size w57 w' → ∀ k, w'.cell? ⟨nb55, k, none⟩ = (#[.bool rne.ok, .int .i64 rne.key, .int .i64 rne.val, .slice pa55 rne.pairs.length pk55] : Array Value)[k]?) := fun w' hb k => (hb.cell (p := ⟨nb55, k, none⟩) hnx).trans (hcx k)
    have ZN55 : Hid (nb55 < w57.heap.size) := hnx
    have PL55x : Hid (∀ w', Below w57.heap.size w57 w' → PairsAt w' xa55 xh55 0 O) := fun w' hb => hpx.below hb
    have NL55x : Hid (NilOk xa55 O.length xk55) := hnl
    have PP55x : Hid (∀ w', Below w57.heap.size w57 w' → PairsAt w' pa55 ph55 0 (RetD.pairs rne)) := fun w' hb => hqx.below hb
    clear hbx hnx hcx hpx hnl hqx
    clear e12
    have Cw5_w57 : Hid (Below w5.heap.size w5 w57) := YB.out.trans (Zc57.out.mono YB.out.size)
    have Cw54_w57 : Hid (Below w54.heap.size w54 w57) := Zc57.out
    refine hK _ _ ?_
    exact next w w5 w57 ma na b1 b2 ra mc nc c1 c2 rc ms ns os qs rt O N1 P G ab be r1 wa rlo rhi rne rba cb op x y m1 mk mh pa46 pk46 ph46 nb46 pa49 pk49 ph49 nb49 pa52 pk52 ph52 nb52 pa55 pk55 ph55 nb55 _ _ _ _ _ _ _ _ _ _ _ _ _ _ _ _ _ _ _ _ _ _ _ _ _ _ _ _ _ _ _ _ _ _ _ _ _ _ _ _ _ _ _ _ _ _ _ _ _ _ _ _ _ _ _ _ _ _ _ _ _ _ _ _ _ _ _ _ _ _ _ _ _ _ _ _ _ _ _ _ _ _ _ _ _ _ _ _ _ _ _ _ _ _ _ _ _ _ _ _ _ _ _ _ _ _ _ _ _ _ _ _ _ _ _ _ _ _ _ _ _ _ _ _ _ _ _ _ _ _ _ _ _ _ _ _ _ _ _ _ _ _ _ _ _ _ _ _ _ _ _ _ _ _ _ _ _ _ _ _ _ _ _ _ _ _ _ _ _ _ _ _ _ _ _ _ _ _ _ _ _ _ _ _ _ _ _ _ _ _ _ _ _ _ _ _ _ _ _ _ _ _ _ _ _ _ _ _ _ _ _ _ _ _ _ _ _ _ _ _ _ _ _ _ _ _ _ _ _ _ _ _ _ _ _ _ _ _ _ _ _ _ _ _ _ _ _ _ _ _ _ _ _ _ _ _ _ _ _ _ _ _ _ _ _ _ _ _ _ _ _ _ _ _ _ _ _ _ _ _ _ _ _ _ _ _ _ _ _ _ _ _ _ _ _ _ _ _ _ _ _ _ _ _ _ _ _ _ _ _ _ _ _ _ _ _ _ _ _ _ _ _ _ _ _ _ _ _ _ _ _ _ _ _ _ _ _ _ _ _ _ _ _ _ _ _ _ _ _ _ _ _ _ _ _ _ _ _ _ _ _ _ _ _ _ _ _ _ _ _ _ _ _ _ _ _ _ _ _ _ _ _ _ _ _ _ _ _ _ _ _ HLC.out CASE.out B3.out HVZ.out H0.out NM.out Cw5_w57.out (RC46.out _ Cw54_w57.out) (Nat.lt_of_lt_of_le ZN46.out (Below.size Cw54_w57.out)) (PP46x.out _ Cw54_w57.out) (RC49.out _ Cw54_w57.out) (Nat.lt_of_lt_of_le ZN49.out (Below.size Cw54_w57.out)) (PP49x.out _ Cw54_w57.out) (RC52.out _ Cw54_w57.out) (Nat.lt_of_lt_of_le ZN52.out (Below.size Cw54_w57.out)) (PP52x.out _ Cw54_w57.out) (RC55.out _ (Below.refl _ _)) ZN55.out (PP55x.out _ (Below.refl _ _))
end Go.Proofs.Ytjpfgfcggekklaa
namespace Go.Proofs.Ytjpfgfcggekklaa
open Go.RowKit

set_option maxRecDepth 100000 in
set_option maxHeartbeats 3000000 in
theorem lawsat22 (next : LawsAt23) : LawsAt22 := by
  unfold LawsAt22
  intro w w5 w57 ma na b1 b2 ra mc nc c1 c2 rc ms ns os qs rt O N1 P G ab be r1 wa rlo rhi rne rba cb op x y m1 mk mh pa46 pk46 ph46 nb46 pa49 pk49 ph49 nb49 pa52 pk52 ph52 nb52 pa55 pk55 ph55 nb55 u0 u2 u4 u5 u6 u8 u9 u11 u12 u13 u14 u15 u16 u17 u18 u19 u20 u21 u23 u24 u26 u27 u28 u30 u32 u34 u36 u38 u39 u40 u41 u42 u43 u44 u45 u46 u47 u48 u49 u50 u51 u52 u53 u54 u55 u56 u57 u58 u59 u60 u61 u62 u63 u64 u65 u66 u67 u68 u69 u70 u71 u72 u73 u74 u75 u76 u77 u78 u79 u80 u81 u82 u83 u84 u85 u86 u87 u88 u89 u90 u91 u92 u93 u94 u95 u96 u97 u98 u99 u100 u101 u102 u103 u104 u105 u106 u107 u108 u109 u110 u111 u112 u113 u114 u115 u116 u117 u118 u119 u120 u121 u122 u123 u124 u125 u126 u127 u128 u129 u130 u131 u132 u133 u134 u135 u136 u137 u138 u139 u140 u141 u142 u143 u144 u145 u146 u147 u148 u149 u150 u151 u152 u153 u154 u155 u156 u157 u158 u159 u160 u161 u162 u163 u164 u165 u166 u167 u168 u169 u170 u171 u172 u173 u174 u175 u176 u177 u178 u179 u180 u181 u182 u183 u184 u185 u186 u187 u188 u189 u190 u191 u192 u193 u194 u195 u196 u197 u198 u199 u200 u201 u202 u203 u204 u205 u206 u207 u208 u209 u210 u211 u212 u213 u214 u215 u216 u217 u218 u219 u220 u221 u222 u223 u224 u225 u226 u227 u228 u229 u230 u231 u232 u233 u234 u235 u236 u237 u238 u239 u240 u241 u242 u243 u244 u245 u246 u247 u248 u249 u250 u251 u252 u253 u254 u255 u256 u257 u258 u259 u260 u261 u262 u263 u264 u265 u266 u267 u268 u269 u270 u271 u272 u273 u274 u275 u276 u277 u278 u279 u280 u281 u282 u283 u284 u285 u286 u287 u288 u289 u290 u291 u292 u293 u294 u295 u296 u297 u298 u299 u300 u301 u302 u303 u304 u305 u306 u307 u308 u309 u310 u311 u312 u313 u314 u315 u316 u317 u318 u319 u320 u321 u322 u323 u324 u325 u326 u327 u328 u329 u330 u331 u332 u333 u334 u335 u336 u337 u338 u339 u340 u341 u342 u343 u344 u345 u346 u347 u348 u349 u350 u351 u352 u353 u354 u355 u356 u357 u358 u359 u360 u361 u362 u363 u364 u365 u366 u367 u368 u369 u370 u371 u372 u373 u374 u375 u376 u377 u378 u379 u380 u381 u382 u383 u384 u385 u386 u387 u388 u389 u390 u391 u392 u393 u394 u395 u396 u397 u398 u399 u400 u401 hL hC hV zV hO hN hB rc46 zn46 pp46 rc49 zn49 pp49 rc52 zn52 pp52 rc55 zn55 pp55
  have CASE : Hid (∀ w' : World, Below w5.heap.size w5 w' → ∀ k, k < 14 → w'.cell? ⟨w.heap.size, k, none⟩ = ([.slice ma ms.length mc, .slice na ns.length nc, .slice b1 os.length c1, .slice b2 qs.length c2, .int .i64 op.kind, .int .i64 op.key, .int .i64 op.val, .int .i64 op.hi, .bool rt.ok, .int .i64 rt.key, .int .i64 rt.val, .slice ra rt.pairs.length rc, .int .i64 x, .int .i64 y] : List Value)[k]?) := hC
  have B3 : Hid (Below w.heap.size w w5) := hV
  have HLC : Hid (LC O N1 P G ab be r1 wa rlo rhi rne rba cb op x y) := hL
  have PM : Hid (∀ w', Below w5.heap.size w5 w' → PairsAt w' m1 mh 0 O) := fun w' hb => hO.below hb
  have NM : Hid (NilOk m1 O.length mk) := hN
  have YB : Hid (Below w5.heap.size w5 w57) := hB
  have TOW : Hid (∀ w', Below w5.heap.size w5 w' → Below w5.heap.size w5 w') := fun _ h => h
  have HVZ : Hid (w.heap.size < w5.heap.size) := zV
  have H0 : Hid (PairsAt w5 m1 mh 0 O) := hO
  have lO := hL.lO
  have lN := hL.lN
  have lP := hL.lP
  have lG := hL.lG
  have abl := hL.abl
  have bel := hL.bel
  have LG : Hid (G.length + 1 = P.length) := lG
  have lG2 : G.length ≤ 301 := by omega
  clear lG
  have COP : Hid (∀ X : PL, X.length ≤ 2000 → ∀ W a g k, PairsAt W a g 0 X → NilOk a X.length k → CopQ a k X W) := fun X hX W a g k h1 h2 => copied_any a g 0 k X W h1 h2 (by omega)
  unfold CopQ at COP
  have RC46 : Hid (∀ w', Below w57.heap.size w57 w' → ∀ k, w'.cell? ⟨nb46, k, none⟩ = (#[.bool true, .int .i64 0, .int .i64 0, .slice pa46 O.length pk46] : Array Value)[k]?) := fun w' hb k => (hb.cell (p := ⟨nb46, k, none⟩) zn46).trans (rc46 k)
  have ZN46 : Hid (nb46 < w57.heap.size) := zn46
  have PP46x : Hid (∀ w', Below w57.heap.size w57 w' → PairsAt w' pa46 ph46 0 (RetD.pairs ⟨true, 0, 0, O⟩)) := fun w' hb => pp46.below hb
  have RC49 : Hid (∀ w', Below w57.heap.size w57 w' → ∀ k, w'.cell? ⟨nb49, k, none⟩ = (#[.bool rlo.ok, .int .i64 rlo.key, .int .i64 rlo.val, .slice pa49 rlo.pairs.length pk49] : Array Value)[k]?) := fun w' hb k => (hb.cell (p := ⟨nb49, k, none⟩) zn49).trans (rc49 k)
  have ZN49 : Hid (nb49 < w57.heap.size) := zn49
  have PP49x : Hid (∀ w', Below w57.heap.size w57 w' → PairsAt w' pa49 ph49 0 (RetD.pairs rlo)) := fun w' hb => pp49.below hb
  have RC52 : Hid (∀ w', Below w57.heap.size w57 w' → ∀ k, w'.cell? ⟨nb52, k, none⟩ = (#[.bool rhi.ok, .int .i64 rhi.key, .int .i64 rhi.val, .slice pa52 rhi.pairs.length pk52] : Array Value)[k]?) := fun w' hb k => (hb.cell (p := ⟨nb52, k, none⟩) zn52).trans (rc52 k)
  have ZN52 : Hid (nb52 < w57.heap.size) := zn52
  have PP52x : Hid (∀ w', Below w57.heap.size w57 w' → PairsAt w' pa52 ph52 0 (RetD.pairs rhi)) := fun w' hb => pp52.below hb
  have RC55 : Hid (∀ w', Below w57.heap.size w57 w' → ∀ k, w'.cell? ⟨nb55, k, none⟩ = (#[.bool rne.ok, .int .i64 rne.key, .int .i64 rne.val, .slice pa55 rne.pairs.length pk55] : Array Value)[k]?) := fun w' hb k => (hb.cell (p := ⟨nb55, k, none⟩) zn55).trans (rc55 k)
  have ZN55 : Hid (nb55 < w57.heap.size) := zn55
  have PP55x : Hid (∀ w', Below w57.heap.size w57 w' → PairsAt w' pa55 ph55 0 (RetD.pairs rne)) := fun w' hb => pp55.below hb
  clear hC hV hL hO hN hB zV rc46 pp46 rc49 pp49 rc52 pp52 rc55 pp55
  conv => arg 2; whnf
  have DQ := HLC.out.D11
  have DH : Hid (∀ W base g cap, PairsAt W base g 0 O → NilOk base O.length cap → O.length ≤ cap → cap ≤ maxLen → DoN base cap O ⟨6, x, 0, 0⟩ O rba W) := DQ
  clear DQ
  unfold DoN at DH
  have e12 : w57.cell? ⟨w.heap.size, 12, none⟩ = some (.int .i64 x) := CASE.out _ (TOW.out _ YB.out) 12 (by omega)
  have Hd58 : Hid (Below w57.heap.size w57 w57.drew) := (Below.refl _ _).drew
  have Hz58 : Hid (Below w57.heap.size w57 (w57.alloc (.cells #[.bool false, .int .i64 0, .int .i64 0, .slice none 0 0] 27)).drew) := (below_alloc _ _).drew
  have PX58 : Hid (∀ w', Below w57.heap.size w57 w' → PairsAt w' m1 mh 0 O) := fun w' hb => PM.out w' (YB.out.trans (hb.mono YB.out.size))
  have BC58 : Hid (∀ w', Below w57.heap.size w57 w' → Below w5.heap.size w5 w') := fun w' hb => (TOW.out _ YB.out).trans (hb.mono (TOW.out _ YB.out).size)
  go_wp2_with fail
  go_cut [38, 39, 28] from 309 to 318 (fun t1 t2 t3 wx => DidN w57 O rba t1 t2 t3 wx)
  case first =>
    go_region_held3 (fun w' => w'.cell? ⟨w.heap.size, 12, none⟩ = some (.int .i64 x))
      (first
        | (with_reducible exact XA58.out)
        | (with_reducible exact XZ58.out)
        | (with_reducible exact XA59.out)
        | (with_reducible exact XR59.out)
        | (with_reducible exact XC59.out)
        | go_keep)
      (first
        | (go_at_call 11; refine (COP.out O (by omega) _ m1 mh mk (PX58.out _ ?_) NM.out).mono ?_; (focus (first | exact Hd58.out | exact Hz58.out)); rintro e w58 ⟨ua58, uk58, ug58, rfl, hb58, hp58, hn58, hc58, hd58, _⟩; have Z58 : Hid (Below w57.heap.size w57 w58) := (by first | exact Hd58.out.trans hb58 | exact Hz58.out.trans (hb58.mono (by simp))); have XA58 : Hid (w58.cell? ⟨w.heap.size, 12, none⟩ = some (.int .i64 x)) := CASE.out _ (BC58.out _ Z58.out) 12 (by omega); have XZ58 : Hid ((w58.alloc (.cells #[.bool false, .int .i64 0, .int .i64 0, .slice none 0 0] 27)).cell? ⟨w.heap.size, 12, none⟩ = some (.int .i64 x)) := CASE.out _ (BC58.out _ (Z58.out.alloc Z58.out.size _)) 12 (by omega); have PC58 : Hid (PairsAt w58 ua58 ug58 0 O) := hp58; have NC58 : Hid (NilOk ua58 O.length uk58 ∧ O.length ≤ uk58 ∧ uk58 ≤ maxLen) := ⟨hn58, hc58, hd58⟩; (first | (have NB58 : Hid (NbAt w58 w57.heap.size) := ((NbAt.made w57).below (Below.refl _ _).drew).below hb58) | skip); clear hb58 hp58 hn58 hc58 hd58)
        | (go_at_call 31; refine (DH.out _ ua58 ug58 uk58 ?_ NC58.out.1 NC58.out.2.1 NC58.out.2.2).mono ?_; (focus (first | exact PC58.out | exact PC58.out.below (below_alloc _ _))); rintro e w59 ⟨l59, lk59, lh59, a59, k59, h59, rfl, hb59, hp59, hn59, hq59, hg59, hh59⟩; have Z59 : Hid (Below w57.heap.size w57 w59) := (by first | exact Z58.out.trans (hb59.mono Z58.out.size) | exact (Z58.out.alloc Z58.out.size _).trans (hb59.mono (by have := Z58.out.size; simp; omega))); have XA59 : Hid (w59.cell? ⟨w.heap.size, 12, none⟩ = some (.int .i64 x)) := CASE.out _ (BC58.out _ Z59.out) 12 (by omega); have XR59 : Hid ((w59.alloc (.cells #[.bool rba.ok, .int .i64 rba.key, .int .i64 rba.val, .slice a59 rba.pairs.length k59] 27)).cell? ⟨w.heap.size, 12, none⟩ = some (.int .i64 x)) := CASE.out _ (BC58.out _ (Z59.out.alloc Z59.out.size _)) 12 (by omega); have PL59 : Hid (PairsAt w59 l59 lh59 0 O) := hp59; have NL59 : Hid (NilOk l59 O.length lk59) := hn59; have PR59 : Hid (PairsAt w59 a59 h59 0 (RetD.pairs rba)) := hq59; (first | (have NB59 : Hid (NbAt w59 w57.heap.size) := NB58.out.below hb59; have G1 : Hid (O.length ≠ 0 → w57.heap.size < lh59) := (fun q => by have := hg59 q; have := NB58.out.lt; omega); have G2 : Hid ((RetD.pairs rba).length ≠ 0 → w57.heap.size < h59) := (fun q => by have := hh59 q; have := NB58.out.lt; omega); have XC59 : Hid (((((w59.setCell ⟨w57.heap.size, 0, none⟩ (.bool rba.ok)).setCell ⟨w57.heap.size, 1, none⟩ (.int .i64 rba.key)).setCell ⟨w57.heap.size, 2, none⟩ (.int .i64 rba.val)).setCell ⟨w57.heap.size, 3, none⟩ (.slice a59 rba.pairs.length k59)).cell? ⟨w.heap.size, 12, none⟩ = some (.int .i64 x)) := CASE.out _ (BC58.out _ (below4 Z59.out (Nat.le_refl _) _ _ _ _)) 12 (by omega); have y0 : w59.cell? ⟨w57.heap.size, 0, none⟩ = some (.bool false) := NB59.out.cells 0; have y1 : w59.cell? ⟨w57.heap.size, 1, none⟩ = some (.int .i64 0) := NB59.out.cells 1; have y2 : w59.cell? ⟨w57.heap.size, 2, none⟩ = some (.int .i64 0) := NB59.out.cells 2; have y3 : w59.cell? ⟨w57.heap.size, 3, none⟩ = some (.slice none 0 0) := NB59.out.cells 3; have yf : ∀ k, w59.frozen? ⟨w57.heap.size, k, none⟩ = false := NB59.out.free; have yl : w57.heap.size < w59.heap.size := NB59.out.lt) | (have NB59 : Hid (NbAt w59 w58.heap.size) := (NbAt.made w58).below hb59; have G1 : Hid (O.length ≠ 0 → w58.heap.size < lh59) := (fun q => by have := hg59 q; simp at this; omega); have G2 : Hid ((RetD.pairs rba).length ≠ 0 → w58.heap.size < h59) := (fun q => by have := hh59 q; simp at this; omega); have XC59 : Hid (((((w59.setCell ⟨w58.heap.size, 0, none⟩ (.bool rba.ok)).setCell ⟨w58.heap.size, 1, none⟩ (.int .i64 rba.key)).setCell ⟨w58.heap.size, 2, none⟩ (.int .i64 rba.val)).setCell ⟨w58.heap.size, 3, none⟩ (.slice a59 rba.pairs.length k59)).cell? ⟨w.heap.size, 12, none⟩ = some (.int .i64 x)) := CASE.out _ (BC58.out _ (below4 Z59.out Z58.out.size _ _ _ _)) 12 (by omega); have y0 : w59.cell? ⟨w58.heap.size, 0, none⟩ = some (.bool false) := NB59.out.cells 0; have y1 : w59.cell? ⟨w58.heap.size, 1, none⟩ = some (.int .i64 0) := NB59.out.cells 1; have y2 : w59.cell? ⟨w58.heap.size, 2, none⟩ = some (.int .i64 0) := NB59.out.cells 2; have y3 : w59.cell? ⟨w58.heap.size, 3, none⟩ = some (.slice none 0 0) := NB59.out.cells 3; have yf : ∀ k, w59.frozen? ⟨w58.heap.size, k, none⟩ = false := NB59.out.free; have yl : w58.heap.size < w59.heap.size := NB59.out.lt) | skip); clear hb59 hp59 hn59 hq59 hg59 hh59))
    all_goals
      go_wp2_with fail
      go_meet
      first
        | exact didn_of (did_set (r := rba) Z59.out NB59.out (Nat.le_refl _) PL59.out PR59.out G1.out G2.out) NL59.out
        | exact didn_of (did_set (r := rba) Z59.out NB59.out Z58.out.size PL59.out PR59.out G1.out G2.out) NL59.out
        | exact didn_of (did_new (r := rba) Z59.out PL59.out PR59.out) NL59.out
  case rest =>
    rename_i hK
    obtain ⟨xa58, xk58, xh58, pa58, pk58, ph58, nb58, rfl, rfl, rfl, hbx, hnx, hcx, hpx, hnl, hqx⟩ := hcut
    generalize wc = w60 at *
    have Zc60 : Hid (Below w57.heap.size w57 w60) := hbx
    have RC58 : Hid (∀ w', Below w60.heap.size w60 w' → ∀ k, w'.cell? ⟨nb58, k, none⟩ = (#[.bool rba.ok, .int .i64 rba.key, .int .i64 rba.val, .slice pa58 rba.pairs.length pk58] : Array Value)[k]?) := fun w' hb k => (hb.cell (p := ⟨nb58, k, none⟩) hnx).trans (hcx k)
    have ZN58 : Hid (nb58 < w60.heap.size) := hnx
    have PL58x : Hid (∀ w', Below w60.heap.size w60 w' → PairsAt w' xa58 xh58 0 O) := fun w' hb => hpx.below hb
    have NL58x : Hid (NilOk xa58 O.length xk58) := hnl
    have PP58x : Hid (∀ w', Below w60.heap.size w60 w' → PairsAt w' pa58 ph58 0 (RetD.pairs rba)) := fun w' hb => hqx.below hb
    clear hbx hnx hcx hpx hnl hqx
    clear e12
    have Cw5_w60 : Hid (Below w5.heap.size w5 w60) := YB.out.trans (Zc60.out.mono YB.out.size)
    have Cw57_w60 : Hid (Below w57.heap.size w57 w60) := Zc60.out
    refine hK _ _ ?_
    exact next w w5 w60 ma na b1 b2 ra mc nc c1 c2 rc ms ns os qs rt O N1 P G ab be r1 wa rlo rhi rne rba cb op x y m1 mk mh pa46 pk46 ph46 nb46 pa49 pk49 ph49 nb49 pa52 pk52 ph52 nb52 pa55 pk55 ph55 nb55 pa58 pk58 ph58 nb58 _ _ _ _ _ _ _ _ _ _ _ _ _ _ _ _ _ _ _ _ _ _ _ _ _ _ _ _ _ _ _ _ _ _ _ _ _ _ _ _ _ _ _ _ _ _ _ _ _ _ _ _ _ _ _ _ _ _ _ _ _ _ _ _ _ _ _ _ _ _ _ _ _ _ _ _ _ _ _ _ _ _ _ _ _ _ _ _ _ _ _ _ _ _ _ _ _ _ _ _ _ _ _ _ _ _ _ _ _ _ _ _ _ _ _ _ _ _ _ _ _ _ _ _ _ _ _ _ _ _ _ _ _ _ _ _ _ _ _ _ _ _ _ _ _ _ _ _ _ _ _ _ _ _ _ _ _ _ _ _ _ _ _ _ _ _ _ _ _ _ _ _ _ _ _ _ _ _ _ _ _ _ _ _ _ _ _ _ _ _ _ _ _ _ _ _ _ _ _ _ _ _ _ _ _ _ _ _ _ _ _ _ _ _ _ _ _ _ _ _ _ _ _ _ _ _ _ _ _ _ _ _ _ _ _ _ _ _ _ _ _ _ _ _ _ _ _ _ _ _ _ _ _ _ _ _ _ _ _ _ _ _ _ _ _ _ _ _ _ _ _ _ _ _ _ _ _ _ _ _ _ _ _ _ _ _ _ _ _ _ _ _ _ _ _ _ _ _ _ _ _ _ _ _ _ _ _ _ _ _ _ _ _ _ _ _ _ _ _ _ _ _ _ _ _ _ _ _ _ _ _ _ _ _ _ _ _ _ _ _ _ _ _ _ _ _ _ _ _ _ _ _ _ _ _ _ _ _ _ _ _ _ _ _ _ _ _ _ _ _ _ _ _ _ _ _ _ _ _ _ _ _ _ _ _ _ _ _ _ HLC.out CASE.out B3.out HVZ.out H0.out NM.out Cw5_w60.out (RC46.out _ Cw57_w60.out) (Nat.lt_of_lt_of_le ZN46.out (Below.size Cw57_w60.out)) (PP46x.out _ Cw57_w60.out) (RC49.out _ Cw57_w60.out) (Nat.lt_of_lt_of_le ZN49.out (Below.size Cw57_w60.out)) (PP49x.out _ Cw57_w60.out) (RC52.out _ Cw57_w60.out) (Nat.lt_of_lt_of_le ZN52.out (Below.size Cw57_w60.out)) (PP52x.out _ Cw57_w60.out) (RC55.out _ Cw57_w60.out) (Nat.lt_of_lt_of_le ZN55.out (Below.size Cw57_w60.out)) (PP55x.out _ Cw57_w60.out) (RC58.out _ (Below.refl _ _)) ZN58.out (PP58x.out _ (Below.refl _ _))
end Go.Proofs.Ytjpfgfcggekklaa
namespace Go.Proofs.Ytjpfgfcggekklaa
open Go.RowKit

set_option maxRecDepth 100000 in
set_option maxHeartbeats 3000000 in
theorem lawsat23 (next : LawsAt24) : LawsAt23 := by
  unfold LawsAt23
  intro w w5 w60 ma na b1 b2 ra mc nc c1 c2 rc ms ns os qs rt O N1 P G ab be r1 wa rlo rhi rne rba cb op x y m1 mk mh pa46 pk46 ph46 nb46 pa49 pk49 ph49 nb49 pa52 pk52 ph52 nb52 pa55 pk55 ph55 nb55 pa58 pk58 ph58 nb58 u0 u2 u4 u5 u6 u8 u9 u11 u12 u13 u14 u15 u16 u17 u18 u19 u20 u21 u23 u24 u26 u27 u30 u32 u34 u36 u38 u40 u41 u42 u43 u44 u45 u46 u47 u48 u49 u50 u51 u52 u53 u54 u55 u56 u57 u58 u59 u60 u61 u62 u63 u64 u65 u66 u67 u68 u69 u70 u71 u72 u73 u74 u75 u76 u77 u78 u79 u80 u81 u82 u83 u84 u85 u86 u87 u88 u89 u90 u91 u92 u93 u94 u95 u96 u97 u98 u99 u100 u101 u102 u103 u104 u105 u106 u107 u108 u109 u110 u111 u112 u113 u114 u115 u116 u117 u118 u119 u120 u121 u122 u123 u124 u125 u126 u127 u128 u129 u130 u131 u132 u133 u134 u135 u136 u137 u138 u139 u140 u141 u142 u143 u144 u145 u146 u147 u148 u149 u150 u151 u152 u153 u154 u155 u156 u157 u158 u159 u160 u161 u162 u163 u164 u165 u166 u167 u168 u169 u170 u171 u172 u173 u174 u175 u176 u177 u178 u179 u180 u181 u182 u183 u184 u185 u186 u187 u188 u189 u190 u191 u192 u193 u194 u195 u196 u197 u198 u199 u200 u201 u202 u203 u204 u205 u206 u207 u208 u209 u210 u211 u212 u213 u214 u215 u216 u217 u218 u219 u220 u221 u222 u223 u224 u225 u226 u227 u228 u229 u230 u231 u232 u233 u234 u235 u236 u237 u238 u239 u240 u241 u242 u243 u244 u245 u246 u247 u248 u249 u250 u251 u252 u253 u254 u255 u256 u257 u258 u259 u260 u261 u262 u263 u264 u265 u266 u267 u268 u269 u270 u271 u272 u273 u274 u275 u276 u277 u278 u279 u280 u281 u282 u283 u284 u285 u286 u287 u288 u289 u290 u291 u292 u293 u294 u295 u296 u297 u298 u299 u300 u301 u302 u303 u304 u305 u306 u307 u308 u309 u310 u311 u312 u313 u314 u315 u316 u317 u318 u319 u320 u321 u322 u323 u324 u325 u326 u327 u328 u329 u330 u331 u332 u333 u334 u335 u336 u337 u338 u339 u340 u341 u342 u343 u344 u345 u346 u347 u348 u349 u350 u351 u352 u353 u354 u355 u356 u357 u358 u359 u360 u361 u362 u363 u364 u365 u366 u367 u368 u369 u370 u371 u372 u373 u374 u375 u376 u377 u378 u379 u380 u381 u382 u383 u384 u385 u386 u387 u388 u389 u390 u391 u392 u393 u394 u395 u396 u397 u398 u399 u400 u401 hL hC hV zV hO hN hB rc46 zn46 pp46 rc49 zn49 pp49 rc52 zn52 pp52 rc55 zn55 pp55 rc58 zn58 pp58
  have CASE : Hid (∀ w' : World, Below w5.heap.size w5 w' → ∀ k, k < 14 → w'.cell? ⟨w.heap.size, k, none⟩ = ([.slice ma ms.length mc, .slice na ns.length nc, .slice b1 os.length c1, .slice b2 qs.length c2, .int .i64 op.kind, .int .i64 op.key, .int .i64 op.val, .int .i64 op.hi, .bool rt.ok, .int .i64 rt.key, .int .i64 rt.val, .slice ra rt.pairs.length rc, .int .i64 x, .int .i64 y] : List Value)[k]?) := hC
  have B3 : Hid (Below w.heap.size w w5) := hV
  have HLC : Hid (LC O N1 P G ab be r1 wa rlo rhi rne rba cb op x y) := hL
  have PM : Hid (∀ w', Below w5.heap.size w5 w' → PairsAt w' m1 mh 0 O) := fun w' hb => hO.below hb
  have NM : Hid (NilOk m1 O.length mk) := hN
  have YB : Hid (Below w5.heap.size w5 w60) := hB
  have TOW : Hid (∀ w', Below w5.heap.size w5 w' → Below w5.heap.size w5 w') := fun _ h => h
  have HVZ : Hid (w.heap.size < w5.heap.size) := zV
  have H0 : Hid (PairsAt w5 m1 mh 0 O) := hO
  have lO := hL.lO
  have lN := hL.lN
  have lP := hL.lP
  have lG := hL.lG
  have abl := hL.abl
  have bel := hL.bel
  have LG : Hid (G.length + 1 = P.length) := lG
  have lG2 : G.length ≤ 301 := by omega
  clear lG
  have COP : Hid (∀ X : PL, X.length ≤ 2000 → ∀ W a g k, PairsAt W a g 0 X → NilOk a X.length k → CopQ a k X W) := fun X hX W a g k h1 h2 => copied_any a g 0 k X W h1 h2 (by omega)
  unfold CopQ at COP
  have RC46 : Hid (∀ w', Below w60.heap.size w60 w' → ∀ k, w'.cell? ⟨nb46, k, none⟩ = (#[.bool true, .int .i64 0, .int .i64 0, .slice pa46 O.length pk46] : Array Value)[k]?) := fun w' hb k => (hb.cell (p := ⟨nb46, k, none⟩) zn46).trans (rc46 k)
  have ZN46 : Hid (nb46 < w60.heap.size) := zn46
  have PP46x : Hid (∀ w', Below w60.heap.size w60 w' → PairsAt w' pa46 ph46 0 (RetD.pairs ⟨true, 0, 0, O⟩)) := fun w' hb => pp46.below hb
  have RC49 : Hid (∀ w', Below w60.heap.size w60 w' → ∀ k, w'.cell? ⟨nb49, k, none⟩ = (#[.bool rlo.ok, .int .i64 rlo.key, .int .i64 rlo.val, .slice pa49 rlo.pairs.length pk49] : Array Value)[k]?) := fun w' hb k => (hb.cell (p := ⟨nb49, k, none⟩) zn49).trans (rc49 k)
  have ZN49 : Hid (nb49 < w60.heap.size) := zn49
  have PP49x : Hid (∀ w', Below w60.heap.size w60 w' → PairsAt w' pa49 ph49 0 (RetD.pairs rlo)) := fun w' hb => pp49.below hb
  have RC52 : Hid (∀ w', Below w60.heap.size w60 w' → ∀ k, w'.cell? ⟨nb52, k, none⟩ = (#[.bool rhi.ok, .int .i64 rhi.key, .int .i64 rhi.val, .slice pa52 rhi.pairs.length pk52] : Array Value)[k]?) := fun w' hb k => (hb.cell (p := ⟨nb52, k, none⟩) zn52).trans (rc52 k)
  have ZN52 : Hid (nb52 < w60.heap.size) := zn52
  have PP52x : Hid (∀ w', Below w60.heap.size w60 w' → PairsAt w' pa52 ph52 0 (RetD.pairs rhi)) := fun w' hb => pp52.below hb
  have RC55 : Hid (∀ w', Below w60.heap.size w60 w' → ∀ k, w'.cell? ⟨nb55, k, none⟩ = (#[.bool rne.ok, .int .i64 rne.key, .int .i64 rne.val, .slice pa55 rne.pairs.length pk55] : Array Value)[k]?) := fun w' hb k => (hb.cell (p := ⟨nb55, k, none⟩) zn55).trans (rc55 k)
  have ZN55 : Hid (nb55 < w60.heap.size) := zn55
  have PP55x : Hid (∀ w', Below w60.heap.size w60 w' → PairsAt w' pa55 ph55 0 (RetD.pairs rne)) := fun w' hb => pp55.below hb
  have RC58 : Hid (∀ w', Below w60.heap.size w60 w' → ∀ k, w'.cell? ⟨nb58, k, none⟩ = (#[.bool rba.ok, .int .i64 rba.key, .int .i64 rba.val, .slice pa58 rba.pairs.length pk58] : Array Value)[k]?) := fun w' hb k => (hb.cell (p := ⟨nb58, k, none⟩) zn58).trans (rc58 k)
  have ZN58 : Hid (nb58 < w60.heap.size) := zn58
  have PP58x : Hid (∀ w', Below w60.heap.size w60 w' → PairsAt w' pa58 ph58 0 (RetD.pairs rba)) := fun w' hb => pp58.below hb
  clear hC hV hL hO hN hB zV rc46 pp46 rc49 pp49 rc52 pp52 rc55 pp55 rc58 pp58
  conv => arg 2; whnf
  have gf3 : w60.cell? ⟨nb46, 3, none⟩ = some (.slice pa46 O.length pk46) := RC46.out _ (Below.refl _ _) 3
  go_wp2_with fail
  refine (same_self pa46 m1 ph46 0 pk46 mh 0 mk O _ (PP46x.out _ (Below.refl _ _)) (PM.out _ YB.out)).mono ?_
  rintro e w59 ⟨rfl, hb59⟩
  clear gf3
  have Cw5_w59 : Hid (Below w5.heap.size w5 w59) := YB.out.trans (hb59.mono YB.out.size)
  have Cw60_w59 : Hid (Below w60.heap.size w60 w59) := hb59
  clear hb59
  go_upto_if 343 with fail
  go_cut [] (fun wx => Below w59.heap.size w59 wx)
  case first =>
    go_wp2_with fail
    go_meet
    exact Below.refl _ _
  case rest =>
    rename_i hK
    generalize wc = w61 at *
    have Cw5_w61 : Hid (Below w5.heap.size w5 w61) := Cw5_w59.out.trans (hcut.mono Cw5_w59.out.size)
    have Cw60_w61 : Hid (Below w60.heap.size w60 w61) := Cw60_w59.out.trans (hcut.mono Cw60_w59.out.size)
    refine hK _ _ ?_
    exact next w w5 w61 ma na b1 b2 ra mc nc c1 c2 rc ms ns os qs rt O N1 P G ab be r1 wa rlo rhi rne rba cb op x y m1 mk mh pa49 pk49 ph49 nb49 pa52 pk52 ph52 nb52 pa55 pk55 ph55 nb55 pa58 pk58 ph58 nb58 _ _ _ _ _ _ _ _ _ _ _ _ _ _ _ _ _ _ _ _ _ _ _ _ _ _ _ _ _ _ _ _ _ _ _ _ _ _ _ _ _ _ _ _ _ _ _ _ _ _ _ _ _ _ _ _ _ _ _ _ _ _ _ _ _ _ _ _ _ _ _ _ _ _ _ _ _ _ _ _ _ _ _ _ _ _ _ _ _ _ _ _ _ _ _ _ _ _ _ _ _ _ _ _ _ _ _ _ _ _ _ _ _ _ _ _ _ _ _ _ _ _ _ _ _ _ _ _ _ _ _ _ _ _ _ _ _ _ _ _ _ _ _ _ _ _ _ _ _ _ _ _ _ _ _ _ _ _ _ _ _ _ _ _ _ _ _ _ _ _ _ _ _ _ _ _ _ _ _ _ _ _ _ _ _ _ _ _ _ _ _ _ _ _ _ _ _ _ _ _ _ _ _ _ _ _ _ _ _ _ _ _ _ _ _ _ _ _ _ _ _ _ _ _ _ _ _ _ _ _ _ _ _ _ _ _ _ _ _ _ _ _ _ _ _ _ _ _ _ _ _ _ _ _ _ _ _ _ _ _ _ _ _ _ _ _ _ _ _ _ _ _ _ _ _ _ _ _ _ _ _ _ _ _ _ _ _ _ _ _ _ _ _ _ _ _ _ _ _ _ _ _ _ _ _ _ _ _ _ _ _ _ _ _ _ _ _ _ _ _ _ _ _ _ _ _ _ _ _ _ _ _ _ _ _ _ _ _ _ _ _ _ _ _ _ _ _ _ _ _ _ _ _ _ _ _ _ _ _ _ _ _ _ _ _ _ _ _ _ _ _ _ _ _ _ _ _ _ _ _ _ _ _ _ _ _ _ _ _ _ _ _ _ _ _ HLC.out CASE.out B3.out HVZ.out H0.out NM.out Cw5_w61.out (RC49.out _ Cw60_w61.out) (Nat.lt_of_lt_of_le ZN49.out (Below.size Cw60_w61.out)) (PP49x.out _ Cw60_w61.out) (RC52.out _ Cw60_w61.out) (Nat.lt_of_lt_of_le ZN52.out (Below.size Cw60_w61.out)) (PP52x.out _ Cw60_w61.out) (RC55.out _ Cw60_w61.out) (Nat.lt_of_lt_of_le ZN55.out (Below.size Cw60_w61.out)) (PP55x.out _ Cw60_w61.out) (RC58.out _ Cw60_w61.out) (Nat.lt_of_lt_of_le ZN58.out (Below.size Cw60_w61.out)) (PP58x.out _ Cw60_w61.out)
end Go.Proofs.Ytjpfgfcggekklaa

/- Layer 6: ModelLaws from its statement 13 on. Layer 6: ModelLaws from its statement 14 on. Layer 6: ModelLaws from its statement 15 on. Layer 6: ModelLaws from its statement 16 on. -/
import Derived.Test.YtjpfgfcggekklaaMW2
import Derived.Deep.DeepCutAuto
import Derived.Deep.CutRange
namespace Go.Proofs.Ytjpfgfcggekklaa
open Go.RowKit

set_option maxRecDepth 100000 in
set_option maxHeartbeats 3000000 in
theorem lawsat13 (next : LawsAt14) : LawsAt13 := by
  unfold LawsAt13
  intro w w5 w35 ma na b1 b2 ra mc nc c1 c2 rc ms ns os qs rt O N1 P G ab be r1 wa rlo rhi rne rba cb op x y m1 mk mh xa30 xk30 xh30 pa30 pk30 ph30 nb30 pa33 pk33 ph33 nb33 u0 u2 u4 u5 u6 u8 u9 u11 u12 u13 u14 u15 u18 u20 u21 u22 u23 u24 u25 u26 u27 u28 u29 u30 u31 u32 u33 u34 u35 u36 u37 u38 u39 u40 u41 u42 u43 u44 u45 u46 u47 u48 u49 u50 u51 u52 u53 u54 u55 u56 u57 u58 u59 u60 u61 u62 u63 u64 u65 u66 u67 u68 u69 u70 u71 u72 u73 u74 u75 u76 u77 u78 u79 u80 u81 u82 u83 u84 u85 u86 u87 u88 u89 u90 u91 u92 u93 u94 u95 u96 u97 u98 u99 u100 u101 u102 u103 u104 u105 u106 u107 u108 u109 u110 u111 u112 u113 u114 u115 u116 u117 u118 u119 u120 u121 u122 u123 u124 u125 u126 u127 u128 u129 u130 u131 u132 u133 u134 u135 u136 u137 u138 u139 u140 u141 u142 u143 u144 u145 u146 u147 u148 u149 u150 u151 u152 u153 u154 u155 u156 u157 u158 u159 u160 u161 u162 u163 u164 u165 u166 u167 u168 u169 u170 u171 u172 u173 u174 u175 u176 u177 u178 u179 u180 u181 u182 u183 u184 u185 u186 u187 u188 u189 u190 u191 u192 u193 u194 u195 u196 u197 u198 u199 u200 u201 u202 u203 u204 u205 u206 u207 u208 u209 u210 u211 u212 u213 u214 u215 u216 u217 u218 u219 u220 u221 u222 u223 u224 u225 u226 u227 u228 u229 u230 u231 u232 u233 u234 u235 u236 u237 u238 u239 u240 u241 u242 u243 u244 u245 u246 u247 u248 u249 u250 u251 u252 u253 u254 u255 u256 u257 u258 u259 u260 u261 u262 u263 u264 u265 u266 u267 u268 u269 u270 u271 u272 u273 u274 u275 u276 u277 u278 u279 u280 u281 u282 u283 u284 u285 u286 u287 u288 u289 u290 u291 u292 u293 u294 u295 u296 u297 u298 u299 u300 u301 u302 u303 u304 u305 u306 u307 u308 u309 u310 u311 u312 u313 u314 u315 u316 u317 u318 u319 u320 u321 u322 u323 u324 u325 u326 u327 u328 u329 u330 u331 u332 u333 u334 u335 u336 u337 u338 u339 u340 u341 u342 u343 u344 u345 u346 u347 u348 u349 u350 u351 u352 u353 u354 u355 u356 u357 u358 u359 u360 u361 u362 u363 u364 u365 u366 u367 u368 u369 u370 u371 u372 u373 u374 u375 u376 u377 u378 u379 u380 u381 u382 u383 u384 u385 u386 u387 u388 u389 u390 u391 u392 u393 u394 u395 u396 u397 u398 u399 u400 u401 hL hC hV zV hO hN hB pl30 nl30 rc30 zn30 pp30 rc33 zn33 pp33
  have CASE : Hid (∀ w' : World, Below w5.heap.size w5 w' → ∀ k, k < 14 → w'.cell? ⟨w.heap.size, k, none⟩ = ([.slice ma ms.length mc, .slice na ns.length nc, .slice b1 os.length c1, .slice b2 qs.length c2, .int .i64 op.kind, .int .i64 op.key, .int .i64 op.val, .int .i64 op.hi, .bool rt.ok, .int .i64 rt.key, .int .i64 rt.val, .slice ra rt.pairs.length rc, .int .i64 x, .int .i64 y] : List Value)[k]?) := hC
  have B3 : Hid (Below w.heap.size w w5) := hV
  have HLC : Hid (LC O N1 P G ab be r1 wa rlo rhi rne rba cb op x y) := hL
  have PM : Hid (∀ w', Below w5.heap.size w5 w' → PairsAt w' m1 mh 0 O) := fun w' hb => hO.below hb
  have NM : Hid (NilOk m1 O.length mk) := hN
  have YB : Hid (Below w5.heap.size w5 w35) := hB
  have TOW : Hid (∀ w', Below w5.heap.size w5 w' → Below w5.heap.size w5 w') := fun _ h => h
  have HVZ : Hid (w.heap.size < w5.heap.size) := zV
  have H0 : Hid (PairsAt w5 m1 mh 0 O) := hO
  have lO := hL.lO
  have lN := hL.lN
  have lP := hL.lP
  have lG := hL.lG
  have abl := hL.abl
  have bel := hL.bel
  have LG : Hid (G.length + 1 = P.length) := lG
  have lG2 : G.length ≤ 301 := by omega
  clear lG
  have COP : Hid (∀ X : PL, X.length ≤ 2000 → ∀ W a g k, PairsAt W a g 0 X → NilOk a X.length k → CopQ a k X W) := fun X hX W a g k h1 h2 => copied_any a g 0 k X W h1 h2 (by omega)
  unfold CopQ at COP
  have PL30x : Hid (∀ w', Below w35.heap.size w35 w' → PairsAt w' xa30 xh30 0 P) := fun w' hb => pl30.below hb
  have NL30x : Hid (NilOk xa30 P.length xk30) := nl30
  have RC30 : Hid (∀ w', Below w35.heap.size w35 w' → ∀ k, w'.cell? ⟨nb30, k, none⟩ = (#[.bool wa.ok, .int .i64 wa.key, .int .i64 wa.val, .slice pa30 wa.pairs.length pk30] : Array Value)[k]?) := fun w' hb k => (hb.cell (p := ⟨nb30, k, none⟩) zn30).trans (rc30 k)
  have ZN30 : Hid (nb30 < w35.heap.size) := zn30
  have PP30x : Hid (∀ w', Below w35.heap.size w35 w' → PairsAt w' pa30 ph30 0 (RetD.pairs wa)) := fun w' hb => pp30.below hb
  have RC33 : Hid (∀ w', Below w35.heap.size w35 w' → ∀ k, w'.cell? ⟨nb33, k, none⟩ = (#[.bool true, .int .i64 0, .int .i64 y, .slice pa33 0 pk33] : Array Value)[k]?) := fun w' hb k => (hb.cell (p := ⟨nb33, k, none⟩) zn33).trans (rc33 k)
  have ZN33 : Hid (nb33 < w35.heap.size) := zn33
  have PP33x : Hid (∀ w', Below w35.heap.size w35 w' → PairsAt w' pa33 ph33 0 (RetD.pairs ⟨true, 0, y, []⟩)) := fun w' hb => pp33.below hb
  clear hC hV hL hO hN hB zV pl30 nl30 rc30 pp30 rc33 pp33
  conv => arg 2; whnf
  have DQ := HLC.out.D4
  have DH : Hid (∀ W base g cap, PairsAt W base g 0 O → NilOk base O.length cap → O.length ≤ cap → cap ≤ maxLen → DoN base cap O ⟨1, x, 0, 0⟩ O wa W) := DQ
  clear DQ
  unfold DoN at DH
  have e12 : w35.cell? ⟨w.heap.size, 12, none⟩ = some (.int .i64 x) := CASE.out _ (TOW.out _ YB.out) 12 (by omega)
  have Hd36 : Hid (Below w35.heap.size w35 w35.drew) := (Below.refl _ _).drew
  have Hz36 : Hid (Below w35.heap.size w35 (w35.alloc (.cells #[.bool false, .int .i64 0, .int .i64 0, .slice none 0 0] 27)).drew) := (below_alloc _ _).drew
  have PX36 : Hid (∀ w', Below w35.heap.size w35 w' → PairsAt w' m1 mh 0 O) := fun w' hb => PM.out w' (YB.out.trans (hb.mono YB.out.size))
  have BC36 : Hid (∀ w', Below w35.heap.size w35 w' → Below w5.heap.size w5 w') := fun w' hb => (TOW.out _ YB.out).trans (hb.mono (TOW.out _ YB.out).size)
  go_wp2_with fail
  go_cut [20, 21, 22] from 184 to 193 (fun t1 t2 t3 wx => DidN w35 O wa t1 t2 t3 wx)
  case first =>
    go_region_held3 (fun w' => w'.cell? ⟨w.heap.size, 12, none⟩ = some (.int .i64 x))
      (first
        | (with_reducible exact XA36.out)
        | (with_reducible exact XZ36.out)
        | (with_reducible exact XA37.out)
        | (with_reducible exact XR37.out)
        | (with_reducible exact XC37.out)
        | go_keep)
      (first
        | (go_at_call 11; refine (COP.out O (by omega) _ m1 mh mk (PX36.out _ ?_) NM.out).mono ?_; (focus (first | exact Hd36.out | exact Hz36.out)); rintro e w36 ⟨ua36, uk36, ug36, rfl, hb36, hp36, hn36, hc36, hd36, _⟩; have Z36 : Hid (Below w35.heap.size w35 w36) := (by first | exact Hd36.out.trans hb36 | exact Hz36.out.trans (hb36.mono (by simp))); have XA36 : Hid (w36.cell? ⟨w.heap.size, 12, none⟩ = some (.int .i64 x)) := CASE.out _ (BC36.out _ Z36.out) 12 (by omega); have XZ36 : Hid ((w36.alloc (.cells #[.bool false, .int .i64 0, .int .i64 0, .slice none 0 0] 27)).cell? ⟨w.heap.size, 12, none⟩ = some (.int .i64 x)) := CASE.out _ (BC36.out _ (Z36.out.alloc Z36.out.size _)) 12 (by omega); have PC36 : Hid (PairsAt w36 ua36 ug36 0 O) := hp36; have NC36 : Hid (NilOk ua36 O.length uk36 ∧ O.length ≤ uk36 ∧ uk36 ≤ maxLen) := ⟨hn36, hc36, hd36⟩; (first | (have NB36 : Hid (NbAt w36 w35.heap.size) := ((NbAt.made w35).below (Below.refl _ _).drew).below hb36) | skip); clear hb36 hp36 hn36 hc36 hd36)
        | (go_at_call 31; refine (DH.out _ ua36 ug36 uk36 ?_ NC36.out.1 NC36.out.2.1 NC36.out.2.2).mono ?_; (focus (first | exact PC36.out | exact PC36.out.below (below_alloc _ _))); rintro e w37 ⟨l37, lk37, lh37, a37, k37, h37, rfl, hb37, hp37, hn37, hq37, hg37, hh37⟩; have Z37 : Hid (Below w35.heap.size w35 w37) := (by first | exact Z36.out.trans (hb37.mono Z36.out.size) | exact (Z36.out.alloc Z36.out.size _).trans (hb37.mono (by have := Z36.out.size; simp; omega))); have XA37 : Hid (w37.cell? ⟨w.heap.size, 12, none⟩ = some (.int .i64 x)) := CASE.out _ (BC36.out _ Z37.out) 12 (by omega); have XR37 : Hid ((w37.alloc (.cells #[.bool wa.ok, .int .i64 wa.key, .int .i64 wa.val, .slice a37 wa.pairs.length k37] 27)).cell? ⟨w.heap.size, 12, none⟩ = some (.int .i64 x)) := CASE.out _ (BC36.out _ (Z37.out.alloc Z37.out.size _)) 12 (by omega); have PL37 : Hid (PairsAt w37 l37 lh37 0 O) := hp37; have NL37 : Hid (NilOk l37 O.length lk37) := hn37; have PR37 : Hid (PairsAt w37 a37 h37 0 (RetD.pairs wa)) := hq37; (first | (have NB37 : Hid (NbAt w37 w35.heap.size) := NB36.out.below hb37; have G1 : Hid (O.length ≠ 0 → w35.heap.size < lh37) := (fun q => by have := hg37 q; have := NB36.out.lt; omega); have G2 : Hid ((RetD.pairs wa).length ≠ 0 → w35.heap.size < h37) := (fun q => by have := hh37 q; have := NB36.out.lt; omega); have XC37 : Hid (((((w37.setCell ⟨w35.heap.size, 0, none⟩ (.bool wa.ok)).setCell ⟨w35.heap.size, 1, none⟩ (.int .i64 wa.key)).setCell ⟨w35.heap.size, 2, none⟩ (.int .i64 wa.val)).setCell ⟨w35.heap.size, 3, none⟩ (.slice a37 wa.pairs.length k37)).cell? ⟨w.heap.size, 12, none⟩ = some (.int .i64 x)) := CASE.out _ (BC36.out _ (below4 Z37.out (Nat.le_refl _) _ _ _ _)) 12 (by omega); have y0 : w37.cell? ⟨w35.heap.size, 0, none⟩ = some (.bool false) := NB37.out.cells 0; have y1 : w37.cell? ⟨w35.heap.size, 1, none⟩ = some (.int .i64 0) := NB37.out.cells 1; have y2 : w37.cell? ⟨w35.heap.size, 2, none⟩ = some (.int .i64 0) := NB37.out.cells 2; have y3 : w37.cell? ⟨w35.heap.size, 3, none⟩ = some (.slice none 0 0) := NB37.out.cells 3; have yf : ∀ k, w37.frozen? ⟨w35.heap.size, k, none⟩ = false := NB37.out.free; have yl : w35.heap.size < w37.heap.size := NB37.out.lt) | (have NB37 : Hid (NbAt w37 w36.heap.size) := (NbAt.made w36).below hb37; have G1 : Hid (O.length ≠ 0 → w36.heap.size < lh37) := (fun q => by have := hg37 q; simp at this; omega); have G2 : Hid ((RetD.pairs wa).length ≠ 0 → w36.heap.size < h37) := (fun q => by have := hh37 q; simp at this; omega); have XC37 : Hid (((((w37.setCell ⟨w36.heap.size, 0, none⟩ (.bool wa.ok)).setCell ⟨w36.heap.size, 1, none⟩ (.int .i64 wa.key)).setCell ⟨w36.heap.size, 2, none⟩ (.int .i64 wa.val)).setCell ⟨w36.heap.size, 3, none⟩ (.slice a37 wa.pairs.length k37)).cell? ⟨w.heap.size, 12, none⟩ = some (.int .i64 x)) := CASE.out _ (BC36.out _ (below4 Z37.out Z36.out.size _ _ _ _)) 12 (by omega); have y0 : w37.cell? ⟨w36.heap.size, 0, none⟩ = some (.bool false) := NB37.out.cells 0; have y1 : w37.cell? ⟨w36.heap.size, 1, none⟩ = some (.int .i64 0) := NB37.out.cells 1; have y2 : w37.cell? ⟨w36.heap.size, 2, none⟩ = some (.int .i64 0) := NB37.out.cells 2; have y3 : w37.cell? ⟨w36.heap.size, 3, none⟩ = some (.slice none 0 0) := NB37.out.cells 3; have yf : ∀ k, w37.frozen? ⟨w36.heap.size, k, none⟩ = false := NB37.out.free; have yl : w36.heap.size < w37.heap.size := NB37.out.lt) | skip); clear hb37 hp37 hn37 hq37 hg37 hh37))
    all_goals
      go_wp2_with fail
      go_meet
      first
        | exact didn_of (did_set (r := wa) Z37.out NB37.out (Nat.le_refl _) PL37.out PR37.out G1.out G2.out) NL37.out
        | exact didn_of (did_set (r := wa) Z37.out NB37.out Z36.out.size PL37.out PR37.out G1.out G2.out) NL37.out
        | exact didn_of (did_new (r := wa) Z37.out PL37.out PR37.out) NL37.out
  case rest =>
    rename_i hK
    obtain ⟨xa36, xk36, xh36, pa36, pk36, ph36, nb36, rfl, rfl, rfl, hbx, hnx, hcx, hpx, hnl, hqx⟩ := hcut
    generalize wc = w38 at *
    have Zc38 : Hid (Below w35.heap.size w35 w38) := hbx
    have RC36 : Hid (∀ w', Below w38.heap.size w38 w' → ∀ k, w'.cell? ⟨nb36, k, none⟩ = (#[.bool wa.ok, .int .i64 wa.key, .int .i64 wa.val, .slice pa36 wa.pairs.length pk36] : Array Value)[k]?) := fun w' hb k => (hb.cell (p := ⟨nb36, k, none⟩) hnx).trans (hcx k)
    have ZN36 : Hid (nb36 < w38.heap.size) := hnx
    have PL36x : Hid (∀ w', Below w38.heap.size w38 w' → PairsAt w' xa36 xh36 0 O) := fun w' hb => hpx.below hb
    have NL36x : Hid (NilOk xa36 O.length xk36) := hnl
    have PP36x : Hid (∀ w', Below w38.heap.size w38 w' → PairsAt w' pa36 ph36 0 (RetD.pairs wa)) := fun w' hb => hqx.below hb
    clear hbx hnx hcx hpx hnl hqx
    clear e12
    have Cw5_w38 : Hid (Below w5.heap.size w5 w38) := YB.out.trans (Zc38.out.mono YB.out.size)
    have Cw35_w38 : Hid (Below w35.heap.size w35 w38) := Zc38.out
    refine hK _ _ ?_
    exact next w w5 w38 ma na b1 b2 ra mc nc c1 c2 rc ms ns os qs rt O N1 P G ab be r1 wa rlo rhi rne rba cb op x y m1 mk mh xa30 xk30 xh30 pa30 pk30 ph30 nb30 pa33 pk33 ph33 nb33 pa36 pk36 ph36 nb36 _ _ _ _ _ _ _ _ _ _ _ _ _ _ _ _ _ _ _ _ _ _ _ _ _ _ _ _ _ _ _ _ _ _ _ _ _ _ _ _ _ _ _ _ _ _ _ _ _ _ _ _ _ _ _ _ _ _ _ _ _ _ _ _ _ _ _ _ _ _ _ _ _ _ _ _ _ _ _ _ _ _ _ _ _ _ _ _ _ _ _ _ _ _ _ _ _ _ _ _ _ _ _ _ _ _ _ _ _ _ _ _ _ _ _ _ _ _ _ _ _ _ _ _ _ _ _ _ _ _ _ _ _ _ _ _ _ _ _ _ _ _ _ _ _ _ _ _ _ _ _ _ _ _ _ _ _ _ _ _ _ _ _ _ _ _ _ _ _ _ _ _ _ _ _ _ _ _ _ _ _ _ _ _ _ _ _ _ _ _ _ _ _ _ _ _ _ _ _ _ _ _ _ _ _ _ _ _ _ _ _ _ _ _ _ _ _ _ _ _ _ _ _ _ _ _ _ _ _ _ _ _ _ _ _ _ _ _ _ _ _ _ _ _ _ _ _ _ _ _ _ _ _ _ _ _ _ _ _ _ _ _ _ _ _ _ _ _ _ _ _ _ _ _ _ _ _ _ _ _ _ _ _ _ _ _ _ _ _ _ _ _ _ _ _ _ _ _ _ _ _ _ _ _ _ _ _ _ _ _ _ _ _ _ _ _ _ _ _ _ _ _ _ _ _ _ _ _ _ _ _ _ _ _ _ _ _ _ _ _ _ _ _ _ _ _ _ _ _ _ _ _ _ _ _ _ _ _ _ _ _ _ _ _ _ _ _ _ _ _ _ _ _ _ _ _ _ _ _ _ _ _ _ _ _ _ _ _ _ _ _ _ _ HLC.out CASE.out B3.out HVZ.out H0.out NM.out Cw5_w38.out (PL30x.out _ Cw35_w38.out) NL30x.out (RC30.out _ Cw35_w38.out) (Nat.lt_of_lt_of_le ZN30.out (Below.size Cw35_w38.out)) (PP30x.out _ Cw35_w38.out) (RC33.out _ Cw35_w38.out) (Nat.lt_of_lt_of_le ZN33.out (Below.size Cw35_w38.out)) (PP33x.out _ Cw35_w38.out) (RC36.out _ (Below.refl _ _)) ZN36.out (PP36x.out _ (Below.refl _ _))
end Go.Proofs.Ytjpfgfcggekklaa
namespace Go.Proofs.Ytjpfgfcggekklaa
open Go.RowKit

set_option maxRecDepth 100000 in
set_option maxHeartbeats 3000000 in
theorem lawsat14 (next : LawsAt15) : LawsAt14 := by
  unfold LawsAt14
  intro w w5 w38 ma na b1 b2 ra mc nc c1 c2 rc ms ns os qs rt O N1 P G ab be r1 wa rlo rhi rne rba cb op x y m1 mk mh xa30 xk30 xh30 pa30 pk30 ph30 nb30 pa33 pk33 ph33 nb33 pa36 pk36 ph36 nb36 u0 u2 u4 u5 u6 u8 u9 u11 u12 u13 u14 u15 u18 u20 u23 u24 u25 u26 u27 u28 u29 u30 u31 u32 u33 u34 u35 u36 u37 u38 u39 u40 u41 u42 u43 u44 u45 u46 u47 u48 u49 u50 u51 u52 u53 u54 u55 u56 u57 u58 u59 u60 u61 u62 u63 u64 u65 u66 u67 u68 u69 u70 u71 u72 u73 u74 u75 u76 u77 u78 u79 u80 u81 u82 u83 u84 u85 u86 u87 u88 u89 u90 u91 u92 u93 u94 u95 u96 u97 u98 u99 u100 u101 u102 u103 u104 u105 u106 u107 u108 u109 u110 u111 u112 u113 u114 u115 u116 u117 u118 u119 u120 u121 u122 u123 u124 u125 u126 u127 u128 u129 u130 u131 u132 u133 u134 u135 u136 u137 u138 u139 u140 u141 u142 u143 u144 u145 u146 u147 u148 u149 u150 u151 u152 u153 u154 u155 u156 u157 u158 u159 u160 u161 u162 u163 u164 u165 u166 u167 u168 u169 u170 u171 u172 u173 u174 u175 u176 u177 u178 u179 u180 u181 u182 u183 u184 u185 u186 u187 u188 u189 u190 u191 u192 u193 u194 u195 u196 u197 u198 u199 u200 u201 u202 u203 u204 u205 u206 u207 u208 u209 u210 u211 u212 u213 u214 u215 u216 u217 u218 u219 u220 u221 u222 u223 u224 u225 u226 u227 u228 u229 u230 u231 u232 u233 u234 u235 u236 u237 u238 u239 u240 u241 u242 u243 u244 u245 u246 u247 u248 u249 u250 u251 u252 u253 u254 u255 u256 u257 u258 u259 u260 u261 u262 u263 u264 u265 u266 u267 u268 u269 u270 u271 u272 u273 u274 u275 u276 u277 u278 u279 u280 u281 u282 u283 u284 u285 u286 u287 u288 u289 u290 u291 u292 u293 u294 u295 u296 u297 u298 u299 u300 u301 u302 u303 u304 u305 u306 u307 u308 u309 u310 u311 u312 u313 u314 u315 u316 u317 u318 u319 u320 u321 u322 u323 u324 u325 u326 u327 u328 u329 u330 u331 u332 u333 u334 u335 u336 u337 u338 u339 u340 u341 u342 u343 u344 u345 u346 u347 u348 u349 u350 u351 u352 u353 u354 u355 u356 u357 u358 u359 u360 u361 u362 u363 u364 u365 u366 u367 u368 u369 u370 u371 u372 u373 u374 u375 u376 u377 u378 u379 u380 u381 u382 u383 u384 u385 u386 u387 u388 u389 u390 u391 u392 u393 u394 u395 u396 u397 u398 u399 u400 u401 hL hC hV zV hO hN hB pl30 nl30 rc30 zn30 pp30 rc33 zn33 pp33 rc36 zn36 pp36
  have CASE : Hid (∀ w' : World, Below w5.heap.size w5 w' → ∀ k, k < 14 → w'.cell? ⟨w.heap.size, k, none⟩ = ([.slice ma ms.length mc, .slice na ns.length nc, .slice b1 os.length c1, .slice b2 qs.length c2, .int .i64 op.kind, .int .i64 op.key, .int .i64 op.val, .int .i64 op.hi, .bool rt.ok, .int .i64 rt.key, .int .i64 rt.val, .slice ra rt.pairs.length rc, .int .i64 x, .int .i64 y] : List Value)[k]?) := hC
  have B3 : Hid (Below w.heap.size w w5) := hV
  have HLC : Hid (LC O N1 P G ab be r1 wa rlo rhi rne rba cb op x y) := hL
  have PM : Hid (∀ w', Below w5.heap.size w5 w' → PairsAt w' m1 mh 0 O) := fun w' hb => hO.below hb
  have NM : Hid (NilOk m1 O.length mk) := hN
  have YB : Hid (Below w5.heap.size w5 w38) := hB
  have TOW : Hid (∀ w', Below w5.heap.size w5 w' → Below w5.heap.size w5 w') := fun _ h => h
  have HVZ : Hid (w.heap.size < w5.heap.size) := zV
  have H0 : Hid (PairsAt w5 m1 mh 0 O) := hO
  have lO := hL.lO
  have lN := hL.lN
  have lP := hL.lP
  have lG := hL.lG
  have abl := hL.abl
  have bel := hL.bel
  have LG : Hid (G.length + 1 = P.length) := lG
  have lG2 : G.length ≤ 301 := by omega
  clear lG
  have COP : Hid (∀ X : PL, X.length ≤ 2000 → ∀ W a g k, PairsAt W a g 0 X → NilOk a X.length k → CopQ a k X W) := fun X hX W a g k h1 h2 => copied_any a g 0 k X W h1 h2 (by omega)
  unfold CopQ at COP
  have PL30x : Hid (∀ w', Below w38.heap.size w38 w' → PairsAt w' xa30 xh30 0 P) := fun w' hb => pl30.below hb
  have NL30x : Hid (NilOk xa30 P.length xk30) := nl30
  have RC30 : Hid (∀ w', Below w38.heap.size w38 w' → ∀ k, w'.cell? ⟨nb30, k, none⟩ = (#[.bool wa.ok, .int .i64 wa.key, .int .i64 wa.val, .slice pa30 wa.pairs.length pk30] : Array Value)[k]?) := fun w' hb k => (hb.cell (p := ⟨nb30, k, none⟩) zn30).trans (rc30 k)
  have ZN30 : Hid (nb30 < w38.heap.size) := zn30
  have PP30x : Hid (∀ w', Below w38.heap.size w38 w' → PairsAt w' pa30 ph30 0 (RetD.pairs wa)) := fun w' hb => pp30.below hb
  have RC33 : Hid (∀ w', Below w38.heap.size w38 w' → ∀ k, w'.cell? ⟨nb33, k, none⟩ = (#[.bool true, .int .i64 0, .int .i64 y, .slice pa33 0 pk33] : Array Value)[k]?) := fun w' hb k => (hb.cell (p := ⟨nb33, k, none⟩) zn33).trans (rc33 k)
  have ZN33 : Hid (nb33 < w38.heap.size) := zn33
  have PP33x : Hid (∀ w', Below w38.heap.size w38 w' → PairsAt w' pa33 ph33 0 (RetD.pairs ⟨true, 0, y, []⟩)) := fun w' hb => pp33.below hb
  have RC36 : Hid (∀ w', Below w38.heap.size w38 w' → ∀ k, w'.cell? ⟨nb36, k, none⟩ = (#[.bool wa.ok, .int .i64 wa.key, .int .i64 wa.val, .slice pa36 wa.pairs.length pk36] : Array Value)[k]?) := fun w' hb k => (hb.cell (p := ⟨nb36, k, none⟩) zn36).trans (rc36 k)
  have ZN36 : Hid (nb36 < w38.heap.size) := zn36
  have PP36x : Hid (∀ w', Below w38.heap.size w38 w' → PairsAt w' pa36 ph36 0 (RetD.pairs wa)) := fun w' hb => pp36.below hb
  clear hC hV hL hO hN hB zV pl30 nl30 rc30 pp30 rc33 pp33 rc36 pp36
  conv => arg 2; whnf
  have DQ := HLC.out.D5
  have DH : Hid (∀ W base g cap, PairsAt W base g 0 P → NilOk base P.length cap → P.length ≤ cap → cap ≤ maxLen → DoN base cap P ⟨4, x, 0, 0⟩ G ⟨true, 0, y, []⟩ W) := DQ
  clear DQ
  unfold DoN at DH
  have e12 : w38.cell? ⟨w.heap.size, 12, none⟩ = some (.int .i64 x) := CASE.out _ (TOW.out _ YB.out) 12 (by omega)
  have Hd39 : Hid (Below w38.heap.size w38 w38.drew) := (Below.refl _ _).drew
  have Hz39 : Hid (Below w38.heap.size w38 (w38.alloc (.cells #[.bool false, .int .i64 0, .int .i64 0, .slice none 0 0] 27)).drew) := (below_alloc _ _).drew
  have PX39 : Hid (∀ w', Below w38.heap.size w38 w' → PairsAt w' xa30 xh30 0 P) := fun w' hb => PL30x.out w' (hb)
  have BC39 : Hid (∀ w', Below w38.heap.size w38 w' → Below w5.heap.size w5 w') := fun w' hb => (TOW.out _ YB.out).trans (hb.mono (TOW.out _ YB.out).size)
  go_wp2_with fail
  go_cut [23, 24, 25] from 194 to 203 (fun t1 t2 t3 wx => DidN w38 G ⟨true, 0, y, []⟩ t1 t2 t3 wx)
  case first =>
    go_region_held3 (fun w' => w'.cell? ⟨w.heap.size, 12, none⟩ = some (.int .i64 x))
      (first
        | (with_reducible exact XA39.out)
        | (with_reducible exact XZ39.out)
        | (with_reducible exact XA40.out)
        | (with_reducible exact XR40.out)
        | (with_reducible exact XC40.out)
        | go_keep)
      (first
        | (go_at_call 11; refine (COP.out P (by omega) _ xa30 xh30 xk30 (PX39.out _ ?_) NL30x.out).mono ?_; (focus (first | exact Hd39.out | exact Hz39.out)); rintro e w39 ⟨ua39, uk39, ug39, rfl, hb39, hp39, hn39, hc39, hd39, _⟩; have Z39 : Hid (Below w38.heap.size w38 w39) := (by first | exact Hd39.out.trans hb39 | exact Hz39.out.trans (hb39.mono (by simp))); have XA39 : Hid (w39.cell? ⟨w.heap.size, 12, none⟩ = some (.int .i64 x)) := CASE.out _ (BC39.out _ Z39.out) 12 (by omega); have XZ39 : Hid ((w39.alloc (.cells #[.bool false, .int .i64 0, .int .i64 0, .slice none 0 0] 27)).cell? ⟨w.heap.size, 12, none⟩ = some (.int .i64 x)) := CASE.out _ (BC39.out _ (Z39.out.alloc Z39.out.size _)) 12 (by omega); have PC39 : Hid (PairsAt w39 ua39 ug39 0 P) := hp39; have NC39 : Hid (NilOk ua39 P.length uk39 ∧ P.length ≤ uk39 ∧ uk39 ≤ maxLen) := ⟨hn39, hc39, hd39⟩; (first | (have NB39 : Hid (NbAt w39 w38.heap.size) := ((NbAt.made w38).below (Below.refl _ _).drew).below hb39) | skip); clear hb39 hp39 hn39 hc39 hd39)
        | (go_at_call 31; refine (DH.out _ ua39 ug39 uk39 ?_ NC39.out.1 NC39.out.2.1 NC39.out.2.2).mono ?_; (focus (first | exact PC39.out | exact PC39.out.below (below_alloc _ _))); rintro e w40 ⟨l40, lk40, lh40, a40, k40, h40, rfl, hb40, hp40, hn40, hq40, hg40, hh40⟩; have Z40 : Hid (Below w38.heap.size w38 w40) := (by first | exact Z39.out.trans (hb40.mono Z39.out.size) | exact (Z39.out.alloc Z39.out.size _).trans (hb40.mono (by have := Z39.out.size; simp; omega))); have XA40 : Hid (w40.cell? ⟨w.heap.size, 12, none⟩ = some (.int .i64 x)) := CASE.out _ (BC39.out _ Z40.out) 12 (by omega); have XR40 : Hid ((w40.alloc (.cells #[.bool true, .int .i64 0, .int .i64 y, .slice a40 0 k40] 27)).cell? ⟨w.heap.size, 12, none⟩ = some (.int .i64 x)) := CASE.out _ (BC39.out _ (Z40.out.alloc Z40.out.size _)) 12 (by omega); have PL40 : Hid (PairsAt w40 l40 lh40 0 G) := hp40; have NL40 : Hid (NilOk l40 G.length lk40) := hn40; have PR40 : Hid (PairsAt w40 a40 h40 0 (RetD.pairs ⟨true, 0, y, []⟩)) := hq40; (first | (have NB40 : Hid (NbAt w40 w38.heap.size) := NB39.out.below hb40; have G1 : Hid (G.length ≠ 0 → w38.heap.size < lh40) := (fun q => by have := hg40 q; have := NB39.out.lt; omega); have G2 : Hid ((RetD.pairs ⟨true, 0, y, []⟩).length ≠ 0 → w38.heap.size < h40) := (fun q => by have := hh40 q; have := NB39.out.lt; omega); have XC40 : Hid (((((w40.setCell ⟨w38.heap.size, 0, none⟩ (.bool true)).setCell ⟨w38.heap.size, 1, none⟩ (.int .i64 0)).setCell ⟨w38.heap.size, 2, none⟩ (.int .i64 y)).setCell ⟨w38.heap.size, 3, none⟩ (.slice a40 0 k40)).cell? ⟨w.heap.size, 12, none⟩ = some (.int .i64 x)) := CASE.out _ (BC39.out _ (below4 Z40.out (Nat.le_refl _) _ _ _ _)) 12 (by omega); have y0 : w40.cell? ⟨w38.heap.size, 0, none⟩ = some (.bool false) := NB40.out.cells 0; have y1 : w40.cell? ⟨w38.heap.size, 1, none⟩ = some (.int .i64 0) := NB40.out.cells 1; have y2 : w40.cell? ⟨w38.heap.size, 2, none⟩ = some (.int .i64 0) := NB40.out.cells 2; have y3 : w40.cell? ⟨w38.heap.size, 3, none⟩ = some (.slice none 0 0) := NB40.out.cells 3; have yf : ∀ k, w40.frozen? ⟨w38.heap.size, k, none⟩ = false := NB40.out.free; have yl : w38.heap.size < w40.heap.size := NB40.out.lt) | (have NB40 : Hid (NbAt w40 w39.heap.size) := (NbAt.made w39).below hb40; have G1 : Hid (G.length ≠ 0 → w39.heap.size < lh40) := (fun q => by have := hg40 q; simp at this; omega); have G2 : Hid ((RetD.pairs ⟨true, 0, y, []⟩).length ≠ 0 → w39.heap.size < h40) := (fun q => by have := hh40 q; simp at this; omega); have XC40 : Hid (((((w40.setCell ⟨w39.heap.size, 0, none⟩ (.bool true)).setCell ⟨w39.heap.size, 1, none⟩ (.int .i64 0)).setCell ⟨w39.heap.size, 2, none⟩ (.int .i64 y)).setCell ⟨w39.heap.size, 3, none⟩ (.slice a40 0 k40)).cell? ⟨w.heap.size, 12, none⟩ = some (.int .i64 x)) := CASE.out _ (BC39.out _ (below4 Z40.out Z39.out.size _ _ _ _)) 12 (by omega); have y0 : w40.cell? ⟨w39.heap.size, 0, none⟩ = some (.bool false) := NB40.out.cells 0; have y1 : w40.cell? ⟨w39.heap.size, 1, none⟩ = some (.int .i64 0) := NB40.out.cells 1; have y2 : w40.cell? ⟨w39.heap.size, 2, none⟩ = some (.int .i64 0) := NB40.out.cells 2; have y3 : w40.cell? ⟨w39.heap.size, 3, none⟩ = some (.slice none 0 0) := NB40.out.cells 3; have yf : ∀ k, w40.frozen? ⟨w39.heap.size, k, none⟩ = false := NB40.out.free; have yl : w39.heap.size < w40.heap.size := NB40.out.lt) | skip); clear hb40 hp40 hn40 hq40 hg40 hh40))
    all_goals
      go_wp2_with fail
      go_meet
      first
        | exact didn_of (did_set (r := ⟨true, 0, y, []⟩) Z40.out NB40.out (Nat.le_refl _) PL40.out PR40.out G1.out G2.out) NL40.out
        | exact didn_of (did_set (r := ⟨true, 0, y, []⟩) Z40.out NB40.out Z39.out.size PL40.out PR40.out G1.out G2.out) NL40.out
        | exact didn_of (did_new (r := ⟨true, 0, y, []⟩) Z40.out PL40.out PR40.out) NL40.out
  case rest =>
    rename_i hK
    obtain ⟨xa39, xk39, xh39, pa39, pk39, ph39, nb39, rfl, rfl, rfl, hbx, hnx, hcx, hpx, hnl, hqx⟩ := hcut
    generalize wc = w41 at *
    have Zc41 : Hid (Below w38.heap.size w38 w41) := hbx
    have RC39 : Hid (∀ w', Below w41.heap.size w41 w' → ∀ k, w'.cell? ⟨nb39, k, none⟩ = (#[.bool true, .int .i64 0, .int .i64 y, .slice pa39 0 pk39] : Array Value)[k]?) := fun w' hb k => (hb.cell (p := ⟨nb39, k, none⟩) hnx).trans (hcx k)
    have ZN39 : Hid (nb39 < w41.heap.size) := hnx
    have PL39x : Hid (∀ w', Below w41.heap.size w41 w' → PairsAt w' xa39 xh39 0 G) := fun w' hb => hpx.below hb
    have NL39x : Hid (NilOk xa39 G.length xk39) := hnl
    have PP39x : Hid (∀ w', Below w41.heap.size w41 w' → PairsAt w' pa39 ph39 0 (RetD.pairs ⟨true, 0, y, []⟩)) := fun w' hb => hqx.below hb
    clear hbx hnx hcx hpx hnl hqx
    clear e12
    have Cw5_w41 : Hid (Below w5.heap.size w5 w41) := YB.out.trans (Zc41.out.mono YB.out.size)
    have Cw38_w41 : Hid (Below w38.heap.size w38 w41) := Zc41.out
    refine hK _ _ ?_
    exact next w w5 w41 ma na b1 b2 ra mc nc c1 c2 rc ms ns os qs rt O N1 P G ab be r1 wa rlo rhi rne rba cb op x y m1 mk mh xa30 xk30 xh30 xa39 xk39 xh39 pa30 pk30 ph30 nb30 pa33 pk33 ph33 nb33 pa36 pk36 ph36 nb36 pa39 pk39 ph39 nb39 _ _ _ _ _ _ _ _ _ _ _ _ _ _ _ _ _ _ _ _ _ _ _ _ _ _ _ _ _ _ _ _ _ _ _ _ _ _ _ _ _ _ _ _ _ _ _ _ _ _ _ _ _ _ _ _ _ _ _ _ _ _ _ _ _ _ _ _ _ _ _ _ _ _ _ _ _ _ _ _ _ _ _ _ _ _ _ _ _ _ _ _ _ _ _ _ _ _ _ _ _ _ _ _ _ _ _ _ _ _ _ _ _ _ _ _ _ _ _ _ _ _ _ _ _ _ _ _ _ _ _ _ _ _ _ _ _ _ _ _ _ _ _ _ _ _ _ _ _ _ _ _ _ _ _ _ _ _ _ _ _ _ _ _ _ _ _ _ _ _ _ _ _ _ _ _ _ _ _ _ _ _ _ _ _ _ _ _ _ _ _ _ _ _ _ _ _ _ _ _ _ _ _ _ _ _ _ _ _ _ _ _ _ _ _ _ _ _ _ _ _ _ _ _ _ _ _ _ _ _ _ _ _ _ _ _ _ _ _ _ _ _ _ _ _ _ _ _ _ _ _ _ _ _ _ _ _ _ _ _ _ _ _ _ _ _ _ _ _ _ _ _ _ _ _ _ _ _ _ _ _ _ _ _ _ _ _ _ _ _ _ _ _ _ _ _ _ _ _ _ _ _ _ _ _ _ _ _ _ _ _ _ _ _ _ _ _ _ _ _ _ _ _ _ _ _ _ _ _ _ _ _ _ _ _ _ _ _ _ _ _ _ _ _ _ _ _ _ _ _ _ _ _ _ _ _ _ _ _ _ _ _ _ _ _ _ _ _ _ _ _ _ _ _ _ _ _ _ _ _ _ _ _ _ _ _ _ _ _ _ HLC.out CASE.out B3.out HVZ.out H0.out NM.out Cw5_w41.out (PL30x.out _ Cw38_w41.out) NL30x.out (PL39x.out _ (Below.refl _ _)) NL39x.out (RC30.out _ Cw38_w41.out) (Nat.lt_of_lt_of_le ZN30.out (Below.size Cw38_w41.out)) (PP30x.out _ Cw38_w41.out) (RC33.out _ Cw38_w41.out) (Nat.lt_of_lt_of_le ZN33.out (Below.size Cw38_w41.out)) (PP33x.out _ Cw38_w41.out) (RC36.out _ Cw38_w41.out) (Nat.lt_of_lt_of_le ZN36.out (Below.size Cw38_w41.out)) (PP36x.out _ Cw38_w41.out) (RC39.out _ (Below.refl _ _)) ZN39.out (PP39x.out _ (Below.refl _ _))
end Go.Proofs.Ytjpfgfcggekklaa
namespace Go.Proofs.Ytjpfgfcggekklaa
open Go.RowKit

set_option maxRecDepth 100000 in
set_option maxHeartbeats 3000000 in
theorem lawsat15 (next : LawsAt16) : LawsAt15 := by
  unfold LawsAt15
  intro w w5 w41 ma na b1 b2 ra mc nc c1 c2 rc ms ns os qs rt O N1 P G ab be r1 wa rlo rhi rne rba cb op x y m1 mk mh xa30 xk30 xh30 xa39 xk39 xh39 pa30 pk30 ph30 nb30 pa33 pk33 ph33 nb33 pa36 pk36 ph36 nb36 pa39 pk39 ph39 nb39 u0 u2 u4 u5 u6 u8 u9 u11 u12 u13 u14 u15 u18 u20 u26 u27 u28 u29 u30 u31 u32 u33 u34 u35 u36 u37 u38 u39 u40 u41 u42 u43 u44 u45 u46 u47 u48 u49 u50 u51 u52 u53 u54 u55 u56 u57 u58 u59 u60 u61 u62 u63 u64 u65 u66 u67 u68 u69 u70 u71 u72 u73 u74 u75 u76 u77 u78 u79 u80 u81 u82 u83 u84 u85 u86 u87 u88 u89 u90 u91 u92 u93 u94 u95 u96 u97 u98 u99 u100 u101 u102 u103 u104 u105 u106 u107 u108 u109 u110 u111 u112 u113 u114 u115 u116 u117 u118 u119 u120 u121 u122 u123 u124 u125 u126 u127 u128 u129 u130 u131 u132 u133 u134 u135 u136 u137 u138 u139 u140 u141 u142 u143 u144 u145 u146 u147 u148 u149 u150 u151 u152 u153 u154 u155 u156 u157 u158 u159 u160 u161 u162 u163 u164 u165 u166 u167 u168 u169 u170 u171 u172 u173 u174 u175 u176 u177 u178 u179 u180 u181 u182 u183 u184 u185 u186 u187 u188 u189 u190 u191 u192 u193 u194 u195 u196 u197 u198 u199 u200 u201 u202 u203 u204 u205 u206 u207 u208 u209 u210 u211 u212 u213 u214 u215 u216 u217 u218 u219 u220 u221 u222 u223 u224 u225 u226 u227 u228 u229 u230 u231 u232 u233 u234 u235 u236 u237 u238 u239 u240 u241 u242 u243 u244 u245 u246 u247 u248 u249 u250 u251 u252 u253 u254 u255 u256 u257 u258 u259 u260 u261 u262 u263 u264 u265 u266 u267 u268 u269 u270 u271 u272 u273 u274 u275 u276 u277 u278 u279 u280 u281 u282 u283 u284 u285 u286 u287 u288 u289 u290 u291 u292 u293 u294 u295 u296 u297 u298 u299 u300 u301 u302 u303 u304 u305 u306 u307 u308 u309 u310 u311 u312 u313 u314 u315 u316 u317 u318 u319 u320 u321 u322 u323 u324 u325 u326 u327 u328 u329 u330 u331 u332 u333 u334 u335 u336 u337 u338 u339 u340 u341 u342 u343 u344 u345 u346 u347 u348 u349 u350 u351 u352 u353 u354 u355 u356 u357 u358 u359 u360 u361 u362 u363 u364 u365 u366 u367 u368 u369 u370 u371 u372 u373 u374 u375 u376 u377 u378 u379 u380 u381 u382 u383 u384 u385 u386 u387 u388 u389 u390 u391 u392 u393 u394 u395 u396 u397 u398 u399 u400 u401 hL hC hV zV hO hN hB pl30 nl30 pl39 nl39 rc30 zn30 pp30 rc33 zn33 pp33 rc36 zn36 pp36 rc39 zn39 pp39
  have CASE : Hid (∀ w' : World, Below w5.heap.size w5 w' → ∀ k, k < 14 → w'.cell? ⟨w.heap.size, k, none⟩ = ([.slice ma ms.length mc, .slice na ns.length nc, .slice b1 os.length c1, .slice b2 qs.length c2, .int .i64 op.kind, .int .i64 op.key, .int .i64 op.val, .int .i64 op.hi, .bool rt.ok, .int .i64 rt.key, .int .i64 rt.val, .slice ra rt.pairs.length rc, .int .i64 x, .int .i64 y] : List Value)[k]?) := hC
  have B3 : Hid (Below w.heap.size w w5) := hV
  have HLC : Hid (LC O N1 P G ab be r1 wa rlo rhi rne rba cb op x y) := hL
  have PM : Hid (∀ w', Below w5.heap.size w5 w' → PairsAt w' m1 mh 0 O) := fun w' hb => hO.below hb
  have NM : Hid (NilOk m1 O.length mk) := hN
  have YB : Hid (Below w5.heap.size w5 w41) := hB
  have TOW : Hid (∀ w', Below w5.heap.size w5 w' → Below w5.heap.size w5 w') := fun _ h => h
  have HVZ : Hid (w.heap.size < w5.heap.size) := zV
  have H0 : Hid (PairsAt w5 m1 mh 0 O) := hO
  have lO := hL.lO
  have lN := hL.lN
  have lP := hL.lP
  have lG := hL.lG
  have abl := hL.abl
  have bel := hL.bel
  have LG : Hid (G.length + 1 = P.length) := lG
  have lG2 : G.length ≤ 301 := by omega
  clear lG
  have COP : Hid (∀ X : PL, X.length ≤ 2000 → ∀ W a g k, PairsAt W a g 0 X → NilOk a X.length k → CopQ a k X W) := fun X hX W a g k h1 h2 => copied_any a g 0 k X W h1 h2 (by omega)
  unfold CopQ at COP
  have PL30x : Hid (∀ w', Below w41.heap.size w41 w' → PairsAt w' xa30 xh30 0 P) := fun w' hb => pl30.below hb
  have NL30x : Hid (NilOk xa30 P.length xk30) := nl30
  have PL39x : Hid (∀ w', Below w41.heap.size w41 w' → PairsAt w' xa39 xh39 0 G) := fun w' hb => pl39.below hb
  have NL39x : Hid (NilOk xa39 G.length xk39) := nl39
  have RC30 : Hid (∀ w', Below w41.heap.size w41 w' → ∀ k, w'.cell? ⟨nb30, k, none⟩ = (#[.bool wa.ok, .int .i64 wa.key, .int .i64 wa.val, .slice pa30 wa.pairs.length pk30] : Array Value)[k]?) := fun w' hb k => (hb.cell (p := ⟨nb30, k, none⟩) zn30).trans (rc30 k)
  have ZN30 : Hid (nb30 < w41.heap.size) := zn30
  have PP30x : Hid (∀ w', Below w41.heap.size w41 w' → PairsAt w' pa30 ph30 0 (RetD.pairs wa)) := fun w' hb => pp30.below hb
  have RC33 : Hid (∀ w', Below w41.heap.size w41 w' → ∀ k, w'.cell? ⟨nb33, k, none⟩ = (#[.bool true, .int .i64 0, .int .i64 y, .slice pa33 0 pk33] : Array Value)[k]?) := fun w' hb k => (hb.cell (p := ⟨nb33, k, none⟩) zn33).trans (rc33 k)
  have ZN33 : Hid (nb33 < w41.heap.size) := zn33
  have PP33x : Hid (∀ w', Below w41.heap.size w41 w' → PairsAt w' pa33 ph33 0 (RetD.pairs ⟨true, 0, y, []⟩)) := fun w' hb => pp33.below hb
  have RC36 : Hid (∀ w', Below w41.heap.size w41 w' → ∀ k, w'.cell? ⟨nb36, k, none⟩ = (#[.bool wa.ok, .int .i64 wa.key, .int .i64 wa.val, .slice pa36 wa.pairs.length pk36] : Array Value)[k]?) := fun w' hb k => (hb.cell (p := ⟨nb36, k, none⟩) zn36).trans (rc36 k)
  have ZN36 : Hid (nb36 < w41.heap.size) := zn36
  have PP36x : Hid (∀ w', Below w41.heap.size w41 w' → PairsAt w' pa36 ph36 0 (RetD.pairs wa)) := fun w' hb => pp36.below hb
  have RC39 : Hid (∀ w', Below w41.heap.size w41 w' → ∀ k, w'.cell? ⟨nb39, k, none⟩ = (#[.bool true, .int .i64 0, .int .i64 y, .slice pa39 0 pk39] : Array Value)[k]?) := fun w' hb k => (hb.cell (p := ⟨nb39, k, none⟩) zn39).trans (rc39 k)
  have ZN39 : Hid (nb39 < w41.heap.size) := zn39
  have PP39x : Hid (∀ w', Below w41.heap.size w41 w' → PairsAt w' pa39 ph39 0 (RetD.pairs ⟨true, 0, y, []⟩)) := fun w' hb => pp39.below hb
  clear hC hV hL hO hN hB zV pl30 nl30 pl39 nl39 rc30 pp30 rc33 pp33 rc36 pp36 rc39 pp39
  conv => arg 2; whnf
  have DQ := HLC.out.D6
  have DH : Hid (∀ W base g cap, PairsAt W base g 0 G → NilOk base G.length cap → G.length ≤ cap → cap ≤ maxLen → DoN base cap G ⟨1, x, 0, 0⟩ G ⟨false, 0, 0, []⟩ W) := DQ
  clear DQ
  unfold DoN at DH
  have e12 : w41.cell? ⟨w.heap.size, 12, none⟩ = some (.int .i64 x) := CASE.out _ (TOW.out _ YB.out) 12 (by omega)
  have Hd42 : Hid (Below w41.heap.size w41 w41.drew) := (Below.refl _ _).drew
  have Hz42 : Hid (Below w41.heap.size w41 (w41.alloc (.cells #[.bool false, .int .i64 0, .int .i64 0, .slice none 0 0] 27)).drew) := (below_alloc _ _).drew
  have PX42 : Hid (∀ w', Below w41.heap.size w41 w' → PairsAt w' xa39 xh39 0 G) := fun w' hb => PL39x.out w' (hb)
  have BC42 : Hid (∀ w', Below w41.heap.size w41 w' → Below w5.heap.size w5 w') := fun w' hb => (TOW.out _ YB.out).trans (hb.mono (TOW.out _ YB.out).size)
  go_wp2_with fail
  go_cut [26, 27, 28] from 204 to 213 (fun t1 t2 t3 wx => DidN w41 G ⟨false, 0, 0, []⟩ t1 t2 t3 wx)
  case first =>
    go_region_held3 (fun w' => w'.cell? ⟨w.heap.size, 12, none⟩ = some (.int .i64 x))
      (first
        | (with_reducible exact XA42.out)
        | (with_reducible exact XZ42.out)
        | (with_reducible exact XA43.out)
        | (with_reducible exact XR43.out)
        | (with_reducible exact XC43.out)
        | go_keep)
      (first
        | (go_at_call 11; refine (COP.out G (by omega) _ xa39 xh39 xk39 (PX42.out _ ?_) NL39x.out).mono ?_; (focus (first | exact Hd42.out | exact Hz42.out)); rintro e w42 ⟨ua42, uk42, ug42, rfl, hb42, hp42, hn42, hc42, hd42, _⟩; have Z42 : Hid (Below w41.heap.size w41 w42) := (by first | exact Hd42.out.trans hb42 | exact Hz42.out.trans (hb42.mono (by simp))); have XA42 : Hid (w42.cell? ⟨w.heap.size, 12, none⟩ = some (.int .i64 x)) := CASE.out _ (BC42.out _ Z42.out) 12 (by omega); have XZ42 : Hid ((w42.alloc (.cells #[.bool false, .int .i64 0, .int .i64 0, .slice none 0 0] 27)).cell? ⟨w.heap.size, 12, none⟩ = some (.int .i64 x)) := CASE.out _ (BC42.out _ (Z42.out.alloc Z42.out.size _)) 12 (by omega); have PC42 : Hid (PairsAt w42 ua42 ug42 0 G) := hp42; have NC42 : Hid (NilOk ua42 G.length uk42 ∧ G.length ≤ uk42 ∧ uk42 ≤ maxLen) := ⟨hn42, hc42, hd42⟩; (first | (have NB42 : Hid (NbAt w42 w41.heap.size) := ((NbAt.made w41).below (Below.refl _ _).drew).below hb42) | skip); clear hb42 hp42 hn42 hc42 hd42)
        | (go_at_call 31; refine (DH.out _ ua42 ug42 uk42 ?_ NC42.out.1 NC42.out.2.1 NC42.out.2.2).mono ?_; (focus (first | exact PC42.out | exact PC42.out.below (below_alloc _ _))); rintro e w43 ⟨l43, lk43, lh43, a43, k43, h43, rfl, hb43, hp43, hn43, hq43, hg43, hh43⟩; have Z43 : Hid (Below w41.heap.size w41 w43) := (by first | exact Z42.out.trans (hb43.mono Z42.out.size) | exact (Z42.out.alloc Z42.out.size _).trans (hb43.mono (by have := Z42.out.size; simp; omega))); have XA43 : Hid (w43.cell? ⟨w.heap.size, 12, none⟩ = some (.int .i64 x)) := CASE.out _ (BC42.out _ Z43.out) 12 (by omega); have XR43 : Hid ((w43.alloc (.cells #[.bool false, .int .i64 0, .int .i64 0, .slice a43 0 k43] 27)).cell? ⟨w.heap.size, 12, none⟩ = some (.int .i64 x)) := CASE.out _ (BC42.out _ (Z43.out.alloc Z43.out.size _)) 12 (by omega); have PL43 : Hid (PairsAt w43 l43 lh43 0 G) := hp43; have NL43 : Hid (NilOk l43 G.length lk43) := hn43; have PR43 : Hid (PairsAt w43 a43 h43 0 (RetD.pairs ⟨false, 0, 0, []⟩)) := hq43; (first | (have NB43 : Hid (NbAt w43 w41.heap.size) := NB42.out.below hb43; have G1 : Hid (G.length ≠ 0 → w41.heap.size < lh43) := (fun q => by have := hg43 q; have := NB42.out.lt; omega); have G2 : Hid ((RetD.pairs ⟨false, 0, 0, []⟩).length ≠ 0 → w41.heap.size < h43) := (fun q => by have := hh43 q; have := NB42.out.lt; omega); have XC43 : Hid (((((w43.setCell ⟨w41.heap.size, 0, none⟩ (.bool false)).setCell ⟨w41.heap.size, 1, none⟩ (.int .i64 0)).setCell ⟨w41.heap.size, 2, none⟩ (.int .i64 0)).setCell ⟨w41.heap.size, 3, none⟩ (.slice a43 0 k43)).cell? ⟨w.heap.size, 12, none⟩ = some (.int .i64 x)) := CASE.out _ (BC42.out _ (below4 Z43.out (Nat.le_refl _) _ _ _ _)) 12 (by omega); have y0 : w43.cell? ⟨w41.heap.size, 0, none⟩ = some (.bool false) := NB43.out.cells 0; have y1 : w43.cell? ⟨w41.heap.size, 1, none⟩ = some (.int .i64 0) := NB43.out.cells 1; have y2 : w43.cell? ⟨w41.heap.size, 2, none⟩ = some (.int .i64 0) := NB43.out.cells 2; have y3 : w43.cell? ⟨w41.heap.size, 3, none⟩ = some (.slice none 0 0) := NB43.out.cells 3; have yf : ∀ k, w43.frozen? ⟨w41.heap.size, k, none⟩ = false := NB43.out.free; have yl : w41.heap.size < w43.heap.size := NB43.out.lt) | (have NB43 : Hid (NbAt w43 w42.heap.size) := (NbAt.made w42).below hb43; have G1 : Hid (G.length ≠ 0 → w42.heap.size < lh43) := (fun q => by have := hg43 q; simp at this; omega); have G2 : Hid ((RetD.pairs ⟨false, 0, 0, []⟩).length ≠ 0 → w42.heap.size < h43) := (fun q => by have := hh43 q; simp at this; omega); have XC43 : Hid (((((w43.setCell ⟨w42.heap.size, 0, none⟩ (.bool false)).setCell ⟨w42.heap.size, 1, none⟩ (.int .i64 0)).setCell ⟨w42.heap.size, 2, none⟩ (.int .i64 0)).setCell ⟨w42.heap.size, 3, none⟩ (.slice a43 0 k43)).cell? ⟨w.heap.size, 12, none⟩ = some (.int .i64 x)) := CASE.out _ (BC42.out _ (below4 Z43.out Z42.out.size _ _ _ _)) 12 (by omega); have y0 : w43.cell? ⟨w42.heap.size, 0, none⟩ = some (.bool false) := NB43.out.cells 0; have y1 : w43.cell? ⟨w42.heap.size, 1, none⟩ = some (.int .i64 0) := NB43.out.cells 1; have y2 : w43.cell? ⟨w42.heap.size, 2, none⟩ = some (.int .i64 0) := NB43.out.cells 2; have y3 : w43.cell? ⟨w42.heap.size, 3, none⟩ = some (.slice none 0 0) := NB43.out.cells 3; have yf : ∀ k, w43.frozen? ⟨w42.heap.size, k, none⟩ = false := NB43.out.free; have yl : w42.heap.size < w43.heap.size := NB43.out.lt) | skip); clear hb43 hp43 hn43 hq43 hg43 hh43))
    all_goals
      go_wp2_with fail
      go_meet
      first
        | exact didn_of (did_set (r := ⟨false, 0, 0, []⟩) Z43.out NB43.out (Nat.le_refl _) PL43.out PR43.out G1.out G2.out) NL43.out
        | exact didn_of (did_set (r := ⟨false, 0, 0, []⟩) Z43.out NB43.out Z42.out.size PL43.out PR43.out G1.out G2.out) NL43.out
        | exact didn_of (did_new (r := ⟨false, 0, 0, []⟩) Z43.out PL43.out PR43.out) NL43.out
  case rest =>
    rename_i hK
    obtain ⟨xa42, xk42, xh42, pa42, pk42, ph42, nb42, rfl, rfl, rfl, hbx, hnx, hcx, hpx, hnl, hqx⟩ := hcut
    generalize wc = w44 at *
    have Zc44 : Hid (Below w41.heap.size w41 w44) := hbx
    have RC42 : Hid (∀ w', Below w44.heap.size w44 w' → ∀ k, w'.cell? ⟨nb42, k, none⟩ = (#[.bool false, .int .i64 0, .int .i64 0, .slice pa42 0 pk42] : Array Value)[k]?) := fun w' hb k => (hb.cell (p := ⟨nb42, k, none⟩) hnx).trans (hcx k)
    have ZN42 : Hid (nb42 < w44.heap.size) := hnx
    have PL42x : Hid (∀ w', Below w44.heap.size w44 w' → PairsAt w' xa42 xh42 0 G) := fun w' hb => hpx.below hb
    have NL42x : Hid (NilOk xa42 G.length xk42) := hnl
    have PP42x : Hid (∀ w', Below w44.heap.size w44 w' → PairsAt w' pa42 ph42 0 (RetD.pairs ⟨false, 0, 0, []⟩)) := fun w' hb => hqx.below hb
    clear hbx hnx hcx hpx hnl hqx
    clear e12
    have Cw5_w44 : Hid (Below w5.heap.size w5 w44) := YB.out.trans (Zc44.out.mono YB.out.size)
    have Cw41_w44 : Hid (Below w41.heap.size w41 w44) := Zc44.out
    refine hK _ _ ?_
    exact next w w5 w44 ma na b1 b2 ra mc nc c1 c2 rc ms ns os qs rt O N1 P G ab be r1 wa rlo rhi rne rba cb op x y m1 mk mh xa30 xk30 xh30 xa39 xk39 xh39 pa30 pk30 ph30 nb30 pa33 pk33 ph33 nb33 pa36 pk36 ph36 nb36 pa39 pk39 ph39 nb39 pa42 pk42 ph42 nb42 _ _ _ _ _ _ _ _ _ _ _ _ _ _ _ _ _ _ _ _ _ _ _ _ _ _ _ _ _ _ _ _ _ _ _ _ _ _ _ _ _ _ _ _ _ _ _ _ _ _ _ _ _ _ _ _ _ _ _ _ _ _ _ _ _ _ _ _ _ _ _ _ _ _ _ _ _ _ _ _ _ _ _ _ _ _ _ _ _ _ _ _ _ _ _ _ _ _ _ _ _ _ _ _ _ _ _ _ _ _ _ _ _ _ _ _ _ _ _ _ _ _ _ _ _ _ _ _ _ _ _ _ _ _ _ _ _ _ _ _ _ _ _ _ _ _ _ _ _ _ _ _ _ _ _ _ _ _ _ _ _ _ _ _ _ _ _ _ _ _ _ _ _ _ _ _ _ _ _ _ _ _ _ _ _ _ _ _ _ _ _ _ _ _ _ _ _ _ _ _ _ _ _ _ _ _ _ _ _ _ _ _ _ _ _ _ _ _ _ _ _ _ _ _ _ _ _ _ _ _ _ _ _ _ _ _ _ _ _ _ _ _ _ _ _ _ _ _ _ _ _ _ _ _ _ _ _ _ _ _ _ _ _ _ _ _ _ _ _ _ _ _ _ _ _ _ _ _ _ _ _ _ _ _ _ _ _ _ _ _ _ _ _ _ _ _ _ _ _ _ _ _ _ _ _ _ _ _ _ _ _ _ _ _ _ _ _ _ _ _ _ _ _ _ _ _ _ _ _ _ _ _ _ _ _ _ _ _ _ _ _ _ _ _ _ _ _ _ _ _ _ _ _ _ _ _ _ _ _ _ _ _ _ _ _ _ _ _ _ _ _ _ _ _ _ _ _ _ _ _ _ _ _ _ _ _ _ _ HLC.out CASE.out B3.out HVZ.out H0.out NM.out Cw5_w44.out (PL30x.out _ Cw41_w44.out) NL30x.out (PL39x.out _ Cw41_w44.out) NL39x.out (RC30.out _ Cw41_w44.out) (Nat.lt_of_lt_of_le ZN30.out (Below.size Cw41_w44.out)) (PP30x.out _ Cw41_w44.out) (RC33.out _ Cw41_w44.out) (Nat.lt_of_lt_of_le ZN33.out (Below.size Cw41_w44.out)) (PP33x.out _ Cw41_w44.out) (RC36.out _ Cw41_w44.out) (Nat.lt_of_lt_of_le ZN36.out (Below.size Cw41_w44.out)) (PP36x.out _ Cw41_w44.out) (RC39.out _ Cw41_w44.out) (Nat.lt_of_lt_of_le ZN39.out (Below.size Cw41_w44.out)) (PP39x.out _ Cw41_w44.out) (RC42.out _ (Below.refl _ _)) ZN42.out (PP42x.out _ (Below.refl _ _))
end Go.Proofs.Ytjpfgfcggekklaa
namespace Go.Proofs.Ytjpfgfcggekklaa
open Go.RowKit

set_option maxRecDepth 100000 in
set_option maxHeartbeats 3000000 in
theorem lawsat16 (next : LawsAt17) : LawsAt16 := by
  unfold LawsAt16
  intro w w5 w44 ma na b1 b2 ra mc nc c1 c2 rc ms ns os qs rt O N1 P G ab be r1 wa rlo rhi rne rba cb op x y m1 mk mh xa30 xk30 xh30 xa39 xk39 xh39 pa30 pk30 ph30 nb30 pa33 pk33 ph33 nb33 pa36 pk36 ph36 nb36 pa39 pk39 ph39 nb39 pa42 pk42 ph42 nb42 u0 u2 u4 u5 u6 u8 u9 u11 u12 u13 u14 u15 u18 u20 u26 u29 u30 u31 u32 u33 u34 u35 u36 u37 u38 u39 u40 u41 u42 u43 u44 u45 u46 u47 u48 u49 u50 u51 u52 u53 u54 u55 u56 u57 u58 u59 u60 u61 u62 u63 u64 u65 u66 u67 u68 u69 u70 u71 u72 u73 u74 u75 u76 u77 u78 u79 u80 u81 u82 u83 u84 u85 u86 u87 u88 u89 u90 u91 u92 u93 u94 u95 u96 u97 u98 u99 u100 u101 u102 u103 u104 u105 u106 u107 u108 u109 u110 u111 u112 u113 u114 u115 u116 u117 u118 u119 u120 u121 u122 u123 u124 u125 u126 u127 u128 u129 u130 u131 u132 u133 u134 u135 u136 u137 u138 u139 u140 u141 u142 u143 u144 u145 u146 u147 u148 u149 u150 u151 u152 u153 u154 u155 u156 u157 u158 u159 u160 u161 u162 u163 u164 u165 u166 u167 u168 u169 u170 u171 u172 u173 u174 u175 u176 u177 u178 u179 u180 u181 u182 u183 u184 u185 u186 u187 u188 u189 u190 u191 u192 u193 u194 u195 u196 u197 u198 u199 u200 u201 u202 u203 u204 u205 u206 u207 u208 u209 u210 u211 u212 u213 u214 u215 u216 u217 u218 u219 u220 u221 u222 u223 u224 u225 u226 u227 u228 u229 u230 u231 u232 u233 u234 u235 u236 u237 u238 u239 u240 u241 u242 u243 u244 u245 u246 u247 u248 u249 u250 u251 u252 u253 u254 u255 u256 u257 u258 u259 u260 u261 u262 u263 u264 u265 u266 u267 u268 u269 u270 u271 u272 u273 u274 u275 u276 u277 u278 u279 u280 u281 u282 u283 u284 u285 u286 u287 u288 u289 u290 u291 u292 u293 u294 u295 u296 u297 u298 u299 u300 u301 u302 u303 u304 u305 u306 u307 u308 u309 u310 u311 u312 u313 u314 u315 u316 u317 u318 u319 u320 u321 u322 u323 u324 u325 u326 u327 u328 u329 u330 u331 u332 u333 u334 u335 u336 u337 u338 u339 u340 u341 u342 u343 u344 u345 u346 u347 u348 u349 u350 u351 u352 u353 u354 u355 u356 u357 u358 u359 u360 u361 u362 u363 u364 u365 u366 u367 u368 u369 u370 u371 u372 u373 u374 u375 u376 u377 u378 u379 u380 u381 u382 u383 u384 u385 u386 u387 u388 u389 u390 u391 u392 u393 u394 u395 u396 u397 u398 u399 u400 u401 hL hC hV zV hO hN hB pl30 nl30 pl39 nl39 rc30 zn30 pp30 rc33 zn33 pp33 rc36 zn36 pp36 rc39 zn39 pp39 rc42 zn42 pp42
  have CASE : Hid (∀ w' : World, Below w5.heap.size w5 w' → ∀ k, k < 14 → w'.cell? ⟨w.heap.size, k, none⟩ = ([.slice ma ms.length mc, .slice na ns.length nc, .slice b1 os.length c1, .slice b2 qs.length c2, .int .i64 op.kind, .int .i64 op.key, .int .i64 op.val, .int .i64 op.hi, .bool rt.ok, .int .i64 rt.key, .int .i64 rt.val, .slice ra rt.pairs.length rc, .int .i64 x, .int .i64 y] : List Value)[k]?) := hC
  have B3 : Hid (Below w.heap.size w w5) := hV
  have HLC : Hid (LC O N1 P G ab be r1 wa rlo rhi rne rba cb op x y) := hL
  have PM : Hid (∀ w', Below w5.heap.size w5 w' → PairsAt w' m1 mh 0 O) := fun w' hb => hO.below hb
  have NM : Hid (NilOk m1 O.length mk) := hN
  have YB : Hid (Below w5.heap.size w5 w44) := hB
  have TOW : Hid (∀ w', Below w5.heap.size w5 w' → Below w5.heap.size w5 w') := fun _ h => h
  have HVZ : Hid (w.heap.size < w5.heap.size) := zV
  have H0 : Hid (PairsAt w5 m1 mh 0 O) := hO
  have lO := hL.lO
  have lN := hL.lN
  have lP := hL.lP
  have lG := hL.lG
  have abl := hL.abl
  have bel := hL.bel
  have LG : Hid (G.length + 1 = P.length) := lG
  have lG2 : G.length ≤ 301 := by omega
  clear lG
  have COP : Hid (∀ X : PL, X.length ≤ 2000 → ∀ W a g k, PairsAt W a g 0 X → NilOk a X.length k → CopQ a k X W) := fun X hX W a g k h1 h2 => copied_any a g 0 k X W h1 h2 (by omega)
  unfold CopQ at COP
  have PL30x : Hid (∀ w', Below w44.heap.size w44 w' → PairsAt w' xa30 xh30 0 P) := fun w' hb => pl30.below hb
  have NL30x : Hid (NilOk xa30 P.length xk30) := nl30
  have PL39x : Hid (∀ w', Below w44.heap.size w44 w' → PairsAt w' xa39 xh39 0 G) := fun w' hb => pl39.below hb
  have NL39x : Hid (NilOk xa39 G.length xk39) := nl39
  have RC30 : Hid (∀ w', Below w44.heap.size w44 w' → ∀ k, w'.cell? ⟨nb30, k, none⟩ = (#[.bool wa.ok, .int .i64 wa.key, .int .i64 wa.val, .slice pa30 wa.pairs.length pk30] : Array Value)[k]?) := fun w' hb k => (hb.cell (p := ⟨nb30, k, none⟩) zn30).trans (rc30 k)
  have ZN30 : Hid (nb30 < w44.heap.size) := zn30
  have PP30x : Hid (∀ w', Below w44.heap.size w44 w' → PairsAt w' pa30 ph30 0 (RetD.pairs wa)) := fun w' hb => pp30.below hb
  have RC33 : Hid (∀ w', Below w44.heap.size w44 w' → ∀ k, w'.cell? ⟨nb33, k, none⟩ = (#[.bool true, .int .i64 0, .int .i64 y, .slice pa33 0 pk33] : Array Value)[k]?) := fun w' hb k => (hb.cell (p := ⟨nb33, k, none⟩) zn33).trans (rc33 k)
  have ZN33 : Hid (nb33 < w44.heap.size) := zn33
  have PP33x : Hid (∀ w', Below w44.heap.size w44 w' → PairsAt w' pa33 ph33 0 (RetD.pairs ⟨true, 0, y, []⟩)) := fun w' hb => pp33.below hb
  have RC36 : Hid (∀ w', Below w44.heap.size w44 w' → ∀ k, w'.cell? ⟨nb36, k, none⟩ = (#[.bool wa.ok, .int .i64 wa.key, .int .i64 wa.val, .slice pa36 wa.pairs.length pk36] : Array Value)[k]?) := fun w' hb k => (hb.cell (p := ⟨nb36, k, none⟩) zn36).trans (rc36 k)
  have ZN36 : Hid (nb36 < w44.heap.size) := zn36
  have PP36x : Hid (∀ w', Below w44.heap.size w44 w' → PairsAt w' pa36 ph36 0 (RetD.pairs wa)) := fun w' hb => pp36.below hb
  have RC39 : Hid (∀ w', Below w44.heap.size w44 w' → ∀ k, w'.cell? ⟨nb39, k, none⟩ = (#[.bool true, .int .i64 0, .int .i64 y, .slice pa39 0 pk39] : Array Value)[k]?) := fun w' hb k => (hb.cell (p := ⟨nb39, k, none⟩) zn39).trans (rc39 k)
  have ZN39 : Hid (nb39 < w44.heap.size) := zn39
  have PP39x : Hid (∀ w', Below w44.heap.size w44 w' → PairsAt w' pa39 ph39 0 (RetD.pairs ⟨true, 0, y, []⟩)) := fun w' hb => pp39.below hb
  have RC42 : Hid (∀ w', Below w44.heap.size w44 w' → ∀ k, w'.cell? ⟨nb42, k, none⟩ = (#[.bool false, .int .i64 0, .int .i64 0, .slice pa42 0 pk42] : Array Value)[k]?) := fun w' hb k => (hb.cell (p := ⟨nb42, k, none⟩) zn42).trans (rc42 k)
  have ZN42 : Hid (nb42 < w44.heap.size) := zn42
  have PP42x : Hid (∀ w', Below w44.heap.size w44 w' → PairsAt w' pa42 ph42 0 (RetD.pairs ⟨false, 0, 0, []⟩)) := fun w' hb => pp42.below hb
  clear hC hV hL hO hN hB zV pl30 nl30 pl39 nl39 rc30 pp30 rc33 pp33 rc36 pp36 rc39 pp39 rc42 pp42
  conv => arg 2; whnf
  have ga0 : w44.cell? ⟨nb33, 0, none⟩ = some (.bool true) := RC33.out _ (Below.refl _ _) 0
  have ga2 : w44.cell? ⟨nb33, 2, none⟩ = some (.int .i64 y) := RC33.out _ (Below.refl _ _) 2
  have gb0 : w44.cell? ⟨nb30, 0, none⟩ = some (.bool wa.ok) := RC30.out _ (Below.refl _ _) 0
  have gb1 : w44.cell? ⟨nb30, 1, none⟩ = some (.int .i64 wa.key) := RC30.out _ (Below.refl _ _) 1
  have gb2 : w44.cell? ⟨nb30, 2, none⟩ = some (.int .i64 wa.val) := RC30.out _ (Below.refl _ _) 2
  have gb3 : w44.cell? ⟨nb30, 3, none⟩ = some (.slice pa30 wa.pairs.length pk30) := RC30.out _ (Below.refl _ _) 3
  have gc0 : w44.cell? ⟨nb36, 0, none⟩ = some (.bool wa.ok) := RC36.out _ (Below.refl _ _) 0
  have gc1 : w44.cell? ⟨nb36, 1, none⟩ = some (.int .i64 wa.key) := RC36.out _ (Below.refl _ _) 1
  have gc2 : w44.cell? ⟨nb36, 2, none⟩ = some (.int .i64 wa.val) := RC36.out _ (Below.refl _ _) 2
  have gc3 : w44.cell? ⟨nb36, 3, none⟩ = some (.slice pa36 wa.pairs.length pk36) := RC36.out _ (Below.refl _ _) 3
  have e13 : w44.cell? ⟨w.heap.size, 13, none⟩ = some (.int .i64 y) := CASE.out _ (TOW.out _ YB.out) 13 (by omega)
  have qy : (y != y) = false := by simp
  have lgi : (P.length : Int) - 1 = (G.length : Int) := by have := LG.out; omega
  have qg : ((G.length : Int) != (P.length : Int) - 1) = false := by rw [lgi]; simp
  clear lgi
  go_wp2_with fail
  refine (sameRet_self pa30 pa36 ph30 0 pk30 ph36 0 pk36 wa _ (PP30x.out _ (Below.refl _ _)) (PP36x.out _ (Below.refl _ _))).mono ?_
  rintro e w43 ⟨rfl, hb43⟩
  clear ga0 ga2 gb0 gb1 gb2 gb3 gc0 gc1 gc2 gc3 e13
  have Cw5_w43 : Hid (Below w5.heap.size w5 w43) := YB.out.trans (hb43.mono YB.out.size)
  have Cw44_w43 : Hid (Below w44.heap.size w44 w43) := hb43
  clear hb43
  have gd0 : w43.cell? ⟨nb39, 0, none⟩ = some (.bool true) := RC39.out _ Cw44_w43.out 0
  have gd2 : w43.cell? ⟨nb39, 2, none⟩ = some (.int .i64 y) := RC39.out _ Cw44_w43.out 2
  have ge0 : w43.cell? ⟨nb42, 0, none⟩ = some (.bool false) := RC42.out _ Cw44_w43.out 0
  have e13 : w43.cell? ⟨w.heap.size, 13, none⟩ = some (.int .i64 y) := CASE.out _ (TOW.out _ Cw5_w43.out) 13 (by omega)
  go_upto_if 273 with fail
  go_cut [] (fun wx => Below w43.heap.size w43 wx)
  case first =>
    go_wp2_with fail
    go_meet
    exact Below.refl _ _
  case rest =>
    rename_i hK
    generalize wc = w45 at *
    have Cw5_w45 : Hid (Below w5.heap.size w5 w45) := Cw5_w43.out.trans (hcut.mono Cw5_w43.out.size)
    have Cw44_w45 : Hid (Below w44.heap.size w44 w45) := Cw44_w43.out.trans (hcut.mono Cw44_w43.out.size)
    refine hK _ _ ?_
    exact next w w5 w45 ma na b1 b2 ra mc nc c1 c2 rc ms ns os qs rt O N1 P G ab be r1 wa rlo rhi rne rba cb op x y m1 mk mh _ _ _ _ _ _ _ _ _ _ _ _ _ _ _ _ _ _ _ _ _ _ _ _ _ _ _ _ _ _ _ _ _ _ _ _ _ _ _ _ _ _ _ _ _ _ _ _ _ _ _ _ _ _ _ _ _ _ _ _ _ _ _ _ _ _ _ _ _ _ _ _ _ _ _ _ _ _ _ _ _ _ _ _ _ _ _ _ _ _ _ _ _ _ _ _ _ _ _ _ _ _ _ _ _ _ _ _ _ _ _ _ _ _ _ _ _ _ _ _ _ _ _ _ _ _ _ _ _ _ _ _ _ _ _ _ _ _ _ _ _ _ _ _ _ _ _ _ _ _ _ _ _ _ _ _ _ _ _ _ _ _ _ _ _ _ _ _ _ _ _ _ _ _ _ _ _ _ _ _ _ _ _ _ _ _ _ _ _ _ _ _ _ _ _ _ _ _ _ _ _ _ _ _ _ _ _ _ _ _ _ _ _ _ _ _ _ _ _ _ _ _ _ _ _ _ _ _ _ _ _ _ _ _ _ _ _ _ _ _ _ _ _ _ _ _ _ _ _ _ _ _ _ _ _ _ _ _ _ _ _ _ _ _ _ _ _ _ _ _ _ _ _ _ _ _ _ _ _ _ _ _ _ _ _ _ _ _ _ _ _ _ _ _ _ _ _ _ _ _ _ _ _ _ _ _ _ _ _ _ _ _ _ _ _ _ _ _ _ _ _ _ _ _ _ _ _ _ _ _ _ _ _ _ _ _ _ _ _ _ _ _ _ _ _ _ _ _ _ _ _ _ _ _ _ _ _ _ _ _ _ _ _ _ _ _ _ _ _ _ _ _ _ _ _ _ _ _ _ _ _ _ _ _ _ _ _ _ _ _ _ _ _ _ _ _ _ _ _ _ HLC.out CASE.out B3.out HVZ.out H0.out NM.out Cw5_w45.out
end Go.Proofs.Ytjpfgfcggekklaa

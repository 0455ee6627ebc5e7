
/- Layer 17: WeighMemory cut into its statements. Layer 17: WeighMemory from its statement 9 on. Layer 17: WeighMemory from its statement 10 on. Layer 17: WeighMemory from its statement 11 on. Layer 17: WeighMemory from its statement 12 on. Layer 17: WeighMemory from its statement 13 on. Layer 17: WeighMemory from its statement 14 on. Layer 17: WeighMemory from its statement 15 on. Layer 17: the law WeighMemory. -/

import Derived.Test.YtiencggnijfjoaaWMeP

import Derived.Deep.CutRange

import Derived.Deep.CutBlock

namespace Go.Proofs.Ytiencggnijfjoaa

open Go.RowKit

theorem ll_info : (Try.prog.info? 23).map (fun i => (i.zero, i.size, i.bytes)) = some (some (.slice none 0 0), 1, 24) := by kernel_rfl
theorem ll_under : Try.prog.underlying 56 = some (.slice 23) := by kernel_rfl
theorem isEq_me (a : List Int) : isEq a a = true := by unfold isEq; simp
theorem nlEq_me (a : NL) : nlEq a a = true := by unfold nlEq; simp
def n77 : NdD := ⟨77, 0, 0, 0, 0, 0⟩
/-- What all of WeighMemory knows behind its two rows with room. -/
structure MB (w w5 : World) (bT bw : Option Addr) (b o cT gw ow cw g3 c3 g5 c5 : Nat) (t : NL) (W : List Int) (key nn : Int) : Prop where
  hTn : bT = none → t.length = 0 ∧ cT = 0
  hTb : t.length * 48 ≤ 140737488351232
  hWb : W.length * 8 ≤ 140737488351232
  hc3 : t.length + 1 ≤ c3
  hc5 : W.length + 1 ≤ c5
  NT : ∀ z, Below w5.heap.size w5 z → NodesAt z bT b o t
  NW : ∀ z, Below w5.heap.size w5 z → WsAt z bw gw ow W
  CC : ∀ z, Below w5.heap.size w5 z → z.cell? ⟨w.heap.size, 0, none⟩ = some (.slice bT t.length cT) ∧ z.cell? ⟨w.heap.size, 1, none⟩ = some (.slice bw W.length cw) ∧ z.cell? ⟨w.heap.size, 2, none⟩ = some (.int .i64 key)
  BL : ∀ z, Below w5.heap.size w5 z → Below w.heap.size w z ∧ w.heap.size < z.heap.size
  OT : ∀ z, Below w5.heap.size w5 z → z.ownsRow w.heap.size 54 6 (.slice (some ⟨g3, 0, none⟩) (t.length + 1) c3) (t.length + 1) (ndCells (t ++ [n77]))
  OW : ∀ z, Below w5.heap.size w5 z → z.ownsRow w.heap.size 3 1 (.slice (some ⟨g5, 0, none⟩) (W.length + 1) c5) (W.length + 1) (isC (W ++ [77]))
  lt3 : g3 < w5.heap.size
  lt5 : g5 < w5.heap.size
theorem MB.nodes {w w5 : World} {bT bw : Option Addr} {b o cT gw ow cw g3 c3 g5 c5 : Nat} {t : NL} {W : List Int} {key nn : Int} (h : MB w w5 bT bw b o cT gw ow cw g3 c3 g5 c5 t W key nn) (z : World) (hz : Below w5.heap.size w5 z) : NodesAt z (some ⟨g3, 0, none⟩) g3 0 t := by
  have q := owns_cut (h.OT z hz) t.length (by omega)
  rw [ndCells_append, ← ndCells_length t, List.take_left] at q
  exact nodes_row q
theorem MB.ws {w w5 : World} {bT bw : Option Addr} {b o cT gw ow cw g3 c3 g5 c5 : Nat} {t : NL} {W : List Int} {key nn : Int} (h : MB w w5 bT bw b o cT gw ow cw g3 c3 g5 c5 t W key nn) (z : World) (hz : Below w5.heap.size w5 z) : WsAt z (some ⟨g5, 0, none⟩) g5 0 W := by
  have q := owns_cut (h.OW z hz) W.length (by omega)
  rw [isC_append, Nat.mul_one, show W.length = (isC W).length from (isC_length W).symm, List.take_left, isC_length] at q
  exact ws_row q
def dropSeq : Nat → Code → Code
  | 0, c => c
  | n + 1, .seq _ b => dropSeq n b
  | _ + 1, c => c
noncomputable def memFrom (n : Nat) : Code := dropSeq n (Try.f7.body.getD .skip)
set_option maxRecDepth 100000 in
def MemAt9 : Prop := ∀ (w w5 : World) (bT bw : Option Addr) (b o cT gw ow cw g3 c3 g5 c5 : Nat) (t : NL) (W : List Int) (key nn : Int) (a6 a7 a8 : Option Addr) (g6 c6 g7 c7 g8 c8 : Nat) (k : Option BT) (X : World) (u0 u2 u9 u13 u14 u15 u16 u17 u18 u19 u20 u21 u22 u23 u24 u25 u26 u27 u28 u29 u30 u31 u32 u33 u34 u35 u36 u37 u38 u39 u40 u41 u42 u43 u44 u45 u46 u47 u48 u49 u50 u51 u52 u53 u54 u55 u56 u57 u58 u59 u60 u61 u62 u63 u64 u65 u66 u67 u68 u69 u70 u71 u72 u73 u74 u75 u76 u77 u78 u79 u80 u81 u82 u83 u84 u85 u86 u87 u88 u89 u90 u91 u92 u93 u94 u95 u96 u97 u98 u99 u100 u101 u102 u103 u104 u105 u106 u107 u108 u109 u110 u111 u112 u113 u114 u115 u116 u117 u118 u119 u120 u121 u122 u123 u124 u125 u126 u127 u128 u129 u130 u131 u132 u133 u134 u135 u136 u137 u138 u139 u140 u141 u142 u143 u144 u145 u146 u147 u148 u149 u150 u151 u152 u153 u154 u155 u156 u157 u158 u159 u160 u161 u162 u163 u164 u165 u166 u167 u168 u169 u170 u171 u172 u173 u174 u175 u176 u177 u178 u179 u180 u181 u182 u183 u184 u185 u186 u187 u188 u189 u190 u191 u192 u193 u194 u195 u196 u197 u198 u199 u200 u201 u202 u203 u204 u205 u206 u207 u208 u209 u210 u211 u212 u213 u214 u215 u216 u217 u218 u219 u220 u221 u222 u223 u224 u225 u226 u227 u228 u229 u230 u231 u232 u233 u234 u235 u236 u237 u238 u239 u240 u241 u242 u243 u244 u245 u246 u247 u248 u249 u250 u251 u252 u253 u254 u255 u256 u257 u258 u259 u260 u261 u262 u263 u264 u265 u266 u267 u268 u269 u270 u271 u272 u273 u274 u275 u276 u277 u278 u279 u280 u281 u282 u283 u284 u285 u286 u287 u288 u289 u290 u291 u292 u293 u294 u295 u296 u297 u298 u299 u300 u301 u302 u303 : Value) (_hM : MB w w5 bT bw b o cT gw ow cw g3 c3 g5 c5 t W key nn) (_hk : Keyed t k) (_hY : Below w5.heap.size w5 X) (_h6 : WsAt X a6 g6 0 (sumsO k)) (_h7 : WsAt X a7 g7 0 (redsO k)) (_h8 : NodesAt X a8 g8 0 (heavyA t W)), Code.wp Try.prog (memFrom 9) (bodyPost Try.prog Try.f7 fun e w' => e = .returned (.bool true) ∧ Below w.heap.size w w') ⟨#[u0, .pointer (some ⟨w.heap.size, 0, none⟩), u2, .slice (some ⟨g3, 0, none⟩) (t.length + 1) c3, .slice (some ⟨g3, 0, none⟩) t.length c3, .slice (some ⟨g5, 0, none⟩) (W.length + 1) c5, .slice a6 (sumsO k).length c6, .int .i64 (keyE t), .slice a7 (redsO k).length c7, u9, .slice a8 (heavyA t W).length c8, .int .i64 (heavyE t W), .slice none 0 0, u13, u14, u15, u16, u17, u18, u19, u20, u21, u22, u23, u24, u25, u26, u27, u28, u29, u30, u31, u32, u33, u34, u35, u36, u37, u38, u39, u40, u41, u42, u43, u44, u45, u46, u47, u48, u49, u50, u51, u52, u53, u54, u55, u56, u57, u58, u59, u60, u61, u62, u63, u64, u65, u66, u67, u68, u69, u70, u71, u72, u73, u74, u75, u76, u77, u78, u79, u80, u81, u82, u83, u84, u85, u86, u87, u88, u89, u90, u91, u92, u93, u94, u95, u96, u97, u98, u99, u100, u101, u102, u103, u104, u105, u106, u107, u108, u109, u110, u111, u112, u113, u114, u115, u116, u117, u118, u119, u120, u121, u122, u123, u124, u125, u126, u127, u128, u129, u130, u131, u132, u133, u134, u135, u136, u137, u138, u139, u140, u141, u142, u143, u144, u145, u146, u147, u148, u149, u150, u151, u152, u153, u154, u155, u156, u157, u158, u159, u160, u161, u162, u163, u164, u165, u166, u167, u168, u169, u170, u171, u172, u173, u174, u175, u176, u177, u178, u179, u180, u181, u182, u183, u184, u185, u186, u187, u188, u189, u190, u191, u192, u193, u194, u195, u196, u197, u198, u199, u200, u201, u202, u203, u204, u205, u206, u207, u208, u209, u210, u211, u212, u213, u214, u215, u216, u217, u218, u219, u220, u221, u222, u223, u224, u225, u226, u227, u228, u229, u230, u231, u232, u233, u234, u235, u236, u237, u238, u239, u240, u241, u242, u243, u244, u245, u246, u247, u248, u249, u250, u251, u252, u253, u254, u255, u256, u257, u258, u259, u260, u261, u262, u263, u264, u265, u266, u267, u268, u269, u270, u271, u272, u273, u274, u275, u276, u277, u278, u279, u280, u281, u282, u283, u284, u285, u286, u287, u288, u289, u290, u291, u292, u293, u294, u295, u296, u297, u298, u299, u300, u301, u302, u303], []⟩ X
set_option maxRecDepth 100000 in
def MemAt10 : Prop := ∀ (w w5 : World) (bT bw : Option Addr) (b o cT gw ow cw g3 c3 g5 c5 : Nat) (t : NL) (W : List Int) (key nn : Int) (B gL cL : Nat) (vs : Nat → Value) (Ls : Nat → List Int) (X : World) (u0 u2 u6 u7 u8 u9 u10 u11 u13 u14 u15 u16 u17 u18 u19 u20 u21 u22 u23 u24 u25 u26 u27 u28 u29 u30 u31 u32 u33 u34 u35 u36 u37 u38 u39 u40 u41 u42 u43 u44 u45 u46 u47 u48 u49 u50 u51 u52 u53 u54 u55 u56 u57 u58 u59 u60 u61 u62 u63 u64 u65 u66 u67 u68 u69 u70 u71 u72 u73 u74 u75 u76 u77 u78 u79 u80 u81 u82 u83 u84 u85 u86 u87 u88 u89 u90 u91 u92 u93 u94 u95 u96 u97 u98 u99 u100 u101 u102 u103 u104 u105 u106 u107 u108 u109 u110 u111 u112 u113 u114 u115 u116 u117 u118 u119 u120 u121 u122 u123 u124 u125 u126 u127 u128 u129 u130 u131 u132 u133 u134 u135 u136 u137 u138 u139 u140 u141 u142 u143 u144 u145 u146 u147 u148 u149 u150 u151 u152 u153 u154 u155 u156 u157 u158 u159 u160 u161 u162 u163 u164 u165 u166 u167 u168 u169 u170 u171 u172 u173 u174 u175 u176 u177 u178 u179 u180 u181 u182 u183 u184 u185 u186 u187 u188 u189 u190 u191 u192 u193 u194 u195 u196 u197 u198 u199 u200 u201 u202 u203 u204 u205 u206 u207 u208 u209 u210 u211 u212 u213 u214 u215 u216 u217 u218 u219 u220 u221 u222 u223 u224 u225 u226 u227 u228 u229 u230 u231 u232 u233 u234 u235 u236 u237 u238 u239 u240 u241 u242 u243 u244 u245 u246 u247 u248 u249 u250 u251 u252 u253 u254 u255 u256 u257 u258 u259 u260 u261 u262 u263 u264 u265 u266 u267 u268 u269 u270 u271 u272 u273 u274 u275 u276 u277 u278 u279 u280 u281 u282 u283 u284 u285 u286 u287 u288 u289 u290 u291 u292 u293 u294 u295 u296 u297 u298 u299 u300 u301 u302 u303 : Value) (_hM : MB w w5 bT bw b o cT gw ow cw g3 c3 g5 c5 t W key nn) (_hB : w5.heap.size ≤ B) (_hY : Below w5.heap.size w5 X) (_hL : LLs B X 6 (.slice (some ⟨gL, 0, none⟩) 6 cL) vs Ls), Code.wp Try.prog (memFrom 10) (bodyPost Try.prog Try.f7 fun e w' => e = .returned (.bool true) ∧ Below w.heap.size w w') ⟨#[u0, .pointer (some ⟨w.heap.size, 0, none⟩), u2, .slice (some ⟨g3, 0, none⟩) (t.length + 1) c3, .slice (some ⟨g3, 0, none⟩) t.length c3, .slice (some ⟨g5, 0, none⟩) (W.length + 1) c5, u6, u7, u8, u9, u10, u11, .slice (some ⟨gL, 0, none⟩) 6 cL, u13, u14, u15, u16, u17, u18, u19, u20, u21, u22, u23, u24, u25, u26, u27, u28, u29, u30, u31, u32, u33, u34, u35, u36, u37, u38, u39, u40, u41, u42, u43, u44, u45, u46, u47, u48, u49, u50, u51, u52, u53, u54, u55, u56, u57, u58, u59, u60, u61, u62, u63, u64, u65, u66, u67, u68, u69, u70, u71, u72, u73, u74, u75, u76, u77, u78, u79, u80, u81, u82, u83, u84, u85, u86, u87, u88, u89, u90, u91, u92, u93, u94, u95, u96, u97, u98, u99, u100, u101, u102, u103, u104, u105, u106, u107, u108, u109, u110, u111, u112, u113, u114, u115, u116, u117, u118, u119, u120, u121, u122, u123, u124, u125, u126, u127, u128, u129, u130, u131, u132, u133, u134, u135, u136, u137, u138, u139, u140, u141, u142, u143, u144, u145, u146, u147, u148, u149, u150, u151, u152, u153, u154, u155, u156, u157, u158, u159, u160, u161, u162, u163, u164, u165, u166, u167, u168, u169, u170, u171, u172, u173, u174, u175, u176, u177, u178, u179, u180, u181, u182, u183, u184, u185, u186, u187, u188, u189, u190, u191, u192, u193, u194, u195, u196, u197, u198, u199, u200, u201, u202, u203, u204, u205, u206, u207, u208, u209, u210, u211, u212, u213, u214, u215, u216, u217, u218, u219, u220, u221, u222, u223, u224, u225, u226, u227, u228, u229, u230, u231, u232, u233, u234, u235, u236, u237, u238, u239, u240, u241, u242, u243, u244, u245, u246, u247, u248, u249, u250, u251, u252, u253, u254, u255, u256, u257, u258, u259, u260, u261, u262, u263, u264, u265, u266, u267, u268, u269, u270, u271, u272, u273, u274, u275, u276, u277, u278, u279, u280, u281, u282, u283, u284, u285, u286, u287, u288, u289, u290, u291, u292, u293, u294, u295, u296, u297, u298, u299, u300, u301, u302, u303], []⟩ X
set_option maxRecDepth 100000 in
def MemAt11 : Prop := ∀ (w w5 : World) (bT bw : Option Addr) (b o cT gw ow cw g3 c3 g5 c5 : Nat) (t : NL) (W : List Int) (key nn : Int) (B gL cL : Nat) (vs : Nat → Value) (Ls : Nat → List Int) (X : World) (u0 u2 u6 u7 u8 u9 u10 u11 u13 u14 u15 u16 u17 u18 u19 u20 u21 u22 u23 u24 u25 u26 u27 u28 u29 u30 u31 u32 u33 u34 u35 u36 u37 u38 u39 u40 u41 u42 u43 u44 u45 u46 u47 u48 u49 u50 u51 u52 u53 u54 u55 u56 u57 u58 u59 u60 u61 u62 u63 u64 u65 u66 u67 u68 u69 u70 u71 u72 u73 u74 u75 u76 u77 u78 u79 u80 u81 u82 u83 u84 u85 u86 u87 u88 u89 u90 u91 u92 u93 u94 u95 u96 u97 u98 u99 u100 u101 u102 u103 u104 u105 u106 u107 u108 u109 u110 u111 u112 u113 u114 u115 u116 u117 u118 u119 u120 u121 u122 u123 u124 u125 u126 u127 u128 u129 u130 u131 u132 u133 u134 u135 u136 u137 u138 u139 u140 u141 u142 u143 u144 u145 u146 u147 u148 u149 u150 u151 u152 u153 u154 u155 u156 u157 u158 u159 u160 u161 u162 u163 u164 u165 u166 u167 u168 u169 u170 u171 u172 u173 u174 u175 u176 u177 u178 u179 u180 u181 u182 u183 u184 u185 u186 u187 u188 u189 u190 u191 u192 u193 u194 u195 u196 u197 u198 u199 u200 u201 u202 u203 u204 u205 u206 u207 u208 u209 u210 u211 u212 u213 u214 u215 u216 u217 u218 u219 u220 u221 u222 u223 u224 u225 u226 u227 u228 u229 u230 u231 u232 u233 u234 u235 u236 u237 u238 u239 u240 u241 u242 u243 u244 u245 u246 u247 u248 u249 u250 u251 u252 u253 u254 u255 u256 u257 u258 u259 u260 u261 u262 u263 u264 u265 u266 u267 u268 u269 u270 u271 u272 u273 u274 u275 u276 u277 u278 u279 u280 u281 u282 u283 u284 u285 u286 u287 u288 u289 u290 u291 u292 u293 u294 u295 u296 u297 u298 u299 u300 u301 u302 u303 : Value) (_hM : MB w w5 bT bw b o cT gw ow cw g3 c3 g5 c5 t W key nn) (_hB : w5.heap.size ≤ B) (_hY : Below w5.heap.size w5 X) (_hL : LLs B X 6 (.slice (some ⟨gL, 0, none⟩) 6 cL) vs Ls) (_hA : ∀ q, q < 6 → ∀ p, p < (Ls q).length → (Ls q).getD p 0 = 200000 * (q : Int) + p), Code.wp Try.prog (memFrom 11) (bodyPost Try.prog Try.f7 fun e w' => e = .returned (.bool true) ∧ Below w.heap.size w w') ⟨#[u0, .pointer (some ⟨w.heap.size, 0, none⟩), u2, .slice (some ⟨g3, 0, none⟩) (t.length + 1) c3, .slice (some ⟨g3, 0, none⟩) t.length c3, .slice (some ⟨g5, 0, none⟩) (W.length + 1) c5, u6, u7, u8, u9, u10, u11, .slice (some ⟨gL, 0, none⟩) 6 cL, u13, u14, u15, u16, u17, u18, u19, u20, u21, u22, u23, u24, u25, u26, u27, u28, u29, u30, u31, u32, u33, u34, u35, u36, u37, u38, u39, u40, u41, u42, u43, u44, u45, u46, u47, u48, u49, u50, u51, u52, u53, u54, u55, u56, u57, u58, u59, u60, u61, u62, u63, u64, u65, u66, u67, u68, u69, u70, u71, u72, u73, u74, u75, u76, u77, u78, u79, u80, u81, u82, u83, u84, u85, u86, u87, u88, u89, u90, u91, u92, u93, u94, u95, u96, u97, u98, u99, u100, u101, u102, u103, u104, u105, u106, u107, u108, u109, u110, u111, u112, u113, u114, u115, u116, u117, u118, u119, u120, u121, u122, u123, u124, u125, u126, u127, u128, u129, u130, u131, u132, u133, u134, u135, u136, u137, u138, u139, u140, u141, u142, u143, u144, u145, u146, u147, u148, u149, u150, u151, u152, u153, u154, u155, u156, u157, u158, u159, u160, u161, u162, u163, u164, u165, u166, u167, u168, u169, u170, u171, u172, u173, u174, u175, u176, u177, u178, u179, u180, u181, u182, u183, u184, u185, u186, u187, u188, u189, u190, u191, u192, u193, u194, u195, u196, u197, u198, u199, u200, u201, u202, u203, u204, u205, u206, u207, u208, u209, u210, u211, u212, u213, u214, u215, u216, u217, u218, u219, u220, u221, u222, u223, u224, u225, u226, u227, u228, u229, u230, u231, u232, u233, u234, u235, u236, u237, u238, u239, u240, u241, u242, u243, u244, u245, u246, u247, u248, u249, u250, u251, u252, u253, u254, u255, u256, u257, u258, u259, u260, u261, u262, u263, u264, u265, u266, u267, u268, u269, u270, u271, u272, u273, u274, u275, u276, u277, u278, u279, u280, u281, u282, u283, u284, u285, u286, u287, u288, u289, u290, u291, u292, u293, u294, u295, u296, u297, u298, u299, u300, u301, u302, u303], []⟩ X
set_option maxRecDepth 100000 in
def MemAt12 : Prop := ∀ (w w5 : World) (bT bw : Option Addr) (b o cT gw ow cw g3 c3 g5 c5 : Nat) (t : NL) (W : List Int) (key nn : Int) (B gL cL : Nat) (vs : Nat → Value) (Ls : Nat → List Int) (X : World) (u0 u2 u6 u7 u8 u9 u10 u11 u13 u14 u15 u16 u17 u18 u19 u20 u21 u22 u23 u24 u25 u26 u27 u28 u29 u30 u31 u32 u33 u34 u35 u36 u37 u38 u39 u40 u41 u42 u43 u44 u45 u46 u47 u48 u49 u50 u51 u52 u53 u54 u55 u56 u57 u58 u59 u60 u61 u62 u63 u64 u65 u66 u67 u68 u69 u70 u71 u72 u73 u74 u75 u76 u77 u78 u79 u80 u81 u82 u83 u84 u85 u86 u87 u88 u89 u90 u91 u92 u93 u94 u95 u96 u97 u98 u99 u100 u101 u102 u103 u104 u105 u106 u107 u108 u109 u110 u111 u112 u113 u114 u115 u116 u117 u118 u119 u120 u121 u122 u123 u124 u125 u126 u127 u128 u129 u130 u131 u132 u133 u134 u135 u136 u137 u138 u139 u140 u141 u142 u143 u144 u145 u146 u147 u148 u149 u150 u151 u152 u153 u154 u155 u156 u157 u158 u159 u160 u161 u162 u163 u164 u165 u166 u167 u168 u169 u170 u171 u172 u173 u174 u175 u176 u177 u178 u179 u180 u181 u182 u183 u184 u185 u186 u187 u188 u189 u190 u191 u192 u193 u194 u195 u196 u197 u198 u199 u200 u201 u202 u203 u204 u205 u206 u207 u208 u209 u210 u211 u212 u213 u214 u215 u216 u217 u218 u219 u220 u221 u222 u223 u224 u225 u226 u227 u228 u229 u230 u231 u232 u233 u234 u235 u236 u237 u238 u239 u240 u241 u242 u243 u244 u245 u246 u247 u248 u249 u250 u251 u252 u253 u254 u255 u256 u257 u258 u259 u260 u261 u262 u263 u264 u265 u266 u267 u268 u269 u270 u271 u272 u273 u274 u275 u276 u277 u278 u279 u280 u281 u282 u283 u284 u285 u286 u287 u288 u289 u290 u291 u292 u293 u294 u295 u296 u297 u298 u299 u300 u301 u302 u303 : Value) (_hM : MB w w5 bT bw b o cT gw ow cw g3 c3 g5 c5 t W key nn) (_hB : w5.heap.size ≤ B) (_hY : Below w5.heap.size w5 X) (_hL : LLs B X 6 (.slice (some ⟨gL, 0, none⟩) 6 cL) vs Ls) (_hA : ∀ q, q < 6 → ∀ p, p < (Ls q).length → (Ls q).getD p 0 = 200000 * (q : Int) + p), Code.wp Try.prog (memFrom 12) (bodyPost Try.prog Try.f7 fun e w' => e = .returned (.bool true) ∧ Below w.heap.size w w') ⟨#[u0, .pointer (some ⟨w.heap.size, 0, none⟩), u2, .slice (some ⟨g3, 0, none⟩) (t.length + 1) c3, .slice (some ⟨g3, 0, none⟩) t.length c3, .slice (some ⟨g5, 0, none⟩) (W.length + 1) c5, u6, u7, u8, u9, u10, u11, .slice (some ⟨gL, 0, none⟩) 6 cL, u13, u14, u15, u16, u17, u18, u19, u20, u21, u22, u23, u24, u25, u26, u27, u28, u29, u30, u31, u32, u33, u34, u35, u36, u37, u38, u39, u40, u41, u42, u43, u44, u45, u46, u47, u48, u49, u50, u51, u52, u53, u54, u55, u56, u57, u58, u59, u60, u61, u62, u63, u64, u65, u66, u67, u68, u69, u70, u71, u72, u73, u74, u75, u76, u77, u78, u79, u80, u81, u82, u83, u84, u85, u86, u87, u88, u89, u90, u91, u92, u93, u94, u95, u96, u97, u98, u99, u100, u101, u102, u103, u104, u105, u106, u107, u108, u109, u110, u111, u112, u113, u114, u115, u116, u117, u118, u119, u120, u121, u122, u123, u124, u125, u126, u127, u128, u129, u130, u131, u132, u133, u134, u135, u136, u137, u138, u139, u140, u141, u142, u143, u144, u145, u146, u147, u148, u149, u150, u151, u152, u153, u154, u155, u156, u157, u158, u159, u160, u161, u162, u163, u164, u165, u166, u167, u168, u169, u170, u171, u172, u173, u174, u175, u176, u177, u178, u179, u180, u181, u182, u183, u184, u185, u186, u187, u188, u189, u190, u191, u192, u193, u194, u195, u196, u197, u198, u199, u200, u201, u202, u203, u204, u205, u206, u207, u208, u209, u210, u211, u212, u213, u214, u215, u216, u217, u218, u219, u220, u221, u222, u223, u224, u225, u226, u227, u228, u229, u230, u231, u232, u233, u234, u235, u236, u237, u238, u239, u240, u241, u242, u243, u244, u245, u246, u247, u248, u249, u250, u251, u252, u253, u254, u255, u256, u257, u258, u259, u260, u261, u262, u263, u264, u265, u266, u267, u268, u269, u270, u271, u272, u273, u274, u275, u276, u277, u278, u279, u280, u281, u282, u283, u284, u285, u286, u287, u288, u289, u290, u291, u292, u293, u294, u295, u296, u297, u298, u299, u300, u301, u302, u303], []⟩ X
set_option maxRecDepth 100000 in
def MemAt13 : Prop := ∀ (w w5 : World) (bT bw : Option Addr) (b o cT gw ow cw g3 c3 g5 c5 : Nat) (t : NL) (W : List Int) (key nn : Int) (X : World) (u0 u2 u6 u7 u8 u9 u10 u11 u12 u13 u14 u15 u16 u17 u18 u19 u20 u21 u22 u23 u24 u25 u26 u27 u28 u29 u30 u31 u32 u33 u34 u35 u36 u37 u38 u39 u40 u41 u42 u43 u44 u45 u46 u47 u48 u49 u50 u51 u52 u53 u54 u55 u56 u57 u58 u59 u60 u61 u62 u63 u64 u65 u66 u67 u68 u69 u70 u71 u72 u73 u74 u75 u76 u77 u78 u79 u80 u81 u82 u83 u84 u85 u86 u87 u88 u89 u90 u91 u92 u93 u94 u95 u96 u97 u98 u99 u100 u101 u102 u103 u104 u105 u106 u107 u108 u109 u110 u111 u112 u113 u114 u115 u116 u117 u118 u119 u120 u121 u122 u123 u124 u125 u126 u127 u128 u129 u130 u131 u132 u133 u134 u135 u136 u137 u138 u139 u140 u141 u142 u143 u144 u145 u146 u147 u148 u149 u150 u151 u152 u153 u154 u155 u156 u157 u158 u159 u160 u161 u162 u163 u164 u165 u166 u167 u168 u169 u170 u171 u172 u173 u174 u175 u176 u177 u178 u179 u180 u181 u182 u183 u184 u185 u186 u187 u188 u189 u190 u191 u192 u193 u194 u195 u196 u197 u198 u199 u200 u201 u202 u203 u204 u205 u206 u207 u208 u209 u210 u211 u212 u213 u214 u215 u216 u217 u218 u219 u220 u221 u222 u223 u224 u225 u226 u227 u228 u229 u230 u231 u232 u233 u234 u235 u236 u237 u238 u239 u240 u241 u242 u243 u244 u245 u246 u247 u248 u249 u250 u251 u252 u253 u254 u255 u256 u257 u258 u259 u260 u261 u262 u263 u264 u265 u266 u267 u268 u269 u270 u271 u272 u273 u274 u275 u276 u277 u278 u279 u280 u281 u282 u283 u284 u285 u286 u287 u288 u289 u290 u291 u292 u293 u294 u295 u296 u297 u298 u299 u300 u301 u302 u303 : Value) (_hM : MB w w5 bT bw b o cT gw ow cw g3 c3 g5 c5 t W key nn) (_hY : Below w5.heap.size w5 X), Code.wp Try.prog (memFrom 13) (bodyPost Try.prog Try.f7 fun e w' => e = .returned (.bool true) ∧ Below w.heap.size w w') ⟨#[u0, .pointer (some ⟨w.heap.size, 0, none⟩), u2, .slice (some ⟨g3, 0, none⟩) (t.length + 1) c3, .slice (some ⟨g3, 0, none⟩) t.length c3, .slice (some ⟨g5, 0, none⟩) (W.length + 1) c5, u6, u7, u8, u9, u10, u11, u12, u13, u14, u15, u16, u17, u18, u19, u20, u21, u22, u23, u24, u25, u26, u27, u28, u29, u30, u31, u32, u33, u34, u35, u36, u37, u38, u39, u40, u41, u42, u43, u44, u45, u46, u47, u48, u49, u50, u51, u52, u53, u54, u55, u56, u57, u58, u59, u60, u61, u62, u63, u64, u65, u66, u67, u68, u69, u70, u71, u72, u73, u74, u75, u76, u77, u78, u79, u80, u81, u82, u83, u84, u85, u86, u87, u88, u89, u90, u91, u92, u93, u94, u95, u96, u97, u98, u99, u100, u101, u102, u103, u104, u105, u106, u107, u108, u109, u110, u111, u112, u113, u114, u115, u116, u117, u118, u119, u120, u121, u122, u123, u124, u125, u126, u127, u128, u129, u130, u131, u132, u133, u134, u135, u136, u137, u138, u139, u140, u141, u142, u143, u144, u145, u146, u147, u148, u149, u150, u151, u152, u153, u154, u155, u156, u157, u158, u159, u160, u161, u162, u163, u164, u165, u166, u167, u168, u169, u170, u171, u172, u173, u174, u175, u176, u177, u178, u179, u180, u181, u182, u183, u184, u185, u186, u187, u188, u189, u190, u191, u192, u193, u194, u195, u196, u197, u198, u199, u200, u201, u202, u203, u204, u205, u206, u207, u208, u209, u210, u211, u212, u213, u214, u215, u216, u217, u218, u219, u220, u221, u222, u223, u224, u225, u226, u227, u228, u229, u230, u231, u232, u233, u234, u235, u236, u237, u238, u239, u240, u241, u242, u243, u244, u245, u246, u247, u248, u249, u250, u251, u252, u253, u254, u255, u256, u257, u258, u259, u260, u261, u262, u263, u264, u265, u266, u267, u268, u269, u270, u271, u272, u273, u274, u275, u276, u277, u278, u279, u280, u281, u282, u283, u284, u285, u286, u287, u288, u289, u290, u291, u292, u293, u294, u295, u296, u297, u298, u299, u300, u301, u302, u303], []⟩ X
set_option maxRecDepth 100000 in
def MemAt14 : Prop := ∀ (w w5 : World) (bT bw : Option Addr) (b o cT gw ow cw g3 c3 g5 c5 : Nat) (t : NL) (W : List Int) (key nn : Int) (X : World) (u0 u2 u6 u7 u8 u9 u10 u11 u12 u13 u14 u15 u16 u17 u18 u19 u20 u21 u22 u23 u24 u25 u26 u27 u28 u29 u30 u31 u32 u33 u34 u35 u36 u37 u38 u39 u40 u41 u42 u43 u44 u45 u46 u47 u48 u49 u50 u51 u52 u53 u54 u55 u56 u57 u58 u59 u60 u61 u62 u63 u64 u65 u66 u67 u68 u69 u70 u71 u72 u73 u74 u75 u76 u77 u78 u79 u80 u81 u82 u83 u84 u85 u86 u87 u88 u89 u90 u91 u92 u93 u94 u95 u96 u97 u98 u99 u100 u101 u102 u103 u104 u105 u106 u107 u108 u109 u110 u111 u112 u113 u114 u115 u116 u117 u118 u119 u120 u121 u122 u123 u124 u125 u126 u127 u128 u129 u130 u131 u132 u133 u134 u135 u136 u137 u138 u139 u140 u141 u142 u143 u144 u145 u146 u147 u148 u149 u150 u151 u152 u153 u154 u155 u156 u157 u158 u159 u160 u161 u162 u163 u164 u165 u166 u167 u168 u169 u170 u171 u172 u173 u174 u175 u176 u177 u178 u179 u180 u181 u182 u183 u184 u185 u186 u187 u188 u189 u190 u191 u192 u193 u194 u195 u196 u197 u198 u199 u200 u201 u202 u203 u204 u205 u206 u207 u208 u209 u210 u211 u212 u213 u214 u215 u216 u217 u218 u219 u220 u221 u222 u223 u224 u225 u226 u227 u228 u229 u230 u231 u232 u233 u234 u235 u236 u237 u238 u239 u240 u241 u242 u243 u244 u245 u246 u247 u248 u249 u250 u251 u252 u253 u254 u255 u256 u257 u258 u259 u260 u261 u262 u263 u264 u265 u266 u267 u268 u269 u270 u271 u272 u273 u274 u275 u276 u277 u278 u279 u280 u281 u282 u283 u284 u285 u286 u287 u288 u289 u290 u291 u292 u293 u294 u295 u296 u297 u298 u299 u300 u301 u302 u303 : Value) (_hM : MB w w5 bT bw b o cT gw ow cw g3 c3 g5 c5 t W key nn) (_hY : Below w5.heap.size w5 X), Code.wp Try.prog (memFrom 14) (bodyPost Try.prog Try.f7 fun e w' => e = .returned (.bool true) ∧ Below w.heap.size w w') ⟨#[u0, .pointer (some ⟨w.heap.size, 0, none⟩), u2, .slice (some ⟨g3, 0, none⟩) (t.length + 1) c3, .slice (some ⟨g3, 0, none⟩) t.length c3, .slice (some ⟨g5, 0, none⟩) (W.length + 1) c5, u6, u7, u8, u9, u10, u11, u12, u13, u14, u15, u16, u17, u18, u19, u20, u21, u22, u23, u24, u25, u26, u27, u28, u29, u30, u31, u32, u33, u34, u35, u36, u37, u38, u39, u40, u41, u42, u43, u44, u45, u46, u47, u48, u49, u50, u51, u52, u53, u54, u55, u56, u57, u58, u59, u60, u61, u62, u63, u64, u65, u66, u67, u68, u69, u70, u71, u72, u73, u74, u75, u76, u77, u78, u79, u80, u81, u82, u83, u84, u85, u86, u87, u88, u89, u90, u91, u92, u93, u94, u95, u96, u97, u98, u99, u100, u101, u102, u103, u104, u105, u106, u107, u108, u109, u110, u111, u112, u113, u114, u115, u116, u117, u118, u119, u120, u121, u122, u123, u124, u125, u126, u127, u128, u129, u130, u131, u132, u133, u134, u135, u136, u137, u138, u139, u140, u141, u142, u143, u144, u145, u146, u147, u148, u149, u150, u151, u152, u153, u154, u155, u156, u157, u158, u159, u160, u161, u162, u163, u164, u165, u166, u167, u168, u169, u170, u171, u172, u173, u174, u175, u176, u177, u178, u179, u180, u181, u182, u183, u184, u185, u186, u187, u188, u189, u190, u191, u192, u193, u194, u195, u196, u197, u198, u199, u200, u201, u202, u203, u204, u205, u206, u207, u208, u209, u210, u211, u212, u213, u214, u215, u216, u217, u218, u219, u220, u221, u222, u223, u224, u225, u226, u227, u228, u229, u230, u231, u232, u233, u234, u235, u236, u237, u238, u239, u240, u241, u242, u243, u244, u245, u246, u247, u248, u249, u250, u251, u252, u253, u254, u255, u256, u257, u258, u259, u260, u261, u262, u263, u264, u265, u266, u267, u268, u269, u270, u271, u272, u273, u274, u275, u276, u277, u278, u279, u280, u281, u282, u283, u284, u285, u286, u287, u288, u289, u290, u291, u292, u293, u294, u295, u296, u297, u298, u299, u300, u301, u302, u303], []⟩ X
set_option maxRecDepth 100000 in
def MemAt15 : Prop := ∀ (w w5 : World) (bT bw : Option Addr) (b o cT gw ow cw g3 c3 g5 c5 : Nat) (t : NL) (W : List Int) (key nn : Int) (t2 : NL) (X : World) (u0 u1 u2 u3 u5 u6 u7 u8 u9 u10 u11 u12 u13 u14 u15 u16 u17 u18 u19 u20 u21 u22 u23 u24 u25 u26 u27 u28 u29 u30 u31 u32 u33 u34 u35 u36 u37 u38 u39 u40 u41 u42 u43 u44 u45 u46 u47 u48 u49 u50 u51 u52 u53 u54 u55 u56 u57 u58 u59 u60 u61 u62 u63 u64 u65 u66 u67 u68 u69 u70 u71 u72 u73 u74 u75 u76 u77 u78 u79 u80 u81 u82 u83 u84 u85 u86 u87 u88 u89 u90 u91 u92 u93 u94 u95 u96 u97 u98 u99 u100 u101 u102 u103 u104 u105 u106 u107 u108 u109 u110 u111 u112 u113 u114 u115 u116 u117 u118 u119 u120 u121 u122 u123 u124 u125 u126 u127 u128 u129 u130 u131 u132 u133 u134 u135 u136 u137 u138 u139 u140 u141 u142 u143 u144 u145 u146 u147 u148 u149 u150 u151 u152 u153 u154 u155 u156 u157 u158 u159 u160 u161 u162 u163 u164 u165 u166 u167 u168 u169 u170 u171 u172 u173 u174 u175 u176 u177 u178 u179 u180 u181 u182 u183 u184 u185 u186 u187 u188 u189 u190 u191 u192 u193 u194 u195 u196 u197 u198 u199 u200 u201 u202 u203 u204 u205 u206 u207 u208 u209 u210 u211 u212 u213 u214 u215 u216 u217 u218 u219 u220 u221 u222 u223 u224 u225 u226 u227 u228 u229 u230 u231 u232 u233 u234 u235 u236 u237 u238 u239 u240 u241 u242 u243 u244 u245 u246 u247 u248 u249 u250 u251 u252 u253 u254 u255 u256 u257 u258 u259 u260 u261 u262 u263 u264 u265 u266 u267 u268 u269 u270 u271 u272 u273 u274 u275 u276 u277 u278 u279 u280 u281 u282 u283 u284 u285 u286 u287 u288 u289 u290 u291 u292 u293 u294 u295 u296 u297 u298 u299 u300 u301 u302 u303 : Value) (_hM : MB w w5 bT bw b o cT gw ow cw g3 c3 g5 c5 t W key nn) (_h2 : t2.length = t.length) (_hn : NodesAt X (some ⟨g3, 0, none⟩) g3 0 t2) (_hY : Below w.heap.size w X), Code.wp Try.prog (memFrom 15) (bodyPost Try.prog Try.f7 fun e w' => e = .returned (.bool true) ∧ Below w.heap.size w w') ⟨#[u0, u1, u2, u3, .slice (some ⟨g3, 0, none⟩) t.length c3, u5, u6, u7, u8, u9, u10, u11, u12, u13, u14, u15, u16, u17, u18, u19, u20, u21, u22, u23, u24, u25, u26, u27, u28, u29, u30, u31, u32, u33, u34, u35, u36, u37, u38, u39, u40, u41, u42, u43, u44, u45, u46, u47, u48, u49, u50, u51, u52, u53, u54, u55, u56, u57, u58, u59, u60, u61, u62, u63, u64, u65, u66, u67, u68, u69, u70, u71, u72, u73, u74, u75, u76, u77, u78, u79, u80, u81, u82, u83, u84, u85, u86, u87, u88, u89, u90, u91, u92, u93, u94, u95, u96, u97, u98, u99, u100, u101, u102, u103, u104, u105, u106, u107, u108, u109, u110, u111, u112, u113, u114, u115, u116, u117, u118, u119, u120, u121, u122, u123, u124, u125, u126, u127, u128, u129, u130, u131, u132, u133, u134, u135, u136, u137, u138, u139, u140, u141, u142, u143, u144, u145, u146, u147, u148, u149, u150, u151, u152, u153, u154, u155, u156, u157, u158, u159, u160, u161, u162, u163, u164, u165, u166, u167, u168, u169, u170, u171, u172, u173, u174, u175, u176, u177, u178, u179, u180, u181, u182, u183, u184, u185, u186, u187, u188, u189, u190, u191, u192, u193, u194, u195, u196, u197, u198, u199, u200, u201, u202, u203, u204, u205, u206, u207, u208, u209, u210, u211, u212, u213, u214, u215, u216, u217, u218, u219, u220, u221, u222, u223, u224, u225, u226, u227, u228, u229, u230, u231, u232, u233, u234, u235, u236, u237, u238, u239, u240, u241, u242, u243, u244, u245, u246, u247, u248, u249, u250, u251, u252, u253, u254, u255, u256, u257, u258, u259, u260, u261, u262, u263, u264, u265, u266, u267, u268, u269, u270, u271, u272, u273, u274, u275, u276, u277, u278, u279, u280, u281, u282, u283, u284, u285, u286, u287, u288, u289, u290, u291, u292, u293, u294, u295, u296, u297, u298, u299, u300, u301, u302, u303], []⟩ X
end Go.Proofs.Ytiencggnijfjoaa

namespace Go.Proofs.Ytiencggnijfjoaa

open Go.RowKit

attribute [local go_sem ↓] Go.wp_at_zero Go.wp_at_succ

set_option maxRecDepth 100000 in
set_option maxHeartbeats 4000000 in
theorem memat9 (next : MemAt10) : MemAt9 := by
  unfold MemAt9
  intro w w5 bT bw b o cT gw ow cw g3 c3 g5 c5 t W key nn a6 a7 a8 g6 c6 g7 c7 g8 c8 k X u0 u2 u9 u13 u14 u15 u16 u17 u18 u19 u20 u21 u22 u23 u24 u25 u26 u27 u28 u29 u30 u31 u32 u33 u34 u35 u36 u37 u38 u39 u40 u41 u42 u43 u44 u45 u46 u47 u48 u49 u50 u51 u52 u53 u54 u55 u56 u57 u58 u59 u60 u61 u62 u63 u64 u65 u66 u67 u68 u69 u70 u71 u72 u73 u74 u75 u76 u77 u78 u79 u80 u81 u82 u83 u84 u85 u86 u87 u88 u89 u90 u91 u92 u93 u94 u95 u96 u97 u98 u99 u100 u101 u102 u103 u104 u105 u106 u107 u108 u109 u110 u111 u112 u113 u114 u115 u116 u117 u118 u119 u120 u121 u122 u123 u124 u125 u126 u127 u128 u129 u130 u131 u132 u133 u134 u135 u136 u137 u138 u139 u140 u141 u142 u143 u144 u145 u146 u147 u148 u149 u150 u151 u152 u153 u154 u155 u156 u157 u158 u159 u160 u161 u162 u163 u164 u165 u166 u167 u168 u169 u170 u171 u172 u173 u174 u175 u176 u177 u178 u179 u180 u181 u182 u183 u184 u185 u186 u187 u188 u189 u190 u191 u192 u193 u194 u195 u196 u197 u198 u199 u200 u201 u202 u203 u204 u205 u206 u207 u208 u209 u210 u211 u212 u213 u214 u215 u216 u217 u218 u219 u220 u221 u222 u223 u224 u225 u226 u227 u228 u229 u230 u231 u232 u233 u234 u235 u236 u237 u238 u239 u240 u241 u242 u243 u244 u245 u246 u247 u248 u249 u250 u251 u252 u253 u254 u255 u256 u257 u258 u259 u260 u261 u262 u263 u264 u265 u266 u267 u268 u269 u270 u271 u272 u273 u274 u275 u276 u277 u278 u279 u280 u281 u282 u283 u284 u285 u286 u287 u288 u289 u290 u291 u292 u293 u294 u295 u296 u297 u298 u299 u300 u301 u302 u303 hM hk hY h6 h7 h8
  have HMB : Hid (MB w w5 bT bw b o cT gw ow cw g3 c3 g5 c5 t W key nn) := hM
  have N5 : Hid (∀ z, Below w5.heap.size w5 z → NodesAt z (some ⟨g3, 0, none⟩) g3 0 t) := hM.nodes
  have S5 : Hid (∀ z, Below w5.heap.size w5 z → WsAt z (some ⟨g5, 0, none⟩) g5 0 W) := hM.ws
  have CC : Hid (∀ z, Below w5.heap.size w5 z → z.cell? ⟨w.heap.size, 0, none⟩ = some (.slice bT t.length cT) ∧ z.cell? ⟨w.heap.size, 1, none⟩ = some (.slice bw W.length cw) ∧ z.cell? ⟨w.heap.size, 2, none⟩ = some (.int .i64 key)) := hM.CC
  have BL : Hid (∀ z, Below w5.heap.size w5 z → Below w.heap.size w z ∧ w.heap.size < z.heap.size) := hM.BL
  have Z8 : Hid (∀ z, Below X.heap.size X z → Below w5.heap.size w5 z) := fun z hz => hY.trans (hz.mono hY.size)
  have S6 : Hid (∀ z, Below X.heap.size X z → WsAt z a6 g6 0 (sumsO k)) := fun z hz => h6.below hz
  have S7' : Hid (∀ z, Below X.heap.size X z → WsAt z a7 g7 0 (redsO k)) := fun z hz => h7.below hz
  have N8 : Hid (∀ z, Below X.heap.size X z → NodesAt z a8 g8 0 (heavyA t W)) := fun z hz => h8.below hz
  have HK : Hid (Keyed t k) := hk
  have y8 := hY.size
  have hc5 := hM.hc5
  have HY8 : Hid (Below w5.heap.size w5 X) := hY
  have qE : (keyE t != keyE t) = false := by simp
  have qH : (heavyE t W != heavyE t W) = false := by simp
  clear hM hY h6 h7 h8 hk
  conv => arg 2; whnf
  go_upto_block 0 with fail
  go_cut [12, 13, 14, 15, 16, 17, 18, 19, 20, 21, 22] from 81 to 161 (fun s12 s13 s14 s15 s16 s17 s18 s19 s20 s21 s22 wx => ∃ (gL cL : Nat) (vs : Nat → Value) (Ls : Nat → List Int), s12 = .slice (some ⟨gL, 0, none⟩) 6 cL ∧ LLs X.heap.size wx 6 (.slice (some ⟨gL, 0, none⟩) 6 cL) vs Ls ∧ Below X.heap.size X wx)
  case first =>
    go_wp2_with fail
    go_loopw [12, 13] (fun vL kk wr => ∃ (j : Nat) (vs : Nat → Value) (Ls : Nat → List Int), j ≤ 2 ∧ kk = .int .i64 j ∧ LLs X.heap.size wr (3 * j) vL vs Ls ∧ Below X.heap.size X wr) (fun _ i _ => 2 - (intOf i).toNat)
    case atStart => exact ⟨0, fun _ => .slice none 0 0, fun _ => [], by omega, rfl, LLs.nil _ _ _ _, Below.refl _ _⟩
    case round =>
      obtain ⟨j, vs, Ls, hj, rfl, hL, hbz⟩ := hrel
      by_cases hj2 : j < 2
      · have dj : decide ((j : Int) < 2) = true := decide_eq_true (by omega)
        generalize wr = V0 at *
        have L0 : Hid (LLs X.heap.size V0 (3 * j) u12 vs Ls) := hL
        have B0 : Hid (Below X.heap.size X V0) := hbz
        have q0 := hbz.size
        clear hL hbz
        go_wp2_with fail
        refine (Sums_any _ g3 0 c3 t k _ (N5.out _ (Z8.out _ B0.out)) HK.out).mono ?_
        rintro e x1 ⟨y1, rfl, ho1, hb1⟩
        obtain ⟨s1a, s1c, rfl⟩ := own_slice ho1
        have O1 : Hid (World.ownsRow _ _ _ _ _ _ _) := ho1
        have B1 : Hid (Below X.heap.size X x1) := B0.out.trans (hb1.mono B0.out.size)
        have C1 : Hid (Below V0.heap.size V0 x1) := hb1
        have q1 := hb1.size
        clear ho1 hb1
        go_wp2_with fail
        refine (Reds_any _ g3 0 c3 t k _ (N5.out _ (Z8.out _ B1.out)) HK.out).mono ?_
        rintro e x2 ⟨y2, rfl, ho2, hb2⟩
        obtain ⟨s2a, s2c, rfl⟩ := own_slice ho2
        have O2 : Hid (World.ownsRow _ _ _ _ _ _ _) := ho2
        have O1' : Hid (World.ownsRow _ _ _ _ _ _ _) := owns_below O1.out hb2
        have B2 : Hid (Below X.heap.size X x2) := B1.out.trans (hb2.mono B1.out.size)
        have C2 : Hid (Below V0.heap.size V0 x2) := C1.out.trans (hb2.mono C1.out.size)
        have q2 := hb2.size
        clear ho2 hb2 B1 C1
        go_wp2_with fail
        refine (Overs_any _ g3 0 c3 t _ (N5.out _ (Z8.out _ B2.out))).mono ?_
        rintro e x3 ⟨y3, rfl, ho3, hb3⟩
        obtain ⟨s3a, s3c, rfl⟩ := own_slice ho3
        have O3 : Hid (World.ownsRow _ _ _ _ _ _ _) := ho3
        have P1 : Hid (World.ownsRow _ _ _ _ _ _ _) := owns_below O1'.out hb3
        have P2 : Hid (World.ownsRow _ _ _ _ _ _ _) := owns_below O2.out hb3
        have B3 : Hid (Below X.heap.size X x3) := B2.out.trans (hb3.mono B2.out.size)
        have C3 : Hid (Below V0.heap.size V0 x3) := C2.out.trans (hb3.mono C2.out.size)
        have q3 := hb3.size
        have bs : Hid (∀ g, Value.ownBlock (.slice s1a (sumsO k).length s1c) = some g → V0.heap.size ≤ g ∧ g < x1.heap.size) := owns_lt O1.out
        have br : Hid (∀ g, Value.ownBlock (.slice s2a (redsO k).length s2c) = some g → x1.heap.size ≤ g ∧ g < x2.heap.size) := owns_lt O2.out
        have bq : Hid (∀ g, Value.ownBlock (.slice s3a (ovsL (keysA t) (keysA t).length).length s3c) = some g → x2.heap.size ≤ g ∧ g < x3.heap.size) := owns_lt O3.out
        clear ho3 hb3 B2 C2 O1 O1' O2
        obtain ⟨e0, e1, e2⟩ := CC.out _ (Z8.out _ B3.out)
        have lt9 := (BL.out _ ((Z8.out _ B3.out))).2
        have w0' : (0 : Int) ≤ (W.length : Int) := Int.natCast_nonneg _
        have w1' : (W.length : Int) ≤ (c5 : Int) := by omega
        go_wp2_with fail
        refine (Heavy_any _ g3 0 c3 t _ g5 0 c5 W _ (N5.out _ (Z8.out _ B3.out)) (S5.out _ (Z8.out _ B3.out))).mono ?_
        rintro e x4 ⟨y4, rfl, ho4, hb4⟩
        obtain ⟨h4a, h4c, rfl⟩ := own_slice ho4
        have O4 : Hid (World.ownsRow _ _ _ _ _ _ _) := ho4
        have E4 : Hid (Below x3.heap.size x3 x4) := hb4
        have B4 : Hid (Below X.heap.size X x4) := B3.out.trans (hb4.mono B3.out.size)
        clear ho4 hb4 e0 e1 e2 lt9
        go_wp2_with fail
        refine (Sound_any _ g3 0 c3 t k _ (N5.out _ (Z8.out _ B4.out)) HK.out).mono ?_
        rintro e x5 ⟨rfl, hb5⟩
        have E5 : Hid (Below x4.heap.size x4 x5) := hb5
        have B5 : Hid (Below X.heap.size X x5) := B4.out.trans (hb5.mono B4.out.size)
        clear hb5
        go_wp2_with fail
        refine (Fits_any _ g3 0 c3 t _ (N5.out _ (Z8.out _ B5.out))).mono ?_
        rintro e x6 ⟨rfl, hb6⟩
        have E6 : Hid (Below x4.heap.size x4 x6) := E5.out.trans (hb6.mono E5.out.size)
        have B6 : Hid (Below X.heap.size X x6) := B5.out.trans (hb6.mono B5.out.size)
        clear hb6 E5 B5
        obtain ⟨e0, e1, e2⟩ := CC.out _ ((Z8.out _ B6.out))
        have lt9 := (BL.out _ ((Z8.out _ B6.out))).2
        go_wp2_with fail
        refine (First_any _ g3 0 c3 t key _ (N5.out _ (Z8.out _ B6.out))).mono ?_
        rintro e x7 ⟨rfl, hb7⟩
        have E7 : Hid (Below x4.heap.size x4 x7) := E6.out.trans (hb7.mono E6.out.size)
        have B7 : Hid (Below X.heap.size X x7) := B6.out.trans (hb7.mono B6.out.size)
        have A7 : Hid (Below x3.heap.size x3 x7) := E4.out.trans (E7.out.mono E4.out.size)
        clear hb7 E6 B6 e0 e1 e2 lt9
        have Q4 : Hid (World.ownsRow _ _ _ _ _ _ _) := owns_below O4.out E7.out
        have T1 : Hid (∀ z, Below x3.heap.size x3 z → z.ownsRow V0.heap.size 3 1 (.slice s1a (sumsO k).length s1c) (sumsO k).length (isC (sumsO k))) := fun z hz => owns_below P1.out hz
        have T2 : Hid (∀ z, Below x3.heap.size x3 z → z.ownsRow x1.heap.size 3 1 (.slice s2a (redsO k).length s2c) (redsO k).length (isC (redsO k))) := fun z hz => owns_below P2.out hz
        have T3 : Hid (∀ z, Below x3.heap.size x3 z → z.ownsRow x2.heap.size 3 1 (.slice s3a (ovsL (keysA t) (keysA t).length).length s3c) (ovsL (keysA t) (keysA t).length).length (isC (ovsL (keysA t) (keysA t).length))) := fun z hz => owns_below O3.out hz
        obtain ⟨z1a, z1c, z1g, z1e, -, -, hz1⟩ := ws_of_owns (T1.out _ A7.out)
        obtain ⟨z2a, z2c, z2g, z2e, -, -, hz2⟩ := ws_of_owns (T2.out _ A7.out)
        obtain ⟨z4a, z4c, z4g, z4e, -, -, hz4⟩ := nodes_of_owns Q4.out
        injection z1e with za1 _ zc1
        injection z2e with za2 _ zc2
        injection z4e with za4 _ zc4
        subst za1 zc1 za2 zc2 za4 zc4
        have V1 : Hid (WsAt x7 s1a z1g 0 (sumsO k)) := hz1
        have V2 : Hid (WsAt x7 s2a z2g 0 (redsO k)) := hz2
        have V4 : Hid (NodesAt x7 h4a z4g 0 (heavyA t W)) := hz4
        clear hz1 hz2 hz4 P1 P2 O3 O4
        go_wp2_with fail
        refine (sameInts_any s1a a6 z1g 0 s1c g6 0 c6 (sumsO k) (sumsO k) _ V1.out (S6.out _ B7.out)).mono ?_
        rintro e x8 ⟨rfl, hb8⟩
        rw [isEq_me]
        have B8 : Hid (Below X.heap.size X x8) := B7.out.trans (hb8.mono B7.out.size)
        have A8 : Hid (Below x3.heap.size x3 x8) := A7.out.trans (hb8.mono A7.out.size)
        have V2' : Hid (WsAt x8 s2a z2g 0 (redsO k)) := V2.out.below hb8
        have V4' : Hid (NodesAt x8 h4a z4g 0 (heavyA t W)) := V4.out.below hb8
        have Q8 : Hid (World.ownsRow _ _ _ _ _ _ _) := owns_below Q4.out hb8
        clear hb8 V1 V2 V4 Q4 B7 A7
        go_wp2_with fail
        refine (sameInts_any s2a a7 z2g 0 s2c g7 0 c7 (redsO k) (redsO k) _ V2'.out (S7'.out _ B8.out)).mono ?_
        rintro e x9 ⟨rfl, hb9⟩
        rw [isEq_me]
        have B9 : Hid (Below X.heap.size X x9) := B8.out.trans (hb9.mono B8.out.size)
        have A9 : Hid (Below x3.heap.size x3 x9) := A8.out.trans (hb9.mono A8.out.size)
        have V4 : Hid (NodesAt x9 h4a z4g 0 (heavyA t W)) := V4'.out.below hb9
        have Q9 : Hid (World.ownsRow _ _ _ _ _ _ _) := owns_below Q8.out hb9
        clear hb9 V2' V4' Q8 B8 A8
        go_wp2_with fail
        refine (vSame_any h4a a8 z4g 0 h4c g8 0 c8 (heavyA t W) (heavyA t W) _ V4.out (N8.out _ B9.out)).mono ?_
        rintro e x10 ⟨rfl, hb10⟩
        rw [nlEq_me]
        have A10 : Hid (Below x3.heap.size x3 x10) := A9.out.trans (hb10.mono A9.out.size)
        have Q10 : Hid (World.ownsRow _ _ _ _ _ _ _) := owns_below Q9.out hb10
        clear hb10 V4 Q9 B9 A9
        have hls1 := sums_len HK.out
        have hls2 := (keys_ok HK.out).2.2.1
        have hls3 : (ovsL (keysA t) (keysA t).length).length ≤ 100000 := Nat.le_trans (ovsL_len _ _) (keys_ok HK.out).1
        have U10 : Hid (x10.ownsRow x3.heap.size 54 6 (.slice h4a (heavyA t W).length h4c) (heavyA t W).length (ndCells (heavyA t W))) := Q10.out
        clear Q10
        generalize ovsL (keysA t) (keysA t).length = LO at *
        have hnh : Hid (∃ T' : NL, T'.length = (heavyA t W).length ∧ x10.ownsRow x3.heap.size 54 6 (.slice h4a (heavyA t W).length h4c) (heavyA t W).length (ndCells T')) := ⟨_, rfl, U10.out⟩
        clear U10
        go_upto_block 2 with fail
        go_cut [22] from 81 to 161 (fun s22 wx => Below x3.heap.size x3 wx)
        case first =>
          go_wp2_with fail
          go_loopw [22] (fun i wr => ∃ (q : Nat) (T' : NL), q ≤ (heavyA t W).length ∧ i = .int .i64 q ∧ T'.length = (heavyA t W).length ∧ wr.ownsRow x3.heap.size 54 6 (.slice h4a (heavyA t W).length h4c) (heavyA t W).length (ndCells T') ∧ Below x3.heap.size x3 wr) (fun i _ => (heavyA t W).length - (intOf i).toNat)
          case atStart =>
            obtain ⟨T', r1, r2⟩ := hnh.out
            exact ⟨0, T', Nat.zero_le _, rfl, r1, r2, A10.out⟩
          case round =>
            obtain ⟨q, T', hq, rfl, hT', hown, hbz⟩ := hrel
            by_cases hqn : q < (heavyA t W).length
            · have hown' : wr.ownsRow x3.heap.size 54 6 (.slice h4a T'.length h4c) T'.length (ndCells T') := by rw [hT']; exact hown
              obtain ⟨gh, ch, hv, gh1, gh2, hle, hmx, -, -⟩ := owns_some hown' (by omega)
              have hqm : (q : Int) + 1 ≤ 9223372036854775807 := by simp only [maxLen] at hmx; omega
              clear hle hmx
              injection hv with hv hx1 hx2
              subst hv
              clear hx1 hx2
              have M0 : Hid (MAt x3 wr gh h4c T') := ⟨hown', hbz⟩
              obtain ⟨⟨m0, f0⟩, ⟨m1, f1⟩, ⟨m2, f2⟩, ⟨m3, f3⟩, ⟨m4, f4⟩, m5, f5⟩ := M0.out.six' q (by omega)
              have HT' : Hid (T'.length = (heavyA t W).length) := hT'
              have i0 : (0 : Int) ≤ (q : Int) := Int.natCast_nonneg _
              have i1 : (q : Int) < ((heavyA t W).length : Int) := by omega
              have ng : IntKind.i64.wrap (-(j : Int)) = -(j : Int) := wrap_ok _ (by omega) (by omega)
              have HM : Hid _ := M0.out.put6' q ⟨-(j : Int), 0, 0, 0, 0, 0⟩ (by omega) gh1
              have HQ : Hid (q < (heavyA t W).length) := hqn
              clear hown hbz hown' hT' hqn
              go_wp2_with fail
              exact ⟨⟨q + 1, T'.set q ⟨-(j : Int), 0, 0, 0, 0, 0⟩, HQ.out, by go_num, by rw [List.length_set]; exact HT'.out, by have r := HM.out.own; rw [List.length_set, HT'.out] at r; exact r, HM.out.below⟩, by have h := HQ.out; simp [intOf]; omega⟩
            · obtain rfl : q = (heavyA t W).length := by omega
              have Bz : Hid (Below x3.heap.size x3 wr) := hbz
              clear hown hbz
              go_wp2_with fail
              go_meet
              exact Bz.out
        case rest =>
          generalize wc = y11 at *
          have Bz : Hid (Below x3.heap.size x3 y11) := hcut
          have Cz : Hid (Below V0.heap.size V0 y11) := C3.out.trans (Bz.out.mono C3.out.size)
          have B3z : Hid (Below X.heap.size X y11) := B3.out.trans (Bz.out.mono B3.out.size)
          have zz := Bz.out.size
          have TP : Hid (World.ownsRow _ _ _ _ _ _ _) := (L0.out.quiet Cz.out).top
          obtain ⟨j0, hj0, hy0, hy1, hy2⟩ := info_parts ll_info
          have hp : ∀ (g11 c11 : Nat) (w11 : World) (ob : Obj), w11.ownsRow X.heap.size 23 1 (.slice (some ⟨g11, 0, none⟩) (3 * j + 3) c11) (3 * j + 3) ((List.range (3 * j)).map vs ++ [.slice s1a (sumsO k).length s1c, .slice s2a (redsO k).length s2c, .slice s3a LO.length s3c]) → (y11.alloc ob).grownBy w11 u12.ownBlock → (u12.ownBlock = some g11 ∨ g11 = y11.heap.size + 1) → (∃ (vs' : Nat → Value) (Ls' : Nat → List Int), LLs X.heap.size w11 (3 * (j + 1)) (.slice (some ⟨g11, 0, none⟩) (3 * j + 3) c11) vs' Ls') ∧ Below X.heap.size X w11 := by
            intro g11 c11 w11 ob ho hg hat
            have e3 : 3 * (j + 1) = 3 * j + 3 := by omega
            rw [e3]
            refine ⟨⟨ext3 vs (3 * j) (.slice s1a (sumsO k).length s1c) (.slice s2a (redsO k).length s2c) (.slice s3a LO.length s3c), ext3 Ls (3 * j) (sumsO k) (redsO k) LO, ?_⟩, Below.grown (B3z.out.alloc B3z.out.size _) hg (by have := B3z.out.size; simp; omega) (fun k hk => (owns_lt TP.out k hk).1)⟩
            exact L0.out.push Cz.out (owns_down (T1.out _ Bz.out) (by omega)) (owns_down (T2.out _ Bz.out) (by omega)) (owns_down (T3.out _ Bz.out) (by omega)) hls1 hls2 hls3 (fun g h => (bs.out g h).1) (fun g h => by have := (br.out g h).1; omega) (fun g h => by have := (bq.out g h).1; omega) (fun g h h' => by have := (bs.out g h).2; have := (br.out g h').1; omega) (fun g h h' => by have := (bs.out g h).2; have := (bq.out g h').1; omega) (fun g h h' => by have := (br.out g h).2; have := (bq.out g h').1; omega) hg ho hat
          have HP : Hid (∀ (g11 c11 : Nat) (w11 : World) (ob : Obj), _) := hp
          clear hp
          clear hcut bs br bq T1 T2 T3 hls1 hls2 hls3 L0 C3 A10 hnh
          go_wp2_with (first | (at_builtin; have hqq := TP; (refine wpList_append_lies _ (by rfl) _ _ _ (by rfl) X.heap.size 23 j0 _ 1 24 ll_under hj0 hy0 hy1 hy2 rfl (by omega) _ (3 * j) _ (by rfl) (TP.out.alloc _) ⟨y11.heap.size, 0, none⟩ 3 3 [.slice s1a (sumsO k).length s1c, .slice s2a (redsO k).length s2c, .slice s3a LO.length s3c] (by rfl) (by rfl) (World.news_of_block (cs := #[.slice s1a (sumsO k).length s1c, .slice s2a (redsO k).length s2c, .slice s3a LO.length s3c]) (t := 23) (fr := (0, 0)) (heap_alloc_at _ _ _ (by simp))) (by simp [Value.oneCell']) (by omega) (by unfold maxLen; omega) (by omega) (by have := B3z.out.size; simp; omega) (y11.heap.size + 1) (by simp) ?_); intro g11 c11 w11 ho hg hat hl; have LP : Hid _ := HP.out g11 c11 w11 _ ho hg hat; clear ho hg hat hl hqq))
          obtain ⟨⟨vs', Ls', lp⟩, bp⟩ := LP.out
          exact ⟨⟨j + 1, vs', Ls', by omega, by go_num, lp, bp⟩, by simp [intOf]; omega⟩
      · obtain rfl : j = 2 := by omega
        have L0 : Hid (LLs X.heap.size wr 6 u12 vs Ls) := hL
        have B0 : Hid (Below X.heap.size X wr) := hbz
        obtain ⟨gL, cL, rfl, gL1, gL2, -⟩ := hL.cell (by omega)
        clear hL hbz
        go_wp2_with fail
        go_meet
        exact ⟨gL, cL, vs, Ls, rfl, L0.out, B0.out⟩
  case rest =>
    rename_i hK
    obtain ⟨gL, cL, vs, Ls, rfl, hL, hb⟩ := hcut
    refine hK _ _ ?_
    exact next w w5 bT bw b o cT gw ow cw g3 c3 g5 c5 t W key nn X.heap.size gL cL vs Ls wc _ _ _ _ _ _ _ _ _ _ _ _ _ _ _ _ _ _ _ _ _ _ _ _ _ _ _ _ _ _ _ _ _ _ _ _ _ _ _ _ _ _ _ _ _ _ _ _ _ _ _ _ _ _ _ _ _ _ _ _ _ _ _ _ _ _ _ _ _ _ _ _ _ _ _ _ _ _ _ _ _ _ _ _ _ _ _ _ _ _ _ _ _ _ _ _ _ _ _ _ _ _ _ _ _ _ _ _ _ _ _ _ _ _ _ _ _ _ _ _ _ _ _ _ _ _ _ _ _ _ _ _ _ _ _ _ _ _ _ _ _ _ _ _ _ _ _ _ _ _ _ _ _ _ _ _ _ _ _ _ _ _ _ _ _ _ _ _ _ _ _ _ _ _ _ _ _ _ _ _ _ _ _ _ _ _ _ _ _ _ _ _ _ _ _ _ _ _ _ _ _ _ _ _ _ _ _ _ _ _ _ _ _ _ _ _ _ _ _ _ _ _ _ _ _ _ _ _ _ _ _ _ _ _ _ _ _ _ _ _ _ _ _ _ _ _ _ _ _ _ _ _ _ _ _ _ _ _ _ _ _ _ _ _ _ _ _ _ _ _ _ _ _ _ _ _ _ _ _ _ _ _ _ _ _ _ _ _ _ _ _ _ _ _ _ _ _ _ _ HMB.out y8 (Z8.out _ hb) hL
end Go.Proofs.Ytiencggnijfjoaa

namespace Go.Proofs.Ytiencggnijfjoaa

open Go.RowKit

attribute [local go_sem ↓] Go.wp_at_zero Go.wp_at_succ

set_option maxRecDepth 100000 in
set_option maxHeartbeats 4000000 in
theorem memat10 (next : MemAt11) : MemAt10 := by
  unfold MemAt10
  intro w w5 bT bw b o cT gw ow cw g3 c3 g5 c5 t W key nn B gL cL vs Ls X u0 u2 u6 u7 u8 u9 u10 u11 u13 u14 u15 u16 u17 u18 u19 u20 u21 u22 u23 u24 u25 u26 u27 u28 u29 u30 u31 u32 u33 u34 u35 u36 u37 u38 u39 u40 u41 u42 u43 u44 u45 u46 u47 u48 u49 u50 u51 u52 u53 u54 u55 u56 u57 u58 u59 u60 u61 u62 u63 u64 u65 u66 u67 u68 u69 u70 u71 u72 u73 u74 u75 u76 u77 u78 u79 u80 u81 u82 u83 u84 u85 u86 u87 u88 u89 u90 u91 u92 u93 u94 u95 u96 u97 u98 u99 u100 u101 u102 u103 u104 u105 u106 u107 u108 u109 u110 u111 u112 u113 u114 u115 u116 u117 u118 u119 u120 u121 u122 u123 u124 u125 u126 u127 u128 u129 u130 u131 u132 u133 u134 u135 u136 u137 u138 u139 u140 u141 u142 u143 u144 u145 u146 u147 u148 u149 u150 u151 u152 u153 u154 u155 u156 u157 u158 u159 u160 u161 u162 u163 u164 u165 u166 u167 u168 u169 u170 u171 u172 u173 u174 u175 u176 u177 u178 u179 u180 u181 u182 u183 u184 u185 u186 u187 u188 u189 u190 u191 u192 u193 u194 u195 u196 u197 u198 u199 u200 u201 u202 u203 u204 u205 u206 u207 u208 u209 u210 u211 u212 u213 u214 u215 u216 u217 u218 u219 u220 u221 u222 u223 u224 u225 u226 u227 u228 u229 u230 u231 u232 u233 u234 u235 u236 u237 u238 u239 u240 u241 u242 u243 u244 u245 u246 u247 u248 u249 u250 u251 u252 u253 u254 u255 u256 u257 u258 u259 u260 u261 u262 u263 u264 u265 u266 u267 u268 u269 u270 u271 u272 u273 u274 u275 u276 u277 u278 u279 u280 u281 u282 u283 u284 u285 u286 u287 u288 u289 u290 u291 u292 u293 u294 u295 u296 u297 u298 u299 u300 u301 u302 u303 hM hB hY hL
  have HMB : Hid (MB w w5 bT bw b o cT gw ow cw g3 c3 g5 c5 t W key nn) := hM
  have L0 : Hid (LLs B X 6 (.slice (some ⟨gL, 0, none⟩) 6 cL) vs Ls) := hL
  have B0 : Hid (Below w5.heap.size w5 X) := hY
  have hBB : w5.heap.size ≤ B := hB
  clear hM hY hL hB
  conv => arg 2; whnf
  go_upto_block 4 with fail
  go_cut [23] from 162 to 186 (fun s23 wx => (∃ Ls' : Nat → List Int, LLs B wx 6 (.slice (some ⟨gL, 0, none⟩) 6 cL) vs Ls' ∧ ∀ q, q < 6 → ∀ p, p < (Ls' q).length → (Ls' q).getD p 0 = 200000 * (q : Int) + p) ∧ Below w5.heap.size w5 wx)
  case first =>
    go_wp2_with fail
    go_loopw [23] (fun i wr => ∃ (q : Nat) (Ls' : Nat → List Int), q ≤ 6 ∧ i = .int .i64 q ∧ LLs B wr 6 (.slice (some ⟨gL, 0, none⟩) 6 cL) vs Ls' ∧ (∀ q', q' < q → ∀ p, p < (Ls' q').length → (Ls' q').getD p 0 = 200000 * (q' : Int) + p) ∧ Below w5.heap.size w5 wr) (fun i _ => 6 - (intOf i).toNat)
    case atStart => exact ⟨0, Ls, by omega, rfl, L0.out, fun q hq => by omega, B0.out⟩
    case round =>
      obtain ⟨q, Ls1, hq, rfl, hL, hall, hbz⟩ := hrel
      by_cases hq6 : q < 6
      · have dq : decide ((q : Int) < 6) = true := decide_eq_true (by omega)
        have K0 : Hid (LLs B wr 6 (.slice (some ⟨gL, 0, none⟩) 6 cL) vs Ls1) := hL
        have HAL : Hid (∀ q', q' < q → ∀ p, p < (Ls1 q').length → (Ls1 q').getD p 0 = 200000 * (q' : Int) + p) := hall
        have BK : Hid (Below w5.heap.size w5 wr) := hbz
        have hsm := hL.small q hq6
        obtain ⟨va, vc, hv⟩ := own_slice (hL.row q hq6)
        clear hL hall hbz
        generalize wr = X1 at *
        go_upto_block 5 with fail
        go_cut [24] from 162 to 186 (fun s24 wx => (∃ Ls' : Nat → List Int, LLs B wx 6 (.slice (some ⟨gL, 0, none⟩) 6 cL) vs Ls' ∧ ∀ q', q' < q + 1 → ∀ p, p < (Ls' q').length → (Ls' q').getD p 0 = 200000 * (q' : Int) + p) ∧ Below w5.heap.size w5 wx)
        case first =>
          go_wp2_with fail
          go_loopw [24] (fun i wr => ∃ (p : Nat) (Ls' : Nat → List Int), p ≤ (Ls1 q).length ∧ i = .int .i64 p ∧ (Ls' q).length = (Ls1 q).length ∧ LLs B wr 6 (.slice (some ⟨gL, 0, none⟩) 6 cL) vs Ls' ∧ (∀ q', q' < q → ∀ p, p < (Ls' q').length → (Ls' q').getD p 0 = 200000 * (q' : Int) + p) ∧ (∀ p', p' < p → (Ls' q).getD p' 0 = 200000 * (q : Int) + p') ∧ Below w5.heap.size w5 wr) (fun i _ => (Ls1 q).length - (intOf i).toNat)
          case atStart => exact ⟨0, Ls1, Nat.zero_le _, rfl, rfl, K0.out, HAL.out, fun p hp => by omega, BK.out⟩
          case round =>
            obtain ⟨p, Ls2, hp, rfl, hlen, hL, hall, hpre, hbz⟩ := hrel
            obtain ⟨g', c', hv', -, gl', hc⟩ := hL.cell (by omega)
            injection hv' with hv1 hx1 hx2
            injection hv1 with hv1
            injection hv1 with hv1 hx3 hx4
            subst hv1
            clear hx1 hx2 hx3 hx4
            have r0 := hc q hq6
            rw [hv] at r0
            have q0' : (0 : Int) ≤ (q : Int) := Int.natCast_nonneg _
            have q1' : (q : Int) < 6 := by omega
            have p0 : (0 : Int) ≤ (p : Int) := Int.natCast_nonneg _
            by_cases hpl : p < (Ls1 q).length
            · obtain ⟨g2, c2, hv2, -, gl2, -, -, hc2, hf2⟩ := owns_some (hL.row q hq6) (by omega)
              rw [hv] at hv2
              injection hv2 with hv2 hxx hv3
              subst hv2 hv3
              have m1 := hc2 p (by omega)
              have f1 := hf2 p
              rw [isC_get _ p (by omega)] at m1
              have p1 : (p : Int) < ((Ls1 q).length : Int) := by omega
              have HPUT : Hid _ := hL.put hq6 (by rw [hv, hlen]) p (200000 * (q : Int) + p)
              have ge : w5.heap.size ≤ g2 := Nat.le_trans hBB (owns_lt (hL.row q hq6) g2 (by rw [hv]; rfl)).1
              have BZ : Hid (Below w5.heap.size w5 wr) := hbz
              have HN1 : Hid (∀ q', q' < q → ∀ p', p' < ((fun x => if x = q then (Ls2 q).set p (200000 * (q : Int) + p) else Ls2 x) q').length → ((fun x => if x = q then (Ls2 q).set p (200000 * (q : Int) + p) else Ls2 x) q').getD p' 0 = 200000 * (q' : Int) + p') := fun q' h' p' h'' => by
                have ne : q' ≠ q := by omega
                simp only [if_neg ne] at h'' ⊢
                exact hall q' h' p' h''
              have HN2 : Hid (∀ p', p' < p + 1 → ((fun x => if x = q then (Ls2 q).set p (200000 * (q : Int) + p) else Ls2 x) q).getD p' 0 = 200000 * (q : Int) + p') := fun p' h' => by
                simp only [if_pos]
                by_cases e : p' = p
                · subst e
                  rw [List.getD_eq_getElem?_getD, List.getElem?_set_self (by omega)]
                  rfl
                · rw [List.getD_eq_getElem?_getD, List.getElem?_set_ne (fun h => e h.symm), ← List.getD_eq_getElem?_getD]
                  exact hpre p' (by omega)
              have HN3 : Hid (((fun x => if x = q then (Ls2 q).set p (200000 * (q : Int) + p) else Ls2 x) q).length = (Ls1 q).length) := by
                show _ = _
                simp only [if_pos, List.length_set]
                exact hlen
              have ea : IntKind.i64.wrap (200000 * (q : Int)) = 200000 * (q : Int) := wrap_ok _ (by omega) (by omega)
              have eb : IntKind.i64.wrap (200000 * (q : Int) + (p : Int)) = 200000 * (q : Int) + (p : Int) := wrap_ok _ (by omega) (by omega)
              clear hL hall hpre hbz hc hc2 hf2 hxx hlen hv
              go_wp2_with fail
              exact ⟨⟨p + 1, _, by omega, by go_num, HN3.out, HPUT.out, HN1.out, HN2.out, BZ.out.setCell ge _⟩, by simp [intOf]; omega⟩
            · obtain rfl : p = (Ls1 q).length := by omega
              have RES : Hid (∃ Ls' : Nat → List Int, LLs B wr 6 (.slice (some ⟨gL, 0, none⟩) 6 cL) vs Ls' ∧ ∀ q', q' < q + 1 → ∀ p, p < (Ls' q').length → (Ls' q').getD p 0 = 200000 * (q' : Int) + p) := ⟨Ls2, hL, fun q' h' p' h'' => by
                by_cases e : q' = q
                · subst e; exact hpre p' (by omega)
                · exact hall q' (by omega) p' h''⟩
              have BZ : Hid (Below w5.heap.size w5 wr) := hbz
              clear hL hall hpre hbz hc
              go_wp2_with fail
              go_meet
              exact ⟨RES.out, BZ.out⟩
        case rest =>
          obtain ⟨⟨Ls3, hL3, hall3⟩, hb3⟩ := hcut
          have R3 : Hid (LLs B wc 6 (.slice (some ⟨gL, 0, none⟩) 6 cL) vs Ls3) := hL3
          have R4 : Hid (∀ q', q' < q + 1 → ∀ p, p < (Ls3 q').length → (Ls3 q').getD p 0 = 200000 * (q' : Int) + p) := hall3
          have R5 : Hid (Below w5.heap.size w5 wc) := hb3
          clear hL3 hall3 hb3
          go_wp2_with fail
          exact ⟨⟨q + 1, Ls3, by omega, by go_num, R3.out, R4.out, R5.out⟩, by simp [intOf]; omega⟩
      · obtain rfl : q = 6 := by omega
        have RES : Hid (∃ Ls' : Nat → List Int, LLs B wr 6 (.slice (some ⟨gL, 0, none⟩) 6 cL) vs Ls' ∧ ∀ q', q' < 6 → ∀ p, p < (Ls' q').length → (Ls' q').getD p 0 = 200000 * (q' : Int) + p) := ⟨Ls1, hL, hall⟩
        have BZ : Hid (Below w5.heap.size w5 wr) := hbz
        clear hL hall hbz
        go_wp2_with fail
        go_meet
        exact ⟨RES.out, BZ.out⟩
  case rest =>
    rename_i hK
    obtain ⟨⟨Ls3, hL3, hall3⟩, hb3⟩ := hcut
    refine hK _ _ ?_
    exact next w w5 bT bw b o cT gw ow cw g3 c3 g5 c5 t W key nn B gL cL vs Ls3 wc _ _ _ _ _ _ _ _ _ _ _ _ _ _ _ _ _ _ _ _ _ _ _ _ _ _ _ _ _ _ _ _ _ _ _ _ _ _ _ _ _ _ _ _ _ _ _ _ _ _ _ _ _ _ _ _ _ _ _ _ _ _ _ _ _ _ _ _ _ _ _ _ _ _ _ _ _ _ _ _ _ _ _ _ _ _ _ _ _ _ _ _ _ _ _ _ _ _ _ _ _ _ _ _ _ _ _ _ _ _ _ _ _ _ _ _ _ _ _ _ _ _ _ _ _ _ _ _ _ _ _ _ _ _ _ _ _ _ _ _ _ _ _ _ _ _ _ _ _ _ _ _ _ _ _ _ _ _ _ _ _ _ _ _ _ _ _ _ _ _ _ _ _ _ _ _ _ _ _ _ _ _ _ _ _ _ _ _ _ _ _ _ _ _ _ _ _ _ _ _ _ _ _ _ _ _ _ _ _ _ _ _ _ _ _ _ _ _ _ _ _ _ _ _ _ _ _ _ _ _ _ _ _ _ _ _ _ _ _ _ _ _ _ _ _ _ _ _ _ _ _ _ _ _ _ _ _ _ _ _ _ _ _ _ _ _ _ _ _ _ _ _ _ _ _ _ _ _ _ _ _ _ _ _ _ _ _ _ _ _ _ _ _ _ _ _ _ _ _ HMB.out hBB hb3 hL3 hall3
end Go.Proofs.Ytiencggnijfjoaa

namespace Go.Proofs.Ytiencggnijfjoaa

open Go.RowKit

attribute [local go_sem ↓] Go.wp_at_zero Go.wp_at_succ

set_option maxRecDepth 100000 in
set_option maxHeartbeats 4000000 in
theorem memat11 (next : MemAt12) : MemAt11 := by
  unfold MemAt11
  intro w w5 bT bw b o cT gw ow cw g3 c3 g5 c5 t W key nn B gL cL vs Ls X u0 u2 u6 u7 u8 u9 u10 u11 u13 u14 u15 u16 u17 u18 u19 u20 u21 u22 u23 u24 u25 u26 u27 u28 u29 u30 u31 u32 u33 u34 u35 u36 u37 u38 u39 u40 u41 u42 u43 u44 u45 u46 u47 u48 u49 u50 u51 u52 u53 u54 u55 u56 u57 u58 u59 u60 u61 u62 u63 u64 u65 u66 u67 u68 u69 u70 u71 u72 u73 u74 u75 u76 u77 u78 u79 u80 u81 u82 u83 u84 u85 u86 u87 u88 u89 u90 u91 u92 u93 u94 u95 u96 u97 u98 u99 u100 u101 u102 u103 u104 u105 u106 u107 u108 u109 u110 u111 u112 u113 u114 u115 u116 u117 u118 u119 u120 u121 u122 u123 u124 u125 u126 u127 u128 u129 u130 u131 u132 u133 u134 u135 u136 u137 u138 u139 u140 u141 u142 u143 u144 u145 u146 u147 u148 u149 u150 u151 u152 u153 u154 u155 u156 u157 u158 u159 u160 u161 u162 u163 u164 u165 u166 u167 u168 u169 u170 u171 u172 u173 u174 u175 u176 u177 u178 u179 u180 u181 u182 u183 u184 u185 u186 u187 u188 u189 u190 u191 u192 u193 u194 u195 u196 u197 u198 u199 u200 u201 u202 u203 u204 u205 u206 u207 u208 u209 u210 u211 u212 u213 u214 u215 u216 u217 u218 u219 u220 u221 u222 u223 u224 u225 u226 u227 u228 u229 u230 u231 u232 u233 u234 u235 u236 u237 u238 u239 u240 u241 u242 u243 u244 u245 u246 u247 u248 u249 u250 u251 u252 u253 u254 u255 u256 u257 u258 u259 u260 u261 u262 u263 u264 u265 u266 u267 u268 u269 u270 u271 u272 u273 u274 u275 u276 u277 u278 u279 u280 u281 u282 u283 u284 u285 u286 u287 u288 u289 u290 u291 u292 u293 u294 u295 u296 u297 u298 u299 u300 u301 u302 u303 hM hB hY hL hA
  have HMB : Hid (MB w w5 bT bw b o cT gw ow cw g3 c3 g5 c5 t W key nn) := hM
  have K0 : Hid (LLs B X 6 (.slice (some ⟨gL, 0, none⟩) 6 cL) vs Ls) := hL
  have Y0 : Hid (Below w5.heap.size w5 X) := hY
  clear hM hY hL
  obtain ⟨j0, hj0, hy0, hy1, hy2⟩ := info_parts in_info
  have HAA : Hid (∀ q, q < 6 → ∀ p, p < (Ls q).length → (Ls q).getD p 0 = 200000 * (q : Int) + p) := hA
  have hBB : w5.heap.size ≤ B := hB
  clear hA hB
  conv => arg 2; whnf
  go_upto_block 8 with fail
  go_cut [25] from 187 to 198 (fun s25 wx => LLs B wx 6 (.slice (some ⟨gL, 0, none⟩) 6 cL) vs Ls ∧ Below w5.heap.size w5 wx)
  case first =>
    go_wp2_with fail
    go_loopw [25] (fun i wr => ∃ j : Nat, j ≤ 6 ∧ i = .int .i64 j ∧ LLs B wr 6 (.slice (some ⟨gL, 0, none⟩) 6 cL) vs Ls ∧ Below w5.heap.size w5 wr) (fun i _ => 6 - (intOf i).toNat)
    case atStart => exact ⟨0, by omega, rfl, K0.out, Y0.out⟩
    case round =>
      obtain ⟨q, hq, rfl, hL, hbz⟩ := hrel
      by_cases hq6 : q < 6
      · have dq : decide ((q : Int) < 6) = true := decide_eq_true (by omega)
        have q0' : (0 : Int) ≤ (q : Int) := Int.natCast_nonneg _
        have q1' : (q : Int) < 6 := by omega
        obtain ⟨g', c', hv', -, gl', hc⟩ := hL.cell (by omega)
        injection hv' with hv1 hx1 hx2
        injection hv1 with hv1
        injection hv1 with hv1 hx3 hx4
        subst hv1
        clear hx1 hx2 hx3 hx4
        have hsm := hL.small q hq6
        obtain ⟨va, vc, hv⟩ := own_slice (hL.row q hq6)
        have r0 := hc q hq6
        rw [hv] at r0
        have RW : Hid (wr.ownsRow B 3 1 (.slice va (Ls q).length vc) (Ls q).length (isC (Ls q))) := by have := hL.row q hq6; rw [hv] at this; exact this
        have HG : Hid (∀ (o : Obj) (x : World), (wr.alloc o).grownBy x (Value.ownBlock (.slice va (Ls q).length vc)) → x.ownsRow B 3 1 (.slice va (Ls q).length vc) (Ls q).length (isC (Ls q)) → LLs B x 6 (.slice (some ⟨gL, 0, none⟩) 6 cL) vs Ls ∧ Below w5.heap.size w5 x) := fun o x h1 h2 => by
          have e1 := h1
          rw [← hv] at h1 h2
          refine ⟨hL.grow hq6 h1 h2, Below.grown (hbz.alloc hbz.size o) e1 (by have := hbz.size; rw [World.size_alloc]; omega) (fun k hk => ?_)⟩
          have := (owns_lt RW.out k hk).1
          omega
        clear hL hbz hc hv
        generalize Ls q = Lq at *
        go_wp2_with (first | (at_builtin; have hqq := RW; (refine wpList_append_keeps (by rfl) _ _ _ (by rfl) B 3 j0 _ 1 8 ins_under hj0 hy0 hy1 hy2 rfl _ Lq.length (isC Lq) (by rfl) (RW.out.alloc _) ⟨wr.heap.size, 0, none⟩ 2 2 [.int .i64 (-1), .int .i64 (-2)] (by rfl) (by rfl) (World.news_of_block (cs := #[.int .i64 (-1), .int .i64 (-2)]) (t := 3) (fr := (0, 0)) (heap_alloc_at _ _ _ (by simp))) (by simp [Value.oneCell']) (by omega) (by unfold maxLen; omega) (by omega) ?_); intro v11 w11 ho hg; have LP : Hid _ := HG.out _ w11 hg ho; clear ho hg hqq))
        obtain ⟨lp1, lp2⟩ := LP.out
        exact ⟨⟨q + 1, by omega, by go_num, lp1, lp2⟩, by simp [intOf]; omega⟩
      · obtain rfl : q = 6 := by omega
        have K1 : Hid (LLs B wr 6 (.slice (some ⟨gL, 0, none⟩) 6 cL) vs Ls) := hL
        have Y1 : Hid (Below w5.heap.size w5 wr) := hbz
        clear hL hbz
        go_wp2_with fail
        go_meet
        exact ⟨K1.out, Y1.out⟩
  case rest =>
    rename_i hK
    obtain ⟨c1, c2⟩ := hcut
    refine hK _ _ ?_
    exact next w w5 bT bw b o cT gw ow cw g3 c3 g5 c5 t W key nn B gL cL vs Ls wc _ _ _ _ _ _ _ _ _ _ _ _ _ _ _ _ _ _ _ _ _ _ _ _ _ _ _ _ _ _ _ _ _ _ _ _ _ _ _ _ _ _ _ _ _ _ _ _ _ _ _ _ _ _ _ _ _ _ _ _ _ _ _ _ _ _ _ _ _ _ _ _ _ _ _ _ _ _ _ _ _ _ _ _ _ _ _ _ _ _ _ _ _ _ _ _ _ _ _ _ _ _ _ _ _ _ _ _ _ _ _ _ _ _ _ _ _ _ _ _ _ _ _ _ _ _ _ _ _ _ _ _ _ _ _ _ _ _ _ _ _ _ _ _ _ _ _ _ _ _ _ _ _ _ _ _ _ _ _ _ _ _ _ _ _ _ _ _ _ _ _ _ _ _ _ _ _ _ _ _ _ _ _ _ _ _ _ _ _ _ _ _ _ _ _ _ _ _ _ _ _ _ _ _ _ _ _ _ _ _ _ _ _ _ _ _ _ _ _ _ _ _ _ _ _ _ _ _ _ _ _ _ _ _ _ _ _ _ _ _ _ _ _ _ _ _ _ _ _ _ _ _ _ _ _ _ _ _ _ _ _ _ _ _ _ _ _ _ _ _ _ _ _ _ _ _ _ _ _ _ _ _ _ _ _ _ _ _ _ _ _ _ _ _ _ _ _ _ _ HMB.out hBB c2 c1 HAA.out
end Go.Proofs.Ytiencggnijfjoaa

namespace Go.Proofs.Ytiencggnijfjoaa

open Go.RowKit

attribute [local go_sem ↓] Go.wp_at_zero Go.wp_at_succ

set_option maxRecDepth 100000 in
set_option maxHeartbeats 4000000 in
theorem memat12 (next : MemAt13) : MemAt12 := by
  unfold MemAt12
  intro w w5 bT bw b o cT gw ow cw g3 c3 g5 c5 t W key nn B gL cL vs Ls X u0 u2 u6 u7 u8 u9 u10 u11 u13 u14 u15 u16 u17 u18 u19 u20 u21 u22 u23 u24 u25 u26 u27 u28 u29 u30 u31 u32 u33 u34 u35 u36 u37 u38 u39 u40 u41 u42 u43 u44 u45 u46 u47 u48 u49 u50 u51 u52 u53 u54 u55 u56 u57 u58 u59 u60 u61 u62 u63 u64 u65 u66 u67 u68 u69 u70 u71 u72 u73 u74 u75 u76 u77 u78 u79 u80 u81 u82 u83 u84 u85 u86 u87 u88 u89 u90 u91 u92 u93 u94 u95 u96 u97 u98 u99 u100 u101 u102 u103 u104 u105 u106 u107 u108 u109 u110 u111 u112 u113 u114 u115 u116 u117 u118 u119 u120 u121 u122 u123 u124 u125 u126 u127 u128 u129 u130 u131 u132 u133 u134 u135 u136 u137 u138 u139 u140 u141 u142 u143 u144 u145 u146 u147 u148 u149 u150 u151 u152 u153 u154 u155 u156 u157 u158 u159 u160 u161 u162 u163 u164 u165 u166 u167 u168 u169 u170 u171 u172 u173 u174 u175 u176 u177 u178 u179 u180 u181 u182 u183 u184 u185 u186 u187 u188 u189 u190 u191 u192 u193 u194 u195 u196 u197 u198 u199 u200 u201 u202 u203 u204 u205 u206 u207 u208 u209 u210 u211 u212 u213 u214 u215 u216 u217 u218 u219 u220 u221 u222 u223 u224 u225 u226 u227 u228 u229 u230 u231 u232 u233 u234 u235 u236 u237 u238 u239 u240 u241 u242 u243 u244 u245 u246 u247 u248 u249 u250 u251 u252 u253 u254 u255 u256 u257 u258 u259 u260 u261 u262 u263 u264 u265 u266 u267 u268 u269 u270 u271 u272 u273 u274 u275 u276 u277 u278 u279 u280 u281 u282 u283 u284 u285 u286 u287 u288 u289 u290 u291 u292 u293 u294 u295 u296 u297 u298 u299 u300 u301 u302 u303 hM hB hY hL hA
  have HMB : Hid (MB w w5 bT bw b o cT gw ow cw g3 c3 g5 c5 t W key nn) := hM
  have K0 : Hid (LLs B X 6 (.slice (some ⟨gL, 0, none⟩) 6 cL) vs Ls) := hL
  have Y0 : Hid (Below w5.heap.size w5 X) := hY
  have HA : Hid (∀ q, q < 6 → ∀ p, p < (Ls q).length → (Ls q).getD p 0 = 200000 * (q : Int) + p) := hA
  obtain ⟨g', c', hv', -, gl', hc⟩ := hL.cell (by omega)
  injection hv' with hv1 hx1 hx2
  injection hv1 with hv1
  injection hv1 with hv1 hx3 hx4
  subst hv1
  clear hx1 hx2 hx3 hx4
  have HC : Hid (∀ i, i < 6 → X.cell? ⟨gL, i, none⟩ = some (vs i)) := hc
  clear hM hY hL hA hc
  conv => arg 2; whnf
  go_upto_block 10 with fail
  go_cut [26] from 199 to 225 (fun s26 wx => Below X.heap.size X wx)
  case first =>
    go_wp2_with fail
    go_loopw [26] (fun i wr => ∃ j : Nat, j ≤ 6 ∧ i = .int .i64 j ∧ Below X.heap.size X wr) (fun i _ => 6 - (intOf i).toNat)
    case atStart => exact ⟨0, by omega, rfl, Below.refl _ _⟩
    case round =>
      obtain ⟨q, hq, rfl, hbz⟩ := hrel
      have BZ : Hid (Below X.heap.size X wr) := hbz
      by_cases hq6 : q < 6
      · have dq : decide ((q : Int) < 6) = true := decide_eq_true (by omega)
        have q0' : (0 : Int) ≤ (q : Int) := Int.natCast_nonneg _
        have q1' : (q : Int) < 6 := by omega
        have hsm := K0.out.small q hq6
        obtain ⟨va, vc, hv⟩ := own_slice (K0.out.row q hq6)
        have r00 := HC.out q hq6
        rw [hv] at r00
        have HA1 := HA.out q hq6
        have HAQ : Hid (∀ p, p < (Ls q).length → (Ls q).getD p 0 = 200000 * (q : Int) + p) := HA1
        have RW : Hid (∀ z, Below X.heap.size X z → z.ownsRow B 3 1 (.slice va (Ls q).length vc) (Ls q).length (isC (Ls q))) := fun z hz => by have := owns_below (K0.out.row q hq6) hz; rw [hv] at this; exact this
        clear hbz HA1
        generalize hLq : Ls q = Lq at *
        clear hLq
        generalize wr = X1 at *
        go_upto_block 11 with fail
        go_cut [27] from 199 to 225 (fun s27 wx => Below X.heap.size X wx)
        case first =>
          go_wp2_with fail
          go_loopw [27] (fun i wr => ∃ p : Nat, p ≤ Lq.length ∧ i = .int .i64 p ∧ Below X.heap.size X wr) (fun i _ => Lq.length - (intOf i).toNat)
          case atStart => exact ⟨0, Nat.zero_le _, rfl, BZ.out⟩
          case round =>
            obtain ⟨p, hp, rfl, hb2⟩ := hrel
            have B2 : Hid (Below X.heap.size X wr) := hb2
            have zz := hb2.size
            have r0 := (hb2.cell (p := ⟨gL, q, none⟩) gl').trans r00
            have glr : gL < wr.heap.size := by omega
            have p0 : (0 : Int) ≤ (p : Int) := Int.natCast_nonneg _
            by_cases hpl : p < Lq.length
            · obtain ⟨g2, c2, hv2, -, gl2, -, -, hc2, -⟩ := owns_some (RW.out _ hb2) (by omega)
              injection hv2 with hv2 _ hv3
              subst hv2 hv3
              have m1 := hc2 p (by omega)
              rw [isC_get _ p (by omega), HAQ.out p hpl] at m1
              have p1 : (p : Int) < (Lq.length : Int) := by omega
              have ea : IntKind.i64.wrap (200000 * (q : Int)) = 200000 * (q : Int) := wrap_ok _ (by omega) (by omega)
              have eb : IntKind.i64.wrap (200000 * (q : Int) + (p : Int)) = 200000 * (q : Int) + (p : Int) := wrap_ok _ (by omega) (by omega)
              have dn : (200000 * (q : Int) + (p : Int) != 200000 * (q : Int) + (p : Int)) = false := by simp
              clear hb2 hc2
              go_wp2_with fail
              exact ⟨⟨p + 1, by omega, by go_num, B2.out⟩, by simp [intOf]; omega⟩
            · obtain rfl : p = Lq.length := by omega
              clear hb2
              go_wp2_with fail
              go_meet
              exact B2.out
        case rest =>
          have R5 : Hid (Below X.heap.size X wc) := hcut
          clear hcut
          go_wp2_with fail
          exact ⟨⟨q + 1, by omega, by go_num, R5.out⟩, by simp [intOf]; omega⟩
      · obtain rfl : q = 6 := by omega
        clear hbz
        go_wp2_with fail
        go_meet
        exact BZ.out
  case rest =>
    rename_i hK
    refine hK _ _ ?_
    exact next w w5 bT bw b o cT gw ow cw g3 c3 g5 c5 t W key nn wc _ _ _ _ _ _ _ _ _ _ _ _ _ _ _ _ _ _ _ _ _ _ _ _ _ _ _ _ _ _ _ _ _ _ _ _ _ _ _ _ _ _ _ _ _ _ _ _ _ _ _ _ _ _ _ _ _ _ _ _ _ _ _ _ _ _ _ _ _ _ _ _ _ _ _ _ _ _ _ _ _ _ _ _ _ _ _ _ _ _ _ _ _ _ _ _ _ _ _ _ _ _ _ _ _ _ _ _ _ _ _ _ _ _ _ _ _ _ _ _ _ _ _ _ _ _ _ _ _ _ _ _ _ _ _ _ _ _ _ _ _ _ _ _ _ _ _ _ _ _ _ _ _ _ _ _ _ _ _ _ _ _ _ _ _ _ _ _ _ _ _ _ _ _ _ _ _ _ _ _ _ _ _ _ _ _ _ _ _ _ _ _ _ _ _ _ _ _ _ _ _ _ _ _ _ _ _ _ _ _ _ _ _ _ _ _ _ _ _ _ _ _ _ _ _ _ _ _ _ _ _ _ _ _ _ _ _ _ _ _ _ _ _ _ _ _ _ _ _ _ _ _ _ _ _ _ _ _ _ _ _ _ _ _ _ _ _ _ _ _ _ _ _ _ _ _ _ _ _ _ _ _ _ _ _ _ _ _ _ _ _ _ _ _ _ _ _ _ _ _ HMB.out (Y0.out.trans (Below.mono hcut Y0.out.size))
end Go.Proofs.Ytiencggnijfjoaa

namespace Go.Proofs.Ytiencggnijfjoaa

open Go.RowKit

attribute [local go_sem ↓] Go.wp_at_zero Go.wp_at_succ

set_option maxRecDepth 100000 in
set_option maxHeartbeats 4000000 in
theorem memat13 (next : MemAt14) : MemAt13 := by
  unfold MemAt13
  intro w w5 bT bw b o cT gw ow cw g3 c3 g5 c5 t W key nn X u0 u2 u6 u7 u8 u9 u10 u11 u12 u13 u14 u15 u16 u17 u18 u19 u20 u21 u22 u23 u24 u25 u26 u27 u28 u29 u30 u31 u32 u33 u34 u35 u36 u37 u38 u39 u40 u41 u42 u43 u44 u45 u46 u47 u48 u49 u50 u51 u52 u53 u54 u55 u56 u57 u58 u59 u60 u61 u62 u63 u64 u65 u66 u67 u68 u69 u70 u71 u72 u73 u74 u75 u76 u77 u78 u79 u80 u81 u82 u83 u84 u85 u86 u87 u88 u89 u90 u91 u92 u93 u94 u95 u96 u97 u98 u99 u100 u101 u102 u103 u104 u105 u106 u107 u108 u109 u110 u111 u112 u113 u114 u115 u116 u117 u118 u119 u120 u121 u122 u123 u124 u125 u126 u127 u128 u129 u130 u131 u132 u133 u134 u135 u136 u137 u138 u139 u140 u141 u142 u143 u144 u145 u146 u147 u148 u149 u150 u151 u152 u153 u154 u155 u156 u157 u158 u159 u160 u161 u162 u163 u164 u165 u166 u167 u168 u169 u170 u171 u172 u173 u174 u175 u176 u177 u178 u179 u180 u181 u182 u183 u184 u185 u186 u187 u188 u189 u190 u191 u192 u193 u194 u195 u196 u197 u198 u199 u200 u201 u202 u203 u204 u205 u206 u207 u208 u209 u210 u211 u212 u213 u214 u215 u216 u217 u218 u219 u220 u221 u222 u223 u224 u225 u226 u227 u228 u229 u230 u231 u232 u233 u234 u235 u236 u237 u238 u239 u240 u241 u242 u243 u244 u245 u246 u247 u248 u249 u250 u251 u252 u253 u254 u255 u256 u257 u258 u259 u260 u261 u262 u263 u264 u265 u266 u267 u268 u269 u270 u271 u272 u273 u274 u275 u276 u277 u278 u279 u280 u281 u282 u283 u284 u285 u286 u287 u288 u289 u290 u291 u292 u293 u294 u295 u296 u297 u298 u299 u300 u301 u302 u303 hM hY
  have HMB : Hid (MB w w5 bT bw b o cT gw ow cw g3 c3 g5 c5 t W key nn) := hM
  have Y0 : Hid (Below w5.heap.size w5 X) := hY
  have N3 : Hid (∀ z, Below w5.heap.size w5 z → NodesAt z (some ⟨g3, 0, none⟩) g3 0 t) := hM.nodes
  have NT : Hid (∀ z, Below w5.heap.size w5 z → NodesAt z bT b o t) := hM.NT
  have S5 : Hid (∀ z, Below w5.heap.size w5 z → WsAt z (some ⟨g5, 0, none⟩) g5 0 W) := hM.ws
  have NW : Hid (∀ z, Below w5.heap.size w5 z → WsAt z bw gw ow W) := hM.NW
  have xs := hY.size
  have l3 := hM.lt3
  have l5 := hM.lt5
  have hc3 := hM.hc3
  have hc5 := hM.hc5
  obtain ⟨e0, e1, e2⟩ := hM.CC X hY
  have lw := (hM.BL X hY).2
  have l3x : g3 < X.heap.size := by omega
  have l5x : g5 < X.heap.size := by omega
  have t77 : X.cell? ⟨g3, t.length * 6, none⟩ = some (.int .i64 77) := by
    obtain ⟨g', c', hv, -, -, -, -, hc, -⟩ := owns_some (hM.OT X hY) (by omega)
    injection hv with hv _ _
    injection hv with hv
    injection hv with hv _ _
    subst hv
    rw [hc _ (by omega), ndCells_append, List.getElem?_append_right (by rw [ndCells_length]; omega), ndCells_length]
    simp [ndCells, n77]
  have w77 : X.cell? ⟨g5, W.length, none⟩ = some (.int .i64 77) := by
    obtain ⟨g', c', hv, -, -, -, -, hc, -⟩ := owns_some (hM.OW X hY) (by omega)
    injection hv with hv _ _
    injection hv with hv
    injection hv with hv _ _
    subst hv
    rw [hc _ (by omega), isC_append, List.getElem?_append_right (by rw [isC_length]; omega), isC_length]
    simp [isC]
  have z0 := BelowBy.cell lw e0
  have z1 := BelowBy.cell lw e1
  have z3 := BelowBy.cell l3x t77
  have z5 := BelowBy.cell l5x w77
  have BY : Hid (∀ p : BelowBy X, Below w5.heap.size w5 p.W) := fun p => Y0.out.trans (p.h.mono Y0.out.size)
  have SS : Hid (∀ p : BelowBy X, Calls Try.prog 38 #[.slice (some ⟨g3, 0, none⟩) t.length c3, .slice bT t.length cT] p.W fun e w' => e = .returned (.bool true) ∧ Below p.W.heap.size p.W w') := fun p => by
    have := vSame_any (some ⟨g3, 0, none⟩) bT g3 0 c3 b o cT t t p.W (N3.out _ (BY.out p)) (NT.out _ (BY.out p))
    rw [nlEq_me] at this
    exact this
  have SI : Hid (∀ p : BelowBy X, Calls Try.prog 12 #[.slice (some ⟨g5, 0, none⟩) W.length c5, .slice bw W.length cw] p.W fun e w' => e = .returned (.bool true) ∧ Below p.W.heap.size p.W w') := fun p => by
    have := sameInts_any (some ⟨g5, 0, none⟩) bw g5 0 c5 gw ow cw W W p.W (S5.out _ (BY.out p)) (NW.out _ (BY.out p))
    rw [isEq_me] at this
    exact this
  have n0 : (0 : Int) ≤ (t.length : Int) := Int.natCast_nonneg _
  have n1 : (t.length : Int) < ((t.length + 1 : Nat) : Int) := by omega
  have n1' : (t.length : Int) < (t.length : Int) + 1 := by omega
  have m0 : (0 : Int) ≤ (W.length : Int) := Int.natCast_nonneg _
  have m1 : (W.length : Int) < ((W.length + 1 : Nat) : Int) := by omega
  have m1' : (W.length : Int) < (W.length : Int) + 1 := by omega
  have m2 : (W.length : Int) ≤ (c5 : Int) := by omega
  clear hM hY e0 e1 e2 t77 w77 N3 NT S5 NW
  conv => arg 2; whnf
  go_wp2_with fail
  refine wp_region_below (by kernel_rfl) (by kernel_rfl) ?_
  repeat (go_big_quiet_step (first | (go_at_call 38; exact below_call (SS.out _)) | (go_at_call 12; exact below_call (SI.out _))))
  refine wpQuiet_nil ?_
  rintro _ ⟨p, rfl⟩
  have PB : Hid (Below w5.heap.size w5 p.W) := BY.out p
  clear z0 z1 z3 z5 SS SI BY
  generalize p.W = Z at *
  go_upto_if 259 with fail
  go_cut [] from 226 to 259 (fun wx => Below w5.heap.size w5 wx)
  case first =>
    go_wp2_with fail
    go_meet
    exact PB.out
  case rest =>
    rename_i hK
    refine hK _ _ ?_
    exact next w w5 bT bw b o cT gw ow cw g3 c3 g5 c5 t W key nn wc _ _ _ _ _ _ _ _ _ _ _ _ _ _ _ _ _ _ _ _ _ _ _ _ _ _ _ _ _ _ _ _ _ _ _ _ _ _ _ _ _ _ _ _ _ _ _ _ _ _ _ _ _ _ _ _ _ _ _ _ _ _ _ _ _ _ _ _ _ _ _ _ _ _ _ _ _ _ _ _ _ _ _ _ _ _ _ _ _ _ _ _ _ _ _ _ _ _ _ _ _ _ _ _ _ _ _ _ _ _ _ _ _ _ _ _ _ _ _ _ _ _ _ _ _ _ _ _ _ _ _ _ _ _ _ _ _ _ _ _ _ _ _ _ _ _ _ _ _ _ _ _ _ _ _ _ _ _ _ _ _ _ _ _ _ _ _ _ _ _ _ _ _ _ _ _ _ _ _ _ _ _ _ _ _ _ _ _ _ _ _ _ _ _ _ _ _ _ _ _ _ _ _ _ _ _ _ _ _ _ _ _ _ _ _ _ _ _ _ _ _ _ _ _ _ _ _ _ _ _ _ _ _ _ _ _ _ _ _ _ _ _ _ _ _ _ _ _ _ _ _ _ _ _ _ _ _ _ _ _ _ _ _ _ _ _ _ _ _ _ _ _ _ _ _ _ _ _ _ _ _ _ _ _ _ _ _ _ _ _ _ _ _ _ _ _ _ _ _ _ HMB.out hcut
end Go.Proofs.Ytiencggnijfjoaa

namespace Go.Proofs.Ytiencggnijfjoaa

open Go.RowKit

attribute [local go_sem ↓] Go.wp_at_zero Go.wp_at_succ

theorem nodes_take {w : World} {base : Option Addr} {b o : Nat} {T : NL} (h : NodesAt w base b o T) (n : Nat) : NodesAt w base b o (T.take n) := by
  have hl : (T.take n).length ≤ T.length := by rw [List.length_take]; omega
  refine ⟨fun q => h.base (by omega), fun q => h.lt (by omega), fun i hi => ?_, by have := h.len; omega⟩
  have e : ndAt (T.take n) i = ndAt T i := by
    unfold ndAt
    rw [List.length_take] at hi
    rw [List.getD_eq_getElem?_getD, List.getD_eq_getElem?_getD, List.getElem?_take_of_lt (by omega)]
  rw [e]
  exact h.cells i (by omega)
set_option maxRecDepth 100000 in
set_option maxHeartbeats 4000000 in
theorem memat14 (next : MemAt15) : MemAt14 := by
  unfold MemAt14
  intro w w5 bT bw b o cT gw ow cw g3 c3 g5 c5 t W key nn X u0 u2 u6 u7 u8 u9 u10 u11 u12 u13 u14 u15 u16 u17 u18 u19 u20 u21 u22 u23 u24 u25 u26 u27 u28 u29 u30 u31 u32 u33 u34 u35 u36 u37 u38 u39 u40 u41 u42 u43 u44 u45 u46 u47 u48 u49 u50 u51 u52 u53 u54 u55 u56 u57 u58 u59 u60 u61 u62 u63 u64 u65 u66 u67 u68 u69 u70 u71 u72 u73 u74 u75 u76 u77 u78 u79 u80 u81 u82 u83 u84 u85 u86 u87 u88 u89 u90 u91 u92 u93 u94 u95 u96 u97 u98 u99 u100 u101 u102 u103 u104 u105 u106 u107 u108 u109 u110 u111 u112 u113 u114 u115 u116 u117 u118 u119 u120 u121 u122 u123 u124 u125 u126 u127 u128 u129 u130 u131 u132 u133 u134 u135 u136 u137 u138 u139 u140 u141 u142 u143 u144 u145 u146 u147 u148 u149 u150 u151 u152 u153 u154 u155 u156 u157 u158 u159 u160 u161 u162 u163 u164 u165 u166 u167 u168 u169 u170 u171 u172 u173 u174 u175 u176 u177 u178 u179 u180 u181 u182 u183 u184 u185 u186 u187 u188 u189 u190 u191 u192 u193 u194 u195 u196 u197 u198 u199 u200 u201 u202 u203 u204 u205 u206 u207 u208 u209 u210 u211 u212 u213 u214 u215 u216 u217 u218 u219 u220 u221 u222 u223 u224 u225 u226 u227 u228 u229 u230 u231 u232 u233 u234 u235 u236 u237 u238 u239 u240 u241 u242 u243 u244 u245 u246 u247 u248 u249 u250 u251 u252 u253 u254 u255 u256 u257 u258 u259 u260 u261 u262 u263 u264 u265 u266 u267 u268 u269 u270 u271 u272 u273 u274 u275 u276 u277 u278 u279 u280 u281 u282 u283 u284 u285 u286 u287 u288 u289 u290 u291 u292 u293 u294 u295 u296 u297 u298 u299 u300 u301 u302 u303 hM hY
  have HMB : Hid (MB w w5 bT bw b o cT gw ow cw g3 c3 g5 c5 t W key nn) := hM
  have M0 : Hid (MAt w X g3 c3 (t ++ [n77])) := ⟨by rw [List.length_append]; exact hM.OT X hY, (hM.BL X hY).1⟩
  have ge : w.heap.size ≤ g3 := (owns_lt (hM.OT X hY) g3 rfl).1
  have hTb := hM.hTb
  clear hM hY
  conv => arg 2; whnf
  go_upto_block 14 with fail
  go_cut [28] from 260 to 278 (fun s28 wx => ∃ T : NL, T.length = t.length + 1 ∧ MAt w wx g3 c3 T)
  case first =>
    go_wp2_with fail
    go_loopw [28] (fun i wr => ∃ (j : Nat) (T : NL), j ≤ t.length ∧ i = .int .i64 j ∧ T.length = t.length + 1 ∧ MAt w wr g3 c3 T) (fun i _ => t.length - (intOf i).toNat)
    case atStart => exact ⟨0, _, Nat.zero_le _, rfl, by simp, M0.out⟩
    case round =>
      obtain ⟨j, T, hj, rfl, hTl, hMt⟩ := hrel
      by_cases hlt : j < t.length
      · obtain ⟨m1, f1⟩ := hMt.wt j (by omega)
        have glt := hMt.lt.2
        have MT : Hid (MAt w wr g3 c3 T) := hMt
        have HT : Hid (T.length = t.length + 1) := hTl
        have hTl' : j < T.length := by omega
        have j0 : (0 : Int) ≤ (j : Int) := Int.natCast_nonneg _
        have j1 : (j : Int) < (t.length : Int) := by omega
        clear hMt hTl
        generalize (ndAt T j).wt = q at *
        go_wp2_with fail
        exact ⟨⟨j + 1, _, by omega, by go_num, by rw [setW_length]; exact HT.out, MT.out.putW j _ hTl' ge⟩, by simp [intOf]; omega⟩
      · obtain rfl : j = t.length := by omega
        have MT : Hid (MAt w wr g3 c3 T) := hMt
        have HT : Hid (T.length = t.length + 1) := hTl
        clear hMt hTl
        go_wp2_with fail
        go_meet
        exact ⟨T, HT.out, MT.out⟩
  case rest =>
    rename_i hK
    obtain ⟨T, hTl, hMt⟩ := hcut
    generalize wc = Z at *
    have hn := hMt.nodes
    have hb := hMt.below
    refine hK _ _ ?_
    exact next w w5 bT bw b o cT gw ow cw g3 c3 g5 c5 t W key nn (T.take t.length) Z _ _ _ _ _ _ _ _ _ _ _ _ _ _ _ _ _ _ _ _ _ _ _ _ _ _ _ _ _ _ _ _ _ _ _ _ _ _ _ _ _ _ _ _ _ _ _ _ _ _ _ _ _ _ _ _ _ _ _ _ _ _ _ _ _ _ _ _ _ _ _ _ _ _ _ _ _ _ _ _ _ _ _ _ _ _ _ _ _ _ _ _ _ _ _ _ _ _ _ _ _ _ _ _ _ _ _ _ _ _ _ _ _ _ _ _ _ _ _ _ _ _ _ _ _ _ _ _ _ _ _ _ _ _ _ _ _ _ _ _ _ _ _ _ _ _ _ _ _ _ _ _ _ _ _ _ _ _ _ _ _ _ _ _ _ _ _ _ _ _ _ _ _ _ _ _ _ _ _ _ _ _ _ _ _ _ _ _ _ _ _ _ _ _ _ _ _ _ _ _ _ _ _ _ _ _ _ _ _ _ _ _ _ _ _ _ _ _ _ _ _ _ _ _ _ _ _ _ _ _ _ _ _ _ _ _ _ _ _ _ _ _ _ _ _ _ _ _ _ _ _ _ _ _ _ _ _ _ _ _ _ _ _ _ _ _ _ _ _ _ _ _ _ _ _ _ _ _ _ _ _ _ _ _ _ _ _ _ _ _ _ _ _ _ _ _ _ _ _ _ _ _ _ HMB.out (by rw [List.length_take]; omega) (nodes_take hn t.length) hb
end Go.Proofs.Ytiencggnijfjoaa

namespace Go.Proofs.Ytiencggnijfjoaa

open Go.RowKit

attribute [local go_sem ↓] Go.wp_at_zero Go.wp_at_succ

set_option maxRecDepth 100000 in
set_option maxHeartbeats 4000000 in
theorem memat15 : MemAt15 := by
  unfold MemAt15
  intro w w5 bT bw b o cT gw ow cw g3 c3 g5 c5 t W key nn t2 X u0 u1 u2 u3 u5 u6 u7 u8 u9 u10 u11 u12 u13 u14 u15 u16 u17 u18 u19 u20 u21 u22 u23 u24 u25 u26 u27 u28 u29 u30 u31 u32 u33 u34 u35 u36 u37 u38 u39 u40 u41 u42 u43 u44 u45 u46 u47 u48 u49 u50 u51 u52 u53 u54 u55 u56 u57 u58 u59 u60 u61 u62 u63 u64 u65 u66 u67 u68 u69 u70 u71 u72 u73 u74 u75 u76 u77 u78 u79 u80 u81 u82 u83 u84 u85 u86 u87 u88 u89 u90 u91 u92 u93 u94 u95 u96 u97 u98 u99 u100 u101 u102 u103 u104 u105 u106 u107 u108 u109 u110 u111 u112 u113 u114 u115 u116 u117 u118 u119 u120 u121 u122 u123 u124 u125 u126 u127 u128 u129 u130 u131 u132 u133 u134 u135 u136 u137 u138 u139 u140 u141 u142 u143 u144 u145 u146 u147 u148 u149 u150 u151 u152 u153 u154 u155 u156 u157 u158 u159 u160 u161 u162 u163 u164 u165 u166 u167 u168 u169 u170 u171 u172 u173 u174 u175 u176 u177 u178 u179 u180 u181 u182 u183 u184 u185 u186 u187 u188 u189 u190 u191 u192 u193 u194 u195 u196 u197 u198 u199 u200 u201 u202 u203 u204 u205 u206 u207 u208 u209 u210 u211 u212 u213 u214 u215 u216 u217 u218 u219 u220 u221 u222 u223 u224 u225 u226 u227 u228 u229 u230 u231 u232 u233 u234 u235 u236 u237 u238 u239 u240 u241 u242 u243 u244 u245 u246 u247 u248 u249 u250 u251 u252 u253 u254 u255 u256 u257 u258 u259 u260 u261 u262 u263 u264 u265 u266 u267 u268 u269 u270 u271 u272 u273 u274 u275 u276 u277 u278 u279 u280 u281 u282 u283 u284 u285 u286 u287 u288 u289 u290 u291 u292 u293 u294 u295 u296 u297 u298 u299 u300 u301 u302 u303 hM h2 hn hY
  have HMB : Hid (MB w w5 bT bw b o cT gw ow cw g3 c3 g5 c5 t W key nn) := hM
  have N0 : Hid (NodesAt X (some ⟨g3, 0, none⟩) g3 0 t2) := hn
  have Y0 : Hid (Below w.heap.size w X) := hY
  have hTb := hM.hTb
  clear hM hn hY
  rw [← h2]
  have hl2 : t2.length * 48 ≤ 140737488355328 := by omega
  clear h2 hTb
  obtain ⟨k, hk⟩ := keyed_of t2
  have HK : Hid (Keyed t2 k) := hk
  clear hk
  conv => arg 2; whnf
  go_wp2_with fail
  refine (copied_any _ g3 0 c3 t2 _ N0.out (fun q => by cases q) hl2).mono ?_
  rintro e x1 ⟨y1, rfl, ho1, hb1⟩
  obtain ⟨a1, c1, g1, rfl, -, -, hn1⟩ := nodes_of_owns ho1
  have N1 : Hid (NodesAt x1 a1 g1 0 t2) := hn1
  have M1 : Hid (NodesAt x1 (some ⟨g3, 0, none⟩) g3 0 t2) := N0.out.below hb1
  have Y1 : Hid (Below w.heap.size w x1) := Y0.out.trans (hb1.mono Y0.out.size)
  clear ho1 hn1 hb1
  go_wp2_with fail
  refine (Violations_any _ g3 0 c3 t2 k _ M1.out HK.out).mono ?_
  rintro e x2 ⟨rfl, hb2⟩
  have N2 : Hid (NodesAt x2 a1 g1 0 t2) := N1.out.below hb2
  have M2 : Hid (NodesAt x2 (some ⟨g3, 0, none⟩) g3 0 t2) := M1.out.below hb2
  have Y2 : Hid (Below w.heap.size w x2) := Y1.out.trans (hb2.mono Y1.out.size)
  clear hb2
  generalize hvv : vioO k = vv
  have EV : Hid (vioO k = vv) := hvv
  clear hvv
  go_wp2_with fail
  refine (vViolations_any a1 g1 0 c1 t2 k _ N2.out HK.out).mono ?_
  rintro e x3 ⟨rfl, hb3⟩
  rw [EV.out]
  have N3 : Hid (NodesAt x3 a1 g1 0 t2) := N2.out.below hb3
  have M3 : Hid (NodesAt x3 (some ⟨g3, 0, none⟩) g3 0 t2) := M2.out.below hb3
  have Y3 : Hid (Below w.heap.size w x3) := Y2.out.trans (hb3.mono Y2.out.size)
  clear hb3
  have q1 : (vv == vv) = true := by simp
  have q2 : (keyE t2 == keyE t2) = true := by simp
  go_wp2_with fail
  refine (vSame_any _ a1 g3 0 c3 g1 0 c1 t2 t2 _ M3.out N3.out).mono ?_
  rintro e x4 ⟨rfl, hb4⟩
  rw [nlEq_me]
  have Y4 : Hid (Below w.heap.size w x4) := Y3.out.trans (hb4.mono Y3.out.size)
  clear hb4
  go_wp2_with fail
  go_ret
  exact ⟨rfl, Y4.out⟩
end Go.Proofs.Ytiencggnijfjoaa

namespace Go.Proofs.Ytiencggnijfjoaa

open Go.RowKit

attribute [local go_sem ↓] Go.wp_at_zero Go.wp_at_succ

theorem mem9 : MemAt9 := memat9 (memat10 (memat11 (memat12 (memat13 (memat14 memat15)))))
theorem news_kept {Z w5 : World} {row : Option Nat} {k : Nat} {cs : Array Value} {T : TypeId} (hg : Z.grownBy w5 row) (hz : Z.heap[k]? = some (.cells cs T)) (hne : some k ≠ row) : ∀ j u, cs.toList[j]? = some u → w5.cell? ((⟨k, 0, none⟩ : Addr).add j) = some u :=
  World.news_of_block ((hg.block k (Array.getElem?_eq_some_iff.1 hz).1 hne).trans hz)
set_option maxRecDepth 100000 in
set_option maxHeartbeats 8000000 in
theorem weighMemory_any (bT : Option Addr) (b o cT : Nat) (t : NL) (bw : Option Addr) (gw ow cw : Nat) (W : List Int) (key nn : Int) (w : World) (h : NodesAt w bT b o t) (hTn : bT = none → t.length = 0 ∧ cT = 0) (hTb : t.length * 48 ≤ 140737488351232) (hw : WsAt w bw gw ow W) (hWn : bw = none → W.length = 0 ∧ cw = 0) (hWb : W.length * 8 ≤ 140737488351232) :
    Calls Try.prog 7 #[.agg #[.slice bT t.length cT, .slice bw W.length cw, .int .i64 key, .int .i64 nn]] w fun e w' => e = .returned (.bool true) ∧ Below w.heap.size w w' := by
  have HTN : Hid (bT = none → t.length = 0 ∧ cT = 0) := hTn
  have HWN : Hid (bw = none → W.length = 0 ∧ cw = 0) := hWn
  obtain ⟨i0, hi0, hz0, hz1, hz2⟩ := info_parts nd_info'
  have hmk : ∀ w : World, (Instr.makeSlice 22 (.int .i64 0) (.int .i64 ((t.length : Int) + 1))).run Try.prog w = .ok (.slice (some ⟨w.heap.size, 0, none⟩) 0 (t.length + 1)) (w.alloc (.cells (madeCells #[.int .i64 0, .int .i64 0, .int .i64 0, .int .i64 0, .int .i64 0, .int .i64 0] ((t.length + 1) * 6)) 54)) := fun w => by
    have := run_make_room (P := Try.prog) 22 54 (.agg #[.int .i64 0, .int .i64 0, .int .i64 0, .int .i64 0, .int .i64 0, .int .i64 0]) 6 48 nds_under' nd_info' (t.length + 1) (by omega) (by omega) w
    simpa [Value.cells] using this
  have htl : (0 : Int) ≤ (t.length : Int) := Int.natCast_nonneg _
  have e1 : IntKind.i64.wrap ((t.length : Int) + 1) = (t.length : Int) + 1 := by rw [IntKind.wrap_i64] <;> omega
  generalize hW1 : w.alloc (.cells #[.slice bT t.length cT, .slice bw W.length cw, .int .i64 key, .int .i64 nn] 25) = W1
  have hs1 : W1.heap.size = w.heap.size + 1 := by rw [← hW1]; simp
  have hb1 : Below w.heap.size w W1 := by rw [← hW1]; exact below_alloc _ _
  have hbk : W1.heap[w.heap.size]? = some (.cells #[.slice bT t.length cT, .slice bw W.length cw, .int .i64 key, .int .i64 nn] 25) := by rw [← hW1]; exact heap_alloc_at _ _ _ rfl
  have NT : Hid (∀ z, Below W1.heap.size W1 z → NodesAt z bT b o t) := fun z hz => (h.below hb1).below hz
  have NW : Hid (∀ z, Below W1.heap.size W1 z → WsAt z bw gw ow W) := fun z hz => (hw.below hb1).below hz
  have CC : Hid (∀ z, Below W1.heap.size W1 z → z.cell? ⟨w.heap.size, 0, none⟩ = some (.slice bT t.length cT) ∧ z.cell? ⟨w.heap.size, 1, none⟩ = some (.slice bw W.length cw) ∧ z.cell? ⟨w.heap.size, 2, none⟩ = some (.int .i64 key)) := fun z hz => by
    have e := (hz.block _ (by omega)).trans hbk
    exact ⟨by simp [World.cell?, e], by simp [World.cell?, e], by simp [World.cell?, e]⟩
  have BL : Hid (∀ z, Below W1.heap.size W1 z → Below w.heap.size w z ∧ w.heap.size < z.heap.size) := fun z hz => ⟨hb1.trans (hz.mono hb1.size), by have := hz.size; omega⟩
  clear h hw hTn hWn hb1 hbk
  go_enter Try.func7, Try.ntmps7
  go_wp2_with fail
  clear hW1
  refine (fixed_any _).mono ?_
  rintro e w2 ⟨rfl, hb2⟩
  have H2 : Hid (Below W1.heap.size W1 w2) := hb2
  have H2d : Hid (Below W1.heap.size W1 w2.drew) := hb2.drew
  obtain ⟨e0, e1', e2⟩ := CC.out _ H2.out
  have lt2 := (BL.out _ H2.out).2
  clear hb2
  go_upto_region 3 with fail
  have BA : Hid (∀ o, Below W1.heap.size W1 (w2.drew.alloc o)) := fun o => H2d.out.alloc H2d.out.size o
  have BA2 : Hid (∀ o o', Below W1.heap.size W1 ((w2.drew.alloc o).alloc o')) := fun o o' => (BA.out o).alloc (BA.out o).size o'
  have BB : Hid (∀ o, Below w2.heap.size w2 (w2.drew.alloc o)) := fun o => (Below.refl _ _).drew.alloc (Nat.le_refl _) o
  have F3 : Hid (((w2.alloc (.cells (madeCells #[.int .i64 0, .int .i64 0, .int .i64 0, .int .i64 0, .int .i64 0, .int .i64 0] ((t.length + 1) * 6)) 54)).alloc (.cells #[.int .i64 77, .int .i64 0, .int .i64 0, .int .i64 0, .int .i64 0, .int .i64 0] 54)).drew.heap[w2.heap.size + 1]? = some (.cells #[.int .i64 77, .int .i64 0, .int .i64 0, .int .i64 0, .int .i64 0, .int .i64 0] 54)) := heap_alloc_at (w2.alloc (.cells (madeCells #[.int .i64 0, .int .i64 0, .int .i64 0, .int .i64 0, .int .i64 0, .int .i64 0] ((t.length + 1) * 6)) 54)) (.cells #[.int .i64 77, .int .i64 0, .int .i64 0, .int .i64 0, .int .i64 0, .int .i64 0] 54) _ (by simp)
  have F2 : Hid (((w2.alloc (.cells #[.int .i64 77, .int .i64 0, .int .i64 0, .int .i64 0, .int .i64 0, .int .i64 0] 54)).alloc (.cells (madeCells #[.int .i64 0, .int .i64 0, .int .i64 0, .int .i64 0, .int .i64 0, .int .i64 0] ((t.length + 1) * 6)) 54)).drew.heap[w2.heap.size]? = some (.cells #[.int .i64 77, .int .i64 0, .int .i64 0, .int .i64 0, .int .i64 0, .int .i64 0] 54)) := (heap_alloc_old (w2.alloc (.cells #[.int .i64 77, .int .i64 0, .int .i64 0, .int .i64 0, .int .i64 0, .int .i64 0] 54)) (.cells (madeCells #[.int .i64 0, .int .i64 0, .int .i64 0, .int .i64 0, .int .i64 0, .int .i64 0] ((t.length + 1) * 6)) 54) (by simp)).trans (heap_alloc_at w2 (.cells #[.int .i64 77, .int .i64 0, .int .i64 0, .int .i64 0, .int .i64 0, .int .i64 0] 54) _ rfl)
  have OM1 : Hid ((w2.alloc (.cells (madeCells #[.int .i64 0, .int .i64 0, .int .i64 0, .int .i64 0, .int .i64 0, .int .i64 0] ((t.length + 1) * 6)) 54)).drew.ownsRow w2.heap.size 54 6 (.slice (some ⟨w2.heap.size, 0, none⟩) 0 (t.length + 1)) 0 []) := (World.ownsRow_made w2 _ (t.length + 1) (Nat.le_refl _) (by unfold maxLen; omega) (size_madeCells _ _)).drew
  have OM2 : Hid (((w2.alloc (.cells #[.int .i64 77, .int .i64 0, .int .i64 0, .int .i64 0, .int .i64 0, .int .i64 0] 54)).alloc (.cells (madeCells #[.int .i64 0, .int .i64 0, .int .i64 0, .int .i64 0, .int .i64 0, .int .i64 0] ((t.length + 1) * 6)) 54)).drew.ownsRow w2.heap.size 54 6 (.slice (some ⟨w2.heap.size + 1, 0, none⟩) 0 (t.length + 1)) 0 []) := by
    have q := (World.ownsRow_made (base := w2.heap.size) (e := 54) (size := 6) (w2.alloc (.cells #[.int .i64 77, .int .i64 0, .int .i64 0, .int .i64 0, .int .i64 0, .int .i64 0] 54)) (madeCells #[.int .i64 0, .int .i64 0, .int .i64 0, .int .i64 0, .int .i64 0, .int .i64 0] ((t.length + 1) * 6)) (t.length + 1) (by simp) (by unfold maxLen; omega) (size_madeCells _ _)).drew
    rw [World.size_alloc] at q
    exact q
  have OM3 : Hid (((w2.alloc (.cells (madeCells #[.int .i64 0, .int .i64 0, .int .i64 0, .int .i64 0, .int .i64 0, .int .i64 0] ((t.length + 1) * 6)) 54)).alloc (.cells #[.int .i64 77, .int .i64 0, .int .i64 0, .int .i64 0, .int .i64 0, .int .i64 0] 54)).drew.ownsRow w2.heap.size 54 6 (.slice (some ⟨w2.heap.size, 0, none⟩) 0 (t.length + 1)) 0 []) := ((World.ownsRow_made w2 _ (t.length + 1) (Nat.le_refl _) (by unfold maxLen; omega) (size_madeCells _ _)).alloc _).drew
  have BC : Hid (∀ o, Below w2.heap.size w2 (w2.alloc o).drew) := fun o => (below_alloc _ o).drew
  have BC2 : Hid (∀ o o', Below w2.heap.size w2 ((w2.alloc o).alloc o').drew) := fun o o' => ((below_alloc _ o).alloc (below_alloc _ o).size o').drew
  have BB2 : Hid (∀ o o', Below w2.heap.size w2 ((w2.drew.alloc o).alloc o')) := fun o o' => (BB.out o).alloc (BB.out o).size o'
  go_cut [3] from 35 to 45 (fun c wx => ∃ g cp, c = .slice (some ⟨g, 0, none⟩) (t.length + 1) cp ∧ wx.ownsRow w2.heap.size 54 6 (.slice (some ⟨g, 0, none⟩) (t.length + 1) cp) (t.length + 1) (ndCells (t ++ [n77])) ∧ Below w2.heap.size w2 wx)
  case first =>
    go_wp2_with fail
    go_region_held3 (fun w' => w'.cell? ⟨w.heap.size, 0, none⟩ = some (.slice bT t.length cT))
      (first | (with_reducible exact X5.out) | (with_reducible exact X6.out) | go_keep)
      (first
        | ((refine step_append_all (by rfl) _ _ _ (by rfl) w2.heap.size 54 i0 _ 6 48 nds_under' hi0 hz0 hz1 hz2 rfl (by omega) (.slice (some ⟨_, 0, none⟩) 0 (t.length + 1)) 0 [] (by rfl) (by first | exact OM1.out | exact OM2.out | exact OM3.out) bT t.length cT (ndCells t) (by rfl) HTN.out (ndCells_length _) (nodes_news (NT.out _ (by first | exact BA.out _ | exact BA2.out _ _))) (ndCells_all _) (by unfold maxLen; omega) (by omega) (by first | (simp; done) | (simp; omega)) ?_; intro v5 w5 hown5 hgrow5 hiff5; have D5 : Hid (Below w2.heap.size w2 w5) := (by first | exact Below.grown (BC.out _) hgrow5 (BC.out _).size (by intro k hk; simp [Value.ownBlock] at hk; omega) | exact Below.grown (BC2.out _ _) hgrow5 (BC2.out _ _).size (by intro k hk; simp [Value.ownBlock] at hk; omega)); have X5 : Hid (w5.cell? ⟨w.heap.size, 0, none⟩ = some (.slice bT t.length cT)) := (CC.out _ (H2.out.trans (D5.out.mono H2.out.size))).1; rw [Nat.zero_add, List.nil_append] at hown5; have O5 : Hid (World.ownsRow _ _ _ _ _ _ _) := hown5; clear hown5))
        | ((refine step_append_lies _ (by rfl) _ _ _ (by rfl) w2.heap.size 54 i0 _ 6 48 nds_under' hi0 hz0 hz1 hz2 rfl (by omega) _ t.length (ndCells t) (by rfl) (by first | exact O5.out | exact O5.out.alloc _) _ 1 1 [.int .i64 77, .int .i64 0, .int .i64 0, .int .i64 0, .int .i64 0, .int .i64 0] (by rfl) (by rfl) (by first | exact news_kept hgrow5 F3.out (by intro q; simp [Value.ownBlock] at q) | exact news_kept hgrow5 F2.out (by intro q; simp [Value.ownBlock] at q) | exact World.news_of_block (cs := #[.int .i64 77, .int .i64 0, .int .i64 0, .int .i64 0, .int .i64 0, .int .i64 0]) (t := 54) (fr := (0, 0)) (heap_alloc_at _ _ _ (by simp))) (by simp [Value.oneCell']) (by omega) (by unfold maxLen; omega) (by omega) (by have := D5.out.size; first | exact this | (simp; omega)) _ rfl ?_; intro g6 c6 w6 hown6 hgrow6 hat6 hlt6; have D6 : Hid (Below w2.heap.size w2 w6) := (by first | exact Below.grown D5.out hgrow6 D5.out.size (fun k hk => (owns_lt O5.out k hk).1) | exact Below.grown (D5.out.alloc D5.out.size _) hgrow6 (by have := D5.out.size; simp; omega) (fun k hk => (owns_lt O5.out k hk).1)); have X6 : Hid (w6.cell? ⟨w.heap.size, 0, none⟩ = some (.slice bT t.length cT)) := (CC.out _ (H2.out.trans (D6.out.mono H2.out.size))).1; have O6 : Hid (World.ownsRow _ _ _ _ _ _ _) := hown6; clear hown6)))
    all_goals
      go_wp2_with fail
      go_meet
      exact ⟨g6, c6, rfl, by rw [ndCells_append]; exact O6.out, by first | exact D6.out | exact D6.out.drew⟩
  case rest =>
    obtain ⟨g3, c3, rfl, ho3, hb3⟩ := hcut
    generalize wc = w3 at *
    have O3 : Hid (World.ownsRow _ _ _ _ _ _ _) := ho3
    have D3 : Hid (Below w2.heap.size w2 w3) := hb3
    have H3 : Hid (Below W1.heap.size W1 w3) := H2.out.trans (hb3.mono H2.out.size)
    have H3d : Hid (Below W1.heap.size W1 w3.drew) := H3.out.drew
    clear ho3 hb3 hmk e0 e1' e2 lt2 e1 htl BA BA2 BB BB2 BC BC2 F2 F3 OM1 OM2 OM3 H2d hi0 hz0 hz1 hz2
    obtain ⟨e0, e1, e2⟩ := CC.out _ H3.out
    have lt3 := (BL.out _ H3.out).2
    obtain ⟨j0, hj0, hy0, hy1, hy2⟩ := info_parts in_info
    have hmk : ∀ w : World, (Instr.makeSlice 23 (.int .i64 0) (.int .i64 ((W.length : Int) + 1))).run Try.prog w = .ok (.slice (some ⟨w.heap.size, 0, none⟩) 0 (W.length + 1)) (w.alloc (.cells (madeCells #[.int .i64 0] (W.length + 1)) 3)) := fun w => by
      have := run_make_room (P := Try.prog) 23 3 (.int .i64 0) 1 8 ins_under in_info (W.length + 1) (by omega) (by omega) w
      simpa [Value.cells] using this
    have hwl : (0 : Int) ≤ (W.length : Int) := Int.natCast_nonneg _
    have e5 : IntKind.i64.wrap ((W.length : Int) + 1) = (W.length : Int) + 1 := by rw [IntKind.wrap_i64] <;> omega
    have t0 : (0 : Int) ≤ (t.length : Int) := Int.natCast_nonneg _
    have t1 : (t.length : Int) ≤ (c3 : Int) := by
      obtain ⟨g', cp', hv', -, -, hc', -⟩ := owns_some O3.out (by omega)
      injection hv' with _ _ hv'
      omega
    have BA : Hid (∀ o, Below W1.heap.size W1 (w3.drew.alloc o)) := fun o => H3d.out.alloc H3d.out.size o
    have BA2 : Hid (∀ o o', Below W1.heap.size W1 ((w3.drew.alloc o).alloc o')) := fun o o' => (BA.out o).alloc (BA.out o).size o'
    have F3 : Hid (((w3.alloc (.cells (madeCells #[.int .i64 0] (W.length + 1)) 3)).alloc (.cells #[.int .i64 77] 3)).drew.heap[w3.heap.size + 1]? = some (.cells #[.int .i64 77] 3)) := heap_alloc_at (w3.alloc (.cells (madeCells #[.int .i64 0] (W.length + 1)) 3)) (.cells #[.int .i64 77] 3) _ (by simp)
    have F2 : Hid (((w3.alloc (.cells #[.int .i64 77] 3)).alloc (.cells (madeCells #[.int .i64 0] (W.length + 1)) 3)).drew.heap[w3.heap.size]? = some (.cells #[.int .i64 77] 3)) := (heap_alloc_old (w3.alloc (.cells #[.int .i64 77] 3)) (.cells (madeCells #[.int .i64 0] (W.length + 1)) 3) (by simp)).trans (heap_alloc_at w3 (.cells #[.int .i64 77] 3) _ rfl)
    have OM1 : Hid ((w3.alloc (.cells (madeCells #[.int .i64 0] (W.length + 1)) 3)).drew.ownsRow w3.heap.size 3 1 (.slice (some ⟨w3.heap.size, 0, none⟩) 0 (W.length + 1)) 0 []) := (World.ownsRow_made w3 _ (W.length + 1) (Nat.le_refl _) (by unfold maxLen; omega) (by rw [size_madeCells, Nat.mul_one])).drew
    have OM2 : Hid (((w3.alloc (.cells #[.int .i64 77] 3)).alloc (.cells (madeCells #[.int .i64 0] (W.length + 1)) 3)).drew.ownsRow w3.heap.size 3 1 (.slice (some ⟨w3.heap.size + 1, 0, none⟩) 0 (W.length + 1)) 0 []) := by
      have q := (World.ownsRow_made (base := w3.heap.size) (e := 3) (size := 1) (w3.alloc (.cells #[.int .i64 77] 3)) (madeCells #[.int .i64 0] (W.length + 1)) (W.length + 1) (by simp) (by unfold maxLen; omega) (by rw [size_madeCells, Nat.mul_one])).drew
      rw [World.size_alloc] at q
      exact q
    have OM3 : Hid (((w3.alloc (.cells (madeCells #[.int .i64 0] (W.length + 1)) 3)).alloc (.cells #[.int .i64 77] 3)).drew.ownsRow w3.heap.size 3 1 (.slice (some ⟨w3.heap.size, 0, none⟩) 0 (W.length + 1)) 0 []) := ((World.ownsRow_made w3 _ (W.length + 1) (Nat.le_refl _) (by unfold maxLen; omega) (by rw [size_madeCells, Nat.mul_one])).alloc _).drew
    have BC : Hid (∀ o, Below w3.heap.size w3 (w3.alloc o).drew) := fun o => (below_alloc _ o).drew
    have BC2 : Hid (∀ o o', Below w3.heap.size w3 ((w3.alloc o).alloc o').drew) := fun o o' => ((below_alloc _ o).alloc (below_alloc _ o).size o').drew
    go_upto_region 5 with fail
    go_cut [5] from 51 to 60 (fun c wx => ∃ g cp, c = .slice (some ⟨g, 0, none⟩) (W.length + 1) cp ∧ wx.ownsRow w3.heap.size 3 1 (.slice (some ⟨g, 0, none⟩) (W.length + 1) cp) (W.length + 1) (isC (W ++ [77])) ∧ Below w3.heap.size w3 wx)
    case first =>
      go_wp2_with fail
      go_region_held3 (fun w' => w'.cell? ⟨w.heap.size, 1, none⟩ = some (.slice bw W.length cw))
        (first | (with_reducible exact X5.out) | (with_reducible exact X6.out) | go_keep)
        (first
          | ((refine step_append_all (by rfl) _ _ _ (by rfl) w3.heap.size 3 j0 _ 1 8 ins_under hj0 hy0 hy1 hy2 rfl (by omega) (.slice (some ⟨_, 0, none⟩) 0 (W.length + 1)) 0 [] (by rfl) (by first | exact OM1.out | exact OM2.out | exact OM3.out) bw W.length cw (isC W) (by rfl) HWN.out (by rw [isC_length]; omega) (ws_news (NW.out _ (by first | exact BA.out _ | exact BA2.out _ _))) (isC_all _) (by unfold maxLen; omega) (by omega) (by first | (simp; done) | (simp; omega)) ?_; intro v5 w5 hown5 hgrow5 hiff5; have D5 : Hid (Below w3.heap.size w3 w5) := (by first | exact Below.grown (BC.out _) hgrow5 (BC.out _).size (by intro k hk; simp [Value.ownBlock] at hk; omega) | exact Below.grown (BC2.out _ _) hgrow5 (BC2.out _ _).size (by intro k hk; simp [Value.ownBlock] at hk; omega)); have X5 : Hid (w5.cell? ⟨w.heap.size, 1, none⟩ = some (.slice bw W.length cw)) := (CC.out _ (H3.out.trans (D5.out.mono H3.out.size))).2.1; rw [Nat.zero_add, List.nil_append] at hown5; have O5 : Hid (World.ownsRow _ _ _ _ _ _ _) := hown5; clear hown5))
          | ((refine step_append_lies _ (by rfl) _ _ _ (by rfl) w3.heap.size 3 j0 _ 1 8 ins_under hj0 hy0 hy1 hy2 rfl (by omega) _ W.length (isC W) (by rfl) (by first | exact O5.out | exact O5.out.alloc _) _ 1 1 [.int .i64 77] (by rfl) (by rfl) (by first | exact news_kept hgrow5 F3.out (by intro q; simp [Value.ownBlock] at q) | exact news_kept hgrow5 F2.out (by intro q; simp [Value.ownBlock] at q) | exact World.news_of_block (cs := #[.int .i64 77]) (t := 3) (fr := (0, 0)) (heap_alloc_at _ _ _ (by simp))) (by simp [Value.oneCell']) (by omega) (by unfold maxLen; omega) (by omega) (by have := D5.out.size; first | exact this | (simp; omega)) _ rfl ?_; intro g6 c6 w6 hown6 hgrow6 hat6 hlt6; have D6 : Hid (Below w3.heap.size w3 w6) := (by first | exact Below.grown D5.out hgrow6 D5.out.size (fun k hk => (owns_lt O5.out k hk).1) | exact Below.grown (D5.out.alloc D5.out.size _) hgrow6 (by have := D5.out.size; simp; omega) (fun k hk => (owns_lt O5.out k hk).1)); have X6 : Hid (w6.cell? ⟨w.heap.size, 1, none⟩ = some (.slice bw W.length cw)) := (CC.out _ (H3.out.trans (D6.out.mono H3.out.size))).2.1; have O6 : Hid (World.ownsRow _ _ _ _ _ _ _) := hown6; clear hown6)))
      all_goals
        go_wp2_with fail
        go_meet
        exact ⟨g6, c6, rfl, by rw [isC_append]; exact O6.out, by first | exact D6.out | exact D6.out.drew⟩
    case rest =>
      obtain ⟨g5, c5, rfl, ho5, hb5⟩ := hcut
      generalize wc = w5 at *
      have hc3 : t.length + 1 ≤ c3 := by
        obtain ⟨g', cp', hv', -, -, hc', -⟩ := owns_some O3.out (by omega)
        injection hv' with _ _ hv'
        omega
      have hc5 : W.length + 1 ≤ c5 := by
        obtain ⟨g', cp', hv', -, -, hc', -⟩ := owns_some ho5 (by omega)
        injection hv' with _ _ hv'
        omega
      have H5 : Hid (Below W1.heap.size W1 w5) := H3.out.trans (hb5.mono H3.out.size)
      have OT : Hid (∀ z, Below w5.heap.size w5 z → z.ownsRow w2.heap.size 54 6 (.slice (some ⟨g3, 0, none⟩) (t.length + 1) c3) (t.length + 1) (ndCells (t ++ [n77]))) := fun z hz => owns_below (owns_below O3.out hb5) hz
      have OW : Hid (∀ z, Below w5.heap.size w5 z → z.ownsRow w3.heap.size 3 1 (.slice (some ⟨g5, 0, none⟩) (W.length + 1) c5) (W.length + 1) (isC (W ++ [77]))) := fun z hz => owns_below ho5 hz
      have N5 : Hid (∀ z, Below w5.heap.size w5 z → NodesAt z (some ⟨g3, 0, none⟩) g3 0 t) := fun z hz => by
        have q := owns_cut (OT.out z hz) t.length (by omega)
        rw [ndCells_append, ← ndCells_length t, List.take_left] at q
        exact nodes_row q
      have S5 : Hid (∀ z, Below w5.heap.size w5 z → WsAt z (some ⟨g5, 0, none⟩) g5 0 W) := fun z hz => by
        have q := owns_cut (OW.out z hz) W.length (by omega)
        rw [isC_append, Nat.mul_one, show W.length = (isC W).length from (isC_length W).symm, List.take_left, isC_length] at q
        exact ws_row q
      have HB5 : Hid (∀ z, Below w5.heap.size w5 z → Below W1.heap.size W1 z) := fun z hz => H5.out.trans (hz.mono H5.out.size)
      have glt3 := (owns_lt (OT.out _ (Below.refl _ _)) g3 rfl).2
      have glt5 := (owns_lt (OW.out _ (Below.refl _ _)) g5 rfl).2
      clear ho5 hb5 hmk e0 e1 e2 lt3 BA BA2 BC BC2 F2 F3 OM1 OM2 OM3 H3d D3 hj0 hy0 hy1 hy2 O3
      obtain ⟨k, hk⟩ := keyed_of t
      have HK : Hid (Keyed t k) := hk
      obtain ⟨e0, e1, e2⟩ := CC.out _ H5.out
      have lt5 := (BL.out _ H5.out).2
      go_wp2_with fail
      refine (vSums_any bT b o cT t k _ (NT.out _ H5.out) hk).mono ?_
      rintro e w6 ⟨v6, rfl, ho6, hb6⟩
      obtain ⟨a6, c6, g6, rfl, -, -, hs6⟩ := ws_of_owns ho6
      have S6 : Hid (WsAt w6 a6 g6 0 (sumsO k)) := hs6
      have Y6 : Hid (Below w5.heap.size w5 w6) := hb6
      clear ho6 hs6 hb6 e0 e1 e2 lt5 hk
      obtain ⟨e0, e1, e2⟩ := CC.out _ (HB5.out _ Y6.out)
      have lt6 := (BL.out _ (HB5.out _ Y6.out)).2
      go_wp2_with fail
      refine (vReds_any bT b o cT t k _ (NT.out _ (HB5.out _ Y6.out)) HK.out).mono ?_
      rintro e w7 ⟨v7, rfl, ho7, hb7⟩
      obtain ⟨a7, c7, g7, rfl, -, -, hs7⟩ := ws_of_owns ho7
      have S7 : Hid (WsAt w7 a7 g7 0 (redsO k)) := hs7
      have S6' : Hid (WsAt w7 a6 g6 0 (sumsO k)) := S6.out.below hb7
      have Y7 : Hid (Below w5.heap.size w5 w7) := Y6.out.trans (hb7.mono Y6.out.size)
      clear ho7 hs7 hb7 e0 e1 e2 lt6 S6 Y6
      obtain ⟨e0, e1, e2⟩ := CC.out _ (HB5.out _ Y7.out)
      have lt7 := (BL.out _ (HB5.out _ Y7.out)).2
      go_wp2_with fail
      refine (vHeavy_any bT b o cT t bw gw ow cw W _ (NT.out _ (HB5.out _ Y7.out)) (NW.out _ (HB5.out _ Y7.out))).mono ?_
      rintro e w8 ⟨v8, rfl, ho8, hb8⟩
      obtain ⟨a8, c8, g8, rfl, -, -, hn8⟩ := nodes_of_owns ho8
      have S6 : Hid (∀ z, Below w8.heap.size w8 z → WsAt z a6 g6 0 (sumsO k)) := fun z hz => (S6'.out.below hb8).below hz
      have S7' : Hid (∀ z, Below w8.heap.size w8 z → WsAt z a7 g7 0 (redsO k)) := fun z hz => (S7.out.below hb8).below hz
      have N8 : Hid (∀ z, Below w8.heap.size w8 z → NodesAt z a8 g8 0 (heavyA t W)) := fun z hz => hn8.below hz
      have Y8 : Hid (Below w5.heap.size w5 w8) := Y7.out.trans (hb8.mono Y7.out.size)
      have Z8 : Hid (∀ z, Below w8.heap.size w8 z → Below w5.heap.size w5 z) := fun z hz => Y8.out.trans (hz.mono Y8.out.size)
      have y8 := Y8.out.size
      clear ho8 hn8 hb8 e0 e1 e2 lt7 S6' S7 Y7
      have HMB : Hid (MB w w5 bT bw b o cT gw ow cw g3 c3 g5 c5 t W key nn) := ⟨HTN.out, hTb, hWb, hc3, hc5, fun z hz => NT.out z (HB5.out z hz), fun z hz => NW.out z (HB5.out z hz), fun z hz => CC.out z (HB5.out z hz), fun z hz => BL.out z (HB5.out z hz), fun z hz => owns_down (OT.out z hz) (by have := (BL.out _ H2.out).2; omega), fun z hz => owns_down (OW.out z hz) (by have := (BL.out _ H3.out).2; omega), glt3, glt5⟩
      go_upto_region 9 with fail
      go_cut [12] from 81 to 81 (fun s12 wx => s12 = .slice none 0 0 ∧ Below w8.heap.size w8 wx)
      case first =>
        go_wp2_with fail
        go_meet
        exact ⟨rfl, Below.refl _ _⟩
      case rest =>
        rename_i hK
        obtain ⟨rfl, hb⟩ := hcut
        refine hK _ _ ?_
        exact mem9 w w5 bT bw b o cT gw ow cw g3 c3 g5 c5 t W key nn a6 a7 a8 g6 c6 g7 c7 g8 c8 k wc _ _ _ _ _ _ _ _ _ _ _ _ _ _ _ _ _ _ _ _ _ _ _ _ _ _ _ _ _ _ _ _ _ _ _ _ _ _ _ _ _ _ _ _ _ _ _ _ _ _ _ _ _ _ _ _ _ _ _ _ _ _ _ _ _ _ _ _ _ _ _ _ _ _ _ _ _ _ _ _ _ _ _ _ _ _ _ _ _ _ _ _ _ _ _ _ _ _ _ _ _ _ _ _ _ _ _ _ _ _ _ _ _ _ _ _ _ _ _ _ _ _ _ _ _ _ _ _ _ _ _ _ _ _ _ _ _ _ _ _ _ _ _ _ _ _ _ _ _ _ _ _ _ _ _ _ _ _ _ _ _ _ _ _ _ _ _ _ _ _ _ _ _ _ _ _ _ _ _ _ _ _ _ _ _ _ _ _ _ _ _ _ _ _ _ _ _ _ _ _ _ _ _ _ _ _ _ _ _ _ _ _ _ _ _ _ _ _ _ _ _ _ _ _ _ _ _ _ _ _ _ _ _ _ _ _ _ _ _ _ _ _ _ _ _ _ _ _ _ _ _ _ _ _ _ _ _ _ _ _ _ _ _ _ _ _ _ _ _ _ _ _ _ _ _ _ _ _ _ _ _ _ _ _ _ _ _ _ _ _ _ _ _ _ HMB.out HK.out (Z8.out _ hb) (S6.out _ hb) (S7'.out _ hb) (N8.out _ hb)
end Go.Proofs.Ytiencggnijfjoaa

/-
  ReadersPlays: an act of kind 6. Own work; printed by tools/rd/mkplays.py.
-/
import Derived.Test.YtoaglkbobndmeaaRdU
namespace Go.Proofs.Ytoaglkbobndmeaa
open Go.RowKit

set_option maxRecDepth 1000000 in
set_option maxHeartbeats 8000000 in
theorem arm9_6 (W wc : World) (b q N p : Nat) (a : A9) (sl : Int) (tu : Nat) (L : List Sl) (hs : List (Nat × Nat)) (sa la : Option Addr) (sc lc : Nat)
    (hrp2 : RP W b q a sl tu wc L (.slice sa N sc) (.slice la p lc) hs) (hLN : L.length = N) (hN2 : N ≤ 126) (hbW : W.heap.size ≤ b) (hp : p = hs.length) (hp60 : p ≤ 60) (hap : ∀ k, (Value.slice la p lc).ownBlock = some k → k < q) (hx64 : a.txn < 18446744073709551616)
    (u4 u14 u15 u16 u17 u18 u19 u20 u21 u22 u23 u24 u25 u26 u27 u28 u104 u105 u106 u107 u108 u109 u110 u111 u112 u113 u114 u115 u116 u117 u118 u119 u120 u121 u122 u123 u124 u125 u126 u127 u128 u129 u130 u131 u132 u133 u134 u135 u136 u137 u138 u139 u140 u141 u142 u143 u144 u145 u146 u147 u148 u149 u150 u151 u152 u153 u154 u155 u156 u157 u158 u159 u160 u161 u162 u163 u164 u165 u166 u167 u168 u169 u170 u171 u172 u173 u174 u175 u176 u177 u178 u179 u180 u181 u182 u183 u184 u185 u186 u187 u188 u189 u190 u191 u192 u193 u194 : Value)
    (v0 v1 v2 v3 v5 v7 v9 v11 v29 v30 v31 v32 v33 v34 v35 v36 v37 v38 v39 v40 v41 v42 v43 v44 v45 v46 v47 v48 v49 v50 v51 v52 v53 v54 v55 v56 v57 v58 v59 v60 v61 v62 v63 v64 v65 v66 v67 v68 v69 v70 v71 v72 v73 v74 v75 v76 v77 v78 v79 v80 v81 v82 v83 v84 v85 v86 v87 v88 v89 v90 v91 v92 v93 v94 v95 v96 v97 v98 v99 v100 v101 v102 v195 v196 v197 v198 v199 v200 v201 v202 v203 v204 v205 v206 v207 v208 v209 v210 v211 v212 v213 v214 v215 v216 v217 v218 v219 v220 v221 v222 v223 v224 v225 v226 v227 v228 v229 v230 v231 v232 v233 v234 v235 v236 v237 v238 v239 v240 v241 v242 v243 v244 v245 v246 v247 v248 v249 v250 v251 v252 v253 v254 v255 v256 v257 v258 v259 v260 v261 v262 v263 v264 v265 v266 v267 v268 v269 v270 v271 v272 v273 v274 v275 v276 v277 v278 v279 v280 v281 v282 v283 v284 v285 v286 v287 v288 v289 v290 v291 v292 : Value)
    (Kc : Act → World → Prop) (Qc : Exit → Act → World → Prop)
    (hK : ∀ (x4 x14 x15 x16 x17 x18 x19 x20 x21 x22 x23 x24 x25 x26 x27 x28 x104 x105 x106 x107 x108 x109 x110 x111 x112 x113 x114 x115 x116 x117 x118 x119 x120 x121 x122 x123 x124 x125 x126 x127 x128 x129 x130 x131 x132 x133 x134 x135 x136 x137 x138 x139 x140 x141 x142 x143 x144 x145 x146 x147 x148 x149 x150 x151 x152 x153 x154 x155 x156 x157 x158 x159 x160 x161 x162 x163 x164 x165 x166 x167 x168 x169 x170 x171 x172 x173 x174 x175 x176 x177 x178 x179 x180 x181 x182 x183 x184 x185 x186 x187 x188 x189 x190 x191 x192 x193 x194 : Value) (sv' lv' : Value) (w5 : World) (L' : List Sl) (hs' : List (Nat × Nat)), L'.length = N → hs'.length ≤ p + 1 → RP W b q a sl tu w5 L' sv' lv' hs' → Kc ⟨#[v0, v1, v2, v3, x4, v5, .pointer (some ⟨b, 0, none⟩), v7, sv', v9, lv', v11, .pointer (some ⟨q, 0, none⟩), .pointer (some ⟨q + 1, 0, none⟩), x14, x15, x16, x17, x18, x19, x20, x21, x22, x23, x24, x25, x26, x27, x28, v29, v30, v31, v32, v33, v34, v35, v36, v37, v38, v39, v40, v41, v42, v43, v44, v45, v46, v47, v48, v49, v50, v51, v52, v53, v54, v55, v56, v57, v58, v59, v60, v61, v62, v63, v64, v65, v66, v67, v68, v69, v70, v71, v72, v73, v74, v75, v76, v77, v78, v79, v80, v81, v82, v83, v84, v85, v86, v87, v88, v89, v90, v91, v92, v93, v94, v95, v96, v97, v98, v99, v100, v101, v102, .int .i64 6, x104, x105, x106, x107, x108, x109, x110, x111, x112, x113, x114, x115, x116, x117, x118, x119, x120, x121, x122, x123, x124, x125, x126, x127, x128, x129, x130, x131, x132, x133, x134, x135, x136, x137, x138, x139, x140, x141, x142, x143, x144, x145, x146, x147, x148, x149, x150, x151, x152, x153, x154, x155, x156, x157, x158, x159, x160, x161, x162, x163, x164, x165, x166, x167, x168, x169, x170, x171, x172, x173, x174, x175, x176, x177, x178, x179, x180, x181, x182, x183, x184, x185, x186, x187, x188, x189, x190, x191, x192, x193, x194, v195, v196, v197, v198, v199, v200, v201, v202, v203, v204, v205, v206, v207, v208, v209, v210, v211, v212, v213, v214, v215, v216, v217, v218, v219, v220, v221, v222, v223, v224, v225, v226, v227, v228, v229, v230, v231, v232, v233, v234, v235, v236, v237, v238, v239, v240, v241, v242, v243, v244, v245, v246, v247, v248, v249, v250, v251, v252, v253, v254, v255, v256, v257, v258, v259, v260, v261, v262, v263, v264, v265, v266, v267, v268, v269, v270, v271, v272, v273, v274, v275, v276, v277, v278, v279, v280, v281, v282, v283, v284, v285, v286, v287, v288, v289, v290, v291, v292], []⟩ w5) :
    Code.wp Try.prog playsSw (Exit.then Kc Qc) ⟨#[v0, v1, v2, v3, u4, v5, .pointer (some ⟨b, 0, none⟩), v7, .slice sa N sc, v9, .slice la p lc, v11, .pointer (some ⟨q, 0, none⟩), .pointer (some ⟨q + 1, 0, none⟩), u14, u15, u16, u17, u18, u19, u20, u21, u22, u23, u24, u25, u26, u27, u28, v29, v30, v31, v32, v33, v34, v35, v36, v37, v38, v39, v40, v41, v42, v43, v44, v45, v46, v47, v48, v49, v50, v51, v52, v53, v54, v55, v56, v57, v58, v59, v60, v61, v62, v63, v64, v65, v66, v67, v68, v69, v70, v71, v72, v73, v74, v75, v76, v77, v78, v79, v80, v81, v82, v83, v84, v85, v86, v87, v88, v89, v90, v91, v92, v93, v94, v95, v96, v97, v98, v99, v100, v101, v102, .int .i64 6, u104, u105, u106, u107, u108, u109, u110, u111, u112, u113, u114, u115, u116, u117, u118, u119, u120, u121, u122, u123, u124, u125, u126, u127, u128, u129, u130, u131, u132, u133, u134, u135, u136, u137, u138, u139, u140, u141, u142, u143, u144, u145, u146, u147, u148, u149, u150, u151, u152, u153, u154, u155, u156, u157, u158, u159, u160, u161, u162, u163, u164, u165, u166, u167, u168, u169, u170, u171, u172, u173, u174, u175, u176, u177, u178, u179, u180, u181, u182, u183, u184, u185, u186, u187, u188, u189, u190, u191, u192, u193, u194, v195, v196, v197, v198, v199, v200, v201, v202, v203, v204, v205, v206, v207, v208, v209, v210, v211, v212, v213, v214, v215, v216, v217, v218, v219, v220, v221, v222, v223, v224, v225, v226, v227, v228, v229, v230, v231, v232, v233, v234, v235, v236, v237, v238, v239, v240, v241, v242, v243, v244, v245, v246, v247, v248, v249, v250, v251, v252, v253, v254, v255, v256, v257, v258, v259, v260, v261, v262, v263, v264, v265, v266, v267, v268, v269, v270, v271, v272, v273, v274, v275, v276, v277, v278, v279, v280, v281, v282, v283, v284, v285, v286, v287, v288, v289, v290, v291, v292], []⟩ wc := by
  conv => arg 2; whnf
  have HK := Lib.hid hK
  have HRP2 := Lib.hid hrp2
  have HLN := Lib.hid hLN
  have HbW := Lib.hid hbW
  have HP := Lib.hid hp
  have HAP := Lib.hid hap
  have HX64 := Lib.hid hx64
  have HL126 := Lib.hid (show L.length ≤ 126 by rw [hLN]; exact hN2)
  obtain ⟨m0, m1⟩ := cells2 hrp2.hd
  obtain ⟨k0, k1, k2, k3⟩ := cells4' hrp2.act
  clear hrp2 hLN hK hap hp hx64
  obtain ⟨M, hM⟩ : ∃ M, L.map clrM = M := ⟨_, rfl⟩
  have HML := Lib.hid (show M.length = N by rw [← hM, List.length_map]; exact HLN.out)
  have HMM := Lib.hid hM
  obtain ⟨dn, hdn⟩ : ∃ dn, deadN L = dn := ⟨_, rfl⟩
  have HDN := Lib.hid hdn
  clear hM hdn
  go_wp2_with (first
    | (go_at_call 17; have K := clear_any _ b L HRP2.out.tab; rw [HMM.out, HDN.out] at K; (with_reducible refine K.mono ?_); clear K; rintro r w5 ⟨rfl, ht5⟩; have HT5 := Lib.hid ht5; have HR5 := Lib.hid (HRP2.out.tabTo ht5 HbW.out); clear ht5)
    | (go_at_call 18; have K := rclear_any _ W.heap.size sa N sc L HR5.out.2.1 HR5.out.2.2.2.2.2.size HL126.out; rw [HMM.out, HDN.out] at K; (with_reducible refine K.mono ?_); clear K; rintro r w6 ⟨v6, rfl, hs6, hg6⟩; have HRP6 := Lib.hid (HRP2.out.both HT5.out HbW.out hs6 hg6); clear hs6 hg6)
    | go_in)
  exact HK.out _ _ _ _ _ _ _ _ _ _ _ _ _ _ _ _ _ _ _ _ _ _ _ _ _ _ _ _ _ _ _ _ _ _ _ _ _ _ _ _ _ _ _ _ _ _ _ _ _ _ _ _ _ _ _ _ _ _ _ _ _ _ _ _ _ _ _ _ _ _ _ _ _ _ _ _ _ _ _ _ _ _ _ _ _ _ _ _ _ _ _ _ _ _ _ _ _ _ _ _ _ _ _ _ _ _ _ _ _ _ M (hs) (HML.out) (by rw [← HP.out]; omega) HRP6.out

end Go.Proofs.Ytoaglkbobndmeaa

/-
  ReadersPlays: what is asked behind each act. Own work; printed by tools/rd/mkplays.py.
-/
import Derived.Test.YtoaglkbobndmeaaRdU
namespace Go.Proofs.Ytoaglkbobndmeaa
open Go.RowKit

set_option maxRecDepth 1000000 in
set_option maxHeartbeats 8000000 in
theorem tail9_none (W wc : World) (b q N : Nat) (a : A9) (sl : Int) (tu : Nat) (L' : List Sl) (hs' : List (Nat × Nat)) (sa2 : Option Addr) (sc2 : Nat) (lv : Value) 
    (hrp3 : RP W b q a sl tu wc L' (.slice sa2 N sc2) lv hs') (hL' : L'.length = N) (hN2 : N ≤ 126) (hgm : goodM L' sl tu = none)
    (u29 u30 u31 u195 u196 u197 u198 u199 u200 u201 u202 u203 u204 u205 u206 u207 u208 u209 u210 u211 u212 u213 u214 u215 u216 u217 u218 u219 u220 u221 u222 u223 u224 u225 u226 u227 u228 u229 u230 u231 u232 u233 u234 u235 u236 u237 u238 u239 u240 u241 u242 u243 u244 u245 u246 u247 u248 u249 u250 u251 : Value)
    (v0 v1 v2 v3 v4 v5 v7 v9 v10 v11 v14 v15 v16 v17 v18 v19 v20 v21 v22 v23 v24 v25 v26 v27 v28 v32 v33 v34 v35 v36 v37 v38 v39 v40 v41 v42 v43 v44 v45 v46 v47 v48 v49 v50 v51 v52 v53 v54 v55 v56 v57 v58 v59 v60 v61 v62 v63 v64 v65 v66 v67 v68 v69 v70 v71 v72 v73 v74 v75 v76 v77 v78 v79 v80 v81 v82 v83 v84 v85 v86 v87 v88 v89 v90 v91 v92 v93 v94 v95 v96 v97 v98 v99 v100 v101 v102 v103 v104 v105 v106 v107 v108 v109 v110 v111 v112 v113 v114 v115 v116 v117 v118 v119 v120 v121 v122 v123 v124 v125 v126 v127 v128 v129 v130 v131 v132 v133 v134 v135 v136 v137 v138 v139 v140 v141 v142 v143 v144 v145 v146 v147 v148 v149 v150 v151 v152 v153 v154 v155 v156 v157 v158 v159 v160 v161 v162 v163 v164 v165 v166 v167 v168 v169 v170 v171 v172 v173 v174 v175 v176 v177 v178 v179 v180 v181 v182 v183 v184 v185 v186 v187 v188 v189 v190 v191 v192 v193 v194 v252 v253 v254 v255 v256 v257 v258 v259 v260 v261 v262 v263 v264 v265 v266 v267 v268 v269 v270 v271 v272 v273 v274 v275 v276 v277 v278 v279 v280 v281 v282 v283 v284 v285 v286 v287 v288 v289 v290 v291 v292 : Value)
    (Kc : Act → World → Prop) (Qc : Exit → Act → World → Prop)
    (hK : ∀ (x29 x30 x31 x195 x196 x197 x198 x199 x200 x201 x202 x203 x204 x205 x206 x207 x208 x209 x210 x211 x212 x213 x214 x215 x216 x217 x218 x219 x220 x221 x222 x223 x224 x225 x226 x227 x228 x229 x230 x231 x232 x233 x234 x235 x236 x237 x238 x239 x240 x241 x242 x243 x244 x245 x246 x247 x248 x249 x250 x251 : Value) (w5 : World), RP W b q a sl tu w5 L' (.slice sa2 N sc2) lv hs' → Kc ⟨#[v0, v1, v2, v3, v4, v5, .pointer (some ⟨b, 0, none⟩), v7, .slice sa2 N sc2, v9, v10, v11, .pointer (some ⟨q, 0, none⟩), .pointer (some ⟨q + 1, 0, none⟩), v14, v15, v16, v17, v18, v19, v20, v21, v22, v23, v24, v25, v26, v27, v28, x29, x30, x31, v32, v33, v34, v35, v36, v37, v38, v39, v40, v41, v42, v43, v44, v45, v46, v47, v48, v49, v50, v51, v52, v53, v54, v55, v56, v57, v58, v59, v60, v61, v62, v63, v64, v65, v66, v67, v68, v69, v70, v71, v72, v73, v74, v75, v76, v77, v78, v79, v80, v81, v82, v83, v84, v85, v86, v87, v88, v89, v90, v91, v92, v93, v94, v95, v96, v97, v98, v99, v100, v101, v102, v103, v104, v105, v106, v107, v108, v109, v110, v111, v112, v113, v114, v115, v116, v117, v118, v119, v120, v121, v122, v123, v124, v125, v126, v127, v128, v129, v130, v131, v132, v133, v134, v135, v136, v137, v138, v139, v140, v141, v142, v143, v144, v145, v146, v147, v148, v149, v150, v151, v152, v153, v154, v155, v156, v157, v158, v159, v160, v161, v162, v163, v164, v165, v166, v167, v168, v169, v170, v171, v172, v173, v174, v175, v176, v177, v178, v179, v180, v181, v182, v183, v184, v185, v186, v187, v188, v189, v190, v191, v192, v193, v194, x195, x196, x197, x198, x199, x200, x201, x202, x203, x204, x205, x206, x207, x208, x209, x210, x211, x212, x213, x214, x215, x216, x217, x218, x219, x220, x221, x222, x223, x224, x225, x226, x227, x228, x229, x230, x231, x232, x233, x234, x235, x236, x237, x238, x239, x240, x241, x242, x243, x244, x245, x246, x247, x248, x249, x250, x251, v252, v253, v254, v255, v256, v257, v258, v259, v260, v261, v262, v263, v264, v265, v266, v267, v268, v269, v270, v271, v272, v273, v274, v275, v276, v277, v278, v279, v280, v281, v282, v283, v284, v285, v286, v287, v288, v289, v290, v291, v292], []⟩ w5) :
    Code.wp Try.prog playsTail (Exit.inBlock 1 (Exit.then Kc Qc)) ⟨#[v0, v1, v2, v3, v4, v5, .pointer (some ⟨b, 0, none⟩), v7, .slice sa2 N sc2, v9, v10, v11, .pointer (some ⟨q, 0, none⟩), .pointer (some ⟨q + 1, 0, none⟩), v14, v15, v16, v17, v18, v19, v20, v21, v22, v23, v24, v25, v26, v27, v28, u29, u30, u31, v32, v33, v34, v35, v36, v37, v38, v39, v40, v41, v42, v43, v44, v45, v46, v47, v48, v49, v50, v51, v52, v53, v54, v55, v56, v57, v58, v59, v60, v61, v62, v63, v64, v65, v66, v67, v68, v69, v70, v71, v72, v73, v74, v75, v76, v77, v78, v79, v80, v81, v82, v83, v84, v85, v86, v87, v88, v89, v90, v91, v92, v93, v94, v95, v96, v97, v98, v99, v100, v101, v102, v103, v104, v105, v106, v107, v108, v109, v110, v111, v112, v113, v114, v115, v116, v117, v118, v119, v120, v121, v122, v123, v124, v125, v126, v127, v128, v129, v130, v131, v132, v133, v134, v135, v136, v137, v138, v139, v140, v141, v142, v143, v144, v145, v146, v147, v148, v149, v150, v151, v152, v153, v154, v155, v156, v157, v158, v159, v160, v161, v162, v163, v164, v165, v166, v167, v168, v169, v170, v171, v172, v173, v174, v175, v176, v177, v178, v179, v180, v181, v182, v183, v184, v185, v186, v187, v188, v189, v190, v191, v192, v193, v194, u195, u196, u197, u198, u199, u200, u201, u202, u203, u204, u205, u206, u207, u208, u209, u210, u211, u212, u213, u214, u215, u216, u217, u218, u219, u220, u221, u222, u223, u224, u225, u226, u227, u228, u229, u230, u231, u232, u233, u234, u235, u236, u237, u238, u239, u240, u241, u242, u243, u244, u245, u246, u247, u248, u249, u250, u251, v252, v253, v254, v255, v256, v257, v258, v259, v260, v261, v262, v263, v264, v265, v266, v267, v268, v269, v270, v271, v272, v273, v274, v275, v276, v277, v278, v279, v280, v281, v282, v283, v284, v285, v286, v287, v288, v289, v290, v291, v292], []⟩ wc := by
  conv => arg 2; whnf
  have HK := Lib.hid hK
  have HRP3 := Lib.hid hrp3
  have HL3 := Lib.hid (show L'.length ≤ 126 by rw [hL']; exact hN2)
  have HLN' := Lib.hid hL'
  obtain ⟨m0, m1⟩ := cells2 hrp3.hd
  obtain ⟨k0, k1, k2, k3⟩ := cells4' hrp3.act
  clear hrp3 hL' hK
  have HGM := Lib.hid hgm
  have HGS := Lib.hid (show (goodM L' sl tu).isSome = false by rw [hgm]; rfl)
  clear hgm
  go_wp2_with (first
    | (go_at_call 19; have K := txn_any _ b L' sl tu HRP3.out.tab none HGM.out; simp only [txnR] at K; (with_reducible refine K.mono ?_); clear K; rintro r w5 ⟨rfl, hg5⟩; have HRP5 := Lib.hid (HRP3.out.grown hg5); obtain ⟨m0, m1⟩ := cells2 HRP5.out.hd; obtain ⟨k0, k1, k2, k3⟩ := cells4' HRP5.out.act; clear hg5)
    | (go_at_call 20; (with_reducible refine (rgood_any _ W.heap.size sa2 N sc2 L' sl tu HRP5.out.so HL3.out false HGS.out).mono ?_); rintro r w6 ⟨rfl, rfl⟩)
    | go_in)
  go_quiet (first
    | (go_at_call 21; exact quiet9 (oldest_any _ b L' a.txn (HRP5.out.tab.grown (gdrewN _ _))))
    | (go_at_call 22; exact quiet9 (roldest_any _ W.heap.size _ N sc2 L' a.txn (HRP5.out.so.grown (gdrewN _ _)) HL3.out))
    | (go_at_call 23; exact quiet9 (live_any _ b L' (HRP5.out.tab.grown (gdrewN _ _))))
    | (go_at_call 24; exact quiet9 (rlive_any _ W.heap.size _ N sc2 L' (HRP5.out.so.grown (gdrewN _ _)) HL3.out)))
  have HRP6 := Lib.hid (HRP5.out.grown (gdrewN _ nq))
  generalize w5.drewN nq = w7 at HRP6 ⊢
  go_wp2
  exact HK.out _ _ _ _ _ _ _ _ _ _ _ _ _ _ _ _ _ _ _ _ _ _ _ _ _ _ _ _ _ _ _ _ _ _ _ _ _ _ _ _ _ _ _ _ _ _ _ _ _ _ _ _ _ _ _ _ _ _ _ _ w7 HRP6.out

set_option maxRecDepth 1000000 in
set_option maxHeartbeats 8000000 in
theorem tail9_some (W wc : World) (b q N : Nat) (a : A9) (sl : Int) (tu : Nat) (L' : List Sl) (hs' : List (Nat × Nat)) (sa2 : Option Addr) (sc2 : Nat) (lv : Value) (s : Sl)
    (hrp3 : RP W b q a sl tu wc L' (.slice sa2 N sc2) lv hs') (hL' : L'.length = N) (hN2 : N ≤ 126) (hgm : goodM L' sl tu = some s)
    (u29 u30 u31 u195 u196 u197 u198 u199 u200 u201 u202 u203 u204 u205 u206 u207 u208 u209 u210 u211 u212 u213 u214 u215 u216 u217 u218 u219 u220 u221 u222 u223 u224 u225 u226 u227 u228 u229 u230 u231 u232 u233 u234 u235 u236 u237 u238 u239 u240 u241 u242 u243 u244 u245 u246 u247 u248 u249 u250 u251 : Value)
    (v0 v1 v2 v3 v4 v5 v7 v9 v10 v11 v14 v15 v16 v17 v18 v19 v20 v21 v22 v23 v24 v25 v26 v27 v28 v32 v33 v34 v35 v36 v37 v38 v39 v40 v41 v42 v43 v44 v45 v46 v47 v48 v49 v50 v51 v52 v53 v54 v55 v56 v57 v58 v59 v60 v61 v62 v63 v64 v65 v66 v67 v68 v69 v70 v71 v72 v73 v74 v75 v76 v77 v78 v79 v80 v81 v82 v83 v84 v85 v86 v87 v88 v89 v90 v91 v92 v93 v94 v95 v96 v97 v98 v99 v100 v101 v102 v103 v104 v105 v106 v107 v108 v109 v110 v111 v112 v113 v114 v115 v116 v117 v118 v119 v120 v121 v122 v123 v124 v125 v126 v127 v128 v129 v130 v131 v132 v133 v134 v135 v136 v137 v138 v139 v140 v141 v142 v143 v144 v145 v146 v147 v148 v149 v150 v151 v152 v153 v154 v155 v156 v157 v158 v159 v160 v161 v162 v163 v164 v165 v166 v167 v168 v169 v170 v171 v172 v173 v174 v175 v176 v177 v178 v179 v180 v181 v182 v183 v184 v185 v186 v187 v188 v189 v190 v191 v192 v193 v194 v252 v253 v254 v255 v256 v257 v258 v259 v260 v261 v262 v263 v264 v265 v266 v267 v268 v269 v270 v271 v272 v273 v274 v275 v276 v277 v278 v279 v280 v281 v282 v283 v284 v285 v286 v287 v288 v289 v290 v291 v292 : Value)
    (Kc : Act → World → Prop) (Qc : Exit → Act → World → Prop)
    (hK : ∀ (x29 x30 x31 x195 x196 x197 x198 x199 x200 x201 x202 x203 x204 x205 x206 x207 x208 x209 x210 x211 x212 x213 x214 x215 x216 x217 x218 x219 x220 x221 x222 x223 x224 x225 x226 x227 x228 x229 x230 x231 x232 x233 x234 x235 x236 x237 x238 x239 x240 x241 x242 x243 x244 x245 x246 x247 x248 x249 x250 x251 : Value) (w5 : World), RP W b q a sl tu w5 L' (.slice sa2 N sc2) lv hs' → Kc ⟨#[v0, v1, v2, v3, v4, v5, .pointer (some ⟨b, 0, none⟩), v7, .slice sa2 N sc2, v9, v10, v11, .pointer (some ⟨q, 0, none⟩), .pointer (some ⟨q + 1, 0, none⟩), v14, v15, v16, v17, v18, v19, v20, v21, v22, v23, v24, v25, v26, v27, v28, x29, x30, x31, v32, v33, v34, v35, v36, v37, v38, v39, v40, v41, v42, v43, v44, v45, v46, v47, v48, v49, v50, v51, v52, v53, v54, v55, v56, v57, v58, v59, v60, v61, v62, v63, v64, v65, v66, v67, v68, v69, v70, v71, v72, v73, v74, v75, v76, v77, v78, v79, v80, v81, v82, v83, v84, v85, v86, v87, v88, v89, v90, v91, v92, v93, v94, v95, v96, v97, v98, v99, v100, v101, v102, v103, v104, v105, v106, v107, v108, v109, v110, v111, v112, v113, v114, v115, v116, v117, v118, v119, v120, v121, v122, v123, v124, v125, v126, v127, v128, v129, v130, v131, v132, v133, v134, v135, v136, v137, v138, v139, v140, v141, v142, v143, v144, v145, v146, v147, v148, v149, v150, v151, v152, v153, v154, v155, v156, v157, v158, v159, v160, v161, v162, v163, v164, v165, v166, v167, v168, v169, v170, v171, v172, v173, v174, v175, v176, v177, v178, v179, v180, v181, v182, v183, v184, v185, v186, v187, v188, v189, v190, v191, v192, v193, v194, x195, x196, x197, x198, x199, x200, x201, x202, x203, x204, x205, x206, x207, x208, x209, x210, x211, x212, x213, x214, x215, x216, x217, x218, x219, x220, x221, x222, x223, x224, x225, x226, x227, x228, x229, x230, x231, x232, x233, x234, x235, x236, x237, x238, x239, x240, x241, x242, x243, x244, x245, x246, x247, x248, x249, x250, x251, v252, v253, v254, v255, v256, v257, v258, v259, v260, v261, v262, v263, v264, v265, v266, v267, v268, v269, v270, v271, v272, v273, v274, v275, v276, v277, v278, v279, v280, v281, v282, v283, v284, v285, v286, v287, v288, v289, v290, v291, v292], []⟩ w5) :
    Code.wp Try.prog playsTail (Exit.inBlock 1 (Exit.then Kc Qc)) ⟨#[v0, v1, v2, v3, v4, v5, .pointer (some ⟨b, 0, none⟩), v7, .slice sa2 N sc2, v9, v10, v11, .pointer (some ⟨q, 0, none⟩), .pointer (some ⟨q + 1, 0, none⟩), v14, v15, v16, v17, v18, v19, v20, v21, v22, v23, v24, v25, v26, v27, v28, u29, u30, u31, v32, v33, v34, v35, v36, v37, v38, v39, v40, v41, v42, v43, v44, v45, v46, v47, v48, v49, v50, v51, v52, v53, v54, v55, v56, v57, v58, v59, v60, v61, v62, v63, v64, v65, v66, v67, v68, v69, v70, v71, v72, v73, v74, v75, v76, v77, v78, v79, v80, v81, v82, v83, v84, v85, v86, v87, v88, v89, v90, v91, v92, v93, v94, v95, v96, v97, v98, v99, v100, v101, v102, v103, v104, v105, v106, v107, v108, v109, v110, v111, v112, v113, v114, v115, v116, v117, v118, v119, v120, v121, v122, v123, v124, v125, v126, v127, v128, v129, v130, v131, v132, v133, v134, v135, v136, v137, v138, v139, v140, v141, v142, v143, v144, v145, v146, v147, v148, v149, v150, v151, v152, v153, v154, v155, v156, v157, v158, v159, v160, v161, v162, v163, v164, v165, v166, v167, v168, v169, v170, v171, v172, v173, v174, v175, v176, v177, v178, v179, v180, v181, v182, v183, v184, v185, v186, v187, v188, v189, v190, v191, v192, v193, v194, u195, u196, u197, u198, u199, u200, u201, u202, u203, u204, u205, u206, u207, u208, u209, u210, u211, u212, u213, u214, u215, u216, u217, u218, u219, u220, u221, u222, u223, u224, u225, u226, u227, u228, u229, u230, u231, u232, u233, u234, u235, u236, u237, u238, u239, u240, u241, u242, u243, u244, u245, u246, u247, u248, u249, u250, u251, v252, v253, v254, v255, v256, v257, v258, v259, v260, v261, v262, v263, v264, v265, v266, v267, v268, v269, v270, v271, v272, v273, v274, v275, v276, v277, v278, v279, v280, v281, v282, v283, v284, v285, v286, v287, v288, v289, v290, v291, v292], []⟩ wc := by
  conv => arg 2; whnf
  have HK := Lib.hid hK
  have HRP3 := Lib.hid hrp3
  have HL3 := Lib.hid (show L'.length ≤ 126 by rw [hL']; exact hN2)
  have HLN' := Lib.hid hL'
  obtain ⟨m0, m1⟩ := cells2 hrp3.hd
  obtain ⟨k0, k1, k2, k3⟩ := cells4' hrp3.act
  clear hrp3 hL' hK
  have HGM := Lib.hid hgm
  have HGS := Lib.hid (show (goodM L' sl tu).isSome = true by rw [hgm]; rfl)
  obtain ⟨y1, y2⟩ := goodM_some hgm
  obtain ⟨q0, q1, -⟩ := takenM_some y1
  obtain ⟨i, hi⟩ : ∃ i : Nat, sl = (i : Int) := ⟨sl.toNat, by omega⟩
  subst hi
  have Q1 := Lib.hid (show L'[i]? = some s by simpa using q1)
  have hiN : (i : Int) < (N : Int) := by have := (List.getElem?_eq_some_iff.1 Q1.out).1; rw [HLN'.out] at this; omega
  clear hgm y1 y2 q0 q1
  go_wp2_with (first
    | (go_at_call 19; have K := txn_any _ b L' (i : Int) tu HRP3.out.tab (some s) HGM.out; simp only [txnR] at K; (with_reducible refine K.mono ?_); clear K; rintro r w5 ⟨rfl, hg5⟩; have HRP5 := Lib.hid (HRP3.out.grown hg5); obtain ⟨m0, m1⟩ := cells2 HRP5.out.hd; obtain ⟨k0, k1, k2, k3⟩ := cells4' HRP5.out.act; obtain ⟨g5, rfl, -, -, e1, -⟩ := HRP5.out.so.at Q1.out; clear hg5)
    | (go_at_call 20; (with_reducible refine (rgood_any _ W.heap.size _ N sc2 L' (i : Int) tu HRP5.out.so HL3.out true HGS.out).mono ?_); rintro r w6 ⟨rfl, rfl⟩)
    | go_in)
  go_quiet (first
    | (go_at_call 21; exact quiet9 (oldest_any _ b L' a.txn (HRP5.out.tab.grown (gdrewN _ _))))
    | (go_at_call 22; exact quiet9 (roldest_any _ W.heap.size _ N sc2 L' a.txn (HRP5.out.so.grown (gdrewN _ _)) HL3.out))
    | (go_at_call 23; exact quiet9 (live_any _ b L' (HRP5.out.tab.grown (gdrewN _ _))))
    | (go_at_call 24; exact quiet9 (rlive_any _ W.heap.size _ N sc2 L' (HRP5.out.so.grown (gdrewN _ _)) HL3.out)))
  have HRP6 := Lib.hid (HRP5.out.grown (gdrewN _ nq))
  generalize w5.drewN nq = w7 at HRP6 ⊢
  go_wp2
  exact HK.out _ _ _ _ _ _ _ _ _ _ _ _ _ _ _ _ _ _ _ _ _ _ _ _ _ _ _ _ _ _ _ _ _ _ _ _ _ _ _ _ _ _ _ _ _ _ _ _ _ _ _ _ _ _ _ _ _ _ _ _ w7 HRP6.out

end Go.Proofs.Ytoaglkbobndmeaa

/-
  SpacePlays: is the page one that was taken. Own work.
-/
import Derived.Test.YtoaglkbobndmeabSpcDD
import Derived.Deep.RegionHeld3

namespace Go.Proofs.Ytoaglkbobndmeab
open Go.RowKit Go.Maps

noncomputable def spT31 : Code := cL spTail
noncomputable def spT32 : Code := cL (cR spTail)
noncomputable def spT34 : Code := cR (cR spTail)
set_option maxRecDepth 1000000 in
set_option maxHeartbeats 8000000 in
theorem sp31_any (W w : World) (B H base q qa lim kd pg : Nat) (M : Sp) (NR : List Rc) (wh tx : List Nat) (b : Bool) (h8 : P8 W B H base q lim M wh tx w) (ha : ActAt w qa kd pg) (hqa : B + 5 ≤ qa) (hpi : PI lim NR M wh tx) (hlim : lim ≤ 65536) (hsz : wh.length ≤ 4001) (hpg : pg < 4294967296) (hb : decide (pg ∈ M.fr) = b)
    (u32 u161 u162 u163 u164 u165 u166 u167 u168 u169 u170 u171 u172 u173 u174 u175 u176 v0 v1 v2 v3 v4 v5 v6 v7 v8 v9 v10 v11 v12 v13 v14 v15 v16 v17 v18 v20 v21 v22 v24 v25 v26 v27 v28 v29 v30 v31 v33 v34 v35 v36 v37 v38 v39 v40 v41 v42 v43 v44 v45 v46 v47 v48 v49 v50 v51 v52 v53 v54 v55 v56 v57 v58 v59 v60 v61 v62 v63 v64 v65 v66 v67 v68 v69 v70 v71 v72 v73 v74 v75 v76 v77 v78 v79 v80 v81 v82 v83 v84 v85 v86 v87 v88 v89 v90 v91 v92 v93 v94 v95 v96 v97 v98 v99 v100 v101 v102 v103 v104 v105 v106 v107 v108 v109 v110 v111 v112 v113 v114 v115 v116 v117 v118 v119 v120 v121 v122 v123 v124 v125 v126 v127 v128 v129 v130 v131 v132 v133 v134 v135 v136 v137 v138 v139 v140 v141 v142 v143 v144 v145 v146 v147 v148 v149 v150 v151 v152 v153 v154 v155 v156 v157 v158 v159 v160 v177 v178 v179 v180 v181 v182 v183 v184 v185 v186 v187 v188 v189 v190 v191 v192 v193 v194 v195 v196 v197 v198 v199 v200 v201 v202 v203 v204 v205 v206 v207 v208 v209 v210 v211 v212 v213 v214 v215 v216 v217 v218 v219 v220 v221 v222 v223 v224 v225 v226 v227 v228 v229 v230 v231 v232 v233 v234 v235 v236 : Value) (Kc : Act → World → Prop) (Qc : Exit → Act → World → Prop)
    (hK : ∀ (x161 x162 x163 x164 x165 x166 x167 x168 x169 x170 x171 x172 x173 x174 x175 x176 : Value) , Kc ⟨#[v0, v1, v2, v3, v4, v5, v6, v7, v8, v9, v10, v11, v12, v13, v14, v15, v16, v17, v18, .pointer (some ⟨q, 0, none⟩), v20, v21, v22, .pointer (some ⟨qa, 0, none⟩), v24, v25, v26, v27, v28, v29, v30, v31, .bool b, v33, v34, v35, v36, v37, v38, v39, v40, v41, v42, v43, v44, v45, v46, v47, v48, v49, v50, v51, v52, v53, v54, v55, v56, v57, v58, v59, v60, v61, v62, v63, v64, v65, v66, v67, v68, v69, v70, v71, v72, v73, v74, v75, v76, v77, v78, v79, v80, v81, v82, v83, v84, v85, v86, v87, v88, v89, v90, v91, v92, v93, v94, v95, v96, v97, v98, v99, v100, v101, v102, v103, v104, v105, v106, v107, v108, v109, v110, v111, v112, v113, v114, v115, v116, v117, v118, v119, v120, v121, v122, v123, v124, v125, v126, v127, v128, v129, v130, v131, v132, v133, v134, v135, v136, v137, v138, v139, v140, v141, v142, v143, v144, v145, v146, v147, v148, v149, v150, v151, v152, v153, v154, v155, v156, v157, v158, v159, v160, x161, x162, x163, x164, x165, x166, x167, x168, x169, x170, x171, x172, x173, x174, x175, x176, v177, v178, v179, v180, v181, v182, v183, v184, v185, v186, v187, v188, v189, v190, v191, v192, v193, v194, v195, v196, v197, v198, v199, v200, v201, v202, v203, v204, v205, v206, v207, v208, v209, v210, v211, v212, v213, v214, v215, v216, v217, v218, v219, v220, v221, v222, v223, v224, v225, v226, v227, v228, v229, v230, v231, v232, v233, v234, v235, v236], []⟩ w) :
    Code.wp Try.prog spT31 (Exit.then Kc Qc) ⟨#[v0, v1, v2, v3, v4, v5, v6, v7, v8, v9, v10, v11, v12, v13, v14, v15, v16, v17, v18, .pointer (some ⟨q, 0, none⟩), v20, v21, v22, .pointer (some ⟨qa, 0, none⟩), v24, v25, v26, v27, v28, v29, v30, v31, u32, v33, v34, v35, v36, v37, v38, v39, v40, v41, v42, v43, v44, v45, v46, v47, v48, v49, v50, v51, v52, v53, v54, v55, v56, v57, v58, v59, v60, v61, v62, v63, v64, v65, v66, v67, v68, v69, v70, v71, v72, v73, v74, v75, v76, v77, v78, v79, v80, v81, v82, v83, v84, v85, v86, v87, v88, v89, v90, v91, v92, v93, v94, v95, v96, v97, v98, v99, v100, v101, v102, v103, v104, v105, v106, v107, v108, v109, v110, v111, v112, v113, v114, v115, v116, v117, v118, v119, v120, v121, v122, v123, v124, v125, v126, v127, v128, v129, v130, v131, v132, v133, v134, v135, v136, v137, v138, v139, v140, v141, v142, v143, v144, v145, v146, v147, v148, v149, v150, v151, v152, v153, v154, v155, v156, v157, v158, v159, v160, u161, u162, u163, u164, u165, u166, u167, u168, u169, u170, u171, u172, u173, u174, u175, u176, v177, v178, v179, v180, v181, v182, v183, v184, v185, v186, v187, v188, v189, v190, v191, v192, v193, v194, v195, v196, v197, v198, v199, v200, v201, v202, v203, v204, v205, v206, v207, v208, v209, v210, v211, v212, v213, v214, v215, v216, v217, v218, v219, v220, v221, v222, v223, v224, v225, v226, v227, v228, v229, v230, v231, v232, v233, v234, v235, v236], []⟩ w := by
  conv => arg 2; whnf
  have HK := Lib.hid hK
  clear hK
  have HK' := HK
  have hfr := hpi.fresh pg
  rw [hb] at hfr
  obtain ⟨wa, wc, ta, tc, hq, hi, hu⟩ := h8.bx
  have HI := Lib.hid hi
  obtain ⟨p0, p1⟩ := ha.cells
  obtain ⟨n, hn⟩ : ∃ n, n = wh.length := ⟨_, rfl⟩
  obtain ⟨m, hm⟩ : ∃ m, m = tx.length := ⟨_, rfl⟩
  rw [← hn, ← hm] at hq
  rw [← hn] at hsz hfr
  obtain ⟨k0, k1, k2, -⟩ := cells3 hq
  have HN := Lib.hid hn
  rw [← hn] at HI
  clear h8 ha hpi hb hq hi hu hn hm hqa
  by_cases hpn : pg < n
  · have hpi : (pg : Int) < (n : Int) := by omega
    obtain ⟨x, hx⟩ : ∃ x, wh[pg]? = some x := ⟨wh[pg]'(by rw [← HN.out]; exact hpn), List.getElem?_eq_getElem _⟩
    obtain ⟨g, rfl, -, e0⟩ := HI.out.at hx
    have hwx := get_whF hx
    rw [hwx, decide_eq_true hpn, Bool.true_and] at hfr
    clear hx hwx
    by_cases h3 : x = 3
    · subst h3
      have hbt : b = true := hfr
      subst hbt
      clear hfr
      go_wp2
      exact HK.out _ _ _ _ _ _ _ _ _ _ _ _ _ _ _ _ 
    · have h3i : ¬ (x : Int) = 3 := by omega
      have h3b : ((x : Int) == 3) = false := by simpa using h3i
      have hbf : b = false := by rw [hfr]; simpa using h3
      subst hbf
      clear hfr
      go_wp2
      exact HK.out _ _ _ _ _ _ _ _ _ _ _ _ _ _ _ _ 
  · have hpi : ¬ (pg : Int) < (n : Int) := by omega
    have hbf : b = false := by rw [hfr, decide_eq_false hpn]; rfl
    subst hbf
    clear hfr
    go_wp2
    exact HK.out _ _ _ _ _ _ _ _ _ _ _ _ _ _ _ _ 

end Go.Proofs.Ytoaglkbobndmeab

namespace Go.Proofs.Ytoaglkbobndmeab
open Go.RowKit Go.Maps

set_option maxRecDepth 1000000 in
set_option maxHeartbeats 8000000 in
theorem sp32_any (W w : World) (B H base q qa lim kd pg : Nat) (M : Sp) (NR : List Rc) (wh tx : List Nat) (b : Bool) (h8 : P8 W B H base q lim M wh tx w) (ha : ActAt w qa kd pg) (hqa : B + 5 ≤ qa) (hpi : PI lim NR M wh tx) (hlim : lim ≤ 65536) (hsz : wh.length ≤ 4001) (hpg : pg < 4294967296) (hb : decide (pg ∈ M.fr) = b)
    (u12 u177 u178 u179 u180 u181 u182 u183 u184 u185 u186 u187 u188 u189 u190 u191 v0 v1 v2 v3 v4 v5 v6 v7 v8 v9 v10 v11 v13 v14 v15 v16 v18 v20 v21 v22 v24 v25 v26 v27 v28 v29 v30 v31 v33 v34 v35 v36 v37 v38 v39 v40 v41 v42 v43 v44 v45 v46 v47 v48 v49 v50 v51 v52 v53 v54 v55 v56 v57 v58 v59 v60 v61 v62 v63 v64 v65 v66 v67 v68 v69 v70 v71 v72 v73 v74 v75 v76 v77 v78 v79 v80 v81 v82 v83 v84 v85 v86 v87 v88 v89 v90 v91 v92 v93 v94 v95 v96 v97 v98 v99 v100 v101 v102 v103 v104 v105 v106 v107 v108 v109 v110 v111 v112 v113 v114 v115 v116 v117 v118 v119 v120 v121 v122 v123 v124 v125 v126 v127 v128 v129 v130 v131 v132 v133 v134 v135 v136 v137 v138 v139 v140 v141 v142 v143 v144 v145 v146 v147 v148 v149 v150 v151 v152 v153 v154 v155 v156 v157 v158 v159 v160 v161 v162 v163 v164 v165 v166 v167 v168 v169 v170 v171 v172 v173 v174 v175 v176 v192 v193 v194 v195 v196 v197 v198 v199 v200 v201 v202 v203 v204 v205 v206 v207 v208 v209 v210 v211 v212 v213 v214 v215 v216 v217 v218 v219 v220 v221 v222 v223 v224 v225 v226 v227 v228 v229 v230 v231 v232 v233 v234 v235 v236 : Value) (Kc : Act → World → Prop) (Qc : Exit → Act → World → Prop)
    (hK : ∀ (x12 x177 x178 x179 x180 x181 x182 x183 x184 x185 x186 x187 x188 x189 x190 x191 : Value) (w5 : World), P8 W B H base q lim M wh tx w5 → Kc ⟨#[v0, v1, v2, v3, v4, v5, v6, v7, v8, v9, v10, v11, x12, v13, v14, v15, v16, .pointer (some ⟨B + 4, 0, none⟩), v18, .pointer (some ⟨q, 0, none⟩), v20, v21, v22, .pointer (some ⟨qa, 0, none⟩), v24, v25, v26, v27, v28, v29, v30, v31, .bool b, v33, v34, v35, v36, v37, v38, v39, v40, v41, v42, v43, v44, v45, v46, v47, v48, v49, v50, v51, v52, v53, v54, v55, v56, v57, v58, v59, v60, v61, v62, v63, v64, v65, v66, v67, v68, v69, v70, v71, v72, v73, v74, v75, v76, v77, v78, v79, v80, v81, v82, v83, v84, v85, v86, v87, v88, v89, v90, v91, v92, v93, v94, v95, v96, v97, v98, v99, v100, v101, v102, v103, v104, v105, v106, v107, v108, v109, v110, v111, v112, v113, v114, v115, v116, v117, v118, v119, v120, v121, v122, v123, v124, v125, v126, v127, v128, v129, v130, v131, v132, v133, v134, v135, v136, v137, v138, v139, v140, v141, v142, v143, v144, v145, v146, v147, v148, v149, v150, v151, v152, v153, v154, v155, v156, v157, v158, v159, v160, v161, v162, v163, v164, v165, v166, v167, v168, v169, v170, v171, v172, v173, v174, v175, v176, x177, x178, x179, x180, x181, x182, x183, x184, x185, x186, x187, x188, x189, x190, x191, v192, v193, v194, v195, v196, v197, v198, v199, v200, v201, v202, v203, v204, v205, v206, v207, v208, v209, v210, v211, v212, v213, v214, v215, v216, v217, v218, v219, v220, v221, v222, v223, v224, v225, v226, v227, v228, v229, v230, v231, v232, v233, v234, v235, v236], []⟩ w5) :
    Code.wp Try.prog spT32 (Exit.then Kc Qc) ⟨#[v0, v1, v2, v3, v4, v5, v6, v7, v8, v9, v10, v11, u12, v13, v14, v15, v16, .pointer (some ⟨B + 4, 0, none⟩), v18, .pointer (some ⟨q, 0, none⟩), v20, v21, v22, .pointer (some ⟨qa, 0, none⟩), v24, v25, v26, v27, v28, v29, v30, v31, .bool b, v33, v34, v35, v36, v37, v38, v39, v40, v41, v42, v43, v44, v45, v46, v47, v48, v49, v50, v51, v52, v53, v54, v55, v56, v57, v58, v59, v60, v61, v62, v63, v64, v65, v66, v67, v68, v69, v70, v71, v72, v73, v74, v75, v76, v77, v78, v79, v80, v81, v82, v83, v84, v85, v86, v87, v88, v89, v90, v91, v92, v93, v94, v95, v96, v97, v98, v99, v100, v101, v102, v103, v104, v105, v106, v107, v108, v109, v110, v111, v112, v113, v114, v115, v116, v117, v118, v119, v120, v121, v122, v123, v124, v125, v126, v127, v128, v129, v130, v131, v132, v133, v134, v135, v136, v137, v138, v139, v140, v141, v142, v143, v144, v145, v146, v147, v148, v149, v150, v151, v152, v153, v154, v155, v156, v157, v158, v159, v160, v161, v162, v163, v164, v165, v166, v167, v168, v169, v170, v171, v172, v173, v174, v175, v176, u177, u178, u179, u180, u181, u182, u183, u184, u185, u186, u187, u188, u189, u190, u191, v192, v193, v194, v195, v196, v197, v198, v199, v200, v201, v202, v203, v204, v205, v206, v207, v208, v209, v210, v211, v212, v213, v214, v215, v216, v217, v218, v219, v220, v221, v222, v223, v224, v225, v226, v227, v228, v229, v230, v231, v232, v233, v234, v235, v236], []⟩ w := by
  conv => arg 2; whnf
  have HK := Lib.hid hK
  clear hK
  have H8 := Lib.hid h8
  have HA := Lib.hid ha
  have HB := Lib.hid hb
  obtain ⟨n, hn⟩ : ∃ n, n = wh.length := ⟨_, rfl⟩
  obtain ⟨m, hm⟩ : ∃ m, m = tx.length := ⟨_, rfl⟩
  have HEN := Lib.hid (show M.en = n by rw [hn]; exact hpi.hw.symm)
  have HN := Lib.hid hn
  have HM := Lib.hid hm
  rw [← hn] at hsz
  have RD := Lib.hid (show ∀ (w' : World), w.grownBy w' none → P8 W B H base q lim M wh tx w' ∧ ∃ wa wc ta tc, w'.cell? ⟨q, 0, none⟩ = some (.slice wa n wc) ∧ w'.cell? ⟨q, 1, none⟩ = some (.slice ta m tc) from fun w' g => by
    have h9 := h8.grown g
    obtain ⟨wa, wc, ta, tc, hq, -, -⟩ := h9.bx
    rw [← hn, ← hm] at hq
    obtain ⟨k0, k1, -⟩ := cells3 hq
    exact ⟨h9, wa, wc, ta, tc, k0, k1⟩)
  obtain ⟨p0, p1⟩ := ha.cells
  clear h8 ha hpi hb hn hm hqa
  have hbb : (b != b) = false := by cases b <;> rfl
  have hwn : IntKind.i64.wrap (n : Int) = (n : Int) := IntWalk.i64_in _ ⟨by omega, by omega⟩
  go_wp2_with fail
  refine wp_region_noPanic ?_
  go_region_with (first
    | (go_at_call 16; (with_reducible refine (fresh_at w.drew B M pg b (H8.out.grown (gdrew w)).s hpg HB.out).mono ?_); rintro r w6 ⟨rfl, hg6⟩; obtain ⟨h9, wa, wc, ta, tc, k0, k1⟩ := RD.out w6 (gtrans (gdrew w) hg6); have H9 := Lib.hid h9; clear h9 hg6)
    | (go_at_call 17; (with_reducible refine (end_at w6 B M n H9.out.s HEN.out).mono ?_); rintro r w7 ⟨rfl, rfl⟩))
  all_goals
    refine NoPanic.normal ?_
    go_wp2
    exact HK.out _ _ _ _ _ _ _ _ _ _ _ _ _ _ _ _ w6 H9.out

end Go.Proofs.Ytoaglkbobndmeab

namespace Go.Proofs.Ytoaglkbobndmeab
open Go.RowKit Go.Maps

set_option maxRecDepth 1000000 in
set_option maxHeartbeats 8000000 in
theorem sp34_any (W w : World) (B H base q lim t : Nat) (M : Sp) (NR : List Rc) (wh tx : List Nat) (h8 : P8 W B H base q lim M wh tx w) (hpi : PI lim NR M wh tx) (hlim : lim ≤ 65536) (hsz : wh.length ≤ 4001) (ht : t < 18446744073709551616) (hnr : NR.length ≤ 10) (hnr2 : ∀ r ∈ NR, r.2.length ≤ 30)
    (u12 u192 u193 u194 u195 u196 u197 u198 u199 u200 u201 u202 u203 u204 u205 v0 v1 v2 v3 v4 v6 v7 v8 v9 v10 v11 v13 v14 v15 v16 v18 v20 v21 v22 v23 v24 v25 v26 v27 v28 v29 v30 v31 v32 v33 v34 v35 v36 v37 v38 v39 v40 v41 v42 v43 v44 v45 v46 v47 v48 v49 v50 v51 v52 v53 v54 v55 v56 v57 v58 v59 v60 v61 v62 v63 v64 v65 v66 v67 v68 v69 v70 v71 v72 v73 v74 v75 v76 v77 v78 v79 v80 v81 v82 v83 v84 v85 v86 v87 v88 v89 v90 v91 v92 v93 v94 v95 v96 v97 v98 v99 v100 v101 v102 v103 v104 v105 v106 v107 v108 v109 v110 v111 v112 v113 v114 v115 v116 v117 v118 v119 v120 v121 v122 v123 v124 v125 v126 v127 v128 v129 v130 v131 v132 v133 v134 v135 v136 v137 v138 v139 v140 v141 v142 v143 v144 v145 v146 v147 v148 v149 v150 v151 v152 v153 v154 v155 v156 v157 v158 v159 v160 v161 v162 v163 v164 v165 v166 v167 v168 v169 v170 v171 v172 v173 v174 v175 v176 v177 v178 v179 v180 v181 v182 v183 v184 v185 v186 v187 v188 v189 v190 v191 v206 v207 v208 v209 v210 v211 v212 v213 v214 v215 v216 v217 v218 v219 v220 v221 v222 v223 v224 v225 v226 v227 v228 v229 v230 v231 v232 v233 v234 v235 v236 : Value) (Kc : Act → World → Prop) (Qc : Exit → Act → World → Prop)
    (hK : ∀ (x12 x192 x193 x194 x195 x196 x197 x198 x199 x200 x201 x202 x203 x204 x205 : Value) (w5 : World), P8 W B H base q lim M wh tx w5 → Qc .normal ⟨#[v0, v1, v2, v3, v4, .int .u64 (t : Int), v6, v7, v8, v9, v10, v11, x12, v13, v14, v15, v16, .pointer (some ⟨B + 4, 0, none⟩), v18, .pointer (some ⟨q, 0, none⟩), v20, v21, v22, v23, v24, v25, v26, v27, v28, v29, v30, v31, v32, v33, v34, v35, v36, v37, v38, v39, v40, v41, v42, v43, v44, v45, v46, v47, v48, v49, v50, v51, v52, v53, v54, v55, v56, v57, v58, v59, v60, v61, v62, v63, v64, v65, v66, v67, v68, v69, v70, v71, v72, v73, v74, v75, v76, v77, v78, v79, v80, v81, v82, v83, v84, v85, v86, v87, v88, v89, v90, v91, v92, v93, v94, v95, v96, v97, v98, v99, v100, v101, v102, v103, v104, v105, v106, v107, v108, v109, v110, v111, v112, v113, v114, v115, v116, v117, v118, v119, v120, v121, v122, v123, v124, v125, v126, v127, v128, v129, v130, v131, v132, v133, v134, v135, v136, v137, v138, v139, v140, v141, v142, v143, v144, v145, v146, v147, v148, v149, v150, v151, v152, v153, v154, v155, v156, v157, v158, v159, v160, v161, v162, v163, v164, v165, v166, v167, v168, v169, v170, v171, v172, v173, v174, v175, v176, v177, v178, v179, v180, v181, v182, v183, v184, v185, v186, v187, v188, v189, v190, v191, x192, x193, x194, x195, x196, x197, x198, x199, x200, x201, x202, x203, x204, x205, v206, v207, v208, v209, v210, v211, v212, v213, v214, v215, v216, v217, v218, v219, v220, v221, v222, v223, v224, v225, v226, v227, v228, v229, v230, v231, v232, v233, v234, v235, v236], []⟩ w5) :
    Code.wp Try.prog spT34 Qc ⟨#[v0, v1, v2, v3, v4, .int .u64 (t : Int), v6, v7, v8, v9, v10, v11, u12, v13, v14, v15, v16, .pointer (some ⟨B + 4, 0, none⟩), v18, .pointer (some ⟨q, 0, none⟩), v20, v21, v22, v23, v24, v25, v26, v27, v28, v29, v30, v31, v32, v33, v34, v35, v36, v37, v38, v39, v40, v41, v42, v43, v44, v45, v46, v47, v48, v49, v50, v51, v52, v53, v54, v55, v56, v57, v58, v59, v60, v61, v62, v63, v64, v65, v66, v67, v68, v69, v70, v71, v72, v73, v74, v75, v76, v77, v78, v79, v80, v81, v82, v83, v84, v85, v86, v87, v88, v89, v90, v91, v92, v93, v94, v95, v96, v97, v98, v99, v100, v101, v102, v103, v104, v105, v106, v107, v108, v109, v110, v111, v112, v113, v114, v115, v116, v117, v118, v119, v120, v121, v122, v123, v124, v125, v126, v127, v128, v129, v130, v131, v132, v133, v134, v135, v136, v137, v138, v139, v140, v141, v142, v143, v144, v145, v146, v147, v148, v149, v150, v151, v152, v153, v154, v155, v156, v157, v158, v159, v160, v161, v162, v163, v164, v165, v166, v167, v168, v169, v170, v171, v172, v173, v174, v175, v176, v177, v178, v179, v180, v181, v182, v183, v184, v185, v186, v187, v188, v189, v190, v191, u192, u193, u194, u195, u196, u197, u198, u199, u200, u201, u202, u203, u204, u205, v206, v207, v208, v209, v210, v211, v212, v213, v214, v215, v216, v217, v218, v219, v220, v221, v222, v223, v224, v225, v226, v227, v228, v229, v230, v231, v232, v233, v234, v235, v236], []⟩ w := by
  conv => arg 2; whnf
  have HK := Lib.hid hK
  clear hK
  have H8 := Lib.hid h8
  have HPI := Lib.hid hpi
  obtain ⟨htl, hus, hgo, hen⟩ := hpi.lens
  have HTL := Lib.hid htl
  have HUS := Lib.hid hus
  have HGO := Lib.hid hgo
  obtain ⟨n, hn⟩ : ∃ n, n = wh.length := ⟨_, rfl⟩
  obtain ⟨m, hm⟩ : ∃ m, m = tx.length := ⟨_, rfl⟩
  have HN := Lib.hid hn
  have HM := Lib.hid hm
  have RD := Lib.hid (show ∀ (w' : World), w.grownBy w' none → P8 W B H base q lim M wh tx w' ∧ ∃ wa wc ta tc, w'.cell? ⟨q, 0, none⟩ = some (.slice wa n wc) ∧ w'.cell? ⟨q, 1, none⟩ = some (.slice ta m tc) ∧ w'.cell? ⟨q, 2, none⟩ = some (.int .i64 (lim : Int)) ∧ IRow base w' (.slice wa wh.length wc) wh ∧ URow base w' (.slice ta tx.length tc) tx from fun w' g => by
    have h9 := h8.grown g
    obtain ⟨wa, wc, ta, tc, hq, hi, hu⟩ := h9.bx
    have hq2 := hq
    rw [← hn, ← hm] at hq
    obtain ⟨k0, k1, k2, -⟩ := cells3 hq
    exact ⟨h9, wa, wc, ta, tc, k0, k1, k2, hi, hu⟩)
  have hws1 : ∀ r ∈ M.ws, r.2 ≠ [] ∧ r.2.length ≤ 100000 := fun r hr => by
    rw [hpi.b.ws] at hr
    exact ⟨(hpi.w.some_ r hr).1, Nat.le_trans (hnr2 r hr) (by decide)⟩
  have HW1 := Lib.hid hws1
  have HW2 := Lib.hid (show M.ws.length ≤ 100000 by rw [hpi.b.ws]; omega)
  obtain ⟨RL, hRL⟩ : ∃ RL, RL = recsM M (t + 1) := ⟨_, rfl⟩
  have HRL := Lib.hid hRL
  have HRL2 := Lib.hid (show recM (someK (fun p => wh.getD p 0 == 1) wh.length) 0 ++ NR ++ recM (someK (fun p => wh.getD p 0 == 4) wh.length) (t + 1) = RL by rw [hRL]; exact (hpi.recs (t + 1)).symm)
  obtain ⟨rn, hrn⟩ : ∃ rn, rn = RL.length := ⟨_, rfl⟩
  have HRN := Lib.hid hrn
  clear h8 hpi htl hus hgo hn hm hws1 hRL hrn
  by_cases htm : t = 18446744073709551615
  · have htmi : ¬ (t : Int) < 18446744073709551615 := by omega
    have cb : decide ((t : Int) < 18446744073709551615) = false := decide_eq_false htmi
    clear htm
    go_wp2_with fail
    go_quiet (fail)
    have H9 := Lib.hid (H8.out.grown (gdrewN w nq))
    generalize w.drewN nq = W9 at H9 ⊢
    go_wp2
    exact HK.out _ _ _ _ _ _ _ _ _ _ _ _ _ _ _ W9 H9.out
  · have htmi : (t : Int) < 18446744073709551615 := by omega
    have ht1 : t + 1 < 18446744073709551616 := by omega
    have htc : ((t + 1 : Nat) : Int) = (t : Int) + 1 := by omega
    have htw : IntKind.u64.wrap ((t : Int) + 1) = (t : Int) + 1 := IntWalk.u64_in _ (by omega)
    obtain ⟨h9, wa, wc, ta, tc, k0, k1, k2, hi9, hu9⟩ := RD.out w.drew (gdrew w)
    have HST := Lib.hid h9
    have HCI := Lib.hid hi9
    have HCU := Lib.hid hu9
    have HTC := Lib.hid htc
    clear h9 hi9 hu9 htc htm
    go_wp2_with fail
    refine wp_region_noPanic ?_
    go_region_held3 (fun w' => w'.cell? ⟨q, 0, none⟩ = some (.slice wa n wc) ∧ w'.cell? ⟨q, 1, none⟩ = some (.slice ta m tc) ∧ w'.cell? ⟨q, 2, none⟩ = some (.int .i64 (lim : Int))) (exact ⟨k0, k1, k2⟩) (first
      | (go_at_call 19; have K := records_any 100000 sort_many (Nat.le_refl _) _ B (t + 1) M HST.out.s (by have := HUS.out; omega) (by have := HGO.out; omega) HW1.out HW2.out ht1; rw [HTC.out, ← HRL.out] at K; (with_reducible refine K.mono ?_); clear K; rintro r wp ⟨vp, es, rfl, ho, he, hg⟩; have hro := ho.rsq; rw [he] at hro; obtain ⟨pa, pc, rfl⟩ := hro.shape; rw [← HRN.out] at hro; rw [← HRN.out]; have HR1 := Lib.hid hro; have HST := Lib.hid (HST.out.grown hg); have HCI := Lib.hid (HCI.out.grown hg); have HCU := Lib.hid (HCU.out.grown hg); (try (have HR2 := Lib.hid (HR2.out.grown hg))); have k0 := (World.grownBy.cell hg k0 (by simp)); have k1 := (World.grownBy.cell hg k1 (by simp)); have k2 := (World.grownBy.cell hg k2 (by simp)); clear ho he hg hro)
      | (go_at_call 20; have K := rrecords_any _ base wa ta wc tc lim wh tx NR (t + 1) HCI.out HCU.out HTL.out (by omega) HPI.out.w (by omega) ht1; rw [HTC.out, HRL2.out, ← HN.out, ← HM.out] at K; (with_reducible refine K.mono ?_); clear K; rintro r wq ⟨vq, es, rfl, ho, he, hg⟩; have hro := ho.rsq; rw [he] at hro; obtain ⟨qa2, qc2, rfl⟩ := hro.shape; rw [← HRN.out] at hro; rw [← HRN.out]; have HR2 := Lib.hid hro; have HST := Lib.hid (HST.out.grown hg); have HCI := Lib.hid (HCI.out.grown hg); have HCU := Lib.hid (HCU.out.grown hg); (try (have HR1 := Lib.hid (HR1.out.grown hg))); have k0 := (World.grownBy.cell hg k0 (by simp)); have k1 := (World.grownBy.cell hg k1 (by simp)); have k2 := (World.grownBy.cell hg k2 (by simp)); clear ho he hg hro)
      | (go_at_call 18; (with_reducible refine (same8_any _ _ _ _ _ _ _ _ RL HR1.out HR2.out).mono ?_); rintro r ws ⟨rfl, hg⟩; have HST := Lib.hid (HST.out.grown hg); have k0 := (World.grownBy.cell hg k0 (by simp)); have k1 := (World.grownBy.cell hg k1 (by simp)); have k2 := (World.grownBy.cell hg k2 (by simp)); clear hg))
    all_goals
      refine NoPanic.normal ?_
      go_wp2
      exact HK.out _ _ _ _ _ _ _ _ _ _ _ _ _ _ _ _ HST.out

end Go.Proofs.Ytoaglkbobndmeab

namespace Go.Proofs.Ytoaglkbobndmeab
open Go.RowKit Go.Maps

set_option maxRecDepth 1000000 in
set_option maxHeartbeats 8000000 in
theorem spmax_any (w : World) (R : Nat → Prop) (n c t0 : Nat) (ao : Option Addr) (rs : List Rc) (h : RSq R w (.slice ao n c) rs) (ht0 : t0 < 18446744073709551616)
    (u90 u91 u92 u93 u94 u95 u96 u97 u98 u99 u100 u101 u102 v0 v1 v3 v4 v6 v7 v8 v9 v10 v11 v12 v13 v14 v15 v16 v17 v18 v19 v20 v22 v23 v24 v25 v26 v27 v28 v29 v30 v31 v32 v33 v34 v35 v36 v37 v38 v39 v40 v41 v42 v43 v44 v45 v46 v47 v48 v49 v50 v51 v52 v53 v54 v55 v56 v57 v58 v59 v60 v61 v62 v63 v64 v65 v66 v67 v68 v69 v70 v71 v72 v73 v74 v75 v76 v77 v78 v79 v80 v81 v82 v83 v84 v85 v86 v87 v88 v89 v103 v104 v105 v106 v107 v108 v109 v110 v111 v112 v113 v114 v115 v116 v117 v118 v119 v120 v121 v122 v123 v124 v125 v126 v127 v128 v129 v130 v131 v132 v133 v134 v135 v136 v137 v138 v139 v140 v141 v142 v143 v144 v145 v146 v147 v148 v149 v150 v151 v152 v153 v154 v155 v156 v157 v158 v159 v160 v161 v162 v163 v164 v165 v166 v167 v168 v169 v170 v171 v172 v173 v174 v175 v176 v177 v178 v179 v180 v181 v182 v183 v184 v185 v186 v187 v188 v189 v190 v191 v192 v193 v194 v195 v196 v197 v198 v199 v200 v201 v202 v203 v204 v205 v206 v207 v208 v209 v210 v211 v212 v213 v214 v215 v216 v217 v218 v219 v220 v221 v222 v223 v224 v225 v226 v227 v228 v229 v230 v231 v232 v233 v234 v235 v236 : Value) (Kc : Act → World → Prop) (Qc : Exit → Act → World → Prop)
    (hK : ∀ (x21 x90 x91 x92 x93 x94 x95 x96 x97 x98 x99 x100 x101 x102 : Value) (t : Nat), t < 18446744073709551616 → Kc ⟨#[v0, v1, .slice ao n c, v3, v4, .int .u64 (t : Int), v6, v7, v8, v9, v10, v11, v12, v13, v14, v15, v16, v17, v18, v19, v20, x21, v22, v23, v24, v25, v26, v27, v28, v29, v30, v31, v32, v33, v34, v35, v36, v37, v38, v39, v40, v41, v42, v43, v44, v45, v46, v47, v48, v49, v50, v51, v52, v53, v54, v55, v56, v57, v58, v59, v60, v61, v62, v63, v64, v65, v66, v67, v68, v69, v70, v71, v72, v73, v74, v75, v76, v77, v78, v79, v80, v81, v82, v83, v84, v85, v86, v87, v88, v89, x90, x91, x92, x93, x94, x95, x96, x97, x98, x99, x100, x101, x102, v103, v104, v105, v106, v107, v108, v109, v110, v111, v112, v113, v114, v115, v116, v117, v118, v119, v120, v121, v122, v123, v124, v125, v126, v127, v128, v129, v130, v131, v132, v133, v134, v135, v136, v137, v138, v139, v140, v141, v142, v143, v144, v145, v146, v147, v148, v149, v150, v151, v152, v153, v154, v155, v156, v157, v158, v159, v160, v161, v162, v163, v164, v165, v166, v167, v168, v169, v170, v171, v172, v173, v174, v175, v176, v177, v178, v179, v180, v181, v182, v183, v184, v185, v186, v187, v188, v189, v190, v191, v192, v193, v194, v195, v196, v197, v198, v199, v200, v201, v202, v203, v204, v205, v206, v207, v208, v209, v210, v211, v212, v213, v214, v215, v216, v217, v218, v219, v220, v221, v222, v223, v224, v225, v226, v227, v228, v229, v230, v231, v232, v233, v234, v235, v236], []⟩ w) :
    Code.wp Try.prog spMax (Exit.then Kc Qc) ⟨#[v0, v1, .slice ao n c, v3, v4, .int .u64 (t0 : Int), v6, v7, v8, v9, v10, v11, v12, v13, v14, v15, v16, v17, v18, v19, v20, .int .i64 0, v22, v23, v24, v25, v26, v27, v28, v29, v30, v31, v32, v33, v34, v35, v36, v37, v38, v39, v40, v41, v42, v43, v44, v45, v46, v47, v48, v49, v50, v51, v52, v53, v54, v55, v56, v57, v58, v59, v60, v61, v62, v63, v64, v65, v66, v67, v68, v69, v70, v71, v72, v73, v74, v75, v76, v77, v78, v79, v80, v81, v82, v83, v84, v85, v86, v87, v88, v89, u90, u91, u92, u93, u94, u95, u96, u97, u98, u99, u100, u101, u102, v103, v104, v105, v106, v107, v108, v109, v110, v111, v112, v113, v114, v115, v116, v117, v118, v119, v120, v121, v122, v123, v124, v125, v126, v127, v128, v129, v130, v131, v132, v133, v134, v135, v136, v137, v138, v139, v140, v141, v142, v143, v144, v145, v146, v147, v148, v149, v150, v151, v152, v153, v154, v155, v156, v157, v158, v159, v160, v161, v162, v163, v164, v165, v166, v167, v168, v169, v170, v171, v172, v173, v174, v175, v176, v177, v178, v179, v180, v181, v182, v183, v184, v185, v186, v187, v188, v189, v190, v191, v192, v193, v194, v195, v196, v197, v198, v199, v200, v201, v202, v203, v204, v205, v206, v207, v208, v209, v210, v211, v212, v213, v214, v215, v216, v217, v218, v219, v220, v221, v222, v223, v224, v225, v226, v227, v228, v229, v230, v231, v232, v233, v234, v235, v236], []⟩ w := by
  conv => arg 2; whnf
  have HK := Lib.hid hK
  clear hK
  have H := Lib.hid h
  have HN := Lib.hid h.len.1
  have hn9 : (n : Int) ≤ 9223372036854775807 := by have h9 : maxLen ≤ 9223372036854775807 := by decide
                                                   have := h.len.2
                                                   omega
  clear h
  go_wp2
  go_loopw [5, 21] (fun tv i wr => ∃ k t : Nat, k ≤ n ∧ tv = .int .u64 (t : Int) ∧ i = .int .i64 (k : Int) ∧ t < 18446744073709551616 ∧ w = wr) (fun _ i _ => n - (intOf i).toNat)
  case atStart => exact ⟨0, t0, Nat.zero_le _, rfl, rfl, ht0, rfl⟩
  case round =>
    obtain ⟨k, t, hk, rfl, rfl, ht, rfl⟩ := hrel
    by_cases hkn : k < n
    · have hki : (k : Int) < (n : Int) := by omega
      obtain ⟨r, hr⟩ : ∃ r, rs[k]? = some r := ⟨rs[k]'(by rw [← HN.out]; exact hkn), List.getElem?_eq_getElem _⟩
      obtain ⟨b1, o1, rfl, _, c0, hT, _⟩ := H.out.at k r hr
      obtain ⟨mx, hmx⟩ : ∃ mx : Nat, max (t : Int) (r.1 : Int) = (mx : Int) := ⟨max t r.1, by omega⟩
      have hmx2 : mx < 18446744073709551616 := by omega
      clear hr
      go_wp2
      go_roundw
      case rel => exact ⟨k + 1, mx, by omega, rfl, by go_num, hmx2, trivial⟩
      case measure => simp [intOf]; omega
    · have hki : ¬ (k : Int) < (n : Int) := by omega
      go_wp2
      exact HK.out _ _ _ _ _ _ _ _ _ _ _ _ _ _ t ht

end Go.Proofs.Ytoaglkbobndmeab

namespace Go.Proofs.Ytoaglkbobndmeab
open Go.RowKit Go.Maps

set_option maxRecDepth 1000000 in
set_option maxHeartbeats 8000000 in
theorem spacts_any (W w : World) (B H base q lim t sn sc : Nat) (so : Option Addr) (acs : List (Nat × Nat)) (M : Sp) (NR : List Rc) (wh tx : List Nat) (h8 : P8 W B H base q lim M wh tx w) (hpi : PI lim NR M wh tx) (hlim : lim ≤ 65536) (hsz : wh.length ≤ 3000) (ht : t < 18446744073709551616) (hnr : NR.length ≤ 10) (hnr2 : ∀ r ∈ NR, r.2.length ≤ 30) (hsa : ASq W (.slice so sn sc) acs)
    (u12 u23 u24 u25 u26 u27 u28 u29 u30 u31 u32 u103 u104 u105 u106 u107 u108 u109 u110 u111 u112 u113 u114 u115 u116 u117 u118 u119 u120 u121 u122 u123 u124 u125 u126 u127 u128 u129 u130 u131 u132 u133 u134 u135 u136 u137 u138 u139 u140 u141 u142 u143 u144 u145 u146 u147 u148 u149 u150 u151 u152 u153 u154 u155 u156 u157 u158 u159 u160 u161 u162 u163 u164 u165 u166 u167 u168 u169 u170 u171 u172 u173 u174 u175 u176 u177 u178 u179 u180 u181 u182 u183 u184 u185 u186 u187 u188 u189 u190 u191 u192 u193 u194 u195 u196 u197 u198 u199 u200 u201 u202 u203 u204 u205 v0 v1 v2 v3 v6 v7 v8 v9 v10 v11 v13 v14 v15 v16 v18 v20 v21 v33 v34 v35 v36 v37 v38 v39 v40 v41 v42 v43 v44 v45 v46 v47 v48 v49 v50 v51 v52 v53 v54 v55 v56 v57 v58 v59 v60 v61 v62 v63 v64 v65 v66 v67 v68 v69 v70 v71 v72 v73 v74 v75 v76 v77 v78 v79 v80 v81 v82 v83 v84 v85 v86 v87 v88 v89 v90 v91 v92 v93 v94 v95 v96 v97 v98 v99 v100 v101 v102 v206 v207 v208 v209 v210 v211 v212 v213 v214 v215 v216 v217 v218 v219 v220 v221 v222 v223 v224 v225 v226 v227 v228 v229 v230 v231 v232 v233 v234 v235 v236 : Value) (Kc : Act → World → Prop) (Qc : Exit → Act → World → Prop)
    (hK : ∀ (x12 x22 x23 x24 x25 x26 x27 x28 x29 x30 x31 x32 x103 x104 x105 x106 x107 x108 x109 x110 x111 x112 x113 x114 x115 x116 x117 x118 x119 x120 x121 x122 x123 x124 x125 x126 x127 x128 x129 x130 x131 x132 x133 x134 x135 x136 x137 x138 x139 x140 x141 x142 x143 x144 x145 x146 x147 x148 x149 x150 x151 x152 x153 x154 x155 x156 x157 x158 x159 x160 x161 x162 x163 x164 x165 x166 x167 x168 x169 x170 x171 x172 x173 x174 x175 x176 x177 x178 x179 x180 x181 x182 x183 x184 x185 x186 x187 x188 x189 x190 x191 x192 x193 x194 x195 x196 x197 x198 x199 x200 x201 x202 x203 x204 x205 : Value) (w5 : World), W.grownBy w5 none → Kc ⟨#[v0, v1, v2, v3, .slice so sn sc, .int .u64 (t : Int), v6, v7, v8, v9, v10, v11, x12, v13, v14, v15, v16, .pointer (some ⟨B + 4, 0, none⟩), v18, .pointer (some ⟨q, 0, none⟩), v20, v21, x22, x23, x24, x25, x26, x27, x28, x29, x30, x31, x32, v33, v34, v35, v36, v37, v38, v39, v40, v41, v42, v43, v44, v45, v46, v47, v48, v49, v50, v51, v52, v53, v54, v55, v56, v57, v58, v59, v60, v61, v62, v63, v64, v65, v66, v67, v68, v69, v70, v71, v72, v73, v74, v75, v76, v77, v78, v79, v80, v81, v82, v83, v84, v85, v86, v87, v88, v89, v90, v91, v92, v93, v94, v95, v96, v97, v98, v99, v100, v101, v102, x103, x104, x105, x106, x107, x108, x109, x110, x111, x112, x113, x114, x115, x116, x117, x118, x119, x120, x121, x122, x123, x124, x125, x126, x127, x128, x129, x130, x131, x132, x133, x134, x135, x136, x137, x138, x139, x140, x141, x142, x143, x144, x145, x146, x147, x148, x149, x150, x151, x152, x153, x154, x155, x156, x157, x158, x159, x160, x161, x162, x163, x164, x165, x166, x167, x168, x169, x170, x171, x172, x173, x174, x175, x176, x177, x178, x179, x180, x181, x182, x183, x184, x185, x186, x187, x188, x189, x190, x191, x192, x193, x194, x195, x196, x197, x198, x199, x200, x201, x202, x203, x204, x205, v206, v207, v208, v209, v210, v211, v212, v213, v214, v215, v216, v217, v218, v219, v220, v221, v222, v223, v224, v225, v226, v227, v228, v229, v230, v231, v232, v233, v234, v235, v236], []⟩ w5) :
    Code.wp Try.prog spActs (Exit.then Kc Qc) ⟨#[v0, v1, v2, v3, .slice so sn sc, .int .u64 (t : Int), v6, v7, v8, v9, v10, v11, u12, v13, v14, v15, v16, .pointer (some ⟨B + 4, 0, none⟩), v18, .pointer (some ⟨q, 0, none⟩), v20, v21, .int .i64 0, u23, u24, u25, u26, u27, u28, u29, u30, u31, u32, v33, v34, v35, v36, v37, v38, v39, v40, v41, v42, v43, v44, v45, v46, v47, v48, v49, v50, v51, v52, v53, v54, v55, v56, v57, v58, v59, v60, v61, v62, v63, v64, v65, v66, v67, v68, v69, v70, v71, v72, v73, v74, v75, v76, v77, v78, v79, v80, v81, v82, v83, v84, v85, v86, v87, v88, v89, v90, v91, v92, v93, v94, v95, v96, v97, v98, v99, v100, v101, v102, u103, u104, u105, u106, u107, u108, u109, u110, u111, u112, u113, u114, u115, u116, u117, u118, u119, u120, u121, u122, u123, u124, u125, u126, u127, u128, u129, u130, u131, u132, u133, u134, u135, u136, u137, u138, u139, u140, u141, u142, u143, u144, u145, u146, u147, u148, u149, u150, u151, u152, u153, u154, u155, u156, u157, u158, u159, u160, u161, u162, u163, u164, u165, u166, u167, u168, u169, u170, u171, u172, u173, u174, u175, u176, u177, u178, u179, u180, u181, u182, u183, u184, u185, u186, u187, u188, u189, u190, u191, u192, u193, u194, u195, u196, u197, u198, u199, u200, u201, u202, u203, u204, u205, v206, v207, v208, v209, v210, v211, v212, v213, v214, v215, v216, v217, v218, v219, v220, v221, v222, v223, v224, v225, v226, v227, v228, v229, v230, v231, v232, v233, v234, v235, v236], []⟩ w := by
  conv => arg 2; whnf
  have HK := Lib.hid hK
  clear hK
  have H8 := Lib.hid h8
  have HPI0 := Lib.hid hpi
  have HA := Lib.hid hsa
  have HSN := Lib.hid hsa.len.1
  have hsn9 : (sn : Int) ≤ 9223372036854775807 := by have h9 : maxLen ≤ 9223372036854775807 := by decide
                                                     have := hsa.len.2
                                                     omega
  obtain ⟨l1, l2, l3, l4⟩ := h8.le
  clear h8 hpi hsa
  go_wp2
  go_loopw [22] (fun i wr => ∃ (k : Nat) (M2 : Sp) (wh2 tx2 : List Nat), k ≤ sn ∧ k ≤ 40 ∧ i = .int .i64 (k : Int) ∧ P8 W B H base q lim M2 wh2 tx2 wr ∧ Hid (PI lim NR M2 wh2 tx2) ∧ wh2.length ≤ 3000 + k) (fun i _ => 40 - (intOf i).toNat)
  case atStart => exact ⟨0, M, wh, tx, Nat.zero_le _, by decide, rfl, H8.out, HPI0, by omega⟩
  case round =>
    obtain ⟨k, M2, wh2, tx2, hk, hk40, rfl, h2, HPI, hs2⟩ := hrel
    have HP2 := Lib.hid h2
    clear h2
    by_cases hkn : k < sn
    · have hki : (k : Int) < (sn : Int) := by omega
      by_cases hk4 : k < 40
      · have hk4i : (k : Int) < 40 := by omega
        obtain ⟨ac, hac⟩ : ∃ ac, acs[k]? = some ac := ⟨acs[k]'(by rw [← HSN.out]; exact hkn), List.getElem?_eq_getElem _⟩
        obtain ⟨kd, pg⟩ := ac
        obtain ⟨ba, oa, rfl, _, d0, hkd, d1, hpg⟩ := HA.out.at k _ hac
        simp only at d0 d1 hkd hpg
        have c0 := HP2.out.gr.cell d0 (by simp)
        have c1 := HP2.out.gr.cell d1 (by simp)
        obtain ⟨wa, wc, ta, tc, hq, -, -⟩ := HP2.out.bx
        have hqs := lt_of_block hq
        have hal := World.grownBy_alloc wr (.cells #[.int .u8 (kd : Int), .int .u32 (pg : Int)] 49) none
        have H2 := Lib.hid (HP2.out.grown hal)
        have HA2 := Lib.hid (show ActAt _ wr.heap.size kd pg from heap_alloc_new wr (.cells #[.int .u8 (kd : Int), .int .u32 (pg : Int)] 49))
        obtain ⟨kb, hkb⟩ : ∃ kb : Int, bits .and .u8 (kd : Int) 1 = kb := ⟨_, rfl⟩
        clear hac d0 d1 hq hal
        go_upto_region 20 with fail
        clear c0 c1
        generalize wr.alloc (.cells #[.int .u8 (kd : Int), .int .u32 (pg : Int)] 49) = W2 at H2 HA2 ⊢
        have hqa : B + 5 ≤ wr.heap.size := by omega
        generalize wr.heap.size = qa at HA2 hqa ⊢
        obtain ⟨k0, k1⟩ := HA2.out.cells
        clear hqs
        by_cases hkb0 : kb = 0
        · subst hkb0
          go_upto_if 124 with fail
          refine sptake_any W W2 B H base q qa lim kd pg M2 NR wh2 tx2 H2.out HA2.out hqa HPI.out hlim (by omega) hpg _ _ _ _ _ _ _ _ _ _ _ _ _ _ _ _ _ _ _ _ _ _ _ _ _ _ _ _ _ _ _ _ _ _ _ _ _ _ _ _ _ _ _ _ _ _ _ _ _ _ _ _ _ _ _ _ _ _ _ _ _ _ _ _ _ _ _ _ _ _ _ _ _ _ _ _ _ _ _ _ _ _ _ _ _ _ _ _ _ _ _ _ _ _ _ _ _ _ _ _ _ _ _ _ _ _ _ _ _ _ _ _ _ _ _ _ _ _ _ _ _ _ _ _ _ _ _ _ _ _ _ _ _ _ _ _ _ _ _ _ _ _ _ _ _ _ _ _ _ _ _ _ _ _ _ _ _ _ _ _ _ _ _ _ _ _ _ _ _ _ _ _ _ _ _ _ _ _ _ _ _ _ _ _ _ _ _ _ _ _ _ _ _ _ _ _ _ _ _ _ _ _ _ _ _ _ _ _ _ _ _ _ _ _ _ _ _ _ _ _ _ _ _ _ _ _ _ _ _ _ _ _ _ _ _ (fun x12 x24 x25 x26 x27 x28 x125 x126 x127 x128 x129 x130 x131 x132 x133 x134 x135 x136 x137 x138 x139 x140 x141 x142 x143 x144 x145 M3 wh3 tx3 w3 h3 ha3 hpi3 hl3 => ?_)
          rename ∀ (a : Act) (w : World), Code.wp _ _ (Exit.inBlock 3 _) a w → _ => hK0
          refine hK0 _ _ ?_
          have H3 := Lib.hid h3
          have HA3 := Lib.hid ha3
          have HPI3 := Lib.hid hpi3
          clear hK0 h3 ha3 hpi3 H2 HA2
          refine wp_seq_k fun K1 hK1 => ?_
          refine sp31_any W w3 B H base q qa lim kd pg M3 NR wh3 tx3 _ H3.out HA3.out hqa HPI3.out hlim (by omega) hpg rfl _ _ _ _ _ _ _ _ _ _ _ _ _ _ _ _ _ _ _ _ _ _ _ _ _ _ _ _ _ _ _ _ _ _ _ _ _ _ _ _ _ _ _ _ _ _ _ _ _ _ _ _ _ _ _ _ _ _ _ _ _ _ _ _ _ _ _ _ _ _ _ _ _ _ _ _ _ _ _ _ _ _ _ _ _ _ _ _ _ _ _ _ _ _ _ _ _ _ _ _ _ _ _ _ _ _ _ _ _ _ _ _ _ _ _ _ _ _ _ _ _ _ _ _ _ _ _ _ _ _ _ _ _ _ _ _ _ _ _ _ _ _ _ _ _ _ _ _ _ _ _ _ _ _ _ _ _ _ _ _ _ _ _ _ _ _ _ _ _ _ _ _ _ _ _ _ _ _ _ _ _ _ _ _ _ _ _ _ _ _ _ _ _ _ _ _ _ _ _ _ _ _ _ _ _ _ _ _ _ _ _ _ _ _ _ _ _ _ _ _ _ _ _ _ _ _ _ _ _ _ _ _ _ _ _ _ _ (fun x161 x162 x163 x164 x165 x166 x167 x168 x169 x170 x171 x172 x173 x174 x175 x176 => hK1 _ _ ?_)
          clear hK1
          refine wp_seq_k fun K2 hK2 => ?_
          refine sp32_any W w3 B H base q qa lim kd pg M3 NR wh3 tx3 _ H3.out HA3.out hqa HPI3.out hlim (by omega) hpg rfl _ _ _ _ _ _ _ _ _ _ _ _ _ _ _ _ _ _ _ _ _ _ _ _ _ _ _ _ _ _ _ _ _ _ _ _ _ _ _ _ _ _ _ _ _ _ _ _ _ _ _ _ _ _ _ _ _ _ _ _ _ _ _ _ _ _ _ _ _ _ _ _ _ _ _ _ _ _ _ _ _ _ _ _ _ _ _ _ _ _ _ _ _ _ _ _ _ _ _ _ _ _ _ _ _ _ _ _ _ _ _ _ _ _ _ _ _ _ _ _ _ _ _ _ _ _ _ _ _ _ _ _ _ _ _ _ _ _ _ _ _ _ _ _ _ _ _ _ _ _ _ _ _ _ _ _ _ _ _ _ _ _ _ _ _ _ _ _ _ _ _ _ _ _ _ _ _ _ _ _ _ _ _ _ _ _ _ _ _ _ _ _ _ _ _ _ _ _ _ _ _ _ _ _ _ _ _ _ _ _ _ _ _ _ _ _ _ _ _ _ _ _ _ _ _ _ _ _ _ _ _ _ _ _ _ (fun x12 x177 x178 x179 x180 x181 x182 x183 x184 x185 x186 x187 x188 x189 x190 x191 w4 h4 => hK2 _ _ ?_)
          have H4 := Lib.hid h4
          clear hK2 h4
          refine sp34_any W w4 B H base q lim t M3 NR wh3 tx3 H4.out HPI3.out hlim (by omega) ht hnr hnr2 _ _ _ _ _ _ _ _ _ _ _ _ _ _ _ _ _ _ _ _ _ _ _ _ _ _ _ _ _ _ _ _ _ _ _ _ _ _ _ _ _ _ _ _ _ _ _ _ _ _ _ _ _ _ _ _ _ _ _ _ _ _ _ _ _ _ _ _ _ _ _ _ _ _ _ _ _ _ _ _ _ _ _ _ _ _ _ _ _ _ _ _ _ _ _ _ _ _ _ _ _ _ _ _ _ _ _ _ _ _ _ _ _ _ _ _ _ _ _ _ _ _ _ _ _ _ _ _ _ _ _ _ _ _ _ _ _ _ _ _ _ _ _ _ _ _ _ _ _ _ _ _ _ _ _ _ _ _ _ _ _ _ _ _ _ _ _ _ _ _ _ _ _ _ _ _ _ _ _ _ _ _ _ _ _ _ _ _ _ _ _ _ _ _ _ _ _ _ _ _ _ _ _ _ _ _ _ _ _ _ _ _ _ _ _ _ _ _ _ _ _ _ _ _ _ _ _ _ _ _ _ _ _ _ (fun _ _ => True) _ (fun x12 x192 x193 x194 x195 x196 x197 x198 x199 x200 x201 x202 x203 x204 x205 w5 h5 => ?_)
          have H5 := Lib.hid h5
          clear h5
          (try simp only [Exit.inBlock, Exit.then])
          go_wp2
          go_roundw
          case rel => exact ⟨k + 1, M3, wh3, tx3, by omega, by omega, by go_num, H5.out, HPI3, by omega⟩
          case measure => simp [intOf]; omega
        · have hkbb : (kb == 0) = false := by simpa using hkb0
          go_upto_if 124 with fail
          refine spgive_any W W2 B H base q qa lim kd pg M2 NR wh2 tx2 H2.out HA2.out hqa HPI.out hlim (by omega) hpg _ _ _ _ _ _ _ _ _ _ _ _ _ _ _ _ _ _ _ _ _ _ _ _ _ _ _ _ _ _ _ _ _ _ _ _ _ _ _ _ _ _ _ _ _ _ _ _ _ _ _ _ _ _ _ _ _ _ _ _ _ _ _ _ _ _ _ _ _ _ _ _ _ _ _ _ _ _ _ _ _ _ _ _ _ _ _ _ _ _ _ _ _ _ _ _ _ _ _ _ _ _ _ _ _ _ _ _ _ _ _ _ _ _ _ _ _ _ _ _ _ _ _ _ _ _ _ _ _ _ _ _ _ _ _ _ _ _ _ _ _ _ _ _ _ _ _ _ _ _ _ _ _ _ _ _ _ _ _ _ _ _ _ _ _ _ _ _ _ _ _ _ _ _ _ _ _ _ _ _ _ _ _ _ _ _ _ _ _ _ _ _ _ _ _ _ _ _ _ _ _ _ _ _ _ _ _ _ _ _ _ _ _ _ _ _ _ _ _ _ _ _ _ _ _ _ _ _ _ _ _ _ _ _ _ (fun x12 x29 x30 x31 x146 x147 x148 x149 x150 x151 x152 x153 x154 x155 x156 x157 x158 x159 x160 M3 wh3 tx3 w3 h3 ha3 hpi3 hl3 => ?_)
          rename ∀ (a : Act) (w : World), Code.wp _ _ (Exit.inBlock 3 _) a w → _ => hK0
          refine hK0 _ _ ?_
          have H3 := Lib.hid h3
          have HA3 := Lib.hid ha3
          have HPI3 := Lib.hid hpi3
          clear hK0 h3 ha3 hpi3 H2 HA2
          refine wp_seq_k fun K1 hK1 => ?_
          refine sp31_any W w3 B H base q qa lim kd pg M3 NR wh3 tx3 _ H3.out HA3.out hqa HPI3.out hlim (by omega) hpg rfl _ _ _ _ _ _ _ _ _ _ _ _ _ _ _ _ _ _ _ _ _ _ _ _ _ _ _ _ _ _ _ _ _ _ _ _ _ _ _ _ _ _ _ _ _ _ _ _ _ _ _ _ _ _ _ _ _ _ _ _ _ _ _ _ _ _ _ _ _ _ _ _ _ _ _ _ _ _ _ _ _ _ _ _ _ _ _ _ _ _ _ _ _ _ _ _ _ _ _ _ _ _ _ _ _ _ _ _ _ _ _ _ _ _ _ _ _ _ _ _ _ _ _ _ _ _ _ _ _ _ _ _ _ _ _ _ _ _ _ _ _ _ _ _ _ _ _ _ _ _ _ _ _ _ _ _ _ _ _ _ _ _ _ _ _ _ _ _ _ _ _ _ _ _ _ _ _ _ _ _ _ _ _ _ _ _ _ _ _ _ _ _ _ _ _ _ _ _ _ _ _ _ _ _ _ _ _ _ _ _ _ _ _ _ _ _ _ _ _ _ _ _ _ _ _ _ _ _ _ _ _ _ _ _ _ _ _ (fun x161 x162 x163 x164 x165 x166 x167 x168 x169 x170 x171 x172 x173 x174 x175 x176 => hK1 _ _ ?_)
          clear hK1
          refine wp_seq_k fun K2 hK2 => ?_
          refine sp32_any W w3 B H base q qa lim kd pg M3 NR wh3 tx3 _ H3.out HA3.out hqa HPI3.out hlim (by omega) hpg rfl _ _ _ _ _ _ _ _ _ _ _ _ _ _ _ _ _ _ _ _ _ _ _ _ _ _ _ _ _ _ _ _ _ _ _ _ _ _ _ _ _ _ _ _ _ _ _ _ _ _ _ _ _ _ _ _ _ _ _ _ _ _ _ _ _ _ _ _ _ _ _ _ _ _ _ _ _ _ _ _ _ _ _ _ _ _ _ _ _ _ _ _ _ _ _ _ _ _ _ _ _ _ _ _ _ _ _ _ _ _ _ _ _ _ _ _ _ _ _ _ _ _ _ _ _ _ _ _ _ _ _ _ _ _ _ _ _ _ _ _ _ _ _ _ _ _ _ _ _ _ _ _ _ _ _ _ _ _ _ _ _ _ _ _ _ _ _ _ _ _ _ _ _ _ _ _ _ _ _ _ _ _ _ _ _ _ _ _ _ _ _ _ _ _ _ _ _ _ _ _ _ _ _ _ _ _ _ _ _ _ _ _ _ _ _ _ _ _ _ _ _ _ _ _ _ _ _ _ _ _ _ _ _ _ _ (fun x12 x177 x178 x179 x180 x181 x182 x183 x184 x185 x186 x187 x188 x189 x190 x191 w4 h4 => hK2 _ _ ?_)
          have H4 := Lib.hid h4
          clear hK2 h4
          refine sp34_any W w4 B H base q lim t M3 NR wh3 tx3 H4.out HPI3.out hlim (by omega) ht hnr hnr2 _ _ _ _ _ _ _ _ _ _ _ _ _ _ _ _ _ _ _ _ _ _ _ _ _ _ _ _ _ _ _ _ _ _ _ _ _ _ _ _ _ _ _ _ _ _ _ _ _ _ _ _ _ _ _ _ _ _ _ _ _ _ _ _ _ _ _ _ _ _ _ _ _ _ _ _ _ _ _ _ _ _ _ _ _ _ _ _ _ _ _ _ _ _ _ _ _ _ _ _ _ _ _ _ _ _ _ _ _ _ _ _ _ _ _ _ _ _ _ _ _ _ _ _ _ _ _ _ _ _ _ _ _ _ _ _ _ _ _ _ _ _ _ _ _ _ _ _ _ _ _ _ _ _ _ _ _ _ _ _ _ _ _ _ _ _ _ _ _ _ _ _ _ _ _ _ _ _ _ _ _ _ _ _ _ _ _ _ _ _ _ _ _ _ _ _ _ _ _ _ _ _ _ _ _ _ _ _ _ _ _ _ _ _ _ _ _ _ _ _ _ _ _ _ _ _ _ _ _ _ _ _ _ _ (fun _ _ => True) _ (fun x12 x192 x193 x194 x195 x196 x197 x198 x199 x200 x201 x202 x203 x204 x205 w5 h5 => ?_)
          have H5 := Lib.hid h5
          clear h5
          (try simp only [Exit.inBlock, Exit.then])
          go_wp2
          go_roundw
          case rel => exact ⟨k + 1, M3, wh3, tx3, by omega, by omega, by go_num, H5.out, HPI3, by omega⟩
          case measure => simp [intOf]; omega
      · have hk4i : ¬ (k : Int) < 40 := by omega
        go_wp2
        exact HK.out _ _ _ _ _ _ _ _ _ _ _ _ _ _ _ _ _ _ _ _ _ _ _ _ _ _ _ _ _ _ _ _ _ _ _ _ _ _ _ _ _ _ _ _ _ _ _ _ _ _ _ _ _ _ _ _ _ _ _ _ _ _ _ _ _ _ _ _ _ _ _ _ _ _ _ _ _ _ _ _ _ _ _ _ _ _ _ _ _ _ _ _ _ _ _ _ _ _ _ _ _ _ _ _ _ _ _ _ _ _ _ _ _ _ _ wr HP2.out.gr
    · have hki : ¬ (k : Int) < (sn : Int) := by omega
      go_wp2
      exact HK.out _ _ _ _ _ _ _ _ _ _ _ _ _ _ _ _ _ _ _ _ _ _ _ _ _ _ _ _ _ _ _ _ _ _ _ _ _ _ _ _ _ _ _ _ _ _ _ _ _ _ _ _ _ _ _ _ _ _ _ _ _ _ _ _ _ _ _ _ _ _ _ _ _ _ _ _ _ _ _ _ _ _ _ _ _ _ _ _ _ _ _ _ _ _ _ _ _ _ _ _ _ _ _ _ _ _ _ _ _ _ _ _ _ _ _ wr HP2.out.gr

end Go.Proofs.Ytoaglkbobndmeab

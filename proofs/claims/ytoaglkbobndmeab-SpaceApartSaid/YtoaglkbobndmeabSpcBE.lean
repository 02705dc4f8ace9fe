/-
  SpaceApart: how many pages are free. Own work.
-/
import Derived.Test.YtoaglkbobndmeabSpcBA
namespace Go.Proofs.Ytoaglkbobndmeab
open Go.RowKit Go.Maps

set_option maxRecDepth 1000000 in
set_option maxHeartbeats 8000000 in
theorem asum_any (W w6 : World) (B H N : Nat) (oa : Option Addr) (oc : Nat) (rs NR : List Rc) (M : Sp) (V2 : Nat → Nat) (t3 : Nat) (hC6 : ACore W B H (.slice oa N oc) rs M V2 w6) (hI : AInv NR M V2) (ht3 : t3 ≤ 60) (htg : t3 = goods V2 60)
    (u246 u247 u248 u249 u250 u251 u252 u253 u254 u255 u256 u257 u258 u259 u260 u261 u262 u263 u264 u265 u266 u267 u268 u269 u270 v0 v1 v2 v3 v4 v5 v6 v7 v8 v9 v10 v11 v12 v14 v15 v16 v17 v18 v19 v20 v21 v23 v24 v25 v27 v28 v29 v30 v31 v32 v33 v34 v35 v36 v37 v38 v39 v40 v41 v42 v43 v44 v45 v46 v47 v48 v49 v50 v51 v52 v53 v54 v55 v56 v57 v58 v59 v60 v61 v62 v63 v64 v65 v66 v67 v68 v69 v70 v71 v72 v73 v74 v75 v76 v77 v78 v79 v80 v81 v82 v83 v84 v85 v86 v87 v88 v89 v90 v91 v92 v93 v94 v95 v96 v97 v98 v99 v100 v101 v102 v103 v104 v105 v106 v107 v108 v109 v110 v111 v112 v113 v114 v115 v116 v117 v118 v119 v120 v121 v122 v123 v124 v125 v126 v127 v128 v129 v130 v131 v132 v133 v134 v135 v136 v137 v138 v139 v140 v141 v142 v143 v144 v145 v146 v147 v148 v149 v150 v151 v152 v153 v154 v155 v156 v157 v158 v159 v160 v161 v162 v163 v164 v165 v166 v167 v168 v169 v170 v171 v172 v173 v174 v175 v176 v177 v178 v179 v180 v181 v182 v183 v184 v185 v186 v187 v188 v189 v190 v191 v192 v193 v194 v195 v196 v197 v198 v199 v200 v201 v202 v203 v204 v205 v206 v207 v208 v209 v210 v211 v212 v213 v214 v215 v216 v217 v218 v219 v220 v221 v222 v223 v224 v225 v226 v227 v228 v229 v230 v231 v232 v233 v234 v235 v236 v237 v238 v239 v240 v241 v242 v243 v244 v245 v271 v272 v273 v274 v275 v276 v277 v278 : Value) (Kc : Act → World → Prop) (Qc : Exit → Act → World → Prop)
    (hK : ∀ (x26 x246 x247 x248 x249 x250 x251 x252 x253 x254 x255 x256 x257 x258 x259 x260 x261 x262 x263 x264 x265 x266 x267 x268 x269 x270 : Value) , Kc ⟨#[v0, v1, v2, v3, v4, v5, v6, v7, v8, v9, v10, v11, v12, .slice (some ⟨H, 0, none⟩) 60 60, v14, v15, v16, v17, v18, v19, v20, v21, .int .i64 0, v23, v24, v25, x26, v27, v28, v29, v30, v31, v32, v33, v34, v35, v36, v37, v38, v39, v40, v41, v42, v43, v44, v45, v46, v47, v48, v49, v50, v51, v52, v53, v54, v55, v56, v57, v58, v59, v60, v61, v62, v63, v64, v65, v66, v67, v68, v69, v70, v71, v72, v73, v74, v75, v76, v77, v78, v79, v80, v81, v82, v83, v84, v85, v86, v87, v88, v89, v90, v91, v92, v93, v94, v95, v96, v97, v98, v99, v100, v101, v102, v103, v104, v105, v106, v107, v108, v109, v110, v111, v112, v113, v114, v115, v116, v117, v118, v119, v120, v121, v122, v123, v124, v125, v126, v127, v128, v129, v130, v131, v132, v133, v134, v135, v136, v137, v138, v139, v140, v141, v142, v143, v144, v145, v146, v147, v148, v149, v150, v151, v152, v153, v154, v155, v156, v157, v158, v159, v160, v161, v162, v163, v164, v165, v166, v167, v168, v169, v170, v171, v172, v173, v174, v175, v176, v177, v178, v179, v180, v181, v182, v183, v184, v185, v186, v187, v188, v189, v190, v191, v192, v193, v194, v195, v196, v197, v198, v199, v200, v201, v202, v203, v204, v205, v206, v207, v208, v209, v210, v211, v212, v213, v214, v215, v216, v217, v218, v219, v220, v221, v222, v223, v224, v225, v226, v227, v228, v229, v230, v231, v232, v233, v234, v235, v236, v237, v238, v239, v240, v241, v242, v243, v244, v245, x246, x247, x248, x249, x250, x251, x252, x253, x254, x255, x256, x257, x258, x259, x260, x261, x262, x263, x264, x265, x266, x267, x268, x269, x270, v271, v272, v273, v274, v275, v276, v277, v278], []⟩ w6) :
    Code.wp Try.prog apartSum (Exit.then Kc Qc) ⟨#[v0, v1, v2, v3, v4, v5, v6, v7, v8, v9, v10, v11, v12, .slice (some ⟨H, 0, none⟩) 60 60, v14, v15, v16, v17, v18, v19, v20, v21, .int .i64 (t3 : Int), v23, v24, v25, .int .i64 0, v27, v28, v29, v30, v31, v32, v33, v34, v35, v36, v37, v38, v39, v40, v41, v42, v43, v44, v45, v46, v47, v48, v49, v50, v51, v52, v53, v54, v55, v56, v57, v58, v59, v60, v61, v62, v63, v64, v65, v66, v67, v68, v69, v70, v71, v72, v73, v74, v75, v76, v77, v78, v79, v80, v81, v82, v83, v84, v85, v86, v87, v88, v89, v90, v91, v92, v93, v94, v95, v96, v97, v98, v99, v100, v101, v102, v103, v104, v105, v106, v107, v108, v109, v110, v111, v112, v113, v114, v115, v116, v117, v118, v119, v120, v121, v122, v123, v124, v125, v126, v127, v128, v129, v130, v131, v132, v133, v134, v135, v136, v137, v138, v139, v140, v141, v142, v143, v144, v145, v146, v147, v148, v149, v150, v151, v152, v153, v154, v155, v156, v157, v158, v159, v160, v161, v162, v163, v164, v165, v166, v167, v168, v169, v170, v171, v172, v173, v174, v175, v176, v177, v178, v179, v180, v181, v182, v183, v184, v185, v186, v187, v188, v189, v190, v191, v192, v193, v194, v195, v196, v197, v198, v199, v200, v201, v202, v203, v204, v205, v206, v207, v208, v209, v210, v211, v212, v213, v214, v215, v216, v217, v218, v219, v220, v221, v222, v223, v224, v225, v226, v227, v228, v229, v230, v231, v232, v233, v234, v235, v236, v237, v238, v239, v240, v241, v242, v243, v244, v245, u246, u247, u248, u249, u250, u251, u252, u253, u254, u255, u256, u257, u258, u259, u260, u261, u262, u263, u264, u265, u266, u267, u268, u269, u270, v271, v272, v273, v274, v275, v276, v277, v278], []⟩ w6 := by
  conv => arg 2; whnf
  have HK := Lib.hid hK
  clear hK
  have HC6 := Lib.hid hC6
  have HI := Lib.hid hI
  have HTG := Lib.hid htg
  clear hC6 hI htg
  go_wp2
  go_loopg [22, 26] 60 (fun g nv pv wr => ∃ (p t : Nat), p + g = 60 ∧ nv = .int .i64 (t : Int) ∧ t ≤ 60 ∧ pv = .int .i64 (p : Int) ∧ w6 = wr ∧ Hid (t + goods V2 p = goods V2 60))
  case atStart => exact ⟨0, t3, by omega, rfl, by omega, rfl, rfl, Lib.hid (by rw [HTG.out]; simp [goods])⟩
  case round =>
    obtain ⟨p, t4, hp6, rfl, ht4, rfl, rfl, HG4⟩ := hrel
    by_cases hp60 : p < 60
    · have hp60j : (p : Int) < 60 := by omega
      have cw := HC6.out.w.cell hp60
      have hv4 := HI.out.v4 p
      have HMN := Lib.hid (show goods V2 (p + 1) ≤ goods V2 60 from by
        have h1 : ∀ a b, a ≤ b → goods V2 a ≤ goods V2 b := fun a b h => by
          induction b with
          | zero => rw [Nat.le_zero.1 h]; exact Nat.le_refl _
          | succ b ih =>
            rcases Nat.lt_or_eq_of_le h with e | e
            · refine Nat.le_trans (ih (by omega)) ?_
              cases hgb : good V2 b with
              | true => rw [goods_yes hgb]; omega
              | false => rw [goods_no hgb]; exact Nat.le_refl _
            · rw [e]; exact Nat.le_refl _
        exact h1 _ _ hp60)
      rcases (show V2 p = 0 ∨ V2 p = 1 ∨ V2 p = 2 ∨ V2 p = 3 ∨ V2 p = 4 by omega) with e | e | e | e | e
      · have HGN := Lib.hid (goods_no (V := V2) (p := p) (by simp [good, e]))
        rw [e] at cw
        clear e hv4
        go_wp2
        go_roundg (60 - (p + 1))
        case rel => exact ⟨p + 1, t4, by omega, rfl, ht4, by simp, rfl, Lib.hid (by rw [HGN.out]; exact HG4.out)⟩
        case measure => omega
      · have HGN := Lib.hid (goods_yes (V := V2) (p := p) (by simp [good, e]))
        have ht1 : 1 ≤ t4 := by have := HMN.out; have := HG4.out; rw [HGN.out] at *; omega
        rw [e] at cw
        clear e hv4
        go_wp2
        go_roundg (60 - (p + 1))
        case rel => exact ⟨p + 1, t4 - 1, by omega, by congr 1; omega, by omega, by simp, rfl, Lib.hid (by rw [HGN.out]; have := HG4.out; omega)⟩
        case measure => omega
      · have HGN := Lib.hid (goods_yes (V := V2) (p := p) (by simp [good, e]))
        have ht1 : 1 ≤ t4 := by have := HMN.out; have := HG4.out; rw [HGN.out] at *; omega
        rw [e] at cw
        clear e hv4
        go_wp2
        go_roundg (60 - (p + 1))
        case rel => exact ⟨p + 1, t4 - 1, by omega, by congr 1; omega, by omega, by simp, rfl, Lib.hid (by rw [HGN.out]; have := HG4.out; omega)⟩
        case measure => omega
      · have HGN := Lib.hid (goods_no (V := V2) (p := p) (by simp [good, e]))
        rw [e] at cw
        clear e hv4
        go_wp2
        go_roundg (60 - (p + 1))
        case rel => exact ⟨p + 1, t4, by omega, rfl, ht4, by simp, rfl, Lib.hid (by rw [HGN.out]; exact HG4.out)⟩
        case measure => omega
      · have HGN := Lib.hid (goods_yes (V := V2) (p := p) (by simp [good, e]))
        have ht1 : 1 ≤ t4 := by have := HMN.out; have := HG4.out; rw [HGN.out] at *; omega
        rw [e] at cw
        clear e hv4
        go_wp2
        go_roundg (60 - (p + 1))
        case rel => exact ⟨p + 1, t4 - 1, by omega, by congr 1; omega, by omega, by simp, rfl, Lib.hid (by rw [HGN.out]; have := HG4.out; omega)⟩
        case measure => omega
    · have hp60j : ¬ (p : Int) < 60 := by omega
      have HT0 := Lib.hid (show t4 = 0 by have := HG4.out; rw [show p = 60 by omega] at this; omega)
      obtain rfl := HT0.out
      go_wp2
      exact HK.out _ _ _ _ _ _ _ _ _ _ _ _ _ _ _ _ _ _ _ _ _ _ _ _ _ _ 

end Go.Proofs.Ytoaglkbobndmeab

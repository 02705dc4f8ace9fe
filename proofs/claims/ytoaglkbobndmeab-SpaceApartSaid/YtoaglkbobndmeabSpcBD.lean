/-
  SpaceApart: how many pages its records have. Own work.
-/
import Derived.Test.YtoaglkbobndmeabSpcBA
namespace Go.Proofs.Ytoaglkbobndmeab
open Go.RowKit Go.Maps

set_option maxRecDepth 1000000 in
set_option maxHeartbeats 8000000 in
theorem acount_any (W w6 : World) (B H N : Nat) (oa : Option Addr) (oc : Nat) (rs NR : List Rc) (M : Sp) (V2 : Nat → Nat) (ra6 : Option Addr) (rn rc6 tot : Nat) (RL : List Rc) (S : Nat → Prop)
    (hC6 : ACore W B H (.slice oa N oc) rs M V2 w6) (hI : AInv NR M V2) (hro6 : RSq S w6 (.slice ra6 rn rc6) RL) (hrn : rn = RL.length) (hrn60 : rn ≤ 100000) (htot : tot = (allOf RL).length) (htot60 : tot ≤ 60) (hmem6 : ∀ p, p ∈ allOf RL ↔ good V2 p = true)
    (u6 u24 u25 u197 u198 u199 u200 u201 u202 u203 u204 u205 u206 u207 u208 u209 u210 u211 u212 u213 u214 u215 u216 u217 u218 u219 u220 u221 u222 u223 u224 u225 u226 u227 u228 u229 u230 u231 u232 u233 u234 u235 u236 u237 u238 u239 u240 u241 u242 u243 u244 u245 v0 v1 v2 v3 v4 v5 v7 v8 v9 v10 v11 v12 v14 v15 v16 v17 v18 v19 v20 v26 v27 v28 v29 v30 v31 v32 v33 v34 v35 v36 v37 v38 v39 v40 v41 v42 v43 v44 v45 v46 v47 v48 v49 v50 v51 v52 v53 v54 v55 v56 v57 v58 v59 v60 v61 v62 v63 v64 v65 v66 v67 v68 v69 v70 v71 v72 v73 v74 v75 v76 v77 v78 v79 v80 v81 v82 v83 v84 v85 v86 v87 v88 v89 v90 v91 v92 v93 v94 v95 v96 v97 v98 v99 v100 v101 v102 v103 v104 v105 v106 v107 v108 v109 v110 v111 v112 v113 v114 v115 v116 v117 v118 v119 v120 v121 v122 v123 v124 v125 v126 v127 v128 v129 v130 v131 v132 v133 v134 v135 v136 v137 v138 v139 v140 v141 v142 v143 v144 v145 v146 v147 v148 v149 v150 v151 v152 v153 v154 v155 v156 v157 v158 v159 v160 v161 v162 v163 v164 v165 v166 v167 v168 v169 v170 v171 v172 v173 v174 v175 v176 v177 v178 v179 v180 v181 v182 v183 v184 v185 v186 v187 v188 v189 v190 v191 v192 v193 v194 v195 v196 v246 v247 v248 v249 v250 v251 v252 v253 v254 v255 v256 v257 v258 v259 v260 v261 v262 v263 v264 v265 v266 v267 v268 v269 v270 v271 v272 v273 v274 v275 v276 v277 v278 : Value) (Kc : Act → World → Prop) (Qc : Exit → Act → World → Prop)
    (hK : ∀ (x6 x23 x24 x25 x197 x198 x199 x200 x201 x202 x203 x204 x205 x206 x207 x208 x209 x210 x211 x212 x213 x214 x215 x216 x217 x218 x219 x220 x221 x222 x223 x224 x225 x226 x227 x228 x229 x230 x231 x232 x233 x234 x235 x236 x237 x238 x239 x240 x241 x242 x243 x244 x245 : Value) , Kc ⟨#[v0, v1, v2, v3, v4, v5, x6, v7, v8, v9, v10, v11, v12, .slice (some ⟨H, 0, none⟩) 60 60, v14, v15, v16, v17, v18, v19, v20, .slice ra6 rn rc6, .int .i64 (tot : Int), x23, x24, x25, v26, v27, v28, v29, v30, v31, v32, v33, v34, v35, v36, v37, v38, v39, v40, v41, v42, v43, v44, v45, v46, v47, v48, v49, v50, v51, v52, v53, v54, v55, v56, v57, v58, v59, v60, v61, v62, v63, v64, v65, v66, v67, v68, v69, v70, v71, v72, v73, v74, v75, v76, v77, v78, v79, v80, v81, v82, v83, v84, v85, v86, v87, v88, v89, v90, v91, v92, v93, v94, v95, v96, v97, v98, v99, v100, v101, v102, v103, v104, v105, v106, v107, v108, v109, v110, v111, v112, v113, v114, v115, v116, v117, v118, v119, v120, v121, v122, v123, v124, v125, v126, v127, v128, v129, v130, v131, v132, v133, v134, v135, v136, v137, v138, v139, v140, v141, v142, v143, v144, v145, v146, v147, v148, v149, v150, v151, v152, v153, v154, v155, v156, v157, v158, v159, v160, v161, v162, v163, v164, v165, v166, v167, v168, v169, v170, v171, v172, v173, v174, v175, v176, v177, v178, v179, v180, v181, v182, v183, v184, v185, v186, v187, v188, v189, v190, v191, v192, v193, v194, v195, v196, x197, x198, x199, x200, x201, x202, x203, x204, x205, x206, x207, x208, x209, x210, x211, x212, x213, x214, x215, x216, x217, x218, x219, x220, x221, x222, x223, x224, x225, x226, x227, x228, x229, x230, x231, x232, x233, x234, x235, x236, x237, x238, x239, x240, x241, x242, x243, x244, x245, v246, v247, v248, v249, v250, v251, v252, v253, v254, v255, v256, v257, v258, v259, v260, v261, v262, v263, v264, v265, v266, v267, v268, v269, v270, v271, v272, v273, v274, v275, v276, v277, v278], []⟩ w6) :
    Code.wp Try.prog apartCount (Exit.then Kc Qc) ⟨#[v0, v1, v2, v3, v4, v5, u6, v7, v8, v9, v10, v11, v12, .slice (some ⟨H, 0, none⟩) 60 60, v14, v15, v16, v17, v18, v19, v20, .slice ra6 rn rc6, .int .i64 0, .int .i64 0, u24, u25, v26, v27, v28, v29, v30, v31, v32, v33, v34, v35, v36, v37, v38, v39, v40, v41, v42, v43, v44, v45, v46, v47, v48, v49, v50, v51, v52, v53, v54, v55, v56, v57, v58, v59, v60, v61, v62, v63, v64, v65, v66, v67, v68, v69, v70, v71, v72, v73, v74, v75, v76, v77, v78, v79, v80, v81, v82, v83, v84, v85, v86, v87, v88, v89, v90, v91, v92, v93, v94, v95, v96, v97, v98, v99, v100, v101, v102, v103, v104, v105, v106, v107, v108, v109, v110, v111, v112, v113, v114, v115, v116, v117, v118, v119, v120, v121, v122, v123, v124, v125, v126, v127, v128, v129, v130, v131, v132, v133, v134, v135, v136, v137, v138, v139, v140, v141, v142, v143, v144, v145, v146, v147, v148, v149, v150, v151, v152, v153, v154, v155, v156, v157, v158, v159, v160, v161, v162, v163, v164, v165, v166, v167, v168, v169, v170, v171, v172, v173, v174, v175, v176, v177, v178, v179, v180, v181, v182, v183, v184, v185, v186, v187, v188, v189, v190, v191, v192, v193, v194, v195, v196, u197, u198, u199, u200, u201, u202, u203, u204, u205, u206, u207, u208, u209, u210, u211, u212, u213, u214, u215, u216, u217, u218, u219, u220, u221, u222, u223, u224, u225, u226, u227, u228, u229, u230, u231, u232, u233, u234, u235, u236, u237, u238, u239, u240, u241, u242, u243, u244, u245, v246, v247, v248, v249, v250, v251, v252, v253, v254, v255, v256, v257, v258, v259, v260, v261, v262, v263, v264, v265, v266, v267, v268, v269, v270, v271, v272, v273, v274, v275, v276, v277, v278], []⟩ w6 := by
  conv => arg 2; whnf
  have HK := Lib.hid hK
  clear hK
  have HC6 := Lib.hid hC6
  have HI := Lib.hid hI
  have HRO6 := Lib.hid hro6
  have HRN := Lib.hid hrn
  have HTOT := Lib.hid htot
  have HMEM := Lib.hid hmem6
  clear hC6 hI hro6 hrn htot hmem6
  go_wp2
  go_loopg [22, 23] rn (fun g nv iv wr => ∃ (k t : Nat), k + g = rn ∧ nv = .int .i64 (t : Int) ∧ t ≤ 60 ∧ iv = .int .i64 (k : Int) ∧ w6 = wr ∧ Hid (t = (allOf (RL.take k)).length))
  case atStart => exact ⟨0, 0, by omega, rfl, by decide, rfl, rfl, Lib.hid rfl⟩
  case round =>
    obtain ⟨k3, t3, hk3, rfl, ht3, rfl, rfl, HT3⟩ := hrel
    obtain ⟨g3, rfl⟩ : ∃ g3, g3 = gk := ⟨_, rfl⟩
    by_cases hlt3 : k3 < rn
    · have hki3 : (k3 : Int) < (rn : Int) := by omega
      obtain ⟨r, hr⟩ : ∃ r, RL[k3]? = some r := ⟨RL[k3]'(by rw [← HRN.out]; exact hlt3), List.getElem?_eq_getElem _⟩
      have hmem : r ∈ RL := List.mem_of_getElem? hr
      have HTK := Lib.hid (take_snoc hr)
      have HSUB := Lib.hid (fun x (hx : x ∈ r.2) => (HMEM.out x).1 (mem_allOf.2 ⟨r, hmem, hx⟩))
      obtain ⟨b6, o6, rfl, _, c0, _, a6, q6, c1, hp⟩ := HRO6.out.at k3 r hr
      obtain ⟨T6, ps6⟩ := r
      obtain ⟨m6, hm6⟩ : ∃ m6, m6 = ps6.length := ⟨_, rfl⟩
      have HM6 := Lib.hid hm6
      simp only at c0 c1 hp
      rw [← hm6] at c1 hp
      have HP6 := Lib.hid hp
      have htk : (allOf (RL.take (k3 + 1))).length ≤ tot := by
        rw [HTOT.out]
        have e : RL = RL.take (k3 + 1) ++ RL.drop (k3 + 1) := (List.take_append_drop _ _).symm
        conv => rhs; rw [e, allOf_append, List.length_append]
        omega
      have HT4 := Lib.hid (show (allOf (RL.take (k3 + 1))).length = t3 + m6 by rw [HTK.out, allOf_append, List.length_append, ← HT3.out, hm6]; simp [allOf])
      have htm6 : t3 + m6 ≤ 60 := by rw [HT4.out] at htk; omega
      clear hr hmem hm6 hp htk
      go_wp2
      go_loopg [22, 24] m6 (fun g nv jv wr => ∃ (j : Nat), j + g = m6 ∧ nv = .int .i64 (((t3 + j : Nat)) : Int) ∧ jv = .int .i64 (j : Int) ∧ w6 = wr)
      case atStart => exact ⟨0, by omega, rfl, rfl, rfl⟩
      case round =>
        obtain ⟨j6, hj6, rfl, rfl, rfl⟩ := hrel
        obtain ⟨tj, htj⟩ : ∃ tj, tj = t3 + j6 := ⟨_, rfl⟩
        rw [← htj]
        have HTJ := Lib.hid htj
        have htj60 : tj ≤ 60 := by omega
        clear htj
        by_cases hjm6 : j6 < m6
        · have hji6 : (j6 : Int) < (m6 : Int) := by omega
          have hjl : j6 < ps6.length := by rw [← HM6.out]; exact hjm6
          obtain ⟨b7, o7, rfl, _, cp⟩ := HP6.out.at j6 hjl
          obtain ⟨p, hpv⟩ : ∃ p, p = ps6.getD j6 0 := ⟨_, rfl⟩
          rw [← hpv] at cp
          have hpin : p ∈ ps6 := by rw [hpv, List.getD_eq_getElem?_getD, List.getElem?_eq_getElem hjl]; exact List.getElem_mem _
          have hgd := HSUB.out p hpin
          have hv := good_iff.1 hgd
          have hp60 : p < 60 := by have h1 := (HI.out.rg p (by omega)).2; have h2 := HI.out.en2; omega
          have hp60i : ¬ (60 : Int) ≤ (p : Int) := by omega
          have hp60j : (p : Int) < 60 := by omega
          have cw := HC6.out.w.cell hp60
          clear hpv hpin hgd
          rcases hv with e | e | e
          all_goals
            rw [e] at cw
            clear e
            go_wp2
            go_roundg (m6 - (j6 + 1))
            case rel => exact ⟨j6 + 1, by omega, by congr 1; have := HTJ.out; omega, by simp, rfl⟩
            case measure => omega
        · have hji6 : ¬ (j6 : Int) < (m6 : Int) := by omega
          go_wp2
          go_roundg (g3 - 1)
          case rel => exact ⟨k3 + 1, tj, by omega, rfl, by omega, by simp, rfl, Lib.hid (by rw [HT4.out]; have := HTJ.out; omega)⟩
          case measure => omega
    · have hki3 : ¬ (k3 : Int) < (rn : Int) := by omega
      have HT5 := Lib.hid (show t3 = tot by rw [HT3.out, HTOT.out, show k3 = RL.length by rw [← HRN.out]; omega, List.take_length])
      go_wp2
      rw [HT5.out]
      exact HK.out _ _ _ _ _ _ _ _ _ _ _ _ _ _ _ _ _ _ _ _ _ _ _ _ _ _ _ _ _ _ _ _ _ _ _ _ _ _ _ _ _ _ _ _ _ _ _ _ _ _ _ _ _ 

end Go.Proofs.Ytoaglkbobndmeab

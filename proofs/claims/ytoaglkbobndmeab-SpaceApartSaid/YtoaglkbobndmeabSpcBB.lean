/-
  SpaceApart: what each page is at first. Own work.
-/
import Derived.Test.YtoaglkbobndmeabSpcBA
namespace Go.Proofs.Ytoaglkbobndmeab
open Go.RowKit Go.Maps

set_option maxRecDepth 1000000 in
set_option maxHeartbeats 8000000 in
theorem afill_any (W w : World) (B H N : Nat) (oa : Option Addr) (oc : Nat) (rs : List Rc) (a : Int) (ha0 : 0 ≤ a) (hrl : N ≤ 60) (hN : N = rs.length) (hok : Okr 50 rs) (hT64 : ∀ r ∈ rs, r.1 < 18446744073709551616)
    (hC5 : ACore W B H (.slice oa N oc) rs (spOf 50 60 a.toNat rs) (fun _ => 0) w)
    (u16 u53 u54 u55 u56 u57 u58 u59 u60 u61 u62 u63 u64 u65 u66 u67 u68 u69 u70 u71 u72 u73 u74 u75 u76 u77 u78 u79 u80 u81 u82 u83 u84 u85 u86 u87 u88 u89 u90 u91 u92 u93 u94 u95 u96 u97 u98 u99 u100 u101 u102 v0 v2 v3 v4 v5 v6 v7 v8 v10 v11 v12 v17 v18 v19 v20 v21 v22 v23 v24 v25 v26 v27 v28 v29 v30 v31 v32 v33 v34 v35 v36 v37 v38 v39 v40 v41 v42 v43 v44 v45 v46 v47 v48 v49 v50 v51 v52 v103 v104 v105 v106 v107 v108 v109 v110 v111 v112 v113 v114 v115 v116 v117 v118 v119 v120 v121 v122 v123 v124 v125 v126 v127 v128 v129 v130 v131 v132 v133 v134 v135 v136 v137 v138 v139 v140 v141 v142 v143 v144 v145 v146 v147 v148 v149 v150 v151 v152 v153 v154 v155 v156 v157 v158 v159 v160 v161 v162 v163 v164 v165 v166 v167 v168 v169 v170 v171 v172 v173 v174 v175 v176 v177 v178 v179 v180 v181 v182 v183 v184 v185 v186 v187 v188 v189 v190 v191 v192 v193 v194 v195 v196 v197 v198 v199 v200 v201 v202 v203 v204 v205 v206 v207 v208 v209 v210 v211 v212 v213 v214 v215 v216 v217 v218 v219 v220 v221 v222 v223 v224 v225 v226 v227 v228 v229 v230 v231 v232 v233 v234 v235 v236 v237 v238 v239 v240 v241 v242 v243 v244 v245 v246 v247 v248 v249 v250 v251 v252 v253 v254 v255 v256 v257 v258 v259 v260 v261 v262 v263 v264 v265 v266 v267 v268 v269 v270 v271 v272 v273 v274 v275 v276 v277 v278 : Value) (Kc : Act → World → Prop) (Qc : Exit → Act → World → Prop)
    (hK : ∀ (x15 x16 x53 x54 x55 x56 x57 x58 x59 x60 x61 x62 x63 x64 x65 x66 x67 x68 x69 x70 x71 x72 x73 x74 x75 x76 x77 x78 x79 x80 x81 x82 x83 x84 x85 x86 x87 x88 x89 x90 x91 x92 x93 x94 x95 x96 x97 x98 x99 x100 x101 x102 : Value) (tp : Nat) (V : Nat → Nat) (w5 : World), tp ≤ 18446744073709551615 → ACore W B H (.slice oa N oc) rs (spOf 50 60 a.toNat rs) V w5 → V = fillR a.toNat (fun _ => 0) rs → tp = topOf rs → Kc ⟨#[v0, .int .u64 a, v2, v3, v4, v5, v6, v7, v8, .slice oa N oc, v10, v11, v12, .slice (some ⟨H, 0, none⟩) 60 60, .int .u64 (tp : Int), x15, x16, v17, v18, v19, v20, v21, v22, v23, v24, v25, v26, v27, v28, v29, v30, v31, v32, v33, v34, v35, v36, v37, v38, v39, v40, v41, v42, v43, v44, v45, v46, v47, v48, v49, v50, v51, v52, x53, x54, x55, x56, x57, x58, x59, x60, x61, x62, x63, x64, x65, x66, x67, x68, x69, x70, x71, x72, x73, x74, x75, x76, x77, x78, x79, x80, x81, x82, x83, x84, x85, x86, x87, x88, x89, x90, x91, x92, x93, x94, x95, x96, x97, x98, x99, x100, x101, x102, v103, v104, v105, v106, v107, v108, v109, v110, v111, v112, v113, v114, v115, v116, v117, v118, v119, v120, v121, v122, v123, v124, v125, v126, v127, v128, v129, v130, v131, v132, v133, v134, v135, v136, v137, v138, v139, v140, v141, v142, v143, v144, v145, v146, v147, v148, v149, v150, v151, v152, v153, v154, v155, v156, v157, v158, v159, v160, v161, v162, v163, v164, v165, v166, v167, v168, v169, v170, v171, v172, v173, v174, v175, v176, v177, v178, v179, v180, v181, v182, v183, v184, v185, v186, v187, v188, v189, v190, v191, v192, v193, v194, v195, v196, v197, v198, v199, v200, v201, v202, v203, v204, v205, v206, v207, v208, v209, v210, v211, v212, v213, v214, v215, v216, v217, v218, v219, v220, v221, v222, v223, v224, v225, v226, v227, v228, v229, v230, v231, v232, v233, v234, v235, v236, v237, v238, v239, v240, v241, v242, v243, v244, v245, v246, v247, v248, v249, v250, v251, v252, v253, v254, v255, v256, v257, v258, v259, v260, v261, v262, v263, v264, v265, v266, v267, v268, v269, v270, v271, v272, v273, v274, v275, v276, v277, v278], []⟩ w5) :
    Code.wp Try.prog apartFill (Exit.then Kc Qc) ⟨#[v0, .int .u64 a, v2, v3, v4, v5, v6, v7, v8, .slice oa N oc, v10, v11, v12, .slice (some ⟨H, 0, none⟩) 60 60, .int .u64 0, .int .i64 0, u16, v17, v18, v19, v20, v21, v22, v23, v24, v25, v26, v27, v28, v29, v30, v31, v32, v33, v34, v35, v36, v37, v38, v39, v40, v41, v42, v43, v44, v45, v46, v47, v48, v49, v50, v51, v52, u53, u54, u55, u56, u57, u58, u59, u60, u61, u62, u63, u64, u65, u66, u67, u68, u69, u70, u71, u72, u73, u74, u75, u76, u77, u78, u79, u80, u81, u82, u83, u84, u85, u86, u87, u88, u89, u90, u91, u92, u93, u94, u95, u96, u97, u98, u99, u100, u101, u102, v103, v104, v105, v106, v107, v108, v109, v110, v111, v112, v113, v114, v115, v116, v117, v118, v119, v120, v121, v122, v123, v124, v125, v126, v127, v128, v129, v130, v131, v132, v133, v134, v135, v136, v137, v138, v139, v140, v141, v142, v143, v144, v145, v146, v147, v148, v149, v150, v151, v152, v153, v154, v155, v156, v157, v158, v159, v160, v161, v162, v163, v164, v165, v166, v167, v168, v169, v170, v171, v172, v173, v174, v175, v176, v177, v178, v179, v180, v181, v182, v183, v184, v185, v186, v187, v188, v189, v190, v191, v192, v193, v194, v195, v196, v197, v198, v199, v200, v201, v202, v203, v204, v205, v206, v207, v208, v209, v210, v211, v212, v213, v214, v215, v216, v217, v218, v219, v220, v221, v222, v223, v224, v225, v226, v227, v228, v229, v230, v231, v232, v233, v234, v235, v236, v237, v238, v239, v240, v241, v242, v243, v244, v245, v246, v247, v248, v249, v250, v251, v252, v253, v254, v255, v256, v257, v258, v259, v260, v261, v262, v263, v264, v265, v266, v267, v268, v269, v270, v271, v272, v273, v274, v275, v276, v277, v278], []⟩ w := by
  conv => arg 2; whnf
  have HK := Lib.hid hK
  clear hK
  have HC5 := Lib.hid hC5
  have HNN := Lib.hid hN
  have HOK := Lib.hid hok
  have HT64 := Lib.hid hT64
  have hA5 : B + 5 ≤ H := hC5.hB
  clear hC5 hN hok hT64
  go_wp2
  go_loopg [14, 15] N (fun g tv iv wr => ∃ (k tp : Nat) (V : Nat → Nat), k + g = N ∧ tv = .int .u64 (tp : Int) ∧ tp ≤ 18446744073709551615 ∧ iv = .int .i64 (k : Int) ∧ ACore W B H (.slice oa N oc) rs (spOf 50 60 a.toNat rs) V wr ∧ Hid (V = fillR a.toNat (fun _ => 0) (rs.take k) ∧ tp = topOf (rs.take k)))
  case atStart => exact ⟨0, 0, _, by omega, rfl, by decide, rfl, HC5.out, Lib.hid ⟨rfl, rfl⟩⟩
  case round =>
    obtain ⟨k, tp, V, hk, rfl, htp, rfl, hC, HV⟩ := hrel
    have HC := Lib.hid hC
    obtain ⟨g1, rfl⟩ : ∃ g1, g1 = gk := ⟨_, rfl⟩
    clear hC
    by_cases hlt : k < N
    · have hki : (k : Int) < (N : Int) := by omega
      obtain ⟨r, hr⟩ : ∃ r, rs[k]? = some r := ⟨rs[k]'(by rw [← HNN.out]; exact hlt), List.getElem?_eq_getElem _⟩
      have hmem : r ∈ rs := List.mem_of_getElem? hr
      have HTK := Lib.hid (take_snoc hr)
      have HP50 := Lib.hid (HOK.out.each r hmem).2.1
      have HR := Lib.hid hr
      have hm5 := okr_each HOK.out hmem
      have hT64 := HT64.out r hmem
      obtain ⟨T, ps⟩ := r
      obtain ⟨m, hm⟩ : ∃ m, m = ps.length := ⟨_, rfl⟩
      have HM := Lib.hid hm
      simp only at hm5 hT64
      rw [← hm] at hm5
      clear hr hmem hm
      go_wp2
      go_loopg [16] m (fun g2 jv wr2 => ∃ (j : Nat) (V2 : Nat → Nat), j + g2 = m ∧ jv = .int .i64 (j : Int) ∧ ACore W B H (.slice oa N oc) rs (spOf 50 60 a.toNat rs) V2 wr2 ∧ Hid (V2 = fillP a.toNat T V (ps.take j)))
      case atStart => exact ⟨0, V, by omega, rfl, HC.out, Lib.hid rfl⟩
      case round =>
        obtain ⟨j, V2, hj, rfl, hC2, HV2⟩ := hrel
        have HC2 := Lib.hid hC2
        obtain ⟨b, o, rfl, hRb, c0, _, a1, q1, c1, hp⟩ := hC2.l.at k (T, ps) HR.out
        have HPQ := Lib.hid hp
        simp only at c0 c1 hp
        rw [← HM.out] at c1
        clear hC2 hp
        by_cases hjm : j < m
        · have hji : (j : Int) < (m : Int) := by omega
          have hjl : j < ps.length := by rw [← HM.out]; exact hjm
          have hpq := HPQ.out
          simp only at hpq
          rw [← HM.out] at hpq
          obtain ⟨b2, o2, rfl, hRb2, cp⟩ := hpq.at j hjl
          obtain ⟨p, hpv⟩ : ∃ p, p = ps.getD j 0 := ⟨_, rfl⟩
          rw [← hpv] at cp
          have hpget : ps[j]? = some p := by rw [hpv, List.getD_eq_getElem?_getD, List.getElem?_eq_getElem hjl]; rfl
          have HPG := Lib.hid hpv
          have HTP := Lib.hid (take_snoc hpget)
          have hp50 := HP50.out p (List.mem_of_getElem? hpget)
          have hp60 : p < 60 := by omega
          have hp60i : (p : Int) < 60 := by omega
          have cw := HC2.out.w.cell hp60
          have fw := HC2.out.w.froz p
          have HC3 := Lib.hid (show ACore W B H (.slice (some ⟨b, o, none⟩) N oc) rs (spOf 50 60 a.toNat rs) (upd V2 p 2) (wr.setCell ⟨H, p, none⟩ (.int .i64 2)) from HC2.out.put hp60 2)
          clear hpv hpget hpq
          go_upto_region 20 with fail
          clear c0 c1 cp cw fw
          generalize wr.setCell ⟨H, p, none⟩ (.int .i64 2) = W3 at HC3 ⊢
          obtain ⟨b', o', hbo, _, c0, _, a1', q1', c1, hp'⟩ := HC3.out.l.at k (T, ps) HR.out
          cases hbo
          simp only at c0 c1 hp'
          rw [← HM.out] at c1 hp'
          by_cases hTo : T ≤ a.toNat
          · have hToi : (T : Int) ≤ a := by omega
            obtain ⟨b3, o3, rfl, _, cp⟩ := hp'.at j hjl
            rw [← HPG.out] at cp
            have cw := HC3.out.w.cell hp60
            have fw := HC3.out.w.froz p
            have HC4 := Lib.hid (show ACore W B H (.slice (some ⟨b, o, none⟩) N oc) rs (spOf 50 60 a.toNat rs) (upd (upd V2 p 2) p 1) (W3.setCell ⟨H, p, none⟩ (.int .i64 1)) from HC3.out.put hp60 1)
            clear hp'
            go_wp2
            go_roundg (m - (j + 1))
            case rel => exact ⟨j + 1, _, by omega, by simp, HC4.out, Lib.hid (by rw [upd_twice, HTP.out, fillP_snoc, if_pos hTo, HV2.out])⟩
            case measure => omega
          · have hToi : ¬ (T : Int) ≤ a := by omega
            clear hp'
            go_wp2
            go_roundg (m - (j + 1))
            case rel => exact ⟨j + 1, _, by omega, by simp, HC3.out, Lib.hid (by rw [HTP.out, fillP_snoc, if_neg hTo, HV2.out])⟩
            case measure => omega
        · have hji : ¬ (j : Int) < (m : Int) := by omega
          obtain ⟨mx, hmx⟩ : ∃ mx : Nat, max (tp : Int) (T : Int) = (mx : Int) := ⟨max tp T, by omega⟩
          have HMX := Lib.hid (show mx = max tp T by omega)
          go_wp2
          go_roundg (g1 - 1)
          case rel => exact ⟨k + 1, mx, V2, by omega, rfl, by have := HMX.out; omega, by simp, HC2.out, Lib.hid ⟨by rw [HTK.out, fillR_snoc, HV2.out, HV.out.1, show j = ps.length by rw [← HM.out]; omega, List.take_length], by rw [HTK.out, topOf_snoc, ← HV.out.2, HMX.out]⟩⟩
          case measure => omega
    · have hki : ¬ (k : Int) < (N : Int) := by omega
      have hkN : k = rs.length := by rw [← HNN.out]; omega
      have HV5 := Lib.hid (show V = fillR a.toNat (fun _ => 0) rs by rw [HV.out.1, hkN, List.take_length])
      have HTOP := Lib.hid (show tp = topOf rs by rw [HV.out.2, hkN, List.take_length])
      clear hkN
      go_wp2
      exact HK.out _ _ _ _ _ _ _ _ _ _ _ _ _ _ _ _ _ _ _ _ _ _ _ _ _ _ _ _ _ _ _ _ _ _ _ _ _ _ _ _ _ _ _ _ _ _ _ _ _ _ _ _ tp V wr htp HC.out HV5.out HTOP.out

end Go.Proofs.Ytoaglkbobndmeab

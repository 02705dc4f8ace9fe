/-
  SpaceApart: the acts. Own work.
-/
import Derived.Test.YtoaglkbobndmeabSpcBA
namespace Go.Proofs.Ytoaglkbobndmeab
open Go.RowKit Go.Maps

set_option maxRecDepth 1000000 in
set_option maxHeartbeats 8000000 in
theorem aacts_any (W w : World) (B H N : Nat) (oa : Option Addr) (oc : Nat) (rs NR : List Rc) (M0 : Sp) (V : Nat → Nat) (so : Option Addr) (sn sc : Nat) (acs : List (Nat × Nat)) (hsa : ASq W (.slice so sn sc) acs) (hsn : sn = acs.length) (hsn5 : (sn : Int) ≤ 9223372036854775807)
    (hC : ACore W B H (.slice oa N oc) rs M0 V w) (hI : AInv NR M0 V)
    (u6 u18 u19 u20 u103 u104 u105 u106 u107 u108 u109 u110 u111 u112 u113 u114 u115 u116 u117 u118 u119 u120 u121 u122 u123 u124 u125 u126 u127 u128 u129 u130 u131 u132 u133 u134 u135 u136 u137 u138 u139 u140 u141 u142 u143 u144 u145 u146 u147 u148 u149 u150 u151 u152 u153 u154 u155 u156 u157 u158 u159 u160 u161 u162 u163 u164 u165 u166 u167 u168 u169 u170 u171 u172 u173 u174 u175 u176 u177 u178 u179 u180 u181 u182 u183 u184 u185 u186 u187 u188 u189 u190 v0 v1 v3 v4 v5 v7 v8 v9 v10 v12 v14 v15 v16 v21 v22 v23 v24 v25 v26 v27 v28 v29 v30 v31 v32 v33 v34 v35 v36 v37 v38 v39 v40 v41 v42 v43 v44 v45 v46 v47 v48 v49 v50 v51 v52 v53 v54 v55 v56 v57 v58 v59 v60 v61 v62 v63 v64 v65 v66 v67 v68 v69 v70 v71 v72 v73 v74 v75 v76 v77 v78 v79 v80 v81 v82 v83 v84 v85 v86 v87 v88 v89 v90 v91 v92 v93 v94 v95 v96 v97 v98 v99 v100 v101 v102 v191 v192 v193 v194 v195 v196 v197 v198 v199 v200 v201 v202 v203 v204 v205 v206 v207 v208 v209 v210 v211 v212 v213 v214 v215 v216 v217 v218 v219 v220 v221 v222 v223 v224 v225 v226 v227 v228 v229 v230 v231 v232 v233 v234 v235 v236 v237 v238 v239 v240 v241 v242 v243 v244 v245 v246 v247 v248 v249 v250 v251 v252 v253 v254 v255 v256 v257 v258 v259 v260 v261 v262 v263 v264 v265 v266 v267 v268 v269 v270 v271 v272 v273 v274 v275 v276 v277 v278 : Value) (Kc : Act → World → Prop) (Qc : Exit → Act → World → Prop)
    (hK : ∀ (x6 x17 x18 x19 x20 x103 x104 x105 x106 x107 x108 x109 x110 x111 x112 x113 x114 x115 x116 x117 x118 x119 x120 x121 x122 x123 x124 x125 x126 x127 x128 x129 x130 x131 x132 x133 x134 x135 x136 x137 x138 x139 x140 x141 x142 x143 x144 x145 x146 x147 x148 x149 x150 x151 x152 x153 x154 x155 x156 x157 x158 x159 x160 x161 x162 x163 x164 x165 x166 x167 x168 x169 x170 x171 x172 x173 x174 x175 x176 x177 x178 x179 x180 x181 x182 x183 x184 x185 x186 x187 x188 x189 x190 : Value) (M : Sp) (V2 : Nat → Nat) (w5 : World), ACore W B H (.slice oa N oc) rs M V2 w5 → AInv NR M V2 → Kc ⟨#[v0, v1, .slice so sn sc, v3, v4, v5, x6, v7, v8, v9, v10, .pointer (some ⟨B + 4, 0, none⟩), v12, .slice (some ⟨H, 0, none⟩) 60 60, v14, v15, v16, x17, x18, x19, x20, v21, v22, v23, v24, v25, v26, v27, v28, v29, v30, v31, v32, v33, v34, v35, v36, v37, v38, v39, v40, v41, v42, v43, v44, v45, v46, v47, v48, v49, v50, v51, v52, v53, v54, v55, v56, v57, v58, v59, v60, v61, v62, v63, v64, v65, v66, v67, v68, v69, v70, v71, v72, v73, v74, v75, v76, v77, v78, v79, v80, v81, v82, v83, v84, v85, v86, v87, v88, v89, v90, v91, v92, v93, v94, v95, v96, v97, v98, v99, v100, v101, v102, x103, x104, x105, x106, x107, x108, x109, x110, x111, x112, x113, x114, x115, x116, x117, x118, x119, x120, x121, x122, x123, x124, x125, x126, x127, x128, x129, x130, x131, x132, x133, x134, x135, x136, x137, x138, x139, x140, x141, x142, x143, x144, x145, x146, x147, x148, x149, x150, x151, x152, x153, x154, x155, x156, x157, x158, x159, x160, x161, x162, x163, x164, x165, x166, x167, x168, x169, x170, x171, x172, x173, x174, x175, x176, x177, x178, x179, x180, x181, x182, x183, x184, x185, x186, x187, x188, x189, x190, v191, v192, v193, v194, v195, v196, v197, v198, v199, v200, v201, v202, v203, v204, v205, v206, v207, v208, v209, v210, v211, v212, v213, v214, v215, v216, v217, v218, v219, v220, v221, v222, v223, v224, v225, v226, v227, v228, v229, v230, v231, v232, v233, v234, v235, v236, v237, v238, v239, v240, v241, v242, v243, v244, v245, v246, v247, v248, v249, v250, v251, v252, v253, v254, v255, v256, v257, v258, v259, v260, v261, v262, v263, v264, v265, v266, v267, v268, v269, v270, v271, v272, v273, v274, v275, v276, v277, v278], []⟩ w5) :
    Code.wp Try.prog apartActs (Exit.then Kc Qc) ⟨#[v0, v1, .slice so sn sc, v3, v4, v5, u6, v7, v8, v9, v10, .pointer (some ⟨B + 4, 0, none⟩), v12, .slice (some ⟨H, 0, none⟩) 60 60, v14, v15, v16, .int .i64 0, u18, u19, u20, v21, v22, v23, v24, v25, v26, v27, v28, v29, v30, v31, v32, v33, v34, v35, v36, v37, v38, v39, v40, v41, v42, v43, v44, v45, v46, v47, v48, v49, v50, v51, v52, v53, v54, v55, v56, v57, v58, v59, v60, v61, v62, v63, v64, v65, v66, v67, v68, v69, v70, v71, v72, v73, v74, v75, v76, v77, v78, v79, v80, v81, v82, v83, v84, v85, v86, v87, v88, v89, v90, v91, v92, v93, v94, v95, v96, v97, v98, v99, v100, v101, v102, u103, u104, u105, u106, u107, u108, u109, u110, u111, u112, u113, u114, u115, u116, u117, u118, u119, u120, u121, u122, u123, u124, u125, u126, u127, u128, u129, u130, u131, u132, u133, u134, u135, u136, u137, u138, u139, u140, u141, u142, u143, u144, u145, u146, u147, u148, u149, u150, u151, u152, u153, u154, u155, u156, u157, u158, u159, u160, u161, u162, u163, u164, u165, u166, u167, u168, u169, u170, u171, u172, u173, u174, u175, u176, u177, u178, u179, u180, u181, u182, u183, u184, u185, u186, u187, u188, u189, u190, v191, v192, v193, v194, v195, v196, v197, v198, v199, v200, v201, v202, v203, v204, v205, v206, v207, v208, v209, v210, v211, v212, v213, v214, v215, v216, v217, v218, v219, v220, v221, v222, v223, v224, v225, v226, v227, v228, v229, v230, v231, v232, v233, v234, v235, v236, v237, v238, v239, v240, v241, v242, v243, v244, v245, v246, v247, v248, v249, v250, v251, v252, v253, v254, v255, v256, v257, v258, v259, v260, v261, v262, v263, v264, v265, v266, v267, v268, v269, v270, v271, v272, v273, v274, v275, v276, v277, v278], []⟩ w := by
  conv => arg 2; whnf
  have HK := Lib.hid hK
  clear hK
  have HC := Lib.hid hC
  have HAI := Lib.hid hI
  have HA := Lib.hid hsa
  have HSN := Lib.hid hsn
  have hA5 : B + 5 ≤ H := hC.hB
  clear hC hI hsa hsn
  go_wp2
  go_loopg [17] 60 (fun g iv wr => ∃ (k : Nat) (M : Sp) (V : Nat → Nat), k + g = 60 ∧ iv = .int .i64 (k : Int) ∧ k ≤ sn ∧ ACore W B H (.slice oa N oc) rs M V wr ∧ Hid (AInv (NR) M V))
  case atStart => exact ⟨0, _, V, by omega, rfl, Nat.zero_le _, HC.out, HAI⟩
  case round =>
    obtain ⟨k2, M, V2, hk2, rfl, hks, hC2, HI⟩ := hrel
    have HC2 := Lib.hid hC2
    clear hC2
    obtain ⟨g2, rfl⟩ : ∃ g2, g2 = gk := ⟨_, rfl⟩
    obtain ⟨w5, rfl⟩ : ∃ wx, wx = wr := ⟨_, rfl⟩
    by_cases hlt2 : k2 < sn
    · have hki2 : (k2 : Int) < (sn : Int) := by omega
      by_cases h60 : k2 < 60
      · have h60i : (k2 : Int) < 60 := by omega
        obtain ⟨ac, hac⟩ : ∃ ac, acs[k2]? = some ac := ⟨acs[k2]'(by rw [← HSN.out]; exact hlt2), List.getElem?_eq_getElem _⟩
        obtain ⟨kd, pg⟩ := ac
        obtain ⟨ba, oa2, rfl, _, d0, hkd, d1, hpg⟩ := HA.out.at k2 _ hac
        simp only at d0 d1 hkd hpg
        have c0 := HC2.out.g.cell d0 (by simp)
        have c1 := HC2.out.g.cell d1 (by simp)
        obtain ⟨kb, hkb⟩ : ∃ kb : Int, bits .and .u8 (kd : Int) 1 = kb := ⟨_, rfl⟩
        clear hac d0 d1
        by_cases hkb0 : kb = 0
        · subst hkb0
          obtain ⟨M', p, e, hT⟩ : ∃ M' p e, takeM M = (M', p, e) := ⟨_, _, _, rfl⟩
          have HT := Lib.hid hT
          rcases apart_take HI.out hT with ⟨rfl, hp2, hp60, hp1, hp1', hi2⟩ | ⟨rfl, hM, rfl⟩
          · have HI2 := Lib.hid hi2
            have hp2i : ¬ (p : Int) < 2 := by omega
            have hp60i : ¬ (60 : Int) ≤ (p : Int) := by omega
            have hp60j : (p : Int) < 60 := by omega
            obtain ⟨vp, hvp⟩ : ∃ vp, V2 p = vp := ⟨_, rfl⟩
            rw [hvp] at hp1 hp1'
            have HVP := Lib.hid hvp
            clear hT hi2 hvp
            by_cases hp50 : p < 50
            · have hp50i : (p : Int) < 50 := by omega
              have hp50j : ¬ (50 : Int) ≤ (p : Int) := by omega
              obtain rfl := hp1 hp50
              clear hp1 hp1'
              go_wp2_with (first
                | (go_at_call 12; (with_reducible refine (take_at w5 B M M' p 0 HC2.out.s HI.out.low (by rw [HI.out.lim]; exact HI.out.en2) (by rw [HI.out.lim]; decide) HT.out).mono ?_); rintro r w6 ⟨rfl, hs, hsf⟩; have hc3 := HC2.out.op hs hsf; have cw := hc3.w.cell hp60; rw [HVP.out] at cw; have fw := hc3.w.froz p; have HC3 := Lib.hid (show ACore W B H (.slice oa N oc) rs M' (upd V2 p 3) (w6.setCell ⟨H, p, none⟩ (.int .i64 3)) from hc3.put hp60 3); clear hs hsf hc3))
              go_roundg (g2 - 1)
              case rel => exact ⟨k2 + 1, M', _, by omega, by simp, by omega, HC3.out, HI2⟩
              case measure => omega
            · have hp50i : ¬ (p : Int) < 50 := by omega
              have hp50j : (50 : Int) ≤ (p : Int) := by omega
              have hvi : ¬ (1 : Int) < (vp : Int) := by have := hp1' (by omega); omega
              clear hp1 hp1'
              go_wp2_with (first
                | (go_at_call 12; (with_reducible refine (take_at w5 B M M' p 0 HC2.out.s HI.out.low (by rw [HI.out.lim]; exact HI.out.en2) (by rw [HI.out.lim]; decide) HT.out).mono ?_); rintro r w6 ⟨rfl, hs, hsf⟩; have hc3 := HC2.out.op hs hsf; have cw := hc3.w.cell hp60; rw [HVP.out] at cw; have fw := hc3.w.froz p; have HC3 := Lib.hid (show ACore W B H (.slice oa N oc) rs M' (upd V2 p 3) (w6.setCell ⟨H, p, none⟩ (.int .i64 3)) from hc3.put hp60 3); clear hs hsf hc3))
              go_roundg (g2 - 1)
              case rel => exact ⟨k2 + 1, M', _, by omega, by simp, by omega, HC3.out, HI2⟩
              case measure => omega
          · rw [hM] at HT
            have HT2 := Lib.hid HT.out
            clear hT hM
            go_wp2_with (first
              | (go_at_call 12; (with_reducible refine (take_full w5 B M HC2.out.s HI.out.low (by rw [HI.out.lim]; exact HI.out.en2) (by rw [HI.out.lim]; decide) HT2.out).mono ?_); rintro r w6 ⟨rfl, hs, hsf⟩; have HC3 := Lib.hid (HC2.out.op hs hsf); clear hs hsf))
            go_roundg (g2 - 1)
            case rel => exact ⟨k2 + 1, M, V2, by omega, by simp, by omega, HC3.out, HI⟩
            case measure => omega
        · obtain ⟨p, hp⟩ : ∃ p : Nat, (pg : Int) % 60 = (p : Int) := ⟨pg % 60, by omega⟩
          have hp60 : p < 60 := by omega
          have hp60j : (p : Int) < 60 := by omega
          obtain ⟨M', e, hT⟩ : ∃ M' e, giveM M p = (M', e) := ⟨_, _, rfl⟩
          have HT := Lib.hid hT
          rcases apart_give HI.out hT with ⟨rfl, hV, hi2⟩ | ⟨rfl, hV, hi2⟩ | ⟨rfl, hM⟩
          · have HI2 := Lib.hid hi2
            have HVP := Lib.hid hV
            clear hT hi2 hV
            go_wp2_with (first
              | (go_at_call 14; (with_reducible refine (give_at w5 B M M' p 0 HC2.out.s (by omega) HT.out).mono ?_); rintro r w6 ⟨rfl, hs, hsf⟩; have hc3 := HC2.out.op hs hsf; have cw := hc3.w.cell hp60; rw [HVP.out] at cw; have fw := hc3.w.froz p; have HC3 := Lib.hid (show ACore W B H (.slice oa N oc) rs M' (upd V2 p 1) (w6.setCell ⟨H, p, none⟩ (.int .i64 1)) from hc3.put hp60 1); clear hs hsf hc3))
            go_roundg (g2 - 1)
            case rel => exact ⟨k2 + 1, M', _, by omega, by simp, by omega, HC3.out, HI2⟩
            case measure => omega
          · have HI2 := Lib.hid hi2
            have HVP := Lib.hid hV
            clear hT hi2 hV
            go_wp2_with (first
              | (go_at_call 14; (with_reducible refine (give_at w5 B M M' p 0 HC2.out.s (by omega) HT.out).mono ?_); rintro r w6 ⟨rfl, hs, hsf⟩; have hc3 := HC2.out.op hs hsf; have cw := hc3.w.cell hp60; rw [HVP.out] at cw; have fw := hc3.w.froz p; have HC3 := Lib.hid (show ACore W B H (.slice oa N oc) rs M' (upd V2 p 4) (w6.setCell ⟨H, p, none⟩ (.int .i64 4)) from hc3.put hp60 4); clear hs hsf hc3))
            go_roundg (g2 - 1)
            case rel => exact ⟨k2 + 1, M', _, by omega, by simp, by omega, HC3.out, HI2⟩
            case measure => omega
          · rw [hM] at HT
            clear hT hM
            go_wp2_with (first
              | (go_at_call 14; (with_reducible refine (give_at w5 B M M p 1 HC2.out.s (by omega) HT.out).mono ?_); rintro r w6 ⟨rfl, hs, hsf⟩; have HC3 := Lib.hid (HC2.out.op hs hsf); clear hs hsf))
            go_roundg (g2 - 1)
            case rel => exact ⟨k2 + 1, M, V2, by omega, by simp, by omega, HC3.out, HI⟩
            case measure => omega
      · have h60i : ¬ (k2 : Int) < 60 := by omega
        go_wp2
        exact HK.out _ _ _ _ _ _ _ _ _ _ _ _ _ _ _ _ _ _ _ _ _ _ _ _ _ _ _ _ _ _ _ _ _ _ _ _ _ _ _ _ _ _ _ _ _ _ _ _ _ _ _ _ _ _ _ _ _ _ _ _ _ _ _ _ _ _ _ _ _ _ _ _ _ _ _ _ _ _ _ _ _ _ _ _ _ _ _ _ _ _ _ _ _ M V2 w5 HC2.out HI.out
    · have hki2 : ¬ (k2 : Int) < (sn : Int) := by omega
      go_wp2
      exact HK.out _ _ _ _ _ _ _ _ _ _ _ _ _ _ _ _ _ _ _ _ _ _ _ _ _ _ _ _ _ _ _ _ _ _ _ _ _ _ _ _ _ _ _ _ _ _ _ _ _ _ _ _ _ _ _ _ _ _ _ _ _ _ _ _ _ _ _ _ _ _ _ _ _ _ _ _ _ _ _ _ _ _ _ _ _ _ _ _ _ _ _ _ _ M V2 w5 HC2.out HI.out

end Go.Proofs.Ytoaglkbobndmeab

/-
  DiskPlays: the round of an act (grow, crash). Own work.
-/
import Derived.Test.YtnodclijlhoobaaDskE1
namespace Go.Proofs.Ytnodclijlhoobaa
open Go.RowKit

set_option maxRecDepth 1000000 in
set_option maxHeartbeats 8000000 in
theorem arm_grow (W wA wr : World) (s l m pb i b o c2 : Nat) (M : SM) (f : Int) (ga : Option Addr) (gc : Nat) (la : Option Addr) (lc : Nat) (hd : DskAt wA.heap.size wr wA.heap.size M) (hq : wr.heap[pb]? = some (.cells (dM M s l ga gc la lc f) 32 (0, 0))) (hr : RIn wr M ga gc la lc) (hp : PSt M f s l i) (hb : Below W.heap.size W wr)
    (hWp : W.heap.size ≤ pb) (hWs : W.heap.size ≤ wA.heap.size) (hmay : May (s : Int) (l : Int)) (him : i < m) (hm9 : m ≤ 9223372036854775807) (h30 : i < 30) (K X N : Int) (ya : Option Addr) (yn yc : Nat) (ys : List Int)
    (cc0 : wr.cell? ⟨b, o + i * 4, none⟩ = some (.int .i64 K)) (cc1 : wr.cell? ⟨b, o + i * 4 + 1, none⟩ = some (.int .i64 X)) (cc2 : wr.cell? ⟨b, o + i * 4 + 2, none⟩ = some (.int .i64 N)) (cc3 : wr.cell? ⟨b, o + i * 4 + 3, none⟩ = some (.slice ya yn yc))
    (hNb : -9223372036854775808 ≤ N ∧ N ≤ 9223372036854775807) (hys : Seq W.heap.size W (.slice ya yn yc) ys) (hyb : Byt ys) (hs1 : yn ≤ 100) (hs2 : X ≤ 100) (hg : K % 16 = 7 ∨ K % 16 = 8)
    (u8 u11 u13 u15 u16 u17 u18 u19 u20 u21 u22 u57 u58 u59 u60 u61 u62 u63 u64 u65 u66 u67 u68 u69 u70 u71 u72 u73 u74 u75 u76 u77 u78 u79 u80 u81 u82 u83 u84 u85 u86 u87 u88 u89 u90 u91 u92 u93 u94 u95 u96 u97 u98 u99 u100 u101 u102 u103 u104 u105 u106 u107 u108 u109 u110 u111 u112 u113 u114 u115 u116 u117 u118 u119 u120 u121 u122 u123 u124 u125 u126 u127 u128 u129 u130 u131 u132 u133 u134 u135 u136 u137 u138 u139 u140 u141 u142 u143 u144 u145 u146 u147 u148 u149 u150 u151 u152 u153 u154 u155 u156 u157 u158 u159 u160 u161 u162 u163 u164 u165 u166 u167 u168 u169 u170 u171 u172 u173 u174 u175 u176 u177 u178 u179 u180 u181 u182 u183 u184 u185 u186 u187 u188 u189 u190 u191 u192 u193 : Value)
    (v1 v2 v4 v5 v6 v7 v9 v23 v24 v25 v26 v27 v28 v29 v30 v31 v32 v33 v34 v35 v36 v37 v38 v39 v40 v41 v42 v43 v44 v45 v46 v47 v48 v49 v50 v51 v52 v53 v54 v55 v56 v194 v195 v196 v197 v198 v199 v200 v201 v202 v203 v204 v205 v206 v207 v208 v209 v210 v211 v212 v213 v214 v215 v216 v217 v218 v219 v220 v221 v222 v223 v224 v225 v226 v227 v228 v229 v230 v231 v232 v233 v234 v235 v236 : Value)
    (Kc : Act → World → Prop) (Qc : Exit → Act → World → Prop)
    (hK : ∀ (x8 x11 x13 x15 x16 x17 x18 x19 x20 x21 x22 x57 x58 x59 x60 x61 x62 x63 x64 x65 x66 x67 x68 x69 x70 x71 x72 x73 x74 x75 x76 x77 x78 x79 x80 x81 x82 x83 x84 x85 x86 x87 x88 x89 x90 x91 x92 x93 x94 x95 x96 x97 x98 x99 x100 x101 x102 x103 x104 x105 x106 x107 x108 x109 x110 x111 x112 x113 x114 x115 x116 x117 x118 x119 x120 x121 x122 x123 x124 x125 x126 x127 x128 x129 x130 x131 x132 x133 x134 x135 x136 x137 x138 x139 x140 x141 x142 x143 x144 x145 x146 x147 x148 x149 x150 x151 x152 x153 x154 x155 x156 x157 x158 x159 x160 x161 x162 x163 x164 x165 x166 x167 x168 x169 x170 x171 x172 x173 x174 x175 x176 x177 x178 x179 x180 x181 x182 x183 x184 x185 x186 x187 x188 x189 x190 x191 x192 x193 : Value) (w5 : World) (M' : SM) (f' : Int) (ga' : Option Addr) (gc' : Nat) (la' : Option Addr) (lc' : Nat), DskAt wA.heap.size w5 wA.heap.size M' → w5.heap[pb]? = some (.cells (dM M' s l ga' gc' la' lc' f') 32 (0, 0)) → RIn w5 M' ga' gc' la' lc' → PSt M' f' s l (i + 1) → Below W.heap.size W w5 → Kc ⟨#[.int .i64 (s : Int), v1, v2, .slice (some ⟨b, o, none⟩) m c2, v4, v5, v6, v7, x8, v9, .pointer (some ⟨wA.heap.size, 0, none⟩), x11, .pointer (some ⟨pb, 0, none⟩), x13, .int .i64 ((i : Int) + 1), x15, x16, x17, x18, x19, x20, x21, x22, v23, v24, v25, v26, v27, v28, v29, v30, v31, v32, v33, v34, v35, v36, v37, v38, v39, v40, v41, v42, v43, v44, v45, v46, v47, v48, v49, v50, v51, v52, v53, v54, v55, v56, x57, x58, x59, x60, x61, x62, x63, x64, x65, x66, x67, x68, x69, x70, x71, x72, x73, x74, x75, x76, x77, x78, x79, x80, x81, x82, x83, x84, x85, x86, x87, x88, x89, x90, x91, x92, x93, x94, x95, x96, x97, x98, x99, x100, x101, x102, x103, x104, x105, x106, x107, x108, x109, x110, x111, x112, x113, x114, x115, x116, x117, x118, x119, x120, x121, x122, x123, x124, x125, x126, x127, x128, x129, x130, x131, x132, x133, x134, x135, x136, x137, x138, x139, x140, x141, x142, x143, x144, x145, x146, x147, x148, x149, x150, x151, x152, x153, x154, x155, x156, x157, x158, x159, x160, x161, x162, x163, x164, x165, x166, x167, x168, x169, x170, x171, x172, x173, x174, x175, x176, x177, x178, x179, x180, x181, x182, x183, x184, x185, x186, x187, x188, x189, x190, x191, x192, x193, v194, v195, v196, v197, v198, v199, v200, v201, v202, v203, v204, v205, v206, v207, v208, v209, v210, v211, v212, v213, v214, v215, v216, v217, v218, v219, v220, v221, v222, v223, v224, v225, v226, v227, v228, v229, v230, v231, v232, v233, v234, v235, v236], []⟩ w5) :
    Code.wp Try.prog playsBody (Exit.then Kc Qc) ⟨#[.int .i64 (s : Int), v1, v2, .slice (some ⟨b, o, none⟩) m c2, v4, v5, v6, v7, u8, v9, .pointer (some ⟨wA.heap.size, 0, none⟩), u11, .pointer (some ⟨pb, 0, none⟩), u13, .int .i64 (i : Int), u15, u16, u17, u18, u19, u20, u21, u22, v23, v24, v25, v26, v27, v28, v29, v30, v31, v32, v33, v34, v35, v36, v37, v38, v39, v40, v41, v42, v43, v44, v45, v46, v47, v48, v49, v50, v51, v52, v53, v54, v55, v56, u57, u58, u59, u60, u61, u62, u63, u64, u65, u66, u67, u68, u69, u70, u71, u72, u73, u74, u75, u76, u77, u78, u79, u80, u81, u82, u83, u84, u85, u86, u87, u88, u89, u90, u91, u92, u93, u94, u95, u96, u97, u98, u99, u100, u101, u102, u103, u104, u105, u106, u107, u108, u109, u110, u111, u112, u113, u114, u115, u116, u117, u118, u119, u120, u121, u122, u123, u124, u125, u126, u127, u128, u129, u130, u131, u132, u133, u134, u135, u136, u137, u138, u139, u140, u141, u142, u143, u144, u145, u146, u147, u148, u149, u150, u151, u152, u153, u154, u155, u156, u157, u158, u159, u160, u161, u162, u163, u164, u165, u166, u167, u168, u169, u170, u171, u172, u173, u174, u175, u176, u177, u178, u179, u180, u181, u182, u183, u184, u185, u186, u187, u188, u189, u190, u191, u192, u193, v194, v195, v196, v197, v198, v199, v200, v201, v202, v203, v204, v205, v206, v207, v208, v209, v210, v211, v212, v213, v214, v215, v216, v217, v218, v219, v220, v221, v222, v223, v224, v225, v226, v227, v228, v229, v230, v231, v232, v233, v234, v235, v236], []⟩ wr := by
  have hnot : ∀ (x : Bool) (w : World), (Op.unary .not (.bool x)).run Try.prog w = .ok (.bool (!x)) w := fun _ _ => rfl
  conv => arg 2; whnf
  have HK := Lib.hid hK
  have HDi := Lib.hid hd
  have HQi := Lib.hid hq
  have HRi := Lib.hid hr
  have HPi := Lib.hid hp
  have HBi := Lib.hid hb
  have HWp := Lib.hid hWp
  have HWs := Lib.hid hWs
  have HM := Lib.hid hmay
  have hki : (i : Int) < (m : Int) := by omega
  have hk30 : (i : Int) < 30 := by omega
  have hi30 : i ≤ 30 := by omega
  have hyl : yn = ys.length := by obtain ⟨_, _, hv, _⟩ := hys; injection hv
  have HYl := Lib.hid hyl
  have HYs := Lib.hid hys
  have HYb := Lib.hid hyb
  have HNb := Lib.hid hNb
  have hmi := hm9
  have hy1 : ¬ (100 : Int) < (yn : Int) := by omega
  have hx1 : ¬ (100 : Int) < X := by omega
  have hd1 : decide (100 < yn) = false := by simp; omega
  have hand := and15 K
  clear hK hd hq hr hp hb hWp hWs hmay hyl hys hyb hNb h30
  rcases hg with hq | hq
  all_goals
  rw [hq] at hand
  clear hq
  go_wp2_with fail
  have hga := World.grownBy_alloc wr (.cells #[.int .i64 K, .int .i64 X, .int .i64 N, .slice ya yn yc] 36) none
  have hqa := heap_alloc_new wr (.cells #[.int .i64 K, .int .i64 X, .int .i64 N, .slice ya yn yc] 36)
  have HDw := Lib.hid (HDi.out.new hga)
  have HQw := Lib.hid (gkeep hga HQi.out)
  have HRw := Lib.hid (HRi.out.new hga)
  have HBw := Lib.hid (HBi.out.trans ((gbelow hga).mono HBi.out.size))
  obtain ⟨a0, a1, a2, a3⟩ := cells4 hqa
  have HAw := Lib.hid hqa
  clear hga hqa cc0 cc1 cc2 cc3
  generalize wr.heap.size = qa at *
  generalize wr.alloc (.cells #[.int .i64 K, .int .i64 X, .int .i64 N, .slice ya yn yc] 36) = WA at *
  go_wp2_with (first
    | (go_at_call 18; refine (grow_two HDw.out HPi.out hi30).mono ?_; rintro e w3 ⟨E, M', f', rfl, hd, hf, hp, hR⟩; have HD3 := Lib.hid hd; have HP3 := Lib.hid hp; have HR3 := Lib.hid hR; have hq3 := hf.keep HQw.out; have HQ3 := Lib.hid hq3; obtain ⟨⟨c0, c1, c2, c3, c4, c5⟩, f0, f1, f2, f3, f4, f5⟩ := cells6 hq3; have ha3 := hf.keep HAw.out; have HA3 := Lib.hid ha3; obtain ⟨b0, b1, b2, b3⟩ := cells4 ha3; have HI3 := Lib.hid (HRw.out.dfr hf); have HB3 : Hid (Below W.heap.size W w3) := Lib.hid (HBw.out.trans ((hf.below (Nat.le_of_lt HDw.out.lt)).mono HWs.out)); clear hd hp hR hq3 ha3 hf)
    | (go_at_call 19; refine (HR3.out _ _ _ _ _ HI3.out).mono ?_; rintro e w4 ⟨ga', gc', la', lc', rfl, hr4, hg4⟩; have HD4 := Lib.hid (HD3.out.new hg4); have hq4 := gkeep hg4 HQ3.out; have HQ4 := Lib.hid hq4; obtain ⟨⟨g0, g1, g2, g3, g4, g5⟩, k0, k1, k2, k3, k4, k5⟩ := cells6 hq4; have HI4 := Lib.hid hr4; have HB4 : Hid (Below W.heap.size W w4) := Lib.hid (HB3.out.trans ((gbelow hg4).mono HB3.out.size)); clear hq4 hr4 hg4)
    | (go_at_call 26; have h6 := put6 HD4.out HQ4.out HI4.out HB4.out HWp.out (.int .i64 (s : Int)) (.int .i64 (l : Int)) (.slice ga' M'.pg.length gc') (.slice la' M'.loose.length lc') (.int .i64 f') (.int .i64 (M'.calls : Int)); refine (alike_two HP3.out h6.1 ga' gc' la' lc').mono ?_; rintro e w5 ⟨rfl, hg5⟩; have HD5 := Lib.hid (h6.1.new hg5); have HQ5 := Lib.hid (gkeep hg5 h6.2.1); have HI5 := Lib.hid (h6.2.2.1.new hg5); have HB5 : Hid (Below W.heap.size W w5) := Lib.hid (h6.2.2.2.trans ((gbelow hg5).mono h6.2.2.2.size)); clear h6 hg5))
  exact HK.out _ _ _ _ _ _ _ _ _ _ _ _ _ _ _ _ _ _ _ _ _ _ _ _ _ _ _ _ _ _ _ _ _ _ _ _ _ _ _ _ _ _ _ _ _ _ _ _ _ _ _ _ _ _ _ _ _ _ _ _ _ _ _ _ _ _ _ _ _ _ _ _ _ _ _ _ _ _ _ _ _ _ _ _ _ _ _ _ _ _ _ _ _ _ _ _ _ _ _ _ _ _ _ _ _ _ _ _ _ _ _ _ _ _ _ _ _ _ _ _ _ _ _ _ _ _ _ _ _ _ _ _ _ _ _ _ _ _ _ _ _ _ _ _ _ _ _ _ w5 M' f' ga' gc' la' lc' HD5.out HQ5.out HI5.out HP3.out HB5.out

set_option maxRecDepth 1000000 in
set_option maxHeartbeats 8000000 in
theorem arm_crash (W wA wr : World) (s l m pb i b o c2 : Nat) (M : SM) (f : Int) (ga : Option Addr) (gc : Nat) (la : Option Addr) (lc : Nat) (hd : DskAt wA.heap.size wr wA.heap.size M) (hq : wr.heap[pb]? = some (.cells (dM M s l ga gc la lc f) 32 (0, 0))) (hr : RIn wr M ga gc la lc) (hp : PSt M f s l i) (hb : Below W.heap.size W wr)
    (hWp : W.heap.size ≤ pb) (hWs : W.heap.size ≤ wA.heap.size) (hmay : May (s : Int) (l : Int)) (him : i < m) (hm9 : m ≤ 9223372036854775807) (h30 : i < 30) (K X N : Int) (ya : Option Addr) (yn yc : Nat) (ys : List Int)
    (cc0 : wr.cell? ⟨b, o + i * 4, none⟩ = some (.int .i64 K)) (cc1 : wr.cell? ⟨b, o + i * 4 + 1, none⟩ = some (.int .i64 X)) (cc2 : wr.cell? ⟨b, o + i * 4 + 2, none⟩ = some (.int .i64 N)) (cc3 : wr.cell? ⟨b, o + i * 4 + 3, none⟩ = some (.slice ya yn yc))
    (hNb : -9223372036854775808 ≤ N ∧ N ≤ 9223372036854775807) (hys : Seq W.heap.size W (.slice ya yn yc) ys) (hyb : Byt ys) (hs1 : yn ≤ 100) (hs2 : X ≤ 100) (hg : K % 16 = 14 ∨ K % 16 = 15)
    (u8 u11 u13 u15 u16 u17 u18 u19 u20 u21 u22 u57 u58 u59 u60 u61 u62 u63 u64 u65 u66 u67 u68 u69 u70 u71 u72 u73 u74 u75 u76 u77 u78 u79 u80 u81 u82 u83 u84 u85 u86 u87 u88 u89 u90 u91 u92 u93 u94 u95 u96 u97 u98 u99 u100 u101 u102 u103 u104 u105 u106 u107 u108 u109 u110 u111 u112 u113 u114 u115 u116 u117 u118 u119 u120 u121 u122 u123 u124 u125 u126 u127 u128 u129 u130 u131 u132 u133 u134 u135 u136 u137 u138 u139 u140 u141 u142 u143 u144 u145 u146 u147 u148 u149 u150 u151 u152 u153 u154 u155 u156 u157 u158 u159 u160 u161 u162 u163 u164 u165 u166 u167 u168 u169 u170 u171 u172 u173 u174 u175 u176 u177 u178 u179 u180 u181 u182 u183 u184 u185 u186 u187 u188 u189 u190 u191 u192 u193 : Value)
    (v1 v2 v4 v5 v6 v7 v9 v23 v24 v25 v26 v27 v28 v29 v30 v31 v32 v33 v34 v35 v36 v37 v38 v39 v40 v41 v42 v43 v44 v45 v46 v47 v48 v49 v50 v51 v52 v53 v54 v55 v56 v194 v195 v196 v197 v198 v199 v200 v201 v202 v203 v204 v205 v206 v207 v208 v209 v210 v211 v212 v213 v214 v215 v216 v217 v218 v219 v220 v221 v222 v223 v224 v225 v226 v227 v228 v229 v230 v231 v232 v233 v234 v235 v236 : Value)
    (Kc : Act → World → Prop) (Qc : Exit → Act → World → Prop)
    (hK : ∀ (x8 x11 x13 x15 x16 x17 x18 x19 x20 x21 x22 x57 x58 x59 x60 x61 x62 x63 x64 x65 x66 x67 x68 x69 x70 x71 x72 x73 x74 x75 x76 x77 x78 x79 x80 x81 x82 x83 x84 x85 x86 x87 x88 x89 x90 x91 x92 x93 x94 x95 x96 x97 x98 x99 x100 x101 x102 x103 x104 x105 x106 x107 x108 x109 x110 x111 x112 x113 x114 x115 x116 x117 x118 x119 x120 x121 x122 x123 x124 x125 x126 x127 x128 x129 x130 x131 x132 x133 x134 x135 x136 x137 x138 x139 x140 x141 x142 x143 x144 x145 x146 x147 x148 x149 x150 x151 x152 x153 x154 x155 x156 x157 x158 x159 x160 x161 x162 x163 x164 x165 x166 x167 x168 x169 x170 x171 x172 x173 x174 x175 x176 x177 x178 x179 x180 x181 x182 x183 x184 x185 x186 x187 x188 x189 x190 x191 x192 x193 : Value) (w5 : World) (M' : SM) (f' : Int) (ga' : Option Addr) (gc' : Nat) (la' : Option Addr) (lc' : Nat), DskAt wA.heap.size w5 wA.heap.size M' → w5.heap[pb]? = some (.cells (dM M' s l ga' gc' la' lc' f') 32 (0, 0)) → RIn w5 M' ga' gc' la' lc' → PSt M' f' s l (i + 1) → Below W.heap.size W w5 → Kc ⟨#[.int .i64 (s : Int), v1, v2, .slice (some ⟨b, o, none⟩) m c2, v4, v5, v6, v7, x8, v9, .pointer (some ⟨wA.heap.size, 0, none⟩), x11, .pointer (some ⟨pb, 0, none⟩), x13, .int .i64 ((i : Int) + 1), x15, x16, x17, x18, x19, x20, x21, x22, v23, v24, v25, v26, v27, v28, v29, v30, v31, v32, v33, v34, v35, v36, v37, v38, v39, v40, v41, v42, v43, v44, v45, v46, v47, v48, v49, v50, v51, v52, v53, v54, v55, v56, x57, x58, x59, x60, x61, x62, x63, x64, x65, x66, x67, x68, x69, x70, x71, x72, x73, x74, x75, x76, x77, x78, x79, x80, x81, x82, x83, x84, x85, x86, x87, x88, x89, x90, x91, x92, x93, x94, x95, x96, x97, x98, x99, x100, x101, x102, x103, x104, x105, x106, x107, x108, x109, x110, x111, x112, x113, x114, x115, x116, x117, x118, x119, x120, x121, x122, x123, x124, x125, x126, x127, x128, x129, x130, x131, x132, x133, x134, x135, x136, x137, x138, x139, x140, x141, x142, x143, x144, x145, x146, x147, x148, x149, x150, x151, x152, x153, x154, x155, x156, x157, x158, x159, x160, x161, x162, x163, x164, x165, x166, x167, x168, x169, x170, x171, x172, x173, x174, x175, x176, x177, x178, x179, x180, x181, x182, x183, x184, x185, x186, x187, x188, x189, x190, x191, x192, x193, v194, v195, v196, v197, v198, v199, v200, v201, v202, v203, v204, v205, v206, v207, v208, v209, v210, v211, v212, v213, v214, v215, v216, v217, v218, v219, v220, v221, v222, v223, v224, v225, v226, v227, v228, v229, v230, v231, v232, v233, v234, v235, v236], []⟩ w5) :
    Code.wp Try.prog playsBody (Exit.then Kc Qc) ⟨#[.int .i64 (s : Int), v1, v2, .slice (some ⟨b, o, none⟩) m c2, v4, v5, v6, v7, u8, v9, .pointer (some ⟨wA.heap.size, 0, none⟩), u11, .pointer (some ⟨pb, 0, none⟩), u13, .int .i64 (i : Int), u15, u16, u17, u18, u19, u20, u21, u22, v23, v24, v25, v26, v27, v28, v29, v30, v31, v32, v33, v34, v35, v36, v37, v38, v39, v40, v41, v42, v43, v44, v45, v46, v47, v48, v49, v50, v51, v52, v53, v54, v55, v56, u57, u58, u59, u60, u61, u62, u63, u64, u65, u66, u67, u68, u69, u70, u71, u72, u73, u74, u75, u76, u77, u78, u79, u80, u81, u82, u83, u84, u85, u86, u87, u88, u89, u90, u91, u92, u93, u94, u95, u96, u97, u98, u99, u100, u101, u102, u103, u104, u105, u106, u107, u108, u109, u110, u111, u112, u113, u114, u115, u116, u117, u118, u119, u120, u121, u122, u123, u124, u125, u126, u127, u128, u129, u130, u131, u132, u133, u134, u135, u136, u137, u138, u139, u140, u141, u142, u143, u144, u145, u146, u147, u148, u149, u150, u151, u152, u153, u154, u155, u156, u157, u158, u159, u160, u161, u162, u163, u164, u165, u166, u167, u168, u169, u170, u171, u172, u173, u174, u175, u176, u177, u178, u179, u180, u181, u182, u183, u184, u185, u186, u187, u188, u189, u190, u191, u192, u193, v194, v195, v196, v197, v198, v199, v200, v201, v202, v203, v204, v205, v206, v207, v208, v209, v210, v211, v212, v213, v214, v215, v216, v217, v218, v219, v220, v221, v222, v223, v224, v225, v226, v227, v228, v229, v230, v231, v232, v233, v234, v235, v236], []⟩ wr := by
  have hnot : ∀ (x : Bool) (w : World), (Op.unary .not (.bool x)).run Try.prog w = .ok (.bool (!x)) w := fun _ _ => rfl
  conv => arg 2; whnf
  have HK := Lib.hid hK
  have HDi := Lib.hid hd
  have HQi := Lib.hid hq
  have HRi := Lib.hid hr
  have HPi := Lib.hid hp
  have HBi := Lib.hid hb
  have HWp := Lib.hid hWp
  have HWs := Lib.hid hWs
  have HM := Lib.hid hmay
  have hki : (i : Int) < (m : Int) := by omega
  have hk30 : (i : Int) < 30 := by omega
  have hi30 : i ≤ 30 := by omega
  have hyl : yn = ys.length := by obtain ⟨_, _, hv, _⟩ := hys; injection hv
  have HYl := Lib.hid hyl
  have HYs := Lib.hid hys
  have HYb := Lib.hid hyb
  have HNb := Lib.hid hNb
  have hmi := hm9
  have hy1 : ¬ (100 : Int) < (yn : Int) := by omega
  have hx1 : ¬ (100 : Int) < X := by omega
  have hd1 : decide (100 < yn) = false := by simp; omega
  have hand := and15 K
  clear hK hd hq hr hp hb hWp hWs hmay hyl hys hyb hNb h30
  rcases hg with hq | hq
  all_goals
  rw [hq] at hand
  clear hq
  go_wp2_with fail
  have hga := World.grownBy_alloc wr (.cells #[.int .i64 K, .int .i64 X, .int .i64 N, .slice ya yn yc] 36) none
  have hqa := heap_alloc_new wr (.cells #[.int .i64 K, .int .i64 X, .int .i64 N, .slice ya yn yc] 36)
  have HDw := Lib.hid (HDi.out.new hga)
  have HQw := Lib.hid (gkeep hga HQi.out)
  have HRw := Lib.hid (HRi.out.new hga)
  have HBw := Lib.hid (HBi.out.trans ((gbelow hga).mono HBi.out.size))
  obtain ⟨a0, a1, a2, a3⟩ := cells4 hqa
  have HAw := Lib.hid hqa
  clear hga hqa cc0 cc1 cc2 cc3
  generalize wr.heap.size = qa at *
  generalize wr.alloc (.cells #[.int .i64 K, .int .i64 X, .int .i64 N, .slice ya yn yc] 36) = WA at *
  go_wp2_with (first
    | (go_at_call 24; refine (crash_two HDw.out HPi.out hi30 (stays_below (HYs.out.below HBw.out.block) HWs.out HBw.out.size) HYb.out (by have := HYl.out; omega)).mono ?_; rintro e w3 ⟨M', f', rfl, hd, hf, hp, hR⟩; have HD3 := Lib.hid hd; have HP3 := Lib.hid hp; have HR3 := Lib.hid hR; have hq3 := hf.keep HQw.out; have HQ3 := Lib.hid hq3; obtain ⟨⟨c0, c1, c2, c3, c4, c5⟩, f0, f1, f2, f3, f4, f5⟩ := cells6 hq3; have ha3 := hf.keep HAw.out; have HA3 := Lib.hid ha3; obtain ⟨b0, b1, b2, b3⟩ := cells4 ha3; have HI3 := Lib.hid (HRw.out.dfr hf); have HB3 : Hid (Below W.heap.size W w3) := Lib.hid (HBw.out.trans ((hf.below (Nat.le_of_lt HDw.out.lt)).mono HWs.out)); have hcv : (convert 22 9 (.slice ya yn yc)).run Try.prog w3 = .ok (.string (strOfNums ys)) w3 := seq_string ((HYs.out.below HB3.out.block).mono HB3.out.size); clear hd hp hR hq3 ha3 hf)
    | (go_at_call 25; refine (HR3.out _ _ _ _ _ HI3.out).mono ?_; rintro e w4 ⟨ga', gc', la', lc', rfl, hr4, hg4⟩; have HD4 := Lib.hid (HD3.out.new hg4); have hq4 := gkeep hg4 HQ3.out; have HQ4 := Lib.hid hq4; obtain ⟨⟨g0, g1, g2, g3, g4, g5⟩, k0, k1, k2, k3, k4, k5⟩ := cells6 hq4; have HI4 := Lib.hid hr4; have HB4 : Hid (Below W.heap.size W w4) := Lib.hid (HB3.out.trans ((gbelow hg4).mono HB3.out.size)); clear hq4 hr4 hg4)
    | (go_at_call 26; have h6 := put6 HD4.out HQ4.out HI4.out HB4.out HWp.out (.int .i64 (s : Int)) (.int .i64 (l : Int)) (.slice ga' M'.pg.length gc') (.slice la' M'.loose.length lc') (.int .i64 f') (.int .i64 (M'.calls : Int)); refine (alike_two HP3.out h6.1 ga' gc' la' lc').mono ?_; rintro e w5 ⟨rfl, hg5⟩; have HD5 := Lib.hid (h6.1.new hg5); have HQ5 := Lib.hid (gkeep hg5 h6.2.1); have HI5 := Lib.hid (h6.2.2.1.new hg5); have HB5 : Hid (Below W.heap.size W w5) := Lib.hid (h6.2.2.2.trans ((gbelow hg5).mono h6.2.2.2.size)); clear h6 hg5))
  exact HK.out _ _ _ _ _ _ _ _ _ _ _ _ _ _ _ _ _ _ _ _ _ _ _ _ _ _ _ _ _ _ _ _ _ _ _ _ _ _ _ _ _ _ _ _ _ _ _ _ _ _ _ _ _ _ _ _ _ _ _ _ _ _ _ _ _ _ _ _ _ _ _ _ _ _ _ _ _ _ _ _ _ _ _ _ _ _ _ _ _ _ _ _ _ _ _ _ _ _ _ _ _ _ _ _ _ _ _ _ _ _ _ _ _ _ _ _ _ _ _ _ _ _ _ _ _ _ _ _ _ _ _ _ _ _ _ _ _ _ _ _ _ _ _ _ _ _ _ _ w5 M' f' ga' gc' la' lc' HD5.out HQ5.out HI5.out HP3.out HB5.out

end Go.Proofs.Ytnodclijlhoobaa

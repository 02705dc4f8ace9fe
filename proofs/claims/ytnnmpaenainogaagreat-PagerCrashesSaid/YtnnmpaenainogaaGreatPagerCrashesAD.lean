/-
  PagerCrashes: an act, and what is done behind it. Own work (printed by tools/mkcrash.py).
-/
import Derived.Test.YtnnmpaenainogaaGreatPagerCrashesAC
import Derived.Test.YtnnmpaenainogaaGreatPagerCrashesAA
import Derived.Deep.LoopGhost

set_option linter.unusedVariables false
set_option linter.unusedSimpArgs false
namespace Go.Proofs.YtnnmpaenainogaaGreat
open Go.RowKit Go.Maps
set_option maxRecDepth 1000000 in
set_option maxHeartbeats 8000000 in
theorem pcrest_any (W w : World) (d f t qn qm qi qa lim c k K : Nat) (a : A11) (ap : Option Addr) (np cp : Nat) (rs : List RowP) (hrs : Bss W.heap.size W (.slice ap np cp) rs) (hkn : k < np) (F : FV) (H I : List Nat) (fh fi : List Int) (h : KN W.heap.size d f t w lim c F H I fh fi) (hq : Q4 W w qn qm qi qa a H H I fh fh fi) (h0 : 0≤a.fill) (h1 : a.fill≤255) (hc : c≤9400) (hl : lim≤100) (hH : H.length≤K) (hI : I.length≤K) (hK9 : K≤59)
    (u6 u19 u20 u21 u22 u23 u24 u25 u26 u27 u89 u90 u91 u92 u93 u94 u95 u96 u97 u98 u99 u100 u101 u102 u103 u104 u105 u106 u107 u108 u109 u110 u111 u112 u113 u114 u115 u116 u117 u118 u119 u120 u121 u122 u123 u124 u125 u126 u127 u128 u129 u130 u131 u132 u133 u134 u135 u136 u137 u138 u139 u140 u141 u142 u143 u144 u145 u146 u147 u148 u149 u150 u151 u152 u153 u154 u155 u156 u157 u158 u159 u160 u161 u162 u163 u164 u165 u166 u167 u168 u169 u170 u171 u172 u173 u174 u175 u176 u177 u178 u179 u180 u181 u182 u183 u184 u185 u186 u187 u188 u189 u190 u191 u192 u193 u194 u195 u196 u197 u198 u199 u200 u201 u202 u203 u204 u205 u206 u207 u208 u209 u210 u211 u212 u213 u214 u215 u216 u217 u218 u219 u220 u221 u222 u223 u224 u225 u226 u227 u228 u229 u230 u231 u232 u233 u234 u235 u236 u237 u238 u239 u240 u241 u242 u243 u244 u245 u246 u247 u248 u249 u250 v0 v1 v3 v4 v5 v7 v9 v28 v29 v30 v31 v32 v33 v34 v35 v36 v37 v38 v39 v40 v41 v42 v43 v44 v45 v46 v47 v48 v49 v50 v51 v52 v53 v54 v55 v56 v57 v58 v59 v60 v61 v62 v63 v64 v65 v66 v67 v68 v69 v70 v71 v72 v73 v74 v75 v76 v77 v78 v79 v80 v81 v82 v83 v84 v85 v86 v87 v88 : Value) (Kc : Act→World→Prop) (Qc : Exit→Act→World→Prop)
    (hR : ∀ (tm : Array Value) (w5 : World),tm.getD 6 undef = .bool true→Below W.heap.size W w5→Qc .ret ⟨tm,[]⟩ w5)
    (hK : ∀ (x6 x18 x19 x20 x21 x22 x23 x24 x25 x26 x27 x89 x90 x91 x92 x93 x94 x95 x96 x97 x98 x99 x100 x101 x102 x103 x104 x105 x106 x107 x108 x109 x110 x111 x112 x113 x114 x115 x116 x117 x118 x119 x120 x121 x122 x123 x124 x125 x126 x127 x128 x129 x130 x131 x132 x133 x134 x135 x136 x137 x138 x139 x140 x141 x142 x143 x144 x145 x146 x147 x148 x149 x150 x151 x152 x153 x154 x155 x156 x157 x158 x159 x160 x161 x162 x163 x164 x165 x166 x167 x168 x169 x170 x171 x172 x173 x174 x175 x176 x177 x178 x179 x180 x181 x182 x183 x184 x185 x186 x187 x188 x189 x190 x191 x192 x193 x194 x195 x196 x197 x198 x199 x200 x201 x202 x203 x204 x205 x206 x207 x208 x209 x210 x211 x212 x213 x214 x215 x216 x217 x218 x219 x220 x221 x222 x223 x224 x225 x226 x227 x228 x229 x230 x231 x232 x233 x234 x235 x236 x237 x238 x239 x240 x241 x242 x243 x244 x245 x246 x247 x248 x249 x250 : Value) (w5 : World) (t2 f2 c2 : Nat) (F2 : FV) (H2 G2 I2 : List Nat) (fh2 fg2 fi2 : List Int),KB W.heap.size d f2 t2 w5 lim c2 F2 H2 I2 fh2 fi2→Q4 W w5 qn qm qi qa a H2 G2 I2 fh2 fg2 fi2→c2≤c + lim + lim + lim + 15 + K→H2.length≤K + 1→I2.length≤K + 1→Qc .normal ⟨#[v0,v1,.slice ap np cp,v3,v4,v5,x6,v7,.pointer (some ⟨d,0,none⟩),v9,.pointer (some ⟨f2,0,none⟩),.int .i64 0,.pointer (some ⟨qn,0,none⟩),.pointer (some ⟨t2,0,none⟩),.pointer (some ⟨qi,0,none⟩),.int .i64 (k : Int),.pointer (some ⟨qa,0,none⟩),.pointer (some ⟨qm,0,none⟩),x18,x19,x20,x21,x22,x23,x24,x25,x26,x27,v28,v29,v30,v31,v32,v33,v34,v35,v36,v37,v38,v39,v40,v41,v42,v43,v44,v45,v46,v47,v48,v49,v50,v51,v52,v53,v54,v55,v56,v57,v58,v59,v60,v61,v62,v63,v64,v65,v66,v67,v68,v69,v70,v71,v72,v73,v74,v75,v76,v77,v78,v79,v80,v81,v82,v83,v84,v85,v86,v87,v88,x89,x90,x91,x92,x93,x94,x95,x96,x97,x98,x99,x100,x101,x102,x103,x104,x105,x106,x107,x108,x109,x110,x111,x112,x113,x114,x115,x116,x117,x118,x119,x120,x121,x122,x123,x124,x125,x126,x127,x128,x129,x130,x131,x132,x133,x134,x135,x136,x137,x138,x139,x140,x141,x142,x143,x144,x145,x146,x147,x148,x149,x150,x151,x152,x153,x154,x155,x156,x157,x158,x159,x160,x161,x162,x163,x164,x165,x166,x167,x168,x169,x170,x171,x172,x173,x174,x175,x176,x177,x178,x179,x180,x181,x182,x183,x184,x185,x186,x187,x188,x189,x190,x191,x192,x193,x194,x195,x196,x197,x198,x199,x200,x201,x202,x203,x204,x205,x206,x207,x208,x209,x210,x211,x212,x213,x214,x215,x216,x217,x218,x219,x220,x221,x222,x223,x224,x225,x226,x227,x228,x229,x230,x231,x232,x233,x234,x235,x236,x237,x238,x239,x240,x241,x242,x243,x244,x245,x246,x247,x248,x249,x250],[]⟩ w5) :
    Code.wp Tryz.prog pcRest Qc ⟨#[v0,v1,.slice ap np cp,v3,v4,v5,u6,v7,.pointer (some ⟨d,0,none⟩),v9,.pointer (some ⟨f,0,none⟩),.int .i64 0,.pointer (some ⟨qn,0,none⟩),.pointer (some ⟨t,0,none⟩),.pointer (some ⟨qi,0,none⟩),.int .i64 (k : Int),.pointer (some ⟨qa,0,none⟩),.pointer (some ⟨qm,0,none⟩),.int .i64 0,u19,u20,u21,u22,u23,u24,u25,u26,u27,v28,v29,v30,v31,v32,v33,v34,v35,v36,v37,v38,v39,v40,v41,v42,v43,v44,v45,v46,v47,v48,v49,v50,v51,v52,v53,v54,v55,v56,v57,v58,v59,v60,v61,v62,v63,v64,v65,v66,v67,v68,v69,v70,v71,v72,v73,v74,v75,v76,v77,v78,v79,v80,v81,v82,v83,v84,v85,v86,v87,v88,u89,u90,u91,u92,u93,u94,u95,u96,u97,u98,u99,u100,u101,u102,u103,u104,u105,u106,u107,u108,u109,u110,u111,u112,u113,u114,u115,u116,u117,u118,u119,u120,u121,u122,u123,u124,u125,u126,u127,u128,u129,u130,u131,u132,u133,u134,u135,u136,u137,u138,u139,u140,u141,u142,u143,u144,u145,u146,u147,u148,u149,u150,u151,u152,u153,u154,u155,u156,u157,u158,u159,u160,u161,u162,u163,u164,u165,u166,u167,u168,u169,u170,u171,u172,u173,u174,u175,u176,u177,u178,u179,u180,u181,u182,u183,u184,u185,u186,u187,u188,u189,u190,u191,u192,u193,u194,u195,u196,u197,u198,u199,u200,u201,u202,u203,u204,u205,u206,u207,u208,u209,u210,u211,u212,u213,u214,u215,u216,u217,u218,u219,u220,u221,u222,u223,u224,u225,u226,u227,u228,u229,u230,u231,u232,u233,u234,u235,u236,u237,u238,u239,u240,u241,u242,u243,u244,u245,u246,u247,u248,u249,u250],[]⟩ w := by
  conv => arg 2; whnf
  have HK := Lib.hid hK
  clear hK
  have HX := Lib.hid hR
  clear hR
  have HS := Lib.hid h
  have HQ := Lib.hid hq
  have hc3 : w.cell? ⟨qa,0,none⟩ = some (.int .i64 a.kind) := (cells3 hq.act).1
  have hb : bits .and .i64 a.kind 7 = a.kind % 8 := iand7 a.kind
  clear h hq
  obtain ⟨v,hv⟩ : ∃ v,v = a.kind % 8 := ⟨_,rfl⟩
  rw [← hv] at hb
  have h8 : v = 0∨v = 1∨v = 2∨v = 3∨v = 4∨v = 5∨v = 6∨v = 7 := by omega
  generalize hak : a.kind = ak at hc3 hb
  clear hv hak
  refine wp_seq_k fun K1 hK1 => ?_
  have HK1 := Lib.hid hK1
  clear hK1
  rcases h8 with rfl | rfl | rfl | rfl | rfl | rfl | rfl | rfl
  · go_upto_if 127 with fail
    refine wp_cond_true rfl ?_
    go_upto_if 127 with fail
    refine wp_cond_true rfl ?_
    refine pcnew_any W w d f t qn qm qi qa lim c a F H I fh fi HS.out HQ.out h0 h1 (by omega) _ _ _ _ _ _ _ _ _ _ _ _ _ _ _ _ _ _ _ _ _ _ _ _ _ _ _ _ _ _ _ _ _ _ _ _ _ _ _ _ _ _ _ _ _ _ _ _ _ _ _ _ _ _ _ _ _ _ _ _ _ _ _ _ _ _ _ _ _ _ _ _ _ _ _ _ _ _ _ _ _ _ _ _ _ _ _ _ _ _ _ _ _ _ _ _ _ _ _ _ _ _ _ _ _ _ _ _ _ _ _ _ _ _ _ _ _ _ _ _ _ _ _ _ _ _ _ _ _ _ _ _ _ _ _ _ _ _ _ _ _ _ _ _ _ _ _ _ _ _ _ _ _ _ _ _ _ _ _ _ _ _ _ _ _ _ _ _ _ _ _ _ _ _ _ _ _ _ _ _ _ _ _ _ _ _ _ _ _ _ _ _ _ _ _ _ _ _ _ _ _ _ _ _ _ _ _ _ _ _ _ _ _ _ _ _ _ _ _ _ _ _ _ _ _ _ _ _ _ _ _ _ _ _ _ _ _ _ _ _ _ _ (fun _ _ => True) _ (fun _ _ _ _ _ _ _ _ _ _ _ _ _ _ _ _ _ _ w5 g I2 fi2 g1 g2 g3 => ?_)
    refine HK1.out _ _ ?_
    refine pcafter_any W w5 d f qn qm qi qa lim c k (K + 1) a ap np cp rs hrs hkn g 0 (.pointer (some ⟨t,0,none⟩)) H H I2 fh fh fi2 g1 g2 (by omega) hl (by omega) (by omega) (by omega) (by omega) _ _ _ _ _ _ _ _ _ _ _ _ _ _ _ _ _ _ _ _ _ _ _ _ _ _ _ _ _ _ _ _ _ _ _ _ _ _ _ _ _ _ _ _ _ _ _ _ _ _ _ _ _ _ _ _ _ _ _ _ _ _ _ _ _ _ _ _ _ _ _ _ _ _ _ _ _ _ _ _ _ _ _ _ _ _ _ _ _ _ _ _ _ _ _ _ _ _ _ _ _ _ _ _ _ _ _ _ _ _ _ _ _ _ _ _ _ _ _ _ _ _ _ _ _ _ _ _ _ _ _ _ _ _ _ _ _ _ _ _ _ _ _ _ _ _ _ _ _ _ _ _ _ _ _ _ _ _ _ _ _ _ _ _ _ _ _ _ _ _ _ _ _ _ _ _ _ _ _ _ _ _ _ _ _ _ _ _ _ _ _ _ _ _ _ _ _ _ _ _ _ _ _ _ _ _ _ _ _ _ _ _ _ _ _ _ _ _ _ _ _ _ _ _ _ _ _ _ _ _ _ _ _ _ _ _ _ _ _ _ (fun _ _ => True) _ (fun tm w5 e1 e2 => by (try simp +zetaDelta only [Exit.inBlock,Exit.then]); exact HX.out tm w5 e1 e2) (fun _ _ _ _ _ _ _ _ _ _ _ _ _ _ _ _ _ _ _ _ _ _ _ _ _ _ _ _ _ _ _ _ _ _ _ _ _ _ _ _ _ _ _ _ _ _ _ _ _ _ _ _ _ _ _ _ _ _ _ _ _ _ _ _ _ _ _ _ _ _ _ _ _ _ _ _ _ _ _ _ _ _ _ _ _ w6 t2 f2 c2 F2 H2 I2 fh2 fi2 k1 k2 k3 k4 k5 => ?_)
    exact HK.out _ _ _ _ _ _ _ _ _ _ _ _ _ _ _ _ _ _ _ _ _ _ _ _ _ _ _ _ _ _ _ _ _ _ _ _ _ _ _ _ _ _ _ _ _ _ _ _ _ _ _ _ _ _ _ _ _ _ _ _ _ _ _ _ _ _ _ _ _ _ _ _ _ _ _ _ _ _ _ _ _ _ _ _ _ _ _ _ _ _ _ _ _ _ _ _ _ _ _ _ _ _ _ _ _ _ _ _ _ _ _ _ _ _ _ _ _ _ _ _ _ _ _ _ _ _ _ _ _ _ _ _ _ _ _ _ _ _ _ _ _ _ _ _ _ _ _ _ _ _ _ _ _ _ _ _ _ _ _ _ _ _ _ _ _ _ _ _ _ _ _ _ _ w6 t2 f2 c2 F2 H2 H I2 fh2 fh fi2 k1 k2 (by omega) k4 k5
  · go_upto_if 127 with fail
    refine wp_cond_false rfl ?_
    go_upto_if 127 with fail
    refine wp_cond_true rfl ?_
    go_upto_if 127 with fail
    refine wp_cond_true rfl ?_
    refine pcnew_any W w d f t qn qm qi qa lim c a F H I fh fi HS.out HQ.out h0 h1 (by omega) _ _ _ _ _ _ _ _ _ _ _ _ _ _ _ _ _ _ _ _ _ _ _ _ _ _ _ _ _ _ _ _ _ _ _ _ _ _ _ _ _ _ _ _ _ _ _ _ _ _ _ _ _ _ _ _ _ _ _ _ _ _ _ _ _ _ _ _ _ _ _ _ _ _ _ _ _ _ _ _ _ _ _ _ _ _ _ _ _ _ _ _ _ _ _ _ _ _ _ _ _ _ _ _ _ _ _ _ _ _ _ _ _ _ _ _ _ _ _ _ _ _ _ _ _ _ _ _ _ _ _ _ _ _ _ _ _ _ _ _ _ _ _ _ _ _ _ _ _ _ _ _ _ _ _ _ _ _ _ _ _ _ _ _ _ _ _ _ _ _ _ _ _ _ _ _ _ _ _ _ _ _ _ _ _ _ _ _ _ _ _ _ _ _ _ _ _ _ _ _ _ _ _ _ _ _ _ _ _ _ _ _ _ _ _ _ _ _ _ _ _ _ _ _ _ _ _ _ _ _ _ _ _ _ _ _ _ _ _ _ _ _ (fun _ _ => True) _ (fun _ _ _ _ _ _ _ _ _ _ _ _ _ _ _ _ _ _ w5 g I2 fi2 g1 g2 g3 => ?_)
    refine HK1.out _ _ ?_
    refine pcafter_any W w5 d f qn qm qi qa lim c k (K + 1) a ap np cp rs hrs hkn g 0 (.pointer (some ⟨t,0,none⟩)) H H I2 fh fh fi2 g1 g2 (by omega) hl (by omega) (by omega) (by omega) (by omega) _ _ _ _ _ _ _ _ _ _ _ _ _ _ _ _ _ _ _ _ _ _ _ _ _ _ _ _ _ _ _ _ _ _ _ _ _ _ _ _ _ _ _ _ _ _ _ _ _ _ _ _ _ _ _ _ _ _ _ _ _ _ _ _ _ _ _ _ _ _ _ _ _ _ _ _ _ _ _ _ _ _ _ _ _ _ _ _ _ _ _ _ _ _ _ _ _ _ _ _ _ _ _ _ _ _ _ _ _ _ _ _ _ _ _ _ _ _ _ _ _ _ _ _ _ _ _ _ _ _ _ _ _ _ _ _ _ _ _ _ _ _ _ _ _ _ _ _ _ _ _ _ _ _ _ _ _ _ _ _ _ _ _ _ _ _ _ _ _ _ _ _ _ _ _ _ _ _ _ _ _ _ _ _ _ _ _ _ _ _ _ _ _ _ _ _ _ _ _ _ _ _ _ _ _ _ _ _ _ _ _ _ _ _ _ _ _ _ _ _ _ _ _ _ _ _ _ _ _ _ _ _ _ _ _ _ _ _ _ _ (fun _ _ => True) _ (fun tm w5 e1 e2 => by (try simp +zetaDelta only [Exit.inBlock,Exit.then]); exact HX.out tm w5 e1 e2) (fun _ _ _ _ _ _ _ _ _ _ _ _ _ _ _ _ _ _ _ _ _ _ _ _ _ _ _ _ _ _ _ _ _ _ _ _ _ _ _ _ _ _ _ _ _ _ _ _ _ _ _ _ _ _ _ _ _ _ _ _ _ _ _ _ _ _ _ _ _ _ _ _ _ _ _ _ _ _ _ _ _ _ _ _ _ w6 t2 f2 c2 F2 H2 I2 fh2 fi2 k1 k2 k3 k4 k5 => ?_)
    exact HK.out _ _ _ _ _ _ _ _ _ _ _ _ _ _ _ _ _ _ _ _ _ _ _ _ _ _ _ _ _ _ _ _ _ _ _ _ _ _ _ _ _ _ _ _ _ _ _ _ _ _ _ _ _ _ _ _ _ _ _ _ _ _ _ _ _ _ _ _ _ _ _ _ _ _ _ _ _ _ _ _ _ _ _ _ _ _ _ _ _ _ _ _ _ _ _ _ _ _ _ _ _ _ _ _ _ _ _ _ _ _ _ _ _ _ _ _ _ _ _ _ _ _ _ _ _ _ _ _ _ _ _ _ _ _ _ _ _ _ _ _ _ _ _ _ _ _ _ _ _ _ _ _ _ _ _ _ _ _ _ _ _ _ _ _ _ _ _ _ _ _ _ _ _ w6 t2 f2 c2 F2 H2 H I2 fh2 fh fi2 k1 k2 (by omega) k4 k5
  · go_upto_if 127 with fail
    refine wp_cond_false rfl ?_
    go_upto_if 127 with fail
    refine wp_cond_false rfl ?_
    go_upto_if 127 with fail
    refine wp_cond_true rfl ?_
    go_upto_if 127 with fail
    refine wp_cond_true rfl ?_
    refine pcnew_any W w d f t qn qm qi qa lim c a F H I fh fi HS.out HQ.out h0 h1 (by omega) _ _ _ _ _ _ _ _ _ _ _ _ _ _ _ _ _ _ _ _ _ _ _ _ _ _ _ _ _ _ _ _ _ _ _ _ _ _ _ _ _ _ _ _ _ _ _ _ _ _ _ _ _ _ _ _ _ _ _ _ _ _ _ _ _ _ _ _ _ _ _ _ _ _ _ _ _ _ _ _ _ _ _ _ _ _ _ _ _ _ _ _ _ _ _ _ _ _ _ _ _ _ _ _ _ _ _ _ _ _ _ _ _ _ _ _ _ _ _ _ _ _ _ _ _ _ _ _ _ _ _ _ _ _ _ _ _ _ _ _ _ _ _ _ _ _ _ _ _ _ _ _ _ _ _ _ _ _ _ _ _ _ _ _ _ _ _ _ _ _ _ _ _ _ _ _ _ _ _ _ _ _ _ _ _ _ _ _ _ _ _ _ _ _ _ _ _ _ _ _ _ _ _ _ _ _ _ _ _ _ _ _ _ _ _ _ _ _ _ _ _ _ _ _ _ _ _ _ _ _ _ _ _ _ _ _ _ _ _ _ _ _ (fun _ _ => True) _ (fun _ _ _ _ _ _ _ _ _ _ _ _ _ _ _ _ _ _ w5 g I2 fi2 g1 g2 g3 => ?_)
    refine HK1.out _ _ ?_
    refine pcafter_any W w5 d f qn qm qi qa lim c k (K + 1) a ap np cp rs hrs hkn g 0 (.pointer (some ⟨t,0,none⟩)) H H I2 fh fh fi2 g1 g2 (by omega) hl (by omega) (by omega) (by omega) (by omega) _ _ _ _ _ _ _ _ _ _ _ _ _ _ _ _ _ _ _ _ _ _ _ _ _ _ _ _ _ _ _ _ _ _ _ _ _ _ _ _ _ _ _ _ _ _ _ _ _ _ _ _ _ _ _ _ _ _ _ _ _ _ _ _ _ _ _ _ _ _ _ _ _ _ _ _ _ _ _ _ _ _ _ _ _ _ _ _ _ _ _ _ _ _ _ _ _ _ _ _ _ _ _ _ _ _ _ _ _ _ _ _ _ _ _ _ _ _ _ _ _ _ _ _ _ _ _ _ _ _ _ _ _ _ _ _ _ _ _ _ _ _ _ _ _ _ _ _ _ _ _ _ _ _ _ _ _ _ _ _ _ _ _ _ _ _ _ _ _ _ _ _ _ _ _ _ _ _ _ _ _ _ _ _ _ _ _ _ _ _ _ _ _ _ _ _ _ _ _ _ _ _ _ _ _ _ _ _ _ _ _ _ _ _ _ _ _ _ _ _ _ _ _ _ _ _ _ _ _ _ _ _ _ _ _ _ _ _ _ _ (fun _ _ => True) _ (fun tm w5 e1 e2 => by (try simp +zetaDelta only [Exit.inBlock,Exit.then]); exact HX.out tm w5 e1 e2) (fun _ _ _ _ _ _ _ _ _ _ _ _ _ _ _ _ _ _ _ _ _ _ _ _ _ _ _ _ _ _ _ _ _ _ _ _ _ _ _ _ _ _ _ _ _ _ _ _ _ _ _ _ _ _ _ _ _ _ _ _ _ _ _ _ _ _ _ _ _ _ _ _ _ _ _ _ _ _ _ _ _ _ _ _ _ w6 t2 f2 c2 F2 H2 I2 fh2 fi2 k1 k2 k3 k4 k5 => ?_)
    exact HK.out _ _ _ _ _ _ _ _ _ _ _ _ _ _ _ _ _ _ _ _ _ _ _ _ _ _ _ _ _ _ _ _ _ _ _ _ _ _ _ _ _ _ _ _ _ _ _ _ _ _ _ _ _ _ _ _ _ _ _ _ _ _ _ _ _ _ _ _ _ _ _ _ _ _ _ _ _ _ _ _ _ _ _ _ _ _ _ _ _ _ _ _ _ _ _ _ _ _ _ _ _ _ _ _ _ _ _ _ _ _ _ _ _ _ _ _ _ _ _ _ _ _ _ _ _ _ _ _ _ _ _ _ _ _ _ _ _ _ _ _ _ _ _ _ _ _ _ _ _ _ _ _ _ _ _ _ _ _ _ _ _ _ _ _ _ _ _ _ _ _ _ _ _ w6 t2 f2 c2 F2 H2 H I2 fh2 fh fi2 k1 k2 (by omega) k4 k5
  · go_upto_if 127 with fail
    refine wp_cond_false rfl ?_
    go_upto_if 127 with fail
    refine wp_cond_false rfl ?_
    go_upto_if 127 with fail
    refine wp_cond_false rfl ?_
    go_upto_if 127 with fail
    refine wp_cond_true rfl ?_
    refine pcnew_any W w d f t qn qm qi qa lim c a F H I fh fi HS.out HQ.out h0 h1 (by omega) _ _ _ _ _ _ _ _ _ _ _ _ _ _ _ _ _ _ _ _ _ _ _ _ _ _ _ _ _ _ _ _ _ _ _ _ _ _ _ _ _ _ _ _ _ _ _ _ _ _ _ _ _ _ _ _ _ _ _ _ _ _ _ _ _ _ _ _ _ _ _ _ _ _ _ _ _ _ _ _ _ _ _ _ _ _ _ _ _ _ _ _ _ _ _ _ _ _ _ _ _ _ _ _ _ _ _ _ _ _ _ _ _ _ _ _ _ _ _ _ _ _ _ _ _ _ _ _ _ _ _ _ _ _ _ _ _ _ _ _ _ _ _ _ _ _ _ _ _ _ _ _ _ _ _ _ _ _ _ _ _ _ _ _ _ _ _ _ _ _ _ _ _ _ _ _ _ _ _ _ _ _ _ _ _ _ _ _ _ _ _ _ _ _ _ _ _ _ _ _ _ _ _ _ _ _ _ _ _ _ _ _ _ _ _ _ _ _ _ _ _ _ _ _ _ _ _ _ _ _ _ _ _ _ _ _ _ _ _ _ _ _ (fun _ _ => True) _ (fun _ _ _ _ _ _ _ _ _ _ _ _ _ _ _ _ _ _ w5 g I2 fi2 g1 g2 g3 => ?_)
    refine HK1.out _ _ ?_
    refine pcafter_any W w5 d f qn qm qi qa lim c k (K + 1) a ap np cp rs hrs hkn g 0 (.pointer (some ⟨t,0,none⟩)) H H I2 fh fh fi2 g1 g2 (by omega) hl (by omega) (by omega) (by omega) (by omega) _ _ _ _ _ _ _ _ _ _ _ _ _ _ _ _ _ _ _ _ _ _ _ _ _ _ _ _ _ _ _ _ _ _ _ _ _ _ _ _ _ _ _ _ _ _ _ _ _ _ _ _ _ _ _ _ _ _ _ _ _ _ _ _ _ _ _ _ _ _ _ _ _ _ _ _ _ _ _ _ _ _ _ _ _ _ _ _ _ _ _ _ _ _ _ _ _ _ _ _ _ _ _ _ _ _ _ _ _ _ _ _ _ _ _ _ _ _ _ _ _ _ _ _ _ _ _ _ _ _ _ _ _ _ _ _ _ _ _ _ _ _ _ _ _ _ _ _ _ _ _ _ _ _ _ _ _ _ _ _ _ _ _ _ _ _ _ _ _ _ _ _ _ _ _ _ _ _ _ _ _ _ _ _ _ _ _ _ _ _ _ _ _ _ _ _ _ _ _ _ _ _ _ _ _ _ _ _ _ _ _ _ _ _ _ _ _ _ _ _ _ _ _ _ _ _ _ _ _ _ _ _ _ _ _ _ _ _ _ _ (fun _ _ => True) _ (fun tm w5 e1 e2 => by (try simp +zetaDelta only [Exit.inBlock,Exit.then]); exact HX.out tm w5 e1 e2) (fun _ _ _ _ _ _ _ _ _ _ _ _ _ _ _ _ _ _ _ _ _ _ _ _ _ _ _ _ _ _ _ _ _ _ _ _ _ _ _ _ _ _ _ _ _ _ _ _ _ _ _ _ _ _ _ _ _ _ _ _ _ _ _ _ _ _ _ _ _ _ _ _ _ _ _ _ _ _ _ _ _ _ _ _ _ w6 t2 f2 c2 F2 H2 I2 fh2 fi2 k1 k2 k3 k4 k5 => ?_)
    exact HK.out _ _ _ _ _ _ _ _ _ _ _ _ _ _ _ _ _ _ _ _ _ _ _ _ _ _ _ _ _ _ _ _ _ _ _ _ _ _ _ _ _ _ _ _ _ _ _ _ _ _ _ _ _ _ _ _ _ _ _ _ _ _ _ _ _ _ _ _ _ _ _ _ _ _ _ _ _ _ _ _ _ _ _ _ _ _ _ _ _ _ _ _ _ _ _ _ _ _ _ _ _ _ _ _ _ _ _ _ _ _ _ _ _ _ _ _ _ _ _ _ _ _ _ _ _ _ _ _ _ _ _ _ _ _ _ _ _ _ _ _ _ _ _ _ _ _ _ _ _ _ _ _ _ _ _ _ _ _ _ _ _ _ _ _ _ _ _ _ _ _ _ _ _ w6 t2 f2 c2 F2 H2 H I2 fh2 fh fi2 k1 k2 (by omega) k4 k5
  · go_upto_if 148 with fail
    refine wp_cond_true rfl ?_
    go_upto_if 148 with fail
    refine wp_cond_true rfl ?_
    refine pcfree_any W w d f t qn qm qi qa lim c a F H I fh fi HS.out HQ.out h0 h1 (by omega) _ _ _ _ _ _ _ _ _ _ _ _ _ _ _ _ _ _ _ _ _ _ _ _ _ _ _ _ _ _ _ _ _ _ _ _ _ _ _ _ _ _ _ _ _ _ _ _ _ _ _ _ _ _ _ _ _ _ _ _ _ _ _ _ _ _ _ _ _ _ _ _ _ _ _ _ _ _ _ _ _ _ _ _ _ _ _ _ _ _ _ _ _ _ _ _ _ _ _ _ _ _ _ _ _ _ _ _ _ _ _ _ _ _ _ _ _ _ _ _ _ _ _ _ _ _ _ _ _ _ _ _ _ _ _ _ _ _ _ _ _ _ _ _ _ _ _ _ _ _ _ _ _ _ _ _ _ _ _ _ _ _ _ _ _ _ _ _ _ _ _ _ _ _ _ _ _ _ _ _ _ _ _ _ _ _ _ _ _ _ _ _ _ _ _ _ _ _ _ _ _ _ _ _ _ _ _ _ _ _ _ _ _ _ _ _ _ _ _ _ _ _ _ _ _ _ _ _ _ _ _ _ _ _ _ _ _ _ _ _ _ _ (fun _ _ => True) _ (fun _ _ _ _ _ _ _ _ _ _ _ _ _ _ _ _ _ _ _ _ _ _ w5 g I2 fi2 g1 g2 g3 => ?_)
    refine HK1.out _ _ ?_
    refine pcafter_any W w5 d f qn qm qi qa lim c k (K + 1) a ap np cp rs hrs hkn g 0 (.pointer (some ⟨t,0,none⟩)) H H I2 fh fh fi2 g1 g2 (by omega) hl (by omega) (by omega) (by omega) (by omega) _ _ _ _ _ _ _ _ _ _ _ _ _ _ _ _ _ _ _ _ _ _ _ _ _ _ _ _ _ _ _ _ _ _ _ _ _ _ _ _ _ _ _ _ _ _ _ _ _ _ _ _ _ _ _ _ _ _ _ _ _ _ _ _ _ _ _ _ _ _ _ _ _ _ _ _ _ _ _ _ _ _ _ _ _ _ _ _ _ _ _ _ _ _ _ _ _ _ _ _ _ _ _ _ _ _ _ _ _ _ _ _ _ _ _ _ _ _ _ _ _ _ _ _ _ _ _ _ _ _ _ _ _ _ _ _ _ _ _ _ _ _ _ _ _ _ _ _ _ _ _ _ _ _ _ _ _ _ _ _ _ _ _ _ _ _ _ _ _ _ _ _ _ _ _ _ _ _ _ _ _ _ _ _ _ _ _ _ _ _ _ _ _ _ _ _ _ _ _ _ _ _ _ _ _ _ _ _ _ _ _ _ _ _ _ _ _ _ _ _ _ _ _ _ _ _ _ _ _ _ _ _ _ _ _ _ _ _ _ _ (fun _ _ => True) _ (fun tm w5 e1 e2 => by (try simp +zetaDelta only [Exit.inBlock,Exit.then]); exact HX.out tm w5 e1 e2) (fun _ _ _ _ _ _ _ _ _ _ _ _ _ _ _ _ _ _ _ _ _ _ _ _ _ _ _ _ _ _ _ _ _ _ _ _ _ _ _ _ _ _ _ _ _ _ _ _ _ _ _ _ _ _ _ _ _ _ _ _ _ _ _ _ _ _ _ _ _ _ _ _ _ _ _ _ _ _ _ _ _ _ _ _ _ w6 t2 f2 c2 F2 H2 I2 fh2 fi2 k1 k2 k3 k4 k5 => ?_)
    exact HK.out _ _ _ _ _ _ _ _ _ _ _ _ _ _ _ _ _ _ _ _ _ _ _ _ _ _ _ _ _ _ _ _ _ _ _ _ _ _ _ _ _ _ _ _ _ _ _ _ _ _ _ _ _ _ _ _ _ _ _ _ _ _ _ _ _ _ _ _ _ _ _ _ _ _ _ _ _ _ _ _ _ _ _ _ _ _ _ _ _ _ _ _ _ _ _ _ _ _ _ _ _ _ _ _ _ _ _ _ _ _ _ _ _ _ _ _ _ _ _ _ _ _ _ _ _ _ _ _ _ _ _ _ _ _ _ _ _ _ _ _ _ _ _ _ _ _ _ _ _ _ _ _ _ _ _ _ _ _ _ _ _ _ _ _ _ _ _ _ _ _ _ _ _ w6 t2 f2 c2 F2 H2 H I2 fh2 fh fi2 k1 k2 (by omega) k4 k5
  · go_upto_if 148 with fail
    refine wp_cond_false rfl ?_
    go_upto_if 148 with fail
    refine wp_cond_true rfl ?_
    refine pcfree_any W w d f t qn qm qi qa lim c a F H I fh fi HS.out HQ.out h0 h1 (by omega) _ _ _ _ _ _ _ _ _ _ _ _ _ _ _ _ _ _ _ _ _ _ _ _ _ _ _ _ _ _ _ _ _ _ _ _ _ _ _ _ _ _ _ _ _ _ _ _ _ _ _ _ _ _ _ _ _ _ _ _ _ _ _ _ _ _ _ _ _ _ _ _ _ _ _ _ _ _ _ _ _ _ _ _ _ _ _ _ _ _ _ _ _ _ _ _ _ _ _ _ _ _ _ _ _ _ _ _ _ _ _ _ _ _ _ _ _ _ _ _ _ _ _ _ _ _ _ _ _ _ _ _ _ _ _ _ _ _ _ _ _ _ _ _ _ _ _ _ _ _ _ _ _ _ _ _ _ _ _ _ _ _ _ _ _ _ _ _ _ _ _ _ _ _ _ _ _ _ _ _ _ _ _ _ _ _ _ _ _ _ _ _ _ _ _ _ _ _ _ _ _ _ _ _ _ _ _ _ _ _ _ _ _ _ _ _ _ _ _ _ _ _ _ _ _ _ _ _ _ _ _ _ _ _ _ _ _ _ _ _ _ _ (fun _ _ => True) _ (fun _ _ _ _ _ _ _ _ _ _ _ _ _ _ _ _ _ _ _ _ _ _ w5 g I2 fi2 g1 g2 g3 => ?_)
    refine HK1.out _ _ ?_
    refine pcafter_any W w5 d f qn qm qi qa lim c k (K + 1) a ap np cp rs hrs hkn g 0 (.pointer (some ⟨t,0,none⟩)) H H I2 fh fh fi2 g1 g2 (by omega) hl (by omega) (by omega) (by omega) (by omega) _ _ _ _ _ _ _ _ _ _ _ _ _ _ _ _ _ _ _ _ _ _ _ _ _ _ _ _ _ _ _ _ _ _ _ _ _ _ _ _ _ _ _ _ _ _ _ _ _ _ _ _ _ _ _ _ _ _ _ _ _ _ _ _ _ _ _ _ _ _ _ _ _ _ _ _ _ _ _ _ _ _ _ _ _ _ _ _ _ _ _ _ _ _ _ _ _ _ _ _ _ _ _ _ _ _ _ _ _ _ _ _ _ _ _ _ _ _ _ _ _ _ _ _ _ _ _ _ _ _ _ _ _ _ _ _ _ _ _ _ _ _ _ _ _ _ _ _ _ _ _ _ _ _ _ _ _ _ _ _ _ _ _ _ _ _ _ _ _ _ _ _ _ _ _ _ _ _ _ _ _ _ _ _ _ _ _ _ _ _ _ _ _ _ _ _ _ _ _ _ _ _ _ _ _ _ _ _ _ _ _ _ _ _ _ _ _ _ _ _ _ _ _ _ _ _ _ _ _ _ _ _ _ _ _ _ _ _ _ _ (fun _ _ => True) _ (fun tm w5 e1 e2 => by (try simp +zetaDelta only [Exit.inBlock,Exit.then]); exact HX.out tm w5 e1 e2) (fun _ _ _ _ _ _ _ _ _ _ _ _ _ _ _ _ _ _ _ _ _ _ _ _ _ _ _ _ _ _ _ _ _ _ _ _ _ _ _ _ _ _ _ _ _ _ _ _ _ _ _ _ _ _ _ _ _ _ _ _ _ _ _ _ _ _ _ _ _ _ _ _ _ _ _ _ _ _ _ _ _ _ _ _ _ w6 t2 f2 c2 F2 H2 I2 fh2 fi2 k1 k2 k3 k4 k5 => ?_)
    exact HK.out _ _ _ _ _ _ _ _ _ _ _ _ _ _ _ _ _ _ _ _ _ _ _ _ _ _ _ _ _ _ _ _ _ _ _ _ _ _ _ _ _ _ _ _ _ _ _ _ _ _ _ _ _ _ _ _ _ _ _ _ _ _ _ _ _ _ _ _ _ _ _ _ _ _ _ _ _ _ _ _ _ _ _ _ _ _ _ _ _ _ _ _ _ _ _ _ _ _ _ _ _ _ _ _ _ _ _ _ _ _ _ _ _ _ _ _ _ _ _ _ _ _ _ _ _ _ _ _ _ _ _ _ _ _ _ _ _ _ _ _ _ _ _ _ _ _ _ _ _ _ _ _ _ _ _ _ _ _ _ _ _ _ _ _ _ _ _ _ _ _ _ _ _ w6 t2 f2 c2 F2 H2 H I2 fh2 fh fi2 k1 k2 (by omega) k4 k5
  · go_upto_if 148 with fail
    refine wp_cond_false rfl ?_
    go_upto_if 148 with fail
    refine wp_cond_false rfl ?_
    refine pccommit_any W w d f t qn qm qi qa lim c a F H I fh fi HS.out HQ.out (by omega) (by omega) (by omega) _ _ _ _ _ _ _ _ _ _ _ _ _ _ _ _ _ _ _ _ _ _ _ _ _ _ _ _ _ _ _ _ _ _ _ _ _ _ _ _ _ _ _ _ _ _ _ _ _ _ _ _ _ _ _ _ _ _ _ _ _ _ _ _ _ _ _ _ _ _ _ _ _ _ _ _ _ _ _ _ _ _ _ _ _ _ _ _ _ _ _ _ _ _ _ _ _ _ _ _ _ _ _ _ _ _ _ _ _ _ _ _ _ _ _ _ _ _ _ _ _ _ _ _ _ _ _ _ _ _ _ _ _ _ _ _ _ _ _ _ _ _ _ _ _ _ _ _ _ _ _ _ _ _ _ _ _ _ _ _ _ _ _ _ _ _ _ _ _ _ _ _ _ _ _ _ _ _ _ _ _ _ _ _ _ _ _ _ _ _ _ _ _ _ _ _ _ _ _ _ _ _ _ _ _ _ _ _ _ _ _ _ _ _ _ _ _ _ _ _ _ _ _ _ _ _ _ _ _ _ _ _ _ _ _ _ _ _ _ _ _ _ (fun _ _ => True) _ (fun _ _ _ _ _ _ _ _ _ _ _ _ _ _ _ _ _ _ _ _ _ _ _ _ _ _ _ _ _ _ _ _ _ _ _ _ w5 g e tv H2 G2 fh2 fg2 g1 g2 g3 g4 => ?_)
    refine HK1.out _ _ ?_
    refine pcafter_any W w5 d f qn qm qi qa lim (c + lim + 6) k (K + 1) a ap np cp rs hrs hkn g e tv H2 G2 H2 fh2 fg2 fh2 g1 g2 (by omega) hl (by omega) (by omega) (by omega) (by omega) _ _ _ _ _ _ _ _ _ _ _ _ _ _ _ _ _ _ _ _ _ _ _ _ _ _ _ _ _ _ _ _ _ _ _ _ _ _ _ _ _ _ _ _ _ _ _ _ _ _ _ _ _ _ _ _ _ _ _ _ _ _ _ _ _ _ _ _ _ _ _ _ _ _ _ _ _ _ _ _ _ _ _ _ _ _ _ _ _ _ _ _ _ _ _ _ _ _ _ _ _ _ _ _ _ _ _ _ _ _ _ _ _ _ _ _ _ _ _ _ _ _ _ _ _ _ _ _ _ _ _ _ _ _ _ _ _ _ _ _ _ _ _ _ _ _ _ _ _ _ _ _ _ _ _ _ _ _ _ _ _ _ _ _ _ _ _ _ _ _ _ _ _ _ _ _ _ _ _ _ _ _ _ _ _ _ _ _ _ _ _ _ _ _ _ _ _ _ _ _ _ _ _ _ _ _ _ _ _ _ _ _ _ _ _ _ _ _ _ _ _ _ _ _ _ _ _ _ _ _ _ _ _ _ _ _ _ _ _ _ (fun _ _ => True) _ (fun tm w5 e1 e2 => by (try simp +zetaDelta only [Exit.inBlock,Exit.then]); exact HX.out tm w5 e1 e2) (fun _ _ _ _ _ _ _ _ _ _ _ _ _ _ _ _ _ _ _ _ _ _ _ _ _ _ _ _ _ _ _ _ _ _ _ _ _ _ _ _ _ _ _ _ _ _ _ _ _ _ _ _ _ _ _ _ _ _ _ _ _ _ _ _ _ _ _ _ _ _ _ _ _ _ _ _ _ _ _ _ _ _ _ _ _ w6 t2 f2 c2 F2 H3 I3 fh3 fi3 k1 k2 k3 k4 k5 => ?_)
    exact HK.out _ _ _ _ _ _ _ _ _ _ _ _ _ _ _ _ _ _ _ _ _ _ _ _ _ _ _ _ _ _ _ _ _ _ _ _ _ _ _ _ _ _ _ _ _ _ _ _ _ _ _ _ _ _ _ _ _ _ _ _ _ _ _ _ _ _ _ _ _ _ _ _ _ _ _ _ _ _ _ _ _ _ _ _ _ _ _ _ _ _ _ _ _ _ _ _ _ _ _ _ _ _ _ _ _ _ _ _ _ _ _ _ _ _ _ _ _ _ _ _ _ _ _ _ _ _ _ _ _ _ _ _ _ _ _ _ _ _ _ _ _ _ _ _ _ _ _ _ _ _ _ _ _ _ _ _ _ _ _ _ _ _ _ _ _ _ _ _ _ _ _ _ _ w6 t2 f2 c2 F2 H3 G2 I3 fh3 fg2 fi3 k1 k2 (by omega) k4 k5
  · go_upto_if 148 with fail
    refine wp_cond_false rfl ?_
    go_upto_if 148 with fail
    refine wp_cond_false rfl ?_
    refine pccommit_any W w d f t qn qm qi qa lim c a F H I fh fi HS.out HQ.out (by omega) (by omega) (by omega) _ _ _ _ _ _ _ _ _ _ _ _ _ _ _ _ _ _ _ _ _ _ _ _ _ _ _ _ _ _ _ _ _ _ _ _ _ _ _ _ _ _ _ _ _ _ _ _ _ _ _ _ _ _ _ _ _ _ _ _ _ _ _ _ _ _ _ _ _ _ _ _ _ _ _ _ _ _ _ _ _ _ _ _ _ _ _ _ _ _ _ _ _ _ _ _ _ _ _ _ _ _ _ _ _ _ _ _ _ _ _ _ _ _ _ _ _ _ _ _ _ _ _ _ _ _ _ _ _ _ _ _ _ _ _ _ _ _ _ _ _ _ _ _ _ _ _ _ _ _ _ _ _ _ _ _ _ _ _ _ _ _ _ _ _ _ _ _ _ _ _ _ _ _ _ _ _ _ _ _ _ _ _ _ _ _ _ _ _ _ _ _ _ _ _ _ _ _ _ _ _ _ _ _ _ _ _ _ _ _ _ _ _ _ _ _ _ _ _ _ _ _ _ _ _ _ _ _ _ _ _ _ _ _ _ _ _ _ _ _ _ _ (fun _ _ => True) _ (fun _ _ _ _ _ _ _ _ _ _ _ _ _ _ _ _ _ _ _ _ _ _ _ _ _ _ _ _ _ _ _ _ _ _ _ _ w5 g e tv H2 G2 fh2 fg2 g1 g2 g3 g4 => ?_)
    refine HK1.out _ _ ?_
    refine pcafter_any W w5 d f qn qm qi qa lim (c + lim + 6) k (K + 1) a ap np cp rs hrs hkn g e tv H2 G2 H2 fh2 fg2 fh2 g1 g2 (by omega) hl (by omega) (by omega) (by omega) (by omega) _ _ _ _ _ _ _ _ _ _ _ _ _ _ _ _ _ _ _ _ _ _ _ _ _ _ _ _ _ _ _ _ _ _ _ _ _ _ _ _ _ _ _ _ _ _ _ _ _ _ _ _ _ _ _ _ _ _ _ _ _ _ _ _ _ _ _ _ _ _ _ _ _ _ _ _ _ _ _ _ _ _ _ _ _ _ _ _ _ _ _ _ _ _ _ _ _ _ _ _ _ _ _ _ _ _ _ _ _ _ _ _ _ _ _ _ _ _ _ _ _ _ _ _ _ _ _ _ _ _ _ _ _ _ _ _ _ _ _ _ _ _ _ _ _ _ _ _ _ _ _ _ _ _ _ _ _ _ _ _ _ _ _ _ _ _ _ _ _ _ _ _ _ _ _ _ _ _ _ _ _ _ _ _ _ _ _ _ _ _ _ _ _ _ _ _ _ _ _ _ _ _ _ _ _ _ _ _ _ _ _ _ _ _ _ _ _ _ _ _ _ _ _ _ _ _ _ _ _ _ _ _ _ _ _ _ _ _ _ _ (fun _ _ => True) _ (fun tm w5 e1 e2 => by (try simp +zetaDelta only [Exit.inBlock,Exit.then]); exact HX.out tm w5 e1 e2) (fun _ _ _ _ _ _ _ _ _ _ _ _ _ _ _ _ _ _ _ _ _ _ _ _ _ _ _ _ _ _ _ _ _ _ _ _ _ _ _ _ _ _ _ _ _ _ _ _ _ _ _ _ _ _ _ _ _ _ _ _ _ _ _ _ _ _ _ _ _ _ _ _ _ _ _ _ _ _ _ _ _ _ _ _ _ w6 t2 f2 c2 F2 H3 I3 fh3 fi3 k1 k2 k3 k4 k5 => ?_)
    exact HK.out _ _ _ _ _ _ _ _ _ _ _ _ _ _ _ _ _ _ _ _ _ _ _ _ _ _ _ _ _ _ _ _ _ _ _ _ _ _ _ _ _ _ _ _ _ _ _ _ _ _ _ _ _ _ _ _ _ _ _ _ _ _ _ _ _ _ _ _ _ _ _ _ _ _ _ _ _ _ _ _ _ _ _ _ _ _ _ _ _ _ _ _ _ _ _ _ _ _ _ _ _ _ _ _ _ _ _ _ _ _ _ _ _ _ _ _ _ _ _ _ _ _ _ _ _ _ _ _ _ _ _ _ _ _ _ _ _ _ _ _ _ _ _ _ _ _ _ _ _ _ _ _ _ _ _ _ _ _ _ _ _ _ _ _ _ _ _ _ _ _ _ _ _ w6 t2 f2 c2 F2 H3 G2 I3 fh3 fg2 fi3 k1 k2 (by omega) k4 k5
end Go.Proofs.YtnnmpaenainogaaGreat

namespace Go.Proofs.YtnnmpaenainogaaGreat
open Go.RowKit Go.Maps
structure Q2 (W w : World) (qn qi : Nat) (H I : List Nat) (fh fi : List Int) : Prop where
  n : HB w qn H fh
  i : HB w qi I fi
  ne : qn≠qi
  le : W.heap.size≤qn∧W.heap.size≤qi
  g : Kfr KT W.heap.size W w
theorem Q2.new {W w w' : World} {qn qi : Nat} {H I : List Nat} {fh fi : List Int} (h : Q2 W w qn qi H I fh fi) (k : w.grownBy w' none) : Q2 W w' qn qi H I fh fi :=
  ⟨h.n.kfr (P := fun _ => False) (Kfr.of (B := 0) k) (by simp) (by simp) (by simp),h.i.kfr (P := fun _ => False) (Kfr.of (B := 0) k) (by simp) (by simp) (by simp),h.ne,h.le,h.g.trans (kt_new k)⟩
theorem Q4.q2 {W w : World} {qn qm qi qa : Nat} {a : A11} {H G I : List Nat} {fh fg fi : List Int} (h : Q4 W w qn qm qi qa a H G I fh fg fi) : Q2 W w qn qi H I fh fi := ⟨h.n,h.i,h.ne.2.1,⟨h.le.1,h.le.2.2⟩,h.g⟩
theorem q2_q4 {W w : World} {qn qi qa : Nat} {a : A11} {H I : List Nat} {fh fi : List Int} {pa fa : Option Addr} {pc fc : Nat} (h : Q2 W w qn qi H I fh fi) (ha : ActB w qa a) (hv : HV w (.slice pa H.length pc) (.slice fa H.length fc) H fh) :
    Q4 W (w.alloc (.cells #[.slice pa H.length pc,.slice fa H.length fc] 34 (0,0))) qn w.heap.size qi qa a H H I fh fh fi := by
  have g := World.grownBy_alloc w (.cells #[.slice pa H.length pc,.slice fa H.length fc] 34 (0,0)) none
  have h2 := h.new g
  have l1 := h.n.lt
  have l2 := h.i.lt
  have hs := h.g.size
  exact ⟨⟨h2.n,⟨pa,pc,fa,fc,heap_alloc_new w _,hv.new g⟩,h2.i,⟨by omega,h.ne,by omega⟩,⟨h.le.1,hs,h.le.2⟩,h2.g⟩,ha.new g⟩
def PcL (W : World) (d f qn qi k t : Nat) (w : World) : Prop := ∃ c F H I fh fi,KB W.heap.size d f t w 60 c F H I fh fi∧Q2 W w qn qi H I fh fi∧c≤65 + 234 * k∧H.length≤k∧I.length≤k
theorem pc_start {W w4 w6 : World} (g : Kfr KT W.heap.size W w4) (k : (w4.alloc nilH).grownBy w6 none) : (w6.cell? ⟨w4.heap.size,0,none⟩ = some (.slice none 0 0)∧w6.cell? ⟨w4.heap.size,1,none⟩ = some (.slice none 0 0))∧Q2 W (w6.alloc nilH) w4.heap.size w6.heap.size [] [] [] [] := by
  have b1 : (w4.alloc nilH).heap[w4.heap.size]? = some nilH := heap_alloc_new w4 nilH
  have g2 := World.grownBy_alloc w6 nilH none
  have c1 := (k.block _ (lt_of_block b1) (by simp)).trans b1
  have l1 := lt_of_block c1
  have := g.size
  exact ⟨⟨(cells2H c1).1,(cells2H c1).2.1⟩,hb_nil ((g2.block _ l1 (by simp)).trans c1),hb_nil (heap_alloc_new w6 nilH),by omega,⟨by omega,by omega⟩,
    g.trans (kt_new (gtrans (World.grownBy_alloc w4 nilH none) (gtrans k g2)))⟩
theorem band64 (x : Int) (h0 : 0≤x) (h1 : x≤255) : bits .and .u8 x 64 = 64∨bits .and .u8 x 64 = 0 := by
  obtain ⟨n,rfl⟩ : ∃ n : Nat,x = (n : Int) := ⟨x.toNat,by omega⟩
  have : n < 256 := by omega
  have h : ∀ n : Fin 256,bits .and .u8 ((n.val : Nat) : Int) 64 = 64∨bits .and .u8 ((n.val : Nat) : Int) 64 = 0 := by decide +kernel
  exact h ⟨n,this⟩
theorem band15 (x : Int) (h0 : 0≤x) (h1 : x≤255) : 0≤bits .and .u8 x 15∧bits .and .u8 x 15≤15 := by
  obtain ⟨n,rfl⟩ : ∃ n : Nat,x = (n : Int) := ⟨x.toNat,by omega⟩
  have : n < 256 := by omega
  have h : ∀ n : Fin 256,0≤bits .and .u8 ((n.val : Nat) : Int) 15∧bits .and .u8 ((n.val : Nat) : Int) 15≤15 := by decide +kernel
  exact h ⟨n,this⟩
set_option maxRecDepth 1000000 in
set_option maxHeartbeats 16000000 in
theorem pcrash_walk (W : World) (a0 : Option Addr) (n0 c0 : Nat) (acs : List A11) (a1 : Option Addr) (n1 c1 : Nat) (fs : List Int) (a2 : Option Addr) (n2 c2 : Nat) (rs : List RowP) (h0 : A11q W.heap.size W (.slice a0 n0 c0) acs) (h1 : Seq W.heap.size W (.slice a1 n1 c1) fs) (b1 : Byt fs) (h2 : Bss W.heap.size W (.slice a2 n2 c2) rs) (g1 : n0≤n1) (g2 : n0≤n2) :
    Calls Tryz.prog 4 #[.slice a0 n0 c0,.slice a1 n1 c1,.slice a2 n2 c2] W fun r w' => r = .returned (.bool true)∧Below W.heap.size W w' := by
  have hmay : May ((512 : Nat) : Int) ((60 : Nat) : Int) := by unfold May; omega
  have H0 := Lib.hid h0
  have HN := Lib.hid h0.len.1
  have H2 := Lib.hid h2
  have HB1 := Lib.hid b1
  have HG12 := Lib.hid (show n0≤n1∧n0≤n2 from ⟨g1,g2⟩)
  have hd1 : ¬ (n1 : Int) < (n0 : Int) := by omega
  have hd2 : ¬ (n2 : Int) < (n0 : Int) := by omega
  have hn9 : (n0 : Int) ≤ 9223372036854775807 := by have h9 : maxLen ≤ 9223372036854775807 := by decide
                                                    have := h0.len.2
                                                    omega
  have HSQ := Lib.hid h1
  clear h0 h1 h2 b1
  go_enter Tryz.func4,Tryz.ntmps4
  go_upto_region 8 with (first
    | (go_at_call 14; ((with_reducible refine (awake11_any W).mono ?_); rintro r w1 ⟨rfl,hg⟩; have HG1 := Lib.hid (kt_new (B := W.heap.size) hg); clear hg))
    | (go_at_call 15; refine (new_good _ 512 60 hmay).mono ?_; rintro e w3 ⟨rfl,hw0⟩; have hpn := pd_new (B := W.heap.size) HG1.out.size hw0; have HP3 := Lib.hid hpn.1; have HG3 := Lib.hid (HG1.out.trans (kt_new (B := W.heap.size) hpn.2)); clear hpn hw0)
    | (go_at_call 16; refine (law_open (fun _ => []) HP3.out (by decide) (by decide)).mono ?_; rintro e w4 ⟨f,M4,rfl,hl,hd⟩; have HL4 := Lib.hid (show KA W.heap.size _ f w4 60 (60 + 5) fv0 [] [] from ⟨M4,[],_,hl,fil_nil _ _,(by intro q hq; cases hq),.inl rfl,fil_nil _ _⟩); have HG4 := Lib.hid (HG3.out.trans (kt_dfr hd)); clear hl hd HP3))
  obtain ⟨d,hd⟩ : ∃ d,d = w1.heap.size := ⟨_,rfl⟩
  rw [← hd] at HL4 ⊢
  clear HG3 HG1 hd
  go_upto_region 12 with (first
    | (go_at_call 17; ((with_reducible refine (ki_begin (HL4.out.new (World.grownBy_alloc w4 nilH none)) (by omega) (by decide) 18446744073709551615 (by decide)).mono ?_); rintro r w6 ⟨t,rfl,hs,hg⟩; have HS6 := Lib.hid hs; have HQ6 := Lib.hid (pc_start HG4.out hg); clear hs hg)))
  obtain ⟨⟨e0,e1⟩,hq6⟩ := HQ6.out
  have HQ7 := Lib.hid hq6
  have HS7 := Lib.hid (HS6.out.new (World.grownBy_alloc w6 nilH none))
  clear hq6 HQ6 HS6 HL4 HG4
  go_upto_region 13 with fail
  clear e0 e1
  obtain ⟨qn,hqn⟩ : ∃ q,q = w4.heap.size := ⟨_,rfl⟩
  rw [← hqn] at HQ7 ⊢
  obtain ⟨qi,hqi⟩ : ∃ q,q = w6.heap.size := ⟨_,rfl⟩
  rw [← hqi] at HQ7 ⊢
  generalize w6.alloc nilH = w7 at HQ7 HS7 ⊢
  clear hqn hqi
  have HL := Lib.hid (show PcL W d f qn qi 0 t w7 from ⟨_,_,_,_,_,_,HS7.out,HQ7.out,by omega,Nat.le_refl _,Nat.le_refl _⟩)
  clear HQ7 HS7
  obtain ⟨N,hN⟩ : ∃ N,N = min 40 n0 := ⟨_,rfl⟩
  go_wp2_with fail
  go_loopg [10,11,13,15] N (fun gk fv e tv i wr => ∃ k t f : Nat,k + gk = N∧fv = .pointer (some ⟨f,0,none⟩)∧e = .int .i64 0∧tv = .pointer (some ⟨t,0,none⟩)∧i = .int .i64 k∧Hid (PcL W d f qn qi k t wr))
  case atStart => exact ⟨0,t,f,by omega,rfl,rfl,rfl,rfl,HL⟩
  case round =>
    clear HL
    obtain ⟨k,t,f,hk,rfl,rfl,rfl,rfl,hh⟩ := hrel
    by_cases hlt : k < N
    · obtain ⟨gq,rfl⟩ : ∃ g,gk = g + 1 := ⟨gk - 1,by omega⟩
      have hk1 : (k : Int) < (n0 : Int) := by omega
      have hk40 : (k : Int) < 40 := by omega
      obtain ⟨c,F,H,I,fh,fi,hki,hq2,hc,hH,hI⟩ := hh.out
      have HS := Lib.hid hki
      have HQ := Lib.hid hq2
      have hkl : k < acs.length := by have := HN.out; omega
      have HKN2 := Lib.hid (show k < n2 by have := HG12.out; omega)
      have HC9 := Lib.hid (show c≤9400∧k≤39∧c≤65 + 234 * k by omega)
      obtain ⟨a,ha⟩ : ∃ a,acs[k]? = some a := ⟨_,List.getElem?_eq_getElem hkl⟩
      obtain ⟨ba,oa,rfl,hba,v0,v1,v2,f0,f1,-,-⟩ := H0.out.at k a ha
      have x0 : wr.cell? ⟨ba,oa + k * 3,none⟩ = some (.int .i64 a.kind) := (World.cell?_of_block (w := W) (hq2.g.block ba (by omega) (.inl hba))).trans v0
      have x1 : wr.cell? ⟨ba,oa + k * 3 + 1,none⟩ = some (.int .i64 a.n) := (World.cell?_of_block (w := W) (hq2.g.block ba (by omega) (.inl hba))).trans v1
      have x2 : wr.cell? ⟨ba,oa + k * 3 + 2,none⟩ = some (.int .u8 a.fill) := (World.cell?_of_block (w := W) (hq2.g.block ba (by omega) (.inl hba))).trans v2
      obtain ⟨bf,of,ef,hbf,hcf⟩ : ∃ b o,a1 = some ⟨b,o,none⟩∧b < W.heap.size∧W.cell? ⟨b,o + k,none⟩ = some (.int .u8 (fs.getD k 0)) := by
        obtain ⟨ao,cc,e1,e2,e3,e4,e5⟩ := HSQ.out
        injection e1 with e1 e6 e7
        obtain ⟨b,o,e8,e9,e10⟩ := e5 (fun e => by rw [e] at e6; simp at e6; have := HG12.out; omega)
        exact ⟨b,o,e1.trans e8,e9,e10 k (by have := HG12.out; omega)⟩
      subst ef
      have hfx0 := HB1.out.get k
      have HCF := Lib.hid (fun (w2 : World) (g : Kfr KT W.heap.size W w2) => (World.cell?_of_block (w := W) (g.block bf (by omega) (.inl hbf))).trans hcf)
      clear hcf
      obtain ⟨ak,an,ax⟩ := a
      clear hh hki hq2 v0 v1 v2 ha
      go_upto_region 17 with fail
      have hal := World.grownBy_alloc wr (.cells #[.int .i64 ak,.int .i64 an,.int .u8 ax] 40) none
      have HA2 := Lib.hid (show ActB _ wr.heap.size ⟨ak,an,ax⟩ from heap_alloc_new wr (.cells #[.int .i64 ak,.int .i64 an,.int .u8 ax] 40))
      have HS2 := Lib.hid (HS.out.new hal)
      have HQ2 := Lib.hid (HQ.out.new hal)
      clear hal x0 x1 x2 HS HQ
      generalize wr.alloc (.cells #[.int .i64 ak,.int .i64 an,.int .u8 ax] 40) = w2 at HA2 HS2 HQ2 ⊢
      generalize wr.heap.size = qa at HA2 ⊢
      obtain ⟨pa,pc,fa,fc,k0,k1,_,_,hv⟩ := HQ2.out.n.cells
      have HQ3 := Lib.hid (q2_q4 HQ2.out HA2.out hv)
      obtain ⟨n,hn⟩ : ∃ n,n = H.length := ⟨_,rfl⟩
      rw [← hn] at k0 k1 HQ3
      have HS3 := Lib.hid (HS2.out.new (World.grownBy_alloc w2 (.cells #[.slice pa n pc,.slice fa n fc] 34 (0,0)) none))
      clear hv hn
      go_upto_region 18 with fail
      clear k0 k1 HS2 HQ2 HA2
      generalize w2.alloc (.cells #[.slice pa n pc,.slice fa n fc] 34 (0,0)) = w3 at HQ3 HS3 ⊢
      generalize w2.heap.size = qm at HQ3 ⊢
      have hfc := HCF.out _ HQ3.out.g
      obtain ⟨X,hX⟩ : ∃ X,X = fs.getD k 0 := ⟨_,rfl⟩
      rw [← hX] at hfc hfx0
      clear hX HCF
      rename ∀ (a : Act) (w : World),Code.wp _ _ (Exit.inBlock 1 _) a w→_ => hK0
      have HK0 := Lib.hid hK0
      clear hK0
      have hk1f : (k : Int) < (n1 : Int) := by have := HG12.out; omega
      go_wp2
      refine HK0.out _ _ ?_
      clear HK0
      refine wp_seq_k fun KF hKF => ?_
      have HKF := Lib.hid hKF
      clear hKF
      rcases band64 X hfx0.1 hfx0.2 with hb64 | hb64
      · have hb15 := band15 X hfx0.1 hfx0.2
        obtain ⟨Y,hY⟩ : ∃ Y,Y = bits .and .u8 X 15 := ⟨_,rfl⟩
        rw [← hY] at hb15
        have hYe : bits .and .u8 X 15 = Y := hY.symm
        have hYw : IntKind.i64.wrap Y = Y := IntWalk.i64_in _ (by omega)
        clear hY
        go_wp2_with (first
          | (go_at_call 28; ((with_reducible refine (kn_fail HS3.out.kn Y (by omega) (by omega)).mono ?_); rintro r w4 ⟨rfl,ha,hf⟩; have HS4 := Lib.hid ha; have HQ4 := Lib.hid (HQ3.out.kd hf); clear ha hf HS3 HQ3)))
        refine HKF.out _ _ ?_
        clear HKF KF hfc hb64 hb15 hYe hYw
        refine pcrest_any W w4 d f t qn qm qi qa 60 c k k ⟨ak,an,ax⟩ a2 n2 c2 rs H2.out HKN2.out F H I fh fi HS4.out HQ4.out f0 f1 HC9.out.1 (by decide) hH hI (by have := HC9.out.2.1; omega) _ _ _ _ _ _ _ _ _ _ _ _ _ _ _ _ _ _ _ _ _ _ _ _ _ _ _ _ _ _ _ _ _ _ _ _ _ _ _ _ _ _ _ _ _ _ _ _ _ _ _ _ _ _ _ _ _ _ _ _ _ _ _ _ _ _ _ _ _ _ _ _ _ _ _ _ _ _ _ _ _ _ _ _ _ _ _ _ _ _ _ _ _ _ _ _ _ _ _ _ _ _ _ _ _ _ _ _ _ _ _ _ _ _ _ _ _ _ _ _ _ _ _ _ _ _ _ _ _ _ _ _ _ _ _ _ _ _ _ _ _ _ _ _ _ _ _ _ _ _ _ _ _ _ _ _ _ _ _ _ _ _ _ _ _ _ _ _ _ _ _ _ _ _ _ _ _ _ _ _ _ _ _ _ _ _ _ _ _ _ _ _ _ _ _ _ _ _ _ _ _ _ _ _ _ _ _ _ _ _ _ _ _ _ _ _ _ _ _ _ _ _ _ _ _ _ _ _ _ _ _ _ _ _ _ _ _ _ _ _ (fun _ _ => True) _ (fun tm w5 e1 e2 => ?_) (fun _ _ _ _ _ _ _ _ _ _ _ _ _ _ _ _ _ _ _ _ _ _ _ _ _ _ _ _ _ _ _ _ _ _ _ _ _ _ _ _ _ _ _ _ _ _ _ _ _ _ _ _ _ _ _ _ _ _ _ _ _ _ _ _ _ _ _ _ _ _ _ _ _ _ _ _ _ _ _ _ _ _ _ _ _ _ _ _ _ _ _ _ _ _ _ _ _ _ _ _ _ _ _ _ _ _ _ _ _ _ _ _ _ _ _ _ _ _ _ _ _ _ _ _ _ _ _ _ _ _ _ _ _ _ _ _ _ _ _ _ _ _ _ _ _ _ _ _ _ _ _ _ _ _ _ _ _ _ _ _ _ _ _ _ _ _ _ _ _ _ _ _ _ w5 t2 f2 c2 F2 H2 G2 I2 fh2 fg2 fi2 g1 g2 g3 g4 g5 => ?_)
        · simp +zetaDelta only [Exit.inBlock,Exit.then]
          refine bodyPost_ret (results_tmp rfl _ _ _) rfl ?_
          exact ⟨by rw [e1],e2⟩
        · have HL2 := Lib.hid (show PcL W d f2 qn qi (k + 1) t2 w5 from ⟨c2,F2,H2,I2,fh2,fi2,g1,g2.q2,by have := HC9.out; omega,g4,g5⟩)
          clear g1 g2
          go_wp2
          go_roundg gq
          case measure => omega
          case rel => exact ⟨k + 1,t2,f2,by omega,rfl,rfl,rfl,by go_num,HL2⟩
      · go_wp2
        refine HKF.out _ _ ?_
        clear HKF KF hfc hb64
        refine pcrest_any W w3 d f t qn qm qi qa 60 c k k ⟨ak,an,ax⟩ a2 n2 c2 rs H2.out HKN2.out F H I fh fi HS3.out.kn HQ3.out f0 f1 HC9.out.1 (by decide) hH hI (by have := HC9.out.2.1; omega) _ _ _ _ _ _ _ _ _ _ _ _ _ _ _ _ _ _ _ _ _ _ _ _ _ _ _ _ _ _ _ _ _ _ _ _ _ _ _ _ _ _ _ _ _ _ _ _ _ _ _ _ _ _ _ _ _ _ _ _ _ _ _ _ _ _ _ _ _ _ _ _ _ _ _ _ _ _ _ _ _ _ _ _ _ _ _ _ _ _ _ _ _ _ _ _ _ _ _ _ _ _ _ _ _ _ _ _ _ _ _ _ _ _ _ _ _ _ _ _ _ _ _ _ _ _ _ _ _ _ _ _ _ _ _ _ _ _ _ _ _ _ _ _ _ _ _ _ _ _ _ _ _ _ _ _ _ _ _ _ _ _ _ _ _ _ _ _ _ _ _ _ _ _ _ _ _ _ _ _ _ _ _ _ _ _ _ _ _ _ _ _ _ _ _ _ _ _ _ _ _ _ _ _ _ _ _ _ _ _ _ _ _ _ _ _ _ _ _ _ _ _ _ _ _ _ _ _ _ _ _ _ _ _ _ _ _ _ _ _ (fun _ _ => True) _ (fun tm w5 e1 e2 => ?_) (fun _ _ _ _ _ _ _ _ _ _ _ _ _ _ _ _ _ _ _ _ _ _ _ _ _ _ _ _ _ _ _ _ _ _ _ _ _ _ _ _ _ _ _ _ _ _ _ _ _ _ _ _ _ _ _ _ _ _ _ _ _ _ _ _ _ _ _ _ _ _ _ _ _ _ _ _ _ _ _ _ _ _ _ _ _ _ _ _ _ _ _ _ _ _ _ _ _ _ _ _ _ _ _ _ _ _ _ _ _ _ _ _ _ _ _ _ _ _ _ _ _ _ _ _ _ _ _ _ _ _ _ _ _ _ _ _ _ _ _ _ _ _ _ _ _ _ _ _ _ _ _ _ _ _ _ _ _ _ _ _ _ _ _ _ _ _ _ _ _ _ _ _ _ w5 t2 f2 c2 F2 H2 G2 I2 fh2 fg2 fi2 g1 g2 g3 g4 g5 => ?_)
        · simp +zetaDelta only [Exit.inBlock,Exit.then]
          refine bodyPost_ret (results_tmp rfl _ _ _) rfl ?_
          exact ⟨by rw [e1],e2⟩
        · have HL2 := Lib.hid (show PcL W d f2 qn qi (k + 1) t2 w5 from ⟨c2,F2,H2,I2,fh2,fi2,g1,g2.q2,by have := HC9.out; omega,g4,g5⟩)
          clear g1 g2
          go_wp2
          go_roundg gq
          case measure => omega
          case rel => exact ⟨k + 1,t2,f2,by omega,rfl,rfl,rfl,by go_num,HL2⟩
    · obtain ⟨c,F,H,I,fh,fi,-,hq2,-⟩ := hh.out
      have HB9 := Lib.hid (hq2.g.below (Nat.le_refl _))
      clear hh hq2
      by_cases hk1 : (k : Int) < (n0 : Int)
      · have hk40 : ¬ (k : Int) < 40 := by omega
        go_wp2
        go_ret
        exact ⟨rfl,HB9.out⟩
      · go_wp2
        go_ret
        exact ⟨rfl,HB9.out⟩
end Go.Proofs.YtnnmpaenainogaaGreat

namespace Go.Proofs.YtnnmpaenainogaaGreat
open Go.RowKit Go.Maps
set_option maxRecDepth 100000 in
set_option maxHeartbeats 4000000 in
theorem pcrash_any (W : World) (a0 : Option Addr) (n0 c0 : Nat) (acs : List A11) (a1 : Option Addr) (n1 c1 : Nat) (fs : List Int) (a2 : Option Addr) (n2 c2 : Nat) (rs : List RowP) (h0 : A11q W.heap.size W (.slice a0 n0 c0) acs) (h1 : Seq W.heap.size W (.slice a1 n1 c1) fs) (b1 : Byt fs) (h2 : Bss W.heap.size W (.slice a2 n2 c2) rs) :
    Calls Tryz.prog 4 #[.slice a0 n0 c0,.slice a1 n1 c1,.slice a2 n2 c2] W fun r w' => r = .returned (.bool true)∧Below W.heap.size W w' := by
  by_cases hg : n0≤n1∧n0≤n2
  · exact pcrash_walk W a0 n0 c0 acs a1 n1 c1 fs a2 n2 c2 rs h0 h1 b1 h2 hg.1 hg.2
  · clear h0 h1 b1 h2
    rcases (show n1 < n0∨(n0≤n1∧n2 < n0) by omega) with h | h
    all_goals
      first
        | (have d0 : (n1 : Int) < (n0 : Int) := (by omega))
        | (have d0 : ¬ (n1 : Int) < (n0 : Int) := (by omega); have d1 : (n2 : Int) < (n0 : Int) := (by omega))
      go_enter Tryz.func4,Tryz.ntmps4
      go_wp2_with (go_at_call 14; ((with_reducible refine (awake11_any _).mono ?_); rintro r w1 ⟨rfl,hg⟩; have HG1 := Lib.hid hg; clear hg))
      go_ret
      exact ⟨rfl,gbelow HG1.out⟩
end Go.Proofs.YtnnmpaenainogaaGreat

/-
  slices.pdqsortOrdered at pages: what rises nearly. Own work; printed by tools/sort/mkpdq2.py.
-/
import Derived.Test.YtildjdhoeilcfaaGreatPgrBA
import Derived.Deep.Cut
import Derived.Test.YtildjdhoeilcfaaGreatPgrAR
import Derived.OwnWalk

namespace Go.Proofs.YtildjdhoeilcfaaGreat
open Go.RowKit Go.Maps

set_option maxRecDepth 1000000 in
set_option maxHeartbeats 8000000 in
theorem pdq6_any (w0 w : World) (blk cap a b A B n l : Nat) (d dk : Array Nat) (h : RowAt w0 blk cap w dk) (hq : QInv a b A B d dk) (hn : n = d.size) (hsz : n ≤ 100000) (hl : (B : Int) - (A : Int) = (l : Int)) (t2 : Nat) (wb wp : Bool) (h12 : ¬ l ≤ 12)
    (u61 u62 u63 u64 u65 u66 u67 u68 u69 u70 u71 u72 v3 v4 v5 v6 v7 v10 v11 v13 v14 v15 v16 v17 v18 v19 v20 v21 v22 v23 v24 v25 v26 v27 v28 v29 v30 v31 v32 v33 v34 v35 v36 v37 v38 v39 v40 v41 v42 v43 v44 v45 v46 v47 v48 v49 v50 v51 v52 v53 v54 v55 v56 v57 v58 v59 v60 v73 v74 v75 v76 v77 v78 v79 v80 v81 v82 v83 v84 v85 v86 v87 v88 v89 v90 v91 v92 v93 v94 v95 v96 v97 v98 v99 v100 v101 v102 v103 v104 v105 v106 v107 v108 v109 v110 v111 v112 v113 v114 v115 v116 v117 v118 v119 v120 v121 v122 v123 v124 v125 v126 v127 v128 v129 v130 v131 v132 v133 : Value) (Kc : Act → World → Prop) (Qc : Exit → Act → World → Prop)
    (hR : ∀ (tm : Array Value) (w5 : World), PdqR w0 blk cap d a b (.returned (.tuple #[])) w5 → Qc .ret ⟨tm, []⟩ w5)
    (hK : ∀ (x61 x62 x63 x64 x65 x66 x67 x68 x69 x70 x71 x72 : Value) (dk3 : Array Nat) (w5 : World), RowAt w0 blk cap w5 dk3 → QInv a b A B d dk3 → Kc ⟨#[.slice (some ⟨blk, 0, none⟩) n cap, .int .i64 (A : Int), .int .i64 (B : Int), v3, v4, v5, v6, v7, .bool wb, .bool wp, v10, v11, .int .i64 (t2 : Int), v13, v14, v15, v16, v17, v18, v19, v20, v21, v22, v23, v24, v25, v26, v27, v28, v29, v30, v31, v32, v33, v34, v35, v36, v37, v38, v39, v40, v41, v42, v43, v44, v45, v46, v47, v48, v49, v50, v51, v52, v53, v54, v55, v56, v57, v58, v59, v60, x61, x62, x63, x64, x65, x66, x67, x68, x69, x70, x71, x72, v73, v74, v75, v76, v77, v78, v79, v80, v81, v82, v83, v84, v85, v86, v87, v88, v89, v90, v91, v92, v93, v94, v95, v96, v97, v98, v99, v100, v101, v102, v103, v104, v105, v106, v107, v108, v109, v110, v111, v112, v113, v114, v115, v116, v117, v118, v119, v120, v121, v122, v123, v124, v125, v126, v127, v128, v129, v130, v131, v132, v133], []⟩ w5) :
    Code.wp Tryz.prog pdqS6 (Exit.then Kc Qc) ⟨#[.slice (some ⟨blk, 0, none⟩) n cap, .int .i64 (A : Int), .int .i64 (B : Int), v3, v4, v5, v6, v7, .bool wb, .bool wp, v10, v11, .int .i64 (t2 : Int), v13, v14, v15, v16, v17, v18, v19, v20, v21, v22, v23, v24, v25, v26, v27, v28, v29, v30, v31, v32, v33, v34, v35, v36, v37, v38, v39, v40, v41, v42, v43, v44, v45, v46, v47, v48, v49, v50, v51, v52, v53, v54, v55, v56, v57, v58, v59, v60, u61, u62, u63, u64, u65, u66, u67, u68, u69, u70, u71, u72, v73, v74, v75, v76, v77, v78, v79, v80, v81, v82, v83, v84, v85, v86, v87, v88, v89, v90, v91, v92, v93, v94, v95, v96, v97, v98, v99, v100, v101, v102, v103, v104, v105, v106, v107, v108, v109, v110, v111, v112, v113, v114, v115, v116, v117, v118, v119, v120, v121, v122, v123, v124, v125, v126, v127, v128, v129, v130, v131, v132, v133], []⟩ w := by
  conv => arg 2; whnf
  have HK := Lib.hid hK
  have HX := Lib.hid hR
  have HR := Lib.hid h
  have HQ := Lib.hid hq
  have HN := Lib.hid hn
  have hAB := hq.AB
  have hBn : B ≤ n := by have := hq.bk; rw [hq.size, ← hn] at this; exact this
  have hn5 : (n : Int) ≤ 100000 := by omega
  have hA5 : (A : Int) ≤ 100000 := by omega
  have hB5 : (B : Int) ≤ 100000 := by omega
  have hl5 : (l : Int) ≤ 100000 := by omega
  clear hK h hq hn hR
  cases wb with
  | false =>
    go_wp2
    exact HK.out _ _ _ _ _ _ _ _ _ _ _ _ dk w HR.out HQ.out
  | true =>
    cases wp with
    | false =>
      go_wp2
      exact HK.out _ _ _ _ _ _ _ _ _ _ _ _ dk w HR.out HQ.out
    | true =>
      by_cases ht1 : t2 = 1
      · subst ht1
        go_wp2_with fail
        have K := pins_any w0 w blk cap A B dk HR.out HQ.out.bk (by rw [HQ.out.size, ← HN.out]; exact hsz) (by omega)
        rw [show (dk).size = n from HQ.out.size.trans HN.out.symm] at K
        (with_reducible refine K.mono ?_)
        clear K
        rintro r wp2 ⟨pt0, dkp, rfl, hrp, hep⟩
        have HRP := Lib.hid hrp
        have hpp := Sort.partialInsertionSort_holds (lt := ltN) swo_ltN dk A B (by omega) HQ.out.bk HQ.out.below
        rw [hep] at hpp
        cases pt0 with
        | true =>
          have HF := Lib.hid (HQ.out.done hpp.1 (hpp.2 rfl))
          clear hpp hep hrp
          go_wp2
          exact HX.out _ _ ⟨rfl, dkp, HRP.out, HF.out.1, HF.out.2⟩
        | false =>
          have HQP := Lib.hid (HQ.out.turn (show Sort.PermIn A B dk dkp from hpp.1))
          clear hpp hep hrp
          go_wp2
          exact HK.out _ _ _ _ _ _ _ _ _ _ _ _ dkp wp2 HRP.out HQP.out
      · have ht1i : ¬ (t2 : Int) = 1 := by omega
        have ht1b : ((t2 : Int) == 1) = false := by simpa using ht1i
        go_wp2
        exact HK.out _ _ _ _ _ _ _ _ _ _ _ _ dk w HR.out HQ.out

end Go.Proofs.YtildjdhoeilcfaaGreat

namespace Go.Proofs.YtildjdhoeilcfaaGreat
open Go.RowKit Go.Maps

set_option maxRecDepth 1000000 in
set_option maxHeartbeats 8000000 in
theorem pdq7_any (w0 w : World) (blk cap a b A B n l : Nat) (d dk : Array Nat) (h : RowAt w0 blk cap w dk) (hq : QInv a b A B d dk) (hn : n = d.size) (hsz : n ≤ 100000) (hl : (B : Int) - (A : Int) = (l : Int)) (pv : Nat) (hpv1 : A ≤ pv) (hpv2 : pv < B) (nd : d.toList.Nodup)
    (u13 u73 u74 u75 u76 u77 u78 u79 u80 u81 u82 u83 u84 u85 u86 u87 u88 u89 u90 u91 u92 u93 v3 v4 v5 v6 v7 v8 v9 v10 v12 v14 v15 v16 v17 v18 v19 v20 v21 v22 v23 v24 v25 v26 v27 v28 v29 v30 v31 v32 v33 v34 v35 v36 v37 v38 v39 v40 v41 v42 v43 v44 v45 v46 v47 v48 v49 v50 v51 v52 v53 v54 v55 v56 v57 v58 v59 v60 v61 v62 v63 v64 v65 v66 v67 v68 v69 v70 v71 v72 v94 v95 v96 v97 v98 v99 v100 v101 v102 v103 v104 v105 v106 v107 v108 v109 v110 v111 v112 v113 v114 v115 v116 v117 v118 v119 v120 v121 v122 v123 v124 v125 v126 v127 v128 v129 v130 v131 v132 v133 : Value) (Kc : Act → World → Prop) (Qc : Exit → Act → World → Prop)
    (hK : ∀ (x13 x73 x74 x75 x76 x77 x78 x79 x80 x81 x82 x83 x84 x85 x86 x87 x88 x89 x90 x91 x92 x93 : Value) (w5 : World), RowAt w0 blk cap w5 dk → Kc ⟨#[.slice (some ⟨blk, 0, none⟩) n cap, .int .i64 (A : Int), .int .i64 (B : Int), v3, v4, v5, v6, v7, v8, v9, v10, .int .i64 (pv : Int), v12, x13, v14, v15, v16, v17, v18, v19, v20, v21, v22, v23, v24, v25, v26, v27, v28, v29, v30, v31, v32, v33, v34, v35, v36, v37, v38, v39, v40, v41, v42, v43, v44, v45, v46, v47, v48, v49, v50, v51, v52, v53, v54, v55, v56, v57, v58, v59, v60, v61, v62, v63, v64, v65, v66, v67, v68, v69, v70, v71, v72, x73, x74, x75, x76, x77, x78, x79, x80, x81, x82, x83, x84, x85, x86, x87, x88, x89, x90, x91, x92, x93, v94, v95, v96, v97, v98, v99, v100, v101, v102, v103, v104, v105, v106, v107, v108, v109, v110, v111, v112, v113, v114, v115, v116, v117, v118, v119, v120, v121, v122, v123, v124, v125, v126, v127, v128, v129, v130, v131, v132, v133], []⟩ w5) :
    Code.wp Tryz.prog pdqS7 (Exit.then Kc Qc) ⟨#[.slice (some ⟨blk, 0, none⟩) n cap, .int .i64 (A : Int), .int .i64 (B : Int), v3, v4, v5, v6, v7, v8, v9, v10, .int .i64 (pv : Int), v12, u13, v14, v15, v16, v17, v18, v19, v20, v21, v22, v23, v24, v25, v26, v27, v28, v29, v30, v31, v32, v33, v34, v35, v36, v37, v38, v39, v40, v41, v42, v43, v44, v45, v46, v47, v48, v49, v50, v51, v52, v53, v54, v55, v56, v57, v58, v59, v60, v61, v62, v63, v64, v65, v66, v67, v68, v69, v70, v71, v72, u73, u74, u75, u76, u77, u78, u79, u80, u81, u82, u83, u84, u85, u86, u87, u88, u89, u90, u91, u92, u93, v94, v95, v96, v97, v98, v99, v100, v101, v102, v103, v104, v105, v106, v107, v108, v109, v110, v111, v112, v113, v114, v115, v116, v117, v118, v119, v120, v121, v122, v123, v124, v125, v126, v127, v128, v129, v130, v131, v132, v133], []⟩ w := by
  conv => arg 2; whnf
  have HK := Lib.hid hK
  have HR := Lib.hid h
  have HQ := Lib.hid hq
  have HN := Lib.hid hn
  have hAB := hq.AB
  have hBn : B ≤ n := by have := hq.bk; rw [hq.size, ← hn] at this; exact this
  have hn5 : (n : Int) ≤ 100000 := by omega
  have hA5 : (A : Int) ≤ 100000 := by omega
  have hB5 : (B : Int) ≤ 100000 := by omega
  have hl5 : (l : Int) ≤ 100000 := by omega
  clear hK h hq hn
  rcases Nat.eq_zero_or_pos A with hA0 | hA0
  · subst hA0
    go_wp2_with fail
    go_quiet (first | (go_at_call 264; refine Calls.quiet_of_same (less_any 0 0 false rfl _)))
    have HRe := Lib.hid (HR.out.drewN nq)
    generalize w.drewN nq = WV at HRe ⊢
    go_wp2
    exact HK.out _ _ _ _ _ _ _ _ _ _ _ _ _ _ _ _ _ _ _ _ _ _ WV HRe.out
  · have hA0i : (0 : Int) < (A : Int) := by omega
    have hA1 : (A : Int) - 1 < (n : Int) := by omega
    have hwA : IntKind.i64.wrap ((A : Int) - 1) = (A : Int) - 1 := IntWalk.i64_in _ ⟨by omega, by omega⟩
    have hpvn : (pv : Int) < (n : Int) := by omega
    have c1 := HR.out.cell (j := A - 1) (by have := HQ.out.bk; omega)
    have c2 := HR.out.cell (j := pv) (by have := HQ.out.bk; omega)
    obtain ⟨x, hx⟩ : ∃ x, (dk)[A - 1]! = x := ⟨_, rfl⟩
    obtain ⟨y, hy⟩ : ∃ y, (dk)[pv]! = y := ⟨_, rfl⟩
    have HL := Lib.hid (show ltN x y = true by rw [← hx, ← hy]; exact HQ.out.less nd hA0 hpv1 hpv2)
    rw [hx] at c1
    rw [hy] at c2
    clear hx hy nd
    go_wp2_with fail
    go_quiet (first | (go_at_call 264; refine Calls.quiet_of_same (less_any x y true HL.out _)))
    have HRe := Lib.hid (HR.out.drewN nq)
    clear c1 c2
    generalize w.drewN nq = WV at HRe ⊢
    go_wp2
    exact HK.out _ _ _ _ _ _ _ _ _ _ _ _ _ _ _ _ _ _ _ _ _ _ WV HRe.out

end Go.Proofs.YtildjdhoeilcfaaGreat

namespace Go.Proofs.YtildjdhoeilcfaaGreat
open Go.RowKit Go.Maps

set_option maxRecDepth 1000000 in
set_option maxHeartbeats 8000000 in
theorem pdq8_any (w0 w : World) (blk cap a b A B n l : Nat) (d dk : Array Nat) (h : RowAt w0 blk cap w dk) (hq : QInv a b A B d dk) (hn : n = d.size) (hsz : n ≤ 100000) (hl : (B : Int) - (A : Int) = (l : Int)) (lm2 pv M : Nat) (hpv1 : A ≤ pv) (hpv2 : pv < B) (nd : d.toList.Nodup) (h12 : ¬ l ≤ 12) (hlm2 : lm2 ≤ 1000) (hM : B - A ≤ M)
    (IH : ∀ (w : World) (a b lim : Nat) (d : Array Nat), b - a < M → RowAt w0 blk cap w d → a ≤ b → b ≤ d.size → d.size ≤ 100000 → d.toList.Nodup → Sort.Below ltN a b d → lim ≤ 1000 →
      Calls Tryz.prog 235 #[.slice (some ⟨blk, 0, none⟩) d.size cap, .int .i64 (a : Int), .int .i64 (b : Int), .int .i64 (lim : Int)] w fun r w' => PdqR w0 blk cap d a b r w')
    (u8 u9 u14 u15 u16 u17 u18 u94 u95 u96 u97 u98 u99 u100 u101 u102 u103 u104 u105 u106 u107 u108 u109 u110 u111 u112 u113 u114 u115 u116 u117 u118 u119 u120 u121 u122 u123 u124 u125 u126 u127 u128 u129 u130 u131 u132 u133 v4 v5 v6 v7 v12 v13 v19 v20 v21 v22 v23 v24 v25 v26 v27 v28 v29 v30 v31 v32 v33 v34 v35 v36 v37 v38 v39 v40 v41 v42 v43 v44 v45 v46 v47 v48 v49 v50 v51 v52 v53 v54 v55 v56 v57 v58 v59 v60 v61 v62 v63 v64 v65 v66 v67 v68 v69 v70 v71 v72 v73 v74 v75 v76 v77 v78 v79 v80 v81 v82 v83 v84 v85 v86 v87 v88 v89 v90 v91 v92 v93 : Value) (Kc : Act → World → Prop) (Qc : Exit → Act → World → Prop)
    (hK : ∀ (x14 x15 x16 x17 x18 x94 x95 x96 x97 x98 x99 x100 x101 x102 x103 x104 x105 x106 x107 x108 x109 x110 x111 x112 x113 x114 x115 x116 x117 x118 x119 x120 x121 x122 x123 x124 x125 x126 x127 x128 x129 x130 x131 x132 x133 : Value) (A' B' : Nat) (wb' wp' : Bool) (dk5 : Array Nat) (w5 : World), B' - A' < B - A → A' ≤ B' → RowAt w0 blk cap w5 dk5 → QInv a b A' B' d dk5 → Qc .normal ⟨#[.slice (some ⟨blk, 0, none⟩) n cap, .int .i64 (A' : Int), .int .i64 (B' : Int), .int .i64 (lm2 : Int), v4, v5, v6, v7, .bool wb', .bool wp', .int .i64 (l : Int), .int .i64 (pv : Int), v12, v13, x14, x15, x16, x17, x18, v19, v20, v21, v22, v23, v24, v25, v26, v27, v28, v29, v30, v31, v32, v33, v34, v35, v36, v37, v38, v39, v40, v41, v42, v43, v44, v45, v46, v47, v48, v49, v50, v51, v52, v53, v54, v55, v56, v57, v58, v59, v60, v61, v62, v63, v64, v65, v66, v67, v68, v69, v70, v71, v72, v73, v74, v75, v76, v77, v78, v79, v80, v81, v82, v83, v84, v85, v86, v87, v88, v89, v90, v91, v92, v93, x94, x95, x96, x97, x98, x99, x100, x101, x102, x103, x104, x105, x106, x107, x108, x109, x110, x111, x112, x113, x114, x115, x116, x117, x118, x119, x120, x121, x122, x123, x124, x125, x126, x127, x128, x129, x130, x131, x132, x133], []⟩ w5) :
    Code.wp Tryz.prog pdqS8 Qc ⟨#[.slice (some ⟨blk, 0, none⟩) n cap, .int .i64 (A : Int), .int .i64 (B : Int), .int .i64 (lm2 : Int), v4, v5, v6, v7, u8, u9, .int .i64 (l : Int), .int .i64 (pv : Int), v12, v13, u14, u15, u16, u17, u18, v19, v20, v21, v22, v23, v24, v25, v26, v27, v28, v29, v30, v31, v32, v33, v34, v35, v36, v37, v38, v39, v40, v41, v42, v43, v44, v45, v46, v47, v48, v49, v50, v51, v52, v53, v54, v55, v56, v57, v58, v59, v60, v61, v62, v63, v64, v65, v66, v67, v68, v69, v70, v71, v72, v73, v74, v75, v76, v77, v78, v79, v80, v81, v82, v83, v84, v85, v86, v87, v88, v89, v90, v91, v92, v93, u94, u95, u96, u97, u98, u99, u100, u101, u102, u103, u104, u105, u106, u107, u108, u109, u110, u111, u112, u113, u114, u115, u116, u117, u118, u119, u120, u121, u122, u123, u124, u125, u126, u127, u128, u129, u130, u131, u132, u133], []⟩ w := by
  conv => arg 2; whnf
  have HK := Lib.hid hK
  have HR := Lib.hid h
  have HQ := Lib.hid hq
  have HN := Lib.hid hn
  have hAB := hq.AB
  have hBn : B ≤ n := by have := hq.bk; rw [hq.size, ← hn] at this; exact this
  have hn5 : (n : Int) ≤ 100000 := by omega
  have hA5 : (A : Int) ≤ 100000 := by omega
  have hB5 : (B : Int) ≤ 100000 := by omega
  have hl5 : (l : Int) ≤ 100000 := by omega
  clear hK h hq hn
  have ND := Lib.hid nd
  have HI := Lib.hid IH
  clear nd IH
  go_wp2_with fail
  have K := partition_any w0 w blk cap A B pv dk HR.out HQ.out.bk (by rw [HQ.out.size, ← HN.out]; exact hsz) (by omega) hpv1 hpv2
  rw [show (dk).size = n from HQ.out.size.trans HN.out.symm] at K
  (with_reducible refine K.mono ?_)
  clear K
  rintro r w5 ⟨m, pt, dk4, rfl, hr4, hp4, hm1, hm2, hlt4, hge4⟩
  have HR4 := Lib.hid hr4
  have HQ4 := Lib.hid (HQ.out.turn hp4)
  have HLT4 := Lib.hid hlt4
  have HGE4 := Lib.hid hge4
  obtain ⟨lf, hlf⟩ : ∃ lf : Nat, (m : Int) - (A : Int) = (lf : Int) := ⟨m - A, by omega⟩
  obtain ⟨rt, hrt⟩ : ∃ rt : Nat, (B : Int) - (m : Int) = (rt : Int) := ⟨B - m, by omega⟩
  have hm5 : (m : Int) ≤ 100000 := by omega
  clear hr4 hp4 hlt4 hge4
  have HM1 := Lib.hid (show (m : Int) + 1 = ((m + 1 : Nat) : Int) by omega)
  by_cases hlr : lf < rt
  · have hlri : (lf : Int) < (rt : Int) := by omega
    go_wp2_with (first
      | (go_at_call 235; have K := HI.out w5 A m lm2 dk4 (by omega) HR4.out (by omega) (by have := HQ4.out.bk; omega) (by rw [HQ4.out.size, ← HN.out]; exact hsz) (nodup_perm HQ4.out.perm HQ4.out.bd ND.out) (below_left HQ4.out hm2) (by omega); rw [show dk4.size = n from HQ4.out.size.trans HN.out.symm] at K; (with_reducible refine K.mono ?_); clear K; rintro r w6 ⟨rfl, dk5, hr5, hp5, hs5⟩; have HR5 := Lib.hid hr5; have HQ5 := Lib.hid (HQ4.out.left hm1 hm2 HLT4.out HGE4.out hp5 hs5); clear hr5 hp5 hs5))
    rw [HM1.out]
    exact HK.out _ _ _ _ _ _ _ _ _ _ _ _ _ _ _ _ _ _ _ _ _ _ _ _ _ _ _ _ _ _ _ _ _ _ _ _ _ _ _ _ _ _ _ _ _ (m + 1) B _ _ dk5 w6 (by omega) (by omega) HR5.out HQ5.out
  · have hlri : ¬ (lf : Int) < (rt : Int) := by omega
    go_wp2_with (first
      | (go_at_call 235; have K := HI.out w5 (m + 1) B lm2 dk4 (by omega) HR4.out (by omega) HQ4.out.bk (by rw [HQ4.out.size, ← HN.out]; exact hsz) (nodup_perm HQ4.out.perm HQ4.out.bd ND.out) (below_right HGE4.out) (by omega); rw [show dk4.size = n from HQ4.out.size.trans HN.out.symm, ← HM1.out] at K; (with_reducible refine K.mono ?_); clear K; rintro r w6 ⟨rfl, dk5, hr5, hp5, hs5⟩; have HR5 := Lib.hid hr5; have HQ5 := Lib.hid (HQ4.out.right hm1 hm2 HLT4.out HGE4.out hp5 hs5); clear hr5 hp5 hs5))
    exact HK.out _ _ _ _ _ _ _ _ _ _ _ _ _ _ _ _ _ _ _ _ _ _ _ _ _ _ _ _ _ _ _ _ _ _ _ _ _ _ _ _ _ _ _ _ _ A m _ _ dk5 w6 (by omega) (by omega) HR5.out HQ5.out

end Go.Proofs.YtildjdhoeilcfaaGreat

namespace Go.Proofs.YtildjdhoeilcfaaGreat
open Go.RowKit Go.Maps

set_option maxRecDepth 1000000 in
set_option maxHeartbeats 8000000 in
theorem pdq_any (w0 : World) (blk cap : Nat) : ∀ (N : Nat) (w : World) (a b lim : Nat) (d : Array Nat), b - a < N → RowAt w0 blk cap w d → a ≤ b → b ≤ d.size → d.size ≤ 100000 → d.toList.Nodup → Sort.Below ltN a b d → lim ≤ 1000 →
    Calls Tryz.prog 235 #[.slice (some ⟨blk, 0, none⟩) d.size cap, .int .i64 (a : Int), .int .i64 (b : Int), .int .i64 (lim : Int)] w fun r w' => PdqR w0 blk cap d a b r w'
  | 0, _, _, _, _, _, hN, _, _, _, _, _, _, _ => absurd hN (Nat.not_lt_zero _)
  | N + 1, w, a, b, lim, d, hN, h, hab, hb, hsz, nd, hbl, hlim => by
    have IH := Lib.hid (pdq_any w0 blk cap N)
    obtain ⟨n, hn⟩ : ∃ n, n = d.size := ⟨_, rfl⟩
    have HN := Lib.hid hn
    have HQ0 := Lib.hid (QInv.start hab hb hbl)
    rw [← hn] at hb hsz ⊢
    have HR0 := Lib.hid h
    have ND := Lib.hid nd
    have hn5 : (n : Int) ≤ 100000 := by omega
    clear h hn hbl nd
    go_enter Tryz.func235, Tryz.ntmps235
    go_wp2
    go_loopg [1, 2, 3, 8, 9] (b - a) (fun g av bv lv v8 v9 wr => ∃ (A B lim : Nat) (dk : Array Nat) (wb wp : Bool), av = .int .i64 (A : Int) ∧ bv = .int .i64 (B : Int) ∧ lv = .int .i64 (lim : Int) ∧ v8 = .bool wb ∧ v9 = .bool wp ∧ B ≤ g + A ∧ lim ≤ 1000 ∧ RowAt w0 blk cap wr dk ∧ Hid (QInv a b A B d dk))
    case atStart => exact ⟨a, b, lim, d, true, true, rfl, rfl, rfl, rfl, rfl, by omega, hlim, HR0.out, HQ0⟩
    case round =>
      obtain ⟨A, B, lm, dk, wb, wpb, rfl, rfl, rfl, rfl, rfl, hg, hlm, hrow, HQ⟩ := hrel
      have HR := Lib.hid hrow
      clear hrow
      have hAB := HQ.out.AB
      have hBn : B ≤ n := by have := HQ.out.bk; rw [HQ.out.size, ← HN.out] at this; exact this
      have hBA : B - A ≤ b - a := by have := HQ.out.aA; have := HQ.out.Bb; omega
      have hA5 : (A : Int) ≤ 100000 := by omega
      have hB5 : (B : Int) ≤ 100000 := by omega
      obtain ⟨l, hl⟩ : ∃ l : Nat, (B : Int) - (A : Int) = (l : Int) := ⟨B - A, by omega⟩
      have hl5 : (l : Int) ≤ 100000 := by omega
      go_upto_region 2 with fail
      rename ∀ (a : Act) (w : World), Code.wp _ _ _ a w → _ => hK0
      have HK0 := Lib.hid hK0
      clear hK0
      go_wp2
      refine HK0.out _ _ ?_
      clear HK0
      refine wp_seq_k fun K1 hK1 => ?_
      refine pdq1_any w0 wr blk cap a b A B n l d dk HR.out HQ.out HN.out hsz hl _ _ _ _ _ _ _ _ _ _ _ _ _ _ _ _ _ _ _ _ _ _ _ _ _ _ _ _ _ _ _ _ _ _ _ _ _ _ _ _ _ _ _ _ _ _ _ _ _ _ _ _ _ _ _ _ _ _ _ _ _ _ _ _ _ _ _ _ _ _ _ _ _ _ _ _ _ _ _ _ _ _ _ _ _ _ _ _ _ _ _ _ _ _ _ _ _ _ _ _ _ _ _ _ _ _ _ _ _ _ _ _ _ _ _ _ _ _ _ _ _ _ _ _ _ _ _ _ _ _ _ _ ?hr (fun x22 x23 x24 x25 x26 x27 h12 => hK1 _ _ ?_)
      case hr =>
        intro tm w5 h5
        (try simp only [Exit.inBlock, Exit.then])
        exact bodyPost_ret (results_none rfl _ _ _) rfl h5
      clear hK1
      refine wp_seq_k fun K2 hK2 => ?_
      refine pdq2_any w0 wr blk cap a b A B n l d dk HR.out HQ.out HN.out hsz hl lm h12 _ _ _ _ _ _ _ _ _ _ _ _ _ _ _ _ _ _ _ _ _ _ _ _ _ _ _ _ _ _ _ _ _ _ _ _ _ _ _ _ _ _ _ _ _ _ _ _ _ _ _ _ _ _ _ _ _ _ _ _ _ _ _ _ _ _ _ _ _ _ _ _ _ _ _ _ _ _ _ _ _ _ _ _ _ _ _ _ _ _ _ _ _ _ _ _ _ _ _ _ _ _ _ _ _ _ _ _ _ _ _ _ _ _ _ _ _ _ _ _ _ _ _ _ _ _ _ _ _ _ _ _ ?hr (fun x28 x29 x30 x31 x32 x33 hl0 => hK2 _ _ ?_)
      case hr =>
        intro tm w5 h5
        (try simp only [Exit.inBlock, Exit.then])
        exact bodyPost_ret (results_none rfl _ _ _) rfl h5
      clear hK2
      refine wp_seq_k fun K3 hK3 => ?_
      refine pdq3_any w0 wr blk cap a b A B n l d dk HR.out HQ.out HN.out hsz hl lm wb h12 hl0 hlm _ _ _ _ _ _ _ _ _ _ _ _ _ _ _ _ _ _ _ _ _ _ _ _ _ _ _ _ _ _ _ _ _ _ _ _ _ _ _ _ _ _ _ _ _ _ _ _ _ _ _ _ _ _ _ _ _ _ _ _ _ _ _ _ _ _ _ _ _ _ _ _ _ _ _ _ _ _ _ _ _ _ _ _ _ _ _ _ _ _ _ _ _ _ _ _ _ _ _ _ _ _ _ _ _ _ _ _ _ _ _ _ _ _ _ _ _ _ _ _ _ _ _ _ _ _ _ _ _ _ _ (fun x34 x35 x36 x37 x38 x39 x40 x41 lm2 dk1 w1 hlm2 hr1 hq1 => hK3 _ _ ?_)
      clear hK3 HQ HR
      have HR1 := Lib.hid hr1
      have HQ1 := Lib.hid hq1
      clear hr1 hq1
      refine wp_seq_k fun K4 hK4 => ?_
      refine pdq4_any w0 w1 blk cap a b A B n l d dk1 HR1.out HQ1.out HN.out hsz hl h12 _ _ _ _ _ _ _ _ _ _ _ _ _ _ _ _ _ _ _ _ _ _ _ _ _ _ _ _ _ _ _ _ _ _ _ _ _ _ _ _ _ _ _ _ _ _ _ _ _ _ _ _ _ _ _ _ _ _ _ _ _ _ _ _ _ _ _ _ _ _ _ _ _ _ _ _ _ _ _ _ _ _ _ _ _ _ _ _ _ _ _ _ _ _ _ _ _ _ _ _ _ _ _ _ _ _ _ _ _ _ _ _ _ _ _ _ _ _ _ _ _ _ _ _ _ _ _ _ _ _ _ _ _ (fun x42 x43 x44 x45 x46 x47 x48 p t w2 hpa hpb ht hr2 => hK4 _ _ ?_)
      clear hK4 HR1
      have HR2 := Lib.hid hr2
      clear hr2
      refine wp_seq_k fun K5 hK5 => ?_
      refine pdq5_any w0 w2 blk cap a b A B n l d dk1 HR2.out HQ1.out HN.out hsz hl p t h12 hpa hpb ht _ _ _ _ _ _ _ _ _ _ _ _ _ _ _ _ _ _ _ _ _ _ _ _ _ _ _ _ _ _ _ _ _ _ _ _ _ _ _ _ _ _ _ _ _ _ _ _ _ _ _ _ _ _ _ _ _ _ _ _ _ _ _ _ _ _ _ _ _ _ _ _ _ _ _ _ _ _ _ _ _ _ _ _ _ _ _ _ _ _ _ _ _ _ _ _ _ _ _ _ _ _ _ _ _ _ _ _ _ _ _ _ _ _ _ _ _ _ _ _ _ _ _ _ _ _ _ _ _ _ _ (fun x49 x50 x51 x52 x53 x54 x55 x56 x57 x58 x59 x60 pv t2 dk2 w3 hpv1 hpv2 ht2 hr3 hq3 => hK5 _ _ ?_)
      clear hK5 HR2 HQ1 hpa hpb ht
      have HR3 := Lib.hid hr3
      have HQ3 := Lib.hid hq3
      clear hr3 hq3
      refine wp_seq_k fun K6 hK6 => ?_
      refine pdq6_any w0 w3 blk cap a b A B n l d dk2 HR3.out HQ3.out HN.out hsz hl t2 wb wpb h12 _ _ _ _ _ _ _ _ _ _ _ _ _ _ _ _ _ _ _ _ _ _ _ _ _ _ _ _ _ _ _ _ _ _ _ _ _ _ _ _ _ _ _ _ _ _ _ _ _ _ _ _ _ _ _ _ _ _ _ _ _ _ _ _ _ _ _ _ _ _ _ _ _ _ _ _ _ _ _ _ _ _ _ _ _ _ _ _ _ _ _ _ _ _ _ _ _ _ _ _ _ _ _ _ _ _ _ _ _ _ _ _ _ _ _ _ _ _ _ _ _ _ _ _ _ _ _ _ _ _ ?hr (fun x61 x62 x63 x64 x65 x66 x67 x68 x69 x70 x71 x72 dk3 w4 hr4 hq4 => hK6 _ _ ?_)
      case hr =>
        intro tm w5 h5
        (try simp only [Exit.inBlock, Exit.then])
        exact bodyPost_ret (results_none rfl _ _ _) rfl h5
      clear hK6 HR3 HQ3
      have HR4 := Lib.hid hr4
      have HQ4 := Lib.hid hq4
      clear hr4 hq4
      refine wp_seq_k fun K7 hK7 => ?_
      refine pdq7_any w0 w4 blk cap a b A B n l d dk3 HR4.out HQ4.out HN.out hsz hl pv hpv1 hpv2 ND.out _ _ _ _ _ _ _ _ _ _ _ _ _ _ _ _ _ _ _ _ _ _ _ _ _ _ _ _ _ _ _ _ _ _ _ _ _ _ _ _ _ _ _ _ _ _ _ _ _ _ _ _ _ _ _ _ _ _ _ _ _ _ _ _ _ _ _ _ _ _ _ _ _ _ _ _ _ _ _ _ _ _ _ _ _ _ _ _ _ _ _ _ _ _ _ _ _ _ _ _ _ _ _ _ _ _ _ _ _ _ _ _ _ _ _ _ _ _ _ _ _ _ _ _ _ _ _ _ _ _ _ _ (fun x13 x73 x74 x75 x76 x77 x78 x79 x80 x81 x82 x83 x84 x85 x86 x87 x88 x89 x90 x91 x92 x93 w5 hr5 => hK7 _ _ ?_)
      clear hK7 HR4
      have HR5 := Lib.hid hr5
      clear hr5
      refine pdq8_any w0 w5 blk cap a b A B n l d dk3 HR5.out HQ4.out HN.out hsz hl lm2 pv N hpv1 hpv2 ND.out h12 hlm2 (by omega) IH.out _ _ _ _ _ _ _ _ _ _ _ _ _ _ _ _ _ _ _ _ _ _ _ _ _ _ _ _ _ _ _ _ _ _ _ _ _ _ _ _ _ _ _ _ _ _ _ _ _ _ _ _ _ _ _ _ _ _ _ _ _ _ _ _ _ _ _ _ _ _ _ _ _ _ _ _ _ _ _ _ _ _ _ _ _ _ _ _ _ _ _ _ _ _ _ _ _ _ _ _ _ _ _ _ _ _ _ _ _ _ _ _ _ _ _ _ _ _ _ _ _ _ _ _ _ _ _ _ (fun _ _ => True) _ (fun x14 x15 x16 x17 x18 x94 x95 x96 x97 x98 x99 x100 x101 x102 x103 x104 x105 x106 x107 x108 x109 x110 x111 x112 x113 x114 x115 x116 x117 x118 x119 x120 x121 x122 x123 x124 x125 x126 x127 x128 x129 x130 x131 x132 x133 A' B' wb' wp' dk6 w6 hlt hle hr6 hq6 => ?_)
      have HR6 := Lib.hid hr6
      have HQ6 := Lib.hid hq6
      clear hr6 hq6
      (try simp only [Exit.inBlock, Exit.then])
      go_wp2
      go_roundg (B' - A')
      case rel => exact ⟨A', B', lm2, dk6, wb', wp', rfl, rfl, rfl, rfl, rfl, by omega, hlm2, HR6.out, HQ6⟩
      case measure => omega

end Go.Proofs.YtildjdhoeilcfaaGreat

namespace Go.Proofs.YtildjdhoeilcfaaGreat
open Go.RowKit Go.Maps

set_option maxHeartbeats 1000000 in
theorem sort_many : SortOk 100000 := by
  intro w base n v ss L hown hperm hr hpos hn
  rcases id hown.2 with ⟨rfl, h0⟩ | ⟨blk, cap, cur, rfl, _⟩
  · omega
  · obtain ⟨hrow, hl, hnc, hcm, hbb⟩ := rowAt_own hown
    have hsz : ss.toArray.size = n := by simpa using hl
    have hn2 : (n : Int) ≤ 100000 := by omega
    have H := Lib.hid hrow
    have HND := Lib.hid (show ss.toArray.toList.Nodup by simpa using hperm.nodup_iff.2 (srt_nodup hr))
    have HF := Lib.hid (fun (dk : Array Nat) (h1 : Sort.PermIn 0 n ss.toArray dk) (h2 : Sort.SortedIn ltN 0 n dk) => sorted_is (L := L) (d := ss.toArray) (d' := dk) (by rw [hsz]; exact h1) (by rw [hsz]; exact h2) (by simpa using hperm) hr)
    have h62 := blen_62 hpos hn
    clear hown hperm hrow
    go_enter Tryz.func194, Tryz.ntmps194
    go_wp2_with (first
      | (go_at_call 236; refine (len_any n (by omega) w).mono ?_; rintro r w1 ⟨rfl, rfl⟩)
      | (go_at_call 235; have K := pdq_any w blk cap (n + 1) w 0 n (Lib.bitLen n) ss.toArray (by omega) H.out (Nat.zero_le _) (by omega) (by omega) HND.out (.inl rfl) (by omega); rw [hsz] at K; refine K.mono ?_; clear K; rintro r w1 ⟨rfl, dk, hr1, hp1, hs1⟩; have HR := Lib.hid hr1; have HE := Lib.hid (HF.out dk hp1 hs1); have HP := Lib.hid hp1.1; clear hr1 hp1 hs1))
    go_end0
    have h := own_rowAt (n := n) HR.out hbb (HP.out.trans hsz) hcm
    rw [HE.out] at h
    exact ⟨rfl, h, HR.out.gr⟩

end Go.Proofs.YtildjdhoeilcfaaGreat

namespace Go.Proofs.YtildjdhoeilcfaaGreat
open Go.RowKit

theorem infoPairs : (Tryz.prog.info? 117).map (fun i => (i.zero, i.size, i.bytes)) = some (some (.slice none 0 0), 1, 24) := by kernel_rfl
def partF (ps : List Pr) (M k : Nat) : List Pr := (ps.drop (k * M)).take M
/-- Rows of pairs, one cell each, in memory from 'base' on. -/
structure RowsAt (base : Nat) (w : World) (v : Value) (m : Nat) (f : Nat → List Pr) (vals : List Value) (q : Nat) : Prop where
  val : v = .slice (some ⟨q, 0, none⟩) m m
  row : w.ownsRow base 117 1 v m vals
  each : ∀ j, j < m → ∃ u, vals[j]? = some u ∧ PrSq (fun b => base < b) w u (f j)
theorem RowsAt.grown {base : Nat} {w w' : World} {v : Value} {m : Nat} {f : Nat → List Pr} {vals : List Value} {q : Nat} (h : RowsAt base w v m f vals q) (k : w.grownBy w' none) : RowsAt base w' v m f vals q :=
  ⟨h.val, World.ownsRow.kept h.row k (by cases v.ownBlock <;> simp), fun j hj => by obtain ⟨u, h1, h2⟩ := h.each j hj; exact ⟨u, h1, h2.grown k⟩⟩
theorem PrSq.post {R : Nat → Prop} {w : World} {ao : Option Addr} {n c k : Nat} {ps : List Pr} (h : PrSq R w (.slice ao n c) ps) (hk : k ≤ n) : PrSq R w (.slice (if c = k then ao else ao.map (·.add (k * 2))) (n - k) (c - k)) (ps.drop k) := by
  obtain ⟨ao', c', hv, h1, h2, h3, hn, h4⟩ := h
  cases hv
  have hl : (ps.drop k).length = ps.length - k := List.length_drop
  refine ⟨_, _, by rw [hl], by omega, by omega, fun p hp => h3 p (List.mem_of_mem_drop hp), fun e => ?_, fun hne => ?_⟩
  · by_cases e2 : c = k
    · omega
    · rw [if_neg e2] at e
      have : ao = none := by simpa using e
      have := hn this
      omega
  · have hp : 0 < (ps.drop k).length := List.length_pos_iff.2 hne
    obtain ⟨b, o, rfl, hb, hc⟩ := h4 (by rintro rfl; simp at hne)
    rw [if_neg (by omega)]
    refine ⟨b, o + k * 2, by simp [Addr.add], hb, fun j p hjp => ?_⟩
    rw [List.getElem?_drop] at hjp
    obtain ⟨k1, k2⟩ := hc (k + j) p hjp
    rw [show o + k * 2 + j * 2 = o + (k + j) * 2 by omega]
    exact ⟨k1, k2⟩
theorem PrSq.head {R : Nat → Prop} {w : World} {ao : Option Addr} {n c k : Nat} {ps : List Pr} (h : PrSq R w (.slice ao n c) ps) (hk : k ≤ n) : PrSq R w (.slice ao k k) (ps.take k) := by
  obtain ⟨ao', c', hv, h1, h2, h3, hn, h4⟩ := h
  cases hv
  have hl : (ps.take k).length = k := by rw [List.length_take]; omega
  refine ⟨_, _, by rw [hl], by omega, by omega, fun p hp => h3 p (List.mem_of_mem_take hp), fun e => ?_, fun hne => ?_⟩
  · have := hn e; omega
  · obtain ⟨b, o, rfl, hb, hc⟩ := h4 (by rintro rfl; simp at hne)
    refine ⟨b, o, rfl, hb, fun j p hjp => hc j p ?_⟩
    rw [List.getElem?_take] at hjp
    split at hjp
    · exact hjp
    · cases hjp

def SprNo (e : Int) (w w' : World) (r : Ending) : Prop := r = .returned (.tuple #[.slice none 0 0, .int .i64 e]) ∧ w.grownBy w' none
def SprYes (ps : List Pr) (M m : Nat) (w w' : World) (r : Ending) : Prop := ∃ v vals q, r = .returned (.tuple #[v, .int .i64 0]) ∧ RowsAt w.heap.size w' v m (partF ps M) vals q ∧ w.grownBy w' none

set_option maxHeartbeats 1000000 in
theorem spread_arg (w : World) (ao : Option Addr) (n c : Nat) (p S : Int) (h : ¬ ((512 ≤ S ∧ S ≤ 4096) ∧ 0 ≤ p ∧ p ≤ 65536)) :
    Calls Tryz.prog 191 #[.slice ao n c, .int .i64 p, .int .i64 S] w fun r w' => SprNo 1 w w' r := by
  by_cases hs : 512 ≤ S ∧ S ≤ 4096
  · by_cases h0 : 0 ≤ p
    · have d0 : ¬ p < 0 := by omega
      have d1 : 65536 < p := by
        rcases Int.lt_or_le 65536 p with k | k
        · exact k
        · exact absurd ⟨hs, h0, k⟩ h
      obtain ⟨h1, h2⟩ := hs
      clear h
      go_enter Tryz.func191, Tryz.ntmps191
      go_wp2_with (go_at_call 65; refine (lsize_yes _ _ h1 h2).mono ?_; rintro r w1 ⟨rfl, rfl⟩)
      go_ret2
      exact ⟨rfl, grefl _ _⟩
    · have d0 : p < 0 := by omega
      obtain ⟨h1, h2⟩ := hs
      clear h
      go_enter Tryz.func191, Tryz.ntmps191
      go_wp2_with (go_at_call 65; refine (lsize_yes _ _ h1 h2).mono ?_; rintro r w1 ⟨rfl, rfl⟩)
      go_ret2
      exact ⟨rfl, grefl _ _⟩
  · clear h
    go_enter Tryz.func191, Tryz.ntmps191
    go_wp2_with (go_at_call 65; refine (lsize_no _ _ hs).mono ?_; rintro r w1 ⟨rfl, rfl⟩)
    go_ret2
    exact ⟨rfl, grefl _ _⟩

set_option maxHeartbeats 1000000 in
theorem spread_full (w : World) (ao : Option Addr) (n c : Nat) (p S : Int) (hn9 : n ≤ 9223372036854775807) (h1 : 512 ≤ S) (h2 : S ≤ 4096) (h3 : 0 ≤ p) (h4 : p ≤ 65536) (hlt : p < manyF (n : Int) S) :
    Calls Tryz.prog 191 #[.slice ao n c, .int .i64 p, .int .i64 S] w fun r w' => SprNo 21 w w' r := by
  have d0 : ¬ p < 0 := by omega
  have d1 : ¬ 65536 < p := by omega
  obtain ⟨m, hm⟩ : ∃ m, m = manyF (n : Int) S := ⟨_, rfl⟩
  rw [← hm] at hlt
  have HM := Lib.hid hm
  have hn9i : (n : Int) ≤ 9223372036854775807 := by omega
  clear hm
  go_enter Tryz.func191, Tryz.ntmps191
  go_wp2_with (first
    | (go_at_call 65; refine (lsize_yes _ _ h1 h2).mono ?_; rintro r w1 ⟨rfl, rfl⟩)
    | (go_at_call 188; refine (zmany_any _ _ _ hn9i).mono ?_; rw [← HM.out]; rintro r w1 ⟨rfl, rfl⟩))
  go_ret2
  exact ⟨rfl, grefl _ _⟩

/-- A round of Spread. -/
theorem spr_step {w wr : World} {m M k L C E : Nat} {ra : Option Addr} {vals : List Value} {ps : List Pr}
    (hsq : PrSq (fun b => w.heap.size < b) wr (.slice ra L C) (ps.drop (k * M))) (hrow : wr.ownsRow w.heap.size 117 1 (.slice (some ⟨w.heap.size, 0, none⟩) m m) m vals)
    (hdone : ∀ j, j < k → ∃ u, vals[j]? = some u ∧ PrSq (fun b => w.heap.size < b) wr u (partF ps M j)) (hleft : ∀ j, k ≤ j → j < m → vals[j]? = some (.slice none 0 0)) (hg : w.grownBy wr none) (hk : k < m) (hE : E ≤ L)
    (hA : partF ps M k = (ps.drop (k * M)).take E) (hB : ps.drop ((k + 1) * M) = (ps.drop (k * M)).drop E) :
    PrSq (fun b => w.heap.size < b) (wr.setCell ⟨w.heap.size, k, none⟩ (.slice ra E E)).drew (.slice (if C = E then ra else Option.map (fun x => x.add (E * 2)) ra) (L - E) (C - E)) (ps.drop ((k + 1) * M)) ∧
    (wr.setCell ⟨w.heap.size, k, none⟩ (.slice ra E E)).drew.ownsRow w.heap.size 117 1 (.slice (some ⟨w.heap.size, 0, none⟩) m m) m (vals.set k (.slice ra E E)) ∧
    (∀ j, j < k + 1 → ∃ u, (vals.set k (.slice ra E E))[j]? = some u ∧ PrSq (fun b => w.heap.size < b) (wr.setCell ⟨w.heap.size, k, none⟩ (.slice ra E E)).drew u (partF ps M j)) ∧
    (∀ j, k + 1 ≤ j → j < m → (vals.set k (.slice ra E E))[j]? = some (.slice none 0 0)) ∧ w.grownBy (wr.setCell ⟨w.heap.size, k, none⟩ (.slice ra E E)).drew none := by
  have kp : ∀ b, w.heap.size < b → b < wr.heap.size → (wr.setCell ⟨w.heap.size, k, none⟩ (.slice ra E E)).drew.heap[b]? = wr.heap[b]? := fun b hb _ => Below.heap_setCell _ _ _ _ (by simp; omega)
  have hkl : k < vals.length := by
    have := hleft k (Nat.le_refl _) hk
    exact (List.getElem?_eq_some_iff.1 this).1
  refine ⟨?_, ?_, fun j hj => ?_, fun j hj hjm => ?_, ?_⟩
  · rw [hB]; exact (hsq.post hE).kept kp
  · exact World.ownsRow.kept (World.ownsRow.stored hrow k (.slice ra E E)).1 (gdrew _) (.inr (by simp [Value.ownBlock]))
  · by_cases e : j = k
    · subst e
      refine ⟨.slice ra E E, by simp [hkl], ?_⟩
      rw [hA]; exact (hsq.head hE).kept kp
    · obtain ⟨u, h1, h2⟩ := hdone j (by omega)
      exact ⟨u, by rw [List.getElem?_set_ne (Ne.symm e)]; exact h1, h2.kept kp⟩
  · rw [List.getElem?_set_ne (by omega)]; exact hleft j (by omega) hjm
  · exact gtrans (gnew hg (gset wr ⟨w.heap.size, k, none⟩ _) (Nat.le_refl _)) (gdrew _)

set_option maxRecDepth 30000 in
set_option maxHeartbeats 4000000 in
theorem spread_ok (w : World) (R : Nat → Prop) (ao : Option Addr) (n c : Nat) (ps : List Pr) (p S : Int) (m M : Nat) (hp : p = (m : Int)) (hM : (M : Int) = roomI S) (hs : PrSq R w (.slice ao n c) ps) (hl : ps.length * 16 ≤ 140737488355328) (h1 : 512 ≤ S) (h2 : S ≤ 4096) (h4 : m ≤ 65536) (hge : manyF (n : Int) S ≤ (m : Int)) :
    Calls Tryz.prog 191 #[.slice ao n c, .int .i64 p, .int .i64 S] w fun r w' => SprYes ps M m w w' r := by
  obtain ⟨i0, hi, hz0, hz1, hz2⟩ := info_parts infoPairs
  subst hp
  have hrb := room_bd h1 h2
  rw [← hM] at hrb
  have hn := hs.len.1
  have hn9i : (n : Int) ≤ 9223372036854775807 := by omega
  have d1 : ¬ (65536 : Int) < (m : Int) := by omega
  obtain ⟨y, hy⟩ : ∃ y, y = manyF (n : Int) S := ⟨_, rfl⟩
  rw [← hy] at hge
  have d2 : ¬ (m : Int) < y := by omega
  have HY := Lib.hid hy
  have HM := Lib.hid hM
  have HS := Lib.hid hs.low
  have HL := Lib.hid hl
  have HN := Lib.hid hn
  have hmn : ps.length ≤ 8796093022208 := by omega
  clear hs hl hn hM hy
  go_enter Tryz.func191, Tryz.ntmps191
  go_wp2_with (first
    | (go_at_call 65; refine (lsize_yes _ _ h1 h2).mono ?_; rintro r w1 ⟨rfl, rfl⟩)
    | (go_at_call 188; refine (zmany_any _ _ _ hn9i).mono ?_; rw [← HY.out]; rintro r w1 ⟨rfl, rfl⟩)
    | (at_make; refine wpList_make_full _ rfl _ _ 307 rfl w.heap.size 117 i0 (.slice none 0 0) 1 Tryz.underlying307 hi hz0 hz1 .i64 .i64 _ _ m rfl rfl ?c1 ?c2 ?c3 ?c4 (Nat.le_refl _) ?_; (case c1 => rfl); (case c2 => rfl); (case c3 => rw [hz2]; omega); (case c4 => unfold maxLen; omega); intro wM hown hgM; have HO := Lib.hid hown; have HGM := Lib.hid hgM; clear hown hgM)
    | (go_at_call 233; refine (zclone_any wM _ ao n c ps (HS.out.grown HGM.out) HL.out).mono ?_; rintro r w2 ⟨ca, cc, rfl, ho, hg⟩; have HC := Lib.hid ho; have HG2 := Lib.hid (gtrans HGM.out hg); have HO2 := Lib.hid (World.ownsRow.kept HO.out hg (.inr (by simp [Value.ownBlock]))); have HSZ := Lib.hid ((HO.out.lt w.heap.size rfl).2); clear ho hg))
  go_loopw [9, 35] (fun rest i wr => ∃ (k : Nat) (vals : List Value) (ra : Option Addr) (L C : Nat), k ≤ m ∧ i = .int .i64 (k : Int) ∧ rest = .slice ra L C ∧ Hid (PrSq (fun b => w.heap.size < b) wr (.slice ra L C) (ps.drop (k * M)) ∧ wr.ownsRow w.heap.size 117 1 (.slice (some ⟨w.heap.size, 0, none⟩) m m) m vals ∧ (∀ j, j < k → ∃ u, vals[j]? = some u ∧ PrSq (fun b => w.heap.size < b) wr u (partF ps M j)) ∧ (∀ j, k ≤ j → j < m → vals[j]? = some (.slice none 0 0)) ∧ w.grownBy wr none))
    (fun _ i _ => m - (intOf i).toNat)
  case atStart =>
    refine ⟨0, _, ca, n, cc, Nat.zero_le _, rfl, rfl, Lib.hid ⟨?_, HO2.out, fun j hj => by omega, fun j _ hj => ?_, HG2.out⟩⟩
    · have h := HC.out.sq.imp (S := fun b => w.heap.size < b) (fun b hb _ => Nat.lt_of_lt_of_le HSZ.out hb)
      simpa using h
    · rw [Nat.mul_one, show (Value.slice none 0 0).cells = #[Value.slice none 0 0] from rfl, toList_madeCells_one]
      simp [hj]
  case round =>
    obtain ⟨k, vals, ra, L, C, hk, rfl, rfl, HH⟩ := hrel
    obtain ⟨hsq, hrow, hdone, hleft, hg⟩ := HH.out
    obtain ⟨hLl, hLC, hC9⟩ := hsq.len
    rw [List.length_drop] at hLl
    have HSQ := Lib.hid hsq
    have HRW := Lib.hid hrow
    have HDN := Lib.hid hdone
    have HLF := Lib.hid hleft
    have HG := Lib.hid hg
    have HLL := Lib.hid hLl
    have hC9' : (C : Int) ≤ 9223372036854775807 := by have h9 : maxLen ≤ 9223372036854775807 := by decide
                                                      omega
    by_cases hlt : k < m
    · have hki : (k : Int) < (m : Int) := by omega
      have hk0 : (0 : Int) ≤ (k : Int) := by omega
      have hv := hleft k (Nat.le_refl _) hlt
      have c0 := World.ownsRow.cells hrow (g := w.heap.size) rfl k _ hv
      rw [Addr.add_lit, Nat.zero_add] at c0
      have f0 := World.ownsRow.frozenAt hrow k
      by_cases hLM : L < M
      · have hi1 : (L : Int) < (M : Int) := by omega
        have hi2 : (L : Int) ≤ (C : Int) := by omega
        have HA := Lib.hid (show partF ps M k = (ps.drop (k * M)).take L by unfold partF; rw [List.take_of_length_le (by rw [List.length_drop]; omega), List.take_of_length_le (by rw [List.length_drop]; omega)])
        have HB := Lib.hid (show ps.drop ((k + 1) * M) = (ps.drop (k * M)).drop L by rw [List.drop_drop, List.drop_eq_nil_of_le (by rw [Nat.succ_mul]; omega), List.drop_eq_nil_of_le (by omega)])
        clear hLl hsq hrow hdone hleft hg HH hv
        go_wp2_with (go_at_call 136; refine (zroom_in _ _ h1 h2).mono ?_; rw [← HM.out]; rintro r w1 ⟨rfl, rfl⟩)
        go_region
        all_goals
          go_wp2
          go_roundw
          case rel => exact ⟨k + 1, vals.set k (.slice ra L L), _, _, _, by omega, by go_num, rfl, Lib.hid (by have h := spr_step HSQ.out HRW.out HDN.out HLF.out HG.out hlt (Nat.le_refl L) HA.out HB.out; rw [Nat.sub_self] at h; exact h)⟩
          case measure => simp [intOf]; omega
      · have hi1 : ¬ (L : Int) < (M : Int) := by omega
        have hi2 : (M : Int) ≤ (C : Int) := by omega
        have hi3 : (M : Int) ≤ (L : Int) := by omega
        have hML : M ≤ L := by omega
        have HA := Lib.hid (show partF ps M k = (ps.drop (k * M)).take M from rfl)
        have HB := Lib.hid (show ps.drop ((k + 1) * M) = (ps.drop (k * M)).drop M by rw [List.drop_drop, Nat.succ_mul])
        clear hLl hsq hrow hdone hleft hg HH hv
        go_wp2_with (go_at_call 136; refine (zroom_in _ _ h1 h2).mono ?_; rw [← HM.out]; rintro r w1 ⟨rfl, rfl⟩)
        go_region
        all_goals
          go_wp2
          go_roundw
          case rel => exact ⟨k + 1, vals.set k (.slice ra M M), _, _, _, by omega, by go_num, rfl, Lib.hid (spr_step HSQ.out HRW.out HDN.out HLF.out HG.out hlt hML HA.out HB.out)⟩
          case measure => simp [intOf]; omega
    · have hki : ¬ (k : Int) < (m : Int) := by omega
      go_wp2
      go_ret2
      obtain rfl : k = m := by omega
      exact ⟨_, vals, w.heap.size, rfl, ⟨rfl, HRW.out, HDN.out⟩, HG.out⟩

end Go.Proofs.YtildjdhoeilcfaaGreat

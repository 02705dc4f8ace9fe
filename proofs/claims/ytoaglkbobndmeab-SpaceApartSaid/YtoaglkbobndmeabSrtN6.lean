/-
  slices.pdqsortOrdered at pages: what rises nearly. Own work; printed by tools/sort/mkpdq2.py.
-/
import Derived.Test.YtoaglkbobndmeabSrtM
namespace Go.Proofs.Ytoaglkbobndmeab
open Go.RowKit Go.Maps

set_option maxRecDepth 1000000 in
set_option maxHeartbeats 8000000 in
theorem pdq6_any (w0 w : World) (blk cap a b A B n l : Nat) (d dk : Array Nat) (h : RowAt w0 blk cap w dk) (hq : QInv a b A B d dk) (hn : n = d.size) (hsz : n ≤ 100000) (hl : (B : Int) - (A : Int) = (l : Int)) (t2 : Nat) (wb wp : Bool) (h12 : ¬ l ≤ 12)
    (u61 u62 u63 u64 u65 u66 u67 u68 u69 u70 u71 u72 v3 v4 v5 v6 v7 v10 v11 v13 v14 v15 v16 v17 v18 v19 v20 v21 v22 v23 v24 v25 v26 v27 v28 v29 v30 v31 v32 v33 v34 v35 v36 v37 v38 v39 v40 v41 v42 v43 v44 v45 v46 v47 v48 v49 v50 v51 v52 v53 v54 v55 v56 v57 v58 v59 v60 v73 v74 v75 v76 v77 v78 v79 v80 v81 v82 v83 v84 v85 v86 v87 v88 v89 v90 v91 v92 v93 v94 v95 v96 v97 v98 v99 v100 v101 v102 v103 v104 v105 v106 v107 v108 v109 v110 v111 v112 v113 v114 v115 v116 v117 v118 v119 v120 v121 v122 v123 v124 v125 v126 v127 v128 v129 v130 v131 v132 v133 : Value) (Kc : Act → World → Prop) (Qc : Exit → Act → World → Prop)
    (hR : ∀ (tm : Array Value) (w5 : World), PdqR w0 blk cap d a b (.returned (.tuple #[])) w5 → Qc .ret ⟨tm, []⟩ w5)
    (hK : ∀ (x61 x62 x63 x64 x65 x66 x67 x68 x69 x70 x71 x72 : Value) (dk3 : Array Nat) (w5 : World), RowAt w0 blk cap w5 dk3 → QInv a b A B d dk3 → Kc ⟨#[.slice (some ⟨blk, 0, none⟩) n cap, .int .i64 (A : Int), .int .i64 (B : Int), v3, v4, v5, v6, v7, .bool wb, .bool wp, v10, v11, .int .i64 (t2 : Int), v13, v14, v15, v16, v17, v18, v19, v20, v21, v22, v23, v24, v25, v26, v27, v28, v29, v30, v31, v32, v33, v34, v35, v36, v37, v38, v39, v40, v41, v42, v43, v44, v45, v46, v47, v48, v49, v50, v51, v52, v53, v54, v55, v56, v57, v58, v59, v60, x61, x62, x63, x64, x65, x66, x67, x68, x69, x70, x71, x72, v73, v74, v75, v76, v77, v78, v79, v80, v81, v82, v83, v84, v85, v86, v87, v88, v89, v90, v91, v92, v93, v94, v95, v96, v97, v98, v99, v100, v101, v102, v103, v104, v105, v106, v107, v108, v109, v110, v111, v112, v113, v114, v115, v116, v117, v118, v119, v120, v121, v122, v123, v124, v125, v126, v127, v128, v129, v130, v131, v132, v133], []⟩ w5) :
    Code.wp Try.prog pdqS6 (Exit.then Kc Qc) ⟨#[.slice (some ⟨blk, 0, none⟩) n cap, .int .i64 (A : Int), .int .i64 (B : Int), v3, v4, v5, v6, v7, .bool wb, .bool wp, v10, v11, .int .i64 (t2 : Int), v13, v14, v15, v16, v17, v18, v19, v20, v21, v22, v23, v24, v25, v26, v27, v28, v29, v30, v31, v32, v33, v34, v35, v36, v37, v38, v39, v40, v41, v42, v43, v44, v45, v46, v47, v48, v49, v50, v51, v52, v53, v54, v55, v56, v57, v58, v59, v60, u61, u62, u63, u64, u65, u66, u67, u68, u69, u70, u71, u72, v73, v74, v75, v76, v77, v78, v79, v80, v81, v82, v83, v84, v85, v86, v87, v88, v89, v90, v91, v92, v93, v94, v95, v96, v97, v98, v99, v100, v101, v102, v103, v104, v105, v106, v107, v108, v109, v110, v111, v112, v113, v114, v115, v116, v117, v118, v119, v120, v121, v122, v123, v124, v125, v126, v127, v128, v129, v130, v131, v132, v133], []⟩ w := by
  conv => arg 2; whnf
  have HK := Lib.hid hK
  have HX := Lib.hid hR
  have HR := Lib.hid h
  have HQ := Lib.hid hq
  have HN := Lib.hid hn
  have hAB := hq.AB
  have hBn : B ≤ n := by have := hq.bk; rw [hq.size, ← hn] at this; exact this
  have hn5 : (n : Int) ≤ 100000 := by omega
  have hA5 : (A : Int) ≤ 100000 := by omega
  have hB5 : (B : Int) ≤ 100000 := by omega
  have hl5 : (l : Int) ≤ 100000 := by omega
  clear hK h hq hn hR
  cases wb with
  | false =>
    go_wp2
    exact HK.out _ _ _ _ _ _ _ _ _ _ _ _ dk w HR.out HQ.out
  | true =>
    cases wp with
    | false =>
      go_wp2
      exact HK.out _ _ _ _ _ _ _ _ _ _ _ _ dk w HR.out HQ.out
    | true =>
      by_cases ht1 : t2 = 1
      · subst ht1
        go_wp2_with fail
        have K := pins_any w0 w blk cap A B dk HR.out HQ.out.bk (by rw [HQ.out.size, ← HN.out]; exact hsz) (by omega)
        rw [show (dk).size = n from HQ.out.size.trans HN.out.symm] at K
        (with_reducible refine K.mono ?_)
        clear K
        rintro r wp2 ⟨pt0, dkp, rfl, hrp, hep⟩
        have HRP := Lib.hid hrp
        have hpp := Sort.partialInsertionSort_holds (lt := ltN) swo_ltN dk A B (by omega) HQ.out.bk HQ.out.below
        rw [hep] at hpp
        cases pt0 with
        | true =>
          have HF := Lib.hid (HQ.out.done hpp.1 (hpp.2 rfl))
          clear hpp hep hrp
          go_wp2
          exact HX.out _ _ ⟨rfl, dkp, HRP.out, HF.out.1, HF.out.2⟩
        | false =>
          have HQP := Lib.hid (HQ.out.turn (show Sort.PermIn A B dk dkp from hpp.1))
          clear hpp hep hrp
          go_wp2
          exact HK.out _ _ _ _ _ _ _ _ _ _ _ _ dkp wp2 HRP.out HQP.out
      · have ht1i : ¬ (t2 : Int) = 1 := by omega
        have ht1b : ((t2 : Int) == 1) = false := by simpa using ht1i
        go_wp2
        exact HK.out _ _ _ _ _ _ _ _ _ _ _ _ dk w HR.out HQ.out

end Go.Proofs.Ytoaglkbobndmeab

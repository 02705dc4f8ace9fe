/-
  slices.pdqsortOrdered at pages: no turn left. Own work; printed by tools/sort/mkpdq2.py.
-/
import Derived.Test.YtoaglkbobndmeabSrtM
namespace Go.Proofs.Ytoaglkbobndmeab
open Go.RowKit Go.Maps

set_option maxRecDepth 1000000 in
set_option maxHeartbeats 8000000 in
theorem pdq2_any (w0 w : World) (blk cap a b A B n l : Nat) (d dk : Array Nat) (h : RowAt w0 blk cap w dk) (hq : QInv a b A B d dk) (hn : n = d.size) (hsz : n ≤ 100000) (hl : (B : Int) - (A : Int) = (l : Int)) (lm : Nat) (h12 : ¬ l ≤ 12)
    (u28 u29 u30 u31 u32 u33 v4 v5 v6 v7 v8 v9 v10 v11 v12 v13 v14 v15 v16 v17 v18 v19 v20 v21 v22 v23 v24 v25 v26 v27 v34 v35 v36 v37 v38 v39 v40 v41 v42 v43 v44 v45 v46 v47 v48 v49 v50 v51 v52 v53 v54 v55 v56 v57 v58 v59 v60 v61 v62 v63 v64 v65 v66 v67 v68 v69 v70 v71 v72 v73 v74 v75 v76 v77 v78 v79 v80 v81 v82 v83 v84 v85 v86 v87 v88 v89 v90 v91 v92 v93 v94 v95 v96 v97 v98 v99 v100 v101 v102 v103 v104 v105 v106 v107 v108 v109 v110 v111 v112 v113 v114 v115 v116 v117 v118 v119 v120 v121 v122 v123 v124 v125 v126 v127 v128 v129 v130 v131 v132 v133 : Value) (Kc : Act → World → Prop) (Qc : Exit → Act → World → Prop)
    (hR : ∀ (tm : Array Value) (w5 : World), PdqR w0 blk cap d a b (.returned (.tuple #[])) w5 → Qc .ret ⟨tm, []⟩ w5)
    (hK : ∀ (x28 x29 x30 x31 x32 x33 : Value), lm ≠ 0 → Kc ⟨#[.slice (some ⟨blk, 0, none⟩) n cap, .int .i64 (A : Int), .int .i64 (B : Int), .int .i64 (lm : Int), v4, v5, v6, v7, v8, v9, v10, v11, v12, v13, v14, v15, v16, v17, v18, v19, v20, v21, v22, v23, v24, v25, v26, v27, x28, x29, x30, x31, x32, x33, v34, v35, v36, v37, v38, v39, v40, v41, v42, v43, v44, v45, v46, v47, v48, v49, v50, v51, v52, v53, v54, v55, v56, v57, v58, v59, v60, v61, v62, v63, v64, v65, v66, v67, v68, v69, v70, v71, v72, v73, v74, v75, v76, v77, v78, v79, v80, v81, v82, v83, v84, v85, v86, v87, v88, v89, v90, v91, v92, v93, v94, v95, v96, v97, v98, v99, v100, v101, v102, v103, v104, v105, v106, v107, v108, v109, v110, v111, v112, v113, v114, v115, v116, v117, v118, v119, v120, v121, v122, v123, v124, v125, v126, v127, v128, v129, v130, v131, v132, v133], []⟩ w) :
    Code.wp Try.prog pdqS2 (Exit.then Kc Qc) ⟨#[.slice (some ⟨blk, 0, none⟩) n cap, .int .i64 (A : Int), .int .i64 (B : Int), .int .i64 (lm : Int), v4, v5, v6, v7, v8, v9, v10, v11, v12, v13, v14, v15, v16, v17, v18, v19, v20, v21, v22, v23, v24, v25, v26, v27, u28, u29, u30, u31, u32, u33, v34, v35, v36, v37, v38, v39, v40, v41, v42, v43, v44, v45, v46, v47, v48, v49, v50, v51, v52, v53, v54, v55, v56, v57, v58, v59, v60, v61, v62, v63, v64, v65, v66, v67, v68, v69, v70, v71, v72, v73, v74, v75, v76, v77, v78, v79, v80, v81, v82, v83, v84, v85, v86, v87, v88, v89, v90, v91, v92, v93, v94, v95, v96, v97, v98, v99, v100, v101, v102, v103, v104, v105, v106, v107, v108, v109, v110, v111, v112, v113, v114, v115, v116, v117, v118, v119, v120, v121, v122, v123, v124, v125, v126, v127, v128, v129, v130, v131, v132, v133], []⟩ w := by
  conv => arg 2; whnf
  have HK := Lib.hid hK
  have HX := Lib.hid hR
  have HR := Lib.hid h
  have HQ := Lib.hid hq
  have HN := Lib.hid hn
  have hAB := hq.AB
  have hBn : B ≤ n := by have := hq.bk; rw [hq.size, ← hn] at this; exact this
  have hn5 : (n : Int) ≤ 100000 := by omega
  have hA5 : (A : Int) ≤ 100000 := by omega
  have hB5 : (B : Int) ≤ 100000 := by omega
  have hl5 : (l : Int) ≤ 100000 := by omega
  clear hK h hq hn hR
  by_cases hl0 : lm = 0
  · subst hl0
    have hh := Sort.heapSort_holds (lt := ltN) swo_ltN dk A B hAB HQ.out.bk
    have HF := Lib.hid (HQ.out.done hh.1 hh.2)
    clear hh
    go_wp2_with (first
      | (go_at_call 43; have K := heap_any w0 w blk cap A B dk HR.out HQ.out.bk (by rw [HQ.out.size, ← HN.out]; exact hsz) (by omega); rw [show (dk).size = n from HQ.out.size.trans HN.out.symm] at K; (with_reducible refine K.mono ?_); clear K; rintro r w1 ⟨rfl, hr⟩; have HRZ := Lib.hid hr; clear hr))
    exact HX.out _ _ ⟨rfl, _, HRZ.out, HF.out.1, HF.out.2⟩
  · have hl0i : ¬ (lm : Int) = 0 := by omega
    go_wp2
    exact HK.out _ _ _ _ _ _ hl0

end Go.Proofs.Ytoaglkbobndmeab

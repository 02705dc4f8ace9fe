/-
  slices.pdqsortOrdered at pages: few pages. Own work; printed by tools/sort/mkpdq2.py.
-/
import Derived.Test.YtoaglkbobndmeabSrtM

namespace Go.Proofs.Ytoaglkbobndmeab
open Go.RowKit Go.Maps

set_option maxRecDepth 1000000 in
set_option maxHeartbeats 8000000 in
theorem pdq1_any (w0 w : World) (blk cap a b A B n l : Nat) (d dk : Array Nat) (h : RowAt w0 blk cap w dk) (hq : QInv a b A B d dk) (hn : n = d.size) (hsz : n ≤ 100000) (hl : (B : Int) - (A : Int) = (l : Int))
    (u22 u23 u24 u25 u26 u27 v3 v4 v5 v6 v7 v8 v9 v11 v12 v13 v14 v15 v16 v17 v18 v19 v20 v21 v28 v29 v30 v31 v32 v33 v34 v35 v36 v37 v38 v39 v40 v41 v42 v43 v44 v45 v46 v47 v48 v49 v50 v51 v52 v53 v54 v55 v56 v57 v58 v59 v60 v61 v62 v63 v64 v65 v66 v67 v68 v69 v70 v71 v72 v73 v74 v75 v76 v77 v78 v79 v80 v81 v82 v83 v84 v85 v86 v87 v88 v89 v90 v91 v92 v93 v94 v95 v96 v97 v98 v99 v100 v101 v102 v103 v104 v105 v106 v107 v108 v109 v110 v111 v112 v113 v114 v115 v116 v117 v118 v119 v120 v121 v122 v123 v124 v125 v126 v127 v128 v129 v130 v131 v132 v133 : Value) (Kc : Act → World → Prop) (Qc : Exit → Act → World → Prop)
    (hR : ∀ (tm : Array Value) (w5 : World), PdqR w0 blk cap d a b (.returned (.tuple #[])) w5 → Qc .ret ⟨tm, []⟩ w5)
    (hK : ∀ (x22 x23 x24 x25 x26 x27 : Value), ¬ l ≤ 12 → Kc ⟨#[.slice (some ⟨blk, 0, none⟩) n cap, .int .i64 (A : Int), .int .i64 (B : Int), v3, v4, v5, v6, v7, v8, v9, .int .i64 (l : Int), v11, v12, v13, v14, v15, v16, v17, v18, v19, v20, v21, x22, x23, x24, x25, x26, x27, v28, v29, v30, v31, v32, v33, v34, v35, v36, v37, v38, v39, v40, v41, v42, v43, v44, v45, v46, v47, v48, v49, v50, v51, v52, v53, v54, v55, v56, v57, v58, v59, v60, v61, v62, v63, v64, v65, v66, v67, v68, v69, v70, v71, v72, v73, v74, v75, v76, v77, v78, v79, v80, v81, v82, v83, v84, v85, v86, v87, v88, v89, v90, v91, v92, v93, v94, v95, v96, v97, v98, v99, v100, v101, v102, v103, v104, v105, v106, v107, v108, v109, v110, v111, v112, v113, v114, v115, v116, v117, v118, v119, v120, v121, v122, v123, v124, v125, v126, v127, v128, v129, v130, v131, v132, v133], []⟩ w) :
    Code.wp Try.prog pdqS1 (Exit.then Kc Qc) ⟨#[.slice (some ⟨blk, 0, none⟩) n cap, .int .i64 (A : Int), .int .i64 (B : Int), v3, v4, v5, v6, v7, v8, v9, .int .i64 (l : Int), v11, v12, v13, v14, v15, v16, v17, v18, v19, v20, v21, u22, u23, u24, u25, u26, u27, v28, v29, v30, v31, v32, v33, v34, v35, v36, v37, v38, v39, v40, v41, v42, v43, v44, v45, v46, v47, v48, v49, v50, v51, v52, v53, v54, v55, v56, v57, v58, v59, v60, v61, v62, v63, v64, v65, v66, v67, v68, v69, v70, v71, v72, v73, v74, v75, v76, v77, v78, v79, v80, v81, v82, v83, v84, v85, v86, v87, v88, v89, v90, v91, v92, v93, v94, v95, v96, v97, v98, v99, v100, v101, v102, v103, v104, v105, v106, v107, v108, v109, v110, v111, v112, v113, v114, v115, v116, v117, v118, v119, v120, v121, v122, v123, v124, v125, v126, v127, v128, v129, v130, v131, v132, v133], []⟩ w := by
  conv => arg 2; whnf
  have HK := Lib.hid hK
  have HX := Lib.hid hR
  have HR := Lib.hid h
  have HQ := Lib.hid hq
  have HN := Lib.hid hn
  have hAB := hq.AB
  have hBn : B ≤ n := by have := hq.bk; rw [hq.size, ← hn] at this; exact this
  have hn5 : (n : Int) ≤ 100000 := by omega
  have hA5 : (A : Int) ≤ 100000 := by omega
  have hB5 : (B : Int) ≤ 100000 := by omega
  have hl5 : (l : Int) ≤ 100000 := by omega
  clear hK h hq hn hR
  by_cases h12 : l ≤ 12
  · have h12i : (l : Int) ≤ 12 := by omega
    have hins := Sort.insertionSort_holds (lt := ltN) swo_ltN dk A B hAB HQ.out.bk
    have HF := Lib.hid (HQ.out.done hins.1 hins.2)
    clear hins
    go_wp2_with (first
      | (go_at_call 42; have K := insertion_any w0 w blk cap A B dk HR.out hAB HQ.out.bk (by rw [HQ.out.size, ← HN.out]; exact hsz); rw [show (dk).size = n from HQ.out.size.trans HN.out.symm] at K; (with_reducible refine K.mono ?_); clear K; rintro r w1 ⟨rfl, hr⟩; have HRZ := Lib.hid hr; clear hr))
    exact HX.out _ _ ⟨rfl, _, HRZ.out, HF.out.1, HF.out.2⟩
  · have h12i : ¬ (l : Int) ≤ 12 := by omega
    go_wp2
    exact HK.out _ _ _ _ _ _ h12

end Go.Proofs.Ytoaglkbobndmeab

namespace Go.Proofs.Ytoaglkbobndmeab
open Go.RowKit Go.Maps

set_option maxRecDepth 1000000 in
set_option maxHeartbeats 8000000 in
theorem pdq2_any (w0 w : World) (blk cap a b A B n l : Nat) (d dk : Array Nat) (h : RowAt w0 blk cap w dk) (hq : QInv a b A B d dk) (hn : n = d.size) (hsz : n ≤ 100000) (hl : (B : Int) - (A : Int) = (l : Int)) (lm : Nat) (h12 : ¬ l ≤ 12)
    (u28 u29 u30 u31 u32 u33 v4 v5 v6 v7 v8 v9 v10 v11 v12 v13 v14 v15 v16 v17 v18 v19 v20 v21 v22 v23 v24 v25 v26 v27 v34 v35 v36 v37 v38 v39 v40 v41 v42 v43 v44 v45 v46 v47 v48 v49 v50 v51 v52 v53 v54 v55 v56 v57 v58 v59 v60 v61 v62 v63 v64 v65 v66 v67 v68 v69 v70 v71 v72 v73 v74 v75 v76 v77 v78 v79 v80 v81 v82 v83 v84 v85 v86 v87 v88 v89 v90 v91 v92 v93 v94 v95 v96 v97 v98 v99 v100 v101 v102 v103 v104 v105 v106 v107 v108 v109 v110 v111 v112 v113 v114 v115 v116 v117 v118 v119 v120 v121 v122 v123 v124 v125 v126 v127 v128 v129 v130 v131 v132 v133 : Value) (Kc : Act → World → Prop) (Qc : Exit → Act → World → Prop)
    (hR : ∀ (tm : Array Value) (w5 : World), PdqR w0 blk cap d a b (.returned (.tuple #[])) w5 → Qc .ret ⟨tm, []⟩ w5)
    (hK : ∀ (x28 x29 x30 x31 x32 x33 : Value), lm ≠ 0 → Kc ⟨#[.slice (some ⟨blk, 0, none⟩) n cap, .int .i64 (A : Int), .int .i64 (B : Int), .int .i64 (lm : Int), v4, v5, v6, v7, v8, v9, v10, v11, v12, v13, v14, v15, v16, v17, v18, v19, v20, v21, v22, v23, v24, v25, v26, v27, x28, x29, x30, x31, x32, x33, v34, v35, v36, v37, v38, v39, v40, v41, v42, v43, v44, v45, v46, v47, v48, v49, v50, v51, v52, v53, v54, v55, v56, v57, v58, v59, v60, v61, v62, v63, v64, v65, v66, v67, v68, v69, v70, v71, v72, v73, v74, v75, v76, v77, v78, v79, v80, v81, v82, v83, v84, v85, v86, v87, v88, v89, v90, v91, v92, v93, v94, v95, v96, v97, v98, v99, v100, v101, v102, v103, v104, v105, v106, v107, v108, v109, v110, v111, v112, v113, v114, v115, v116, v117, v118, v119, v120, v121, v122, v123, v124, v125, v126, v127, v128, v129, v130, v131, v132, v133], []⟩ w) :
    Code.wp Try.prog pdqS2 (Exit.then Kc Qc) ⟨#[.slice (some ⟨blk, 0, none⟩) n cap, .int .i64 (A : Int), .int .i64 (B : Int), .int .i64 (lm : Int), v4, v5, v6, v7, v8, v9, v10, v11, v12, v13, v14, v15, v16, v17, v18, v19, v20, v21, v22, v23, v24, v25, v26, v27, u28, u29, u30, u31, u32, u33, v34, v35, v36, v37, v38, v39, v40, v41, v42, v43, v44, v45, v46, v47, v48, v49, v50, v51, v52, v53, v54, v55, v56, v57, v58, v59, v60, v61, v62, v63, v64, v65, v66, v67, v68, v69, v70, v71, v72, v73, v74, v75, v76, v77, v78, v79, v80, v81, v82, v83, v84, v85, v86, v87, v88, v89, v90, v91, v92, v93, v94, v95, v96, v97, v98, v99, v100, v101, v102, v103, v104, v105, v106, v107, v108, v109, v110, v111, v112, v113, v114, v115, v116, v117, v118, v119, v120, v121, v122, v123, v124, v125, v126, v127, v128, v129, v130, v131, v132, v133], []⟩ w := by
  conv => arg 2; whnf
  have HK := Lib.hid hK
  have HX := Lib.hid hR
  have HR := Lib.hid h
  have HQ := Lib.hid hq
  have HN := Lib.hid hn
  have hAB := hq.AB
  have hBn : B ≤ n := by have := hq.bk; rw [hq.size, ← hn] at this; exact this
  have hn5 : (n : Int) ≤ 100000 := by omega
  have hA5 : (A : Int) ≤ 100000 := by omega
  have hB5 : (B : Int) ≤ 100000 := by omega
  have hl5 : (l : Int) ≤ 100000 := by omega
  clear hK h hq hn hR
  by_cases hl0 : lm = 0
  · subst hl0
    have hh := Sort.heapSort_holds (lt := ltN) swo_ltN dk A B hAB HQ.out.bk
    have HF := Lib.hid (HQ.out.done hh.1 hh.2)
    clear hh
    go_wp2_with (first
      | (go_at_call 43; have K := heap_any w0 w blk cap A B dk HR.out HQ.out.bk (by rw [HQ.out.size, ← HN.out]; exact hsz) (by omega); rw [show (dk).size = n from HQ.out.size.trans HN.out.symm] at K; (with_reducible refine K.mono ?_); clear K; rintro r w1 ⟨rfl, hr⟩; have HRZ := Lib.hid hr; clear hr))
    exact HX.out _ _ ⟨rfl, _, HRZ.out, HF.out.1, HF.out.2⟩
  · have hl0i : ¬ (lm : Int) = 0 := by omega
    go_wp2
    exact HK.out _ _ _ _ _ _ hl0

end Go.Proofs.Ytoaglkbobndmeab

namespace Go.Proofs.Ytoaglkbobndmeab
open Go.RowKit Go.Maps

set_option maxRecDepth 1000000 in
set_option maxHeartbeats 8000000 in
theorem pdq3_any (w0 w : World) (blk cap a b A B n l : Nat) (d dk : Array Nat) (h : RowAt w0 blk cap w dk) (hq : QInv a b A B d dk) (hn : n = d.size) (hsz : n ≤ 100000) (hl : (B : Int) - (A : Int) = (l : Int)) (lm : Nat) (wb : Bool) (h12 : ¬ l ≤ 12) (hl0 : lm ≠ 0) (hlm : lm ≤ 1000)
    (u34 u35 u36 u37 u38 u39 u40 u41 v4 v5 v6 v7 v9 v10 v11 v12 v13 v14 v15 v16 v17 v18 v19 v20 v21 v22 v23 v24 v25 v26 v27 v28 v29 v30 v31 v32 v33 v42 v43 v44 v45 v46 v47 v48 v49 v50 v51 v52 v53 v54 v55 v56 v57 v58 v59 v60 v61 v62 v63 v64 v65 v66 v67 v68 v69 v70 v71 v72 v73 v74 v75 v76 v77 v78 v79 v80 v81 v82 v83 v84 v85 v86 v87 v88 v89 v90 v91 v92 v93 v94 v95 v96 v97 v98 v99 v100 v101 v102 v103 v104 v105 v106 v107 v108 v109 v110 v111 v112 v113 v114 v115 v116 v117 v118 v119 v120 v121 v122 v123 v124 v125 v126 v127 v128 v129 v130 v131 v132 v133 : Value) (Kc : Act → World → Prop) (Qc : Exit → Act → World → Prop)
    (hK : ∀ (x34 x35 x36 x37 x38 x39 x40 x41 : Value) (lm2 : Nat) (dk1 : Array Nat) (w5 : World), lm2 ≤ 1000 → RowAt w0 blk cap w5 dk1 → QInv a b A B d dk1 → Kc ⟨#[.slice (some ⟨blk, 0, none⟩) n cap, .int .i64 (A : Int), .int .i64 (B : Int), .int .i64 (lm2 : Int), v4, v5, v6, v7, .bool wb, v9, v10, v11, v12, v13, v14, v15, v16, v17, v18, v19, v20, v21, v22, v23, v24, v25, v26, v27, v28, v29, v30, v31, v32, v33, x34, x35, x36, x37, x38, x39, x40, x41, v42, v43, v44, v45, v46, v47, v48, v49, v50, v51, v52, v53, v54, v55, v56, v57, v58, v59, v60, v61, v62, v63, v64, v65, v66, v67, v68, v69, v70, v71, v72, v73, v74, v75, v76, v77, v78, v79, v80, v81, v82, v83, v84, v85, v86, v87, v88, v89, v90, v91, v92, v93, v94, v95, v96, v97, v98, v99, v100, v101, v102, v103, v104, v105, v106, v107, v108, v109, v110, v111, v112, v113, v114, v115, v116, v117, v118, v119, v120, v121, v122, v123, v124, v125, v126, v127, v128, v129, v130, v131, v132, v133], []⟩ w5) :
    Code.wp Try.prog pdqS3 (Exit.then Kc Qc) ⟨#[.slice (some ⟨blk, 0, none⟩) n cap, .int .i64 (A : Int), .int .i64 (B : Int), .int .i64 (lm : Int), v4, v5, v6, v7, .bool wb, v9, v10, v11, v12, v13, v14, v15, v16, v17, v18, v19, v20, v21, v22, v23, v24, v25, v26, v27, v28, v29, v30, v31, v32, v33, u34, u35, u36, u37, u38, u39, u40, u41, v42, v43, v44, v45, v46, v47, v48, v49, v50, v51, v52, v53, v54, v55, v56, v57, v58, v59, v60, v61, v62, v63, v64, v65, v66, v67, v68, v69, v70, v71, v72, v73, v74, v75, v76, v77, v78, v79, v80, v81, v82, v83, v84, v85, v86, v87, v88, v89, v90, v91, v92, v93, v94, v95, v96, v97, v98, v99, v100, v101, v102, v103, v104, v105, v106, v107, v108, v109, v110, v111, v112, v113, v114, v115, v116, v117, v118, v119, v120, v121, v122, v123, v124, v125, v126, v127, v128, v129, v130, v131, v132, v133], []⟩ w := by
  conv => arg 2; whnf
  have HK := Lib.hid hK
  have HR := Lib.hid h
  have HQ := Lib.hid hq
  have HN := Lib.hid hn
  have hAB := hq.AB
  have hBn : B ≤ n := by have := hq.bk; rw [hq.size, ← hn] at this; exact this
  have hn5 : (n : Int) ≤ 100000 := by omega
  have hA5 : (A : Int) ≤ 100000 := by omega
  have hB5 : (B : Int) ≤ 100000 := by omega
  have hl5 : (l : Int) ≤ 100000 := by omega
  clear hK h hq hn
  cases wb with
  | true =>
    go_wp2
    exact HK.out _ _ _ _ _ _ _ _ lm dk w hlm HR.out HQ.out
  | false =>
    have hlmw : (lm : Int) - 1 = ((lm - 1 : Nat) : Int) := by omega
    have HL := Lib.hid hlmw
    clear hlmw
    go_wp2_with (first
      | (go_at_call 44; have K := break_any w0 w blk cap A B dk HR.out HQ.out.bk (by rw [HQ.out.size, ← HN.out]; exact hsz) (by omega); rw [show (dk).size = n from HQ.out.size.trans HN.out.symm] at K; (with_reducible refine K.mono ?_); clear K; rintro r w4 ⟨dkb, rfl, hrb, hpb⟩; have HRB := Lib.hid hrb; have HQB := Lib.hid (HQ.out.turn hpb); clear hrb hpb))
    rw [HL.out]
    exact HK.out _ _ _ _ _ _ _ _ (lm - 1) dkb _ (by omega) HRB.out HQB.out

end Go.Proofs.Ytoaglkbobndmeab

namespace Go.Proofs.Ytoaglkbobndmeab
open Go.RowKit Go.Maps

set_option maxRecDepth 1000000 in
set_option maxHeartbeats 8000000 in
theorem pdq4_any (w0 w : World) (blk cap a b A B n l : Nat) (d dk : Array Nat) (h : RowAt w0 blk cap w dk) (hq : QInv a b A B d dk) (hn : n = d.size) (hsz : n ≤ 100000) (hl : (B : Int) - (A : Int) = (l : Int)) (h12 : ¬ l ≤ 12)
    (u11 u12 u42 u43 u44 u45 u46 u47 u48 v3 v4 v5 v6 v7 v8 v9 v10 v13 v14 v15 v16 v17 v18 v19 v20 v21 v22 v23 v24 v25 v26 v27 v28 v29 v30 v31 v32 v33 v34 v35 v36 v37 v38 v39 v40 v41 v49 v50 v51 v52 v53 v54 v55 v56 v57 v58 v59 v60 v61 v62 v63 v64 v65 v66 v67 v68 v69 v70 v71 v72 v73 v74 v75 v76 v77 v78 v79 v80 v81 v82 v83 v84 v85 v86 v87 v88 v89 v90 v91 v92 v93 v94 v95 v96 v97 v98 v99 v100 v101 v102 v103 v104 v105 v106 v107 v108 v109 v110 v111 v112 v113 v114 v115 v116 v117 v118 v119 v120 v121 v122 v123 v124 v125 v126 v127 v128 v129 v130 v131 v132 v133 : Value) (Kc : Act → World → Prop) (Qc : Exit → Act → World → Prop)
    (hK : ∀ (x42 x43 x44 x45 x46 x47 x48 : Value) (p t : Nat) (w5 : World), A ≤ p → p < B → t ≤ 2 → RowAt w0 blk cap w5 dk → Kc ⟨#[.slice (some ⟨blk, 0, none⟩) n cap, .int .i64 (A : Int), .int .i64 (B : Int), v3, v4, v5, v6, v7, v8, v9, v10, .int .i64 (p : Int), .int .i64 (t : Int), v13, v14, v15, v16, v17, v18, v19, v20, v21, v22, v23, v24, v25, v26, v27, v28, v29, v30, v31, v32, v33, v34, v35, v36, v37, v38, v39, v40, v41, x42, x43, x44, x45, x46, x47, x48, v49, v50, v51, v52, v53, v54, v55, v56, v57, v58, v59, v60, v61, v62, v63, v64, v65, v66, v67, v68, v69, v70, v71, v72, v73, v74, v75, v76, v77, v78, v79, v80, v81, v82, v83, v84, v85, v86, v87, v88, v89, v90, v91, v92, v93, v94, v95, v96, v97, v98, v99, v100, v101, v102, v103, v104, v105, v106, v107, v108, v109, v110, v111, v112, v113, v114, v115, v116, v117, v118, v119, v120, v121, v122, v123, v124, v125, v126, v127, v128, v129, v130, v131, v132, v133], []⟩ w5) :
    Code.wp Try.prog pdqS4 (Exit.then Kc Qc) ⟨#[.slice (some ⟨blk, 0, none⟩) n cap, .int .i64 (A : Int), .int .i64 (B : Int), v3, v4, v5, v6, v7, v8, v9, v10, u11, u12, v13, v14, v15, v16, v17, v18, v19, v20, v21, v22, v23, v24, v25, v26, v27, v28, v29, v30, v31, v32, v33, v34, v35, v36, v37, v38, v39, v40, v41, u42, u43, u44, u45, u46, u47, u48, v49, v50, v51, v52, v53, v54, v55, v56, v57, v58, v59, v60, v61, v62, v63, v64, v65, v66, v67, v68, v69, v70, v71, v72, v73, v74, v75, v76, v77, v78, v79, v80, v81, v82, v83, v84, v85, v86, v87, v88, v89, v90, v91, v92, v93, v94, v95, v96, v97, v98, v99, v100, v101, v102, v103, v104, v105, v106, v107, v108, v109, v110, v111, v112, v113, v114, v115, v116, v117, v118, v119, v120, v121, v122, v123, v124, v125, v126, v127, v128, v129, v130, v131, v132, v133], []⟩ w := by
  conv => arg 2; whnf
  have HK := Lib.hid hK
  have HR := Lib.hid h
  have HQ := Lib.hid hq
  have HN := Lib.hid hn
  have hAB := hq.AB
  have hBn : B ≤ n := by have := hq.bk; rw [hq.size, ← hn] at this; exact this
  have hn5 : (n : Int) ≤ 100000 := by omega
  have hA5 : (A : Int) ≤ 100000 := by omega
  have hB5 : (B : Int) ≤ 100000 := by omega
  have hl5 : (l : Int) ≤ 100000 := by omega
  clear hK h hq hn
  go_wp2_with (first
    | (go_at_call 45; have K := pivot_any w0 w blk cap A B dk HR.out HQ.out.bk (by rw [HQ.out.size, ← HN.out]; exact hsz) (by omega); rw [show (dk).size = n from HQ.out.size.trans HN.out.symm] at K; (with_reducible refine K.mono ?_); clear K; rintro r w3 ⟨p, t, rfl, hpa, hpb, ht, hr3⟩; have HR3 := Lib.hid hr3; clear hr3))
  exact HK.out _ _ _ _ _ _ _ p t w3 hpa hpb ht HR3.out

end Go.Proofs.Ytoaglkbobndmeab

namespace Go.Proofs.Ytoaglkbobndmeab
open Go.RowKit Go.Maps

set_option maxRecDepth 1000000 in
set_option maxHeartbeats 8000000 in
theorem pdq5_any (w0 w : World) (blk cap a b A B n l : Nat) (d dk : Array Nat) (h : RowAt w0 blk cap w dk) (hq : QInv a b A B d dk) (hn : n = d.size) (hsz : n ≤ 100000) (hl : (B : Int) - (A : Int) = (l : Int)) (p t : Nat) (h12 : ¬ l ≤ 12) (hpa : A ≤ p) (hpb : p < B) (ht : t ≤ 2)
    (u49 u50 u51 u52 u53 u54 u55 u56 u57 u58 u59 u60 v3 v4 v5 v6 v7 v8 v9 v10 v13 v14 v15 v16 v17 v18 v19 v20 v21 v22 v23 v24 v25 v26 v27 v28 v29 v30 v31 v32 v33 v34 v35 v36 v37 v38 v39 v40 v41 v42 v43 v44 v45 v46 v47 v48 v61 v62 v63 v64 v65 v66 v67 v68 v69 v70 v71 v72 v73 v74 v75 v76 v77 v78 v79 v80 v81 v82 v83 v84 v85 v86 v87 v88 v89 v90 v91 v92 v93 v94 v95 v96 v97 v98 v99 v100 v101 v102 v103 v104 v105 v106 v107 v108 v109 v110 v111 v112 v113 v114 v115 v116 v117 v118 v119 v120 v121 v122 v123 v124 v125 v126 v127 v128 v129 v130 v131 v132 v133 : Value) (Kc : Act → World → Prop) (Qc : Exit → Act → World → Prop)
    (hK : ∀ (x49 x50 x51 x52 x53 x54 x55 x56 x57 x58 x59 x60 : Value) (pv t2 : Nat) (dk2 : Array Nat) (w5 : World), A ≤ pv → pv < B → t2 ≤ 2 → RowAt w0 blk cap w5 dk2 → QInv a b A B d dk2 → Kc ⟨#[.slice (some ⟨blk, 0, none⟩) n cap, .int .i64 (A : Int), .int .i64 (B : Int), v3, v4, v5, v6, v7, v8, v9, v10, .int .i64 (pv : Int), .int .i64 (t2 : Int), v13, v14, v15, v16, v17, v18, v19, v20, v21, v22, v23, v24, v25, v26, v27, v28, v29, v30, v31, v32, v33, v34, v35, v36, v37, v38, v39, v40, v41, v42, v43, v44, v45, v46, v47, v48, x49, x50, x51, x52, x53, x54, x55, x56, x57, x58, x59, x60, v61, v62, v63, v64, v65, v66, v67, v68, v69, v70, v71, v72, v73, v74, v75, v76, v77, v78, v79, v80, v81, v82, v83, v84, v85, v86, v87, v88, v89, v90, v91, v92, v93, v94, v95, v96, v97, v98, v99, v100, v101, v102, v103, v104, v105, v106, v107, v108, v109, v110, v111, v112, v113, v114, v115, v116, v117, v118, v119, v120, v121, v122, v123, v124, v125, v126, v127, v128, v129, v130, v131, v132, v133], []⟩ w5) :
    Code.wp Try.prog pdqS5 (Exit.then Kc Qc) ⟨#[.slice (some ⟨blk, 0, none⟩) n cap, .int .i64 (A : Int), .int .i64 (B : Int), v3, v4, v5, v6, v7, v8, v9, v10, .int .i64 (p : Int), .int .i64 (t : Int), v13, v14, v15, v16, v17, v18, v19, v20, v21, v22, v23, v24, v25, v26, v27, v28, v29, v30, v31, v32, v33, v34, v35, v36, v37, v38, v39, v40, v41, v42, v43, v44, v45, v46, v47, v48, u49, u50, u51, u52, u53, u54, u55, u56, u57, u58, u59, u60, v61, v62, v63, v64, v65, v66, v67, v68, v69, v70, v71, v72, v73, v74, v75, v76, v77, v78, v79, v80, v81, v82, v83, v84, v85, v86, v87, v88, v89, v90, v91, v92, v93, v94, v95, v96, v97, v98, v99, v100, v101, v102, v103, v104, v105, v106, v107, v108, v109, v110, v111, v112, v113, v114, v115, v116, v117, v118, v119, v120, v121, v122, v123, v124, v125, v126, v127, v128, v129, v130, v131, v132, v133], []⟩ w := by
  conv => arg 2; whnf
  have HK := Lib.hid hK
  have HR := Lib.hid h
  have HQ := Lib.hid hq
  have HN := Lib.hid hn
  have hAB := hq.AB
  have hBn : B ≤ n := by have := hq.bk; rw [hq.size, ← hn] at this; exact this
  have hn5 : (n : Int) ≤ 100000 := by omega
  have hA5 : (A : Int) ≤ 100000 := by omega
  have hB5 : (B : Int) ≤ 100000 := by omega
  have hl5 : (l : Int) ≤ 100000 := by omega
  clear hK h hq hn
  have hp5 : (p : Int) ≤ 100000 := by omega
  by_cases ht2 : t = 2
  · subst ht2
    obtain ⟨B1, hB1⟩ : ∃ B1 : Nat, (B : Int) - 1 = (B1 : Int) := ⟨B - 1, by omega⟩
    obtain ⟨pA, hpA⟩ : ∃ pA : Nat, (p : Int) - (A : Int) = (pA : Int) := ⟨p - A, by omega⟩
    obtain ⟨pv, hpv⟩ : ∃ pv : Nat, (B1 : Int) - (pA : Int) = (pv : Int) := ⟨B1 - pA, by omega⟩
    have hB15 : (B1 : Int) ≤ 100000 := by omega
    have hpA5 : (pA : Int) ≤ 100000 := by omega
    have hpv5 : (pv : Int) ≤ 100000 := by omega
    go_wp2_with (first
      | (go_at_call 46; have K := reverse_any w0 w blk cap A B dk HR.out HQ.out.bk (by rw [HQ.out.size, ← HN.out]; exact hsz) (by omega); rw [show (dk).size = n from HQ.out.size.trans HN.out.symm] at K; (with_reducible refine K.mono ?_); clear K; rintro r w4 ⟨dkr, rfl, hrr, hpr⟩; have HRR := Lib.hid hrr; have HQR := Lib.hid (HQ.out.turn hpr); clear hrr hpr))
    exact HK.out _ _ _ _ _ _ _ _ _ _ _ _ pv 1 dkr w4 (by omega) (by omega) (by decide) HRR.out HQR.out
  · have ht2i : ¬ (t : Int) = 2 := by omega
    go_wp2
    exact HK.out _ _ _ _ _ _ _ _ _ _ _ _ p t dk w hpa hpb ht HR.out HQ.out

end Go.Proofs.Ytoaglkbobndmeab

namespace Go.Proofs.Ytoaglkbobndmeab
open Go.RowKit Go.Maps

set_option maxRecDepth 1000000 in
set_option maxHeartbeats 8000000 in
theorem pdq6_any (w0 w : World) (blk cap a b A B n l : Nat) (d dk : Array Nat) (h : RowAt w0 blk cap w dk) (hq : QInv a b A B d dk) (hn : n = d.size) (hsz : n ≤ 100000) (hl : (B : Int) - (A : Int) = (l : Int)) (t2 : Nat) (wb wp : Bool) (h12 : ¬ l ≤ 12)
    (u61 u62 u63 u64 u65 u66 u67 u68 u69 u70 u71 u72 v3 v4 v5 v6 v7 v10 v11 v13 v14 v15 v16 v17 v18 v19 v20 v21 v22 v23 v24 v25 v26 v27 v28 v29 v30 v31 v32 v33 v34 v35 v36 v37 v38 v39 v40 v41 v42 v43 v44 v45 v46 v47 v48 v49 v50 v51 v52 v53 v54 v55 v56 v57 v58 v59 v60 v73 v74 v75 v76 v77 v78 v79 v80 v81 v82 v83 v84 v85 v86 v87 v88 v89 v90 v91 v92 v93 v94 v95 v96 v97 v98 v99 v100 v101 v102 v103 v104 v105 v106 v107 v108 v109 v110 v111 v112 v113 v114 v115 v116 v117 v118 v119 v120 v121 v122 v123 v124 v125 v126 v127 v128 v129 v130 v131 v132 v133 : Value) (Kc : Act → World → Prop) (Qc : Exit → Act → World → Prop)
    (hR : ∀ (tm : Array Value) (w5 : World), PdqR w0 blk cap d a b (.returned (.tuple #[])) w5 → Qc .ret ⟨tm, []⟩ w5)
    (hK : ∀ (x61 x62 x63 x64 x65 x66 x67 x68 x69 x70 x71 x72 : Value) (dk3 : Array Nat) (w5 : World), RowAt w0 blk cap w5 dk3 → QInv a b A B d dk3 → Kc ⟨#[.slice (some ⟨blk, 0, none⟩) n cap, .int .i64 (A : Int), .int .i64 (B : Int), v3, v4, v5, v6, v7, .bool wb, .bool wp, v10, v11, .int .i64 (t2 : Int), v13, v14, v15, v16, v17, v18, v19, v20, v21, v22, v23, v24, v25, v26, v27, v28, v29, v30, v31, v32, v33, v34, v35, v36, v37, v38, v39, v40, v41, v42, v43, v44, v45, v46, v47, v48, v49, v50, v51, v52, v53, v54, v55, v56, v57, v58, v59, v60, x61, x62, x63, x64, x65, x66, x67, x68, x69, x70, x71, x72, v73, v74, v75, v76, v77, v78, v79, v80, v81, v82, v83, v84, v85, v86, v87, v88, v89, v90, v91, v92, v93, v94, v95, v96, v97, v98, v99, v100, v101, v102, v103, v104, v105, v106, v107, v108, v109, v110, v111, v112, v113, v114, v115, v116, v117, v118, v119, v120, v121, v122, v123, v124, v125, v126, v127, v128, v129, v130, v131, v132, v133], []⟩ w5) :
    Code.wp Try.prog pdqS6 (Exit.then Kc Qc) ⟨#[.slice (some ⟨blk, 0, none⟩) n cap, .int .i64 (A : Int), .int .i64 (B : Int), v3, v4, v5, v6, v7, .bool wb, .bool wp, v10, v11, .int .i64 (t2 : Int), v13, v14, v15, v16, v17, v18, v19, v20, v21, v22, v23, v24, v25, v26, v27, v28, v29, v30, v31, v32, v33, v34, v35, v36, v37, v38, v39, v40, v41, v42, v43, v44, v45, v46, v47, v48, v49, v50, v51, v52, v53, v54, v55, v56, v57, v58, v59, v60, u61, u62, u63, u64, u65, u66, u67, u68, u69, u70, u71, u72, v73, v74, v75, v76, v77, v78, v79, v80, v81, v82, v83, v84, v85, v86, v87, v88, v89, v90, v91, v92, v93, v94, v95, v96, v97, v98, v99, v100, v101, v102, v103, v104, v105, v106, v107, v108, v109, v110, v111, v112, v113, v114, v115, v116, v117, v118, v119, v120, v121, v122, v123, v124, v125, v126, v127, v128, v129, v130, v131, v132, v133], []⟩ w := by
  conv => arg 2; whnf
  have HK := Lib.hid hK
  have HX := Lib.hid hR
  have HR := Lib.hid h
  have HQ := Lib.hid hq
  have HN := Lib.hid hn
  have hAB := hq.AB
  have hBn : B ≤ n := by have := hq.bk; rw [hq.size, ← hn] at this; exact this
  have hn5 : (n : Int) ≤ 100000 := by omega
  have hA5 : (A : Int) ≤ 100000 := by omega
  have hB5 : (B : Int) ≤ 100000 := by omega
  have hl5 : (l : Int) ≤ 100000 := by omega
  clear hK h hq hn hR
  cases wb with
  | false =>
    go_wp2
    exact HK.out _ _ _ _ _ _ _ _ _ _ _ _ dk w HR.out HQ.out
  | true =>
    cases wp with
    | false =>
      go_wp2
      exact HK.out _ _ _ _ _ _ _ _ _ _ _ _ dk w HR.out HQ.out
    | true =>
      by_cases ht1 : t2 = 1
      · subst ht1
        go_wp2_with fail
        have K := pins_any w0 w blk cap A B dk HR.out HQ.out.bk (by rw [HQ.out.size, ← HN.out]; exact hsz) (by omega)
        rw [show (dk).size = n from HQ.out.size.trans HN.out.symm] at K
        (with_reducible refine K.mono ?_)
        clear K
        rintro r wp2 ⟨pt0, dkp, rfl, hrp, hep⟩
        have HRP := Lib.hid hrp
        have hpp := Sort.partialInsertionSort_holds (lt := ltN) swo_ltN dk A B (by omega) HQ.out.bk HQ.out.below
        rw [hep] at hpp
        cases pt0 with
        | true =>
          have HF := Lib.hid (HQ.out.done hpp.1 (hpp.2 rfl))
          clear hpp hep hrp
          go_wp2
          exact HX.out _ _ ⟨rfl, dkp, HRP.out, HF.out.1, HF.out.2⟩
        | false =>
          have HQP := Lib.hid (HQ.out.turn (show Sort.PermIn A B dk dkp from hpp.1))
          clear hpp hep hrp
          go_wp2
          exact HK.out _ _ _ _ _ _ _ _ _ _ _ _ dkp wp2 HRP.out HQP.out
      · have ht1i : ¬ (t2 : Int) = 1 := by omega
        have ht1b : ((t2 : Int) == 1) = false := by simpa using ht1i
        go_wp2
        exact HK.out _ _ _ _ _ _ _ _ _ _ _ _ dk w HR.out HQ.out

end Go.Proofs.Ytoaglkbobndmeab

namespace Go.Proofs.Ytoaglkbobndmeab
open Go.RowKit Go.Maps

set_option maxRecDepth 1000000 in
set_option maxHeartbeats 8000000 in
theorem pdq7_any (w0 w : World) (blk cap a b A B n l : Nat) (d dk : Array Nat) (h : RowAt w0 blk cap w dk) (hq : QInv a b A B d dk) (hn : n = d.size) (hsz : n ≤ 100000) (hl : (B : Int) - (A : Int) = (l : Int)) (pv : Nat) (hpv1 : A ≤ pv) (hpv2 : pv < B) (nd : d.toList.Nodup)
    (u13 u73 u74 u75 u76 u77 u78 u79 u80 u81 u82 u83 u84 u85 u86 u87 u88 u89 u90 u91 u92 u93 v3 v4 v5 v6 v7 v8 v9 v10 v12 v14 v15 v16 v17 v18 v19 v20 v21 v22 v23 v24 v25 v26 v27 v28 v29 v30 v31 v32 v33 v34 v35 v36 v37 v38 v39 v40 v41 v42 v43 v44 v45 v46 v47 v48 v49 v50 v51 v52 v53 v54 v55 v56 v57 v58 v59 v60 v61 v62 v63 v64 v65 v66 v67 v68 v69 v70 v71 v72 v94 v95 v96 v97 v98 v99 v100 v101 v102 v103 v104 v105 v106 v107 v108 v109 v110 v111 v112 v113 v114 v115 v116 v117 v118 v119 v120 v121 v122 v123 v124 v125 v126 v127 v128 v129 v130 v131 v132 v133 : Value) (Kc : Act → World → Prop) (Qc : Exit → Act → World → Prop)
    (hK : ∀ (x13 x73 x74 x75 x76 x77 x78 x79 x80 x81 x82 x83 x84 x85 x86 x87 x88 x89 x90 x91 x92 x93 : Value) (w5 : World), RowAt w0 blk cap w5 dk → Kc ⟨#[.slice (some ⟨blk, 0, none⟩) n cap, .int .i64 (A : Int), .int .i64 (B : Int), v3, v4, v5, v6, v7, v8, v9, v10, .int .i64 (pv : Int), v12, x13, v14, v15, v16, v17, v18, v19, v20, v21, v22, v23, v24, v25, v26, v27, v28, v29, v30, v31, v32, v33, v34, v35, v36, v37, v38, v39, v40, v41, v42, v43, v44, v45, v46, v47, v48, v49, v50, v51, v52, v53, v54, v55, v56, v57, v58, v59, v60, v61, v62, v63, v64, v65, v66, v67, v68, v69, v70, v71, v72, x73, x74, x75, x76, x77, x78, x79, x80, x81, x82, x83, x84, x85, x86, x87, x88, x89, x90, x91, x92, x93, v94, v95, v96, v97, v98, v99, v100, v101, v102, v103, v104, v105, v106, v107, v108, v109, v110, v111, v112, v113, v114, v115, v116, v117, v118, v119, v120, v121, v122, v123, v124, v125, v126, v127, v128, v129, v130, v131, v132, v133], []⟩ w5) :
    Code.wp Try.prog pdqS7 (Exit.then Kc Qc) ⟨#[.slice (some ⟨blk, 0, none⟩) n cap, .int .i64 (A : Int), .int .i64 (B : Int), v3, v4, v5, v6, v7, v8, v9, v10, .int .i64 (pv : Int), v12, u13, v14, v15, v16, v17, v18, v19, v20, v21, v22, v23, v24, v25, v26, v27, v28, v29, v30, v31, v32, v33, v34, v35, v36, v37, v38, v39, v40, v41, v42, v43, v44, v45, v46, v47, v48, v49, v50, v51, v52, v53, v54, v55, v56, v57, v58, v59, v60, v61, v62, v63, v64, v65, v66, v67, v68, v69, v70, v71, v72, u73, u74, u75, u76, u77, u78, u79, u80, u81, u82, u83, u84, u85, u86, u87, u88, u89, u90, u91, u92, u93, v94, v95, v96, v97, v98, v99, v100, v101, v102, v103, v104, v105, v106, v107, v108, v109, v110, v111, v112, v113, v114, v115, v116, v117, v118, v119, v120, v121, v122, v123, v124, v125, v126, v127, v128, v129, v130, v131, v132, v133], []⟩ w := by
  conv => arg 2; whnf
  have HK := Lib.hid hK
  have HR := Lib.hid h
  have HQ := Lib.hid hq
  have HN := Lib.hid hn
  have hAB := hq.AB
  have hBn : B ≤ n := by have := hq.bk; rw [hq.size, ← hn] at this; exact this
  have hn5 : (n : Int) ≤ 100000 := by omega
  have hA5 : (A : Int) ≤ 100000 := by omega
  have hB5 : (B : Int) ≤ 100000 := by omega
  have hl5 : (l : Int) ≤ 100000 := by omega
  clear hK h hq hn
  rcases Nat.eq_zero_or_pos A with hA0 | hA0
  · subst hA0
    go_wp2_with fail
    go_quiet (first | (go_at_call 48; refine Calls.quiet_of_same (less_any 0 0 false rfl _)))
    have HRe := Lib.hid (HR.out.drewN nq)
    generalize w.drewN nq = WV at HRe ⊢
    go_wp2
    exact HK.out _ _ _ _ _ _ _ _ _ _ _ _ _ _ _ _ _ _ _ _ _ _ WV HRe.out
  · have hA0i : (0 : Int) < (A : Int) := by omega
    have hA1 : (A : Int) - 1 < (n : Int) := by omega
    have hwA : IntKind.i64.wrap ((A : Int) - 1) = (A : Int) - 1 := IntWalk.i64_in _ ⟨by omega, by omega⟩
    have hpvn : (pv : Int) < (n : Int) := by omega
    have c1 := HR.out.cell (j := A - 1) (by have := HQ.out.bk; omega)
    have c2 := HR.out.cell (j := pv) (by have := HQ.out.bk; omega)
    obtain ⟨x, hx⟩ : ∃ x, (dk)[A - 1]! = x := ⟨_, rfl⟩
    obtain ⟨y, hy⟩ : ∃ y, (dk)[pv]! = y := ⟨_, rfl⟩
    have HL := Lib.hid (show ltN x y = true by rw [← hx, ← hy]; exact HQ.out.less nd hA0 hpv1 hpv2)
    rw [hx] at c1
    rw [hy] at c2
    clear hx hy nd
    go_wp2_with fail
    go_quiet (first | (go_at_call 48; refine Calls.quiet_of_same (less_any x y true HL.out _)))
    have HRe := Lib.hid (HR.out.drewN nq)
    clear c1 c2
    generalize w.drewN nq = WV at HRe ⊢
    go_wp2
    exact HK.out _ _ _ _ _ _ _ _ _ _ _ _ _ _ _ _ _ _ _ _ _ _ WV HRe.out

end Go.Proofs.Ytoaglkbobndmeab

namespace Go.Proofs.Ytoaglkbobndmeab
open Go.RowKit Go.Maps

set_option maxRecDepth 1000000 in
set_option maxHeartbeats 8000000 in
theorem pdq8_any (w0 w : World) (blk cap a b A B n l : Nat) (d dk : Array Nat) (h : RowAt w0 blk cap w dk) (hq : QInv a b A B d dk) (hn : n = d.size) (hsz : n ≤ 100000) (hl : (B : Int) - (A : Int) = (l : Int)) (lm2 pv M : Nat) (hpv1 : A ≤ pv) (hpv2 : pv < B) (nd : d.toList.Nodup) (h12 : ¬ l ≤ 12) (hlm2 : lm2 ≤ 1000) (hM : B - A ≤ M)
    (IH : ∀ (w : World) (a b lim : Nat) (d : Array Nat), b - a < M → RowAt w0 blk cap w d → a ≤ b → b ≤ d.size → d.size ≤ 100000 → d.toList.Nodup → Sort.Below ltN a b d → lim ≤ 1000 →
      Calls Try.prog 40 #[.slice (some ⟨blk, 0, none⟩) d.size cap, .int .i64 (a : Int), .int .i64 (b : Int), .int .i64 (lim : Int)] w fun r w' => PdqR w0 blk cap d a b r w')
    (u8 u9 u14 u15 u16 u17 u18 u94 u95 u96 u97 u98 u99 u100 u101 u102 u103 u104 u105 u106 u107 u108 u109 u110 u111 u112 u113 u114 u115 u116 u117 u118 u119 u120 u121 u122 u123 u124 u125 u126 u127 u128 u129 u130 u131 u132 u133 v4 v5 v6 v7 v12 v13 v19 v20 v21 v22 v23 v24 v25 v26 v27 v28 v29 v30 v31 v32 v33 v34 v35 v36 v37 v38 v39 v40 v41 v42 v43 v44 v45 v46 v47 v48 v49 v50 v51 v52 v53 v54 v55 v56 v57 v58 v59 v60 v61 v62 v63 v64 v65 v66 v67 v68 v69 v70 v71 v72 v73 v74 v75 v76 v77 v78 v79 v80 v81 v82 v83 v84 v85 v86 v87 v88 v89 v90 v91 v92 v93 : Value) (Kc : Act → World → Prop) (Qc : Exit → Act → World → Prop)
    (hK : ∀ (x14 x15 x16 x17 x18 x94 x95 x96 x97 x98 x99 x100 x101 x102 x103 x104 x105 x106 x107 x108 x109 x110 x111 x112 x113 x114 x115 x116 x117 x118 x119 x120 x121 x122 x123 x124 x125 x126 x127 x128 x129 x130 x131 x132 x133 : Value) (A' B' : Nat) (wb' wp' : Bool) (dk5 : Array Nat) (w5 : World), B' - A' < B - A → A' ≤ B' → RowAt w0 blk cap w5 dk5 → QInv a b A' B' d dk5 → Qc .normal ⟨#[.slice (some ⟨blk, 0, none⟩) n cap, .int .i64 (A' : Int), .int .i64 (B' : Int), .int .i64 (lm2 : Int), v4, v5, v6, v7, .bool wb', .bool wp', .int .i64 (l : Int), .int .i64 (pv : Int), v12, v13, x14, x15, x16, x17, x18, v19, v20, v21, v22, v23, v24, v25, v26, v27, v28, v29, v30, v31, v32, v33, v34, v35, v36, v37, v38, v39, v40, v41, v42, v43, v44, v45, v46, v47, v48, v49, v50, v51, v52, v53, v54, v55, v56, v57, v58, v59, v60, v61, v62, v63, v64, v65, v66, v67, v68, v69, v70, v71, v72, v73, v74, v75, v76, v77, v78, v79, v80, v81, v82, v83, v84, v85, v86, v87, v88, v89, v90, v91, v92, v93, x94, x95, x96, x97, x98, x99, x100, x101, x102, x103, x104, x105, x106, x107, x108, x109, x110, x111, x112, x113, x114, x115, x116, x117, x118, x119, x120, x121, x122, x123, x124, x125, x126, x127, x128, x129, x130, x131, x132, x133], []⟩ w5) :
    Code.wp Try.prog pdqS8 Qc ⟨#[.slice (some ⟨blk, 0, none⟩) n cap, .int .i64 (A : Int), .int .i64 (B : Int), .int .i64 (lm2 : Int), v4, v5, v6, v7, u8, u9, .int .i64 (l : Int), .int .i64 (pv : Int), v12, v13, u14, u15, u16, u17, u18, v19, v20, v21, v22, v23, v24, v25, v26, v27, v28, v29, v30, v31, v32, v33, v34, v35, v36, v37, v38, v39, v40, v41, v42, v43, v44, v45, v46, v47, v48, v49, v50, v51, v52, v53, v54, v55, v56, v57, v58, v59, v60, v61, v62, v63, v64, v65, v66, v67, v68, v69, v70, v71, v72, v73, v74, v75, v76, v77, v78, v79, v80, v81, v82, v83, v84, v85, v86, v87, v88, v89, v90, v91, v92, v93, u94, u95, u96, u97, u98, u99, u100, u101, u102, u103, u104, u105, u106, u107, u108, u109, u110, u111, u112, u113, u114, u115, u116, u117, u118, u119, u120, u121, u122, u123, u124, u125, u126, u127, u128, u129, u130, u131, u132, u133], []⟩ w := by
  conv => arg 2; whnf
  have HK := Lib.hid hK
  have HR := Lib.hid h
  have HQ := Lib.hid hq
  have HN := Lib.hid hn
  have hAB := hq.AB
  have hBn : B ≤ n := by have := hq.bk; rw [hq.size, ← hn] at this; exact this
  have hn5 : (n : Int) ≤ 100000 := by omega
  have hA5 : (A : Int) ≤ 100000 := by omega
  have hB5 : (B : Int) ≤ 100000 := by omega
  have hl5 : (l : Int) ≤ 100000 := by omega
  clear hK h hq hn
  have ND := Lib.hid nd
  have HI := Lib.hid IH
  clear nd IH
  go_wp2_with fail
  have K := partition_any w0 w blk cap A B pv dk HR.out HQ.out.bk (by rw [HQ.out.size, ← HN.out]; exact hsz) (by omega) hpv1 hpv2
  rw [show (dk).size = n from HQ.out.size.trans HN.out.symm] at K
  (with_reducible refine K.mono ?_)
  clear K
  rintro r w5 ⟨m, pt, dk4, rfl, hr4, hp4, hm1, hm2, hlt4, hge4⟩
  have HR4 := Lib.hid hr4
  have HQ4 := Lib.hid (HQ.out.turn hp4)
  have HLT4 := Lib.hid hlt4
  have HGE4 := Lib.hid hge4
  obtain ⟨lf, hlf⟩ : ∃ lf : Nat, (m : Int) - (A : Int) = (lf : Int) := ⟨m - A, by omega⟩
  obtain ⟨rt, hrt⟩ : ∃ rt : Nat, (B : Int) - (m : Int) = (rt : Int) := ⟨B - m, by omega⟩
  have hm5 : (m : Int) ≤ 100000 := by omega
  clear hr4 hp4 hlt4 hge4
  have HM1 := Lib.hid (show (m : Int) + 1 = ((m + 1 : Nat) : Int) by omega)
  by_cases hlr : lf < rt
  · have hlri : (lf : Int) < (rt : Int) := by omega
    go_wp2_with (first
      | (go_at_call 40; have K := HI.out w5 A m lm2 dk4 (by omega) HR4.out (by omega) (by have := HQ4.out.bk; omega) (by rw [HQ4.out.size, ← HN.out]; exact hsz) (nodup_perm HQ4.out.perm HQ4.out.bd ND.out) (below_left HQ4.out hm2) (by omega); rw [show dk4.size = n from HQ4.out.size.trans HN.out.symm] at K; (with_reducible refine K.mono ?_); clear K; rintro r w6 ⟨rfl, dk5, hr5, hp5, hs5⟩; have HR5 := Lib.hid hr5; have HQ5 := Lib.hid (HQ4.out.left hm1 hm2 HLT4.out HGE4.out hp5 hs5); clear hr5 hp5 hs5))
    rw [HM1.out]
    exact HK.out _ _ _ _ _ _ _ _ _ _ _ _ _ _ _ _ _ _ _ _ _ _ _ _ _ _ _ _ _ _ _ _ _ _ _ _ _ _ _ _ _ _ _ _ _ (m + 1) B _ _ dk5 w6 (by omega) (by omega) HR5.out HQ5.out
  · have hlri : ¬ (lf : Int) < (rt : Int) := by omega
    go_wp2_with (first
      | (go_at_call 40; have K := HI.out w5 (m + 1) B lm2 dk4 (by omega) HR4.out (by omega) HQ4.out.bk (by rw [HQ4.out.size, ← HN.out]; exact hsz) (nodup_perm HQ4.out.perm HQ4.out.bd ND.out) (below_right HGE4.out) (by omega); rw [show dk4.size = n from HQ4.out.size.trans HN.out.symm, ← HM1.out] at K; (with_reducible refine K.mono ?_); clear K; rintro r w6 ⟨rfl, dk5, hr5, hp5, hs5⟩; have HR5 := Lib.hid hr5; have HQ5 := Lib.hid (HQ4.out.right hm1 hm2 HLT4.out HGE4.out hp5 hs5); clear hr5 hp5 hs5))
    exact HK.out _ _ _ _ _ _ _ _ _ _ _ _ _ _ _ _ _ _ _ _ _ _ _ _ _ _ _ _ _ _ _ _ _ _ _ _ _ _ _ _ _ _ _ _ _ A m _ _ dk5 w6 (by omega) (by omega) HR5.out HQ5.out

end Go.Proofs.Ytoaglkbobndmeab

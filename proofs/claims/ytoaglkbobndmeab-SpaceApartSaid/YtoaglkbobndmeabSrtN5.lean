/-
  slices.pdqsortOrdered at pages: what falls is turned round. Own work; printed by tools/sort/mkpdq2.py.
-/
import Derived.Test.YtoaglkbobndmeabSrtM
namespace Go.Proofs.Ytoaglkbobndmeab
open Go.RowKit Go.Maps

set_option maxRecDepth 1000000 in
set_option maxHeartbeats 8000000 in
theorem pdq5_any (w0 w : World) (blk cap a b A B n l : Nat) (d dk : Array Nat) (h : RowAt w0 blk cap w dk) (hq : QInv a b A B d dk) (hn : n = d.size) (hsz : n ≤ 100000) (hl : (B : Int) - (A : Int) = (l : Int)) (p t : Nat) (h12 : ¬ l ≤ 12) (hpa : A ≤ p) (hpb : p < B) (ht : t ≤ 2)
    (u49 u50 u51 u52 u53 u54 u55 u56 u57 u58 u59 u60 v3 v4 v5 v6 v7 v8 v9 v10 v13 v14 v15 v16 v17 v18 v19 v20 v21 v22 v23 v24 v25 v26 v27 v28 v29 v30 v31 v32 v33 v34 v35 v36 v37 v38 v39 v40 v41 v42 v43 v44 v45 v46 v47 v48 v61 v62 v63 v64 v65 v66 v67 v68 v69 v70 v71 v72 v73 v74 v75 v76 v77 v78 v79 v80 v81 v82 v83 v84 v85 v86 v87 v88 v89 v90 v91 v92 v93 v94 v95 v96 v97 v98 v99 v100 v101 v102 v103 v104 v105 v106 v107 v108 v109 v110 v111 v112 v113 v114 v115 v116 v117 v118 v119 v120 v121 v122 v123 v124 v125 v126 v127 v128 v129 v130 v131 v132 v133 : Value) (Kc : Act → World → Prop) (Qc : Exit → Act → World → Prop)
    (hK : ∀ (x49 x50 x51 x52 x53 x54 x55 x56 x57 x58 x59 x60 : Value) (pv t2 : Nat) (dk2 : Array Nat) (w5 : World), A ≤ pv → pv < B → t2 ≤ 2 → RowAt w0 blk cap w5 dk2 → QInv a b A B d dk2 → Kc ⟨#[.slice (some ⟨blk, 0, none⟩) n cap, .int .i64 (A : Int), .int .i64 (B : Int), v3, v4, v5, v6, v7, v8, v9, v10, .int .i64 (pv : Int), .int .i64 (t2 : Int), v13, v14, v15, v16, v17, v18, v19, v20, v21, v22, v23, v24, v25, v26, v27, v28, v29, v30, v31, v32, v33, v34, v35, v36, v37, v38, v39, v40, v41, v42, v43, v44, v45, v46, v47, v48, x49, x50, x51, x52, x53, x54, x55, x56, x57, x58, x59, x60, v61, v62, v63, v64, v65, v66, v67, v68, v69, v70, v71, v72, v73, v74, v75, v76, v77, v78, v79, v80, v81, v82, v83, v84, v85, v86, v87, v88, v89, v90, v91, v92, v93, v94, v95, v96, v97, v98, v99, v100, v101, v102, v103, v104, v105, v106, v107, v108, v109, v110, v111, v112, v113, v114, v115, v116, v117, v118, v119, v120, v121, v122, v123, v124, v125, v126, v127, v128, v129, v130, v131, v132, v133], []⟩ w5) :
    Code.wp Try.prog pdqS5 (Exit.then Kc Qc) ⟨#[.slice (some ⟨blk, 0, none⟩) n cap, .int .i64 (A : Int), .int .i64 (B : Int), v3, v4, v5, v6, v7, v8, v9, v10, .int .i64 (p : Int), .int .i64 (t : Int), v13, v14, v15, v16, v17, v18, v19, v20, v21, v22, v23, v24, v25, v26, v27, v28, v29, v30, v31, v32, v33, v34, v35, v36, v37, v38, v39, v40, v41, v42, v43, v44, v45, v46, v47, v48, u49, u50, u51, u52, u53, u54, u55, u56, u57, u58, u59, u60, v61, v62, v63, v64, v65, v66, v67, v68, v69, v70, v71, v72, v73, v74, v75, v76, v77, v78, v79, v80, v81, v82, v83, v84, v85, v86, v87, v88, v89, v90, v91, v92, v93, v94, v95, v96, v97, v98, v99, v100, v101, v102, v103, v104, v105, v106, v107, v108, v109, v110, v111, v112, v113, v114, v115, v116, v117, v118, v119, v120, v121, v122, v123, v124, v125, v126, v127, v128, v129, v130, v131, v132, v133], []⟩ w := by
  conv => arg 2; whnf
  have HK := Lib.hid hK
  have HR := Lib.hid h
  have HQ := Lib.hid hq
  have HN := Lib.hid hn
  have hAB := hq.AB
  have hBn : B ≤ n := by have := hq.bk; rw [hq.size, ← hn] at this; exact this
  have hn5 : (n : Int) ≤ 100000 := by omega
  have hA5 : (A : Int) ≤ 100000 := by omega
  have hB5 : (B : Int) ≤ 100000 := by omega
  have hl5 : (l : Int) ≤ 100000 := by omega
  clear hK h hq hn
  have hp5 : (p : Int) ≤ 100000 := by omega
  by_cases ht2 : t = 2
  · subst ht2
    obtain ⟨B1, hB1⟩ : ∃ B1 : Nat, (B : Int) - 1 = (B1 : Int) := ⟨B - 1, by omega⟩
    obtain ⟨pA, hpA⟩ : ∃ pA : Nat, (p : Int) - (A : Int) = (pA : Int) := ⟨p - A, by omega⟩
    obtain ⟨pv, hpv⟩ : ∃ pv : Nat, (B1 : Int) - (pA : Int) = (pv : Int) := ⟨B1 - pA, by omega⟩
    have hB15 : (B1 : Int) ≤ 100000 := by omega
    have hpA5 : (pA : Int) ≤ 100000 := by omega
    have hpv5 : (pv : Int) ≤ 100000 := by omega
    go_wp2_with (first
      | (go_at_call 46; have K := reverse_any w0 w blk cap A B dk HR.out HQ.out.bk (by rw [HQ.out.size, ← HN.out]; exact hsz) (by omega); rw [show (dk).size = n from HQ.out.size.trans HN.out.symm] at K; (with_reducible refine K.mono ?_); clear K; rintro r w4 ⟨dkr, rfl, hrr, hpr⟩; have HRR := Lib.hid hrr; have HQR := Lib.hid (HQ.out.turn hpr); clear hrr hpr))
    exact HK.out _ _ _ _ _ _ _ _ _ _ _ _ pv 1 dkr w4 (by omega) (by omega) (by decide) HRR.out HQR.out
  · have ht2i : ¬ (t : Int) = 2 := by omega
    go_wp2
    exact HK.out _ _ _ _ _ _ _ _ _ _ _ _ p t dk w hpa hpb ht HR.out HQ.out

end Go.Proofs.Ytoaglkbobndmeab

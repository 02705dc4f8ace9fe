/-
  slices.pdqsortOrdered at pages: is the pivot the same as the one ahead. Own work; printed by tools/sort/mkpdq2.py.
-/
import Derived.Test.YtoaglkbobndmeabSrtM
namespace Go.Proofs.Ytoaglkbobndmeab
open Go.RowKit Go.Maps

set_option maxRecDepth 1000000 in
set_option maxHeartbeats 8000000 in
theorem pdq7_any (w0 w : World) (blk cap a b A B n l : Nat) (d dk : Array Nat) (h : RowAt w0 blk cap w dk) (hq : QInv a b A B d dk) (hn : n = d.size) (hsz : n ≤ 100000) (hl : (B : Int) - (A : Int) = (l : Int)) (pv : Nat) (hpv1 : A ≤ pv) (hpv2 : pv < B) (nd : d.toList.Nodup)
    (u13 u73 u74 u75 u76 u77 u78 u79 u80 u81 u82 u83 u84 u85 u86 u87 u88 u89 u90 u91 u92 u93 v3 v4 v5 v6 v7 v8 v9 v10 v12 v14 v15 v16 v17 v18 v19 v20 v21 v22 v23 v24 v25 v26 v27 v28 v29 v30 v31 v32 v33 v34 v35 v36 v37 v38 v39 v40 v41 v42 v43 v44 v45 v46 v47 v48 v49 v50 v51 v52 v53 v54 v55 v56 v57 v58 v59 v60 v61 v62 v63 v64 v65 v66 v67 v68 v69 v70 v71 v72 v94 v95 v96 v97 v98 v99 v100 v101 v102 v103 v104 v105 v106 v107 v108 v109 v110 v111 v112 v113 v114 v115 v116 v117 v118 v119 v120 v121 v122 v123 v124 v125 v126 v127 v128 v129 v130 v131 v132 v133 : Value) (Kc : Act → World → Prop) (Qc : Exit → Act → World → Prop)
    (hK : ∀ (x13 x73 x74 x75 x76 x77 x78 x79 x80 x81 x82 x83 x84 x85 x86 x87 x88 x89 x90 x91 x92 x93 : Value) (w5 : World), RowAt w0 blk cap w5 dk → Kc ⟨#[.slice (some ⟨blk, 0, none⟩) n cap, .int .i64 (A : Int), .int .i64 (B : Int), v3, v4, v5, v6, v7, v8, v9, v10, .int .i64 (pv : Int), v12, x13, v14, v15, v16, v17, v18, v19, v20, v21, v22, v23, v24, v25, v26, v27, v28, v29, v30, v31, v32, v33, v34, v35, v36, v37, v38, v39, v40, v41, v42, v43, v44, v45, v46, v47, v48, v49, v50, v51, v52, v53, v54, v55, v56, v57, v58, v59, v60, v61, v62, v63, v64, v65, v66, v67, v68, v69, v70, v71, v72, x73, x74, x75, x76, x77, x78, x79, x80, x81, x82, x83, x84, x85, x86, x87, x88, x89, x90, x91, x92, x93, v94, v95, v96, v97, v98, v99, v100, v101, v102, v103, v104, v105, v106, v107, v108, v109, v110, v111, v112, v113, v114, v115, v116, v117, v118, v119, v120, v121, v122, v123, v124, v125, v126, v127, v128, v129, v130, v131, v132, v133], []⟩ w5) :
    Code.wp Try.prog pdqS7 (Exit.then Kc Qc) ⟨#[.slice (some ⟨blk, 0, none⟩) n cap, .int .i64 (A : Int), .int .i64 (B : Int), v3, v4, v5, v6, v7, v8, v9, v10, .int .i64 (pv : Int), v12, u13, v14, v15, v16, v17, v18, v19, v20, v21, v22, v23, v24, v25, v26, v27, v28, v29, v30, v31, v32, v33, v34, v35, v36, v37, v38, v39, v40, v41, v42, v43, v44, v45, v46, v47, v48, v49, v50, v51, v52, v53, v54, v55, v56, v57, v58, v59, v60, v61, v62, v63, v64, v65, v66, v67, v68, v69, v70, v71, v72, u73, u74, u75, u76, u77, u78, u79, u80, u81, u82, u83, u84, u85, u86, u87, u88, u89, u90, u91, u92, u93, v94, v95, v96, v97, v98, v99, v100, v101, v102, v103, v104, v105, v106, v107, v108, v109, v110, v111, v112, v113, v114, v115, v116, v117, v118, v119, v120, v121, v122, v123, v124, v125, v126, v127, v128, v129, v130, v131, v132, v133], []⟩ w := by
  conv => arg 2; whnf
  have HK := Lib.hid hK
  have HR := Lib.hid h
  have HQ := Lib.hid hq
  have HN := Lib.hid hn
  have hAB := hq.AB
  have hBn : B ≤ n := by have := hq.bk; rw [hq.size, ← hn] at this; exact this
  have hn5 : (n : Int) ≤ 100000 := by omega
  have hA5 : (A : Int) ≤ 100000 := by omega
  have hB5 : (B : Int) ≤ 100000 := by omega
  have hl5 : (l : Int) ≤ 100000 := by omega
  clear hK h hq hn
  rcases Nat.eq_zero_or_pos A with hA0 | hA0
  · subst hA0
    go_wp2_with fail
    go_quiet (first | (go_at_call 48; refine Calls.quiet_of_same (less_any 0 0 false rfl _)))
    have HRe := Lib.hid (HR.out.drewN nq)
    generalize w.drewN nq = WV at HRe ⊢
    go_wp2
    exact HK.out _ _ _ _ _ _ _ _ _ _ _ _ _ _ _ _ _ _ _ _ _ _ WV HRe.out
  · have hA0i : (0 : Int) < (A : Int) := by omega
    have hA1 : (A : Int) - 1 < (n : Int) := by omega
    have hwA : IntKind.i64.wrap ((A : Int) - 1) = (A : Int) - 1 := IntWalk.i64_in _ ⟨by omega, by omega⟩
    have hpvn : (pv : Int) < (n : Int) := by omega
    have c1 := HR.out.cell (j := A - 1) (by have := HQ.out.bk; omega)
    have c2 := HR.out.cell (j := pv) (by have := HQ.out.bk; omega)
    obtain ⟨x, hx⟩ : ∃ x, (dk)[A - 1]! = x := ⟨_, rfl⟩
    obtain ⟨y, hy⟩ : ∃ y, (dk)[pv]! = y := ⟨_, rfl⟩
    have HL := Lib.hid (show ltN x y = true by rw [← hx, ← hy]; exact HQ.out.less nd hA0 hpv1 hpv2)
    rw [hx] at c1
    rw [hy] at c2
    clear hx hy nd
    go_wp2_with fail
    go_quiet (first | (go_at_call 48; refine Calls.quiet_of_same (less_any x y true HL.out _)))
    have HRe := Lib.hid (HR.out.drewN nq)
    clear c1 c2
    generalize w.drewN nq = WV at HRe ⊢
    go_wp2
    exact HK.out _ _ _ _ _ _ _ _ _ _ _ _ _ _ _ _ _ _ _ _ _ _ WV HRe.out

end Go.Proofs.Ytoaglkbobndmeab

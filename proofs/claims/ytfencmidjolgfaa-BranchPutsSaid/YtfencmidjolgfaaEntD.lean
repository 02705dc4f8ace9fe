/-
  Layer 4: the law's entries: a round of its inner loop, which lays one entry more. Own work.
-/
import Derived.Test.YtfencmidjolgfaaEntC
namespace Go.Proofs.Ytfencmidjolgfaa
open Go.RowKit

noncomputable def entIn : Code := (loopsOf (entBody 0)).getD 0 .skip

set_option maxRecDepth 1000000 in
set_option maxHeartbeats 8000000 in
theorem ent_k (w6 wr : World) (m k2 j p b2 o2 vc Bx lc : Nat) (la : Option Addr) (X : List En) (x : En) (hR : RRow w6 (.slice (some ⟨b2, o2, none⟩) m vc) X) (hm : m = X.length) (hm30 : m ≤ 30) (hlt : k2 < m) (hpm : p ≤ m)
    (hbx : w6.heap[Bx]? = some (.cells #[.string (strOfNums x.key), .string (strOfNums x.val), .int .i64 x.long, .int .u32 x.first] 46 (0, 0)))
    (hj : k2 ≤ p ∧ j = k2 ∨ p < k2 ∧ j = k2 + 1) (hv : VRow w6.heap.size wr (.slice la j lc) j (insE X x p)) (hg : w6.grownBy wr none)
    (u56 u57 u58 u59 u60 u61 u62 u63 u64 u65 u66 u67 u68 u69 u70 u71 u72 u73 u74 u75 v0 v1 v2 v3 v4 v5 v6 v8 v11 v14 v15 v16 v17 v18 v19 v20 v21 v22 v23 v24 v25 v26 v27 v28 v29 v30 v31 v32 v33 v34 v35 v36 v37 v38 v39 v40 v41 v42 v43 v44 v45 v46 v47 v48 v49 v50 v51 v52 v53 v54 v55 v76 v77 v78 v79 v80 v81 v82 v83 v84 v85 v86 v87 v88 v89 v90 v91 v92 v93 v94 v95 v96 v97 v98 v99 v100 v101 v102 v103 v104 v105 v106 v107 v108 v109 v110 v111 v112 v113 v114 v115 v116 v117 v118 : Value)
    (Kc : Act → World → Prop) (Qc : Exit → Act → World → Prop)
    (hK : ∀ (x56 x57 x58 x59 x60 x61 x62 x63 x64 x65 x66 x67 x68 x69 x70 x71 x72 x73 x74 x75 q12 : Value) (w5 : World) (j' : Nat), (k2 + 1 ≤ p ∧ j' = k2 + 1 ∨ p < k2 + 1 ∧ j' = k2 + 1 + 1) → VRow w6.heap.size w5 q12 j' (insE X x p) → w6.grownBy w5 none → Kc ⟨#[v0, v1, v2, v3, v4, v5, v6, .slice (some ⟨b2, o2, none⟩) m vc, v8, .pointer (some ⟨Bx, 0, none⟩), .int .i64 (p : Int), v11, q12, .int .i64 ((k2 : Int) + 1), v14, v15, v16, v17, v18, v19, v20, v21, v22, v23, v24, v25, v26, v27, v28, v29, v30, v31, v32, v33, v34, v35, v36, v37, v38, v39, v40, v41, v42, v43, v44, v45, v46, v47, v48, v49, v50, v51, v52, v53, v54, v55, x56, x57, x58, x59, x60, x61, x62, x63, x64, x65, x66, x67, x68, x69, x70, x71, x72, x73, x74, x75, v76, v77, v78, v79, v80, v81, v82, v83, v84, v85, v86, v87, v88, v89, v90, v91, v92, v93, v94, v95, v96, v97, v98, v99, v100, v101, v102, v103, v104, v105, v106, v107, v108, v109, v110, v111, v112, v113, v114, v115, v116, v117, v118], []⟩ w5) :
    Code.wp Try.prog entIn (Exit.then Kc Qc) ⟨#[v0, v1, v2, v3, v4, v5, v6, .slice (some ⟨b2, o2, none⟩) m vc, v8, .pointer (some ⟨Bx, 0, none⟩), .int .i64 (p : Int), v11, .slice la j lc, .int .i64 (k2 : Int), v14, v15, v16, v17, v18, v19, v20, v21, v22, v23, v24, v25, v26, v27, v28, v29, v30, v31, v32, v33, v34, v35, v36, v37, v38, v39, v40, v41, v42, v43, v44, v45, v46, v47, v48, v49, v50, v51, v52, v53, v54, v55, u56, u57, u58, u59, u60, u61, u62, u63, u64, u65, u66, u67, u68, u69, u70, u71, u72, u73, u74, u75, v76, v77, v78, v79, v80, v81, v82, v83, v84, v85, v86, v87, v88, v89, v90, v91, v92, v93, v94, v95, v96, v97, v98, v99, v100, v101, v102, v103, v104, v105, v106, v107, v108, v109, v110, v111, v112, v113, v114, v115, v116, v117, v118], []⟩ wr := by
  obtain ⟨i0, hi, hz0, hz1, hz2⟩ := info_parts infoE4
  conv => arg 2; whnf
  have HK := Lib.hid hK
  have HV := Lib.hid hv
  have HGB1 := Lib.hid (show w6.grownBy wr none from hg)
  have hki : (k2 : Int) < (m : Int) := by omega
  have hBw : w6.heap.size ≤ wr.heap.size := hg.size
  have hk21 : IntKind.i64.wrap ((k2 : Int) + 1) = (k2 : Int) + 1 := IntWalk.i64_in _ (by omega)
  obtain ⟨y, hy⟩ : ∃ y, X[k2]? = some y := ⟨_, List.getElem?_eq_getElem (by omega)⟩
  obtain ⟨b2', o2', he, hb2, r0, r1, r2, r3⟩ := (hR.grown hg).at k2 y hy
  injection he with he
  injection he with he1 he2
  subst he1 he2
  have hpl : p ≤ X.length := by omega
  have hbr := (hg.block Bx (lt_of_block hbx) (by simp)).trans hbx
  have hbx0 : wr.cell? ⟨Bx, 0, none⟩ = some (.string (strOfNums x.key)) := by simp [World.cell?, hbr]
  have hbx1 : wr.cell? ⟨Bx, 1, none⟩ = some (.string (strOfNums x.val)) := by simp [World.cell?, hbr]
  have hbx2 : wr.cell? ⟨Bx, 2, none⟩ = some (.int .i64 x.long) := by simp [World.cell?, hbr]
  have hbx3 : wr.cell? ⟨Bx, 3, none⟩ = some (.int .u32 x.first) := by simp [World.cell?, hbr]
  have HBX := Lib.hid hbx
  have HY := Lib.hid hy
  have HRR := Lib.hid hR
  have HPL := Lib.hid hpl
  clear hK hv hR hbx hbr hg hpl hy hm
  rcases (show k2 < p ∧ k2 = j ∨ k2 = p ∧ k2 = j ∨ p < k2 ∧ k2 + 1 = j by omega) with ⟨hc, rfl⟩ | ⟨rfl, rfl⟩ | ⟨hc, rfl⟩
  · have hne : ((k2 : Int) == (p : Int)) = false := by simp; omega
    have HY1 := Lib.hid (show (insE X x p)[k2]? = some y from (insE_lt HPL.out hc).trans HY.out)
    clear hbx0 hbx1 hbx2 hbx3 HBX
    go_wp2_with ((at_builtin; refine wpList_append_own2 _ rfl _ _ 26 rfl w6.heap.size 46 i0 (.agg #[.string ByteArray.empty, .string ByteArray.empty, .int .i64 0, .int .u32 0]) 4 48 Try.underlying26 hi hz0 hz1 hz2 rfl (by decide) _ k2 _ rfl (HV.out.grown (World.grownBy_alloc wr (.cells #[.string (strOfNums y.key), .string (strOfNums y.val), .int .i64 y.long, .int .u32 y.first] 46) none)).2 ⟨wr.heap.size, 0, none⟩ 1 1 (rcl y) rfl rfl (litR wr y) (oneR y) (by unfold maxLen; omega) (by omega) (by have := HGB1.out.size; simp; omega) ?_; intro q1 w1 hown1 hgrow1 _; have HV1 := Lib.hid (VRow.push HY1.out hown1); have hg1 := grow_row (gtrans HGB1.out (World.grownBy_alloc wr (.cells #[.string (strOfNums y.key), .string (strOfNums y.val), .int .i64 y.long, .int .u32 y.first] 46) none)) (HV.out.grown (World.grownBy_alloc wr (.cells #[.string (strOfNums y.key), .string (strOfNums y.val), .int .i64 y.long, .int .u32 y.first] 46) none)).2 hgrow1; have HG1 := Lib.hid hg1; clear hown1 hgrow1 hg1))
    exact HK.out _ _ _ _ _ _ _ _ _ _ _ _ _ _ _ _ _ _ _ _ _ _ (k2 + 1) (by omega) HV1.out HG1.out
  · have heq : ((k2 : Int) == (k2 : Int)) = true := by simp
    have HY1 := Lib.hid (insE_at (x := x) HPL.out)
    have HY2 := Lib.hid (show (insE X x k2)[k2 + 1]? = some y from (insE_gt HPL.out (Nat.le_refl _)).trans HY.out)
    clear r0 r1 r2 r3
    go_wp2_with (first
      | (at_builtin; refine wpList_append_own2 _ rfl _ _ 26 rfl w6.heap.size 46 i0 (.agg #[.string ByteArray.empty, .string ByteArray.empty, .int .i64 0, .int .u32 0]) 4 48 Try.underlying26 hi hz0 hz1 hz2 rfl (by decide) _ k2 _ rfl (HV.out.grown (World.grownBy_alloc wr (.cells #[.string (strOfNums x.key), .string (strOfNums x.val), .int .i64 x.long, .int .u32 x.first] 46) none)).2 ⟨wr.heap.size, 0, none⟩ 1 1 (rcl x) rfl rfl (litR wr x) (oneR x) (by unfold maxLen; omega) (by omega) (by have := HGB1.out.size; simp; omega) ?_; intro q1 w1 hown1 hgrow1 _; have HV1 := Lib.hid (VRow.push HY1.out hown1); have hg1 := grow_row (gtrans HGB1.out (World.grownBy_alloc wr (.cells #[.string (strOfNums x.key), .string (strOfNums x.val), .int .i64 x.long, .int .u32 x.first] 46) none)) (HV.out.grown (World.grownBy_alloc wr (.cells #[.string (strOfNums x.key), .string (strOfNums x.val), .int .i64 x.long, .int .u32 x.first] 46) none)).2 hgrow1; have HG1 := Lib.hid hg1; clear hown1 hgrow1 hg1; have HGB2 := HG1; obtain ⟨b3', o3', he3, _, s0, s1, s2, s3⟩ := (HRR.out.grown HG1.out).at k2 y HY.out; injection he3 with he3; injection he3 with he31 he32; subst he31 he32)
      | (at_builtin; refine wpList_append_own2 _ rfl _ _ 26 rfl w6.heap.size 46 i0 (.agg #[.string ByteArray.empty, .string ByteArray.empty, .int .i64 0, .int .u32 0]) 4 48 Try.underlying26 hi hz0 hz1 hz2 rfl (by decide) _ (k2 + 1) _ rfl (HV1.out.grown (World.grownBy_alloc w1 (.cells #[.string (strOfNums y.key), .string (strOfNums y.val), .int .i64 y.long, .int .u32 y.first] 46) none)).2 ⟨w1.heap.size, 0, none⟩ 1 1 (rcl y) rfl rfl (litR w1 y) (oneR y) (by unfold maxLen; omega) (by omega) (by have := HGB2.out.size; simp; omega) ?_; intro q2 w2 hown2 hgrow2 _; have HV2 := Lib.hid (VRow.push HY2.out hown2); have hg2 := grow_row (gtrans HGB2.out (World.grownBy_alloc w1 (.cells #[.string (strOfNums y.key), .string (strOfNums y.val), .int .i64 y.long, .int .u32 y.first] 46) none)) (HV1.out.grown (World.grownBy_alloc w1 (.cells #[.string (strOfNums y.key), .string (strOfNums y.val), .int .i64 y.long, .int .u32 y.first] 46) none)).2 hgrow2; have HG2 := Lib.hid hg2; clear hown2 hgrow2 hg2))
    exact HK.out _ _ _ _ _ _ _ _ _ _ _ _ _ _ _ _ _ _ _ _ _ _ (k2 + 1 + 1) (by omega) HV2.out HG2.out
  · have hne : ((k2 : Int) == (p : Int)) = false := by simp; omega
    have HY1 := Lib.hid (show (insE X x p)[k2 + 1]? = some y from (insE_gt HPL.out (by omega)).trans HY.out)
    clear hbx0 hbx1 hbx2 hbx3 HBX
    go_wp2_with ((at_builtin; refine wpList_append_own2 _ rfl _ _ 26 rfl w6.heap.size 46 i0 (.agg #[.string ByteArray.empty, .string ByteArray.empty, .int .i64 0, .int .u32 0]) 4 48 Try.underlying26 hi hz0 hz1 hz2 rfl (by decide) _ (k2 + 1) _ rfl (HV.out.grown (World.grownBy_alloc wr (.cells #[.string (strOfNums y.key), .string (strOfNums y.val), .int .i64 y.long, .int .u32 y.first] 46) none)).2 ⟨wr.heap.size, 0, none⟩ 1 1 (rcl y) rfl rfl (litR wr y) (oneR y) (by unfold maxLen; omega) (by omega) (by have := HGB1.out.size; simp; omega) ?_; intro q1 w1 hown1 hgrow1 _; have HV1 := Lib.hid (VRow.push HY1.out hown1); have hg1 := grow_row (gtrans HGB1.out (World.grownBy_alloc wr (.cells #[.string (strOfNums y.key), .string (strOfNums y.val), .int .i64 y.long, .int .u32 y.first] 46) none)) (HV.out.grown (World.grownBy_alloc wr (.cells #[.string (strOfNums y.key), .string (strOfNums y.val), .int .i64 y.long, .int .u32 y.first] 46) none)).2 hgrow1; have HG1 := Lib.hid hg1; clear hown1 hgrow1 hg1))
    exact HK.out _ _ _ _ _ _ _ _ _ _ _ _ _ _ _ _ _ _ _ _ _ _ (k2 + 1 + 1) (by omega) HV1.out HG1.out

end Go.Proofs.Ytfencmidjolgfaa

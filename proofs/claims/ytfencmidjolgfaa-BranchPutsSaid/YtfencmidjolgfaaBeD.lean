/-
  Layer 5: the law's entries: a round of its inner loop, which seeks the place. Own work.
-/
import Derived.Test.YtfencmidjolgfaaBeA
import Derived.Deep.QuietTactic
import Derived.BigQuiet
namespace Go.Proofs.Ytfencmidjolgfaa
open Go.RowKit

noncomputable def entBody5 (i : Nat) : Code := ((Try.f32.body.map loopsOf).getD []).getD i .skip
noncomputable def entIn5 : Code := (loopsOf (entBody5 0)).getD 0 .skip

set_option maxRecDepth 1000000 in
set_option maxHeartbeats 8000000 in
theorem ent5_k (w6 wr : World) (m k2 b2 o2 vc Bx : Nat) (X : List En) (key : List Int) (hR : RRow5 w6 (.slice (some ⟨b2, o2, none⟩) m vc) X) (hX : ∀ x ∈ X, Byt x.key) (hm : m = X.length) (hm30 : m ≤ 30) (hlt : k2 < m) (hb : Byt key)
    (hbx : w6.cell? ⟨Bx, 0, none⟩ = some (.string (strOfNums key))) (hg : w6.grownBy wr none)
    (u40 u41 u42 u43 u44 u45 u46 u47 u48 u49 u50 u51 u52 u53 u54 u55 u56 u57 u58 u59 u60 u61 u62 v0 v2 v3 v4 v5 v6 v8 v12 v13 v14 v15 v16 v17 v18 v19 v20 v21 v22 v23 v24 v25 v26 v27 v28 v29 v30 v31 v32 v33 v34 v35 v36 v37 v38 v39 v63 v64 v65 v66 v67 v68 v69 v70 v71 v72 v73 v74 v75 v76 v77 v78 v79 v80 v81 v82 v83 v84 v85 v86 v87 v88 v89 v90 v91 v92 v93 v94 v95 v96 v97 v98 v99 v100 v101 v102 v103 v104 v105 v106 v107 v108 v109 v110 v111 v112 v113 v114 v115 v116 : Value)
    (Kc : Act → World → Prop) (Qc : Exit → Act → World → Prop)
    (hK : ∀ (x40 x41 x42 x43 x44 x45 x46 x47 x48 x49 x50 x51 x52 x53 x54 x55 x56 x57 x58 x59 x60 x61 x62 : Value) (w5 : World), w6.grownBy w5 none → Kc ⟨#[v0, .bool true, v2, v3, v4, v5, v6, .slice (some ⟨b2, o2, none⟩) m vc, v8, .pointer (some ⟨Bx, 0, none⟩), .int .i64 ((atK X key m (k2 + 1) : Nat) : Int), .int .i64 ((k2 : Int) + 1), v12, v13, v14, v15, v16, v17, v18, v19, v20, v21, v22, v23, v24, v25, v26, v27, v28, v29, v30, v31, v32, v33, v34, v35, v36, v37, v38, v39, x40, x41, x42, x43, x44, x45, x46, x47, x48, x49, x50, x51, x52, x53, x54, x55, x56, x57, x58, x59, x60, x61, x62, v63, v64, v65, v66, v67, v68, v69, v70, v71, v72, v73, v74, v75, v76, v77, v78, v79, v80, v81, v82, v83, v84, v85, v86, v87, v88, v89, v90, v91, v92, v93, v94, v95, v96, v97, v98, v99, v100, v101, v102, v103, v104, v105, v106, v107, v108, v109, v110, v111, v112, v113, v114, v115, v116], []⟩ w5) :
    Code.wp Try.prog entIn5 (Exit.then Kc Qc) ⟨#[v0, .bool true, v2, v3, v4, v5, v6, .slice (some ⟨b2, o2, none⟩) m vc, v8, .pointer (some ⟨Bx, 0, none⟩), .int .i64 ((atK X key m k2 : Nat) : Int), .int .i64 (k2 : Int), v12, v13, v14, v15, v16, v17, v18, v19, v20, v21, v22, v23, v24, v25, v26, v27, v28, v29, v30, v31, v32, v33, v34, v35, v36, v37, v38, v39, u40, u41, u42, u43, u44, u45, u46, u47, u48, u49, u50, u51, u52, u53, u54, u55, u56, u57, u58, u59, u60, u61, u62, v63, v64, v65, v66, v67, v68, v69, v70, v71, v72, v73, v74, v75, v76, v77, v78, v79, v80, v81, v82, v83, v84, v85, v86, v87, v88, v89, v90, v91, v92, v93, v94, v95, v96, v97, v98, v99, v100, v101, v102, v103, v104, v105, v106, v107, v108, v109, v110, v111, v112, v113, v114, v115, v116], []⟩ wr := by
  have HK := Lib.hid hK
  have hki : (k2 : Int) < (m : Int) := by omega
  have hk21 : IntKind.i64.wrap ((k2 : Int) + 1) = (k2 : Int) + 1 := IntWalk.i64_in _ (by omega)
  obtain ⟨y, hy⟩ : ∃ y, X[k2]? = some y := ⟨_, List.getElem?_eq_getElem (by omega)⟩
  obtain ⟨b2', o2', he, hb2, r0, r1⟩ := (hR.grown hg).at k2 y hy
  injection he with he
  injection he with he1 he2
  subst he1 he2
  have hyb := hX y (List.mem_of_getElem? hy)
  have hbr : wr.cell? ⟨Bx, 0, none⟩ = some (.string (strOfNums key)) := (World.cell?_of_block (w := w6) (hg.block Bx (World.block_lt_of_cell? _ _ hbx) (by simp))).trans hbx
  have hl := less_str hyb hb
  obtain ⟨S, hS⟩ : ∃ S, S = strOfNums y.key := ⟨_, rfl⟩
  obtain ⟨T, hT⟩ : ∃ T, T = strOfNums key := ⟨_, rfl⟩
  rw [← hS] at r0 hl
  rw [← hT] at hbr hl
  have hP := firstP_le X key
  have hlo := fun h => firstP_lo X key k2 y h hy
  have hhi := fun (h : firstP X key = k2) => firstP_hi X key y (by rw [h]; exact hy)
  have HG := Lib.hid hg
  obtain ⟨P, hPe⟩ : ∃ P, P = firstP X key := ⟨_, rfl⟩
  have ha1 : atK X key m k2 = if P < k2 then P else m := by rw [hPe]; rfl
  have ha2 : atK X key m (k2 + 1) = if P < k2 + 1 then P else m := by rw [hPe]; rfl
  rw [ha1]
  rw [ha2] at HK
  rw [← hPe] at hP hlo hhi
  rw [← hm] at hP
  clear hm hK hR hX hbx hg hy hyb hS hT hPe ha1 ha2 r1 hb
  conv => arg 2; whnf
  rcases (show k2 < P ∨ P = k2 ∨ P < k2 by omega) with hc | hc | hc
  · have hl2 : Op.bytesLess S.toList T.toList = true := by rw [hl]; simpa using hlo hc
    rw [if_neg (show ¬ P < k2 by omega)]
    rw [if_neg (show ¬ P < k2 + 1 by omega)] at HK
    clear hl hlo hhi
    go_wp2
    go_quiet (fail)
    go_wp2
    exact HK.out _ _ _ _ _ _ _ _ _ _ _ _ _ _ _ _ _ _ _ _ _ _ _  _ (gtrans HG.out ⟨rfl, rfl, rfl, Nat.le_refl _, fun _ _ _ => rfl⟩)
  · have hl2 : Op.bytesLess S.toList T.toList = false := by rw [hl]; simpa using hhi hc
    rw [if_neg (show ¬ P < k2 by omega)]
    rw [if_pos (show P < k2 + 1 by omega), hc] at HK
    have hlt2 : decide ((k2 : Int) < (m : Int)) = true := by simpa using hki
    clear hl hlo hhi
    go_wp2
    go_quiet (fail)
    go_wp2
    exact HK.out _ _ _ _ _ _ _ _ _ _ _ _ _ _ _ _ _ _ _ _ _ _ _  _ (gtrans HG.out ⟨rfl, rfl, rfl, Nat.le_refl _, fun _ _ _ => rfl⟩)
  · rw [if_pos hc]
    rw [if_pos (show P < k2 + 1 by omega)] at HK
    have hn1 : decide ((k2 : Int) < (P : Int)) = false := by simp; omega
    have hn2 : decide (k2 < P) = false := by simp; omega
    clear hlo hhi
    generalize decide (cmpL y.key key < 0) = bb at hl
    cases bb
    all_goals
      go_wp2
      go_quiet (fail)
      go_wp2
      exact HK.out _ _ _ _ _ _ _ _ _ _ _ _ _ _ _ _ _ _ _ _ _ _ _  _ (gtrans HG.out ⟨rfl, rfl, rfl, Nat.le_refl _, fun _ _ _ => rfl⟩)

end Go.Proofs.Ytfencmidjolgfaa

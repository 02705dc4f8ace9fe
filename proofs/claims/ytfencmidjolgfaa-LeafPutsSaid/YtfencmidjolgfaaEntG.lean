/-
  Layer 4: the law's entries: a round of its outer loop that lays one entry more. Own work.
-/
import Derived.Test.YtfencmidjolgfaaEntE
namespace Go.Proofs.Ytfencmidjolgfaa
open Go.RowKit

set_option maxRecDepth 1000000 in
set_option maxHeartbeats 8000000 in
theorem ent_layT (w W wr : World) (ao : Option Addr) (n c k m vc : Nat) (va : Option Addr) (l X : List En) (x : En) (h : Raws w (.slice ao n c) l) (hWb : Below w.heap.size w wr) (hf : FewP l) (hlt : k < n) (hn30 : n ≤ 30) (hx : l[k]? = some x)
    (hm : m = X.length) (hm30 : m ≤ 30) (hfi : Fine true k X) (hv : VRow W.heap.size wr (.slice va m vc) m X) (hg : W.grownBy wr none) (P0 : Nat) (hp0 : P0 = firstP X x.key) (hfd : FoundB false X x.key P0) (hpm : P0 ≤ m) (hpo : PosOf X x.key P0 ∧ ¬ FoundAt X x.key P0)
    (u9 u10 u11 u12 u13 u15 u16 u17 u18 u19 u20 u21 u22 u23 u24 u25 u26 u27 u28 u29 u30 u31 u32 u33 u34 u35 u36 u37 u38 u39 u40 u41 u42 u43 u44 u45 u46 u47 u48 u49 u50 u51 u52 u53 u54 u55 u56 u57 u58 u59 u60 u61 u62 u63 u64 u65 u66 u67 u68 u69 u70 u71 u72 u73 u74 u75 u76 u77 u78 u79 u80 u81 u82 u83 u84 v2 v3 v4 v5 v6 v14 v85 v86 v87 v88 v89 v90 v91 v92 v93 v94 v95 v96 v97 v98 v99 v100 v101 v102 v103 v104 v105 v106 v107 v108 v109 v110 v111 v112 v113 v114 v115 v116 v117 v118 : Value)
    (Kc : Act → World → Prop) (Qc : Exit → Act → World → Prop)
    (hK : ∀ (x9 x10 x11 x12 x13 x15 x16 x17 x18 x19 x20 x21 x22 x23 x24 x25 x26 x27 x28 x29 x30 x31 x32 x33 x34 x35 x36 x37 x38 x39 x40 x41 x42 x43 x44 x45 x46 x47 x48 x49 x50 x51 x52 x53 x54 x55 x56 x57 x58 x59 x60 x61 x62 x63 x64 x65 x66 x67 x68 x69 x70 x71 x72 x73 x74 x75 x76 x77 x78 x79 x80 x81 x82 x83 x84 q7 : Value) (w5 : World) (X' : List En), Fine true (k + 1) X' → VRow W.heap.size w5 q7 X'.length X' → W.grownBy w5 none → Kc ⟨#[.slice ao n c, .bool true, v2, v3, v4, v5, v6, q7, .int .i64 ((k : Int) + 1), x9, x10, x11, x12, x13, v14, x15, x16, x17, x18, x19, x20, x21, x22, x23, x24, x25, x26, x27, x28, x29, x30, x31, x32, x33, x34, x35, x36, x37, x38, x39, x40, x41, x42, x43, x44, x45, x46, x47, x48, x49, x50, x51, x52, x53, x54, x55, x56, x57, x58, x59, x60, x61, x62, x63, x64, x65, x66, x67, x68, x69, x70, x71, x72, x73, x74, x75, x76, x77, x78, x79, x80, x81, x82, x83, x84, v85, v86, v87, v88, v89, v90, v91, v92, v93, v94, v95, v96, v97, v98, v99, v100, v101, v102, v103, v104, v105, v106, v107, v108, v109, v110, v111, v112, v113, v114, v115, v116, v117, v118], []⟩ w5) :
    Code.wp Try.prog (entBody 0) (Exit.then Kc Qc) ⟨#[.slice ao n c, .bool true, v2, v3, v4, v5, v6, .slice va m vc, .int .i64 (k : Int), u9, u10, u11, u12, u13, v14, u15, u16, u17, u18, u19, u20, u21, u22, u23, u24, u25, u26, u27, u28, u29, u30, u31, u32, u33, u34, u35, u36, u37, u38, u39, u40, u41, u42, u43, u44, u45, u46, u47, u48, u49, u50, u51, u52, u53, u54, u55, u56, u57, u58, u59, u60, u61, u62, u63, u64, u65, u66, u67, u68, u69, u70, u71, u72, u73, u74, u75, u76, u77, u78, u79, u80, u81, u82, u83, u84, v85, v86, v87, v88, v89, v90, v91, v92, v93, v94, v95, v96, v97, v98, v99, v100, v101, v102, v103, v104, v105, v106, v107, v108, v109, v110, v111, v112, v113, v114, v115, v116, v117, v118], []⟩ wr := by
  obtain ⟨i0, hi, hz0, hz1, hz2⟩ := info_parts infoE4
  conv => arg 2; whnf
  have HK := Lib.hid hK
  have HN := Lib.hid h.len.1
  have H := Lib.hid h
  have HF := Lib.hid hf
  have HM := Lib.hid hm
  have HFI := Lib.hid hfi
  have HV := Lib.hid hv
  have HG := Lib.hid hg
  have HBw := Lib.hid hWb
  have hk1 : IntKind.i64.wrap ((k : Int) + 1) = (k : Int) + 1 := IntWalk.i64_in _ (by omega)
  clear hK h hf hm hfi hv hg hWb
  have hki : (k : Int) < (n : Int) := by omega
  obtain ⟨b, o, rfl, hb, a1, c1, a2, c2, s1, s2, b1, b2, bl, bf, q0, q1, q2, q3⟩ := H.out.at k x hx
  have hxf := HF.out.1 x (List.mem_of_getElem? hx)
  have HXO := Lib.hid (show EnOk x ∧ x.key.length ≤ 120 ∧ x.val.length ≤ 600 from ⟨⟨b1, b2, by omega, by omega, bl.1, bl.2, bf.1, bf.2⟩, hxf⟩)
  have HSK := Lib.hid (show ∀ w' : World, (∀ i, i < w.heap.size → w'.heap[i]? = wr.heap[i]?) → (fun w' => w'.cell? ⟨b, o + k * 4, none⟩ = some (.slice a1 x.key.length c1) ∧ w'.cell? ⟨b, o + k * 4 + 1, none⟩ = some (.slice a2 x.val.length c2) ∧ w'.cell? ⟨b, o + k * 4 + 2, none⟩ = some (.int .i64 x.long) ∧ w'.cell? ⟨b, o + k * 4 + 3, none⟩ = some (.int .u32 x.first) ∧ (convert 29 9 (.slice a1 x.key.length c1)).run Try.prog w' = .ok (.string (strOfNums x.key)) w' ∧ (convert 29 9 (.slice a2 x.val.length c2)).run Try.prog w' = .ok (.string (strOfNums x.val)) w') w' from fun w' hw' => ⟨(World.cell?_of_block (w := wr) (hw' b hb)).trans ((HBw.out.cell (p := ⟨b, o + k * 4, none⟩) hb).trans q0), (World.cell?_of_block (w := wr) (hw' b hb)).trans ((HBw.out.cell (p := ⟨b, o + k * 4 + 1, none⟩) hb).trans q1), (World.cell?_of_block (w := wr) (hw' b hb)).trans ((HBw.out.cell (p := ⟨b, o + k * 4 + 2, none⟩) hb).trans q2), (World.cell?_of_block (w := wr) (hw' b hb)).trans ((HBw.out.cell (p := ⟨b, o + k * 4 + 3, none⟩) hb).trans q3),
    seq_string (s1.below (fun i hi => (hw' i hi).trans (HBw.out.block i hi))), seq_string (s2.below (fun i hi => (hw' i hi).trans (HBw.out.block i hi)))⟩)
  have HLW := Lib.hid (show ∀ i, i < w.heap.size → i < wr.heap.size from fun i hi => Nat.lt_of_lt_of_le hi HBw.out.size)
  clear q0 q1 q2 q3 s1 s2 b1 b2 bl bf hx hxf
  go_wp2
  go_region_held3 (fun w' => w'.cell? ⟨b, o + k * 4, none⟩ = some (.slice a1 x.key.length c1) ∧ w'.cell? ⟨b, o + k * 4 + 1, none⟩ = some (.slice a2 x.val.length c2) ∧ w'.cell? ⟨b, o + k * 4 + 2, none⟩ = some (.int .i64 x.long) ∧ w'.cell? ⟨b, o + k * 4 + 3, none⟩ = some (.int .u32 x.first) ∧ (convert 29 9 (.slice a1 x.key.length c1)).run Try.prog w' = .ok (.string (strOfNums x.key)) w' ∧ (convert 29 9 (.slice a2 x.val.length c2)).run Try.prog w' = .ok (.string (strOfNums x.val)) w')
    (first | (exact HSK.out _ (fun i hi => rfl)) | (exact HSK.out _ (fun i hi => Below.heap_alloc wr _ i (HLW.out i hi))))
    (fail)
  have hg5 : wr.grownBy (wr.alloc (.cells #[.string (strOfNums x.key), .string (strOfNums x.val), .int .i64 x.long, .int .u32 x.first] 46)).drew none := gtrans (World.grownBy_alloc _ _ _) (gdrew _)
  have hb5 : (wr.alloc (.cells #[.string (strOfNums x.key), .string (strOfNums x.val), .int .i64 x.long, .int .u32 x.first] 46)).drew.heap[wr.heap.size]? = some (.cells #[.string (strOfNums x.key), .string (strOfNums x.val), .int .i64 x.long, .int .u32 x.first] 46 (0, 0)) := heap_alloc_new wr _
  generalize (wr.alloc (.cells #[.string (strOfNums x.key), .string (strOfNums x.val), .int .i64 x.long, .int .u32 x.first] 46)).drew = w5 at *
  generalize wr.heap.size = Bx at *
  have HB5 := Lib.hid hb5
  have HV5 := Lib.hid (HV.out.grown hg5)
  have HR5 := Lib.hid (HV5.out.rrow HM.out (by have := HM.out; omega))
  have HG5 := Lib.hid (gtrans HG.out hg5)
  have c50 : w5.cell? ⟨Bx, 0, none⟩ = some (.string (strOfNums x.key)) := by simp [World.cell?, hb5]
  have HEO := Lib.hid (fun y hy => (HFI.out.ok y hy).1)
  have HFD := Lib.hid hfd
  have HP0 := Lib.hid hp0
  clear hfd hb5 hg5 hp0
  have HPO := Lib.hid hpo
  have HPL := Lib.hid (show P0 ≤ X.length by rw [← HM.out]; omega)
  have HR5x := HR5
  clear hpo
  go_wp2_with (go_at_call 28; have Kc := rfind_at HR5.out HEO.out HXO.out.1.k HP0.out HFD.out; ((with_reducible refine Kc.mono ?_); clear Kc; rintro r w6 ⟨rfl, hg6⟩); have HG6 := Lib.hid (gtrans HG5.out hg6); have HV6 := Lib.hid (HV5.out.grown hg6); have HB6 := Lib.hid ((hg6.block Bx (lt_of_block HB5.out) (by simp)).trans HB5.out); clear hg6)
  have HR6 := Lib.hid (HV6.out.rrow HM.out (by have := HM.out; omega))
  clear HR5 HR5x HV5 HV HB5 HG5 HSK H
  go_loopg [12, 13] m (fun q2 v i wr2 => ∃ (k2 j : Nat), k2 + q2 = m ∧ i = .int .i64 (k2 : Int) ∧ (k2 ≤ P0 ∧ j = k2 ∨ P0 < k2 ∧ j = k2 + 1) ∧ VRow w6.heap.size wr2 v j (insE X x P0) ∧ w6.grownBy wr2 none)
  case atStart => exact ⟨0, 0, by omega, rfl, .inl ⟨Nat.zero_le _, rfl⟩, VRow.nil _ _ _, grefl _ _⟩
  case round =>
    rename_i J1 K1 hJ1 hK1
    obtain ⟨k2, j, hkq2, rfl, hj, hv2, hg2⟩ := hrel
    obtain ⟨la, lc, rfl⟩ := hv2.shape
    by_cases hlt2 : k2 < m
    · obtain ⟨q, rfl⟩ : ∃ q, gk = q + 1 := ⟨gk - 1, by omega⟩
      obtain ⟨y2, hy2⟩ : ∃ y2, X[k2]? = some y2 := ⟨_, List.getElem?_eq_getElem (by have := HM.out; omega)⟩
      obtain ⟨b2, o2, rfl, _⟩ := HR6.out.at k2 y2 hy2
      exact ent_k w6 wr m k2 j P0 b2 o2 vc Bx lc la X x HR6.out HM.out hm30 hlt2 (by omega) HB6.out hj hv2 hg2 _ _ _ _ _ _ _ _ _ _ _ _ _ _ _ _ _ _ _ _ _ _ _ _ _ _ _ _ _ _ _ _ _ _ _ _ _ _ _ _ _ _ _ _ _ _ _ _ _ _ _ _ _ _ _ _ _ _ _ _ _ _ _ _ _ _ _ _ _ _ _ _ _ _ _ _ _ _ _ _ _ _ _ _ _ _ _ _ _ _ _ _ _ _ _ _ _ _ _ _ _ _ _ _ _ _ _ _ _ _ _ _ _ _ _ _ (fun x56 x57 x58 x59 x60 x61 x62 x63 x64 x65 x66 x67 x68 x69 x70 x71 x72 x73 x74 x75 q12 w5 j' h1 h2 h3 => hK1 _ _ (Handed.intro q (by omega) (hJ1 _ _ _ ⟨q12, .int .i64 ((k2 : Int) + 1), x56, x57, x58, x59, x60, x61, x62, x63, x64, x65, x66, x67, x68, x69, x70, x71, x72, x73, x74, x75, ⟨k2 + 1, j', by omega, by go_num, h1, h2, h3⟩, rfl⟩)))
    · obtain rfl : k2 = m := by omega
      have HV2 := Lib.hid hv2
      have HG2 := Lib.hid hg2
      have HXF := Lib.hid (HFI.out.ins (x := x) HXO.out HPL.out (fun _ => HPO.out))
      have HBL := Lib.hid (HG6.out.size)
      have HLN := Lib.hid (show (insE X x P0).length = k2 + 1 by rw [insE_len HPL.out, ← HM.out])
      have hbr := (hg2.block Bx (lt_of_block HB6.out) (by simp)).trans HB6.out
      have hbx0 : wr.cell? ⟨Bx, 0, none⟩ = some (.string (strOfNums x.key)) := by simp [World.cell?, hbr]
      have hbx1 : wr.cell? ⟨Bx, 1, none⟩ = some (.string (strOfNums x.val)) := by simp [World.cell?, hbr]
      have hbx2 : wr.cell? ⟨Bx, 2, none⟩ = some (.int .i64 x.long) := by simp [World.cell?, hbr]
      have hbx3 : wr.cell? ⟨Bx, 3, none⟩ = some (.int .u32 x.first) := by simp [World.cell?, hbr]
      clear hv2 hg2 hbr hJ1 hK1
      by_cases hpk : P0 < k2
      · obtain rfl : j = k2 + 1 := by omega
        have hd1 : decide ((k2 : Int) ≤ (P0 : Int)) = false := by simp; omega
        have hd2 : ¬ (k2 : Int) ≤ (P0 : Int) := by omega
        go_wp2
        exact HK.out _ _ _ _ _ _ _ _ _ _ _ _ _ _ _ _ _ _ _ _ _ _ _ _ _ _ _ _ _ _ _ _ _ _ _ _ _ _ _ _ _ _ _ _ _ _ _ _ _ _ _ _ _ _ _ _ _ _ _ _ _ _ _ _ _ _ _ _ _ _ _ _ _ _ _ _ _ (insE X x P0) HXF.out (by rw [HLN.out]; exact HV2.out.base HBL.out) (gtrans HG6.out HG2.out)
      · obtain rfl : k2 = P0 := by omega
        obtain rfl : k2 = j := by omega
        have HYP := Lib.hid (show (insE X x k2)[k2]? = some x from insE_at HPL.out)
        have hge : (k2 : Int) ≤ (k2 : Int) := by omega
        go_wp2_with (at_builtin; refine wpList_append_own2 _ rfl _ _ 26 rfl w6.heap.size 46 i0 (.agg #[.string ByteArray.empty, .string ByteArray.empty, .int .i64 0, .int .u32 0]) 4 48 Try.underlying26 hi hz0 hz1 hz2 rfl (by decide) _ k2 _ rfl (HV2.out.grown (World.grownBy_alloc wr (.cells #[.string (strOfNums x.key), .string (strOfNums x.val), .int .i64 x.long, .int .u32 x.first] 46) none)).2 ⟨wr.heap.size, 0, none⟩ 1 1 (rcl x) rfl rfl (litR wr x) (oneR x) (by unfold maxLen; omega) (by omega) (by have := HG2.out.size; simp; omega) ?_; intro q1 w1 hown1 hgrow1 _; have HV3 := Lib.hid (VRow.push HYP.out hown1); have hg1 := grow_row (gtrans HG2.out (World.grownBy_alloc wr (.cells #[.string (strOfNums x.key), .string (strOfNums x.val), .int .i64 x.long, .int .u32 x.first] 46) none)) (HV2.out.grown (World.grownBy_alloc wr (.cells #[.string (strOfNums x.key), .string (strOfNums x.val), .int .i64 x.long, .int .u32 x.first] 46) none)).2 hgrow1; have HG3 := Lib.hid hg1; clear hown1 hgrow1 hg1)
        exact HK.out _ _ _ _ _ _ _ _ _ _ _ _ _ _ _ _ _ _ _ _ _ _ _ _ _ _ _ _ _ _ _ _ _ _ _ _ _ _ _ _ _ _ _ _ _ _ _ _ _ _ _ _ _ _ _ _ _ _ _ _ _ _ _ _ _ _ _ _ _ _ _ _ _ _ _ _ _ (insE X x k2) HXF.out (by rw [HLN.out]; exact HV3.out.base HBL.out) (gtrans HG6.out HG3.out)

end Go.Proofs.Ytfencmidjolgfaa

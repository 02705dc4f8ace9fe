/-
  Layer 5: the law's entries: a round of its outer loop that lays one entry more behind the rest. Own work.
-/
import Derived.Test.YtfencmidjolgfaaBeG
namespace Go.Proofs.Ytfencmidjolgfaa
open Go.RowKit

set_option maxRecDepth 1000000 in
set_option maxHeartbeats 8000000 in
theorem ent5_layF (w W wr : World) (ao : Option Addr) (n c k m vc : Nat) (va : Option Addr) (l X : List En) (x : En) (h : Raws5 w (.slice ao n c) l) (hWb : Below w.heap.size w wr) (hf : FewP5 l) (hlt : k < n) (hn30 : n ≤ 30) (hx : l[k]? = some x)
    (hm : m = X.length) (hm30 : m ≤ 30) (hfi : Fine5 false k X) (hv : ERow W.heap.size wr (.slice va m vc) X) (hg : W.grownBy wr none)
    (u9 u10 u11 u12 u14 u15 u16 u17 u18 u19 u20 u21 u22 u23 u24 u25 u26 u27 u28 u29 u30 u31 u32 u33 u34 u35 u36 u37 u38 u39 u40 u41 u42 u43 u44 u45 u46 u47 u48 u49 u50 u51 u52 u53 u54 u55 u56 u57 u58 u59 u60 u61 u62 u63 u64 u65 u66 u67 u68 u69 u70 u71 u72 u73 u74 u75 u76 u77 u78 u79 u80 u81 u82 u83 u84 u85 u86 u87 u88 u89 u90 u91 u92 u93 v2 v3 v4 v5 v6 v13 v94 v95 v96 v97 v98 v99 v100 v101 v102 v103 v104 v105 v106 v107 v108 v109 v110 v111 v112 v113 v114 v115 v116 : Value)
    (Kc : Act → World → Prop) (Qc : Exit → Act → World → Prop)
    (hK : ∀ (x9 x10 x11 x12 x14 x15 x16 x17 x18 x19 x20 x21 x22 x23 x24 x25 x26 x27 x28 x29 x30 x31 x32 x33 x34 x35 x36 x37 x38 x39 x40 x41 x42 x43 x44 x45 x46 x47 x48 x49 x50 x51 x52 x53 x54 x55 x56 x57 x58 x59 x60 x61 x62 x63 x64 x65 x66 x67 x68 x69 x70 x71 x72 x73 x74 x75 x76 x77 x78 x79 x80 x81 x82 x83 x84 x85 x86 x87 x88 x89 x90 x91 x92 x93 q7 : Value) (w5 : World) (X' : List En), Fine5 false (k + 1) X' → ERow W.heap.size w5 q7 X' → W.grownBy w5 none → Kc ⟨#[.slice ao n c, .bool false, v2, v3, v4, v5, v6, q7, .int .i64 ((k : Int) + 1), x9, x10, x11, x12, v13, x14, x15, x16, x17, x18, x19, x20, x21, x22, x23, x24, x25, x26, x27, x28, x29, x30, x31, x32, x33, x34, x35, x36, x37, x38, x39, x40, x41, x42, x43, x44, x45, x46, x47, x48, x49, x50, x51, x52, x53, x54, x55, x56, x57, x58, x59, x60, x61, x62, x63, x64, x65, x66, x67, x68, x69, x70, x71, x72, x73, x74, x75, x76, x77, x78, x79, x80, x81, x82, x83, x84, x85, x86, x87, x88, x89, x90, x91, x92, x93, v94, v95, v96, v97, v98, v99, v100, v101, v102, v103, v104, v105, v106, v107, v108, v109, v110, v111, v112, v113, v114, v115, v116], []⟩ w5) :
    Code.wp Try.prog (entBody5 0) (Exit.then Kc Qc) ⟨#[.slice ao n c, .bool false, v2, v3, v4, v5, v6, .slice va m vc, .int .i64 (k : Int), u9, u10, u11, u12, v13, u14, u15, u16, u17, u18, u19, u20, u21, u22, u23, u24, u25, u26, u27, u28, u29, u30, u31, u32, u33, u34, u35, u36, u37, u38, u39, u40, u41, u42, u43, u44, u45, u46, u47, u48, u49, u50, u51, u52, u53, u54, u55, u56, u57, u58, u59, u60, u61, u62, u63, u64, u65, u66, u67, u68, u69, u70, u71, u72, u73, u74, u75, u76, u77, u78, u79, u80, u81, u82, u83, u84, u85, u86, u87, u88, u89, u90, u91, u92, u93, v94, v95, v96, v97, v98, v99, v100, v101, v102, v103, v104, v105, v106, v107, v108, v109, v110, v111, v112, v113, v114, v115, v116], []⟩ wr := by
  obtain ⟨i0, hi, hz0, hz1, hz2⟩ := info_parts infoE5
  conv => arg 2; whnf
  have HK := Lib.hid hK
  have H := Lib.hid h
  have HF := Lib.hid hf
  have HM := Lib.hid hm
  have HFI := Lib.hid hfi
  have HV := Lib.hid hv
  have HG := Lib.hid hg
  have HBw := Lib.hid hWb
  have hk1 : IntKind.i64.wrap ((k : Int) + 1) = (k : Int) + 1 := IntWalk.i64_in _ (by omega)
  clear hK h hf hm hfi hv hg hWb
  have hki : (k : Int) < (n : Int) := by omega
  obtain ⟨b, o, rfl, hb, a1, c1, s1, bk, bv, bl, bf, q0, q1⟩ := H.out.at k x hx
  have hxf := HF.out.1 x (List.mem_of_getElem? hx)
  have HXO := Lib.hid (show BOk x ∧ x.key.length ≤ 120 from ⟨⟨⟨bk, (by rw [bv]; exact (fun y hy => by cases hy)), by omega, (by rw [bv]; simp), by omega, by omega, bf.1, bf.2⟩, bv, bl⟩, hxf⟩)
  have HSK := Lib.hid (show ∀ w' : World, (∀ i, i < w.heap.size → w'.heap[i]? = wr.heap[i]?) → (fun w' => w'.cell? ⟨b, o + k * 2, none⟩ = some (.slice a1 x.key.length c1) ∧ w'.cell? ⟨b, o + k * 2 + 1, none⟩ = some (.int .u32 x.first) ∧ (convert 29 9 (.slice a1 x.key.length c1)).run Try.prog w' = .ok (.string (strOfNums x.key)) w') w' from fun w' hw' => ⟨(World.cell?_of_block (w := wr) (hw' b hb)).trans ((HBw.out.cell (p := ⟨b, o + k * 2, none⟩) hb).trans q0), (World.cell?_of_block (w := wr) (hw' b hb)).trans ((HBw.out.cell (p := ⟨b, o + k * 2 + 1, none⟩) hb).trans q1),
    seq_string (s1.below (fun i hi => (hw' i hi).trans (HBw.out.block i hi)))⟩)
  have HLW := Lib.hid (show ∀ i, i < w.heap.size → i < wr.heap.size from fun i hi => Nat.lt_of_lt_of_le hi HBw.out.size)
  clear q0 q1 s1 bk bv bl bf hx hxf
  go_wp2
  go_region_held3 (fun w' => w'.cell? ⟨b, o + k * 2, none⟩ = some (.slice a1 x.key.length c1) ∧ w'.cell? ⟨b, o + k * 2 + 1, none⟩ = some (.int .u32 x.first) ∧ (convert 29 9 (.slice a1 x.key.length c1)).run Try.prog w' = .ok (.string (strOfNums x.key)) w')
    (first | (exact HSK.out _ (fun i hi => rfl)) | (exact HSK.out _ (fun i hi => Below.heap_alloc wr _ i (HLW.out i hi))))
    (fail)
  have hg5 : wr.grownBy (wr.alloc (.cells #[.string (strOfNums x.key), .int .u32 x.first] 81)).drew none := gtrans (World.grownBy_alloc _ _ _) (gdrew _)
  have hb5 : (wr.alloc (.cells #[.string (strOfNums x.key), .int .u32 x.first] 81)).drew.heap[wr.heap.size]? = some (.cells #[.string (strOfNums x.key), .int .u32 x.first] 81 (0, 0)) := heap_alloc_new wr _
  have HBX0 := Lib.hid HG.out.size
  generalize (wr.alloc (.cells #[.string (strOfNums x.key), .int .u32 x.first] 81)).drew = w5 at *
  generalize wr.heap.size = Bx at *
  obtain ⟨w6, hw6⟩ : ∃ w6, w6 = w5 := ⟨w5, rfl⟩
  subst hw6
  have HV6 := Lib.hid (HV.out.grown hg5)
  have HC6 := Lib.hid (two_cells2 hb5).1
  have HB6 := Lib.hid hb5
  have HG6 := Lib.hid (gtrans HG.out hg5)
  have HXK := Lib.hid HXO.out.1.ok.k
  clear hb5 hg5
  have HR6 := Lib.hid (HV6.out.rrow (by have := HM.out; omega))
  clear HSK H HV
  go_wp2
  go_loopg [10, 11] m (fun q2 v i wr2 => i = .int .i64 0 ∧ v = .int .i64 (m : Int) ∧ w6.grownBy wr2 none)
  case atStart => exact ⟨rfl, rfl, grefl _ _⟩
  case round =>
    rename_i J1 K1 hJ1 hK1
    obtain ⟨rfl, rfl, hg2⟩ := hrel
    have HG2 := Lib.hid hg2
    have HPL := Lib.hid (show m ≤ X.length by have := HM.out; omega)
    have HXF := Lib.hid (HFI.out.ins HXO.out HPL.out (fun e => by cases e))
    obtain ⟨hvn, hmc⟩ := HV6.out.cap
    have HZ := Lib.hid hvn
    have HDR := Lib.hid (show (X.drop m).flatMap rcl5 = [] by rw [HM.out]; simp)
    clear hJ1 hK1 hg2 hvn
    rcases Nat.eq_zero_or_pos m with h0 | h0
    · have h1 : decide ((0 : Int) < (m : Int)) = false := by simp; omega
      have h2 : ¬ 0 < m := by omega
      have h3 : ¬ (0 : Int) < (m : Int) := by omega
      have H0 := Lib.hid h0
      clear h0
      rcases va with _ | ⟨b2, o2, v2'⟩
      · go_wp2
        go_quiet (fail)
        have HGq := Lib.hid (gtrans HG2.out (⟨rfl, rfl, rfl, Nat.le_refl _, fun _ _ _ => rfl⟩ : wr.grownBy (wr.drewN nq) none))
        have HBQ := Lib.hid (fun (w' : World) (h : w6.grownBy w' none) => (h.block Bx (lt_of_block HB6.out) (by simp)).trans HB6.out)
        generalize wr.drewN nq = wq at *
        go_wp2_with (first
          | (at_builtin; refine wpList_append_any _ rfl _ _ 65 rfl w6.heap.size 81 i0 (.agg #[.string ByteArray.empty, .int .u32 0]) 2 24 Try.underlying65 hi hz0 hz1 hz2 rfl (by decide) (.slice none 0 0) 0 [] rfl ⟨rfl, .inl ⟨rfl, rfl⟩⟩ _ m _ ((X.take m).flatMap rcl5) rfl (by rw [rflat5_len, List.length_take, Nat.min_eq_left HPL.out]) (by first | (intro h; cases h; done) | exact HZ.out | exact fun _ => HZ.out trivial | exact fun _ => rfl) (by intro ad h; first | (cases h; done) | (cases h; simpa using RRow5.news (HR6.out.grown HGq.out) 0 (X.take m) (fun i x h => by rw [Nat.zero_add]; exact take_some h))) (oneR5 _) (by unfold maxLen; omega) (by omega) HGq.out.size ?_; intro q1 w1 hown1 hgrow1; have hg1 := gtrans HGq.out hgrow1; have HG1 := Lib.hid hg1; obtain ⟨hbx0, hbx1⟩ := two_cells2 (HBQ.out w1 hg1); rw [Nat.zero_add] at hown1; have HOW1 := Lib.hid hown1; clear hown1 hgrow1 hg1)
          | (at_builtin; refine wpList_append_any _ rfl _ _ 65 rfl w6.heap.size 81 i0 (.agg #[.string ByteArray.empty, .int .u32 0]) 2 24 Try.underlying65 hi hz0 hz1 hz2 rfl (by decide) q1 m ([] ++ (X.take m).flatMap rcl5) rfl (HOW1.out.kept (World.grownBy_alloc w1 _ none) (by cases q1.ownBlock <;> simp)) (some ⟨w1.heap.size, 0, none⟩) 1 1 (rcl5 x) rfl rfl (fun h => by cases h) (fun ad h => by cases h; exact litR5 w1 x) (one5 x) (by unfold maxLen; omega) (by omega) (by have := HG1.out.size; simp; omega) ?_; intro q2 w2 hown2 hgrow2; have HG2b := Lib.hid (grow_row (gtrans HG1.out (World.grownBy_alloc w1 _ none)) (HOW1.out.kept (World.grownBy_alloc w1 _ none) (by cases q1.ownBlock <;> simp)) hgrow2); have HOW2 := Lib.hid hown2; clear hown2 hgrow2 hbx0 hbx1)
          | (at_builtin; refine wpList_append_any _ rfl _ _ 65 rfl w6.heap.size 81 i0 (.agg #[.string ByteArray.empty, .int .u32 0]) 2 24 Try.underlying65 hi hz0 hz1 hz2 rfl (by decide) q2 (m + 1) _ rfl HOW2.out _ _ _ ((X.drop m).flatMap rcl5) rfl (by rw [HDR.out]; simp) (by intro _; omega) (by intro ad h j u hj; rw [HDR.out] at hj; cases hj) (oneR5 _) (by unfold maxLen; omega) (by omega) HG2b.out.size ?_; intro q3 w3 hown3 hgrow3; have HG3 := Lib.hid (grow_row HG2b.out HOW2.out hgrow3); have HOW3 := Lib.hid hown3; clear hown3 hgrow3))
        exact HK.out _ _ _ _ _ _ _ _ _ _ _ _ _ _ _ _ _ _ _ _ _ _ _ _ _ _ _ _ _ _ _ _ _ _ _ _ _ _ _ _ _ _ _ _ _ _ _ _ _ _ _ _ _ _ _ _ _ _ _ _ _ _ _ _ _ _ _ _ _ _ _ _ _ _ _ _ _ _ _ _ _ _ _ _ _ _ (insE X x m) HXF.out (ERow.ins HOW3.out (by have := HM.out; omega) HPL.out HG6.out.size) (gtrans HG6.out HG3.out)
      · obtain rfl := HV6.out.path
        by_cases hvP : vc = m
        · obtain rfl : m = vc := hvP.symm
          go_wp2
          go_quiet (fail)
          have HGq := Lib.hid (gtrans HG2.out (⟨rfl, rfl, rfl, Nat.le_refl _, fun _ _ _ => rfl⟩ : wr.grownBy (wr.drewN nq) none))
          have HBQ := Lib.hid (fun (w' : World) (h : w6.grownBy w' none) => (h.block Bx (lt_of_block HB6.out) (by simp)).trans HB6.out)
          generalize wr.drewN nq = wq at *
          go_wp2_with (first
            | (at_builtin; refine wpList_append_any _ rfl _ _ 65 rfl w6.heap.size 81 i0 (.agg #[.string ByteArray.empty, .int .u32 0]) 2 24 Try.underlying65 hi hz0 hz1 hz2 rfl (by decide) (.slice none 0 0) 0 [] rfl ⟨rfl, .inl ⟨rfl, rfl⟩⟩ _ m _ ((X.take m).flatMap rcl5) rfl (by rw [rflat5_len, List.length_take, Nat.min_eq_left HPL.out]) (by first | (intro h; cases h; done) | exact HZ.out | exact fun _ => HZ.out trivial | exact fun _ => rfl) (by intro ad h; first | (cases h; done) | (cases h; simpa using RRow5.news (HR6.out.grown HGq.out) 0 (X.take m) (fun i x h => by rw [Nat.zero_add]; exact take_some h))) (oneR5 _) (by unfold maxLen; omega) (by omega) HGq.out.size ?_; intro q1 w1 hown1 hgrow1; have hg1 := gtrans HGq.out hgrow1; have HG1 := Lib.hid hg1; obtain ⟨hbx0, hbx1⟩ := two_cells2 (HBQ.out w1 hg1); rw [Nat.zero_add] at hown1; have HOW1 := Lib.hid hown1; clear hown1 hgrow1 hg1)
            | (at_builtin; refine wpList_append_any _ rfl _ _ 65 rfl w6.heap.size 81 i0 (.agg #[.string ByteArray.empty, .int .u32 0]) 2 24 Try.underlying65 hi hz0 hz1 hz2 rfl (by decide) q1 m ([] ++ (X.take m).flatMap rcl5) rfl (HOW1.out.kept (World.grownBy_alloc w1 _ none) (by cases q1.ownBlock <;> simp)) (some ⟨w1.heap.size, 0, none⟩) 1 1 (rcl5 x) rfl rfl (fun h => by cases h) (fun ad h => by cases h; exact litR5 w1 x) (one5 x) (by unfold maxLen; omega) (by omega) (by have := HG1.out.size; simp; omega) ?_; intro q2 w2 hown2 hgrow2; have HG2b := Lib.hid (grow_row (gtrans HG1.out (World.grownBy_alloc w1 _ none)) (HOW1.out.kept (World.grownBy_alloc w1 _ none) (by cases q1.ownBlock <;> simp)) hgrow2); have HOW2 := Lib.hid hown2; clear hown2 hgrow2 hbx0 hbx1)
            | (at_builtin; refine wpList_append_any _ rfl _ _ 65 rfl w6.heap.size 81 i0 (.agg #[.string ByteArray.empty, .int .u32 0]) 2 24 Try.underlying65 hi hz0 hz1 hz2 rfl (by decide) q2 (m + 1) _ rfl HOW2.out _ _ _ ((X.drop m).flatMap rcl5) rfl (by rw [HDR.out]; simp) (by intro _; omega) (by intro ad h j u hj; rw [HDR.out] at hj; cases hj) (oneR5 _) (by unfold maxLen; omega) (by omega) HG2b.out.size ?_; intro q3 w3 hown3 hgrow3; have HG3 := Lib.hid (grow_row HG2b.out HOW2.out hgrow3); have HOW3 := Lib.hid hown3; clear hown3 hgrow3))
          exact HK.out _ _ _ _ _ _ _ _ _ _ _ _ _ _ _ _ _ _ _ _ _ _ _ _ _ _ _ _ _ _ _ _ _ _ _ _ _ _ _ _ _ _ _ _ _ _ _ _ _ _ _ _ _ _ _ _ _ _ _ _ _ _ _ _ _ _ _ _ _ _ _ _ _ _ _ _ _ _ _ _ _ _ _ _ _ _ (insE X x m) HXF.out (ERow.ins HOW3.out (by have := HM.out; omega) HPL.out HG6.out.size) (gtrans HG6.out HG3.out)
        · go_wp2
          go_quiet (fail)
          have HGq := Lib.hid (gtrans HG2.out (⟨rfl, rfl, rfl, Nat.le_refl _, fun _ _ _ => rfl⟩ : wr.grownBy (wr.drewN nq) none))
          have HBQ := Lib.hid (fun (w' : World) (h : w6.grownBy w' none) => (h.block Bx (lt_of_block HB6.out) (by simp)).trans HB6.out)
          generalize wr.drewN nq = wq at *
          go_wp2_with (first
            | (at_builtin; refine wpList_append_any _ rfl _ _ 65 rfl w6.heap.size 81 i0 (.agg #[.string ByteArray.empty, .int .u32 0]) 2 24 Try.underlying65 hi hz0 hz1 hz2 rfl (by decide) (.slice none 0 0) 0 [] rfl ⟨rfl, .inl ⟨rfl, rfl⟩⟩ _ m _ ((X.take m).flatMap rcl5) rfl (by rw [rflat5_len, List.length_take, Nat.min_eq_left HPL.out]) (by first | (intro h; cases h; done) | exact HZ.out | exact fun _ => HZ.out trivial | exact fun _ => rfl) (by intro ad h; first | (cases h; done) | (cases h; simpa using RRow5.news (HR6.out.grown HGq.out) 0 (X.take m) (fun i x h => by rw [Nat.zero_add]; exact take_some h))) (oneR5 _) (by unfold maxLen; omega) (by omega) HGq.out.size ?_; intro q1 w1 hown1 hgrow1; have hg1 := gtrans HGq.out hgrow1; have HG1 := Lib.hid hg1; obtain ⟨hbx0, hbx1⟩ := two_cells2 (HBQ.out w1 hg1); rw [Nat.zero_add] at hown1; have HOW1 := Lib.hid hown1; clear hown1 hgrow1 hg1)
            | (at_builtin; refine wpList_append_any _ rfl _ _ 65 rfl w6.heap.size 81 i0 (.agg #[.string ByteArray.empty, .int .u32 0]) 2 24 Try.underlying65 hi hz0 hz1 hz2 rfl (by decide) q1 m ([] ++ (X.take m).flatMap rcl5) rfl (HOW1.out.kept (World.grownBy_alloc w1 _ none) (by cases q1.ownBlock <;> simp)) (some ⟨w1.heap.size, 0, none⟩) 1 1 (rcl5 x) rfl rfl (fun h => by cases h) (fun ad h => by cases h; exact litR5 w1 x) (one5 x) (by unfold maxLen; omega) (by omega) (by have := HG1.out.size; simp; omega) ?_; intro q2 w2 hown2 hgrow2; have HG2b := Lib.hid (grow_row (gtrans HG1.out (World.grownBy_alloc w1 _ none)) (HOW1.out.kept (World.grownBy_alloc w1 _ none) (by cases q1.ownBlock <;> simp)) hgrow2); have HOW2 := Lib.hid hown2; clear hown2 hgrow2 hbx0 hbx1)
            | (at_builtin; refine wpList_append_any _ rfl _ _ 65 rfl w6.heap.size 81 i0 (.agg #[.string ByteArray.empty, .int .u32 0]) 2 24 Try.underlying65 hi hz0 hz1 hz2 rfl (by decide) q2 (m + 1) _ rfl HOW2.out _ _ _ ((X.drop m).flatMap rcl5) rfl (by rw [HDR.out]; simp) (by intro _; omega) (by intro ad h j u hj; rw [HDR.out] at hj; cases hj) (oneR5 _) (by unfold maxLen; omega) (by omega) HG2b.out.size ?_; intro q3 w3 hown3 hgrow3; have HG3 := Lib.hid (grow_row HG2b.out HOW2.out hgrow3); have HOW3 := Lib.hid hown3; clear hown3 hgrow3))
          exact HK.out _ _ _ _ _ _ _ _ _ _ _ _ _ _ _ _ _ _ _ _ _ _ _ _ _ _ _ _ _ _ _ _ _ _ _ _ _ _ _ _ _ _ _ _ _ _ _ _ _ _ _ _ _ _ _ _ _ _ _ _ _ _ _ _ _ _ _ _ _ _ _ _ _ _ _ _ _ _ _ _ _ _ _ _ _ _ (insE X x m) HXF.out (ERow.ins HOW3.out (by have := HM.out; omega) HPL.out HG6.out.size) (gtrans HG6.out HG3.out)
    · have h1 : decide ((0 : Int) < (m : Int)) = true := by simp; omega
      have h3 : (0 : Int) < (m : Int) := by omega
      rcases va with _ | ⟨b2, o2, v2'⟩
      · go_wp2
        go_quiet (fail)
        have HGq := Lib.hid (gtrans HG2.out (⟨rfl, rfl, rfl, Nat.le_refl _, fun _ _ _ => rfl⟩ : wr.grownBy (wr.drewN nq) none))
        have HBQ := Lib.hid (fun (w' : World) (h : w6.grownBy w' none) => (h.block Bx (lt_of_block HB6.out) (by simp)).trans HB6.out)
        generalize wr.drewN nq = wq at *
        go_wp2_with (first
          | (at_builtin; refine wpList_append_any _ rfl _ _ 65 rfl w6.heap.size 81 i0 (.agg #[.string ByteArray.empty, .int .u32 0]) 2 24 Try.underlying65 hi hz0 hz1 hz2 rfl (by decide) (.slice none 0 0) 0 [] rfl ⟨rfl, .inl ⟨rfl, rfl⟩⟩ _ m _ ((X.take m).flatMap rcl5) rfl (by rw [rflat5_len, List.length_take, Nat.min_eq_left HPL.out]) (by first | (intro h; cases h; done) | exact HZ.out | exact fun _ => HZ.out trivial | exact fun _ => rfl) (by intro ad h; first | (cases h; done) | (cases h; simpa using RRow5.news (HR6.out.grown HGq.out) 0 (X.take m) (fun i x h => by rw [Nat.zero_add]; exact take_some h))) (oneR5 _) (by unfold maxLen; omega) (by omega) HGq.out.size ?_; intro q1 w1 hown1 hgrow1; have hg1 := gtrans HGq.out hgrow1; have HG1 := Lib.hid hg1; obtain ⟨hbx0, hbx1⟩ := two_cells2 (HBQ.out w1 hg1); rw [Nat.zero_add] at hown1; have HOW1 := Lib.hid hown1; clear hown1 hgrow1 hg1)
          | (at_builtin; refine wpList_append_any _ rfl _ _ 65 rfl w6.heap.size 81 i0 (.agg #[.string ByteArray.empty, .int .u32 0]) 2 24 Try.underlying65 hi hz0 hz1 hz2 rfl (by decide) q1 m ([] ++ (X.take m).flatMap rcl5) rfl (HOW1.out.kept (World.grownBy_alloc w1 _ none) (by cases q1.ownBlock <;> simp)) (some ⟨w1.heap.size, 0, none⟩) 1 1 (rcl5 x) rfl rfl (fun h => by cases h) (fun ad h => by cases h; exact litR5 w1 x) (one5 x) (by unfold maxLen; omega) (by omega) (by have := HG1.out.size; simp; omega) ?_; intro q2 w2 hown2 hgrow2; have HG2b := Lib.hid (grow_row (gtrans HG1.out (World.grownBy_alloc w1 _ none)) (HOW1.out.kept (World.grownBy_alloc w1 _ none) (by cases q1.ownBlock <;> simp)) hgrow2); have HOW2 := Lib.hid hown2; clear hown2 hgrow2 hbx0 hbx1)
          | (at_builtin; refine wpList_append_any _ rfl _ _ 65 rfl w6.heap.size 81 i0 (.agg #[.string ByteArray.empty, .int .u32 0]) 2 24 Try.underlying65 hi hz0 hz1 hz2 rfl (by decide) q2 (m + 1) _ rfl HOW2.out _ _ _ ((X.drop m).flatMap rcl5) rfl (by rw [HDR.out]; simp) (by intro _; omega) (by intro ad h j u hj; rw [HDR.out] at hj; cases hj) (oneR5 _) (by unfold maxLen; omega) (by omega) HG2b.out.size ?_; intro q3 w3 hown3 hgrow3; have HG3 := Lib.hid (grow_row HG2b.out HOW2.out hgrow3); have HOW3 := Lib.hid hown3; clear hown3 hgrow3))
        exact HK.out _ _ _ _ _ _ _ _ _ _ _ _ _ _ _ _ _ _ _ _ _ _ _ _ _ _ _ _ _ _ _ _ _ _ _ _ _ _ _ _ _ _ _ _ _ _ _ _ _ _ _ _ _ _ _ _ _ _ _ _ _ _ _ _ _ _ _ _ _ _ _ _ _ _ _ _ _ _ _ _ _ _ _ _ _ _ (insE X x m) HXF.out (ERow.ins HOW3.out (by have := HM.out; omega) HPL.out HG6.out.size) (gtrans HG6.out HG3.out)
      · obtain rfl := HV6.out.path
        by_cases hvP : vc = m
        · obtain rfl : m = vc := hvP.symm
          go_wp2
          go_quiet (fail)
          have HGq := Lib.hid (gtrans HG2.out (⟨rfl, rfl, rfl, Nat.le_refl _, fun _ _ _ => rfl⟩ : wr.grownBy (wr.drewN nq) none))
          have HBQ := Lib.hid (fun (w' : World) (h : w6.grownBy w' none) => (h.block Bx (lt_of_block HB6.out) (by simp)).trans HB6.out)
          generalize wr.drewN nq = wq at *
          go_wp2_with (first
            | (at_builtin; refine wpList_append_any _ rfl _ _ 65 rfl w6.heap.size 81 i0 (.agg #[.string ByteArray.empty, .int .u32 0]) 2 24 Try.underlying65 hi hz0 hz1 hz2 rfl (by decide) (.slice none 0 0) 0 [] rfl ⟨rfl, .inl ⟨rfl, rfl⟩⟩ _ m _ ((X.take m).flatMap rcl5) rfl (by rw [rflat5_len, List.length_take, Nat.min_eq_left HPL.out]) (by first | (intro h; cases h; done) | exact HZ.out | exact fun _ => HZ.out trivial | exact fun _ => rfl) (by intro ad h; first | (cases h; done) | (cases h; simpa using RRow5.news (HR6.out.grown HGq.out) 0 (X.take m) (fun i x h => by rw [Nat.zero_add]; exact take_some h))) (oneR5 _) (by unfold maxLen; omega) (by omega) HGq.out.size ?_; intro q1 w1 hown1 hgrow1; have hg1 := gtrans HGq.out hgrow1; have HG1 := Lib.hid hg1; obtain ⟨hbx0, hbx1⟩ := two_cells2 (HBQ.out w1 hg1); rw [Nat.zero_add] at hown1; have HOW1 := Lib.hid hown1; clear hown1 hgrow1 hg1)
            | (at_builtin; refine wpList_append_any _ rfl _ _ 65 rfl w6.heap.size 81 i0 (.agg #[.string ByteArray.empty, .int .u32 0]) 2 24 Try.underlying65 hi hz0 hz1 hz2 rfl (by decide) q1 m ([] ++ (X.take m).flatMap rcl5) rfl (HOW1.out.kept (World.grownBy_alloc w1 _ none) (by cases q1.ownBlock <;> simp)) (some ⟨w1.heap.size, 0, none⟩) 1 1 (rcl5 x) rfl rfl (fun h => by cases h) (fun ad h => by cases h; exact litR5 w1 x) (one5 x) (by unfold maxLen; omega) (by omega) (by have := HG1.out.size; simp; omega) ?_; intro q2 w2 hown2 hgrow2; have HG2b := Lib.hid (grow_row (gtrans HG1.out (World.grownBy_alloc w1 _ none)) (HOW1.out.kept (World.grownBy_alloc w1 _ none) (by cases q1.ownBlock <;> simp)) hgrow2); have HOW2 := Lib.hid hown2; clear hown2 hgrow2 hbx0 hbx1)
            | (at_builtin; refine wpList_append_any _ rfl _ _ 65 rfl w6.heap.size 81 i0 (.agg #[.string ByteArray.empty, .int .u32 0]) 2 24 Try.underlying65 hi hz0 hz1 hz2 rfl (by decide) q2 (m + 1) _ rfl HOW2.out _ _ _ ((X.drop m).flatMap rcl5) rfl (by rw [HDR.out]; simp) (by intro _; omega) (by intro ad h j u hj; rw [HDR.out] at hj; cases hj) (oneR5 _) (by unfold maxLen; omega) (by omega) HG2b.out.size ?_; intro q3 w3 hown3 hgrow3; have HG3 := Lib.hid (grow_row HG2b.out HOW2.out hgrow3); have HOW3 := Lib.hid hown3; clear hown3 hgrow3))
          exact HK.out _ _ _ _ _ _ _ _ _ _ _ _ _ _ _ _ _ _ _ _ _ _ _ _ _ _ _ _ _ _ _ _ _ _ _ _ _ _ _ _ _ _ _ _ _ _ _ _ _ _ _ _ _ _ _ _ _ _ _ _ _ _ _ _ _ _ _ _ _ _ _ _ _ _ _ _ _ _ _ _ _ _ _ _ _ _ (insE X x m) HXF.out (ERow.ins HOW3.out (by have := HM.out; omega) HPL.out HG6.out.size) (gtrans HG6.out HG3.out)
        · go_wp2
          go_quiet (fail)
          have HGq := Lib.hid (gtrans HG2.out (⟨rfl, rfl, rfl, Nat.le_refl _, fun _ _ _ => rfl⟩ : wr.grownBy (wr.drewN nq) none))
          have HBQ := Lib.hid (fun (w' : World) (h : w6.grownBy w' none) => (h.block Bx (lt_of_block HB6.out) (by simp)).trans HB6.out)
          generalize wr.drewN nq = wq at *
          go_wp2_with (first
            | (at_builtin; refine wpList_append_any _ rfl _ _ 65 rfl w6.heap.size 81 i0 (.agg #[.string ByteArray.empty, .int .u32 0]) 2 24 Try.underlying65 hi hz0 hz1 hz2 rfl (by decide) (.slice none 0 0) 0 [] rfl ⟨rfl, .inl ⟨rfl, rfl⟩⟩ _ m _ ((X.take m).flatMap rcl5) rfl (by rw [rflat5_len, List.length_take, Nat.min_eq_left HPL.out]) (by first | (intro h; cases h; done) | exact HZ.out | exact fun _ => HZ.out trivial | exact fun _ => rfl) (by intro ad h; first | (cases h; done) | (cases h; simpa using RRow5.news (HR6.out.grown HGq.out) 0 (X.take m) (fun i x h => by rw [Nat.zero_add]; exact take_some h))) (oneR5 _) (by unfold maxLen; omega) (by omega) HGq.out.size ?_; intro q1 w1 hown1 hgrow1; have hg1 := gtrans HGq.out hgrow1; have HG1 := Lib.hid hg1; obtain ⟨hbx0, hbx1⟩ := two_cells2 (HBQ.out w1 hg1); rw [Nat.zero_add] at hown1; have HOW1 := Lib.hid hown1; clear hown1 hgrow1 hg1)
            | (at_builtin; refine wpList_append_any _ rfl _ _ 65 rfl w6.heap.size 81 i0 (.agg #[.string ByteArray.empty, .int .u32 0]) 2 24 Try.underlying65 hi hz0 hz1 hz2 rfl (by decide) q1 m ([] ++ (X.take m).flatMap rcl5) rfl (HOW1.out.kept (World.grownBy_alloc w1 _ none) (by cases q1.ownBlock <;> simp)) (some ⟨w1.heap.size, 0, none⟩) 1 1 (rcl5 x) rfl rfl (fun h => by cases h) (fun ad h => by cases h; exact litR5 w1 x) (one5 x) (by unfold maxLen; omega) (by omega) (by have := HG1.out.size; simp; omega) ?_; intro q2 w2 hown2 hgrow2; have HG2b := Lib.hid (grow_row (gtrans HG1.out (World.grownBy_alloc w1 _ none)) (HOW1.out.kept (World.grownBy_alloc w1 _ none) (by cases q1.ownBlock <;> simp)) hgrow2); have HOW2 := Lib.hid hown2; clear hown2 hgrow2 hbx0 hbx1)
            | (at_builtin; refine wpList_append_any _ rfl _ _ 65 rfl w6.heap.size 81 i0 (.agg #[.string ByteArray.empty, .int .u32 0]) 2 24 Try.underlying65 hi hz0 hz1 hz2 rfl (by decide) q2 (m + 1) _ rfl HOW2.out _ _ _ ((X.drop m).flatMap rcl5) rfl (by rw [HDR.out]; simp) (by intro _; omega) (by intro ad h j u hj; rw [HDR.out] at hj; cases hj) (oneR5 _) (by unfold maxLen; omega) (by omega) HG2b.out.size ?_; intro q3 w3 hown3 hgrow3; have HG3 := Lib.hid (grow_row HG2b.out HOW2.out hgrow3); have HOW3 := Lib.hid hown3; clear hown3 hgrow3))
          exact HK.out _ _ _ _ _ _ _ _ _ _ _ _ _ _ _ _ _ _ _ _ _ _ _ _ _ _ _ _ _ _ _ _ _ _ _ _ _ _ _ _ _ _ _ _ _ _ _ _ _ _ _ _ _ _ _ _ _ _ _ _ _ _ _ _ _ _ _ _ _ _ _ _ _ _ _ _ _ _ _ _ _ _ _ _ _ _ (insE X x m) HXF.out (ERow.ins HOW3.out (by have := HM.out; omega) HPL.out HG6.out.size) (gtrans HG6.out HG3.out)

end Go.Proofs.Ytfencmidjolgfaa

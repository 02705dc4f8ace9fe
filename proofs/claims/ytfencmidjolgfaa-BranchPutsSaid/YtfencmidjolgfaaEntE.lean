/-
  Layer 4: the law's entries: a round of its outer loop. Own work.
-/
import Derived.Test.YtfencmidjolgfaaEntD
namespace Go.Proofs.Ytfencmidjolgfaa
open Go.RowKit

def EntsR (s : Bool) (w w' : World) (r : Ending) : Prop :=
  ∃ (lv rv : Value) (es : List (Value × Value × En)), r = .returned (.tuple #[lv, rv]) ∧ Fine s 30 (xsOf es) ∧ SOwns w.heap.size w' lv es ∧ RRow w' rv (xsOf es) ∧ w.grownBy w' none

theorem below_go {w W W' : World} (h : Below w.heap.size w W) (k : W.grownBy W' none) : Below w.heap.size w W' := h.grown k h.size (fun q e => by cases e)

/-- The first place whose key isn't below. -/
def firstP : List En → List Int → Nat
  | [], _ => 0
  | x :: l, key => if cmpL x.key key < 0 then firstP l key + 1 else 0
theorem firstP_le : ∀ (l : List En) (key : List Int), firstP l key ≤ l.length
  | [], _ => Nat.le_refl _
  | x :: l, key => by
    have := firstP_le l key
    rw [firstP]; split <;> simp <;> omega
theorem firstP_lo : ∀ (l : List En) (key : List Int) (j : Nat) (x : En), j < firstP l key → l[j]? = some x → cmpL x.key key < 0
  | [], _, _, _, _, h => by simp at h
  | y :: l, key, j, x, hj, hx => by
    rw [firstP] at hj
    split at hj
    · rename_i hc
      cases j with
      | zero => have : y = x := by simpa using hx
                subst this; exact hc
      | succ j => exact firstP_lo l key j x (by omega) (by simpa using hx)
    · omega
theorem firstP_hi : ∀ (l : List En) (key : List Int) (x : En), l[firstP l key]? = some x → 0 ≤ cmpL x.key key
  | [], _, _, h => by simp [firstP] at h
  | y :: l, key, x, hx => by
    rw [firstP] at hx
    split at hx
    · exact firstP_hi l key x (by simpa using hx)
    · rename_i hc
      have : y = x := by simpa using hx
      subst this; omega
theorem firstP_pos {l : List En} (hr : Rise l) (key : List Int) : PosOf l key (firstP l key) := by
  refine ⟨firstP_le l key, firstP_lo l key, fun j y hj hy => ?_⟩
  obtain ⟨z, hz⟩ : ∃ z, l[firstP l key]? = some z := ⟨_, List.getElem?_eq_getElem (by have := (List.getElem?_eq_some_iff.1 hy).1; omega)⟩
  exact hr.hi hz (firstP_hi l key z hz) j y hj hy
def FoundB (f : Bool) (l : List En) (key : List Int) (p : Nat) : Prop := f = true ↔ FoundAt l key p
theorem rfind_at {w : World} {ao : Option Addr} {n c : Nat} {l : List En} {key : List Int} {f : Bool} {P0 : Nat} (h : RRow w (.slice ao n c) l) (ho : ∀ x ∈ l, EnOk x) (hk : Byt key) (hP : P0 = firstP l key) (hf : FoundB f l key P0) :
    Calls Try.prog 28 #[.slice ao n c, .string (strOfNums key)] w fun r w' => r = .returned (.tuple #[.int .i64 (P0 : Int), .bool f]) ∧ w.grownBy w' none := by
  subst hP
  refine (rfind_any w ao n c l key h ho hk).mono ?_
  rintro r w' ⟨p, g, e, h1, h2, h3, h4, h5⟩
  have hp : p = firstP l key := by
    have := firstP_le l key
    rcases Nat.lt_trichotomy p (firstP l key) with e | e | e
    · obtain ⟨z, hz⟩ : ∃ z, l[p]? = some z := ⟨_, List.getElem?_eq_getElem (by omega)⟩
      have := firstP_lo l key p z e hz
      have := h3 z hz
      omega
    · exact e
    · obtain ⟨z, hz⟩ : ∃ z, l[firstP l key]? = some z := ⟨_, List.getElem?_eq_getElem (by omega)⟩
      have := firstP_hi l key z hz
      have := h2 _ z e hz
      omega
  subst hp
  have hg : g = f := by
    unfold FoundB at hf
    cases g <;> cases f <;> simp_all
  subst hg
  exact ⟨e, h5⟩

set_option maxRecDepth 1000000 in
set_option maxHeartbeats 8000000 in
theorem ent_skip (w W wr : World) (ao : Option Addr) (n c k m vc : Nat) (va : Option Addr) (l X : List En) (x : En) (h : Raws w (.slice ao n c) l) (hWb : Below w.heap.size w wr) (hf : FewP l) (hlt : k < n) (hn30 : n ≤ 30) (hx : l[k]? = some x)
    (hm : m = X.length) (hm30 : m ≤ 30) (hfi : Fine true k X) (hv : VRow W.heap.size wr (.slice va m vc) m X) (hg : W.grownBy wr none) (P0 : Nat) (hp0 : P0 = firstP X x.key) (hfd : FoundB true X x.key P0)
    (u9 u10 u11 u12 u13 u15 u16 u17 u18 u19 u20 u21 u22 u23 u24 u25 u26 u27 u28 u29 u30 u31 u32 u33 u34 u35 u36 u37 u38 u39 u40 u41 u42 u43 u44 u45 u46 u47 u48 u49 u50 u51 u52 u53 u54 u55 u56 u57 u58 u59 u60 u61 u62 u63 u64 u65 u66 u67 u68 u69 u70 u71 u72 u73 u74 u75 u76 u77 u78 u79 u80 u81 u82 u83 u84 v2 v3 v4 v5 v6 v14 v85 v86 v87 v88 v89 v90 v91 v92 v93 v94 v95 v96 v97 v98 v99 v100 v101 v102 v103 v104 v105 v106 v107 v108 v109 v110 v111 v112 v113 v114 v115 v116 v117 v118 : Value)
    (Kc : Act → World → Prop) (Qc : Exit → Act → World → Prop)
    (hK : ∀ (x9 x10 x11 x12 x13 x15 x16 x17 x18 x19 x20 x21 x22 x23 x24 x25 x26 x27 x28 x29 x30 x31 x32 x33 x34 x35 x36 x37 x38 x39 x40 x41 x42 x43 x44 x45 x46 x47 x48 x49 x50 x51 x52 x53 x54 x55 x56 x57 x58 x59 x60 x61 x62 x63 x64 x65 x66 x67 x68 x69 x70 x71 x72 x73 x74 x75 x76 x77 x78 x79 x80 x81 x82 x83 x84 q7 : Value) (w5 : World) (X' : List En), Fine true (k + 1) X' → VRow W.heap.size w5 q7 X'.length X' → W.grownBy w5 none → Kc ⟨#[.slice ao n c, .bool true, v2, v3, v4, v5, v6, q7, .int .i64 ((k : Int) + 1), x9, x10, x11, x12, x13, v14, x15, x16, x17, x18, x19, x20, x21, x22, x23, x24, x25, x26, x27, x28, x29, x30, x31, x32, x33, x34, x35, x36, x37, x38, x39, x40, x41, x42, x43, x44, x45, x46, x47, x48, x49, x50, x51, x52, x53, x54, x55, x56, x57, x58, x59, x60, x61, x62, x63, x64, x65, x66, x67, x68, x69, x70, x71, x72, x73, x74, x75, x76, x77, x78, x79, x80, x81, x82, x83, x84, v85, v86, v87, v88, v89, v90, v91, v92, v93, v94, v95, v96, v97, v98, v99, v100, v101, v102, v103, v104, v105, v106, v107, v108, v109, v110, v111, v112, v113, v114, v115, v116, v117, v118], []⟩ w5) :
    Code.wp Try.prog (entBody 0) (Exit.then Kc Qc) ⟨#[.slice ao n c, .bool true, v2, v3, v4, v5, v6, .slice va m vc, .int .i64 (k : Int), u9, u10, u11, u12, u13, v14, u15, u16, u17, u18, u19, u20, u21, u22, u23, u24, u25, u26, u27, u28, u29, u30, u31, u32, u33, u34, u35, u36, u37, u38, u39, u40, u41, u42, u43, u44, u45, u46, u47, u48, u49, u50, u51, u52, u53, u54, u55, u56, u57, u58, u59, u60, u61, u62, u63, u64, u65, u66, u67, u68, u69, u70, u71, u72, u73, u74, u75, u76, u77, u78, u79, u80, u81, u82, u83, u84, v85, v86, v87, v88, v89, v90, v91, v92, v93, v94, v95, v96, v97, v98, v99, v100, v101, v102, v103, v104, v105, v106, v107, v108, v109, v110, v111, v112, v113, v114, v115, v116, v117, v118], []⟩ wr := by
  obtain ⟨i0, hi, hz0, hz1, hz2⟩ := info_parts infoE4
  conv => arg 2; whnf
  have HK := Lib.hid hK
  have HN := Lib.hid h.len.1
  have H := Lib.hid h
  have HF := Lib.hid hf
  have HM := Lib.hid hm
  have HFI := Lib.hid hfi
  have HV := Lib.hid hv
  have HG := Lib.hid hg
  have HBw := Lib.hid hWb
  have hk1 : IntKind.i64.wrap ((k : Int) + 1) = (k : Int) + 1 := IntWalk.i64_in _ (by omega)
  clear hK h hf hm hfi hv hg hWb
  have hki : (k : Int) < (n : Int) := by omega
  obtain ⟨b, o, rfl, hb, a1, c1, a2, c2, s1, s2, b1, b2, bl, bf, q0, q1, q2, q3⟩ := H.out.at k x hx
  have hxf := HF.out.1 x (List.mem_of_getElem? hx)
  have HXO := Lib.hid (show EnOk x ∧ x.key.length ≤ 120 ∧ x.val.length ≤ 600 from ⟨⟨b1, b2, by omega, by omega, bl.1, bl.2, bf.1, bf.2⟩, hxf⟩)
  have HSK := Lib.hid (show ∀ w' : World, (∀ i, i < w.heap.size → w'.heap[i]? = wr.heap[i]?) → (fun w' => w'.cell? ⟨b, o + k * 4, none⟩ = some (.slice a1 x.key.length c1) ∧ w'.cell? ⟨b, o + k * 4 + 1, none⟩ = some (.slice a2 x.val.length c2) ∧ w'.cell? ⟨b, o + k * 4 + 2, none⟩ = some (.int .i64 x.long) ∧ w'.cell? ⟨b, o + k * 4 + 3, none⟩ = some (.int .u32 x.first) ∧ (convert 29 9 (.slice a1 x.key.length c1)).run Try.prog w' = .ok (.string (strOfNums x.key)) w' ∧ (convert 29 9 (.slice a2 x.val.length c2)).run Try.prog w' = .ok (.string (strOfNums x.val)) w') w' from fun w' hw' => ⟨(World.cell?_of_block (w := wr) (hw' b hb)).trans ((HBw.out.cell (p := ⟨b, o + k * 4, none⟩) hb).trans q0), (World.cell?_of_block (w := wr) (hw' b hb)).trans ((HBw.out.cell (p := ⟨b, o + k * 4 + 1, none⟩) hb).trans q1), (World.cell?_of_block (w := wr) (hw' b hb)).trans ((HBw.out.cell (p := ⟨b, o + k * 4 + 2, none⟩) hb).trans q2), (World.cell?_of_block (w := wr) (hw' b hb)).trans ((HBw.out.cell (p := ⟨b, o + k * 4 + 3, none⟩) hb).trans q3),
    seq_string (s1.below (fun i hi => (hw' i hi).trans (HBw.out.block i hi))), seq_string (s2.below (fun i hi => (hw' i hi).trans (HBw.out.block i hi)))⟩)
  have HLW := Lib.hid (show ∀ i, i < w.heap.size → i < wr.heap.size from fun i hi => Nat.lt_of_lt_of_le hi HBw.out.size)
  clear q0 q1 q2 q3 s1 s2 b1 b2 bl bf hx hxf
  go_wp2
  go_region_held3 (fun w' => w'.cell? ⟨b, o + k * 4, none⟩ = some (.slice a1 x.key.length c1) ∧ w'.cell? ⟨b, o + k * 4 + 1, none⟩ = some (.slice a2 x.val.length c2) ∧ w'.cell? ⟨b, o + k * 4 + 2, none⟩ = some (.int .i64 x.long) ∧ w'.cell? ⟨b, o + k * 4 + 3, none⟩ = some (.int .u32 x.first) ∧ (convert 29 9 (.slice a1 x.key.length c1)).run Try.prog w' = .ok (.string (strOfNums x.key)) w' ∧ (convert 29 9 (.slice a2 x.val.length c2)).run Try.prog w' = .ok (.string (strOfNums x.val)) w')
    (first | (exact HSK.out _ (fun i hi => rfl)) | (exact HSK.out _ (fun i hi => Below.heap_alloc wr _ i (HLW.out i hi))))
    (fail)
  have hg5 : wr.grownBy (wr.alloc (.cells #[.string (strOfNums x.key), .string (strOfNums x.val), .int .i64 x.long, .int .u32 x.first] 46)).drew none := gtrans (World.grownBy_alloc _ _ _) (gdrew _)
  have hb5 : (wr.alloc (.cells #[.string (strOfNums x.key), .string (strOfNums x.val), .int .i64 x.long, .int .u32 x.first] 46)).drew.heap[wr.heap.size]? = some (.cells #[.string (strOfNums x.key), .string (strOfNums x.val), .int .i64 x.long, .int .u32 x.first] 46 (0, 0)) := heap_alloc_new wr _
  generalize (wr.alloc (.cells #[.string (strOfNums x.key), .string (strOfNums x.val), .int .i64 x.long, .int .u32 x.first] 46)).drew = w5 at *
  generalize wr.heap.size = Bx at *
  have HB5 := Lib.hid hb5
  have HV5 := Lib.hid (HV.out.grown hg5)
  have HR5 := Lib.hid (HV5.out.rrow HM.out (by have := HM.out; omega))
  have HG5 := Lib.hid (gtrans HG.out hg5)
  have c50 : w5.cell? ⟨Bx, 0, none⟩ = some (.string (strOfNums x.key)) := by simp [World.cell?, hb5]
  have HEO := Lib.hid (fun y hy => (HFI.out.ok y hy).1)
  have HFD := Lib.hid hfd
  have HP0 := Lib.hid hp0
  clear hfd hb5 hg5 hp0
  go_wp2_with (go_at_call 28; have Kc := rfind_at HR5.out HEO.out HXO.out.1.k HP0.out HFD.out; ((with_reducible refine Kc.mono ?_); clear Kc; rintro r w6 ⟨rfl, hg6⟩); have HG6 := Lib.hid (gtrans HG5.out hg6); have HV6 := Lib.hid (HV5.out.grown hg6); have HB6 := Lib.hid ((hg6.block Bx (lt_of_block HB5.out) (by simp)).trans HB5.out); clear hg6)
  exact HK.out _ _ _ _ _ _ _ _ _ _ _ _ _ _ _ _ _ _ _ _ _ _ _ _ _ _ _ _ _ _ _ _ _ _ _ _ _ _ _ _ _ _ _ _ _ _ _ _ _ _ _ _ _ _ _ _ _ _ _ _ _ _ _ _ _ _ _ _ _ _ _ _ _ _ _ _ _ X HFI.out.up (by rw [← HM.out]; exact HV6.out) HG6.out

end Go.Proofs.Ytfencmidjolgfaa

/-
  Layer 5: the law's entries: a round of its third loop, which makes slices of texts. Own work.
-/
import Derived.Test.YtfencmidjolgfaaBeA
import Derived.Test.YtfencmidjolgfaaBrK
import Derived.Test.YtfencmidjolgfaaBeD
import Derived.Deep.RegionHeld3
namespace Go.Proofs.Ytfencmidjolgfaa
open Go.RowKit

theorem SeqU.other5 {b2 n : Nat} {w w' : World} {lv v : Value} {xs : List Value} {bs : List Int} (h : SeqU w v bs) (hr : w.ownsRow b2 79 2 lv n xs) (k : w.grownBy w' lv.ownBlock) : SeqU w' v bs := by
  obtain ⟨q, c, cs, f, hv, h1, h2, hq, hc⟩ := h
  refine ⟨q, c, cs, f, hv, h1, h2, (k.block q (lt_of_block hq) ?_).trans hq, hc⟩
  intro e
  rcases hr.2 with ⟨hv2, _⟩ | ⟨g, cap, cur, hv2, _, hg, _⟩
  · rw [hv2] at e; cases e
  · rw [hv2] at e
    have e2 : q = g := by injection e
    subst e2
    rw [hq] at hg
    injection hg with hg
    injection hg with _ ht
    exact absurd ht (by decide)
structure SOwns5 (base : Nat) (w : World) (lv : Value) (es : List (Value × En)) : Prop where
  row : w.ownsRow base 79 2 lv es.length (es.flatMap becl)
  each : ∀ y ∈ es, SeqU w y.1 y.2.key ∧ BOk y.2
theorem SOwns5.nil (base : Nat) (w : World) : SOwns5 base w (.slice none 0 0) [] := ⟨World.ownsRow_nil _ _ _ _, fun y hy => by cases hy⟩
theorem SOwns5.grown {base : Nat} {w w' : World} {lv : Value} {es : List (Value × En)} (h : SOwns5 base w lv es) (k : w.grownBy w' none) : SOwns5 base w' lv es :=
  ⟨World.ownsRow.kept h.row k (by cases lv.ownBlock <;> simp), fun y hy => by
    obtain ⟨h1, h3⟩ := h.each y hy
    exact ⟨h1.grown k, h3⟩⟩
theorem SOwns5.push {base : Nat} {w w1 : World} {lv v' : Value} {es : List (Value × En)} {y : Value × En} (h : SOwns5 base w lv es) (h1 : SeqU w y.1 y.2.key) (h3 : BOk y.2)
    (hrow : w1.ownsRow base 79 2 v' (es.length + 1) (es.flatMap becl ++ becl y)) (hg : w.grownBy w1 lv.ownBlock) : SOwns5 base w1 v' (es ++ [y]) := by
  refine ⟨by simpa [List.flatMap_append] using hrow, fun z hz => ?_⟩
  rcases List.mem_append.1 hz with hz | hz
  · obtain ⟨g1, g3⟩ := h.each z hz
    exact ⟨g1.other5 h.row hg, g3⟩
  · have : z = y := by simpa using hz
    subst this
    exact ⟨h1.other5 h.row hg, h3⟩
theorem SOwns5.ents {base : Nat} {w : World} {lv : Value} {es : List (Value × En)} (h : SOwns5 base w lv es) (hl : es.length ≤ 100000) : BEnts w.heap.size w lv (bxsOf es) := by
  have hr := h.row
  rcases h.row.2 with ⟨hv, hn⟩ | ⟨q, cap, cur, hv, hb, hq, hnc, hcm, hcs, ht⟩
  · rw [List.eq_nil_of_length_eq_zero hn]
    rw [hv]; exact BEnts.nil _ _
  · refine ⟨some ⟨q, 0, none⟩, cap, by rw [hv]; simp, by simpa using hnc, hcm, by simpa using hl, fun hne => ⟨q, 0, rfl, lt_of_block hq, fun i x hx => ?_⟩⟩
    rw [List.getElem?_map] at hx
    obtain ⟨y, hy, rfl⟩ := Option.map_eq_some_iff.1 hx
    obtain ⟨c0, c1⟩ := bflat2 es i y hy
    obtain ⟨g1, g3⟩ := h.each y (List.mem_of_getElem? hy)
    have s1 := g1.seq
    obtain ⟨q1, d1, _, _, e1, _⟩ := g1
    have hc := hr.cells (g := q) (by rw [hv]; rfl)
    rw [Nat.zero_add]
    refine ⟨some ⟨q1, 0, none⟩, d1, by rw [← e1]; exact s1, g3, ?_, ?_⟩
    · rw [← e1]; have := hc _ _ c0; rwa [Addr.add_lit, Nat.zero_add] at this
    · have := hc _ _ c1; rwa [Addr.add_lit, Nat.zero_add] at this
def BORow (base : Nat) (w : World) (v : Value) (n : Nat) (xs : List Value) : Prop := w.ownsRow base 79 2 v n xs
theorem BORow.grown {base n : Nat} {w w' : World} {v : Value} {xs : List Value} (h : BORow base w v n xs) (k : w.grownBy w' none) : w'.ownsRow base 79 2 v n xs := World.ownsRow.kept h k (by cases v.ownBlock <;> simp)
/-- The k first of the entries X, as slices. -/
structure SOut5 (base : Nat) (w : World) (v : Value) (k : Nat) (X : List En) : Prop where
  ex : ∃ es, SOwns5 base w v es ∧ es.length = k ∧ bxsOf es = X.take k
theorem SOut5.push {base k : Nat} {w w4 w5 : World} {v v' kv : Value} {X : List En} {y : En} {es : List (Value × En)} (h : SOwns5 base w v es) (hl : es.length = k) (hx : bxsOf es = X.take k) (hy : X[k]? = some y) (ho : BOk y) (hg : w.grownBy w4 none)
    (h1 : SeqU w4 kv y.key) (hr : w5.ownsRow base 79 2 v' (k + 1) (es.flatMap becl ++ becl (kv, y))) (hgr : w4.grownBy w5 v.ownBlock) : SOut5 base w5 v' (k + 1) X := by
  subst hl
  refine ⟨es ++ [(kv, y)], SOwns5.push (y := (kv, y)) (h.grown hg) h1 ho hr hgr, by simp, ?_⟩
  rw [List.take_add_one, hy, show bxsOf (es ++ [(kv, y)]) = bxsOf es ++ [y] by simp, hx]
  rfl
theorem one_d (w : World) (a : Obj) : w.grownBy (w.alloc a).drew none := gtrans (World.grownBy_alloc _ _ _) (gdrew _)
theorem two_d (w : World) (a b : Obj) : w.grownBy ((w.alloc a).alloc b).drew none := gtrans (World.grownBy_alloc _ _ _) (gtrans (World.grownBy_alloc _ _ _) (gdrew _))
theorem two_one (w : World) (a b : Obj) : ((w.alloc a).alloc b).drew.heap[w.heap.size]? = some a := by
  show ((w.alloc a).alloc b).heap[w.heap.size]? = some a
  exact later _ (heap_alloc_new w a)
theorem lit5d (w : World) (a : Obj) (k : Value) (x : En) : ∀ j u, (becl (k, x))[j]? = some u → ((w.alloc a).alloc (.cells (bcs k x.first) 79)).drew.cell? ((⟨w.heap.size + 1, 0, none⟩ : Addr).add j) = some u := blit2 w a k x
theorem keep2 {w w' : World} {b p0 p1 : Nat} {v0 v1 : Value} (h : w.cell? ⟨b, p0, none⟩ = some v0 ∧ w.cell? ⟨b, p1, none⟩ = some v1) (g : w.grownBy w' none) :
    w'.cell? ⟨b, p0, none⟩ = some v0 ∧ w'.cell? ⟨b, p1, none⟩ = some v1 := by
  have hb : b < w.heap.size := World.block_lt_of_cell? _ _ h.1
  have hq : ∀ o, w'.cell? ⟨b, o, none⟩ = w.cell? ⟨b, o, none⟩ := fun o => World.cell?_of_block (w := w) (g.block b hb (by simp))
  exact ⟨(hq _).trans h.1, (hq _).trans h.2⟩

set_option maxRecDepth 1000000 in
set_option maxHeartbeats 8000000 in
theorem ent5_out (wz wr : World) (m k3 b2 o2 vc lc : Nat) (la : Option Addr) (X : List En) (es : List (Value × En)) (hR : RRow5 wz (.slice (some ⟨b2, o2, none⟩) m vc) X) (hX : ∀ x ∈ X, BOk x ∧ x.key.length ≤ 120) (hm : m = X.length) (hm30 : m ≤ 30) (hlt : k3 < m)
    (hso : SOwns5 wz.heap.size wr (.slice la k3 lc) es) (hel : es.length = k3) (hes : bxsOf es = X.take k3) (hg2 : wz.grownBy wr none)
    (u94 u95 u96 u97 u98 u99 u100 u101 u102 u103 u104 u105 u106 u107 u108 u109 u110 u111 u112 u113 u114 v0 v1 v2 v3 v4 v5 v8 v9 v10 v11 v12 v14 v15 v16 v17 v18 v19 v20 v21 v22 v23 v24 v25 v26 v27 v28 v29 v30 v31 v32 v33 v34 v35 v36 v37 v38 v39 v40 v41 v42 v43 v44 v45 v46 v47 v48 v49 v50 v51 v52 v53 v54 v55 v56 v57 v58 v59 v60 v61 v62 v63 v64 v65 v66 v67 v68 v69 v70 v71 v72 v73 v74 v75 v76 v77 v78 v79 v80 v81 v82 v83 v84 v85 v86 v87 v88 v89 v90 v91 v92 v93 v115 v116 : Value)
    (Kc : Act → World → Prop) (Qc : Exit → Act → World → Prop)
    (hK : ∀ (x94 x95 x96 x97 x98 x99 x100 x101 x102 x103 x104 x105 x106 x107 x108 x109 x110 x111 x112 x113 x114 q6 : Value) (w5 : World), SOut5 wz.heap.size w5 q6 (k3 + 1) X → wz.grownBy w5 none → Kc ⟨#[v0, v1, v2, v3, v4, v5, q6, .slice (some ⟨b2, o2, none⟩) m vc, v8, v9, v10, v11, v12, .int .i64 ((k3 : Int) + 1), v14, v15, v16, v17, v18, v19, v20, v21, v22, v23, v24, v25, v26, v27, v28, v29, v30, v31, v32, v33, v34, v35, v36, v37, v38, v39, v40, v41, v42, v43, v44, v45, v46, v47, v48, v49, v50, v51, v52, v53, v54, v55, v56, v57, v58, v59, v60, v61, v62, v63, v64, v65, v66, v67, v68, v69, v70, v71, v72, v73, v74, v75, v76, v77, v78, v79, v80, v81, v82, v83, v84, v85, v86, v87, v88, v89, v90, v91, v92, v93, x94, x95, x96, x97, x98, x99, x100, x101, x102, x103, x104, x105, x106, x107, x108, x109, x110, x111, x112, x113, x114, v115, v116], []⟩ w5) :
    Code.wp Try.prog (entBody5 1) (Exit.then Kc Qc) ⟨#[v0, v1, v2, v3, v4, v5, .slice la k3 lc, .slice (some ⟨b2, o2, none⟩) m vc, v8, v9, v10, v11, v12, .int .i64 (k3 : Int), v14, v15, v16, v17, v18, v19, v20, v21, v22, v23, v24, v25, v26, v27, v28, v29, v30, v31, v32, v33, v34, v35, v36, v37, v38, v39, v40, v41, v42, v43, v44, v45, v46, v47, v48, v49, v50, v51, v52, v53, v54, v55, v56, v57, v58, v59, v60, v61, v62, v63, v64, v65, v66, v67, v68, v69, v70, v71, v72, v73, v74, v75, v76, v77, v78, v79, v80, v81, v82, v83, v84, v85, v86, v87, v88, v89, v90, v91, v92, v93, u94, u95, u96, u97, u98, u99, u100, u101, u102, u103, u104, u105, u106, u107, u108, u109, u110, u111, u112, u113, u114, v115, v116], []⟩ wr := by
  obtain ⟨j0, hj, hw0, hw1, hw2⟩ := info_parts infoBEntry
  conv => arg 2; whnf
  have HK := Lib.hid hK
  have HSO := Lib.hid hso
  have HES := Lib.hid hes
  have HG2 := Lib.hid hg2
  have hrw := hso.row
  rw [hel] at hrw
  have HRW := Lib.hid (show BORow wz.heap.size wr (.slice la k3 lc) k3 (es.flatMap becl) from hrw)
  have HEL := Lib.hid hel
  have hki : (k3 : Int) < (m : Int) := by omega
  obtain ⟨y, hy⟩ : ∃ y, X[k3]? = some y := ⟨_, List.getElem?_eq_getElem (by omega)⟩
  have hyo := hX y (List.mem_of_getElem? hy)
  obtain ⟨b3', o3', he', hb3, t0, t1⟩ := hR.at k3 y hy
  injection he' with he'
  injection he' with he1' he2'
  subst he1' he2'
  have HSZ := Lib.hid (And.intro t0 t1)
  obtain ⟨b2', o2', he, hb2, r0, r1⟩ := (hR.grown hg2).at k3 y hy
  injection he with he
  injection he with he1 he2
  subst he1 he2
  obtain ⟨cf1, rf1, mf1, conv1, out1⟩ := conv_out hyo.1.ok.k (by omega)
  have HY := Lib.hid hy
  have HYO := Lib.hid hyo.1
  have O1 := Lib.hid out1
  have hk31 : IntKind.i64.wrap ((k3 : Int) + 1) = (k3 : Int) + 1 := IntWalk.i64_in _ (by omega)
  clear out1 t0 t1 hK hso hes hg2 hrw hel hX hR hm hy hyo
  have HS0 : Hid (wr.cell? ⟨b2, o2 + k3 * 2, none⟩ = some (.string (strOfNums y.key)) ∧ wr.cell? ⟨b2, o2 + k3 * 2 + 1, none⟩ = some (.int .u32 y.first)) := Lib.hid ⟨r0, r1⟩
  go_wp2
  refine wp_region_noPanic ?_
  refine wp_region_held_drew (S := (fun w' => w'.cell? ⟨b2, o2 + k3 * 2, none⟩ = some (.string (strOfNums y.key)) ∧ w'.cell? ⟨b2, o2 + k3 * 2 + 1, none⟩ = some (.int .u32 y.first))) (by kernel_rfl) ?_ (fun hHeld => ?_)
  · (first | (with_reducible exact keep2 HS0.out (gdrew wr)) | (with_reducible exact keep2 HS0.out (one_drew wr _)) | (with_reducible exact keep2 HS0.out (two_drew' wr _ _)) | (with_reducible exact keep2 HS0.out (one_d wr _)) | (with_reducible exact keep2 HS0.out (two_d wr _ _)) | (with_reducible exact keep2 HSZ.out HG5.out) | (trace_state; fail))
  refine wpAnyH_take (i := 0) (v := ?_) rfl (by kernel_rfl) (by kernel_rfl) (by kernel_rfl) (fun _ _ _ h => h) (Or.inl ⟨by rfl, ?hy0⟩) (by assumption) ?_
  case hy0 => (intro w hSw; (try dsimp only at hSw); (go_simp <;> with_reducible rfl))
  try simp only [Act.put, List.setIfInBounds_toArray, List.set_cons_zero, List.set_cons_succ]
  refine wpAnyH_take (i := 1) (v := ?_) rfl (by kernel_rfl) (by kernel_rfl) (by kernel_rfl) (fun _ _ _ h => h) (Or.inl ⟨by rfl, ?hy1⟩) (by assumption) ?_
  case hy1 => (intro w hSw; (try dsimp only at hSw); (go_simp <;> with_reducible rfl))
  try simp only [Act.put, List.setIfInBounds_toArray, List.set_cons_zero, List.set_cons_succ]
  refine wpAnyH_take (i := 2) (v := ?_) rfl (by kernel_rfl) (by kernel_rfl) (by kernel_rfl) (fun _ _ _ h => h) (Or.inl ⟨by rfl, ?hy2⟩) (by assumption) ?_
  case hy2 => (intro w hSw; (try dsimp only at hSw); (go_simp <;> with_reducible rfl))
  try simp only [Act.put, List.setIfInBounds_toArray, List.set_cons_zero, List.set_cons_succ]
  refine wpAnyH_take (i := 3) (v := ?_) rfl (by kernel_rfl) (by kernel_rfl) (by kernel_rfl) (fun _ _ _ h => h) (Or.inl ⟨by rfl, ?hy3⟩) (by assumption) ?_
  case hy3 => (intro w hSw; (try dsimp only at hSw); (go_simp <;> with_reducible rfl))
  try simp only [Act.put, List.setIfInBounds_toArray, List.set_cons_zero, List.set_cons_succ]
  refine wpAnyH_take (i := 4) (v := ?_) rfl (by kernel_rfl) (by kernel_rfl) (by kernel_rfl) (fun _ _ _ h => h) (Or.inl ⟨by rfl, ?hy4⟩) (by assumption) ?_
  case hy4 => (intro w hSw; (try dsimp only at hSw); (go_simp <;> with_reducible rfl))
  try simp only [Act.put, List.setIfInBounds_toArray, List.set_cons_zero, List.set_cons_succ]
  refine wpAnyH_take (i := 5) (v := ?_) rfl (by kernel_rfl) (by kernel_rfl) (by kernel_rfl) (fun _ _ _ h => h) (Or.inl ⟨by rfl, ?hy5⟩) (by assumption) ?_
  case hy5 => (intro w hSw; (try dsimp only at hSw); (go_simp <;> with_reducible rfl))
  try simp only [Act.put, List.setIfInBounds_toArray, List.set_cons_zero, List.set_cons_succ]
  refine wpAnyH_take (i := 7) (v := ?_) rfl (by kernel_rfl) (by kernel_rfl) (by kernel_rfl) (fun _ _ _ h => h) (Or.inl ⟨by rfl, ?hy6⟩) (by assumption) ?_
  case hy6 => (intro w hSw; (try dsimp only at hSw); (go_simp <;> with_reducible rfl))
  try simp only [Act.put, List.setIfInBounds_toArray, List.set_cons_zero, List.set_cons_succ]
  refine wpAnyH_take (i := 8) (v := ?_) rfl (by kernel_rfl) (by kernel_rfl) (by kernel_rfl) (fun _ _ _ h => h) (Or.inl ⟨by rfl, ?hy7⟩) (by assumption) ?_
  case hy7 => (intro w hSw; (try dsimp only at hSw); (go_simp <;> with_reducible rfl))
  try simp only [Act.put, List.setIfInBounds_toArray, List.set_cons_zero, List.set_cons_succ]
  refine wpAnyH_take (i := 9) (v := ?_) rfl (by kernel_rfl) (by kernel_rfl) (by kernel_rfl) (fun _ _ _ h => h) (Or.inl ⟨by rfl, ?hy8⟩) (by assumption) ?_
  case hy8 => (intro w hSw; (try dsimp only at hSw); (go_simp <;> with_reducible rfl))
  try simp only [Act.put, List.setIfInBounds_toArray, List.set_cons_zero, List.set_cons_succ]
  refine wpAnyH_take (i := 10) (v := ?_) rfl (by kernel_rfl) (by kernel_rfl) (by kernel_rfl) (fun _ _ _ h => h) (Or.inl ⟨by rfl, ?hy9⟩) (by assumption) ?_
  case hy9 => (intro w hSw; (try dsimp only at hSw); (go_simp <;> with_reducible rfl))
  try simp only [Act.put, List.setIfInBounds_toArray, List.set_cons_zero, List.set_cons_succ]
  refine wpAnyH_take (i := 11) (v := ?_) rfl (by kernel_rfl) (by kernel_rfl) (by kernel_rfl) (fun _ _ _ h => h) (Or.inl ⟨by rfl, ?hy10⟩) (by assumption) ?_
  case hy10 => (intro w hSw; (try dsimp only at hSw); (go_simp <;> with_reducible rfl))
  try simp only [Act.put, List.setIfInBounds_toArray, List.set_cons_zero, List.set_cons_succ]
  refine wpAnyH_ready (rs := [6]) (by kernel_rfl) (by simp) ?_
  refine AllReadyH.cons rfl (fun K hK => ?_) (AllReadyH.nil)
  go_simp
  refine hK.out _ _ ?_ (fun hHeld => ?_)
  · (first | (with_reducible exact keep2 HS0.out (gdrew wr)) | (with_reducible exact keep2 HS0.out (one_drew wr _)) | (with_reducible exact keep2 HS0.out (two_drew' wr _ _)) | (with_reducible exact keep2 HS0.out (one_d wr _)) | (with_reducible exact keep2 HS0.out (two_d wr _ _)) | (with_reducible exact keep2 HSZ.out HG5.out) | (trace_state; fail))
  clear hK K
  try simp only [Act.put, List.setIfInBounds_toArray, List.set_cons_zero, List.set_cons_succ]
  refine wpAnyH_take (i := 12) (v := ?_) rfl (by kernel_rfl) (by kernel_rfl) (by kernel_rfl) (fun _ _ _ h => h) (Or.inl ⟨by rfl, ?hy11⟩) (by assumption) ?_
  case hy11 => (intro w hSw; (try dsimp only at hSw); (go_simp <;> with_reducible rfl))
  try simp only [Act.put, List.setIfInBounds_toArray, List.set_cons_zero, List.set_cons_succ]
  refine wpAnyH_ready (rs := [13]) (by kernel_rfl) (by simp) ?_
  refine AllReadyH.cons rfl (fun K hK => ?_) (AllReadyH.nil)
  go_simp
  refine hK.out _ _ ?_ (fun hHeld => ?_)
  · (first | (with_reducible exact keep2 HS0.out (gdrew wr)) | (with_reducible exact keep2 HS0.out (one_drew wr _)) | (with_reducible exact keep2 HS0.out (two_drew' wr _ _)) | (with_reducible exact keep2 HS0.out (one_d wr _)) | (with_reducible exact keep2 HS0.out (two_d wr _ _)) | (with_reducible exact keep2 HSZ.out HG5.out) | (trace_state; fail))
  clear hK K
  try simp only [Act.put, List.setIfInBounds_toArray, List.set_cons_zero, List.set_cons_succ]
  refine wpAnyH_ready (rs := [14]) (by kernel_rfl) (by simp) ?_
  refine AllReadyH.cons rfl (fun K hK => ?_) (AllReadyH.nil)
  (have hg3 := two_drew' wr (.cells (rf1 wr.drew) 5 (mf1 wr.drew)) (.cells (bcs (.slice (some ⟨wr.heap.size, 0, none⟩) y.key.length (cf1 wr.drew)) y.first) 79); have hb3 := Nat.le_trans HG2.out.size hg3.size; have hl3 := lit5d wr (.cells (rf1 wr.drew) 5 (mf1 wr.drew)) (.slice (some ⟨wr.heap.size, 0, none⟩) y.key.length (cf1 wr.drew)) y; refine step_append_own2 rfl (.tmp 100) (.tmp 113) 64 rfl wz.heap.size 79 j0 (.agg #[.slice none 0 0, .int .u32 0]) 2 32 Try.underlying64 hj hw0 hw1 hw2 rfl (by decide) (.slice la k3 lc) k3 (es.flatMap becl) rfl (HRW.out.grown hg3) ⟨wr.heap.size + 1, 0, none⟩ 1 1 (becl ((.slice (some ⟨wr.heap.size, 0, none⟩) y.key.length (cf1 wr.drew)), y)) rfl rfl hl3 (bone2 _ _ _ _) (by unfold maxLen; omega) (by omega) hb3 ?_; intro v5 w5 hown5 hgrow5 _; have HS5 := Lib.hid (SOut5.push HSO.out HEL.out HES.out HY.out HYO.out hg3 (O1.out wr.drew _ wr.heap.size (two_one wr _ _)) hown5 hgrow5); have HG5 := Lib.hid (grow_row (gtrans HG2.out hg3) (HRW.out.grown hg3) hgrow5); clear hown5 hgrow5 hg3 hb3 hl3)
  refine hK.out _ _ ?_ (fun hHeld => ?_)
  · (first | (with_reducible exact keep2 HS0.out (gdrew wr)) | (with_reducible exact keep2 HS0.out (one_drew wr _)) | (with_reducible exact keep2 HS0.out (two_drew' wr _ _)) | (with_reducible exact keep2 HS0.out (one_d wr _)) | (with_reducible exact keep2 HS0.out (two_d wr _ _)) | (with_reducible exact keep2 HSZ.out HG5.out) | (trace_state; fail))
  clear hK K
  try simp only [Act.put, List.setIfInBounds_toArray, List.set_cons_zero, List.set_cons_succ]
  refine wpAnyH_take (i := 15) (v := ?_) rfl (by kernel_rfl) (by kernel_rfl) (by kernel_rfl) (fun _ _ _ h => h) (Or.inl ⟨by rfl, ?hy12⟩) (by assumption) ?_
  case hy12 => (intro w hSw; (try dsimp only at hSw); (go_simp <;> with_reducible rfl))
  try simp only [Act.put, List.setIfInBounds_toArray, List.set_cons_zero, List.set_cons_succ]
  refine wpAnyH_done (by kernel_rfl) ?_ _
  refine NoPanic.normal ?_
  go_wp2
  exact HK.out _ _ _ _ _ _ _ _ _ _ _ _ _ _ _ _ _ _ _ _ _ _ _ HS5.out HG5.out

end Go.Proofs.Ytfencmidjolgfaa

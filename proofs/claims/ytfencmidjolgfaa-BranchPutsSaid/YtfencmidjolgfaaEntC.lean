/-
  Layer 4: the law's entries: a round of its third loop, which makes slices of texts. Own work.
-/
import Derived.Test.YtfencmidjolgfaaEntA
import Derived.Deep.RegionHeld3
namespace Go.Proofs.Ytfencmidjolgfaa
open Go.RowKit

def ORow (base : Nat) (w : World) (v : Value) (n : Nat) (xs : List Value) : Prop := w.ownsRow base 43 4 v n xs
theorem ORow.grown {base n : Nat} {w w' : World} {v : Value} {xs : List Value} (h : ORow base w v n xs) (k : w.grownBy w' none) : w'.ownsRow base 43 4 v n xs := World.ownsRow.kept h k (by cases v.ownBlock <;> simp)
theorem three_drew (w : World) (a b c : Obj) : w.grownBy (((w.alloc a).alloc b).alloc c).drew.drew.drew none :=
  gtrans (World.grownBy_alloc _ _ _) (gtrans (World.grownBy_alloc _ _ _) (gtrans (World.grownBy_alloc _ _ _) (gtrans (gdrew _) (gtrans (gdrew _) (gdrew _)))))
theorem three_one (w : World) (a b c : Obj) : (((w.alloc a).alloc b).alloc c).drew.drew.drew.heap[w.heap.size]? = some a := by
  show (((w.alloc a).alloc b).alloc c).heap[w.heap.size]? = some a
  exact later _ (later _ (heap_alloc_new w a))
theorem three_two (w : World) (a b c : Obj) : (((w.alloc a).alloc b).alloc c).drew.drew.drew.heap[w.heap.size + 1]? = some b := by
  show (((w.alloc a).alloc b).alloc c).heap[w.heap.size + 1]? = some b
  exact later _ (heap_next (w.alloc a) b (by simp))
theorem three_base {z w : World} (h : z.grownBy w none) (a b c : Obj) : z.heap.size ≤ (((w.alloc a).alloc b).alloc c).drew.drew.drew.heap.size := by
  have := h.size
  show _ ≤ (((w.alloc a).alloc b).alloc c).heap.size
  simp; omega
theorem lit4d (w : World) (a b : Obj) (k v : Value) (x : En) : ∀ j u, (ecl (k, v, x))[j]? = some u → (((w.alloc a).alloc b).alloc (.cells (ecs k v x.long x.first) 43)).drew.drew.drew.cell? ((⟨w.heap.size + 1 + 1, 0, none⟩ : Addr).add j) = some u := by
  intro j u hj
  have e : w.heap.size + 1 + 1 = ((w.alloc a).alloc b).heap.size := by simp
  show (((w.alloc a).alloc b).alloc (.cells (ecs k v x.long x.first) 43)).cell? _ = _
  rw [Addr.add_lit, Nat.zero_add, e, World.cell?_alloc_mark]
  simpa [ecl] using hj
/-- The k first of the entries X, as slices. -/
structure SOut (base : Nat) (w : World) (v : Value) (k : Nat) (X : List En) : Prop where
  ex : ∃ es, SOwns base w v es ∧ es.length = k ∧ xsOf es = X.take k
theorem SOut.push {base k : Nat} {w w4 w5 : World} {v v' kv vv : Value} {X : List En} {y : En} {es : List (Value × Value × En)} (h : SOwns base w v es) (hl : es.length = k) (hx : xsOf es = X.take k) (hy : X[k]? = some y) (ho : EnOk y) (hg : w.grownBy w4 none)
    (h1 : SeqU w4 kv y.key) (h2 : SeqU w4 vv y.val) (hr : w5.ownsRow base 43 4 v' (k + 1) (es.flatMap ecl ++ ecl (kv, vv, y))) (hgr : w4.grownBy w5 v.ownBlock) : SOut base w5 v' (k + 1) X := by
  subst hl
  refine ⟨es ++ [(kv, vv, y)], SOwns.push (y := (kv, vv, y)) (h.grown hg) h1 h2 ho hr hgr, by simp, ?_⟩
  rw [List.take_add_one, hy, show xsOf (es ++ [(kv, vv, y)]) = xsOf es ++ [y] by simp, hx]
  rfl

theorem one_drew (w : World) (a : Obj) : w.grownBy (w.alloc a).drew.drew none := gtrans (World.grownBy_alloc _ _ _) (gtrans (gdrew _) (gdrew _))
theorem two_drew (w : World) (a b : Obj) : w.grownBy ((w.alloc a).alloc b).drew.drew.drew none := gtrans (World.grownBy_alloc _ _ _) (gtrans (World.grownBy_alloc _ _ _) (gtrans (gdrew _) (gtrans (gdrew _) (gdrew _))))
theorem two_drew' (w : World) (a b : Obj) : w.grownBy ((w.alloc a).alloc b).drew.drew none := gtrans (World.grownBy_alloc _ _ _) (gtrans (World.grownBy_alloc _ _ _) (gtrans (gdrew _) (gdrew _)))
theorem three_drew' (w : World) (a b c : Obj) : w.grownBy (((w.alloc a).alloc b).alloc c).drew.drew none := gtrans (World.grownBy_alloc _ _ _) (gtrans (World.grownBy_alloc _ _ _) (gtrans (World.grownBy_alloc _ _ _) (gtrans (gdrew _) (gdrew _))))
theorem three_drew2 (w : World) (a b c : Obj) : w.grownBy (((w.alloc a).alloc b).alloc c).drew none := gtrans (World.grownBy_alloc _ _ _) (gtrans (World.grownBy_alloc _ _ _) (gtrans (World.grownBy_alloc _ _ _) (gdrew _)))
theorem keep4 {w w' : World} {b p0 p1 p2 p3 : Nat} {v0 v1 v2 v3 : Value} (h : w.cell? ⟨b, p0, none⟩ = some v0 ∧ w.cell? ⟨b, p1, none⟩ = some v1 ∧ w.cell? ⟨b, p2, none⟩ = some v2 ∧ w.cell? ⟨b, p3, none⟩ = some v3) (g : w.grownBy w' none) :
    w'.cell? ⟨b, p0, none⟩ = some v0 ∧ w'.cell? ⟨b, p1, none⟩ = some v1 ∧ w'.cell? ⟨b, p2, none⟩ = some v2 ∧ w'.cell? ⟨b, p3, none⟩ = some v3 := by
  have hb : b < w.heap.size := World.block_lt_of_cell? _ _ h.1
  have hq : ∀ o, w'.cell? ⟨b, o, none⟩ = w.cell? ⟨b, o, none⟩ := fun o => World.cell?_of_block (w := w) (g.block b hb (by simp))
  exact ⟨(hq _).trans h.1, (hq _).trans h.2.1, (hq _).trans h.2.2.1, (hq _).trans h.2.2.2⟩
/-- The loops of a text, one behind the other. -/
def loopsOf : Code → List Code
  | .loop c => [c]
  | .seq a b => loopsOf a ++ loopsOf b
  | .block _ c => loopsOf c
  | .scope c => loopsOf c
  | .cond _ a b => loopsOf a ++ loopsOf b
  | _ => []
noncomputable def entBody (i : Nat) : Code := ((Try.f16.body.map loopsOf).getD []).getD i .skip

set_option maxRecDepth 1000000 in
set_option maxHeartbeats 8000000 in
theorem ent_out (wz wr : World) (m k3 b2 o2 vc lc : Nat) (la : Option Addr) (X : List En) (es : List (Value × Value × En)) (hR : RRow wz (.slice (some ⟨b2, o2, none⟩) m vc) X) (hX : ∀ x ∈ X, EnOk x ∧ x.key.length ≤ 120 ∧ x.val.length ≤ 600) (hm : m = X.length) (hm30 : m ≤ 30) (hlt : k3 < m)
    (hso : SOwns wz.heap.size wr (.slice la k3 lc) es) (hel : es.length = k3) (hes : xsOf es = X.take k3) (hg2 : wz.grownBy wr none)
    (u85 u86 u87 u88 u89 u90 u91 u92 u93 u94 u95 u96 u97 u98 u99 u100 u101 u102 u103 u104 u105 u106 u107 u108 u109 u110 u111 u112 u113 u114 u115 u116 v0 v1 v2 v3 v4 v5 v8 v9 v10 v11 v12 v13 v15 v16 v17 v18 v19 v20 v21 v22 v23 v24 v25 v26 v27 v28 v29 v30 v31 v32 v33 v34 v35 v36 v37 v38 v39 v40 v41 v42 v43 v44 v45 v46 v47 v48 v49 v50 v51 v52 v53 v54 v55 v56 v57 v58 v59 v60 v61 v62 v63 v64 v65 v66 v67 v68 v69 v70 v71 v72 v73 v74 v75 v76 v77 v78 v79 v80 v81 v82 v83 v84 v117 v118 : Value)
    (Kc : Act → World → Prop) (Qc : Exit → Act → World → Prop)
    (hK : ∀ (x85 x86 x87 x88 x89 x90 x91 x92 x93 x94 x95 x96 x97 x98 x99 x100 x101 x102 x103 x104 x105 x106 x107 x108 x109 x110 x111 x112 x113 x114 x115 x116 q6 : Value) (w5 : World), SOut wz.heap.size w5 q6 (k3 + 1) X → wz.grownBy w5 none → Kc ⟨#[v0, v1, v2, v3, v4, v5, q6, .slice (some ⟨b2, o2, none⟩) m vc, v8, v9, v10, v11, v12, v13, .int .i64 ((k3 : Int) + 1), v15, v16, v17, v18, v19, v20, v21, v22, v23, v24, v25, v26, v27, v28, v29, v30, v31, v32, v33, v34, v35, v36, v37, v38, v39, v40, v41, v42, v43, v44, v45, v46, v47, v48, v49, v50, v51, v52, v53, v54, v55, v56, v57, v58, v59, v60, v61, v62, v63, v64, v65, v66, v67, v68, v69, v70, v71, v72, v73, v74, v75, v76, v77, v78, v79, v80, v81, v82, v83, v84, x85, x86, x87, x88, x89, x90, x91, x92, x93, x94, x95, x96, x97, x98, x99, x100, x101, x102, x103, x104, x105, x106, x107, x108, x109, x110, x111, x112, x113, x114, x115, x116, v117, v118], []⟩ w5) :
    Code.wp Try.prog (entBody 1) (Exit.then Kc Qc) ⟨#[v0, v1, v2, v3, v4, v5, .slice la k3 lc, .slice (some ⟨b2, o2, none⟩) m vc, v8, v9, v10, v11, v12, v13, .int .i64 (k3 : Int), v15, v16, v17, v18, v19, v20, v21, v22, v23, v24, v25, v26, v27, v28, v29, v30, v31, v32, v33, v34, v35, v36, v37, v38, v39, v40, v41, v42, v43, v44, v45, v46, v47, v48, v49, v50, v51, v52, v53, v54, v55, v56, v57, v58, v59, v60, v61, v62, v63, v64, v65, v66, v67, v68, v69, v70, v71, v72, v73, v74, v75, v76, v77, v78, v79, v80, v81, v82, v83, v84, u85, u86, u87, u88, u89, u90, u91, u92, u93, u94, u95, u96, u97, u98, u99, u100, u101, u102, u103, u104, u105, u106, u107, u108, u109, u110, u111, u112, u113, u114, u115, u116, v117, v118], []⟩ wr := by
  obtain ⟨j0, hj, hw0, hw1, hw2⟩ := info_parts infoEntry
  conv => arg 2; whnf
  have HK := Lib.hid hK
  have HSO := Lib.hid hso
  have HES := Lib.hid hes
  have HG2 := Lib.hid hg2
  have hrw := hso.row
  rw [hel] at hrw
  have HRW := Lib.hid (show ORow wz.heap.size wr (.slice la k3 lc) k3 (es.flatMap ecl) from hrw)
  have HEL := Lib.hid hel
  have hki : (k3 : Int) < (m : Int) := by omega
  obtain ⟨y, hy⟩ : ∃ y, X[k3]? = some y := ⟨_, List.getElem?_eq_getElem (by omega)⟩
  have hyo := hX y (List.mem_of_getElem? hy)
  obtain ⟨b3', o3', he', hb3, t0, t1, t2, t3⟩ := hR.at k3 y hy
  injection he' with he'
  injection he' with he1' he2'
  subst he1' he2'
  have HSZ := Lib.hid (And.intro t0 (And.intro t1 (And.intro t2 t3)))
  obtain ⟨b2', o2', he, hb2, r0, r1, r2, r3⟩ := (hR.grown hg2).at k3 y hy
  injection he with he
  injection he with he1 he2
  subst he1 he2
  obtain ⟨cf1, rf1, mf1, conv1, out1⟩ := conv_out hyo.1.k (by omega)
  obtain ⟨cf2, rf2, mf2, conv2, out2⟩ := conv_out hyo.1.v (by omega)
  have HY := Lib.hid hy
  have HYO := Lib.hid hyo.1
  have O1 := Lib.hid out1
  have O2 := Lib.hid out2
  have hk31 : IntKind.i64.wrap ((k3 : Int) + 1) = (k3 : Int) + 1 := IntWalk.i64_in _ (by omega)
  clear out1 out2 t0 t1 t2 t3 hK hso hes hg2 hrw hel hX hR hm hy hyo
  have HS0 : Hid (wr.cell? ⟨b2, o2 + k3 * 4, none⟩ = some (.string (strOfNums y.key)) ∧ wr.cell? ⟨b2, o2 + k3 * 4 + 1, none⟩ = some (.string (strOfNums y.val)) ∧ wr.cell? ⟨b2, o2 + k3 * 4 + 2, none⟩ = some (.int .i64 y.long) ∧ wr.cell? ⟨b2, o2 + k3 * 4 + 3, none⟩ = some (.int .u32 y.first)) := Lib.hid ⟨r0, r1, r2, r3⟩
  go_wp2
  refine wp_region_noPanic ?_
  refine wp_region_held_drew (S := (fun w' => w'.cell? ⟨b2, o2 + k3 * 4, none⟩ = some (.string (strOfNums y.key)) ∧ w'.cell? ⟨b2, o2 + k3 * 4 + 1, none⟩ = some (.string (strOfNums y.val)) ∧ w'.cell? ⟨b2, o2 + k3 * 4 + 2, none⟩ = some (.int .i64 y.long) ∧ w'.cell? ⟨b2, o2 + k3 * 4 + 3, none⟩ = some (.int .u32 y.first))) (by kernel_rfl) ?_ (fun hHeld => ?_)
  · (first | (exact keep4 HS0.out (one_drew wr _)) | (exact keep4 HS0.out (two_drew wr _ _)) | (exact keep4 HS0.out (two_drew' wr _ _)) | (exact keep4 HS0.out (three_drew wr _ _ _)) | (exact keep4 HS0.out (three_drew' wr _ _ _)) | (exact keep4 HS0.out (three_drew2 wr _ _ _)) | (exact keep4 HSZ.out HG5.out) | go_keep)
  refine wpAnyH_take (i := 0) (v := ?_) rfl (by kernel_rfl) (by kernel_rfl) (by kernel_rfl) (fun _ _ _ h => h) (Or.inl ⟨by rfl, ?hy0⟩) (by assumption) ?_
  case hy0 => (intro w hSw; (try dsimp only at hSw); (go_simp <;> with_reducible rfl))
  try simp only [Act.put, List.setIfInBounds_toArray, List.set_cons_zero, List.set_cons_succ]
  refine wpAnyH_take (i := 1) (v := ?_) rfl (by kernel_rfl) (by kernel_rfl) (by kernel_rfl) (fun _ _ _ h => h) (Or.inl ⟨by rfl, ?hy1⟩) (by assumption) ?_
  case hy1 => (intro w hSw; (try dsimp only at hSw); (go_simp <;> with_reducible rfl))
  try simp only [Act.put, List.setIfInBounds_toArray, List.set_cons_zero, List.set_cons_succ]
  refine wpAnyH_take (i := 2) (v := ?_) rfl (by kernel_rfl) (by kernel_rfl) (by kernel_rfl) (fun _ _ _ h => h) (Or.inl ⟨by rfl, ?hy2⟩) (by assumption) ?_
  case hy2 => (intro w hSw; (try dsimp only at hSw); (go_simp <;> with_reducible rfl))
  try simp only [Act.put, List.setIfInBounds_toArray, List.set_cons_zero, List.set_cons_succ]
  refine wpAnyH_take (i := 3) (v := ?_) rfl (by kernel_rfl) (by kernel_rfl) (by kernel_rfl) (fun _ _ _ h => h) (Or.inl ⟨by rfl, ?hy3⟩) (by assumption) ?_
  case hy3 => (intro w hSw; (try dsimp only at hSw); (go_simp <;> with_reducible rfl))
  try simp only [Act.put, List.setIfInBounds_toArray, List.set_cons_zero, List.set_cons_succ]
  refine wpAnyH_take (i := 4) (v := ?_) rfl (by kernel_rfl) (by kernel_rfl) (by kernel_rfl) (fun _ _ _ h => h) (Or.inl ⟨by rfl, ?hy4⟩) (by assumption) ?_
  case hy4 => (intro w hSw; (try dsimp only at hSw); (go_simp <;> with_reducible rfl))
  try simp only [Act.put, List.setIfInBounds_toArray, List.set_cons_zero, List.set_cons_succ]
  refine wpAnyH_take (i := 5) (v := ?_) rfl (by kernel_rfl) (by kernel_rfl) (by kernel_rfl) (fun _ _ _ h => h) (Or.inl ⟨by rfl, ?hy5⟩) (by assumption) ?_
  case hy5 => (intro w hSw; (try dsimp only at hSw); (go_simp <;> with_reducible rfl))
  try simp only [Act.put, List.setIfInBounds_toArray, List.set_cons_zero, List.set_cons_succ]
  refine wpAnyH_take (i := 7) (v := ?_) rfl (by kernel_rfl) (by kernel_rfl) (by kernel_rfl) (fun _ _ _ h => h) (Or.inl ⟨by rfl, ?hy6⟩) (by assumption) ?_
  case hy6 => (intro w hSw; (try dsimp only at hSw); (go_simp <;> with_reducible rfl))
  try simp only [Act.put, List.setIfInBounds_toArray, List.set_cons_zero, List.set_cons_succ]
  refine wpAnyH_take (i := 8) (v := ?_) rfl (by kernel_rfl) (by kernel_rfl) (by kernel_rfl) (fun _ _ _ h => h) (Or.inl ⟨by rfl, ?hy7⟩) (by assumption) ?_
  case hy7 => (intro w hSw; (try dsimp only at hSw); (go_simp <;> with_reducible rfl))
  try simp only [Act.put, List.setIfInBounds_toArray, List.set_cons_zero, List.set_cons_succ]
  refine wpAnyH_take (i := 9) (v := ?_) rfl (by kernel_rfl) (by kernel_rfl) (by kernel_rfl) (fun _ _ _ h => h) (Or.inl ⟨by rfl, ?hy8⟩) (by assumption) ?_
  case hy8 => (intro w hSw; (try dsimp only at hSw); (go_simp <;> with_reducible rfl))
  try simp only [Act.put, List.setIfInBounds_toArray, List.set_cons_zero, List.set_cons_succ]
  refine wpAnyH_take (i := 10) (v := ?_) rfl (by kernel_rfl) (by kernel_rfl) (by kernel_rfl) (fun _ _ _ h => h) (Or.inl ⟨by rfl, ?hy9⟩) (by assumption) ?_
  case hy9 => (intro w hSw; (try dsimp only at hSw); (go_simp <;> with_reducible rfl))
  try simp only [Act.put, List.setIfInBounds_toArray, List.set_cons_zero, List.set_cons_succ]
  refine wpAnyH_take (i := 11) (v := ?_) rfl (by kernel_rfl) (by kernel_rfl) (by kernel_rfl) (fun _ _ _ h => h) (Or.inl ⟨by rfl, ?hy10⟩) (by assumption) ?_
  case hy10 => (intro w hSw; (try dsimp only at hSw); (go_simp <;> with_reducible rfl))
  try simp only [Act.put, List.setIfInBounds_toArray, List.set_cons_zero, List.set_cons_succ]
  refine wpAnyH_take (i := 13) (v := ?_) rfl (by kernel_rfl) (by kernel_rfl) (by kernel_rfl) (fun _ _ _ h => h) (Or.inl ⟨by rfl, ?hy11⟩) (by assumption) ?_
  case hy11 => (intro w hSw; (try dsimp only at hSw); (go_simp <;> with_reducible rfl))
  try simp only [Act.put, List.setIfInBounds_toArray, List.set_cons_zero, List.set_cons_succ]
  refine wpAnyH_take (i := 14) (v := ?_) rfl (by kernel_rfl) (by kernel_rfl) (by kernel_rfl) (fun _ _ _ h => h) (Or.inl ⟨by rfl, ?hy12⟩) (by assumption) ?_
  case hy12 => (intro w hSw; (try dsimp only at hSw); (go_simp <;> with_reducible rfl))
  try simp only [Act.put, List.setIfInBounds_toArray, List.set_cons_zero, List.set_cons_succ]
  refine wpAnyH_take (i := 15) (v := ?_) rfl (by kernel_rfl) (by kernel_rfl) (by kernel_rfl) (fun _ _ _ h => h) (Or.inl ⟨by rfl, ?hy13⟩) (by assumption) ?_
  case hy13 => (intro w hSw; (try dsimp only at hSw); (go_simp <;> with_reducible rfl))
  try simp only [Act.put, List.setIfInBounds_toArray, List.set_cons_zero, List.set_cons_succ]
  refine wpAnyH_take (i := 16) (v := ?_) rfl (by kernel_rfl) (by kernel_rfl) (by kernel_rfl) (fun _ _ _ h => h) (Or.inl ⟨by rfl, ?hy14⟩) (by assumption) ?_
  case hy14 => (intro w hSw; (try dsimp only at hSw); (go_simp <;> with_reducible rfl))
  try simp only [Act.put, List.setIfInBounds_toArray, List.set_cons_zero, List.set_cons_succ]
  refine wpAnyH_take (i := 17) (v := ?_) rfl (by kernel_rfl) (by kernel_rfl) (by kernel_rfl) (fun _ _ _ h => h) (Or.inl ⟨by rfl, ?hy15⟩) (by assumption) ?_
  case hy15 => (intro w hSw; (try dsimp only at hSw); (go_simp <;> with_reducible rfl))
  try simp only [Act.put, List.setIfInBounds_toArray, List.set_cons_zero, List.set_cons_succ]
  refine wpAnyH_take (i := 18) (v := ?_) rfl (by kernel_rfl) (by kernel_rfl) (by kernel_rfl) (fun _ _ _ h => h) (Or.inl ⟨by rfl, ?hy16⟩) (by assumption) ?_
  case hy16 => (intro w hSw; (try dsimp only at hSw); (go_simp <;> with_reducible rfl))
  try simp only [Act.put, List.setIfInBounds_toArray, List.set_cons_zero, List.set_cons_succ]
  refine wpAnyH_take (i := 19) (v := ?_) rfl (by kernel_rfl) (by kernel_rfl) (by kernel_rfl) (fun _ _ _ h => h) (Or.inl ⟨by rfl, ?hy17⟩) (by assumption) ?_
  case hy17 => (intro w hSw; (try dsimp only at hSw); (go_simp <;> with_reducible rfl))
  try simp only [Act.put, List.setIfInBounds_toArray, List.set_cons_zero, List.set_cons_succ]
  refine wpAnyH_take (i := 20) (v := ?_) rfl (by kernel_rfl) (by kernel_rfl) (by kernel_rfl) (fun _ _ _ h => h) (Or.inl ⟨by rfl, ?hy18⟩) (by assumption) ?_
  case hy18 => (intro w hSw; (try dsimp only at hSw); (go_simp <;> with_reducible rfl))
  try simp only [Act.put, List.setIfInBounds_toArray, List.set_cons_zero, List.set_cons_succ]
  refine wpAnyH_take (i := 21) (v := ?_) rfl (by kernel_rfl) (by kernel_rfl) (by kernel_rfl) (fun _ _ _ h => h) (Or.inl ⟨by rfl, ?hy19⟩) (by assumption) ?_
  case hy19 => (intro w hSw; (try dsimp only at hSw); (go_simp <;> with_reducible rfl))
  try simp only [Act.put, List.setIfInBounds_toArray, List.set_cons_zero, List.set_cons_succ]
  refine wpAnyH_take (i := 22) (v := ?_) rfl (by kernel_rfl) (by kernel_rfl) (by kernel_rfl) (fun _ _ _ h => h) (Or.inl ⟨by rfl, ?hy20⟩) (by assumption) ?_
  case hy20 => (intro w hSw; (try dsimp only at hSw); (go_simp <;> with_reducible rfl))
  try simp only [Act.put, List.setIfInBounds_toArray, List.set_cons_zero, List.set_cons_succ]
  refine wpAnyH_ready (rs := [6, 12]) (by kernel_rfl) (by simp) ?_
  refine AllReadyH.cons rfl (fun K hK => ?_) (AllReadyH.cons rfl (fun K hK => ?_) (AllReadyH.nil))
  · go_simp
    refine hK.out _ _ ?_ (fun hHeld => ?_)
    · (first | (exact keep4 HS0.out (one_drew wr _)) | (exact keep4 HS0.out (two_drew wr _ _)) | (exact keep4 HS0.out (two_drew' wr _ _)) | (exact keep4 HS0.out (three_drew wr _ _ _)) | (exact keep4 HS0.out (three_drew' wr _ _ _)) | (exact keep4 HS0.out (three_drew2 wr _ _ _)) | (exact keep4 HSZ.out HG5.out) | go_keep)
    clear hK K
    try simp only [Act.put, List.setIfInBounds_toArray, List.set_cons_zero, List.set_cons_succ]
    refine wpAnyH_ready (rs := [12]) (by kernel_rfl) (by simp) ?_
    refine AllReadyH.cons rfl (fun K hK => ?_) (AllReadyH.nil)
    go_simp
    refine hK.out _ _ ?_ (fun hHeld => ?_)
    · (first | (exact keep4 HS0.out (one_drew wr _)) | (exact keep4 HS0.out (two_drew wr _ _)) | (exact keep4 HS0.out (two_drew' wr _ _)) | (exact keep4 HS0.out (three_drew wr _ _ _)) | (exact keep4 HS0.out (three_drew' wr _ _ _)) | (exact keep4 HS0.out (three_drew2 wr _ _ _)) | (exact keep4 HSZ.out HG5.out) | go_keep)
    clear hK K
    try simp only [Act.put, List.setIfInBounds_toArray, List.set_cons_zero, List.set_cons_succ]
    refine wpAnyH_take (i := 23) (v := ?_) rfl (by kernel_rfl) (by kernel_rfl) (by kernel_rfl) (fun _ _ _ h => h) (Or.inl ⟨by rfl, ?hy21⟩) (by assumption) ?_
    case hy21 => (intro w hSw; (try dsimp only at hSw); (go_simp <;> with_reducible rfl))
    try simp only [Act.put, List.setIfInBounds_toArray, List.set_cons_zero, List.set_cons_succ]
    refine wpAnyH_ready (rs := [24]) (by kernel_rfl) (by simp) ?_
    refine AllReadyH.cons rfl (fun K hK => ?_) (AllReadyH.nil)
    go_simp
    refine hK.out _ _ ?_ (fun hHeld => ?_)
    · (first | (exact keep4 HS0.out (one_drew wr _)) | (exact keep4 HS0.out (two_drew wr _ _)) | (exact keep4 HS0.out (two_drew' wr _ _)) | (exact keep4 HS0.out (three_drew wr _ _ _)) | (exact keep4 HS0.out (three_drew' wr _ _ _)) | (exact keep4 HS0.out (three_drew2 wr _ _ _)) | (exact keep4 HSZ.out HG5.out) | go_keep)
    clear hK K
    try simp only [Act.put, List.setIfInBounds_toArray, List.set_cons_zero, List.set_cons_succ]
    refine wpAnyH_ready (rs := [25]) (by kernel_rfl) (by simp) ?_
    refine AllReadyH.cons rfl (fun K hK => ?_) (AllReadyH.nil)
    (have hg3 := three_drew wr (.cells (rf1 wr.drew) 5 (mf1 wr.drew)) (.cells (rf2 (wr.alloc (.cells (rf1 wr.drew) 5 (mf1 wr.drew))).drew.drew) 5 (mf2 (wr.alloc (.cells (rf1 wr.drew) 5 (mf1 wr.drew))).drew.drew)) (.cells (ecs (.slice (some ⟨wr.heap.size, 0, none⟩) y.key.length (cf1 wr.drew)) (.slice (some ⟨wr.heap.size + 1, 0, none⟩) y.val.length (cf2 (wr.alloc (.cells (rf1 wr.drew) 5 (mf1 wr.drew))).drew.drew)) y.long y.first) 43); have hb3 := three_base HG2.out (.cells (rf1 wr.drew) 5 (mf1 wr.drew)) (.cells (rf2 (wr.alloc (.cells (rf1 wr.drew) 5 (mf1 wr.drew))).drew.drew) 5 (mf2 (wr.alloc (.cells (rf1 wr.drew) 5 (mf1 wr.drew))).drew.drew)) (.cells (ecs (.slice (some ⟨wr.heap.size, 0, none⟩) y.key.length (cf1 wr.drew)) (.slice (some ⟨wr.heap.size + 1, 0, none⟩) y.val.length (cf2 (wr.alloc (.cells (rf1 wr.drew) 5 (mf1 wr.drew))).drew.drew)) y.long y.first) 43); have hl3 := lit4d wr (.cells (rf1 wr.drew) 5 (mf1 wr.drew)) (.cells (rf2 (wr.alloc (.cells (rf1 wr.drew) 5 (mf1 wr.drew))).drew.drew) 5 (mf2 (wr.alloc (.cells (rf1 wr.drew) 5 (mf1 wr.drew))).drew.drew)) (.slice (some ⟨wr.heap.size, 0, none⟩) y.key.length (cf1 wr.drew)) (.slice (some ⟨wr.heap.size + 1, 0, none⟩) y.val.length (cf2 (wr.alloc (.cells (rf1 wr.drew) 5 (mf1 wr.drew))).drew.drew)) y; refine step_append_own2 rfl (.tmp 91) (.tmp 115) 25 rfl wz.heap.size 43 j0 (.agg #[.slice none 0 0, .slice none 0 0, .int .i64 0, .int .u32 0]) 4 64 Try.underlying25 hj hw0 hw1 hw2 rfl (by decide) (.slice la k3 lc) k3 (es.flatMap ecl) rfl (HRW.out.grown hg3) ⟨wr.heap.size + 1 + 1, 0, none⟩ 1 1 (ecl ((.slice (some ⟨wr.heap.size, 0, none⟩) y.key.length (cf1 wr.drew)), (.slice (some ⟨wr.heap.size + 1, 0, none⟩) y.val.length (cf2 (wr.alloc (.cells (rf1 wr.drew) 5 (mf1 wr.drew))).drew.drew)), y)) rfl rfl hl3 (one4 _ _ _ _ _ _ _) (by unfold maxLen; omega) (by omega) hb3 ?_; intro v5 w5 hown5 hgrow5 _; have HS5 := Lib.hid (SOut.push HSO.out HEL.out HES.out HY.out HYO.out hg3 (O1.out wr.drew _ wr.heap.size (three_one wr _ _ _)) (O2.out ((wr.alloc (.cells (rf1 wr.drew) 5 (mf1 wr.drew))).drew.drew) _ (wr.heap.size + 1) (three_two wr _ _ _)) hown5 hgrow5); have HG5 := Lib.hid (grow_row (gtrans HG2.out hg3) (HRW.out.grown hg3) hgrow5); clear hown5 hgrow5 hg3 hb3 hl3)
    refine hK.out _ _ ?_ (fun hHeld => ?_)
    · (first | (exact keep4 HS0.out (one_drew wr _)) | (exact keep4 HS0.out (two_drew wr _ _)) | (exact keep4 HS0.out (two_drew' wr _ _)) | (exact keep4 HS0.out (three_drew wr _ _ _)) | (exact keep4 HS0.out (three_drew' wr _ _ _)) | (exact keep4 HS0.out (three_drew2 wr _ _ _)) | (exact keep4 HSZ.out HG5.out) | go_keep)
    clear hK K
    try simp only [Act.put, List.setIfInBounds_toArray, List.set_cons_zero, List.set_cons_succ]
    refine wpAnyH_take (i := 26) (v := ?_) rfl (by kernel_rfl) (by kernel_rfl) (by kernel_rfl) (fun _ _ _ h => h) (Or.inl ⟨by rfl, ?hy22⟩) (by assumption) ?_
    case hy22 => (intro w hSw; (try dsimp only at hSw); (go_simp <;> with_reducible rfl))
    try simp only [Act.put, List.setIfInBounds_toArray, List.set_cons_zero, List.set_cons_succ]
    refine wpAnyH_done (by kernel_rfl) ?_ _
    refine NoPanic.normal ?_
    go_wp2
    exact HK.out _ _ _ _ _ _ _ _ _ _ _ _ _ _ _ _ _ _ _ _ _ _ _ _ _ _ _ _ _ _ _ _ _ _ HS5.out HG5.out
  · go_simp
    refine hK.out _ _ ?_ (fun hHeld => ?_)
    · (first | (exact keep4 HS0.out (one_drew wr _)) | (exact keep4 HS0.out (two_drew wr _ _)) | (exact keep4 HS0.out (two_drew' wr _ _)) | (exact keep4 HS0.out (three_drew wr _ _ _)) | (exact keep4 HS0.out (three_drew' wr _ _ _)) | (exact keep4 HS0.out (three_drew2 wr _ _ _)) | (exact keep4 HSZ.out HG5.out) | go_keep)
    clear hK K
    try simp only [Act.put, List.setIfInBounds_toArray, List.set_cons_zero, List.set_cons_succ]
    refine wpAnyH_ready (rs := [6]) (by kernel_rfl) (by simp) ?_
    refine AllReadyH.cons rfl (fun K hK => ?_) (AllReadyH.nil)
    go_simp
    refine hK.out _ _ ?_ (fun hHeld => ?_)
    · (first | (exact keep4 HS0.out (one_drew wr _)) | (exact keep4 HS0.out (two_drew wr _ _)) | (exact keep4 HS0.out (two_drew' wr _ _)) | (exact keep4 HS0.out (three_drew wr _ _ _)) | (exact keep4 HS0.out (three_drew' wr _ _ _)) | (exact keep4 HS0.out (three_drew2 wr _ _ _)) | (exact keep4 HSZ.out HG5.out) | go_keep)
    clear hK K
    try simp only [Act.put, List.setIfInBounds_toArray, List.set_cons_zero, List.set_cons_succ]
    refine wpAnyH_take (i := 23) (v := ?_) rfl (by kernel_rfl) (by kernel_rfl) (by kernel_rfl) (fun _ _ _ h => h) (Or.inl ⟨by rfl, ?hy23⟩) (by assumption) ?_
    case hy23 => (intro w hSw; (try dsimp only at hSw); (go_simp <;> with_reducible rfl))
    try simp only [Act.put, List.setIfInBounds_toArray, List.set_cons_zero, List.set_cons_succ]
    refine wpAnyH_ready (rs := [24]) (by kernel_rfl) (by simp) ?_
    refine AllReadyH.cons rfl (fun K hK => ?_) (AllReadyH.nil)
    go_simp
    refine hK.out _ _ ?_ (fun hHeld => ?_)
    · (first | (exact keep4 HS0.out (one_drew wr _)) | (exact keep4 HS0.out (two_drew wr _ _)) | (exact keep4 HS0.out (two_drew' wr _ _)) | (exact keep4 HS0.out (three_drew wr _ _ _)) | (exact keep4 HS0.out (three_drew' wr _ _ _)) | (exact keep4 HS0.out (three_drew2 wr _ _ _)) | (exact keep4 HSZ.out HG5.out) | go_keep)
    clear hK K
    try simp only [Act.put, List.setIfInBounds_toArray, List.set_cons_zero, List.set_cons_succ]
    refine wpAnyH_ready (rs := [25]) (by kernel_rfl) (by simp) ?_
    refine AllReadyH.cons rfl (fun K hK => ?_) (AllReadyH.nil)
    (have hg3 := three_drew wr (.cells (rf2 wr.drew) 5 (mf2 wr.drew)) (.cells (rf1 (wr.alloc (.cells (rf2 wr.drew) 5 (mf2 wr.drew))).drew.drew) 5 (mf1 (wr.alloc (.cells (rf2 wr.drew) 5 (mf2 wr.drew))).drew.drew)) (.cells (ecs (.slice (some ⟨wr.heap.size + 1, 0, none⟩) y.key.length (cf1 ((wr.alloc (.cells (rf2 wr.drew) 5 (mf2 wr.drew))).drew.drew))) (.slice (some ⟨wr.heap.size, 0, none⟩) y.val.length (cf2 wr.drew)) y.long y.first) 43); have hb3 := three_base HG2.out (.cells (rf2 wr.drew) 5 (mf2 wr.drew)) (.cells (rf1 (wr.alloc (.cells (rf2 wr.drew) 5 (mf2 wr.drew))).drew.drew) 5 (mf1 (wr.alloc (.cells (rf2 wr.drew) 5 (mf2 wr.drew))).drew.drew)) (.cells (ecs (.slice (some ⟨wr.heap.size + 1, 0, none⟩) y.key.length (cf1 ((wr.alloc (.cells (rf2 wr.drew) 5 (mf2 wr.drew))).drew.drew))) (.slice (some ⟨wr.heap.size, 0, none⟩) y.val.length (cf2 wr.drew)) y.long y.first) 43); have hl3 := lit4d wr (.cells (rf2 wr.drew) 5 (mf2 wr.drew)) (.cells (rf1 (wr.alloc (.cells (rf2 wr.drew) 5 (mf2 wr.drew))).drew.drew) 5 (mf1 (wr.alloc (.cells (rf2 wr.drew) 5 (mf2 wr.drew))).drew.drew)) (.slice (some ⟨wr.heap.size + 1, 0, none⟩) y.key.length (cf1 ((wr.alloc (.cells (rf2 wr.drew) 5 (mf2 wr.drew))).drew.drew))) (.slice (some ⟨wr.heap.size, 0, none⟩) y.val.length (cf2 wr.drew)) y; refine step_append_own2 rfl (.tmp 91) (.tmp 115) 25 rfl wz.heap.size 43 j0 (.agg #[.slice none 0 0, .slice none 0 0, .int .i64 0, .int .u32 0]) 4 64 Try.underlying25 hj hw0 hw1 hw2 rfl (by decide) (.slice la k3 lc) k3 (es.flatMap ecl) rfl (HRW.out.grown hg3) ⟨wr.heap.size + 1 + 1, 0, none⟩ 1 1 (ecl ((.slice (some ⟨wr.heap.size + 1, 0, none⟩) y.key.length (cf1 ((wr.alloc (.cells (rf2 wr.drew) 5 (mf2 wr.drew))).drew.drew))), (.slice (some ⟨wr.heap.size, 0, none⟩) y.val.length (cf2 wr.drew)), y)) rfl rfl hl3 (one4 _ _ _ _ _ _ _) (by unfold maxLen; omega) (by omega) hb3 ?_; intro v5 w5 hown5 hgrow5 _; have HS5 := Lib.hid (SOut.push HSO.out HEL.out HES.out HY.out HYO.out hg3 (O1.out ((wr.alloc (.cells (rf2 wr.drew) 5 (mf2 wr.drew))).drew.drew) _ (wr.heap.size + 1) (three_two wr _ _ _)) (O2.out wr.drew _ wr.heap.size (three_one wr _ _ _)) hown5 hgrow5); have HG5 := Lib.hid (grow_row (gtrans HG2.out hg3) (HRW.out.grown hg3) hgrow5); clear hown5 hgrow5 hg3 hb3 hl3)
    refine hK.out _ _ ?_ (fun hHeld => ?_)
    · (first | (exact keep4 HS0.out (one_drew wr _)) | (exact keep4 HS0.out (two_drew wr _ _)) | (exact keep4 HS0.out (two_drew' wr _ _)) | (exact keep4 HS0.out (three_drew wr _ _ _)) | (exact keep4 HS0.out (three_drew' wr _ _ _)) | (exact keep4 HS0.out (three_drew2 wr _ _ _)) | (exact keep4 HSZ.out HG5.out) | go_keep)
    clear hK K
    try simp only [Act.put, List.setIfInBounds_toArray, List.set_cons_zero, List.set_cons_succ]
    refine wpAnyH_take (i := 26) (v := ?_) rfl (by kernel_rfl) (by kernel_rfl) (by kernel_rfl) (fun _ _ _ h => h) (Or.inl ⟨by rfl, ?hy24⟩) (by assumption) ?_
    case hy24 => (intro w hSw; (try dsimp only at hSw); (go_simp <;> with_reducible rfl))
    try simp only [Act.put, List.setIfInBounds_toArray, List.set_cons_zero, List.set_cons_succ]
    refine wpAnyH_done (by kernel_rfl) ?_ _
    refine NoPanic.normal ?_
    go_wp2
    exact HK.out _ _ _ _ _ _ _ _ _ _ _ _ _ _ _ _ _ _ _ _ _ _ _ _ _ _ _ _ _ _ _ _ _ _ HS5.out HG5.out

end Go.Proofs.Ytfencmidjolgfaa

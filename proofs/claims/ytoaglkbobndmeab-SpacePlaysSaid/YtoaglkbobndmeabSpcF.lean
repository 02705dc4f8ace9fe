/-
  Layer 8: where a space lies, and what it has; New. Own work.
-/
import Derived.Test.YtoaglkbobndmeabSpcO
namespace Go.Proofs.Ytoaglkbobndmeab
open Go.RowKit Go.Maps

def spc (B en lim low : Nat) (wv : Value) : Array Value := #[.int .u32 (en : Int), .int .u32 (lim : Int), .int .u32 (low : Int), .map (some B), .map (some (B + 1)), .map (some (B + 2)), .map (some (B + 3)), wv]
/-- A space stands in five blocks on end: four maps, and its own cells. -/
structure Fiv (B : Nat) (w : World) (en lim low : Nat) (us fr go wa : List Nat) (wv : Value) : Prop where
  box : w.heap[B + 4]? = some (.cells (spc B en lim low wv) 71 (0, 0))
  us : SetAt w B us
  fr : SetAt w (B + 1) fr
  go : SetAt w (B + 2) go
  wa : SetAt w (B + 3) wa
theorem cells8 {w : World} {q : Nat} {a b c d e f g h : Value} {t : TypeId} (k : w.heap[q]? = some (.cells #[a, b, c, d, e, f, g, h] t (0, 0))) :
    w.cell? ⟨q, 0, none⟩ = some a ∧ w.cell? ⟨q, 1, none⟩ = some b ∧ w.cell? ⟨q, 2, none⟩ = some c ∧ w.cell? ⟨q, 3, none⟩ = some d ∧ w.cell? ⟨q, 4, none⟩ = some e ∧ w.cell? ⟨q, 5, none⟩ = some f ∧ w.cell? ⟨q, 6, none⟩ = some g ∧ w.cell? ⟨q, 7, none⟩ = some h := by
  simp [World.cell?, k]
theorem free_row {w : World} {q : Nat} {cs : Array Value} {t : TypeId} (k : w.heap[q]? = some (.cells cs t (0, 0))) (j : Nat) : w.frozen? ⟨q, j, none⟩ = false := by
  simp [World.frozen?, k]
theorem Fiv.cells {B : Nat} {w : World} {en lim low : Nat} {us fr go wa : List Nat} {wv : Value} (h : Fiv B w en lim low us fr go wa wv) :
    w.cell? ⟨B + 4, 0, none⟩ = some (.int .u32 (en : Int)) ∧ w.cell? ⟨B + 4, 1, none⟩ = some (.int .u32 (lim : Int)) ∧ w.cell? ⟨B + 4, 2, none⟩ = some (.int .u32 (low : Int)) ∧ w.cell? ⟨B + 4, 3, none⟩ = some (.map (some B)) ∧
    w.cell? ⟨B + 4, 4, none⟩ = some (.map (some (B + 1))) ∧ w.cell? ⟨B + 4, 5, none⟩ = some (.map (some (B + 2))) ∧ w.cell? ⟨B + 4, 6, none⟩ = some (.map (some (B + 3))) ∧ w.cell? ⟨B + 4, 7, none⟩ = some wv := cells8 h.box
theorem Fiv.kept {B : Nat} {w w' : World} {en lim low : Nat} {us fr go wa : List Nat} {wv : Value} (h : Fiv B w en lim low us fr go wa wv) (k : ∀ i, B ≤ i → i < B + 5 → w'.heap[i]? = w.heap[i]?) : Fiv B w' en lim low us fr go wa wv :=
  ⟨(k _ (by omega) (by omega)).trans h.box, h.us.kept (k _ (by omega) (by omega)), h.fr.kept (k _ (by omega) (by omega)), h.go.kept (k _ (by omega) (by omega)), h.wa.kept (k _ (by omega) (by omega))⟩
theorem Fiv.lt {B : Nat} {w : World} {en lim low : Nat} {us fr go wa : List Nat} {wv : Value} (h : Fiv B w en lim low us fr go wa wv) : B + 5 ≤ w.heap.size := by
  have := lt_of_block h.box; omega
theorem Fiv.grown {B : Nat} {w w' : World} {en lim low : Nat} {us fr go wa : List Nat} {wv : Value} (h : Fiv B w en lim low us fr go wa wv) (k : w.grownBy w' none) : Fiv B w' en lim low us fr go wa wv :=
  h.kept fun i _ hi => k.block i (by have := h.lt; omega) (by simp)
theorem turned_other {w w' : World} {b i : Nat} (k : w.mapTurned w' b) (hi : i ≠ b) : w'.heap[i]? = w.heap[i]? := by
  obtain ⟨es, clock, es', clock', hb, rfl⟩ := k
  exact ChangeMaps.heap_setBlock_other hb _ hi
theorem Fiv.us' {B : Nat} {w w' : World} {en lim low : Nat} {us us' fr go wa : List Nat} {wv : Value} (h : Fiv B w en lim low us fr go wa wv) (k : w.mapTurned w' B) (s : SetAt w' B us') : Fiv B w' en lim low us' fr go wa wv :=
  ⟨(turned_other k (by omega)).trans h.box, s, h.fr.kept (turned_other k (by omega)), h.go.kept (turned_other k (by omega)), h.wa.kept (turned_other k (by omega))⟩
theorem Fiv.fr' {B : Nat} {w w' : World} {en lim low : Nat} {us fr fr' go wa : List Nat} {wv : Value} (h : Fiv B w en lim low us fr go wa wv) (k : w.mapTurned w' (B + 1)) (s : SetAt w' (B + 1) fr') : Fiv B w' en lim low us fr' go wa wv :=
  ⟨(turned_other k (by omega)).trans h.box, h.us.kept (turned_other k (by omega)), s, h.go.kept (turned_other k (by omega)), h.wa.kept (turned_other k (by omega))⟩
theorem Fiv.go' {B : Nat} {w w' : World} {en lim low : Nat} {us fr go go' wa : List Nat} {wv : Value} (h : Fiv B w en lim low us fr go wa wv) (k : w.mapTurned w' (B + 2)) (s : SetAt w' (B + 2) go') : Fiv B w' en lim low us fr go' wa wv :=
  ⟨(turned_other k (by omega)).trans h.box, h.us.kept (turned_other k (by omega)), h.fr.kept (turned_other k (by omega)), s, h.wa.kept (turned_other k (by omega))⟩
theorem Fiv.wa' {B : Nat} {w w' : World} {en lim low : Nat} {us fr go wa wa' : List Nat} {wv : Value} (h : Fiv B w en lim low us fr go wa wv) (k : w.mapTurned w' (B + 3)) (s : SetAt w' (B + 3) wa') : Fiv B w' en lim low us fr go wa' wv :=
  ⟨(turned_other k (by omega)).trans h.box, h.us.kept (turned_other k (by omega)), h.fr.kept (turned_other k (by omega)), h.go.kept (turned_other k (by omega)), s⟩
theorem set_other (w : World) (a : Addr) (u : Value) {i : Nat} (h : i ≠ a.block) : (w.setCell a u).heap[i]? = w.heap[i]? := Below.heap_setCell _ _ _ _ h
theorem Fiv.set {B : Nat} {w : World} {en lim low en' lim' low' : Nat} {us fr go wa : List Nat} {wv wv' : Value} (h : Fiv B w en lim low us fr go wa wv) (j : Nat) (u : Value) (e : (spc B en lim low wv).setIfInBounds j u = spc B en' lim' low' wv') :
    Fiv B (w.setCell ⟨B + 4, j, none⟩ u) en' lim' low' us fr go wa wv' := by
  refine ⟨?_, h.us.kept (set_other _ _ _ (by simp)), h.fr.kept (set_other _ _ _ (by simp)), h.go.kept (set_other _ _ _ (by simp)), h.wa.kept (set_other _ _ _ (by simp))⟩
  rw [← e]
  simp [World.setCell, Array.getElem?_modify, h.box]
/-- Five blocks that were just laid. -/
theorem fiv_made (w : World) (en lim : Nat) : Fiv w.heap.size (((((w.alloc (.map #[] 0)).alloc (.map #[] 0)).alloc (.map #[] 0)).alloc (.map #[] 0)).alloc (.cells (spc w.heap.size en lim 2 (.slice none 0 0)) 71)) en lim 2 [] [] [] [] (.slice none 0 0) := by
  have s0 := set_made w
  have s1 := set_made (w.alloc (.map #[] 0))
  have s2 := set_made ((w.alloc (.map #[] 0)).alloc (.map #[] 0))
  have s3 := set_made (((w.alloc (.map #[] 0)).alloc (.map #[] 0)).alloc (.map #[] 0))
  have b := heap_alloc_new ((((w.alloc (.map #[] 0)).alloc (.map #[] 0)).alloc (.map #[] 0)).alloc (.map #[] 0)) (.cells (spc w.heap.size en lim 2 (.slice none 0 0)) 71)
  have g : ∀ (W : World) (o : Obj), W.grownBy (W.alloc o) none := fun W o => World.grownBy_alloc W o none
  refine ⟨?_, (((s0.grown (g _ _)).grown (g _ _)).grown (g _ _)).grown (g _ _), ?_, ?_, ?_⟩
  · rw [show w.heap.size + 4 = ((((w.alloc (.map #[] 0)).alloc (.map #[] 0)).alloc (.map #[] 0)).alloc (.map #[] 0)).heap.size by simp]; exact b
  · rw [show w.heap.size + 1 = (w.alloc (.map #[] 0)).heap.size by simp]; exact ((s1.grown (g _ _)).grown (g _ _)).grown (g _ _)
  · rw [show w.heap.size + 2 = ((w.alloc (.map #[] 0)).alloc (.map #[] 0)).heap.size by simp]; exact (s2.grown (g _ _)).grown (g _ _)
  · rw [show w.heap.size + 3 = (((w.alloc (.map #[] 0)).alloc (.map #[] 0)).alloc (.map #[] 0)).heap.size by simp]; exact s3.grown (g _ _)

/-! ### records of the call's own -/
def rcl (y : Value × Rc) : List Value := [.int .u64 (y.2.1 : Int), y.1]
structure RcOwns (base : Nat) (w : World) (lv : Value) (es : List (Value × Rc)) : Prop where
  row : w.ownsRow base 65 2 lv es.length (es.flatMap rcl)
  each : ∀ y ∈ es, OwnP base w y.1 y.2.2 ∧ y.2.1 < 18446744073709551616
theorem RcOwns.nil (base : Nat) (w : World) : RcOwns base w (.slice none 0 0) [] := ⟨World.ownsRow_nil _ _ _ _, fun y hy => by cases hy⟩
theorem RcOwns.kept {base : Nat} {w w' : World} {lv : Value} {es : List (Value × Rc)} (h : RcOwns base w lv es) (k : ∀ i, base ≤ i → i < w.heap.size → w'.heap[i]? = w.heap[i]?) : RcOwns base w' lv es := by
  have ow : ∀ {e : TypeId} {size n : Nat} {v : Value} {xs : List Value}, w.ownsRow base e size v n xs → w'.ownsRow base e size v n xs := fun {e size n v xs} h => by
    refine ⟨h.1, ?_⟩
    rcases h.2 with hn | ⟨g, cap, cur, rfl, hb, hgg, rest⟩
    · exact .inl hn
    · exact .inr ⟨g, cap, cur, rfl, hb, (k g hb (lt_of_block hgg)).trans hgg, rest⟩
  exact ⟨ow h.row, fun y hy => ⟨⟨ow (h.each y hy).1.1, (h.each y hy).1.2⟩, (h.each y hy).2⟩⟩
theorem RcOwns.grown {base : Nat} {w w' : World} {lv : Value} {es : List (Value × Rc)} (h : RcOwns base w lv es) (k : w.grownBy w' none) : RcOwns base w' lv es := h.kept fun i _ hi => k.block i hi (by simp)
theorem OwnP.apart {base b2 : Nat} {w w' : World} {lv v : Value} {n : Nat} {xs : List Value} {ps : List Nat} (h : OwnP base w v ps) (hr : w.ownsRow b2 65 2 lv n xs) (k : w.grownBy w' lv.ownBlock) : OwnP base w' v ps := by
  refine ⟨World.ownsRow.kept h.1 k ?_, h.2⟩
  cases hv : v.ownBlock with
  | none => exact .inl rfl
  | some g =>
    right
    intro e
    rcases h.1.2 with ⟨hv', _⟩ | ⟨q, cap, cur, rfl, _, hq, _⟩
    · rw [hv'] at hv; cases hv
    · rcases hr.2 with ⟨hl, _⟩ | ⟨q2, cap2, cur2, hl, _, hq2, _⟩
      · rw [hl] at e; cases e
      · rw [hl] at e
        simp [Value.ownBlock] at hv e
        subst hv
        subst e
        rw [hq] at hq2
        injection hq2 with hq2
        injection hq2 with _ ht _
        exact absurd ht (by decide)
theorem RcOwns.push {base : Nat} {w w1 : World} {lv v' : Value} {es : List (Value × Rc)} {y : Value × Rc} (h : RcOwns base w lv es) (h1 : OwnP base w y.1 y.2.2) (h3 : y.2.1 < 18446744073709551616)
    (hrow : w1.ownsRow base 65 2 v' (es.length + 1) (es.flatMap rcl ++ rcl y)) (hg : w.grownBy w1 lv.ownBlock) : RcOwns base w1 v' (es ++ [y]) := by
  refine ⟨by simpa [List.flatMap_append] using hrow, fun z hz => ?_⟩
  rcases List.mem_append.1 hz with hz | hz
  · obtain ⟨g1, g3⟩ := h.each z hz
    exact ⟨g1.apart h.row hg, g3⟩
  · have : z = y := by simpa using hz
    subst this
    exact ⟨h1.apart h.row hg, h3⟩
theorem flat2 : ∀ (es : List (Value × Rc)) (i : Nat) (y : Value × Rc), es[i]? = some y → (es.flatMap rcl)[i * 2]? = some (.int .u64 (y.2.1 : Int)) ∧ (es.flatMap rcl)[i * 2 + 1]? = some y.1
  | [], i, y, h => by simp at h
  | z :: es, 0, y, h => by
    have : z = y := by simpa using h
    subst this
    exact ⟨rfl, rfl⟩
  | z :: es, i + 1, y, h => by
    have ih := flat2 es i y (by simpa using h)
    rw [show (i + 1) * 2 = i * 2 + 2 by omega]
    exact ih
theorem RcOwns.rsq {base : Nat} {w : World} {lv : Value} {es : List (Value × Rc)} (h : RcOwns base w lv es) : RSq (fun b => base ≤ b) w lv (es.map (·.2)) := by
  have hr := h.row
  rcases h.row.2 with ⟨hv, hn⟩ | ⟨q, cap, cur, hv, hb, hq, hnc, hcm, hcs, ht⟩
  · rw [List.eq_nil_of_length_eq_zero hn]
    rw [hv]; exact rsq_nil _ _
  · refine ⟨some ⟨q, 0, none⟩, cap, by rw [hv]; simp, by simpa using hnc, hcm, fun hne => ⟨q, 0, rfl, hb, fun i x hx => ?_⟩⟩
    rw [List.getElem?_map] at hx
    obtain ⟨y, hy, rfl⟩ := Option.map_eq_some_iff.1 hx
    obtain ⟨c0, c1⟩ := flat2 es i y hy
    obtain ⟨g1, g3⟩ := h.each y (List.mem_of_getElem? hy)
    have hc := hr.cells (g := q) (by rw [hv]; rfl)
    rw [Nat.zero_add]
    refine ⟨?_, g3, y.1, ?_, g1.psq⟩
    · have := hc _ _ c0; rwa [Addr.add_lit, Nat.zero_add] at this
    · have := hc _ _ c1; rwa [Addr.add_lit, Nat.zero_add] at this
theorem grow_own {a b c : World} {base size n : Nat} {e : TypeId} {v : Value} {xs : List Value} (h : a.grownBy b none) (hr : b.ownsRow base e size v n xs) (k : b.grownBy c v.ownBlock) (hb : a.heap.size ≤ base) : a.grownBy c none :=
  ⟨k.os.trans h.os, k.tape.trans h.tape, k.output.trans h.output, Nat.le_trans h.size k.size, fun i hi _ => (k.block i (Nat.lt_of_lt_of_le hi h.size) (fun e => by have := (hr.lt i e.symm).1; omega)).trans (h.block i hi (by simp))⟩
theorem lit2 (w : World) (t : Nat) (v : Value) : ∀ j u, (rcl (v, (t, [])))[j]? = some u → (w.alloc (.cells #[.int .u64 (t : Int), v] 65)).cell? ((⟨w.heap.size, 0, none⟩ : Addr).add j) = some u := by
  intro j u hj
  rw [Addr.add_lit, Nat.zero_add, World.cell?_alloc_mark]
  simpa [rcl] using hj
theorem one2 (a1 : Option Addr) (n1 c1 t : Nat) : ∀ u ∈ rcl (.slice a1 n1 c1, (t, [])), u.oneCell' = true := by
  intro u hu
  simp only [rcl, List.mem_cons, List.not_mem_nil, or_false] at hu
  rcases hu with rfl | rfl <;> rfl

end Go.Proofs.Ytoaglkbobndmeab

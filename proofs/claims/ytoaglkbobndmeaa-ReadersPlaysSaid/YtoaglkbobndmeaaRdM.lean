/-
  Layer 9: where a table of readers lies, and what it has. Own work.
-/
import Derived.Test.YtoaglkbobndmeaaWord
import Derived.Deep.LoopGhost
namespace Go.Proofs.Ytoaglkbobndmeaa
open Go.RowKit

/-- A slot: what stands there (0: nobody, 1: a reader, 2: a dead one), its turn, what is read. -/
structure Sl where
  st : Nat
  turn : Nat
  rd : Nat
def slz : Sl := ⟨0, 0, 0⟩
def slc (s : Sl) : List Value := [.int .i64 (s.st : Int), .int .u64 (s.turn : Int), .int .u64 (s.rd : Int)]
def padL (L : List Sl) : List Sl := L ++ List.replicate (126 - L.length) slz
def tabc (L : List Sl) : List Value := (padL L).flatMap slc ++ [.int .i64 (L.length : Int)]
structure SlOk (s : Sl) : Prop where
  st : s.st ≤ 2
  turn : s.turn < 18446744073709551616
  rd : s.rd < 18446744073709551616
/-- A table stands in block b. -/
structure TabAt (b : Nat) (w : World) (L : List Sl) : Prop where
  box : w.heap[b]? = some (.cells (tabc L).toArray 75 (0, 0))
  pos : 1 ≤ L.length
  most : L.length ≤ 126
  ok : ∀ s ∈ L, SlOk s

theorem flat3 : ∀ (l : List Sl) (i : Nat) (s : Sl), l[i]? = some s → ∀ r : List Value,
    (l.flatMap slc ++ r)[3 * i]? = some (.int .i64 (s.st : Int)) ∧ (l.flatMap slc ++ r)[3 * i + 1]? = some (.int .u64 (s.turn : Int)) ∧ (l.flatMap slc ++ r)[3 * i + 2]? = some (.int .u64 (s.rd : Int))
  | [], i, s, h, r => by simp at h
  | z :: l, 0, s, h, r => by
    have : z = s := by simpa using h
    subst this
    exact ⟨rfl, rfl, rfl⟩
  | z :: l, i + 1, s, h, r => by
    have ih := flat3 l i s (by simpa using h) r
    rw [show 3 * (i + 1) = 3 * i + 3 by omega]
    exact ih
theorem flat3_len (l : List Sl) : (l.flatMap slc).length = 3 * l.length := by
  induction l with
  | nil => rfl
  | cons x l ih => simp [List.flatMap_cons, slc, ih]; omega
theorem flat3_set : ∀ (l : List Sl) (i : Nat) (s t : Sl), l[i]? = some s → ∀ r : List Value,
    (((l.flatMap slc ++ r).set (3 * i) (.int .i64 (t.st : Int))).set (3 * i + 1) (.int .u64 (t.turn : Int))).set (3 * i + 2) (.int .u64 (t.rd : Int)) = (l.set i t).flatMap slc ++ r
  | [], i, s, t, h, r => by simp at h
  | z :: l, 0, s, t, h, r => rfl
  | z :: l, i + 1, s, t, h, r => by
    have ih := flat3_set l i s t (by simpa using h) r
    rw [show 3 * (i + 1) = 3 * i + 3 by omega]
    show slc z ++ ((((l.flatMap slc ++ r).set (3 * i) (.int .i64 (t.st : Int))).set (3 * i + 1) (.int .u64 (t.turn : Int))).set (3 * i + 2) (.int .u64 (t.rd : Int))) = _
    rw [ih]; rfl
theorem padL_len {L : List Sl} (h : L.length ≤ 126) : (padL L).length = 126 := by simp [padL]; omega
theorem padL_at {L : List Sl} {i : Nat} {s : Sl} (h : L[i]? = some s) : (padL L)[i]? = some s := by
  unfold padL
  rw [List.getElem?_append_left (by have := List.getElem?_eq_some_iff.1 h; exact this.1)]; exact h
theorem padL_set (L : List Sl) (i : Nat) (s t : Sl) (h : L[i]? = some s) : (padL L).set i t = padL (L.set i t) := by
  unfold padL
  rw [List.set_append_left _ _ (by have := List.getElem?_eq_some_iff.1 h; exact this.1)]; simp

theorem TabAt.cells {b : Nat} {w : World} {L : List Sl} (h : TabAt b w L) {i : Nat} {s : Sl} (hi : L[i]? = some s) :
    w.cell? ⟨b, 3 * i, none⟩ = some (.int .i64 (s.st : Int)) ∧ w.cell? ⟨b, 3 * i + 1, none⟩ = some (.int .u64 (s.turn : Int)) ∧ w.cell? ⟨b, 3 * i + 2, none⟩ = some (.int .u64 (s.rd : Int)) := by
  have f := flat3 (padL L) i s (padL_at hi) [.int .i64 (L.length : Int)]
  simp only [World.cell?, h.box]
  simpa [tabc] using f
theorem TabAt.many {b : Nat} {w : World} {L : List Sl} (h : TabAt b w L) : w.cell? ⟨b, 378, none⟩ = some (.int .i64 (L.length : Int)) := by
  have f : (tabc L)[378]? = some (.int .i64 (L.length : Int)) := by
    unfold tabc
    rw [List.getElem?_append_right (by rw [flat3_len, padL_len h.most]; decide)]
    rw [flat3_len, padL_len h.most]; rfl
  simp only [World.cell?, h.box]
  simpa using f
theorem TabAt.free {b : Nat} {w : World} {L : List Sl} (h : TabAt b w L) (j : Nat) : w.frozen? ⟨b, j, none⟩ = false := by
  simp [World.frozen?, h.box]
theorem TabAt.lt {b : Nat} {w : World} {L : List Sl} (h : TabAt b w L) : b < w.heap.size := lt_of_block h.box
theorem TabAt.kept {b : Nat} {w w' : World} {L : List Sl} (h : TabAt b w L) (k : w'.heap[b]? = w.heap[b]?) : TabAt b w' L := ⟨k.trans h.box, h.pos, h.most, h.ok⟩
theorem TabAt.grown {b : Nat} {w w' : World} {L : List Sl} (h : TabAt b w L) (k : w.grownBy w' none) : TabAt b w' L := h.kept (k.block b h.lt (by simp))
theorem TabAt.far {b : Nat} {w w' : World} {L : List Sl} {r : Option Nat} (h : TabAt b w L) (k : w.grownBy w' r) (hr : some b ≠ r) : TabAt b w' L := h.kept (k.block b h.lt hr)
/-- A slot is written whole. -/
def set3 (w : World) (b i : Nat) (t : Sl) : World :=
  ((w.setCell ⟨b, 3 * i, none⟩ (.int .i64 (t.st : Int))).setCell ⟨b, 3 * i + 1, none⟩ (.int .u64 (t.turn : Int))).setCell ⟨b, 3 * i + 2, none⟩ (.int .u64 (t.rd : Int))
theorem set3_grown (w : World) (b i : Nat) (t : Sl) : w.grownBy (set3 w b i t) (some b) := gtrans (gtrans (gset w ⟨b, _, none⟩ _) (gset _ ⟨b, _, none⟩ _)) (gset _ ⟨b, _, none⟩ _)
theorem set1_box {W : World} {q : Nat} {cs : List Value} {t : TypeId} (h : W.heap[q]? = some (.cells cs.toArray t (0, 0))) (j : Nat) (u : Value) : (W.setCell ⟨q, j, none⟩ u).heap[q]? = some (.cells (cs.set j u).toArray t (0, 0)) := by
  have := heap_setCell_same _ q j _ t u h
  simpa using this
theorem TabAt.set3 {b : Nat} {w : World} {L : List Sl} (h : TabAt b w L) {i : Nat} {s t : Sl} (hi : L[i]? = some s) (ht : SlOk t) : TabAt b (set3 w b i t) (L.set i t) := by
  refine ⟨?_, by simpa using h.pos, by simpa using h.most, fun x hx => ?_⟩
  · have h3 := set1_box (set1_box (set1_box h.box (3 * i) (.int .i64 (t.st : Int))) (3 * i + 1) (.int .u64 (t.turn : Int))) (3 * i + 2) (.int .u64 (t.rd : Int))
    refine h3.trans ?_
    unfold tabc
    rw [flat3_set (padL L) i s t (padL_at hi), padL_set L i s t hi]
    simp
  · rcases List.mem_or_eq_of_mem_set hx with hx | rfl
    · exact h.ok _ hx
    · exact ht
theorem TabAt.slot {b : Nat} {w : World} {L : List Sl} (h : TabAt b w L) {i : Nat} {s : Sl} (hi : L[i]? = some s) : SlOk s := h.ok s (List.mem_of_getElem? hi)
theorem tab_same {w w' : World} {b : Nat} {L : List Sl} (h : TabAt b w L) (e : w = w') : TabAt b w' L := e ▸ h

theorem flat3_set2 : ∀ (l : List Sl) (i : Nat) (s : Sl) (x y : Nat), l[i]? = some s → ∀ r : List Value,
    ((l.flatMap slc ++ r).set (3 * i) (.int .i64 (x : Int))).set (3 * i + 2) (.int .u64 (y : Int)) = (l.set i ⟨x, s.turn, y⟩).flatMap slc ++ r
  | [], i, s, x, y, h, r => by simp at h
  | z :: l, 0, s, x, y, h, r => by
    have : z = s := by simpa using h
    subst this
    rfl
  | z :: l, i + 1, s, x, y, h, r => by
    have ih := flat3_set2 l i s x y (by simpa using h) r
    rw [show 3 * (i + 1) = 3 * i + 3 by omega]
    show slc z ++ (((l.flatMap slc ++ r).set (3 * i) (.int .i64 (x : Int))).set (3 * i + 2) (.int .u64 (y : Int))) = _
    rw [ih]; rfl
theorem flat3_set1 : ∀ (l : List Sl) (i : Nat) (s : Sl) (x : Nat), l[i]? = some s → ∀ r : List Value,
    (l.flatMap slc ++ r).set (3 * i) (.int .i64 (x : Int)) = (l.set i ⟨x, s.turn, s.rd⟩).flatMap slc ++ r
  | [], i, s, x, h, r => by simp at h
  | z :: l, 0, s, x, h, r => by
    have : z = s := by simpa using h
    subst this
    rfl
  | z :: l, i + 1, s, x, h, r => by
    have ih := flat3_set1 l i s x (by simpa using h) r
    rw [show 3 * (i + 1) = 3 * i + 3 by omega]
    show slc z ++ ((l.flatMap slc ++ r).set (3 * i) (.int .i64 (x : Int))) = _
    rw [ih]; rfl
theorem TabAt.of_set {b : Nat} {w w' : World} {L : List Sl} (h : TabAt b w L) {i : Nat} {t : Sl} (ht : SlOk t) (hb : w'.heap[b]? = some (.cells (tabc (L.set i t)).toArray 75 (0, 0))) : TabAt b w' (L.set i t) :=
  ⟨hb, by simpa using h.pos, by simpa using h.most, fun x hx => by
    rcases List.mem_or_eq_of_mem_set hx with hx | rfl
    · exact h.ok _ hx
    · exact ht⟩
/-- A slot whose reader goes. -/
theorem TabAt.set2 {b : Nat} {w : World} {L : List Sl} (h : TabAt b w L) {i : Nat} {s : Sl} (hi : L[i]? = some s) : TabAt b ((w.setCell ⟨b, 3 * i, none⟩ (.int .i64 0)).setCell ⟨b, 3 * i + 2, none⟩ (.int .u64 0)) (L.set i ⟨0, s.turn, 0⟩) := by
  refine h.of_set ⟨by simp, (h.slot hi).turn, by simp⟩ ((set1_box (set1_box h.box (3 * i) (.int .i64 0)) (3 * i + 2) (.int .u64 0)).trans ?_)
  unfold tabc
  have := flat3_set2 (padL L) i s 0 0 (padL_at hi) [.int .i64 (L.length : Int)]
  rw [← padL_set L i s _ hi]
  simp only [List.length_set]
  rw [← this]; rfl
theorem TabAt.set1 {b : Nat} {w : World} {L : List Sl} (h : TabAt b w L) {i : Nat} {s : Sl} (hi : L[i]? = some s) : TabAt b (w.setCell ⟨b, 3 * i, none⟩ (.int .i64 2)) (L.set i ⟨2, s.turn, s.rd⟩) := by
  refine h.of_set ⟨by simp, (h.slot hi).turn, (h.slot hi).rd⟩ ((set1_box h.box (3 * i) (.int .i64 2)).trans ?_)
  unfold tabc
  have := flat3_set1 (padL L) i s 2 (padL_at hi) [.int .i64 (L.length : Int)]
  rw [← padL_set L i s _ hi]
  simp only [List.length_set]
  rw [← this]; rfl

/-- The slot's pointer, if somebody stands there. -/
def takenM (L : List Sl) (i : Int) : Option Sl := if 0 ≤ i then (L[i.toNat]?).filter (fun s => s.st != 0) else none
theorem takenM_some {L : List Sl} {i : Int} {s : Sl} (h : takenM L i = some s) : 0 ≤ i ∧ L[i.toNat]? = some s ∧ s.st ≠ 0 := by
  unfold takenM at h
  split at h
  · obtain ⟨h1, h2⟩ := Option.filter_eq_some_iff.1 h
    exact ⟨by assumption, h1, by simpa using h2⟩
  · cases h
def goodM (L : List Sl) (i : Int) (t : Nat) : Option Sl := (takenM L i).filter (fun s => s.turn == t)
theorem goodM_some {L : List Sl} {i : Int} {t : Nat} {s : Sl} (h : goodM L i t = some s) : takenM L i = some s ∧ s.turn = t := by
  obtain ⟨h1, h2⟩ := Option.filter_eq_some_iff.1 h
  exact ⟨h1, by simpa using h2⟩
def ptrAt (b : Nat) (i : Int) : Option Sl → Value
  | none => .pointer none
  | some _ => .pointer (some ⟨b, 3 * i.toNat, none⟩)

end Go.Proofs.Ytoaglkbobndmeaa

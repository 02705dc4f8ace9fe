/-
  A row of pages of the call's own, as it is sorted; cmp.Less at pages; insertionSort. Own work; what is sorted, and that it is, is said by the library's plain functions.
-/
import Derived.Test.YtoaglkbobndmeabSpcL
import Derived.Sort.AssemblyPlain
import Derived.Sort.Row
namespace Go.Proofs.Ytoaglkbobndmeab
open Go.RowKit Go.Maps

def ltN (x y : Nat) : Bool := decide (x < y)
theorem swo_ltN : Sort.SWO ltN :=
  ⟨fun x => by simp [ltN], fun x y z h k => by simp only [ltN, decide_eq_true_eq] at *; omega, fun x y z h k => by simp only [ltN, decide_eq_false_iff_not] at *; omega⟩

/-- Block blk of w is a row of 'cap' pages' cells; the first of them hold d; all else is as in w0. -/
structure RowAt (w0 : World) (blk cap : Nat) (w : World) (d : Array Nat) : Prop where
  row : ∃ c : Array Value, w.heap[blk]? = some (.cells c 36 (0, 0)) ∧ c.size = cap ∧ ∀ j, j < d.size → c[j]? = some (encP d[j]!)
  gr : w0.grownBy w (some blk)
  lt : blk < w0.heap.size
  fit : d.size ≤ cap
theorem RowAt.cell {w0 w : World} {blk cap : Nat} {d : Array Nat} (h : RowAt w0 blk cap w d) {j : Nat} (hj : j < d.size) : w.cell? ⟨blk, j, none⟩ = some (.int .u32 ((d[j]! : Nat) : Int)) := by
  obtain ⟨c, hb, hs, hc⟩ := h.row
  simp only [World.cell?, hb]
  exact hc j hj
theorem RowAt.froz {w0 w : World} {blk cap : Nat} {d : Array Nat} (h : RowAt w0 blk cap w d) (j : Nat) : w.frozen? ⟨blk, j, none⟩ = false := by
  obtain ⟨c, hb, hs, hc⟩ := h.row
  exact free_row hb j
theorem RowAt.grown {w0 w w' : World} {blk cap : Nat} {d : Array Nat} (h : RowAt w0 blk cap w d) (k : w.grownBy w' none) : RowAt w0 blk cap w' d := by
  obtain ⟨c, hb, hs, hc⟩ := h.row
  exact ⟨⟨c, (k.block blk (lt_of_block hb) (by simp)).trans hb, hs, hc⟩, gtrans h.gr (gwide k), h.lt, h.fit⟩
theorem gdrewN (w : World) (n : Nat) : w.grownBy (w.drewN n) none := ⟨rfl, rfl, rfl, Nat.le_refl _, fun _ _ _ => rfl⟩
theorem RowAt.drewN {w0 w : World} {blk cap : Nat} {d : Array Nat} (h : RowAt w0 blk cap w d) (n : Nat) : RowAt w0 blk cap (w.drewN n) d := h.grown (gdrewN w n)
theorem RowAt.drew {w0 w : World} {blk cap : Nat} {d : Array Nat} (h : RowAt w0 blk cap w d) : RowAt w0 blk cap w.drew d := h.grown (gdrew w)
/-- A store beside the row. -/
theorem RowAt.beside {w0 w : World} {blk cap g : Nat} {d : Array Nat} (h : RowAt w0 blk cap w d) (hg : w0.heap.size ≤ g) (k : Nat) (u : Value) : RowAt w0 blk cap (w.setCell ⟨g, k, none⟩ u) d := by
  obtain ⟨c, hb, hs, hc⟩ := h.row
  have hne : blk ≠ g := by have := h.lt; omega
  exact ⟨⟨c, (set_other _ _ _ (by simpa using hne)).trans hb, hs, hc⟩, gnew h.gr (gset w ⟨g, k, none⟩ u) hg, h.lt, h.fit⟩
/-- One store into the row. -/
theorem RowAt.put {w0 w : World} {blk cap : Nat} {d : Array Nat} (h : RowAt w0 blk cap w d) {i : Nat} (hi : i < d.size) (x : Nat) : RowAt w0 blk cap (w.setCell ⟨blk, i, none⟩ (encP x)) (d.setIfInBounds i x) := by
  obtain ⟨c, hb, hs, hc⟩ := h.row
  refine ⟨⟨c.setIfInBounds i (encP x), ?_, by simpa using hs, fun j hj => ?_⟩, gtrans h.gr (gset w ⟨blk, i, none⟩ _), h.lt, by simpa using h.fit⟩
  · simp [World.setCell, Array.getElem?_modify, hb]
  · have hj' : j < d.size := by simpa using hj
    by_cases e : j = i
    · subst e
      rw [Sort.getElem!_set_same d j x hi]
      have := hc j hi
      have hjc : j < c.size := (Array.getElem?_eq_some_iff.1 this).1
      simp [hjc]
    · rw [Sort.getElem!_set_other d i j x e, Array.getElem?_setIfInBounds, if_neg (fun e' => e e'.symm)]
      exact hc j hj'
theorem RowAt.swap {w0 w : World} {blk cap : Nat} {d : Array Nat} (h : RowAt w0 blk cap w d) {i j x y : Nat} (hi : i < d.size) (hj : j < d.size) (hx : d[j]! = x) (hy : d[i]! = y) :
    RowAt w0 blk cap ((w.setCell ⟨blk, i, none⟩ (.int .u32 (x : Int))).setCell ⟨blk, j, none⟩ (.int .u32 (y : Int))) (Sort.swp d i j) := by
  subst hx; subst hy
  exact (h.put hi d[j]!).put (by simpa using hj) d[i]!
theorem size_swp' (d : Array Nat) (i j : Nat) : (Sort.swp d i j).size = d.size := by simp [Sort.swp]

set_option maxHeartbeats 400000 in
theorem nan_any (a : Int) (w : World) : Calls Try.prog 58 #[.int .u32 a] w fun r w' => r = .returned (.bool false) ∧ w = w' := by
  go_enter Try.func58, Try.ntmps58
  go_wp2
  go_ret
  exact ⟨rfl, rfl⟩
set_option maxHeartbeats 400000 in
theorem less_any (x y : Nat) (b : Bool) (hb : ltN x y = b) (w : World) : Calls Try.prog 48 #[.int .u32 (x : Int), .int .u32 (y : Int)] w fun r w' => r = .returned (.bool b) ∧ w' = w := by
  by_cases h : x < y
  · have hi : (x : Int) < (y : Int) := by omega
    have HB := Lib.hid (show b = true by rw [← hb]; simpa [ltN] using h)
    go_enter Try.func48, Try.ntmps48
    go_wp2_with (first
      | (go_at_call 58; refine (nan_any _ w).mono ?_; rintro r w1 ⟨rfl, rfl⟩))
    go_ret
    exact ⟨by rw [HB.out]; rfl, rfl⟩
  · have hi : ¬ (x : Int) < (y : Int) := by omega
    have HB := Lib.hid (show b = false by rw [← hb]; simpa [ltN] using h)
    go_enter Try.func48, Try.ntmps48
    go_wp2_with (first
      | (go_at_call 58; refine (nan_any _ w).mono ?_; rintro r w1 ⟨rfl, rfl⟩))
    go_ret
    exact ⟨by rw [HB.out]; rfl, rfl⟩

end Go.Proofs.Ytoaglkbobndmeab

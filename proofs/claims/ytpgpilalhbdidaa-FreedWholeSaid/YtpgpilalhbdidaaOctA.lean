/-
  Words for byte slices, the octet Writer's and Reader's memory, and the contracts of octet's smallest calls. Own work.
-/
import Derived.Test.YtpgpilalhbdidaaRows
import Derived.WalkKit
import Derived.WalkSpells
import Derived.WalkLawsBesides
import Derived.Lib.Hide
import Derived.Test.YtpgpilalhbdidaaOctM
namespace Go.Proofs.Ytpgpilalhbdidaa
open Go.RowKit

/-- A Reader at block g: its rest reads as bs, its error is e. -/
def RdAt (w : World) (g : Nat) (bs : List Int) (e : Int) : Prop :=
  ∃ v, Seq g w v bs ∧ w.heap[g]? = some (.cells #[v, .int .i64 e] 123 (0, 0))

/-- A Writer at block g that has put bs. -/
def WrAt (w : World) (g : Nat) (bs : List Int) : Prop :=
  ∃ v, w.ownsRow (g + 1) 5 1 v bs.length (bs.map (Value.int .u8)) ∧ w.heap[g]? = some (.cells #[v] 114 (0, 0))

theorem two_cell0 {w : World} {b : Nat} {u v : Value} {t : TypeId} (h : w.heap[b]? = some (.cells #[u, v] t (0, 0))) : w.cell? ⟨b, 0, none⟩ = some u := by simp [World.cell?, h]
theorem two_cell1 {w : World} {b : Nat} {u v : Value} {t : TypeId} (h : w.heap[b]? = some (.cells #[u, v] t (0, 0))) : w.cell? ⟨b, 1, none⟩ = some v := by simp [World.cell?, h]
theorem two_free0 {w : World} {b : Nat} {u v : Value} {t : TypeId} (h : w.heap[b]? = some (.cells #[u, v] t (0, 0))) : w.frozen? ⟨b, 0, none⟩ = false := by simp [World.frozen?, h]
theorem two_free1 {w : World} {b : Nat} {u v : Value} {t : TypeId} (h : w.heap[b]? = some (.cells #[u, v] t (0, 0))) : w.frozen? ⟨b, 1, none⟩ = false := by simp [World.frozen?, h]
theorem two_set0 {w : World} {b : Nat} {u v x : Value} {t : TypeId} (h : w.heap[b]? = some (.cells #[u, v] t (0, 0))) : (w.setCell ⟨b, 0, none⟩ x).heap[b]? = some (.cells #[x, v] t (0, 0)) := by
  have hlt := lt_of_block h
  have h' : w.heap[b] = .cells #[u, v] t (0, 0) := by simpa [Array.getElem?_eq_getElem hlt] using h
  show (w.heap.modify b _)[b]? = _
  rw [Array.getElem?_eq_getElem (by simpa using hlt), Array.getElem_modify_self, h']
  rfl
theorem two_set1 {w : World} {b : Nat} {u v x : Value} {t : TypeId} (h : w.heap[b]? = some (.cells #[u, v] t (0, 0))) : (w.setCell ⟨b, 1, none⟩ x).heap[b]? = some (.cells #[u, x] t (0, 0)) := by
  have hlt := lt_of_block h
  have h' : w.heap[b] = .cells #[u, v] t (0, 0) := by simpa [Array.getElem?_eq_getElem hlt] using h
  show (w.heap.modify b _)[b]? = _
  rw [Array.getElem?_eq_getElem (by simpa using hlt), Array.getElem_modify_self, h']
  rfl

theorem RdAt.lt {w : World} {g : Nat} {bs : List Int} {e : Int} (h : RdAt w g bs e) : g < w.heap.size := by
  obtain ⟨v, _, hv⟩ := h; exact lt_of_block hv
theorem RdAt.kept {w w' : World} {g : Nat} {bs : List Int} {e : Int} (h : RdAt w g bs e) (k : ∀ i, i ≤ g → w'.heap[i]? = w.heap[i]?) : RdAt w' g bs e := by
  obtain ⟨v, hs, hv⟩ := h
  exact ⟨v, hs.below fun i hi => k i (by omega), (k g (Nat.le_refl _)).trans hv⟩
theorem WrAt.lt {w : World} {g : Nat} {bs : List Int} (h : WrAt w g bs) : g < w.heap.size := by
  obtain ⟨v, _, hv⟩ := h; exact lt_of_block hv
theorem WrAt.kept {w w' : World} {g : Nat} {bs : List Int} (h : WrAt w g bs) (k : w.grownBy w' none) : WrAt w' g bs := by
  obtain ⟨v, hs, hv⟩ := h
  exact ⟨v, hs.kept k (by cases v.ownBlock <;> simp), (k.block g (lt_of_block hv) (by simp)).trans hv⟩

set_option maxHeartbeats 400000 in
theorem err_any (w : World) (g : Nat) (bs : List Int) (e : Int) (h : RdAt w g bs e) :
    Calls Try.prog 70 #[.pointer (some ⟨g, 0, none⟩)] w fun r w' => r = .returned (.int .i64 e) ∧ w = w' := by
  obtain ⟨v, hs, hv⟩ := h
  have h1 := two_cell1 hv
  clear hv hs
  go_enter Try.func70, Try.ntmps70
  go_wp2
  go_ret
  exact ⟨rfl, rfl⟩
set_option maxHeartbeats 400000 in
theorem err_nil (w : World) :
    Calls Try.prog 70 #[.pointer none] w fun r w' => r = .returned (.int .i64 1) ∧ w = w' := by
  go_enter Try.func70, Try.ntmps70
  go_wp2
  go_ret
  exact ⟨rfl, rfl⟩
set_option maxHeartbeats 400000 in
theorem rightSize_any (n : Int) (w : World) :
    Calls Try.prog 57 #[.int .i64 n] w fun r w' => r = .returned (.bool (decide (1 ≤ n) && decide (n ≤ 8))) ∧ w = w' := by
  by_cases h : 1 ≤ n
  · go_enter Try.func57, Try.ntmps57
    go_wp2
    go_ret
    exact ⟨by simp [h], rfl⟩
  · go_enter Try.func57, Try.ntmps57
    go_wp2
    go_ret
    exact ⟨by simp; omega, rfl⟩
set_option maxHeartbeats 400000 in
theorem newW_any (w : World) :
    Calls Try.prog 68 #[] w fun r w' => r = .returned (.pointer (some ⟨w.heap.size, 0, none⟩)) ∧ WrAt w' w.heap.size [] ∧ w.grownBy w' none := by
  go_enter Try.func68, Try.ntmps68
  go_wp2
  go_ret
  exact ⟨rfl, ⟨_, World.ownsRow_nil _ _ _ _, heap_alloc_new _ _⟩, World.grownBy_alloc _ _ _⟩

end Go.Proofs.Ytpgpilalhbdidaa

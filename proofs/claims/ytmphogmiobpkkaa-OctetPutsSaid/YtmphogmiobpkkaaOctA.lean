/-
  Words for byte slices, the octet Writer's and Reader's memory, and the contracts of octet's smallest calls. Own work.
-/
import Derived.Test.YtmphogmiobpkkaaRows
import Derived.WalkKit
import Derived.WalkSpells
import Derived.WalkLawsBesides
import Derived.Lib.Hide
import Derived.Test.YtmphogmiobpkkaaOctM
namespace Go.Proofs.Ytmphogmiobpkkaa
open Go.RowKit

/-- The value v is a slice that reads as the bytes bs; its cells lie below block B. -/
def Seq (B : Nat) (w : World) (v : Value) (bs : List Int) : Prop :=
  ∃ ao c, v = .slice ao bs.length c ∧ bs.length ≤ c ∧ c ≤ maxLen ∧ (ao = none → c = 0) ∧
    (bs ≠ [] → ∃ b o, ao = some ⟨b, o, none⟩ ∧ b < B ∧ ∀ j, j < bs.length → w.cell? ⟨b, o + j, none⟩ = some (.int .u8 (bs.getD j 0)))

/-- A Reader at block g: its rest reads as bs, its error is e. -/
def RdAt (w : World) (g : Nat) (bs : List Int) (e : Int) : Prop :=
  ∃ v, Seq g w v bs ∧ w.heap[g]? = some (.cells #[v, .int .i64 e] 59 (0, 0))

/-- A Writer at block g that has put bs. -/
def WrAt (w : World) (g : Nat) (bs : List Int) : Prop :=
  ∃ v, w.ownsRow (g + 1) 5 1 v bs.length (bs.map (Value.int .u8)) ∧ w.heap[g]? = some (.cells #[v] 54 (0, 0))

theorem gtrans {a b c : World} {row : Option Nat} (h : a.grownBy b row) (k : b.grownBy c row) : a.grownBy c row :=
  ⟨k.os.trans h.os, k.tape.trans h.tape, k.output.trans h.output, Nat.le_trans h.size k.size, fun i hi hn => (k.block i (Nat.lt_of_lt_of_le hi h.size) hn).trans (h.block i hi hn)⟩
theorem gwide {a b : World} {row : Option Nat} (h : a.grownBy b none) : a.grownBy b row :=
  ⟨h.os, h.tape, h.output, h.size, fun i hi _ => h.block i hi (by simp)⟩
theorem grefl (a : World) (row : Option Nat) : a.grownBy a row := ⟨rfl, rfl, rfl, Nat.le_refl _, fun _ _ _ => rfl⟩
theorem gbelow {a b : World} (h : a.grownBy b none) : Below a.heap.size a b := ⟨h.os, h.tape, h.output, h.size, fun i hi => h.block i hi (by simp)⟩
theorem gof {a b : World} (h : Below a.heap.size a b) (row : Option Nat) : a.grownBy b row := ⟨h.os, h.tape, h.output, h.size, fun i hi _ => h.block i hi⟩

theorem two_cell0 {w : World} {b : Nat} {u v : Value} {t : TypeId} (h : w.heap[b]? = some (.cells #[u, v] t (0, 0))) : w.cell? ⟨b, 0, none⟩ = some u := by simp [World.cell?, h]
theorem two_cell1 {w : World} {b : Nat} {u v : Value} {t : TypeId} (h : w.heap[b]? = some (.cells #[u, v] t (0, 0))) : w.cell? ⟨b, 1, none⟩ = some v := by simp [World.cell?, h]
theorem two_free0 {w : World} {b : Nat} {u v : Value} {t : TypeId} (h : w.heap[b]? = some (.cells #[u, v] t (0, 0))) : w.frozen? ⟨b, 0, none⟩ = false := by simp [World.frozen?, h]
theorem two_free1 {w : World} {b : Nat} {u v : Value} {t : TypeId} (h : w.heap[b]? = some (.cells #[u, v] t (0, 0))) : w.frozen? ⟨b, 1, none⟩ = false := by simp [World.frozen?, h]
theorem two_set0 {w : World} {b : Nat} {u v x : Value} {t : TypeId} (h : w.heap[b]? = some (.cells #[u, v] t (0, 0))) : (w.setCell ⟨b, 0, none⟩ x).heap[b]? = some (.cells #[x, v] t (0, 0)) := by
  have hlt := lt_of_block h
  have h' : w.heap[b] = .cells #[u, v] t (0, 0) := by simpa [Array.getElem?_eq_getElem hlt] using h
  show (w.heap.modify b _)[b]? = _
  rw [Array.getElem?_eq_getElem (by simpa using hlt), Array.getElem_modify_self, h']
  rfl
theorem two_set1 {w : World} {b : Nat} {u v x : Value} {t : TypeId} (h : w.heap[b]? = some (.cells #[u, v] t (0, 0))) : (w.setCell ⟨b, 1, none⟩ x).heap[b]? = some (.cells #[u, x] t (0, 0)) := by
  have hlt := lt_of_block h
  have h' : w.heap[b] = .cells #[u, v] t (0, 0) := by simpa [Array.getElem?_eq_getElem hlt] using h
  show (w.heap.modify b _)[b]? = _
  rw [Array.getElem?_eq_getElem (by simpa using hlt), Array.getElem_modify_self, h']
  rfl

theorem Seq.below {B : Nat} {w w' : World} {v : Value} {bs : List Int} (h : Seq B w v bs) (k : ∀ i, i < B → w'.heap[i]? = w.heap[i]?) : Seq B w' v bs := by
  obtain ⟨ao, c, hv, h1, h2, h3, h4⟩ := h
  refine ⟨ao, c, hv, h1, h2, h3, fun hne => ?_⟩
  obtain ⟨b, o, ha, hb, hc⟩ := h4 hne
  exact ⟨b, o, ha, hb, fun j hj => (World.cell?_of_block (w := w) (k b hb)).trans (hc j hj)⟩
theorem Seq.mono {B B' : Nat} {w : World} {v : Value} {bs : List Int} (h : Seq B w v bs) (k : B ≤ B') : Seq B' w v bs := by
  obtain ⟨ao, c, hv, h1, h2, h3, h4⟩ := h
  refine ⟨ao, c, hv, h1, h2, h3, fun hne => ?_⟩
  obtain ⟨b, o, ha, hb, hc⟩ := h4 hne
  exact ⟨b, o, ha, by omega, hc⟩
/-- What the call owns reads as bytes. -/
theorem Seq.owned {base : Nat} {w : World} {v : Value} {bs : List Int} (h : w.ownsRow base 5 1 v bs.length (bs.map (Value.int .u8))) : Seq w.heap.size w v bs := by
  rcases h.2 with ⟨rfl, hn⟩ | ⟨g, cap, cur, rfl, hb, hg, hc, hm, hs, ht⟩
  · exact ⟨none, 0, by rw [hn], by omega, by simp [maxLen], fun _ => rfl, fun hne => absurd (List.eq_nil_of_length_eq_zero hn) hne⟩
  · refine ⟨some ⟨g, 0, none⟩, cap, rfl, hc, hm, by simp, fun _ => ⟨g, 0, rfl, lt_of_block hg, fun j hj => ?_⟩⟩
    rw [Nat.zero_add, h.cellAt j (by omega)]
    simp [List.getElem?_map, List.getElem?_eq_getElem hj]

theorem RdAt.lt {w : World} {g : Nat} {bs : List Int} {e : Int} (h : RdAt w g bs e) : g < w.heap.size := by
  obtain ⟨v, _, hv⟩ := h; exact lt_of_block hv
theorem RdAt.kept {w w' : World} {g : Nat} {bs : List Int} {e : Int} (h : RdAt w g bs e) (k : ∀ i, i ≤ g → w'.heap[i]? = w.heap[i]?) : RdAt w' g bs e := by
  obtain ⟨v, hs, hv⟩ := h
  exact ⟨v, hs.below fun i hi => k i (by omega), (k g (Nat.le_refl _)).trans hv⟩
theorem WrAt.lt {w : World} {g : Nat} {bs : List Int} (h : WrAt w g bs) : g < w.heap.size := by
  obtain ⟨v, _, hv⟩ := h; exact lt_of_block hv
theorem WrAt.kept {w w' : World} {g : Nat} {bs : List Int} (h : WrAt w g bs) (k : w.grownBy w' none) : WrAt w' g bs := by
  obtain ⟨v, hs, hv⟩ := h
  exact ⟨v, hs.kept k (by cases v.ownBlock <;> simp), (k.block g (lt_of_block hv) (by simp)).trans hv⟩

set_option maxHeartbeats 400000 in
theorem err_any (w : World) (g : Nat) (bs : List Int) (e : Int) (h : RdAt w g bs e) :
    Calls Try.prog 23 #[.pointer (some ⟨g, 0, none⟩)] w fun r w' => r = .returned (.int .i64 e) ∧ w = w' := by
  obtain ⟨v, hs, hv⟩ := h
  have h1 := two_cell1 hv
  clear hv hs
  go_enter Try.func23, Try.ntmps23
  go_wp2
  go_ret
  exact ⟨rfl, rfl⟩
set_option maxHeartbeats 400000 in
theorem err_nil (w : World) :
    Calls Try.prog 23 #[.pointer none] w fun r w' => r = .returned (.int .i64 1) ∧ w = w' := by
  go_enter Try.func23, Try.ntmps23
  go_wp2
  go_ret
  exact ⟨rfl, rfl⟩
set_option maxHeartbeats 400000 in
theorem left_any (w : World) (g : Nat) (bs : List Int) (e : Int) (h : RdAt w g bs e) :
    Calls Try.prog 24 #[.pointer (some ⟨g, 0, none⟩)] w fun r w' => r = .returned (.int .i64 bs.length) ∧ w = w' := by
  obtain ⟨v, ⟨ao, c, rfl, _⟩, hv⟩ := h
  have h1 := two_cell0 hv
  clear hv
  go_enter Try.func24, Try.ntmps24
  go_wp2
  go_ret
  exact ⟨rfl, rfl⟩
set_option maxHeartbeats 400000 in
theorem left_nil (w : World) :
    Calls Try.prog 24 #[.pointer none] w fun r w' => r = .returned (.int .i64 0) ∧ w = w' := by
  go_enter Try.func24, Try.ntmps24
  go_wp2
  go_ret
  exact ⟨rfl, rfl⟩
set_option maxHeartbeats 400000 in
theorem rightSize_any (n : Int) (w : World) :
    Calls Try.prog 26 #[.int .i64 n] w fun r w' => r = .returned (.bool (decide (1 ≤ n) && decide (n ≤ 8))) ∧ w = w' := by
  by_cases h : 1 ≤ n
  · go_enter Try.func26, Try.ntmps26
    go_wp2
    go_ret
    exact ⟨by simp [h], rfl⟩
  · go_enter Try.func26, Try.ntmps26
    go_wp2
    go_ret
    exact ⟨by simp; omega, rfl⟩
set_option maxHeartbeats 400000 in
theorem newW_any (w : World) :
    Calls Try.prog 9 #[] w fun r w' => r = .returned (.pointer (some ⟨w.heap.size, 0, none⟩)) ∧ WrAt w' w.heap.size [] ∧ w.grownBy w' none := by
  go_enter Try.func9, Try.ntmps9
  go_wp2
  go_ret
  exact ⟨rfl, ⟨_, World.ownsRow_nil _ _ _ _, heap_alloc_new _ _⟩, World.grownBy_alloc _ _ _⟩

end Go.Proofs.Ytmphogmiobpkkaa

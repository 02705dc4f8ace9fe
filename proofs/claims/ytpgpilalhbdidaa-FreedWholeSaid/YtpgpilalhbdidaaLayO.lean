/-
  Rows of bytes of a call's own. Own work.
-/
import Derived.Test.YtpgpilalhbdidaaOctD
namespace Go.Proofs.Ytpgpilalhbdidaa
open Go.RowKit

/-- The slice value v is a row of bytes of the call's own. -/
abbrev OwnB (base : Nat) (w : World) (v : Value) (bs : List Int) : Prop := w.ownsRow base 5 1 v bs.length (bs.map (Value.int .u8))
theorem OwnB.seq {base : Nat} {w : World} {v : Value} {bs : List Int} (h : OwnB base w v bs) : Seq w.heap.size w v bs := Seq.owned h
theorem OwnB.nil (base : Nat) (w : World) : OwnB base w (.slice none 0 0) [] := World.ownsRow_nil _ _ _ _
/-- A row of bytes stays, whatever a call writes but for a block of another type. -/
theorem OwnB.far {base q : Nat} {w w' : World} {v : Value} {bs : List Int} {cs : Array Value} {t : TypeId} {f : Nat × Nat} (h : OwnB base w v bs) (k : w.grownBy w' (some q)) (hq : w.heap[q]? = some (.cells cs t f)) (ht : t ≠ 5) : OwnB base w' v bs := by
  refine World.ownsRow.kept h k ?_
  rcases h.2 with ⟨rfl, _⟩ | ⟨g, cap, cur, rfl, _, hh, _⟩
  · exact .inl rfl
  · right
    intro e
    have : g = q := by injection e
    subst this
    rw [hh] at hq
    injection hq with hq
    injection hq with _ h2
    exact ht h2.symm
theorem OwnB.grown {base : Nat} {w w' : World} {v : Value} {bs : List Int} (h : OwnB base w v bs) (k : w.grownBy w' none) : OwnB base w' v bs := World.ownsRow.kept h k (by cases v.ownBlock <;> simp)
theorem OwnB.base {base base' : Nat} {w : World} {v : Value} {bs : List Int} (h : OwnB base w v bs) (k : base' ≤ base) : OwnB base' w v bs := own_base h k

theorem RdAt.tag {w : World} {g : Nat} {bs : List Int} {e : Int} (h : RdAt w g bs e) : ∃ cs, w.heap[g]? = some (.cells cs 123 (0, 0)) := by
  obtain ⟨v, _, hv⟩ := h; exact ⟨_, hv⟩
theorem OwnB.rd {base g : Nat} {w w' : World} {v : Value} {bs xs : List Int} {e : Int} (h : OwnB base w v bs) (k : w.grownBy w' (some g)) (hr : RdAt w g xs e) : OwnB base w' v bs := by
  obtain ⟨cs, hcs⟩ := hr.tag
  exact h.far k hcs (by decide)

theorem own_heap {base q n : Nat} {w : World} {bs : List Int} (h : w.heap[q]? = some (.cells (bs.map (Value.int .u8)).toArray 5 (0, 0))) (hq : base ≤ q) (hn : bs.length = n) (hm : n ≤ maxLen) : OwnB base w (.slice (some ⟨q, 0, none⟩) n n) bs := by
  refine ⟨by simp, .inr ⟨q, n, _, by rw [hn], hq, h, by omega, hm, by simp [hn], by rw [Nat.mul_one, List.toList_toArray, List.take_of_length_le (by simp)]⟩⟩

theorem seq_page {w : World} {b S : Nat} {bs : List Int} (h : w.heap[b]? = some (.cells (bs.map (Value.int .u8)).toArray 5 (0, 0))) (hl : bs.length = S) (hm : S ≤ maxLen) : Seq w.heap.size w (.slice (some ⟨b, 0, none⟩) S S) bs := by
  refine ⟨_, S, by rw [hl], by omega, hm, by simp, fun _ => ⟨b, 0, rfl, lt_of_block h, fun j hj => ?_⟩⟩
  simp [World.cell?, h, hj, List.getD_eq_getElem?_getD]

theorem seq_lit {W : World} {q n : Nat} {xs : List Int} {cs : Array Value} {f : Nat × Nat} (h : W.heap[q]? = some (.cells cs 5 f)) (hc : cs = (xs.map (Value.int .u8)).toArray) (hn : n = xs.length) (hm : n ≤ maxLen) : Seq W.heap.size W (.slice (some ⟨q, 0, none⟩) n n) xs := by
  subst hc; subst hn
  refine ⟨_, xs.length, rfl, Nat.le_refl _, hm, by simp, fun _ => ⟨q, 0, rfl, lt_of_block h, fun j hj => ?_⟩⟩
  simp [World.cell?, h, hj, List.getD_eq_getElem?_getD]

end Go.Proofs.Ytpgpilalhbdidaa

/-
  Layer 4: what leaf's laws have alike. Own work.
-/
import Derived.Test.YtfencmidjolgfaaEntF
namespace Go.Proofs.Ytfencmidjolgfaa
open Go.RowKit

theorem few_yes {w W : World} {ao : Option Addr} {n c : Nat} {l : List En} (h : Raws w (.slice ao n c) l) (hW : Below w.heap.size w W) (hf : FewP l) :
    Calls Try.prog 15 #[.slice ao n c] W fun r w' => r = .returned (.bool true) ∧ W = w' :=
  (few_any w W ao n c l h hW).mono fun _ _ ⟨b, e, hb, hw⟩ => ⟨by rw [e, hb.2 hf], hw⟩
theorem few_no {w W : World} {ao : Option Addr} {n c : Nat} {l : List En} (h : Raws w (.slice ao n c) l) (hW : Below w.heap.size w W) (hf : ¬ FewP l) :
    Calls Try.prog 15 #[.slice ao n c] W fun r w' => r = .returned (.bool false) ∧ W = w' :=
  (few_any w W ao n c l h hW).mono fun _ _ ⟨b, e, hb, hw⟩ => ⟨by
    cases b with
    | false => exact e
    | true => exact absurd (hb.1 rfl) hf, hw⟩
theorem fillL_take {Y : Lay} (l : List En) (k : Nat) (h : k ≤ l.length) : fillL Y (l.take k) = fillK Y l k := by
  have e : (l.take k).length = k := by simp; omega
  unfold fillL fillK
  rw [e, cs_take l (Nat.le_refl k)]
/-- What the law's entries are: slices of the call's own, and the model's. -/
def EntsS (s : Bool) (W w' : World) (r : Ending) : Prop :=
  ∃ (la : Option Addr) (n lc : Nat) (rv : Value) (X : List En), r = .returned (.tuple #[.slice la n lc, rv]) ∧ n = X.length ∧ n ≤ 30 ∧ Fine s 30 X ∧ Ents w'.heap.size w' (.slice la n lc) X ∧ RRow w' rv X ∧ W.grownBy w' none
theorem ents_s {w W : World} {ao : Option Addr} {n c : Nat} {l : List En} {s : Bool} (h : Raws w (.slice ao n c) l) (hW : Below w.heap.size w W) (hf : FewP l) :
    Calls Try.prog 16 #[.slice ao n c, .bool s] W fun r w' => EntsS s W w' r := by
  refine (ents_any w W ao n c l s h hW hf).mono ?_
  rintro r w' ⟨lv, rv, es, rfl, h1, h2, h3, h4⟩
  have hl : es.length ≤ 30 := by have := h1.len; rw [List.length_map] at this; exact this
  have he := h2.ents (by omega)
  obtain ⟨la, lc, rfl⟩ := own_shape h2.row
  exact ⟨la, es.length, lc, rv, xsOf es, rfl, by simp, hl, h1, he, h3, h4⟩
theorem RRow.shape {w : World} {v : Value} {l : List En} (h : RRow w v l) : ∃ a c, v = .slice a l.length c := by
  obtain ⟨a, c, hv, _⟩ := h; exact ⟨a, c, hv⟩

end Go.Proofs.Ytfencmidjolgfaa

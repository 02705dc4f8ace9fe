/-
  Layers 4 and 5: a slice cut on both sides. Own work.
-/
import Derived.Test.YtfencmidjolgfaaWord
namespace Go.Proofs.Ytfencmidjolgfaa
open Go.RowKit

/-- 'b[i:j:j]'. -/
theorem Seq.sub3 {B : Nat} {w : World} {ao : Option Addr} {n c A E : Nat} {bs : List Int} (h : Seq B w (.slice ao n c) bs) (hA : A ≤ E) (hE : E ≤ n) :
    Seq B w (.slice (if E = A then ao else Option.map (fun x => x.add A) ao) (E - A) (E - A)) ((bs.drop A).take (E - A)) := by
  have hn : n = bs.length := by obtain ⟨_, _, hv, _⟩ := h; injection hv
  by_cases e : E = A
  · subst e
    rw [if_pos rfl, Nat.sub_self, List.take_zero]
    exact ⟨ao, 0, rfl, Nat.le_refl _, by simp [maxLen], fun _ => rfl, fun hne => absurd rfl hne⟩
  · rw [if_neg e]
    obtain ⟨ao', c', hv, h1, h2, h3, h4⟩ := h
    cases hv
    obtain ⟨b, o, rfl, hb, hc⟩ := h4 (by rintro rfl; simp at hE; omega)
    have hl : ((bs.drop A).take (E - A)).length = E - A := by simp; omega
    refine ⟨_, E - A, by rw [hl], by omega, by omega, fun h => by simp at h, fun _ => ⟨b, o + A, by simp [Addr.add], hb, fun j hj => ?_⟩⟩
    rw [Nat.add_assoc, hc (A + j) (by omega)]
    simp [List.getElem?_take, show j < E - A by omega]

end Go.Proofs.Ytfencmidjolgfaa

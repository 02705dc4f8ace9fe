/-
  Layer 8: how many pages old records have: plain. Own work.
-/
import Derived.Test.YtoaglkbobndmeabSpcM
namespace Go.Proofs.Ytoaglkbobndmeab

theorem okr_filter {stop : Nat} {l : List Rc} (h : Okr stop l) (p : Rc → Bool) : Okr stop (l.filter p) :=
  ⟨h.txns.filter _, fun r hr => h.each r (List.mem_filter.1 hr).1, h.apart.filter _⟩
theorem us_len {stop old : Nat} {l : List Rc} (h : Okr stop l) : (insAll (allOf (oldRecs old l)) []).length = (allOf (oldRecs old l)).length := by
  have h1 := len_insAll (L := []) (okr_nodup (okr_filter h (isOld old))) (by simp)
  simpa [oldRecs] using h1
theorem old_cons (a : Nat) (r : Rc) (l : List Rc) : (allOf (oldRecs a (r :: l))).length = (if r.1 ≤ a then r.2.length else 0) + (allOf (oldRecs a l)).length := by
  unfold oldRecs
  rw [List.filter_cons]
  by_cases h : r.1 ≤ a
  · rw [if_pos (by simpa [isOld] using h), if_pos h]
    show (r.2 ++ allOf (l.filter (isOld a))).length = _
    rw [List.length_append]
  · rw [if_neg (by simpa [isOld] using h), if_neg h, Nat.zero_add]
theorem all_cons (r : Rc) (l : List Rc) : (allOf (r :: l)).length = r.2.length + (allOf l).length := by
  show (r.2 ++ allOf l).length = _
  rw [List.length_append]
theorem old_mono {a b : Nat} (h : a ≤ b) : ∀ l : List Rc, (allOf (oldRecs a l)).length ≤ (allOf (oldRecs b l)).length
  | [] => Nat.le_refl _
  | r :: l => by
    have ih := old_mono h l
    rw [old_cons, old_cons]
    by_cases h1 : r.1 ≤ a
    · rw [if_pos h1, if_pos (by omega)]; omega
    · rw [if_neg h1]; omega
theorem old_le (b : Nat) : ∀ l : List Rc, (allOf (oldRecs b l)).length ≤ (allOf l).length
  | [] => Nat.le_refl _
  | r :: l => by
    have ih := old_le b l
    rw [old_cons, all_cons]
    split <;> omega
theorem old_all {b : Nat} {l : List Rc} (h : ∀ r ∈ l, r.1 ≤ b) : oldRecs b l = l := List.filter_eq_self.2 fun r hr => by simp [isOld, h r hr]

end Go.Proofs.Ytoaglkbobndmeab

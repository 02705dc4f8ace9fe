/-
  Layer 8's records of the call's own, for layer 10. Own work (out of SpcF).
-/
import Derived.Test.YtpgpilalhbdidaaFpC
import Derived.Test.YtpgpilalhbdidaaOctL
namespace Go.Proofs.Ytpgpilalhbdidaa
open Go.RowKit Go.Maps

/-! ### records of the call's own -/
def rcl (y : Value × Rc) : List Value := [.int .u64 (y.2.1 : Int), y.1]
structure RcOwns (base : Nat) (w : World) (lv : Value) (es : List (Value × Rc)) : Prop where
  row : w.ownsRow base 69 2 lv es.length (es.flatMap rcl)
  each : ∀ y ∈ es, OwnP base w y.1 y.2.2 ∧ y.2.1 < 18446744073709551616
theorem RcOwns.nil (base : Nat) (w : World) : RcOwns base w (.slice none 0 0) [] := ⟨World.ownsRow_nil _ _ _ _, fun y hy => by cases hy⟩
theorem RcOwns.kept {base : Nat} {w w' : World} {lv : Value} {es : List (Value × Rc)} (h : RcOwns base w lv es) (k : ∀ i, base ≤ i → i < w.heap.size → w'.heap[i]? = w.heap[i]?) : RcOwns base w' lv es := by
  have ow : ∀ {e : TypeId} {size n : Nat} {v : Value} {xs : List Value}, w.ownsRow base e size v n xs → w'.ownsRow base e size v n xs := fun {e size n v xs} h => by
    refine ⟨h.1, ?_⟩
    rcases h.2 with hn | ⟨g, cap, cur, rfl, hb, hgg, rest⟩
    · exact .inl hn
    · exact .inr ⟨g, cap, cur, rfl, hb, (k g hb (lt_of_block hgg)).trans hgg, rest⟩
  exact ⟨ow h.row, fun y hy => ⟨⟨ow (h.each y hy).1.1, (h.each y hy).1.2⟩, (h.each y hy).2⟩⟩
theorem RcOwns.grown {base : Nat} {w w' : World} {lv : Value} {es : List (Value × Rc)} (h : RcOwns base w lv es) (k : w.grownBy w' none) : RcOwns base w' lv es := h.kept fun i _ hi => k.block i hi (by simp)
theorem OwnP.apart {base b2 : Nat} {w w' : World} {lv v : Value} {n : Nat} {xs : List Value} {ps : List Nat} (h : OwnP base w v ps) (hr : w.ownsRow b2 69 2 lv n xs) (k : w.grownBy w' lv.ownBlock) : OwnP base w' v ps := by
  refine ⟨World.ownsRow.kept h.1 k ?_, h.2⟩
  cases hv : v.ownBlock with
  | none => exact .inl rfl
  | some g =>
    right
    intro e
    rcases h.1.2 with ⟨hv', _⟩ | ⟨q, cap, cur, rfl, _, hq, _⟩
    · rw [hv'] at hv; cases hv
    · rcases hr.2 with ⟨hl, _⟩ | ⟨q2, cap2, cur2, hl, _, hq2, _⟩
      · rw [hl] at e; cases e
      · rw [hl] at e
        simp [Value.ownBlock] at hv e
        subst hv
        subst e
        rw [hq] at hq2
        injection hq2 with hq2
        injection hq2 with _ ht _
        exact absurd ht (by decide)
theorem RcOwns.push {base : Nat} {w w1 : World} {lv v' : Value} {es : List (Value × Rc)} {y : Value × Rc} (h : RcOwns base w lv es) (h1 : OwnP base w y.1 y.2.2) (h3 : y.2.1 < 18446744073709551616)
    (hrow : w1.ownsRow base 69 2 v' (es.length + 1) (es.flatMap rcl ++ rcl y)) (hg : w.grownBy w1 lv.ownBlock) : RcOwns base w1 v' (es ++ [y]) := by
  refine ⟨by simpa [List.flatMap_append] using hrow, fun z hz => ?_⟩
  rcases List.mem_append.1 hz with hz | hz
  · obtain ⟨g1, g3⟩ := h.each z hz
    exact ⟨g1.apart h.row hg, g3⟩
  · have : z = y := by simpa using hz
    subst this
    exact ⟨h1.apart h.row hg, h3⟩
theorem flat2 : ∀ (es : List (Value × Rc)) (i : Nat) (y : Value × Rc), es[i]? = some y → (es.flatMap rcl)[i * 2]? = some (.int .u64 (y.2.1 : Int)) ∧ (es.flatMap rcl)[i * 2 + 1]? = some y.1
  | [], i, y, h => by simp at h
  | z :: es, 0, y, h => by
    have : z = y := by simpa using h
    subst this
    exact ⟨rfl, rfl⟩
  | z :: es, i + 1, y, h => by
    have ih := flat2 es i y (by simpa using h)
    rw [show (i + 1) * 2 = i * 2 + 2 by omega]
    exact ih
theorem RcOwns.rsq {base : Nat} {w : World} {lv : Value} {es : List (Value × Rc)} (h : RcOwns base w lv es) : RSq (fun b => base ≤ b) w lv (es.map (·.2)) := by
  have hr := h.row
  rcases h.row.2 with ⟨hv, hn⟩ | ⟨q, cap, cur, hv, hb, hq, hnc, hcm, hcs, ht⟩
  · rw [List.eq_nil_of_length_eq_zero hn]
    rw [hv]; exact rsq_nil _ _
  · refine ⟨some ⟨q, 0, none⟩, cap, by rw [hv]; simp, by simpa using hnc, hcm, fun hne => ⟨q, 0, rfl, hb, fun i x hx => ?_⟩⟩
    rw [List.getElem?_map] at hx
    obtain ⟨y, hy, rfl⟩ := Option.map_eq_some_iff.1 hx
    obtain ⟨c0, c1⟩ := flat2 es i y hy
    obtain ⟨g1, g3⟩ := h.each y (List.mem_of_getElem? hy)
    have hc := hr.cells (g := q) (by rw [hv]; rfl)
    rw [Nat.zero_add]
    refine ⟨?_, g3, y.1, ?_, g1.psq⟩
    · have := hc _ _ c0; rwa [Addr.add_lit, Nat.zero_add] at this
    · have := hc _ _ c1; rwa [Addr.add_lit, Nat.zero_add] at this
theorem grow_own {a b c : World} {base size n : Nat} {e : TypeId} {v : Value} {xs : List Value} (h : a.grownBy b none) (hr : b.ownsRow base e size v n xs) (k : b.grownBy c v.ownBlock) (hb : a.heap.size ≤ base) : a.grownBy c none :=
  ⟨k.os.trans h.os, k.tape.trans h.tape, k.output.trans h.output, Nat.le_trans h.size k.size, fun i hi _ => (k.block i (Nat.lt_of_lt_of_le hi h.size) (fun e => by have := (hr.lt i e.symm).1; omega)).trans (h.block i hi (by simp))⟩
theorem lit2 (w : World) (t : Nat) (v : Value) : ∀ j u, (rcl (v, (t, [])))[j]? = some u → (w.alloc (.cells #[.int .u64 (t : Int), v] 69)).cell? ((⟨w.heap.size, 0, none⟩ : Addr).add j) = some u := by
  intro j u hj
  rw [Addr.add_lit, Nat.zero_add, World.cell?_alloc_mark]
  simpa [rcl] using hj
theorem one2 (a1 : Option Addr) (n1 c1 t : Nat) : ∀ u ∈ rcl (.slice a1 n1 c1, (t, [])), u.oneCell' = true := by
  intro u hu
  simp only [rcl, List.mem_cons, List.not_mem_nil, or_false] at hu
  rcases hu with rfl | rfl <;> rfl

end Go.Proofs.Ytpgpilalhbdidaa

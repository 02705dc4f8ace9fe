/-
  Layer 10, the document's own: Gather. Own work.
-/
import Derived.Test.YtpgpilalhbdidaaFrK
import Derived.Test.YtpgpilalhbdidaaFpT
namespace Go.Proofs.Ytpgpilalhbdidaa
open Go.RowKit

theorem infoU32 : (Try.prog.info? 40).map (fun i => (i.zero, i.size, i.bytes)) = some (some (.int .u32 0), 1, 4) := by kernel_rfl
/-- Numbers of the call's own. -/
def OwnU (base : Nat) (w : World) (v : Value) (ps : List Nat) : Prop := w.ownsRow base 40 1 v ps.length (ps.map encP) ∧ ∀ p ∈ ps, p < 4294967296
theorem OwnU.grown {base : Nat} {w w' : World} {v : Value} {ps : List Nat} (h : OwnU base w v ps) (k : w.grownBy w' none) : OwnU base w' v ps := ⟨World.ownsRow.kept h.1 k (by cases v.ownBlock <;> simp), h.2⟩
theorem OwnU.mono {base base' : Nat} {w : World} {v : Value} {ps : List Nat} (h : OwnU base w v ps) (k : base' ≤ base) : OwnU base' w v ps := ⟨own_base h.1 k, h.2⟩
theorem OwnU.set {base q : Nat} {w : World} {v : Value} {ps : List Nat} (h : OwnU base w v ps) (hq : q < base) (k : Nat) (u : Value) : OwnU base (w.setCell ⟨q, k, none⟩ u) v ps := by
  refine ⟨World.ownsRow.kept h.1 (gset w ⟨q, k, none⟩ u) ?_, h.2⟩
  cases hv : v.ownBlock with
  | none => exact .inl rfl
  | some g => have := (h.1.lt g hv).1; right; intro e; injection e with e; simp at e; omega
theorem OwnU.psq {base : Nat} {w : World} {v : Value} {ps : List Nat} (h : OwnU base w v ps) : PSq (fun b => base ≤ b) w v ps := by
  rcases h.1.2 with ⟨rfl, hn⟩ | ⟨g, cap, cur, rfl, hb, hg, hc, hm, hs, ht⟩
  · rw [List.eq_nil_of_length_eq_zero hn]; exact psq_nil _ _
  · refine ⟨some ⟨g, 0, none⟩, cap, rfl, hc, hm, h.2, fun _ => ⟨g, 0, rfl, hb, fun j hj => ?_⟩⟩
    rw [Nat.zero_add, h.1.cellAt j (by omega)]
    simp [List.getElem?_map, List.getElem?_eq_getElem hj, encP]
/-- The document's records, of the call's own. -/
structure VOwns (base : Nat) (w : World) (lv : Value) (es : List (Value × Rc)) : Prop where
  row : w.ownsRow base 73 2 lv es.length (es.flatMap rcl)
  each : ∀ y ∈ es, OwnU base w y.1 y.2.2 ∧ y.2.1 < 18446744073709551616
theorem VOwns.nil (base : Nat) (w : World) : VOwns base w (.slice none 0 0) [] := ⟨World.ownsRow_nil _ _ _ _, fun y hy => by cases hy⟩
theorem VOwns.grown {base : Nat} {w w' : World} {v : Value} {es : List (Value × Rc)} (h : VOwns base w v es) (k : w.grownBy w' none) : VOwns base w' v es :=
  ⟨World.ownsRow.kept h.row k (by cases v.ownBlock <;> simp), fun y hy => ⟨(h.each y hy).1.grown k, (h.each y hy).2⟩⟩
theorem VOwns.push {base : Nat} {w w1 : World} {lv v' : Value} {es : List (Value × Rc)} {y : Value × Rc} (h : VOwns base w lv es) (h1 : OwnU base w y.1 y.2.2) (h3 : y.2.1 < 18446744073709551616)
    (hrow : w1.ownsRow base 73 2 v' (es.length + 1) (es.flatMap rcl ++ rcl y)) (hg : w.grownBy w1 lv.ownBlock) : VOwns base w1 v' (es ++ [y]) := by
  refine ⟨by simpa [List.flatMap_append] using hrow, fun z hz => ?_⟩
  rcases List.mem_append.1 hz with hz | hz
  · exact ⟨⟨own_apart (h.each z hz).1.1 h.row (by decide) hg, (h.each z hz).1.2⟩, (h.each z hz).2⟩
  · have : z = y := by simpa using hz
    subst this
    exact ⟨⟨own_apart h1.1 h.row (by decide) hg, h1.2⟩, h3⟩
theorem VOwns.rsq {base : Nat} {w : World} {lv : Value} {es : List (Value × Rc)} (h : VOwns base w lv es) : RSq (fun b => base ≤ b) w lv (es.map (·.2)) := by
  have hr := h.row
  rcases h.row.2 with ⟨hv, hn⟩ | ⟨q, cap, cur, hv, hb, hq, hnc, hcm, hcs, ht⟩
  · rw [List.eq_nil_of_length_eq_zero hn]
    rw [hv]; exact rsq_nil _ _
  · refine ⟨some ⟨q, 0, none⟩, cap, by rw [hv]; simp, by simpa using hnc, hcm, fun hne => ⟨q, 0, rfl, hb, fun i x hx => ?_⟩⟩
    rw [List.getElem?_map] at hx
    obtain ⟨y, hy, rfl⟩ := Option.map_eq_some_iff.1 hx
    obtain ⟨c0, c1⟩ := flat2 es i y hy
    obtain ⟨g1, g3⟩ := h.each y (List.mem_of_getElem? hy)
    have hc := hr.cells (g := q) (by rw [hv]; rfl)
    rw [Nat.zero_add]
    refine ⟨?_, g3, y.1, ?_, g1.psq⟩
    · have := hc _ _ c0; rwa [Addr.add_lit, Nat.zero_add] at this
    · have := hc _ _ c1; rwa [Addr.add_lit, Nat.zero_add] at this

/-- Where the document's Gather stands: i in a run that ends at a. -/
structure VI (ps : List Pr) (i a : Nat) : Prop where
  le : i ≤ a
  top : a ≤ ps.length
  mid : i < a → 0 < i ∧ ∀ j, i ≤ j → j < a → (ps.getD j (0, 0)).1 = (ps.getD (i - 1) (0, 0)).1
  edge : 0 < a → a < ps.length → (ps.getD a (0, 0)).1 ≠ (ps.getD (a - 1) (0, 0)).1
theorem VI.next {ps : List Pr} {i a : Nat} (h : VI ps i a) (hi : i < a) : VI ps (i + 1) a :=
  ⟨hi, h.top, fun hlt => ⟨by omega, fun j h1 h2 => by
    obtain ⟨_, k⟩ := h.mid hi
    rw [k j (by omega) h2, show i + 1 - 1 = i by omega, k i (Nat.le_refl _) hi]⟩, h.edge⟩
theorem VI.run {ps : List Pr} {i e : Nat} (hr : RunAt ps i e) (he : e < ps.length → (ps.getD e (0, 0)).1 ≠ (ps.getD i (0, 0)).1) : VI ps (i + 1) e :=
  ⟨hr.lt, hr.le, fun _ => ⟨by omega, fun j h1 h2 => by rw [show i + 1 - 1 = i by omega]; exact hr.same j (by omega) h2⟩, fun _ hel => by
    have := hr.lt
    rw [hr.same (e - 1) (by omega) (by omega)]
    exact he hel⟩

def VGatherR (w : World) (rs : List Rc) (r : Ending) (w' : World) : Prop := ∃ v es, r = .returned v ∧ VOwns w.heap.size w' v es ∧ es.map (·.2) = rs ∧ w.grownBy w' none

end Go.Proofs.Ytpgpilalhbdidaa

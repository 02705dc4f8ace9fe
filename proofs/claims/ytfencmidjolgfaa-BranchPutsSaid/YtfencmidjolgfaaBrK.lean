/-
  Layer 5: a slice of branch's entries of the call's own, as it grows. Own work.
-/
import Derived.Test.YtfencmidjolgfaaBrI
import Derived.Test.YtfencmidjolgfaaLefK
namespace Go.Proofs.Ytfencmidjolgfaa
open Go.RowKit

/-- An entry with its slice, as cells. -/
def becl (y : Value × En) : List Value := [y.1, .int .u32 y.2.first]
structure BEOwns (base : Nat) (w : World) (lv : Value) (es : List (Value × En)) : Prop where
  row : w.ownsRow base 79 2 lv es.length (es.flatMap becl)
  each : ∀ y ∈ es, OwnB base w y.1 y.2.key ∧ BOk y.2
abbrev bxsOf (es : List (Value × En)) : List En := es.map (·.2)

theorem BEOwns.nil (base : Nat) (w : World) : BEOwns base w (.slice none 0 0) [] := ⟨World.ownsRow_nil _ _ _ _, fun y hy => by cases hy⟩
theorem BEOwns.grown {base : Nat} {w w' : World} {lv : Value} {es : List (Value × En)} (h : BEOwns base w lv es) (k : w.grownBy w' none) : BEOwns base w' lv es :=
  ⟨World.ownsRow.kept h.row k (by cases lv.ownBlock <;> simp), fun y hy => by
    obtain ⟨h1, h3⟩ := h.each y hy
    exact ⟨h1.grown k, h3⟩⟩
theorem BEOwns.base {base base' : Nat} {w : World} {lv : Value} {es : List (Value × En)} (h : BEOwns base w lv es) (k : base' ≤ base) : BEOwns base' w lv es :=
  ⟨own_base h.row k, fun y hy => by
    obtain ⟨h1, h3⟩ := h.each y hy
    exact ⟨own_base h1 k, h3⟩⟩
/-- A Reader's call leaves it. -/
theorem BEOwns.rd {base g : Nat} {w w' : World} {lv : Value} {es : List (Value × En)} {bs : List Int} {e : Int} (h : BEOwns base w lv es) (k : w.grownBy w' (some g)) (hr : RdAt w g bs e) (hg : g < base) : BEOwns base w' lv es :=
  ⟨World.ownsRow.kept h.row k (by
    rcases h.row.2 with ⟨hv, _⟩ | ⟨q, cap, cur, hv, hb, _⟩
    · rw [hv]; exact .inl rfl
    · rw [hv]; right; intro e; have : q = g := by injection e
      omega), fun y hy => by
    obtain ⟨h1, h3⟩ := h.each y hy
    exact ⟨h1.rd k hr, h3⟩⟩
theorem bown_other {base b2 : Nat} {w w' : World} {lv v : Value} {n : Nat} {xs : List Value} {bs : List Int} (h : OwnB base w v bs) (hr : w.ownsRow b2 79 2 lv n xs) (k : w.grownBy w' lv.ownBlock) : OwnB base w' v bs := by
  rcases hr.2 with ⟨hv, _⟩ | ⟨q, cap, cur, hv, _, hq, _⟩
  · rw [hv] at k; exact h.grown k
  · rw [hv] at k; exact h.far (q := q) k hq (by decide)
theorem BEOwns.push {base : Nat} {w w1 : World} {lv v' : Value} {es : List (Value × En)} {y : Value × En} (h : BEOwns base w lv es) (h1 : OwnB base w y.1 y.2.key) (h3 : BOk y.2)
    (hrow : w1.ownsRow base 79 2 v' (es.length + 1) (es.flatMap becl ++ becl y)) (hg : w.grownBy w1 lv.ownBlock) : BEOwns base w1 v' (es ++ [y]) := by
  refine ⟨by simpa [List.flatMap_append] using hrow, fun z hz => ?_⟩
  rcases List.mem_append.1 hz with hz | hz
  · obtain ⟨g1, g3⟩ := h.each z hz
    exact ⟨bown_other g1 h.row hg, g3⟩
  · have : z = y := by simpa using hz
    subst this
    exact ⟨bown_other h1 h.row hg, h3⟩
theorem bflat2 : ∀ (es : List (Value × En)) (i : Nat) (y : Value × En), es[i]? = some y →
    (es.flatMap becl)[i * 2]? = some y.1 ∧ (es.flatMap becl)[i * 2 + 1]? = some (.int .u32 y.2.first)
  | [], i, y, h => by simp at h
  | z :: es, 0, y, h => by
    have : z = y := by simpa using h
    subst this
    exact ⟨rfl, rfl⟩
  | z :: es, i + 1, y, h => by
    have ih := bflat2 es i y (by simpa using h)
    rw [show (i + 1) * 2 = i * 2 + 2 by omega]
    exact ih
theorem bflat2_len (es : List (Value × En)) : (es.flatMap becl).length = es.length * 2 := by
  induction es with
  | nil => rfl
  | cons y es ih => rw [List.flatMap_cons, List.length_append, ih]; simp [becl]; omega
theorem BEOwns.ents {base : Nat} {w : World} {lv : Value} {es : List (Value × En)} (h : BEOwns base w lv es) (hl : es.length ≤ 100000) : BEnts w.heap.size w lv (bxsOf es) := by
  have hr := h.row
  rcases h.row.2 with ⟨hv, hn⟩ | ⟨q, cap, cur, hv, hb, hq, hnc, hcm, hcs, ht⟩
  · rw [List.eq_nil_of_length_eq_zero hn]
    rw [hv]; exact BEnts.nil _ _
  · refine ⟨some ⟨q, 0, none⟩, cap, by rw [hv]; simp, by simpa using hnc, hcm, by simpa using hl, fun hne => ⟨q, 0, rfl, lt_of_block hq, fun i x hx => ?_⟩⟩
    rw [List.getElem?_map] at hx
    obtain ⟨y, hy, rfl⟩ := Option.map_eq_some_iff.1 hx
    obtain ⟨c0, c1⟩ := bflat2 es i y hy
    obtain ⟨g1, g3⟩ := h.each y (List.mem_of_getElem? hy)
    obtain ⟨a1, d1, e1⟩ := own_shape g1
    have hc := hr.cells (g := q) (by rw [hv]; rfl)
    rw [Nat.zero_add]
    refine ⟨a1, d1, by rw [← e1]; exact g1.seq, g3, ?_, ?_⟩
    · rw [← e1]; have := hc _ _ c0; rwa [Addr.add_lit, Nat.zero_add] at this
    · have := hc _ _ c1; rwa [Addr.add_lit, Nat.zero_add] at this

theorem infoBEntry : (Try.prog.info? 79).map (fun i => (i.zero, i.size, i.bytes)) = some (some (.agg #[.slice none 0 0, .int .u32 0]), 2, 32) := by kernel_rfl
theorem blit2 (w : World) (o : Obj) (k : Value) (x : En) : ∀ j u, (becl (k, x))[j]? = some u → ((w.alloc o).alloc (.cells (bcs k x.first) 79)).cell? ((⟨w.heap.size + 1, 0, none⟩ : Addr).add j) = some u := by
  intro j u hj
  have e : w.heap.size + 1 = (w.alloc o).heap.size := by simp
  rw [Addr.add_lit, Nat.zero_add, e, World.cell?_alloc_mark]
  simpa [becl] using hj
theorem bone2 (a1 : Option Addr) (n1 c1 : Nat) (x : En) : ∀ u ∈ becl (.slice a1 n1 c1, x), u.oneCell' = true := by
  intro u hu
  simp only [becl, List.mem_cons, List.not_mem_nil, or_false] at hu
  rcases hu with rfl | rfl <;> rfl

end Go.Proofs.Ytfencmidjolgfaa

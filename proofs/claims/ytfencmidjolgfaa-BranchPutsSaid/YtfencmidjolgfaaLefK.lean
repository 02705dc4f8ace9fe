/-
  Layer 4: a slice of entries of the call's own, as it grows. Own work.
-/
import Derived.Test.YtfencmidjolgfaaLefI
namespace Go.Proofs.Ytfencmidjolgfaa
open Go.RowKit

/-- An entry with the values of its slices, as cells. -/
def ecl (y : Value × Value × En) : List Value := [y.1, y.2.1, .int .i64 y.2.2.long, .int .u32 y.2.2.first]
structure EOwns (base : Nat) (w : World) (lv : Value) (es : List (Value × Value × En)) : Prop where
  row : w.ownsRow base 43 4 lv es.length (es.flatMap ecl)
  each : ∀ y ∈ es, OwnB base w y.1 y.2.2.key ∧ OwnB base w y.2.1 y.2.2.val ∧ EnOk y.2.2
abbrev xsOf (es : List (Value × Value × En)) : List En := es.map (·.2.2)

theorem EOwns.nil (base : Nat) (w : World) : EOwns base w (.slice none 0 0) [] := ⟨World.ownsRow_nil _ _ _ _, fun y hy => by cases hy⟩
theorem EOwns.grown {base : Nat} {w w' : World} {lv : Value} {es : List (Value × Value × En)} (h : EOwns base w lv es) (k : w.grownBy w' none) : EOwns base w' lv es :=
  ⟨World.ownsRow.kept h.row k (by cases lv.ownBlock <;> simp), fun y hy => by
    obtain ⟨h1, h2, h3⟩ := h.each y hy
    exact ⟨h1.grown k, h2.grown k, h3⟩⟩
theorem EOwns.base {base base' : Nat} {w : World} {lv : Value} {es : List (Value × Value × En)} (h : EOwns base w lv es) (k : base' ≤ base) : EOwns base' w lv es :=
  ⟨own_base h.row k, fun y hy => by
    obtain ⟨h1, h2, h3⟩ := h.each y hy
    exact ⟨own_base h1 k, own_base h2 k, h3⟩⟩
/-- A Reader's call leaves it. -/
theorem EOwns.rd {base g : Nat} {w w' : World} {lv : Value} {es : List (Value × Value × En)} {bs : List Int} {e : Int} (h : EOwns base w lv es) (k : w.grownBy w' (some g)) (hr : RdAt w g bs e) (hg : g < base) : EOwns base w' lv es :=
  ⟨World.ownsRow.kept h.row k (by
    rcases h.row.2 with ⟨hv, _⟩ | ⟨q, cap, cur, hv, hb, _⟩
    · rw [hv]; exact .inl rfl
    · rw [hv]; right; intro e; have : q = g := by injection e
      omega), fun y hy => by
    obtain ⟨h1, h2, h3⟩ := h.each y hy
    exact ⟨h1.rd k hr, h2.rd k hr, h3⟩⟩
theorem own_other {base b2 : Nat} {w w' : World} {lv v : Value} {n : Nat} {xs : List Value} {bs : List Int} (h : OwnB base w v bs) (hr : w.ownsRow b2 43 4 lv n xs) (k : w.grownBy w' lv.ownBlock) : OwnB base w' v bs := by
  rcases hr.2 with ⟨hv, _⟩ | ⟨q, cap, cur, hv, _, hq, _⟩
  · rw [hv] at k; exact h.grown k
  · rw [hv] at k; exact h.far (q := q) k hq (by decide)
theorem EOwns.push {base : Nat} {w w1 : World} {lv v' : Value} {es : List (Value × Value × En)} {y : Value × Value × En} (h : EOwns base w lv es) (h1 : OwnB base w y.1 y.2.2.key) (h2 : OwnB base w y.2.1 y.2.2.val) (h3 : EnOk y.2.2)
    (hrow : w1.ownsRow base 43 4 v' (es.length + 1) (es.flatMap ecl ++ ecl y)) (hg : w.grownBy w1 lv.ownBlock) : EOwns base w1 v' (es ++ [y]) := by
  refine ⟨by simpa [List.flatMap_append] using hrow, fun z hz => ?_⟩
  rcases List.mem_append.1 hz with hz | hz
  · obtain ⟨g1, g2, g3⟩ := h.each z hz
    exact ⟨own_other g1 h.row hg, own_other g2 h.row hg, g3⟩
  · have : z = y := by simpa using hz
    subst this
    exact ⟨own_other h1 h.row hg, own_other h2 h.row hg, h3⟩
theorem flat4 : ∀ (es : List (Value × Value × En)) (i : Nat) (y : Value × Value × En), es[i]? = some y →
    (es.flatMap ecl)[i * 4]? = some y.1 ∧ (es.flatMap ecl)[i * 4 + 1]? = some y.2.1 ∧ (es.flatMap ecl)[i * 4 + 2]? = some (.int .i64 y.2.2.long) ∧ (es.flatMap ecl)[i * 4 + 3]? = some (.int .u32 y.2.2.first)
  | [], i, y, h => by simp at h
  | z :: es, 0, y, h => by
    have : z = y := by simpa using h
    subst this
    exact ⟨rfl, rfl, rfl, rfl⟩
  | z :: es, i + 1, y, h => by
    have ih := flat4 es i y (by simpa using h)
    rw [show (i + 1) * 4 = i * 4 + 4 by omega]
    exact ih
theorem flat4_len (es : List (Value × Value × En)) : (es.flatMap ecl).length = es.length * 4 := by
  induction es with
  | nil => rfl
  | cons y es ih => rw [List.flatMap_cons, List.length_append, ih]; simp [ecl]; omega
theorem EOwns.ents {base : Nat} {w : World} {lv : Value} {es : List (Value × Value × En)} (h : EOwns base w lv es) (hl : es.length ≤ 100000) : Ents w.heap.size w lv (xsOf es) := by
  have hr := h.row
  rcases h.row.2 with ⟨hv, hn⟩ | ⟨q, cap, cur, hv, hb, hq, hnc, hcm, hcs, ht⟩
  · rw [List.eq_nil_of_length_eq_zero hn]
    rw [hv]; exact Ents.nil _ _
  · refine ⟨some ⟨q, 0, none⟩, cap, by rw [hv]; simp, by simpa using hnc, hcm, by simpa using hl, fun hne => ⟨q, 0, rfl, lt_of_block hq, fun i x hx => ?_⟩⟩
    rw [List.getElem?_map] at hx
    obtain ⟨y, hy, rfl⟩ := Option.map_eq_some_iff.1 hx
    obtain ⟨c0, c1, c2, c3⟩ := flat4 es i y hy
    obtain ⟨g1, g2, g3⟩ := h.each y (List.mem_of_getElem? hy)
    obtain ⟨a1, d1, e1⟩ := own_shape g1
    obtain ⟨a2, d2, e2⟩ := own_shape g2
    have hi : i < es.length := (List.getElem?_eq_some_iff.1 hy).1
    have hc := hr.cells (g := q) (by rw [hv]; rfl)
    rw [Nat.zero_add]
    refine ⟨a1, d1, a2, d2, by rw [← e1]; exact g1.seq, by rw [← e2]; exact g2.seq, g3, ?_, ?_, ?_, ?_⟩
    · rw [← e1]; have := hc _ _ c0; rwa [Addr.add_lit, Nat.zero_add] at this
    · rw [← e2]; have := hc _ _ c1; rwa [Addr.add_lit, Nat.zero_add] at this
    · have := hc _ _ c2; rwa [Addr.add_lit, Nat.zero_add] at this
    · have := hc _ _ c3; rwa [Addr.add_lit, Nat.zero_add] at this

theorem infoEntry : (Try.prog.info? 43).map (fun i => (i.zero, i.size, i.bytes)) = some (some (.agg #[.slice none 0 0, .slice none 0 0, .int .i64 0, .int .u32 0]), 4, 64) := by kernel_rfl
theorem lit4 (w : World) (k v : Value) (l f : Int) : ∀ j u, (ecl (k, v, ⟨[], [], l, f⟩))[j]? = some u → (w.alloc (.cells (ecs k v l f) 43)).cell? ((⟨w.heap.size, 0, none⟩ : Addr).add j) = some u := by
  intro j u hj
  rw [Addr.add_lit, Nat.zero_add, World.cell?_alloc_mark]
  simpa [ecl] using hj
theorem lit4b (w : World) (o : Obj) (k v : Value) (x : En) : ∀ j u, (ecl (k, v, x))[j]? = some u → ((w.alloc o).alloc (.cells (ecs k v x.long x.first) 43)).cell? ((⟨w.heap.size + 1, 0, none⟩ : Addr).add j) = some u := by
  intro j u hj
  have e : w.heap.size + 1 = (w.alloc o).heap.size := by simp
  rw [Addr.add_lit, Nat.zero_add, e, World.cell?_alloc_mark]
  simpa [ecl] using hj
theorem one4 (a1 a2 : Option Addr) (n1 c1 n2 c2 : Nat) (x : En) : ∀ u ∈ ecl (.slice a1 n1 c1, .slice a2 n2 c2, x), u.oneCell' = true := by
  intro u hu
  simp only [ecl, List.mem_cons, List.not_mem_nil, or_false] at hu
  rcases hu with rfl | rfl | rfl | rfl <;> rfl

end Go.Proofs.Ytfencmidjolgfaa

/-
  Layer 4: the law's entries: an entry laid among sorted ones; the rows as they grow. Own work.
-/
import Derived.Test.YtfencmidjolgfaaRefK
import Derived.Test.YtfencmidjolgfaaLefU
import Derived.Laws.IdiomStrings
namespace Go.Proofs.Ytfencmidjolgfaa
open Go.RowKit

/-- x laid at place p. -/
def insE (l : List En) (x : En) (p : Nat) : List En := l.take p ++ x :: l.drop p
theorem insE_len {l : List En} {x : En} {p : Nat} (h : p ≤ l.length) : (insE l x p).length = l.length + 1 := by simp [insE]; omega
theorem insE_lt {l : List En} {x : En} {p i : Nat} (h : p ≤ l.length) (hi : i < p) : (insE l x p)[i]? = l[i]? := by
  rw [insE, List.getElem?_append_left (by simp; omega), List.getElem?_take, if_pos hi]
theorem insE_at {l : List En} {x : En} {p : Nat} (h : p ≤ l.length) : (insE l x p)[p]? = some x := by
  have e : (l.take p).length = p := by simp; omega
  rw [insE, List.getElem?_append_right (by omega), e, Nat.sub_self]; rfl
theorem insE_gt {l : List En} {x : En} {p i : Nat} (h : p ≤ l.length) (hi : p ≤ i) : (insE l x p)[i + 1]? = l[i]? := by
  have e : (l.take p).length = p := by simp; omega
  rw [insE, List.getElem?_append_right (by omega), e, show i + 1 - p = (i - p) + 1 by omega, List.getElem?_cons_succ, List.getElem?_drop]
  congr 1; omega
theorem insE_mem {l : List En} {x y : En} {p : Nat} (h : y ∈ insE l x p) : y ∈ l ∨ y = x := by
  unfold insE at h
  rcases List.mem_append.1 h with h | h
  · exact .inl (List.mem_of_mem_take h)
  · rcases List.mem_cons.1 h with h | h
    · exact .inr h
    · exact .inl (List.mem_of_mem_drop h)
theorem insE_rise {l : List En} {x : En} {p : Nat} (hr : Rise l) (h : PosOf l x.key p) (hn : ¬ FoundAt l x.key p) : Rise (insE l x p) := by
  have hlo : ∀ (j : Nat) (y : En), j < p → l[j]? = some y → cmpL y.key x.key < 0 := h.2.1
  have hhi : ∀ (j : Nat) (y : En), p ≤ j → l[j]? = some y → cmpL x.key y.key < 0 := by
    intro j y hj hy
    have h0 := h.2.2 j y hj hy
    have ha := cmpL_anti x.key y.key
    rcases cmpL_range y.key x.key with e | e | e
    · omega
    · exfalso
      by_cases hjp : j = p
      · subst hjp; exact hn ⟨y, hy, e⟩
      · obtain ⟨z, hz⟩ : ∃ z, l[p]? = some z := ⟨_, List.getElem?_eq_getElem (by have := (List.getElem?_eq_some_iff.1 hy).1; omega)⟩
        have h1 := hr p j z y (by omega) hz hy
        have h2 := h.2.2 p z (Nat.le_refl _) hz
        rw [cmpL_eq _ _ e] at h1
        omega
    · omega
  intro i j a b hij ha hb
  rcases Nat.lt_trichotomy i p with hi | hi | hi
  · rw [insE_lt h.1 hi] at ha
    rcases Nat.lt_trichotomy j p with hj | hj | hj
    · rw [insE_lt h.1 hj] at hb; exact hr i j a b hij ha hb
    · subst hj; rw [insE_at h.1] at hb; cases hb; exact hlo i a hi ha
    · obtain ⟨k, rfl⟩ : ∃ k, j = k + 1 := ⟨j - 1, by omega⟩
      rw [insE_gt h.1 (by omega)] at hb
      exact hr i k a b (by omega) ha hb
  · subst hi
    rw [insE_at h.1] at ha; cases ha
    obtain ⟨k, rfl⟩ : ∃ k, j = k + 1 := ⟨j - 1, by omega⟩
    rw [insE_gt h.1 (by omega)] at hb
    exact hhi k b (by omega) hb
  · obtain ⟨k, rfl⟩ : ∃ k, j = k + 1 := ⟨j - 1, by omega⟩
    obtain ⟨g, rfl⟩ : ∃ g, i = g + 1 := ⟨i - 1, by omega⟩
    rw [insE_gt h.1 (by omega)] at ha hb
    exact hr g k a b (by omega) ha hb

/-- What is told of the entries. -/
structure Fine (sorted : Bool) (k : Nat) (X : List En) : Prop where
  len : X.length ≤ k
  ok : ∀ x ∈ X, EnOk x ∧ x.key.length ≤ 120 ∧ x.val.length ≤ 600
  rise : sorted = true → Rise X
theorem Fine.nil (s : Bool) : Fine s 0 [] := ⟨Nat.le_refl _, (fun x hx => by cases hx), (fun _ i j x y _ hx => by simp at hx)⟩
theorem Fine.up {s : Bool} {k : Nat} {X : List En} (h : Fine s k X) : Fine s (k + 1) X := ⟨by have := h.len; omega, h.ok, h.rise⟩
theorem Fine.ins {s : Bool} {k p : Nat} {X : List En} {x : En} (h : Fine s k X) (hx : EnOk x ∧ x.key.length ≤ 120 ∧ x.val.length ≤ 600) (hp : p ≤ X.length) (hs : s = true → PosOf X x.key p ∧ ¬ FoundAt X x.key p) : Fine s (k + 1) (insE X x p) := by
  refine ⟨by rw [insE_len hp]; have := h.len; omega, fun y hy => ?_, fun e => ?_⟩
  · rcases insE_mem hy with hy | rfl
    · exact h.ok y hy
    · exact hx
  · exact insE_rise (h.rise e) (hs e).1 (hs e).2

theorem infoE4 : (Try.prog.info? 46).map (fun i => (i.zero, i.size, i.bytes)) = some (some (.agg #[.string ByteArray.empty, .string ByteArray.empty, .int .i64 0, .int .u32 0]), 4, 48) := by kernel_rfl

theorem rflat_len (l : List En) : (l.flatMap rcl).length = l.length * 4 := by
  induction l with
  | nil => rfl
  | cons y l ih => rw [List.flatMap_cons, List.length_append, ih]; simp [rcl]; omega
theorem rflat : ∀ (l : List En) (i : Nat) (x : En), l[i]? = some x →
    (l.flatMap rcl)[i * 4]? = some (.string (strOfNums x.key)) ∧ (l.flatMap rcl)[i * 4 + 1]? = some (.string (strOfNums x.val)) ∧ (l.flatMap rcl)[i * 4 + 2]? = some (.int .i64 x.long) ∧ (l.flatMap rcl)[i * 4 + 3]? = some (.int .u32 x.first)
  | [], i, y, h => by simp at h
  | z :: es, 0, y, h => by
    have : z = y := by simpa using h
    subst this
    exact ⟨rfl, rfl, rfl, rfl⟩
  | z :: es, i + 1, y, h => by
    have ih := rflat es i y (by simpa using h)
    rw [show (i + 1) * 4 = i * 4 + 4 by omega]
    exact ih
/-- The first j of the entries X stand in a row of the call's own. -/
def VRow (base : Nat) (w : World) (v : Value) (j : Nat) (X : List En) : Prop := j ≤ X.length ∧ w.ownsRow base 46 4 v j ((X.take j).flatMap rcl)
theorem VRow.nil (base : Nat) (w : World) (X : List En) : VRow base w (.slice none 0 0) 0 X := ⟨Nat.zero_le _, World.ownsRow_nil _ _ _ _⟩
theorem VRow.grown {base j : Nat} {w w' : World} {v : Value} {X : List En} (h : VRow base w v j X) (k : w.grownBy w' none) : VRow base w' v j X :=
  ⟨h.1, World.ownsRow.kept h.2 k (by cases v.ownBlock <;> simp)⟩
theorem VRow.base {base base' j : Nat} {w : World} {v : Value} {X : List En} (h : VRow base w v j X) (k : base' ≤ base) : VRow base' w v j X := ⟨h.1, own_base h.2 k⟩
theorem VRow.push {base j : Nat} {w : World} {v : Value} {X : List En} {y : En} (hy : X[j]? = some y) (h : w.ownsRow base 46 4 v (j + 1) ((X.take j).flatMap rcl ++ rcl y)) : VRow base w v (j + 1) X := by
  have hj := (List.getElem?_eq_some_iff.1 hy).1
  refine ⟨hj, ?_⟩
  rw [List.take_add_one, hy, List.flatMap_append]
  simpa using h
theorem VRow.rrow {base j : Nat} {w : World} {v : Value} {X : List En} (h : VRow base w v j X) (hj : j = X.length) (hl : X.length ≤ 100000) : RRow w v X := by
  subst hj
  obtain ⟨_, h⟩ := h
  rw [List.take_length] at h
  have hr := h
  rcases h.2 with ⟨hv, hn⟩ | ⟨q, cap, cur, hv, hb, hq, hnc, hcm, hcs, ht⟩
  · rw [List.eq_nil_of_length_eq_zero hn, hv]; exact ⟨none, 0, rfl, by simp, fun h => absurd rfl h⟩
  · refine ⟨some ⟨q, 0, none⟩, cap, hv, hl, fun hne => ⟨q, 0, rfl, lt_of_block hq, fun i x hx => ?_⟩⟩
    obtain ⟨c0, c1, c2, c3⟩ := rflat X i x hx
    have hc := hr.cells (g := q) (by rw [hv]; rfl)
    rw [Nat.zero_add]
    refine ⟨?_, ?_, ?_, ?_⟩
    · have := hc _ _ c0; rwa [Addr.add_lit, Nat.zero_add] at this
    · have := hc _ _ c1; rwa [Addr.add_lit, Nat.zero_add] at this
    · have := hc _ _ c2; rwa [Addr.add_lit, Nat.zero_add] at this
    · have := hc _ _ c3; rwa [Addr.add_lit, Nat.zero_add] at this
theorem VRow.shape {base j : Nat} {w : World} {v : Value} {X : List En} (h : VRow base w v j X) : ∃ a c, v = .slice a j c := own_shape h.2
/-- The array of a model's entry. -/
def rcs (k v : ByteArray) (l f : Int) : Array Value := #[.string k, .string v, .int .i64 l, .int .u32 f]
theorem litR (w : World) (x : En) : ∀ j u, (rcl x)[j]? = some u → (w.alloc (.cells #[.string (strOfNums x.key), .string (strOfNums x.val), .int .i64 x.long, .int .u32 x.first] 46)).cell? ((⟨w.heap.size, 0, none⟩ : Addr).add j) = some u := by
  intro j u hj
  rw [Addr.add_lit, Nat.zero_add, World.cell?_alloc_mark]
  simpa [rcl] using hj
theorem oneR (x : En) : ∀ u ∈ rcl x, u.oneCell' = true := by
  intro u hu
  simp only [rcl, List.mem_cons, List.not_mem_nil, or_false] at hu
  rcases hu with rfl | rfl | rfl | rfl <;> rfl

/-- A slice of such bytes in a block of bytes, whatever it is marked as. -/
def SeqU (w : World) (v : Value) (bs : List Int) : Prop :=
  ∃ q c cs f, v = .slice (some ⟨q, 0, none⟩) bs.length c ∧ bs.length ≤ c ∧ c ≤ maxLen ∧ w.heap[q]? = some (.cells cs 5 f) ∧ ∀ j, j < bs.length → cs[j]? = some (.int .u8 (bs.getD j 0))
theorem SeqU.seq {w : World} {v : Value} {bs : List Int} (h : SeqU w v bs) : Seq w.heap.size w v bs := by
  obtain ⟨q, c, cs, f, hv, h1, h2, hq, hc⟩ := h
  refine ⟨_, c, hv, h1, h2, (fun e => by cases e), fun _ => ⟨q, 0, rfl, lt_of_block hq, fun j hj => ?_⟩⟩
  have := hc j hj
  simp [World.cell?, hq, this]
theorem SeqU.grown {w w' : World} {v : Value} {bs : List Int} (h : SeqU w v bs) (k : w.grownBy w' none) : SeqU w' v bs := by
  obtain ⟨q, c, cs, f, hv, h1, h2, hq, hc⟩ := h
  exact ⟨q, c, cs, f, hv, h1, h2, (k.block q (lt_of_block hq) (by simp)).trans hq, hc⟩
theorem SeqU.other {b2 n : Nat} {w w' : World} {lv v : Value} {xs : List Value} {bs : List Int} (h : SeqU w v bs) (hr : w.ownsRow b2 43 4 lv n xs) (k : w.grownBy w' lv.ownBlock) : SeqU w' v bs := by
  obtain ⟨q, c, cs, f, hv, h1, h2, hq, hc⟩ := h
  refine ⟨q, c, cs, f, hv, h1, h2, (k.block q (lt_of_block hq) ?_).trans hq, hc⟩
  intro e
  rcases hr.2 with ⟨hv2, _⟩ | ⟨g, cap, cur, hv2, _, hg, _⟩
  · rw [hv2] at e; cases e
  · rw [hv2] at e
    have e2 : q = g := by injection e
    subst e2
    rw [hq] at hg
    injection hg with hg
    injection hg with _ ht
    exact absurd ht (by decide)
structure SOwns (base : Nat) (w : World) (lv : Value) (es : List (Value × Value × En)) : Prop where
  row : w.ownsRow base 43 4 lv es.length (es.flatMap ecl)
  each : ∀ y ∈ es, SeqU w y.1 y.2.2.key ∧ SeqU w y.2.1 y.2.2.val ∧ EnOk y.2.2
theorem SOwns.nil (base : Nat) (w : World) : SOwns base w (.slice none 0 0) [] := ⟨World.ownsRow_nil _ _ _ _, fun y hy => by cases hy⟩
theorem SOwns.grown {base : Nat} {w w' : World} {lv : Value} {es : List (Value × Value × En)} (h : SOwns base w lv es) (k : w.grownBy w' none) : SOwns base w' lv es :=
  ⟨World.ownsRow.kept h.row k (by cases lv.ownBlock <;> simp), fun y hy => by
    obtain ⟨h1, h2, h3⟩ := h.each y hy
    exact ⟨h1.grown k, h2.grown k, h3⟩⟩
theorem SOwns.push {base : Nat} {w w1 : World} {lv v' : Value} {es : List (Value × Value × En)} {y : Value × Value × En} (h : SOwns base w lv es) (h1 : SeqU w y.1 y.2.2.key) (h2 : SeqU w y.2.1 y.2.2.val) (h3 : EnOk y.2.2)
    (hrow : w1.ownsRow base 43 4 v' (es.length + 1) (es.flatMap ecl ++ ecl y)) (hg : w.grownBy w1 lv.ownBlock) : SOwns base w1 v' (es ++ [y]) := by
  refine ⟨by simpa [List.flatMap_append] using hrow, fun z hz => ?_⟩
  rcases List.mem_append.1 hz with hz | hz
  · obtain ⟨g1, g2, g3⟩ := h.each z hz
    exact ⟨g1.other h.row hg, g2.other h.row hg, g3⟩
  · have : z = y := by simpa using hz
    subst this
    exact ⟨h1.other h.row hg, h2.other h.row hg, h3⟩
theorem SOwns.ents {base : Nat} {w : World} {lv : Value} {es : List (Value × Value × En)} (h : SOwns base w lv es) (hl : es.length ≤ 100000) : Ents w.heap.size w lv (xsOf es) := by
  have hr := h.row
  rcases h.row.2 with ⟨hv, hn⟩ | ⟨q, cap, cur, hv, hb, hq, hnc, hcm, hcs, ht⟩
  · rw [List.eq_nil_of_length_eq_zero hn]
    rw [hv]; exact Ents.nil _ _
  · refine ⟨some ⟨q, 0, none⟩, cap, by rw [hv]; simp, by simpa using hnc, hcm, by simpa using hl, fun hne => ⟨q, 0, rfl, lt_of_block hq, fun i x hx => ?_⟩⟩
    rw [List.getElem?_map] at hx
    obtain ⟨y, hy, rfl⟩ := Option.map_eq_some_iff.1 hx
    obtain ⟨c0, c1, c2, c3⟩ := flat4 es i y hy
    obtain ⟨g1, g2, g3⟩ := h.each y (List.mem_of_getElem? hy)
    have s1 := g1.seq
    have s2 := g2.seq
    obtain ⟨q1, d1, _, _, e1, _⟩ := g1
    obtain ⟨q2, d2, _, _, e2, _⟩ := g2
    have hc := hr.cells (g := q) (by rw [hv]; rfl)
    rw [Nat.zero_add]
    refine ⟨some ⟨q1, 0, none⟩, d1, some ⟨q2, 0, none⟩, d2, by rw [← e1]; exact s1, by rw [← e2]; exact s2, g3, ?_, ?_, ?_, ?_⟩
    · rw [← e1]; have := hc _ _ c0; rwa [Addr.add_lit, Nat.zero_add] at this
    · rw [← e2]; have := hc _ _ c1; rwa [Addr.add_lit, Nat.zero_add] at this
    · have := hc _ _ c2; rwa [Addr.add_lit, Nat.zero_add] at this
    · have := hc _ _ c3; rwa [Addr.add_lit, Nat.zero_add] at this

/-- '[]byte(s)' in any world. -/
theorem conv_out {bs : List Int} (hb : Byt bs) (hl : bs.length ≤ 100000) : ∃ (cf : World → Nat) (rf : World → Array Value) (mf : World → Nat × Nat),
    (∀ W, (convert 9 29 (.string (strOfNums bs))).run Try.prog W = .ok (.slice (some ⟨W.heap.size, 0, none⟩) bs.length (cf W)) (W.drew.alloc (.cells (rf W) 5 (mf W)))) ∧
    ∀ W w q, w.heap[q]? = some (.cells (rf W) 5 (mf W)) → SeqU w (.slice (some ⟨q, 0, none⟩) bs.length (cf W)) bs := by
  have hsz : (strOfNums bs).size = bs.length := strOfNums_size bs
  refine ⟨fun W => grownCap W bs.length 0 5, fun W => bytesRow (strOfNums bs) (grownCap W bs.length 0 5), fun W => ((bytesRow (strOfNums bs) (grownCap W bs.length 0 5)).size, (bytesRow (strOfNums bs) (grownCap W bs.length 0 5)).size + 1), fun W => ?_, fun W w q hq => ?_⟩
  · have := run_bytes_of_string W 9 29 5 (strOfNums bs) Try.underlying9 Try.underlying29 Try.underlying5
    rw [hsz] at this
    exact this
  · refine ⟨q, _, _, _, rfl, grownCap_ge _ _ _ _, grownCap_le_maxLen _ _ _ _ (by unfold maxLen; omega), hq, fun j hj => ?_⟩
    have hj2 : j < (strOfNums bs).data.size := by rw [← strOfNums_size bs] at hj; exact hj
    rw [bytesRow_at _ _ _ hj2]
    have := hb (bs[j]) (List.getElem_mem hj)
    simp [strOfNums, List.getD_eq_getElem?_getD, hj]
    omega

end Go.Proofs.Ytfencmidjolgfaa

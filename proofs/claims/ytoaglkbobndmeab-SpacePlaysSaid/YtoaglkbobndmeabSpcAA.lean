/-
  Layer 8: SpaceApart's row of what each page is; how it is filled. Own work.
-/
import Derived.Test.YtoaglkbobndmeabSpcY
import Derived.Test.YtoaglkbobndmeabSpcZ
namespace Go.Proofs.Ytoaglkbobndmeab
open Go.RowKit Go.Maps

/-- Block q is sixty numbers. -/
structure WhAt (w : World) (q : Nat) (V : Nat → Nat) : Prop where
  row : ∃ c : Array Value, w.heap[q]? = some (.cells c 3 (0, 0)) ∧ c.size = 60 ∧ ∀ j, j < 60 → c[j]? = some (.int .i64 ((V j : Nat) : Int))
theorem WhAt.cell {w : World} {q : Nat} {V : Nat → Nat} (h : WhAt w q V) {j : Nat} (hj : j < 60) : w.cell? ⟨q, j, none⟩ = some (.int .i64 ((V j : Nat) : Int)) := by
  obtain ⟨c, hb, hs, hc⟩ := h.row
  simp only [World.cell?, hb]
  exact hc j hj
theorem WhAt.froz {w : World} {q : Nat} {V : Nat → Nat} (h : WhAt w q V) (j : Nat) : w.frozen? ⟨q, j, none⟩ = false := by
  obtain ⟨c, hb, hs, hc⟩ := h.row
  exact free_row hb j
theorem WhAt.kept {w w' : World} {q : Nat} {V : Nat → Nat} (h : WhAt w q V) (k : w'.heap[q]? = w.heap[q]?) : WhAt w' q V := by
  obtain ⟨c, hb, hs, hc⟩ := h.row
  exact ⟨⟨c, k.trans hb, hs, hc⟩⟩
theorem WhAt.lt {w : World} {q : Nat} {V : Nat → Nat} (h : WhAt w q V) : q < w.heap.size := by
  obtain ⟨c, hb, hs, hc⟩ := h.row
  exact lt_of_block hb
theorem WhAt.put {w : World} {q : Nat} {V : Nat → Nat} (h : WhAt w q V) {p : Nat} (hp : p < 60) (x : Nat) : WhAt (w.setCell ⟨q, p, none⟩ (.int .i64 (x : Int))) q (upd V p x) := by
  obtain ⟨c, hb, hs, hc⟩ := h.row
  refine ⟨⟨c.setIfInBounds p (.int .i64 (x : Int)), ?_, by simpa using hs, fun j hj => ?_⟩⟩
  · simp [World.setCell, Array.getElem?_modify, hb]
  · by_cases e : j = p
    · subst e
      rw [upd_same]
      simp [show j < c.size by omega]
    · rw [upd_other V x e, Array.getElem?_setIfInBounds, if_neg (fun e' => e e'.symm)]
      exact hc j hj
theorem wh_made {base q : Nat} {w : World} (h : w.ownsRow base 3 1 (.slice (some ⟨q, 0, none⟩) 60 60) 60 (madeCells (Value.int .i64 0).cells (60 * 1)).toList) : WhAt w q (fun _ => 0) := by
  have e : (madeCells (Value.int .i64 0).cells (60 * 1)).toList = List.replicate 60 (Value.int .i64 0) := by
    rw [Nat.mul_one, show (Value.int .i64 0).cells = #[Value.int .i64 0] from rfl, toList_madeCells_one]
  rw [e] at h
  rcases h.2 with ⟨hv, _⟩ | ⟨g, cap', cur, hv, hb, hg, hnc, hcm, hcs, ht⟩
  · cases hv
  · injection hv with e1 e2 e3
    injection e1 with e1
    injection e1 with e1 _ _
    subst e1; subst e3
    refine ⟨⟨cur, hg, by simpa using hcs, fun j hj => ?_⟩⟩
    have h2 : (List.replicate 60 (Value.int .i64 0))[j]? = some (Value.int .i64 0) := by rw [List.getElem?_replicate, if_pos hj]
    rw [← ht, List.getElem?_take, if_pos (by omega)] at h2
    simpa using h2

def fillP (old t : Nat) (V : Nat → Nat) (ps : List Nat) : Nat → Nat := ps.foldl (fun V p => upd V p (if t ≤ old then 1 else 2)) V
def fillR (old : Nat) (V : Nat → Nat) (rs : List Rc) : Nat → Nat := rs.foldl (fun V r => fillP old r.1 V r.2) V
theorem fillP_snoc (old t : Nat) (V : Nat → Nat) (ps : List Nat) (p : Nat) : fillP old t V (ps ++ [p]) = upd (fillP old t V ps) p (if t ≤ old then 1 else 2) := by simp [fillP, List.foldl_append]
theorem fillR_snoc (old : Nat) (V : Nat → Nat) (rs : List Rc) (r : Rc) : fillR old V (rs ++ [r]) = fillP old r.1 (fillR old V rs) r.2 := by simp [fillR, List.foldl_append]
theorem upd_twice (V : Nat → Nat) (p x y : Nat) : upd (upd V p x) p y = upd V p y := by
  funext q
  unfold upd
  split <;> rfl
theorem fillP_at (old t : Nat) : ∀ (ps : List Nat) (V : Nat → Nat) (p : Nat), fillP old t V ps p = if p ∈ ps then (if t ≤ old then 1 else 2) else V p
  | [], V, p => by simp [fillP]
  | x :: ps, V, p => by
    show fillP old t (upd V x _) ps p = _
    rw [fillP_at old t ps]
    by_cases h1 : p ∈ ps
    · rw [if_pos h1, if_pos (show p ∈ x :: ps from List.mem_cons_of_mem _ h1)]
    · rw [if_neg h1]
      by_cases h2 : p = x
      · subst h2; rw [upd_same, if_pos (show p ∈ p :: ps from List.mem_cons_self)]
      · rw [upd_other V _ h2, if_neg (show ¬ p ∈ x :: ps by simp [h1, h2])]
theorem fillR_at (old : Nat) : ∀ (rs : List Rc) (V : Nat → Nat), (allOf rs).Nodup → ∀ p, fillR old V rs p = if p ∈ allOf (oldRecs old rs) then 1 else if p ∈ allOf (newRecs old rs) then 2 else V p
  | [], V, _, p => by simp [fillR, oldRecs, newRecs, allOf]
  | r :: rs, V, hnd, p => by
    have e : allOf (r :: rs) = r.2 ++ allOf rs := rfl
    rw [e] at hnd
    obtain ⟨n1, n2, n3⟩ := List.nodup_append.1 hnd
    show fillR old (fillP old r.1 V r.2) rs p = _
    rw [fillR_at old rs _ n2, fillP_at]
    have so : ∀ x, x ∈ allOf (oldRecs old rs) → x ∈ allOf rs := fun x hx => by
      obtain ⟨a, ha, hx⟩ := mem_allOf.1 hx
      exact mem_allOf.2 ⟨a, (List.mem_filter.1 ha).1, hx⟩
    have sn : ∀ x, x ∈ allOf (newRecs old rs) → x ∈ allOf rs := fun x hx => by
      obtain ⟨a, ha, hx⟩ := mem_allOf.1 hx
      exact mem_allOf.2 ⟨a, (List.mem_filter.1 ha).1, hx⟩
    by_cases ho : r.1 ≤ old
    · have e1 : oldRecs old (r :: rs) = r :: oldRecs old rs := by simp [oldRecs, isOld, ho]
      have e2 : newRecs old (r :: rs) = newRecs old rs := by simp [newRecs, isOld, ho]
      rw [e1, e2, show allOf (r :: oldRecs old rs) = r.2 ++ allOf (oldRecs old rs) from rfl, if_pos ho]
      by_cases h1 : p ∈ r.2
      · have h2 : p ∉ allOf rs := fun k => n3 p h1 p k rfl
        rw [if_neg (fun k => h2 (so p k)), if_neg (fun k => h2 (sn p k)), if_pos h1, if_pos (by simp [h1])]
      · simp only [List.mem_append, h1, false_or, if_false]
    · have e1 : oldRecs old (r :: rs) = oldRecs old rs := by simp [oldRecs, isOld, ho]
      have e2 : newRecs old (r :: rs) = r :: newRecs old rs := by simp [newRecs, isOld, ho]
      rw [e1, e2, show allOf (r :: newRecs old rs) = r.2 ++ allOf (newRecs old rs) from rfl, if_neg ho]
      by_cases h1 : p ∈ r.2
      · have h2 : p ∉ allOf rs := fun k => n3 p h1 p k rfl
        rw [if_neg (fun k => h2 (so p k)), if_neg (fun k => h2 (sn p k)), if_pos h1, if_neg (fun k => h2 (so p k)), if_pos (by simp [h1])]
      · simp only [List.mem_append, h1, false_or, if_false]

theorem apart_start {old : Nat} {rs : List Rc} (hok : Okr 50 rs) : AInv (newRecs old rs) (spOf 50 60 old rs) (fillR old (fun _ => 0) rs) := by
  have hnd := okr_nodup hok
  have hat := fillR_at old rs (fun _ => 0) hnd
  have hex : ∀ x, x ∈ allOf (oldRecs old rs) → x ∈ allOf (newRecs old rs) → False := fun x h1 h2 => by
    obtain ⟨a, ha, hxa⟩ := mem_allOf.1 h1
    obtain ⟨b, hb, hxb⟩ := mem_allOf.1 h2
    obtain ⟨ha1, ha2⟩ := List.mem_filter.1 ha
    obtain ⟨hb1, hb2⟩ := List.mem_filter.1 hb
    have hne : a ≠ b := fun e => by subst e; simp [ha2] at hb2
    have hp : rs.Pairwise (fun a b : Rc => ∀ x ∈ a.2, x ∉ b.2) := hok.apart
    obtain ⟨i, hi, e1⟩ := List.mem_iff_getElem.1 ha1
    obtain ⟨j, hj, e2⟩ := List.mem_iff_getElem.1 hb1
    rcases Nat.lt_trichotomy i j with k | k | k
    · have := List.pairwise_iff_getElem.1 hp i j hi hj k x (by rw [e1]; exact hxa)
      rw [e2] at this; exact this hxb
    · subst k; exact hne (e1.symm.trans e2)
    · have := List.pairwise_iff_getElem.1 hp j i hj hi k x (by rw [e2]; exact hxb)
      rw [e1] at this; exact this hxa
  have hr : ∀ x ∈ allOf rs, 2 ≤ x ∧ x < 50 := okr_range hok
  have so : ∀ x, x ∈ allOf (oldRecs old rs) → x ∈ allOf rs := fun x hx => by
    obtain ⟨a, ha, hx⟩ := mem_allOf.1 hx
    exact mem_allOf.2 ⟨a, (List.mem_filter.1 ha).1, hx⟩
  have sn : ∀ x, x ∈ allOf (newRecs old rs) → x ∈ allOf rs := fun x hx => by
    obtain ⟨a, ha, hx⟩ := mem_allOf.1 hx
    exact mem_allOf.2 ⟨a, (List.mem_filter.1 ha).1, hx⟩
  have mu : ∀ x, x ∈ (spOf 50 60 old rs).us ↔ x ∈ allOf (oldRecs old rs) := fun x => by
    show x ∈ insAll _ [] ↔ _
    rw [mem_insAll]; simp
  have mw : ∀ x, x ∈ (spOf 50 60 old rs).wa ↔ x ∈ allOf (newRecs old rs) := fun x => by
    show x ∈ insAll _ [] ↔ _
    rw [mem_insAll]; simp
  refine ⟨rfl, Nat.le_refl _, (show 50 ≤ 60 by decide), fun x hx => (hr x (so x ((mu x).1 hx))).1, srt_insAll List.Pairwise.nil, List.Pairwise.nil, fun p => ?_, fun p => ?_, fun p => ?_, fun p => ?_, fun p hp => ?_, fun p => ?_, rfl, mw⟩
  · rw [mu, hat]
    by_cases h1 : p ∈ allOf (oldRecs old rs)
    · simp [h1]
    · rw [if_neg h1]; split <;> simp [h1]
  · rw [mw, hat]
    by_cases h1 : p ∈ allOf (oldRecs old rs)
    · rw [if_pos h1]; exact ⟨fun k => by omega, fun k => (hex p h1 k).elim⟩
    · rw [if_neg h1]; split
      · rename_i h2; simp [h2]
      · rename_i h2; simp [h2]
  · show _ ↔ p ∈ []
    rw [hat]
    split
    · simp
    · split <;> simp
  · show _ ↔ p ∈ []
    rw [hat]
    split
    · simp
    · split <;> simp
  · show 2 ≤ p ∧ p < 50
    rw [hat] at hp
    split at hp
    · rename_i h1; exact hr p (so p h1)
    · split at hp
      · rename_i h1; exact hr p (sn p h1)
      · exact absurd rfl hp
  · rw [hat]
    split
    · decide
    · split <;> decide

def topOf (rs : List Rc) : Nat := rs.foldl (fun m r => max m r.1) 0
theorem topOf_snoc (rs : List Rc) (r : Rc) : topOf (rs ++ [r]) = max (topOf rs) r.1 := by simp [topOf, List.foldl_append]
theorem topOf_le : ∀ (rs : List Rc) (m : Nat), m ≤ rs.foldl (fun m r => max m r.1) m ∧ ∀ r ∈ rs, r.1 ≤ rs.foldl (fun m r => max m r.1) m
  | [], m => ⟨Nat.le_refl _, fun r hr => by cases hr⟩
  | r :: rs, m => by
    obtain ⟨h1, h2⟩ := topOf_le rs (max m r.1)
    refine ⟨Nat.le_trans (Nat.le_max_left _ _) h1, fun x hx => ?_⟩
    rcases List.mem_cons.1 hx with e | e
    · subst e; exact Nat.le_trans (Nat.le_max_right _ _) h1
    · exact h2 x e

end Go.Proofs.Ytoaglkbobndmeab

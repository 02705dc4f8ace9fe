/-
  Layer 9: what the laws' walks share: a row of handles of the walk's own; a table whose first slots are taken. Own work.
-/
import Derived.Test.YtoaglkbobndmeaaRdF
import Derived.Laws.AppendOwn
import Derived.Laws.OwnMore
namespace Go.Proofs.Ytoaglkbobndmeaa
open Go.RowKit

/-- Block k holds cells of type t. -/
def TagIs (w : World) (k : Nat) (t : TypeId) : Prop := ∃ cs f, w.heap[k]? = some (.cells cs t f)
theorem TagIs.uniq {w : World} {k : Nat} {s t : TypeId} (h : TagIs w k s) (g : TagIs w k t) : s = t := by
  obtain ⟨_, _, h⟩ := h; obtain ⟨_, _, g⟩ := g; rw [h] at g; injection g with g; injection g
theorem own_tag {w : World} {base size n : Nat} {e : TypeId} {v : Value} {xs : List Value} (h : w.ownsRow base e size v n xs) : ∀ k, v.ownBlock = some k → base ≤ k ∧ k < w.heap.size ∧ TagIs w k e := by
  intro k hk
  rcases h.2 with ⟨rfl, _⟩ | ⟨g, cap, cur, rfl, hb, hg, _⟩
  · simp [Value.ownBlock] at hk
  · simp [Value.ownBlock] at hk
    subst hk
    exact ⟨hb, lt_of_block hg, cur, _, hg⟩
theorem own_far {w w' : World} {base size n : Nat} {e t : TypeId} {v : Value} {xs : List Value} {row : Option Nat} (h : w.ownsRow base e size v n xs) (hg : w.grownBy w' row) (hr : ∀ k, row = some k → TagIs w k t) (ht : t ≠ e) : w'.ownsRow base e size v n xs := by
  refine h.kept hg ?_
  cases hv : v.ownBlock with
  | none => exact .inl rfl
  | some k => exact .inr fun e' => ht ((hr k e'.symm).uniq (own_tag h k hv).2.2)
theorem TabAt.tag {b : Nat} {w : World} {L : List Sl} (h : TabAt b w L) : TagIs w b 75 := ⟨_, _, h.box⟩

/-! ### a row of handles -/
def hcl (y : Nat × Nat) : List Value := [.int .i64 (y.1 : Int), .int .u64 (y.2 : Int)]
def HOwn (base : Nat) (w : World) (v : Value) (hs : List (Nat × Nat)) : Prop := w.ownsRow base 36 2 v hs.length (hs.flatMap hcl)
theorem HOwn.nil (base : Nat) (w : World) : HOwn base w (.slice none 0 0) [] := World.ownsRow_nil _ _ _ _
theorem HOwn.grown {base : Nat} {w w' : World} {v : Value} {hs : List (Nat × Nat)} (h : HOwn base w v hs) (g : w.grownBy w' none) : HOwn base w' v hs := own_far h g (t := 75) (fun k e => by simp at e) (by decide)
theorem HOwn.tab {base b : Nat} {w w' : World} {v : Value} {hs : List (Nat × Nat)} {L : List Sl} (h : HOwn base w v hs) (ht : TabAt b w L) (g : w.grownBy w' (some b)) : HOwn base w' v hs :=
  own_far h g (t := 75) (fun k e => by injection e with e; subst e; exact ht.tag) (by decide)
theorem TabAt.hown {base b : Nat} {w w' : World} {v : Value} {hs : List (Nat × Nat)} {L : List Sl} (ht : TabAt b w L) (h : HOwn base w v hs) (g : w.grownBy w' v.ownBlock) : TabAt b w' L :=
  ht.far g fun e => absurd ((own_tag h b e.symm).2.2.uniq ht.tag) (by decide)
theorem flat2h : ∀ (l : List (Nat × Nat)) (i : Nat) (y : Nat × Nat), l[i]? = some y → (l.flatMap hcl)[i * 2]? = some (.int .i64 (y.1 : Int)) ∧ (l.flatMap hcl)[i * 2 + 1]? = some (.int .u64 (y.2 : Int))
  | [], i, y, h => by simp at h
  | z :: l, 0, y, h => by
    have : z = y := by simpa using h
    subst this
    exact ⟨rfl, rfl⟩
  | z :: l, i + 1, y, h => by
    have ih := flat2h l i y (by simpa using h)
    rw [show (i + 1) * 2 = i * 2 + 2 by omega]
    exact ih
theorem HOwn.at {base : Nat} {w : World} {v : Value} {hs : List (Nat × Nat)} (h : HOwn base w v hs) {k : Nat} {y : Nat × Nat} (hk : hs[k]? = some y) :
    ∃ g c, v = .slice (some ⟨g, 0, none⟩) hs.length c ∧ w.cell? ⟨g, k * 2, none⟩ = some (.int .i64 (y.1 : Int)) ∧ w.cell? ⟨g, k * 2 + 1, none⟩ = some (.int .u64 (y.2 : Int)) := by
  rcases h.2 with ⟨_, hn⟩ | ⟨g, cap, cur, rfl, hb, hg, _⟩
  · rw [List.eq_nil_of_length_eq_zero hn] at hk; simp at hk
  · obtain ⟨f0, f1⟩ := flat2h hs k y hk
    have hc := World.ownsRow.cells h (g := g) rfl
    have c0 := hc _ _ f0
    have c1 := hc _ _ f1
    rw [Addr.add_lit, Nat.zero_add] at c0 c1
    exact ⟨g, cap, rfl, c0, c1⟩
/-- An append onto a row of the call's own: only new blocks have turned. -/
theorem grow_row {w a b : World} {e : TypeId} {size n : Nat} {v : Value} {xs : List Value} (h : w.grownBy a none) (hr : a.ownsRow w.heap.size e size v n xs) (k : a.grownBy b v.ownBlock) : w.grownBy b none :=
  gof ((gbelow h).grown k h.size fun q e => (hr.lt q e).1) none
theorem HOwn.shape {base : Nat} {w : World} {v : Value} {hs : List (Nat × Nat)} (h : HOwn base w v hs) : ∃ ao c, v = .slice ao hs.length c := own_shape h
theorem infoH : (Try.prog.info? 36).map (fun i => (i.zero, i.size, i.bytes)) = some (some (.agg #[.int .i64 0, .int .u64 0]), 2, 16) := by kernel_rfl
theorem infoBool : (Try.prog.info? 4).map (fun i => (i.zero, i.size, i.bytes)) = some (some (.bool false), 1, 1) := by kernel_rfl

/-- One handle more. -/
theorem wpList_happ (w : World) {ops : Array Oper} {rest : List Oper} {o : Oper} {a : Act} {Q : Exit → Act → World → Prop} (hgd : o.guard = none) (s x : Operand)
    (ho : o.op = .call { callee := .builtin .append, args := #[s, x], argTypes := #[31, 31] })
    (base : Nat) (v : Value) (hs : List (Nat × Nat)) (y : Nat × Nat) (q1 q2 : Int) (q : Nat) (hv : a.eval s = v) (hx : a.eval x = .slice (some ⟨q, 0, none⟩) 1 1) (hq : w.heap.size = q) (hq1 : q1 = (y.1 : Int)) (hq2 : q2 = (y.2 : Int))
    (h : HOwn base w v hs) (hm : hs.length ≤ 1000) (hbase : base ≤ w.heap.size)
    (K : ∀ v' w', HOwn base w' v' (hs ++ [y]) → w.grownBy w' v.ownBlock → wpList Try.prog ops Q rest (a.put o.dst v') w') :
    wpList Try.prog ops Q (o :: rest) a (w.alloc (.cells #[.int .i64 q1, .int .u64 q2] 36)) := by
  subst hq1 hq2 hq
  obtain ⟨i0, hi, hz0, hz1, hz2⟩ := info_parts infoH
  have hg := World.grownBy_alloc w (.cells #[.int .i64 (y.1 : Int), .int .u64 (y.2 : Int)] 36) none
  refine wpList_append_own _ hgd s x 31 ho base 36 i0 (.agg #[.int .i64 0, .int .u64 0]) 2 16 Try.underlying31 hi hz0 hz1 hz2 rfl (by decide) v hs.length (hs.flatMap hcl) hv (h.grown hg) ⟨w.heap.size, 0, none⟩ 1 1 (hcl y) hx rfl ?_ ?_ (by unfold maxLen; omega) (by omega) (by simp; omega) ?_
  · intro j u hu
    have hj := (List.getElem?_eq_some_iff.1 hu).1
    have hc := hcells w (.int .i64 (y.1 : Int)) (.int .u64 (y.2 : Int)) 36
    rw [Addr.add_lit, Nat.zero_add, ← hu]
    match j, hj with
    | 0, _ => exact hc.1
    | 1, _ => exact hc.2
  · intro u hu; rcases (by simpa [hcl] using hu : u = _ ∨ u = _) with rfl | rfl <;> rfl
  · intro v' w' hown hgr _
    refine K v' w' ?_ (gtrans (gwide hg) hgr)
    unfold HOwn
    simpa [List.flatMap_append] using hown

/-! ### a row of flags -/
def BOwn (base : Nat) (w : World) (v : Value) (fs : List Bool) : Prop := w.ownsRow base 4 1 v fs.length (fs.map Value.bool)
theorem BOwn.grown {base : Nat} {w w' : World} {v : Value} {fs : List Bool} (h : BOwn base w v fs) (g : w.grownBy w' none) : BOwn base w' v fs := own_far h g (t := 75) (fun k e => by simp at e) (by decide)
theorem BOwn.tab {base b : Nat} {w w' : World} {v : Value} {fs : List Bool} {L : List Sl} (h : BOwn base w v fs) (ht : TabAt b w L) (g : w.grownBy w' (some b)) : BOwn base w' v fs :=
  own_far h g (t := 75) (fun k e => by injection e with e; subst e; exact ht.tag) (by decide)
theorem BOwn.made {base m q : Nat} {w : World} (h : w.ownsRow base 4 1 (.slice (some ⟨q, 0, none⟩) m m) m (madeCells (Value.bool false).cells (m * 1)).toList) : BOwn base w (.slice (some ⟨q, 0, none⟩) m m) (List.replicate m false) := by
  unfold BOwn
  rw [Nat.mul_one, show (Value.bool false).cells = #[Value.bool false] from rfl, toList_madeCells_one] at h
  simpa using h
theorem BOwn.at {base g m c : Nat} {w : World} {fs : List Bool} (h : BOwn base w (.slice (some ⟨g, 0, none⟩) m c) fs) {k : Nat} {f : Bool} (hk : fs[k]? = some f) : w.cell? ⟨g, k, none⟩ = some (.bool f) := by
  have hc := World.ownsRow.cells h (g := g) rfl k (.bool f) (by rw [List.getElem?_map, hk]; rfl)
  rw [Addr.add_lit, Nat.zero_add] at hc
  exact hc

theorem BOwn.stored {base g m c : Nat} {w : World} {fs : List Bool} (h : BOwn base w (.slice (some ⟨g, 0, none⟩) m c) fs) (hm : fs.length = m) (k : Nat) (t : Bool) :
    BOwn base (w.setCell ⟨g, k, none⟩ (.bool t)) (.slice (some ⟨g, 0, none⟩) m c) (fs.set k t) ∧ w.grownBy (w.setCell ⟨g, k, none⟩ (.bool t)) (some g) ∧ base ≤ g := by
  subst hm
  obtain ⟨h1, h2⟩ := World.ownsRow.stored h k (.bool t)
  refine ⟨?_, h2, (own_tag h g rfl).1⟩
  unfold BOwn
  rw [List.length_set, List.map_set]
  exact h1
theorem BOwn.free {base g m c : Nat} {w : World} {fs : List Bool} (h : BOwn base w (.slice (some ⟨g, 0, none⟩) m c) fs) (hm : fs.length = m) (k : Nat) : w.frozen? ⟨g, k, none⟩ = false := by
  subst hm; exact World.ownsRow.frozenAt h k
theorem HOwn.flag {base g m c : Nat} {w w' : World} {v : Value} {hs : List (Nat × Nat)} {fs : List Bool} (h : HOwn base w v hs) (hb : BOwn base w (.slice (some ⟨g, 0, none⟩) m c) fs) (k : w.grownBy w' (some g)) : HOwn base w' v hs :=
  own_far h k (t := 4) (fun q e => by injection e with e; subst e; exact (own_tag hb g rfl).2.2) (by decide)
theorem TabAt.flag {base g b m c : Nat} {w w' : World} {L : List Sl} {fs : List Bool} (ht : TabAt b w L) (hb : BOwn base w (.slice (some ⟨g, 0, none⟩) m c) fs) (k : w.grownBy w' (some g)) : TabAt b w' L :=
  ht.far k fun e => by injection e with e; subst e; exact absurd ((own_tag hb b rfl).2.2.uniq ht.tag) (by decide)

/-! ### a table whose first slots are taken -/
def freshL (f : Nat → Nat) (k n : Nat) : List Sl := (List.range n).map fun i => if i < k then ⟨1, 1, f i⟩ else slz
theorem freshL_zero (f : Nat → Nat) (n : Nat) : freshL f 0 n = List.replicate n slz := by
  apply List.ext_getElem?
  intro i
  unfold freshL
  rw [List.getElem?_map, List.getElem?_replicate]
  by_cases h : i < n
  · rw [List.getElem?_range h]; simp [h]
  · rw [List.getElem?_eq_none (by simpa using Nat.le_of_not_lt h)]; simp [h]
theorem freshL_len (f : Nat → Nat) (k n : Nat) : (freshL f k n).length = n := by simp [freshL]
theorem freshL_at (f : Nat → Nat) (k n : Nat) {i : Nat} (h : i < n) : (freshL f k n)[i]? = some (if i < k then ⟨1, 1, f i⟩ else slz) := by
  unfold freshL; rw [List.getElem?_map, List.getElem?_range h]; rfl
theorem freshL_set (f : Nat → Nat) (k n : Nat) (h : k < n) : (freshL f k n).set k ⟨1, 1, f k⟩ = freshL f (k + 1) n := by
  apply List.ext_getElem?
  intro i
  rw [List.getElem?_set, freshL_len]
  by_cases hi : i < n
  · rw [freshL_at f k n hi, freshL_at f (k + 1) n hi]
    by_cases e : k = i
    · subst e; simp [h]
    · simp only [if_neg e]
      by_cases h1 : i < k
      · simp [h1, show i < k + 1 by omega]
      · simp [h1, show ¬ i < k + 1 by omega]
  · rw [if_neg (by omega), List.getElem?_eq_none (by rw [freshL_len]; omega), List.getElem?_eq_none (by rw [freshL_len]; omega)]
theorem fresh_begin (w : World) (b k n : Nat) (f : Nat → Nat) (x : Nat) (y : Int) (hy : y = (x : Int)) (h : TabAt b w (freshL f k n)) (hk : k < n) (hx : f k = x) (hf : x < 18446744073709551616) :
    Calls Try.prog 11 #[.pointer (some ⟨b, 0, none⟩), .int .u64 y] w fun r w' => r = .returned (.tuple #[.agg #[.int .i64 (k : Int), .int .u64 1], .int .i64 0]) ∧ TabTo b w w' (freshL f (k + 1) n) := by
  subst hy
  have hs := freshL_at f k n hk
  rw [if_neg (Nat.lt_irrefl k)] at hs
  have := begin_at w b (freshL f k n) x k slz h (fun j hj s hs => by
    rw [freshL_at f k n (by omega), if_pos hj] at hs
    cases hs; simp) hs rfl hf
  rw [show sbeg slz x = ⟨1, 1, f k⟩ by rw [hx]; rfl, freshL_set f k n hk] at this
  exact this
theorem fresh_full (w : World) (b n : Nat) (f : Nat → Nat) (x : Nat) (y : Int) (hy : y = (x : Int)) (h : TabAt b w (freshL f n n)) :
    Calls Try.prog 11 #[.pointer (some ⟨b, 0, none⟩), .int .u64 y] w fun r w' => r = .returned (.tuple #[.agg #[.int .i64 0, .int .u64 0], .int .i64 22]) ∧ w.grownBy w' none := by
  subst hy
  refine begin_full w b _ x h fun s hs => ?_
  obtain ⟨i, hi⟩ := List.mem_iff_getElem?.1 hs
  have hl := (List.getElem?_eq_some_iff.1 hi).1
  rw [freshL_len] at hl
  rw [freshL_at f n n hl, if_pos hl] at hi
  cases hi; simp
/-- The handles of the first k. -/
def hdls (k : Nat) : List (Nat × Nat) := (List.range k).map fun i => (i, 1)
theorem hdls_len (k : Nat) : (hdls k).length = k := by simp [hdls]
theorem hdls_at {k i : Nat} (h : i < k) : (hdls k)[i]? = some (i, 1) := by unfold hdls; rw [List.getElem?_map, List.getElem?_range h]; rfl
theorem hdls_more (k : Nat) : hdls k ++ [(k, 1)] = hdls (k + 1) := by simp [hdls, List.range_succ]
theorem hdls_zero : hdls 0 = [] := rfl

end Go.Proofs.Ytoaglkbobndmeaa

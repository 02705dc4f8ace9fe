/-
  Layer 8, the document's own: rows of numbers; with. Own work.
-/
import Derived.Test.YtoaglkbobndmeabSpcBA

namespace Go.Proofs.Ytoaglkbobndmeab
open Go.RowKit

abbrev encI (x : Nat) : Value := .int .i64 (x : Int)
abbrev encU (x : Nat) : Value := .int .u64 (x : Int)
/-- A row of one-cell numbers. -/
def NRow (t : TypeId) (e : Nat → Value) (base : Nat) (w : World) (v : Value) (xs : List Nat) : Prop := w.ownsRow base t 1 v xs.length (xs.map e)
abbrev IRow := NRow 3 encI
abbrev URow := NRow 24 encU
theorem own_base {w : World} {b b' size n : Nat} {e : TypeId} {v : Value} {xs : List Value} (h : w.ownsRow b e size v n xs) (k : b' ≤ b) : w.ownsRow b' e size v n xs :=
  ⟨h.1, h.2.imp id fun ⟨g, cap, cur, hv, hb, rest⟩ => ⟨g, cap, cur, hv, Nat.le_trans k hb, rest⟩⟩
section
variable {t : TypeId} {e : Nat → Value} {base : Nat} {w w' : World} {v : Value} {xs : List Nat}
theorem NRow.of {n : Nat} (h : w.ownsRow base t 1 v (0 + n) ([] ++ xs.map e)) (hn : n = xs.length) : NRow t e base w v xs := by
  subst hn
  rw [Nat.zero_add, List.nil_append] at h
  exact h
theorem NRow.grown (h : NRow t e base w v xs) (g : w.grownBy w' none) : NRow t e base w' v xs := World.ownsRow.kept h g (by cases v.ownBlock <;> simp)
theorem NRow.mono {base' : Nat} (h : NRow t e base w v xs) (k : base' ≤ base) : NRow t e base' w v xs := own_base h k
theorem NRow.shape (h : NRow t e base w v xs) : ∃ ao c, v = .slice ao xs.length c := own_shape h
theorem NRow.len {ao : Option Addr} {n c : Nat} (h : NRow t e base w (.slice ao n c) xs) : n = xs.length := by
  obtain ⟨a, c', k⟩ := h.shape
  injection k
theorem NRow.at {ao : Option Addr} {n c : Nat} (h : NRow t e base w (.slice ao n c) xs) {i x : Nat} (hi : xs[i]? = some x) : ∃ g, ao = some ⟨g, 0, none⟩ ∧ base ≤ g ∧ w.cell? ⟨g, i, none⟩ = some (e x) := by
  rcases h.2 with ⟨_, hn⟩ | ⟨g, cap, cur, hv, hb, hg, _⟩
  · rw [List.eq_nil_of_length_eq_zero hn] at hi; simp at hi
  · cases hv
    have hc := World.ownsRow.cells h (g := g) rfl i (e x) (by simp [hi])
    rw [Addr.add_lit, Nat.zero_add] at hc
    exact ⟨g, rfl, hb, hc⟩
theorem NRow.far {r : Option Nat} (h : NRow t e base w v xs) (g : w.grownBy w' r) (hr : v.ownBlock = none ∨ v.ownBlock ≠ r) : NRow t e base w' v xs := World.ownsRow.kept h g hr
theorem NRow.stored {g n c : Nat} (h : NRow t e base w (.slice (some ⟨g, 0, none⟩) n c) xs) (i x : Nat) : NRow t e base (w.setCell ⟨g, i, none⟩ (e x)) (.slice (some ⟨g, 0, none⟩) n c) (xs.set i x) := by
  have hn := h.len
  subst hn
  unfold NRow at h ⊢
  have h1 := (World.ownsRow.stored h i (e x)).1
  rw [List.length_set, List.map_set]
  exact h1
theorem NRow.free {g n c : Nat} (h : NRow t e base w (.slice (some ⟨g, 0, none⟩) n c) xs) (j : Nat) : w.frozen? ⟨g, j, none⟩ = false := by
  have k := h.len
  subst k
  exact World.ownsRow.frozenAt h j
theorem NRow.lt {g n c : Nat} (h : NRow t e base w (.slice (some ⟨g, 0, none⟩) n c) xs) : base ≤ g ∧ g < w.heap.size := World.ownsRow.lt h g rfl
theorem NRow.cells {g n c : Nat} (h : NRow t e base w (.slice (some ⟨g, 0, none⟩) n c) xs) : ∀ j u, (xs.map e)[j]? = some u → w.cell? ((⟨g, 0, none⟩ : Addr).add j) = some u := by
  have k := h.len
  subst k
  exact World.ownsRow.cells h (g := g) rfl
end
theorem onecell (e : Nat → Value) (h : ∀ x, (e x).oneCell' = true) {xs : List Nat} : ∀ u ∈ xs.map e, u.oneCell' = true := by
  intro u hu
  obtain ⟨x, _, rfl⟩ := List.mem_map.1 hu
  exact h x
theorem infoU64 : (Try.prog.info? 24).map (fun i => (i.zero, i.size, i.bytes)) = some (some (.int .u64 0), 1, 8) := by kernel_rfl
theorem set_at {W : World} {q i : Nat} {cs : Array Value} {t : TypeId} (u : Value) (h : W.heap[q]? = some (.cells cs t (0, 0))) : (W.setCell ⟨q, i, none⟩ u).heap[q]? = some (.cells (cs.setIfInBounds i u) t (0, 0)) := heap_setCell_same _ q i _ t u h
theorem set_far {W : World} {q p i : Nat} {o : Obj} (u : Value) (h : W.heap[q]? = some o) (hne : q ≠ p) : (W.setCell ⟨p, i, none⟩ u).heap[q]? = some o :=
  ((gset W ⟨p, i, none⟩ u).block q (lt_of_block h) (by intro e; injection e with e; exact hne e)).trans h
theorem cells3 {W : World} {q : Nat} {a b c : Value} {t : TypeId} (h : W.heap[q]? = some (.cells #[a, b, c] t (0, 0))) :
    W.cell? ⟨q, 0, none⟩ = some a ∧ W.cell? ⟨q, 1, none⟩ = some b ∧ W.cell? ⟨q, 2, none⟩ = some c ∧ W.frozen? ⟨q, 0, none⟩ = false ∧ W.frozen? ⟨q, 1, none⟩ = false ∧ W.frozen? ⟨q, 2, none⟩ = false := by
  refine ⟨?_, ?_, ?_, ?_, ?_, ?_⟩ <;> simp [World.cell?, World.frozen?, h]
theorem store3 {W : World} {q : Nat} {x0 x1 x2 : Value} {t : TypeId} (h : W.heap[q]? = some (.cells #[x0, x1, x2] t (0, 0))) (a b c : Value) :
    (((W.setCell ⟨q, 0, none⟩ a).setCell ⟨q, 1, none⟩ b).setCell ⟨q, 2, none⟩ c).heap[q]? = some (.cells #[a, b, c] t (0, 0)) := by
  simp [World.setCell, Array.getElem?_modify, h]
theorem gset3 (W : World) (q : Nat) (a b c : Value) : W.grownBy (((W.setCell ⟨q, 0, none⟩ a).setCell ⟨q, 1, none⟩ b).setCell ⟨q, 2, none⟩ c) (some q) := gtrans (gtrans (gset W ⟨q, 0, none⟩ a) (gset _ ⟨q, 1, none⟩ b)) (gset _ ⟨q, 2, none⟩ c)
theorem set3_0 {W : World} {q : Nat} {a b c : Value} {t : TypeId} (u : Value) (h : W.heap[q]? = some (.cells #[a, b, c] t (0, 0))) : (W.setCell ⟨q, 0, none⟩ u).heap[q]? = some (.cells #[u, b, c] t (0, 0)) := set_at u h
theorem set3_1 {W : World} {q : Nat} {a b c : Value} {t : TypeId} (u : Value) (h : W.heap[q]? = some (.cells #[a, b, c] t (0, 0))) : (W.setCell ⟨q, 1, none⟩ u).heap[q]? = some (.cells #[a, u, c] t (0, 0)) := set_at u h
theorem results_S8 {fn : Func} {p : Tmp} (h : fn.results = #[.cell p 40]) (tmps : Array Value) (W : World) (q : Nat) (cs : Array Value) (hp : tmps.getD p undef = .pointer (some ⟨q, 0, none⟩))
    (hq : W.heap[q]? = some (.cells cs 40 (0, 0))) (hs : cs.size = 3) : (results fn tmps).run Try.prog W = .ok (.agg cs) W :=
  results_cell_row h tmps W q 40 cs (0, 0) _ hp hq Try.underlying40 rfl (by rw [hs]; kernel_rfl)

/-- What the document's space is, in memory. -/
structure SM where
  wh : List Nat
  tx : List Nat
  lim : Nat
def SAt (base : Nat) (w : World) (v : Value) (s : SM) : Prop := ∃ wv tv, v = .agg #[wv, tv, .int .i64 (s.lim : Int)] ∧ IRow base w wv s.wh ∧ URow base w tv s.tx
def RWith (w : World) (tv : Value) (lim : Int) (xs : List Nat) (r : Ending) (w' : World) : Prop := ∃ v, r = .returned (.agg #[v, tv, .int .i64 lim]) ∧ IRow w.heap.size w' v xs ∧ w.grownBy w' none

set_option maxHeartbeats 4000000 in
set_option maxRecDepth 100000 in
theorem with_any (w : World) (B : Nat) (ao : Option Addr) (n c : Nat) (ta : Option Addr) (tn tc : Nat) (lim : Int) (xs : List Nat) (p : Nat) (x : Int) (X : Nat) (hx : x = (X : Int)) (h : IRow B w (.slice ao n c) xs) (hp : p < xs.length) (hl : xs.length ≤ 100000) :
    Calls Try.prog 28 #[.agg #[.slice ao n c, .slice ta tn tc, .int .i64 lim], .int .i64 (p : Int), .int .i64 x] w fun r w' => RWith w (.slice ta tn tc) lim (xs.set p X) r w' := by
  subst hx
  obtain ⟨y, hy⟩ : ∃ y, xs[p]? = some y := ⟨xs[p], List.getElem?_eq_getElem hp⟩
  obtain ⟨g, rfl, hBg, -⟩ := h.at hy
  have hn := h.len
  obtain ⟨i0, hi0, hz0, hz1, hz2⟩ := info_parts infoInt
  obtain ⟨l, hll⟩ : ∃ l, l = xs.length := ⟨_, rfl⟩
  rw [← hll] at hn hl hp
  subst hn
  have hpi : (p : Int) < (n : Int) := by omega
  have hgr := two_grown w (.cells #[.slice (some ⟨g, 0, none⟩) n c, .slice ta tn tc, .int .i64 lim] 40) (.cells #[.slice none 0 0, .slice none 0 0, .int .i64 0] 40)
  have HB0 := Lib.hid (two_lit0 w (.cells #[.slice (some ⟨g, 0, none⟩) n c, .slice ta tn tc, .int .i64 lim] 40) (.cells #[.slice none 0 0, .slice none 0 0, .int .i64 0] 40))
  have HB1 := Lib.hid (two_lit1 w (.cells #[.slice (some ⟨g, 0, none⟩) n c, .slice ta tn tc, .int .i64 lim] 40) (.cells #[.slice none 0 0, .slice none 0 0, .int .i64 0] 40))
  have HY := Lib.hid hy
  have HC := Lib.hid (NRow.cells (h.grown hgr))
  have HL := Lib.hid hll
  have HG := Lib.hid hgr
  clear h hy hll hgr
  obtain ⟨k0, k1, k2, -⟩ := cells3 HB0.out
  go_enter Try.func28, Try.ntmps28
  go_upto_region 3 with (first
    | (at_builtin; refine wpList_append_own _ rfl _ _ 37 rfl (w.heap.size + 2) 3 i0 (.int .i64 0) 1 8 Try.underlying37 hi0 hz0 hz1 hz2 rfl (by decide) (.slice none 0 0) 0 [] rfl (World.ownsRow_nil _ (w.heap.size + 2) _ _) ⟨g, 0, none⟩ n c (xs.map encI) rfl ?c0 HC.out (onecell encI (fun _ => rfl)) ?c3 ?c4 ?c5 ?_; (case c0 => rw [List.length_map, Nat.mul_one]; exact HL.out.symm); (case c3 => unfold maxLen; omega); (case c4 => omega); (case c5 => simp); intro v1 w1 hown hg1 _; have HO1 := Lib.hid (NRow.of (e := encI) hown HL.out); have HG1 := Lib.hid (gtrans HG.out hg1); have HQ0 := Lib.hid ((hg1.block _ (lt_of_block HB0.out) (by simp [Value.ownBlock])).trans HB0.out); have HQ1 := Lib.hid ((hg1.block _ (lt_of_block HB1.out) (by simp [Value.ownBlock])).trans HB1.out); clear hown hg1)
    | go_in)
  obtain ⟨a1, c1, hv1⟩ := HO1.out.shape
  rw [← HL.out] at hv1
  subst hv1
  obtain ⟨g1, hv2, hb1, e1⟩ := HO1.out.at HY.out
  subst hv2
  have z1 := HO1.out.free p
  go_upto_region 4 with fail
  have HO2 := Lib.hid (HO1.out.stored p X)
  have HP0 := Lib.hid (set_far (p := g1) (i := p) (encI X) HQ0.out (by omega))
  have HP1 := Lib.hid (set_far (p := g1) (i := p) (encI X) HQ1.out (by omega))
  have HG2 := Lib.hid (gnew HG1.out (gset w1 ⟨g1, p, none⟩ (encI X)) (by show w.heap.size ≤ g1; omega))
  clear e1 z1 HO1 HQ0 HQ1 HG1
  generalize w1.setCell ⟨g1, p, none⟩ (encI X) = W1 at HO2 HP0 HP1 HG2 ⊢
  obtain ⟨d0, -, -, f0, -, -⟩ := cells3 HP0.out
  go_upto_region 5 with fail
  have HR0 := Lib.hid (set3_0 (.slice (some ⟨g1, 0, none⟩) n c1) HP0.out)
  have HR1 := Lib.hid (set_far (p := w.heap.size) (i := 0) (.slice (some ⟨g1, 0, none⟩) n c1) HP1.out (by omega))
  have HO3 := Lib.hid (HO2.out.far (gset W1 ⟨w.heap.size, 0, none⟩ (.slice (some ⟨g1, 0, none⟩) n c1)) (.inr (by simp [Value.ownBlock]; omega)))
  have HG3 := Lib.hid (gnew HG2.out (gset W1 ⟨w.heap.size, 0, none⟩ (.slice (some ⟨g1, 0, none⟩) n c1)) (Nat.le_refl _))
  clear f0 d0 HO2 HP0 HP1 HG2
  generalize W1.setCell ⟨w.heap.size, 0, none⟩ (.slice (some ⟨g1, 0, none⟩) n c1) = W2 at HO3 HR0 HR1 HG3 ⊢
  obtain ⟨k0, k1, k2, -⟩ := cells3 HR0.out
  obtain ⟨d0, d1, d2, f0, f1, f2⟩ := cells3 HR1.out
  go_wp2
  have hs := gset3 W2 (w.heap.size + 1) (.slice (some ⟨g1, 0, none⟩) n c1) (.slice ta tn tc) (.int .i64 lim)
  refine bodyPost_ret (results_S8 rfl _ _ (w.heap.size + 1) _ rfl (store3 HR1.out _ _ _) rfl) rfl ?_
  exact ⟨_, rfl, (HO3.out.far hs (.inr (by simp [Value.ownBlock]; omega))).mono (by omega), gnew HG3.out hs (by omega)⟩

end Go.Proofs.Ytoaglkbobndmeab

namespace Go.Proofs.Ytoaglkbobndmeab
open Go.RowKit

theorem cells1 {W : World} {q : Nat} {a : Value} {t : TypeId} (h : W.heap[q]? = some (.cells #[a] t (0, 0))) : W.cell? ⟨q, 0, none⟩ = some a := by simp [World.cell?, h]
theorem one_cell (w : World) (a : Value) (t : TypeId) : (w.alloc (.cells #[a] t)).cell? ⟨w.heap.size, 0, none⟩ = some a := cells1 (heap_alloc_new w _)
theorem NRow.off {t : TypeId} {e : Nat → Value} {base q : Nat} {w : World} {v : Value} {xs : List Nat} (h : NRow t e base w v xs) (hq : q < base) : v.ownBlock = none ∨ v.ownBlock ≠ some q := by
  cases hv : v.ownBlock with
  | none => exact .inl rfl
  | some k => exact .inr fun e => by injection e with e; subst e; have := (World.ownsRow.lt h _ hv).1; omega
theorem NRow.off' {t : TypeId} {e : Nat → Value} {base : Nat} {w : World} {v : Value} {xs : List Nat} (h : NRow t e base w v xs) : ∀ q, w.heap.size ≤ q → v.ownBlock = none ∨ v.ownBlock ≠ some q := by
  intro q hq
  cases hv : v.ownBlock with
  | none => exact .inl rfl
  | some k => exact .inr fun e => by injection e with e; subst e; have := (World.ownsRow.lt h _ hv).2; omega
theorem infoU32 : (Try.prog.info? 22).map (fun i => (i.zero, i.size, i.bytes)) = some (some (.int .u32 0), 1, 4) := by kernel_rfl

theorem wpList_pushI (w : World) {ops : Array Oper} {rest : List Oper} {o : Oper} {a : Act} {Q : Exit → Act → World → Prop} (hgd : o.guard = none) (s x : Operand)
    (ho : o.op = .call { callee := .builtin .append, args := #[s, x], argTypes := #[37, 37] })
    (base : Nat) (v : Value) (xs : List Nat) (y : Nat) (q1 : Int) (q : Nat) (hv : a.eval s = v) (hx : a.eval x = .slice (some ⟨q, 0, none⟩) 1 1) (hq : w.heap.size = q) (hq1 : q1 = (y : Int))
    (h : NRow 3 encI base w v xs) (hm : xs.length ≤ 100000) (hbase : base ≤ w.heap.size)
    (K : ∀ v' w', NRow 3 encI base w' v' (xs ++ [y]) → w.grownBy w' v.ownBlock → wpList Try.prog ops Q rest (a.put o.dst v') w') :
    wpList Try.prog ops Q (o :: rest) a (w.alloc (.cells #[.int .i64 q1] 3)) := by
  subst hq1 hq
  obtain ⟨i0, hi, hz0, hz1, hz2⟩ := info_parts infoInt
  have hg := World.grownBy_alloc w (.cells #[.int .i64 (y : Int)] 3) none
  refine wpList_append_own _ hgd s x 37 ho base 3 i0 (.int .i64 0) 1 8 Try.underlying37 hi hz0 hz1 hz2 rfl (by decide) v xs.length (xs.map encI) hv (h.grown hg) ⟨w.heap.size, 0, none⟩ 1 1 [.int .i64 (y : Int)] hx rfl ?_ ?_ (by unfold maxLen; omega) (by omega) (by simp; omega) ?_
  · intro j u hu
    have hj := (List.getElem?_eq_some_iff.1 hu).1
    rw [Addr.add_lit, Nat.zero_add, ← hu]
    match j, hj with
    | 0, _ => exact one_cell _ _ _
  · intro u hu; rcases (by simpa using hu : u = _) with rfl; rfl
  · intro v' w' hown hgr _
    refine K v' w' ?_ (gtrans (gwide hg) hgr)
    unfold NRow
    simpa using hown

theorem wpList_pushU (w : World) {ops : Array Oper} {rest : List Oper} {o : Oper} {a : Act} {Q : Exit → Act → World → Prop} (hgd : o.guard = none) (s x : Operand)
    (ho : o.op = .call { callee := .builtin .append, args := #[s, x], argTypes := #[38, 38] })
    (base : Nat) (v : Value) (xs : List Nat) (y : Nat) (q1 : Int) (q : Nat) (hv : a.eval s = v) (hx : a.eval x = .slice (some ⟨q, 0, none⟩) 1 1) (hq : w.heap.size = q) (hq1 : q1 = (y : Int))
    (h : NRow 24 encU base w v xs) (hm : xs.length ≤ 100000) (hbase : base ≤ w.heap.size)
    (K : ∀ v' w', NRow 24 encU base w' v' (xs ++ [y]) → w.grownBy w' v.ownBlock → wpList Try.prog ops Q rest (a.put o.dst v') w') :
    wpList Try.prog ops Q (o :: rest) a (w.alloc (.cells #[.int .u64 q1] 24)) := by
  subst hq1 hq
  obtain ⟨i0, hi, hz0, hz1, hz2⟩ := info_parts infoU64
  have hg := World.grownBy_alloc w (.cells #[.int .u64 (y : Int)] 24) none
  refine wpList_append_own _ hgd s x 38 ho base 24 i0 (.int .u64 0) 1 8 Try.underlying38 hi hz0 hz1 hz2 rfl (by decide) v xs.length (xs.map encU) hv (h.grown hg) ⟨w.heap.size, 0, none⟩ 1 1 [.int .u64 (y : Int)] hx rfl ?_ ?_ (by unfold maxLen; omega) (by omega) (by simp; omega) ?_
  · intro j u hu
    have hj := (List.getElem?_eq_some_iff.1 hu).1
    rw [Addr.add_lit, Nat.zero_add, ← hu]
    match j, hj with
    | 0, _ => exact one_cell _ _ _
  · intro u hu; rcases (by simpa using hu : u = _) with rfl; rfl
  · intro v' w' hown hgr _
    refine K v' w' ?_ (gtrans (gwide hg) hgr)
    unfold NRow
    simpa using hown

theorem wpList_pushP (w : World) {ops : Array Oper} {rest : List Oper} {o : Oper} {a : Act} {Q : Exit → Act → World → Prop} (hgd : o.guard = none) (s x : Operand)
    (ho : o.op = .call { callee := .builtin .append, args := #[s, x], argTypes := #[45, 45] })
    (base : Nat) (v : Value) (xs : List Nat) (y : Nat) (q1 : Int) (q : Nat) (hv : a.eval s = v) (hx : a.eval x = .slice (some ⟨q, 0, none⟩) 1 1) (hq : w.heap.size = q) (hq1 : q1 = (y : Int))
    (h : NRow 22 encP base w v xs) (hm : xs.length ≤ 100000) (hbase : base ≤ w.heap.size)
    (K : ∀ v' w', NRow 22 encP base w' v' (xs ++ [y]) → w.grownBy w' v.ownBlock → wpList Try.prog ops Q rest (a.put o.dst v') w') :
    wpList Try.prog ops Q (o :: rest) a (w.alloc (.cells #[.int .u32 q1] 22)) := by
  subst hq1 hq
  obtain ⟨i0, hi, hz0, hz1, hz2⟩ := info_parts infoU32
  have hg := World.grownBy_alloc w (.cells #[.int .u32 (y : Int)] 22) none
  refine wpList_append_own _ hgd s x 45 ho base 22 i0 (.int .u32 0) 1 4 Try.underlying45 hi hz0 hz1 hz2 rfl (by decide) v xs.length (xs.map encP) hv (h.grown hg) ⟨w.heap.size, 0, none⟩ 1 1 [.int .u32 (y : Int)] hx rfl ?_ ?_ (by unfold maxLen; omega) (by omega) (by simp; omega) ?_
  · intro j u hu
    have hj := (List.getElem?_eq_some_iff.1 hu).1
    rw [Addr.add_lit, Nat.zero_add, ← hu]
    match j, hj with
    | 0, _ => exact one_cell _ _ _
  · intro u hu; rcases (by simpa using hu : u = _) with rfl; rfl
  · intro v' w' hown hgr _
    refine K v' w' ?_ (gtrans (gwide hg) hgr)
    unfold NRow
    simpa using hown

theorem results_S8t {fn : Func} {p u x : Tmp} (h : fn.results = #[.cell p 40, .tmp u, .tmp x]) (tmps : Array Value) (W : World) (q : Nat) (cs : Array Value) (e1 e2 : Value) (hp : tmps.getD p undef = .pointer (some ⟨q, 0, none⟩)) (h1 : tmps.getD u undef = e1) (h2 : tmps.getD x undef = e2)
    (hq : W.heap[q]? = some (.cells cs 40 (0, 0))) (hs : cs.size = 3) : (results fn tmps).run Try.prog W = .ok (.tuple #[.agg cs, e1, e2]) W := by
  have hld := run_loadVar_row (P := Try.prog) W q 40 40 cs (0, 0) _ hq Try.underlying40 rfl (by rw [hs]; kernel_rfl)
  have hp' : tmps[p]?.getD undef = .pointer (some ⟨q, 0, none⟩) := by simpa using hp
  have h1' : tmps[u]?.getD undef = e1 := by simpa using h1
  have h2' : tmps[x]?.getD undef = e2 := by simpa using h2
  simp [results, h, hp', h1', h2', asAddr, hld]
theorem results_S8d {fn : Func} {p u : Tmp} (h : fn.results = #[.cell p 40, .tmp u]) (tmps : Array Value) (W : World) (q : Nat) (cs : Array Value) (e1 : Value) (hp : tmps.getD p undef = .pointer (some ⟨q, 0, none⟩)) (h1 : tmps.getD u undef = e1)
    (hq : W.heap[q]? = some (.cells cs 40 (0, 0))) (hs : cs.size = 3) : (results fn tmps).run Try.prog W = .ok (.tuple #[.agg cs, e1]) W := by
  have hld := run_loadVar_row (P := Try.prog) W q 40 40 cs (0, 0) _ hq Try.underlying40 rfl (by rw [hs]; kernel_rfl)
  have hp' : tmps[p]?.getD undef = .pointer (some ⟨q, 0, none⟩) := by simpa using hp
  have h1' : tmps[u]?.getD undef = e1 := by simpa using h1
  simp [results, h, hp', h1', asAddr, hld]

theorem NRow.grew {t : TypeId} {e : Nat → Value} {base : Nat} {w1 w2 : World} {v : Value} {xs : List Nat} {W : World} (h1 : W.grownBy w1 none) (h : NRow t e base w1 v xs) (hb : W.heap.size ≤ base) (g : w1.grownBy w2 v.ownBlock) : W.grownBy w2 none := by
  cases hv : v.ownBlock with
  | none => rw [hv] at g; exact gtrans h1 g
  | some k => rw [hv] at g; exact gnew h1 g (Nat.le_trans hb (World.ownsRow.lt h _ hv).1)
theorem NRow.apart {t t2 : TypeId} {e e2 : Nat → Value} {base b2 : Nat} {w w' : World} {v v2 : Value} {xs ys : List Nat} (h : NRow t e base w v xs) (h2 : NRow t2 e2 b2 w v2 ys) (hne : t ≠ t2) (g : w.grownBy w' v2.ownBlock) : NRow t e base w' v xs := own_apart h h2 hne g
theorem NRow.not {t : TypeId} {e : Nat → Value} {base q : Nat} {w : World} {v : Value} {xs : List Nat} (h : NRow t e base w v xs) (hq : q < base) : some q ≠ v.ownBlock := fun k => by
  have := (World.ownsRow.lt h _ k.symm).1
  omega
/-- What the document's Take leaves. -/
def RTake (B : Nat) (w : World) (lim : Nat) (wh tx : List Nat) (p : Nat) (e : Int) (r : Ending) (w' : World) : Prop :=
  ∃ wv tv, r = .returned (.tuple #[.agg #[wv, tv, .int .i64 (lim : Int)], .int .i64 (p : Int), .int .i64 e]) ∧ IRow B w' wv wh ∧ URow B w' tv tx ∧ w.grownBy w' none
abbrev bx (wa : Option Addr) (n wc : Nat) (ta : Option Addr) (tn tc : Nat) (lim : Int) : Array Value := #[.slice wa n wc, .slice ta tn tc, .int .i64 lim]

set_option maxRecDepth 100000 in
set_option maxHeartbeats 4000000 in
theorem rtake_hit (w : World) (B : Nat) (wa ta : Option Addr) (wc tc lim p : Nat) (wh tx : List Nat) (hB : B ≤ w.heap.size) (h : IRow B w (.slice wa wh.length wc) wh) (ht : URow B w (.slice ta tx.length tc) tx) (hl : wh.length ≤ 100000)
    (hp : wh[p]? = some 1) (hlow : ∀ j, j < p → wh[j]? ≠ some 1) :
    Calls Try.prog 13 #[.agg #[.slice wa wh.length wc, .slice ta tx.length tc, .int .i64 (lim : Int)]] w fun r w' => RTake B w lim (wh.set p 3) tx p 0 r w' := by
  have hg := two_grown w (.cells (bx wa wh.length wc ta tx.length tc lim) 40) (.cells (bx none 0 0 none 0 0 0) 40)
  have HB0 := Lib.hid (two_lit0 w (.cells (bx wa wh.length wc ta tx.length tc lim) 40) (.cells (bx none 0 0 none 0 0 0) 40))
  have HB1 := Lib.hid (two_lit1 w (.cells (bx wa wh.length wc ta tx.length tc lim) 40) (.cells (bx none 0 0 none 0 0 0) 40))
  have HTO := Lib.hid ht.off'
  have H := Lib.hid (h.grown hg)
  have HT := Lib.hid (ht.grown hg)
  have HG := Lib.hid hg
  have HL := Lib.hid hlow
  have HP := Lib.hid hp
  have hpl : p < wh.length := (List.getElem?_eq_some_iff.1 hp).1
  have HPL := Lib.hid hpl
  clear h ht hg hlow hp
  go_enter Try.func13, Try.ntmps13
  go_upto_block 0 with fail
  generalize (w.alloc (.cells (bx wa wh.length wc ta tx.length tc lim) 40)).alloc (.cells (bx none 0 0 none 0 0 0) 40) = W at HB0 HB1 H HT HG ⊢
  obtain ⟨n, hn⟩ : ∃ n, n = wh.length := ⟨_, rfl⟩
  obtain ⟨m, hm⟩ : ∃ m, m = tx.length := ⟨_, rfl⟩
  rw [← hn, ← hm] at HB0
  rw [← hn] at H
  rw [← hm] at HT HTO
  rw [← hn] at hl hpl
  simp only [← hn, ← hm]
  have HN := Lib.hid hn
  have HM := Lib.hid hm
  clear hn hm
  obtain ⟨k0, k1, k2, -⟩ := cells3 HB0.out
  go_wp2
  go_loopw [5] (fun i wr => ∃ k : Nat, k ≤ p ∧ i = .int .i64 (k : Int) ∧ W = wr) (fun i _ => p - (intOf i).toNat)
  case atStart => exact ⟨0, Nat.zero_le _, rfl, rfl⟩
  case round =>
    obtain ⟨k, hk, rfl, rfl⟩ := hrel
    have hki : (k : Int) < (n : Int) := by omega
    by_cases hkp : k = p
    · subst hkp
      obtain ⟨g, rfl, -, e0⟩ := H.out.at HP.out
      go_wp2_with (first
        | (go_at_call 28; have K := with_any W B _ n wc ta m tc (lim : Int) wh k 3 3 rfl H.out HPL.out (by rw [← HN.out]; exact hl); (with_reducible refine K.mono ?_); clear K; rintro r w5 ⟨v5, rfl, ho5, hg5⟩; obtain ⟨a5, c5, hv5⟩ := ho5.shape; rw [List.length_set, ← HN.out] at hv5; subst hv5; have HO5 := Lib.hid ho5; have HG5 := Lib.hid hg5; have HQ1 := Lib.hid ((hg5.block _ (lt_of_block HB1.out) (by simp)).trans HB1.out); obtain ⟨d0, d1, d2, f0, f1, f2⟩ := cells3 HQ1.out; clear ho5 hg5)
        | go_in)
      have hs := gset3 w5 (w.heap.size + 1) (.slice a5 n c5) (.slice ta m tc) (.int .i64 (lim : Int))
      refine bodyPost_ret (results_S8t rfl _ _ (w.heap.size + 1) _ _ _ rfl rfl rfl (store3 HQ1.out _ _ _) rfl) rfl ?_
      have h1 := lt_of_block HB1.out
      exact ⟨_, _, rfl, (HO5.out.far hs (HO5.out.off h1)).mono (by have := HG.out.size; omega), (HT.out.grown HG5.out).far hs (HTO.out (w.heap.size + 1) (by omega)), gnew (gtrans HG.out HG5.out) hs (by omega)⟩
    · have hkl : k < wh.length := by rw [← HN.out]; omega
      obtain ⟨x, hx⟩ : ∃ x, wh[k]? = some x := ⟨wh[k], List.getElem?_eq_getElem hkl⟩
      have hx1 : ¬ (x : Int) = 1 := fun e => HL.out k (by omega) (by rw [hx, show x = 1 by omega])
      obtain ⟨g, rfl, -, e0⟩ := H.out.at hx
      clear hx hkl
      go_wp2
      go_roundw
      case rel => exact ⟨k + 1, by omega, by go_num, trivial⟩
      case measure => simp [intOf]; omega

set_option maxRecDepth 100000 in
set_option maxHeartbeats 4000000 in
theorem rtake_full (w : World) (B : Nat) (wa ta : Option Addr) (wc tc lim : Nat) (wh tx : List Nat) (hB : B ≤ w.heap.size) (h : IRow B w (.slice wa wh.length wc) wh) (ht : URow B w (.slice ta tx.length tc) tx) (hl : wh.length ≤ 100000)
    (hlow : ∀ x ∈ wh, x ≠ 1) (hlim : lim ≤ wh.length) :
    Calls Try.prog 13 #[.agg #[.slice wa wh.length wc, .slice ta tx.length tc, .int .i64 (lim : Int)]] w fun r w' => RTake B w lim wh tx 0 21 r w' := by
  have hg := two_grown w (.cells (bx wa wh.length wc ta tx.length tc lim) 40) (.cells (bx none 0 0 none 0 0 0) 40)
  have HB0 := Lib.hid (two_lit0 w (.cells (bx wa wh.length wc ta tx.length tc lim) 40) (.cells (bx none 0 0 none 0 0 0) 40))
  have HB1 := Lib.hid (two_lit1 w (.cells (bx wa wh.length wc ta tx.length tc lim) 40) (.cells (bx none 0 0 none 0 0 0) 40))
  have HTO := Lib.hid ht.off'
  have HWO := Lib.hid h.off'
  have H := Lib.hid (h.grown hg)
  have HT := Lib.hid (ht.grown hg)
  have HG := Lib.hid hg
  have HL := Lib.hid hlow
  clear h ht hg hlow
  go_enter Try.func13, Try.ntmps13
  go_upto_block 0 with fail
  generalize (w.alloc (.cells (bx wa wh.length wc ta tx.length tc lim) 40)).alloc (.cells (bx none 0 0 none 0 0 0) 40) = W at HB0 HB1 H HT HG ⊢
  obtain ⟨n, hn⟩ : ∃ n, n = wh.length := ⟨_, rfl⟩
  obtain ⟨m, hm⟩ : ∃ m, m = tx.length := ⟨_, rfl⟩
  rw [← hn, ← hm] at HB0
  rw [← hn] at H HWO
  rw [← hm] at HT HTO
  rw [← hn] at hl hlim
  simp only [← hn, ← hm]
  have HN := Lib.hid hn
  have HM := Lib.hid hm
  clear hn hm
  obtain ⟨k0, k1, k2, -⟩ := cells3 HB0.out
  have hli : (lim : Int) ≤ (n : Int) := by omega
  go_wp2
  go_loopw [5] (fun i wr => ∃ k : Nat, k ≤ n ∧ i = .int .i64 (k : Int) ∧ W = wr) (fun i _ => n - (intOf i).toNat)
  case atStart => exact ⟨0, Nat.zero_le _, rfl, rfl⟩
  case round =>
    obtain ⟨k, hk, rfl, rfl⟩ := hrel
    by_cases hkn : k < n
    · have hki : (k : Int) < (n : Int) := by omega
      have hkl : k < wh.length := by rw [← HN.out]; omega
      obtain ⟨x, hx⟩ : ∃ x, wh[k]? = some x := ⟨wh[k], List.getElem?_eq_getElem hkl⟩
      have hx1 : ¬ (x : Int) = 1 := fun e => HL.out x (List.mem_of_getElem? hx) (by omega)
      obtain ⟨g, rfl, -, e0⟩ := H.out.at hx
      clear hx hkl
      go_wp2
      go_roundw
      case rel => exact ⟨k + 1, by omega, by go_num, trivial⟩
      case measure => simp [intOf]; omega
    · have hki : ¬ (k : Int) < (n : Int) := by omega
      obtain ⟨d0, d1, d2, f0, f1, f2⟩ := cells3 HB1.out
      go_wp2
      have hs := gset3 W (w.heap.size + 1) (.slice wa n wc) (.slice ta m tc) (.int .i64 (lim : Int))
      refine bodyPost_ret (results_S8t rfl _ _ (w.heap.size + 1) _ _ _ rfl rfl rfl (store3 HB1.out _ _ _) rfl) rfl ?_
      exact ⟨_, _, rfl, H.out.far hs (HWO.out (w.heap.size + 1) (by omega)), HT.out.far hs (HTO.out (w.heap.size + 1) (by omega)), gnew HG.out hs (by omega)⟩

set_option maxRecDepth 100000 in
set_option maxHeartbeats 4000000 in
theorem rtake_more (w : World) (B : Nat) (wa ta : Option Addr) (wc tc lim : Nat) (wh tx : List Nat) (hB : B ≤ w.heap.size) (h : IRow B w (.slice wa wh.length wc) wh) (ht : URow B w (.slice ta tx.length tc) tx) (hl : wh.length ≤ 100000)
    (hlow : ∀ x ∈ wh, x ≠ 1) (hlim : ¬ lim ≤ wh.length) (h0 : 0 < wh.length) (htl : tx.length = wh.length) :
    Calls Try.prog 13 #[.agg #[.slice wa wh.length wc, .slice ta tx.length tc, .int .i64 (lim : Int)]] w fun r w' => RTake B w lim (wh ++ [3]) (tx ++ [0]) wh.length 0 r w' := by
  have HTL0 := Lib.hid htl
  clear htl
  have hg := two_grown w (.cells (bx wa wh.length wc ta tx.length tc lim) 40) (.cells (bx none 0 0 none 0 0 0) 40)
  have HB0 := Lib.hid (two_lit0 w (.cells (bx wa wh.length wc ta tx.length tc lim) 40) (.cells (bx none 0 0 none 0 0 0) 40))
  have HB1 := Lib.hid (two_lit1 w (.cells (bx wa wh.length wc ta tx.length tc lim) 40) (.cells (bx none 0 0 none 0 0 0) 40))
  have HTO := Lib.hid ht.off'
  have HWO := Lib.hid h.off'
  have H := Lib.hid (h.grown hg)
  have HT := Lib.hid (ht.grown hg)
  have HG := Lib.hid hg
  have HL := Lib.hid hlow
  clear h ht hg hlow
  go_enter Try.func13, Try.ntmps13
  go_upto_block 0 with fail
  generalize (w.alloc (.cells (bx wa wh.length wc ta tx.length tc lim) 40)).alloc (.cells (bx none 0 0 none 0 0 0) 40) = W at HB0 HB1 H HT HG ⊢
  obtain ⟨n, hn⟩ : ∃ n, n = wh.length := ⟨_, rfl⟩
  obtain ⟨m, hm⟩ : ∃ m, m = tx.length := ⟨_, rfl⟩
  rw [← hn, ← hm] at HB0
  rw [← hn] at H HWO
  rw [← hm] at HT HTO
  rw [← hn] at hl hlim h0
  have HTL := Lib.hid (show m = n by rw [hm, hn]; exact HTL0.out)
  simp only [← hn, ← hm]
  have HN := Lib.hid hn
  have HM := Lib.hid hm
  clear hn hm
  obtain ⟨k0, k1, k2, -⟩ := cells3 HB0.out
  go_wp2
  go_loopw [5] (fun i wr => ∃ k : Nat, k ≤ n ∧ i = .int .i64 (k : Int) ∧ W = wr) (fun i _ => n - (intOf i).toNat)
  case atStart => exact ⟨0, Nat.zero_le _, rfl, rfl⟩
  case round =>
    obtain ⟨k, hk, rfl, rfl⟩ := hrel
    by_cases hkn : k < n
    · have hki : (k : Int) < (n : Int) := by omega
      have hkl : k < wh.length := by rw [← HN.out]; omega
      obtain ⟨x, hx⟩ : ∃ x, wh[k]? = some x := ⟨wh[k], List.getElem?_eq_getElem hkl⟩
      have hx1 : ¬ (x : Int) = 1 := fun e => HL.out x (List.mem_of_getElem? hx) (by omega)
      obtain ⟨g, rfl, -, e0⟩ := H.out.at hx
      clear hx hkl
      go_wp2
      go_roundw
      case rel => exact ⟨k + 1, by omega, by go_num, trivial⟩
      case measure => simp [intOf]; omega
    · have hki : ¬ (k : Int) < (n : Int) := by omega
      have hli : ¬ (lim : Int) ≤ (n : Int) := by omega
      obtain ⟨y, hy⟩ : ∃ y, wh[0]? = some y := ⟨wh[0]'(by rw [← HN.out]; omega), List.getElem?_eq_getElem _⟩
      obtain ⟨gw, rfl, -, -⟩ := H.out.at hy
      obtain ⟨z, hz⟩ : ∃ z, tx[0]? = some z := ⟨tx[0]'(by rw [← HM.out, HTL.out]; omega), List.getElem?_eq_getElem _⟩
      obtain ⟨gt, rfl, -, -⟩ := HT.out.at hz
      have HCW := Lib.hid (NRow.cells H.out)
      have q0 := lt_of_block HB0.out
      have q1 := lt_of_block HB1.out
      have HQ0 := Lib.hid HB0.out
      obtain ⟨i0, hi0, hz0, hz1, hz2⟩ := info_parts infoInt
      obtain ⟨u0, hu0, hy0, hy1, hy2⟩ := info_parts infoU64
      have hWs := Lib.hid (Nat.le_refl W.heap.size)
      have HN1 := Lib.hid (show (wh ++ [3]).length = n + 1 by have := HN.out; simp only [List.length_append, List.length_cons, List.length_nil]; omega)
      have HM1 := Lib.hid (show (tx ++ [0]).length = m + 1 by have := HM.out; simp only [List.length_append, List.length_cons, List.length_nil]; omega)
      clear hy hz
      go_upto_region 11 with (first
        | (at_builtin; refine wpList_append_own _ rfl _ _ 37 rfl W.heap.size 3 i0 (.int .i64 0) 1 8 Try.underlying37 hi0 hz0 hz1 hz2 rfl (by decide) (.slice none 0 0) 0 [] rfl (World.ownsRow_nil _ W.heap.size _ _) ⟨gw, 0, none⟩ n wc (wh.map encI) rfl ?c0 HCW.out (onecell encI (fun _ => rfl)) ?c3 ?c4 ?c5 ?_; (case c0 => rw [List.length_map, Nat.mul_one]; exact HN.out.symm); (case c3 => unfold maxLen; omega); (case c4 => omega); (case c5 => exact hWs.out); intro v1 w1 hown hg1 _; have HO1 := Lib.hid (NRow.of (e := encI) hown HN.out); have HGA := Lib.hid (show W.grownBy w1 none from hg1); have HCT := Lib.hid (NRow.cells (HT.out.grown HGA.out)); have hWs1 := Lib.hid HGA.out.size; obtain ⟨j0, j1, j2, -⟩ := cells3 ((HGA.out.block _ (lt_of_block HB0.out) (by simp)).trans HB0.out); clear hown hg1)
        | go_in)
      obtain ⟨a1, c1, hv1⟩ := HO1.out.shape
      rw [← HN.out] at hv1
      subst hv1
      go_upto_region 12 with (first
        | (at_builtin; refine wpList_append_own _ rfl _ _ 38 rfl W.heap.size 24 u0 (.int .u64 0) 1 8 Try.underlying38 hu0 hy0 hy1 hy2 rfl (by decide) (.slice none 0 0) 0 [] rfl (World.ownsRow_nil _ W.heap.size _ _) ⟨gt, 0, none⟩ m tc (tx.map encU) rfl ?c0 HCT.out (onecell encU (fun _ => rfl)) ?c3 ?c4 ?c5 ?_; (case c0 => rw [List.length_map, Nat.mul_one]; exact HM.out.symm); (case c3 => have := HTL.out; unfold maxLen; omega); (case c4 => have := HTL.out; omega); (case c5 => exact hWs1.out); intro v2 w2 hown hg2 _; have HO2 := Lib.hid (NRow.of (e := encU) hown HM.out); have HGB := Lib.hid (gtrans HGA.out (show w1.grownBy w2 none from hg2)); have HO1' := Lib.hid (HO1.out.grown (show w1.grownBy w2 none from hg2)); clear hown hg2)
        | go_in)
      obtain ⟨a2, c2, hv2⟩ := HO2.out.shape
      rw [← HM.out] at hv2
      subst hv2
      have HB0' := Lib.hid ((HGB.out.block _ (lt_of_block HB0.out) (by simp)).trans HB0.out)
      have HB1' := Lib.hid ((HGB.out.block _ (lt_of_block HB1.out) (by simp)).trans HB1.out)
      have hw2 := HGB.out.size
      clear j0 j1 j2 HO1 HCT HCW
      go_upto_region 13 with (first
        | (at_builtin; refine wpList_pushI w2 rfl _ _ rfl W.heap.size (.slice a1 n c1) wh 3 3 _ rfl rfl rfl rfl HO1'.out (by rw [← HN.out]; omega) hw2 ?_; intro v3 w3 ho3 hg3; have HO3 := Lib.hid ho3; have HP2 := Lib.hid (NRow.apart HO2.out HO1'.out (by decide) hg3); have HP0 := Lib.hid ((hg3.block _ (lt_of_block HB0'.out) (HO1'.out.not q0)).trans HB0'.out); have HP1 := Lib.hid ((hg3.block _ (lt_of_block HB1'.out) (HO1'.out.not q1)).trans HB1'.out); have HG3 := Lib.hid (NRow.grew (gtrans HG.out HGB.out) HO1'.out HG.out.size hg3); have HS3 := Lib.hid hg3.size; obtain ⟨d0, d1, d2, f0, f1, f2⟩ := cells3 HP0.out; obtain ⟨a3, c3, hv3⟩ := ho3.shape; rw [HN1.out] at hv3; subst hv3; clear ho3 hg3)
        | go_in)
      have HR0 := Lib.hid (set3_0 (.slice a3 (n + 1) c3) HP0.out)
      have HR1 := Lib.hid (set_far (p := w.heap.size) (i := 0) (.slice a3 (n + 1) c3) HP1.out (by omega))
      have hs4 := gset w3 ⟨w.heap.size, 0, none⟩ (.slice a3 (n + 1) c3)
      have HO4 := Lib.hid (HO3.out.far hs4 (HO3.out.off q0))
      have HP4 := Lib.hid (HP2.out.far hs4 (HP2.out.off q0))
      have HG4 := Lib.hid (gnew HG3.out hs4 (Nat.le_refl _))
      have HS4 := Lib.hid (Nat.le_trans hw2 (Nat.le_trans (show w2.heap.size ≤ w3.heap.size from HS3.out) hs4.size))
      clear d0 d1 d2 f0 f1 f2 hs4 HO3 HP2 HP0 HP1 HG3
      generalize w3.setCell ⟨w.heap.size, 0, none⟩ (.slice a3 (n + 1) c3) = W4 at HR0 HR1 HO4 HP4 HG4 HS4 ⊢
      go_upto_region 14 with (first
        | (at_builtin; refine wpList_pushU W4 rfl _ _ rfl W.heap.size (.slice a2 m c2) tx 0 0 _ rfl rfl rfl rfl HP4.out (by rw [← HM.out, HTL.out]; omega) HS4.out ?_; intro v5 w5 ho5 hg5; have HP5 := Lib.hid ho5; have HO5 := Lib.hid (NRow.apart HO4.out HP4.out (by decide) hg5); have HQ5 := Lib.hid ((hg5.block _ (lt_of_block HR0.out) (HP4.out.not q0)).trans HR0.out); have HQ6 := Lib.hid ((hg5.block _ (lt_of_block HR1.out) (HP4.out.not q1)).trans HR1.out); have HG5 := Lib.hid (NRow.grew HG4.out HP4.out HG.out.size hg5); obtain ⟨d0, d1, d2, f0, f1, f2⟩ := cells3 HQ5.out; obtain ⟨a5, c5, hv5⟩ := ho5.shape; rw [HM1.out] at hv5; subst hv5; clear ho5 hg5)
        | go_in)
      have HR5 := Lib.hid (set3_1 (.slice a5 (m + 1) c5) HQ5.out)
      have HR6 := Lib.hid (set_far (p := w.heap.size) (i := 1) (.slice a5 (m + 1) c5) HQ6.out (by omega))
      have hs5 := gset w5 ⟨w.heap.size, 1, none⟩ (.slice a5 (m + 1) c5)
      have HO6 := Lib.hid (HO5.out.far hs5 (HO5.out.off q0))
      have HP6 := Lib.hid (HP5.out.far hs5 (HP5.out.off q0))
      have HG6 := Lib.hid (gnew HG5.out hs5 (Nat.le_refl _))
      clear d0 d1 d2 f0 f1 f2 hs5 HO5 HP5 HQ5 HQ6 HG5
      generalize w5.setCell ⟨w.heap.size, 1, none⟩ (.slice a5 (m + 1) c5) = W6 at HR5 HR6 HO6 HP6 HG6 ⊢
      obtain ⟨k0, k1, k2, -⟩ := cells3 HR5.out
      obtain ⟨d0, d1, d2, f0, f1, f2⟩ := cells3 HR6.out
      go_wp2
      have hs := gset3 W6 (w.heap.size + 1) (.slice a3 (n + 1) c3) (.slice a5 (m + 1) c5) (.int .i64 (lim : Int))
      refine bodyPost_ret (results_S8t rfl _ _ (w.heap.size + 1) _ _ _ rfl rfl rfl (store3 HR6.out _ _ _) rfl) rfl ?_
      have hB2 : B ≤ W.heap.size := Nat.le_trans hB HG.out.size
      exact ⟨.slice a3 (n + 1) c3, .slice a5 (m + 1) c5, by rw [← HN.out]; rfl, (HO6.out.far hs (HO6.out.off q1)).mono hB2, (HP6.out.far hs (HP6.out.off q1)).mono hB2, gnew HG6.out hs (by omega)⟩

end Go.Proofs.Ytoaglkbobndmeab

namespace Go.Proofs.Ytoaglkbobndmeab
open Go.RowKit

/-- What the document's Give leaves. -/
def RGive (B : Nat) (w : World) (lim : Nat) (wh tx : List Nat) (e : Int) (r : Ending) (w' : World) : Prop :=
  ∃ wv tv, r = .returned (.tuple #[.agg #[wv, tv, .int .i64 (lim : Int)], .int .i64 e]) ∧ IRow B w' wv wh ∧ URow B w' tv tx ∧ w.grownBy w' none

set_option maxRecDepth 100000 in
set_option maxHeartbeats 4000000 in
theorem rgive_no (w : World) (B : Nat) (wa ta : Option Addr) (wc tc lim p : Nat) (wh tx : List Nat) (hB : B ≤ w.heap.size) (h : IRow B w (.slice wa wh.length wc) wh) (ht : URow B w (.slice ta tx.length tc) tx) (hl : wh.length ≤ 100000) (hp32 : p < 4294967296)
    (hno : p < 2 ∨ wh.length ≤ p) :
    Calls Try.prog 15 #[.agg #[.slice wa wh.length wc, .slice ta tx.length tc, .int .i64 (lim : Int)], .int .u32 (p : Int)] w fun r w' => RGive B w lim wh tx 1 r w' := by
  have hg := two_grown w (.cells (bx wa wh.length wc ta tx.length tc lim) 40) (.cells (bx none 0 0 none 0 0 0) 40)
  have HB0 := Lib.hid (two_lit0 w (.cells (bx wa wh.length wc ta tx.length tc lim) 40) (.cells (bx none 0 0 none 0 0 0) 40))
  have HB1 := Lib.hid (two_lit1 w (.cells (bx wa wh.length wc ta tx.length tc lim) 40) (.cells (bx none 0 0 none 0 0 0) 40))
  have HTO := Lib.hid ht.off'
  have HWO := Lib.hid h.off'
  have H := Lib.hid (h.grown hg)
  have HT := Lib.hid (ht.grown hg)
  have HG := Lib.hid hg
  clear h ht hg
  go_enter Try.func15, Try.ntmps15
  go_upto_region 1 with fail
  generalize (w.alloc (.cells (bx wa wh.length wc ta tx.length tc lim) 40)).alloc (.cells (bx none 0 0 none 0 0 0) 40) = W at HB0 HB1 H HT HG ⊢
  obtain ⟨n, hn⟩ : ∃ n, n = wh.length := ⟨_, rfl⟩
  obtain ⟨m, hm⟩ : ∃ m, m = tx.length := ⟨_, rfl⟩
  rw [← hn, ← hm] at HB0
  rw [← hn] at H HWO
  rw [← hm] at HT HTO
  rw [← hn] at hl hno
  simp only [← hn, ← hm]
  have HN := Lib.hid hn
  have HM := Lib.hid hm
  clear hn hm
  obtain ⟨k0, k1, k2, -⟩ := cells3 HB0.out
  obtain ⟨d0, d1, d2, f0, f1, f2⟩ := cells3 HB1.out
  by_cases h2 : p < 2
  · have h2i : (p : Int) < 2 := by omega
    go_wp2
    have hs := gset3 W (w.heap.size + 1) (.slice wa n wc) (.slice ta m tc) (.int .i64 (lim : Int))
    refine bodyPost_ret (results_S8d rfl _ _ (w.heap.size + 1) _ _ rfl rfl (store3 HB1.out _ _ _) rfl) rfl ?_
    exact ⟨_, _, rfl, H.out.far hs (HWO.out (w.heap.size + 1) (by omega)), HT.out.far hs (HTO.out (w.heap.size + 1) (by omega)), gnew HG.out hs (by omega)⟩
  · have h2i : ¬ (p : Int) < 2 := by omega
    have hpi : (n : Int) ≤ (p : Int) := by omega
    go_wp2
    have hs := gset3 W (w.heap.size + 1) (.slice wa n wc) (.slice ta m tc) (.int .i64 (lim : Int))
    refine bodyPost_ret (results_S8d rfl _ _ (w.heap.size + 1) _ _ rfl rfl (store3 HB1.out _ _ _) rfl) rfl ?_
    exact ⟨_, _, rfl, H.out.far hs (HWO.out (w.heap.size + 1) (by omega)), HT.out.far hs (HTO.out (w.heap.size + 1) (by omega)), gnew HG.out hs (by omega)⟩

set_option maxRecDepth 100000 in
set_option maxHeartbeats 4000000 in
theorem rgive_other (w : World) (B : Nat) (wa ta : Option Addr) (wc tc lim p : Nat) (wh tx : List Nat) (hB : B ≤ w.heap.size) (h : IRow B w (.slice wa wh.length wc) wh) (ht : URow B w (.slice ta tx.length tc) tx) (hl : wh.length ≤ 100000) (hp32 : p < 4294967296)
    (h2 : 2 ≤ p) (hpl : p < wh.length) (x : Nat) (hx : wh[p]? = some x) (h0 : x ≠ 0) (h3 : x ≠ 3) :
    Calls Try.prog 15 #[.agg #[.slice wa wh.length wc, .slice ta tx.length tc, .int .i64 (lim : Int)], .int .u32 (p : Int)] w fun r w' => RGive B w lim wh tx 1 r w' := by
  have hg := two_grown w (.cells (bx wa wh.length wc ta tx.length tc lim) 40) (.cells (bx none 0 0 none 0 0 0) 40)
  have HB0 := Lib.hid (two_lit0 w (.cells (bx wa wh.length wc ta tx.length tc lim) 40) (.cells (bx none 0 0 none 0 0 0) 40))
  have HB1 := Lib.hid (two_lit1 w (.cells (bx wa wh.length wc ta tx.length tc lim) 40) (.cells (bx none 0 0 none 0 0 0) 40))
  have HTO := Lib.hid ht.off'
  have HWO := Lib.hid h.off'
  have H := Lib.hid (h.grown hg)
  have HT := Lib.hid (ht.grown hg)
  have HG := Lib.hid hg
  have HX := Lib.hid hx
  clear h ht hg hx
  go_enter Try.func15, Try.ntmps15
  go_upto_region 1 with fail
  generalize (w.alloc (.cells (bx wa wh.length wc ta tx.length tc lim) 40)).alloc (.cells (bx none 0 0 none 0 0 0) 40) = W at HB0 HB1 H HT HG ⊢
  obtain ⟨n, hn⟩ : ∃ n, n = wh.length := ⟨_, rfl⟩
  obtain ⟨m, hm⟩ : ∃ m, m = tx.length := ⟨_, rfl⟩
  rw [← hn, ← hm] at HB0
  rw [← hn] at H HWO
  rw [← hm] at HT HTO
  rw [← hn] at hl hpl
  simp only [← hn, ← hm]
  have HN := Lib.hid hn
  have HM := Lib.hid hm
  clear hn hm
  obtain ⟨k0, k1, k2, -⟩ := cells3 HB0.out
  obtain ⟨d0, d1, d2, f0, f1, f2⟩ := cells3 HB1.out
  have h2i : ¬ (p : Int) < 2 := by omega
  have hpi : ¬ (n : Int) ≤ (p : Int) := by omega
  have hpj : (p : Int) < (n : Int) := by omega
  have h0i : ¬ (x : Int) = 0 := by omega
  have h3i : ¬ (x : Int) = 3 := by omega
  obtain ⟨g, rfl, -, e0⟩ := H.out.at HX.out
  go_wp2
  have hs := gset3 W (w.heap.size + 1) (.slice (some ⟨g, 0, none⟩) n wc) (.slice ta m tc) (.int .i64 (lim : Int))
  refine bodyPost_ret (results_S8d rfl _ _ (w.heap.size + 1) _ _ rfl rfl (store3 HB1.out _ _ _) rfl) rfl ?_
  exact ⟨_, _, rfl, H.out.far hs (HWO.out (w.heap.size + 1) (by omega)), HT.out.far hs (HTO.out (w.heap.size + 1) (by omega)), gnew HG.out hs (by omega)⟩

set_option maxRecDepth 100000 in
set_option maxHeartbeats 4000000 in
theorem rgive_use (w : World) (B : Nat) (wa ta : Option Addr) (wc tc lim p : Nat) (wh tx : List Nat) (hB : B ≤ w.heap.size) (h : IRow B w (.slice wa wh.length wc) wh) (ht : URow B w (.slice ta tx.length tc) tx) (hl : wh.length ≤ 100000) (hp32 : p < 4294967296)
    (h2 : 2 ≤ p) (hpl : p < wh.length) (hx : wh[p]? = some 0) :
    Calls Try.prog 15 #[.agg #[.slice wa wh.length wc, .slice ta tx.length tc, .int .i64 (lim : Int)], .int .u32 (p : Int)] w fun r w' => RGive B w lim (wh.set p 4) tx 0 r w' := by
  have hg := two_grown w (.cells (bx wa wh.length wc ta tx.length tc lim) 40) (.cells (bx none 0 0 none 0 0 0) 40)
  have HB0 := Lib.hid (two_lit0 w (.cells (bx wa wh.length wc ta tx.length tc lim) 40) (.cells (bx none 0 0 none 0 0 0) 40))
  have HB1 := Lib.hid (two_lit1 w (.cells (bx wa wh.length wc ta tx.length tc lim) 40) (.cells (bx none 0 0 none 0 0 0) 40))
  have HTO := Lib.hid ht.off'
  have HWO := Lib.hid h.off'
  have H := Lib.hid (h.grown hg)
  have HT := Lib.hid (ht.grown hg)
  have HG := Lib.hid hg
  have HX := Lib.hid hx
  have HPL := Lib.hid hpl
  clear h ht hg hx
  go_enter Try.func15, Try.ntmps15
  go_upto_region 1 with fail
  generalize (w.alloc (.cells (bx wa wh.length wc ta tx.length tc lim) 40)).alloc (.cells (bx none 0 0 none 0 0 0) 40) = W at HB0 HB1 H HT HG ⊢
  obtain ⟨n, hn⟩ : ∃ n, n = wh.length := ⟨_, rfl⟩
  obtain ⟨m, hm⟩ : ∃ m, m = tx.length := ⟨_, rfl⟩
  rw [← hn, ← hm] at HB0
  rw [← hn] at H HWO
  rw [← hm] at HT HTO
  rw [← hn] at hl hpl
  simp only [← hn, ← hm]
  have HN := Lib.hid hn
  have HM := Lib.hid hm
  clear hn hm
  obtain ⟨k0, k1, k2, -⟩ := cells3 HB0.out
  obtain ⟨d0, d1, d2, f0, f1, f2⟩ := cells3 HB1.out
  have h2i : ¬ (p : Int) < 2 := by omega
  have hpi : ¬ (n : Int) ≤ (p : Int) := by omega
  have hpj : (p : Int) < (n : Int) := by omega
  obtain ⟨g, rfl, -, e0⟩ := H.out.at HX.out
  go_wp2_with (first
    | (go_at_call 28; have K := with_any W B _ n wc ta m tc (lim : Int) wh p 4 4 rfl H.out HPL.out (by rw [← HN.out]; exact hl); (with_reducible refine K.mono ?_); clear K; rintro r w5 ⟨v5, rfl, ho5, hg5⟩; obtain ⟨a5, c5, hv5⟩ := ho5.shape; rw [List.length_set, ← HN.out] at hv5; subst hv5; have HO5 := Lib.hid ho5; have HG5 := Lib.hid hg5; have HQ1 := Lib.hid ((hg5.block _ (lt_of_block HB1.out) (by simp)).trans HB1.out); obtain ⟨d0, d1, d2, f0, f1, f2⟩ := cells3 HQ1.out; clear ho5 hg5)
    | go_in)
  have hs := gset3 w5 (w.heap.size + 1) (.slice a5 n c5) (.slice ta m tc) (.int .i64 (lim : Int))
  refine bodyPost_ret (results_S8d rfl _ _ (w.heap.size + 1) _ _ rfl rfl (store3 HQ1.out _ _ _) rfl) rfl ?_
  have h1 := lt_of_block HB1.out
  exact ⟨_, _, rfl, (HO5.out.far hs (HO5.out.off h1)).mono (by have := HG.out.size; omega), (HT.out.grown HG5.out).far hs (HTO.out (w.heap.size + 1) (by omega)), gnew (gtrans HG.out HG5.out) hs (by omega)⟩

set_option maxRecDepth 100000 in
set_option maxHeartbeats 4000000 in
theorem rgive_fresh (w : World) (B : Nat) (wa ta : Option Addr) (wc tc lim p : Nat) (wh tx : List Nat) (hB : B ≤ w.heap.size) (h : IRow B w (.slice wa wh.length wc) wh) (ht : URow B w (.slice ta tx.length tc) tx) (hl : wh.length ≤ 100000) (hp32 : p < 4294967296)
    (h2 : 2 ≤ p) (hpl : p < wh.length) (hx : wh[p]? = some 3) :
    Calls Try.prog 15 #[.agg #[.slice wa wh.length wc, .slice ta tx.length tc, .int .i64 (lim : Int)], .int .u32 (p : Int)] w fun r w' => RGive B w lim (wh.set p 1) tx 0 r w' := by
  have hg := two_grown w (.cells (bx wa wh.length wc ta tx.length tc lim) 40) (.cells (bx none 0 0 none 0 0 0) 40)
  have HB0 := Lib.hid (two_lit0 w (.cells (bx wa wh.length wc ta tx.length tc lim) 40) (.cells (bx none 0 0 none 0 0 0) 40))
  have HB1 := Lib.hid (two_lit1 w (.cells (bx wa wh.length wc ta tx.length tc lim) 40) (.cells (bx none 0 0 none 0 0 0) 40))
  have HTO := Lib.hid ht.off'
  have HWO := Lib.hid h.off'
  have H := Lib.hid (h.grown hg)
  have HT := Lib.hid (ht.grown hg)
  have HG := Lib.hid hg
  have HX := Lib.hid hx
  have HPL := Lib.hid hpl
  clear h ht hg hx
  go_enter Try.func15, Try.ntmps15
  go_upto_region 1 with fail
  generalize (w.alloc (.cells (bx wa wh.length wc ta tx.length tc lim) 40)).alloc (.cells (bx none 0 0 none 0 0 0) 40) = W at HB0 HB1 H HT HG ⊢
  obtain ⟨n, hn⟩ : ∃ n, n = wh.length := ⟨_, rfl⟩
  obtain ⟨m, hm⟩ : ∃ m, m = tx.length := ⟨_, rfl⟩
  rw [← hn, ← hm] at HB0
  rw [← hn] at H HWO
  rw [← hm] at HT HTO
  rw [← hn] at hl hpl
  simp only [← hn, ← hm]
  have HN := Lib.hid hn
  have HM := Lib.hid hm
  clear hn hm
  obtain ⟨k0, k1, k2, -⟩ := cells3 HB0.out
  obtain ⟨d0, d1, d2, f0, f1, f2⟩ := cells3 HB1.out
  have h2i : ¬ (p : Int) < 2 := by omega
  have hpi : ¬ (n : Int) ≤ (p : Int) := by omega
  have hpj : (p : Int) < (n : Int) := by omega
  obtain ⟨g, rfl, -, e0⟩ := H.out.at HX.out
  go_wp2_with (first
    | (go_at_call 28; have K := with_any W B _ n wc ta m tc (lim : Int) wh p 1 1 rfl H.out HPL.out (by rw [← HN.out]; exact hl); (with_reducible refine K.mono ?_); clear K; rintro r w5 ⟨v5, rfl, ho5, hg5⟩; obtain ⟨a5, c5, hv5⟩ := ho5.shape; rw [List.length_set, ← HN.out] at hv5; subst hv5; have HO5 := Lib.hid ho5; have HG5 := Lib.hid hg5; have HQ1 := Lib.hid ((hg5.block _ (lt_of_block HB1.out) (by simp)).trans HB1.out); obtain ⟨d0, d1, d2, f0, f1, f2⟩ := cells3 HQ1.out; clear ho5 hg5)
    | go_in)
  have hs := gset3 w5 (w.heap.size + 1) (.slice a5 n c5) (.slice ta m tc) (.int .i64 (lim : Int))
  refine bodyPost_ret (results_S8d rfl _ _ (w.heap.size + 1) _ _ rfl rfl (store3 HQ1.out _ _ _) rfl) rfl ?_
  have h1 := lt_of_block HB1.out
  exact ⟨_, _, rfl, (HO5.out.far hs (HO5.out.off h1)).mono (by have := HG.out.size; omega), (HT.out.grown HG5.out).far hs (HTO.out (w.heap.size + 1) (by omega)), gnew (gtrans HG.out HG5.out) hs (by omega)⟩

end Go.Proofs.Ytoaglkbobndmeab

namespace Go.Proofs.Ytoaglkbobndmeab
open Go.RowKit

/-- Pages below one that are so. -/
def someK (f : Nat → Bool) (k : Nat) : List Nat := (List.range k).filter f
theorem someK_yes {f : Nat → Bool} {k : Nat} (h : f k = true) : someK f (k + 1) = someK f k ++ [k] := by simp [someK, List.range_succ, List.filter_append, h]
theorem someK_no {f : Nat → Bool} {k : Nat} (h : f k = false) : someK f (k + 1) = someK f k := by simp [someK, List.range_succ, List.filter_append, h]
theorem someK_len (f : Nat → Bool) (k : Nat) : (someK f k).length ≤ k := by
  have := List.length_filter_le f (List.range k)
  simpa [someK] using this
def RSome (w : World) (L : List Nat) (r : Ending) (w' : World) : Prop := ∃ v, r = .returned v ∧ NRow 22 encP w.heap.size w' v L ∧ w.grownBy w' none

set_option maxRecDepth 100000 in
set_option maxHeartbeats 4000000 in
theorem rsome_any (w : World) (B : Nat) (wa ta : Option Addr) (wc tc lim : Nat) (wh tx : List Nat) (h : IRow B w (.slice wa wh.length wc) wh) (ht : URow B w (.slice ta tx.length tc) tx) (hl : wh.length ≤ 100000)
    (y : Nat) (t : Nat) (f : Nat → Bool) (hf : ∀ p x, wh[p]? = some x → f p = (x == y)) (y1 : Int) (hy1 : y1 = (y : Int)) (t1 : Int) (ht1 : t1 = (t : Int)) :
    Calls Try.prog 31 #[.agg #[.slice wa wh.length wc, .slice ta tx.length tc, .int .i64 (lim : Int)], .int .i64 y1, .int .u64 t1, .bool false] w fun r w' => RSome w (someK f wh.length) r w' := by
  subst hy1 ht1
  have hg := World.grownBy_alloc w (.cells (bx wa wh.length wc ta tx.length tc lim) 40) none
  have HB0 := Lib.hid (heap_alloc_new w (.cells (bx wa wh.length wc ta tx.length tc lim) 40))
  have H := Lib.hid (h.grown hg)
  have HT := Lib.hid (ht.grown hg)
  have HG := Lib.hid hg
  have HF := Lib.hid hf
  clear h ht hg hf
  go_enter Try.func31, Try.ntmps31
  go_upto_block 0 with fail
  generalize w.alloc (.cells (bx wa wh.length wc ta tx.length tc lim) 40) = W at HB0 H HT HG ⊢
  obtain ⟨n, hn⟩ : ∃ n, n = wh.length := ⟨_, rfl⟩
  obtain ⟨m, hm⟩ : ∃ m, m = tx.length := ⟨_, rfl⟩
  rw [← hn, ← hm] at HB0
  rw [← hn] at H
  rw [← hm] at HT
  rw [← hn] at hl ⊢
  simp only [← hn, ← hm]
  have HN := Lib.hid hn
  have HM := Lib.hid hm
  clear hn hm
  go_wp2
  go_loopw [9, 10] (fun ov i wr => ∃ k : Nat, k ≤ n ∧ i = .int .i64 (k : Int) ∧ NRow 22 encP W.heap.size wr ov (someK f k) ∧ W.grownBy wr none) (fun _ i _ => n - (intOf i).toNat)
  case atStart => exact ⟨0, Nat.zero_le _, rfl, World.ownsRow_nil _ _ _ _, grefl _ _⟩
  case round =>
    obtain ⟨k, hk, rfl, ho, hgr⟩ := hrel
    have HO := Lib.hid ho
    have HGR := Lib.hid hgr
    obtain ⟨oa, oc, hov⟩ := ho.shape
    subst hov
    obtain ⟨k0, k1, k2, -⟩ := cells3 ((hgr.block _ (lt_of_block HB0.out) (by simp)).trans HB0.out)
    clear ho hgr
    by_cases hkn : k < n
    · have hki : (k : Int) < (n : Int) := by omega
      have hkl : k < wh.length := by rw [← HN.out]; exact hkn
      obtain ⟨x, hx⟩ : ∃ x, wh[k]? = some x := ⟨wh[k], List.getElem?_eq_getElem hkl⟩
      have HXK := Lib.hid hx
      obtain ⟨g, rfl, -, e0⟩ := (H.out.grown HGR.out).at hx
      have hl0 := hkl
      clear hx
      by_cases hxy : x = y
      · subst hxy
        have HFK := Lib.hid (show f k = true by rw [HF.out k x HXK.out]; simp)
        clear hl0
        go_wp2_with (first
          | (at_builtin; refine wpList_pushP wr rfl _ _ rfl W.heap.size (.slice oa (someK f k).length oc) (someK f k) k (k : Int) _ rfl rfl rfl rfl HO.out (by have := someK_len f k; omega) HGR.out.size ?_; intro v5 w5 ho5 hg5; have HO5 := Lib.hid ho5; have HG5 := Lib.hid (NRow.grew HGR.out HO.out (Nat.le_refl _) hg5); clear ho5 hg5)
          | go_in)
        go_roundw
        case rel => exact ⟨k + 1, by omega, by go_num, by rw [someK_yes HFK.out]; exact HO5.out, HG5.out⟩
        case measure => simp [intOf]; omega
      · have hxi : ¬ (x : Int) = (y : Int) := by omega
        have hxb : ((x : Int) == (y : Int)) = false := by simpa using hxi
        have HFK := Lib.hid (show f k = false by rw [HF.out k x HXK.out]; simpa using hxy)
        clear hl0
        go_wp2
        go_roundw
        case rel => exact ⟨k + 1, by omega, by go_num, by rw [someK_no HFK.out]; exact HO.out, HGR.out⟩
        case measure => simp [intOf]; omega
    · have hki : ¬ (k : Int) < (n : Int) := by omega
      obtain rfl : k = n := by omega
      go_wp2
      go_ret
      exact ⟨.slice oa (someK f k).length oc, rfl, by rw [← HN.out]; exact HO.out.mono HG.out.size, gtrans HG.out HGR.out⟩

set_option maxRecDepth 100000 in
set_option maxHeartbeats 4000000 in
theorem rsome_of (w : World) (B : Nat) (wa ta : Option Addr) (wc tc lim : Nat) (wh tx : List Nat) (h : IRow B w (.slice wa wh.length wc) wh) (ht : URow B w (.slice ta tx.length tc) tx) (hl : wh.length ≤ 100000)
    (y : Nat) (t : Nat) (f : Nat → Bool) (htl : tx.length = wh.length) (hf : ∀ p x z, wh[p]? = some x → tx[p]? = some z → f p = (x == y && z == t)) (y1 : Int) (hy1 : y1 = (y : Int)) (t1 : Int) (ht1 : t1 = (t : Int)) :
    Calls Try.prog 31 #[.agg #[.slice wa wh.length wc, .slice ta tx.length tc, .int .i64 (lim : Int)], .int .i64 y1, .int .u64 t1, .bool true] w fun r w' => RSome w (someK f wh.length) r w' := by
  subst hy1 ht1
  have HTL := Lib.hid htl
  clear htl
  have hg := World.grownBy_alloc w (.cells (bx wa wh.length wc ta tx.length tc lim) 40) none
  have HB0 := Lib.hid (heap_alloc_new w (.cells (bx wa wh.length wc ta tx.length tc lim) 40))
  have H := Lib.hid (h.grown hg)
  have HT := Lib.hid (ht.grown hg)
  have HG := Lib.hid hg
  have HF := Lib.hid hf
  clear h ht hg hf
  go_enter Try.func31, Try.ntmps31
  go_upto_block 0 with fail
  generalize w.alloc (.cells (bx wa wh.length wc ta tx.length tc lim) 40) = W at HB0 H HT HG ⊢
  obtain ⟨n, hn⟩ : ∃ n, n = wh.length := ⟨_, rfl⟩
  obtain ⟨m, hm⟩ : ∃ m, m = tx.length := ⟨_, rfl⟩
  rw [← hn, ← hm] at HB0
  rw [← hn] at H
  rw [← hm] at HT
  rw [← hn] at hl ⊢
  simp only [← hn, ← hm]
  have HN := Lib.hid hn
  have HM := Lib.hid hm
  have HMN := Lib.hid (show (m : Int) = (n : Int) by rw [hm, hn, HTL.out])
  clear hn hm
  go_wp2
  go_loopw [9, 10] (fun ov i wr => ∃ k : Nat, k ≤ n ∧ i = .int .i64 (k : Int) ∧ NRow 22 encP W.heap.size wr ov (someK f k) ∧ W.grownBy wr none) (fun _ i _ => n - (intOf i).toNat)
  case atStart => exact ⟨0, Nat.zero_le _, rfl, World.ownsRow_nil _ _ _ _, grefl _ _⟩
  case round =>
    obtain ⟨k, hk, rfl, ho, hgr⟩ := hrel
    have HO := Lib.hid ho
    have HGR := Lib.hid hgr
    obtain ⟨oa, oc, hov⟩ := ho.shape
    subst hov
    obtain ⟨k0, k1, k2, -⟩ := cells3 ((hgr.block _ (lt_of_block HB0.out) (by simp)).trans HB0.out)
    clear ho hgr
    by_cases hkn : k < n
    · have hki : (k : Int) < (n : Int) := by omega
      have hkl : k < wh.length := by rw [← HN.out]; exact hkn
      obtain ⟨x, hx⟩ : ∃ x, wh[k]? = some x := ⟨wh[k], List.getElem?_eq_getElem hkl⟩
      have HXK := Lib.hid hx
      obtain ⟨g, rfl, -, e0⟩ := (H.out.grown HGR.out).at hx
      have hl0 := hkl
      clear hx
      have hkm : k < tx.length := by rw [HTL.out]; exact hkl
      obtain ⟨z, hz⟩ : ∃ z, tx[k]? = some z := ⟨tx[k], List.getElem?_eq_getElem hkm⟩
      have HZK := Lib.hid hz
      obtain ⟨g2, rfl, -, e1⟩ := (HT.out.grown HGR.out).at hz
      clear hz hkm
      by_cases hxy : x = y
      · subst hxy
        have hkmi : (k : Int) < (m : Int) := by rw [HMN.out]; exact hki
        by_cases hzt : z = t
        · subst hzt
          have HFK := Lib.hid (show f k = true by rw [HF.out k x z HXK.out HZK.out]; simp)
          clear hl0
          go_wp2_with (first
            | (at_builtin; refine wpList_pushP wr rfl _ _ rfl W.heap.size (.slice oa (someK f k).length oc) (someK f k) k (k : Int) _ rfl rfl rfl rfl HO.out (by have := someK_len f k; omega) HGR.out.size ?_; intro v5 w5 ho5 hg5; have HO5 := Lib.hid ho5; have HG5 := Lib.hid (NRow.grew HGR.out HO.out (Nat.le_refl _) hg5); clear ho5 hg5)
            | go_in)
          go_roundw
          case rel => exact ⟨k + 1, by omega, by go_num, by rw [someK_yes HFK.out]; exact HO5.out, HG5.out⟩
          case measure => simp [intOf]; omega
        · have hzi : ¬ (z : Int) = (t : Int) := by omega
          have hzb : ((z : Int) == (t : Int)) = false := by simpa using hzi
          have HFK := Lib.hid (show f k = false by rw [HF.out k x z HXK.out HZK.out]; simpa using hzt)
          clear hl0
          go_wp2
          go_roundw
          case rel => exact ⟨k + 1, by omega, by go_num, by rw [someK_no HFK.out]; exact HO.out, HGR.out⟩
          case measure => simp [intOf]; omega
      · have hxi : ¬ (x : Int) = (y : Int) := by omega
        have hxb : ((x : Int) == (y : Int)) = false := by simpa using hxi
        have HFK := Lib.hid (show f k = false by rw [HF.out k x z HXK.out HZK.out]; simp [hxy])
        clear hl0
        go_wp2
        go_roundw
        case rel => exact ⟨k + 1, by omega, by go_num, by rw [someK_no HFK.out]; exact HO.out, HGR.out⟩
        case measure => simp [intOf]; omega
    · have hki : ¬ (k : Int) < (n : Int) := by omega
      obtain rfl : k = n := by omega
      go_wp2
      go_ret
      exact ⟨.slice oa (someK f k).length oc, rfl, by rw [← HN.out]; exact HO.out.mono HG.out.size, gtrans HG.out HGR.out⟩

end Go.Proofs.Ytoaglkbobndmeab

namespace Go.Proofs.Ytoaglkbobndmeab
open Go.RowKit

theorem PSq.owned4 {base n : Nat} {w : World} {v : Value} {ps : List Nat} (h : w.ownsRow base 22 1 v n (ps.map encP)) (h32 : ∀ p ∈ ps, p < 4294967296) : PSq (fun b => base ≤ b ∧ v.ownBlock = some b) w v ps := by
  have hl : ps.length = n := by have := h.1; simpa using this
  subst hl
  rcases h.2 with ⟨rfl, hn⟩ | ⟨g, cap, cur, rfl, hb, hg, hc, hm, hs, ht⟩
  · rw [List.eq_nil_of_length_eq_zero hn]; exact psq_nil _ _
  · refine ⟨some ⟨g, 0, none⟩, cap, rfl, hc, hm, h32, fun _ => ⟨g, 0, rfl, ⟨hb, rfl⟩, fun j hj => ?_⟩⟩
    rw [Nat.zero_add, h.cellAt j (by omega)]
    simp [List.getElem?_map, List.getElem?_eq_getElem hj, encP]
structure QOwns (base : Nat) (w : World) (lv : Value) (es : List (Value × Rc)) : Prop where
  row : w.ownsRow base 67 2 lv es.length (es.flatMap rcl)
  each : ∀ y ∈ es, NRow 22 encP base w y.1 y.2.2 ∧ y.2.1 < 18446744073709551616 ∧ ∀ p ∈ y.2.2, p < 4294967296
theorem QOwns.nil (base : Nat) (w : World) : QOwns base w (.slice none 0 0) [] := ⟨World.ownsRow_nil _ _ _ _, fun y hy => by cases hy⟩
theorem QOwns.grown {base : Nat} {w w' : World} {v : Value} {es : List (Value × Rc)} (h : QOwns base w v es) (k : w.grownBy w' none) : QOwns base w' v es :=
  ⟨World.ownsRow.kept h.row k (by cases v.ownBlock <;> simp), fun y hy => ⟨(h.each y hy).1.grown k, (h.each y hy).2⟩⟩
theorem QOwns.push {base : Nat} {w w1 : World} {lv v' : Value} {es : List (Value × Rc)} {y : Value × Rc} (h : QOwns base w lv es) (h1 : NRow 22 encP base w y.1 y.2.2) (h3 : y.2.1 < 18446744073709551616) (h4 : ∀ p ∈ y.2.2, p < 4294967296)
    (hrow : w1.ownsRow base 67 2 v' (es.length + 1) (es.flatMap rcl ++ rcl y)) (hg : w.grownBy w1 lv.ownBlock) : QOwns base w1 v' (es ++ [y]) := by
  refine ⟨by simpa [List.flatMap_append] using hrow, fun z hz => ?_⟩
  rcases List.mem_append.1 hz with hz | hz
  · exact ⟨own_apart (h.each z hz).1 h.row (by decide) hg, (h.each z hz).2⟩
  · have : z = y := by simpa using hz
    subst this
    exact ⟨own_apart h1 h.row (by decide) hg, h3, h4⟩
theorem QOwns.rsq {base : Nat} {w : World} {lv : Value} {es : List (Value × Rc)} (h : QOwns base w lv es) : RSq (fun b => base ≤ b) w lv (es.map (·.2)) := by
  have hr := h.row
  rcases h.row.2 with ⟨hv, hn⟩ | ⟨q, cap, cur, hv, hb, hq, hnc, hcm, hcs, ht⟩
  · rw [List.eq_nil_of_length_eq_zero hn]
    rw [hv]; exact rsq_nil _ _
  · refine ⟨some ⟨q, 0, none⟩, cap, by rw [hv]; simp, by simpa using hnc, hcm, fun hne => ⟨q, 0, rfl, hb, fun i x hx => ?_⟩⟩
    rw [List.getElem?_map] at hx
    obtain ⟨y, hy, rfl⟩ := Option.map_eq_some_iff.1 hx
    obtain ⟨c0, c1⟩ := flat2 es i y hy
    obtain ⟨g1, g3, g4⟩ := h.each y (List.mem_of_getElem? hy)
    have hc := hr.cells (g := q) (by rw [hv]; rfl)
    rw [Nat.zero_add]
    refine ⟨?_, g3, y.1, ?_, (PSq.owned4 g1 g4).imp fun _ k _ => k.1⟩
    · have := hc _ _ c0; rwa [Addr.add_lit, Nat.zero_add] at this
    · have := hc _ _ c1; rwa [Addr.add_lit, Nat.zero_add] at this

/-- A record more. -/
theorem wpList_pushR (w : World) {ops : Array Oper} {rest : List Oper} {o : Oper} {a : Act} {Q : Exit → Act → World → Prop} (hgd : o.guard = none) (s x : Operand)
    (ho : o.op = .call { callee := .builtin .append, args := #[s, x], argTypes := #[29, 29] })
    (base : Nat) (v : Value) (es : List (Value × Rc)) (t : Nat) (t1 : Int) (pa : Option Addr) (pn pc : Nat) (ps : List Nat) (q : Nat) (hv : a.eval s = v) (hx : a.eval x = .slice (some ⟨q, 0, none⟩) 1 1) (hq : w.heap.size = q) (ht1 : t1 = (t : Int))
    (h : QOwns base w v es) (hp : NRow 22 encP base w (.slice pa pn pc) ps) (h32 : ∀ p ∈ ps, p < 4294967296) (ht : t < 18446744073709551616) (hm : es.length ≤ 100000) (hbase : base ≤ w.heap.size)
    (K : ∀ v' w', QOwns base w' v' (es ++ [(.slice pa pn pc, (t, ps))]) → w.grownBy w' v.ownBlock → wpList Try.prog ops Q rest (a.put o.dst v') w') :
    wpList Try.prog ops Q (o :: rest) a (w.alloc (.cells #[.int .u64 t1, .slice pa pn pc] 67)) := by
  subst ht1 hq
  obtain ⟨i0, hi, hz0, hz1, hz2⟩ := info_parts infoR8
  have hg := World.grownBy_alloc w (.cells #[.int .u64 (t : Int), .slice pa pn pc] 67) none
  refine wpList_append_own _ hgd s x 29 ho base 67 i0 (.agg #[.int .u64 0, .slice none 0 0]) 2 32 Try.underlying29 hi hz0 hz1 hz2 rfl (by decide) v es.length (es.flatMap rcl) hv (h.row.alloc _) ⟨w.heap.size, 0, none⟩ 1 1 (rcl (.slice pa pn pc, (t, []))) hx rfl (lit2r w t (.slice pa pn pc)) (one2 pa pn pc t) (by unfold maxLen; omega) (by omega) (by simp; omega) ?_
  intro v' w' hown hgr _
  have hR := h.grown hg
  exact K v' w' (hR.push (y := (.slice pa pn pc, (t, ps))) (hp.grown hg) ht h32 hown hgr) (gtrans (gwide hg) hgr)

/-! ### the next change -/
def hitS (wh tx : List Nat) (last p : Nat) : Bool := wh.getD p 0 == 2 && decide (last < tx.getD p 0)
/-- The least change behind one, of what is waiting below a page. -/
def scanM (wh tx : List Nat) (last : Nat) : Nat → Option Nat
  | 0 => none
  | p + 1 => if hitS wh tx last p then (match scanM wh tx last p with | none => some (tx.getD p 0) | some y => if tx.getD p 0 < y then some (tx.getD p 0) else some y) else scanM wh tx last p
theorem scan_spec (wh tx : List Nat) (last : Nat) : ∀ p, (scanM wh tx last p = none → ∀ q, q < p → hitS wh tx last q = false) ∧
    (∀ y, scanM wh tx last p = some y → (∃ q, q < p ∧ hitS wh tx last q = true ∧ tx.getD q 0 = y) ∧ ∀ q, q < p → hitS wh tx last q = true → y ≤ tx.getD q 0)
  | 0 => ⟨fun _ q hq => absurd hq (Nat.not_lt_zero _), fun y h => by cases h⟩
  | p + 1 => by
    obtain ⟨i1, i2⟩ := scan_spec wh tx last p
    unfold scanM
    cases hh : hitS wh tx last p with
    | false =>
      simp only [Bool.false_eq_true, if_false]
      refine ⟨fun h q hq => ?_, fun y h => ?_⟩
      · rcases Nat.lt_or_eq_of_le (Nat.le_of_lt_succ hq) with e | e
        · exact i1 h q e
        · rw [e]; exact hh
      · obtain ⟨⟨q, q1, q2, q3⟩, h2⟩ := i2 y h
        refine ⟨⟨q, by omega, q2, q3⟩, fun q hq hq2 => ?_⟩
        rcases Nat.lt_or_eq_of_le (Nat.le_of_lt_succ hq) with e | e
        · exact h2 q e hq2
        · rw [e, hh] at hq2; cases hq2
    | true =>
      simp only [if_true]
      cases hs : scanM wh tx last p with
      | none =>
        refine ⟨fun h => (by cases h), fun y h => ?_⟩
        cases h
        refine ⟨⟨p, by omega, hh, rfl⟩, fun q hq hq2 => ?_⟩
        rcases Nat.lt_or_eq_of_le (Nat.le_of_lt_succ hq) with e | e
        · rw [i1 hs q e] at hq2; cases hq2
        · rw [e]; exact Nat.le_refl _
      | some z =>
        obtain ⟨⟨q0, a1, a2, a3⟩, a4⟩ := i2 z hs
        refine ⟨fun h => (by dsimp only at h; split at h <;> cases h), fun y h => ?_⟩
        dsimp only at h
        split at h
        · rename_i hlt
          cases h
          refine ⟨⟨p, by omega, hh, rfl⟩, fun q hq hq2 => ?_⟩
          rcases Nat.lt_or_eq_of_le (Nat.le_of_lt_succ hq) with e | e
          · exact Nat.le_trans (Nat.le_of_lt hlt) (a4 q e hq2)
          · rw [e]; exact Nat.le_refl _
        · rename_i hlt
          cases h
          refine ⟨⟨q0, by omega, a2, a3⟩, fun q hq hq2 => ?_⟩
          rcases Nat.lt_or_eq_of_le (Nat.le_of_lt_succ hq) with e | e
          · exact a4 q e hq2
          · rw [e]; omega

/-- What is waiting: records that rise, each with just the pages of its change. -/
structure Waits (wh tx : List Nat) (NR : List Rc) : Prop where
  rise : NR.Pairwise (fun a b => a.1 < b.1)
  pos : ∀ r ∈ NR, 0 < r.1 ∧ r.1 < 18446744073709551616
  some_ : ∀ r ∈ NR, r.2 ≠ [] ∧ someK (fun p => wh.getD p 0 == 2 && tx.getD p 0 == r.1) wh.length = r.2
  all : ∀ p, p < wh.length → wh.getD p 0 = 2 → ∃ r ∈ NR, r.1 = tx.getD p 0
def lastT (NR : List Rc) (k : Nat) : Nat := if k = 0 then 0 else (NR.getD (k - 1) (0, [])).1
theorem mem_someK {f : Nat → Bool} {n p : Nat} : p ∈ someK f n ↔ p < n ∧ f p = true := by simp [someK]
theorem Waits.at {wh tx : List Nat} {NR : List Rc} (h : Waits wh tx NR) {i j : Nat} {a b : Rc} (ha : NR[i]? = some a) (hb : NR[j]? = some b) (hij : i < j) : a.1 < b.1 := by
  obtain ⟨hi, e1⟩ := List.getElem?_eq_some_iff.1 ha
  obtain ⟨hj, e2⟩ := List.getElem?_eq_some_iff.1 hb
  have := List.pairwise_iff_getElem.1 h.rise i j hi hj hij
  rw [e1, e2] at this
  exact this
theorem lastT_succ {NR : List Rc} {k : Nat} {r : Rc} (h : NR[k]? = some r) : lastT NR (k + 1) = r.1 := by
  simp [lastT, List.getD_eq_getElem?_getD, h]
theorem Waits.last {wh tx : List Nat} {NR : List Rc} (h : Waits wh tx NR) {k j : Nat} {r : Rc} (hr : NR[j]? = some r) : lastT NR k < r.1 ↔ k ≤ j ∨ NR.length < k := by
  have hj := (List.getElem?_eq_some_iff.1 hr).1
  cases k with
  | zero => simp [lastT, (h.pos r (List.mem_of_getElem? hr)).1]
  | succ k =>
    by_cases hk : k < NR.length
    · have e : NR[k]? = some NR[k] := List.getElem?_eq_getElem hk
      rw [lastT_succ e]
      constructor
      · intro hlt
        refine .inl ?_
        rcases Nat.lt_trichotomy k j with c | c | c
        · exact c
        · subst c; rw [hr] at e; cases e; omega
        · have := h.at hr e c; omega
      · rintro (c | c)
        · exact h.at e hr (by omega)
        · omega
    · have hg : lastT NR (k + 1) = 0 := by simp [lastT, List.getD_eq_getElem?_getD, List.getElem?_eq_none (show NR.length ≤ k by omega)]
      rw [hg]
      constructor
      · intro _; exact .inr (by omega)
      · intro _; exact (h.pos r (List.mem_of_getElem? hr)).1
theorem Waits.scan {wh tx : List Nat} {NR : List Rc} (h : Waits wh tx NR) {k : Nat} (hk : k ≤ NR.length) : scanM wh tx (lastT NR k) wh.length = (NR[k]?).map (·.1) := by
  obtain ⟨s1, s2⟩ := scan_spec wh tx (lastT NR k) wh.length
  have hits : ∀ q, q < wh.length → hitS wh tx (lastT NR k) q = true → ∃ (j : Nat) (r : Rc), NR[j]? = some r ∧ k ≤ j ∧ tx.getD q 0 = r.1 := fun q hq hh => by
    unfold hitS at hh
    rw [Bool.and_eq_true, beq_iff_eq, decide_eq_true_eq] at hh
    obtain ⟨r, hr, he⟩ := h.all q hq hh.1
    obtain ⟨j, hj⟩ := List.mem_iff_getElem?.1 hr
    refine ⟨j, r, hj, ?_, he.symm⟩
    rcases (h.last (k := k) hj).1 (by rw [he]; exact hh.2) with c | c
    · exact c
    · omega
  cases hn : NR[k]? with
  | none =>
    have hlen : NR.length ≤ k := List.getElem?_eq_none_iff.1 hn
    cases hs : scanM wh tx (lastT NR k) wh.length with
    | none => rfl
    | some y =>
      obtain ⟨⟨q, q1, q2, _⟩, _⟩ := s2 y hs
      obtain ⟨j, r, hj, hkj, _⟩ := hits q q1 q2
      have := (List.getElem?_eq_some_iff.1 hj).1
      omega
  | some r =>
    have hmem := List.mem_of_getElem? hn
    obtain ⟨hne, hsome⟩ := h.some_ r hmem
    obtain ⟨p, ps, hps⟩ := List.exists_cons_of_ne_nil hne
    have hp : p ∈ someK (fun p => wh.getD p 0 == 2 && tx.getD p 0 == r.1) wh.length := by rw [hsome, hps]; exact List.mem_cons_self
    obtain ⟨hpl, hpf⟩ := mem_someK.1 hp
    rw [Bool.and_eq_true, beq_iff_eq, beq_iff_eq] at hpf
    have hhit : hitS wh tx (lastT NR k) p = true := by
      unfold hitS
      rw [Bool.and_eq_true, beq_iff_eq, decide_eq_true_eq]
      exact ⟨hpf.1, by rw [hpf.2]; exact (h.last hn).2 (.inl (Nat.le_refl _))⟩
    cases hs : scanM wh tx (lastT NR k) wh.length with
    | none => rw [s1 hs p hpl] at hhit; cases hhit
    | some y =>
      obtain ⟨⟨q, q1, q2, q3⟩, hmin⟩ := s2 y hs
      have hy1 := hmin p hpl hhit
      rw [hpf.2] at hy1
      obtain ⟨j, r', hj, hkj, he⟩ := hits q q1 q2
      have : r.1 ≤ y := by
        rw [← q3, he]
        rcases Nat.lt_or_eq_of_le hkj with c | c
        · exact Nat.le_of_lt (h.at hn hj c)
        · subst c; rw [hn] at hj; cases hj; exact Nat.le_refl _
      simp; omega

end Go.Proofs.Ytoaglkbobndmeab

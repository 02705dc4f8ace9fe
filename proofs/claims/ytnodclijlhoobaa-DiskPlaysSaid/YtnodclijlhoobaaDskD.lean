/-
  Layer 3: the contract of the reference's Write. Own work.
-/
import Derived.Test.YtnodclijlhoobaaDskC
namespace Go.Proofs.Ytnodclijlhoobaa
open Go.RowKit

theorem infoL : (Try.prog.info? 117).map (fun i => (i.zero, i.size, i.bytes)) = some (some (.agg #[.int .i64 0, .string ByteArray.empty]), 2, 24) := by kernel_rfl
theorem lcell1 {l : List (Nat × ByteArray)} : ∀ u ∈ lcells l, u.oneCell' = true := by
  intro u hu
  simp only [lcells, List.mem_flatMap] at hu
  obtain ⟨x, _, hx⟩ := hu
  simp at hx
  rcases hx with rfl | rfl <;> rfl
theorem lcells_snoc (l : List (Nat × ByteArray)) (x : Nat × ByteArray) : lcells (l ++ [x]) = lcells l ++ [.int .i64 (x.1 : Int), .string x.2] := by simp [lcells]

set_option maxHeartbeats 1000000 in
theorem rwrite_range (w : World) (s l : Nat) (ga : Option Addr) (gn gc : Nat) (la : Option Addr) (ln lc : Nat) (f : Int) (c : Nat) (i : Int) (b : ByteArray) (h : i < 0 ∨ (gn : Int) ≤ i) :
    Calls Try.prog 15 #[.agg (dcs s l ga gn gc la ln lc f c), .int .i64 i, .string b] w fun r w' => r = .returned (.tuple #[.agg (dcs s l ga gn gc la ln lc f c), .int .i64 15]) ∧ w.grownBy w' none := by
  by_cases h0 : i < 0
  · go_enter Try.func15, Try.ntmps15
    go_wp2
    exact bodyPost_ret (results_D rfl _ _ (w.heap.size + 1) _ _ rfl rfl (two_lit1 _ _ _) rfl) rfl ⟨rfl, two_grown _ _ _⟩
  · have h1 : (gn : Int) ≤ i := by omega
    go_enter Try.func15, Try.ntmps15
    go_wp2
    exact bodyPost_ret (results_D rfl _ _ (w.heap.size + 1) _ _ rfl rfl (two_lit1 _ _ _) rfl) rfl ⟨rfl, two_grown _ _ _⟩
set_option maxHeartbeats 1000000 in
theorem rwrite_size (w : World) (s l : Nat) (ga : Option Addr) (gn gc : Nat) (la : Option Addr) (ln lc : Nat) (f : Int) (c : Nat) (i : Nat) (b : ByteArray) (h : i < gn) (hb : b.size ≠ s) :
    Calls Try.prog 15 #[.agg (dcs s l ga gn gc la ln lc f c), .int .i64 (i : Int), .string b] w fun r w' => r = .returned (.tuple #[.agg (dcs s l ga gn gc la ln lc f c), .int .i64 1]) ∧ w.grownBy w' none := by
  have h1 : (i : Int) < (gn : Int) := by omega
  have h2 : ((b.size : Int) == (s : Int)) = false := by simpa using (by omega : ¬ (b.size : Int) = (s : Int))
  go_enter Try.func15, Try.ntmps15
  go_wp2
  exact bodyPost_ret (results_D rfl _ _ (w.heap.size + 1) _ _ rfl rfl (two_lit1 _ _ _) rfl) rfl ⟨rfl, two_grown _ _ _⟩
set_option maxHeartbeats 1000000 in
theorem rwrite_fail (w : World) (s l : Nat) (ga : Option Addr) (gn gc : Nat) (la : Option Addr) (ln lc : Nat) (c : Nat) (i : Nat) (b : ByteArray) (h : i < gn) (hb : b.size = s) (hc : c < 9223372036854775807) :
    Calls Try.prog 15 #[.agg (dcs s l ga gn gc la ln lc 0 c), .int .i64 (i : Int), .string b] w fun r w' => r = .returned (.tuple #[.agg (dcs s l ga gn gc la ln lc (-1) (c + 1)), .int .i64 20]) ∧ w.grownBy w' none := by
  have h1 : (i : Int) < (gn : Int) := by omega
  subst hb
  go_enter Try.func15, Try.ntmps15
  go_wp2_with (go_at_call 54; refine (rcount_err _ _ l ga gn gc la ln lc c hc).mono ?_; rintro r w1 ⟨rfl, rfl⟩)
  exact bodyPost_ret (results_D rfl _ _ (w.heap.size + 1) _ _ rfl rfl (keep_alloc (keep_alloc (two_lit1 _ _ _) _) _) rfl) rfl ⟨rfl, four_grown _ _ _ _ _⟩

/-- The cells of a D that lies in a block of its own. -/
theorem cells6 {W : World} {q : Nat} {a b c d e f : Value} {t : TypeId} (h : W.heap[q]? = some (.cells #[a, b, c, d, e, f] t (0, 0))) :
    (W.cell? ⟨q, 0, none⟩ = some a ∧ W.cell? ⟨q, 1, none⟩ = some b ∧ W.cell? ⟨q, 2, none⟩ = some c ∧ W.cell? ⟨q, 3, none⟩ = some d ∧ W.cell? ⟨q, 4, none⟩ = some e ∧ W.cell? ⟨q, 5, none⟩ = some f) ∧
    W.frozen? ⟨q, 0, none⟩ = false ∧ W.frozen? ⟨q, 1, none⟩ = false ∧ W.frozen? ⟨q, 2, none⟩ = false ∧ W.frozen? ⟨q, 3, none⟩ = false ∧ W.frozen? ⟨q, 4, none⟩ = false ∧ W.frozen? ⟨q, 5, none⟩ = false := by
  refine ⟨⟨?_, ?_, ?_, ?_, ?_, ?_⟩, ?_, ?_, ?_, ?_, ?_, ?_⟩ <;> simp [World.cell?, World.frozen?, h]
theorem store6 {W : World} {q : Nat} {x0 x1 x2 x3 x4 x5 : Value} {t : TypeId} (h : W.heap[q]? = some (.cells #[x0, x1, x2, x3, x4, x5] t (0, 0))) (a b c d e f : Value) :
    ((((((W.setCell ⟨q, 0, none⟩ a).setCell ⟨q, 1, none⟩ b).setCell ⟨q, 2, none⟩ c).setCell ⟨q, 3, none⟩ d).setCell ⟨q, 4, none⟩ e).setCell ⟨q, 5, none⟩ f).heap[q]? = some (.cells #[a, b, c, d, e, f] t (0, 0)) := by
  have h1 : _ = some (Obj.cells #[a, x1, x2, x3, x4, x5] t (0, 0)) := heap_setCell_same _ q 0 _ t a h
  have h2 : _ = some (Obj.cells #[a, b, x2, x3, x4, x5] t (0, 0)) := heap_setCell_same _ q 1 _ t b h1
  have h3 : _ = some (Obj.cells #[a, b, c, x3, x4, x5] t (0, 0)) := heap_setCell_same _ q 2 _ t c h2
  have h4 : _ = some (Obj.cells #[a, b, c, d, x4, x5] t (0, 0)) := heap_setCell_same _ q 3 _ t d h3
  have h5 : _ = some (Obj.cells #[a, b, c, d, e, x5] t (0, 0)) := heap_setCell_same _ q 4 _ t e h4
  exact heap_setCell_same _ q 5 _ t f h5
theorem grown6 (W : World) (q : Nat) (a b c d e f : Value) : W.grownBy ((((((W.setCell ⟨q, 0, none⟩ a).setCell ⟨q, 1, none⟩ b).setCell ⟨q, 2, none⟩ c).setCell ⟨q, 3, none⟩ d).setCell ⟨q, 4, none⟩ e).setCell ⟨q, 5, none⟩ f) (some q) :=
  gtrans (gset _ _ _) (gtrans (gset _ _ _) (gtrans (gset _ _ _) (gtrans (gset _ _ _) (gtrans (gset _ _ _) (gset _ _ _)))))

set_option maxRecDepth 100000 in
set_option maxHeartbeats 4000000 in
theorem rwrite_some (w : World) (s l : Nat) (ga : Option Addr) (gn gc : Nat) (ad : Addr) (ln lc : Nat) (f : Int) (c : Nat) (loose : List (Nat × ByteArray)) (i : Nat) (b : ByteArray)
    (hl : Row w.heap.size w (.slice (some ad) ln lc) loose.length (lcells loose)) (hi : i < gn) (hb : b.size = s) (hn : loose.length ≤ 100000)
    (hf : -9223372036854775808 ≤ f) (hf2 : f ≤ 9223372036854775807) (hc : c < 9223372036854775807) (h0 : f ≠ 0) :
    Calls Try.prog 15 #[.agg (dcs s l ga gn gc (some ad) ln lc f c), .int .i64 (i : Int), .string b] w fun r w' => ∃ la' lc', r = .returned (.tuple #[.agg (dcs s l ga gn gc la' (loose.length + 1) lc' (fnext f) (c + 1)), .int .i64 0]) ∧
      Row w'.heap.size w' (.slice la' (loose.length + 1) lc') (loose.length + 1) (lcells (loose ++ [(i, b)])) ∧ w.grownBy w' none := by
  have hln : ln = loose.length := by obtain ⟨_, _, hv, _⟩ := hl; cases hv; rfl
  have h1 : (i : Int) < (gn : Int) := by omega
  have HL := Lib.hid hl
  obtain ⟨f', hf'⟩ : ∃ x, x = fnext f := ⟨_, rfl⟩
  have HF := Lib.hid hf'
  rw [← hf']
  have HLn := Lib.hid hln
  have hn1 : ln ≤ 100000 := by omega
  rw [← hln]
  have hcell : ∀ j u, (lcells loose)[j]? = some u → w.cell? (ad.add j) = some u := by
    intro j u hu
    have hj := (List.getElem?_eq_some_iff.1 hu).1
    obtain ⟨b0, o0, hab, _, hcc⟩ := hl.at (fun e => by rw [e] at hj; simp at hj)
    cases hab
    rw [Addr.add_lit, hcc j hj, hu]
  have HC := Lib.hid hcell
  subst hb
  clear hf' hln hn hl hcell
  obtain ⟨i0, hi0, hz0, hz1, hz2⟩ := info_parts infoL
  go_enter Try.func15, Try.ntmps15
  go_wp2_with (first
    | (go_at_call 54; refine (rcount_ok _ _ l ga gn gc (some ad) ln lc f c hf hf2 hc h0).mono ?_; rintro r w1 ⟨rfl, rfl⟩; rw [← HF.out])
    | (at_builtin; refine wpList_append_own _ rfl _ _ 30 rfl (w.heap.size + 4) 117 i0 (.agg #[.int .i64 0, .string ByteArray.empty]) 2 24 Try.underlying30 hi0 hz0 hz1 hz2 rfl (by decide) _ _ _ rfl (World.ownsRow_nil _ (w.heap.size + 4) _ _) ad ln lc (lcells loose) rfl ?c0 ?c1 lcell1 ?c3 ?c4 ?c5 ?_))
  case c0 => rw [lcells_len, ← HLn.out]; omega
  case c1 =>
    intro j u hu
    exact cell_alloc (cell_alloc (cell_alloc (cell_alloc (HC.out j u hu))))
  case c3 => unfold maxLen; omega
  case c4 => omega
  case c5 => simp
  intro v1 w1 hown hg1 _
  have hown : w1.ownsRow (w.heap.size + 4) 117 2 v1 ln (lcells loose) := by simpa only [Nat.zero_add, List.nil_append] using hown
  have hs1 : w.heap.size + 4 ≤ w1.heap.size := by have := hg1.size; simp at this; omega
  have hbox : w1.heap[w.heap.size]? = some (.cells (dcs b.size l ga gn gc (some ad) ln lc f' (c + 1)) 32 (0, 0)) := (hg1.block _ (by first | (simp; done) | (simp; omega)) (by simp [Value.ownBlock])).trans (keep_alloc (keep_alloc (two_lit0 _ _ _) _) _)
  have hres : w1.heap[w.heap.size + 1]? = some (.cells (dcs 0 0 none 0 0 none 0 0 0 0) 32 (0, 0)) := (hg1.block _ (by first | (simp; done) | (simp; omega)) (by simp [Value.ownBlock])).trans (keep_alloc (keep_alloc (two_lit1 _ _ _) _) _)
  have HG1 := Lib.hid (gtrans (four_grown w _ _ _ _) hg1)
  have HO := Lib.hid hown
  have HR := Lib.hid hres
  have HB := Lib.hid hbox
  clear hg1 hown hres hbox
  go_wp2_with (first
    | (at_builtin; refine wpList_append_own _ rfl _ _ 30 rfl (w.heap.size + 4) 117 i0 (.agg #[.int .i64 0, .string ByteArray.empty]) 2 24 Try.underlying30 hi0 hz0 hz1 hz2 rfl (by decide) _ _ _ rfl (HO.out.alloc _) ⟨w1.heap.size, 0, none⟩ 1 1 [.int .i64 (i : Int), .string b] rfl rfl ?d1 ?d2 ?d3 ?d4 ?d5 ?_))
  case d1 =>
    intro j u hu
    have hj := (List.getElem?_eq_some_iff.1 hu).1
    rw [Addr.add_lit, Nat.zero_add, World.cell?_alloc_mark, ← hu]
    match j, hj with
    | 0, _ => rfl
    | 1, _ => rfl
  case d2 => intro u hu; simp at hu; rcases hu with rfl | rfl <;> rfl
  case d3 => unfold maxLen; omega
  case d4 => omega
  case d5 => simp; omega
  intro v2 w2 hown2 hg2 _
  have hown2 : w2.ownsRow (w.heap.size + 4) 117 2 v2 (ln + 1) (lcells (loose ++ [(i, b)])) := by rw [lcells_snoc]; exact hown2
  have hfar : ∀ k, k < w.heap.size + 4 → w2.heap[k]? = w1.heap[k]? := fun k hk => by
    refine (hg2.block k (by simp; omega) ?_).trans (Below.heap_alloc w1 _ k (by omega))
    intro e
    have := (HO.out.lt k e.symm).1
    omega
  have hbox2 := (hfar w.heap.size (by omega)).trans HB.out
  have hres2 := (hfar (w.heap.size + 1) (by omega)).trans HR.out
  have hg2' : w1.grownBy w2 v1.ownBlock := gtrans (World.grownBy_alloc _ _ _) hg2
  have HG2 : Hid (w.grownBy w2 none) := Lib.hid (by
    refine ⟨hg2'.os.trans HG1.out.os, hg2'.tape.trans HG1.out.tape, hg2'.output.trans HG1.out.output, Nat.le_trans HG1.out.size hg2'.size, fun k hk _ => (hg2'.block k (by have := HG1.out.size; omega) ?_).trans (HG1.out.block k hk (by simp))⟩
    intro e
    have := (HO.out.lt k e.symm).1
    omega)
  obtain ⟨a2, c2, rfl⟩ := own_shape hown2
  have HO2 := Lib.hid hown2
  have HR2 := Lib.hid hres2
  obtain ⟨⟨b0, b1, b2, b3, b4, b5⟩, bf0, bf1, bf2, bf3, bf4, bf5⟩ := cells6 hbox2
  obtain ⟨⟨r0, r1, r2, r3, r4, r5⟩, rf0, rf1, rf2, rf3, rf4, rf5⟩ := cells6 hres2
  clear hown2 hg2 hg2' hfar hbox2 hres2
  go_wp2
  have hne : ∀ k, k < w.heap.size + 4 → (Value.slice a2 (ln + 1) c2).ownBlock = none ∨ (Value.slice a2 (ln + 1) c2).ownBlock ≠ some k := fun k hk => Or.inr fun e => by
    have := (HO2.out.lt k e).1
    omega
  have k1 := gset w2 ⟨w.heap.size, 3, none⟩ (.slice a2 (ln + 1) c2)
  have hr1 := (heap_setCell_other w2 ⟨w.heap.size, 3, none⟩ (w.heap.size + 1) (.slice a2 (ln + 1) c2) (by simp)).trans HR2.out
  have k2 := grown6 (w2.setCell ⟨w.heap.size, 3, none⟩ (.slice a2 (ln + 1) c2)) (w.heap.size + 1) (.int .i64 (b.size : Int)) (.int .i64 (l : Int)) (.slice ga gn gc) (.slice a2 (ln + 1) c2) (.int .i64 f') (.int .i64 ((c : Int) + 1))
  refine bodyPost_ret (results_D rfl _ _ (w.heap.size + 1) _ _ rfl rfl (store6 hr1 _ _ _ _ _ _) rfl) rfl ⟨a2, c2, rfl, ?_, gnew (gnew HG2.out k1 (Nat.le_refl _)) k2 (by omega)⟩
  exact Row.owned ((HO2.out.kept k1 (hne w.heap.size (by omega))).kept k2 (hne (w.heap.size + 1) (by omega))) (by decide)


set_option maxRecDepth 100000 in
set_option maxHeartbeats 4000000 in
theorem rwrite_none (w : World) (s l : Nat) (ga : Option Addr) (gn gc : Nat) (lc : Nat) (f : Int) (c : Nat) (i : Nat) (b : ByteArray)
    (hi : i < gn) (hb : b.size = s) (hf : -9223372036854775808 ≤ f) (hf2 : f ≤ 9223372036854775807) (hc : c < 9223372036854775807) (h0 : f ≠ 0) :
    Calls Try.prog 15 #[.agg (dcs s l ga gn gc none 0 lc f c), .int .i64 (i : Int), .string b] w fun r w' => ∃ la' lc', r = .returned (.tuple #[.agg (dcs s l ga gn gc la' 1 lc' (fnext f) (c + 1)), .int .i64 0]) ∧
      Row w'.heap.size w' (.slice la' 1 lc') 1 (lcells [(i, b)]) ∧ w.grownBy w' none := by
  have h1 : (i : Int) < (gn : Int) := by omega
  obtain ⟨f', hf'⟩ : ∃ x, x = fnext f := ⟨_, rfl⟩
  have HF := Lib.hid hf'
  rw [← hf']
  subst hb
  clear hf'
  obtain ⟨i0, hi0, hz0, hz1, hz2⟩ := info_parts infoL
  go_enter Try.func15, Try.ntmps15
  go_wp2_with (first
    | (go_at_call 54; refine (rcount_ok _ _ l ga gn gc none 0 lc f c hf hf2 hc h0).mono ?_; rintro r w1 ⟨rfl, rfl⟩; rw [← HF.out])
    | (at_builtin; refine wpList_append_own _ rfl _ _ 30 rfl (w.heap.size + 4) 117 i0 (.agg #[.int .i64 0, .string ByteArray.empty]) 2 24 Try.underlying30 hi0 hz0 hz1 hz2 rfl (by decide) _ _ _ rfl (World.ownsRow_nil _ (w.heap.size + 4) _ _) ⟨w.heap.size + 1 + 1 + 1 + 1, 0, none⟩ 1 1 [.int .i64 (i : Int), .string b] rfl rfl ?d1 ?d2 ?d3 ?d4 ?d5 ?_))
  case d1 =>
    intro j u hu
    have hj := (List.getElem?_eq_some_iff.1 hu).1
    rw [Addr.add_lit, Nat.zero_add, World.cell?_alloc_at _ _ _ _ (by simp), ← hu]
    match j, hj with
    | 0, _ => rfl
    | 1, _ => rfl
  case d2 => intro u hu; simp at hu; rcases hu with rfl | rfl <;> rfl
  case d3 => decide
  case d4 => omega
  case d5 => simp
  intro v2 w2 hown2 hg2 _
  have hown2 : w2.ownsRow (w.heap.size + 4) 117 2 v2 1 (lcells [(i, b)]) := hown2
  have hbox2 : w2.heap[w.heap.size]? = some (.cells (dcs b.size l ga gn gc none 0 lc f' (c + 1)) 32 (0, 0)) := (hg2.block _ (by first | (simp; done) | (simp; omega)) (by simp [Value.ownBlock])).trans (keep_alloc (keep_alloc (keep_alloc (two_lit0 _ _ _) _) _) _)
  have hres2 : w2.heap[w.heap.size + 1]? = some (.cells (dcs 0 0 none 0 0 none 0 0 0 0) 32 (0, 0)) := (hg2.block _ (by first | (simp; done) | (simp; omega)) (by simp [Value.ownBlock])).trans (keep_alloc (keep_alloc (keep_alloc (two_lit1 _ _ _) _) _) _)
  have HG2 : Hid (w.grownBy w2 none) := Lib.hid (gtrans (four_grown w _ _ _ _) (gtrans (World.grownBy_alloc _ _ _) hg2))
  obtain ⟨a2, c2, rfl⟩ := own_shape hown2
  have HO2 := Lib.hid hown2
  have HR2 := Lib.hid hres2
  obtain ⟨⟨b0, b1, b2, b3, b4, b5⟩, bf0, bf1, bf2, bf3, bf4, bf5⟩ := cells6 hbox2
  obtain ⟨⟨r0, r1, r2, r3, r4, r5⟩, rf0, rf1, rf2, rf3, rf4, rf5⟩ := cells6 hres2
  clear hown2 hg2 hbox2 hres2
  go_wp2
  have hne : ∀ k, k < w.heap.size + 4 → (Value.slice a2 1 c2).ownBlock = none ∨ (Value.slice a2 1 c2).ownBlock ≠ some k := fun k hk => Or.inr fun e => by
    have := (HO2.out.lt k e).1
    omega
  have k1 := gset w2 ⟨w.heap.size, 3, none⟩ (.slice a2 1 c2)
  have hr1 := (heap_setCell_other w2 ⟨w.heap.size, 3, none⟩ (w.heap.size + 1) (.slice a2 1 c2) (by simp)).trans HR2.out
  have k2 := grown6 (w2.setCell ⟨w.heap.size, 3, none⟩ (.slice a2 1 c2)) (w.heap.size + 1) (.int .i64 (b.size : Int)) (.int .i64 (l : Int)) (.slice ga gn gc) (.slice a2 1 c2) (.int .i64 f') (.int .i64 ((c : Int) + 1))
  refine bodyPost_ret (results_D rfl _ _ (w.heap.size + 1) _ _ rfl rfl (store6 hr1 _ _ _ _ _ _) rfl) rfl ⟨a2, c2, rfl, ?_, gnew (gnew HG2.out k1 (Nat.le_refl _)) k2 (by omega)⟩
  exact Row.owned ((HO2.out.kept k1 (hne w.heap.size (by omega))).kept k2 (hne (w.heap.size + 1) (by omega))) (by decide)

/-- A loose write more. -/
theorem rwrite_ok (w : World) (s l : Nat) (ga : Option Addr) (gn gc : Nat) (la : Option Addr) (ln lc : Nat) (f : Int) (c : Nat) (loose : List (Nat × ByteArray)) (i : Nat) (b : ByteArray)
    (hl : Row w.heap.size w (.slice la ln lc) loose.length (lcells loose)) (hi : i < gn) (hb : b.size = s) (hn : loose.length ≤ 100000)
    (hf : -9223372036854775808 ≤ f) (hf2 : f ≤ 9223372036854775807) (hc : c < 9223372036854775807) (h0 : f ≠ 0) :
    Calls Try.prog 15 #[.agg (dcs s l ga gn gc la ln lc f c), .int .i64 (i : Int), .string b] w fun r w' => ∃ la' lc', r = .returned (.tuple #[.agg (dcs s l ga gn gc la' (loose.length + 1) lc' (fnext f) (c + 1)), .int .i64 0]) ∧
      Row w'.heap.size w' (.slice la' (loose.length + 1) lc') (loose.length + 1) (lcells (loose ++ [(i, b)])) ∧ w.grownBy w' none := by
  cases la with
  | some ad => exact rwrite_some w s l ga gn gc ad ln lc f c loose i b hl hi hb hn hf hf2 hc h0
  | none =>
    have hne : loose = [] := by
      cases loose with
      | nil => rfl
      | cons x xs => obtain ⟨_, _, h, _⟩ := hl.at (fun e => by have := congrArg List.length e; rw [lcells_len] at this; simp at this); cases h
    subst hne
    have hln : ln = 0 := by obtain ⟨_, _, hv, _⟩ := hl; cases hv; rfl
    subst hln
    exact rwrite_none w s l ga gn gc lc f c i b hi hb hf hf2 hc h0

end Go.Proofs.Ytnodclijlhoobaa

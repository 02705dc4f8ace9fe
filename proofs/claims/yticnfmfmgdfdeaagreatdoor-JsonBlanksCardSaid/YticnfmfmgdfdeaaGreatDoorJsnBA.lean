/-
  Parse. Own work.
-/
import Derived.Test.YticnfmfmgdfdeaaGreatDoorJsnAZ
import Derived.Test.YticnfmfmgdfdeaaGreatDoorJsnAU
import Derived.Deep.RegionLaw

set_option linter.unusedVariables false
set_option linter.unusedSimpArgs false
namespace Go.Proofs.YticnfmfmgdfdeaaGreatDoor
open Go.RowKit

/-- What Parse answers. -/
def PR (s : Bs) (w : World) (r : Ending) (w' : World) : Prop :=
  ∃ j iv nv e, r = .returned (.tuple #[.agg (j.cs iv nv), .int .i64 e]) ∧ parseJ s = (j, e) ∧ JV (fun b => w.heap.size ≤ b) 17 j w' (.agg (j.cs iv nv)) ∧ Gr w w'

set_option maxRecDepth 100000 in
set_option maxHeartbeats 8000000 in
theorem jparse_big (s : Bs) (w : World) (hl : 4096 < s.length) : Calls Tryz.prog 15 #[.string (Sx s)] w fun r w' => PR s w r w' := by
  have hp : parseJ s = (.null, 13) := by unfold parseJ; rw [if_pos hl]
  have hsz : (Sx s).size = s.length := Sx_size s
  have h1 : (4096 : Int) < (s.length : Int) := by omega
  have hx := heap_alloc_new w (.cells zeroV 28)
  have HX := Lib.hid hx
  have HGW := Lib.hid (World.grownBy_alloc w (.cells zeroV 28) none)
  obtain ⟨x0, x1, x2, x3, x4, x5, x6, x7⟩ := cells8 hx
  obtain ⟨z0, z1, z2, z3, z4, z5, z6, z7⟩ := unfroz8 hx
  obtain ⟨B, hB⟩ : ∃ B, B = Sx s := ⟨_, rfl⟩
  rw [← hB] at hsz ⊢
  clear hB hl hx
  generalize s.length = L at *
  go_enter Tryz.func15, Tryz.ntmps15
  go_wp2
  exact bodyPost_ret (results_Val2 rfl _ _ w.heap.size _ _ rfl rfl HX.out rfl) rfl ⟨.null, nilS, nilS, 13, rfl, hp, JV.flat _ rfl rfl 16, HGW.out⟩

set_option maxRecDepth 100000 in
set_option maxHeartbeats 8000000 in
theorem jparse_err (s : Bs) (w : World) (hE : ES w) (hl : s.length ≤ 4096) (c : Int) (hpv : pV 16 s = .error c) : Calls Tryz.prog 15 #[.string (Sx s)] w fun r w' => PR s w r w' := by
  have hp : parseJ s = (.null, c) := by unfold parseJ; rw [if_neg (by omega), hpv]
  have hsz : (Sx s).size = s.length := Sx_size s
  have h1 : ¬ (4096 : Int) < (s.length : Int) := by omega
  have hx := heap_alloc_new w (.cells zeroV 28)
  have HX := Lib.hid hx
  have HGW := Lib.hid (World.grownBy_alloc w (.cells zeroV 28) none)
  have hsw : (w.alloc (.cells zeroV 28)).heap.size = w.heap.size + 1 := by simp
  have HSW := Lib.hid hsw
  have HE := Lib.hid (hE.gr HGW.out)
  have KN := newReader_any s (w.alloc (.cells zeroV 28))
  have KV : ∀ R M N w', M ≠ R → RC R M s 0 w' → ES w' → Mp w' M N (FB R) → Calls Tryz.prog 32 #[pR R] w' fun r w'' => RdR 17 (pV 16 s) R M 0 w' r w'' := fun R M N w' a b c d => by
    have := value_any R M N a 16 (Nat.le_refl _) s w' (by simpa using b) c d (by omega)
    simpa using this
  unfold RdR at KV
  rw [hpv] at KV
  simp only at KV
  replace KV := Lib.hid KV
  obtain ⟨B, hB⟩ : ∃ B, B = Sx s := ⟨_, rfl⟩
  rw [← hB] at hsz KN ⊢
  clear hB hE hl hx hsw hpv
  generalize s.length = L at *
  go_enter Tryz.func15, Tryz.ntmps15
  go_wp2_with (first
    | (go_at_call 31; ((with_reducible refine KN.mono ?_); rintro r w1 ⟨R, M, N, rfl, hR, hM, hMR, hc, hm, hg⟩); have H1 := Lib.hid hc; have M1 := Lib.hid hm; have G1' := Lib.hid hg; have HR := Lib.hid hR; have HMR := Lib.hid hMR; have hq1 := (hg.block _ (lt_of_block HX.out) (by simp)).trans HX.out; have HQ1 := Lib.hid hq1; clear hc hm hg hR hM hMR hq1)
    | (go_at_call 32; ((with_reducible refine (KV.out R M N w1 HMR.out H1.out (HE.out.gr G1'.out) M1.out).mono ?_); rintro r w2 ⟨j, iv2, nv2, e, s', rfl, hj, hc, hg, rfl, hne⟩); obtain ⟨a1, c1, a2, c2, rfl, rfl⟩ := hj.shape; have HJ := Lib.hid hj; have H2 := Lib.hid hc; have G2 := Lib.hid hg; have hq2 := (hg.block _ (lt_of_block HQ1.out) (by intro e; injection e with e; have := HR.out; have := HSW.out; omega)).trans HQ1.out; have hne2 : (e == 0) = false := beq_eq_false_iff_ne.2 hne; have hne3 : ¬ e = 0 := hne;obtain ⟨x0, x1, x2, x3, x4, x5, x6, x7⟩ := cells8 (show (w2.alloc (.cells #[.int .i64 j.kind, .bool j.isB, .bool j.nm.down, .string (Sx j.nm.digs), .int .i64 j.nm.exp, .string (Sx j.tx), .slice a1 j.items.length c1, .slice a2 j.names.length c2] 28)).heap[w.heap.size]? = _ from ((World.grownBy_alloc w2 _ none).block _ (lt_of_block hq2) (by simp)).trans hq2); obtain ⟨z0, z1, z2, z3, z4, z5, z6, z7⟩ := unfroz8 (show (w2.alloc (.cells #[.int .i64 j.kind, .bool j.isB, .bool j.nm.down, .string (Sx j.nm.digs), .int .i64 j.nm.exp, .string (Sx j.tx), .slice a1 j.items.length c1, .slice a2 j.names.length c2] 28)).heap[w.heap.size]? = _ from ((World.grownBy_alloc w2 _ none).block _ (lt_of_block hq2) (by simp)).trans hq2); have HQ2 := Lib.hid hq2; clear hj hc hg hq2 hne))
  refine bodyPost_ret (results_Val2 rfl _ _ w.heap.size _ _ rfl rfl (set8 (show (w2.alloc _).heap[w.heap.size]? = _ from ((World.grownBy_alloc w2 _ none).block _ (lt_of_block HQ2.out) (by simp)).trans HQ2.out)) rfl) rfl ⟨.null, nilS, nilS, _, rfl, hp, JV.flat _ rfl rfl 16, gr_set8 (gtrans (gnew (gtrans HGW.out G1'.out) G2.out (by have := HR.out; have := HSW.out; omega)) (World.grownBy_alloc w2 _ none)) (Nat.le_refl _) _ _ _ _ _ _ _ _⟩

set_option maxRecDepth 100000 in
set_option maxHeartbeats 8000000 in
theorem jparse_ok (s : Bs) (w : World) (hE : ES w) (hl : s.length ≤ 4096) (j0 : J) (rr : Bs) (hpv : pV 16 s = .ok (j0, rr)) (hrr : blk rr = []) : Calls Tryz.prog 15 #[.string (Sx s)] w fun r w' => PR s w r w' := by
  have hp : parseJ s = (j0, 0) := by unfold parseJ; rw [if_neg (by omega), hpv]; simp only; rw [if_pos hrr]
  have KB := Lib.hid (fun R M w' (a : RC R M rr 0 w') => blanks_any R M rr 0 w' a)
  rw [hrr] at KB
  have hsz : (Sx s).size = s.length := Sx_size s
  have h1 : ¬ (4096 : Int) < (s.length : Int) := by omega
  have hx := heap_alloc_new w (.cells zeroV 28)
  have HX := Lib.hid hx
  have HGW := Lib.hid (World.grownBy_alloc w (.cells zeroV 28) none)
  have hsw : (w.alloc (.cells zeroV 28)).heap.size = w.heap.size + 1 := by simp
  have HSW := Lib.hid hsw
  have HE := Lib.hid (hE.gr HGW.out)
  have KN := newReader_any s (w.alloc (.cells zeroV 28))
  have KV : ∀ R M N w', M ≠ R → RC R M s 0 w' → ES w' → Mp w' M N (FB R) → Calls Tryz.prog 32 #[pR R] w' fun r w'' => RdR 17 (pV 16 s) R M 0 w' r w'' := fun R M N w' a b c d => by
    have := value_any R M N a 16 (Nat.le_refl _) s w' (by simpa using b) c d (by omega)
    simpa using this
  unfold RdR at KV
  rw [hpv] at KV
  simp only at KV
  replace KV := Lib.hid KV
  obtain ⟨B, hB⟩ : ∃ B, B = Sx s := ⟨_, rfl⟩
  rw [← hB] at hsz KN ⊢
  clear hB hE hl hx hsw hpv
  generalize s.length = L at *
  go_enter Tryz.func15, Tryz.ntmps15
  go_wp2_with (first
    | (go_at_call 31; ((with_reducible refine KN.mono ?_); rintro r w1 ⟨R, M, N, rfl, hR, hM, hMR, hc, hm, hg⟩); have H1 := Lib.hid hc; have M1 := Lib.hid hm; have G1' := Lib.hid hg; have HR := Lib.hid hR; have HMR := Lib.hid hMR; have hq1 := (hg.block _ (lt_of_block HX.out) (by simp)).trans HX.out; have HQ1 := Lib.hid hq1; clear hc hm hg hR hM hMR hq1)
    | (go_at_call 32; ((with_reducible refine (KV.out R M N w1 HMR.out H1.out (HE.out.gr G1'.out) M1.out).mono ?_); rintro r w2 ⟨j, iv2, nv2, e, s', rfl, hj, hc, hg, rfl, rfl, rfl⟩); obtain ⟨a1, c1, a2, c2, rfl, rfl⟩ := hj.shape; have HJ := Lib.hid hj; have H2 := Lib.hid hc; have G2 := Lib.hid hg; have hq2 := (hg.block _ (lt_of_block HQ1.out) (by intro e; injection e with e; have := HR.out; have := HSW.out; omega)).trans HQ1.out; obtain ⟨x0, x1, x2, x3, x4, x5, x6, x7⟩ := cells8 (show (w2.alloc (.cells #[.int .i64 j.kind, .bool j.isB, .bool j.nm.down, .string (Sx j.nm.digs), .int .i64 j.nm.exp, .string (Sx j.tx), .slice a1 j.items.length c1, .slice a2 j.names.length c2] 28)).heap[w.heap.size]? = _ from ((World.grownBy_alloc w2 _ none).block _ (lt_of_block hq2) (by simp)).trans hq2); obtain ⟨z0, z1, z2, z3, z4, z5, z6, z7⟩ := unfroz8 (show (w2.alloc (.cells #[.int .i64 j.kind, .bool j.isB, .bool j.nm.down, .string (Sx j.nm.digs), .int .i64 j.nm.exp, .string (Sx j.tx), .slice a1 j.items.length c1, .slice a2 j.names.length c2] 28)).heap[w.heap.size]? = _ from ((World.grownBy_alloc w2 _ none).block _ (lt_of_block hq2) (by simp)).trans hq2); have HQ2 := Lib.hid hq2; clear hj hc hg hq2)
    | (go_at_call 33; ((with_reducible refine (KB.out R M _ (H2.out.gr (World.grownBy_alloc w2 (.cells #[.int .i64 j.kind, .bool j.isB, .bool j.nm.down, .string (Sx j.nm.digs), .int .i64 j.nm.exp, .string (Sx j.tx), .slice a1 j.items.length c1, .slice a2 j.names.length c2] 28) none))).mono ?_); rintro r w3 ⟨rfl, hc, hg⟩); have H3 := Lib.hid hc; have G3 := Lib.hid hg; obtain ⟨c0, d1, d2, f0, f1, f2⟩ := hc.cells; clear x0 x1 x2 x3 x4 x5 x6 x7 z0 z1 z2 z3 z4 z5 z6 z7; have hqa := ((World.grownBy_alloc w2 (.cells #[.int .i64 j.kind, .bool j.isB, .bool j.nm.down, .string (Sx j.nm.digs), .int .i64 j.nm.exp, .string (Sx j.tx), .slice a1 j.items.length c1, .slice a2 j.names.length c2] 28) none).block _ (lt_of_block HQ2.out) (by simp)).trans HQ2.out; have hq3 := (hg.block _ (lt_of_block hqa) (by intro e; injection e with e; have := HR.out; have := HSW.out; omega)).trans hqa; have HQ3 := Lib.hid hq3; obtain ⟨x0, x1, x2, x3, x4, x5, x6, x7⟩ := cells8 hq3; obtain ⟨z0, z1, z2, z3, z4, z5, z6, z7⟩ := unfroz8 hq3; have hyb := (hg.block w2.heap.size (by simp) (by intro e; injection e with e; have := lt_of_block H2.out; omega)).trans (heap_alloc_new w2 (.cells #[.int .i64 j.kind, .bool j.isB, .bool j.nm.down, .string (Sx j.nm.digs), .int .i64 j.nm.exp, .string (Sx j.tx), .slice a1 j.items.length c1, .slice a2 j.names.length c2] 28)); have HYB := Lib.hid hyb; obtain ⟨y0, y1, y2, y3, y4, y5, y6, y7⟩ := cells8 hyb; clear hc hg hqa hq3 hyb d1 d2 f0 f1 f2; rw [show Sx [] = ⟨#[]⟩ from rfl] at c0))
  refine bodyPost_ret (results_Val2 rfl _ _ w.heap.size _ _ rfl rfl (set8 HQ3.out) rfl) rfl ⟨j, _, _, 0, rfl, hp, ?_, gr_set8 (gnew (gtrans (gnew (gtrans HGW.out G1'.out) G2.out (by have := HR.out; have := HSW.out; omega)) (World.grownBy_alloc w2 _ none)) G3.out (by have := HR.out; have := HSW.out; omega)) (Nat.le_refl _) _ _ _ _ _ _ _ _⟩
  have hs1 := G1'.out.size
  have hs2 := G2.out.size
  exact JV.keep (fun b hb hlt => ⟨(set8_other (by have := HSW.out; omega) _ _ _ _ _ _ _ _).trans ((G3.out.block b (by simp; omega) (by intro e; injection e with e; have := H1.out.lt; omega)).trans ((World.grownBy_alloc w2 _ none).block b hlt (by simp))), by have := HSW.out; omega⟩) 17 j _ HJ.out 17 (Nat.le_refl _)

set_option maxRecDepth 100000 in
set_option maxHeartbeats 8000000 in
theorem jparse_more (s : Bs) (w : World) (hE : ES w) (hl : s.length ≤ 4096) (j0 : J) (rr : Bs) (hpv : pV 16 s = .ok (j0, rr)) (b : UInt8) (t : Bs) (hrr : blk rr = b :: t) : Calls Tryz.prog 15 #[.string (Sx s)] w fun r w' => PR s w r w' := by
  have hp : parseJ s = (.null, 11) := by unfold parseJ; rw [if_neg (by omega), hpv]; simp only; rw [if_neg (by rw [hrr]; simp)]
  have KB := Lib.hid (fun R M w' (a : RC R M rr 0 w') => blanks_any R M rr 0 w' a)
  have hne1 : (Sx (blk rr)).toList.isEmpty = false := by rw [Sx_toList, hrr]; rfl
  have hne2 : (Sx (blk rr)).size = t.length + 1 := by rw [Sx_size, hrr]; rfl
  obtain ⟨T, hT⟩ : ∃ T, T = Sx (blk rr) := ⟨_, rfl⟩
  rw [← hT] at hne1 hne2
  have HT := Lib.hid hT
  clear hT
  have hsz : (Sx s).size = s.length := Sx_size s
  have h1 : ¬ (4096 : Int) < (s.length : Int) := by omega
  have hx := heap_alloc_new w (.cells zeroV 28)
  have HX := Lib.hid hx
  have HGW := Lib.hid (World.grownBy_alloc w (.cells zeroV 28) none)
  have hsw : (w.alloc (.cells zeroV 28)).heap.size = w.heap.size + 1 := by simp
  have HSW := Lib.hid hsw
  have HE := Lib.hid (hE.gr HGW.out)
  have KN := newReader_any s (w.alloc (.cells zeroV 28))
  have KV : ∀ R M N w', M ≠ R → RC R M s 0 w' → ES w' → Mp w' M N (FB R) → Calls Tryz.prog 32 #[pR R] w' fun r w'' => RdR 17 (pV 16 s) R M 0 w' r w'' := fun R M N w' a b c d => by
    have := value_any R M N a 16 (Nat.le_refl _) s w' (by simpa using b) c d (by omega)
    simpa using this
  unfold RdR at KV
  rw [hpv] at KV
  simp only at KV
  replace KV := Lib.hid KV
  obtain ⟨B, hB⟩ : ∃ B, B = Sx s := ⟨_, rfl⟩
  rw [← hB] at hsz KN ⊢
  clear hB hE hl hx hsw hpv
  generalize s.length = L at *
  go_enter Tryz.func15, Tryz.ntmps15
  go_wp2_with (first
    | (go_at_call 31; ((with_reducible refine KN.mono ?_); rintro r w1 ⟨R, M, N, rfl, hR, hM, hMR, hc, hm, hg⟩); have H1 := Lib.hid hc; have M1 := Lib.hid hm; have G1' := Lib.hid hg; have HR := Lib.hid hR; have HMR := Lib.hid hMR; have hq1 := (hg.block _ (lt_of_block HX.out) (by simp)).trans HX.out; have HQ1 := Lib.hid hq1; clear hc hm hg hR hM hMR hq1)
    | (go_at_call 32; ((with_reducible refine (KV.out R M N w1 HMR.out H1.out (HE.out.gr G1'.out) M1.out).mono ?_); rintro r w2 ⟨j, iv2, nv2, e, s', rfl, hj, hc, hg, rfl, rfl, rfl⟩); obtain ⟨a1, c1, a2, c2, rfl, rfl⟩ := hj.shape; have HJ := Lib.hid hj; have H2 := Lib.hid hc; have G2 := Lib.hid hg; have hq2 := (hg.block _ (lt_of_block HQ1.out) (by intro e; injection e with e; have := HR.out; have := HSW.out; omega)).trans HQ1.out; obtain ⟨x0, x1, x2, x3, x4, x5, x6, x7⟩ := cells8 (show (w2.alloc (.cells #[.int .i64 j.kind, .bool j.isB, .bool j.nm.down, .string (Sx j.nm.digs), .int .i64 j.nm.exp, .string (Sx j.tx), .slice a1 j.items.length c1, .slice a2 j.names.length c2] 28)).heap[w.heap.size]? = _ from ((World.grownBy_alloc w2 _ none).block _ (lt_of_block hq2) (by simp)).trans hq2); obtain ⟨z0, z1, z2, z3, z4, z5, z6, z7⟩ := unfroz8 (show (w2.alloc (.cells #[.int .i64 j.kind, .bool j.isB, .bool j.nm.down, .string (Sx j.nm.digs), .int .i64 j.nm.exp, .string (Sx j.tx), .slice a1 j.items.length c1, .slice a2 j.names.length c2] 28)).heap[w.heap.size]? = _ from ((World.grownBy_alloc w2 _ none).block _ (lt_of_block hq2) (by simp)).trans hq2); have HQ2 := Lib.hid hq2; clear hj hc hg hq2)
    | (go_at_call 33; ((with_reducible refine (KB.out R M _ (H2.out.gr (World.grownBy_alloc w2 (.cells #[.int .i64 j.kind, .bool j.isB, .bool j.nm.down, .string (Sx j.nm.digs), .int .i64 j.nm.exp, .string (Sx j.tx), .slice a1 j.items.length c1, .slice a2 j.names.length c2] 28) none))).mono ?_); rintro r w3 ⟨rfl, hc, hg⟩); have H3 := Lib.hid hc; have G3 := Lib.hid hg; obtain ⟨c0, d1, d2, f0, f1, f2⟩ := hc.cells; clear x0 x1 x2 x3 x4 x5 x6 x7 z0 z1 z2 z3 z4 z5 z6 z7; have hqa := ((World.grownBy_alloc w2 (.cells #[.int .i64 j.kind, .bool j.isB, .bool j.nm.down, .string (Sx j.nm.digs), .int .i64 j.nm.exp, .string (Sx j.tx), .slice a1 j.items.length c1, .slice a2 j.names.length c2] 28) none).block _ (lt_of_block HQ2.out) (by simp)).trans HQ2.out; have hq3 := (hg.block _ (lt_of_block hqa) (by intro e; injection e with e; have := HR.out; have := HSW.out; omega)).trans hqa; have HQ3 := Lib.hid hq3; obtain ⟨x0, x1, x2, x3, x4, x5, x6, x7⟩ := cells8 hq3; obtain ⟨z0, z1, z2, z3, z4, z5, z6, z7⟩ := unfroz8 hq3; have hyb := (hg.block w2.heap.size (by simp) (by intro e; injection e with e; have := lt_of_block H2.out; omega)).trans (heap_alloc_new w2 (.cells #[.int .i64 j.kind, .bool j.isB, .bool j.nm.down, .string (Sx j.nm.digs), .int .i64 j.nm.exp, .string (Sx j.tx), .slice a1 j.items.length c1, .slice a2 j.names.length c2] 28)); have HYB := Lib.hid hyb; obtain ⟨y0, y1, y2, y3, y4, y5, y6, y7⟩ := cells8 hyb; clear hc hg hqa hq3 hyb d1 d2 f0 f1 f2; rw [← HT.out] at c0))
  exact bodyPost_ret (results_Val2 rfl _ _ w.heap.size _ _ rfl rfl (set8 HQ3.out) rfl) rfl ⟨.null, nilS, nilS, 11, rfl, hp, JV.flat _ rfl rfl 16, gr_set8 (gnew (gtrans (gnew (gtrans HGW.out G1'.out) G2.out (by have := HR.out; have := HSW.out; omega)) (World.grownBy_alloc w2 _ none)) G3.out (by have := HR.out; have := HSW.out; omega)) (Nat.le_refl _) _ _ _ _ _ _ _ _⟩

theorem Parse_any (s : Bs) (w : World) (hE : ES w) : Calls Tryz.prog 15 #[.string (Sx s)] w fun r w' => PR s w r w' := by
  by_cases hl : 4096 < s.length
  · exact jparse_big s w hl
  · cases hp : pV 16 s with
    | error c => exact jparse_err s w hE (by omega) c hp
    | ok jr =>
      obtain ⟨j, rr⟩ := jr
      cases hrr : blk rr with
      | nil => exact jparse_ok s w hE (by omega) j rr hp hrr
      | cons b t => exact jparse_more s w hE (by omega) j rr hp b t hrr

end Go.Proofs.YticnfmfmgdfdeaaGreatDoor

namespace Go.Proofs.YticnfmfmgdfdeaaGreatDoor
open Go.RowKit

/-- Behind appends: the row is l' now; all that stood is as it was, but the row's block. -/
structure AP (B : Nat) (w : World) (v : Value) (l' : Bs) (v' : Value) (w' : World) : Prop where
  ob : OB B w' v' l'
  gr : w.grownBy w' v.ownBlock
  fr : Fresh w v v'
theorem AP.trans {B : Nat} {w w1 w2 : World} {v v1 v2 : Value} {l1 l2 : Bs} (h : AP B w v l1 v1 w1) (k : AP B w1 v1 l2 v2 w2) : AP B w v l2 v2 w2 := by
  have hne : ∀ b, b < w.heap.size → v.ownBlock ≠ some b → v1.ownBlock ≠ some b := fun b h1 h2 => by
    rcases h.fr with e | ⟨q, e, hq⟩
    · rw [e]; exact h2
    · rw [e]; intro h; injection h with h; omega
  refine ⟨k.ob, ⟨k.gr.os.trans h.gr.os, k.gr.tape.trans h.gr.tape, k.gr.output.trans h.gr.output, Nat.le_trans h.gr.size k.gr.size, fun b hb hn => (k.gr.block b (Nat.lt_of_lt_of_le hb h.gr.size) (fun e => hne b hb (fun e2 => hn e2.symm) e.symm)).trans (h.gr.block b hb hn)⟩, ?_⟩
  rcases k.fr with e | ⟨q, e, hq⟩
  · rcases h.fr with e1 | ⟨q, e1, hq⟩
    · exact .inl (e.trans e1)
    · exact .inr ⟨q, e.trans e1, hq⟩
  · exact .inr ⟨q, e, Nat.le_trans h.gr.size hq⟩
theorem AP.pre {B : Nat} {w0 w w1 : World} {v v1 : Value} {l1 : Bs} (g : Gr w0 w) (h : AP B w v l1 v1 w1) : AP B w0 v l1 v1 w1 := by
  refine ⟨h.ob, gtrans (gwide g) h.gr, ?_⟩
  rcases h.fr with e | ⟨q, e, hq⟩
  · exact .inl e
  · exact .inr ⟨q, e, Nat.le_trans g.size hq⟩
theorem AP.refl {B : Nat} {w : World} {v : Value} {l : Bs} (h : OB B w v l) : AP B w v l v w := ⟨h, ⟨rfl, rfl, rfl, Nat.le_refl _, fun _ _ _ => rfl⟩, .inl rfl⟩
theorem OB.gr {B : Nat} {w w' : World} {v : Value} {l : Bs} (h : OB B w v l) (g : Gr w w') : OB B w' v l := own_keep h (fun b hb => by
  obtain ⟨_, c, h2⟩ := own_ge h hb
  exact g.block b (lt_of_block h2) (by simp))
theorem AP.post {B : Nat} {w w1 w2 : World} {v v1 : Value} {l1 : Bs} (h : AP B w v l1 v1 w1) (g : Gr w1 w2) : AP B w v l1 v1 w2 := AP.trans h ⟨h.ob.gr g, gwide g, .inl rfl⟩
theorem AP.lt {B : Nat} {w : World} {v : Value} {l : Bs} (h : OB B w v l) : ∀ b, v.ownBlock = some b → b < w.heap.size := fun b hb => by
  obtain ⟨_, c, h2⟩ := own_ge h hb
  exact lt_of_block h2

theorem run_append_str2 {P : Program} (w : World) (base : Nat) (t u ty e : TypeId) (i : TypeInfo) (ht : P.underlying t = some (.slice e)) (hu : P.underlying u = some .string) (hi : P.info? e = some i) (hz : i.zero = some (.int .u8 0))
    (hsize : i.size = 1) (hby : i.bytes = 1) (v : Value) (n : Nat) (xs : List Value) (hown : w.ownsRow base e 1 v n xs) (s : ByteArray)
    (h63 : n + s.size ≤ maxLen) (hbytes : n + s.size ≤ 140737488355328) (hbase : base ≤ w.heap.size) :
    ∃ v' w', (Builtin.append_ #[t, u] ty #[v, .string s]).run P w = .ok v' w' ∧ w'.ownsRow base e 1 v' (n + s.size) (xs ++ Lib.strCells s) ∧ w.grownBy w' v.ownBlock ∧ Fresh w v v' := by
  obtain ⟨v', w', hr, h2, h3, _⟩ := Lib.run_append_own_string (P := P) w base t u ty e i ht hu hi hz hsize hby v n xs hown s h63 hbytes hbase
  refine ⟨v', w', hr, h2, h3, ?_⟩
  rcases hown.2 with ⟨rfl, rfl⟩ | ⟨g, cap, cur, rfl, hbg, hg, hnc, hcm, hcs, htake⟩
  · have hx : xs = [] := List.eq_nil_of_length_eq_zero (by simpa using hown.1)
    subst hx
    obtain ⟨v2, w2, hr2, h22, _⟩ := Lib.run_append_own_string (P := P) w w.heap.size t u ty e i ht hu hi hz hsize hby (.slice none 0 0) 0 [] (World.ownsRow_nil _ _ _ _) s h63 hbytes (Nat.le_refl _)
    rw [hr] at hr2
    injection hr2 with e1 e2
    subst e1; subst e2
    rcases h22.2 with ⟨rfl, _⟩ | ⟨g, cap, cur, rfl, hb, _⟩
    · exact .inl rfl
    · exact .inr ⟨g, rfl, hb⟩
  · have hmx : n + s.size ≤ 9223372036854775807 := by simp only [maxLen] at h63; omega
    by_cases hroom : n + s.size ≤ cap
    · have hr2 := Lib.run_append_room_string (P := P) w t u ty e i ht hu hi hsize g n cap cur hg s hroom (by omega)
      rw [hr] at hr2
      injection hr2 with e1 e2
      subst e1
      exact .inl rfl
    · have holds : ∀ j u, xs[j]? = some u → w.cell? ((⟨g, 0, none⟩ : Addr).add j) = some u := hown.cells (g := g) rfl
      have hr2 := Lib.run_append_grow_string (P := P) w t u ty e i (.int .u8 0) ht hu hi hz ⟨g, 0, none⟩ n cap xs (by rw [hsize]; simpa using hown.1) holds s (by omega) (by omega) (by rw [hby]; exact growslice_fits (by omega) (by omega))
      rw [hr] at hr2
      injection hr2 with e1 e2
      subst e1
      exact .inr ⟨_, rfl, Nat.le_refl _⟩

section
variable {ops : Array Oper} {rest : List Oper} {o : Oper} {a : Act} {Q : Exit → Act → World → Prop}
theorem wp_ap_lit (hgd : o.guard = none) (s x : Operand) (ho : o.op = .call { callee := .builtin .append, args := #[s, x], argTypes := #[48, 48] }) (B : Nat) (v : Value) (l : Bs) (c : UInt8) (k : Int) (hk : k = (c.toNat : Int)) (w : World)
    (hs : a.eval s = v) (g : Nat) (hx : a.eval x = .slice (some ⟨g, 0, none⟩) 1 1) (hg : g = w.heap.size) (hown : OB B w v l) (hB : B ≤ w.heap.size) (hl : l.length ≤ 1000000000)
    (h : ∀ v' w', AP B w v (l ++ [c]) v' w' → wpList Tryz.prog ops Q rest (a.put o.dst v') w') : wpList Tryz.prog ops Q (o :: rest) a (w.alloc (.cells #[.int .u8 k] 5)) := by
  subst hk hg
  obtain ⟨i0, hi, hz0, hz1, hz2⟩ := info_parts infoByte
  have hown1 : (w.alloc (.cells #[.int .u8 c.toNat] 5)).ownsRow B 5 1 v l.length (Lib.byteCells l) := World.ownsRow.alloc hown _
  refine wpList_append_own2 _ hgd s x 48 ho B 5 i0 (.int .u8 0) 1 1 Tryz.underlying48 hi hz0 hz1 hz2 rfl (by decide) v _ _ hs hown1 ⟨w.heap.size, 0, none⟩ 1 1 [.int .u8 c.toNat] hx rfl (lit_one _ _) (by intro u hu; simp at hu; subst hu; rfl) (by simp [maxLen]; omega) (by omega) (by simp; omega) ?_
  intro v' w' ho hgr hf
  refine h v' w' (AP.pre (World.grownBy_alloc w _ none) ⟨?_, hgr, hf⟩)
  unfold OB; rw [List.length_append, ← byteCells_app]; exact ho
theorem lit_two (w : World) (x y : Value) : ∀ j u, [x, y][j]? = some u → (w.alloc (.cells #[x, y] 5)).cell? ((⟨w.heap.size, 0, none⟩ : Addr).add j) = some u := by
  intro j u hj
  rw [addr_add, Nat.zero_add]
  simp only [World.cell?, heap_alloc_new w (.cells #[x, y] 5)]
  simpa using hj
theorem wp_ap_two (hgd : o.guard = none) (s x : Operand) (ho : o.op = .call { callee := .builtin .append, args := #[s, x], argTypes := #[48, 48] }) (B : Nat) (v : Value) (l : Bs) (c d : UInt8) (k m : Int) (hk : k = (c.toNat : Int)) (hm : m = (d.toNat : Int)) (w : World)
    (hs : a.eval s = v) (g : Nat) (hx : a.eval x = .slice (some ⟨g, 0, none⟩) 2 2) (hg : g = w.heap.size) (hown : OB B w v l) (hB : B ≤ w.heap.size) (hl : l.length ≤ 1000000000)
    (h : ∀ v' w', AP B w v (l ++ [c, d]) v' w' → wpList Tryz.prog ops Q rest (a.put o.dst v') w') : wpList Tryz.prog ops Q (o :: rest) a (w.alloc (.cells #[.int .u8 k, .int .u8 m] 5)) := by
  subst hk hm hg
  obtain ⟨i0, hi, hz0, hz1, hz2⟩ := info_parts infoByte
  have hown1 : (w.alloc (.cells #[.int .u8 c.toNat, .int .u8 d.toNat] 5)).ownsRow B 5 1 v l.length (Lib.byteCells l) := World.ownsRow.alloc hown _
  refine wpList_append_own2 _ hgd s x 48 ho B 5 i0 (.int .u8 0) 1 1 Tryz.underlying48 hi hz0 hz1 hz2 rfl (by decide) v _ _ hs hown1 ⟨w.heap.size, 0, none⟩ 2 2 [.int .u8 c.toNat, .int .u8 d.toNat] hx rfl (lit_two _ _ _) (by intro u hu; simp at hu; rcases hu with rfl | rfl <;> rfl) (by simp [maxLen]; omega) (by omega) (by simp; omega) ?_
  intro v' w' ho hgr hf
  refine h v' w' (AP.pre (World.grownBy_alloc w _ none) ⟨?_, hgr, hf⟩)
  unfold OB; rw [List.length_append, ← byteCells_app]; exact ho
theorem wp_ap_str (hgd : o.guard = none) (s x : Operand) (ho : o.op = .call { callee := .builtin .append, args := #[s, x], argTypes := #[48, 9] }) (B : Nat) (v : Value) (l m : Bs) (w : World)
    (hs : a.eval s = v) (hx : a.eval x = .string (Sx m)) (hown : OB B w v l) (hB : B ≤ w.heap.size) (hl : l.length ≤ 1000000000) (hm : m.length ≤ 1000000000)
    (h : ∀ v' w', AP B w v (l ++ m) v' w' → wpList Tryz.prog ops Q rest (a.put o.dst v') w') : wpList Tryz.prog ops Q (o :: rest) a w := by
  obtain ⟨i0, hi, hz0, hz1, hz2⟩ := info_parts infoByte
  have hsz := Sx_size m
  obtain ⟨v', w', hr, ho', hgr, hf⟩ := run_append_str2 (P := Tryz.prog) w B 48 9 o.type 5 i0 Tryz.underlying48 Tryz.underlying9 hi hz0 hz1 hz2 v _ _ hown (Sx m) (by rw [hsz]; simp [maxLen]; omega) (by rw [hsz]; omega) hB
  refine wpList_plain hgd fun K hK => ?_
  unfold Oper.wp execOp
  simp only [ho, resolve, invoke, builtin, Sem.run_bind, Sem.run_pure, Result.andThen_ok, List.map_toArray, List.map_cons, List.map_nil, hs, hx, hr]
  refine hK _ _ (h v' w' ⟨?_, hgr, hf⟩)
  unfold OB; rw [List.length_append, ← byteCells_app]
  rw [hsz] at ho'
  exact ho'
end

theorem wordOf_any (b : Bool) (w : World) : Calls Tryz.prog 75 #[.bool b] w fun r w' => r = .returned (.string (Sx (textJ (.bool b)))) ∧ w' = w := by
  cases b with
  | true =>
    go_enter Tryz.func75, Tryz.ntmps75
    go_wp2
    go_ret
    exact ⟨rfl, rfl⟩
  | false =>
    go_enter Tryz.func75, Tryz.ntmps75
    go_wp2
    go_ret
    exact ⟨rfl, rfl⟩
/-- What stands ahead of thing i. -/
def comB (i : Nat) : Bs := if i = 0 then [] else [44]
theorem comma_any (B i : Nat) (v : Value) (l : Bs) (w : World) (hown : OB B w v l) (hB : B ≤ w.heap.size) (hl : l.length ≤ 100000000) :
    Calls Tryz.prog 124 #[v, .int .i64 i] w fun r w' => ∃ v', r = .returned v' ∧ AP B w v (l ++ comB i) v' w' := by
  by_cases hi : i = 0
  · subst hi
    have e : comB 0 = [] := rfl
    rw [e, List.append_nil]
    have hA := AP.refl hown
    clear hown
    go_enter Tryz.func124, Tryz.ntmps124
    go_wp2
    go_ret
    exact ⟨v, rfl, hA⟩
  · have e : comB i = [44] := by unfold comB; rw [if_neg hi]
    rw [e]
    have h1 : ¬ (i : Int) = 0 := by omega
    have HO := Lib.hid hown
    clear hown e
    go_enter Tryz.func124, Tryz.ntmps124
    go_wp2_with (at_builtin; refine wp_ap_lit rfl _ _ rfl B v l 44 _ rfl w rfl _ rfl rfl HO.out hB (by omega) ?_; intro v' w' hap; have HAP := Lib.hid hap; clear hap)
    go_ret
    exact ⟨_, rfl, HAP.out⟩

end Go.Proofs.YticnfmfmgdfdeaaGreatDoor

namespace Go.Proofs.YticnfmfmgdfdeaaGreatDoor
open Go.RowKit

theorem quo_step (s : Bs) (k : Nat) (hk : k < s.length) : (s.take (k + 1)).flatMap quo1 = (s.take k).flatMap quo1 ++ quo1 (s.getD k 0) := by
  rw [List.take_add_one, List.getElem?_eq_getElem hk, List.flatMap_append]
  simp [List.getD, List.getElem?_eq_getElem hk]
theorem quo1_len (b : UInt8) : (quo1 b).length ≤ 6 := by unfold quo1; split; simp; split; simp; simp
theorem quos_len : ∀ (s : Bs), (s.flatMap quo1).length ≤ 6 * s.length
  | [] => by simp
  | b :: t => by
    have h1 := quo1_len b
    have h2 := quos_len t
    rw [List.flatMap_cons, List.length_append, List.length_cons]
    omega

theorem hexTab : ∀ (q : Nat), q < 16 → ∀ h, (⟨#[48, 49, 50, 51, 52, 53, 54, 55, 56, 57, 97, 98, 99, 100, 101, 102]⟩ : ByteArray)[q]'h = hexd q
  | 0, _, _ => rfl
  | 1, _, _ => rfl
  | 2, _, _ => rfl
  | 3, _, _ => rfl
  | 4, _, _ => rfl
  | 5, _, _ => rfl
  | 6, _, _ => rfl
  | 7, _, _ => rfl
  | 8, _, _ => rfl
  | 9, _, _ => rfl
  | 10, _, _ => rfl
  | 11, _, _ => rfl
  | 12, _, _ => rfl
  | 13, _, _ => rfl
  | 14, _, _ => rfl
  | 15, _, _ => rfl
  | n + 16, h, _ => absurd h (by omega)

set_option maxRecDepth 100000 in
set_option maxHeartbeats 8000000 in
theorem quoted_to (B : Nat) (v : Value) (l s : Bs) (w : World) (hown : OB B w v l) (hB : B ≤ w.heap.size) (hl : l.length ≤ 100000000) (hs : s.length ≤ 1000000) :
    Calls Tryz.prog 77 #[v, .string (Sx s)] w fun r w' => ∃ v', r = .returned v' ∧ AP B w v (l ++ quoB s) v' w' := by
  have HCV := Lib.hid (fun w1 => conv_str s w1)
  have HO := Lib.hid hown
  have HST := Lib.hid (quo_step s)
  have HLN : Hid (∀ k, ((l ++ [34]) ++ (s.take k).flatMap quo1).length ≤ 200000000) := Lib.hid (fun k => by
    have := quos_len (s.take k)
    have h2 : (s.take k).length ≤ s.length := (List.take_sublist _ _).length_le
    have h3 : (s.take k).length = min k s.length := List.length_take
    simp only [List.length_append, List.length_cons, List.length_nil]
    omega)
  have HE : Hid (l ++ quoB s = ((l ++ [34]) ++ (s.take s.length).flatMap quo1) ++ [34]) := Lib.hid (by rw [List.take_length]; unfold quoB; simp)
  have HQ1 : Hid (∀ (L : Bs) (k : Nat) (t : Bs), quo1 (s.getD k 0) = t → k < s.length → L ++ (s.take k).flatMap quo1 ++ t = L ++ (s.take (k + 1)).flatMap quo1) := Lib.hid (fun L k t h hk => by rw [quo_step s k hk, h, List.append_assoc])
  generalize hn : s.length = n at *
  have HN := Lib.hid hn
  clear hown hn
  generalize hS : Sx s = S at *
  clear hS
  go_enter Tryz.func77, Tryz.ntmps77
  go_wp2_with (at_builtin; refine wp_ap_lit rfl _ _ rfl B v l 34 _ rfl w rfl _ rfl rfl HO.out hB (by omega) ?_; intro v1 w1 hap; have HAP := Lib.hid hap; obtain ⟨W, cap, hcv, hg, hc⟩ := HCV.out w1; have HG := Lib.hid hg; have HC := Lib.hid hc; clear hap hg hc)
  have HBW : Hid (B ≤ W.heap.size) := Lib.hid (by have := HAP.out.gr.size; have := HG.out.size; omega)
  go_loopw [0, 13] (fun vb vi wr => ∃ k : Nat, k ≤ n ∧ vi = .int .i64 k ∧ Hid (AP B W v1 ((l ++ [34]) ++ (s.take k).flatMap quo1) vb wr)) (fun _ vi _ => n - (intOf vi).toNat)
  case atStart => exact ⟨0, by omega, rfl, Lib.hid (by simpa using AP.refl (HAP.out.ob.gr HG.out))⟩
  case round =>
    obtain ⟨k, hk, rfl, hh⟩ := hrel
    have HBR : Hid (B ≤ wr.heap.size) := Lib.hid (by have := HBW.out; have := hh.out.gr.size; omega)
    by_cases hlt : k < n
    · have hki : (k : Int) < (n : Int) := by omega
      have hcell : wr.cell? ⟨w1.heap.size, k, none⟩ = some (.int .u8 ((s.getD k 0).toNat : Int)) := (World.cell?_of_block (w := W) (hh.out.gr.block w1.heap.size (World.block_lt_of_cell? _ _ (HC.out k hlt)) (fun e => by have := AP.lt HAP.out.ob _ e.symm; omega))).trans (HC.out k hlt)
      have HQ := Lib.hid (fun (t : Bs) (h : quo1 (s.getD k 0) = t) => HQ1.out (l ++ [34]) k t h hlt)
      have HLK := Lib.hid (HLN.out k)
      obtain ⟨c, hc⟩ : ∃ c, c = s.getD k 0 := ⟨_, rfl⟩
      rw [← hc] at hcell HQ
      clear hc
      by_cases h34 : c = 34
      · subst h34
        have HT := Lib.hid (HQ.out [92, 34] rfl)
        go_wp2_with (at_builtin; refine wp_ap_two rfl _ _ rfl B u0 _ 92 34 _ _ rfl rfl wr rfl _ rfl rfl hh.out.ob HBR.out (by have := HLK.out; omega) ?_; intro v2 w2 hap; have HAP2 := Lib.hid hap; clear hap)
        go_round
        case rel => exact ⟨k + 1, by omega, by go_num, Lib.hid (by rw [← HT.out]; exact hh.out.trans HAP2.out)⟩
        case measure => simp [intOf]; omega
      · by_cases h92 : c = 92
        · subst h92
          have HT := Lib.hid (HQ.out [92, 92] rfl)
          go_wp2_with (at_builtin; refine wp_ap_two rfl _ _ rfl B u0 _ 92 92 _ _ rfl rfl wr rfl _ rfl rfl hh.out.ob HBR.out (by have := HLK.out; omega) ?_; intro v2 w2 hap; have HAP2 := Lib.hid hap; clear hap)
          go_round
          case rel => exact ⟨k + 1, by omega, by go_num, Lib.hid (by rw [← HT.out]; exact hh.out.trans HAP2.out)⟩
          case measure => simp [intOf]; omega
        · have n34 : ¬ (c.toNat : Int) = 34 := fun e => h34 (UInt8.toNat_inj.1 (by have : (34 : UInt8).toNat = 34 := rfl; omega))
          have n92 : ¬ (c.toNat : Int) = 92 := fun e => h92 (UInt8.toNat_inj.1 (by have : (92 : UInt8).toNat = 92 := rfl; omega))
          obtain ⟨X, hX⟩ : ∃ X : Int, X = (c.toNat : Int) := ⟨_, rfl⟩
          rw [← hX] at n34 n92 hcell
          have b34 : (X == 34) = false := by simpa using n34
          have b92 : (X == 92) = false := by simpa using n92
          by_cases h32 : c.toNat < 32
          · have HT := Lib.hid (HQ.out [92, 117, 48, 48, hexd (c.toNat / 16), hexd (c.toNat % 16)] (by unfold quo1; rw [if_neg (by rintro (h | h) <;> contradiction), if_pos h32]))
            have n32 : X < 32 := by omega
            have n0 : 0 ≤ X := by omega
            have hq1 : c.toNat / 16 < 16 := by omega
            have hq2 : c.toNat % 16 < 16 := by omega
            have hw1 : IntKind.u8.wrap (X.tdiv 16) = ((c.toNat / 16 : Nat) : Int) := by rw [Int.tdiv_eq_ediv_of_nonneg n0, IntKind.wrap_u8]; omega
            have hw2 : X.tmod 16 = ((c.toNat % 16 : Nat) : Int) := by rw [Int.tmod_eq_emod_of_nonneg n0]; omega
            have hi1 := hexTab _ hq1
            have hi2 := hexTab _ hq2
            obtain ⟨D1, hD1⟩ : ∃ D, D = hexd (c.toNat / 16) := ⟨_, rfl⟩
            obtain ⟨D2, hD2⟩ : ∃ D, D = hexd (c.toNat % 16) := ⟨_, rfl⟩
            rw [← hD1] at hi1 HT
            rw [← hD2] at hi2 HT
            generalize c.toNat / 16 = q1 at hq1 hw1 hi1 hD1
            generalize c.toNat % 16 = q2 at hq2 hw2 hi2 hD2
            have b1 : (q1 : Int) < 16 := by omega
            have b2 : (q2 : Int) < 16 := by omega
            clear h34 h92 h32 hX hD1 hD2
            go_wp2_with (at_builtin; refine wp_ap_str rfl _ _ rfl B u0 _ [92, 117, 48, 48] wr rfl rfl hh.out.ob HBR.out (by have := HLK.out; omega) (by decide) ?_; intro v2 w2 hap; have HAP2 := Lib.hid hap; clear hap)
            have HAP3 := Lib.hid (hh.out.trans HAP2.out)
            have hB2 : B ≤ w2.heap.size := by have := HBR.out; have := HAP2.out.gr.size; omega
            have hL2 : (l ++ [34] ++ (s.take k).flatMap quo1 ++ [92, 117, 48, 48]).length ≤ 1000000000 := by have := HLK.out; rw [List.length_append]; simp only [List.length_cons, List.length_nil]; omega
            have HAS := Lib.hid (List.append_assoc (l ++ [34] ++ (s.take k).flatMap quo1) [92, 117, 48, 48] [D1, D2])
            have hown1 : ((w2.alloc (.cells #[.int .u8 D1.toNat, .int .u8 D2.toNat] 5)).drew).ownsRow B 5 1 v2 (l ++ [34] ++ (s.take k).flatMap quo1 ++ [92, 117, 48, 48]).length (Lib.byteCells (l ++ [34] ++ (s.take k).flatMap quo1 ++ [92, 117, 48, 48])) := World.ownsRow.drew (World.ownsRow.alloc HAP3.out.ob _)
            have hlit : ∀ j u, [Value.int .u8 D1.toNat, .int .u8 D2.toNat][j]? = some u → ((w2.alloc (.cells #[.int .u8 D1.toNat, .int .u8 D2.toNat] 5)).drew).cell? ((⟨w2.heap.size, 0, none⟩ : Addr).add j) = some u := lit_two w2 _ _
            have hone : ∀ u ∈ [Value.int .u8 D1.toNat, .int .u8 D2.toNat], u.oneCell' = true := by intro u hu; simp at hu; rcases hu with rfl | rfl <;> rfl
            obtain ⟨i0, hi, hz0, hz1, hz2⟩ := info_parts infoByte
            have hs2 : B ≤ ((w2.alloc (.cells #[.int .u8 D1.toNat, .int .u8 D2.toNat] 5)).drew).heap.size := by show B ≤ (w2.alloc _).heap.size; simp; omega
            have HOW := Lib.hid hown1
            have HLI := Lib.hid hlit
            have HS2 := Lib.hid hs2
            have HL2 := Lib.hid hL2
            have HON := Lib.hid hone
            clear hown1 hlit hone hs2 hL2 hB2 n34 n92 b34 b92 n32 n0 hcell
            go_region_law (refine step_append_own2 rfl (.tmp 37) (.tmp 44) 48 rfl B 5 i0 (.int .u8 0) 1 1 Tryz.underlying48 hi hz0 hz1 hz2 rfl (by decide) v2 _ _ rfl HOW.out ⟨w2.heap.size, 0, none⟩ 2 2 [.int .u8 D1.toNat, .int .u8 D2.toNat] rfl rfl HLI.out HON.out (by have := HL2.out; unfold maxLen; omega) (by have := HL2.out; omega) HS2.out ?_; intro v4 w4 ho hg hf; have HO4 := Lib.hid ho; have HG4 := Lib.hid hg; have HF4 := Lib.hid hf; clear ho hg hf)
            all_goals go_wp2
            all_goals go_round
            all_goals first
              | exact ⟨k + 1, by omega, by go_num, Lib.hid (by
                  have h4 : AP B ((w2.alloc (.cells #[.int .u8 D1.toNat, .int .u8 D2.toNat] 5)).drew) v2 (l ++ [34] ++ (s.take k).flatMap quo1 ++ [92, 117, 48, 48] ++ [D1, D2]) v4 w4 := ⟨by have := HO4.out; unfold OB; rw [List.length_append, ← byteCells_app]; exact this, HG4.out, HF4.out⟩
                  have h5 := HAP3.out.trans (AP.pre (gtrans (World.grownBy_alloc w2 _ none) (gdrew _)) h4)
                  rw [HAS.out] at h5
                  rw [← HT.out]
                  exact h5)⟩
              | (simp [intOf]; omega)
          · have n32 : ¬ X < 32 := by omega
            have HT := Lib.hid (HQ.out [c] (by unfold quo1; rw [if_neg (by rintro (h | h) <;> contradiction), if_neg h32]))
            have HX := Lib.hid hX
            clear h34 h92 h32 hX
            go_wp2_with (at_builtin; refine wp_ap_lit rfl _ _ rfl B u0 _ c _ HX.out wr rfl _ rfl rfl hh.out.ob HBR.out (by have := HLK.out; omega) ?_; intro v2 w2 hap; have HAP2 := Lib.hid hap; clear hap)
            go_round
            case rel => exact ⟨k + 1, by omega, by go_num, Lib.hid (by rw [← HT.out]; exact hh.out.trans HAP2.out)⟩
            case measure => simp [intOf]; omega
    · obtain rfl : k = n := by omega
      have HLK := Lib.hid (HLN.out k)
      go_wp2_with (at_builtin; refine wp_ap_lit rfl _ _ rfl B u0 _ 34 _ rfl wr rfl _ rfl rfl hh.out.ob HBR.out (by have := HLK.out; omega) ?_; intro v2 w2 hap; have HAP2 := Lib.hid hap; clear hap)
      go_ret
      exact ⟨_, rfl, by rw [HE.out]; exact (HAP.out.post HG.out).trans (hh.out.trans HAP2.out)⟩

end Go.Proofs.YticnfmfmgdfdeaaGreatDoor

namespace Go.Proofs.YticnfmfmgdfdeaaGreatDoor
open Go.RowKit

set_option maxRecDepth 100000 in
set_option maxHeartbeats 8000000 in
theorem null_to (B : Nat) (v : Value) (l : Bs) (w : World) (ia na : Option Addr) (ic nc : Nat) (hown : OB B w v l) (hB : B ≤ w.heap.size) (hl : l.length ≤ 100000000) :
    Calls Tryz.prog 37 #[v, .agg (J.null.cs (.slice ia 0 ic) (.slice na 0 nc))] w fun r w' => ∃ v', r = .returned v' ∧ AP B w v (l ++ textJ .null) v' w' := by
  obtain ⟨cs, hcs⟩ : ∃ cs : Array Value, cs = #[.int .i64 0, .bool false, .bool false, .string ⟨#[]⟩, .int .i64 0, .string ⟨#[]⟩, .slice ia 0 ic, .slice na 0 nc] := ⟨_, rfl⟩
  have e : J.null.cs (.slice ia 0 ic) (.slice na 0 nc) = cs := by rw [hcs]; rfl
  rw [e]
  have hx := heap_alloc_new w (.cells cs 28 (0, 0))
  have HG := Lib.hid (World.grownBy_alloc w (.cells cs 28) none)
  have HO := Lib.hid (hown.gr HG.out)
  have HB : Hid (B ≤ (w.alloc (.cells cs 28)).heap.size) := Lib.hid (by simp; omega)
  rw [hcs] at hx HG HO HB ⊢
  obtain ⟨x0, x1, x2, x3, x4, x5, x6, x7⟩ := cells8 hx
  clear hx hown e hcs
  go_enter Tryz.func37, Tryz.ntmps37
  go_wp2_with (at_builtin; refine wp_ap_str rfl _ _ rfl B v l [110, 117, 108, 108] _ rfl rfl HO.out HB.out (by omega) (by decide) ?_; intro v2 w2 hap; have HAP := Lib.hid hap; clear hap)
  go_ret
  exact ⟨_, rfl, AP.pre HG.out HAP.out⟩

set_option maxRecDepth 100000 in
set_option maxHeartbeats 8000000 in
theorem bool_to (b : Bool) (B : Nat) (v : Value) (l : Bs) (w : World) (ia na : Option Addr) (ic nc : Nat) (hown : OB B w v l) (hB : B ≤ w.heap.size) (hl : l.length ≤ 100000000) :
    Calls Tryz.prog 37 #[v, .agg ((J.bool b).cs (.slice ia 0 ic) (.slice na 0 nc))] w fun r w' => ∃ v', r = .returned v' ∧ AP B w v (l ++ textJ (.bool b)) v' w' := by
  obtain ⟨cs, hcs⟩ : ∃ cs : Array Value, cs = #[.int .i64 1, .bool b, .bool false, .string ⟨#[]⟩, .int .i64 0, .string ⟨#[]⟩, .slice ia 0 ic, .slice na 0 nc] := ⟨_, rfl⟩
  have e : (J.bool b).cs (.slice ia 0 ic) (.slice na 0 nc) = cs := by rw [hcs]; rfl
  rw [e]
  have hx := heap_alloc_new w (.cells cs 28 (0, 0))
  have HG := Lib.hid (World.grownBy_alloc w (.cells cs 28) none)
  have HO := Lib.hid (hown.gr HG.out)
  have HB : Hid (B ≤ (w.alloc (.cells cs 28)).heap.size) := Lib.hid (by simp; omega)
  have HTL : Hid ((textJ (.bool b)).length ≤ 1000000000) := Lib.hid (by cases b <;> decide)
  have KW := wordOf_any b (w.alloc (.cells cs 28))
  rw [hcs] at hx HG HO HB KW ⊢
  obtain ⟨x0, x1, x2, x3, x4, x5, x6, x7⟩ := cells8 hx
  obtain ⟨T, hT⟩ : ∃ T, T = textJ (.bool b) := ⟨_, rfl⟩
  rw [← hT] at KW HTL ⊢
  clear hx hown e hcs hT
  go_enter Tryz.func37, Tryz.ntmps37
  go_wp2_with (first
    | (go_at_call 75; ((with_reducible refine KW.mono ?_); rintro r w1 ⟨rfl, rfl⟩))
    | (at_builtin; refine wp_ap_str rfl _ _ rfl B v l T _ rfl rfl HO.out HB.out (by omega) HTL.out ?_; intro v2 w2 hap; have HAP := Lib.hid hap; clear hap))
  go_ret
  exact ⟨_, rfl, AP.pre HG.out HAP.out⟩

set_option maxRecDepth 100000 in
set_option maxHeartbeats 8000000 in
theorem str_to (s : Bs) (B : Nat) (v : Value) (l : Bs) (w : World) (ia na : Option Addr) (ic nc : Nat) (hown : OB B w v l) (hB : B ≤ w.heap.size) (hl : l.length ≤ 100000000) (hs : s.length ≤ 1000000) :
    Calls Tryz.prog 37 #[v, .agg ((J.str s).cs (.slice ia 0 ic) (.slice na 0 nc))] w fun r w' => ∃ v', r = .returned v' ∧ AP B w v (l ++ textJ (.str s)) v' w' := by
  obtain ⟨cs, hcs⟩ : ∃ cs : Array Value, cs = #[.int .i64 3, .bool false, .bool false, .string ⟨#[]⟩, .int .i64 0, .string (Sx s), .slice ia 0 ic, .slice na 0 nc] := ⟨_, rfl⟩
  have e : (J.str s).cs (.slice ia 0 ic) (.slice na 0 nc) = cs := by rw [hcs]; rfl
  rw [e]
  have hx := heap_alloc_new w (.cells cs 28 (0, 0))
  have HG := Lib.hid (World.grownBy_alloc w (.cells cs 28) none)
  have KQ := quoted_to B v l s (w.alloc (.cells cs 28)) (hown.gr HG.out) (by simp; omega) hl hs
  rw [hcs] at hx HG KQ ⊢
  obtain ⟨x0, x1, x2, x3, x4, x5, x6, x7⟩ := cells8 hx
  obtain ⟨T, hT⟩ : ∃ T, T = quoB s := ⟨_, rfl⟩
  have e2 : textJ (.str s) = T := by rw [hT]; unfold textJ; rfl
  rw [e2]
  rw [← hT] at KQ
  clear hx hown e hcs hT e2
  generalize Sx s = S at *
  go_enter Tryz.func37, Tryz.ntmps37
  go_wp2_with (go_at_call 77; ((with_reducible refine KQ.mono ?_); rintro r w1 ⟨v2, rfl, hap⟩); have HAP := Lib.hid hap; clear hap)
  go_ret
  exact ⟨_, rfl, AP.pre HG.out HAP.out⟩

end Go.Proofs.YticnfmfmgdfdeaaGreatDoor

namespace Go.Proofs.YticnfmfmgdfdeaaGreatDoor
open Go.RowKit

/-- A number as it is held: what the text of it wants. -/
def okNm (m : Nm) : Prop := m.digs.length ≤ 1000000 ∧ -1000000 ≤ m.exp ∧ m.exp ≤ 1000000 ∧ (m.digs = [] → m.down = false ∧ m.exp = 0) ∧ (textM m).length ≤ 10000000
/-- A value whose numbers are so, and whose objects have as many names as items. -/
def okJ : Nat → J → Prop
  | 0, _ => False
  | n + 1, j => okNm j.nm ∧ j.tx.length ≤ 1000000 ∧ (j.kind = 5 → j.names.length = j.items.length) ∧ (∀ m ∈ j.names, m.length ≤ 1000000) ∧ ∀ x ∈ j.items, okJ n x
theorem textL_snoc : ∀ (l : List J) (x : J), textL (l ++ [x]) = textL l ++ comB l.length ++ textJ x
  | [], x => by simp [textL, comB]
  | [a], x => by simp [textL, comB]
  | a :: b :: l, x => by
    have ih := textL_snoc (b :: l) x
    have e : comB (b :: l).length = [44] := by simp [comB]
    have e2 : comB (a :: b :: l).length = [44] := by simp [comB]
    rw [e] at ih
    rw [e2]
    show textL (a :: b :: (l ++ [x])) = _
    simp only [textL, List.cons_append] at ih ⊢
    rw [ih]
    simp
theorem textO_snoc : ∀ (ns : List Bs) (l : List J) (m : Bs) (x : J), ns.length = l.length → textO (ns ++ [m]) (l ++ [x]) = textO ns l ++ comB l.length ++ (quoB m ++ 58 :: textJ x)
  | [], [], m, x, _ => by simp [textO, comB]
  | [a], [y], m, x, _ => by simp [textO, comB]
  | a :: c :: ns, y :: z :: l, m, x, h => by
    have ih := textO_snoc (c :: ns) (z :: l) m x (by simpa using h)
    have e : comB (z :: l).length = [44] := by simp [comB]
    have e2 : comB (y :: z :: l).length = [44] := by simp [comB]
    rw [e] at ih
    rw [e2]
    show textO (a :: c :: (ns ++ [m])) (y :: z :: (l ++ [x])) = _
    simp only [textO, List.cons_append] at ih ⊢
    rw [ih]
    simp
  | [], _ :: _, _, _, h => by simp at h
  | _ :: _, [], _, _, h => by simp at h
  | [_], _ :: _ :: _, _, _, h => by simp at h
  | _ :: _ :: _, [_], _, _, h => by simp at h

set_option maxRecDepth 100000 in
set_option maxHeartbeats 8000000 in
theorem num_to (m : Nm) (B : Nat) (v : Value) (l : Bs) (w : World) (ia na : Option Addr) (ic nc : Nat) (hT : TB w) (hown : OB B w v l) (hB : B ≤ w.heap.size) (hl : l.length ≤ 100000000) (hm : okNm m) :
    Calls Tryz.prog 37 #[v, .agg ((J.num m).cs (.slice ia 0 ic) (.slice na 0 nc))] w fun r w' => ∃ v', r = .returned v' ∧ AP B w v (l ++ textJ (.num m)) v' w' := by
  obtain ⟨d, A, e0⟩ := m
  obtain ⟨hm1, hm2, hm3, hm4, hm5⟩ := hm
  simp only at hm1 hm2 hm3 hm4
  obtain ⟨cs, hcs⟩ : ∃ cs : Array Value, cs = #[.int .i64 2, .bool false, .bool d, .string (Sx A), .int .i64 e0, .string ⟨#[]⟩, .slice ia 0 ic, .slice na 0 nc] := ⟨_, rfl⟩
  have e : (J.num ⟨d, A, e0⟩).cs (.slice ia 0 ic) (.slice na 0 nc) = cs := by rw [hcs]; rfl
  rw [e]
  have hx := heap_alloc_new w (.cells cs 28 (0, 0))
  have HG := Lib.hid (World.grownBy_alloc w (.cells cs 28) none)
  have HO := Lib.hid (hown.gr HG.out)
  have KT := text_any d A e0 (w.alloc (.cells cs 28)) (hT.gr HG.out) hm1 hm2 hm3 hm4
  rw [hcs] at hx HG HO KT ⊢
  obtain ⟨x0, x1, x2, x3, x4, x5, x6, x7⟩ := cells8 hx
  obtain ⟨T, hTT⟩ : ∃ T, T = textM ⟨d, A, e0⟩ := ⟨_, rfl⟩
  have e2 : textJ (.num ⟨d, A, e0⟩) = T := by rw [hTT]; unfold textJ; rfl
  rw [e2]
  rw [← hTT] at KT hm5
  have HM5 : Hid (T.length ≤ 1000000000) := Lib.hid (by omega)
  clear hx hown e hcs hTT e2 hT hm1 hm2 hm3 hm4 hm5
  generalize Sx A = S at *
  go_enter Tryz.func37, Tryz.ntmps37
  go_wp2_with (first
    | (go_at_call 76; ((with_reducible refine KT.mono ?_); rintro r w1 ⟨rfl, hg⟩); have HG1 := Lib.hid hg; have HO1 := Lib.hid (HO.out.gr hg); have HB1 : Hid (B ≤ w1.heap.size) := Lib.hid (by have := hg.size; have := HG.out.size; omega); clear hg)
    | (at_builtin; refine wp_ap_str rfl _ _ rfl B v l T _ rfl rfl HO1.out HB1.out (by omega) HM5.out ?_; intro v2 w2 hap; have HAP := Lib.hid hap; clear hap))
  go_ret
  exact ⟨_, rfl, AP.pre (gtrans HG.out HG1.out) HAP.out⟩

end Go.Proofs.YticnfmfmgdfdeaaGreatDoor

namespace Go.Proofs.YticnfmfmgdfdeaaGreatDoor
open Go.RowKit

/-- The table of powers, whatever is done from block B on. -/
def TT (B : Nat) (w : World) : Prop := Lib.TabBelow Tryz.prog B w "internal/strconv.uint64pow10" .u64 Lib.pow10Tab
theorem TT.tb {B : Nat} {w : World} (h : TT B w) (hB : B ≤ w.heap.size) : TB w := fun w2 h2 => h w2 (h2.mono hB)
theorem TT.be {B : Nat} {w w' : World} (h : TT B w) (g : Below B w w') : TT B w' := fun w2 h2 => h w2 (g.trans h2)
theorem AP.be {B : Nat} {w w' : World} {v v' : Value} {l l' : Bs} (ho : OB B w v l) (hB : B ≤ w.heap.size) (h : AP B w v l' v' w') : Below B w w' := ob_below ho hB h.gr
theorem TT.gr {B : Nat} {w w' : World} (h : TT B w) (hB : B ≤ w.heap.size) (g : Gr w w') : TT B w' := h.be ((gbelow g).mono hB)
/-- At level n, values' texts are laid. -/
def VT (n : Nat) : Prop := ∀ (P : Nat → Prop) (j : J) (cs : Array Value) (B : Nat) (v : Value) (l : Bs) (w : World), JV P n j w (.agg cs) → okJ n j → TT B w → OB B w v l → B ≤ w.heap.size → (∀ b, P b → v.ownBlock ≠ some b) → l.length + (textJ j).length ≤ 100000000 →
  Calls Tryz.prog 37 #[v, .agg cs] w fun r w' => ∃ v', r = .returned v' ∧ AP B w v (l ++ textJ j) v' w'
theorem jv_jC {P : Nat → Prop} {n : Nat} {j : J} {w : World} {u : Array Value} (h : JV P n j w (.agg u)) : ∃ a1 a2 c1 c2, u = jC j a1 a2 c1 c2 := by
  cases n with
  | zero => cases h
  | succ n =>
    obtain ⟨iv, nv, e, ⟨a2, c2, e2, _⟩, a1, c1, e1, _⟩ := h
    injection e with e
    exact ⟨a1, a2, c1, c2, by rw [e, e1, e2]⟩

theorem textL_step (L : List J) (k : Nat) (h : k < L.length) : textL (L.take (k + 1)) = textL (L.take k) ++ comB k ++ textJ L[k] := by
  rw [List.take_add_one, List.getElem?_eq_getElem h]
  have := textL_snoc (L.take k) L[k]
  rw [List.length_take, Nat.min_eq_left (by omega)] at this
  simpa using this
theorem textL_le (L : List J) : ∀ (d k : Nat), k + d = L.length → (textL (L.take k)).length ≤ (textL L).length
  | 0, k, h => by rw [List.take_of_length_le (by omega)]; exact Nat.le_refl _
  | d + 1, k, h => by
    have ih := textL_le L d (k + 1) (by omega)
    rw [textL_step L k (by omega)] at ih
    simp only [List.length_append] at ih
    omega

set_option maxRecDepth 100000 in
set_option maxHeartbeats 8000000 in
theorem items_to (n : Nat) (hV : VT n) (P : Nat → Prop) (L : List J) (B : Nat) (v : Value) (l : Bs) (w : World) (ao na : Option Addr) (c nc : Nat)
    (hr : RowV (JV P n) P w (.slice ao L.length c) L) (hok : ∀ x ∈ L, okJ n x) (hT : TT B w) (hown : OB B w v l) (hB : B ≤ w.heap.size) (hP : ∀ b, P b → v.ownBlock ≠ some b) (hl : l.length + (textL L).length + 2 ≤ 100000000) (hL : L.length ≤ 100000000) :
    Calls Tryz.prog 78 #[v, .agg ((J.arr L).cs (.slice ao L.length c) (.slice na 0 nc))] w fun r w' => ∃ v', r = .returned v' ∧ AP B w v (l ++ textJ (.arr L)) v' w' := by
  obtain ⟨cs, hcs⟩ : ∃ cs : Array Value, cs = #[.int .i64 4, .bool false, .bool false, .string ⟨#[]⟩, .int .i64 0, .string ⟨#[]⟩, .slice ao L.length c, .slice na 0 nc] := ⟨_, rfl⟩
  have e : (J.arr L).cs (.slice ao L.length c) (.slice na 0 nc) = cs := by rw [hcs]; rfl
  rw [e]
  have hx := heap_alloc_new w (.cells cs 28 (0, 0))
  have HG := Lib.hid (World.grownBy_alloc w (.cells cs 28) none)
  have HO := Lib.hid (hown.gr HG.out)
  have HB : Hid (B ≤ (w.alloc (.cells cs 28)).heap.size) := Lib.hid (by simp; omega)
  rw [hcs] at hx HG HO HB ⊢
  have HX := Lib.hid hx
  obtain ⟨x0, x1, x2, x3, x4, x5, x6, x7⟩ := cells8 hx
  have HR := Lib.hid hr
  have HOK := Lib.hid hok
  have HP := Lib.hid hP
  have HT := Lib.hid hT
  have HL := Lib.hid hl
  have HOW := Lib.hid hown
  generalize hn : L.length = m at *
  have HN := Lib.hid hn
  clear hx hown e hcs hr hok hP hT hl hn
  go_enter Tryz.func78, Tryz.ntmps78
  go_wp2_with (at_builtin; refine wp_ap_lit rfl _ _ rfl B v l 91 _ rfl _ rfl _ rfl (by simp) HO.out HB.out (by have := HL.out; omega) ?_; intro v1 w1 hap; have HAP := Lib.hid (AP.pre HG.out hap); have hx1 := (hap.gr.block w.heap.size (by simp) (fun e => by have := AP.lt HOW.out _ e.symm; omega)).trans HX.out; obtain ⟨x0, x1, x2, x3, x4, x5, x6, x7⟩ := cells8 hx1; clear hap hx1)
  go_loopw [0, 13] (fun vb vi wr => ∃ k : Nat, k ≤ m ∧ vi = .int .i64 k ∧ Hid (AP B w v ((l ++ [91]) ++ textL (L.take k)) vb wr)) (fun _ vi _ => m - (intOf vi).toNat)
  case atStart => exact ⟨0, by omega, rfl, Lib.hid (by simpa [textL] using HAP.out)⟩
  case round =>
    obtain ⟨k, hk, rfl, hh⟩ := hrel
    by_cases hlt : k < m
    · have hki : (k : Int) < (m : Int) := by omega
      obtain ⟨ao', c', hv', h1, h2, h3⟩ := HR.out
      have hkL : k < L.length := by rw [HN.out]; exact hlt
      obtain ⟨b, o, ha, hPb, hcell⟩ := h3 (fun e => by rw [e] at hkL; simp at hkL)
      obtain ⟨u, hu8, hu, hj⟩ := hcell k L[k] (List.getElem?_eq_getElem hkL)
      have hao : ao = some ⟨b, o, none⟩ := by injection hv' with e1 _ _; rw [e1, ha]
      clear ha hv'
      subst hao
      obtain ⟨a1, a2, c1, c2, rfl⟩ := jv_jC hj
      have hgw : w.heap.size ≤ wr.heap.size := hh.out.gr.size
      have HS := Lib.hid hgw
      have hbl : b < w.heap.size := World.block_lt_of_cell? _ _ (hu 0 (by omega))
      have hbk : wr.heap[b]? = w.heap[b]? := hh.out.gr.block b hbl (fun e => HP.out b hPb e.symm)
      have hcl : ∀ i, i < 8 → wr.cell? ⟨b, o + k * 8 + i, none⟩ = some ((jC L[k] a1 a2 c1 c2).getD i undef) := fun i hi => by
        have := hu i hi
        rw [show o + (8 * k + i) = o + k * 8 + i by omega] at this
        exact (World.cell?_of_block (w := w) hbk).trans this
      have y0 : wr.cell? ⟨b, o + k * 8, none⟩ = some (.int .i64 L[k].kind) := hcl 0 (by omega)
      have y1 : wr.cell? ⟨b, o + k * 8 + 1, none⟩ = some (.bool L[k].isB) := hcl 1 (by omega)
      have y2 : wr.cell? ⟨b, o + k * 8 + 2, none⟩ = some (.bool L[k].nm.down) := hcl 2 (by omega)
      have y3 : wr.cell? ⟨b, o + k * 8 + 3, none⟩ = some (.string (Sx L[k].nm.digs)) := hcl 3 (by omega)
      have y4 : wr.cell? ⟨b, o + k * 8 + 4, none⟩ = some (.int .i64 L[k].nm.exp) := hcl 4 (by omega)
      have y5 : wr.cell? ⟨b, o + k * 8 + 5, none⟩ = some (.string (Sx L[k].tx)) := hcl 5 (by omega)
      have y6 : wr.cell? ⟨b, o + k * 8 + 6, none⟩ = some (.slice a1 L[k].items.length c1) := hcl 6 (by omega)
      have y7 : wr.cell? ⟨b, o + k * 8 + 7, none⟩ = some (.slice a2 L[k].names.length c2) := hcl 7 (by omega)
      have hst := textL_step L k hkL
      have hle := textL_le L (L.length - (k + 1)) (k + 1) (by omega)
      rw [hst] at hle
      simp only [List.length_append] at hle
      have hLL := HL.out
      have hBr : B ≤ wr.heap.size := by omega
      have KC := comma_any B k u0 (l ++ [91] ++ textL (L.take k)) (wr.alloc (.cells (jC L[k] a1 a2 c1 c2) 28)) (hh.out.ob.gr (World.grownBy_alloc wr _ none)) (by simp; omega) (by simp only [List.length_append, List.length_cons, List.length_nil]; omega)
      have KV : Hid (∀ v2 w2, AP B w v (l ++ [91] ++ textL (L.take k) ++ comB k) v2 w2 → Calls Tryz.prog 37 #[v2, .agg (jC L[k] a1 a2 c1 c2)] w2 fun r w' => ∃ v', r = .returned v' ∧ AP B w2 v2 (l ++ [91] ++ textL (L.take k) ++ comB k ++ textJ L[k]) v' w') := Lib.hid (fun v2 w2 h => by
        refine hV (fun b => P b ∧ b < w.heap.size) L[k] _ B v2 _ w2 (JV.keep (fun b hb hlt => ⟨h.gr.block b hlt (fun e => HP.out b hb e.symm), hb, hlt⟩) n L[k] _ hj n (Nat.le_refl _)) (HOK.out _ (List.getElem_mem hkL)) (HT.out.be (h.be HOW.out hB)) h.ob (by have := h.gr.size; omega) (fun b hb => ?_) (by simp only [List.length_append, List.length_cons, List.length_nil]; omega)
        rcases h.fr with e | ⟨q, e, hq⟩
        · rw [e]; exact HP.out b hb.1
        · rw [e]; intro e2; injection e2 with e2; have := hb.2; omega)
      have HST := Lib.hid hst
      have HU0 := Lib.hid (AP.lt hh.out.ob)
      clear hst hle hLL hu hcl hbk hbl hgw hj h1 h2 h3 hu8 hBr
      generalize L[k] = J0 at *
      go_wp2_with (first
        | (go_at_call 124; ((with_reducible refine KC.mono ?_); rintro r w2 ⟨v2, rfl, hap⟩); have HAP2 := Lib.hid (hh.out.trans (AP.pre (World.grownBy_alloc wr _ none) hap)); have hx2 := (hap.gr.block wr.heap.size (by simp) (fun e => by have := HU0.out _ e.symm; omega)).trans (heap_alloc_new wr (.cells (jC J0 a1 a2 c1 c2) 28)); clear y0 y1 y2 y3 y4 y5 y6 y7; obtain ⟨y0, y1, y2, y3, y4, y5, y6, y7⟩ := cells8 hx2; clear hap hx2)
        | (go_at_call 37; ((with_reducible refine (KV.out v2 w2 HAP2.out).mono ?_); rintro r w3 ⟨v3, rfl, hap⟩); have HAP3 := Lib.hid (HAP2.out.trans hap); clear hap))
      go_round
      case rel => exact ⟨k + 1, by omega, by go_num, Lib.hid (by rw [HST.out]; have := HAP3.out; rw [List.append_assoc, List.append_assoc] at this; rw [← List.append_assoc, ← List.append_assoc] at this; simpa [List.append_assoc] using this)⟩
      case measure => simp [intOf]; omega
    · obtain rfl : k = m := by omega
      have HBR : Hid (B ≤ wr.heap.size) := Lib.hid (by have := hh.out.gr.size; omega)
      have hfl : L.take k = L := List.take_of_length_le (by rw [HN.out]; omega)
      have HFL := Lib.hid hfl
      clear hfl
      go_wp2_with (at_builtin; refine wp_ap_lit rfl _ _ rfl B u0 _ 93 _ rfl wr rfl _ rfl rfl hh.out.ob HBR.out (by have := HL.out; rw [HFL.out]; simp only [List.length_append, List.length_cons, List.length_nil]; omega) ?_; intro v2 w2 hap; have HAP2 := Lib.hid hap; clear hap)
      go_ret
      refine ⟨_, rfl, ?_⟩
      have h5 := hh.out.trans HAP2.out
      rw [HFL.out] at h5
      have e6 : l ++ textJ (.arr L) = l ++ [91] ++ textL L ++ [93] := by unfold textJ; simp
      rw [e6]
      exact h5

end Go.Proofs.YticnfmfmgdfdeaaGreatDoor

namespace Go.Proofs.YticnfmfmgdfdeaaGreatDoor
open Go.RowKit

theorem textO_step (ns : List Bs) (L : List J) (hl : ns.length = L.length) (k : Nat) (h : k < L.length) : textO (ns.take (k + 1)) (L.take (k + 1)) = textO (ns.take k) (L.take k) ++ comB k ++ (quoB (ns[k]'(by omega)) ++ 58 :: textJ L[k]) := by
  rw [List.take_add_one, List.take_add_one, List.getElem?_eq_getElem h, List.getElem?_eq_getElem (show k < ns.length by omega)]
  have := textO_snoc (ns.take k) (L.take k) (ns[k]'(by omega)) L[k] (by simp; omega)
  rw [List.length_take, Nat.min_eq_left (show k ≤ L.length by omega)] at this
  simpa using this
theorem textO_le (ns : List Bs) (L : List J) (hl : ns.length = L.length) : ∀ (d k : Nat), k + d = L.length → (textO (ns.take k) (L.take k)).length ≤ (textO ns L).length
  | 0, k, h => by rw [List.take_of_length_le (show L.length ≤ k by omega), List.take_of_length_le (show ns.length ≤ k by omega)]; exact Nat.le_refl _
  | d + 1, k, h => by
    have ih := textO_le ns L hl d (k + 1) (by omega)
    rw [textO_step ns L hl k (by omega)] at ih
    simp only [List.length_append] at ih
    omega
theorem quo_big (m : Bs) : m.length ≤ (quoB m).length := by
  have h : ∀ l : Bs, l.length ≤ (l.flatMap quo1).length := by
    intro l
    induction l with
    | nil => simp
    | cons b t ih =>
      have : 1 ≤ (quo1 b).length := by unfold quo1; split; simp; split; simp; simp
      rw [List.flatMap_cons, List.length_append, List.length_cons]; omega
  have := h m
  unfold quoB
  simp only [List.length_cons, List.length_append, List.length_nil]
  omega
set_option maxHeartbeats 1000000 in
theorem members_any (ia na : Option Addr) (m ic nc : Nat) (w : World) : Calls Tryz.prog 86 #[.agg (obC (.slice ia m ic) (.slice na m nc))] w fun r w' => r = .returned (.int .i64 m) ∧ Gr w w' := by
  have hx := heap_alloc_new w (.cells (obC (.slice ia m ic) (.slice na m nc)) 28 (0, 0))
  have HG := Lib.hid (World.grownBy_alloc w (.cells (obC (.slice ia m ic) (.slice na m nc)) 28) none)
  obtain ⟨x0, x1, x2, x3, x4, x5, x6, x7⟩ := cells8 hx
  clear hx
  go_enter Tryz.func86, Tryz.ntmps86
  go_wp2
  go_ret
  exact ⟨by first | rfl | simp, HG.out⟩

end Go.Proofs.YticnfmfmgdfdeaaGreatDoor

namespace Go.Proofs.YticnfmfmgdfdeaaGreatDoor
open Go.RowKit

set_option maxRecDepth 100000 in
set_option maxHeartbeats 8000000 in
theorem members_to (n : Nat) (hV : VT n) (P : Nat → Prop) (ns : List Bs) (L : List J) (B : Nat) (v : Value) (l : Bs) (w : World) (ao na : Option Addr) (c nc : Nat) (hnl : ns.length = L.length)
    (hr : RowV (JV P n) P w (.slice ao L.length c) L) (hrn : RowS P w (.slice na ns.length nc) ns) (hok : ∀ x ∈ L, okJ n x) (hT : TT B w) (hown : OB B w v l) (hB : B ≤ w.heap.size) (hP : ∀ b, P b → v.ownBlock ≠ some b) (hl : l.length + (textO ns L).length + 2 ≤ 100000000) (hL : L.length ≤ 100000000) (hnm : ∀ m ∈ ns, m.length ≤ 1000000) :
    Calls Tryz.prog 79 #[v, .agg (obC (.slice ao L.length c) (.slice na ns.length nc))] w fun r w' => ∃ v', r = .returned v' ∧ AP B w v (l ++ textJ (.obj ns L)) v' w' := by
  have hx := heap_alloc_new w (.cells (obC (.slice ao L.length c) (.slice na ns.length nc)) 28 (0, 0))
  have HG := Lib.hid (World.grownBy_alloc w (.cells (obC (.slice ao L.length c) (.slice na ns.length nc)) 28) none)
  have HO := Lib.hid (hown.gr HG.out)
  have HB : Hid (B ≤ (w.alloc (.cells (obC (.slice ao L.length c) (.slice na ns.length nc)) 28)).heap.size) := Lib.hid (by simp; omega)
  have HX := Lib.hid hx
  have KM : Hid (∀ w', Calls Tryz.prog 86 #[.agg (obC (.slice ao L.length c) (.slice na ns.length nc))] w' fun r w2 => r = .returned (.int .i64 L.length) ∧ Gr w' w2) := Lib.hid (fun w' => by
    have := members_any ao na L.length c nc w'
    rw [← hnl] at this ⊢
    exact this)
  obtain ⟨x0, x1, x2, x3, x4, x5, x6, x7⟩ := cells8 hx
  have HVO : Hid (∀ b, v.ownBlock = some b → b < w.heap.size) := Lib.hid (AP.lt hown)
  have HR := Lib.hid hr
  have HRN := Lib.hid hrn
  have HOK := Lib.hid (And.intro hok hnm)
  have HP := Lib.hid hP
  have HT := Lib.hid hT
  have HL := Lib.hid hl
  have HOW := Lib.hid hown
  have HNL := Lib.hid hnl
  have hnl2 := hnl
  generalize hn : L.length = m at *
  rw [hnl2] at hx HG HO HB HX KM x7 HRN ⊢
  have HN := Lib.hid hn
  clear hx hown hr hrn hok hP hT hl hn hnl hnl2 hnm
  go_enter Tryz.func79, Tryz.ntmps79
  go_wp2_with (first
    | (at_builtin; refine wp_ap_lit rfl _ _ rfl B v l 123 _ rfl _ rfl _ rfl (by simp) HO.out HB.out (by have := HL.out; omega) ?_; intro v1 w1 hap; have HAP1 := Lib.hid hap; have hx1 := (hap.gr.block w.heap.size (by simp) (fun e => by have := HVO.out _ e.symm; omega)).trans HX.out; obtain ⟨x0, x1, x2, x3, x4, x5, x6, x7⟩ := cells8 hx1; clear hap hx1)
    | (go_at_call 86; ((with_reducible refine (KM.out _).mono ?_); rintro r w3 ⟨rfl, hg⟩); have HAP := Lib.hid (HAP1.out.post hg); clear hg))
  go_loopw [0, 11] (fun vb vi wr => ∃ k : Nat, k ≤ m ∧ vi = .int .i64 k ∧ Hid (AP B (w.alloc (.cells (obC (.slice ao m c) (.slice na m nc)) 28)) v ((l ++ [123]) ++ textO (ns.take k) (L.take k)) vb wr)) (fun _ vi _ => m - (intOf vi).toNat)
  case atStart => exact ⟨0, by omega, rfl, Lib.hid (by simpa [textO] using HAP.out)⟩
  case round =>
    obtain ⟨k, hk, rfl, hh⟩ := hrel
    have HHW := Lib.hid (AP.pre HG.out hh.out)
    have hgw : w.heap.size ≤ wr.heap.size := HHW.out.gr.size
    have HBR : Hid (B ≤ wr.heap.size) := Lib.hid (by omega)
    by_cases hlt : k < m
    · have hki : (k : Int) < (m : Int) := by omega
      have hkL : k < L.length := by rw [HN.out]; exact hlt
      have hkN : k < ns.length := by rw [HNL.out]; exact hlt
      obtain ⟨ao', c', hv', h1, h2, h3⟩ := HR.out
      obtain ⟨b, o, ha, hPb, hcell⟩ := h3 (fun e => by rw [e] at hkL; simp at hkL)
      obtain ⟨u, hu8, hu, hj⟩ := hcell k L[k] (List.getElem?_eq_getElem hkL)
      obtain ⟨na', nc', hw', k1, k2, k3⟩ := HRN.out
      obtain ⟨p, q, hna, hPp, hncell⟩ := k3 (fun e => by rw [e] at hkN; simp at hkN)
      have hnc0 := hncell k ns[k] (List.getElem?_eq_getElem hkN)
      have hao : ao = some ⟨b, o, none⟩ := by injection hv' with e1 _ _; rw [e1, ha]
      have hno : na = some ⟨p, q, none⟩ := by injection hw' with e1 _ _; rw [e1, hna]
      clear ha hv' hna hw'
      subst hao hno
      obtain ⟨a1, a2, c1, c2, rfl⟩ := jv_jC hj
      have HS := Lib.hid hgw
      have hbl : b < w.heap.size := World.block_lt_of_cell? _ _ (hu 0 (by omega))
      have hbk : wr.heap[b]? = w.heap[b]? := HHW.out.gr.block b hbl (fun e => HP.out b hPb e.symm)
      have HKEEP : Hid (∀ v' w' l', AP B w v l' v' w' → ∀ i, i < 8 → w'.cell? ⟨b, o + k * 8 + i, none⟩ = some ((jC L[k] a1 a2 c1 c2).getD i undef)) := Lib.hid (fun v' w' l' h i hi => by
        have := hu i hi
        rw [show o + (8 * k + i) = o + k * 8 + i by omega] at this
        exact (World.cell?_of_block (w := w) (h.gr.block b hbl (fun e => HP.out b hPb e.symm))).trans this)
      have HNAM : Hid (∀ v' w' l', AP B w v l' v' w' → w'.cell? ⟨p, q + k, none⟩ = some (.string (Sx ns[k]))) := Lib.hid (fun v' w' l' h =>
        (World.cell?_of_block (w := w) (h.gr.block p (World.block_lt_of_cell? _ _ hnc0) (fun e => HP.out p hPp e.symm))).trans hnc0)
      have HBOX : Hid (∀ v' w' l', AP B (w.alloc (.cells (obC (.slice (some ⟨b, o, none⟩) m c) (.slice (some ⟨p, q, none⟩) m nc)) 28)) v l' v' w' → w'.heap[w.heap.size]? = some (.cells (obC (.slice (some ⟨b, o, none⟩) m c) (.slice (some ⟨p, q, none⟩) m nc)) 28 (0, 0))) := Lib.hid (fun v' w' l' h => (h.gr.block w.heap.size (by simp) (fun e => by have := HVO.out _ e.symm; omega)).trans HX.out)
      have hst := textO_step ns L (HNL.out.trans HN.out.symm) k hkL
      have hle := textO_le ns L (HNL.out.trans HN.out.symm) (L.length - (k + 1)) (k + 1) (by omega)
      rw [hst] at hle
      simp only [List.length_append, List.length_cons] at hle
      have hLL := HL.out
      have hB0 := HBR.out
      have hnk : (ns[k]).length ≤ 1000000 := HOK.out.2 _ (List.getElem_mem hkN)
      have KC := comma_any B k u0 (l ++ [123] ++ textO (ns.take k) (L.take k)) wr hh.out.ob hB0 (by simp only [List.length_append, List.length_cons, List.length_nil]; omega)
      have KQ : Hid (∀ v2 w2, AP B w v (l ++ [123] ++ textO (ns.take k) (L.take k) ++ comB k) v2 w2 → Calls Tryz.prog 77 #[v2, .string (Sx ns[k])] w2 fun r w' => ∃ v', r = .returned v' ∧ AP B w2 v2 (l ++ [123] ++ textO (ns.take k) (L.take k) ++ comB k ++ quoB ns[k]) v' w') := Lib.hid (fun v2 w2 h =>
        quoted_to B v2 _ ns[k] w2 h.ob (by have := h.gr.size; omega) (by simp only [List.length_append, List.length_cons, List.length_nil]; omega) hnk)
      have HC4 : Hid ((l ++ [123] ++ textO (ns.take k) (L.take k) ++ comB k ++ quoB ns[k]).length ≤ 1000000000) := Lib.hid (by simp only [List.length_append, List.length_cons, List.length_nil]; omega)
      have KV : Hid (∀ v2 w2, AP B w v (l ++ [123] ++ textO (ns.take k) (L.take k) ++ comB k ++ quoB ns[k] ++ [58]) v2 w2 → Calls Tryz.prog 37 #[v2, .agg (jC L[k] a1 a2 c1 c2)] w2 fun r w' => ∃ v', r = .returned v' ∧ AP B w2 v2 (l ++ [123] ++ textO (ns.take k) (L.take k) ++ comB k ++ quoB ns[k] ++ [58] ++ textJ L[k]) v' w') := Lib.hid (fun v2 w2 h => by
        refine hV (fun b => P b ∧ b < w.heap.size) L[k] _ B v2 _ w2 (JV.keep (fun b hb hlt => ⟨h.gr.block b hlt (fun e => HP.out b hb e.symm), hb, hlt⟩) n L[k] _ hj n (Nat.le_refl _)) (HOK.out.1 _ (List.getElem_mem hkL)) (HT.out.be (h.be HOW.out hB)) h.ob (by have := h.gr.size; omega) (fun b hb => ?_) (by simp only [List.length_append, List.length_cons, List.length_nil]; omega)
        rcases h.fr with e | ⟨q, e, hq⟩
        · rw [e]; exact HP.out b hb.1
        · rw [e]; intro e2; injection e2 with e2; have := hb.2; omega)
      have HST := Lib.hid hst
      have HSZ : Hid (∀ v' w' l', AP B w v l' v' w' → B ≤ w'.heap.size) := Lib.hid (fun v' w' l' h => by have := h.gr.size; omega)
      clear hst hle hLL hu hbk hbl hgw hj h1 h2 h3 k1 k2 k3 hu8 hB0 hnk hnc0 hcell hncell
      have HK0 := Lib.hid (fun v' w' l' h => HKEEP.out v' w' l' h 0 (by omega))
      generalize ns[k] = N0 at *
      generalize L[k] = J0 at *
      go_wp2_with (first
        | (go_at_call 124; ((with_reducible refine KC.mono ?_); rintro r w2 ⟨v2, rfl, hap⟩); have HAP2 := Lib.hid (hh.out.trans hap); obtain ⟨x0, x1, x2, x3, x4, x5, x6, x7⟩ := cells8 (HBOX.out _ _ _ HAP2.out); have hnm2 := HNAM.out _ _ _ (AP.pre HG.out HAP2.out); clear hap)
        | (go_at_call 77; ((with_reducible refine (KQ.out v2 w2 (AP.pre HG.out HAP2.out)).mono ?_); rintro r w3 ⟨v3, rfl, hap⟩); have HAP3 := Lib.hid (HAP2.out.trans hap); clear hap hnm2 x0 x1 x2 x3 x4 x5 x6 x7)
        | (at_builtin; refine wp_ap_lit rfl _ _ rfl B v3 _ 58 _ rfl w3 rfl _ rfl rfl HAP3.out.ob (HSZ.out _ _ _ (AP.pre HG.out HAP3.out)) HC4.out ?_; intro v4 w4 hap; have HAP4 := Lib.hid (HAP3.out.trans hap); obtain ⟨x0, x1, x2, x3, x4, x5, x6, x7⟩ := cells8 (HBOX.out _ _ _ HAP4.out); have hz := HKEEP.out _ _ _ (AP.pre HG.out HAP4.out); have y0 : w4.cell? ⟨b, o + k * 8, none⟩ = some (.int .i64 J0.kind) := hz 0 (by omega); have y1 : w4.cell? ⟨b, o + k * 8 + 1, none⟩ = some (.bool J0.isB) := hz 1 (by omega); have y2 : w4.cell? ⟨b, o + k * 8 + 2, none⟩ = some (.bool J0.nm.down) := hz 2 (by omega); have y3 : w4.cell? ⟨b, o + k * 8 + 3, none⟩ = some (.string (Sx J0.nm.digs)) := hz 3 (by omega); have y4 : w4.cell? ⟨b, o + k * 8 + 4, none⟩ = some (.int .i64 J0.nm.exp) := hz 4 (by omega); have y5 : w4.cell? ⟨b, o + k * 8 + 5, none⟩ = some (.string (Sx J0.tx)) := hz 5 (by omega); have y6 : w4.cell? ⟨b, o + k * 8 + 6, none⟩ = some (.slice a1 J0.items.length c1) := hz 6 (by omega); have y7 : w4.cell? ⟨b, o + k * 8 + 7, none⟩ = some (.slice a2 J0.names.length c2) := hz 7 (by omega); clear hap hz)
        | (go_at_call 37; ((with_reducible refine (KV.out v4 w4 (AP.pre HG.out HAP4.out)).mono ?_); rintro r w5 ⟨v5, rfl, hap⟩); have HAP5 := Lib.hid (HAP4.out.trans hap); clear hap))
      go_round
      case rel => exact ⟨k + 1, by omega, by go_num, Lib.hid (by rw [HST.out]; have := HAP5.out; simpa [List.append_assoc] using this)⟩
      case measure => simp [intOf]; omega
    · obtain rfl : k = m := by omega
      have hfl : L.take k = L := List.take_of_length_le (by rw [HN.out]; omega)
      have hfn : ns.take k = ns := List.take_of_length_le (by rw [HNL.out]; omega)
      have HFL := Lib.hid (And.intro hfl hfn)
      clear hfl hfn
      go_wp2_with (at_builtin; refine wp_ap_lit rfl _ _ rfl B u0 _ 125 _ rfl wr rfl _ rfl rfl hh.out.ob HBR.out (by have := HL.out; rw [HFL.out.1, HFL.out.2]; simp only [List.length_append, List.length_cons, List.length_nil]; omega) ?_; intro v2 w2 hap; have HAP2 := Lib.hid hap; clear hap)
      go_ret
      refine ⟨_, rfl, ?_⟩
      have h5 := HHW.out.trans HAP2.out
      rw [HFL.out.1, HFL.out.2] at h5
      have e6 : l ++ textJ (.obj ns L) = l ++ [123] ++ textO ns L ++ [125] := by unfold textJ; simp
      rw [e6]
      exact h5

end Go.Proofs.YticnfmfmgdfdeaaGreatDoor

/-
  Layer 3: the contracts of blank, Read and Write. Own work.
-/
import Derived.Test.YtnodclijlhoobaaDskL
namespace Go.Proofs.Ytnodclijlhoobaa
open Go.RowKit

theorem newM {w : World} {s l : Nat} {B : Nat} (hB : B ≤ w.heap.size) : DskAt B (w.alloc (.cells (boxNew s l) 111)) w.heap.size { size := s, limit := l, pg := [], loose := [], fails := false, ahead := 0, calls := 0, once := false } :=
  ⟨_, _, _, [], [], hB, heap_alloc_new _ _, ⟨World.ownsRow_nil _ _ _ _, fun y hy => by simp at hy, World.ownsRow_nil _ _ _ _, fun y hy => by simp at hy, rfl⟩, rfl, rfl⟩

/-- The disk behind a call that counts. -/
def cntM (M : SM) : SM := { M with calls := M.calls + 1, fails := cF M.fails M.ahead, ahead := cA M.fails M.ahead }
def Fine (M : SM) : Prop := -9223372036854775808 ≤ M.ahead ∧ M.ahead ≤ 9223372036854775807 ∧ M.calls < 9223372036854775807

theorem count_rows {B d n : Nat} {w : World} {x0 x1 x7 x8 x9 pv lv nv : Value} {c : Nat} {f : Bool} {a : Int} {ps : List PgV} {ls : List LoV} {once : Bool} (hB : B ≤ d)
    (hb : w.heap[d]? = some (.cells #[x0, x1, pv, lv, .int .i64 (c : Int), .bool f, .int .i64 a, x7, x8, x9, nv] 111 (0, 0))) (hr : Rws B w n pv lv nv ps ls once)
    (ha1 : -9223372036854775808 ≤ a) (ha2 : a ≤ 9223372036854775807) (hc : c < 9223372036854775807) :
    Calls Try.prog 53 #[.pointer (some ⟨d, 0, none⟩)] w fun r w' => r = .returned (.int .i64 (cE f a)) ∧ w'.heap[d]? = some (.cells #[x0, x1, pv, lv, .int .i64 ((c + 1 : Nat) : Int), .bool (cF f a), .int .i64 (cA f a), x7, x8, x9, nv] 111 (0, 0)) ∧ Rws B w' n pv lv nv ps ls once ∧
      w.grownBy w' (some d) ∧ w'.heap.size = w.heap.size ∧ Dfr B w w' := by
  refine (count_any w d x0 x1 pv lv x7 x8 x9 nv c f a ha1 ha2 hc hb).mono ?_
  rintro r w' ⟨rfl, h1, h2, h3⟩
  have ht : ∀ k, some d = some k → TagIs w k 111 := fun k e => by injection e with e; subst e; exact ⟨_, _, hb⟩
  exact ⟨rfl, h1, hr.far h2 ht, h2, h3, dfr_row h2 fun k e => ⟨by injection e with e; omega, Dtag.of (ht k e) (by decide)⟩⟩
theorem DskAt.count {B d : Nat} {w : World} {M : SM} (h : DskAt B w d M) (hF : Fine M) :
    Calls Try.prog 53 #[.pointer (some ⟨d, 0, none⟩)] w fun r w' => r = .returned (.int .i64 (cE M.fails M.ahead)) ∧ DskAt B w' d (cntM M) ∧ w.grownBy w' (some d) ∧ w'.heap.size = w.heap.size ∧ Dfr B w w' := by
  obtain ⟨pv, lv, nv, ps, ls, h1, h2, h3, h4, h5⟩ := h
  refine (count_rows h1 h2 h3 hF.1 hF.2.1 hF.2.2).mono ?_
  rintro r w' ⟨rfl, a1, a2, a3, a4, a5⟩
  exact ⟨rfl, ⟨pv, lv, nv, ps, ls, h1, a1, a2, h4, h5⟩, a3, a4, a5⟩

set_option maxRecDepth 100000 in
set_option maxHeartbeats 2000000 in
/-- The page of noughts, at the level of the rows. -/
theorem blank_rows (B : Nat) (w : World) (d n : Nat) (x1 x4 x5 x6 pv lv nv : Value) (ps : List PgV) (ls : List LoV) (once : Bool) (hB : B ≤ d) (hn : n ≤ 4096)
    (hb : w.heap[d]? = some (.cells #[.int .i64 (n : Int), x1, pv, lv, x4, x5, x6, .int .u32 (if once then 1 else 0), .int .i32 0, .int .u32 0, nv] 111 (0, 0))) (hr : Rws B w n pv lv nv ps ls once) :
    Calls Try.prog 56 #[.pointer (some ⟨d, 0, none⟩)] w fun r w' => ∃ nv', r = .returned nv' ∧ w'.heap[d]? = some (.cells #[.int .i64 (n : Int), x1, pv, lv, x4, x5, x6, .int .u32 1, .int .i32 0, .int .u32 0, nv'] 111 (0, 0)) ∧ Rws B w' n pv lv nv' ps ls true ∧ Dfr B w w' := by
  have hlt := lt_of_block hb
  have hmf : ∀ (fn : Fn) (first cap : Array Value) (w : World), (Instr.makeFunc fn first cap).run Try.prog w = .ok (.func fn first cap) w := fun _ _ _ _ => rfl
  have hpd : (⟨w.heap.size, 0, none⟩ : Addr).block ≠ d := by show w.heap.size ≠ d; omega
  have p0 : (w.alloc (.cells #[.pointer (some ⟨d, 0, none⟩)] 25)).cell? ⟨w.heap.size, 0, none⟩ = some (.pointer (some ⟨d, 0, none⟩)) := by simp
  cases once with
  | true =>
    have c7 : (w.alloc (.cells #[.pointer (some ⟨d, 0, none⟩)] 25)).cell? ⟨d, 7, none⟩ = some (.int .u32 1) := cell_alloc (cells11 hb).2.2.2.2.2.2.2.1
    have c10 : (w.alloc (.cells #[.pointer (some ⟨d, 0, none⟩)] 25)).cell? ⟨d, 10, none⟩ = some nv := cell_alloc (cells11 hb).2.2.2.2.2.2.2.2.2.2
    obtain ⟨na, nc, rfl⟩ := own_shape (show w.ownsRow B 5 1 nv n _ from hr.nown)
    have HB := Lib.hid hb
    have HR := Lib.hid hr
    clear hb hr
    go_enter Try.func56, Try.ntmps56
    go_wp2_with (first | (go_at_call 77; refine (do_done d 1 rfl _ _ c7).mono ?_; rintro e w' ⟨rfl, rfl⟩))
    go_ret
    exact ⟨_, rfl, keep_alloc1 HB.out _, HR.out.new (World.grownBy_alloc _ _ _), dfr_new (World.grownBy_alloc _ _ _)⟩
  | false =>
    have hb1 := keep_alloc1 hb (.cells #[.pointer (some ⟨d, 0, none⟩)] 25)
    have HB := Lib.hid hb
    have HB1 := Lib.hid hb1
    have HR := Lib.hid hr
    clear hb hr hb1
    go_enter Try.func56, Try.ntmps56
    go_wp2_with (first | (go_at_call 77; refine (do_first ⟨w.heap.size, 0, none⟩ d n hpd x1 pv lv x4 x5 x6 (.int .u32 0) nv _ p0 hn HB1.out).mono ?_; rintro e w3 ⟨v, rfl, h1, h2, h3⟩; have hgz : w.grownBy w3 (some d) := gtrans (World.grownBy_alloc _ _ _) h3; have p3 : w3.cell? ⟨w.heap.size, 0, none⟩ = some (.pointer (some ⟨d, 0, none⟩)) := h3.cell p0 (by simp; omega); have k10 := (cells11 h1).2.2.2.2.2.2.2.2.2.2; obtain ⟨na, nc, rfl⟩ := own_shape h2; have HG := Lib.hid hgz; have H1 := Lib.hid h1; have H2 := Lib.hid h2; clear h1 h2 h3 hgz p0))
    go_ret
    have ht : ∀ k, some d = some k → TagIs w k 111 := fun k e => by injection e with e; subst e; exact ⟨_, _, HB.out⟩
    have hr3 := HR.out.far HG.out ht
    exact ⟨_, rfl, H1.out, ⟨hr3.pown, hr3.pall, hr3.lown, hr3.lall, own_base (show w3.ownsRow _ 5 1 _ n _ from H2.out) (by simp; omega)⟩, dfr_row HG.out fun k e => ⟨by injection e with e; omega, Dtag.of (ht k e) (by decide)⟩⟩

theorem DskAt.blank {B d : Nat} {w : World} {M : SM} (h : DskAt B w d M) (hn : M.size ≤ 4096) :
    Calls Try.prog 56 #[.pointer (some ⟨d, 0, none⟩)] w fun r w' => ∃ nv, r = .returned nv ∧ Own8 B w' M.size nv (List.replicate M.size 0) ∧ DskAt B w' d { M with once := true } ∧ Dfr B w w' := by
  obtain ⟨pv, lv, nv, ps, ls, h1, h2, h3, h4, h5⟩ := h
  refine (blank_rows B w d M.size _ _ _ _ pv lv nv ps ls M.once h1 hn h2 h3).mono ?_
  rintro r w' ⟨nv', rfl, a1, a2, a3⟩
  exact ⟨nv', rfl, a2.nown, ⟨pv, lv, nv', ps, ls, h1, a1, a2, h4, h5⟩, a3⟩

theorem pcells_get : ∀ (ps : List PgV) (k : Nat) (y : PgV), ps[k]? = some y → (pcells ps)[k * 2]? = some y.1.1 ∧ (pcells ps)[k * 2 + 1]? = some y.1.2
  | [], k, x, h => by simp at h
  | y :: l, 0, x, h => by
    simp only [List.getElem?_cons_zero, Option.some.injEq] at h
    subst h
    exact ⟨rfl, rfl⟩
  | y :: l, k + 1, x, h => by
    simp only [List.getElem?_cons_succ] at h
    obtain ⟨h1, h2⟩ := pcells_get l k x h
    exact ⟨by rw [show (k + 1) * 2 = k * 2 + 1 + 1 by omega]; exact h1, by rw [show (k + 1) * 2 + 1 = k * 2 + 1 + 1 + 1 by omega]; exact h2⟩

/-- Where a page's cells lie. -/
theorem Rws.page {B n i : Nat} {w : World} {pv lv nv : Value} {ps : List PgV} {ls : List LoV} {once : Bool} (h : Rws B w n pv lv nv ps ls once) (hi : i < ps.length) :
    ∃ g c y, pv = .slice (some ⟨g, 0, none⟩) ps.length c ∧ ps[i]? = some y ∧ w.cell? ⟨g, i * 2, none⟩ = some y.1.1 ∧ w.cell? ⟨g, i * 2 + 1, none⟩ = some y.1.2 ∧ Own8 B w n y.1.1 y.2.1 ∧ Own8 B w n y.1.2 y.2.2 := by
  obtain ⟨y, hy⟩ : ∃ y, ps[i]? = some y := ⟨_, List.getElem?_eq_getElem hi⟩
  have hm := h.pall y (List.mem_of_getElem? hy)
  have ho := h.pown
  have ho' := ho
  obtain ⟨c1, c2⟩ := pcells_get ps i y hy
  rcases ho.2 with ⟨rfl, h0⟩ | ⟨g, cap, cur, rfl, hb, hg, hc, hmx, hs, ht⟩
  · omega
  · exact ⟨g, cap, y, rfl, hy, by rw [ho'.cellAt _ (by omega), c1], by rw [ho'.cellAt _ (by omega), c2], hm.1, hm.2⟩

set_option maxHeartbeats 2000000 in
theorem read_rows (B : Nat) (w : World) (d n i : Nat) (x1 x7 x8 x9 pv lv nv : Value) (c : Nat) (f : Bool) (a : Int) (ps : List PgV) (ls : List LoV) (once : Bool) (hB : B ≤ d)
    (hb : w.heap[d]? = some (.cells #[.int .i64 (n : Int), x1, pv, lv, .int .i64 (c : Int), .bool f, .int .i64 a, x7, x8, x9, nv] 111 (0, 0))) (hr : Rws B w n pv lv nv ps ls once)
    (ha1 : -9223372036854775808 ≤ a) (ha2 : a ≤ 9223372036854775807) (hc : c < 9223372036854775807) (hi : i < ps.length) (hn : n ≤ 4096) (h0 : cE f a = 0) (y : PgV) (hy : ps[i]? = some y) :
    Calls Try.prog 16 #[.pointer (some ⟨d, 0, none⟩), .int .i64 (i : Int)] w fun r w' => ∃ wc ao e, r = .returned (.tuple #[.slice ao n e, .int .i64 0]) ∧
      wc.heap[d]? = some (.cells #[.int .i64 (n : Int), x1, pv, lv, .int .i64 ((c + 1 : Nat) : Int), .bool (cF f a), .int .i64 (cA f a), x7, x8, x9, nv] 111 (0, 0)) ∧ Rws B wc n pv lv nv ps ls once ∧ w.grownBy wc (some d) ∧ wc.heap.size = w.heap.size ∧ Dfr B w wc ∧
      wc.grownBy w' none ∧ Own8 wc.heap.size w' n (.slice ao n e) y.2.2 := by
  obtain ⟨g, pc, -, rfl, -, -, -, -, -⟩ := hr.page hi
  have c2 := (cells11 hb).2.2.1
  have HB := Lib.hid hb
  have HR := Lib.hid hr
  have HY := Lib.hid hy
  have HI := Lib.hid hi
  have H0 := Lib.hid h0
  obtain ⟨m, hm⟩ : ∃ m, m = ps.length := ⟨_, rfl⟩
  rw [← hm] at c2 hi HB HR
  have HM := Lib.hid hm
  have hii : (i : Int) < (m : Int) := by omega
  clear hb hr hy h0 hm
  go_enter Try.func16, Try.ntmps16
  go_wp2_with (first
    | (go_at_call 52; ((with_reducible refine (place_in _ d _ m pc i c2 hi).mono ?_); rintro e w' ⟨rfl, rfl⟩))
    | (go_at_call 53; ((with_reducible refine (count_rows hB HB.out HR.out ha1 ha2 hc).mono ?_); rintro e w1 ⟨rfl, b1, r1, g1, s1, d1⟩; rw [H0.out]; have c21 := (cells11 b1).2.2.1; obtain ⟨g', pc', y1, hv, hy1, k1, k2, o1, o2⟩ := r1.page HI.out; rw [HY.out] at hy1; injection hy1 with hy1; subst hy1; simp only [Value.slice.injEq, Option.some.injEq, Addr.mk.injEq, and_true] at hv; obtain ⟨rfl, _, rfl⟩ := hv; obtain ⟨va, vc, hv2⟩ := own_shape o2; rw [hv2] at k2; have O2 : Hid (Own8 B w1 n (.slice va n vc) y.2.2) := Lib.hid (by rw [← hv2]; exact o2); have B1 := Lib.hid b1; have R1 := Lib.hid r1; have G1 := Lib.hid g1; have S1 := Lib.hid s1; have D1 := Lib.hid d1; have L2 := Lib.hid o2.len; clear b1 r1 g1 s1 d1 o1 o2 k1 hv2 c2))
    | (go_at_call 50; have K := clone_any w1 _ _ _ O2.out.seq (Nat.le_refl _) (by have := L2.out; omega); rw [L2.out] at K; ((with_reducible refine K.mono ?_); clear K; rintro e w2 ⟨ao, ce, rfl, hown, hg2⟩; have HO := Lib.hid hown; have HG := Lib.hid hg2; clear hown hg2)))
  go_ret2
  have hm := HM.out
  subst hm
  exact ⟨w1, ao, ce, rfl, B1.out, R1.out, G1.out, S1.out, D1.out, HG.out, HO.out⟩

/-- A page that is read. -/
def lastM (M : SM) (i : Nat) : List Int := (M.pg.getD i ([], [])).2
theorem DskAt.read {B d i : Nat} {w : World} {M : SM} (h : DskAt B w d M) (hF : Fine M) (hi : i < M.pg.length) (hn : M.size ≤ 4096) (h0 : cE M.fails M.ahead = 0) :
    Calls Try.prog 16 #[.pointer (some ⟨d, 0, none⟩), .int .i64 (i : Int)] w fun r w' => ∃ wc ao e, r = .returned (.tuple #[.slice ao M.size e, .int .i64 0]) ∧
      DskAt B wc d (cntM M) ∧ wc.heap.size = w.heap.size ∧ Dfr B w wc ∧ wc.grownBy w' none ∧ Own8 wc.heap.size w' M.size (.slice ao M.size e) (lastM M i) := by
  obtain ⟨pv, lv, nv, ps, ls, h1, h2, h3, h4, h5⟩ := h
  have hi' : i < ps.length := by rw [h4] at hi; simpa using hi
  refine (read_rows B w d M.size i _ _ _ _ pv lv nv _ _ _ ps ls M.once h1 h2 h3 hF.1 hF.2.1 hF.2.2 hi' hn h0 ps[i] (List.getElem?_eq_getElem hi')).mono ?_
  rintro r w' ⟨wc, ao, e, rfl, a1, a2, a3, a4, a5, a6, a7⟩
  refine ⟨wc, ao, e, rfl, ⟨pv, lv, nv, ps, ls, h1, a1, a2, h4, h5⟩, a4, a5, a6, ?_⟩
  have e1 : lastM M i = ps[i].2.2 := by simp [lastM, h4, List.getD_eq_getElem?_getD, List.getElem?_eq_getElem hi']
  rw [e1]; exact a7

set_option maxHeartbeats 1000000 in
theorem DskAt.read_io {B d i : Nat} {w : World} {M : SM} (h : DskAt B w d M) (hF : Fine M) (hi : i < M.pg.length) (h0 : cE M.fails M.ahead = 20) :
    Calls Try.prog 16 #[.pointer (some ⟨d, 0, none⟩), .int .i64 (i : Int)] w fun r w' => r = .returned (.tuple #[.slice none 0 0, .int .i64 20]) ∧ DskAt B w' d (cntM M) ∧ Dfr B w w' := by
  have h' := h
  obtain ⟨pv, lv, nv, ps, ls, h1, h2, h3, h4, h5⟩ := h
  have c2 := (cells11 h2).2.2.1
  have hi' : i < ps.length := by rw [h4] at hi; simpa using hi
  obtain ⟨pa, pc, rfl⟩ := own_shape h3.pown
  obtain ⟨m, hm⟩ : ∃ m, m = ps.length := ⟨_, rfl⟩
  rw [← hm] at c2 hi'
  have H0 := Lib.hid h0
  have HD := Lib.hid h'
  have HF := Lib.hid hF
  clear h1 h2 h3 h4 h5 h0 h' hF hm hi
  go_enter Try.func16, Try.ntmps16
  go_wp2_with (first
    | (go_at_call 52; ((with_reducible refine (place_in _ d _ m pc i c2 hi').mono ?_); rintro e w' ⟨rfl, rfl⟩))
    | (go_at_call 53; ((with_reducible refine (HD.out.count HF.out).mono ?_); rintro e w1 ⟨rfl, b1, g1, s1, d1⟩; rw [H0.out]; have B1 := Lib.hid b1; have D1 := Lib.hid d1; clear b1 g1 s1 d1)))
  go_ret2
  exact ⟨rfl, B1.out, D1.out⟩
set_option maxHeartbeats 1000000 in
theorem DskAt.read_out {B d : Nat} {i : Int} {w : World} {M : SM} (h : DskAt B w d M) (hi : i < 0 ∨ (M.pg.length : Int) ≤ i) :
    Calls Try.prog 16 #[.pointer (some ⟨d, 0, none⟩), .int .i64 i] w fun r w' => r = .returned (.tuple #[.slice none 0 0, .int .i64 15]) ∧ w = w' := by
  obtain ⟨pv, lv, nv, ps, ls, h1, h2, h3, h4, h5⟩ := h
  have c2 := (cells11 h2).2.2.1
  obtain ⟨pa, pc, rfl⟩ := own_shape h3.pown
  obtain ⟨m, hm⟩ : ∃ m, m = ps.length := ⟨_, rfl⟩
  have hl : M.pg.length = m := by rw [h4, hm]; simp
  rw [← hm] at c2
  rw [hl] at hi
  have HI := Lib.hid hi
  clear h1 h2 h3 h4 h5 hm hl hi
  go_enter Try.func16, Try.ntmps16
  go_wp2_with (first
    | (go_at_call 52; ((with_reducible refine (place_out _ d _ m pc i c2 HI.out).mono ?_); rintro e w' ⟨rfl, rfl⟩)))
  go_ret2
  exact ⟨rfl, rfl⟩
set_option maxHeartbeats 1000000 in
theorem read_nil (w : World) (i : Int) : Calls Try.prog 16 #[.pointer none, .int .i64 i] w fun r w' => r = .returned (.tuple #[.slice none 0 0, .int .i64 1]) ∧ w = w' := by
  go_enter Try.func16, Try.ntmps16
  go_wp2_with (first
    | (go_at_call 52; ((with_reducible refine (place_nil _ i).mono ?_); rintro e w' ⟨rfl, rfl⟩)))
  go_ret2
  exact ⟨rfl, rfl⟩

end Go.Proofs.Ytnodclijlhoobaa

/-
  Layer 3: the contract of Write. Own work.
-/
import Derived.Test.YtnodclijlhoobaaDskM
namespace Go.Proofs.Ytnodclijlhoobaa
open Go.RowKit

theorem infoWrite : (Try.prog.info? 113).map (fun i => (i.zero, i.size, i.bytes)) = some (some (.agg #[.int .i64 0, .slice none 0 0]), 2, 32) := by kernel_rfl
theorem wcells_len (ls : List LoV) : (wcells ls).length = 2 * ls.length := by
  induction ls with
  | nil => rfl
  | cons x l ih => simp only [wcells, List.flatMap_cons, List.length_append, List.length_cons, List.length_nil] at ih ⊢; omega
theorem wcells_snoc (ls : List LoV) (y : LoV) : wcells (ls ++ [y]) = wcells ls ++ [.int .i64 (y.1 : Int), y.2.1] := by simp [wcells]
theorem pcells_last : ∀ (ps : List PgV) (i : Nat) (y : PgV) (v : Value) (z : List Int × List Int), ps[i]? = some y → pcells (ps.set i ((y.1.1, v), z)) = (pcells ps).set (i * 2 + 1) v
  | [], i, y, v, z, h => by simp at h
  | x :: l, 0, y, v, z, h => by
    simp only [List.getElem?_cons_zero, Option.some.injEq] at h
    subst h
    rfl
  | x :: l, i + 1, y, v, z, h => by
    simp only [List.getElem?_cons_succ] at h
    have ih := pcells_last l i y v z h
    rw [show (i + 1) * 2 + 1 = i * 2 + 1 + 1 + 1 by omega]
    show _ :: _ :: pcells (l.set i _) = _ :: _ :: (pcells l).set _ _
    rw [ih]
theorem pcells_good : ∀ (ps : List PgV) (i : Nat) (y : PgV) (v : Value) (z : List Int × List Int), ps[i]? = some y → pcells (ps.set i ((v, y.1.2), z)) = (pcells ps).set (i * 2) v
  | [], i, y, v, z, h => by simp at h
  | x :: l, 0, y, v, z, h => by
    simp only [List.getElem?_cons_zero, Option.some.injEq] at h
    subst h
    rfl
  | x :: l, i + 1, y, v, z, h => by
    simp only [List.getElem?_cons_succ] at h
    have ih := pcells_good l i y v z h
    rw [show (i + 1) * 2 = i * 2 + 1 + 1 by omega]
    show _ :: _ :: pcells (l.set i _) = _ :: _ :: (pcells l).set _ _
    rw [ih]

theorem disk_free {w : World} {d : Nat} {cs : Array Value} {base size n : Nat} {e : TypeId} {v : Value} {xs : List Value} (h : w.ownsRow base e size v n xs) (hb : w.heap[d]? = some (.cells cs 111 (0, 0))) (he : 111 ≠ e) : some d ≠ v.ownBlock := fun e' =>
  he (TagIs.uniq (w := w) (k := d) ⟨_, _, hb⟩ (own_tag h d e'.symm).2.2)

set_option maxRecDepth 100000 in
set_option maxHeartbeats 4000000 in
theorem write_rows (B b0 : Nat) (w : World) (d n i : Nat) (x1 x7 x8 x9 pv lv nv : Value) (c : Nat) (f : Bool) (a : Int) (ps : List PgV) (ls : List LoV) (once : Bool) (ba : Option Addr) (bc : Nat) (bs : List Int) (hB : B ≤ d)
    (hb : w.heap[d]? = some (.cells #[.int .i64 (n : Int), x1, pv, lv, .int .i64 (c : Int), .bool f, .int .i64 a, x7, x8, x9, nv] 111 (0, 0))) (hr : Rws B w n pv lv nv ps ls once)
    (ha1 : -9223372036854775808 ≤ a) (ha2 : a ≤ 9223372036854775807) (hc : c < 9223372036854775807) (hi : i < ps.length) (hn : n ≤ 4096) (h0 : cE f a = 0) (y : PgV) (hy : ps[i]? = some y) (hbs : Own8 b0 w n (.slice ba n bc) bs) (hl : ls.length ≤ 100000) :
    Calls Try.prog 14 #[.pointer (some ⟨d, 0, none⟩), .int .i64 (i : Int), .slice ba n bc] w fun r w' => ∃ lv' v', r = .returned (.int .i64 0) ∧
      w'.heap[d]? = some (.cells #[.int .i64 (n : Int), x1, pv, lv', .int .i64 ((c + 1 : Nat) : Int), .bool (cF f a), .int .i64 (cA f a), x7, x8, x9, nv] 111 (0, 0)) ∧ Rws B w' n pv lv' nv (ps.set i ((y.1.1, v'), (y.2.1, bs))) (ls ++ [(i, (v', bs))]) once ∧ Dfr B w w' := by
  obtain ⟨g, pc, -, rfl, -, -, -, -, -⟩ := hr.page hi
  have c2 := (cells11 hb).2.2.1
  have c0 := (cells11 hb).1
  have HB := Lib.hid hb
  have HR := Lib.hid hr
  have HY := Lib.hid hy
  have HI := Lib.hid hi
  have H0 := Lib.hid h0
  have HS := Lib.hid hbs
  obtain ⟨m, hm⟩ : ∃ m, m = ps.length := ⟨_, rfl⟩
  obtain ⟨k, hk⟩ : ∃ k, k = ls.length := ⟨_, rfl⟩
  rw [← hm] at c2 hi HB HR
  rw [← hk] at hl
  have HM := Lib.hid hm
  have HK := Lib.hid hk
  obtain ⟨la, lc, rfl⟩ := own_shape hr.lown
  rw [← hk] at HB HR
  have hii : (i : Int) < (m : Int) := by omega
  obtain ⟨i0, hi0, hz0, hz1, hz2⟩ := info_parts infoWrite
  clear hb hr hy h0 hm hk hbs
  go_enter Try.func14, Try.ntmps14
  go_wp2_with (first
    | (go_at_call 52; ((with_reducible refine (place_in _ d _ m pc i c2 hi).mono ?_); rintro e w' ⟨rfl, rfl⟩))
    | (go_at_call 53; ((with_reducible refine (count_rows hB HB.out HR.out ha1 ha2 hc).mono ?_); rintro e w1 ⟨rfl, b1, r1, g1, s1, d1⟩; rw [H0.out]; have B1 := Lib.hid b1; have R1 := Lib.hid r1; have D1 := Lib.hid d1; have S1 := Lib.hid (HS.out.far g1 (fun k e => by injection e with e; subst e; exact ⟨_, _, HB.out⟩) (by decide)); clear b1 r1 g1 s1 d1 c2 c0))
    | (go_at_call 50; have K := clone_any w1 _ _ _ S1.out.seq (Nat.le_refl _) (by have := S1.out.len; omega); rw [S1.out.len] at K; ((with_reducible refine K.mono ?_); clear K; rintro e w2 ⟨va, vc, rfl, hown, hg2⟩; have HV := Lib.hid hown; have b2 := (hg2.block d (lt_of_block B1.out) (by simp)).trans B1.out; have B2 := Lib.hid b2; have R2 := Lib.hid (R1.out.new hg2); have D2 := Lib.hid (D1.out.trans (dfr_new hg2)); have L2 : Hid (w2.ownsRow B 113 2 (.slice la k lc) k (wcells ls)) := Lib.hid (by have h := R2.out.lown; rw [← HK.out] at h; exact h); have c3 := (cells11 b2).2.2.2.1; clear hown hg2 b2))
    | (at_builtin; refine wpList_append_own _ rfl _ _ 95 rfl B 113 i0 (.agg #[.int .i64 0, .slice none 0 0]) 2 32 Try.underlying95 hi0 hz0 hz1 hz2 rfl (by decide) _ _ _ rfl (L2.out.alloc _) ⟨w2.heap.size, 0, none⟩ 1 1 [.int .i64 (i : Int), .slice va n vc] rfl rfl ?d1 ?d2 ?d3 ?d4 ?d5 ?_))
  case d1 =>
    intro j u hu
    have hj := (List.getElem?_eq_some_iff.1 hu).1
    rw [Addr.add_lit, Nat.zero_add, World.cell?_alloc_mark, ← hu]
    match j, hj with
    | 0, _ => rfl
    | 1, _ => rfl
  case d2 => intro u hu; simp at hu; rcases hu with rfl | rfl <;> rfl
  case d3 => unfold maxLen; omega
  case d4 => omega
  case d5 => have := lt_of_block B2.out; simp; omega
  intro v3 w3 hown3 hg3 _
  obtain ⟨a3, e3, rfl⟩ := own_shape hown3
  have hg : w2.grownBy w3 (Value.slice la k lc).ownBlock := gtrans (World.grownBy_alloc _ _ _) hg3
  have htag : ∀ q, (Value.slice la k lc).ownBlock = some q → TagIs w2 q 113 := fun q hq => (own_tag L2.out q hq).2.2
  have b3 := (hg.block d (lt_of_block B2.out) (disk_free L2.out B2.out (by decide))).trans B2.out
  have r3 : Rws B w3 n (.slice (some ⟨g, 0, none⟩) m pc) (.slice a3 (k + 1) e3) nv ps (ls ++ [(i, (.slice va n vc, bs))]) once := R2.out.looses hg htag (by rw [wcells_snoc, List.length_append, ← HK.out]; exact hown3) (fun y hy => by
    rw [List.mem_append, List.mem_singleton] at hy
    rcases hy with hy | rfl
    · exact .inl hy
    · exact .inr (own_base HV.out (by have := D1.out.size; have := lt_of_block HB.out; omega)))
  have d3 := D2.out.trans (dfr_row hg fun q hq => ⟨(own_tag L2.out q hq).1, Dtag.of (htag q hq) (by decide)⟩)
  have k3 := (cells11 b3).2.2.2.1
  have f3 := free11 b3 3
  have b4 : (w3.setCell ⟨d, 3, none⟩ (.slice a3 (k + 1) e3)).heap[d]? = _ := set_box b3 3 (.slice a3 (k + 1) e3)
  have r4 := r3.far (gset w3 ⟨d, 3, none⟩ (.slice a3 (k + 1) e3)) (fun q e => by injection e with e; subst e; exact ⟨_, _, b3⟩)
  have d4 := d3.trans (dfr_row (gset w3 ⟨d, 3, none⟩ (.slice a3 (k + 1) e3)) fun q e => by injection e with e; subst e; exact ⟨hB, Dtag.of ⟨_, _, b3⟩ (by decide)⟩)
  have c42 := (cells11 b4).2.2.1
  have hi4 : i * 2 + 1 < ps.length * 2 := by have := HI.out; omega
  have hp4 : (w3.setCell ⟨d, 3, none⟩ (.slice a3 (k + 1) e3)).ownsRow B 115 2 (.slice (some ⟨g, 0, none⟩) m pc) m (pcells ps) := by have h := r4.pown; rw [← HM.out] at h; exact h
  have kp : (w3.setCell ⟨d, 3, none⟩ (.slice a3 (k + 1) e3)).cell? ⟨g, i * 2 + 1, none⟩ = some y.1.2 := by
    rw [hp4.cellAt _ (by omega)]; exact (pcells_get ps i y HY.out).2
  have fp := hp4.frozenAt (i * 2 + 1)
  have HG := Lib.hid (own_tag hp4 g rfl)
  have HP := Lib.hid hp4
  have B3 := Lib.hid b3
  have B4 := Lib.hid b4
  have R4 := Lib.hid r4
  have D4 := Lib.hid d4
  generalize y.1.2 = yold at kp
  clear hown3 hg3 hg htag b3 r3 d3 b4 r4 d4 hi4 hp4 hi0 hz0 hz1 hz2
  go_wp2
  go_ret
  obtain ⟨st1, st2⟩ := HP.out.stored (i * 2 + 1) (.slice va n vc)
  have hps : (ps.set i ((y.1.1, .slice va n vc), (y.2.1, bs))).length = m := by rw [List.length_set, HM.out]
  have hgd : g ≠ d := fun e => by
    have h1 := HG.out.2.2
    rw [e] at h1
    exact absurd (h1.uniq ⟨_, _, B4.out⟩) (by decide)
  have hm := HM.out
  subst hm
  refine ⟨.slice a3 (k + 1) e3, .slice va n vc, rfl, (st2.block d (lt_of_block B4.out) (fun e => by injection e with e; exact hgd e.symm)).trans B4.out, ?_, D4.out.trans (dfr_row st2 fun q e => by injection e with e; subst e; exact ⟨HG.out.1, Dtag.of HG.out.2.2 (by decide)⟩)⟩
  refine R4.out.pages st2 (fun q e => by injection e with e; subst e; exact HG.out.2.2) (by rw [hps, pcells_last ps i y _ _ HY.out]; exact st1) (fun z hz => ?_)
  rcases List.mem_or_eq_of_mem_set hz with hz | rfl
  · exact .inl hz
  · have hy := R4.out.pall y (List.mem_of_getElem? HY.out)
    have hv := R4.out.lall (i, (.slice va n vc, bs)) (by simp)
    exact .inr ⟨hy.1, hv⟩

/-- The disk behind a write. -/
def wrM (M : SM) (i : Nat) (bs : List Int) : SM := { cntM M with pg := M.pg.set i ((M.pg.getD i ([], [])).1, bs), loose := M.loose ++ [(i, bs)] }
theorem DskAt.write {B b0 d i : Nat} {w : World} {M : SM} {ba : Option Addr} {bc : Nat} {bs : List Int} (h : DskAt B w d M) (hF : Fine M) (hi : i < M.pg.length) (hn : M.size ≤ 4096) (h0 : cE M.fails M.ahead = 0) (hbs : Own8 b0 w M.size (.slice ba M.size bc) bs) (hl : M.loose.length ≤ 100000) :
    Calls Try.prog 14 #[.pointer (some ⟨d, 0, none⟩), .int .i64 (i : Int), .slice ba M.size bc] w fun r w' => r = .returned (.int .i64 0) ∧ DskAt B w' d (wrM M i bs) ∧ Dfr B w w' := by
  obtain ⟨pv, lv, nv, ps, ls, h1, h2, h3, h4, h5⟩ := h
  have hi' : i < ps.length := by rw [h4] at hi; simpa using hi
  refine (write_rows B b0 w d M.size i _ _ _ _ pv lv nv _ _ _ ps ls M.once ba bc bs h1 h2 h3 hF.1 hF.2.1 hF.2.2 hi' hn h0 ps[i] (List.getElem?_eq_getElem hi') hbs (by rw [h5] at hl; simpa using hl)).mono ?_
  rintro r w' ⟨lv', v', rfl, a1, a2, a3⟩
  refine ⟨rfl, ⟨pv, lv', nv, _, _, h1, a1, a2, ?_, ?_⟩, a3⟩
  · simp [wrM, h4, List.map_set, List.getD_eq_getElem?_getD, List.getElem?_eq_getElem hi']
  · simp [wrM, h5]

set_option maxHeartbeats 1000000 in
theorem DskAt.write_io {B d i n bn bc : Nat} {ba : Option Addr} {w : World} {M : SM} (h : DskAt B w d M) (hF : Fine M) (hi : i < M.pg.length) (hb : bn = M.size) (h0 : cE M.fails M.ahead = 20) :
    Calls Try.prog 14 #[.pointer (some ⟨d, 0, none⟩), .int .i64 (i : Int), .slice ba bn bc] w fun r w' => r = .returned (.int .i64 20) ∧ DskAt B w' d (cntM M) ∧ Dfr B w w' := by
  have h' := h
  obtain ⟨pv, lv, nv, ps, ls, h1, h2, h3, h4, h5⟩ := h
  have c2 := (cells11 h2).2.2.1
  have c0 := (cells11 h2).1
  rw [← hb] at c0
  have hi' : i < ps.length := by rw [h4] at hi; simpa using hi
  obtain ⟨pa, pc, rfl⟩ := own_shape h3.pown
  obtain ⟨m, hm⟩ : ∃ m, m = ps.length := ⟨_, rfl⟩
  rw [← hm] at c2 hi'
  have H0 := Lib.hid h0
  have HD := Lib.hid h'
  have HF := Lib.hid hF
  clear h1 h2 h3 h4 h5 h0 h' hF hm hi hb
  go_enter Try.func14, Try.ntmps14
  go_wp2_with (first
    | (go_at_call 52; ((with_reducible refine (place_in _ d _ m pc i c2 hi').mono ?_); rintro e w' ⟨rfl, rfl⟩))
    | (go_at_call 53; ((with_reducible refine (HD.out.count HF.out).mono ?_); rintro e w1 ⟨rfl, b1, g1, s1, d1⟩; rw [H0.out]; have B1 := Lib.hid b1; have D1 := Lib.hid d1; clear b1 g1 s1 d1)))
  go_ret
  exact ⟨rfl, B1.out, D1.out⟩
set_option maxHeartbeats 1000000 in
theorem DskAt.write_size {B d i bn bc : Nat} {ba : Option Addr} {w : World} {M : SM} (h : DskAt B w d M) (hi : i < M.pg.length) (hb : bn ≠ M.size) :
    Calls Try.prog 14 #[.pointer (some ⟨d, 0, none⟩), .int .i64 (i : Int), .slice ba bn bc] w fun r w' => r = .returned (.int .i64 1) ∧ w = w' := by
  obtain ⟨pv, lv, nv, ps, ls, h1, h2, h3, h4, h5⟩ := h
  have c2 := (cells11 h2).2.2.1
  have c0 := (cells11 h2).1
  have hi' : i < ps.length := by rw [h4] at hi; simpa using hi
  obtain ⟨pa, pc, rfl⟩ := own_shape h3.pown
  obtain ⟨m, hm⟩ : ∃ m, m = ps.length := ⟨_, rfl⟩
  rw [← hm] at c2 hi'
  obtain ⟨s, hs⟩ : ∃ s, s = M.size := ⟨_, rfl⟩
  rw [← hs] at hb c0
  have hne : ((bn : Int) == (s : Int)) = false := by simpa using (by omega : ¬ (bn : Int) = (s : Int))
  clear h1 h2 h3 h4 h5 hm hi hs hb
  go_enter Try.func14, Try.ntmps14
  go_wp2_with (first
    | (go_at_call 52; ((with_reducible refine (place_in _ d _ m pc i c2 hi').mono ?_); rintro e w' ⟨rfl, rfl⟩)))
  go_ret
  exact ⟨rfl, rfl⟩
set_option maxHeartbeats 1000000 in
theorem DskAt.write_out {B d : Nat} {i : Int} {v : Value} {w : World} {M : SM} (h : DskAt B w d M) (hi : i < 0 ∨ (M.pg.length : Int) ≤ i) :
    Calls Try.prog 14 #[.pointer (some ⟨d, 0, none⟩), .int .i64 i, v] w fun r w' => r = .returned (.int .i64 15) ∧ w = w' := by
  obtain ⟨pv, lv, nv, ps, ls, h1, h2, h3, h4, h5⟩ := h
  have c2 := (cells11 h2).2.2.1
  obtain ⟨pa, pc, rfl⟩ := own_shape h3.pown
  obtain ⟨m, hm⟩ : ∃ m, m = ps.length := ⟨_, rfl⟩
  have hl : M.pg.length = m := by rw [h4, hm]; simp
  rw [← hm] at c2
  rw [hl] at hi
  have HI := Lib.hid hi
  clear h1 h2 h3 h4 h5 hm hl hi
  go_enter Try.func14, Try.ntmps14
  go_wp2_with (first
    | (go_at_call 52; ((with_reducible refine (place_out _ d _ m pc i c2 HI.out).mono ?_); rintro e w' ⟨rfl, rfl⟩)))
  go_ret
  exact ⟨rfl, rfl⟩
set_option maxHeartbeats 1000000 in
theorem write_nil (w : World) (i : Int) (v : Value) : Calls Try.prog 14 #[.pointer none, .int .i64 i, v] w fun r w' => r = .returned (.int .i64 1) ∧ w = w' := by
  go_enter Try.func14, Try.ntmps14
  go_wp2_with (first
    | (go_at_call 52; ((with_reducible refine (place_nil _ i).mono ?_); rintro e w' ⟨rfl, rfl⟩)))
  go_ret
  exact ⟨rfl, rfl⟩

end Go.Proofs.Ytnodclijlhoobaa

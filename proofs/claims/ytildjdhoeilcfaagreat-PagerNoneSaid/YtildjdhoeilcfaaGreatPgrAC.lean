/-
  Layer 3: the contract of Write. Own work.
-/
import Derived.Test.YtildjdhoeilcfaaGreatPgrAB
import Derived.Deep.RegionHeld3

namespace Go.Proofs.YtildjdhoeilcfaaGreat
open Go.RowKit

theorem infoWrite : (Tryz.prog.info? 143).map (fun i => (i.zero, i.size, i.bytes)) = some (some (.agg #[.int .i64 0, .slice none 0 0]), 2, 32) := by kernel_rfl
theorem wcells_len (ls : List LoV) : (wcells ls).length = 2 * ls.length := by
  induction ls with
  | nil => rfl
  | cons x l ih => simp only [wcells, List.flatMap_cons, List.length_append, List.length_cons, List.length_nil] at ih ⊢; omega
theorem wcells_snoc (ls : List LoV) (y : LoV) : wcells (ls ++ [y]) = wcells ls ++ [.int .i64 (y.1 : Int), y.2.1] := by simp [wcells]
theorem pcells_last : ∀ (ps : List PgV) (i : Nat) (y : PgV) (v : Value) (z : List Int × List Int), ps[i]? = some y → pcells (ps.set i ((y.1.1, v), z)) = (pcells ps).set (i * 2 + 1) v
  | [], i, y, v, z, h => by simp at h
  | x :: l, 0, y, v, z, h => by
    simp only [List.getElem?_cons_zero, Option.some.injEq] at h
    subst h
    rfl
  | x :: l, i + 1, y, v, z, h => by
    simp only [List.getElem?_cons_succ] at h
    have ih := pcells_last l i y v z h
    rw [show (i + 1) * 2 + 1 = i * 2 + 1 + 1 + 1 by omega]
    show _ :: _ :: pcells (l.set i _) = _ :: _ :: (pcells l).set _ _
    rw [ih]
theorem pcells_good : ∀ (ps : List PgV) (i : Nat) (y : PgV) (v : Value) (z : List Int × List Int), ps[i]? = some y → pcells (ps.set i ((v, y.1.2), z)) = (pcells ps).set (i * 2) v
  | [], i, y, v, z, h => by simp at h
  | x :: l, 0, y, v, z, h => by
    simp only [List.getElem?_cons_zero, Option.some.injEq] at h
    subst h
    rfl
  | x :: l, i + 1, y, v, z, h => by
    simp only [List.getElem?_cons_succ] at h
    have ih := pcells_good l i y v z h
    rw [show (i + 1) * 2 = i * 2 + 1 + 1 by omega]
    show _ :: _ :: pcells (l.set i _) = _ :: _ :: (pcells l).set _ _
    rw [ih]

theorem disk_free {w : World} {d : Nat} {cs : Array Value} {base size n : Nat} {e : TypeId} {v : Value} {xs : List Value} (h : w.ownsRow base e size v n xs) (hb : w.heap[d]? = some (.cells cs 112 (0, 0))) (he : 112 ≠ e) : some d ≠ v.ownBlock := fun e' =>
  he (TagIs.uniq (w := w) (k := d) ⟨_, _, hb⟩ (own_tag h d e'.symm).2.2)

set_option maxRecDepth 100000 in
set_option maxHeartbeats 4000000 in
theorem write_rows (B b0 : Nat) (w : World) (d n i : Nat) (x1 x7 x8 x9 pv lv nv : Value) (c : Nat) (f : Bool) (a : Int) (ps : List PgV) (ls : List LoV) (once : Bool) (ba : Option Addr) (bc : Nat) (bs : List Int) (hB : B ≤ d)
    (hb : w.heap[d]? = some (.cells #[.int .i64 (n : Int), x1, pv, lv, .int .i64 (c : Int), .bool f, .int .i64 a, x7, x8, x9, nv] 112 (0, 0))) (hr : Rws B w n pv lv nv ps ls once)
    (ha1 : -9223372036854775808 ≤ a) (ha2 : a ≤ 9223372036854775807) (hc : c < 9223372036854775807) (hi : i < ps.length) (hn : n ≤ 4096) (h0 : cE f a = 0) (y : PgV) (hy : ps[i]? = some y) (hbs : Own8 b0 w n (.slice ba n bc) bs) (hl : ls.length ≤ 100000) :
    Calls Tryz.prog 149 #[.pointer (some ⟨d, 0, none⟩), .int .i64 (i : Int), .slice ba n bc] w fun r w' => ∃ lv' v', r = .returned (.int .i64 0) ∧
      w'.heap[d]? = some (.cells #[.int .i64 (n : Int), x1, pv, lv', .int .i64 ((c + 1 : Nat) : Int), .bool (cF f a), .int .i64 (cA f a), x7, x8, x9, nv] 112 (0, 0)) ∧ Rws B w' n pv lv' nv (ps.set i ((y.1.1, v'), (y.2.1, bs))) (ls ++ [(i, (v', bs))]) once ∧ Dfr B w w' := by
  obtain ⟨g, pc, -, rfl, -, -, -, -, -⟩ := hr.page hi
  have c2 := (cells11 hb).2.2.1
  have c0 := (cells11 hb).1
  have HB := Lib.hid hb
  have HR := Lib.hid hr
  have HY := Lib.hid hy
  have HI := Lib.hid hi
  have H0 := Lib.hid h0
  have HS := Lib.hid hbs
  obtain ⟨m, hm⟩ : ∃ m, m = ps.length := ⟨_, rfl⟩
  obtain ⟨k, hk⟩ : ∃ k, k = ls.length := ⟨_, rfl⟩
  rw [← hm] at c2 hi HB HR
  rw [← hk] at hl
  have HM := Lib.hid hm
  have HK := Lib.hid hk
  obtain ⟨la, lc, rfl⟩ := own_shape hr.lown
  rw [← hk] at HB HR
  have hii : (i : Int) < (m : Int) := by omega
  obtain ⟨i0, hi0, hz0, hz1, hz2⟩ := info_parts infoWrite
  clear hb hr hy h0 hm hk hbs
  go_enter Tryz.func149, Tryz.ntmps149
  go_wp2_with (first
    | (go_at_call 152; ((with_reducible refine (place_in _ d _ m pc i c2 hi).mono ?_); rintro e w' ⟨rfl, rfl⟩))
    | (go_at_call 94; ((with_reducible refine (count_rows hB HB.out HR.out ha1 ha2 hc).mono ?_); rintro e w1 ⟨rfl, b1, r1, g1, s1, d1⟩; rw [H0.out]; have B1 := Lib.hid b1; have R1 := Lib.hid r1; have D1 := Lib.hid d1; have S1 := Lib.hid (HS.out.far g1 (fun k e => by injection e with e; subst e; exact ⟨_, _, HB.out⟩) (by decide)); clear b1 r1 g1 s1 d1 c2 c0))
    | (go_at_call 60; have K := clone_any w1 _ _ _ S1.out.seq (Nat.le_refl _) (by have := S1.out.len; omega); rw [S1.out.len] at K; ((with_reducible refine K.mono ?_); clear K; rintro e w2 ⟨va, vc, rfl, hown, hg2⟩; have HV := Lib.hid hown; have b2 := (hg2.block d (lt_of_block B1.out) (by simp)).trans B1.out; have B2 := Lib.hid b2; have R2 := Lib.hid (R1.out.new hg2); have D2 := Lib.hid (D1.out.trans (dfr_new hg2)); have L2 : Hid (w2.ownsRow B 143 2 (.slice la k lc) k (wcells ls)) := Lib.hid (by have h := R2.out.lown; rw [← HK.out] at h; exact h); have c3 := (cells11 b2).2.2.2.1; clear hown hg2 b2))
    | (at_builtin; refine wpList_append_own _ rfl _ _ 96 rfl B 143 i0 (.agg #[.int .i64 0, .slice none 0 0]) 2 32 Tryz.underlying96 hi0 hz0 hz1 hz2 rfl (by decide) _ _ _ rfl (L2.out.alloc _) ⟨w2.heap.size, 0, none⟩ 1 1 [.int .i64 (i : Int), .slice va n vc] rfl rfl ?d1 ?d2 ?d3 ?d4 ?d5 ?_))
  case d1 =>
    intro j u hu
    have hj := (List.getElem?_eq_some_iff.1 hu).1
    rw [Addr.add_lit, Nat.zero_add, World.cell?_alloc_mark, ← hu]
    match j, hj with
    | 0, _ => rfl
    | 1, _ => rfl
  case d2 => intro u hu; simp at hu; rcases hu with rfl | rfl <;> rfl
  case d3 => unfold maxLen; omega
  case d4 => omega
  case d5 => have := lt_of_block B2.out; simp; omega
  intro v3 w3 hown3 hg3 _
  obtain ⟨a3, e3, rfl⟩ := own_shape hown3
  have hg : w2.grownBy w3 (Value.slice la k lc).ownBlock := gtrans (World.grownBy_alloc _ _ _) hg3
  have htag : ∀ q, (Value.slice la k lc).ownBlock = some q → TagIs w2 q 143 := fun q hq => (own_tag L2.out q hq).2.2
  have b3 := (hg.block d (lt_of_block B2.out) (disk_free L2.out B2.out (by decide))).trans B2.out
  have r3 : Rws B w3 n (.slice (some ⟨g, 0, none⟩) m pc) (.slice a3 (k + 1) e3) nv ps (ls ++ [(i, (.slice va n vc, bs))]) once := R2.out.looses hg htag (by rw [wcells_snoc, List.length_append, ← HK.out]; exact hown3) (fun y hy => by
    rw [List.mem_append, List.mem_singleton] at hy
    rcases hy with hy | rfl
    · exact .inl hy
    · exact .inr (own_base HV.out (by have := D1.out.size; have := lt_of_block HB.out; omega)))
  have d3 := D2.out.trans (dfr_row hg fun q hq => ⟨(own_tag L2.out q hq).1, Dtag.of (htag q hq) (by decide)⟩)
  have k3 := (cells11 b3).2.2.2.1
  have f3 := free11 b3 3
  have b4 : (w3.setCell ⟨d, 3, none⟩ (.slice a3 (k + 1) e3)).heap[d]? = _ := set_box b3 3 (.slice a3 (k + 1) e3)
  have r4 := r3.far (gset w3 ⟨d, 3, none⟩ (.slice a3 (k + 1) e3)) (fun q e => by injection e with e; subst e; exact ⟨_, _, b3⟩)
  have d4 := d3.trans (dfr_row (gset w3 ⟨d, 3, none⟩ (.slice a3 (k + 1) e3)) fun q e => by injection e with e; subst e; exact ⟨hB, Dtag.of ⟨_, _, b3⟩ (by decide)⟩)
  have c42 := (cells11 b4).2.2.1
  have hi4 : i * 2 + 1 < ps.length * 2 := by have := HI.out; omega
  have hp4 : (w3.setCell ⟨d, 3, none⟩ (.slice a3 (k + 1) e3)).ownsRow B 146 2 (.slice (some ⟨g, 0, none⟩) m pc) m (pcells ps) := by have h := r4.pown; rw [← HM.out] at h; exact h
  have kp : (w3.setCell ⟨d, 3, none⟩ (.slice a3 (k + 1) e3)).cell? ⟨g, i * 2 + 1, none⟩ = some y.1.2 := by
    rw [hp4.cellAt _ (by omega)]; exact (pcells_get ps i y HY.out).2
  have fp := hp4.frozenAt (i * 2 + 1)
  have HG := Lib.hid (own_tag hp4 g rfl)
  have HP := Lib.hid hp4
  have B3 := Lib.hid b3
  have B4 := Lib.hid b4
  have R4 := Lib.hid r4
  have D4 := Lib.hid d4
  generalize y.1.2 = yold at kp
  clear hown3 hg3 hg htag b3 r3 d3 b4 r4 d4 hi4 hp4 hi0 hz0 hz1 hz2
  go_wp2
  go_ret
  obtain ⟨st1, st2⟩ := HP.out.stored (i * 2 + 1) (.slice va n vc)
  have hps : (ps.set i ((y.1.1, .slice va n vc), (y.2.1, bs))).length = m := by rw [List.length_set, HM.out]
  have hgd : g ≠ d := fun e => by
    have h1 := HG.out.2.2
    rw [e] at h1
    exact absurd (h1.uniq ⟨_, _, B4.out⟩) (by decide)
  have hm := HM.out
  subst hm
  refine ⟨.slice a3 (k + 1) e3, .slice va n vc, rfl, (st2.block d (lt_of_block B4.out) (fun e => by injection e with e; exact hgd e.symm)).trans B4.out, ?_, D4.out.trans (dfr_row st2 fun q e => by injection e with e; subst e; exact ⟨HG.out.1, Dtag.of HG.out.2.2 (by decide)⟩)⟩
  refine R4.out.pages st2 (fun q e => by injection e with e; subst e; exact HG.out.2.2) (by rw [hps, pcells_last ps i y _ _ HY.out]; exact st1) (fun z hz => ?_)
  rcases List.mem_or_eq_of_mem_set hz with hz | rfl
  · exact .inl hz
  · have hy := R4.out.pall y (List.mem_of_getElem? HY.out)
    have hv := R4.out.lall (i, (.slice va n vc, bs)) (by simp)
    exact .inr ⟨hy.1, hv⟩

/-- The disk behind a write. -/
def wrM (M : SM) (i : Nat) (bs : List Int) : SM := { cntM M with pg := M.pg.set i ((M.pg.getD i ([], [])).1, bs), loose := M.loose ++ [(i, bs)] }
theorem DskAt.write {B b0 d i : Nat} {w : World} {M : SM} {ba : Option Addr} {bc : Nat} {bs : List Int} (h : DskAt B w d M) (hF : Fine M) (hi : i < M.pg.length) (hn : M.size ≤ 4096) (h0 : cE M.fails M.ahead = 0) (hbs : Own8 b0 w M.size (.slice ba M.size bc) bs) (hl : M.loose.length ≤ 100000) :
    Calls Tryz.prog 149 #[.pointer (some ⟨d, 0, none⟩), .int .i64 (i : Int), .slice ba M.size bc] w fun r w' => r = .returned (.int .i64 0) ∧ DskAt B w' d (wrM M i bs) ∧ Dfr B w w' := by
  obtain ⟨pv, lv, nv, ps, ls, h1, h2, h3, h4, h5⟩ := h
  have hi' : i < ps.length := by rw [h4] at hi; simpa using hi
  refine (write_rows B b0 w d M.size i _ _ _ _ pv lv nv _ _ _ ps ls M.once ba bc bs h1 h2 h3 hF.1 hF.2.1 hF.2.2 hi' hn h0 ps[i] (List.getElem?_eq_getElem hi') hbs (by rw [h5] at hl; simpa using hl)).mono ?_
  rintro r w' ⟨lv', v', rfl, a1, a2, a3⟩
  refine ⟨rfl, ⟨pv, lv', nv, _, _, h1, a1, a2, ?_, ?_⟩, a3⟩
  · simp [wrM, h4, List.map_set, List.getD_eq_getElem?_getD, List.getElem?_eq_getElem hi']
  · simp [wrM, h5]

set_option maxHeartbeats 1000000 in
theorem DskAt.write_io {B d i n bn bc : Nat} {ba : Option Addr} {w : World} {M : SM} (h : DskAt B w d M) (hF : Fine M) (hi : i < M.pg.length) (hb : bn = M.size) (h0 : cE M.fails M.ahead = 20) :
    Calls Tryz.prog 149 #[.pointer (some ⟨d, 0, none⟩), .int .i64 (i : Int), .slice ba bn bc] w fun r w' => r = .returned (.int .i64 20) ∧ DskAt B w' d (cntM M) ∧ Dfr B w w' := by
  have h' := h
  obtain ⟨pv, lv, nv, ps, ls, h1, h2, h3, h4, h5⟩ := h
  have c2 := (cells11 h2).2.2.1
  have c0 := (cells11 h2).1
  rw [← hb] at c0
  have hi' : i < ps.length := by rw [h4] at hi; simpa using hi
  obtain ⟨pa, pc, rfl⟩ := own_shape h3.pown
  obtain ⟨m, hm⟩ : ∃ m, m = ps.length := ⟨_, rfl⟩
  rw [← hm] at c2 hi'
  have H0 := Lib.hid h0
  have HD := Lib.hid h'
  have HF := Lib.hid hF
  clear h1 h2 h3 h4 h5 h0 h' hF hm hi hb
  go_enter Tryz.func149, Tryz.ntmps149
  go_wp2_with (first
    | (go_at_call 152; ((with_reducible refine (place_in _ d _ m pc i c2 hi').mono ?_); rintro e w' ⟨rfl, rfl⟩))
    | (go_at_call 94; ((with_reducible refine (HD.out.count HF.out).mono ?_); rintro e w1 ⟨rfl, b1, g1, s1, d1⟩; rw [H0.out]; have B1 := Lib.hid b1; have D1 := Lib.hid d1; clear b1 g1 s1 d1)))
  go_ret
  exact ⟨rfl, B1.out, D1.out⟩
set_option maxHeartbeats 1000000 in
theorem DskAt.write_size {B d i bn bc : Nat} {ba : Option Addr} {w : World} {M : SM} (h : DskAt B w d M) (hi : i < M.pg.length) (hb : bn ≠ M.size) :
    Calls Tryz.prog 149 #[.pointer (some ⟨d, 0, none⟩), .int .i64 (i : Int), .slice ba bn bc] w fun r w' => r = .returned (.int .i64 1) ∧ w = w' := by
  obtain ⟨pv, lv, nv, ps, ls, h1, h2, h3, h4, h5⟩ := h
  have c2 := (cells11 h2).2.2.1
  have c0 := (cells11 h2).1
  have hi' : i < ps.length := by rw [h4] at hi; simpa using hi
  obtain ⟨pa, pc, rfl⟩ := own_shape h3.pown
  obtain ⟨m, hm⟩ : ∃ m, m = ps.length := ⟨_, rfl⟩
  rw [← hm] at c2 hi'
  obtain ⟨s, hs⟩ : ∃ s, s = M.size := ⟨_, rfl⟩
  rw [← hs] at hb c0
  have hne : ((bn : Int) == (s : Int)) = false := by simpa using (by omega : ¬ (bn : Int) = (s : Int))
  clear h1 h2 h3 h4 h5 hm hi hs hb
  go_enter Tryz.func149, Tryz.ntmps149
  go_wp2_with (first
    | (go_at_call 152; ((with_reducible refine (place_in _ d _ m pc i c2 hi').mono ?_); rintro e w' ⟨rfl, rfl⟩)))
  go_ret
  exact ⟨rfl, rfl⟩
set_option maxHeartbeats 1000000 in
theorem DskAt.write_out {B d : Nat} {i : Int} {v : Value} {w : World} {M : SM} (h : DskAt B w d M) (hi : i < 0 ∨ (M.pg.length : Int) ≤ i) :
    Calls Tryz.prog 149 #[.pointer (some ⟨d, 0, none⟩), .int .i64 i, v] w fun r w' => r = .returned (.int .i64 15) ∧ w = w' := by
  obtain ⟨pv, lv, nv, ps, ls, h1, h2, h3, h4, h5⟩ := h
  have c2 := (cells11 h2).2.2.1
  obtain ⟨pa, pc, rfl⟩ := own_shape h3.pown
  obtain ⟨m, hm⟩ : ∃ m, m = ps.length := ⟨_, rfl⟩
  have hl : M.pg.length = m := by rw [h4, hm]; simp
  rw [← hm] at c2
  rw [hl] at hi
  have HI := Lib.hid hi
  clear h1 h2 h3 h4 h5 hm hl hi
  go_enter Tryz.func149, Tryz.ntmps149
  go_wp2_with (first
    | (go_at_call 152; ((with_reducible refine (place_out _ d _ m pc i c2 HI.out).mono ?_); rintro e w' ⟨rfl, rfl⟩)))
  go_ret
  exact ⟨rfl, rfl⟩
set_option maxHeartbeats 1000000 in
theorem write_nil (w : World) (i : Int) (v : Value) : Calls Tryz.prog 149 #[.pointer none, .int .i64 i, v] w fun r w' => r = .returned (.int .i64 1) ∧ w = w' := by
  go_enter Tryz.func149, Tryz.ntmps149
  go_wp2_with (first
    | (go_at_call 152; ((with_reducible refine (place_nil _ i).mono ?_); rintro e w' ⟨rfl, rfl⟩)))
  go_ret
  exact ⟨rfl, rfl⟩

end Go.Proofs.YtildjdhoeilcfaaGreat

namespace Go.Proofs.YtildjdhoeilcfaaGreat
open Go.RowKit

theorem DskAt.len {B d : Nat} {w : World} {M : SM} (h : DskAt B w d M) : ∃ ao c, w.cell? ⟨d, 2, none⟩ = some (.slice ao M.pg.length c) := by
  obtain ⟨pv, lv, nv, ps, ls, h1, h2, h3, h4, h5⟩ := h
  have c2 := (cells11 h2).2.2.1
  obtain ⟨pa, pc, rfl⟩ := own_shape h3.pown
  exact ⟨pa, pc, by rw [c2, h4]; simp⟩
theorem DskAt.lim {B d : Nat} {w : World} {M : SM} (h : DskAt B w d M) : w.cell? ⟨d, 0, none⟩ = some (.int .i64 (M.size : Int)) ∧ w.cell? ⟨d, 1, none⟩ = some (.int .i64 (M.limit : Int)) ∧ w.cell? ⟨d, 4, none⟩ = some (.int .i64 (M.calls : Int)) := by
  obtain ⟨pv, lv, nv, ps, ls, h1, h2, h3, h4, h5⟩ := h
  exact ⟨(cells11 h2).1, (cells11 h2).2.1, (cells11 h2).2.2.2.2.1⟩
theorem DskAt.los {B d : Nat} {w : World} {M : SM} (h : DskAt B w d M) : ∃ ao c, w.cell? ⟨d, 3, none⟩ = some (.slice ao M.loose.length c) := by
  obtain ⟨pv, lv, nv, ps, ls, h1, h2, h3, h4, h5⟩ := h
  have c2 := (cells11 h2).2.2.2.1
  obtain ⟨pa, pc, rfl⟩ := own_shape h3.lown
  exact ⟨pa, pc, by rw [c2, h5]; simp⟩

/-- More pages, of noughts. -/
def growM (M : SM) (k : Nat) (o : Bool) : SM := { M with pg := M.pg ++ List.replicate k (List.replicate M.size 0, List.replicate M.size 0), once := o }
theorem growM_zero (M : SM) : growM M 0 M.once = M := by simp [growM]
theorem growM_succ (M : SM) (k : Nat) (o o' : Bool) : growM M (k + 1) o' = { growM M k o with once := o', pg := (growM M k o).pg ++ [(List.replicate (growM M k o).size 0, List.replicate (growM M k o).size 0)] } := by
  simp [growM, List.replicate_succ']

set_option maxHeartbeats 1000000 in
theorem grow_nil (w : World) (n : Int) : Calls Tryz.prog 180 #[.pointer none, .int .i64 n] w fun r w' => r = .returned (.int .i64 1) ∧ w = w' := by
  go_enter Tryz.func180, Tryz.ntmps180
  go_wp2
  go_ret
  exact ⟨rfl, rfl⟩
set_option maxHeartbeats 1000000 in
theorem DskAt.grow_arg {B d : Nat} {n : Int} {w : World} {M : SM} (h : DskAt B w d M) (hn : n < (M.pg.length : Int)) :
    Calls Tryz.prog 180 #[.pointer (some ⟨d, 0, none⟩), .int .i64 n] w fun r w' => r = .returned (.int .i64 1) ∧ w = w' := by
  obtain ⟨ao, c, c2⟩ := h.len
  generalize M.pg.length = m at hn c2
  clear h
  go_enter Tryz.func180, Tryz.ntmps180
  go_wp2_with (first | (go_at_call 33; ((with_reducible refine (dlen_any _ d ao m c c2).mono ?_); rintro e w' ⟨rfl, rfl⟩)))
  go_ret
  exact ⟨rfl, rfl⟩
set_option maxHeartbeats 1000000 in
theorem DskAt.grow_full {B d : Nat} {n : Int} {w : World} {M : SM} (h : DskAt B w d M) (hn : ¬ n < (M.pg.length : Int)) (hl : (M.limit : Int) < n) :
    Calls Tryz.prog 180 #[.pointer (some ⟨d, 0, none⟩), .int .i64 n] w fun r w' => r = .returned (.int .i64 21) ∧ w = w' := by
  obtain ⟨ao, c, c2⟩ := h.len
  have c1 := h.lim.2.1
  generalize M.pg.length = m at hn c2
  generalize M.limit = l at hl c1
  clear h
  go_enter Tryz.func180, Tryz.ntmps180
  go_wp2_with (first | (go_at_call 33; ((with_reducible refine (dlen_any _ d ao m c c2).mono ?_); rintro e w' ⟨rfl, rfl⟩)))
  go_ret
  exact ⟨rfl, rfl⟩
set_option maxHeartbeats 1000000 in
theorem DskAt.grow_io {B d : Nat} {n : Int} {w : World} {M : SM} (h : DskAt B w d M) (hF : Fine M) (hn : ¬ n < (M.pg.length : Int)) (hl : ¬ (M.limit : Int) < n) (h0 : cE M.fails M.ahead = 20) :
    Calls Tryz.prog 180 #[.pointer (some ⟨d, 0, none⟩), .int .i64 n] w fun r w' => r = .returned (.int .i64 20) ∧ DskAt B w' d (cntM M) ∧ Dfr B w w' := by
  obtain ⟨ao, c, c2⟩ := h.len
  have c1 := h.lim.2.1
  have H0 := Lib.hid h0
  have HD := Lib.hid h
  have HF := Lib.hid hF
  generalize M.pg.length = m at hn c2
  generalize M.limit = l at hl c1
  clear h h0 hF
  go_enter Tryz.func180, Tryz.ntmps180
  go_wp2_with (first
    | (go_at_call 33; ((with_reducible refine (dlen_any _ d ao m c c2).mono ?_); rintro e w' ⟨rfl, rfl⟩))
    | (go_at_call 94; ((with_reducible refine (HD.out.count HF.out).mono ?_); rintro e w1 ⟨rfl, b1, g1, s1, d1⟩; rw [H0.out]; have B1 := Lib.hid b1; have D1 := Lib.hid d1; clear b1 g1 s1 d1)))
  go_ret
  exact ⟨rfl, B1.out, D1.out⟩

set_option maxHeartbeats 2000000 in
theorem DskAt.grow {B d n : Nat} {w : World} {M : SM} (h : DskAt B w d M) (hF : Fine M) (hn : M.pg.length ≤ n) (hl : n ≤ M.limit) (hs : M.size ≤ 4096) (hl2 : M.limit ≤ 65536) (h0 : cE M.fails M.ahead = 0) :
    Calls Tryz.prog 180 #[.pointer (some ⟨d, 0, none⟩), .int .i64 (n : Int)] w fun r w' => ∃ o, r = .returned (.int .i64 0) ∧ DskAt B w' d (growM (cntM M) (n - M.pg.length) o) ∧ Dfr B w w' := by
  obtain ⟨ao, c, c2⟩ := h.len
  have c1 := h.lim.2.1
  have H0 := Lib.hid h0
  have HD := Lib.hid h
  have HF := Lib.hid hF
  obtain ⟨m, hm⟩ : ∃ m, m = M.pg.length := ⟨_, rfl⟩
  have HM := Lib.hid hm
  have HS := Lib.hid hs
  rw [← hm] at hn c2 ⊢
  have hl3 : n ≤ 65536 := by omega
  have hn1 : ¬ (n : Int) < (m : Int) := by omega
  generalize M.limit = l at hl c1
  have hl1 : ¬ (l : Int) < (n : Int) := by omega
  clear h h0 hF hm hl2 hs
  go_enter Tryz.func180, Tryz.ntmps180
  go_wp2_with (first
    | (go_at_call 33; ((with_reducible refine (dlen_any _ d ao m c c2).mono ?_); rintro e w' ⟨rfl, rfl⟩))
    | (go_at_call 94; ((with_reducible refine (HD.out.count HF.out).mono ?_); rintro e w1 ⟨rfl, b1, g1, s1, d1⟩; rw [H0.out]; have B1 := Lib.hid b1; have D1 := Lib.hid d1; clear b1 g1 s1 d1 c1 c2)))
  go_loopg [] (n - m) (fun g wr => ∃ k o, k + g = n - m ∧ DskAt B wr d (growM (cntM M) k o) ∧ Dfr B w wr)
  case atStart => exact ⟨0, _, by omega, by rw [growM_zero]; exact B1.out, D1.out⟩
  case round =>
    obtain ⟨k, o, hk, hd, hf⟩ := hrel
    obtain ⟨ak, ck, c3⟩ := hd.len
    obtain ⟨q, hq⟩ : ∃ q, q = m + k := ⟨_, rfl⟩
    have HL := Lib.hid (show (growM (cntM M) k o).pg.length = q by rw [hq]; simp [growM, cntM, HM.out])
    have HZ := Lib.hid (show (growM (cntM M) k o).size ≤ 4096 from HS.out)
    have HQ := Lib.hid hq
    rw [HL.out] at c3
    have HG3 := Lib.hid (show q ≤ 65536 → (growM (cntM M) k o).pg.length ≤ 100000 by rw [HL.out]; omega)
    have HDk := Lib.hid hd
    have HFk := Lib.hid hf
    clear hd hf B1 D1 hq
    by_cases hlt : q < n
    · obtain ⟨g, rfl⟩ : ∃ g, gk = g + 1 := ⟨gk - 1, by have := HQ.out; omega⟩
      have hlti : (q : Int) < (n : Int) := by omega
      go_wp2_with (first
        | (go_at_call 33; ((with_reducible refine (dlen_any _ d ak q ck c3).mono ?_); rintro e w' ⟨rfl, rfl⟩))
        | (go_at_call 223; ((with_reducible refine (HDk.out.blank HZ.out).mono ?_); rintro e w2 ⟨nv, rfl, o2, b2, d2⟩; have O2 := Lib.hid o2; have B2 := Lib.hid b2; have D2 := Lib.hid (HFk.out.trans d2); clear o2 b2 d2 c3))
        | (go_at_call 72; ((with_reducible refine (B2.out.add O2.out (HG3.out (by omega))).mono ?_); rintro e w3 ⟨rfl, b3, d3⟩; have B3 := Lib.hid b3; have D3 := Lib.hid (D2.out.trans d3); clear b3 d3)))
      go_roundg g
      case measure => (have := HQ.out; omega)
      case rel => exact ⟨k + 1, true, by have := HQ.out; omega, by rw [growM_succ (cntM M) k o true]; exact B3.out, D3.out⟩
    · have hlti : ¬ (q : Int) < (n : Int) := by omega
      have hkn : q = m + k := HQ.out
      obtain rfl : k = n - m := by omega
      clear hkn
      go_wp2_with (first
        | (go_at_call 33; ((with_reducible refine (dlen_any _ d ak q ck c3).mono ?_); rintro e w' ⟨rfl, rfl⟩)))
      go_ret
      exact ⟨o, rfl, HDk.out, HFk.out⟩

/-- The pages of raw bytes. -/
def chunk (bs : List Int) (s j : Nat) : List Int := (bs.drop (j * s)).take s
def chunks (bs : List Int) (s k : Nat) : List (List Int × List Int) := (List.range k).map fun j => (chunk bs s j, chunk bs s j)
theorem chunks_succ (bs : List Int) (s k : Nat) : chunks bs s (k + 1) = chunks bs s k ++ [(chunk bs s k, chunk bs s k)] := by simp [chunks, List.range_succ]
theorem chunk_len (bs : List Int) (s j : Nat) (h : j * s + s ≤ bs.length) : (chunk bs s j).length = s := by simp [chunk]; omega

set_option maxHeartbeats 1000000 in
theorem from_bad (w : World) (v : Value) (s l : Int) (h : ¬ May s l) :
    Calls Tryz.prog 28 #[v, .int .i64 s, .int .i64 l] w fun r w' => r = .returned (.tuple #[.pointer none, .int .i64 1]) ∧ w = w' := by
  have HM := Lib.hid h
  clear h
  go_enter Tryz.func28, Tryz.ntmps28
  go_wp2_with (first
    | (go_at_call 10; ((with_reducible refine (new_bad _ s l HM.out).mono ?_); rintro e w' ⟨rfl, rfl⟩)))
  go_ret2
  exact ⟨rfl, rfl⟩
set_option maxHeartbeats 1000000 in
theorem from_len (w : World) (ao : Option Addr) (n c : Nat) (s l : Nat) (h : May s l) (h9 : n ≤ maxLen) (hn : n % s ≠ 0 ∨ l < n / s) :
    Calls Tryz.prog 28 #[.slice ao n c, .int .i64 (s : Int), .int .i64 (l : Int)] w fun r w' => r = .returned (.tuple #[.pointer none, .int .i64 1]) ∧ w.grownBy w' none := by
  have HM := Lib.hid h
  have hs0 : (512 : Int) ≤ (s : Int) := h.1
  have hs1 : ¬ (s : Int) = 0 := by omega
  have hs2 : ((s : Int) == 0) = false := by simpa using hs1
  obtain ⟨q, hq⟩ : ∃ q, q = n % s := ⟨_, rfl⟩
  obtain ⟨p, hp⟩ : ∃ p, p = n / s := ⟨_, rfl⟩
  have hqi : (n : Int) % (s : Int) = (q : Int) := by rw [hq]; simp
  have hpi : (n : Int) / (s : Int) = (p : Int) := by rw [hp]; simp
  have hp9 : (p : Int) ≤ 9223372036854775807 := by have := Nat.div_le_self n s; unfold maxLen at h9; omega
  clear h9
  rw [← hq, ← hp] at hn
  by_cases hz : q = 0
  · subst hz
    have hpl : (l : Int) < (p : Int) := by omega
    clear hq hp hn h
    go_enter Tryz.func28, Tryz.ntmps28
    go_wp2_with (first
      | (go_at_call 10; ((with_reducible refine (new_good _ s l HM.out).mono ?_); rintro e w' ⟨rfl, rfl⟩)))
    go_ret2
    exact ⟨rfl, World.grownBy_alloc _ _ _⟩
  · have hqz : ((q : Int) != 0) = true := by simpa using hz
    clear hq hp hn h hz
    go_enter Tryz.func28, Tryz.ntmps28
    go_wp2_with (first
      | (go_at_call 10; ((with_reducible refine (new_good _ s l HM.out).mono ?_); rintro e w' ⟨rfl, rfl⟩)))
    go_ret2
    exact ⟨rfl, World.grownBy_alloc _ _ _⟩

set_option maxHeartbeats 2000000 in
theorem from_ok (w : World) (ao : Option Addr) (n c : Nat) (bs : List Int) (s l k : Nat) (h : May s l) (hb : Seq w.heap.size w (.slice ao n c) bs) (hn : n = k * s) (hk : k ≤ l) :
    Calls Tryz.prog 28 #[.slice ao n c, .int .i64 (s : Int), .int .i64 (l : Int)] w fun r w' => r = .returned (.tuple #[.pointer (some ⟨w.heap.size, 0, none⟩), .int .i64 0]) ∧
      DskAt w.heap.size w' w.heap.size { size := s, limit := l, pg := chunks bs s k, loose := [], fails := false, ahead := 0, calls := 0, once := false } ∧ w.grownBy w' none := by
  have HM := Lib.hid h
  have hs0 : (512 : Int) ≤ (s : Int) := h.1
  have hs9 : (s : Int) ≤ (4096 : Int) := h.2.1
  have hl9 : (l : Int) ≤ (65536 : Int) := h.2.2.2.2
  have hs1 : ¬ (s : Int) = 0 := by omega
  have hs2 : ((s : Int) == 0) = false := by simpa using hs1
  have hqi : (n : Int) % (s : Int) = 0 := by rw [hn]; simp
  have hpi : (n : Int) / (s : Int) = (k : Int) := by rw [hn, Int.natCast_mul]; exact Int.mul_ediv_cancel _ hs1
  have hpl : ¬ (l : Int) < (k : Int) := by omega
  have hdl : decide (l < k) = false := by simpa using hk
  have hlen : n = bs.length ∧ n ≤ c ∧ c ≤ maxLen := by obtain ⟨_, _, hv, h1, h2, _⟩ := hb; cases hv; exact ⟨rfl, h1, h2⟩
  have hnk : n ≤ 268435456 := by rw [hn]; exact Nat.le_trans (Nat.mul_le_mul (show k ≤ 65536 by omega) (show s ≤ 4096 by omega)) (by decide)
  have HN := Lib.hid hn
  have HL := Lib.hid hlen
  have HB := Lib.hid hb
  have hnc := hlen.2.1
  clear h hn hb hlen
  go_enter Tryz.func28, Tryz.ntmps28
  go_wp2_with (first
    | (go_at_call 10; ((with_reducible refine (new_good _ s l HM.out).mono ?_); rintro e w' ⟨rfl, rfl⟩)))
  clear hqi hpi hpl hs2
  go_loopg [10] k (fun g v wr => ∃ j p, j + g = k ∧ p = j * s ∧ v = .int .i64 (p : Int) ∧ DskAt w.heap.size wr w.heap.size { size := s, limit := l, pg := chunks bs s j, loose := [], fails := false, ahead := 0, calls := 0, once := false } ∧ w.grownBy wr none)
  case atStart => exact ⟨0, 0, by omega, by simp, rfl, newM (Nat.le_refl _), World.grownBy_alloc _ _ _⟩
  case round =>
    obtain ⟨j, p, hj, hp, rfl, hd, hg⟩ := hrel
    have HD := Lib.hid hd
    have HG := Lib.hid hg
    have HP := Lib.hid hp
    clear hd hg
    by_cases hlt : j < k
    · obtain ⟨g, rfl⟩ : ∃ g, gk = g + 1 := ⟨gk - 1, by omega⟩
      have hps : p + s ≤ n := by
        rw [hp, HN.out, ← Nat.succ_mul]; exact Nat.mul_le_mul_right _ hlt
      have hpi : (p : Int) < (n : Int) := by omega
      clear hp
      have hcp : ¬ c = p := by omega
      have S : Hid (Seq wr.heap.size wr (.slice (ao.map fun x => x.add p) s (c - p)) (chunk bs s j)) := Lib.hid (by
        have h1 := (((HB.out.below (fun i hi => HG.out.block i hi (by simp))).mono HG.out.size).tail (k := p) (by have := HL.out.1; omega)).pre s (by rw [List.length_drop]; have := HL.out.1; omega)
        unfold chunk; rw [← HP.out]; exact h1)
      have HCl := Lib.hid (chunk_len bs s j (by rw [← HP.out]; have := HL.out.1; omega))
      have HCk := Lib.hid (show (chunks bs s j).length ≤ 100000 by simp [chunks]; omega)
      clear hs1
      go_wp2_with (first
        | (go_at_call 60; have K := clone_any wr _ _ _ S.out (Nat.le_refl _) (by have := HCl.out; omega); rw [HCl.out] at K; ((with_reducible refine K.mono ?_); clear K; rintro e w2 ⟨va, vc, rfl, hown, hg2⟩; have HV : Hid (Own8 w.heap.size w2 s (.slice va s vc) (chunk bs s j)) := Lib.hid (own_base hown HG.out.size); have HD2 := Lib.hid (HD.out.new hg2); have HG2 := Lib.hid (gtrans HG.out hg2); clear hown hg2))
        | (go_at_call 72; ((with_reducible refine (HD2.out.add HV.out HCk.out).mono ?_); rintro e w3 ⟨rfl, b3, d3⟩; have B3 := Lib.hid b3; have D3 := Lib.hid d3; clear b3 d3)))
      go_roundg g
      case measure => omega
      case rel =>
        refine ⟨j + 1, p + s, by omega, by rw [HP.out, Nat.succ_mul], by go_num, ?_, ?_⟩
        · rw [chunks_succ]; exact B3.out
        · exact gof (Below.trans (gbelow HG2.out) (D3.out.below HG2.out.size)) none
    · obtain rfl : j = k := by omega
      have hpn : p = n := by rw [hp, HN.out]
      subst hpn
      clear hp
      go_wp2
      go_ret2
      exact ⟨rfl, HD.out, HG.out⟩

end Go.Proofs.YtildjdhoeilcfaaGreat

namespace Go.Proofs.YtildjdhoeilcfaaGreat
open Go.RowKit

/-- Loose writes, made good in order. -/
def syncP (pg : List (List Int × List Int)) : List (Nat × List Int) → List (List Int × List Int)
  | [] => pg
  | x :: l => syncP (pg.set x.1 (x.2, (pg.getD x.1 ([], [])).2)) l
theorem syncP_snoc : ∀ (l : List (Nat × List Int)) (pg : List (List Int × List Int)) (x : Nat × List Int), syncP pg (l ++ [x]) = (syncP pg l).set x.1 (x.2, ((syncP pg l).getD x.1 ([], [])).2)
  | [], _, _ => rfl
  | y :: l, pg, x => syncP_snoc l _ x
theorem syncP_len : ∀ (l : List (Nat × List Int)) (pg : List (List Int × List Int)), (syncP pg l).length = pg.length
  | [], _ => rfl
  | y :: l, pg => by rw [syncP, syncP_len l]; simp

theorem wcells_get : ∀ (ls : List LoV) (k : Nat) (y : LoV), ls[k]? = some y → (wcells ls)[k * 2]? = some (.int .i64 (y.1 : Int)) ∧ (wcells ls)[k * 2 + 1]? = some y.2.1
  | [], k, x, h => by simp at h
  | y :: l, 0, x, h => by
    simp only [List.getElem?_cons_zero, Option.some.injEq] at h
    subst h
    exact ⟨rfl, rfl⟩
  | y :: l, k + 1, x, h => by
    simp only [List.getElem?_cons_succ] at h
    obtain ⟨h1, h2⟩ := wcells_get l k x h
    exact ⟨by rw [show (k + 1) * 2 = k * 2 + 1 + 1 by omega]; exact h1, by rw [show (k + 1) * 2 + 1 = k * 2 + 1 + 1 + 1 by omega]; exact h2⟩
/-- Where a loose write's cells lie. -/
theorem Rws.wr {B n k : Nat} {w : World} {pv lv nv : Value} {ps : List PgV} {ls : List LoV} {once : Bool} (h : Rws B w n pv lv nv ps ls once) (hk : k < ls.length) :
    ∃ g c y, lv = .slice (some ⟨g, 0, none⟩) ls.length c ∧ ls[k]? = some y ∧ w.cell? ⟨g, k * 2, none⟩ = some (.int .i64 (y.1 : Int)) ∧ w.cell? ⟨g, k * 2 + 1, none⟩ = some y.2.1 ∧ Own8 B w n y.2.1 y.2.2 := by
  obtain ⟨y, hy⟩ : ∃ y, ls[k]? = some y := ⟨_, List.getElem?_eq_getElem hk⟩
  have hm := h.lall y (List.mem_of_getElem? hy)
  have ho := h.lown
  have ho' := ho
  obtain ⟨c1, c2⟩ := wcells_get ls k y hy
  rcases ho.2 with ⟨rfl, h0⟩ | ⟨g, cap, cur, rfl, hb, hg, hc, hmx, hs, ht⟩
  · omega
  · exact ⟨g, cap, y, rfl, hy, by rw [ho'.cellAt _ (by omega), c1], by rw [ho'.cellAt _ (by omega), c2], hm⟩

set_option maxRecDepth 100000 in
set_option maxHeartbeats 4000000 in
theorem sync_rows (B : Nat) (w : World) (d n : Nat) (x1 x7 x8 x9 pv lv nv : Value) (c : Nat) (f : Bool) (a : Int) (ps : List PgV) (ls : List LoV) (once : Bool) (hB : B ≤ d)
    (hb : w.heap[d]? = some (.cells #[.int .i64 (n : Int), x1, pv, lv, .int .i64 (c : Int), .bool f, .int .i64 a, x7, x8, x9, nv] 112 (0, 0))) (hr : Rws B w n pv lv nv ps ls once)
    (ha1 : -9223372036854775808 ≤ a) (ha2 : a ≤ 9223372036854775807) (hc : c < 9223372036854775807) (h0 : cE f a = 0) (hin : ∀ y ∈ ls, y.1 < ps.length) (hl : ls.length ≤ 100000) (hpl : ps.length ≤ 100000) :
    Calls Tryz.prog 51 #[.pointer (some ⟨d, 0, none⟩)] w fun r w' => ∃ ps', r = .returned (.int .i64 0) ∧
      w'.heap[d]? = some (.cells #[.int .i64 (n : Int), x1, pv, .slice none 0 0, .int .i64 ((c + 1 : Nat) : Int), .bool (cF f a), .int .i64 (cA f a), x7, x8, x9, nv] 112 (0, 0)) ∧ Rws B w' n pv (.slice none 0 0) nv ps' [] once ∧
      ps'.map (·.2) = syncP (ps.map (·.2)) (ls.map fun y => (y.1, y.2.2)) ∧ Dfr B w w' := by
  have HB := Lib.hid hb
  have HR := Lib.hid hr
  have H0 := Lib.hid h0
  have HIn := Lib.hid hin
  obtain ⟨m, hm⟩ : ∃ m, m = ps.length := ⟨_, rfl⟩
  obtain ⟨k0, hk0⟩ : ∃ k, k = ls.length := ⟨_, rfl⟩
  obtain ⟨la, lc, rfl⟩ := own_shape hr.lown
  obtain ⟨pa, pc, rfl⟩ := own_shape hr.pown
  rw [← hm] at hpl HB HR
  rw [← hk0] at hl HB HR
  rw [← hm]
  have HM := Lib.hid hm
  have HK := Lib.hid hk0
  clear hb hr h0 hin hm hk0
  go_enter Tryz.func51, Tryz.ntmps51
  go_wp2_with (first
    | (go_at_call 94; ((with_reducible refine (count_rows hB HB.out HR.out ha1 ha2 hc).mono ?_); rintro e w1 ⟨rfl, b1, r1, g1, s1, d1⟩; rw [H0.out]; have c3 := (cells11 b1).2.2.2.1; have B1 := Lib.hid b1; have R1 := Lib.hid r1; have D1 := Lib.hid d1; clear b1 r1 g1 s1 d1)))
  go_loopg [18] k0 (fun g v wr => ∃ (k : Nat) (ps' : List PgV), k + g = k0 ∧ v = .int .i64 (k : Int) ∧
    wr.heap[d]? = some (.cells #[.int .i64 (n : Int), x1, .slice pa m pc, .slice la k0 lc, .int .i64 ((c + 1 : Nat) : Int), .bool (cF f a), .int .i64 (cA f a), x7, x8, x9, nv] 112 (0, 0)) ∧
    Rws B wr n (.slice pa m pc) (.slice la k0 lc) nv ps' ls once ∧ ps'.map (·.2) = syncP (ps.map (·.2)) ((ls.take k).map fun y => (y.1, y.2.2)) ∧ Dfr B w wr)
  case atStart => exact ⟨0, ps, by omega, rfl, B1.out, R1.out, rfl, D1.out⟩
  case round =>
    obtain ⟨k, ps', hk, rfl, hb, hr, hps, hf⟩ := hrel
    have HBk := Lib.hid hb
    have HRk := Lib.hid hr
    have HPk := Lib.hid hps
    have HFk := Lib.hid hf
    have c3 := (cells11 hb).2.2.2.1
    have c2 := (cells11 hb).2.2.1
    clear hr hps hf B1 R1 D1
    by_cases hlt : k < k0
    · obtain ⟨g, rfl⟩ : ∃ g, gk = g + 1 := ⟨gk - 1, by omega⟩
      have hki : (k : Int) < (k0 : Int) := by omega
      have HL' := Lib.hid (show ps'.length = m by
        have := congrArg List.length HPk.out
        rw [syncP_len] at this; simp only [List.length_map] at this; rw [this, HM.out])
      obtain ⟨lb, lc', y, hv, hy, e1, e2, e3⟩ := HRk.out.wr (k := k) (by rw [← HK.out]; exact hlt)
      simp only [Value.slice.injEq] at hv
      obtain ⟨rfl, -, rfl⟩ := hv
      have HIy := Lib.hid (HIn.out y (List.mem_of_getElem? hy))
      obtain ⟨g', pc', z, hv, hz, z1, z2, z3, z4⟩ := HRk.out.page (i := y.1) (by rw [HL'.out, HM.out]; exact HIy.out)
      simp only [Value.slice.injEq] at hv
      obtain ⟨rfl, -, rfl⟩ := hv
      obtain ⟨at1, v1, b1⟩ := y
      obtain ⟨va, vc, rfl⟩ := own_shape e3
      have HY := Lib.hid hy
      have HZ := Lib.hid hz
      have E3 := Lib.hid e3
      clear hy hz z2 z3 z4 e3
      have hp1 : wr.ownsRow B 146 2 (.slice (some ⟨g', 0, none⟩) m pc) m (pcells ps') := by have h := HRk.out.pown; rw [HL'.out] at h; exact h
      have hp2 := hp1.alloc (.cells #[.int .i64 (at1 : Int), .slice va n vc] 143)
      have fz := hp2.frozenAt (at1 * 2)
      have cz : (wr.alloc (.cells #[.int .i64 (at1 : Int), .slice va n vc] 143)).cell? ⟨g', at1 * 2, none⟩ = some z.1.1 := cell_alloc z1
      have cd : (wr.alloc (.cells #[.int .i64 (at1 : Int), .slice va n vc] 143)).cell? ⟨d, 2, none⟩ = some (.slice (some ⟨g', 0, none⟩) m pc) := cell_alloc c2
      have HP2 := Lib.hid hp2
      have hat : (at1 : Int) < (m : Int) := by have := HIy.out; have := HM.out; omega
      generalize z.1.1 = z11 at cz z1
      clear hp1 hp2 hb z1 c2 c3
      go_wp2
      go_region
      go_wp2
      go_roundg g
      case measure => omega
      case rel =>
        obtain ⟨st1, st2⟩ := HP2.out.stored (at1 * 2) (.slice va n vc)
        have hga := own_tag HP2.out g' rfl
        have hbA := keep_alloc1 HBk.out (.cells #[.int .i64 (at1 : Int), .slice va n vc] 143)
        have hgd : g' ≠ d := fun e => by
          have h1 := hga.2.2
          rw [e] at h1
          exact absurd (h1.uniq ⟨_, _, hbA⟩) (by decide)
        have hrA := HRk.out.new (World.grownBy_alloc wr (.cells #[.int .i64 (at1 : Int), .slice va n vc] 143) none)
        have hz := HZ.out
        have hzm := hrA.pall z (List.mem_of_getElem? hz)
        refine ⟨k + 1, ps'.set at1 ((.slice va n vc, z.1.2), (b1, z.2.2)), by omega, by go_num, ?_, ?_, ?_, ?_⟩
        · exact (st2.block d (lt_of_block hbA) (fun e => by injection e with e; exact hgd e.symm)).trans hbA
        · refine hrA.pages (gtrans st2 (gwide (gdrew _))) (fun q e => by injection e with e; subst e; exact hga.2.2) (by rw [List.length_set, HL'.out, pcells_good ps' at1 z _ _ hz]; exact st1) (fun z' hz' => ?_)
          rcases List.mem_or_eq_of_mem_set hz' with hz' | rfl
          · exact .inl hz'
          · exact .inr ⟨hrA.lall (at1, (.slice va n vc, b1)) (List.mem_of_getElem? HY.out), hzm.2⟩
        · have hkl : k < ls.length := by rw [← HK.out]; exact hlt
          have e : ls.take (k + 1) = ls.take k ++ [(at1, (.slice va n vc, b1))] := by
            rw [List.take_succ_eq_append_getElem hkl]
            have := HY.out
            rw [List.getElem?_eq_getElem hkl] at this
            injection this with this
            rw [this]
          rw [e, List.map_append, List.map_cons, List.map_nil, syncP_snoc, ← HPk.out, List.map_set]
          congr 1
          simp [List.getD_eq_getElem?_getD, hz]
        · exact HFk.out.trans ((dfr_new (World.grownBy_alloc wr (.cells #[.int .i64 (at1 : Int), .slice va n vc] 143) none)).trans (dfr_row (gtrans st2 (gwide (gdrew _))) fun q e => by injection e with e; subst e; exact ⟨hga.1, Dtag.of hga.2.2 (by decide)⟩))
    · obtain rfl : k = k0 := by omega
      have f3 := free11 hb 3
      clear hb c2
      go_wp2
      go_ret
      refine ⟨rfl, set_box HBk.out 3 _, ps', ?_, ?_, HFk.out.trans (dfr_row (gset wr ⟨d, 3, none⟩ _) fun q e => by injection e with e; subst e; exact ⟨hB, Dtag.of ⟨_, _, HBk.out⟩ (by decide)⟩)⟩
      · have hr := HRk.out.far (gset wr ⟨d, 3, none⟩ (.slice none 0 0)) (fun q e => by injection e with e; subst e; exact ⟨_, _, HBk.out⟩)
        exact ⟨hr.pown, hr.pall, World.ownsRow_nil _ _ _ _, fun y hy => by simp at hy, hr.nown⟩
      · have h := HPk.out
        rw [HK.out, List.take_length] at h
        exact h

def syncM (M : SM) : SM := { cntM M with pg := syncP M.pg M.loose, loose := [] }
theorem DskAt.sync {B d : Nat} {w : World} {M : SM} (h : DskAt B w d M) (hF : Fine M) (h0 : cE M.fails M.ahead = 0) (hin : ∀ x ∈ M.loose, x.1 < M.pg.length) (hl : M.loose.length ≤ 100000) (hpl : M.pg.length ≤ 100000) :
    Calls Tryz.prog 51 #[.pointer (some ⟨d, 0, none⟩)] w fun r w' => r = .returned (.int .i64 0) ∧ DskAt B w' d (syncM M) ∧ Dfr B w w' := by
  obtain ⟨pv, lv, nv, ps, ls, h1, h2, h3, h4, h5⟩ := h
  have hpn : M.pg.length = ps.length := by rw [h4]; simp
  refine (sync_rows B w d M.size _ _ _ _ pv lv nv _ _ _ ps ls M.once h1 h2 h3 hF.1 hF.2.1 hF.2.2 h0 (fun y hy => ?_) (by rw [h5] at hl; simpa using hl) (by omega)).mono ?_
  · have := hin (y.1, y.2.2) (by rw [h5]; exact List.mem_map.2 ⟨y, hy, rfl⟩)
    rw [hpn] at this; exact this
  · rintro r w' ⟨ps', rfl, a1, a2, a3, a4⟩
    exact ⟨rfl, ⟨pv, .slice none 0 0, nv, ps', [], h1, a1, a2, by rw [syncM, h4, h5]; exact a3.symm, rfl⟩, a4⟩
set_option maxHeartbeats 1000000 in
theorem DskAt.sync_io {B d : Nat} {w : World} {M : SM} (h : DskAt B w d M) (hF : Fine M) (h0 : cE M.fails M.ahead = 20) :
    Calls Tryz.prog 51 #[.pointer (some ⟨d, 0, none⟩)] w fun r w' => r = .returned (.int .i64 20) ∧ DskAt B w' d (cntM M) ∧ Dfr B w w' := by
  have H0 := Lib.hid h0
  have HD := Lib.hid h
  have HF := Lib.hid hF
  clear h h0 hF
  go_enter Tryz.func51, Tryz.ntmps51
  go_wp2_with (first
    | (go_at_call 94; ((with_reducible refine (HD.out.count HF.out).mono ?_); rintro e w1 ⟨rfl, b1, g1, s1, d1⟩; rw [H0.out]; have B1 := Lib.hid b1; have D1 := Lib.hid d1; clear b1 g1 s1 d1)))
  go_ret
  exact ⟨rfl, B1.out, D1.out⟩
set_option maxHeartbeats 1000000 in
theorem sync_nil (w : World) : Calls Tryz.prog 51 #[.pointer none] w fun r w' => r = .returned (.int .i64 1) ∧ w = w' := by
  go_enter Tryz.func51, Tryz.ntmps51
  go_wp2
  go_ret
  exact ⟨rfl, rfl⟩

end Go.Proofs.YtildjdhoeilcfaaGreat

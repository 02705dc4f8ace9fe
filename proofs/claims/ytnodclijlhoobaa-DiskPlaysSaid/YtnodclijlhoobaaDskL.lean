/-
  Layer 3: the contracts of New where it refuses, Fail, add, blank. Own work.
-/
import Derived.Test.YtnodclijlhoobaaDskK
namespace Go.Proofs.Ytnodclijlhoobaa
open Go.RowKit

set_option maxHeartbeats 2000000 in
theorem new_bad (w : World) (s l : Int) (h : ¬ May s l) :
    Calls Try.prog 48 #[.int .i64 s, .int .i64 l] w fun r w' => r = .returned (.tuple #[.pointer none, .int .i64 1]) ∧ w = w' := by
  have hnot : ∀ (x : Bool) (w : World), (Op.unary .not (.bool x)).run Try.prog w = .ok (.bool (!x)) w := fun _ _ => rfl
  have HM := Lib.hid h
  clear h
  by_cases c3 : s.tmod 128 = 0
  · have hb3 : (s.tmod 128 == 0) = true := by simpa using c3
    clear c3
    by_cases c1 : s < 512
    · go_enter Try.func48, Try.ntmps48
      go_wp2
      all_goals (go_ret2; exact ⟨rfl, rfl⟩)
    by_cases c2 : 4096 < s
    · go_enter Try.func48, Try.ntmps48
      go_wp2
      all_goals (go_ret2; exact ⟨rfl, rfl⟩)
    by_cases c4 : l < 1
    · go_enter Try.func48, Try.ntmps48
      go_wp2
      all_goals (go_ret2; exact ⟨rfl, rfl⟩)
    have c5 : 65536 < l := by
      by_cases h5 : 65536 < l
      · exact h5
      · have h3 : s.tmod 128 = 0 := by simpa using hb3
        refine absurd ⟨by omega, by omega, ?_, by omega, by omega⟩ HM.out
        rw [Int.tmod_eq_emod_of_nonneg (by omega)] at h3
        exact h3
    go_enter Try.func48, Try.ntmps48
    go_wp2
    all_goals (go_ret2; exact ⟨rfl, rfl⟩)
  · have hb3 : (s.tmod 128 == 0) = false := by simpa using c3
    clear c3
    go_enter Try.func48, Try.ntmps48
    go_wp2
    all_goals (go_ret2; exact ⟨rfl, rfl⟩)

set_option maxHeartbeats 1000000 in
theorem fail_any (w : World) (d : Nat) (x0 x1 x2 x3 x4 x5 x6 x7 x8 x9 x10 : Value) (n : Int)
    (hb : w.heap[d]? = some (.cells #[x0, x1, x2, x3, x4, x5, x6, x7, x8, x9, x10] 111 (0, 0))) :
    Calls Try.prog 22 #[.pointer (some ⟨d, 0, none⟩), .int .i64 n] w fun r w' => r = .returned (.tuple #[]) ∧ w'.heap[d]? = some (.cells #[x0, x1, x2, x3, x4, .bool (decide (0 ≤ n)), .int .i64 n, x7, x8, x9, x10] 111 (0, 0)) ∧ w.grownBy w' (some d) ∧ w'.heap.size = w.heap.size := by
  have b1 : (w.setCell ⟨d, 5, none⟩ (.bool (decide (0 ≤ n)))).heap[d]? = some (.cells #[x0, x1, x2, x3, x4, .bool (decide (0 ≤ n)), x6, x7, x8, x9, x10] 111 (0, 0)) := set_box hb 5 _
  have k5 := (cells11 hb).2.2.2.2.2.1
  have k6 := (cells11 hb).2.2.2.2.2.2.1
  have g5 := free11 hb 5
  have g6 := free11 hb 6
  have HB := Lib.hid b1
  clear hb b1
  by_cases hn : 0 ≤ n
  · have hd : decide (0 ≤ n) = true := by simpa using hn
    rw [hd] at HB ⊢
    go_enter Try.func22, Try.ntmps22
    go_wp2
    go_end0
    exact ⟨rfl, set_box HB.out 6 _, gtrans (gset _ ⟨d, 5, none⟩ _) (gset _ ⟨d, 6, none⟩ _), by simp [World.setCell]⟩
  · have hd : decide (0 ≤ n) = false := by simpa using hn
    rw [hd] at HB ⊢
    go_enter Try.func22, Try.ntmps22
    go_wp2
    go_end0
    exact ⟨rfl, set_box HB.out 6 _, gtrans (gset _ ⟨d, 5, none⟩ _) (gset _ ⟨d, 6, none⟩ _), by simp [World.setCell]⟩
set_option maxHeartbeats 1000000 in
theorem fail_nil (w : World) (n : Int) : Calls Try.prog 22 #[.pointer none, .int .i64 n] w fun r w' => r = .returned (.tuple #[]) ∧ w = w' := by
  go_enter Try.func22, Try.ntmps22
  go_wp2
  refine bodyPost_ret (results_none rfl _ _ _) rfl ?_
  exact ⟨rfl, rfl⟩

theorem infoPage : (Try.prog.info? 115).map (fun i => (i.zero, i.size, i.bytes)) = some (some (.agg #[.slice none 0 0, .slice none 0 0]), 2, 48) := by kernel_rfl
theorem pcells_len (ps : List PgV) : (pcells ps).length = 2 * ps.length := by
  induction ps with
  | nil => rfl
  | cons x l ih => simp only [pcells, List.flatMap_cons, List.length_append, List.length_cons, List.length_nil] at ih ⊢; omega
theorem pcells_snoc (ps : List PgV) (y : PgV) : pcells (ps ++ [y]) = pcells ps ++ [y.1.1, y.1.2] := by simp [pcells]

/-- The rows where the pages' row is written to. -/
theorem Rws.pages {B n : Nat} {w w' : World} {pv pv' lv nv : Value} {ps ps' : List PgV} {ls : List LoV} {once : Bool} {row : Option Nat} (h : Rws B w n pv lv nv ps ls once) (hg : w.grownBy w' row) (hr : ∀ k, row = some k → TagIs w k 115)
    (hown : w'.ownsRow B 115 2 pv' ps'.length (pcells ps')) (hall : ∀ y ∈ ps', y ∈ ps ∨ (Own8 B w n y.1.1 y.2.1 ∧ Own8 B w n y.1.2 y.2.2)) : Rws B w' n pv' lv nv ps' ls once where
  pown := hown
  pall := fun y hy => by
    have := (hall y hy).elim (h.pall y) id
    exact ⟨this.1.far hg hr (by decide), this.2.far hg hr (by decide)⟩
  lown := own_far h.lown hg hr (by decide)
  lall := fun y hy => (h.lall y hy).far hg hr (by decide)
  nown := by
    have := h.nown
    cases once
    · exact this
    · exact Own8.far (this : Own8 _ _ _ _ _) hg hr (by decide)
/-- The rows where the loose writes' row is written to. -/
theorem Rws.looses {B n : Nat} {w w' : World} {pv lv lv' nv : Value} {ps : List PgV} {ls ls' : List LoV} {once : Bool} {row : Option Nat} (h : Rws B w n pv lv nv ps ls once) (hg : w.grownBy w' row) (hr : ∀ k, row = some k → TagIs w k 113)
    (hown : w'.ownsRow B 113 2 lv' ls'.length (wcells ls')) (hall : ∀ y ∈ ls', y ∈ ls ∨ Own8 B w n y.2.1 y.2.2) : Rws B w' n pv lv' nv ps ls' once where
  pown := own_far h.pown hg hr (by decide)
  pall := fun y hy => ⟨(h.pall y hy).1.far hg hr (by decide), (h.pall y hy).2.far hg hr (by decide)⟩
  lown := hown
  lall := fun y hy => ((hall y hy).elim (h.lall y) id).far hg hr (by decide)
  nown := by
    have := h.nown
    cases once
    · exact this
    · exact Own8.far (this : Own8 _ _ _ _ _) hg hr (by decide)

/-- A page whose bytes are for good. -/
abbrev mkPg (v : Value) (bs : List Int) : PgV := ((v, v), (bs, bs))
set_option maxRecDepth 100000 in
set_option maxHeartbeats 2000000 in
/-- A page more, at the level of the rows. -/
theorem add_rows (B : Nat) (w : World) (d n : Nat) (x0 x1 x4 x5 x6 x7 x8 x9 pv lv nv v : Value) (ps : List PgV) (ls : List LoV) (once : Bool) (bs : List Int) (hB : B ≤ d)
    (hb : w.heap[d]? = some (.cells #[x0, x1, pv, lv, x4, x5, x6, x7, x8, x9, nv] 111 (0, 0))) (hr : Rws B w n pv lv nv ps ls once) (hv : Own8 B w n v bs) (hl : ps.length ≤ 100000) :
    Calls Try.prog 49 #[.pointer (some ⟨d, 0, none⟩), v] w fun r w' => ∃ pv', r = .returned (.tuple #[]) ∧ w'.heap[d]? = some (.cells #[x0, x1, pv', lv, x4, x5, x6, x7, x8, x9, nv] 111 (0, 0)) ∧ Rws B w' n pv' lv nv (ps ++ [mkPg v bs]) ls once ∧ Dfr B w w' := by
  obtain ⟨va, vc, rfl⟩ := own_shape hv
  have hlt := lt_of_block hb
  obtain ⟨i0, hi0, hz0, hz1, hz2⟩ := info_parts infoPage
  have c2 := (cells11 hb).2.2.1
  have HB := Lib.hid hb
  have HR := Lib.hid hr
  have HV := Lib.hid hv
  have hown0 := hr.pown
  obtain ⟨m, hm⟩ : ∃ m, m = ps.length := ⟨_, rfl⟩
  rw [← hm] at hown0 hl
  obtain ⟨pa, pc, rfl⟩ := own_shape hown0
  have HO := Lib.hid hown0
  have HM := Lib.hid hm
  clear hb hr hv hown0 hm
  go_enter Try.func49, Try.ntmps49
  go_wp2_with (at_builtin; refine wpList_append_own _ rfl _ _ 94 rfl B 115 i0 (.agg #[.slice none 0 0, .slice none 0 0]) 2 48 Try.underlying94 hi0 hz0 hz1 hz2 rfl (by decide) _ _ _ rfl (HO.out.alloc _) ⟨w.heap.size, 0, none⟩ 1 1 [.slice va n vc, .slice va n vc] rfl rfl ?d1 ?d2 ?d3 ?d4 ?d5 ?_)
  case d1 =>
    intro j u hu
    have hj := (List.getElem?_eq_some_iff.1 hu).1
    rw [Addr.add_lit, Nat.zero_add, World.cell?_alloc_mark, ← hu]
    match j, hj with
    | 0, _ => rfl
    | 1, _ => rfl
  case d2 => intro u hu; simp at hu; subst hu; rfl
  case d3 => unfold maxLen; omega
  case d4 => omega
  case d5 => simp; omega
  intro v2 w2 hown2 hg2 _
  obtain ⟨a2, e2, rfl⟩ := own_shape hown2
  have hg : w.grownBy w2 (Value.slice pa m pc).ownBlock := gtrans (World.grownBy_alloc _ _ _) hg2
  have htag : ∀ k, (Value.slice pa m pc).ownBlock = some k → TagIs w k 115 := fun k hk => (own_tag HO.out k hk).2.2
  have hdne : some d ≠ (Value.slice pa m pc).ownBlock := fun e => by
    have h1 := htag d e.symm
    have h2 : TagIs w d 111 := ⟨_, _, HB.out⟩
    exact absurd (h1.uniq h2) (by decide)
  have hb2 := (hg.block d hlt hdne).trans HB.out
  have k2 := (cells11 hb2).2.2.1
  have g2 := free11 hb2 2
  have hown2' : w2.ownsRow B 115 2 (.slice a2 (m + 1) e2) (ps ++ [mkPg (.slice va n vc) bs]).length (pcells (ps ++ [mkPg (.slice va n vc) bs])) := by
    rw [pcells_snoc, List.length_append, ← HM.out]; exact hown2
  have hrw := HR.out.pages hg htag hown2' (fun y hy => by
    rw [List.mem_append, List.mem_singleton] at hy
    rcases hy with hy | rfl
    · exact .inl hy
    · exact .inr ⟨HV.out, HV.out⟩)
  have HB2 := Lib.hid hb2
  have HRW := Lib.hid hrw
  have HFR : Hid (Dfr B w w2) := Lib.hid (dfr_row hg fun k hk => ⟨(own_tag HO.out k hk).1, Dtag.of (htag k hk) (by decide)⟩)
  clear hown2 hg2 hg htag hdne hb2 hown2' hrw hi0 hz0 hz1 hz2 c2
  go_wp2
  go_end0
  refine ⟨.slice a2 (m + 1) e2, rfl, set_box HB2.out 2 _, HRW.out.far (gset w2 ⟨d, 2, none⟩ _) (fun k e => ?_), HFR.out.trans (dfr_row (gset w2 ⟨d, 2, none⟩ _) fun k e => ?_)⟩
  · injection e with e; subst e; exact ⟨_, _, HB2.out⟩
  · injection e with e; subst e; exact ⟨hB, Dtag.of ⟨_, _, HB2.out⟩ (by decide)⟩

theorem DskAt.add {B d : Nat} {w : World} {M : SM} {v : Value} {bs : List Int} (h : DskAt B w d M) (hv : Own8 B w M.size v bs) (hl : M.pg.length ≤ 100000) :
    Calls Try.prog 49 #[.pointer (some ⟨d, 0, none⟩), v] w fun r w' => r = .returned (.tuple #[]) ∧ DskAt B w' d { M with pg := M.pg ++ [(bs, bs)] } ∧ Dfr B w w' := by
  obtain ⟨pv, lv, nv, ps, ls, h1, h2, h3, h4, h5⟩ := h
  refine (add_rows B w d M.size _ _ _ _ _ _ _ _ pv lv nv v ps ls M.once bs h1 h2 h3 hv (by rw [h4] at hl; simpa using hl)).mono ?_
  rintro r w' ⟨pv', rfl, hb, hr, hf⟩
  exact ⟨rfl, ⟨pv', lv, nv, _, ls, h1, hb, hr, by simp [h4], h5⟩, hf⟩

end Go.Proofs.Ytnodclijlhoobaa

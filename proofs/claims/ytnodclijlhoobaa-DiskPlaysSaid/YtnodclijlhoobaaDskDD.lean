/-
  DiskPlays' acts: the code's call, and what the document's own call then answers, in one post, whatever way it goes. Own work.
-/
import Derived.Test.YtnodclijlhoobaaDskBB
namespace Go.Proofs.Ytnodclijlhoobaa
open Go.RowKit

/-- The document's D of the disk M. -/
abbrev dM (M : SM) (s l : Nat) (ga : Option Addr) (gc : Nat) (la : Option Addr) (lc : Nat) (f : Int) : Array Value := dcs s l ga M.pg.length gc la M.loose.length lc f M.calls

theorem str_sz (bs : List Int) : (strOfNums bs).size = bs.length := by
  show (strOfNums bs).data.size = _
  simp [strOfNums]
theorem PSt.fb {M : SM} {f : Int} {s l i : Nat} (p : PSt M f s l i) : -9223372036854775808 ≤ f ∧ f ≤ 9223372036854775807 := p.fr.bound p.w
theorem PSt.up {M : SM} {f : Int} {s l i : Nat} (p : PSt M f s l i) : PSt M f s l (i + 1) := ⟨p.sz, p.lm, p.wf, p.w.mono (Nat.le_succ i), p.fr⟩
theorem PSt.io {M : SM} {s l i : Nat} (p : PSt M 0 s l i) : PSt (cntM M) (-1) s l (i + 1) := ⟨p.sz, p.lm, p.wf.cnt, p.w.cnt, p.fr.last⟩
theorem PSt.ok {M : SM} {f : Int} {s l i : Nat} (p : PSt M f s l i) (h : f ≠ 0) : PSt (cntM M) (fnext f) s l (i + 1) := ⟨p.sz, p.lm, p.wf.cnt, p.w.cnt, p.fr.next h⟩

/-- What the document's call answers, and leaves. -/
def RPost (w1 w2 : World) (M' : SM) (s l : Nat) (f' : Int) (r : Ending) (E : Int) : Prop :=
  ∃ ga gc la lc, r = .returned (.tuple #[.agg (dM M' s l ga gc la lc f'), .int .i64 E]) ∧ RIn w2 M' ga gc la lc ∧ w1.grownBy w2 none

set_option maxHeartbeats 1000000 in
theorem write_two {B d i s l b0 bn bc : Nat} {ba : Option Addr} {bs : List Int} {w : World} {M : SM} {f ix : Int} (h : DskAt B w d M) (p : PSt M f s l i) (hi : i ≤ 30) (hx : Own8 b0 w bn (.slice ba bn bc) bs) :
    Calls Try.prog 14 #[.pointer (some ⟨d, 0, none⟩), .int .i64 ix, .slice ba bn bc] w fun r w' => ∃ E M' f', r = .returned (.int .i64 E) ∧ DskAt B w' d M' ∧ Dfr B w w' ∧ PSt M' f' s l (i + 1) ∧
      ∀ w1 ga gc la lc, RIn w1 M ga gc la lc → Calls Try.prog 15 #[.agg (dM M s l ga gc la lc f), .int .i64 ix, .string (strOfNums bs)] w1 fun r w2 => RPost w1 w2 M' s l f' r E := by
  by_cases ho : ix < 0 ∨ (M.pg.length : Int) ≤ ix
  · refine (h.write_out ho).mono ?_
    rintro r w' ⟨rfl, rfl⟩
    exact ⟨15, M, f, rfl, h, Dfr.refl _ _, p.up, fun w1 ga gc la lc hr => (rwrite_range w1 s l ga _ gc la _ lc f _ ix _ ho).mono fun r w2 ⟨h1, h2⟩ => ⟨ga, gc, la, lc, h1, hr.new h2, h2⟩⟩
  · obtain ⟨j, rfl⟩ : ∃ j : Nat, ix = j := ⟨ix.toNat, by omega⟩
    have hj : j < M.pg.length := by omega
    have hcl : M.calls < 9223372036854775807 := by have := p.w.cl; omega
    by_cases hb : bn = M.size
    · have hbs : (strOfNums bs).size = s := by rw [str_sz, hx.len, hb, p.sz]
      by_cases hf : f = 0
      · subst hf
        refine (h.write_io (n := 0) (p.w.fine (by omega)) hj hb (p.fr.io rfl)).mono ?_
        rintro r w' ⟨rfl, hd, hg⟩
        exact ⟨20, cntM M, -1, rfl, hd, hg, p.io, fun w1 ga gc la lc hr => (rwrite_fail w1 s l ga _ gc la _ lc M.calls j _ hj hbs hcl).mono fun r w2 ⟨h1, h2⟩ => ⟨ga, gc, la, lc, h1, hr.new h2, h2⟩⟩
      · refine (h.writeN hb.symm (p.w.fine (by omega)) hj (by have := p.w.s2; omega) (p.fr.ok hf) hx (by have := p.w.lo; omega)).mono ?_
        rintro r w' ⟨rfl, hd, hg⟩
        have ws := write_same M j bs hj
        have e1 : (wrM M j bs).pg.length = M.pg.length := by simp [wrM]
        have e2 : (wrM M j bs).loose.length = (mlO M.loose).length + 1 := by simp [wrM, mlO_len]
        refine ⟨0, wrM M j bs, fnext f, rfl, hd, hg, ⟨p.sz, p.lm, p.wf.wr hj, p.w.wr hj, p.fr.next hf⟩, fun w1 ga gc la lc hr => ?_⟩
        have hl := hr.2
        refine (rwrite_ok w1 s l ga M.pg.length gc la M.loose.length lc f M.calls (mlO M.loose) j (strOfNums bs) hl hj hbs (by rw [mlO_len]; have := p.w.lo; omega) p.fb.1 p.fb.2 hcl hf).mono ?_
        rintro r w2 ⟨la', lc', rfl, hr2, hg2⟩
        refine ⟨ga, gc, la', lc', ?_, ⟨?_, ?_⟩, hg2⟩
        · rw [dM, e1, e2]; rfl
        · rw [e1, ws.1]; exact hr.1.grown hg2
        · rw [e2, ws.2, List.length_append]; exact hr2
    · have hbs : (strOfNums bs).size ≠ s := by rw [str_sz, hx.len, ← p.sz]; exact hb
      refine (h.write_size hj hb).mono ?_
      rintro r w' ⟨rfl, rfl⟩
      exact ⟨1, M, f, rfl, h, Dfr.refl _ _, p.up, fun w1 ga gc la lc hr => (rwrite_size w1 s l ga _ gc la _ lc f _ j _ hj hbs).mono fun r w2 ⟨h1, h2⟩ => ⟨ga, gc, la, lc, h1, hr.new h2, h2⟩⟩

set_option maxHeartbeats 1000000 in
theorem grow_two {B d i s l : Nat} {w : World} {M : SM} {f n : Int} (h : DskAt B w d M) (p : PSt M f s l i) (hi : i ≤ 30) :
    Calls Try.prog 18 #[.pointer (some ⟨d, 0, none⟩), .int .i64 n] w fun r w' => ∃ E M' f', r = .returned (.int .i64 E) ∧ DskAt B w' d M' ∧ Dfr B w w' ∧ PSt M' f' s l (i + 1) ∧
      ∀ w1 ga gc la lc, RIn w1 M ga gc la lc → Calls Try.prog 19 #[.agg (dM M s l ga gc la lc f), .int .i64 n] w1 fun r w2 => RPost w1 w2 M' s l f' r E := by
  have hcl : M.calls < 9223372036854775807 := by have := p.w.cl; omega
  by_cases ha : n < (M.pg.length : Int)
  · refine (h.grow_arg ha).mono ?_
    rintro r w' ⟨rfl, rfl⟩
    exact ⟨1, M, f, rfl, h, Dfr.refl _ _, p.up, fun w1 ga gc la lc hr => (rgrow_arg w1 s l ga _ gc la _ lc f _ n ha).mono fun r w2 ⟨h1, h2⟩ => ⟨ga, gc, la, lc, h1, hr.new h2, h2⟩⟩
  · by_cases hl : (M.limit : Int) < n
    · refine (h.grow_full ha hl).mono ?_
      rintro r w' ⟨rfl, rfl⟩
      exact ⟨21, M, f, rfl, h, Dfr.refl _ _, p.up, fun w1 ga gc la lc hr => (rgrow_full w1 s l ga _ gc la _ lc f _ n ha (by rw [← p.lm]; exact hl)).mono fun r w2 ⟨h1, h2⟩ => ⟨ga, gc, la, lc, h1, hr.new h2, h2⟩⟩
    · by_cases hf : f = 0
      · subst hf
        refine (h.grow_io (p.w.fine (by omega)) ha hl (p.fr.io rfl)).mono ?_
        rintro r w' ⟨rfl, hd, hg⟩
        exact ⟨20, cntM M, -1, rfl, hd, hg, p.io, fun w1 ga gc la lc hr => (rgrow_fail w1 s l ga _ gc la _ lc M.calls n ha (by rw [← p.lm]; exact hl) hcl).mono fun r w2 ⟨h1, h2⟩ => ⟨ga, gc, la, lc, h1, hr.new h2, h2⟩⟩
      · obtain ⟨m, rfl⟩ : ∃ m : Nat, n = m := ⟨n.toNat, by omega⟩
        have hm : M.pg.length ≤ m := by omega
        have hml : m ≤ M.limit := by omega
        refine (h.grow (p.w.fine (by omega)) hm hml p.w.s2 p.w.l (p.fr.ok hf)).mono ?_
        rintro r w' ⟨o, rfl, hd, hg⟩
        have gs := grow_same M (m - M.pg.length) o
        have e1 : (growM (cntM M) (m - M.pg.length) o).pg.length = m := by simp [growM, cntM]; omega
        refine ⟨0, growM (cntM M) (m - M.pg.length) o, fnext f, rfl, hd, hg, ⟨p.sz, p.lm, wf_grow p.wf p.w.lin, p.w.grow (by omega), p.fr.next hf⟩, fun w1 ga gc la lc hr => ?_⟩
        have hgr := hr.1
        refine (rgrow_ok w1 s l ga M.pg.length gc la M.loose.length lc f M.calls (mgO M.pg) m hgr hm (by rw [← p.lm]; exact hml) (by rw [← p.lm]; exact p.w.l) (by rw [← p.sz]; exact p.w.s2) p.fb.1 p.fb.2 hcl hf).mono ?_
        rintro r w2 ⟨ga', gc', rfl, hr2, hg2⟩
        refine ⟨ga', gc', la, lc, ?_, ⟨?_, hr.2.grown hg2⟩, hg2⟩
        · rw [dM, e1]; rfl
        · have e2 : (mgO (growM (cntM M) (m - M.pg.length) o).pg).length = m := by rw [mgO_len, e1]
          rw [e2, e1, gs, p.sz]; exact hr2

set_option maxHeartbeats 1000000 in
theorem sync_two {B d i s l : Nat} {w : World} {M : SM} {f : Int} (h : DskAt B w d M) (p : PSt M f s l i) (hi : i ≤ 30) :
    Calls Try.prog 20 #[.pointer (some ⟨d, 0, none⟩)] w fun r w' => ∃ E M' f', r = .returned (.int .i64 E) ∧ DskAt B w' d M' ∧ Dfr B w w' ∧ PSt M' f' s l (i + 1) ∧
      ∀ w1 ga gc la lc, RIn w1 M ga gc la lc → Calls Try.prog 21 #[.agg (dM M s l ga gc la lc f)] w1 fun r w2 => RPost w1 w2 M' s l f' r E := by
  have hcl : M.calls < 9223372036854775807 := by have := p.w.cl; omega
  by_cases hf : f = 0
  · subst hf
    refine (h.sync_io (p.w.fine (by omega)) (p.fr.io rfl)).mono ?_
    rintro r w' ⟨rfl, hd, hg⟩
    exact ⟨20, cntM M, -1, rfl, hd, hg, p.io, fun w1 ga gc la lc hr => (rsync_fail w1 s l ga _ gc la _ lc M.calls hcl).mono fun r w2 ⟨h1, h2⟩ => ⟨ga, gc, la, lc, h1, hr.new h2, h2⟩⟩
  · have hpl : M.pg.length ≤ 100000 := by have := p.w.p; have := p.w.l; omega
    have hll : M.loose.length ≤ 100000 := by have := p.w.lo; omega
    refine (h.sync (p.w.fine (by omega)) (p.fr.ok hf) p.w.lin hll hpl).mono ?_
    rintro r w' ⟨rfl, hd, hg⟩
    have e1 : (syncM M).pg.length = M.pg.length := by simp [syncM, syncP_len, cntM]
    refine ⟨0, syncM M, fnext f, rfl, hd, hg, ⟨p.sz, p.lm, p.wf.sync p.w.lin, p.w.sync, p.fr.next hf⟩, fun w1 ga gc la lc hr => ?_⟩
    refine (rsync_ok w1 s l ga M.pg.length gc la M.loose.length lc f M.calls (mgO M.pg) (mlO M.loose) hr.1 hr.2 (by rw [mlO_len]; exact hll) (by rw [mgO_len]; exact hpl) (fun x hx => by
      obtain ⟨y, hy, rfl⟩ := List.mem_map.1 hx
      rw [mgO_len]; exact p.w.lin y hy) p.fb.1 p.fb.2 hcl hf).mono ?_
    rintro r w2 ⟨ga', gc', rfl, hr2, hg2⟩
    refine ⟨ga', gc', none, 0, ?_, ⟨?_, Row.nil _ _⟩, hg2⟩
    · rw [dM, e1]; rfl
    · have e2 : mgO (syncM M).pg = applyL (mgO M.pg) (mlO M.loose) := (sync_same _ _).symm
      rw [mgO_len, e1, e2]; exact hr2

set_option maxHeartbeats 1000000 in
theorem fail_two {B d i s l : Nat} {w : World} {M : SM} {f n : Int} (h : DskAt B w d M) (p : PSt M f s l i) (h1 : -9223372036854775808 ≤ n) (h2 : n ≤ 9223372036854775807) :
    Calls Try.prog 22 #[.pointer (some ⟨d, 0, none⟩), .int .i64 n] w fun r w' => ∃ M' f', r = .returned (.tuple #[]) ∧ DskAt B w' d M' ∧ Dfr B w w' ∧ PSt M' f' s l (i + 1) ∧
      ∀ w1 ga gc la lc, RIn w1 M ga gc la lc → Calls Try.prog 23 #[.agg (dM M s l ga gc la lc f), .int .i64 n] w1 fun r w2 => ∃ ga' gc' la' lc', r = .returned (.agg (dM M' s l ga' gc' la' lc' f')) ∧ RIn w2 M' ga' gc' la' lc' ∧ w1.grownBy w2 none := by
  refine (h.fail n).mono ?_
  rintro r w' ⟨rfl, hd, hg⟩
  exact ⟨_, _, rfl, hd, hg, ⟨p.sz, p.lm, p.wf, (p.w.mono (Nat.le_succ i)).fail n h1 h2, frel_fail M n⟩, fun w1 ga gc la lc hr => (rfail_any w1 s l ga _ gc la _ lc f _ n).mono fun r w2 ⟨h1, h2⟩ => ⟨ga, gc, la, lc, h1, hr.new h2, h2⟩⟩

set_option maxHeartbeats 1000000 in
theorem crash_two {B d i s l kn kc : Nat} {ka : Option Addr} {ks : List Int} {w : World} {M : SM} {f : Int} (h : DskAt B w d M) (p : PSt M f s l i) (hi : i ≤ 30) (hks : Stays B w (.slice ka kn kc) ks) (hby : Byt ks) (hk : ks.length ≤ 100000) :
    Calls Try.prog 24 #[.pointer (some ⟨d, 0, none⟩), .slice ka kn kc] w fun r w' => ∃ M' f', r = .returned (.tuple #[]) ∧ DskAt B w' d M' ∧ Dfr B w w' ∧ PSt M' f' s l (i + 1) ∧
      ∀ w1 ga gc la lc, RIn w1 M ga gc la lc → Calls Try.prog 25 #[.agg (dM M s l ga gc la lc f), .string (strOfNums ks)] w1 fun r w2 => ∃ ga' gc' la' lc', r = .returned (.agg (dM M' s l ga' gc' la' lc' f')) ∧ RIn w2 M' ga' gc' la' lc' ∧ w1.grownBy w2 none := by
  have hpl : M.pg.length ≤ 100000 := by have := p.w.p; have := p.w.l; omega
  have hll : M.loose.length ≤ 100000 := by have := p.w.lo; omega
  have hz := h.sizes
  refine (h.crash hks hby p.w.s2 p.w.s3 p.w.lin hll hpl).mono ?_
  rintro r w' ⟨rfl, hd, hg⟩
  obtain ⟨nn, hnn⟩ : ∃ nn, M.size = nn * 128 := ⟨M.size / 128, by have := p.w.s3; omega⟩
  have e1 : (crashM M ks).pg.length = M.pg.length := by simp [crashM, crashP_len]
  refine ⟨crashM M ks, -1, rfl, hd, hg, ⟨p.sz, p.lm, p.wf.crash p.w.lin, (p.w.mono (Nat.le_succ i)).crash ks, ⟨(fun e => by cases e), (fun _ => rfl)⟩⟩, fun w1 ga gc la lc hr => ?_⟩
  refine (rcrash_ok w1 s nn l ga M.pg.length gc la M.loose.length lc f M.calls (mgO M.pg) (mlO M.loose) (strOfNums ks) (by rw [str_sz]; exact hk) hr.1 hr.2 (by rw [mlO_len]; exact hll) (by rw [mgO_len]; exact hpl) (fun x hx => ?_) (fun x hx => ?_) (fun x hx => ?_) (by rw [← p.sz]; exact hnn) (by rw [← p.sz]; exact p.w.s2)).mono ?_
  · obtain ⟨y, hy, rfl⟩ := List.mem_map.1 hx
    rw [mgO_len]; exact p.w.lin y hy
  · obtain ⟨y, hy, rfl⟩ := List.mem_map.1 hx
    rw [str_sz, (hz.1 y hy).1, p.sz]
  · obtain ⟨y, hy, rfl⟩ := List.mem_map.1 hx
    show (strOfNums y.2).size = s
    rw [str_sz, hz.2 y hy, p.sz]
  rintro r w2 ⟨ga', gc', rfl, hr2, hg2⟩
  refine ⟨ga', gc', none, 0, ?_, ⟨?_, Row.nil _ _⟩, hg2⟩
  · rw [dM, e1]; rfl
  · have e2 : mgO (crashM M ks).pg = crashA (strOfNums ks) nn 0 (mgO M.pg) ((mlO M.loose).take (strOfNums ks).size) := by
      rw [str_sz]
      exact crash_same ks hby nn M.loose 0 M.pg (fun x hx => ⟨p.w.lin x hx, by rw [hz.2 x hx, hnn]⟩) (fun y hy => by rw [(hz.1 y hy).1, hnn])
    rw [mgO_len, e1, e2]; exact hr2

/-- Bytes that were read, wherever a world has grown to. -/
def Kept (w : World) (v : Value) (xs : List Int) : Prop := ∀ b w', Below b w w' → w.heap.size ≤ b → Seq w'.heap.size w' v xs
set_option maxHeartbeats 1000000 in
theorem read_two {B d i s l : Nat} {w : World} {M : SM} {f ix : Int} (h : DskAt B w d M) (p : PSt M f s l i) (hi : i ≤ 30) :
    Calls Try.prog 16 #[.pointer (some ⟨d, 0, none⟩), .int .i64 ix] w fun r w' => ∃ E M' f' xa xn xc xs, r = .returned (.tuple #[.slice xa xn xc, .int .i64 E]) ∧ DskAt B w' d M' ∧ Dfr B w w' ∧ PSt M' f' s l (i + 1) ∧ (∃ b, Own8 b w' xn (.slice xa xn xc) xs) ∧
      ∀ w1 ga gc la lc, RIn w1 M ga gc la lc → Calls Try.prog 17 #[.agg (dM M s l ga gc la lc f), .int .i64 ix] w1 fun r w2 => ∃ ga' gc' la' lc', r = .returned (.tuple #[.agg (dM M' s l ga' gc' la' lc' f'), .string (strOfNums xs), .int .i64 E]) ∧ RIn w2 M' ga' gc' la' lc' ∧ w1.grownBy w2 none := by
  have hnil : strOfNums [] = ByteArray.empty := rfl
  by_cases ho : ix < 0 ∨ (M.pg.length : Int) ≤ ix
  · refine (h.read_out ho).mono ?_
    rintro r w' ⟨rfl, rfl⟩
    exact ⟨15, M, f, none, 0, 0, [], rfl, h, Dfr.refl _ _, p.up, ⟨0, rfl, .inl ⟨rfl, rfl⟩⟩, fun w1 ga gc la lc hr => (rread_out w1 s l ga _ gc la _ lc f _ ix ho).mono fun r w2 ⟨h1, h2⟩ => ⟨ga, gc, la, lc, h1, hr.new h2, h2⟩⟩
  · obtain ⟨j, rfl⟩ : ∃ j : Nat, ix = j := ⟨ix.toNat, by omega⟩
    have hj : j < M.pg.length := by omega
    have hcl : M.calls < 9223372036854775807 := by have := p.w.cl; omega
    by_cases hf : f = 0
    · subst hf
      refine (h.read_io (p.w.fine (by omega)) hj (p.fr.io rfl)).mono ?_
      rintro r w' ⟨rfl, hd, hg⟩
      exact ⟨20, cntM M, -1, none, 0, 0, [], rfl, hd, hg, p.io, ⟨0, rfl, .inl ⟨rfl, rfl⟩⟩, fun w1 ga gc la lc hr => (rread_fail w1 s l ga _ gc la _ lc M.calls j hj hcl).mono fun r w2 ⟨h1, h2⟩ => ⟨ga, gc, la, lc, h1, hr.new h2, h2⟩⟩
    · refine (h.read (p.w.fine (by omega)) hj p.w.s2 (p.fr.ok hf)).mono ?_
      rintro r w' ⟨wc, xa, xc, rfl, hd, hs, hg, hg2, hx⟩
      refine ⟨0, cntM M, fnext f, xa, M.size, xc, lastM M j, rfl, hd.new hg2, hg.trans (dfr_new hg2), p.ok hf, ⟨_, hx⟩, fun w1 ga gc la lc hr => ?_⟩
      rw [← look_same p.wf j hj]
      exact (rread_ok w1 s l ga M.pg.length gc la M.loose.length lc f M.calls (mgO M.pg) (mlO M.loose) j hr.1 hr.2 (by rw [mgO_len]; exact hj) (by rw [mlO_len]; have := p.w.lo; omega) p.fb.1 p.fb.2 hcl hf).mono fun r w2 ⟨h1, h2⟩ => ⟨ga, gc, la, lc, h1, hr.new h2, h2⟩

theorem alike_two {B d s l i : Nat} {w : World} {M : SM} {f : Int} (p : PSt M f s l i) (h : DskAt B w d M) (ga : Option Addr) (gc : Nat) (la : Option Addr) (lc : Nat) :
    Calls Try.prog 26 #[.pointer (some ⟨d, 0, none⟩), .agg (dM M s l ga gc la lc f)] w fun r w' => r = .returned (.bool true) ∧ w.grownBy w' none := by
  have h' := alike_any B d w M ga gc la lc f h
  rw [p.sz, p.lm] at h'
  exact h'

end Go.Proofs.Ytnodclijlhoobaa

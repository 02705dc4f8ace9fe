/-
  Layer 11: rightRecords. Own work.
-/
import Derived.Test.YtildjdhoeilcfaaGreatPgrAS
import Derived.Test.YtildjdhoeilcfaaGreatPgrAH
import Derived.RangeFuncNested
import Derived.RangeFuncBound
import Derived.RangeFuncCalls
import Derived.RangeFuncLeaves
import Derived.RangeFuncWrites
import Derived.RangeFuncBox
import Derived.Shelf.Abstract
import Derived.Shelf.RegionOpen
import Derived.OwnWalkIn
import Derived.TacticsInMore
import Derived.LoopNIn
import Derived.LoopIn
import Derived.Sort.MapsRangeIn
import Derived.Maps.OwnIn

namespace Go.Proofs.YtildjdhoeilcfaaGreat
open Go.RowKit Go.Maps

set_option maxHeartbeats 1000000 in
theorem later_any (w : World) (q t : Nat) (mt : Mt) (pv : Value) (a1 : Option Addr) (n1 c1 : Nat) (hpv : pv = .slice a1 n1 c1) (hq : w.heap[q]? = some (.cells (mtC mt) 44 (0, 0))) :
    Calls Tryz.prog 100 #[.agg #[.int .u64 (t : Int), pv], .pointer (some ⟨q, 0, none⟩)] w fun r w' => r = .returned (.bool (decide (mt.t < t))) ∧ w.grownBy w' none := by
  subst hpv
  have HQ := Lib.hid (keep_alloc1 hq (.cells #[.int .u64 (t : Int), .slice a1 n1 c1] 141))
  obtain ⟨m0, m1, m2, m3⟩ := mt_cells HQ.out
  have HD := Lib.hid (show decide ((mt.t : Int) < (t : Int)) = decide (mt.t < t) by rw [Bool.eq_iff_iff]; simp)
  clear hq
  go_enter Tryz.func100, Tryz.ntmps100
  go_wp2
  go_ret
  exact ⟨by first | rfl | (rw [← HD.out]; rfl), World.grownBy_alloc _ _ _⟩
/-- Is a record of a later change than t? -/
def anyLater (rs : List Rc) (t : Nat) : Bool := rs.any fun r => decide (t < r.1)
set_option maxHeartbeats 4000000 in
theorem laterIdx_any (w : World) (R : Nat → Prop) (ao : Option Addr) (n c q : Nat) (rs : List Rc) (mt : Mt) (hs : RSq R w (.slice ao n c) rs) (hq : w.heap[q]? = some (.cells (mtC mt) 44 (0, 0))) :
    Calls Tryz.prog 141 #[.slice ao n c, .func (.func 100) #[] #[.pointer (some ⟨q, 0, none⟩)]] w fun r w' => ∃ i : Int, r = .returned (.int .i64 i) ∧ (decide (0 ≤ i) = anyLater rs mt.t) ∧ w.grownBy w' none := by
  obtain ⟨hn, hm⟩ := hs.len
  have hN := Lib.hid hn
  have Hs := Lib.hid hs
  have HQ := Lib.hid hq
  have hm2 : (n : Int) ≤ 9223372036854775807 := by have h9 : maxLen ≤ 9223372036854775807 := by decide
                                                   omega
  clear hn hm hs hq
  go_enter Tryz.func141, Tryz.ntmps141
  go_wp2
  go_loopw [8] (fun i wr => ∃ k : Nat, k ≤ n ∧ i = .int .i64 (k : Int) ∧ (∀ r ∈ rs.take k, ¬ mt.t < r.1) ∧ w.grownBy wr none) (fun i _ => n - (intOf i).toNat)
  case atStart => exact ⟨0, Nat.zero_le _, rfl, by simp, grefl _ _⟩
  case round =>
    obtain ⟨k, hk, rfl, hr, hg⟩ := hrel
    have Hr := Lib.hid hr
    have Hg := Lib.hid hg
    clear hr hg
    by_cases hlt : k < n
    · have hki : (k : Int) < (n : Int) := by omega
      have hkl : k < rs.length := by rw [← hN.out]; exact hlt
      obtain ⟨r0, hr0⟩ : ∃ r0, rs[k]? = some r0 := ⟨_, List.getElem?_eq_getElem hkl⟩
      obtain ⟨b', o, rfl, _, hc0, h64, a1, c1, hc1, _⟩ := Hs.out.at k r0 hr0
      have hd0 : wr.cell? ⟨b', o + k * 2, none⟩ = _ := Hg.out.cell hc0 (by simp)
      have hd1 : wr.cell? ⟨b', o + k * 2 + 1, none⟩ = _ := Hg.out.cell hc1 (by simp)
      have htk : rs.take (k + 1) = rs.take k ++ [r0] := by
        rw [List.take_succ_eq_append_getElem hkl]
        congr 2
        exact Option.some.inj ((List.getElem?_eq_getElem hkl).symm.trans hr0)
      have hmem : r0 ∈ rs := List.mem_of_getElem? hr0
      have HT := Lib.hid htk
      have HM := Lib.hid hmem
      have hQr := Lib.hid ((Hg.out.block _ (lt_of_block HQ.out) (by simp)).trans HQ.out)
      obtain ⟨t, pp⟩ := r0
      clear htk hmem hc0 hc1 hr0
      by_cases hin : mt.t < t
      · have HIN := Lib.hid hin
        have hd : decide (mt.t < t) = true := by simpa using hin
        clear hin
        go_wp2_with (first
          | (go_at_call 100; refine (later_any wr q t mt _ a1 _ c1 rfl hQr.out).mono ?_; rw [hd]; rintro r w1 ⟨rfl, hg⟩; have HG1 := Lib.hid (gtrans Hg.out hg); clear hg))
        go_ret
        refine ⟨(k : Int), rfl, ?_, HG1.out⟩
        have : anyLater rs mt.t = true := by
          unfold anyLater
          rw [List.any_eq_true]
          exact ⟨_, HM.out, by simpa using HIN.out⟩
        rw [this]
        simp
      · have HIN := Lib.hid hin
        have hd : decide (mt.t < t) = false := by simpa using hin
        clear hin
        go_wp2_with (first
          | (go_at_call 100; refine (later_any wr q t mt _ a1 _ c1 rfl hQr.out).mono ?_; rw [hd]; rintro r w1 ⟨rfl, hg⟩; have HG1 := Lib.hid (gtrans Hg.out hg); clear hg))
        go_roundw
        case rel =>
          refine ⟨k + 1, by omega, by go_num, ?_, HG1.out⟩
          rw [HT.out]
          intro p hp
          rcases List.mem_append.1 hp with h | h
          · exact Hr.out p h
          · have : p = (t, pp) := by simpa using h
            rw [this]; exact HIN.out
        case measure => simp [intOf]; omega
    · have hki : ¬ (k : Int) < (n : Int) := by omega
      go_wp2
      go_ret
      refine ⟨-1, rfl, ?_, Hg.out⟩
      have e : rs.take k = rs := by rw [show k = n by omega, hN.out]; exact List.take_length
      have h := Hr.out
      rw [e] at h
      have : anyLater rs mt.t = false := by
        unfold anyLater
        rw [List.any_eq_false]
        intro p hp
        simpa using h p hp
      rw [this]
      simp
set_option maxHeartbeats 1000000 in
theorem laterHas_any (w : World) (R : Nat → Prop) (ao : Option Addr) (n c q : Nat) (rs : List Rc) (mt : Mt) (hs : RSq R w (.slice ao n c) rs) (hq : w.heap[q]? = some (.cells (mtC mt) 44 (0, 0))) :
    Calls Tryz.prog 99 #[.slice ao n c, .func (.func 100) #[] #[.pointer (some ⟨q, 0, none⟩)]] w fun r w' => r = .returned (.bool (anyLater rs mt.t)) ∧ w.grownBy w' none := by
  go_enter Tryz.func99, Tryz.ntmps99
  go_wp2_with (first
    | (go_at_call 141; refine (laterIdx_any w R ao n c q rs mt hs hq).mono ?_; rintro r w1 ⟨i, rfl, hi, hg⟩; have HI := Lib.hid hi; have HG := Lib.hid hg; clear hi hg))
  go_ret
  exact ⟨by rw [← HI.out]; rfl, HG.out⟩
/-- May records be those of a meta? -/
def okRecsM (rs : List Rc) (mt : Mt) : Bool := right rs mt.e && !anyLater rs mt.t
set_option maxHeartbeats 2000000 in
theorem rightRecords_any (w : World) (R : Nat → Prop) (ao : Option Addr) (n c : Nat) (rs : List Rc) (mt : Mt) (hm : MtOk mt) (hs : RSq R w (.slice ao n c) rs) :
    Calls Tryz.prog 55 #[.slice ao n c, .agg (mtC mt)] w fun r w' => r = .returned (.bool (okRecsM rs mt)) ∧ w.grownBy w' none := by
  have hq := lit_block w (.cells (mtC mt) 44)
  have hg0 : w.grownBy (w.alloc (.cells (mtC mt) 44)) none := World.grownBy_alloc _ _ _
  have HR := Lib.hid (fun W (k : w.grownBy W none) => right_any W R ao n c rs mt.e (hs.grown k) hm.e)
  have HL := Lib.hid (fun W (k : w.grownBy W none) (hq : W.heap[w.heap.size]? = some (.cells (mtC mt) 44 (0, 0))) => laterHas_any W R ao n c w.heap.size rs mt (hs.grown k) hq)
  have HO := Lib.hid (show okRecsM rs mt = (right rs mt.e && !anyLater rs mt.t) from rfl)
  generalize okRecsM rs mt = ok at HO ⊢
  generalize right rs mt.e = b1 at HR HO
  generalize anyLater rs mt.t = b2 at HL HO
  obtain ⟨m0, m1, m2, m3⟩ := mt_cells hq
  have HQ := Lib.hid hq
  have HG0 := Lib.hid hg0
  have hmc : mtC mt = #[.int .u64 (mt.t : Int), .int .u32 (mt.e : Int), .int .u32 (mt.m : Int), .int .u32 (mt.f : Int)] := rfl
  rw [hmc] at HQ HG0 HL ⊢
  clear hq hg0 hs hmc
  cases b1
  · go_enter Tryz.func55, Tryz.ntmps55
    go_wp2_with (first
      | (go_at_call 31; ((with_reducible refine (HR.out _ HG0.out).mono ?_); rintro r w1 ⟨rfl, hg⟩); have HG1 := Lib.hid (gtrans HG0.out hg); clear hg))
    go_ret
    exact ⟨by rw [HO.out]; rfl, HG1.out⟩
  · go_enter Tryz.func55, Tryz.ntmps55
    go_wp2_with (first
      | (go_at_call 31; ((with_reducible refine (HR.out _ HG0.out).mono ?_); rintro r w1 ⟨rfl, hg⟩); have HG1 := Lib.hid (gtrans HG0.out hg); have HQ1 := Lib.hid ((hg.block _ (lt_of_block HQ.out) (by simp)).trans HQ.out); clear hg)
      | (go_at_call 99; ((with_reducible refine (HL.out _ HG1.out HQ1.out).mono ?_); rintro r w2 ⟨rfl, hg⟩); have HG2 := Lib.hid (gtrans HG1.out hg); clear hg))
    go_ret
    exact ⟨by rw [HO.out]; rfl, HG2.out⟩

end Go.Proofs.YtildjdhoeilcfaaGreat

namespace Go.Proofs.YtildjdhoeilcfaaGreat
open Go.RowKit Go.Maps

/-- All that a disk has is pages' bytes. -/
structure Byd (M : SM) : Prop where
  pg : ∀ x ∈ M.pg, (Byt x.1 ∧ x.1.length = M.size) ∧ Byt x.2 ∧ x.2.length = M.size
  lo : ∀ x ∈ M.loose, Byt x.2 ∧ x.2.length = M.size
theorem Byd.cnt {M : SM} (h : Byd M) : Byd (cntM M) := ⟨h.pg, h.lo⟩
theorem Byd.at {M : SM} (h : Byd M) {i : Nat} (hi : i < M.pg.length) : (Byt (M.pg.getD i ([], [])).1 ∧ (M.pg.getD i ([], [])).1.length = M.size) ∧ Byt (lastM M i) ∧ (lastM M i).length = M.size := by
  unfold lastM
  rw [List.getD_eq_getElem?_getD, List.getElem?_eq_getElem hi]
  exact h.pg _ (List.getElem_mem hi)
theorem Byd.wr {M : SM} (h : Byd M) {i : Nat} {b : List Int} (hi : i < M.pg.length) (h1 : Byt b) (h2 : b.length = M.size) : Byd (wrM M i b) := by
  refine ⟨fun x hx => ?_, fun x hx => ?_⟩
  · rcases List.mem_or_eq_of_mem_set hx with e | e
    · exact h.pg x e
    · subst e; exact ⟨(h.at hi).1, h1, h2⟩
  · rcases List.mem_append.1 hx with e | e
    · exact h.lo x e
    · simp at e; subst e; exact ⟨h1, h2⟩
theorem byd_syncP {n : Nat} : ∀ (l : List (Nat × List Int)) (pg : List (List Int × List Int)), (∀ x ∈ l, x.1 < pg.length) → (∀ x ∈ l, Byt x.2 ∧ x.2.length = n) → (∀ x ∈ pg, (Byt x.1 ∧ x.1.length = n) ∧ Byt x.2 ∧ x.2.length = n) → ∀ x ∈ syncP pg l, (Byt x.1 ∧ x.1.length = n) ∧ Byt x.2 ∧ x.2.length = n
  | [], pg, _, _, h => h
  | y :: l, pg, h0, h1, h => by
    refine byd_syncP l _ (fun x hx => by rw [List.length_set]; exact h0 x (by simp [hx])) (fun x hx => h1 x (by simp [hx])) fun x hx => ?_
    rcases List.mem_or_eq_of_mem_set hx with e | e
    · exact h x e
    · subst e
      have hy := h0 y (by simp)
      refine ⟨h1 y (by simp), ?_⟩
      rw [List.getD_eq_getElem?_getD, List.getElem?_eq_getElem hy]
      exact (h _ (List.getElem_mem hy)).2
theorem Byd.sync {M : SM} (h : Byd M) (hl : ∀ x ∈ M.loose, x.1 < M.pg.length) : Byd (syncM M) := ⟨byd_syncP M.loose M.pg hl h.lo h.pg, by intro x hx; cases hx⟩
theorem byt_rep (n : Nat) : Byt (List.replicate n 0) := fun x hx => by have := List.eq_of_mem_replicate hx; omega
theorem Byd.grow {M : SM} (h : Byd M) (k : Nat) (o : Bool) : Byd (growM M k o) := ⟨fun x hx => by
  rcases List.mem_append.1 hx with e | e
  · exact h.pg x e
  · have := List.eq_of_mem_replicate e
    subst this
    exact ⟨⟨byt_rep _, by simp; rfl⟩, byt_rep _, by simp; rfl⟩, h.lo⟩
theorem Byd.jgr {M : SM} (h : Byd M) (n : Nat) : Byd (jgrM M n) := by
  unfold jgrM
  split
  · exact h
  · split
    · exact h.cnt.grow _ _
    · exact h.cnt
theorem Byd.fm {M : SM} {c : Nat} (h : Byd M) (hW : Wel M c) (hf : M.fails = false) (hl : 2 ≤ M.limit) : Byd (fmM M) := by
  obtain ⟨z1, z2, z3⟩ := jgrM_size M 2
  have l1 := jgrM_len hf hl
  have w1 := (hW.jgr (n := 2)).wr (i := 1) (bs := mpage fm0 M.size) (by omega)
  have hs := hW.s1
  exact ((h.jgr 2).wr (by omega) (mpage_byt _ _) (by rw [mpage_len (by omega), z1])).sync w1.lin
theorem Byd.cntK {M : SM} (h : Byd M) : ∀ k, Byd (cntK M k)
  | 0 => h
  | k + 1 => (Byd.cntK h k).cnt
theorem Byd.lm {M : SM} {c : Nat} (h : Byd M) (hW : Wel M c) (hf : M.fails = false) (hl : 2 ≤ M.limit) : Byd (lmM M) := by
  unfold lmM
  split
  · exact h.fm hW hf hl
  · split
    · exact h
    · split
      · exact (h.cntK 2).fm (cntK_wel hW 2) (cntK_calm hf 2) (by rw [(cntK_same M 2).2.2.1]; exact hl)
      · exact h.cntK 2
theorem Wel.fm {M : SM} {c : Nat} (hW : Wel M c) (hf : M.fails = false) (hl : 2 ≤ M.limit) : Wel (fmM M) (c + 3) := by
  have l1 := jgrM_len hf hl
  exact ((hW.jgr (n := 2)).wr (i := 1) (bs := mpage fm0 M.size) (by omega)).sync
theorem Wel.lm {M : SM} {c : Nat} (hW : Wel M c) (hf : M.fails = false) (hl : 2 ≤ M.limit) : Wel (lmM M) (c + 5) := by
  unfold lmM
  split
  · exact (hW.fm hf hl).mono (by omega)
  · split
    · exact hW.mono (by omega)
    · split
      · exact ((cntK_wel hW 2).fm (cntK_calm hf 2) (by rw [(cntK_same M 2).2.2.1]; exact hl)).mono (by omega)
      · exact (cntK_wel hW 2).mono (by omega)
theorem fm_calm {M : SM} (hf : M.fails = false) : (fmM M).fails = false := sync_calm (wr_calm (jgrM_calm hf 2) _ _)
theorem lm_calm {M : SM} (hf : M.fails = false) : (lmM M).fails = false := by
  unfold lmM
  split
  · exact fm_calm hf
  · split
    · exact hf
    · split
      · exact fm_calm (cntK_calm hf 2)
      · exact cntK_calm hf 2
theorem fm_same (M : SM) : (fmM M).size = M.size ∧ (fmM M).limit = M.limit := ⟨(jgrM_size M 2).1, (jgrM_size M 2).2.1⟩
theorem lm_same (M : SM) : (lmM M).size = M.size ∧ (lmM M).limit = M.limit := by
  unfold lmM
  split
  · exact fm_same M
  · split
    · exact ⟨rfl, rfl⟩
    · split
      · exact ⟨(fm_same _).1.trans (cntK_same M 2).2.1, (fm_same _).2.trans (cntK_same M 2).2.2.1⟩
      · exact ⟨(cntK_same M 2).2.1, (cntK_same M 2).2.2.1⟩
theorem fm_len {M : SM} (hf : M.fails = false) (hl : 2 ≤ M.limit) : 2 ≤ (fmM M).pg.length := by
  have l1 := jgrM_len hf hl
  unfold fmM
  show 2 ≤ (syncP _ _).length
  rw [syncP_len]
  show 2 ≤ (List.set _ _ _).length
  rw [List.length_set]
  exact l1
theorem mright_of {b : List Int} (h : mgetE b = 0) : mright (mgetM b) = true := by rw [mgetM_yes h]; exact (mget_told h).right
theorem chM_right {a b : List Int} (h : 1 ≤ (chM a b).t) : mright (chM a b) = true := by
  unfold chM at h ⊢
  split at h
  · rename_i k
    rw [if_pos k]
    exact mright_of (isOf_t k.1).1
  · rename_i k
    rw [if_neg k]
    unfold firstM at h ⊢
    split at h
    · rename_i k2
      rw [if_pos k2]
      exact mright_of (isOf_t k2).1
    · exact absurd h (by decide)
theorem lm_len {M : SM} {mt : Mt} (h : Byd M) (hf : M.fails = false) (hl : 2 ≤ M.limit) (hr : lmR M = (mt, 0)) : mt.e ≤ (lmM M).pg.length ∧ mt.e ≤ M.limit ∧ MtOk mt ∧ mright mt = true := by
  unfold lmR at hr
  unfold lmM
  split at hr
  · rename_i k
    rw [if_pos k]
    cases hr
    exact ⟨fm_len hf hl, hl, fm0_ok, by decide⟩
  · rename_i k
    rw [if_neg k]
    split at hr
    · cases hr
    · rename_i k1
      rw [if_neg k1]
      split at hr
      · rename_i k2
        rw [if_pos k2]
        cases hr
        exact ⟨fm_len (cntK_calm hf 2) (by rw [(cntK_same M 2).2.2.1]; exact hl), hl, fm0_ok, by decide⟩
      · rename_i k2
        rw [if_neg k2]
        unfold nmR at hr
        split at hr
        · rename_i k3
          cases hr
          refine ⟨?_, ?_, chM_ok (h.at (by omega)).2.1 (h.at (by omega)).2.1, chM_right k3.1⟩
          · rw [(cntK_same M 2).1]; have := k3.2; omega
          · have := k3.2; omega
        · cases hr

/-- The disk once the last meta is known. -/
def opM (M : SM) : SM := lmM (syncM M)
/-- F is the file of a disk. -/
structure OpOk (M : SM) (F : FV) : Prop where
  mt : lmR (syncM M) = (F.mt, 0)
  ch : LCh (opM M) F.mt.e F.mt.f F.ls F.ps
  nd : F.ls.Nodup
  ok : okRecsM (gatherL F.ps) F.mt = true
  st : F.st = false
theorem lmR_codes (M : SM) : (lmR M).2 = 0 ∨ lmR M = (mt0, 24) := by
  unfold lmR
  split
  · exact .inl rfl
  · split
    · exact .inr rfl
    · split
      · exact .inl rfl
      · unfold nmR; split
        · exact .inl rfl
        · exact .inr rfl
def OpenR (B d : Nat) (w : World) (M : SM) (r : Ending) (w' : World) : Prop :=
  (∃ k, k ≤ M.limit + 1 ∧ PD B w' d (cntK (opM M) k)) ∧ Dfr B w w' ∧
  ((∃ F f, OpOk M F ∧ r = .returned (.tuple #[.pointer (some ⟨f, 0, none⟩), .int .i64 0]) ∧ FileAt w.heap.size w' f d F) ∨ (r = .returned (.tuple #[.pointer none, .int .i64 24]) ∧ ∀ F, ¬ OpOk M F))

/-- The rows laid into a file's box. -/
theorem file_put {B f d base : Nat} {w : World} {mt : Mt} {la : Option Addr} {lc : Nat} {pa : Option Addr} {pc : Nat} {ls : List Nat} {ps : List Pr} {x5 x6 : Value} (hB : B ≤ f)
    (hb : w.heap[f]? = some (.cells #[.pointer (some ⟨d, 0, none⟩), .int .u64 (mt.t : Int), .int .u32 (mt.e : Int), .int .u32 (mt.m : Int), .int .u32 (mt.f : Int), x5, x6, .bool false] 121 (0, 0)))
    (hl : OwnP base w (.slice la ls.length lc) ls) (hp : POwn 266 base w (.slice pa ps.length pc) ps) (h0 : ls = [] → la = none ∧ lc = 0) :
    FileAt B ((w.setCell ⟨f, 6, none⟩ (.slice la ls.length lc)).setCell ⟨f, 5, none⟩ (.slice pa ps.length pc)) f d ⟨mt, ps, ls, false⟩ ∧ Kfr (fun x => x = some 121) 0 w ((w.setCell ⟨f, 6, none⟩ (.slice la ls.length lc)).setCell ⟨f, 5, none⟩ (.slice pa ps.length pc)) := by
  have k1 := kfr_set hb 6 (.slice la ls.length lc)
  have e1 : _ = some (Obj.cells #[.pointer (some ⟨d, 0, none⟩), .int .u64 (mt.t : Int), .int .u32 (mt.e : Int), .int .u32 (mt.m : Int), .int .u32 (mt.f : Int), x5, .slice la ls.length lc, .bool false] 121 (0, 0)) := heap_setCell_same _ f 6 _ 121 (.slice la ls.length lc) hb
  have k2 := kfr_set e1 5 (.slice pa ps.length pc)
  have e2 : _ = some (Obj.cells #[.pointer (some ⟨d, 0, none⟩), .int .u64 (mt.t : Int), .int .u32 (mt.e : Int), .int .u32 (mt.m : Int), .int .u32 (mt.f : Int), .slice pa ps.length pc, .slice la ls.length lc, .bool false] 121 (0, 0)) := heap_setCell_same _ f 5 _ 121 (.slice pa ps.length pc) e1
  have k := k1.trans k2
  refine ⟨⟨hB, pa, pc, la, lc, e2, (hp.kfr k (by simp)).prt, (hl.kfr k (by simp)).pgt, h0⟩, k⟩

set_option maxRecDepth 20000 in
set_option maxHeartbeats 8000000 in
theorem open_any {B d c : Nat} {w : World} {M : SM} (h : PD B w d M) (hW : Wel M c) (hc : c ≤ 10000) (hf : M.fails = false) (hl : 2 ≤ M.limit) (hl2 : M.limit ≤ 290) (hb : Byd M) :
    Calls Tryz.prog 11 #[.pointer (some ⟨d, 0, none⟩)] w fun r w' => OpenR B d w M r w' := by
  have hD := Lib.hid h
  have w1 := hW.sync
  have f1 := sync_calm hf
  have b1 := hb.sync hW.lin
  have K1 := Lib.hid (PD.sync h (hW.fine (by omega)) hW.lin (by have := hW.lo; omega) (by have := hW.p; have := hW.l; omega))
  rw [calm_cE hf, syX_calm hf] at K1
  have K2 := Lib.hid (fun W (k : PD B W d (syncM M)) => lastMeta_any k w1 (by omega) f1 hl (fun x hx => (b1.pg x hx).2.1))
  have w2 : Wel (opM M) (c + 6) := (w1.lm f1 hl).mono (by omega)
  have f2 : (opM M).fails = false := lm_calm f1
  have b2 : Byd (opM M) := b1.lm w1 f1 hl
  have s2 : (opM M).size = M.size ∧ (opM M).limit = M.limit := lm_same _
  rcases lmR_codes (syncM M) with e0 | e0
  · obtain ⟨mt, hmt⟩ : ∃ mt, lmR (syncM M) = (mt, 0) := ⟨_, Prod.ext rfl e0⟩
    obtain ⟨L1, L2, L3, L4⟩ := lm_len b1 f1 hl hmt
    have hE : mt.e ≤ 290 := by have : (syncM M).limit = M.limit := rfl; omega
    have HMT := Lib.hid hmt
    rw [hmt] at K2
    have KRL := Lib.hid (fun W f (k : PD B W d (opM M)) (kf : FileAt w.heap.size W f d ⟨mt, [], [], false⟩) => readLists_any (first := mt.f) k kf w2 (by omega) f2 L1 (fun x hx => (b2.pg x hx).2) L3.f ⟨rfl, rfl⟩)
    have KRR := Lib.hid (fun W R ao n c rs (hs : RSq R W (.slice ao n c) rs) => rightRecords_any W R ao n c rs mt L3 hs)
    have KRE := Lib.hid (fun W f F (k : FileAt w.heap.size W f d F) hl => frecords_any k hl)
    have hmeq : opM M = lmM (syncM M) := rfl
    rw [← hmeq] at K2
    have hml : mt.e ≤ M.limit := L2
    clear hW hf hb w1 f1 b1 w2 f2 b2 s2 hmeq e0 hmt L1 L2 h
    obtain ⟨T, e, m, fr⟩ := mt
    simp only [mtC] at K2 KRR
    by_cases hch : ∃ ls ps, LCh (opM M) e fr ls ps ∧ ls.Nodup
    · obtain ⟨ls, ps, hch, hnd⟩ := hch
      have HCH := Lib.hid hch
      have HND := Lib.hid hnd
      obtain ⟨ok, hok⟩ : ∃ ok, ok = okRecsM (gatherL ps) ⟨T, e, m, fr⟩ := ⟨_, rfl⟩
      have HOK := Lib.hid hok
      have hle : ls.length ≤ e := nodup_few e ls hnd fun x hx => (hch.range x hx).2
      clear hch hnd hok
      go_enter Tryz.func11, Tryz.ntmps11
      go_wp2_with (first
        | (go_at_call 51; ((with_reducible refine K1.out.mono ?_); rintro r w1 ⟨rfl, hd, hf⟩); have HD1 := Lib.hid hd; have HF1 := Lib.hid hf; clear hd hf)
        | (go_at_call 53; ((with_reducible refine (K2.out _ HD1.out).mono ?_); rintro r w2 ⟨rfl, hd, hf⟩); have HD2 := Lib.hid hd; have HF2 := Lib.hid (HF1.out.trans hf); clear hd hf HD1 HF1)
        | (go_at_call 54; have HQF := Lib.hid (show w.heap.size ≤ w2.heap.size + 1 by have := HF2.out.size; omega); have HT := Lib.hid (two_blocks (w := w2) rfl (a := .cells #[.int .u64 (T : Int), .int .u32 (e : Int), .int .u32 (m : Int), .int .u32 (fr : Int)] 44) (b := .cells #[.pointer (some ⟨d, 0, none⟩), .int .u64 (T : Int), .int .u32 (e : Int), .int .u32 (m : Int), .int .u32 (fr : Int), .slice none 0 0, .slice none 0 0, .bool false] 121)); have HFA := Lib.hid (show FileAt w.heap.size ((w2.alloc (.cells #[.int .u64 (T : Int), .int .u32 (e : Int), .int .u32 (m : Int), .int .u32 (fr : Int)] 44)).alloc (.cells #[.pointer (some ⟨d, 0, none⟩), .int .u64 (T : Int), .int .u32 (e : Int), .int .u32 (m : Int), .int .u32 (fr : Int), .slice none 0 0, .slice none 0 0, .bool false] 121)) (w2.heap.size + 1) d ⟨⟨T, e, m, fr⟩, [], [], false⟩ from ⟨by have := HF2.out.size; omega, none, 0, none, 0, HT.out.2.1, prt_nil _, pgt_nil _, fun _ => ⟨rfl, rfl⟩⟩); ((with_reducible refine (KRL.out _ _ (HD2.out.new HT.out.2.2) HFA.out).mono ?_); rintro r w4 hk; obtain ⟨la, lc, pa, pc, rfl, h3, h4, h5, h6⟩ := rl_yes hk HCH.out HND.out; obtain ⟨⟨k, hk, hd⟩, hf, _⟩ := hk); have HLO := Lib.hid h4; have HPO := Lib.hid h5; have HNL := Lib.hid h6; have HP3 := Lib.hid h3; clear h3 h4 h5 h6; have HD4 := Lib.hid hd; have HF4 := Lib.hid ((HF2.out.trans (dfr_new HT.out.2.2)).trans hf); have HB4 := Lib.hid (dfr_cells hf HT.out.2.1 (by decide)); have HM4 := Lib.hid (dfr_cells hf HT.out.1 (by decide)); clear hd hf HT HFA HD2 HF2; obtain ⟨c0, c1, c2, c3, c4, c5, c6, c7⟩ := fcells8 HB4.out; have fz5 := free_row HB4.out 5; have fz6 := free_row HB4.out 6))
      obtain ⟨hfi, kf⟩ := file_put (mt := ⟨T, e, m, fr⟩) HQF.out HB4.out HLO.out HPO.out HNL.out
      have HFI := Lib.hid hfi
      have HM5 := Lib.hid (kf.cells HM4.out (by simp))
      have HD5 := Lib.hid (HD4.out.kfr kf (by simp) (by simp) (by simp) (by simp))
      have HF5 := Lib.hid ((HF4.out.nset HQF.out 6 (.slice la ls.length lc)).nset HQF.out 5 (.slice pa ps.length pc))
      clear hfi kf c0 c1 c2 c3 c4 c5 c6 c7 fz5 fz6
      generalize (w4.setCell ⟨w2.heap.size + 1, 6, none⟩ (.slice la ls.length lc)).setCell ⟨w2.heap.size + 1, 5, none⟩ (.slice pa ps.length pc) = W5 at HFI HM5 HD5 HF5 ⊢
      have HMC := Lib.hid (fun w' (k : W5.grownBy w' none) => mt_cells ((k.block _ (lt_of_block HM5.out) (by simp)).trans HM5.out))
      have hps9 : ps.length ≤ 100000 := by have := HP3.out; omega
      go_region_held3 (fun w' => w'.cell? ⟨w2.heap.size, 0, none⟩ = some (.int .u64 (T : Int)) ∧ w'.cell? ⟨w2.heap.size, 1, none⟩ = some (.int .u32 (e : Int)) ∧ w'.cell? ⟨w2.heap.size, 2, none⟩ = some (.int .u32 (m : Int)) ∧ w'.cell? ⟨w2.heap.size, 3, none⟩ = some (.int .u32 (fr : Int)))
        (first | (with_reducible exact (HMC.out _ (gdrew W5))) | (with_reducible exact (HMC.out _ HG6.out)) | (with_reducible exact (HMC.out _ HG7.out)))
        (first
          | (go_at_call 32; ((with_reducible refine (KRE.out _ _ _ (HFI.out.new (gdrew W5)) hps9).mono ?_); rintro r w6 ⟨v, es, rfl, ho, he, hg⟩); have HG6 := Lib.hid (gtrans (gdrew W5) hg); have hrs := ho.rsq; rw [he] at hrs; obtain ⟨a6, c6, e6⟩ := hrs.shape; subst e6; have HO6 := Lib.hid hrs; clear ho he hg hrs)
          | (go_at_call 55; have K := KRR.out w6 _ _ _ _ _ HO6.out; rw [← HOK.out] at K; ((with_reducible refine K.mono ?_); clear K; rintro r w7 ⟨rfl, hg⟩); have HG7 := Lib.hid (gtrans HG6.out hg); clear hg))
      cases ok
      · go_wp2
        go_ret2
        refine ⟨⟨k, by omega, HD5.out.new HG7.out⟩, HF5.out.trans (dfr_new HG7.out), .inr ⟨rfl, fun F kk => ?_⟩⟩
        have e1 := kk.mt
        rw [HMT.out] at e1
        have e2 : F.mt = ⟨T, e, m, fr⟩ := (congrArg Prod.fst e1).symm
        have e3 := kk.ch
        rw [e2] at e3
        obtain ⟨e4, e5⟩ := e3.uniq HCH.out
        have e6 := kk.ok
        rw [e5, e2, ← HOK.out] at e6
        cases e6
      · go_wp2
        go_ret2
        exact ⟨⟨k, by omega, HD5.out.new HG7.out⟩, HF5.out.trans (dfr_new HG7.out), .inl ⟨⟨⟨T, e, m, fr⟩, ps, ls, false⟩, w2.heap.size + 1, ⟨HMT.out, HCH.out, HND.out, HOK.out.symm, rfl⟩, rfl, HFI.out.new HG7.out⟩⟩
    · have HNO := Lib.hid (show ∀ F, ¬ OpOk M F from fun F k => hch ⟨F.ls, F.ps, by
        have e1 := k.mt
        rw [HMT.out] at e1
        have e2 : F.mt = ⟨T, e, m, fr⟩ := (congrArg Prod.fst e1).symm
        have := k.ch
        rw [e2] at this
        exact this, k.nd⟩)
      have HCH := Lib.hid hch
      clear hch
      go_enter Tryz.func11, Tryz.ntmps11
      go_wp2_with (first
        | (go_at_call 51; ((with_reducible refine K1.out.mono ?_); rintro r w1 ⟨rfl, hd, hf⟩); have HD1 := Lib.hid hd; have HF1 := Lib.hid hf; clear hd hf)
        | (go_at_call 53; ((with_reducible refine (K2.out _ HD1.out).mono ?_); rintro r w2 ⟨rfl, hd, hf⟩); have HD2 := Lib.hid hd; have HF2 := Lib.hid (HF1.out.trans hf); clear hd hf HD1 HF1)
        | (go_at_call 54; have HQF := Lib.hid (show w.heap.size ≤ w2.heap.size + 1 by have := HF2.out.size; omega); have HT := Lib.hid (two_blocks (w := w2) rfl (a := .cells #[.int .u64 (T : Int), .int .u32 (e : Int), .int .u32 (m : Int), .int .u32 (fr : Int)] 44) (b := .cells #[.pointer (some ⟨d, 0, none⟩), .int .u64 (T : Int), .int .u32 (e : Int), .int .u32 (m : Int), .int .u32 (fr : Int), .slice none 0 0, .slice none 0 0, .bool false] 121)); have HFA := Lib.hid (show FileAt w.heap.size ((w2.alloc (.cells #[.int .u64 (T : Int), .int .u32 (e : Int), .int .u32 (m : Int), .int .u32 (fr : Int)] 44)).alloc (.cells #[.pointer (some ⟨d, 0, none⟩), .int .u64 (T : Int), .int .u32 (e : Int), .int .u32 (m : Int), .int .u32 (fr : Int), .slice none 0 0, .slice none 0 0, .bool false] 121)) (w2.heap.size + 1) d ⟨⟨T, e, m, fr⟩, [], [], false⟩ from ⟨by have := HF2.out.size; omega, none, 0, none, 0, HT.out.2.1, prt_nil _, pgt_nil _, fun _ => ⟨rfl, rfl⟩⟩); ((with_reducible refine (KRL.out _ _ (HD2.out.new HT.out.2.2) HFA.out).mono ?_); rintro r w4 hk; obtain rfl := rl_no hk HCH.out; obtain ⟨⟨k, hk, hd⟩, hf, _⟩ := hk); have HD4 := Lib.hid hd; have HF4 := Lib.hid ((HF2.out.trans (dfr_new HT.out.2.2)).trans hf); have HB4 := Lib.hid (dfr_cells hf HT.out.2.1 (by decide)); have HM4 := Lib.hid (dfr_cells hf HT.out.1 (by decide)); clear hd hf HT HFA HD2 HF2; obtain ⟨c0, c1, c2, c3, c4, c5, c6, c7⟩ := fcells8 HB4.out; have fz5 := free_row HB4.out 5; have fz6 := free_row HB4.out 6))
      go_ret2
      have kf := (kfr_set HB4.out 6 (.slice none 0 0))
      have hb5 : _ = some (Obj.cells _ 121 (0, 0)) := heap_setCell_same _ (w2.heap.size + 1) 6 _ 121 (.slice none 0 0) HB4.out
      have kf2 := kf.trans (kfr_set hb5 5 (.slice none 0 0))
      exact ⟨⟨k, by omega, HD4.out.kfr kf2 (by simp) (by simp) (by simp) (by simp)⟩, (HF4.out.nset HQF.out 6 _).nset HQF.out 5 _, .inr ⟨rfl, HNO.out⟩⟩
  · have HNO := Lib.hid (show ∀ F, ¬ OpOk M F from fun F k => by
      have e1 := k.mt
      rw [e0] at e1
      have e2 := congrArg Prod.snd e1
      simp at e2)
    rw [e0] at K2
    have hmeq : opM M = lmM (syncM M) := rfl
    rw [← hmeq] at K2
    clear hW hf hb w1 f1 b1 w2 f2 b2 s2 hmeq e0 h
    have HM0 : Hid (mtC mt0 = #[.int .u64 0, .int .u32 0, .int .u32 0, .int .u32 0]) := Lib.hid rfl
    rw [HM0.out] at K2
    go_enter Tryz.func11, Tryz.ntmps11
    go_wp2_with (first
      | (go_at_call 51; ((with_reducible refine K1.out.mono ?_); rintro r w1 ⟨rfl, hd, hf⟩); have HD1 := Lib.hid hd; have HF1 := Lib.hid hf; clear hd hf)
      | (go_at_call 53; ((with_reducible refine (K2.out _ HD1.out).mono ?_); rintro r w2 ⟨rfl, hd, hf⟩); have HD2 := Lib.hid hd; have HF2 := Lib.hid (HF1.out.trans hf); clear hd hf HD1 HF1))
    go_ret2
    exact ⟨⟨0, by omega, HD2.out.new (World.grownBy_alloc _ _ _)⟩, HF2.out.trans (dfr_new (World.grownBy_alloc _ _ _)), .inr ⟨rfl, HNO.out⟩⟩

end Go.Proofs.YtildjdhoeilcfaaGreat

namespace Go.Proofs.YtildjdhoeilcfaaGreat
open Go.RowKit Go.Shelf Go.Maps

attribute [local go_sem] Oper.semAt_some

theorem key_u32 {key : Value} {kl : Lit} (h : keyOf Tryz.prog 42 key = some kl) : ∃ x : Nat, key = encP x ∧ kl = keyL x ∧ x < 4294967296 := by
  have hk := Tryz.underlying42
  cases key <;> simp [keyOf, hk, mapKey] at h
  rename_i q a
  obtain ⟨⟨rfl, hw⟩, rfl⟩ := h
  have h1 : IntKind.u32.max = 4294967295 := by decide
  have h2 : IntKind.u32.min = 0 := by decide
  simp only [Lit.wf, h1, h2, Bool.and_eq_true, decide_eq_true_eq] at hw
  have e : ((a.toNat : Nat) : Int) = a := by omega
  exact ⟨a.toNat, by rw [encP, e], by rw [keyL, e], by omega⟩
theorem encP_inj {x y : Nat} (h : encP x = encP y) : x = y := by
  have h1 : (x : Int) = (y : Int) := by injection h
  omega

/-- What has come of a set's pages. -/
def Come (L : List Nat) (left : Lit → Bool) (ss : List Nat) : Prop := ss.Nodup ∧ ∀ x, x ∈ ss ↔ (x ∈ L ∧ left (keyL x) = false)
theorem Come.start (L : List Nat) : Come L (Maps.has (setD L)) [] := ⟨List.nodup_nil, fun x => by rw [has_setD]; simp⟩
theorem Come.step {L ss : List Nat} {left : Lit → Bool} (h : Come L left ss) {x : Nat} (hlk : left (keyL x) = true) (hx : x ∈ L) : Come L (fun z => left z && !z.sameKey (keyL x)) (ss ++ [x]) := by
  have hnew : x ∉ ss := fun hm => by have := ((h.2 x).1 hm).2; rw [hlk] at this; cases this
  refine ⟨List.nodup_append.2 ⟨h.1, by simp, fun a ha b hb => by simp at hb; subst hb; exact fun e => hnew (e ▸ ha)⟩, fun y => ?_⟩
  show _ ↔ (y ∈ L ∧ (left (keyL y) && !(keyL y).sameKey (keyL x)) = false)
  rw [List.mem_append, h.2 y, keyL_same]
  by_cases hy : y = x
  · subst hy; simp [hx]
  · simp [hy]
theorem Come.perm {L ss : List Nat} {left : Lit → Bool} (h : Come L left ss) (hs : Srt L) (hl : ∀ kl, left kl = false) : ss.Perm L :=
  (List.perm_ext_iff_of_nodup h.1 (srt_nodup hs)).2 fun x => by rw [h.2 x, hl]; simp

set_option maxHeartbeats 1000000 in
theorem keys_any (w : World) (mb : Option Nat) : Calls Tryz.prog 257 #[.map mb] w fun r w' => r = .returned (.func (.func 276) #[] #[.pointer (some ⟨w.heap.size, 0, none⟩)]) ∧ w' = w.alloc (.cells #[.map mb] 157) := by
  go_enter Tryz.func257, Tryz.ntmps257
  go_wp2
  go_ret
  exact ⟨rfl, rfl⟩

set_option maxRecDepth 100000 in
set_option maxHeartbeats 2000000 in
theorem keys1_in (n : Nat) (hn : 1 ≤ n) (l Bm b : Nat) (L : List Nat) (J Jx : List Nat → World → Prop)
    (hY : ∀ pre x W, J pre W → pre.length < L.length → YieldAt Fence.wide (n - 1) Tryz.prog l #[encP x] W fun e W' =>
      (e = .returned (.bool true) ∧ J (pre ++ [x]) W' ∧ KeepsWalks W W') ∨ (e = .returned (.bool false) ∧ Jx (pre ++ [x]) W'))
    (W : World) (hJ : AbidesFrom W.heap.size J) (hm : W.cell? ⟨Bm, 0, none⟩ = some (.map (some b))) (hS : SetAt W b L) (h0 : J [] W) :
    CallsIn Fence.wide n Tryz.prog 276 #[.func (.yield l) #[] #[], .pointer (some ⟨Bm, 0, none⟩)] W fun e W' => (∃ v, e = .returned v) ∧
      ((∃ ss : List Nat, ss.Perm L ∧ J ss W') ∨ (∃ pre : List Nat, True ∧ Jx pre W')) := by
  have hown := hS.1
  refine callsIn_of_wp Tryz.func276 rfl trivial ?_ rfl
  simp only [Tryz.ntmps276, List.size_toArray, List.length_cons, List.length_nil, Nat.reduceAdd, Nat.reduceSub, Array.replicate_succ, Array.replicate_zero, List.push_toArray, List.append_toArray, List.nil_append, List.cons_append]
  gi_wp2_with (first
    | (gi_at_range; refine wpListIn_range_own _ rfl _ 157 rfl 42 97 lawP Tryz.underlying157 _ b L.length _ rfl hown ?_; intro w0 hrg0 hg0 hs0)
    | gi_in)
  go_frame
  gi_loopw [3] (fun _ wr => ∃ (left : Lit → Bool) (cnt : Nat) (ss : List Nat), wr.ranges Tryz.prog 42 (unitElem (H := Unit)) b W.heap.size L.length (setD L) left cnt ∧ ss.length + cnt ≤ L.length ∧ Come L left ss ∧ J ss wr)
    (fun _ wr => wr.rangeLeft b W.heap.size)
  case atStart =>
    exact ⟨_, _, [], hrg0, by rw [size_setD]; simp, Come.start L, hJ [] W w0 none h0 hg0 (fun r e => by cases e)⟩
  case round =>
    obtain ⟨left, cnt, ss, hrg, hcs, hC, hJs⟩ := hrel
    gi_wp2_with (first
      | (gi_at_next; refine wpListIn_next_ranges _ rfl _ rfl 42 lawP (unitElem (H := Unit)) encP id (fun key kl hk => by obtain ⟨x, hx, _⟩ := key_u32 hk; exact ⟨x, hx⟩) (fun v _ _ => ⟨v, rfl⟩) b W.heap.size L.length _ _ _ rfl hrg ?_ ?_)
      | gi_in)
    · intro hc0 hl0
      gi_wp2
      go_end0
      exact ⟨⟨_, rfl⟩, .inl ⟨ss, hC.perm hS.2.1 hl0, hJs⟩⟩
    · intro x c kl yd yp w2 cnt2 hkey hlk hv hat hrg2 hlt hg2 hs2 hen
      obtain ⟨x', ex, rfl, _⟩ := key_u32 hkey
      obtain rfl : x = x' := encP_inj ex
      have hJ2 : J ss w2 := hJ ss wr w2 (some W.heap.size) hJs hg2 (fun r e => by cases e; exact ⟨Nat.le_refl _, hrg.iter_walk⟩)
      obtain ⟨fn, tmps, assign, body, hy, hR⟩ := hY ss x w2 hJ2 (by omega)
      have hxL : x ∈ L := by
        have h1 := has_true_of_atKey hat
        rw [has_setD] at h1
        simpa using h1
      have hC2 := hC.step hlk hxL
      clear hs2
      gi_wp2
      refine hR.mono ?_
      rintro e W3 (⟨rfl, hJ3, hk3⟩ | ⟨rfl, hJx3⟩)
      · gi_wp2
        have hrg3 := hrg2.of_walks hk3
        go_roundw
        case rel => exact ⟨_, cnt2, ss ++ [x], hrg3, by simp; omega, hC2, hJ3⟩
        case measure => rw [hrg3.left_eq, hrg.left_eq]; exact hlt
      · gi_wp2
        refine bodyPost_ret (results_none rfl _ _ _) rfl ?_
        exact ⟨⟨_, rfl⟩, .inr ⟨ss ++ [x], trivial, hJx3⟩⟩

theorem keys_stops (n : Nat) (hn : 1 ≤ n) (Bm b : Nat) (L : List Nat) (w : World) (hm : w.cell? ⟨Bm, 0, none⟩ = some (.map (some b))) (hS : SetAt w b L) :
    SeqStopsK Fence.wide n Tryz.prog 276 #[.pointer (some ⟨Bm, 0, none⟩)] (fun x : Nat => #[encP x]) KeepsWalks (fun ss => ss.Perm L) (fun _ => True) L.length w := fun l J Jx W hW hJ _ hY h0 =>
  keys1_in n hn l Bm b L J Jx hY W hJ ((hW.cell (p := ⟨Bm, 0, none⟩) (World.block_lt_of_cell? _ _ hm)).trans hm) (hS.kept (hW.block b hS.lt)) h0

end Go.Proofs.YtildjdhoeilcfaaGreat

namespace Go.Proofs.YtildjdhoeilcfaaGreat
open Go.RowKit Go.Shelf Go.Maps

attribute [local go_sem] Oper.semAt_some

set_option maxRecDepth 100000 in
set_option maxHeartbeats 4000000 in
theorem appendSeq_any (w : World) (Bm b : Nat) (L : List Nat) (hm : w.cell? ⟨Bm, 0, none⟩ = some (.map (some b))) (hS : SetAt w b L) (hL : L.length ≤ 100000) :
    Calls Tryz.prog 234 #[.slice none 0 0, .func (.func 276) #[] #[.pointer (some ⟨Bm, 0, none⟩)]] w fun r w' => ∃ v ss, r = .returned v ∧ List.Perm ss L ∧ OwnP w.heap.size w' v ss ∧ w.grownBy w' none := by
  obtain ⟨i0, hi, hz0, hz1, hz2⟩ := info_parts infoPg
  have HSt := Lib.hid (keys_stops (5 - 1) (by decide) Bm b L (w.alloc (.cells #[.slice none 0 0] 31)) (cell_alloc hm) (hS.grown (World.grownBy_alloc _ _ _)))
  have h32 := hS.2.2
  have H32 := Lib.hid h32
  have hb0 := heap_alloc_new w (.cells #[.slice none 0 0] 31 (0, 0))
  have hB0 : Below w.heap.size w (w.alloc (.cells #[.slice none 0 0] 31)) := (Below.refl _ w).alloc (Nat.le_refl _) _
  have hsz : (w.alloc (.cells #[.slice none 0 0] 31)).heap.size = w.heap.size + 1 := by simp
  clear hm hS h32
  refine (callsIn_wide (n := 5)).1 ?_
  refine callsIn_of_wp_marks Tryz.func234 rfl trivial ?_ rfl
  simp only [Tryz.ntmps234, List.size_toArray, List.length_cons, List.length_nil, Nat.reduceAdd, Nat.reduceSub, Array.replicate_succ, Array.replicate_zero, List.push_toArray, List.append_toArray, List.nil_append, List.cons_append]
  gi_wp2
  generalize w.alloc (.cells #[.slice none 0 0] 31) = W0 at *
  obtain ⟨g, hg⟩ : ∃ g, g = w.heap.size := ⟨_, rfl⟩
  rw [← hg] at hb0 hsz hB0 ⊢
  have HG := Lib.hid hg
  clear hg
  refine wpIn_rangeFunc_ownG rfl (by decide : 1 ≤ 5) (gf := 276) (lb := #[.pointer (some ⟨Bm, 0, none⟩)]) rfl trivial (enters_of Tryz.func276 (by kernel_rfl) rfl)
    HSt.out walksK_t walksK_b (Below.refl _ _) (fun _ => rfl)
    (fun pre W => (∃ v, Boxed W g 31 v ∧ W.ownsRow g 42 1 v pre.length (pre.map encP) ∧ g + 1 ≤ W.heap.size) ∧ Below g w W)
    (fun _ _ _ => False)
    (OwnFrom.and (fun s X Y row ⟨v, hv, ho, hz⟩ hgy hr => ⟨v, hv.kept hgy (fun e => by obtain ⟨_, q, hq, hc⟩ := hr g e.symm; rw [show X.heap[g]? = _ from hv] at hq; cases hq; cases hc), ho.kept hgy (by
        rcases ho.2 with ⟨hv', _⟩ | ⟨g2, cap, cur, hv', _, hgb, _⟩
        · rw [hv']; exact .inl rfl
        · right
          rw [hv']
          intro e
          obtain ⟨_, q, hq, hc⟩ := hr g2 e.symm
          rw [hgb] at hq; cases hq; cases hc), Nat.le_trans hz hgy.size⟩) (ownFrom_below (by rw [HG.out]; exact Nat.le_refl _) (by omega)))
    (fun _ _ _ _ _ hs _ _ => hs)
    ⟨⟨.slice none 0 0, hb0, World.ownsRow_nil _ _ _ _, by omega⟩, hB0⟩
    (fun x => { tmps := #[.slice none 0 0, .func (.func 276) #[] #[.pointer (some ⟨Bm, 0, none⟩)], .pointer (some ⟨g, 0, none⟩), undef, .slice none 0 0, encP x, .func (.func 276) #[] #[.pointer (some ⟨Bm, 0, none⟩)], encP x, undef, undef, undef, undef, undef], defers := [] }) ?assign ?body ?done ?stop
  case assign =>
    intro l x W K hK
    gi_wp2
    exact hK
  case body =>
    rintro l pre x W ⟨⟨v, hv, ho, hWz⟩, hBw⟩ hlt
    have hc0 := hv.cell
    have hpl : pre.length ≤ 100000 := by omega
    gi_wp2_with (first
      | (gi_at_builtin; refine wpListIn_append_own _ rfl _ _ 31 rfl g 42 i0 (.int .u32 0) 1 4 Tryz.underlying31 hi hz0 hz1 hz2 rfl (by decide) _ _ _ rfl (ho.alloc _) ⟨W.heap.size, 0, none⟩ 1 1 [encP x] rfl rfl (cell_one_new _ _ _) (by simp [Value.oneCell', encP]) (by unfold maxLen; omega) (by omega) (by simp; omega) ?_; intro v' w1 hown' hgrow _; obtain ⟨g', cap', rfl⟩ := ownsRow_succ hown'; obtain ⟨hv1, hv2, hr2, hk2, hb2⟩ := hv.appended (by decide) ho (by omega) (Nat.le_refl g) hown' hgrow; have hc1 := hv1.cell; have hf1 := hv1.frozen; clear hown' hgrow))
    exact ⟨hk2.from _, KeepsOthers.walks hk2, ⟨⟨_, hv2, by simpa using hr2, by have := hk2.size; omega⟩, hBw.trans hb2⟩⟩
  case done =>
    rintro D ys W hD hperm ⟨⟨v, hv, ho, hWz⟩, hBw⟩ hK
    have hc := hv.cell
    have hgD : g ≤ D := by omega
    have hpo : (W.putObj D (.deferred none)).ownsRow g 42 1 v ys.length (ys.map encP) := ho.kept (grownBy_putObj' W D (.deferred none)) (by
      rcases ho.2 with ⟨hv', _⟩ | ⟨g2, cap, cur, hv', _, hgb, _⟩
      · rw [hv']; exact .inl rfl
      · right
        rw [hv']
        intro e
        have : g2 = D := by simpa [Value.ownBlock] using e
        subst this
        rw [hgb] at hK; cases hK)
    have hbl := hBw.trans (belowK_b (w := w) (by rw [HG.out]; exact Nat.le_refl _) W D _ (.deferred none) (by rw [← HG.out]; exact hgD) hK rfl rfl)
    rw [HG.out] at hbl hpo
    have hgr := gof hbl none
    gi_wp2
    refine ⟨by simp, .inl ⟨_, _, rfl, run_takeDeferred hK, ?_⟩⟩
    exact ⟨_, results_tmp rfl _ _ _, v, ys, rfl, hperm, ⟨hpo, fun p hp => H32.out p (hperm.mem_iff.1 hp)⟩, hgr⟩
  case stop =>
    rintro D c pre W _ _ h _
    exact h.elim

set_option maxHeartbeats 1000000 in
theorem collect_any (w : World) (Bm b : Nat) (L : List Nat) (hm : w.cell? ⟨Bm, 0, none⟩ = some (.map (some b))) (hS : SetAt w b L) (hL : L.length ≤ 100000) :
    Calls Tryz.prog 193 #[.func (.func 276) #[] #[.pointer (some ⟨Bm, 0, none⟩)]] w fun r w' => ∃ v ss, r = .returned v ∧ List.Perm ss L ∧ OwnP w.heap.size w' v ss ∧ w.grownBy w' none := by
  go_enter Tryz.func193, Tryz.ntmps193
  go_wp2_with (first
    | (go_at_call 234; (with_reducible refine (appendSeq_any w Bm b L hm hS hL).mono ?_); rintro r w1 ⟨v, ss, rfl, hp, ho, hg⟩; have HP := Lib.hid hp; have HO := Lib.hid ho; have HG := Lib.hid hg; clear hp ho hg))
  go_ret
  exact ⟨v, ss, rfl, HP.out, HO.out, HG.out⟩

end Go.Proofs.YtildjdhoeilcfaaGreat

/-
  Layer 11: commit. Own work.
-/
import Derived.Test.YtildjdhoeilcfaaGreatPgrBD
import Derived.Deep.CutBlock

namespace Go.Proofs.YtildjdhoeilcfaaGreat
open Go.RowKit Go.Maps

theorem FileAt.disk {B f d : Nat} {w : World} {F : FV} (h : FileAt B w f d F) : w.cell? ⟨f, 0, none⟩ = some (.pointer (some ⟨d, 0, none⟩)) := by
  obtain ⟨_, _, _, _, hb, _⟩ := h.cells8
  exact (fcells8 hb).1
theorem FileAt.stuck7 {B f d : Nat} {w : World} {F : FV} (h : FileAt B w f d F) : w.cell? ⟨f, 7, none⟩ = some (.bool F.st) ∧ w.frozen? ⟨f, 7, none⟩ = false := by
  obtain ⟨_, _, _, _, hb, _⟩ := h.cells8
  exact ⟨(fcells8 hb).2.2.2.2.2.2.2, by simp [World.frozen?, hb]⟩
theorem FileAt.stick {B f d : Nat} {w : World} {F : FV} (h : FileAt B w f d F) : FileAt B (w.setCell ⟨f, 7, none⟩ (.bool true)) f d { F with st := true } ∧ Kfr (fun t => t = some 121) 0 w (w.setCell ⟨f, 7, none⟩ (.bool true)) := by
  obtain ⟨hB, pa, pc, la, lc, hb, hp, hl, h0⟩ := h
  have k := kfr_set hb 7 (.bool true)
  exact ⟨⟨hB, pa, pc, la, lc, heap_setCell_same w f 7 _ _ _ hb, hp.kfr k (by simp), hl.kfr k (by simp), h0⟩, k⟩
abbrev setF (W : World) (q : Nat) (a b c d e f : Value) : World := (((((W.setCell ⟨q, 1, none⟩ a).setCell ⟨q, 2, none⟩ b).setCell ⟨q, 3, none⟩ c).setCell ⟨q, 4, none⟩ d).setCell ⟨q, 5, none⟩ e).setCell ⟨q, 6, none⟩ f
theorem storeF {W : World} {q : Nat} {x0 x1 x2 x3 x4 x5 x6 x7 : Value} {t : TypeId} (h : W.heap[q]? = some (.cells #[x0, x1, x2, x3, x4, x5, x6, x7] t (0, 0))) (a b c d e f : Value) :
    (setF W q a b c d e f).heap[q]? = some (.cells #[x0, a, b, c, d, e, f, x7] t (0, 0)) ∧ Kfr (fun x => x = some t) 0 W (setF W q a b c d e f) := by
  have h1 : _ = some (Obj.cells #[x0, a, x2, x3, x4, x5, x6, x7] t (0, 0)) := heap_setCell_same _ q 1 _ t a h
  have h2 : _ = some (Obj.cells #[x0, a, b, x3, x4, x5, x6, x7] t (0, 0)) := heap_setCell_same _ q 2 _ t b h1
  have h3 : _ = some (Obj.cells #[x0, a, b, c, x4, x5, x6, x7] t (0, 0)) := heap_setCell_same _ q 3 _ t c h2
  have h4 : _ = some (Obj.cells #[x0, a, b, c, d, x5, x6, x7] t (0, 0)) := heap_setCell_same _ q 4 _ t d h3
  have h5 : _ = some (Obj.cells #[x0, a, b, c, d, e, x6, x7] t (0, 0)) := heap_setCell_same _ q 5 _ t e h4
  have h6 : _ = some (Obj.cells #[x0, a, b, c, d, e, f, x7] t (0, 0)) := heap_setCell_same _ q 6 _ t f h5
  exact ⟨h6, (((((kfr_set h 1 a).trans (kfr_set h1 2 b)).trans (kfr_set h2 3 c)).trans (kfr_set h3 4 d)).trans (kfr_set h4 5 e)).trans (kfr_set h5 6 f)⟩
theorem FileAt.taken {B f d : Nat} {w : World} {F : FV} {ps : List Pr} {ls : List Nat} {pa la : Option Addr} {pc lc : Nat} (h : FileAt B w f d F) (m : Mt) (hp : PrT w (.slice pa ps.length pc) ps) (hl : PgT w (.slice la ls.length lc) ls) (h0 : ls = [] → la = none ∧ lc = 0) :
    FileAt B (setF w f (.int .u64 (m.t : Int)) (.int .u32 (m.e : Int)) (.int .u32 (m.m : Int)) (.int .u32 (m.f : Int)) (.slice pa ps.length pc) (.slice la ls.length lc)) f d ⟨m, ps, ls, F.st⟩ ∧
      Kfr (fun t => t = some 121) 0 w (setF w f (.int .u64 (m.t : Int)) (.int .u32 (m.e : Int)) (.int .u32 (m.m : Int)) (.int .u32 (m.f : Int)) (.slice pa ps.length pc) (.slice la ls.length lc)) := by
  obtain ⟨hB, _, _, _, _, hb, _⟩ := h
  obtain ⟨e, k⟩ := storeF hb (.int .u64 (m.t : Int)) (.int .u32 (m.e : Int)) (.int .u32 (m.m : Int)) (.int .u32 (m.f : Int)) (.slice pa ps.length pc) (.slice la ls.length lc)
  exact ⟨⟨hB, pa, pc, la, lc, e, hp.kfr k (by simp), hl.kfr k (by simp), h0⟩, k⟩
theorem kfile_up {B f d : Nat} {w w' : World} {F : FV} (h : FileAt B w f d F) (g : w.grownBy w' (some f)) : Kfr KC B w w' := Kfr.row g h.lt.1 (.inr (.inr h.lt.2.2))
theorem setF_grown (W : World) (q : Nat) (a b c d e f : Value) : W.grownBy (setF W q a b c d e f) (some q) := gtrans (gtrans (gtrans (gtrans (gtrans (gset W ⟨q, 1, none⟩ a) (gset _ ⟨q, 2, none⟩ b)) (gset _ ⟨q, 3, none⟩ c)) (gset _ ⟨q, 4, none⟩ d)) (gset _ ⟨q, 5, none⟩ e)) (gset _ ⟨q, 6, none⟩ f)
theorem FileAt.six {B f d : Nat} {w : World} {F : FV} (h : FileAt B w f d F) : ∃ c1 c2 c3 c4 c5 c6, (w.cell? ⟨f, 1, none⟩ = some c1 ∧ w.cell? ⟨f, 2, none⟩ = some c2 ∧ w.cell? ⟨f, 3, none⟩ = some c3 ∧ w.cell? ⟨f, 4, none⟩ = some c4 ∧ w.cell? ⟨f, 5, none⟩ = some c5 ∧ w.cell? ⟨f, 6, none⟩ = some c6) ∧
    w.frozen? ⟨f, 1, none⟩ = false ∧ w.frozen? ⟨f, 2, none⟩ = false ∧ w.frozen? ⟨f, 3, none⟩ = false ∧ w.frozen? ⟨f, 4, none⟩ = false ∧ w.frozen? ⟨f, 5, none⟩ = false ∧ w.frozen? ⟨f, 6, none⟩ = false := by
  obtain ⟨_, _, _, _, hb, _⟩ := h.cells8
  obtain ⟨_, a1, a2, a3, a4, a5, a6, _⟩ := fcells8 hb
  refine ⟨_, _, _, _, _, _, ⟨a1, a2, a3, a4, a5, a6⟩, ?_, ?_, ?_, ?_, ?_, ?_⟩ <;> simp [World.frozen?, hb]
theorem cm_a {T : TV} {M : SM} {mt : Mt} (h : ¬ (dwM T M).2 = 0) : cmR T M mt = ((dwM T M).1, 1) := if_neg h
theorem cm_b {T : TV} {M M1 : SM} {mt : Mt} (h : dwM T M = (M1, 0)) (h1 : ¬ cE M1.fails M1.ahead = 0) : cmR T M mt = (cntM M1, 1) := by
  unfold cmR; rw [h]; exact (if_pos rfl).trans (if_neg h1)
theorem cm_c {T : TV} {M M1 : SM} {mt : Mt} (h : dwM T M = (M1, 0)) (h1 : cE M1.fails M1.ahead = 0) (h2 : ¬ cE (syncM M1).fails (syncM M1).ahead = 0) : cmR T M mt = (cntM (syncM M1), 1) := by
  unfold cmR; rw [h]; exact (if_pos rfl).trans ((if_pos h1).trans (if_neg h2))
theorem cm_d {T : TV} {M M1 : SM} {mt : Mt} (h : dwM T M = (M1, 0)) (h1 : cE M1.fails M1.ahead = 0) (h2 : cE (syncM M1).fails (syncM M1).ahead = 0)
    (h3 : ¬ cE (wrM (syncM M1) (mt.t % 2) (mpage mt M.size)).fails (wrM (syncM M1) (mt.t % 2) (mpage mt M.size)).ahead = 0) : cmR T M mt = (cntM (wrM (syncM M1) (mt.t % 2) (mpage mt M.size)), 2) := by
  unfold cmR; rw [h]; exact (if_pos rfl).trans ((if_pos h1).trans ((if_pos h2).trans (if_neg h3)))
theorem cm_e {T : TV} {M M1 : SM} {mt : Mt} (h : dwM T M = (M1, 0)) (h1 : cE M1.fails M1.ahead = 0) (h2 : cE (syncM M1).fails (syncM M1).ahead = 0)
    (h3 : cE (wrM (syncM M1) (mt.t % 2) (mpage mt M.size)).fails (wrM (syncM M1) (mt.t % 2) (mpage mt M.size)).ahead = 0) : cmR T M mt = (syncM (wrM (syncM M1) (mt.t % 2) (mpage mt M.size)), 0) := by
  unfold cmR; rw [h]; exact (if_pos rfl).trans ((if_pos h1).trans ((if_pos h2).trans (if_pos h3)))
theorem commitR_of {B f d x S Mr O : Nat} {w w' : World} {F : FV} {T1 : TV} {M : SM} {main : Nat} {r : Ending} {sp : Sp} {l : List Nat} {TP : TV} {v : SM × Nat} (hk : Kfr KC B w w') (t1 : TakeTo S ((O : Int) - (T1.sp.us.length : Int)) T1.sp [] sp l) (t2 : ¬ ((l.length : Int) < manyF ((O : Int) - (T1.sp.us.length : Int) + (sp.us.length : Int)) (S : Int)))
    (hT : TP = putT { T1 with sp := sp } l (flatR (recsM sp T1.n)) Mr S l.length) (hv : cmR TP M ⟨T1.n, sp.en, main, aftL l 0⟩ = v) (hp : PD B w' d v.1) (hr : r = .returned (.int .i64 (if v.2 = 0 then 0 else 20)))
    (hf : FileAt B w' f d (if v.2 = 0 then ⟨⟨T1.n, sp.en, main, aftL l 0⟩, flatR (recsM sp T1.n), l, F.st⟩ else if v.2 = 1 then F else { F with st := true })) : CommitR B f d x S Mr O w F T1 M main r w' := by
  subst hT
  subst hv
  exact ⟨hk, .inl ⟨sp, l, t1, t2, hp, hr, hf⟩⟩

set_option maxRecDepth 20000 in
set_option maxHeartbeats 8000000 in
theorem commit_any {B f d x S Mr c main : Nat} {w : World} {F : FV} {T T1 : TV} {M : SM} (hF : FileAt B w f d F) (hD : DraftAt B w x S T) (hd : PD B w d M) (hW : Wel M c) (hS : M.size = S) (hMr : (Mr : Int) = roomI (S : Int)) (hfr : frAll T F.ls = (T1, 0))
    (hf : Few T1.sp T1.n) (hk : TkOk T1.sp) (hK : T1.K.length ≤ 100000) (hn : T.n < 18446744073709551616) (hmain : main < 4294967296)
    (hc : ∀ sp l, TakeTo S (((flatR (recsM T1.sp T1.n)).length : Int) - (T1.sp.us.length : Int)) T1.sp [] sp l → ¬ ((l.length : Int) < manyF (((flatR (recsM T1.sp T1.n)).length : Int) - (T1.sp.us.length : Int) + (sp.us.length : Int)) (S : Int)) → ClOk S T1 sp l ∧ WrOk c S Mr T1 M main sp l) :
    Calls Tryz.prog 63 #[.pointer (some ⟨f, 0, none⟩), .pointer (some ⟨x, 0, none⟩), .int .u32 (main : Int)] w fun r w' => CommitR B f d x S Mr (flatR (recsM T1.sp T1.n)).length w F T1 M main r w' := by
  have s1 : 512 ≤ S := by have := hW.s1; omega
  have s2 : S ≤ 4096 := by have := hW.s2; omega
  have HFF := Lib.hid hF
  have HPD := Lib.hid hd
  have HW := Lib.hid hW
  have HSZ := Lib.hid hS
  have HWR := Lib.hid (fun sp l a b => (hc sp l a b).2)
  go_enter Tryz.func63, Tryz.ntmps63
  go_upto_region 1 with (fail)
  refine com1_any (c := c) (main := main) hF hD hd hW hS hMr hfr hf hk hK hn hmain hc _ _ _ _ _ _ _ _ _ _ _ _ _ _ _ _ _ _ _ _ _ _ _ _ _ _ _ _ _ _ _ _ _ _ _ _ _ _ _ _ _ _ _ _ _ _ _ _ _ _ _ _ _ _ _ _ _ _ _ _ _ _ _ _ _ _ _ _ _ _ _ _ _ _ _ (fun x13 x14 x15 x16 x17 x18 x19 x20 x21 x22 x23 x24 q a b c3 e qa qn qc ka kn kc wx hq hqn hkx hcl => ?_)
  have HQ := Lib.hid hq
  have HKX := Lib.hid hkx
  have HF1 := Lib.hid (HFF.out.kfr hkx (not_KS (by decide)) (not_KS (by decide)) (not_KS (by decide)))
  have HP1 := Lib.hid (HPD.out.kfr hkx (not_KS (by decide)) (not_KS (by decide)) (not_KS (by decide)) (not_KS (by decide)))
  obtain ⟨⟨q0, q1, q2, q3, q4, q5⟩, z0, z1, z2, z3, z4, z5⟩ := cells6' hq
  clear hF hD hd hW hS hMr hfr hf hk hK hn hc hq hkx
  rcases hcl with ⟨e0, sp, l, e1, e2, e3, e4, e5, t1, t2, t3, t4, t5, t6⟩ | ⟨e0, sp, l, t1, t2⟩
  · subst e0 e1 e2 e3
    have HWO := Lib.hid (HWR.out sp l t1 t2)
    have HT1 := Lib.hid t1
    have HT2 := Lib.hid t2
    have HO3 := Lib.hid t3
    have HO4 := Lib.hid t4
    have HO5 := Lib.hid t5
    obtain ⟨TP, hTP⟩ : ∃ TP, TP = putT { T1 with sp := sp } l (flatR (recsM sp T1.n)) Mr S l.length := ⟨_, rfl⟩
    have hsp : TP.sp = sp := by rw [hTP]; exact (putT_same _ _ _ _ _ _).2
    have HTP := Lib.hid hTP
    have hcnt := HWO.out.cnt
    have hKe := HWO.out.K
    have hen := HWO.out.en
    rw [← hTP] at hcnt hKe t6
    have HDX := Lib.hid (t6.kfr (kfr_set HQ.out 2 (.int .u32 (main : Int))) (by simp) (by simp) (by simp) (by simp) (by simp) (by simp))
    have HF2 := Lib.hid (HF1.out.kfr (kfr_set HQ.out 2 (.int .u32 (main : Int))) (by simp) (by simp) (by simp))
    have HP2 := Lib.hid (HP1.out.kfr (kfr_set HQ.out 2 (.int .u32 (main : Int))) (by simp) (by simp) (by simp) (by simp))
    have HO6 := Lib.hid (HO3.out.kfr (kfr_set HQ.out 2 (.int .u32 (main : Int))) (by simp))
    have HO7 := Lib.hid (HO4.out.kfr (kfr_set HQ.out 2 (.int .u32 (main : Int))) (by simp))
    have HK1 := Lib.hid ((HKX.out.imp fun _ => ks_kc).nset hqn 2 (.int .u32 (main : Int)))
    have hq1 : (wx.setCell ⟨q, 2, none⟩ (.int .u32 (main : Int))).heap[q]? = some (.cells #[.int .u64 (T1.n : Int), .int .u32 (sp.en : Int), .int .u32 (main : Int), .int .u32 ((aftL l 0 : Nat) : Int), .slice qa qn qc, .slice ka kn kc] 119 (0, 0)) := heap_setCell_same wx q 2 _ _ (.int .u32 (main : Int)) HQ.out
    have HQ1 := Lib.hid hq1
    clear hq1
    clear t1 t2 t3 t4 t5 t6 hTP
    go_upto_region 5 with (fail)
    generalize wx.setCell ⟨q, 2, none⟩ (.int .u32 (main : Int)) = w1 at HDX HF2 HP2 HO6 HO7 HK1 HQ1 ⊢
    have HDW := Lib.hid (dwrite_any (c := c) HDX.out HP2.out HSZ.out HW.out (by omega) (by rw [hsp]; exact hen) (by rw [hsp]; exact hKe))
    have HKP := Lib.hid (fun h => dw_keep (T := TP) HW.out (by rw [hsp]; exact hKe) h)
    have HEN := Lib.hid (show TP.sp.en = sp.en by rw [hsp])
    have hd1 := HF2.out.disk
    rcases dw_codes (T := TP) (M := M) (by rw [hsp]; exact hen) with h0 | h0
    · have hM1 := HKP.out h0
      obtain ⟨M1, hM1e⟩ : ∃ M1, dwM TP M = (M1, 0) := ⟨(dwM TP M).1, Prod.ext rfl h0⟩
      rw [hM1e] at HDW hM1
      obtain ⟨hw1, hl1, hs1, hm1⟩ := hM1
      dsimp only at hw1 hl1 hs1 hm1
      have hl2 : 2 ≤ M1.pg.length := by have := HWO.out.e2; have := HEN.out; omega
      have HM1 := Lib.hid hM1e
      have HDS := Lib.hid (fun W (k : PD B W d M1) => PD.sync k (hw1.fine (by omega)) hw1.lin (by have := hw1.lo; omega) (by have := hw1.p; have := hw1.l; omega))
      have hw2 := hw1.sync
      have HW2 := Lib.hid hw2
      have HWM := Lib.hid (fun W (k : PD B W d (syncM M1)) => writeMeta_any k (hw2.fine (by omega)) hw2.s1 hw2.s2 ⟨T1.n, sp.en, main, aftL l 0⟩ HWO.out.mo HWO.out.mr (by show _ < (syncM M1).pg.length; simp [syncM, syncP_len, cntM]; omega) (by simp [syncM]))
      have hmc : mtC ⟨T1.n, sp.en, main, aftL l 0⟩ = #[.int .u64 (T1.n : Int), .int .u32 (sp.en : Int), .int .u32 (main : Int), .int .u32 ((aftL l 0 : Nat) : Int)] := rfl
      rw [hmc] at HWM
      clear hsp hKe hmc
      rcases cE_codes M1.fails M1.ahead with g1 | g1
      · rw [g1] at HDS
        have HE1 := Lib.hid g1
        rcases cE_codes (syncM M1).fails (syncM M1).ahead with g2 | g2
        · rw [g2] at HWM
          have HE2 := Lib.hid g2
          have hw3 := hw2.wr (i := T1.n % 2) (bs := mpage ⟨T1.n, sp.en, main, aftL l 0⟩ M.size) (by show _ < (syncM M1).pg.length; simp [syncM, syncP_len, cntM]; omega)
          have hj : jwmM (syncM M1) ⟨T1.n, sp.en, main, aftL l 0⟩ = wrM (syncM M1) (T1.n % 2) (mpage ⟨T1.n, sp.en, main, aftL l 0⟩ M.size) := by
            have e : jwmM (syncM M1) ⟨T1.n, sp.en, main, aftL l 0⟩ = wrM (syncM M1) (T1.n % 2) (mpage ⟨T1.n, sp.en, main, aftL l 0⟩ (syncM M1).size) := if_pos g2
            rw [e, show (syncM M1).size = M.size from hs1]
          rw [hj] at HWM
          have HJ := Lib.hid (cm_d (mt := ⟨T1.n, sp.en, main, aftL l 0⟩) HM1.out HE1.out HE2.out)
          have HJ2 := Lib.hid (cm_e (mt := ⟨T1.n, sp.en, main, aftL l 0⟩) HM1.out HE1.out HE2.out)
          obtain ⟨M3, hM3⟩ : ∃ M3, M3 = wrM (syncM M1) (T1.n % 2) (mpage ⟨T1.n, sp.en, main, aftL l 0⟩ M.size) := ⟨_, rfl⟩
          dsimp only at HJ HJ2
          rw [← hM3] at HWM hw3 HJ HJ2
          have HDS3 := Lib.hid (fun W (k : PD B W d M3) => PD.sync k (hw3.fine (by omega)) hw3.lin (by have := hw3.lo; omega) (by have := hw3.p; have := hw3.l; omega))
          clear hj hM3
          go_upto_region 11 with (first
            | (go_at_call 106; ((with_reducible refine HDW.out.mono ?_); rintro r w2 ⟨rfl, hp, hk⟩); have HP3 := Lib.hid hp; have HK3 := Lib.hid hk; have hd2 := (HF2.out.dfr hk).disk; clear hp hk)
            | (go_at_call 51; ((with_reducible refine (HDS.out _ HP3.out).mono ?_); rintro r w3 ⟨rfl, hp, hk⟩); have HP4 := Lib.hid hp; have HK4 := Lib.hid hk; clear hp hk))
          have hf3 := (HF2.out.dfr HK3.out).dfr HK4.out
          have hq3 := (kfr_dfr HK4.out).cells ((kfr_dfr HK3.out).cells HQ1.out (not_KD' (by decide))) (not_KD' (by decide))
          have HP5 := Lib.hid (show PD B w3.drew d (syncM M1) by have := HP4.out.new (gdrew w3); rwa [show syX M1 = syncM M1 from if_pos HE1.out] at this)
          have HC3 := Lib.hid (fun W (g : Kfr KD B w3 W) => And.intro (hf3.kfr g (not_KD' (by decide)) (not_KD' (by decide)) (not_KD' (by decide))).disk (And.intro (cells6' (g.cells hq3 (not_KD' (by decide)))).1.1 (And.intro (cells6' (g.cells hq3 (not_KD' (by decide)))).1.2.1 (And.intro (cells6' (g.cells hq3 (not_KD' (by decide)))).1.2.2.1 (cells6' (g.cells hq3 (not_KD' (by decide)))).1.2.2.2.1))))
          have HF4 := Lib.hid hf3
          have HK5 := Lib.hid (((HK1.out.trans ((kfr_dfr HK3.out).imp fun _ => kd_kc)).trans ((kfr_dfr HK4.out).imp fun _ => kd_kc)))
          have HQ4 := Lib.hid hq3
          clear hf3 hq3 hd1 hd2
          go_region_held3 (fun W => W.cell? ⟨f, 0, none⟩ = some (.pointer (some ⟨d, 0, none⟩)) ∧ W.cell? ⟨q, 0, none⟩ = some (.int .u64 (T1.n : Int)) ∧ W.cell? ⟨q, 1, none⟩ = some (.int .u32 (sp.en : Int)) ∧ W.cell? ⟨q, 2, none⟩ = some (.int .u32 (main : Int)) ∧ W.cell? ⟨q, 3, none⟩ = some (.int .u32 ((aftL l 0 : Nat) : Int)))
            (first | (with_reducible exact (HC3.out _ (Kfr.of (gdrew w3)))) | (with_reducible exact (HC3.out _ HK9.out)))
            (first | (go_at_call 107; ((with_reducible refine (HWM.out _ HP5.out).mono ?_); rintro r w4 ⟨rfl, hp, hk⟩); have HP6 := Lib.hid hp; have HK6 := Lib.hid hk; have HK9 := Lib.hid ((Kfr.of (P := KD) (B := B) (gdrew w3)).trans (kfr_dfr hk)); clear hp hk))
          have HP7 := HP6
          have HF5 := Lib.hid ((HF4.out.new (gdrew w3)).dfr HK6.out)
          have HK7 := Lib.hid (HK5.out.trans (((Kfr.of (gdrew w3)).trans (kfr_dfr HK6.out)).imp fun _ => kd_kc))
          have hd5 := HF5.out.disk
          rcases cE_codes M3.fails M3.ahead with g3 | g3
          · rw [g3] at HDS3
            go_wp2_with (first
              | (go_at_call 51; ((with_reducible refine (HDS3.out _ HP6.out).mono ?_); rintro r w5 ⟨rfl, hp, hk⟩); have HP8 := Lib.hid hp; have HK8 := Lib.hid hk; have HF6 := Lib.hid (HF5.out.dfr hk); have HQ6 := Lib.hid ((kfr_dfr hk).cells (HK9.out.cells HQ4.out (not_KD' (by decide))) (not_KD' (by decide))); clear hp hk; obtain ⟨p1, p2, p3, p4, p5, p6, ⟨b1, b2, b3, b4, b5, b6⟩, y1, y2, y3, y4, y5, y6⟩ := FileAt.six HF6.out; obtain ⟨⟨r0, r1, r2, r3, r4, r5⟩, -⟩ := cells6' HQ6.out))
            go_ret
            have HK10 := Lib.hid (((kfr_dfr HK3.out).trans (kfr_dfr HK4.out)).trans (HK9.out.trans (kfr_dfr HK8.out)))
            have HO8 := HO6.out.kfr HK10.out (not_KD' (by decide))
            have HO9 := HO7.out.kfr HK10.out (not_KD' (by decide))
            obtain ⟨k1, k2⟩ := FileAt.taken HF6.out ⟨T1.n, sp.en, main, aftL l 0⟩ (e4 ▸ HO8.prt) (e5 ▸ HO9.pgt) HO5.out
            exact commitR_of ((HK7.out.trans ((kfr_dfr HK8.out).imp fun _ => kd_kc)).trans (kfile_up HF6.out (setF_grown _ _ _ _ _ _ _ _))) HT1.out (Int.not_lt.2 HT2.out) HTP.out (HJ2.out g3) (by have := HP8.out; rw [show syX M3 = syncM M3 from if_pos g3] at this; exact this.kfr k2 (by simp) (by simp) (by simp) (by simp)) rfl k1
          · rw [g3] at HDS3
            have HE3 := Lib.hid (show ¬ cE M3.fails M3.ahead = 0 by rw [g3]; decide)
            go_wp2_with (first
              | (go_at_call 51; ((with_reducible refine (HDS3.out _ HP6.out).mono ?_); rintro r w5 ⟨rfl, hp, hk⟩); have HP8 := Lib.hid hp; have HK8 := Lib.hid hk; have HF6 := Lib.hid (HF5.out.dfr hk); clear hp hk; obtain ⟨u0, u1⟩ := FileAt.stuck7 HF6.out)
              | (go_at_call 52; ((with_reducible refine (diskError_as 20 20 (by decide) _).mono ?_); rintro r w6 ⟨rfl, rfl⟩)))
            go_ret
            obtain ⟨k1, k2⟩ := FileAt.stick HF6.out
            exact commitR_of ((HK7.out.trans ((kfr_dfr HK8.out).imp fun _ => kd_kc)).trans (kfile_up HF6.out (gset _ ⟨f, 7, none⟩ _))) HT1.out (Int.not_lt.2 HT2.out) HTP.out (HJ.out HE3.out) (by have := HP8.out; rw [show syX M3 = cntM M3 from if_neg HE3.out] at this; exact this.kfr k2 (by simp) (by simp) (by simp) (by simp)) rfl k1
        · rw [g2] at HWM
          have HE2 := Lib.hid (show ¬ cE (syncM M1).fails (syncM M1).ahead = 0 by rw [g2]; decide)
          go_upto_region 11 with (first
            | (go_at_call 106; ((with_reducible refine HDW.out.mono ?_); rintro r w2 ⟨rfl, hp, hk⟩); have HP3 := Lib.hid hp; have HK3 := Lib.hid hk; have hd2 := (HF2.out.dfr hk).disk; clear hp hk)
            | (go_at_call 51; ((with_reducible refine (HDS.out _ HP3.out).mono ?_); rintro r w3 ⟨rfl, hp, hk⟩); have HP4 := Lib.hid hp; have HK4 := Lib.hid hk; clear hp hk))
          have hf3 := (HF2.out.dfr HK3.out).dfr HK4.out
          have hq3 := (kfr_dfr HK4.out).cells ((kfr_dfr HK3.out).cells HQ1.out (not_KD' (by decide))) (not_KD' (by decide))
          have HP5 := Lib.hid (show PD B w3.drew d (syncM M1) by have := HP4.out.new (gdrew w3); rwa [show syX M1 = syncM M1 from if_pos HE1.out] at this)
          have HC3 := Lib.hid (fun W (g : Kfr KD B w3 W) => And.intro (hf3.kfr g (not_KD' (by decide)) (not_KD' (by decide)) (not_KD' (by decide))).disk (And.intro (cells6' (g.cells hq3 (not_KD' (by decide)))).1.1 (And.intro (cells6' (g.cells hq3 (not_KD' (by decide)))).1.2.1 (And.intro (cells6' (g.cells hq3 (not_KD' (by decide)))).1.2.2.1 (cells6' (g.cells hq3 (not_KD' (by decide)))).1.2.2.2.1))))
          have HF4 := Lib.hid hf3
          have HK5 := Lib.hid (((HK1.out.trans ((kfr_dfr HK3.out).imp fun _ => kd_kc)).trans ((kfr_dfr HK4.out).imp fun _ => kd_kc)))
          have HQ4 := Lib.hid hq3
          clear hf3 hq3 hd1 hd2
          go_region_held3 (fun W => W.cell? ⟨f, 0, none⟩ = some (.pointer (some ⟨d, 0, none⟩)) ∧ W.cell? ⟨q, 0, none⟩ = some (.int .u64 (T1.n : Int)) ∧ W.cell? ⟨q, 1, none⟩ = some (.int .u32 (sp.en : Int)) ∧ W.cell? ⟨q, 2, none⟩ = some (.int .u32 (main : Int)) ∧ W.cell? ⟨q, 3, none⟩ = some (.int .u32 ((aftL l 0 : Nat) : Int)))
            (first | (with_reducible exact (HC3.out _ (Kfr.of (gdrew w3)))) | (with_reducible exact (HC3.out _ HK9.out)))
            (first | (go_at_call 107; ((with_reducible refine (HWM.out _ HP5.out).mono ?_); rintro r w4 ⟨rfl, hp, hk⟩); have HP6 := Lib.hid hp; have HK6 := Lib.hid hk; have HK9 := Lib.hid ((Kfr.of (P := KD) (B := B) (gdrew w3)).trans (kfr_dfr hk)); clear hp hk))
          go_wp2_with fail
          go_ret
          exact commitR_of (HK5.out.trans (((Kfr.of (gdrew w3)).trans (kfr_dfr HK6.out)).imp fun _ => kd_kc)) HT1.out (Int.not_lt.2 HT2.out) HTP.out (cm_c HM1.out HE1.out HE2.out) (by have := HP6.out; rwa [show jwmM (syncM M1) _ = cntM (syncM M1) from if_neg HE2.out] at this) rfl ((HF4.out.new (gdrew w3)).dfr HK6.out)
      · rw [g1] at HDS
        have HE1 := Lib.hid (show ¬ cE M1.fails M1.ahead = 0 by rw [g1]; decide)
        go_wp2_with (first
          | (go_at_call 106; ((with_reducible refine HDW.out.mono ?_); rintro r w2 ⟨rfl, hp, hk⟩); have HP3 := Lib.hid hp; have HK3 := Lib.hid hk; have hd2 := (HF2.out.dfr hk).disk; clear hp hk)
          | (go_at_call 51; ((with_reducible refine (HDS.out _ HP3.out).mono ?_); rintro r w3 ⟨rfl, hp, hk⟩); have HP4 := Lib.hid hp; have HK4 := Lib.hid hk; clear hp hk)
          | (go_at_call 52; ((with_reducible refine (diskError_as 20 20 (by decide) _).mono ?_); rintro r w5 ⟨rfl, rfl⟩)))
        go_ret
        exact commitR_of ((HK1.out.trans ((kfr_dfr HK3.out).imp fun _ => kd_kc)).trans ((kfr_dfr HK4.out).imp fun _ => kd_kc)) HT1.out (Int.not_lt.2 HT2.out) HTP.out (cm_b HM1.out HE1.out) (by have := HP4.out; rwa [show syX M1 = cntM M1 from if_neg HE1.out] at this) rfl ((HF2.out.dfr HK3.out).dfr HK4.out)
    · rw [h0] at HDW
      clear hsp hKe q0 q1 q2 q3 q4 q5 z0 z1 z2 z3 z4 z5
      have HN0 := Lib.hid (show ¬ (dwM TP M).2 = 0 by rw [h0]; decide)
      go_wp2_with (first
        | (go_at_call 106; ((with_reducible refine HDW.out.mono ?_); rintro r w2 ⟨rfl, hp, hk⟩); have HP3 := Lib.hid hp; have HK3 := Lib.hid hk; clear hp hk))
      go_ret
      exact commitR_of (HK1.out.trans ((kfr_dfr HK3.out).imp fun _ => kd_kc)) HT1.out (Int.not_lt.2 HT2.out) HTP.out (cm_a HN0.out) HP3.out rfl (HF2.out.dfr HK3.out)
  · subst e0
    have HT := Lib.hid (And.intro t1 t2)
    clear t1 t2
    go_wp2
    go_ret
    exact ⟨HKX.out.imp fun _ => ks_kc, .inr ⟨sp, l, rfl, HT.out.1, HT.out.2, HP1.out, HF1.out⟩⟩

end Go.Proofs.YtildjdhoeilcfaaGreat

namespace Go.Proofs.YtildjdhoeilcfaaGreat
open Go.RowKit Go.Maps

theorem tcommit_nil (main : Int) (w : World) : Calls Tryz.prog 19 #[.pointer none, .int .u32 main] w fun r w' => r = .returned (.int .i64 1) ∧ w = w' := by
  go_enter Tryz.func19, Tryz.ntmps19
  go_wp2_with (first
    | (go_at_call 58; ((with_reducible refine (state_nil _).mono ?_); rintro r w1 ⟨rfl, rfl⟩)))
  go_ret
  exact ⟨rfl, rfl⟩
theorem tcommit_over {B t f : Nat} {w : World} (h : TxnAt B w t f none) (main : Int) : Calls Tryz.prog 19 #[.pointer (some ⟨t, 0, none⟩), .int .u32 main] w fun r w' => r = .returned (.int .i64 34) ∧ w = w' := by
  have HS := Lib.hid (state_over h)
  go_enter Tryz.func19, Tryz.ntmps19
  go_wp2_with (first
    | (go_at_call 58; ((with_reducible refine HS.out.mono ?_); rintro r w1 ⟨rfl, rfl⟩)))
  go_ret
  exact ⟨rfl, rfl⟩
theorem FileAt.txn {B f d : Nat} {w : World} {F : FV} (h : FileAt B w f d F) : w.cell? ⟨f, 1, none⟩ = some (.int .u64 (F.mt.t : Int)) := by
  obtain ⟨_, _, _, _, hb, _⟩ := h.cells8
  exact (fcells8 hb).2.1
theorem DraftAt.num {B x S : Nat} {w : World} {T : TV} (h : DraftAt B w x S T) : w.cell? ⟨x, 0, none⟩ = some (.int .u64 (T.n : Int)) := by
  obtain ⟨Bs, mb, H, hD⟩ := h.un
  exact (cells3 hD.box).1
set_option maxRecDepth 20000 in
set_option maxHeartbeats 8000000 in
theorem tcommit_bad {B t f d x S main : Nat} {w : World} {F : FV} {T : TV} (hT : TxnAt B w t f (some x)) (hF : FileAt B w f d F) (hD : DraftAt B w x S T) (hst : F.st = false) (hn : F.mt.t + 1 = T.n) (hn9 : T.n < 18446744073709551616) (hm : main < 4294967296) (hr : rmain T.sp.en main = false) :
    Calls Tryz.prog 19 #[.pointer (some ⟨t, 0, none⟩), .int .u32 (main : Int)] w fun r w' => r = .returned (.int .i64 1) ∧ TxnAt B w' t f none ∧ Kfr (fun k => k = some 133) B w w' := by
  have HS := Lib.hid (state_live hT)
  have HA := Lib.hid (abort_any hT)
  obtain ⟨c0, c1, _⟩ := cells2 hT.2
  have HFX := Lib.hid (fun W (k : Kfr (fun k => k = some 133) B w W) => hF.kfr k (by simp) (by simp) (by simp))
  have HDX := Lib.hid (fun W (k : Kfr (fun k => k = some 133) B w W) => hD.kfr k (by simp) (by simp) (by simp) (by simp) (by simp) (by simp))
  have HR := Lib.hid (fun W (k : DraftAt B W x S T) => rmain_any k hm (main : Int) rfl)
  rw [hr] at HR
  have h1 : ((F.mt.t : Int) + 1) = (T.n : Int) := by omega
  have hw1 : IntKind.u64.wrap (T.n : Int) = (T.n : Int) := by rw [show IntKind.u64.wrap (T.n : Int) = (T.n : Int) % 18446744073709551616 from rfl]; omega
  have hwr : (IntKind.u64.wrap (T.n : Int) != (T.n : Int)) = false := by rw [hw1]; exact bne_self_eq_false _
  have HWR := Lib.hid hwr
  clear hT hF hD hw1 hwr
  go_enter Tryz.func19, Tryz.ntmps19
  go_upto_region 6 with (first
    | (go_at_call 58; ((with_reducible refine HS.out.mono ?_); rintro r w1 ⟨rfl, rfl⟩))
    | (go_at_call 20; ((with_reducible refine HA.out.mono ?_); rintro r w2 ⟨rfl, hp, hk⟩); have HT2 := Lib.hid hp; have HK2 := Lib.hid hk; clear hp hk))
  have hk2 := HK2.out
  have HC := Lib.hid (fun W (g : w2.grownBy W none) => And.intro (cells2 ((HT2.out.new g).2)).1 (And.intro (FileAt.stuck7 ((HFX.out _ hk2).new g)).1 (And.intro (FileAt.txn ((HFX.out _ hk2).new g)) (DraftAt.num ((HDX.out _ hk2).new g)))))
  rw [hst] at HC
  clear hk2
  go_region_held3 (fun W => W.cell? ⟨t, 0, none⟩ = some (.pointer (some ⟨f, 0, none⟩)) ∧ W.cell? ⟨f, 7, none⟩ = some (.bool false) ∧ W.cell? ⟨f, 1, none⟩ = some (.int .u64 (F.mt.t : Int)) ∧ W.cell? ⟨x, 0, none⟩ = some (.int .u64 (T.n : Int)))
    (with_reducible exact (HC.out _ (gdrew w2)))
    (fail)
  have HDD := Lib.hid ((HDX.out _ HK2.out).new (gdrew w2))
  have hwr := HWR.out
  try rw [hwr]
  clear hwr
  go_wp2_with (first
    | (go_at_call 62; ((with_reducible refine (HR.out _ HDD.out).mono ?_); rintro r w3 ⟨rfl, rfl⟩)))
  go_ret
  exact ⟨rfl, HT2.out.new (gdrew w2), HK2.out.trans (Kfr.of (gdrew w2))⟩

set_option maxRecDepth 20000 in
set_option maxHeartbeats 8000000 in
theorem tcommit_any {B t f d x S main : Nat} {w : World} {F : FV} {T : TV} (hT : TxnAt B w t f (some x)) (hF : FileAt B w f d F) (hD : DraftAt B w x S T) (hst : F.st = false) (hn : F.mt.t + 1 = T.n) (hn9 : T.n < 18446744073709551616) (hm : main < 4294967296) (hr : rmain T.sp.en main = true) {M : SM} (hP : PD B w d M) {Po : World → Ending → World → Prop}
    (hC : ∀ W, FileAt B W f d F → DraftAt B W x S T → PD B W d M → Calls Tryz.prog 63 #[.pointer (some ⟨f, 0, none⟩), .pointer (some ⟨x, 0, none⟩), .int .u32 (main : Int)] W fun r w' => ∃ e, r = .returned (.int .i64 e) ∧ Po W r w') :
    Calls Tryz.prog 19 #[.pointer (some ⟨t, 0, none⟩), .int .u32 (main : Int)] w fun r w' => ∃ W, TxnAt B W t f none ∧ Kfr (fun k => k = some 133) B w W ∧ Po W r w' := by
  have HCM := Lib.hid hC
  have HPX := Lib.hid (fun W (k : Kfr (fun k => k = some 133) B w W) => hP.kfr k (by simp) (by simp) (by simp) (by simp))
  clear hC hP
  have HS := Lib.hid (state_live hT)
  have HA := Lib.hid (abort_any hT)
  obtain ⟨c0, c1, _⟩ := cells2 hT.2
  have HFX := Lib.hid (fun W (k : Kfr (fun k => k = some 133) B w W) => hF.kfr k (by simp) (by simp) (by simp))
  have HDX := Lib.hid (fun W (k : Kfr (fun k => k = some 133) B w W) => hD.kfr k (by simp) (by simp) (by simp) (by simp) (by simp) (by simp))
  have HR := Lib.hid (fun W (k : DraftAt B W x S T) => rmain_any k hm (main : Int) rfl)
  rw [hr] at HR
  have h1 : ((F.mt.t : Int) + 1) = (T.n : Int) := by omega
  have hw1 : IntKind.u64.wrap (T.n : Int) = (T.n : Int) := by rw [show IntKind.u64.wrap (T.n : Int) = (T.n : Int) % 18446744073709551616 from rfl]; omega
  have hwr : (IntKind.u64.wrap (T.n : Int) != (T.n : Int)) = false := by rw [hw1]; exact bne_self_eq_false _
  have HWR := Lib.hid hwr
  clear hT hF hD hw1 hwr
  go_enter Tryz.func19, Tryz.ntmps19
  go_upto_region 6 with (first
    | (go_at_call 58; ((with_reducible refine HS.out.mono ?_); rintro r w1 ⟨rfl, rfl⟩))
    | (go_at_call 20; ((with_reducible refine HA.out.mono ?_); rintro r w2 ⟨rfl, hp, hk⟩); have HT2 := Lib.hid hp; have HK2 := Lib.hid hk; clear hp hk))
  have hk2 := HK2.out
  have HC := Lib.hid (fun W (g : w2.grownBy W none) => And.intro (cells2 ((HT2.out.new g).2)).1 (And.intro (FileAt.stuck7 ((HFX.out _ hk2).new g)).1 (And.intro (FileAt.txn ((HFX.out _ hk2).new g)) (DraftAt.num ((HDX.out _ hk2).new g)))))
  rw [hst] at HC
  clear hk2
  go_region_held3 (fun W => W.cell? ⟨t, 0, none⟩ = some (.pointer (some ⟨f, 0, none⟩)) ∧ W.cell? ⟨f, 7, none⟩ = some (.bool false) ∧ W.cell? ⟨f, 1, none⟩ = some (.int .u64 (F.mt.t : Int)) ∧ W.cell? ⟨x, 0, none⟩ = some (.int .u64 (T.n : Int)))
    (with_reducible exact (HC.out _ (gdrew w2)))
    (fail)
  have HDD := Lib.hid ((HDX.out _ HK2.out).new (gdrew w2))
  have HFD := Lib.hid ((HFX.out _ HK2.out).new (gdrew w2))
  have HPD := Lib.hid ((HPX.out _ HK2.out).new (gdrew w2))
  have ht0 := (cells2 (HT2.out.new (gdrew w2)).2).1
  have hwr := HWR.out
  try rw [hwr]
  clear hwr
  go_wp2_with (first
    | (go_at_call 62; ((with_reducible refine (HR.out _ HDD.out).mono ?_); rintro r w3 ⟨rfl, rfl⟩))
    | (go_at_call 63; ((with_reducible refine (HCM.out _ HFD.out HDD.out HPD.out).mono ?_); rintro r w4 ⟨e9, rfl, hk⟩); have HPO := Lib.hid hk; clear hk))
  go_ret
  exact ⟨w2.drew, HT2.out.new (gdrew w2), HK2.out.trans (Kfr.of (gdrew w2)), HPO.out⟩

end Go.Proofs.YtildjdhoeilcfaaGreat

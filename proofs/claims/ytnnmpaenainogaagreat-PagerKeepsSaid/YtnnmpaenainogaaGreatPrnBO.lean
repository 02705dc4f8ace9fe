/-
  Layer 11: commit. Own work.
-/
import Derived.Test.YtnnmpaenainogaaGreatPrnBN
import Derived.Deep.CutBlock
import Derived.Test.YtnnmpaenainogaaGreatPrnAB
import Derived.Test.YtnnmpaenainogaaGreatPrnAW

set_option linter.unusedVariables false
set_option linter.unusedSimpArgs false
namespace Go.Proofs.YtnnmpaenainogaaGreat
open Go.RowKit Go.Maps
def coL : Code→Code
  | .seq a _ => a
  | c => c
def coR : Code→Code
  | .seq _ b => b
  | c => c
noncomputable def commitBody : Code := (Tryz.f71.body).getD .skip
noncomputable def commitOne : Code := coL (coR commitBody)
set_option maxRecDepth 1000000 in
set_option maxHeartbeats 40000000 in
theorem com1_any {B f d x S Mr c main : Nat} {w : World} {F : FV} {T T1 : TV} {M : SM} (hF : FileAt B w f d F) (hD : DraftAt B w x S T) (hd : PD B w d M) (hW : Wel M c) (hS : M.size = S) (hMr : (Mr : Int) = roomI (S : Int)) (hfr : frAll T F.ls = (T1,0))
    (hf : Few T1.sp T1.n) (hk : TkOk T1.sp) (hK : T1.K.length≤100000) (hn : T.n < 18446744073709551616) (hmain : main < 4294967296)
    (hc : ∀ sp l,TakeTo S (((flatR (recsM T1.sp T1.n)).length : Int) - (T1.sp.us.length : Int)) T1.sp [] sp l→¬ ((l.length : Int) < manyF (((flatR (recsM T1.sp T1.n)).length : Int) - (T1.sp.us.length : Int) + (sp.us.length : Int)) (S : Int))→ClOk S T1 sp l∧WrOk c S Mr T1 M main sp l)
    (u7 u8 u13 u14 u15 u16 u17 u18 u19 u20 u21 u22 u23 u24 v2 v3 v4 v5 v6 v9 v10 v11 v12 v25 v26 v27 v28 v29 v30 v31 v32 v33 v34 v35 v36 v37 v38 v39 v40 v41 v42 v43 v44 v45 v46 v47 v48 v49 v50 v51 v52 v53 v54 v55 v56 v57 v58 v59 v60 v61 v62 v63 v64 v65 v66 v67 v68 v69 v70 v71 v72 v73 v74 : Value) (Kc : Act→World→Prop) (Qc : Exit→Act→World→Prop)
    (hK : ∀ (x13 x14 x15 x16 x17 x18 x19 x20 x21 x22 x23 x24 : Value) (q : Nat) (a b c3 e : Int) (qa : Option Addr) (qn qc : Nat) (ka : Option Addr) (kn kc : Nat) (wx : World),wx.heap[q]? = some (.cells #[.int .u64 a,.int .u32 b,.int .u32 0,.int .u32 c3,.slice qa qn qc,.slice ka kn kc] 136 (0,0))→w.heap.size≤q→Kfr KS B w wx→CLD B x S Mr (flatR (recsM T1.sp T1.n)).length w.heap.size wx T1 a b c3 e qa qn qc ka kn kc→Kc ⟨#[.pointer (some ⟨f,0,none⟩),.pointer (some ⟨x,0,none⟩),v2,v3,v4,v5,v6,(.pointer (some ⟨q,0,none⟩)),(.int .i64 e),v9,v10,v11,v12,x13,x14,x15,x16,x17,x18,x19,x20,x21,x22,x23,x24,v25,v26,v27,v28,v29,v30,v31,v32,v33,v34,v35,v36,v37,v38,v39,v40,v41,v42,v43,v44,v45,v46,v47,v48,v49,v50,v51,v52,v53,v54,v55,v56,v57,v58,v59,v60,v61,v62,v63,v64,v65,v66,v67,v68,v69,v70,v71,v72,v73,v74],[]⟩ wx) :
    Code.wp Tryz.prog commitOne (Exit.then Kc Qc) ⟨#[.pointer (some ⟨f,0,none⟩),.pointer (some ⟨x,0,none⟩),v2,v3,v4,v5,v6,u7,u8,v9,v10,v11,v12,u13,u14,u15,u16,u17,u18,u19,u20,u21,u22,u23,u24,v25,v26,v27,v28,v29,v30,v31,v32,v33,v34,v35,v36,v37,v38,v39,v40,v41,v42,v43,v44,v45,v46,v47,v48,v49,v50,v51,v52,v53,v54,v55,v56,v57,v58,v59,v60,v61,v62,v63,v64,v65,v66,v67,v68,v69,v70,v71,v72,v73,v74],[]⟩ w := by
  conv => arg 2; whnf
  have HK := Lib.hid hK
  clear hK
  have s1 : 512≤S := by have := hW.s1; omega
  have s2 : S≤4096 := by have := hW.s2; omega
  obtain ⟨pa,pc,la,lc,hb,hl⟩ := hF.cells8
  have HB := Lib.hid hb
  have HSZ := Lib.hid (fun W (g : w.grownBy W none) => by have := fsize_any (hF.new g) (hd.new g); rw [hS] at this; exact this)
  have HCL := Lib.hid (fun W (g : w.grownBy W none) => dclose_any (M := Mr) (hD.new g) (hl.kfr (Kfr.of (P := fun _ => False) (B := 0) g) (by simp)) hfr s1 s2 hMr hf hk hK hn (fun sp l a b => (hc sp l a b).1))
  have HWR := Lib.hid (fun sp l a b => (hc sp l a b).2)
  have HCX := Lib.hid (fun W (g : w.grownBy W none) => (fcells8 ((g.block _ (lt_of_block hb) (by simp)).trans hb)).2.2.2.2.2.2.1)
  have HFF := Lib.hid hF
  have HPD := Lib.hid hd
  generalize (flatR (recsM T1.sp T1.n)).length = O at HCL HWR HK ⊢
  clear hb hF hD hd hc hf hk hl hfr
  have HCY := Lib.hid (fun W (k : Kfr KS B w W) => (fcells8 (k.cells HB.out (not_KS (by decide)))).2.2.2.2.2.2.1)
  have HCA := Lib.hid (fun W o (k : Kfr KS B w W) => HCY.out (W.alloc o) (k.trans (Kfr.of (World.grownBy_alloc W o none))))
  have HCS := Lib.hid (fun W a0 a1 a2 a3 a4 a5 (k : Kfr KS B w W) => HCY.out (set6 W w.heap.size a0 a1 a2 a3 a4 a5) (k.fresh (Nat.le_refl _) (set6_grown _ _ _ _ _ _ _ _)))
  go_region_held3 (fun W' => W'.cell? ⟨f,6,none⟩ = some (.slice la F.ls.length lc))
    (first | (with_reducible exact (HCX.out _ (gdrew w))) | (with_reducible exact (HCX.out _ (g_alloc_drew w _))) | (with_reducible exact (HCY.out _ HK3.out)) | (with_reducible exact (HCA.out _ _ HK3.out)) | (with_reducible exact (HCS.out _ _ _ _ _ _ _ HK3.out)))
    (first
      | (go_at_call 39; ((with_reducible refine (HSZ.out _ (gdrew w)).mono ?_); rintro r w2 ⟨rfl,rfl⟩))
      | (go_at_call 39; ((with_reducible refine (HSZ.out _ (g_alloc_drew w _)).mono ?_); rintro r w2 ⟨rfl,rfl⟩))
      | (go_at_call 119; ((with_reducible refine (HCL.out _ (gdrew w)).mono ?_); rintro r w3 hk; obtain ⟨a,b,c3,e,qa,qn,qc,ka,kn,kc,rfl,hk1,hk2⟩ := CLR.un hk); have HK3 := Lib.hid (Kfr.trans (Kfr.of (P := KS) (B := B) (gdrew w)) hk1); have HC3 := Lib.hid hk2; clear hk hk1 hk2)
      | (go_at_call 119; ((with_reducible refine (HCL.out _ (g_alloc_drew w _)).mono ?_); rintro r w3 hk; obtain ⟨a,b,c3,e,qa,qn,qc,ka,kn,kc,rfl,hk1,hk2⟩ := CLR.un hk); have HK3 := Lib.hid (Kfr.trans (Kfr.of (P := KS) (B := B) (g_alloc_drew w _)) hk1); have HC3 := Lib.hid hk2; have HZ3 := Lib.hid (hk1.cells (show (w.alloc (.cells #[.int .u64 0,.int .u32 0,.int .u32 0,.int .u32 0,.slice none 0 0,.slice none 0 0] 136)).drew.heap[w.heap.size]? = _ from lit_block w _) (not_KS (by decide))); obtain ⟨⟨q0,q1,q2,q3,q4,q5⟩,z0,z1,z2,z3,z4,z5⟩ := cells6' HZ3.out; clear hk hk1 hk2))
  ·  refine HK.out _ _ _ _ _ _ _ _ _ _ _ _ _ _ _ _ _ _ _ _ _ _ _ _ (lit_block _ _) HK3.out.size (HK3.out.trans (Kfr.of (World.grownBy_alloc _ _ none))) (HC3.out.kfr (P := fun _ => False) (B' := 0) (Kfr.of (World.grownBy_alloc _ _ none)) ?_ (fun h => h) (fun h => h) (fun h => h) (fun h => h) (fun h => h) (fun h => h) (fun h => h))
     exact Nat.le_refl _
  ·  obtain ⟨g1,g2⟩ := store6' HZ3.out _ _ _ _ _ _
     refine HK.out _ _ _ _ _ _ _ _ _ _ _ _ _ _ _ _ _ _ _ _ _ _ _ _ g1 (Nat.le_refl _) (HK3.out.fresh (Nat.le_refl _) (set6_grown _ _ _ _ _ _ _ _)) (HC3.out.kfr g2 ?_ (by simp) (by simp) (by simp) (by simp) (by simp) (by simp) (by simp))
     exact (World.grownBy_alloc w _ none).size
  ·  obtain ⟨g1,g2⟩ := store6' HZ3.out _ _ _ _ _ _
     refine HK.out _ _ _ _ _ _ _ _ _ _ _ _ _ _ _ _ _ _ _ _ _ _ _ _ g1 (Nat.le_refl _) (HK3.out.fresh (Nat.le_refl _) (set6_grown _ _ _ _ _ _ _ _)) (HC3.out.kfr g2 ?_ (by simp) (by simp) (by simp) (by simp) (by simp) (by simp) (by simp))
     exact (World.grownBy_alloc w _ none).size
end Go.Proofs.YtnnmpaenainogaaGreat

namespace Go.Proofs.YtnnmpaenainogaaGreat
open Go.RowKit Go.Maps
theorem FileAt.disk {B f d : Nat} {w : World} {F : FV} (h : FileAt B w f d F) : w.cell? ⟨f,0,none⟩ = some (.pointer (some ⟨d,0,none⟩)) := by
  obtain ⟨_,_,_,_,hb,_⟩ := h.cells8
  exact (fcells8 hb).1
theorem FileAt.stuck7 {B f d : Nat} {w : World} {F : FV} (h : FileAt B w f d F) : w.cell? ⟨f,7,none⟩ = some (.bool F.st)∧w.frozen? ⟨f,7,none⟩ = false := by
  obtain ⟨_,_,_,_,hb,_⟩ := h.cells8
  exact ⟨(fcells8 hb).2.2.2.2.2.2.2,by simp [World.frozen?,hb]⟩
theorem FileAt.stick {B f d : Nat} {w : World} {F : FV} (h : FileAt B w f d F) : FileAt B (w.setCell ⟨f,7,none⟩ (.bool true)) f d { F with st := true }∧Kfr (fun t => t = some 138) 0 w (w.setCell ⟨f,7,none⟩ (.bool true)) := by
  obtain ⟨hB,pa,pc,la,lc,hb,hp,hl,h0⟩ := h
  have k := kfr_set hb 7 (.bool true)
  exact ⟨⟨hB,pa,pc,la,lc,heap_setCell_same w f 7 _ _ _ hb,hp.kfr k (by simp),hl.kfr k (by simp),h0⟩,k⟩
abbrev setF (W : World) (q : Nat) (a b c d e f : Value) : World := (((((W.setCell ⟨q,1,none⟩ a).setCell ⟨q,2,none⟩ b).setCell ⟨q,3,none⟩ c).setCell ⟨q,4,none⟩ d).setCell ⟨q,5,none⟩ e).setCell ⟨q,6,none⟩ f
theorem storeF {W : World} {q : Nat} {x0 x1 x2 x3 x4 x5 x6 x7 : Value} {t : TypeId} (h : W.heap[q]? = some (.cells #[x0,x1,x2,x3,x4,x5,x6,x7] t (0,0))) (a b c d e f : Value) :
    (setF W q a b c d e f).heap[q]? = some (.cells #[x0,a,b,c,d,e,f,x7] t (0,0))∧Kfr (fun x => x = some t) 0 W (setF W q a b c d e f) := by
  have h1 : _ = some (Obj.cells #[x0,a,x2,x3,x4,x5,x6,x7] t (0,0)) := heap_setCell_same _ q 1 _ t a h
  have h2 : _ = some (Obj.cells #[x0,a,b,x3,x4,x5,x6,x7] t (0,0)) := heap_setCell_same _ q 2 _ t b h1
  have h3 : _ = some (Obj.cells #[x0,a,b,c,x4,x5,x6,x7] t (0,0)) := heap_setCell_same _ q 3 _ t c h2
  have h4 : _ = some (Obj.cells #[x0,a,b,c,d,x5,x6,x7] t (0,0)) := heap_setCell_same _ q 4 _ t d h3
  have h5 : _ = some (Obj.cells #[x0,a,b,c,d,e,x6,x7] t (0,0)) := heap_setCell_same _ q 5 _ t e h4
  have h6 : _ = some (Obj.cells #[x0,a,b,c,d,e,f,x7] t (0,0)) := heap_setCell_same _ q 6 _ t f h5
  exact ⟨h6,(((((kfr_set h 1 a).trans (kfr_set h1 2 b)).trans (kfr_set h2 3 c)).trans (kfr_set h3 4 d)).trans (kfr_set h4 5 e)).trans (kfr_set h5 6 f)⟩
theorem FileAt.taken {B f d : Nat} {w : World} {F : FV} {ps : List Pr} {ls : List Nat} {pa la : Option Addr} {pc lc : Nat} (h : FileAt B w f d F) (m : Mt) (hp : PrT w (.slice pa ps.length pc) ps) (hl : PgT w (.slice la ls.length lc) ls) (h0 : ls = []→la = none∧lc = 0) :
    FileAt B (setF w f (.int .u64 (m.t : Int)) (.int .u32 (m.e : Int)) (.int .u32 (m.m : Int)) (.int .u32 (m.f : Int)) (.slice pa ps.length pc) (.slice la ls.length lc)) f d ⟨m,ps,ls,F.st⟩ ∧
      Kfr (fun t => t = some 138) 0 w (setF w f (.int .u64 (m.t : Int)) (.int .u32 (m.e : Int)) (.int .u32 (m.m : Int)) (.int .u32 (m.f : Int)) (.slice pa ps.length pc) (.slice la ls.length lc)) := by
  obtain ⟨hB,_,_,_,_,hb,_⟩ := h
  obtain ⟨e,k⟩ := storeF hb (.int .u64 (m.t : Int)) (.int .u32 (m.e : Int)) (.int .u32 (m.m : Int)) (.int .u32 (m.f : Int)) (.slice pa ps.length pc) (.slice la ls.length lc)
  exact ⟨⟨hB,pa,pc,la,lc,e,hp.kfr k (by simp),hl.kfr k (by simp),h0⟩,k⟩
theorem kfile_up {B f d : Nat} {w w' : World} {F : FV} (h : FileAt B w f d F) (g : w.grownBy w' (some f)) : Kfr KC B w w' := Kfr.row g h.lt.1 (.inr (.inr h.lt.2.2))
theorem setF_grown (W : World) (q : Nat) (a b c d e f : Value) : W.grownBy (setF W q a b c d e f) (some q) := gtrans (gtrans (gtrans (gtrans (gtrans (gset W ⟨q,1,none⟩ a) (gset _ ⟨q,2,none⟩ b)) (gset _ ⟨q,3,none⟩ c)) (gset _ ⟨q,4,none⟩ d)) (gset _ ⟨q,5,none⟩ e)) (gset _ ⟨q,6,none⟩ f)
theorem FileAt.six {B f d : Nat} {w : World} {F : FV} (h : FileAt B w f d F) : ∃ c1 c2 c3 c4 c5 c6,(w.cell? ⟨f,1,none⟩ = some c1∧w.cell? ⟨f,2,none⟩ = some c2∧w.cell? ⟨f,3,none⟩ = some c3∧w.cell? ⟨f,4,none⟩ = some c4∧w.cell? ⟨f,5,none⟩ = some c5∧w.cell? ⟨f,6,none⟩ = some c6) ∧
    w.frozen? ⟨f,1,none⟩ = false∧w.frozen? ⟨f,2,none⟩ = false∧w.frozen? ⟨f,3,none⟩ = false∧w.frozen? ⟨f,4,none⟩ = false∧w.frozen? ⟨f,5,none⟩ = false∧w.frozen? ⟨f,6,none⟩ = false := by
  obtain ⟨_,_,_,_,hb,_⟩ := h.cells8
  obtain ⟨_,a1,a2,a3,a4,a5,a6,_⟩ := fcells8 hb
  refine ⟨_,_,_,_,_,_,⟨a1,a2,a3,a4,a5,a6⟩,?_,?_,?_,?_,?_,?_⟩ <;> simp [World.frozen?,hb]
theorem cm_a {T : TV} {M : SM} {mt : Mt} (h : ¬ (dwM T M).2 = 0) : cmR T M mt = ((dwM T M).1,1) := if_neg h
theorem cm_b {T : TV} {M M1 : SM} {mt : Mt} (h : dwM T M = (M1,0)) (h1 : ¬ cE M1.fails M1.ahead = 0) : cmR T M mt = (cntM M1,1) := by
  unfold cmR; rw [h]; exact (if_pos rfl).trans (if_neg h1)
theorem cm_c {T : TV} {M M1 : SM} {mt : Mt} (h : dwM T M = (M1,0)) (h1 : cE M1.fails M1.ahead = 0) (h2 : ¬ cE (syncM M1).fails (syncM M1).ahead = 0) : cmR T M mt = (cntM (syncM M1),1) := by
  unfold cmR; rw [h]; exact (if_pos rfl).trans ((if_pos h1).trans (if_neg h2))
theorem cm_d {T : TV} {M M1 : SM} {mt : Mt} (h : dwM T M = (M1,0)) (h1 : cE M1.fails M1.ahead = 0) (h2 : cE (syncM M1).fails (syncM M1).ahead = 0)
    (h3 : ¬ cE (wrM (syncM M1) (mt.t % 2) (mpage mt M.size)).fails (wrM (syncM M1) (mt.t % 2) (mpage mt M.size)).ahead = 0) : cmR T M mt = (cntM (wrM (syncM M1) (mt.t % 2) (mpage mt M.size)),2) := by
  unfold cmR; rw [h]; exact (if_pos rfl).trans ((if_pos h1).trans ((if_pos h2).trans (if_neg h3)))
theorem cm_e {T : TV} {M M1 : SM} {mt : Mt} (h : dwM T M = (M1,0)) (h1 : cE M1.fails M1.ahead = 0) (h2 : cE (syncM M1).fails (syncM M1).ahead = 0)
    (h3 : cE (wrM (syncM M1) (mt.t % 2) (mpage mt M.size)).fails (wrM (syncM M1) (mt.t % 2) (mpage mt M.size)).ahead = 0) : cmR T M mt = (syncM (wrM (syncM M1) (mt.t % 2) (mpage mt M.size)),0) := by
  unfold cmR; rw [h]; exact (if_pos rfl).trans ((if_pos h1).trans ((if_pos h2).trans (if_pos h3)))
theorem commitR_of {B f d x S Mr O : Nat} {w w' : World} {F : FV} {T1 : TV} {M : SM} {main : Nat} {r : Ending} {sp : Sp} {l : List Nat} {TP : TV} {v : SM × Nat} (hk : Kfr KC B w w') (t1 : TakeTo S ((O : Int) - (T1.sp.us.length : Int)) T1.sp [] sp l) (t2 : ¬ ((l.length : Int) < manyF ((O : Int) - (T1.sp.us.length : Int) + (sp.us.length : Int)) (S : Int)))
    (hT : TP = putT { T1 with sp := sp } l (flatR (recsM sp T1.n)) Mr S l.length) (hv : cmR TP M ⟨T1.n,sp.en,main,aftL l 0⟩ = v) (hp : PD B w' d v.1) (hr : r = .returned (.int .i64 (if v.2 = 0 then 0 else 20)))
    (hf : FileAt B w' f d (if v.2 = 0 then ⟨⟨T1.n,sp.en,main,aftL l 0⟩,flatR (recsM sp T1.n),l,F.st⟩ else if v.2 = 1 then F else { F with st := true })) : CommitR B f d x S Mr O w F T1 M main r w' := by
  subst hT
  subst hv
  exact ⟨hk,.inl ⟨sp,l,t1,t2,hp,hr,hf⟩⟩
set_option maxRecDepth 20000 in
set_option maxHeartbeats 8000000 in
theorem commit_any {B f d x S Mr c main : Nat} {w : World} {F : FV} {T T1 : TV} {M : SM} (hF : FileAt B w f d F) (hD : DraftAt B w x S T) (hd : PD B w d M) (hW : Wel M c) (hS : M.size = S) (hMr : (Mr : Int) = roomI (S : Int)) (hfr : frAll T F.ls = (T1,0))
    (hf : Few T1.sp T1.n) (hk : TkOk T1.sp) (hK : T1.K.length≤100000) (hn : T.n < 18446744073709551616) (hmain : main < 4294967296)
    (hc : ∀ sp l,TakeTo S (((flatR (recsM T1.sp T1.n)).length : Int) - (T1.sp.us.length : Int)) T1.sp [] sp l→¬ ((l.length : Int) < manyF (((flatR (recsM T1.sp T1.n)).length : Int) - (T1.sp.us.length : Int) + (sp.us.length : Int)) (S : Int))→ClOk S T1 sp l∧WrOk c S Mr T1 M main sp l) :
    Calls Tryz.prog 71 #[.pointer (some ⟨f,0,none⟩),.pointer (some ⟨x,0,none⟩),.int .u32 (main : Int)] w fun r w' => CommitR B f d x S Mr (flatR (recsM T1.sp T1.n)).length w F T1 M main r w' := by
  have s1 : 512≤S := by have := hW.s1; omega
  have s2 : S≤4096 := by have := hW.s2; omega
  have HFF := Lib.hid hF
  have HPD := Lib.hid hd
  have HW := Lib.hid hW
  have HSZ := Lib.hid hS
  have HWR := Lib.hid (fun sp l a b => (hc sp l a b).2)
  go_enter Tryz.func71,Tryz.ntmps71
  go_upto_region 1 with (fail)
  refine com1_any (c := c) (main := main) hF hD hd hW hS hMr hfr hf hk hK hn hmain hc _ _ _ _ _ _ _ _ _ _ _ _ _ _ _ _ _ _ _ _ _ _ _ _ _ _ _ _ _ _ _ _ _ _ _ _ _ _ _ _ _ _ _ _ _ _ _ _ _ _ _ _ _ _ _ _ _ _ _ _ _ _ _ _ _ _ _ _ _ _ _ _ _ _ _ (fun x13 x14 x15 x16 x17 x18 x19 x20 x21 x22 x23 x24 q a b c3 e qa qn qc ka kn kc wx hq hqn hkx hcl => ?_)
  have HQ := Lib.hid hq
  have HKX := Lib.hid hkx
  have HF1 := Lib.hid (HFF.out.kfr hkx (not_KS (by decide)) (not_KS (by decide)) (not_KS (by decide)))
  have HP1 := Lib.hid (HPD.out.kfr hkx (not_KS (by decide)) (not_KS (by decide)) (not_KS (by decide)) (not_KS (by decide)))
  obtain ⟨⟨q0,q1,q2,q3,q4,q5⟩,z0,z1,z2,z3,z4,z5⟩ := cells6' hq
  clear hF hD hd hW hS hMr hfr hf hk hK hn hc hq hkx
  rcases hcl with ⟨e0,sp,l,e1,e2,e3,e4,e5,t1,t2,t3,t4,t5,t6⟩ | ⟨e0,sp,l,t1,t2⟩
  · subst e0 e1 e2 e3
    have HWO := Lib.hid (HWR.out sp l t1 t2)
    have HT1 := Lib.hid t1
    have HT2 := Lib.hid t2
    have HO3 := Lib.hid t3
    have HO4 := Lib.hid t4
    have HO5 := Lib.hid t5
    obtain ⟨TP,hTP⟩ : ∃ TP,TP = putT { T1 with sp := sp } l (flatR (recsM sp T1.n)) Mr S l.length := ⟨_,rfl⟩
    have hsp : TP.sp = sp := by rw [hTP]; exact (putT_same _ _ _ _ _ _).2
    have HTP := Lib.hid hTP
    have hcnt := HWO.out.cnt
    have hKe := HWO.out.K
    have hen := HWO.out.en
    rw [← hTP] at hcnt hKe t6
    have HDX := Lib.hid (t6.kfr (kfr_set HQ.out 2 (.int .u32 (main : Int))) (by simp) (by simp) (by simp) (by simp) (by simp) (by simp))
    have HF2 := Lib.hid (HF1.out.kfr (kfr_set HQ.out 2 (.int .u32 (main : Int))) (by simp) (by simp) (by simp))
    have HP2 := Lib.hid (HP1.out.kfr (kfr_set HQ.out 2 (.int .u32 (main : Int))) (by simp) (by simp) (by simp) (by simp))
    have HO6 := Lib.hid (HO3.out.kfr (kfr_set HQ.out 2 (.int .u32 (main : Int))) (by simp))
    have HO7 := Lib.hid (HO4.out.kfr (kfr_set HQ.out 2 (.int .u32 (main : Int))) (by simp))
    have HK1 := Lib.hid ((HKX.out.imp fun _ => ks_kc).nset hqn 2 (.int .u32 (main : Int)))
    have hq1 : (wx.setCell ⟨q,2,none⟩ (.int .u32 (main : Int))).heap[q]? = some (.cells #[.int .u64 (T1.n : Int),.int .u32 (sp.en : Int),.int .u32 (main : Int),.int .u32 ((aftL l 0 : Nat) : Int),.slice qa qn qc,.slice ka kn kc] 136 (0,0)) := heap_setCell_same wx q 2 _ _ (.int .u32 (main : Int)) HQ.out
    have HQ1 := Lib.hid hq1
    clear hq1
    clear t1 t2 t3 t4 t5 t6 hTP
    go_upto_region 5 with (fail)
    generalize wx.setCell ⟨q,2,none⟩ (.int .u32 (main : Int)) = w1 at HDX HF2 HP2 HO6 HO7 HK1 HQ1 ⊢
    have HDW := Lib.hid (dwrite_any (c := c) HDX.out HP2.out HSZ.out HW.out (by omega) (by rw [hsp]; exact hen) (by rw [hsp]; exact hKe))
    have HKP := Lib.hid (fun h => dw_keep (T := TP) HW.out (by rw [hsp]; exact hKe) h)
    have HEN := Lib.hid (show TP.sp.en = sp.en by rw [hsp])
    have hd1 := HF2.out.disk
    rcases dw_codes (T := TP) (M := M) (by rw [hsp]; exact hen) with h0 | h0
    · have hM1 := HKP.out h0
      obtain ⟨M1,hM1e⟩ : ∃ M1,dwM TP M = (M1,0) := ⟨(dwM TP M).1,Prod.ext rfl h0⟩
      rw [hM1e] at HDW hM1
      obtain ⟨hw1,hl1,hs1,hm1⟩ := hM1
      dsimp only at hw1 hl1 hs1 hm1
      have hl2 : 2≤M1.pg.length := by have := HWO.out.e2; have := HEN.out; omega
      have HM1 := Lib.hid hM1e
      have HDS := Lib.hid (fun W (k : PD B W d M1) => PD.sync k (hw1.fine (by omega)) hw1.lin (by have := hw1.lo; omega) (by have := hw1.p; have := hw1.l; omega))
      have hw2 := hw1.sync
      have HW2 := Lib.hid hw2
      have HWM := Lib.hid (fun W (k : PD B W d (syncM M1)) => writeMeta_any k (hw2.fine (by omega)) hw2.s1 hw2.s2 ⟨T1.n,sp.en,main,aftL l 0⟩ HWO.out.mo HWO.out.mr (by show _ < (syncM M1).pg.length; simp [syncM,syncP_len,cntM]; omega) (by simp [syncM]))
      have hmc : mtC ⟨T1.n,sp.en,main,aftL l 0⟩ = #[.int .u64 (T1.n : Int),.int .u32 (sp.en : Int),.int .u32 (main : Int),.int .u32 ((aftL l 0 : Nat) : Int)] := rfl
      rw [hmc] at HWM
      clear hsp hKe hmc
      rcases cE_codes M1.fails M1.ahead with g1 | g1
      · rw [g1] at HDS
        have HE1 := Lib.hid g1
        rcases cE_codes (syncM M1).fails (syncM M1).ahead with g2 | g2
        · rw [g2] at HWM
          have HE2 := Lib.hid g2
          have hw3 := hw2.wr (i := T1.n % 2) (bs := mpage ⟨T1.n,sp.en,main,aftL l 0⟩ M.size) (by show _ < (syncM M1).pg.length; simp [syncM,syncP_len,cntM]; omega)
          have hj : jwmM (syncM M1) ⟨T1.n,sp.en,main,aftL l 0⟩ = wrM (syncM M1) (T1.n % 2) (mpage ⟨T1.n,sp.en,main,aftL l 0⟩ M.size) := by
            have e : jwmM (syncM M1) ⟨T1.n,sp.en,main,aftL l 0⟩ = wrM (syncM M1) (T1.n % 2) (mpage ⟨T1.n,sp.en,main,aftL l 0⟩ (syncM M1).size) := if_pos g2
            rw [e,show (syncM M1).size = M.size from hs1]
          rw [hj] at HWM
          have HJ := Lib.hid (cm_d (mt := ⟨T1.n,sp.en,main,aftL l 0⟩) HM1.out HE1.out HE2.out)
          have HJ2 := Lib.hid (cm_e (mt := ⟨T1.n,sp.en,main,aftL l 0⟩) HM1.out HE1.out HE2.out)
          obtain ⟨M3,hM3⟩ : ∃ M3,M3 = wrM (syncM M1) (T1.n % 2) (mpage ⟨T1.n,sp.en,main,aftL l 0⟩ M.size) := ⟨_,rfl⟩
          dsimp only at HJ HJ2
          rw [← hM3] at HWM hw3 HJ HJ2
          have HDS3 := Lib.hid (fun W (k : PD B W d M3) => PD.sync k (hw3.fine (by omega)) hw3.lin (by have := hw3.lo; omega) (by have := hw3.p; have := hw3.l; omega))
          clear hj hM3
          go_upto_region 11 with (first
            | (go_at_call 120; ((with_reducible refine HDW.out.mono ?_); rintro r w2 ⟨rfl,hp,hk⟩); have HP3 := Lib.hid hp; have HK3 := Lib.hid hk; have hd2 := (HF2.out.dfr hk).disk; clear hp hk)
            | (go_at_call 59; ((with_reducible refine (HDS.out _ HP3.out).mono ?_); rintro r w3 ⟨rfl,hp,hk⟩); have HP4 := Lib.hid hp; have HK4 := Lib.hid hk; clear hp hk))
          have hf3 := (HF2.out.dfr HK3.out).dfr HK4.out
          have hq3 := (kfr_dfr HK4.out).cells ((kfr_dfr HK3.out).cells HQ1.out (not_KD' (by decide))) (not_KD' (by decide))
          have HP5 := Lib.hid (show PD B w3.drew d (syncM M1) by have := HP4.out.new (gdrew w3); rwa [show syX M1 = syncM M1 from if_pos HE1.out] at this)
          have HC3 := Lib.hid (fun W (g : Kfr KD B w3 W) => And.intro (hf3.kfr g (not_KD' (by decide)) (not_KD' (by decide)) (not_KD' (by decide))).disk (And.intro (cells6' (g.cells hq3 (not_KD' (by decide)))).1.1 (And.intro (cells6' (g.cells hq3 (not_KD' (by decide)))).1.2.1 (And.intro (cells6' (g.cells hq3 (not_KD' (by decide)))).1.2.2.1 (cells6' (g.cells hq3 (not_KD' (by decide)))).1.2.2.2.1))))
          have HF4 := Lib.hid hf3
          have HK5 := Lib.hid (((HK1.out.trans ((kfr_dfr HK3.out).imp fun _ => kd_kc)).trans ((kfr_dfr HK4.out).imp fun _ => kd_kc)))
          have HQ4 := Lib.hid hq3
          clear hf3 hq3 hd1 hd2
          go_region_held3 (fun W => W.cell? ⟨f,0,none⟩ = some (.pointer (some ⟨d,0,none⟩))∧W.cell? ⟨q,0,none⟩ = some (.int .u64 (T1.n : Int))∧W.cell? ⟨q,1,none⟩ = some (.int .u32 (sp.en : Int))∧W.cell? ⟨q,2,none⟩ = some (.int .u32 (main : Int))∧W.cell? ⟨q,3,none⟩ = some (.int .u32 ((aftL l 0 : Nat) : Int)))
            (first | (with_reducible exact (HC3.out _ (Kfr.of (gdrew w3)))) | (with_reducible exact (HC3.out _ HK9.out)))
            (first | (go_at_call 121; ((with_reducible refine (HWM.out _ HP5.out).mono ?_); rintro r w4 ⟨rfl,hp,hk⟩); have HP6 := Lib.hid hp; have HK6 := Lib.hid hk; have HK9 := Lib.hid ((Kfr.of (P := KD) (B := B) (gdrew w3)).trans (kfr_dfr hk)); clear hp hk))
          have HP7 := HP6
          have HF5 := Lib.hid ((HF4.out.new (gdrew w3)).dfr HK6.out)
          have HK7 := Lib.hid (HK5.out.trans (((Kfr.of (gdrew w3)).trans (kfr_dfr HK6.out)).imp fun _ => kd_kc))
          have hd5 := HF5.out.disk
          rcases cE_codes M3.fails M3.ahead with g3 | g3
          · rw [g3] at HDS3
            go_wp2_with (first
              | (go_at_call 59; ((with_reducible refine (HDS3.out _ HP6.out).mono ?_); rintro r w5 ⟨rfl,hp,hk⟩); have HP8 := Lib.hid hp; have HK8 := Lib.hid hk; have HF6 := Lib.hid (HF5.out.dfr hk); have HQ6 := Lib.hid ((kfr_dfr hk).cells (HK9.out.cells HQ4.out (not_KD' (by decide))) (not_KD' (by decide))); clear hp hk; obtain ⟨p1,p2,p3,p4,p5,p6,⟨b1,b2,b3,b4,b5,b6⟩,y1,y2,y3,y4,y5,y6⟩ := FileAt.six HF6.out; obtain ⟨⟨r0,r1,r2,r3,r4,r5⟩,-⟩ := cells6' HQ6.out))
            go_ret
            have HK10 := Lib.hid (((kfr_dfr HK3.out).trans (kfr_dfr HK4.out)).trans (HK9.out.trans (kfr_dfr HK8.out)))
            have HO8 := HO6.out.kfr HK10.out (not_KD' (by decide))
            have HO9 := HO7.out.kfr HK10.out (not_KD' (by decide))
            obtain ⟨k1,k2⟩ := FileAt.taken HF6.out ⟨T1.n,sp.en,main,aftL l 0⟩ (e4 ▸ HO8.prt) (e5 ▸ HO9.pgt) HO5.out
            exact commitR_of ((HK7.out.trans ((kfr_dfr HK8.out).imp fun _ => kd_kc)).trans (kfile_up HF6.out (setF_grown _ _ _ _ _ _ _ _))) HT1.out (Int.not_lt.2 HT2.out) HTP.out (HJ2.out g3) (by have := HP8.out; rw [show syX M3 = syncM M3 from if_pos g3] at this; exact this.kfr k2 (by simp) (by simp) (by simp) (by simp)) rfl k1
          · rw [g3] at HDS3
            have HE3 := Lib.hid (show ¬ cE M3.fails M3.ahead = 0 by rw [g3]; decide)
            go_wp2_with (first
              | (go_at_call 59; ((with_reducible refine (HDS3.out _ HP6.out).mono ?_); rintro r w5 ⟨rfl,hp,hk⟩); have HP8 := Lib.hid hp; have HK8 := Lib.hid hk; have HF6 := Lib.hid (HF5.out.dfr hk); clear hp hk; obtain ⟨u0,u1⟩ := FileAt.stuck7 HF6.out)
              | (go_at_call 60; ((with_reducible refine (diskError_as 20 20 (by decide) _).mono ?_); rintro r w6 ⟨rfl,rfl⟩)))
            go_ret
            obtain ⟨k1,k2⟩ := FileAt.stick HF6.out
            exact commitR_of ((HK7.out.trans ((kfr_dfr HK8.out).imp fun _ => kd_kc)).trans (kfile_up HF6.out (gset _ ⟨f,7,none⟩ _))) HT1.out (Int.not_lt.2 HT2.out) HTP.out (HJ.out HE3.out) (by have := HP8.out; rw [show syX M3 = cntM M3 from if_neg HE3.out] at this; exact this.kfr k2 (by simp) (by simp) (by simp) (by simp)) rfl k1
        · rw [g2] at HWM
          have HE2 := Lib.hid (show ¬ cE (syncM M1).fails (syncM M1).ahead = 0 by rw [g2]; decide)
          go_upto_region 11 with (first
            | (go_at_call 120; ((with_reducible refine HDW.out.mono ?_); rintro r w2 ⟨rfl,hp,hk⟩); have HP3 := Lib.hid hp; have HK3 := Lib.hid hk; have hd2 := (HF2.out.dfr hk).disk; clear hp hk)
            | (go_at_call 59; ((with_reducible refine (HDS.out _ HP3.out).mono ?_); rintro r w3 ⟨rfl,hp,hk⟩); have HP4 := Lib.hid hp; have HK4 := Lib.hid hk; clear hp hk))
          have hf3 := (HF2.out.dfr HK3.out).dfr HK4.out
          have hq3 := (kfr_dfr HK4.out).cells ((kfr_dfr HK3.out).cells HQ1.out (not_KD' (by decide))) (not_KD' (by decide))
          have HP5 := Lib.hid (show PD B w3.drew d (syncM M1) by have := HP4.out.new (gdrew w3); rwa [show syX M1 = syncM M1 from if_pos HE1.out] at this)
          have HC3 := Lib.hid (fun W (g : Kfr KD B w3 W) => And.intro (hf3.kfr g (not_KD' (by decide)) (not_KD' (by decide)) (not_KD' (by decide))).disk (And.intro (cells6' (g.cells hq3 (not_KD' (by decide)))).1.1 (And.intro (cells6' (g.cells hq3 (not_KD' (by decide)))).1.2.1 (And.intro (cells6' (g.cells hq3 (not_KD' (by decide)))).1.2.2.1 (cells6' (g.cells hq3 (not_KD' (by decide)))).1.2.2.2.1))))
          have HF4 := Lib.hid hf3
          have HK5 := Lib.hid (((HK1.out.trans ((kfr_dfr HK3.out).imp fun _ => kd_kc)).trans ((kfr_dfr HK4.out).imp fun _ => kd_kc)))
          have HQ4 := Lib.hid hq3
          clear hf3 hq3 hd1 hd2
          go_region_held3 (fun W => W.cell? ⟨f,0,none⟩ = some (.pointer (some ⟨d,0,none⟩))∧W.cell? ⟨q,0,none⟩ = some (.int .u64 (T1.n : Int))∧W.cell? ⟨q,1,none⟩ = some (.int .u32 (sp.en : Int))∧W.cell? ⟨q,2,none⟩ = some (.int .u32 (main : Int))∧W.cell? ⟨q,3,none⟩ = some (.int .u32 ((aftL l 0 : Nat) : Int)))
            (first | (with_reducible exact (HC3.out _ (Kfr.of (gdrew w3)))) | (with_reducible exact (HC3.out _ HK9.out)))
            (first | (go_at_call 121; ((with_reducible refine (HWM.out _ HP5.out).mono ?_); rintro r w4 ⟨rfl,hp,hk⟩); have HP6 := Lib.hid hp; have HK6 := Lib.hid hk; have HK9 := Lib.hid ((Kfr.of (P := KD) (B := B) (gdrew w3)).trans (kfr_dfr hk)); clear hp hk))
          go_wp2_with fail
          go_ret
          exact commitR_of (HK5.out.trans (((Kfr.of (gdrew w3)).trans (kfr_dfr HK6.out)).imp fun _ => kd_kc)) HT1.out (Int.not_lt.2 HT2.out) HTP.out (cm_c HM1.out HE1.out HE2.out) (by have := HP6.out; rwa [show jwmM (syncM M1) _ = cntM (syncM M1) from if_neg HE2.out] at this) rfl ((HF4.out.new (gdrew w3)).dfr HK6.out)
      · rw [g1] at HDS
        have HE1 := Lib.hid (show ¬ cE M1.fails M1.ahead = 0 by rw [g1]; decide)
        go_wp2_with (first
          | (go_at_call 120; ((with_reducible refine HDW.out.mono ?_); rintro r w2 ⟨rfl,hp,hk⟩); have HP3 := Lib.hid hp; have HK3 := Lib.hid hk; have hd2 := (HF2.out.dfr hk).disk; clear hp hk)
          | (go_at_call 59; ((with_reducible refine (HDS.out _ HP3.out).mono ?_); rintro r w3 ⟨rfl,hp,hk⟩); have HP4 := Lib.hid hp; have HK4 := Lib.hid hk; clear hp hk)
          | (go_at_call 60; ((with_reducible refine (diskError_as 20 20 (by decide) _).mono ?_); rintro r w5 ⟨rfl,rfl⟩)))
        go_ret
        exact commitR_of ((HK1.out.trans ((kfr_dfr HK3.out).imp fun _ => kd_kc)).trans ((kfr_dfr HK4.out).imp fun _ => kd_kc)) HT1.out (Int.not_lt.2 HT2.out) HTP.out (cm_b HM1.out HE1.out) (by have := HP4.out; rwa [show syX M1 = cntM M1 from if_neg HE1.out] at this) rfl ((HF2.out.dfr HK3.out).dfr HK4.out)
    · rw [h0] at HDW
      clear hsp hKe q0 q1 q2 q3 q4 q5 z0 z1 z2 z3 z4 z5
      have HN0 := Lib.hid (show ¬ (dwM TP M).2 = 0 by rw [h0]; decide)
      go_wp2_with (first
        | (go_at_call 120; ((with_reducible refine HDW.out.mono ?_); rintro r w2 ⟨rfl,hp,hk⟩); have HP3 := Lib.hid hp; have HK3 := Lib.hid hk; clear hp hk))
      go_ret
      exact commitR_of (HK1.out.trans ((kfr_dfr HK3.out).imp fun _ => kd_kc)) HT1.out (Int.not_lt.2 HT2.out) HTP.out (cm_a HN0.out) HP3.out rfl (HF2.out.dfr HK3.out)
  · subst e0
    have HT := Lib.hid (And.intro t1 t2)
    clear t1 t2
    go_wp2
    go_ret
    exact ⟨HKX.out.imp fun _ => ks_kc,.inr ⟨sp,l,rfl,HT.out.1,HT.out.2,HP1.out,HF1.out⟩⟩
end Go.Proofs.YtnnmpaenainogaaGreat

namespace Go.Proofs.YtnnmpaenainogaaGreat
open Go.RowKit Go.Maps
theorem FileAt.txn {B f d : Nat} {w : World} {F : FV} (h : FileAt B w f d F) : w.cell? ⟨f,1,none⟩ = some (.int .u64 (F.mt.t : Int)) := by
  obtain ⟨_,_,_,_,hb,_⟩ := h.cells8
  exact (fcells8 hb).2.1
theorem DraftAt.num {B x S : Nat} {w : World} {T : TV} (h : DraftAt B w x S T) : w.cell? ⟨x,0,none⟩ = some (.int .u64 (T.n : Int)) := by
  obtain ⟨Bs,mb,H,hD⟩ := h.un
  exact (cells3 hD.box).1
set_option maxRecDepth 20000 in
set_option maxHeartbeats 8000000 in
theorem tcommit_bad {B t f d x S main : Nat} {w : World} {F : FV} {T : TV} (hT : TxnAt B w t f (some x)) (hF : FileAt B w f d F) (hD : DraftAt B w x S T) (hst : F.st = false) (hn : F.mt.t + 1 = T.n) (hn9 : T.n < 18446744073709551616) (hm : main < 4294967296) (hr : rmain T.sp.en main = false) :
    Calls Tryz.prog 24 #[.pointer (some ⟨t,0,none⟩),.int .u32 (main : Int)] w fun r w' => r = .returned (.int .i64 1)∧TxnAt B w' t f none∧Kfr (fun k => k = some 150) B w w' := by
  have HS := Lib.hid (state_live hT)
  have HA := Lib.hid (abort_any hT)
  obtain ⟨c0,c1,_⟩ := cells2 hT.2
  have HFX := Lib.hid (fun W (k : Kfr (fun k => k = some 150) B w W) => hF.kfr k (by simp) (by simp) (by simp))
  have HDX := Lib.hid (fun W (k : Kfr (fun k => k = some 150) B w W) => hD.kfr k (by simp) (by simp) (by simp) (by simp) (by simp) (by simp))
  have HR := Lib.hid (fun W (k : DraftAt B W x S T) => rmain_any k hm (main : Int) rfl)
  rw [hr] at HR
  have h1 : ((F.mt.t : Int) + 1) = (T.n : Int) := by omega
  have hw1 : IntKind.u64.wrap (T.n : Int) = (T.n : Int) := by rw [show IntKind.u64.wrap (T.n : Int) = (T.n : Int) % 18446744073709551616 from rfl]; omega
  have hwr : (IntKind.u64.wrap (T.n : Int) != (T.n : Int)) = false := by rw [hw1]; exact bne_self_eq_false _
  have HWR := Lib.hid hwr
  clear hT hF hD hw1 hwr
  go_enter Tryz.func24,Tryz.ntmps24
  go_upto_region 6 with (first
    | (go_at_call 66; ((with_reducible refine HS.out.mono ?_); rintro r w1 ⟨rfl,rfl⟩))
    | (go_at_call 25; ((with_reducible refine HA.out.mono ?_); rintro r w2 ⟨rfl,hp,hk⟩); have HT2 := Lib.hid hp; have HK2 := Lib.hid hk; clear hp hk))
  have hk2 := HK2.out
  have HC := Lib.hid (fun W (g : w2.grownBy W none) => And.intro (cells2 ((HT2.out.new g).2)).1 (And.intro (FileAt.stuck7 ((HFX.out _ hk2).new g)).1 (And.intro (FileAt.txn ((HFX.out _ hk2).new g)) (DraftAt.num ((HDX.out _ hk2).new g)))))
  rw [hst] at HC
  clear hk2
  go_region_held3 (fun W => W.cell? ⟨t,0,none⟩ = some (.pointer (some ⟨f,0,none⟩))∧W.cell? ⟨f,7,none⟩ = some (.bool false)∧W.cell? ⟨f,1,none⟩ = some (.int .u64 (F.mt.t : Int))∧W.cell? ⟨x,0,none⟩ = some (.int .u64 (T.n : Int)))
    (with_reducible exact (HC.out _ (gdrew w2)))
    (fail)
  have HDD := Lib.hid ((HDX.out _ HK2.out).new (gdrew w2))
  have hwr := HWR.out
  try rw [hwr]
  clear hwr
  go_wp2_with (first
    | (go_at_call 70; ((with_reducible refine (HR.out _ HDD.out).mono ?_); rintro r w3 ⟨rfl,rfl⟩)))
  go_ret
  exact ⟨rfl,HT2.out.new (gdrew w2),HK2.out.trans (Kfr.of (gdrew w2))⟩
set_option maxRecDepth 20000 in
set_option maxHeartbeats 8000000 in
theorem tcommit_any {B t f d x S main : Nat} {w : World} {F : FV} {T : TV} (hT : TxnAt B w t f (some x)) (hF : FileAt B w f d F) (hD : DraftAt B w x S T) (hst : F.st = false) (hn : F.mt.t + 1 = T.n) (hn9 : T.n < 18446744073709551616) (hm : main < 4294967296) (hr : rmain T.sp.en main = true) {M : SM} (hP : PD B w d M) {Po : World→Ending→World→Prop}
    (hC : ∀ W,FileAt B W f d F→DraftAt B W x S T→PD B W d M→Calls Tryz.prog 71 #[.pointer (some ⟨f,0,none⟩),.pointer (some ⟨x,0,none⟩),.int .u32 (main : Int)] W fun r w' => ∃ e,r = .returned (.int .i64 e)∧Po W r w') :
    Calls Tryz.prog 24 #[.pointer (some ⟨t,0,none⟩),.int .u32 (main : Int)] w fun r w' => ∃ W,TxnAt B W t f none∧Kfr (fun k => k = some 150) B w W∧Po W r w' := by
  have HCM := Lib.hid hC
  have HPX := Lib.hid (fun W (k : Kfr (fun k => k = some 150) B w W) => hP.kfr k (by simp) (by simp) (by simp) (by simp))
  clear hC hP
  have HS := Lib.hid (state_live hT)
  have HA := Lib.hid (abort_any hT)
  obtain ⟨c0,c1,_⟩ := cells2 hT.2
  have HFX := Lib.hid (fun W (k : Kfr (fun k => k = some 150) B w W) => hF.kfr k (by simp) (by simp) (by simp))
  have HDX := Lib.hid (fun W (k : Kfr (fun k => k = some 150) B w W) => hD.kfr k (by simp) (by simp) (by simp) (by simp) (by simp) (by simp))
  have HR := Lib.hid (fun W (k : DraftAt B W x S T) => rmain_any k hm (main : Int) rfl)
  rw [hr] at HR
  have h1 : ((F.mt.t : Int) + 1) = (T.n : Int) := by omega
  have hw1 : IntKind.u64.wrap (T.n : Int) = (T.n : Int) := by rw [show IntKind.u64.wrap (T.n : Int) = (T.n : Int) % 18446744073709551616 from rfl]; omega
  have hwr : (IntKind.u64.wrap (T.n : Int) != (T.n : Int)) = false := by rw [hw1]; exact bne_self_eq_false _
  have HWR := Lib.hid hwr
  clear hT hF hD hw1 hwr
  go_enter Tryz.func24,Tryz.ntmps24
  go_upto_region 6 with (first
    | (go_at_call 66; ((with_reducible refine HS.out.mono ?_); rintro r w1 ⟨rfl,rfl⟩))
    | (go_at_call 25; ((with_reducible refine HA.out.mono ?_); rintro r w2 ⟨rfl,hp,hk⟩); have HT2 := Lib.hid hp; have HK2 := Lib.hid hk; clear hp hk))
  have hk2 := HK2.out
  have HC := Lib.hid (fun W (g : w2.grownBy W none) => And.intro (cells2 ((HT2.out.new g).2)).1 (And.intro (FileAt.stuck7 ((HFX.out _ hk2).new g)).1 (And.intro (FileAt.txn ((HFX.out _ hk2).new g)) (DraftAt.num ((HDX.out _ hk2).new g)))))
  rw [hst] at HC
  clear hk2
  go_region_held3 (fun W => W.cell? ⟨t,0,none⟩ = some (.pointer (some ⟨f,0,none⟩))∧W.cell? ⟨f,7,none⟩ = some (.bool false)∧W.cell? ⟨f,1,none⟩ = some (.int .u64 (F.mt.t : Int))∧W.cell? ⟨x,0,none⟩ = some (.int .u64 (T.n : Int)))
    (with_reducible exact (HC.out _ (gdrew w2)))
    (fail)
  have HDD := Lib.hid ((HDX.out _ HK2.out).new (gdrew w2))
  have HFD := Lib.hid ((HFX.out _ HK2.out).new (gdrew w2))
  have HPD := Lib.hid ((HPX.out _ HK2.out).new (gdrew w2))
  have ht0 := (cells2 (HT2.out.new (gdrew w2)).2).1
  have hwr := HWR.out
  try rw [hwr]
  clear hwr
  go_wp2_with (first
    | (go_at_call 70; ((with_reducible refine (HR.out _ HDD.out).mono ?_); rintro r w3 ⟨rfl,rfl⟩))
    | (go_at_call 71; ((with_reducible refine (HCM.out _ HFD.out HDD.out HPD.out).mono ?_); rintro r w4 ⟨e9,rfl,hk⟩); have HPO := Lib.hid hk; clear hk))
  go_ret
  exact ⟨w2.drew,HT2.out.new (gdrew w2),HK2.out.trans (Kfr.of (gdrew w2)),HPO.out⟩
end Go.Proofs.YtnnmpaenainogaaGreat

namespace Go.Proofs.YtnnmpaenainogaaGreat
open Go.RowKit Go.Maps
def flOf (F : FV) (rs : List Rc) : Fl := ⟨F.mt.t,F.mt.e,F.mt.m,rs,F.ls⟩
theorem give_list {lm o : Nat} {f : Fl} {H I G : List Nat} {M : Sp} {V : Nat→Nat} {p : Nat} (hf : FInv lm f H) (h : CInv lm o f H M V I G []) (hp : p∈f.ls) (hG : p ∉ G) :
    (giveM M p).2 = 0∧CInv lm o f H (giveM M p).1 (upd V p 4) I (G++[p]) [] := by
  have hV := h.l0 p hp hG
  have hr := hf.rl p hp
  rcases g_give (M' := (giveM M p).1) (e := (giveM M p).2) h.g rfl with ⟨_,k,_⟩ | ⟨e,_,_,_,_,_,_,hg⟩ | ⟨_,_,k⟩
  · omega
  · exact ⟨e,c_list hf h hp hG hg⟩
  · exact absurd (.inr ⟨hV,hr.1,hr.2⟩) k
theorem frAll_lists {lm o : Nat} {f : Fl} {H I : List Nat} (hf : FInv lm f H) : ∀ (l G : List Nat) (T : TV) (V : Nat→Nat),f.ls = G++l→CInv lm o f H T.sp V I G []→(∀ q∈T.K,V q = 3) →
    ∃ sp1 V1,frAll T l = ({ T with sp := sp1 },0)∧CInv lm o f H sp1 V1 I f.ls []∧∀ q,q ∉ f.ls→V1 q = V q
  | [],G,T,V,he,h,_ => ⟨T.sp,V,rfl,by rw [he,List.append_nil]; exact h,fun _ _ => rfl⟩
  | p :: l,G,T,V,he,h,hK => by
    have hp : p∈f.ls := by rw [he]; simp
    have hG : p ∉ G := fun hx => by
      have := (hf.apart).1
      rw [he] at this
      exact (List.nodup_append.1 this).2.2 p hx p (by simp) rfl
    obtain ⟨g1,g2⟩ := give_list hf h hp hG
    have hV := h.l0 p hp hG
    have hpK : p ∉ T.K := fun hx => by have := hK p hx; omega
    have e1 : freeT T p = ({ T with sp := (giveM T.sp p).1 },0) := by
      unfold freeT; rw [if_pos g1,del_no hpK]
    obtain ⟨sp1,V1,a,b,c⟩ := frAll_lists hf l (G++[p]) { T with sp := (giveM T.sp p).1 } (upd V p 4) (by rw [he]; simp) g2 (fun q hq => by rw [upd_other V 4 (fun e => by subst e; exact hpK hq)]; exact hK q hq)
    refine ⟨sp1,V1,?_,b,fun q hq => by rw [c q hq,upd_other V 4 (fun e => by subst e; exact hq hp)]⟩
    unfold frAll
    rw [e1]
    exact a
theorem take_lists {lm o S : Nat} {O : Int} {f : Fl} {H I G : List Nat} (hf : FInv lm f H) {a b : Sp} {l m : List Nat} (h : TakeTo S O a l b m) : ∀ {V : Nat→Nat},CInv lm o f H a V I G l →
    ∃ V',CInv lm o f H b V' I G m∧(∀ q,q ∉ m→V' q = V q)∧∀ q∈l,q∈m := by
  induction h with
  | refl l => intro V hc; exact ⟨V,hc,fun _ _ => rfl,fun _ h => h⟩
  | step hab hlt ht ih =>
    rename_i b c l m p
    intro V hc
    obtain ⟨V',h1,h2,h3⟩ := ih hc
    rcases g_take h1.g ht with ⟨_,hx,_,hg⟩ | ⟨e,_⟩
    · refine ⟨upd V' p 3,c_take hf h1 ?_ hg,fun q hq => ?_,fun q hq => by simp [h3 q hq]⟩
      · rcases hx with ⟨k,_⟩ | ⟨k,k2,_⟩
        · exact .inl k
        · exact .inr ⟨k,k2⟩
      · have hq1 : q ∉ m := fun x => hq (by simp [x])
        have hq2 : q≠p := fun x => hq (by simp [x])
        rw [upd_other V' 3 hq2,h2 q hq1]
    · exact absurd e (by decide)
theorem take_same {S : Nat} {O : Int} {a b : Sp} {l m : List Nat} (h : TakeTo S O a l b m) : b.go = a.go∧b.ws = a.ws := by
  induction h with
  | refl l => exact ⟨rfl,rfl⟩
  | step hab hlt ht ih =>
    rename_i b c l m p
    have : c.go = b.go∧c.ws = b.ws := by
      unfold takeM at ht
      split at ht
      · cases ht; exact ⟨rfl,rfl⟩
      · split at ht <;> cases ht
        exact ⟨rfl,rfl⟩
    exact ⟨this.1.trans ih.1,this.2.trans ih.2⟩
theorem flatR_allOf (rs : List Rc) : (flatR rs).length = (allOf rs).length := by
  induction rs with
  | nil => rfl
  | cons r rs ih =>
    have e : flatR (r :: rs) = pairsOf r++flatR rs := rfl
    have e2 : allOf (r :: rs) = r.2++allOf rs := rfl
    rw [e,e2,List.length_append,List.length_append,ih]
    simp [pairsOf]
theorem flat_recs (M : Sp) (t : Nat) : (flatR (recsM M t)).length = M.us.length + ((allOf M.ws).length + M.go.length) := by
  rw [flatR_allOf]
  unfold recsM
  rw [gallOf_append,gallOf_append,gallOf_recM,gallOf_recM]
  simp only [List.length_append]; omega
theorem putT_K (T : TV) (l : List Nat) (ps : List Pr) (M S : Nat) : ∀ k,k≤l.length→∀ q,q∈(putT T l ps M S k).K↔q∈T.K∨q∈l.take k
  | 0,_,q => by simp [putT]
  | k + 1,hk,q => by
    have hlt : k < l.length := by omega
    show q∈ins (l.getD k 0) (putT T l ps M S k).K↔_
    rw [mem_ins,putT_K T l ps M S k (by omega) q,List.take_succ_eq_append_getElem hlt]
    have : l.getD k 0 = l[k] := by simp [List.getD_eq_getElem?_getD,hlt]
    rw [this]
    simp only [List.mem_append,List.mem_singleton]
    constructor
    · rintro (h | h | h)
      · exact .inr (.inr h)
      · exact .inl h
      · exact .inr (.inl h)
    · rintro (h | h | h)
      · exact .inr (.inl h)
      · exact .inr (.inr h)
      · exact .inl h
theorem putT_srt (T : TV) (l : List Nat) (ps : List Pr) (M S : Nat) (h : Srt T.K) : ∀ k,Srt (putT T l ps M S k).K
  | 0 => h
  | k + 1 => srt_ins (putT_srt T l ps M S h k)
theorem nodup_at {l : List Nat} (h : l.Nodup) {i j : Nat} (hi : i < l.length) (hj : j < l.length) (e : l[i] = l[j]) : i = j := by
  have k := List.pairwise_iff_getElem.1 h
  rcases Nat.lt_trichotomy i j with x | x | x
  · exact absurd e (k i j hi hj x)
  · exact x
  · exact absurd e.symm (k j i hj hi x)
theorem putT_C (T : TV) {l : List Nat} (ps : List Pr) (M S : Nat) (hnd : l.Nodup) : ∀ k,k≤l.length →
    (∀ q,q ∉ l.take k→(putT T l ps M S k).C q = T.C q)∧∀ j,j < k→(putT T l ps M S k).C (l.getD j 0) = frB (partF ps M j) ((aftL l (j + 1) : Nat) : Int) S
  | 0,_ => ⟨fun _ _ => rfl,fun j hj => by omega⟩
  | k + 1,hk => by
    have hlt : k < l.length := by omega
    obtain ⟨h1,h2⟩ := putT_C T ps M S hnd k (by omega)
    have e : l.getD k 0 = l[k] := by simp [List.getD_eq_getElem?_getD,hlt]
    refine ⟨fun q hq => ?_,fun j hj => ?_⟩
    · rw [List.take_succ_eq_append_getElem hlt] at hq
      simp only [List.mem_append,List.mem_singleton,not_or] at hq
      show updC (putT T l ps M S k).C (l.getD k 0) _ q = _
      unfold updC
      rw [e,if_neg hq.2]
      exact h1 q hq.1
    · show updC (putT T l ps M S k).C (l.getD k 0) _ (l.getD j 0) = _
      unfold updC
      by_cases ej : j = k
      · subst ej; rw [if_pos rfl]
      · have hj2 : j < l.length := by omega
        have e2 : l.getD j 0 = l[j] := by simp [List.getD_eq_getElem?_getD,hj2]
        rw [if_neg (by rw [e,e2]; exact fun x => ej (nodup_at hnd hj2 hlt x))]
        exact h2 j (by omega)
structure Still (p : Nat) (b : List Int) (M : SM) : Prop where
  lt : p < M.pg.length
  at_ : pgAt M.pg p = (b,b)
  no : p ∉ M.loose.map (·.1)
theorem Still.last {p : Nat} {b : List Int} {M : SM} (h : Still p b M) : lastM M p = b := by
  have := h.at_
  show (pgAt M.pg p).2 = b
  rw [this]
theorem Still.cnt {p : Nat} {b : List Int} {M : SM} (h : Still p b M) : Still p b (cntM M) := ⟨h.lt,h.at_,h.no⟩
theorem Still.wr {p i : Nat} {b c : List Int} {M : SM} (h : Still p b M) (hi : i≠p) (hl : i < M.pg.length) : Still p b (wrM M i c) := by
  refine ⟨by simp [wrM]; exact h.lt,?_,?_⟩
  · show pgAt (M.pg.set i _) p = _
    rw [pgAt_set _ _ _ _ hl,if_neg hi]; exact h.at_
  · show p ∉ (M.loose++[(i,c)]).map (·.1)
    simp only [List.map_append,List.map_cons,List.map_nil,List.mem_append,List.mem_singleton,not_or]
    exact ⟨h.no,fun e => hi e.symm⟩
theorem syncP_off (p : Nat) : ∀ (l : List (Nat × List Int)) (pg : List (List Int × List Int)),p ∉ l.map (·.1)→pgAt (syncP pg l) p = pgAt pg p
  | [],_,_ => rfl
  | x :: l,pg,h => by
    simp only [List.map_cons,List.mem_cons,not_or] at h
    rw [syncP,syncP_off p l _ h.2]
    by_cases hx : x.1 < pg.length
    · rw [pgAt_set _ _ _ _ hx,if_neg (fun e => h.1 e.symm)]
    · rw [List.set_eq_of_length_le (by omega)]
theorem Still.sync {p : Nat} {b : List Int} {M : SM} (h : Still p b M) : Still p b (syncM M) := by
  refine ⟨by show p < (syncP M.pg M.loose).length; rw [syncP_len]; exact h.lt,?_,by show p ∉ [].map _; simp⟩
  show pgAt (syncP M.pg M.loose) p = _
  rw [syncP_off p _ _ h.no]; exact h.at_
theorem Still.grow {p k : Nat} {b : List Int} {M : SM} {o : Bool} (h : Still p b M) : Still p b (growM M k o) := by
  refine ⟨by simp [growM]; have := h.lt; omega,?_,h.no⟩
  have := h.at_
  show (M.pg++_).getD p ([],[]) = _
  rw [List.getD_eq_getElem?_getD,List.getElem?_append_left h.lt,← List.getD_eq_getElem?_getD]
  exact this
theorem Still.jgr {p n : Nat} {b : List Int} {M : SM} (h : Still p b M) : Still p b (jgrM M n) := by
  unfold jgrM
  split
  · exact h
  · split
    · exact h.cnt.grow
    · exact h.cnt
theorem crashP_off (ks : List Int) (p : Nat) : ∀ (l : List (Nat × List Int)) (i : Nat) (pg : List (List Int × List Int)),p ∉ l.map (·.1)→pgAt (crashP ks i pg l) p = pgAt pg p
  | [],_,_,_ => rfl
  | x :: l,i,pg,h => by
    simp only [List.map_cons,List.mem_cons,not_or] at h
    rw [crashP,crashP_off ks p l _ _ h.2]
    unfold crashS
    by_cases hx : x.1 < pg.length
    · rw [pgAt_set _ _ _ _ hx,if_neg (fun e => h.1 e.symm)]
    · rw [List.set_eq_of_length_le (by omega)]
theorem Still.crash {p : Nat} {b : List Int} {M : SM} (h : Still p b M) (ks : List Int) : Still p b (crashM M ks) := by
  refine ⟨by show p < (crashP ks 0 M.pg M.loose).length; rw [crashP_len]; exact h.lt,?_,by show p ∉ [].map _; simp⟩
  show pgAt (crashP ks 0 M.pg M.loose) p = _
  rw [crashP_off ks p _ _ _ h.no]; exact h.at_
theorem Still.wrs {p : Nat} {b : List Int} (C : Nat→List Int) : ∀ (l : List Nat) {M M1 : SM} {e : Int},wrsM C M l = (M1,e)→Still p b M→p ∉ l→(∀ q∈l,q < M.pg.length)→Still p b M1
  | [],M,M1,e,h,hs,_,_ => by
    simp only [wrsM,Prod.mk.injEq] at h
    obtain ⟨rfl,_⟩ := h
    exact hs
  | q :: l,M,M1,e,h,hs,hp,hl => by
    simp only [List.mem_cons,not_or] at hp
    unfold wrsM at h
    split at h
    · have hq := hl q (by simp)
      have ew : (wrM M q (C q)).pg.length = M.pg.length := by simp [wrM]
      exact Still.wrs C l h (hs.wr (fun x => hp.1 x.symm) hq) hp.2 (fun y hy => by rw [ew]; exact hl y (by simp [hy]))
    · simp only [Prod.mk.injEq] at h
      obtain ⟨rfl,_⟩ := h
      exact hs.cnt
theorem wrs_last (C : Nat→List Int) : ∀ (l : List Nat) {M M1 : SM},wrsM C M l = (M1,0)→(∀ q∈l,q < M.pg.length)→∀ p,lastM M1 p = if p∈l then C p else lastM M p
  | [],M,M1,h,_,p => by
    simp only [wrsM,Prod.mk.injEq] at h
    obtain ⟨rfl,_⟩ := h
    simp
  | q :: l,M,M1,h,hl,p => by
    unfold wrsM at h
    split at h
    · have hq := hl q (by simp)
      have ew : (wrM M q (C q)).pg.length = M.pg.length := by simp [wrM]
      rw [wrs_last C l h (fun y hy => by rw [ew]; exact hl y (by simp [hy])) p,lastM_wr M q p (C q) hq]
      by_cases e1 : p∈l
      · rw [if_pos e1,if_pos (by simp [e1])]
      · rw [if_neg e1]
        by_cases e2 : p = q
        · subst e2; simp
        · rw [if_neg e2,if_neg (by simp [e1,e2])]
    · simp at h
theorem wrs_wf (C : Nat→List Int) : ∀ (l : List Nat) {M M1 : SM} {e : Int},wrsM C M l = (M1,e)→WF M→(∀ q∈l,q < M.pg.length)→WF M1
  | [],M,M1,e,h,hs,_ => by
    simp only [wrsM,Prod.mk.injEq] at h
    obtain ⟨rfl,_⟩ := h
    exact hs
  | q :: l,M,M1,e,h,hs,hl => by
    unfold wrsM at h
    split at h
    · have hq := hl q (by simp)
      have ew : (wrM M q (C q)).pg.length = M.pg.length := by simp [wrM]
      exact wrs_wf C l h (hs.wr hq) (fun y hy => by rw [ew]; exact hl y (by simp [hy]))
    · simp only [Prod.mk.injEq] at h
      obtain ⟨rfl,_⟩ := h
      exact hs.cnt
theorem wrs_byd (C : Nat→List Int) : ∀ (l : List Nat) {M M1 : SM} {e : Int},wrsM C M l = (M1,e)→Byd M→(∀ q∈l,q < M.pg.length)→(∀ q∈l,Byt (C q)∧(C q).length = M.size)→Byd M1
  | [],M,M1,e,h,hs,_,_ => by
    simp only [wrsM,Prod.mk.injEq] at h
    obtain ⟨rfl,_⟩ := h
    exact hs
  | q :: l,M,M1,e,h,hs,hl,hC => by
    unfold wrsM at h
    split at h
    · have hq := hl q (by simp)
      have ew : (wrM M q (C q)).pg.length = M.pg.length := by simp [wrM]
      exact wrs_byd C l h (hs.wr hq (hC q (by simp)).1 (hC q (by simp)).2) (fun y hy => by rw [ew]; exact hl y (by simp [hy])) (fun y hy => hC y (by simp [hy]))
    · simp only [Prod.mk.injEq] at h
      obtain ⟨rfl,_⟩ := h
      exact hs.cnt
theorem wrs_wel (C : Nat→List Int) : ∀ (l : List Nat) {M M1 : SM} {e : Int} {c : Nat},wrsM C M l = (M1,e)→Wel M c→(∀ q∈l,q < M.pg.length)→Wel M1 (c + l.length)∧M1.pg.length = M.pg.length∧M1.size = M.size∧M1.limit = M.limit
  | [],M,M1,e,c,h,hs,_ => by
    simp only [wrsM,Prod.mk.injEq] at h
    obtain ⟨rfl,_⟩ := h
    exact ⟨hs,rfl,rfl,rfl⟩
  | q :: l,M,M1,e,c,h,hs,hl => by
    unfold wrsM at h
    split at h
    · have hq := hl q (by simp)
      have ew : (wrM M q (C q)).pg.length = M.pg.length := by simp [wrM]
      obtain ⟨a,b,c1,d⟩ := wrs_wel C l h (hs.wr (bs := C q) hq) (fun y hy => by rw [ew]; exact hl y (by simp [hy]))
      exact ⟨a.mono (by simp; omega),b.trans ew,c1,d⟩
    · simp only [Prod.mk.injEq] at h
      obtain ⟨rfl,_⟩ := h
      exact ⟨hs.cnt.mono (by simp),rfl,rfl,rfl⟩
end Go.Proofs.YtnnmpaenainogaaGreat

namespace Go.Proofs.YtnnmpaenainogaaGreat
open Go.RowKit Go.Maps
theorem jgr_wf {M : SM} {c n : Nat} (h : WF M) (hW : Wel M c) : WF (jgrM M n) := by
  unfold jgrM
  split
  · exact h
  · split
    · exact wf_grow h hW.lin
    · exact h.cnt
theorem jgr_mono (M : SM) (n : Nat) : M.pg.length≤(jgrM M n).pg.length := by
  unfold jgrM
  split
  · exact Nat.le_refl _
  · split
    · simp [growM,cntM]
    · exact Nat.le_refl _
structure DwOk (T : TV) (M M1 : SM) (e : Int) (c : Nat) : Prop where
  wel : Wel M1 (c + 1 + T.K.length)
  byd : Byd M1
  wf : WF M1
  sz : M1.size = M.size
  li : M1.limit = M.limit
  ln : M.pg.length≤M1.pg.length
  still : ∀ p b,Still p b M→p ∉ T.K→Still p b M1
  en : e = 0→T.sp.en≤M1.pg.length
  last : e = 0→∀ p,p∈T.K→lastM M1 p = T.C p
theorem dw_ok {T : TV} {M M1 : SM} {e : Int} {c : Nat} (h : dwM T M = (M1,e)) (hW : Wel M c) (hB : Byd M) (hF : WF M) (hK : ∀ p∈T.K,p < T.sp.en) (hC : ∀ p∈T.K,Byt (T.C p)∧(T.C p).length = M.size) : DwOk T M M1 e c := by
  have hs := jgrM_size M T.sp.en
  have hW1 := hW.jgr (n := T.sp.en)
  have hB1 := hB.jgr T.sp.en
  have hF1 := jgr_wf (n := T.sp.en) hF hW
  have hm := jgr_mono M T.sp.en
  unfold dwM at h
  split at h
  · rename_i hj
    have hl := jgr_len hj
    have hK1 : ∀ p∈T.K,p < (jgrM M T.sp.en).pg.length := fun p hp => by have := hK p hp; omega
    obtain ⟨a,b,c1,d⟩ := wrs_wel T.C T.K h hW1 hK1
    exact ⟨a,wrs_byd T.C T.K h hB1 hK1 (fun p hp => by rw [hs.1]; exact hC p hp),wrs_wf T.C T.K h hF1 hK1,c1.trans hs.1,d.trans hs.2.1,by omega,
      fun p y hy hp => Still.wrs T.C T.K h hy.jgr hp hK1,fun _ => by omega,fun e0 p hp => by subst e0; rw [wrs_last T.C T.K h hK1 p,if_pos hp]⟩
  · rename_i hj
    simp only [Prod.mk.injEq] at h
    obtain ⟨rfl,rfl⟩ := h
    exact ⟨hW1.mono (by omega),hB1,hF1,hs.1,hs.2.1,hm,fun p y hy _ => hy.jgr,fun k => absurd k hj,fun k => absurd k hj⟩
theorem tornB_byt {a b : List Int} (ha : Byt a) (hb : Byt b) (x k : Nat) : Byt (tornB a b x k) := fun y hy => by
  obtain ⟨j,_,rfl⟩ := List.mem_map.1 hy
  split
  · exact hb.get j
  · exact ha.get j
theorem byd_crashP {n : Nat} (ks : List Int) : ∀ (l : List (Nat × List Int)) (i : Nat) (pg : List (List Int × List Int)),(∀ x∈l,x.1 < pg.length)→(∀ x∈l,Byt x.2∧x.2.length = n)→(∀ x∈pg,(Byt x.1∧x.1.length = n)∧Byt x.2∧x.2.length = n)→∀ x∈crashP ks i pg l,(Byt x.1∧x.1.length = n)∧Byt x.2∧x.2.length = n
  | [],_,pg,_,_,h => h
  | y :: l,i,pg,h0,h1,h => by
    rw [crashP]
    refine byd_crashP ks l _ _ (fun x hx => by unfold crashS; rw [List.length_set]; exact h0 x (by simp [hx])) (fun x hx => h1 x (by simp [hx])) fun x hx => ?_
    have hy := h0 y (by simp)
    have hg : (Byt (pg.getD y.1 ([],[])).1∧(pg.getD y.1 ([],[])).1.length = n) := by
      rw [List.getD_eq_getElem?_getD,List.getElem?_eq_getElem hy]
      exact (h _ (List.getElem_mem hy)).1
    unfold crashS at hx
    rcases List.mem_or_eq_of_mem_set hx with e | e
    · exact h x e
    · subst e
      have k1 := (h1 y (by simp)).1
      split
      · exact ⟨⟨tornB_byt hg.1 k1 _ _,by rw [tornB_len]; exact hg.2⟩,tornB_byt hg.1 k1 _ _,by rw [tornB_len]; exact hg.2⟩
      · exact ⟨hg,hg⟩
theorem Byd.crash {M : SM} (h : Byd M) (hl : ∀ x∈M.loose,x.1 < M.pg.length) (ks : List Int) : Byd (crashM M ks) := ⟨byd_crashP ks M.loose 0 M.pg hl h.lo h.pg,by intro x hx; cases hx⟩
structure Rest (S lim c : Nat) (M : SM) (F : FV) (rs : List Rc) (H : List Nat) (D : Nat→List Int) : Prop where
  sz : M.size = S
  li : M.limit = lim
  wel : Wel M c
  byd : Byd M
  wf : WF M
  lo : M.loose = []
  st : F.st = false
  mo : MtOk F.mt
  mr : mright F.mt = true
  tb : F.mt.t≤c + 1
  sl : lastM M (F.mt.t % 2) = mpage F.mt S
  ot : (lastM M ((F.mt.t + 1) % 2)).drop 128 = List.replicate (S - 128) 0
  ol : mgetE (lastM M ((F.mt.t + 1) % 2)) = 0→(mgetM (lastM M ((F.mt.t + 1) % 2))).t < F.mt.t
  len : F.mt.e≤M.pg.length
  ps : F.ps = flatR rs
  inv : FInv lim (flOf F rs) H
  ch : LCh M F.mt.e F.mt.f F.ls F.ps
  dat : ∀ p∈H,lastM M p = D p
section
variable {S lim c : Nat} {M : SM} {F : FV} {rs : List Rc} {H : List Nat} {D : Nat→List Int}
theorem LCh.to {M M' : SM} {E : Nat} : ∀ {ls : List Nat} {p : Nat} {ps : List Pr},(∀ q∈ls,lastM M' q = lastM M q)→LCh M E p ls ps→LCh M' E p ls ps
  | [],_,_,_,h => h
  | q :: ls,p,ps,hM,h => by
    obtain ⟨rfl,h1,h2,l,x,rest,h3,e,h4⟩ := h
    exact ⟨rfl,h1,h2,l,x,rest,by rw [hM p (by simp)]; exact h3,e,h4.to fun q hq => hM q (by simp [hq])⟩
theorem Rest.s1 (h : Rest S lim c M F rs H D) : 512≤S := by have := h.wel.s1; rw [h.sz] at this; exact this
theorem Rest.s2 (h : Rest S lim c M F rs H D) : S≤4096 := by have := h.wel.s2; rw [h.sz] at this; exact this
theorem Rest.l1 (h : Rest S lim c M F rs H D) : lim≤65536 := by have := h.wel.l; rw [h.li] at this; exact this
theorem Rest.e2 (h : Rest S lim c M F rs H D) : 2≤F.mt.e := h.inv.e2
theorem Rest.el (h : Rest S lim c M F rs H D) : F.mt.e≤lim := h.inv.el
theorem Rest.t1 (h : Rest S lim c M F rs H D) : 1≤F.mt.t := mright_t h.mr
theorem Rest.len2 (h : Rest S lim c M F rs H D) : 2≤M.pg.length := Nat.le_trans h.e2 h.len
theorem Rest.keep (h : Rest S lim c M F rs H D) {M' : SM} {c' : Nat} (sz : M'.size = S) (li : M'.limit = lim) (wel : Wel M' c') (hc : c≤c') (byd : Byd M') (wf : WF M') (lo : M'.loose = []) (len : M.pg.length≤M'.pg.length)
    (hs : ∀ p,p∈F.ls∨p∈H→lastM M' p = lastM M p) (h01 : ∀ p,p < 2→lastM M' p = lastM M p) : Rest S lim c' M' F rs H D :=
  ⟨sz,li,wel,byd,wf,lo,h.st,h.mo,h.mr,by have := h.tb; omega,by rw [h01 _ (by omega)]; exact h.sl,by rw [h01 _ (by omega)]; exact h.ot,by rw [h01 _ (by omega)]; exact h.ol,by have := h.len; omega,h.ps,h.inv,
    h.ch.to fun q hq => hs q (.inl hq),fun p hp => by rw [hs p (.inr hp)]; exact h.dat p hp⟩
theorem Rest.mono (h : Rest S lim c M F rs H D) {c' : Nat} (k : c≤c') : Rest S lim c' M F rs H D := h.keep h.sz h.li (h.wel.mono k) k h.byd h.wf h.lo (Nat.le_refl _) (fun _ _ => rfl) (fun _ _ => rfl)
theorem Rest.cnt (h : Rest S lim c M F rs H D) : Rest S lim (c + 1) (cntM M) F rs H D := h.keep (M' := cntM M) h.sz h.li h.wel.cnt (by omega) h.byd.cnt h.wf.cnt h.lo (Nat.le_refl _) (fun _ _ => rfl) (fun _ _ => rfl)
theorem Rest.cntK (h : Rest S lim c M F rs H D) : ∀ k,Rest S lim (c + k) (Proofs.YtnnmpaenainogaaGreat.cntK M k) F rs H D
  | 0 => h
  | k + 1 => (Rest.cntK h k).cnt
theorem Rest.sync (h : Rest S lim c M F rs H D) : Rest S lim (c + 1) (syncM M) F rs H D :=
  h.keep (M' := syncM M) h.sz h.li h.wel.sync (by omega) (h.byd.sync h.wel.lin) (h.wf.sync h.wel.lin) rfl (by show _≤(syncP M.pg M.loose).length; rw [syncP_len]; exact Nat.le_refl _) (fun p _ => lastM_sync M p) (fun p _ => lastM_sync M p)
theorem Rest.fail (h : Rest S lim c M F rs H D) (n : Int) (h1 : -9223372036854775808≤n) (h2 : n≤9223372036854775807) : Rest S lim c { M with fails := decide (0≤n),ahead := n } F rs H D :=
  h.keep (M' := { M with fails := decide (0≤n),ahead := n }) h.sz h.li (h.wel.fail n h1 h2) (Nat.le_refl _) ⟨h.byd.pg,h.byd.lo⟩ h.wf h.lo (Nat.le_refl _) (fun _ _ => rfl) (fun _ _ => rfl)
theorem rest_pg (h : Rest S lim c M F rs H D) {p : Nat} (hp : p < M.pg.length) : Still p (lastM M p) M := by
  refine ⟨hp,?_,by rw [h.lo]; simp⟩
  have e := h.wf p hp
  rw [h.lo] at e
  refine Prod.ext ?_ rfl
  exact e.symm
theorem Rest.crash (h : Rest S lim c M F rs H D) (ks : List Int) : Rest S lim c (crashM M ks) F rs H D := by
  have hl : ∀ p,p < M.pg.length→lastM (crashM M ks) p = lastM M p := fun p hp => ((rest_pg h hp).crash ks).last
  have e2 := h.len2
  have hle := h.len
  exact h.keep (M' := crashM M ks) h.sz h.li (h.wel.crash ks) (Nat.le_refl _) (h.byd.crash h.wel.lin ks) (h.wf.crash h.wel.lin) rfl (by show _≤(crashP ks 0 M.pg M.loose).length; rw [crashP_len]; exact Nat.le_refl _)
    (fun p hp => hl p (by
      rcases hp with k | k
      · have := (h.inv.rl p k).2; have : p < F.mt.e := this; omega
      · have := (h.inv.rh p k).2; have : p < F.mt.e := this; omega)) (fun p hp => hl p (by omega))
theorem mpage_nz (m : Mt) (S : Nat) : allZ (mpage m S) = false := by
  unfold mpage told
  simp [RUB,allZ]
theorem rest_choose (h : Rest S lim c M F rs H D) : chM (lastM M 0) (lastM M 1) = F.mt := by
  obtain ⟨g1,g2⟩ := get_page h.mo h.mr h.s1 h.s2
  have t1 := h.t1
  have hs := h.sl
  have ho := h.ol
  rcases Nat.mod_two_eq_zero_or_one F.mt.t with e | e
  · have e' : (F.mt.t + 1) % 2 = 1 := by omega
    rw [e] at hs
    rw [e'] at ho
    have f0 : firstM (lastM M 0) = F.mt := by
      unfold firstM
      rw [if_pos (by unfold isOf; rw [hs,g1,g2,e]; rfl),hs,g2]
    unfold chM
    rw [f0,if_neg]
    rintro ⟨k1,k2⟩
    have := ho (isOf_t k1).1
    omega
  · have e' : (F.mt.t + 1) % 2 = 0 := by omega
    rw [e] at hs
    rw [e'] at ho
    have f0 : (firstM (lastM M 0)).t < F.mt.t := by
      unfold firstM
      split
      · rename_i k; exact ho (isOf_t k).1
      · show 0 < F.mt.t; omega
    unfold chM
    rw [if_pos,hs,g2]
    rw [hs,g2]
    exact ⟨by unfold isOf; rw [g1,g2,e]; rfl,f0⟩
theorem rest_lmR (h : Rest S lim c M F rs H D) : lmR M = (F.mt,0)∧lmM M = Proofs.YtnnmpaenainogaaGreat.cntK M 2 := by
  have hl := h.len2
  have hb : blankM M = false := by
    have hs := h.sl
    unfold blankM
    rcases Nat.mod_two_eq_zero_or_one F.mt.t with e | e
    · rw [e] at hs; rw [hs,mpage_nz]; simp
    · rw [e] at hs; rw [hs,mpage_nz]; simp
  constructor
  · unfold lmR
    rw [if_neg (by omega),if_neg (by omega),if_neg (by simp [hb])]
    unfold nmR
    rw [if_pos,rest_choose h]
    unfold nmOk
    rw [rest_choose h]
    have := h.len; have := h.el; have := h.li; have := h.t1
    exact ⟨by omega,by omega⟩
  · unfold lmM
    rw [if_neg (by omega),if_neg (by omega),if_neg (by simp [hb])]
theorem rest_opM (h : Rest S lim c M F rs H D) : opM M = Proofs.YtnnmpaenainogaaGreat.cntK (syncM M) 2 := (rest_lmR h.sync).2
theorem rest_ok (h : Rest S lim c M F rs H D) : OpOk M F := by
  have h2 := h.sync
  refine ⟨(rest_lmR h2).1,?_,h.inv.apart.1,?_,h.st⟩
  · rw [rest_opM h]; exact (h2.cntK 2).ch
  · have hok : Okr F.mt.e rs := h.inv.ok
    rw [h.ps,gather_flat hok]
    unfold okRecsM
    rw [right_iff.2 hok]
    simp only [Bool.true_and,Bool.not_eq_true',anyLater,List.any_eq_false,decide_eq_true_eq]
    intro r hr
    have := h.inv.tx r hr
    show ¬ F.mt.t < r.1
    have : r.1≤F.mt.t := this
    omega
theorem opOk_uniq {M : SM} {F G : FV} (h : OpOk M F) (k : OpOk M G) : G = F := by
  have e1 : F.mt = G.mt := by have := h.mt.symm.trans k.mt; simpa using this
  have hc := h.ch
  rw [e1] at hc
  obtain ⟨e2,e3⟩ := hc.uniq k.ch
  have e4 : F.st = G.st := by rw [h.st,k.st]
  cases F; cases G
  simp only at e1 e2 e3 e4
  subst e1 e2 e3 e4
  rfl
theorem Rest.reopen {B d : Nat} {w w' : World} {r : Ending} (h : Rest S lim c M F rs H D) (k : OpenR B d w M r w') :
    ∃ f n,n≤lim + 1∧r = .returned (.tuple #[.pointer (some ⟨f,0,none⟩),.int .i64 0])∧PD B w' d (Proofs.YtnnmpaenainogaaGreat.cntK (opM M) n)∧FileAt w.heap.size w' f d F∧Dfr B w w'∧Rest S lim (c + 3 + n) (Proofs.YtnnmpaenainogaaGreat.cntK (opM M) n) F rs H D := by
  obtain ⟨⟨n,hn,hp⟩,hd,ho⟩ := k
  rcases ho with ⟨G,f,hG,hr,hf⟩ | ⟨_,hno⟩
  · obtain rfl := opOk_uniq (rest_ok h) hG
    refine ⟨f,n,by have := h.li; omega,hr,hp,hf,hd,?_⟩
    have h3 := (h.sync.cntK 2).cntK n
    rw [← rest_opM h] at h3
    exact h3
  · exact absurd (rest_ok h) (hno F)
theorem Rest.calm {n : Nat} (h : Rest S lim c M F rs H D) (hf : M.fails = false) : (Proofs.YtnnmpaenainogaaGreat.cntK (opM M) n).fails = false := by
  rw [rest_opM h]
  exact cntK_calm (cntK_calm (sync_calm hf) 2) n
end
def fv0 : FV := ⟨fm0,[],[],false⟩
theorem mget_zero (n : Nat) : mgetE (List.replicate n 0)≠0 := fun h => by
  have := (mget_told h).mark
  rw [List.take_replicate] at this
  have h2 := (mget_told h).lo
  rw [List.length_replicate] at h2
  rw [show min 4 n = 4 by omega] at this
  exact absurd this (by decide)
theorem finv_first {lim : Nat} (hl : 2≤lim) : FInv lim (flOf fv0 []) [] where
  e2 := Nat.le_refl _
  el := hl
  ok := ⟨List.Pairwise.nil,(by intro r hr; cases hr),List.Pairwise.nil⟩
  tx := by intro r hr; cases hr
  nd := by simp [flOf,fv0,allOf]
  al := fun p h1 h2 => by have : p < 2 := h2; omega
  rl := by intro p hp; cases hp
  rh := by intro p hp; cases hp
theorem rest_first {c : Nat} {M : SM} (D : Nat→List Int) (hp : M.pg = []) (hlo : M.loose = []) (hW : Wel M c) (hB : Byd M) (hf : M.fails = false) (hl : 2≤M.limit) :
    OpOk M fv0∧∀ n,Rest M.size M.limit (c + 4 + n) (Proofs.YtnnmpaenainogaaGreat.cntK (opM M) n) fv0 [] [] D := by
  have hWs := hW.sync
  have hfs := sync_calm hf
  have hps : (syncM M).pg = [] := by show syncP M.pg M.loose = []; rw [hp,hlo]; rfl
  have e1 : opM M = fmM (syncM M) := by
    unfold opM lmM
    rw [if_pos (by rw [hps]; rfl)]
  have e2 : lmR (syncM M) = (fm0,0) := by
    unfold lmR
    rw [if_pos (by rw [hps]; rfl)]
  have hg : jgrM (syncM M) 2 = growM (cntM (syncM M)) 2 (syncM M).once := by
    unfold jgrM
    have hll : ¬ ((2 : Nat)≤(syncM M).pg.length∨(syncM M).limit < 2) := by
      rw [hps]
      have : (syncM M).limit = M.limit := rfl
      rw [this]
      simp; omega
    rw [if_neg hll,if_pos (calm_cE hfs),hps]
    rfl
  have hpg : (jgrM (syncM M) 2).pg = [(List.replicate M.size 0,List.replicate M.size 0),(List.replicate M.size 0,List.replicate M.size 0)] := by
    rw [hg]
    show (syncM M).pg++List.replicate 2 _ = _
    rw [hps]; rfl
  have hle : (jgrM (syncM M) 2).pg.length = 2 := by rw [hpg]; rfl
  have hbd : Byd (opM M) := by rw [e1]; exact (hB.sync hW.lin).fm hWs hfs hl
  have hwe : Wel (opM M) (c + 4) := by rw [e1]; exact (hWs.fm hfs hl).mono (by omega)
  have hwf : WF (opM M) := by
    have h0 : WF (syncM M) := fun p hp => by rw [hps] at hp; cases hp
    rw [e1]
    refine WF.sync (WF.wr (jgr_wf h0 hWs) (by rw [hle]; decide)) ((hWs.jgr (n := 2)).wr (i := 1) (bs := mpage fm0 (syncM M).size) (by rw [hle]; decide)).lin
  have hla : ∀ p,lastM (opM M) p = if p = 1 then mpage fm0 M.size else lastM (jgrM (syncM M) 2) p := fun p => by
    rw [e1]
    show lastM (syncM (wrM (jgrM (syncM M) 2) 1 (mpage fm0 (syncM M).size))) p = _
    rw [lastM_sync,lastM_wr _ _ _ _ (by rw [hle]; decide)]
    rfl
  have hl0 : lastM (opM M) 0 = List.replicate M.size 0 := by
    rw [hla 0,if_neg (by decide)]
    unfold lastM
    rw [hpg]; rfl
  have hR : Rest M.size M.limit (c + 4) (opM M) fv0 [] [] D := by
    refine ⟨?_,?_,hwe,hbd,hwf,by rw [e1]; rfl,rfl,fm0_ok,by decide,by show 1≤_; omega,?_,?_,?_,?_,rfl,finv_first hl,⟨rfl,rfl⟩,by intro p hp; cases hp⟩
    · rw [e1]; exact (fm_same _).1
    · rw [e1]; exact (fm_same _).2
    · rw [show fv0.mt.t % 2 = 1 from rfl,hla 1,if_pos rfl]; rfl
    · rw [show (fv0.mt.t + 1) % 2 = 0 from rfl,hl0,List.drop_replicate]
    · rw [show (fv0.mt.t + 1) % 2 = 0 from rfl,hl0]; exact fun k => absurd k (mget_zero _)
    · rw [e1]
      exact fm_len hfs hl
  refine ⟨⟨e2,⟨rfl,rfl⟩,List.nodup_nil,rfl,rfl⟩,fun n => ?_⟩
  exact hR.cntK n
theorem open_first {B d c : Nat} {w w' : World} {r : Ending} {M : SM} (D : Nat→List Int) (hp : M.pg = []) (hlo : M.loose = []) (hW : Wel M c) (hB : Byd M) (hf : M.fails = false) (hl : 2≤M.limit) (k : OpenR B d w M r w') :
    ∃ f n,n≤M.limit + 1∧r = .returned (.tuple #[.pointer (some ⟨f,0,none⟩),.int .i64 0])∧PD B w' d (Proofs.YtnnmpaenainogaaGreat.cntK (opM M) n)∧FileAt w.heap.size w' f d fv0∧Dfr B w w'∧Rest M.size M.limit (c + 4 + n) (Proofs.YtnnmpaenainogaaGreat.cntK (opM M) n) fv0 [] [] D∧(Proofs.YtnnmpaenainogaaGreat.cntK (opM M) n).fails = false := by
  obtain ⟨ho,hr⟩ := rest_first D hp hlo hW hB hf hl
  obtain ⟨⟨n,hn,hpd⟩,hd,hx⟩ := k
  rcases hx with ⟨G,f,hG,hr',hf'⟩ | ⟨_,hno⟩
  · obtain rfl := opOk_uniq ho hG
    exact ⟨f,n,hn,hr',hpd,hf',hd,hr n,cntK_calm (lm_calm (sync_calm hf)) n⟩
  · exact absurd ho (hno _)
end Go.Proofs.YtnnmpaenainogaaGreat

namespace Go.Proofs.YtnnmpaenainogaaGreat
open Go.RowKit Go.Maps
structure Chg (S lim o : Nat) (F : FV) (rs : List Rc) (H : List Nat) (D : Nat→List Int) (T : TV) (V : Nat→Nat) (I : List Nat) (E : Nat→List Int) : Prop where
  n : T.n = F.mt.t + 1
  c : CInv lim o (flOf F rs) H T.sp V I [] []
  srt : Srt T.K
  k : ∀ p,p∈T.K↔p∈I∧V p = 3
  d : ∀ p∈T.K,T.C p = E p
  d0 : ∀ p∈I,V p = 0→E p = D p
  b : ∀ p∈T.K,Byt (T.C p)∧(T.C p).length = S
section
variable {S lim c o : Nat} {M : SM} {F : FV} {rs : List Rc} {H I : List Nat} {D E : Nat→List Int} {T : TV} {V : Nat→Nat}
theorem chg_begin (h : Rest S lim c M F rs H D) (o : Nat) (C : Nat→List Int) : Chg S lim o F rs H D ⟨F.mt.t + 1,spOf F.mt.e lim o rs,[],C⟩ (fillR o (fun _ => 0) rs) H D := by
  have hc := c_begin (o := o) h.inv
  refine ⟨rfl,hc,List.Pairwise.nil,fun p => ⟨fun k => (by cases k),fun k => ?_⟩,(by intro p hp; cases hp),fun _ _ _ => rfl,(by intro p hp; cases hp)⟩
  have : p∈(spOf (flOf F rs).e lim o (flOf F rs).rs).fr := (hc.g.k3 p).1 k.2
  cases this
theorem Chg.lt (hR : Rest S lim c M F rs H D) (h : Chg S lim o F rs H D T V I E) : ∀ p∈I,2≤p∧p < T.sp.en := fun p hp => by
  rcases h.c.i p hp with k | ⟨_,k⟩
  · exact h.c.g.rg p (by omega)
  · have := hR.inv.rh p k
    have := h.c.g.en1
    exact ⟨by omega,by omega⟩
theorem Chg.tkok (hR : Rest S lim c M F rs H D) {M' : Sp} {G A : List Nat} (h : CInv lim o (flOf F rs) H M' V I G A) : TkOk M' := by
  have hl := hR.l1
  refine ⟨h.g.su,h.g.low,by rw [h.g.lim]; exact h.g.en2,by rw [h.g.lim]; exact hl,fun x hx => ?_⟩
  have hV : V x = 1 := (h.g.k1 x).2 hx
  have := h.g.rg x (by omega)
  have := h.g.en2
  omega
theorem chg_new (hR : Rest S lim c M F rs H D) (h : Chg S lim o F rs H D T V I E) {b : List Int} (hb : Byt b) (hl : b.length = S) :
    ((newT T b).2.2 = 0∧(newT T b).2.1 ∉ I∧2≤(newT T b).2.1∧(newT T b).2.1 < (newT T b).1.sp.en∧(takeM T.sp = ((newT T b).1.sp,(newT T b).2.1,0))∧(V (newT T b).2.1 = 1∨V (newT T b).2.1 = 0∧(newT T b).2.1 = T.sp.en) ∧
      Chg S lim o F rs H D (newT T b).1 (upd V (newT T b).2.1 3) (I++[(newT T b).2.1]) (updC E (newT T b).2.1 b)) ∨
    ((newT T b).2.2 = 21∧(newT T b).2.1 = 0∧(newT T b).1 = T∧T.sp.us = []∧T.sp.en = lim) := by
  rcases g_take (M' := (takeM T.sp).1) (p := (takeM T.sp).2.1) (e := (takeM T.sp).2.2) h.c.g rfl with ⟨e0,hx,_,hg⟩ | ⟨e1,hM,hu,hen⟩
  · left
    have en : newT T b = ({ T with sp := (takeM T.sp).1,K := ins (takeM T.sp).2.1 T.K,C := updC T.C (takeM T.sp).2.1 b },(takeM T.sp).2.1,0) := by unfold newT; rw [if_pos e0]
    have hp : V (takeM T.sp).2.1 = 1∨V (takeM T.sp).2.1 = 0∧(takeM T.sp).2.1 = T.sp.en := by
      rcases hx with ⟨k,_⟩ | ⟨k,k2,_⟩
      · exact .inl k
      · exact .inr ⟨k,k2⟩
    have hc := c_new hR.inv h.c hp hg rfl
    obtain ⟨n1,_,n3,_,_,n6⟩ := c_taken hR.inv h.c hp
    rw [en]
    generalize hp0 : (takeM T.sp).2.1 = p at hp hc n1 n3 n6 hg hx ⊢
    have hr := hg.rg p (by rw [upd_same]; decide)
    refine ⟨rfl,n1,n6,hr.2,?_,hp,?_⟩
    · show takeM T.sp = ((takeM T.sp).1,p,0)
      rw [← hp0,← e0]
    refine ⟨h.n,hc,srt_ins h.srt,fun q => ?_,fun q hq => ?_,fun q hq hv => ?_,fun q hq => ?_⟩
    · show q∈ins p T.K↔_
      rw [mem_ins,h.k q]
      simp only [List.mem_append,List.mem_singleton]
      by_cases e : q = p
      · subst e; simp [upd_same]
      · simp [e,upd_other V 3 e]
    · show updC T.C p b q = updC E p b q
      unfold updC
      by_cases e : q = p
      · rw [if_pos e,if_pos e]
      · rw [if_neg e,if_neg e]
        have hq' : q∈ins p T.K := hq
        rw [mem_ins] at hq'
        exact h.d q (hq'.resolve_left e)
    · have e : q≠p := fun e => by subst e; rw [upd_same] at hv; cases hv
      rw [upd_other V 3 e] at hv
      show updC E p b q = _
      unfold updC
      rw [if_neg e]
      simp only [List.mem_append,List.mem_singleton] at hq
      exact h.d0 q (hq.resolve_right e) hv
    · show Byt (updC T.C p b q)∧(updC T.C p b q).length = S
      unfold updC
      by_cases e : q = p
      · rw [if_pos e]; exact ⟨hb,hl⟩
      · rw [if_neg e]
        have hq' : q∈ins p T.K := hq
        rw [mem_ins] at hq'
        exact h.b q (hq'.resolve_left e)
  · right
    have hne : ¬ (takeM T.sp).2.2 = 0 := by rw [e1]; decide
    have en : newT T b = ({ T with sp := (takeM T.sp).1 },0,(takeM T.sp).2.2) := by unfold newT; rw [if_neg hne]
    rw [en]
    exact ⟨e1,rfl,by rw [hM],hu,hen⟩
theorem chg_free (hR : Rest S lim c M F rs H D) (h : Chg S lim o F rs H D T V I E) {p : Nat} (hp : p∈I) {I' : List Nat} (hn : I'.Nodup) (hI : ∀ q,q∈I'↔q∈I∧q≠p) :
    (freeT T p).2 = 0∧(giveM T.sp p = ((freeT T p).1.sp,0))∧∃ x,(V p = 3∧x = 1∨V p = 0∧p∈H∧x = 4)∧Chg S lim o F rs H D (freeT T p).1 (upd V p x) I' E := by
  have key : ∀ x,(V p = 3∧x = 1∨V p = 0∧x = 4)→(giveM T.sp p).2 = 0→GInv (flOf F rs).e lim (newRecs o (flOf F rs).rs) (giveM T.sp p).1 (upd V p x)→(freeT T p).2 = 0∧(giveM T.sp p = ((freeT T p).1.sp,0))∧Chg S lim o F rs H D (freeT T p).1 (upd V p x) I' E := fun x hx e0 hg => by
    have en : freeT T p = ({ T with sp := (giveM T.sp p).1,K := del p T.K },0) := by unfold freeT; rw [if_pos e0]
    rw [en]
    have hc := c_free hR.inv h.c hp hx hg hn hI
    refine ⟨rfl,by rw [← e0],h.n,hc,srt_del' h.srt,fun q => ?_,fun q hq => h.d q (mem_del.1 hq).1,fun q hq hv => ?_,fun q hq => h.b q (mem_del.1 hq).1⟩
    · show q∈del p T.K↔_
      rw [mem_del,h.k q,hI q]
      by_cases e : q = p
      · simp [e]
      · rw [upd_other V x e]; simp [e]
    · have hq' := (hI q).1 hq
      rw [upd_other V x hq'.2] at hv
      exact h.d0 q hq'.1 hv
  rcases g_give (M' := (giveM T.sp p).1) (e := (giveM T.sp p).2) h.c.g rfl with ⟨e0,hV,_,hg⟩ | ⟨e0,hV,_,_,_,_,_,hg⟩ | ⟨_,_,k⟩
  · obtain ⟨a,b,d⟩ := key 1 (.inl ⟨hV,rfl⟩) e0 hg
    exact ⟨a,b,1,.inl ⟨hV,rfl⟩,d⟩
  · obtain ⟨a,b,d⟩ := key 4 (.inr ⟨hV,rfl⟩) e0 hg
    have hH : p∈H := by
      rcases h.c.i p hp with x | ⟨_,x⟩
      · omega
      · exact x
    exact ⟨a,b,4,.inr ⟨hV,hH,rfl⟩,d⟩
  · refine absurd ?_ k
    rcases h.c.i p hp with x | ⟨x,y⟩
    · exact .inl x
    · have := hR.inv.rh p y
      exact .inr ⟨x,this.1,this.2⟩
theorem c_recs (hR : Rest S lim c M F rs H D) {sp : Sp} {V : Nat→Nat} {G A : List Nat} (h : CInv lim o (flOf F rs) H sp V I G A) : Okr sp.en (recsM sp (F.mt.t + 1)) :=
  right_iff.1 (grecs_right h.g (okr_new o hR.inv.ok) (F.mt.t + 1) (fun r hr => by
    have k := new_mem.1 hr
    have : r.1≤F.mt.t := hR.inv.tx r k.1
    exact ⟨by omega,by omega⟩) (by omega))
theorem c_few (hR : Rest S lim c M F rs H D) (hc : c≤80000) {sp : Sp} {V : Nat→Nat} {G A : List Nat} (h : CInv lim o (flOf F rs) H sp V I G A) : Few sp (F.mt.t + 1) := by
  have hl := hR.l1
  have hen : sp.en≤lim := h.g.en2
  have ht := hR.tb
  have hk := c_recs hR h
  have hw : Okr (flOf F rs).e sp.ws := by rw [h.g.ws]; exact okr_new o hR.inv.ok
  have hel : (flOf F rs).e≤lim := hR.inv.el
  refine ⟨?_,?_,fun r hr => ⟨(hw.each r hr).2.2,?_⟩,?_,by omega,?_,fun r hr => ⟨?_,fun p hp => ?_⟩⟩
  · have := nodup_len (srt_nodup h.g.su) (fun x hx => (h.g.rg x (by rw [(h.g.k1 x).2 hx]; decide)).2)
    omega
  · have := nodup_len (srt_nodup h.g.sg) (fun x hx => (h.g.rg x (by rw [(h.g.k4 x).2 hx]; decide)).2)
    omega
  · have := okr_each hw hr; omega
  · have := okr_len hw; omega
  · rw [flatR_allOf]
    have := nodup_len (okr_nodup hk) (fun x hx => (okr_range hk x hx).2)
    omega
  · have hr' := hr
    unfold recsM at hr
    have f1 : ∀ {L : List Nat} {t : Nat},r∈recM L t→r.1 = t := fun {L t} hr => by
      unfold recM at hr
      split at hr
      · cases hr
      · simp at hr; rw [hr]
    rcases List.mem_append.1 hr with k | k
    · rcases List.mem_append.1 k with k | k
      · have := f1 k; omega
      · rw [h.g.ws] at k
        have : r.1≤F.mt.t := hR.inv.tx r (new_mem.1 k).1
        omega
    · have := f1 k; omega
  · have := ((hk.each r hr).2.1 p hp).2
    omega
theorem many_enough {n L Mr S : Nat} (s1 : 512≤S) (s2 : S≤4096) (hM : (Mr : Int) = roomI (S : Int)) (h : manyF (n : Int) (S : Int)≤(L : Int)) : n≤L * Mr := by
  unfold manyF at h
  have hr : 1≤roomI (S : Int) := by unfold roomI; omega
  by_cases hn : 1≤n
  · rw [if_pos ⟨by omega,by omega,by omega⟩,← hM] at h
    rw [← hM] at hr
    have h1 : ((n : Int) - 1) / (Mr : Int) < (L : Int) := by omega
    have h2 := Int.lt_mul_of_ediv_lt (show (0 : Int) < (Mr : Int) by omega) h1
    have h3 : ((L * Mr : Nat) : Int) = (L : Int) * (Mr : Int) := by simp
    have : ((n : Int) - 1) < ((L * Mr : Nat) : Int) := by rw [h3]; exact h2
    omega
  · omega
theorem chain_of {S Mr e : Nat} {M : SM} {l : List Nat} {ps : List Pr} (s1 : 512≤S) (s2 : S≤4096) (hM : (Mr : Int) = roomI (S : Int)) (hr : ps.Pairwise lexP) (ho : ∀ p∈ps,PrOk p) (hge : ps.length≤l.length * Mr) (hl : ∀ p∈l,2≤p∧p < e) (he : e < 4294967296)
    (hb : ∀ j,j < l.length→lastM M (l.getD j 0) = frB (partF ps Mr j) ((aftL l (j + 1) : Nat) : Int) S) : ∀ j k,k + j = l.length→LCh M e (aftL l j) (l.drop j) (ps.drop (j * Mr))
  | j,0,hj => by
    have : j = l.length := by omega
    subst this
    rw [List.drop_eq_nil_of_le (Nat.le_refl _),List.drop_eq_nil_of_le hge]
    refine ⟨?_,rfl⟩
    unfold aftL
    simp [List.getD_eq_getElem?_getD]
  | j,k + 1,hj => by
    have hlt : j < l.length := by omega
    have ih := chain_of s1 s2 hM hr ho hge hl he hb (j + 1) k (by omega)
    have e1 : l.drop j = l[j] :: l.drop (j + 1) := List.drop_eq_getElem_cons hlt
    have e2 : aftL l j = l[j] := by unfold aftL; simp [List.getD_eq_getElem?_getD,hlt]
    have hj2 := hl l[j] (List.getElem_mem hlt)
    have e3 : ps.drop (j * Mr) = partF ps Mr j++ps.drop ((j + 1) * Mr) := by
      unfold partF
      conv => lhs; rw [← List.take_append_drop Mr (ps.drop (j * Mr))]
      rw [List.drop_drop,Nat.succ_mul]
    have hax : aftL l (j + 1) < 4294967296 := by
      unfold aftL
      by_cases h : j + 1 < l.length
      · have := hl l[j + 1] (List.getElem_mem h)
        simp [List.getD_eq_getElem?_getD,h]; omega
      · simp [List.getD_eq_getElem?_getD,h]
    rw [e1]
    refine ⟨e2,by rw [e2]; exact hj2.1,by rw [e2]; exact hj2.2,partF ps Mr j,aftL l (j + 1),ps.drop ((j + 1) * Mr),?_,e3,ih⟩
    rw [e2]
    have hbj := hb j hlt
    rw [show l.getD j 0 = l[j] by simp [List.getD_eq_getElem?_getD,hlt]] at hbj
    rw [hbj]
    refine frB_laid ⟨by omega,by omega,?_,rise_part hr Mr j⟩ (fun p hp => ho p (List.mem_of_mem_drop (List.mem_of_mem_take hp))) (by omega) (by omega)
    rw [← hM]
    unfold partF
    rw [List.length_take]
    omega
structure Cls (S lim o : Nat) (F : FV) (rs : List Rc) (H : List Nat) (T : TV) (V : Nat→Nat) (I : List Nat) (sp : Sp) (l : List Nat) (V' : Nat→Nat) : Prop where
  c : CInv lim o (flOf F rs) H sp V' I F.ls l
  ge : manyF ((flatR (recsM sp (F.mt.t + 1))).length : Int) (S : Int)≤(l.length : Int)
  same : ∀ q,q ∉ F.ls→q ∉ l→V' q = V q
theorem cls_of (hR : Rest S lim c M F rs H D) (h : Chg S lim o F rs H D T V I E) : ∃ sp1 V1,frAll T F.ls = ({ T with sp := sp1 },0)∧CInv lim o (flOf F rs) H sp1 V1 I F.ls [] ∧
    ∀ sp l,TakeTo S (((flatR (recsM sp1 T.n)).length : Int) - (sp1.us.length : Int)) sp1 [] sp l→¬ ((l.length : Int) < manyF (((flatR (recsM sp1 T.n)).length : Int) - (sp1.us.length : Int) + (sp.us.length : Int)) (S : Int))→∃ V',Cls S lim o F rs H T V I sp l V' := by
  obtain ⟨sp1,V1,a,b,d⟩ := frAll_lists hR.inv F.ls [] T V rfl h.c (fun q hq => ((h.k q).1 hq).2)
  refine ⟨sp1,V1,a,b,fun sp l ht hge => ?_⟩
  obtain ⟨V',g1,g2,_⟩ := take_lists hR.inv ht b
  have hs := take_same ht
  refine ⟨V',g1,?_,fun q hq hl => by rw [g2 q hl,d q hq]⟩
  rw [h.n,flat_recs] at hge
  rw [flat_recs,hs.1,hs.2]
  have e : ((sp1.us.length + ((allOf sp1.ws).length + sp1.go.length) : Nat) : Int) - (sp1.us.length : Int) + (sp.us.length : Int) = ((sp.us.length + ((allOf sp1.ws).length + sp1.go.length) : Nat) : Int) := by omega
  rw [e] at hge
  omega
end
abbrev cmF (T : TV) (sp : Sp) (l : List Nat) (main : Nat) : FV := ⟨⟨T.n,sp.en,main,aftL l 0⟩,flatR (recsM sp T.n),l,false⟩
abbrev cmT (T : TV) (sp : Sp) (l : List Nat) (Mr S : Nat) : TV := putT { T with sp := sp } l (flatR (recsM sp T.n)) Mr S l.length
section
variable {S lim c o : Nat} {M : SM} {F : FV} {rs : List Rc} {H I : List Nat} {D E : Nat→List Int} {T : TV} {V V' : Nat→Nat} {sp : Sp} {l : List Nat}
structure ClsF (S lim o Mr : Nat) (F : FV) (rs : List Rc) (H : List Nat) (E : Nat→List Int) (T : TV) (I : List Nat) (sp : Sp) (l : List Nat) (main : Nat) : Prop where
  okr : Okr sp.en (recsM sp T.n)
  mo : MtOk (cmF T sp l main).mt
  mr : mright (cmF T sp l main).mt = true
  K : ∀ p,p∈(cmT T sp l Mr S).K↔p∈T.K∨p∈l
  lt : ∀ p∈(cmT T sp l Mr S).K,2≤p∧p < sp.en
  len : (cmT T sp l Mr S).K.length≤lim
  own : ∀ p∈T.K,(cmT T sp l Mr S).C p = E p
  lis : ∀ j,j < l.length→(cmT T sp l Mr S).C (l.getD j 0) = frB (partF (flatR (recsM sp T.n)) Mr j) ((aftL l (j + 1) : Nat) : Int) S
  b : ∀ p∈(cmT T sp l Mr S).K,Byt ((cmT T sp l Mr S).C p)∧((cmT T sp l Mr S).C p).length = S
  en : (cmT T sp l Mr S).sp.en = sp.en
  old : ∀ p,p∈H∨p∈F.ls→p ∉ (cmT T sp l Mr S).K
  inv : FInv lim (flOf (cmF T sp l main) (recsM sp T.n)) I
  ge : manyF ((flatR (recsM sp T.n)).length : Int) (S : Int)≤(l.length : Int)
  el : sp.en≤lim
  few : Few sp T.n
  ll : l.length≤lim
  nl : l.Nodup
  rl : ∀ p∈l,2≤p∧p < sp.en
  held : ∀ p∈I,p ∉ T.K→V' p = 0→p∈H
theorem cls_ok {main Mr : Nat} (hR : Rest S lim c M F rs H D) (hc : c≤80000) (h : Chg S lim o F rs H D T V I E) (k : Cls S lim o F rs H T V I sp l V') (hMr : (Mr : Int) = roomI (S : Int)) (hm : main = 0∨main∈I) : ClsF (V' := V') S lim o Mr F rs H E T I sp l main := by
  have hl1 := hR.l1
  have hel : sp.en≤lim := k.c.g.en2
  have hen1 : F.mt.e≤sp.en := k.c.g.en1
  have he2 := hR.e2
  have ht := hR.tb
  have hn := h.n
  have hnl : l.Nodup := (List.nodup_append.1 k.c.nd).2.1
  have hrl : ∀ p∈l,2≤p∧p < sp.en := fun p hp => k.c.g.rg p (by rw [k.c.a p hp]; decide)
  have hI3 : ∀ p∈T.K,V' p = 3∧p∈I := fun p hp => by
    have := (h.k p).1 hp
    have hpl : p ∉ F.ls := fun x => by have := h.c.l0 p x (by simp); omega
    by_cases e : p∈l
    · exact ⟨k.c.a p e,this.1⟩
    · exact ⟨by rw [k.same p hpl e]; exact this.2,this.1⟩
  have hII : ∀ p∈I,2≤p∧p < sp.en := fun p hp => by
    rcases k.c.i p hp with x | ⟨_,x⟩
    · exact k.c.g.rg p (by omega)
    · have := hR.inv.rh p x
      have : p < F.mt.e := this.2
      exact ⟨by omega,by omega⟩
  have hIl : ∀ p∈I,p ∉ l := fun p hp hx => (List.nodup_append.1 k.c.nd).2.2 p hp p hx rfl
  have hK : ∀ p,p∈(cmT T sp l Mr S).K↔p∈T.K∨p∈l := fun p => by
    have := putT_K { T with sp := sp } l (flatR (recsM sp T.n)) Mr S l.length (Nat.le_refl _) p
    rw [List.take_of_length_le (Nat.le_refl _)] at this
    exact this
  have hlt : ∀ p∈(cmT T sp l Mr S).K,2≤p∧p < sp.en := fun p hp => ((hK p).1 hp).elim (fun x => hII p (hI3 p x).2) (hrl p)
  have hsK : (cmT T sp l Mr S).K.Nodup := srt_nodup (putT_srt { T with sp := sp } l _ Mr S h.srt l.length)
  obtain ⟨pc1,pc2⟩ := putT_C { T with sp := sp } (flatR (recsM sp T.n)) Mr S hnl l.length (Nat.le_refl _)
  rw [List.take_of_length_le (Nat.le_refl _)] at pc1
  have hokr : Okr sp.en (recsM sp T.n) := by rw [hn]; exact c_recs hR k.c
  have hax : aftL l 0 = 0∨2≤aftL l 0∧aftL l 0 < sp.en := by
    unfold aftL
    cases l with
    | nil => exact .inl rfl
    | cons p l => exact .inr (hrl p (by simp))
  have hmain : main = 0∨2≤main∧main < sp.en := hm.imp id fun x => hII main x
  have hrise := flatR_rise hokr
  have hfew : Few sp T.n := by rw [hn]; exact c_few hR hc k.c
  refine { okr := hokr,mo := ⟨by show T.n < _; omega,by show sp.en < _; omega,by show main < _; omega,by show aftL l 0 < _; omega⟩,mr := ?_,K := hK,lt := hlt,len := ?_,own := fun p hp => ?_,lis := pc2,b := fun p hp => ?_,en := by show (putT _ _ _ _ _ _).sp.en = _; rw [(putT_same _ _ _ _ _ _).2],old := fun p hp hx => ?_,inv := ?_,ge := by rw [hn]; exact k.ge,el := hel,few := hfew,ll := ?_,nl := hnl,rl := hrl,held := fun p hp hpK hv => ?_ }
  · have r1 : rpg main sp.en = true := by unfold rpg; rcases hmain with x | x <;> simp [x]
    have r2 : rpg (aftL l 0) sp.en = true := by unfold rpg; rcases hax with x | x <;> simp [x]
    have q1 : 1≤T.n := by omega
    have q2 : 2≤sp.en := by omega
    unfold mright
    rw [r1,r2]
    simp [q1,q2]
  · have := nodup_len hsK (fun x hx => (hlt x hx).2); omega
  · show (putT _ _ _ _ _ _).C p = _
    rw [pc1 p (hIl p (hI3 p hp).2)]
    exact h.d p hp
  · by_cases e : p∈l
    · obtain ⟨j,hj,rfl⟩ := List.getElem_of_mem e
      have e2 : l.getD j 0 = l[j] := by simp [List.getD_eq_getElem?_getD,hj]
      have := pc2 j hj
      rw [e2] at this
      have hb : (cmT T sp l Mr S).C l[j] = _ := this
      rw [hb]
      refine ⟨frB_byt _ _ _,frB_len ?_⟩
      have hp : (partF (flatR (recsM sp T.n)) Mr j).length≤Mr := by unfold partF; rw [List.length_take]; omega
      have := room_fits (n := (partF (flatR (recsM sp T.n)) Mr j).length) (S := (S : Int)) (by rw [← hMr]; omega)
      omega
    · have hpT := ((hK p).1 hp).resolve_right e
      have : (cmT T sp l Mr S).C p = T.C p := pc1 p e
      rw [this]
      exact h.b p hpT
  · have hV3 : V' p = 3 := ((hK p).1 hx).elim (fun y => (hI3 p y).1) (k.c.a p)
    rcases hp with y | y
    · rcases k.c.h p y with z | ⟨z,_⟩ <;> omega
    · have := (k.c.l4 p y).1; omega
  · have := c_commit (mn := main) hR.inv k.c (fun p hp => hp)
    rw [show (flOf F rs).t + 1 = T.n from hn.symm] at this
    exact this
  · have := nodup_len hnl (fun x hx => (hrl x hx).2); omega
  · rcases k.c.i p hp with x | ⟨_,x⟩
    · omega
    · exact x
theorem cm_wel {M : SM} {c : Nat} (h : Wel M c) (i : Nat) (b : List Int) (hi : i < M.pg.length) : Wel (wrM (syncM M) i b) (c + 2) := (h.sync.wr (bs := b) (by show i < (syncP M.pg M.loose).length; rw [syncP_len]; exact hi))
theorem torn_meta {S : Nat} {a b : List Int} (h1 : 512≤S) (ha : a.length = S) (hb : b.length = S) (za : a.drop 128 = List.replicate (S - 128) 0) (zb : b.drop 128 = List.replicate (S - 128) 0) (x : Nat) : tornB a b x (a.length / 128) = a∨tornB a b x (a.length / 128) = b := by
  have hz : ∀ (c : List Int) (j : Nat),c.length = S→c.drop 128 = List.replicate (S - 128) 0→128≤j→j < S→c[j]? = some 0 := fun c j hc hd hj hjS => by
    have : (c.drop 128)[j - 128]? = some 0 := by rw [hd,List.getElem?_replicate,if_pos (by omega)]
    rw [List.getElem?_drop,show 128 + (j - 128) = j by omega] at this
    exact this
  by_cases hx : bitB x 0 = true
  · right
    apply List.ext_getElem?
    intro j
    by_cases hj : j < a.length
    · rw [tornB_get _ _ _ _ _ hj]
      by_cases h8 : j < 128
      · have e : j / 128 = 0 := by omega
        rw [e,if_pos ⟨by omega,hx⟩]
        rw [List.getD_eq_getElem?_getD,List.getElem?_eq_getElem (show j < b.length by omega)]; rfl
      · have ea := hz a j ha za (by omega) (by omega)
        have eb := hz b j hb zb (by omega) (by omega)
        rw [eb]
        split
        · rw [List.getD_eq_getElem?_getD,eb]; rfl
        · rw [List.getD_eq_getElem?_getD,ea]; rfl
    · rw [List.getElem?_eq_none (by rw [tornB_len]; omega),List.getElem?_eq_none (by omega)]
  · left
    apply List.ext_getElem?
    intro j
    by_cases hj : j < a.length
    · rw [tornB_get _ _ _ _ _ hj]
      by_cases h8 : j < 128
      · have e : j / 128 = 0 := by omega
        rw [e,if_neg (fun k => hx k.2)]
        rw [List.getD_eq_getElem?_getD,List.getElem?_eq_getElem hj]; rfl
      · have ea := hz a j ha za (by omega) (by omega)
        have eb := hz b j hb zb (by omega) (by omega)
        rw [ea]
        split
        · rw [List.getD_eq_getElem?_getD,eb]; rfl
        · rw [List.getD_eq_getElem?_getD,ea]; rfl
    · rw [List.getElem?_eq_none (by rw [tornB_len]; omega),List.getElem?_eq_none (by omega)]
theorem wrs_calm (C : Nat→List Int) : ∀ (l : List Nat) (M : SM),M.fails = false→(wrsM C M l).2 = 0∧(wrsM C M l).1.fails = false
  | [],M,h => ⟨rfl,h⟩
  | q :: l,M,h => by
    unfold wrsM
    rw [if_pos (calm_cE h)]
    exact wrs_calm C l _ (wr_calm h _ _)
theorem dw_calm {T : TV} {M : SM} (h : M.fails = false) : (dwM T M).1.fails = false := by
  unfold dwM
  split
  · exact (wrs_calm _ _ _ (jgrM_calm h _)).2
  · exact jgrM_calm h _
theorem dw_codes_calm {T : TV} {M : SM} (h : M.fails = false) (he : T.sp.en≤M.limit) : (dwM T M).2 = 0 := by
  unfold dwM
  rw [if_pos (jgrE_calm h he)]
  exact (wrs_calm _ _ _ (jgrM_calm h _)).1
theorem commit_plain {main Mr : Nat} (hR : Rest S lim c M F rs H D) (hc : c≤80000) (h : Chg S lim o F rs H D T V I E) (k : Cls S lim o F rs H T V I sp l V') (hMr : (Mr : Int) = roomI (S : Int)) (hm : main = 0∨main∈I)
    {N : SM} {q : Nat} (hcm : cmR (cmT T sp l Mr S) M (cmF T sp l main).mt = (N,q)) :
    (q = 0→Rest S lim (c + lim + 6) N (cmF T sp l main) (recsM sp T.n) I E)∧(q = 1→∀ ks,Rest S lim (c + lim + 6) (crashM N ks) F rs H D) ∧
    (q≠0→∀ ks,Rest S lim (c + lim + 6) (crashM N ks) F rs H D∨Rest S lim (c + lim + 6) (crashM N ks) (cmF T sp l main) (recsM sp T.n) I E) ∧
    (∀ p,2≤p→p < M.pg.length→p ∉ (cmT T sp l Mr S).K→lastM N p = lastM M p)∧Wel N (c + lim + 6)∧(M.fails = false→q = 0∧N.fails = false) := by
  have hf := cls_ok hR hc h k hMr hm
  have s1 := hR.s1
  have s2 := hR.s2
  have hsz := hR.sz
  have hlen2 := hR.len2
  have hle := hR.len
  have ht := hR.tb
  have hn := h.n
  obtain ⟨M1,e1,hdw⟩ : ∃ M1 e1,dwM (cmT T sp l Mr S) M = (M1,e1) := ⟨_,_,rfl⟩
  have hd := dw_ok hdw hR.wel hR.byd hR.wf (fun p hp => by rw [hf.en]; exact (hf.lt p hp).2) (fun p hp => by rw [hsz]; exact hf.b p hp)
  have hkl := hf.len
  have hln : M.pg.length≤M1.pg.length := hd.ln
  have hst1 : ∀ p,p < M.pg.length→p ∉ (cmT T sp l Mr S).K→Still p (lastM M p) M1 := fun p hp hx => hd.still p _ (rest_pg hR hp) hx
  have h01 : ∀ p,p < 2→p ∉ (cmT T sp l Mr S).K := fun p hp hx => by have := (hf.lt p hx).1; omega
  have back : ∀ (N : SM) (ks : List Int),N.size = S→N.limit = lim→Wel N (c + lim + 6)→Byd N→WF N→M.pg.length≤N.pg.length→(∀ p,p < M.pg.length→p ∉ (cmT T sp l Mr S).K→Still p (lastM M p) N)→Rest S lim (c + lim + 6) (crashM N ks) F rs H D := fun N ks a1 a2 a3 a4 a5 a6 a7 =>
    hR.keep (M' := crashM N ks) a1 a2 (a3.crash ks) (by omega) (a4.crash a3.lin ks) (a5.crash a3.lin) rfl (by show _≤(crashP ks 0 N.pg N.loose).length; rw [crashP_len]; exact a6)
      (fun p hp => ((a7 p (by
        rcases hp with x | x
        · have := (hR.inv.rl p x).2; have : p < F.mt.e := this; omega
        · have := (hR.inv.rh p x).2; have : p < F.mt.e := this; omega) (hf.old p hp.symm)).crash ks).last) (fun p hp => ((a7 p (by omega) (h01 p hp)).crash ks).last)
  have hsl : (cmF T sp l main).mt.t % 2 < M1.pg.length := by have := Nat.mod_lt T.n (show 2 > 0 by decide); show T.n % 2 < _; omega
  have hmb : Byt (mpage (cmF T sp l main).mt S)∧(mpage (cmF T sp l main).mt S).length = S := ⟨mpage_byt _ _,mpage_len (by omega)⟩
  have wfS : WF (syncM M1) := hd.wf.sync hd.wel.lin
  have bydS : Byd (syncM M1) := hd.byd.sync hd.wel.lin
  have lenS : (syncM M1).pg.length = M1.pg.length := by show (syncP M1.pg M1.loose).length = _; rw [syncP_len]
  have fresh : ∀ (N : SM),e1 = 0→N.size = S→N.limit = lim→Wel N (c + lim + 6)→Byd N→WF N→N.loose = []→N.pg.length = M1.pg.length→(∀ p,p < M1.pg.length→p≠(cmF T sp l main).mt.t % 2→lastM N p = lastM M1 p)→lastM N ((cmF T sp l main).mt.t % 2) = mpage (cmF T sp l main).mt S →
      Rest S lim (c + lim + 6) N (cmF T sp l main) (recsM sp T.n) I E := fun N e0 a1 a2 a3 a4 a5 a6 a7 a8 a9 => by
    have hen := hd.en e0
    rw [hf.en] at hen
    have hT2 := Nat.mod_lt T.n (show 2 > 0 by decide)
    have oth : ((cmF T sp l main).mt.t + 1) % 2 = F.mt.t % 2 := by show (T.n + 1) % 2 = _; omega
    have eo : lastM N (((cmF T sp l main).mt.t + 1) % 2) = mpage F.mt S := by
      rw [oth,a8 _ (by omega) (by show F.mt.t % 2≠T.n % 2; omega),(hst1 _ (by omega) (h01 _ (by omega))).last]
      exact hR.sl
    have inN : ∀ p,p∈(cmT T sp l Mr S).K→lastM N p = (cmT T sp l Mr S).C p := fun p hp => by
      have := hf.lt p hp
      rw [a8 p (by omega) (by show p≠T.n % 2; omega),hd.last e0 p hp]
    refine ⟨a1,a2,a3,a4,a5,a6,rfl,hf.mo,hf.mr,by show T.n≤_; omega,a9,by rw [eo]; exact page_drop128 _ _,fun _ => ?_,by rw [a7]; exact hen,rfl,hf.inv,?_,fun p hp => ?_⟩
    · rw [eo,(get_page hR.mo hR.mr s1 s2).2]
      show F.mt.t < T.n
      omega
    · have := chain_of (M := N) (Mr := Mr) (e := sp.en) s1 s2 hMr (flatR_rise hf.okr) (flatR_ok hf.few.ok) (many_enough s1 s2 hMr hf.ge) hf.rl (by have := hf.el; have := hR.l1; omega) (fun j hj => by
        have hm : l.getD j 0∈l := by simp [List.getD_eq_getElem?_getD,hj]
        rw [inN _ ((hf.K _).2 (.inr hm))]
        exact hf.lis j hj) 0 l.length (by omega)
      simpa using this
    · by_cases hpK : p∈T.K
      · rw [inN p ((hf.K p).2 (.inl hpK))]
        exact hf.own p hpK
      · have hv : V p = 0 := by
          rcases h.c.i p hp with x | ⟨x,_⟩
          · exact absurd ((h.k p).2 ⟨hp,x⟩) hpK
          · exact x
        have hH : p∈H := by
          rcases h.c.i p hp with x | ⟨_,x⟩
          · omega
          · exact x
        have hr := hR.inv.rh p hH
        have hlt : p < F.mt.e := hr.2
        rw [a8 p (by omega) (by show p≠T.n % 2; omega),(hst1 p (by omega) (hf.old p (.inl hH))).last,h.d0 p hp hv]
        exact hR.dat p hH
  by_cases hz : e1 = 0
  · subst hz
    by_cases x1 : cE M1.fails M1.ahead = 0
    · by_cases x2 : cE (syncM M1).fails (syncM M1).ahead = 0
      · have wW := cm_wel hd.wel _ (mpage (cmF T sp l main).mt M.size) hsl
        have hslS : (cmF T sp l main).mt.t % 2 < (syncM M1).pg.length := by rw [lenS]; exact hsl
        have bW : Byd (wrM (syncM M1) ((cmF T sp l main).mt.t % 2) (mpage (cmF T sp l main).mt M.size)) := bydS.wr hslS (by rw [hsz]; exact hmb.1) (by rw [hsz]; exact hmb.2.trans (hsz.symm.trans hd.sz.symm))
        have fW : WF (wrM (syncM M1) ((cmF T sp l main).mt.t % 2) (mpage (cmF T sp l main).mt M.size)) := wfS.wr hslS
        have lW : (wrM (syncM M1) ((cmF T sp l main).mt.t % 2) (mpage (cmF T sp l main).mt M.size)).pg.length = M1.pg.length := by simp [wrM,cntM]; exact lenS
        have laW : ∀ p,lastM (wrM (syncM M1) ((cmF T sp l main).mt.t % 2) (mpage (cmF T sp l main).mt M.size)) p = if p = (cmF T sp l main).mt.t % 2 then mpage (cmF T sp l main).mt S else lastM M1 p := fun p => by
          rw [lastM_wr _ _ _ _ hslS,lastM_sync,hsz]
        have stW : ∀ p,2≤p→p < M.pg.length→p ∉ (cmT T sp l Mr S).K→Still p (lastM M p) (wrM (syncM M1) ((cmF T sp l main).mt.t % 2) (mpage (cmF T sp l main).mt M.size)) := fun p h2 hp hx => (hst1 p hp hx).sync.wr (by have := Nat.mod_lt T.n (show 2 > 0 by decide); show T.n % 2≠p; omega) hslS
        generalize hW : wrM (syncM M1) ((cmF T sp l main).mt.t % 2) (mpage (cmF T sp l main).mt M.size) = W at wW bW fW lW laW stW
        by_cases x3 : cE W.fails W.ahead = 0
        · have e := cm_e (mt := (cmF T sp l main).mt) hdw x1 x2 (by rw [hW]; exact x3)
          rw [hW] at e
          rw [e] at hcm
          simp only [Prod.mk.injEq] at hcm
          obtain ⟨rfl,rfl⟩ := hcm
          refine ⟨fun _ => fresh (syncM W) rfl ?_ ?_ (wW.sync.mono (by omega)) (bW.sync wW.lin) (fW.sync wW.lin) rfl (by show (syncP W.pg W.loose).length = _; rw [syncP_len]; exact lW) (fun p _ hp => by rw [lastM_sync,laW,if_neg hp]) (by rw [lastM_sync,laW,if_pos rfl]),fun k => absurd k (by decide),fun k => absurd rfl k,fun p h2 hp hx => ((stW p h2 hp hx).sync).last,wW.sync.mono (by omega),fun hcalm => ⟨rfl,?_⟩⟩
          · show W.size = S; rw [← hW]; exact hd.sz.trans hsz
          · show W.limit = lim; rw [← hW]; exact hd.li.trans hR.li
          · have : W.fails = false := by
              rw [← hW]
              refine wr_calm (sync_calm ?_) _ _
              have := dw_calm (T := cmT T sp l Mr S) hcalm
              rw [hdw] at this
              exact this
            exact sync_calm this
        · have e := cm_d (mt := (cmF T sp l main).mt) hdw x1 x2 (by rw [hW]; exact x3)
          rw [hW] at e
          rw [e] at hcm
          simp only [Prod.mk.injEq] at hcm
          obtain ⟨rfl,rfl⟩ := hcm
          have c1 : Wel (cntM W) (c + lim + 6) := wW.cnt.mono (by omega)
          refine ⟨fun k => absurd k (by decide),fun k => absurd k (by decide),fun _ ks => ?_,fun p h2 hp hx => ((stW p h2 hp hx).cnt).last,c1,fun hcalm => ?_⟩
          · have hks : crashM (cntM W) ks = { W with calls := W.calls + 1,pg := crashP ks 0 W.pg W.loose,loose := [],fails := false,ahead := -1 } := rfl
            have hso := rest_pg hR (p := T.n % 2) (by have := Nat.mod_lt T.n (show 2 > 0 by decide); omega)
            have hs0 := (hst1 (T.n % 2) (by have := Nat.mod_lt T.n (show 2 > 0 by decide); omega) (h01 _ (Nat.mod_lt T.n (by decide)))).sync
            have hg : pgAt W.pg (T.n % 2) = (lastM M (T.n % 2),mpage (cmF T sp l main).mt S) := by
              rw [← hW]
              show pgAt ((syncM M1).pg.set (T.n % 2) ((pgAt (syncM M1).pg (T.n % 2)).1,mpage (cmF T sp l main).mt M.size)) (T.n % 2) = _
              rw [pgAt_set _ _ _ _ hslS,if_pos rfl,hs0.at_,hsz]
            have hlo : W.loose = [(T.n % 2,mpage (cmF T sp l main).mt S)] := by
              rw [← hW]
              show []++[(T.n % 2,mpage (cmF T sp l main).mt M.size)] = _
              rw [hsz]; rfl
            have hsz1 : W.size = S := by rw [← hW]; exact hd.sz.trans hsz
            have hli1 : W.limit = lim := by rw [← hW]; exact hd.li.trans hR.li
            have hpar : T.n % 2 = (F.mt.t + 1) % 2 := by rw [hn]
            have hlen0 : (lastM M (T.n % 2)).length = S := by
              have := (hR.byd.at hso.lt).2.2
              rw [hsz] at this; exact this
            have hTL := Nat.mod_lt T.n (show 2 > 0 by decide)
            have hcr : lastM (crashM (cntM W) ks) (T.n % 2) = lastM M (T.n % 2)∨lastM (crashM (cntM W) ks) (T.n % 2) = mpage (cmF T sp l main).mt S := by
              show (pgAt (crashP ks 0 W.pg W.loose) (T.n % 2)).2 = _∨(pgAt (crashP ks 0 W.pg W.loose) (T.n % 2)).2 = _
              rw [hlo]
              unfold crashP crashP crashS
              rw [pgAt_set _ _ _ _ (by rw [lW]; exact hsl),if_pos rfl]
              show (if 0 < ks.length then tornB (pgAt W.pg (T.n % 2)).1 (mpage (cmF T sp l main).mt S) (ks.getD 0 0).toNat ((pgAt W.pg (T.n % 2)).1.length / 128) else (pgAt W.pg (T.n % 2)).1) = _∨(if 0 < ks.length then tornB (pgAt W.pg (T.n % 2)).1 (mpage (cmF T sp l main).mt S) (ks.getD 0 0).toNat ((pgAt W.pg (T.n % 2)).1.length / 128) else (pgAt W.pg (T.n % 2)).1) = _
              rw [hg]
              by_cases hk0 : 0 < ks.length
              · rw [if_pos hk0]
                exact torn_meta s1 hlen0 hmb.2 (by rw [hpar]; exact hR.ot) (page_drop128 _ _) _
              · rw [if_neg hk0]; exact .inl rfl
            have hoff : ∀ p,p < M1.pg.length→p≠T.n % 2→lastM (crashM (cntM W) ks) p = lastM M1 p := fun p hp hx => by
              show (pgAt (crashP ks 0 W.pg W.loose) p).2 = _
              rw [crashP_off ks p _ _ _ (by rw [hlo]; simpa using hx)]
              have := laW p
              rw [if_neg hx] at this
              exact this
            rcases hcr with e3 | e3
            · left
              have hall : ∀ p,p < M.pg.length→p ∉ (cmT T sp l Mr S).K→lastM (crashM (cntM W) ks) p = lastM M p := fun p hp hx => by
                by_cases e4 : p = T.n % 2
                · rw [e4]; exact e3
                · rw [hoff p (by omega) e4]; exact (hst1 p hp hx).last
              exact hR.keep (M' := crashM (cntM W) ks) hsz1 hli1 (c1.crash ks) (by omega) (bW.cnt.crash c1.lin ks) (fW.cnt.crash c1.lin) rfl (by show _≤(crashP ks 0 W.pg W.loose).length; rw [crashP_len,lW]; exact hln)
                (fun p hp => hall p (by
                  rcases hp with x | x
                  · have := (hR.inv.rl p x).2; have : p < F.mt.e := this; omega
                  · have := (hR.inv.rh p x).2; have : p < F.mt.e := this; omega) (hf.old p hp.symm)) (fun p hp => hall p (by omega) (h01 p hp))
            · right
              exact fresh (crashM (cntM W) ks) rfl hsz1 hli1 (c1.crash ks) (bW.cnt.crash c1.lin ks) (fW.cnt.crash c1.lin) rfl (by show (crashP ks 0 W.pg W.loose).length = _; rw [crashP_len]; exact lW) hoff e3
          · exfalso
            apply x3
            refine calm_cE ?_
            rw [← hW]
            refine wr_calm (sync_calm ?_) _ _
            have := dw_calm (T := cmT T sp l Mr S) hcalm
            rw [hdw] at this
            exact this
      · have e := cm_c (mt := (cmF T sp l main).mt) hdw x1 x2
        rw [e] at hcm
        simp only [Prod.mk.injEq] at hcm
        obtain ⟨rfl,rfl⟩ := hcm
        have hb := fun ks => back (cntM (syncM M1)) ks (hd.sz.trans hsz) (hd.li.trans hR.li) (hd.wel.sync.cnt.mono (by omega)) bydS.cnt wfS.cnt (by show _≤(syncP M1.pg M1.loose).length; rw [syncP_len]; exact hln) (fun p hp hx => ((hst1 p hp hx).sync).cnt)
        refine ⟨fun k => absurd k (by decide),fun _ => hb,fun _ ks => .inl (hb ks),fun p _ hp hx => ((hst1 p hp hx).sync).cnt.last,hd.wel.sync.cnt.mono (by omega),fun hcalm => absurd (calm_cE (sync_calm ?_)) x2⟩
        have := dw_calm (T := cmT T sp l Mr S) hcalm
        rw [hdw] at this
        exact this
    · have e := cm_b (mt := (cmF T sp l main).mt) hdw x1
      rw [e] at hcm
      simp only [Prod.mk.injEq] at hcm
      obtain ⟨rfl,rfl⟩ := hcm
      have hb := fun ks => back (cntM M1) ks (hd.sz.trans hsz) (hd.li.trans hR.li) (hd.wel.cnt.mono (by omega)) hd.byd.cnt hd.wf.cnt hln (fun p hp hx => (hst1 p hp hx).cnt)
      refine ⟨fun k => absurd k (by decide),fun _ => hb,fun _ ks => .inl (hb ks),fun p _ hp hx => (hst1 p hp hx).cnt.last,hd.wel.cnt.mono (by omega),fun hcalm => absurd (calm_cE ?_) x1⟩
      have := dw_calm (T := cmT T sp l Mr S) hcalm
      rw [hdw] at this
      exact this
  · have e := cm_a (T := cmT T sp l Mr S) (M := M) (mt := (cmF T sp l main).mt) (by rw [hdw]; exact hz)
    rw [hdw] at e
    rw [e] at hcm
    simp only [Prod.mk.injEq] at hcm
    obtain ⟨rfl,rfl⟩ := hcm
    have hb := fun ks => back M1 ks (hd.sz.trans hsz) (hd.li.trans hR.li) (hd.wel.mono (by omega)) hd.byd hd.wf hln hst1
    refine ⟨fun k => absurd k (by decide),fun _ => hb,fun _ ks => .inl (hb ks),fun p _ hp hx => (hst1 p hp hx).last,hd.wel.mono (by omega),fun hcalm => ?_⟩
    exfalso
    apply hz
    have := dw_codes_calm (T := cmT T sp l Mr S) hcalm (by rw [hf.en,hR.li]; exact hf.el)
    rw [hdw] at this
    exact this
end
end Go.Proofs.YtnnmpaenainogaaGreat

namespace Go.Proofs.YtnnmpaenainogaaGreat
open Go.RowKit Go.Maps
def KCT (t : Option TypeId) : Prop := KC t∨t = some 150
theorem not_KC {t : TypeId} (h : t≠220∧t≠129∧t≠163∧t≠160∧t≠138) : ¬ KC (some t) := by
  obtain ⟨h0,h1,h2,h3,h4⟩ := h
  rintro (k | k | k)
  · exact not_KS h0 k
  · exact not_KD' ⟨h1,h2,h3⟩ k
  · injection k with k; exact h4 k
theorem not_KCT {t : TypeId} (h : t≠220∧t≠129∧t≠163∧t≠160∧t≠138∧t≠150) : ¬ KCT (some t) := by
  rintro (k | k)
  · exact not_KC ⟨h.1,h.2.1,h.2.2.1,h.2.2.2.1,h.2.2.2.2.1⟩ k
  · injection k with k; exact h.2.2.2.2.2 k
def CmO (B d f : Nat) (w' : World) (S lim o Mr : Nat) (M : SM) (F : FV) (rs : List Rc) (H : List Nat) (T : TV) (V : Nat→Nat) (I : List Nat) (main : Nat) (e : Int) : Prop :=
  (∃ sp1 V1 sp l,frAll T F.ls = ({ T with sp := sp1 },0)∧CInv lim o (flOf F rs) H sp1 V1 I F.ls []∧TakeTo S (((flatR (recsM sp1 T.n)).length : Int) - (sp1.us.length : Int)) sp1 [] sp l ∧
    ((∃ V' N q,Cls S lim o F rs H T V I sp l V'∧cmR (cmT T sp l Mr S) M (cmF T sp l main).mt = (N,q)∧PD B w' d N∧e = (if q = 0 then 0 else 20)∧FileAt B w' f d (if q = 0 then cmF T sp l main else if q = 1 then F else { F with st := true })) ∨
     (takeM sp = (sp,0,21)∧PD B w' d M∧e = 21∧FileAt B w' f d F)))
theorem tcommit_law {B t f d x S lim c o main Mr : Nat} {w : World} {F : FV} {T : TV} {M : SM} {rs : List Rc} {H I : List Nat} {D E : Nat→List Int} {V : Nat→Nat} (hT : TxnAt B w t f (some x)) (hF : FileAt B w f d F) (hD : DraftAt B w x S T) (hP : PD B w d M)
    (hR : Rest S lim c M F rs H D) (hC : Chg S lim o F rs H D T V I E) (hc : c + lim≤80000) (hm : main = 0∨main∈I) (hMr : (Mr : Int) = roomI (S : Int)) (y : Int) (hy : y = (main : Int)) :
    Calls Tryz.prog 24 #[.pointer (some ⟨t,0,none⟩),.int .u32 y] w fun r w' => ∃ e,r = .returned (.int .i64 e)∧TxnAt B w' t f none∧Kfr KCT B w w'∧CmO B d f w' S lim o Mr M F rs H T V I main e := by
  subst hy
  have hl1 := hR.l1
  have hI := Chg.lt hR hC
  have hen : T.sp.en≤lim := hC.c.g.en2
  have ht := hR.tb
  have hn := hC.n
  have hmain : main < 4294967296 := by
    rcases hm with rfl | k
    · decide
    · have := hI main k; omega
  have hrm : rmain T.sp.en main = true := by
    unfold rmain
    rcases hm with rfl | k
    · rfl
    · have := hI main k; simp [this]
  obtain ⟨sp1,V1,h1,h2,h3⟩ := cls_of hR hC
  have hKl : T.K.length≤100000 := by
    have := nodup_len (srt_nodup hC.srt) (fun x hx => (hI x ((hC.k x).1 hx).1).2)
    omega
  refine (tcommit_any hT hF hD hR.st hn.symm (by omega) hmain hrm hP (Po := fun W r w' => ∃ e,r = .returned (.int .i64 e)∧Kfr KC B W w'∧CmO B d f w' S lim o Mr M F rs H T V I main e) fun W hFW hDW hPW => ?_).mono ?_
  · have hfew1 := c_few hR (by omega) h2
    refine (commit_any hFW hDW hPW hR.wel hR.sz hMr h1 (by show Few sp1 T.n; rw [hn]; exact hfew1) (Chg.tkok hR h2) hKl (by omega) hmain fun sp l hto hge => ?_).mono ?_
    · obtain ⟨V',hcl⟩ := h3 sp l hto hge
      have hf := cls_ok hR (by omega) hC hcl hMr hm
      refine ⟨⟨hf.few,flatR_rise hf.okr,hf.ge,by have := hf.ll; omega,by have := hf.el; omega⟩,⟨?_,by have := hf.el; have := hR.li; omega,?_,fun p hp => (hf.lt p hp).2,hf.mr,hf.mo⟩⟩
      · have := hf.len
        show c + (cmT T sp l Mr S).K.length≤80000
        omega
      · have := hf.inv.e2; exact this
    · rintro r w' ⟨hk,hx⟩
      rcases hx with ⟨sp,l,hto,hge,hp,hr,hf⟩ | ⟨sp,l,hr,hto,htk,hp,hf⟩
      · obtain ⟨V',hcl⟩ := h3 sp l hto hge
        refine ⟨_,hr,⟨_,hr,hk,sp1,V1,sp,l,h1,h2,hto,.inl ⟨V',_,_,hcl,rfl,hp,rfl,?_⟩⟩⟩
        have hst := hR.st
        have hf' := hf
        rw [hst] at hf'
        exact hf'
      · exact ⟨21,hr,⟨21,hr,hk,sp1,V1,sp,l,h1,h2,hto,.inr ⟨htk,hp,rfl,hf⟩⟩⟩
  · rintro r w' ⟨W,hTW,hkW,e,hr,hk,ho⟩
    refine ⟨e,hr,hTW.kfr hk (not_KC (by decide)),(hkW.imp fun t k => .inr k).trans (hk.imp fun t k => .inl k),ho⟩
end Go.Proofs.YtnnmpaenainogaaGreat

namespace Go.Proofs.YtnnmpaenainogaaGreat
open Go.RowKit Go.Maps
def fillB (n : Nat) (x : Int) (k : Nat) : List Int := List.replicate k x++List.replicate (n - k) 0
theorem fillB_set {n k : Nat} (x : Int) (h : k < n) : (fillB n x k).set k x = fillB n x (k + 1) := by
  unfold fillB
  have e : List.replicate (n - k) (0 : Int) = 0 :: List.replicate (n - (k + 1)) 0 := by
    rw [show n - k = (n - (k + 1)) + 1 by omega,List.replicate_succ]
  rw [e,List.set_append_right _ _ (by simp)]
  simp only [List.length_replicate,Nat.sub_self,List.set_cons_zero]
  rw [List.replicate_succ' (n := k),List.append_assoc]
  rfl
theorem fillB_len {n k : Nat} (x : Int) (h : k≤n) : (fillB n x k).length = n := by
  unfold fillB; simp; omega
set_option maxHeartbeats 2000000 in
theorem page_any (w : World) (n : Nat) (x : Int) (hn : n≤100000) :
    Calls Tryz.prog 20 #[.int .i64 (n : Int),.int .u8 x] w fun r w' => ∃ g,r = .returned (.slice (some ⟨g,0,none⟩) n n)∧Own8 w.heap.size w' n (.slice (some ⟨g,0,none⟩) n n) (List.replicate n x)∧w.grownBy w' none := by
  obtain ⟨i0,hi,hz0,hz1,hz2⟩ := info_parts infoU8
  go_enter Tryz.func20,Tryz.ntmps20
  go_wp2_with (at_make; refine wpList_make_full _ rfl _ _ 32 rfl w.heap.size 5 i0 (.int .u8 0) 1 Tryz.underlying32 hi hz0 hz1 .i64 .i64 _ _ n rfl rfl ?c1 ?c2 ?c3 ?c4 (Nat.le_refl _) ?_; (case c1 => rfl); (case c2 => rfl); (case c3 => rw [hz2]; omega); (case c4 => unfold maxLen; omega); intro wM hown hgM; have HO := Lib.hid hown; have HgM := Lib.hid hgM; clear hown hgM)
  have HO2 : Hid (wM.ownsRow w.heap.size 5 1 (.slice (some ⟨w.heap.size,0,none⟩) n n) n ((fillB n x 0).map (Value.int .u8))) := by
    have h := HO.out
    rw [Nat.mul_one,show (Value.int .u8 0).cells = #[Value.int .u8 0] from rfl,toList_madeCells_one] at h
    unfold fillB
    simp only [List.replicate_zero,List.nil_append,Nat.sub_zero,List.map_replicate]
    exact h
  clear HO
  go_loopg [6] n (fun gk i wr => ∃ k : Nat,k + gk = n∧i = .int .i64 k∧wr.ownsRow w.heap.size 5 1 (.slice (some ⟨w.heap.size,0,none⟩) n n) n ((fillB n x k).map (Value.int .u8))∧w.grownBy wr none)
  case atStart => exact ⟨0,by omega,rfl,HO2.out,HgM.out⟩
  case round =>
    obtain ⟨k,hk,rfl,hown,hg⟩ := hrel
    have HR := Lib.hid hown
    have HG := Lib.hid hg
    clear hown hg HO2 HgM
    by_cases hlt : k < n
    · obtain ⟨f,rfl⟩ : ∃ f,gk = f + 1 := ⟨gk - 1,by omega⟩
      have hki : (k : Int) < (n : Int) := by omega
      have HX := Lib.hid (fillB_set x hlt)
      have HSt := Lib.hid (HR.out.stored k (.int .u8 x))
      have hfrz := HR.out.frozenAt k
      obtain ⟨y0,hcellg⟩ : ∃ y,wr.cell? ⟨w.heap.size,k,none⟩ = some y := by
        have h := HR.out.cellAt k (by omega)
        have hl : k < ((fillB n x k).map (Value.int .u8)).length := by rw [List.length_map,fillB_len x (by omega)]; exact hlt
        rw [List.getElem?_eq_getElem hl] at h
        exact ⟨_,h⟩
      go_wp2
      go_roundg f
      case measure => omega
      case rel =>
        refine ⟨k + 1,by omega,by go_num,?_,gnew HG.out HSt.out.2 (Nat.le_refl _)⟩
        have h1 := HSt.out.1
        rw [← List.map_set,HX.out] at h1
        exact h1
    · obtain rfl : n = k := by omega
      go_wp2
      go_ret
      refine ⟨_,rfl,?_,HG.out⟩
      have h := HR.out
      unfold fillB at h
      rw [Nat.sub_self,List.replicate_zero,List.append_nil] at h
      exact h
abbrev sm0 (s l : Nat) : SM := { size := s,limit := l,pg := [],loose := [],fails := false,ahead := 0,calls := 0,once := false }
theorem byd_sm0 (s l : Nat) : Byd (sm0 s l) := ⟨(by intro x hx; cases hx),(by intro x hx; cases hx)⟩
theorem pd_new {B : Nat} {w w' : World} {s l : Nat} (hB : B≤w.heap.size) (h : w.alloc (.cells (boxNew s l) 129) = w') : PD B w' w.heap.size (sm0 s l)∧w.grownBy w' none := by
  subst h
  exact ⟨(newM hB).pd,World.grownBy_alloc _ _ _⟩
section
variable {S lim c : Nat} {M : SM} {F : FV} {rs : List Rc} {H : List Nat} {D : Nat→List Int}
theorem begin_law {B B2 f d o : Nat} {w : World} (h : FileAt B w f d F) (hd : PD B2 w d M) (hR : Rest S lim c M F rs H D) (hc : c≤80000) (ho : o < 18446744073709551616) (C : Nat→List Int) (x : Int) (hx : x = (o : Int)) :
    Calls Tryz.prog 17 #[.pointer (some ⟨f,0,none⟩),.int .u64 x] w fun r w' => BeginR w.heap.size w f S ⟨F.mt.t + 1,spOf F.mt.e lim (min o (F.mt.t - 1)) rs,[],C⟩ r w' := by
  have hok : Okr F.mt.e rs := hR.inv.ok
  have hg : gatherL F.ps = rs := by rw [hR.ps,gather_flat hok]
  have hl := hR.l1
  have he := hR.el
  have ht := hR.tb
  have := begin_any h hd hR.st (o := o) (by
    rw [hR.ps,flatR_allOf]
    have := nodup_len (okr_nodup hok) (fun y hy => (okr_range hok y hy).2)
    omega) hR.t1 (by omega) ho hR.e2 (by rw [hR.li]; exact he) (by rw [hR.li]; exact hl) (by rw [hg]; exact right_iff.2 hok) S C x hx
  rw [hg,hR.li] at this
  exact this
theorem tnew_law {B B1 B2 t f x d cc b0 o : Nat} {ao : Option Addr} {w : World} {T : TV} {b : List Int} {V : Nat→Nat} {I : List Nat} {E : Nat→List Int} (h : TxnAt B w t f (some x)) (hx : DraftAt B w x S T) (hf : FileAt B1 w f d F) (hd : PD B2 w d M)
    (hR : Rest S lim c M F rs H D) (hC : Chg S lim o F rs H D T V I E) (hs : Own8 b0 w S (.slice ao S cc) b) :
    Calls Tryz.prog 19 #[.pointer (some ⟨t,0,none⟩),.slice ao S cc] w fun r w' => r = .returned (.tuple #[.int .u32 ((newT T b).2.1 : Int),.int .i64 (newT T b).2.2])∧DraftAt B w' x S (newT T b).1∧Kfr KS B w w' := by
  have hsz := hR.sz
  have hk := Chg.tkok hR hC.c
  have hl := hR.l1
  have hen : T.sp.en≤lim := hC.c.g.en2
  have hlim := hC.c.g.lim
  have hK : T.K.length≤100000 := by
    have := nodup_len (srt_nodup hC.srt) (fun y hy => (Chg.lt hR hC y ((hC.k y).1 hy).1).2)
    omega
  subst hsz
  exact tnew_any h hx hf hd hs hR.s2 hk.low hk.en hk.lim hk.u32 hK
theorem tcommit_none {B t f d x o main Mr : Nat} {w : World} {T : TV} {I : List Nat} {E : Nat→List Int} {V : Nat→Nat} (hT : TxnAt B w t f (some x)) (hF : FileAt B w f d F) (hD : DraftAt B w x S T) (hP : PD B w d M)
    (hR : Rest S lim c M F rs H D) (hC : Chg S lim o F rs H D T V I E) (hcalm : M.fails = false) (hls : F.ls = []) (hno : (flatR (recsM T.sp T.n)).length = 0) (hus : T.sp.us = []) (hen : T.sp.en≠T.sp.lim) (hc : c + lim≤80000) (hm : main = 0∨main∈I) (hMr : (Mr : Int) = roomI (S : Int)) (y : Int) (hy : y = (main : Int)) :
    Calls Tryz.prog 24 #[.pointer (some ⟨t,0,none⟩),.int .u32 y] w fun r w' => r = .returned (.int .i64 0)∧TxnAt B w' t f none∧Kfr KCT B w w'∧∃ N,PD B w' d N∧FileAt B w' f d (cmF T T.sp [] main)∧N.fails = false∧Rest S lim (c + lim + 6) N (cmF T T.sp [] main) (recsM T.sp T.n) I E := by
  refine (tcommit_law hT hF hD hP hR hC hc hm hMr y hy).mono ?_
  rintro r w' ⟨e,hr,h1,h2,sp1,V1,sp,l,hfr,_,hto,ho⟩
  have e1 : sp1 = T.sp := by
    rw [hls] at hfr
    simp only [frAll,Prod.mk.injEq,and_true] at hfr
    have := congrArg TV.sp hfr
    exact this.symm
  subst e1
  have hz : ∀ {a b : Sp} {l m : List Nat},TakeTo S (((flatR (recsM T.sp T.n)).length : Int) - (T.sp.us.length : Int)) a l b m→a = T.sp→l = []→b = T.sp∧m = [] := by
    intro a b l m h
    induction h with
    | refl l => intro ha hl; exact ⟨ha,hl⟩
    | step hab hlt ht ih =>
      intro ha hl
      obtain ⟨rfl,rfl⟩ := ih ha hl
      rw [hno,hus] at hlt
      exact absurd hlt (by unfold manyF; simp)
  obtain ⟨rfl,rfl⟩ := hz hto rfl rfl
  rcases ho with ⟨V',N,q,hcl,hcm,hp,he,hf⟩ | ⟨htk,_⟩
  · obtain ⟨p1,p2,p3,p4,p5,p6⟩ := commit_plain hR (by omega) hC hcl hMr hm hcm
    obtain ⟨rfl,hNf⟩ := p6 hcalm
    rw [if_pos rfl] at he hf
    subst he
    exact ⟨hr,h1,h2,N,hp,hf,hNf,p1 rfl⟩
  · exfalso
    unfold takeM at htk
    rw [hus] at htk
    simp only at htk
    rw [if_neg hen] at htk
    simp at htk
end
end Go.Proofs.YtnnmpaenainogaaGreat

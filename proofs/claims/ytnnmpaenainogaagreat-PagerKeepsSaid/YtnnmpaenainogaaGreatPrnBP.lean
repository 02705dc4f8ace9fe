/-
  Layer 11: a file, and a change of it, as they stand in a law's walk; each call on them. Own work.
-/
import Derived.Test.YtnnmpaenainogaaGreatPrnBO

set_option linter.unusedVariables false
set_option linter.unusedSimpArgs false
namespace Go.Proofs.YtnnmpaenainogaaGreat
open Go.RowKit Go.Maps
theorem FileAt.mono {B B' f d : Nat} {w : World} {F : FV} (h : FileAt B w f d F) (k : B'≤B) : FileAt B' w f d F := ⟨Nat.le_trans k h.1,h.2⟩
theorem TxnAt.mono {B B' t f : Nat} {x : Option Nat} {w : World} (h : TxnAt B w t f x) (k : B'≤B) : TxnAt B' w t f x := ⟨Nat.le_trans k h.1,h.2⟩
theorem DraftAt.mono {B B' x S : Nat} {w : World} {T : TV} (h : DraftAt B w x S T) (k : B'≤B) : DraftAt B' w x S T := by
  obtain ⟨a,Bs,mb,b,c,d,e⟩ := h
  exact ⟨Nat.le_trans k a,Bs,mb,b,Nat.le_trans k c,Nat.le_trans k d,e⟩
theorem PD.crash {B d : Nat} {w : World} {M : SM} {c : Nat} {ka : Option Addr} {kn kc : Nat} {ks : List Int} (h : PD B w d M) (hW : Wel M c) (hc : c≤100000) (hks : Stays B w (.slice ka kn kc) ks) (hby : Byt ks) :
    Calls Tryz.prog 30 #[.pointer (some ⟨d,0,none⟩),.slice ka kn kc] w fun r w' => r = .returned (.tuple #[])∧PD B w' d (crashM M ks)∧Dfr B w w' := by
  obtain ⟨o,h⟩ := h
  refine (h.crash hks hby hW.s2 hW.s3 hW.lin (by have := hW.lo; show M.loose.length≤_; omega) (by have := hW.p; have := hW.l; show M.pg.length≤_; omega)).mono ?_
  rintro r w' ⟨rfl,a,b⟩
  exact ⟨rfl,⟨o,a⟩,b⟩
theorem PD.fail {B d : Nat} {w : World} {M : SM} (h : PD B w d M) (n : Int) :
    Calls Tryz.prog 28 #[.pointer (some ⟨d,0,none⟩),.int .i64 n] w fun r w' => r = .returned (.tuple #[])∧PD B w' d { M with fails := decide (0≤n),ahead := n }∧Dfr B w w' := by
  obtain ⟨o,h⟩ := h
  refine (h.fail n).mono ?_
  rintro r w' ⟨rfl,a,b⟩
  exact ⟨rfl,⟨o,a⟩,b⟩
structure LS (B d f : Nat) (w : World) (S lim c : Nat) (M : SM) (F : FV) (rs : List Rc) (H : List Nat) (D : Nat→List Int) : Prop where
  pd : PD B w d M
  fl : FileAt B w f d F
  re : Rest S lim c M F rs H D
  calm : M.fails = false
structure LT (B d f t x : Nat) (w : World) (S lim c o : Nat) (M : SM) (F : FV) (rs : List Rc) (H : List Nat) (D : Nat→List Int) (T : TV) (V : Nat→Nat) (I : List Nat) (E : Nat→List Int) : Prop where
  ls : LS B d f w S lim c M F rs H D
  tx : TxnAt B w t f (some x)
  dr : DraftAt B w x S T
  ch : Chg S lim o F rs H D T V I E
section
variable {B d f t x S lim c o : Nat} {w w' : World} {M : SM} {F : FV} {rs : List Rc} {H I : List Nat} {D E : Nat→List Int} {T : TV} {V : Nat→Nat}
theorem LS.kfr {P : Option TypeId→Prop} {B' : Nat} (h : LS B d f w S lim c M F rs H D) (k : Kfr P B' w w') (h0 : ¬ P (some 129)) (h1 : ¬ P (some 163)) (h2 : ¬ P (some 160)) (h3 : ¬ P (some 5)) (h4 : ¬ P (some 138)) (h5 : ¬ P (some 304)) (h6 : ¬ P (some 42)) : LS B d f w' S lim c M F rs H D :=
  ⟨h.pd.kfr k h0 h1 h2 h3,h.fl.kfr k h4 h5 h6,h.re,h.calm⟩
theorem LS.new (h : LS B d f w S lim c M F rs H D) (k : w.grownBy w' none) : LS B d f w' S lim c M F rs H D := ⟨h.pd.new k,h.fl.new k,h.re,h.calm⟩
theorem LS.mono (h : LS B d f w S lim c M F rs H D) {c' : Nat} (k : c≤c') : LS B d f w S lim c' M F rs H D := ⟨h.pd,h.fl,h.re.mono k,h.calm⟩
theorem LS.bw (h : LS B d f w S lim c M F rs H D) : B≤w.heap.size := by have := h.pd.lt; omega
theorem LS.ks (h : LS B d f w S lim c M F rs H D) (k : Kfr KS B w w') : LS B d f w' S lim c M F rs H D := h.kfr k (not_KS (by decide)) (not_KS (by decide)) (not_KS (by decide)) (not_KS (by decide)) (not_KS (by decide)) (not_KS (by decide)) (not_KS (by decide))
theorem LT.new (h : LT B d f t x w S lim c o M F rs H D T V I E) (k : w.grownBy w' none) : LT B d f t x w' S lim c o M F rs H D T V I E := ⟨h.ls.new k,h.tx.new k,h.dr.new k,h.ch⟩
theorem LT.mono (h : LT B d f t x w S lim c o M F rs H D T V I E) {c' : Nat} (k : c≤c') : LT B d f t x w S lim c' o M F rs H D T V I E := ⟨h.ls.mono k,h.tx,h.dr,h.ch⟩
theorem LT.asked {M' : SM} {c' : Nat} (h : LT B d f t x w S lim c o M F rs H D T V I E) (k : Dfr B w w') (hl : LS B d f w' S lim c' M' F rs H D) : LT B d f t x w' S lim c' o M' F rs H D T V I E := ⟨hl,h.tx.dfr k,h.dr.dfr k,h.ch⟩
theorem wel_sm0 {L : Nat} (h1 : 1≤L) (h2 : L≤65536) : Wel (sm0 512 L) 0 := wel_new (s := 512) (l := L) (show May ((512 : Nat) : Int) (L : Int) by unfold May; omega)
theorem law_open {L : Nat} (D : Nat→List Int) (hp : PD B w d (sm0 512 L)) (h1 : 2≤L) (h2 : L≤290) :
    Calls Tryz.prog 16 #[.pointer (some ⟨d,0,none⟩)] w fun r w' => ∃ f M,r = .returned (.tuple #[.pointer (some ⟨f,0,none⟩),.int .i64 0])∧LS B d f w' 512 L (L + 5) M fv0 [] [] D∧Dfr B w w' := by
  refine (open_any hp (wel_sm0 (by omega) (by omega)) (by omega) rfl h1 h2 (byd_sm0 _ _)).mono ?_
  rintro r w' hk
  obtain ⟨f,n,hn,rfl,a,b,e,r1,r2⟩ := open_first D rfl rfl (wel_sm0 (L := L) (by omega) (by omega)) (byd_sm0 _ _) rfl h1 hk
  exact ⟨f,_,rfl,⟨a,b.mono (by have := hp.lt; omega),r1.mono (by have : n≤L + 1 := hn; omega),r2⟩,e⟩
theorem law_again (h : LS B d f w S lim c M F rs H D) (hc : c≤10000) (hl : lim≤290) :
    Calls Tryz.prog 16 #[.pointer (some ⟨d,0,none⟩)] w fun r w' => ∃ g M',r = .returned (.tuple #[.pointer (some ⟨g,0,none⟩),.int .i64 0])∧LS B d g w' S lim (c + lim + 4) M' F rs H D∧LS B d f w' S lim (c + lim + 4) M' F rs H D∧Dfr B w w' := by
  have e2 := h.re.e2
  have el := h.re.el
  refine (open_any h.pd h.re.wel hc h.calm (by rw [h.re.li]; omega) (by rw [h.re.li]; exact hl) h.re.byd).mono ?_
  rintro r w' hk
  obtain ⟨g,n,hn,rfl,a,b,e,r1⟩ := h.re.reopen hk
  have r2 := h.re.calm (n := n) h.calm
  exact ⟨g,_,rfl,⟨a,b.mono h.bw,r1.mono (by omega),r2⟩,⟨a,h.fl.dfr e,r1.mono (by omega),r2⟩,e⟩
theorem law_begin (h : LS B d f w S lim c M F rs H D) (hc : c≤80000) {o : Nat} (ho : o < 18446744073709551616) (C : Nat→List Int) (y : Int) (hy : y = (o : Int)) :
    Calls Tryz.prog 17 #[.pointer (some ⟨f,0,none⟩),.int .u64 y] w fun r w' => ∃ t x,r = .returned (.tuple #[.pointer (some ⟨t,0,none⟩),.int .i64 0])∧LT B d f t x w' S lim c (min o (F.mt.t - 1)) M F rs H D ⟨F.mt.t + 1,spOf F.mt.e lim (min o (F.mt.t - 1)) rs,[],C⟩ (fillR (min o (F.mt.t - 1)) (fun _ => 0) rs) H D∧w.grownBy w' none := by
  refine (begin_law h.fl h.pd h.re hc ho C y hy).mono ?_
  rintro r w' ⟨t,x,rfl,a,b,g⟩
  exact ⟨t,x,rfl,⟨h.new g,a.mono h.bw,b.mono h.bw,chg_begin h.re _ C⟩,g⟩
theorem law_new {b0 cc : Nat} {ao : Option Addr} {b : List Int} (h : LT B d f t x w S lim c o M F rs H D T V I E) (hs : Own8 b0 w S (.slice ao S cc) b) (hb : Byt b) :
    Calls Tryz.prog 19 #[.pointer (some ⟨t,0,none⟩),.slice ao S cc] w fun r w' => r = .returned (.tuple #[.int .u32 ((newT T b).2.1 : Int),.int .i64 (newT T b).2.2])∧Kfr KS B w w' ∧
      (((newT T b).2.2 = 0∧(newT T b).2.1 ∉ I∧2≤(newT T b).2.1∧(newT T b).2.1 < (newT T b).1.sp.en∧(takeM T.sp = ((newT T b).1.sp,(newT T b).2.1,0))∧(V (newT T b).2.1 = 1∨V (newT T b).2.1 = 0∧(newT T b).2.1 = T.sp.en) ∧
        LT B d f t x w' S lim c o M F rs H D (newT T b).1 (upd V (newT T b).2.1 3) (I++[(newT T b).2.1]) (updC E (newT T b).2.1 b)) ∨
       ((newT T b).2.2 = 21∧(newT T b).2.1 = 0∧(newT T b).1 = T∧T.sp.us = []∧T.sp.en = lim∧LT B d f t x w' S lim c o M F rs H D T V I E)) := by
  refine (tnew_law h.tx h.dr h.ls.fl h.ls.pd h.ls.re h.ch hs).mono ?_
  rintro r w' ⟨rfl,hd,hk⟩
  have hl : b.length = S := Own8.len hs
  have htx : TxnAt B w' t f (some x) := h.tx.kfr hk (not_KS (by decide))
  refine ⟨rfl,hk,?_⟩
  rcases chg_new h.ls.re h.ch hb hl with ⟨a1,a2,a3,a4,a5,a6,a7⟩ | ⟨a1,a2,a3,a4,a5⟩
  · exact .inl ⟨a1,a2,a3,a4,a5,a6,h.ls.ks hk,htx,hd,a7⟩
  · rw [a3] at hd
    exact .inr ⟨a1,a2,a3,a4,a5,h.ls.ks hk,htx,hd,h.ch⟩
theorem law_free {p : Nat} (h : LT B d f t x w S lim c o M F rs H D T V I E) (hp : p∈I) {I' : List Nat} (hn : I'.Nodup) (hI : ∀ q,q∈I'↔q∈I∧q≠p) (y : Int) (hy : y = (p : Int)) :
    Calls Tryz.prog 22 #[.pointer (some ⟨t,0,none⟩),.int .u32 y] w fun r w' => r = .returned (.int .i64 0)∧Kfr KS B w w'∧(giveM T.sp p = ((freeT T p).1.sp,0))∧∃ v,(V p = 3∧v = 1∨V p = 0∧p∈H∧v = 4)∧LT B d f t x w' S lim c o M F rs H D (freeT T p).1 (upd V p v) I' E := by
  subst hy
  have h3 := Chg.lt h.ls.re h.ch p hp
  have hl := h.ls.re.l1
  have hen : T.sp.en≤lim := h.ch.c.g.en2
  refine (tfree_any h.tx h.dr (by omega)).mono ?_
  rintro r w' ⟨rfl,hd,hk⟩
  obtain ⟨e0,eg,v,hv,hc⟩ := chg_free h.ls.re h.ch hp hn hI
  rw [e0]
  exact ⟨rfl,hk,eg,v,hv,h.ls.ks hk,h.tx.kfr hk (not_KS (by decide)),hd,hc⟩
theorem law_commit {main Mr : Nat} (h : LT B d f t x w S lim c o M F rs H D T V I E) (hc : c + lim≤80000) (hm : main = 0∨main∈I) (hMr : (Mr : Int) = roomI (S : Int)) (y : Int) (hy : y = (main : Int)) :
    Calls Tryz.prog 24 #[.pointer (some ⟨t,0,none⟩),.int .u32 y] w fun r w' => ∃ e,r = .returned (.int .i64 e)∧TxnAt B w' t f none∧Kfr KCT B w w' ∧
      ((e = 0∧∃ sp l N V',Cls S lim o F rs H T V I sp l V'∧LS B d f w' S lim (c + lim + 6) N (cmF T sp l main) (recsM sp T.n) I E∧∀ p,2≤p→p < M.pg.length→p ∉ (cmT T sp l Mr S).K→lastM N p = lastM M p) ∨
       (e = 21∧LS B d f w' S lim c M F rs H D)) := by
  refine (tcommit_law h.tx h.ls.fl h.dr h.ls.pd h.ls.re h.ch hc hm hMr y hy).mono ?_
  rintro r w' ⟨e,hr,h1,h2,sp1,V1,sp,l,_,_,_,ho⟩
  refine ⟨e,hr,h1,h2,?_⟩
  rcases ho with ⟨V',N,q,hcl,hcm,hp,he,hf⟩ | ⟨_,hp,he,hf⟩
  · obtain ⟨p1,p2,p3,p4,p5,p6⟩ := commit_plain h.ls.re (by omega) h.ch hcl hMr hm hcm
    obtain ⟨rfl,hNf⟩ := p6 h.ls.calm
    rw [if_pos rfl] at he hf
    exact .inl ⟨he,sp,l,N,V',hcl,⟨hp,hf,p1 rfl,hNf⟩,p4⟩
  · exact .inr ⟨he,hp,hf,h.ls.re,h.ls.calm⟩
theorem law_fread {p : Nat} (h : LS B d f w S lim c M F rs H D) (hc : c≤100000) (hp : p < 4294967296) (y : Int) (hy : y = (p : Int)) :
    Calls Tryz.prog 40 #[.pointer (some ⟨f,0,none⟩),.int .u32 y] w fun r w' => if 2≤p∧p < F.mt.e then ∃ ao cc,r = .returned (.tuple #[.slice ao S cc,.int .i64 0])∧Own8 w.heap.size w' S (.slice ao S cc) (lastM M p)∧Dfr B w w'∧LS B d f w' S lim (c + 1) (cntM M) F rs H D
      else r = .returned (.tuple #[.slice none 0 0,.int .i64 24])∧w = w' := by
  refine (fread_any h.fl h.pd (h.re.wel.fine hc) h.re.wel.s2 h.calm h.re.len hp y hy).mono ?_
  rintro r w' hk
  unfold FReadR at hk
  split at hk
  · rename_i hr
    obtain ⟨ao,cc,rfl,a,b,e⟩ := hk
    rw [if_pos hr]
    rw [h.re.sz] at b ⊢
    exact ⟨ao,cc,rfl,b,e,a,h.fl.dfr e,h.re.cnt,cnt_calm h.calm⟩
  · rename_i hr
    rw [if_neg hr]
    exact hk
theorem law_fheld {p : Nat} (h : LS B d f w S lim c M F rs H D) (hc : c≤100000) (hp : p∈H) (y : Int) (hy : y = (p : Int)) :
    Calls Tryz.prog 40 #[.pointer (some ⟨f,0,none⟩),.int .u32 y] w fun r w' => ∃ ao cc,r = .returned (.tuple #[.slice ao S cc,.int .i64 0])∧Own8 w.heap.size w' S (.slice ao S cc) (D p)∧Dfr B w w'∧LS B d f w' S lim (c + 1) (cntM M) F rs H D := by
  have hr := h.re.inv.rh p hp
  have hr2 : p < F.mt.e := hr.2
  have el := h.re.el
  have l1 := h.re.l1
  refine (law_fread h hc (by omega) y hy).mono ?_
  rintro r w' hk
  rw [if_pos ⟨hr.1,hr2⟩] at hk
  rw [← h.re.dat p hp]
  exact hk
theorem law_theld {p : Nat} (h : LT B d f t x w S lim c o M F rs H D T V I E) (hc : c≤100000) (hp : p∈I) (y : Int) (hy : y = (p : Int)) :
    Calls Tryz.prog 41 #[.pointer (some ⟨t,0,none⟩),.int .u32 y] w fun r w' => ∃ ao cc M',r = .returned (.tuple #[.slice ao S cc,.int .i64 0])∧Own8 w.heap.size w' S (.slice ao S cc) (E p)∧Dfr B w w'∧LT B d f t x w' S lim (c + 1) o M' F rs H D T V I E∧(M' = M∨M' = cntM M) := by
  subst hy
  have h3 := Chg.lt h.ls.re h.ch p hp
  have hl := h.ls.re.l1
  have hen : T.sp.en≤lim := h.ch.c.g.en2
  have hs2 := h.ls.re.s2
  by_cases hk : p∈T.K
  · refine (tread_own h.tx h.dr (by omega) hk hs2).mono ?_
    rintro r w' ⟨ao,cc,rfl,a,b⟩
    rw [h.ch.d p hk] at a
    exact ⟨ao,cc,M,rfl,a,dfr_new b,(h.new b).mono (by omega),.inl rfl⟩
  · have hv : V p = 0∧p∈H := by
      rcases h.ch.c.i p hp with k | k
      · exact absurd ((h.ch.k p).2 ⟨hp,k⟩) hk
      · exact k
    have hr := h.ls.re.inv.rh p hv.2
    have hr2 : p < F.mt.e := hr.2
    have hfr : p ∉ T.sp.fr := fun k => by have := (h.ch.c.g.k3 p).2 k; omega
    have hsz := h.ls.re.sz
    refine (tread_file h.tx (by rw [hsz]; exact h.dr) h.ls.fl h.ls.pd (by omega) hk (h.ls.re.wel.fine hc) h.ls.re.wel.s2 h.ls.calm h.ls.re.len).mono ?_
    rintro r w' hkk
    unfold TReadR at hkk
    rw [if_pos ⟨hfr,hr.1,hr2⟩] at hkk
    obtain ⟨ao,cc,rfl,a,b,e⟩ := hkk
    rw [hsz] at b ⊢
    rw [h.ch.d0 p hp hv.1,← h.ls.re.dat p hv.2]
    exact ⟨ao,cc,cntM M,rfl,b,e,h.asked e ⟨a,h.ls.fl.dfr e,h.ls.re.cnt,cnt_calm h.ls.calm⟩,.inr rfl⟩
end
end Go.Proofs.YtnnmpaenainogaaGreat

namespace Go.Proofs.YtnnmpaenainogaaGreat
open Go.RowKit Go.Maps
theorem stays_nil (B : Nat) (w : World) : Stays B w (.slice none 0 0) [] := fun w' _ => seq_nil _ _
abbrev KT : Option TypeId→Prop := fun _ => True
theorem Kfr.any {P : Option TypeId→Prop} {B : Nat} {w w' : World} (h : Kfr P B w w') : Kfr KT B w w' := h.imp fun _ _ => trivial
theorem Kfr.grown {P : Option TypeId→Prop} {B : Nat} {w w' : World} (h : Kfr P B w w') (hB : w.heap.size≤B) : w.grownBy w' none := ⟨h.os,h.tape,h.output,h.size,fun k hk _ => h.block k hk (.inl (by omega))⟩
theorem kt_dfr {B : Nat} {w w' : World} (h : Dfr B w w') : Kfr KT B w w' := (kfr_dfr h).any
theorem kt_new {B : Nat} {w w' : World} (h : w.grownBy w' none) : Kfr KT B w w' := Kfr.of h
def awT (C : Nat→List Int) : TV := (newT ⟨2,spOf 2 20 0 [],[],C⟩ (List.replicate 512 7)).1
def awF : FV := ⟨⟨2,3,2,0⟩,[],[],false⟩
section
variable {B d f t x c : Nat} {w w' : World} {M : SM} {D : Nat→List Int}
theorem aw_new {C : Nat→List Int} {rs : List Rc} {H I : List Nat} {V : Nat→Nat} {E : Nat→List Int} {T : TV} (hT : T = ⟨2,spOf 2 20 0 [],[],C⟩) (hI : I = [])
    (h : (((newT T (List.replicate 512 7)).2.2 = 0∧(newT T (List.replicate 512 7)).2.1 ∉ I∧2≤(newT T (List.replicate 512 7)).2.1∧(newT T (List.replicate 512 7)).2.1 < (newT T (List.replicate 512 7)).1.sp.en∧(takeM T.sp = ((newT T (List.replicate 512 7)).1.sp,(newT T (List.replicate 512 7)).2.1,0))∧(V (newT T (List.replicate 512 7)).2.1 = 1∨V (newT T (List.replicate 512 7)).2.1 = 0∧(newT T (List.replicate 512 7)).2.1 = T.sp.en) ∧
        LT B d f t x w' 512 20 c 0 M fv0 rs H D (newT T (List.replicate 512 7)).1 (upd V (newT T (List.replicate 512 7)).2.1 3) (I++[(newT T (List.replicate 512 7)).2.1]) (updC E (newT T (List.replicate 512 7)).2.1 (List.replicate 512 7))) ∨
       ((newT T (List.replicate 512 7)).2.2 = 21∧(newT T (List.replicate 512 7)).2.1 = 0∧(newT T (List.replicate 512 7)).1 = T∧T.sp.us = []∧T.sp.en = 20∧LT B d f t x w' 512 20 c 0 M fv0 rs H D T V I E))) :
    ∃ V E,LT B d f t x w' 512 20 c 0 M fv0 rs H D (awT C) V [2] E∧E 2 = List.replicate 512 7 := by
  subst hT hI
  rcases h with ⟨_,_,_,_,_,_,h⟩ | ⟨h,_⟩
  · exact ⟨_,_,h,rfl⟩
  · exact absurd h (by show ¬ ((0 : Int) = 21); decide)
theorem aw_commit {C : Nat→List Int} {V : Nat→Nat} {E : Nat→List Int} (h : LT B d f t x w 512 20 c 0 M fv0 [] [] D (awT C) V [2] E) (hc : c≤1000) :
    Calls Tryz.prog 24 #[.pointer (some ⟨t,0,none⟩),.int .u32 2] w fun r w' => r = .returned (.int .i64 0)∧TxnAt B w' t f none∧Kfr KCT B w w'∧∃ N,LS B d f w' 512 20 (c + 26) N awF [] [2] E := by
  refine (tcommit_none (main := 2) (Mr := 42) h.tx h.ls.fl h.dr h.ls.pd h.ls.re h.ch h.ls.calm rfl rfl rfl (by show (3 : Nat)≠20; decide) (by omega) (.inr (by simp)) (by decide) 2 rfl).mono ?_
  rintro r w' ⟨a,b,k,N,e1,e2,e3,e4⟩
  exact ⟨a,b,k,N,e1,e2,e4,e3⟩
theorem aw_crash {F : FV} {rs : List Rc} {H : List Nat} {S lim : Nat} (h : LS B d f w S lim c M F rs H D) (hc : c≤100000) :
    Calls Tryz.prog 30 #[.pointer (some ⟨d,0,none⟩),.slice none 0 0] w fun r w' => r = .returned (.tuple #[])∧Dfr B w w'∧∃ N,LS B d f w' S lim c N F rs H D := by
  refine (h.pd.crash h.re.wel hc (stays_nil B w) (by intro y hy; cases hy)).mono ?_
  rintro r w' ⟨a,b,e⟩
  exact ⟨a,e,_,b,h.fl.dfr e,h.re.crash [],rfl⟩
end
set_option maxRecDepth 100000 in
set_option maxHeartbeats 8000000 in
theorem awake11_any (w : World) : Calls Tryz.prog 14 #[] w fun r w' => r = .returned (.bool true)∧w.grownBy w' none := by
  have hmay : May ((512 : Nat) : Int) ((20 : Nat) : Int) := by decide
  go_enter Tryz.func14,Tryz.ntmps14
  go_wp2_with (first
    | (go_at_call 15; refine (new_good _ 512 20 hmay).mono ?_; rintro e w0 ⟨rfl,hw0⟩; have hpn := pd_new (B := w.heap.size) (Nat.le_refl _) hw0; have HP0 := Lib.hid hpn.1; have HG0 := Lib.hid (kt_new (B := w.heap.size) hpn.2); clear hpn hw0)
    | (go_at_call 16; refine (law_open (fun _ => []) HP0.out (by decide) (by decide)).mono ?_; rintro e w1 ⟨f,M1,rfl,hl,hd⟩; have HL1 := Lib.hid hl; have HG1 := Lib.hid (HG0.out.trans (kt_dfr hd)); clear hl hd HP0)
    | (go_at_call 17; refine (law_begin HL1.out (by decide) (o := 9) (by decide) (fun _ => []) _ rfl).mono ?_; rintro e w2 ⟨t,x,rfl,hl,hd⟩; have HL2 := Lib.hid hl; have HG2 := Lib.hid (HG1.out.trans (kt_new hd)); clear hl hd HL1)
    | (go_at_call 20; refine (page_any w2 512 7 (by decide)).mono ?_; rintro e w3 ⟨g,rfl,ho,hg⟩; have HO3 := Lib.hid ho; have HL3 := Lib.hid (HL2.out.new hg); have HG3 := Lib.hid (HG2.out.trans (kt_new hg)); clear ho hg HL2)
    | (go_at_call 19; refine (law_new HL3.out HO3.out (by intro y hy; have := List.eq_of_mem_replicate hy; omega)).mono ?_; rintro e w4 ⟨he,hk,hx⟩; obtain rfl : e = .returned (.tuple #[.int .u32 2,.int .i64 0]) := he; obtain ⟨V4,E4,hl,hE⟩ := aw_new rfl rfl hx; have HL4 := Lib.hid hl; have HE4 := Lib.hid hE; have HG4 := Lib.hid (HG3.out.trans hk.any); clear hk hx hl hE HL3 HO3)
    | (go_at_call 24; refine (aw_commit HL4.out (by decide)).mono ?_; rintro e w5 ⟨rfl,ht,hk,N5,hl⟩; have HT5 := Lib.hid ht; have HL5 := Lib.hid hl; have HG5 := Lib.hid (HG4.out.trans hk.any); clear ht hk hl HL4)
    | (go_at_call 30; refine (aw_crash HL5.out (by decide)).mono ?_; rintro e w6 ⟨rfl,hk,N6,hl⟩; have HT6 := Lib.hid (HT5.out.dfr hk); have HL6 := Lib.hid hl; have HG6 := Lib.hid (HG5.out.trans (kt_dfr hk)); clear hk hl HL5 HT5)
    | (go_at_call 16; refine (law_again HL6.out (by decide) (by decide)).mono ?_; rintro e w7 ⟨g7,M7,rfl,hl,_,hk⟩; have HT7 := Lib.hid (HT6.out.dfr hk); have HL7 := Lib.hid hl; have HG7 := Lib.hid (HG6.out.trans (kt_dfr hk)); clear hk hl HL6 HT6)
    | (go_at_call 40; refine (law_fheld (p := 2) HL7.out (by decide) (by simp) _ rfl).mono ?_; rintro e w8 ⟨ao,cc,rfl,ho,hk,hl⟩; rw [HE4.out] at ho; obtain ⟨p8,rfl,-,-,k8⟩ := ho.at (by decide); have k9 : w8.cell? ⟨p8,9,none⟩ = some (.int .u8 7) := k8 9 (by decide); have HT8 := Lib.hid (HT7.out.dfr hk); have HL8 := Lib.hid hl; have HG8 := Lib.hid (HG7.out.trans (kt_dfr hk)); clear hk hl HL7 HT7 ho k8)
    | (go_at_call 18; refine (fmeta_any HL8.out.fl).mono ?_; rintro e w9 ⟨he,hg⟩; obtain rfl : e = .returned (.agg #[.int .u64 2,.int .u32 3,.int .u32 2,.int .u32 0]) := he; have HT9 := Lib.hid (HT8.out.new hg); have HL9 := Lib.hid (HL8.out.new hg); have HG9 := Lib.hid (HG8.out.trans (kt_new hg)); clear hg HL8 HT8)
    | (go_at_call 42; refine (over_any HT9.out).mono ?_; rintro e w' ⟨rfl,rfl⟩)
    | (go_at_call 29; refine (fstuck_any HL9.out.fl).mono ?_; rintro e w10 ⟨rfl,hg⟩; have HG10 := Lib.hid (HG9.out.trans (kt_new hg)); clear hg))
  go_ret
  exact ⟨rfl,HG10.out.grown (Nat.le_refl _)⟩
end Go.Proofs.YtnnmpaenainogaaGreat

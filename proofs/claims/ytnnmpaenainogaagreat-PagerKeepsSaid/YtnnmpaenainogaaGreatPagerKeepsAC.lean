/-
  Layer 11: the laws' acts, opened. Own work.
-/
import Derived.Test.YtnnmpaenainogaaGreatPagerKeepsAB
import Derived.Deep.Matrix
import Derived.Deep.QuietTactic
import Derived.BigQuiet
import Derived.Deep.CutBlock
import Derived.Deep.LoopGhost
import Derived.Deep.RegionHeld3
import Derived.Test.YtnnmpaenainogaaGreatPagerKeepsAA

set_option linter.unusedVariables false
set_option linter.unusedSimpArgs false
namespace Go.Proofs.YtnnmpaenainogaaGreat
open Go.RowKit Go.ChangeShapes Go.WideShapes Go.ChangeAt
structure A11 where
  kind : Int
  n : Int
  fill : Int
def A11At (w : World) (b o : Nat) (a : A11) : Prop :=
  w.cell? ⟨b,o,none⟩ = some (.int .i64 a.kind)∧w.cell? ⟨b,o + 1,none⟩ = some (.int .i64 a.n)∧w.cell? ⟨b,o + 2,none⟩ = some (.int .u8 a.fill)∧0≤a.fill∧a.fill≤255∧(-9223372036854775808≤a.kind∧a.kind≤9223372036854775807)∧(-9223372036854775808≤a.n∧a.n≤9223372036854775807)
def A11q (B : Nat) (w : World) (v : Value) (acs : List A11) : Prop := ∃ ao c,v = .slice ao acs.length c∧acs.length≤maxLen∧(acs≠[]→∃ b o,ao = some ⟨b,o,none⟩∧b < B∧∀ (j : Nat) a,acs[j]? = some a→A11At w b (o + j * 3) a)
theorem A11q.len {B : Nat} {w : World} {ao : Option Addr} {n c : Nat} {acs : List A11} (h : A11q B w (.slice ao n c) acs) : n = acs.length∧n≤maxLen := by
  obtain ⟨ao',c',hv,h1,_⟩ := h
  cases hv
  exact ⟨rfl,h1⟩
theorem A11q.at {B : Nat} {w : World} {ao : Option Addr} {n c : Nat} {acs : List A11} (h : A11q B w (.slice ao n c) acs) (k : Nat) (a : A11) (ha : acs[k]? = some a) :
    ∃ b o,ao = some ⟨b,o,none⟩∧b < B∧A11At w b (o + k * 3) a := by
  obtain ⟨ao',c',hv,h1,h2⟩ := h
  cases hv
  obtain ⟨b,o,e,hb,hc⟩ := h2 (fun e => by rw [e] at ha; simp at ha)
  exact ⟨b,o,e,hb,hc k a ha⟩
theorem exists_rows {α : Type} {p : Nat→α→Prop} : ∀ n,(∀ i,i < n→∃ x,p i x)→∃ l : List α,l.length = n∧∀ i x,l[i]? = some x→p i x
  | 0,_ => ⟨[],rfl,fun i x h => by simp at h⟩
  | n + 1,h => by
    obtain ⟨l,hl,hp⟩ := exists_rows n (fun i hi => h i (by omega))
    obtain ⟨x,hx⟩ := h n (by omega)
    refine ⟨l++[x],by simp [hl],fun i y hy => ?_⟩
    by_cases e : i < n
    · rw [List.getElem?_append_left (by omega)] at hy; exact hp i y hy
    · have hi : i < (l++[x]).length := (List.getElem?_eq_some_iff.1 hy).1
      simp [hl] at hi
      obtain rfl : i = n := by omega
      rw [List.getElem?_append_right (by omega),hl,Nat.sub_self] at hy
      cases hy; exact hx
theorem cAct11 : Tryz.prog.cellsOf 40 = 3 := by kernel_rfl
theorem c1intQ : Tryz.prog.cellsOf 3 = 1 := by kernel_rfl
theorem c1u8Q : Tryz.prog.cellsOf 5 = 1 := by kernel_rfl
theorem bounds_i64' {T : Int} (w : Lit.wf (.int .i64 T) = true) : -9223372036854775808≤T∧T≤9223372036854775807 := by
  have h1 : IntKind.i64.max = 9223372036854775807 := by decide
  have h2 : IntKind.i64.min = -9223372036854775808 := by decide
  simp only [Lit.wf,h1,h2,Bool.and_eq_true,decide_eq_true_eq] at w
  exact w
set_option maxRecDepth 100000 in
theorem open_acts11 {H : Type} {enc : TypeId × Value→H} {W : World} {d : DataW H} {p : List MemPlace} {a : Option Addr} {len cap : Nat}
    (h : ∃ fuel,DataW.trod enc Tryz.prog W 0 (fun _ => true) true fuel 22 [.slice a len cap] = some (d,p)) :
    ∃ acs,A11q W.heap.size W (.slice a len cap) acs := by
  obtain ⟨fuel,hf⟩ := h
  rcases Go.Deep.open_slice Tryz.underlying22 hf with ⟨hcs,_⟩ | ⟨x,l,c,m,n,D,Pl,hcs,_,hl,hm,hmm,hx,hi⟩
  · simp at hcs
    obtain ⟨rfl,rfl,rfl⟩ := hcs
    exact ⟨[],none,0,rfl,by simp [maxLen],fun h => absurd rfl h⟩
  · simp at hcs
    obtain ⟨rfl,rfl,rfl⟩ := hcs
    have hmc : m = cap := by simpa using hmm
    rw [cAct11] at hi
    have each : ∀ i,i < len→∃ v0 v1 v2,(∀ j v,[v0,v1,v2][j]? = some v→W.cell? ((x.add (i * 3)).add j) = some v)∧(∃ n y,DataW.trod enc Tryz.prog W 0 (fun _ => true) true n 3 [v0] = some y) ∧
        (∃ n y,DataW.trod enc Tryz.prog W 0 (fun _ => true) true n 3 [v1] = some y)∧(∃ n y,DataW.trod enc Tryz.prog W 0 (fun _ => true) true n 5 [v2] = some y) := by
      intro i hil
      obtain ⟨cs',hc,htr⟩ := hi i (by omega)
      obtain ⟨_,hcl,hat⟩ := World.cells?_some hc
      obtain ⟨ys,n',_,hDi,_,hyl,hg⟩ := DataW.trod_struct Tryz.underlying40 htr
      match cs',hcl,ys,hyl with
      | [v0,v1,v2],_,[y0,y1,y2],_ =>
        refine ⟨v0,v1,v2,fun j v hj => ?_,⟨n',y0,?_⟩,⟨n',y1,?_⟩,⟨n',y2,?_⟩⟩
        · have hj4 : j < 3 := (List.getElem?_eq_some_iff.1 hj).1
          exact (hat j hj4).trans hj
        · simpa [c1intQ,c1u8Q] using hg 0 _ rfl
        · simpa [c1intQ,c1u8Q] using hg 1 _ rfl
        · simpa [c1intQ,c1u8Q] using hg 2 _ rfl
    obtain ⟨b,o,spot⟩ := x
    have hspot : 0 < len→spot = none := fun hp => by
      obtain ⟨v0,_,_,hc0,_⟩ := each 0 hp
      simpa [Addr.add] using World.cell?_spot (hc0 0 v0 rfl)
    have hadd : ∀ i j : Nat,(((⟨b,o,none⟩ : Addr).add i).add j) = ⟨b,o + i + j,none⟩ := fun i j => by
      unfold Addr.add; split <;> split <;> simp_all
    obtain ⟨L,hL,hp⟩ := exists_rows (p := fun i (r : A11) => A11At W b (o + i * 3) r) len fun i hil => by
      obtain ⟨v0,v1,v2,hc,⟨_,_,t0⟩,⟨_,y1,t1⟩,⟨_,y2,t2⟩⟩ := each i hil
      have hs := hspot (by omega)
      subst hs
      obtain ⟨T0,e0,_,w0⟩ := DataW.trod_int Tryz.underlying3 t0
      obtain ⟨T1,e1,_,w1⟩ := DataW.trod_int Tryz.underlying3 t1
      obtain ⟨T2,e2,_,w2⟩ := DataW.trod_int Tryz.underlying5 t2
      simp at e0 e1 e2
      subst e0 e1 e2
      have h1 : IntKind.u8.max = 255 := by decide
      have h2 : IntKind.u8.min = 0 := by decide
      simp only [Lit.wf,h1,h2,Bool.and_eq_true,decide_eq_true_eq] at w2
      have k0 := hc 0 _ rfl
      have k1 := hc 1 _ rfl
      have k2 := hc 2 _ rfl
      rw [hadd] at k0 k1 k2
      exact ⟨⟨T0,T1,T2⟩,k0,k1,k2,by show 0≤T2; omega,by show T2≤255; omega,bounds_i64' w0,bounds_i64' w1⟩
    refine ⟨L,some ⟨b,o,spot⟩,cap,by rw [hL],by rw [hL]; omega,fun hne => ?_⟩
    have hpos : 0 < len := by rw [← hL]; exact List.length_pos_iff.2 hne
    have hs := hspot hpos
    subst hs
    refine ⟨b,o,rfl,?_,fun j r hr => hp j r hr⟩
    obtain ⟨v0,_,_,hc0,_⟩ := each 0 hpos
    have := World.block_lt_of_cell? _ _ (hc0 0 v0 rfl)
    rw [hadd] at this
    exact this
theorem iand7 (n : Int) : bits .and .i64 n 7 = n % 8 := by
  have h15 : (BitVec.ofInt 64 7).toNat = 2 ^ 3 - 1 := by decide
  have key : (BitVec.ofInt 64 n &&& BitVec.ofInt 64 7).toNat = (n % ((2 ^ 64 : Nat) : Int)).toNat % 2 ^ 3 := by
    rw [BitVec.toNat_and,BitVec.toNat_ofInt,h15,Nat.and_two_pow_sub_one_eq_mod]
  show IntKind.i64.wrap ((BitVec.ofInt 64 n &&& BitVec.ofInt 64 7).toNat : Nat) = n % 8
  rw [key,IntKind.wrap_i64]
  omega
end Go.Proofs.YtnnmpaenainogaaGreat

namespace Go.Proofs.YtnnmpaenainogaaGreat
open Go.RowKit Go.Maps
abbrev KH (t : Option TypeId) : Prop := t = some 34
theorem cells2H {w : World} {q : Nat} {x0 x1 : Value} (h : w.heap[q]? = some (.cells #[x0,x1] 34 (0,0))) : w.cell? ⟨q,0,none⟩ = some x0∧w.cell? ⟨q,1,none⟩ = some x1∧w.frozen? ⟨q,0,none⟩ = false∧w.frozen? ⟨q,1,none⟩ = false := by
  refine ⟨?_,?_,?_,?_⟩ <;> simp [World.cell?,World.frozen?,h]
def HB (w : World) (q : Nat) (ps : List Nat) (fs : List Int) : Prop := ∃ pa pc fa fc,w.heap[q]? = some (.cells #[.slice pa ps.length pc,.slice fa ps.length fc] 34 (0,0))∧HV w (.slice pa ps.length pc) (.slice fa ps.length fc) ps fs
theorem HB.kfr {P : Option TypeId→Prop} {B q : Nat} {w w' : World} {ps : List Nat} {fs : List Int} (h : HB w q ps fs) (k : Kfr P B w w') (h0 : ¬ P (some 34)) (h1 : ¬ P (some 42)) (h2 : ¬ P (some 5)) : HB w' q ps fs := by
  obtain ⟨pa,pc,fa,fc,hb,hv⟩ := h
  exact ⟨pa,pc,fa,fc,k.cells hb h0,hv.kfr k h1 h2⟩
theorem HB.lt {q : Nat} {w : World} {ps : List Nat} {fs : List Int} (h : HB w q ps fs) : q < w.heap.size := by
  obtain ⟨pa,pc,fa,fc,hb,_⟩ := h
  exact lt_of_block hb
theorem HB.ek {q : Nat} {w : World} {ps : List Nat} {fs : List Int} (h : HB w q ps fs) : Proofs.YtnnmpaenainogaaGreat.ek w q = some 34 := by
  obtain ⟨pa,pc,fa,fc,hb,_⟩ := h
  exact ek_of hb
theorem HB.cells {q : Nat} {w : World} {ps : List Nat} {fs : List Int} (h : HB w q ps fs) : ∃ pa pc fa fc,w.cell? ⟨q,0,none⟩ = some (.slice pa ps.length pc)∧w.cell? ⟨q,1,none⟩ = some (.slice fa ps.length fc)∧w.frozen? ⟨q,0,none⟩ = false∧w.frozen? ⟨q,1,none⟩ = false∧HV w (.slice pa ps.length pc) (.slice fa ps.length fc) ps fs := by
  obtain ⟨pa,pc,fa,fc,hb,hv⟩ := h
  obtain ⟨a,b,c,d⟩ := cells2H hb
  exact ⟨pa,pc,fa,fc,a,b,c,d,hv⟩
abbrev setH (w : World) (q : Nat) (a b : Value) : World := (w.setCell ⟨q,0,none⟩ a).setCell ⟨q,1,none⟩ b
theorem setH_at {w : World} {q : Nat} {x0 x1 : Value} (h : w.heap[q]? = some (.cells #[x0,x1] 34 (0,0))) (a b : Value) : (setH w q a b).heap[q]? = some (.cells #[a,b] 34 (0,0)) := store2 h a b
theorem setH_row (w : World) (q : Nat) (a b : Value) : w.grownBy (setH w q a b) (some q) := gtrans (gset w ⟨q,0,none⟩ a) (gset _ ⟨q,1,none⟩ b)
theorem setH_kfr {w : World} {q : Nat} (h : Proofs.YtnnmpaenainogaaGreat.ek w q = some 34) (a b : Value) : Kfr KH 0 w (setH w q a b) := Kfr.row (setH_row w q a b) (Nat.zero_le _) h
theorem HB.put {q : Nat} {w : World} {ps qs : List Nat} {fs gs : List Int} {pa fa : Option Addr} {pc fc : Nat} (h : HB w q ps fs) (k : HV w (.slice pa qs.length pc) (.slice fa qs.length fc) qs gs) : HB (setH w q (.slice pa qs.length pc) (.slice fa qs.length fc)) q qs gs := by
  obtain ⟨_,_,_,_,hb,_⟩ := h
  exact ⟨pa,pc,fa,fc,setH_at hb _ _,k.kfr (setH_kfr (ek_of hb) _ _) (by decide) (by decide)⟩
theorem HB.off {q q' : Nat} {w : World} {ps : List Nat} {fs : List Int} (h : HB w q ps fs) (hk : Proofs.YtnnmpaenainogaaGreat.ek w q' = some 34) (hne : q≠q') (a b : Value) : HB (setH w q' a b) q ps fs := by
  obtain ⟨pa,pc,fa,fc,hb,hv⟩ := h
  exact ⟨pa,pc,fa,fc,((setH_row w q' a b).block q (lt_of_block hb) (by simpa using hne)).trans hb,hv.kfr (setH_kfr hk a b) (by decide) (by decide)⟩
section
variable {B d f t lim c y : Nat} {w w' : World} {F : FV} {H O I : List Nat} {fh fo fi : List Int}
theorem KI.held {B' : Nat} (h : KI B d f t w lim c y F H O I fh fo fi) (k : Kfr KH B' w w') : KI B d f t w' lim c y F H O I fh fo fi := by
  obtain ⟨x,o,M,rs,D,T,V,E,h1,h2⟩ := h
  exact ⟨x,o,M,rs,D,T,V,E,⟨h1.ls.kfr k (by decide) (by decide) (by decide) (by decide) (by decide) (by decide) (by decide),h1.tx.kfr k (by decide),h1.dr.kfr k (by decide) (by decide) (by decide) (by decide) (by decide) (by decide),h1.ch⟩,h2⟩
theorem KF.held {B' : Nat} (h : KF B d f w lim c y F H O fh fo) (k : Kfr KH B' w w') : KF B d f w' lim c y F H O fh fo := by
  obtain ⟨M,rs,D,h1,h2⟩ := h
  exact ⟨M,rs,D,h1.kfr k (by decide) (by decide) (by decide) (by decide) (by decide) (by decide) (by decide),h2⟩
end
structure Q3 (W w : World) (qn qo qi : Nat) (H O I : List Nat) (fh fo fi : List Int) : Prop where
  n : HB w qn H fh
  o : HB w qo O fo
  i : HB w qi I fi
  ne : qn≠qo∧qn≠qi∧qo≠qi
  le : W.heap.size≤qn∧W.heap.size≤qo∧W.heap.size≤qi
  g : Kfr KT W.heap.size W w
section
variable {W w w' : World} {qn qo qi : Nat} {H O I : List Nat} {fh fo fi : List Int}
theorem Q3.kfr {P : Option TypeId→Prop} (h : Q3 W w qn qo qi H O I fh fo fi) (k : Kfr P W.heap.size w w') (h0 : ¬ P (some 34)) (h1 : ¬ P (some 42)) (h2 : ¬ P (some 5)) : Q3 W w' qn qo qi H O I fh fo fi :=
  ⟨h.n.kfr k h0 h1 h2,h.o.kfr k h0 h1 h2,h.i.kfr k h0 h1 h2,h.ne,h.le,h.g.trans k.any⟩
theorem Q3.new (h : Q3 W w qn qo qi H O I fh fo fi) (k : w.grownBy w' none) : Q3 W w' qn qo qi H O I fh fo fi := h.kfr (P := fun _ => False) (Kfr.of k) (by simp) (by simp) (by simp)
theorem Q3.ks (h : Q3 W w qn qo qi H O I fh fo fi) (k : Kfr KS W.heap.size w w') : Q3 W w' qn qo qi H O I fh fo fi := h.kfr k (not_KS (by decide)) (not_KS (by decide)) (not_KS (by decide))
theorem Q3.kd (h : Q3 W w qn qo qi H O I fh fo fi) (k : Kfr KD W.heap.size w w') : Q3 W w' qn qo qi H O I fh fo fi := h.kfr k (not_KD (by decide)) (not_KD (by decide)) (not_KD (by decide))
theorem Q3.kct (h : Q3 W w qn qo qi H O I fh fo fi) (k : Kfr KCT W.heap.size w w') : Q3 W w' qn qo qi H O I fh fo fi := h.kfr k (not_KCT (by decide)) (not_KCT (by decide)) (not_KCT (by decide))
theorem setH_kt (h : W.heap.size≤qi) (a b : Value) : Kfr KT W.heap.size w (setH w qi a b) := Kfr.row (setH_row w qi a b) h trivial
theorem Q3.putI {I' : List Nat} {fi' : List Int} {pa fa : Option Addr} {pc fc : Nat} (h : Q3 W w qn qo qi H O I fh fo fi) (k : HV w (.slice pa I'.length pc) (.slice fa I'.length fc) I' fi') : Q3 W (setH w qi (.slice pa I'.length pc) (.slice fa I'.length fc)) qn qo qi H O I' fh fo fi' :=
  ⟨h.n.off h.i.ek h.ne.2.1 _ _,h.o.off h.i.ek h.ne.2.2 _ _,h.i.put k,h.ne,h.le,h.g.trans (setH_kt h.le.2.2 _ _)⟩
theorem Q3.putN {H' : List Nat} {fh' : List Int} {pa fa : Option Addr} {pc fc : Nat} (h : Q3 W w qn qo qi H O I fh fo fi) (k : HV w (.slice pa H'.length pc) (.slice fa H'.length fc) H' fh') : Q3 W (setH w qn (.slice pa H'.length pc) (.slice fa H'.length fc)) qn qo qi H' O I fh' fo fi :=
  ⟨h.n.put k,h.o.off h.n.ek (Ne.symm h.ne.1) _ _,h.i.off h.n.ek (Ne.symm h.ne.2.1) _ _,h.ne,h.le,h.g.trans (setH_kt h.le.1 _ _)⟩
theorem Q3.putO {O' : List Nat} {fo' : List Int} {pa fa : Option Addr} {pc fc : Nat} (h : Q3 W w qn qo qi H O I fh fo fi) (k : HV w (.slice pa O'.length pc) (.slice fa O'.length fc) O' fo') : Q3 W (setH w qo (.slice pa O'.length pc) (.slice fa O'.length fc)) qn qo qi H O' I fh fo' fi :=
  ⟨h.n.off h.o.ek h.ne.1 _ _,h.o.put k,h.i.off h.o.ek (Ne.symm h.ne.2.2) _ _,h.ne,h.le,h.g.trans (setH_kt h.le.2.1 _ _)⟩
end
end Go.Proofs.YtnnmpaenainogaaGreat

namespace Go.Proofs.YtnnmpaenainogaaGreat
open Go.RowKit Go.Maps
def blk (n : Nat) : Code→Option Code
  | .loop c => blk n c
  | .seq a b => match blk n a with
    | some c => some c
    | none => blk n b
  | .block k c => if k = n then some (.block k c) else blk n c
  | .scope c => blk n c
  | .cond _ a b => match blk n a with
    | some c => some c
    | none => blk n b
  | _ => none
def kT : Code→Code
  | .cond _ a _ => a
  | c => c
def kF : Code→Code
  | .cond _ _ b => b
  | c => c
theorem HV.one {w : World} {pa fa : Option Addr} {pn pc fn fc : Nat} {ps : List Nat} {fs : List Int} (h : HV w (.slice pa pn pc) (.slice fa fn fc) ps fs) : pn = ps.length∧fn = ps.length := ⟨(own_src h.p.1).2.1.symm,(own_src h.f).2.1.symm⟩
def ActB (w : World) (q : Nat) (a : A11) : Prop := w.heap[q]? = some (.cells #[.int .i64 a.kind,.int .i64 a.n,.int .u8 a.fill] 40 (0,0))
theorem ActB.new {w w' : World} {q : Nat} {a : A11} (h : ActB w q a) (g : w.grownBy w' none) : ActB w' q a := (g.block q (lt_of_block h) (by simp)).trans h
theorem and1023 (n : Int) : bits .and .i64 n 1023 = n % 1024 := by
  have h15 : (BitVec.ofInt 64 1023).toNat = 2 ^ 10 - 1 := by decide
  have key : (BitVec.ofInt 64 n &&& BitVec.ofInt 64 1023).toNat = (n % ((2 ^ 64 : Nat) : Int)).toNat % 2 ^ 10 := by
    rw [BitVec.toNat_and,BitVec.toNat_ofInt,h15,Nat.and_two_pow_sub_one_eq_mod]
  show IntKind.i64.wrap ((BitVec.ofInt 64 n &&& BitVec.ofInt 64 1023).toNat : Nat) = n % 1024
  rw [key,IntKind.wrap_i64]
  omega
abbrev mtV (t e m f : Nat) : Value := .agg #[.int .u64 (t : Int),.int .u32 (e : Int),.int .u32 (m : Int),.int .u32 (f : Int)]
theorem ki_metaV {B d f lim c y : Nat} {w : World} {F : FV} {H O : List Nat} {fh fo : List Int} (h : KF B d f w lim c y F H O fh fo) : Calls Tryz.prog 18 #[.pointer (some ⟨f,0,none⟩)] w fun r w' => r = .returned (mtV F.mt.t F.mt.e F.mt.m F.mt.f)∧w.grownBy w' none := ki_meta h
abbrev nilH : Obj := .cells #[.slice none 0 0,.slice none 0 0] 34 (0,0)
theorem hb_nil {w : World} {q : Nat} (h : w.heap[q]? = some nilH) : HB w q [] [] := ⟨none,0,none,0,h,hv_nil w⟩
end Go.Proofs.YtnnmpaenainogaaGreat

namespace Go.Proofs.YtnnmpaenainogaaGreat
open Go.RowKit Go.Maps
noncomputable def kpBody : Code := (Tryz.f3.body).getD .skip
noncomputable def kpIn : Code := cL ((blk 1 kpBody).getD .skip)
noncomputable def kpTail : Code := cR (cR (cR (cR kpIn)))
set_option maxRecDepth 1000000 in
set_option maxHeartbeats 8000000 in
theorem kptail_any (W w : World) (d f t qn qo qi lim c y : Nat) (F : FV) (H O I : List Nat) (fh fo fi : List Int) (h : KI W.heap.size d f t w lim c y F H O I fh fo fi) (hq : Q3 W w qn qo qi H O I fh fo fi) (hH : H.length≤60) (hO : O.length≤60) (hI : I.length≤60) (hc : c≤70000)
    (u6 u25 u26 u27 u28 u190 u191 u192 u193 u194 u195 u196 u197 u198 u199 u200 u201 u202 u203 u204 u205 u206 u207 u208 u209 u210 u211 u212 u213 u214 u215 u216 u217 u218 u219 u220 u221 u222 v0 v1 v2 v3 v4 v5 v7 v9 v14 v17 v18 v19 v20 v21 v22 v23 v24 v29 v30 v31 v32 v33 v34 v35 v36 v37 v38 v39 v40 v41 v42 v43 v44 v45 v46 v47 v48 v49 v50 v51 v52 v53 v54 v55 v56 v57 v58 v59 v60 v61 v62 v63 v64 v65 v66 v67 v68 v69 v70 v71 v72 v73 v74 v75 v76 v77 v78 v79 v80 v81 v82 v83 v84 v85 v86 v87 v88 v89 v90 v91 v92 v93 v94 v95 v96 v97 v98 v99 v100 v101 v102 v103 v104 v105 v106 v107 v108 v109 v110 v111 v112 v113 v114 v115 v116 v117 v118 v119 v120 v121 v122 v123 v124 v125 v126 v127 v128 v129 v130 v131 v132 v133 v134 v135 v136 v137 v138 v139 v140 v141 v142 v143 v144 v145 v146 v147 v148 v149 v150 v151 v152 v153 v154 v155 v156 v157 v158 v159 v160 v161 v162 v163 v164 v165 v166 v167 v168 v169 v170 v171 v172 v173 v174 v175 v176 v177 v178 v179 v180 v181 v182 v183 v184 v185 v186 v187 v188 v189 : Value) (Kc : Act→World→Prop) (Qc : Exit→Act→World→Prop)
    (hK : ∀ (x6 x25 x26 x27 x28 x190 x191 x192 x193 x194 x195 x196 x197 x198 x199 x200 x201 x202 x203 x204 x205 x206 x207 x208 x209 x210 x211 x212 x213 x214 x215 x216 x217 x218 x219 x220 x221 x222 : Value) (w5 : World),KI W.heap.size d f t w5 lim (c + H.length + O.length + I.length) y F H O I fh fo fi→Q3 W w5 qn qo qi H O I fh fo fi→Qc .normal ⟨#[v0,v1,v2,v3,v4,v5,x6,v7,.pointer (some ⟨d,0,none⟩),v9,.pointer (some ⟨f,0,none⟩),.int .i64 0,.pointer (some ⟨qn,0,none⟩),.pointer (some ⟨qo,0,none⟩),v14,.pointer (some ⟨t,0,none⟩),.pointer (some ⟨qi,0,none⟩),v17,v18,v19,v20,v21,v22,v23,v24,x25,x26,x27,x28,v29,v30,v31,v32,v33,v34,v35,v36,v37,v38,v39,v40,v41,v42,v43,v44,v45,v46,v47,v48,v49,v50,v51,v52,v53,v54,v55,v56,v57,v58,v59,v60,v61,v62,v63,v64,v65,v66,v67,v68,v69,v70,v71,v72,v73,v74,v75,v76,v77,v78,v79,v80,v81,v82,v83,v84,v85,v86,v87,v88,v89,v90,v91,v92,v93,v94,v95,v96,v97,v98,v99,v100,v101,v102,v103,v104,v105,v106,v107,v108,v109,v110,v111,v112,v113,v114,v115,v116,v117,v118,v119,v120,v121,v122,v123,v124,v125,v126,v127,v128,v129,v130,v131,v132,v133,v134,v135,v136,v137,v138,v139,v140,v141,v142,v143,v144,v145,v146,v147,v148,v149,v150,v151,v152,v153,v154,v155,v156,v157,v158,v159,v160,v161,v162,v163,v164,v165,v166,v167,v168,v169,v170,v171,v172,v173,v174,v175,v176,v177,v178,v179,v180,v181,v182,v183,v184,v185,v186,v187,v188,v189,x190,x191,x192,x193,x194,x195,x196,x197,x198,x199,x200,x201,x202,x203,x204,x205,x206,x207,x208,x209,x210,x211,x212,x213,x214,x215,x216,x217,x218,x219,x220,x221,x222],[]⟩ w5) :
    Code.wp Tryz.prog kpTail Qc ⟨#[v0,v1,v2,v3,v4,v5,u6,v7,.pointer (some ⟨d,0,none⟩),v9,.pointer (some ⟨f,0,none⟩),.int .i64 0,.pointer (some ⟨qn,0,none⟩),.pointer (some ⟨qo,0,none⟩),v14,.pointer (some ⟨t,0,none⟩),.pointer (some ⟨qi,0,none⟩),v17,v18,v19,v20,v21,v22,v23,v24,u25,u26,u27,u28,v29,v30,v31,v32,v33,v34,v35,v36,v37,v38,v39,v40,v41,v42,v43,v44,v45,v46,v47,v48,v49,v50,v51,v52,v53,v54,v55,v56,v57,v58,v59,v60,v61,v62,v63,v64,v65,v66,v67,v68,v69,v70,v71,v72,v73,v74,v75,v76,v77,v78,v79,v80,v81,v82,v83,v84,v85,v86,v87,v88,v89,v90,v91,v92,v93,v94,v95,v96,v97,v98,v99,v100,v101,v102,v103,v104,v105,v106,v107,v108,v109,v110,v111,v112,v113,v114,v115,v116,v117,v118,v119,v120,v121,v122,v123,v124,v125,v126,v127,v128,v129,v130,v131,v132,v133,v134,v135,v136,v137,v138,v139,v140,v141,v142,v143,v144,v145,v146,v147,v148,v149,v150,v151,v152,v153,v154,v155,v156,v157,v158,v159,v160,v161,v162,v163,v164,v165,v166,v167,v168,v169,v170,v171,v172,v173,v174,v175,v176,v177,v178,v179,v180,v181,v182,v183,v184,v185,v186,v187,v188,v189,u190,u191,u192,u193,u194,u195,u196,u197,u198,u199,u200,u201,u202,u203,u204,u205,u206,u207,u208,u209,u210,u211,u212,u213,u214,u215,u216,u217,u218,u219,u220,u221,u222],[]⟩ w := by
  conv => arg 2; whnf
  have HK := Lib.hid hK
  clear hK
  have HS := Lib.hid h
  have HQ := Lib.hid hq
  clear h hq
  obtain ⟨pa,pc,fa,fc,k0,k1,_,_,hv⟩ := HQ.out.n.cells
  have HV0 := Lib.hid hv
  clear hv
  obtain ⟨nn,hnn⟩ : ∃ n,n = H.length := ⟨_,rfl⟩
  rw [← hnn] at k0 k1 HV0
  have HNN := Lib.hid hnn
  clear hnn
  go_upto_region 56 with (first
    | (go_at_call 26; (with_reducible refine (ki_reads HS.out HV0.out (by omega) (by omega)).mono ?_); rintro r w1 ⟨rfl,hk,hf⟩; have HS1 := Lib.hid hk; have HQ1 := Lib.hid (HQ.out.kd hf); clear hk hf))
  clear k0 k1 HV0 HS HQ
  obtain ⟨pa1,pc1,fa1,fc1,k0,k1,_,_,hv⟩ := HQ1.out.o.cells
  have HV1 := Lib.hid hv
  clear hv
  obtain ⟨no,hno⟩ : ∃ n,n = O.length := ⟨_,rfl⟩
  rw [← hno] at k0 k1 HV1
  have HNO := Lib.hid hno
  clear hno
  go_upto_region 57 with (first
    | (go_at_call 26; (with_reducible refine (ki_olds HS1.out HV1.out (by omega) (by omega)).mono ?_); rintro r w2 ⟨rfl,hk,hf⟩; have HS2 := Lib.hid hk; have HQ2 := Lib.hid (HQ1.out.kd hf); clear hk hf))
  clear k0 k1 HV1 HS1 HQ1
  obtain ⟨pa2,pc2,fa2,fc2,k0,k1,_,_,hv⟩ := HQ2.out.i.cells
  have HV2 := Lib.hid hv
  clear hv
  obtain ⟨ni,hni⟩ : ∃ n,n = I.length := ⟨_,rfl⟩
  rw [← hni] at k0 k1 HV2
  have HNI := Lib.hid hni
  clear hni
  go_upto_region 58 with (first
    | (go_at_call 26; (with_reducible refine (ki_ins HS2.out HV2.out (by omega) (by omega)).mono ?_); rintro r w3 ⟨rfl,hk,hf⟩; have HS3 := Lib.hid hk; have HQ3 := Lib.hid (HQ2.out.kd hf); clear hk hf))
  clear k0 k1 HV2 HS2 HQ2
  obtain ⟨pa3,pc3,fa3,fc3,k0,k1,_,_,hv⟩ := HQ3.out.n.cells
  have HV3 := Lib.hid hv
  clear hv
  rw [← HNN.out] at k0 k1 HV3
  go_wp2_with (first
    | (go_at_call 27; (with_reducible refine (ki_whole HS3.out HV3.out).mono ?_); rintro r w4 ⟨rfl,hg⟩; have HS4 := Lib.hid (HS3.out.new hg); have HQ4 := Lib.hid (HQ3.out.new hg); clear hg))
  exact HK.out _ _ _ _ _ _ _ _ _ _ _ _ _ _ _ _ _ _ _ _ _ _ _ _ _ _ _ _ _ _ _ _ _ _ _ _ _ _ w4 HS4.out HQ4.out
end Go.Proofs.YtnnmpaenainogaaGreat

namespace Go.Proofs.YtnnmpaenainogaaGreat
open Go.RowKit Go.Maps
noncomputable def kpSw : Code := cR (cL ((blk 2 kpBody).getD .skip))
noncomputable def kpNew : Code := kT kpSw
noncomputable def kpFree : Code := kT (cR (kF kpSw))
noncomputable def kpCommit : Code := kT (cR (kF (cR (kF kpSw))))
noncomputable def kpAbort : Code := kF (cR (kF (cR (kF kpSw))))
theorem ki_new2 {B d f t lim c y : Nat} {w : World} {F : FV} {H O I : List Nat} {fh fo fi : List Int} {b0 cc : Nat} {ao : Option Addr} {x : Int} (h : KI B d f t w lim c y F H O I fh fo fi) (hl : fi.length = I.length) (hs : Own8 b0 w 512 (.slice ao 512 cc) (List.replicate 512 x)) (hx0 : 0≤x) (hx1 : x≤255) :
    Calls Tryz.prog 19 #[.pointer (some ⟨t,0,none⟩),.slice ao 512 cc] w fun r w' => ∃ (p : Nat) (e : Int),r = .returned (.tuple #[.int .u32 (p : Int),.int .i64 e])∧p < 65536∧Kfr KS B w w'∧(e = 0∧KI B d f t w' lim c y F H O (I++[p]) fh fo (fi++[x])∨e = 21∧KI B d f t w' lim c y F H O I fh fo fi) := by
  refine (ki_new h hl hs hx0 hx1).mono ?_
  rintro r w' ⟨p,hp,hk,⟨rfl,h2⟩ | ⟨rfl,h2⟩⟩
  · exact ⟨p,0,rfl,hp,hk,.inl ⟨rfl,h2⟩⟩
  · exact ⟨p,21,rfl,hp,hk,.inr ⟨rfl,h2⟩⟩
set_option maxRecDepth 1000000 in
set_option maxHeartbeats 8000000 in
theorem kpnew_any (W w : World) (d f t qn qo qi qa lim c y : Nat) (F : FV) (H O I : List Nat) (fh fo fi : List Int) (a : A11) (h : KI W.heap.size d f t w lim c y F H O I fh fo fi) (hq : Q3 W w qn qo qi H O I fh fo fi) (ha : ActB w qa a) (h0 : 0≤a.fill) (h1 : a.fill≤255) (hI : I.length≤60)
    (u6 u19 u20 u97 u98 u99 u100 u101 u102 u103 u104 u105 u106 u107 u108 u109 u110 u111 u112 u113 v0 v1 v2 v3 v4 v5 v7 v9 v14 v17 v21 v22 v23 v24 v25 v26 v27 v28 v29 v30 v31 v32 v33 v34 v35 v36 v37 v38 v39 v40 v41 v42 v43 v44 v45 v46 v47 v48 v49 v50 v51 v52 v53 v54 v55 v56 v57 v58 v59 v60 v61 v62 v63 v64 v65 v66 v67 v68 v69 v70 v71 v72 v73 v74 v75 v76 v77 v78 v79 v80 v81 v82 v83 v84 v85 v86 v87 v88 v89 v90 v91 v92 v93 v94 v95 v96 v114 v115 v116 v117 v118 v119 v120 v121 v122 v123 v124 v125 v126 v127 v128 v129 v130 v131 v132 v133 v134 v135 v136 v137 v138 v139 v140 v141 v142 v143 v144 v145 v146 v147 v148 v149 v150 v151 v152 v153 v154 v155 v156 v157 v158 v159 v160 v161 v162 v163 v164 v165 v166 v167 v168 v169 v170 v171 v172 v173 v174 v175 v176 v177 v178 v179 v180 v181 v182 v183 v184 v185 v186 v187 v188 v189 v190 v191 v192 v193 v194 v195 v196 v197 v198 v199 v200 v201 v202 v203 v204 v205 v206 v207 v208 v209 v210 v211 v212 v213 v214 v215 v216 v217 v218 v219 v220 v221 v222 : Value) (Kc : Act→World→Prop) (Qc : Exit→Act→World→Prop)
    (hK : ∀ (x6 x19 x20 x97 x98 x99 x100 x101 x102 x103 x104 x105 x106 x107 x108 x109 x110 x111 x112 x113 : Value) (w5 : World) (I2 : List Nat) (fi2 : List Int),KI W.heap.size d f t w5 lim c y F H O I2 fh fo fi2→Q3 W w5 qn qo qi H O I2 fh fo fi2→I2.length≤I.length + 1→Qc .normal ⟨#[v0,v1,v2,v3,v4,v5,x6,v7,.pointer (some ⟨d,0,none⟩),v9,.pointer (some ⟨f,0,none⟩),.int .i64 0,.pointer (some ⟨qn,0,none⟩),.pointer (some ⟨qo,0,none⟩),v14,.pointer (some ⟨t,0,none⟩),.pointer (some ⟨qi,0,none⟩),v17,.pointer (some ⟨qa,0,none⟩),x19,x20,v21,v22,v23,v24,v25,v26,v27,v28,v29,v30,v31,v32,v33,v34,v35,v36,v37,v38,v39,v40,v41,v42,v43,v44,v45,v46,v47,v48,v49,v50,v51,v52,v53,v54,v55,v56,v57,v58,v59,v60,v61,v62,v63,v64,v65,v66,v67,v68,v69,v70,v71,v72,v73,v74,v75,v76,v77,v78,v79,v80,v81,v82,v83,v84,v85,v86,v87,v88,v89,v90,v91,v92,v93,v94,v95,v96,x97,x98,x99,x100,x101,x102,x103,x104,x105,x106,x107,x108,x109,x110,x111,x112,x113,v114,v115,v116,v117,v118,v119,v120,v121,v122,v123,v124,v125,v126,v127,v128,v129,v130,v131,v132,v133,v134,v135,v136,v137,v138,v139,v140,v141,v142,v143,v144,v145,v146,v147,v148,v149,v150,v151,v152,v153,v154,v155,v156,v157,v158,v159,v160,v161,v162,v163,v164,v165,v166,v167,v168,v169,v170,v171,v172,v173,v174,v175,v176,v177,v178,v179,v180,v181,v182,v183,v184,v185,v186,v187,v188,v189,v190,v191,v192,v193,v194,v195,v196,v197,v198,v199,v200,v201,v202,v203,v204,v205,v206,v207,v208,v209,v210,v211,v212,v213,v214,v215,v216,v217,v218,v219,v220,v221,v222],[]⟩ w5) :
    Code.wp Tryz.prog kpNew Qc ⟨#[v0,v1,v2,v3,v4,v5,u6,v7,.pointer (some ⟨d,0,none⟩),v9,.pointer (some ⟨f,0,none⟩),.int .i64 0,.pointer (some ⟨qn,0,none⟩),.pointer (some ⟨qo,0,none⟩),v14,.pointer (some ⟨t,0,none⟩),.pointer (some ⟨qi,0,none⟩),v17,.pointer (some ⟨qa,0,none⟩),u19,u20,v21,v22,v23,v24,v25,v26,v27,v28,v29,v30,v31,v32,v33,v34,v35,v36,v37,v38,v39,v40,v41,v42,v43,v44,v45,v46,v47,v48,v49,v50,v51,v52,v53,v54,v55,v56,v57,v58,v59,v60,v61,v62,v63,v64,v65,v66,v67,v68,v69,v70,v71,v72,v73,v74,v75,v76,v77,v78,v79,v80,v81,v82,v83,v84,v85,v86,v87,v88,v89,v90,v91,v92,v93,v94,v95,v96,u97,u98,u99,u100,u101,u102,u103,u104,u105,u106,u107,u108,u109,u110,u111,u112,u113,v114,v115,v116,v117,v118,v119,v120,v121,v122,v123,v124,v125,v126,v127,v128,v129,v130,v131,v132,v133,v134,v135,v136,v137,v138,v139,v140,v141,v142,v143,v144,v145,v146,v147,v148,v149,v150,v151,v152,v153,v154,v155,v156,v157,v158,v159,v160,v161,v162,v163,v164,v165,v166,v167,v168,v169,v170,v171,v172,v173,v174,v175,v176,v177,v178,v179,v180,v181,v182,v183,v184,v185,v186,v187,v188,v189,v190,v191,v192,v193,v194,v195,v196,v197,v198,v199,v200,v201,v202,v203,v204,v205,v206,v207,v208,v209,v210,v211,v212,v213,v214,v215,v216,v217,v218,v219,v220,v221,v222],[]⟩ w := by
  conv => arg 2; whnf
  have HK := Lib.hid hK
  clear hK
  have HS := Lib.hid h
  have HQ := Lib.hid hq
  obtain ⟨_,_,_,_,hb0,hv0⟩ := hq.i
  have HL := Lib.hid hv0.l
  clear hb0 hv0
  obtain ⟨ak,an,x⟩ := a
  have h0 : 0≤x := h0
  have h1 : x≤255 := h1
  have HA := Lib.hid (show w.heap[qa]? = some (.cells #[.int .i64 ak,.int .i64 an,.int .u8 x] 40 (0,0)) from ha)
  obtain ⟨c0,c1,c2⟩ := cells3 HA.out
  clear h hq ha
  go_upto_region 30 with (first
    | (go_at_call 20; (refine (page_any w 512 x (by decide)).mono ?_; rintro e w2 ⟨g2,rfl,ho,hg⟩; have HO2 := Lib.hid ho; have HS2 := Lib.hid (HS.out.new hg); have HQ2 := Lib.hid (HQ.out.new hg); have HA2 := Lib.hid ((hg.block _ (lt_of_block HA.out) (by simp)).trans HA.out); clear ho hg))
    | (go_at_call 19; ((with_reducible refine (ki_new2 HS2.out HL.out HO2.out h0 h1).mono ?_); rintro r w3 ⟨p,e,rfl,hp,hk,hh⟩; have HP := Lib.hid hp; have HH := Lib.hid hh; have HQ3 := Lib.hid (HQ2.out.ks hk); have HA3 := Lib.hid (hk.cells HA2.out (not_KS (by decide))); clear hh hk hp HS2 HO2)))
  clear c0 c1 c2
  rcases HH.out with ⟨rfl,hs⟩ | ⟨rfl,hs⟩
  · have HS3 := Lib.hid hs
    clear hs HH HS HQ HQ2 HA HA2
    obtain ⟨c0,c1,c2⟩ := cells3 HA3.out
    obtain ⟨pa,pc,fa,fc,k0,k1,z0,z1,hv⟩ := HQ3.out.i.cells
    have HV := Lib.hid hv
    have hp : p < 4294967296 := by have := HP.out; omega
    obtain ⟨n,hn⟩ : ∃ n,n = I.length := ⟨_,rfl⟩
    rw [← hn] at k0 k1 HV
    have HN := Lib.hid hn
    clear hv hn
    go_wp2_with (first
      | (go_at_call 21; (refine (hwith_any w3 pa n pc fa n fc I fi p x HV.out hp h0 h1 (by omega)).mono ?_; rintro r w4 ⟨pb,qc,fb,gc,rfl,hv4,hg⟩; have HV4 := Lib.hid hv4; have HS4 := Lib.hid (HS3.out.new hg); have HQ4 := Lib.hid (HQ3.out.new hg); obtain ⟨_,_,_,_,m0,m1,y0,y1,-⟩ := HQ4.out.i.cells; clear hv4 hg k0 k1 z0 z1)))
    have hlen : I.length + 1 = (I++[p]).length := by simp
    rw [hlen] at HV4 ⊢
    exact HK.out _ _ _ _ _ _ _ _ _ _ _ _ _ _ _ _ _ _ _ _ (setH w4 qi _ _) (I++[p]) (fi++[x]) (HS4.out.held (setH_kfr HQ4.out.i.ek _ _)) (HQ4.out.putI HV4.out) (by omega)
  · go_wp2
    exact HK.out _ _ _ _ _ _ _ _ _ _ _ _ _ _ _ _ _ _ _ _ w3 I fi hs HQ3.out (by omega)
end Go.Proofs.YtnnmpaenainogaaGreat

namespace Go.Proofs.YtnnmpaenainogaaGreat
open Go.RowKit Go.Maps
set_option maxRecDepth 1000000 in
set_option maxHeartbeats 8000000 in
theorem kpfree_any (W w : World) (d f t qn qo qi qa lim c y : Nat) (F : FV) (H O I : List Nat) (fh fo fi : List Int) (a : A11) (h : KI W.heap.size d f t w lim c y F H O I fh fo fi) (hq : Q3 W w qn qo qi H O I fh fo fi) (ha : ActB w qa a) (h0 : 0≤a.fill) (h1 : a.fill≤255) (hI : I.length≤60)
    (u6 u21 u117 u118 u119 u120 u121 u122 u123 u124 u125 u126 u127 u128 u129 u130 u131 u132 u133 u134 u135 u136 u137 u138 v0 v1 v2 v3 v4 v5 v7 v9 v14 v17 v19 v20 v22 v23 v24 v25 v26 v27 v28 v29 v30 v31 v32 v33 v34 v35 v36 v37 v38 v39 v40 v41 v42 v43 v44 v45 v46 v47 v48 v49 v50 v51 v52 v53 v54 v55 v56 v57 v58 v59 v60 v61 v62 v63 v64 v65 v66 v67 v68 v69 v70 v71 v72 v73 v74 v75 v76 v77 v78 v79 v80 v81 v82 v83 v84 v85 v86 v87 v88 v89 v90 v91 v92 v93 v94 v95 v96 v97 v98 v99 v100 v101 v102 v103 v104 v105 v106 v107 v108 v109 v110 v111 v112 v113 v114 v115 v116 v139 v140 v141 v142 v143 v144 v145 v146 v147 v148 v149 v150 v151 v152 v153 v154 v155 v156 v157 v158 v159 v160 v161 v162 v163 v164 v165 v166 v167 v168 v169 v170 v171 v172 v173 v174 v175 v176 v177 v178 v179 v180 v181 v182 v183 v184 v185 v186 v187 v188 v189 v190 v191 v192 v193 v194 v195 v196 v197 v198 v199 v200 v201 v202 v203 v204 v205 v206 v207 v208 v209 v210 v211 v212 v213 v214 v215 v216 v217 v218 v219 v220 v221 v222 : Value) (Kc : Act→World→Prop) (Qc : Exit→Act→World→Prop)
    (hK : ∀ (x6 x21 x117 x118 x119 x120 x121 x122 x123 x124 x125 x126 x127 x128 x129 x130 x131 x132 x133 x134 x135 x136 x137 x138 : Value) (w5 : World) (I2 : List Nat) (fi2 : List Int),KI W.heap.size d f t w5 lim c y F H O I2 fh fo fi2→Q3 W w5 qn qo qi H O I2 fh fo fi2→I2.length≤I.length + 1→Qc .normal ⟨#[v0,v1,v2,v3,v4,v5,x6,v7,.pointer (some ⟨d,0,none⟩),v9,.pointer (some ⟨f,0,none⟩),.int .i64 0,.pointer (some ⟨qn,0,none⟩),.pointer (some ⟨qo,0,none⟩),v14,.pointer (some ⟨t,0,none⟩),.pointer (some ⟨qi,0,none⟩),v17,.pointer (some ⟨qa,0,none⟩),v19,v20,x21,v22,v23,v24,v25,v26,v27,v28,v29,v30,v31,v32,v33,v34,v35,v36,v37,v38,v39,v40,v41,v42,v43,v44,v45,v46,v47,v48,v49,v50,v51,v52,v53,v54,v55,v56,v57,v58,v59,v60,v61,v62,v63,v64,v65,v66,v67,v68,v69,v70,v71,v72,v73,v74,v75,v76,v77,v78,v79,v80,v81,v82,v83,v84,v85,v86,v87,v88,v89,v90,v91,v92,v93,v94,v95,v96,v97,v98,v99,v100,v101,v102,v103,v104,v105,v106,v107,v108,v109,v110,v111,v112,v113,v114,v115,v116,x117,x118,x119,x120,x121,x122,x123,x124,x125,x126,x127,x128,x129,x130,x131,x132,x133,x134,x135,x136,x137,x138,v139,v140,v141,v142,v143,v144,v145,v146,v147,v148,v149,v150,v151,v152,v153,v154,v155,v156,v157,v158,v159,v160,v161,v162,v163,v164,v165,v166,v167,v168,v169,v170,v171,v172,v173,v174,v175,v176,v177,v178,v179,v180,v181,v182,v183,v184,v185,v186,v187,v188,v189,v190,v191,v192,v193,v194,v195,v196,v197,v198,v199,v200,v201,v202,v203,v204,v205,v206,v207,v208,v209,v210,v211,v212,v213,v214,v215,v216,v217,v218,v219,v220,v221,v222],[]⟩ w5) :
    Code.wp Tryz.prog kpFree Qc ⟨#[v0,v1,v2,v3,v4,v5,u6,v7,.pointer (some ⟨d,0,none⟩),v9,.pointer (some ⟨f,0,none⟩),.int .i64 0,.pointer (some ⟨qn,0,none⟩),.pointer (some ⟨qo,0,none⟩),v14,.pointer (some ⟨t,0,none⟩),.pointer (some ⟨qi,0,none⟩),v17,.pointer (some ⟨qa,0,none⟩),v19,v20,u21,v22,v23,v24,v25,v26,v27,v28,v29,v30,v31,v32,v33,v34,v35,v36,v37,v38,v39,v40,v41,v42,v43,v44,v45,v46,v47,v48,v49,v50,v51,v52,v53,v54,v55,v56,v57,v58,v59,v60,v61,v62,v63,v64,v65,v66,v67,v68,v69,v70,v71,v72,v73,v74,v75,v76,v77,v78,v79,v80,v81,v82,v83,v84,v85,v86,v87,v88,v89,v90,v91,v92,v93,v94,v95,v96,v97,v98,v99,v100,v101,v102,v103,v104,v105,v106,v107,v108,v109,v110,v111,v112,v113,v114,v115,v116,u117,u118,u119,u120,u121,u122,u123,u124,u125,u126,u127,u128,u129,u130,u131,u132,u133,u134,u135,u136,u137,u138,v139,v140,v141,v142,v143,v144,v145,v146,v147,v148,v149,v150,v151,v152,v153,v154,v155,v156,v157,v158,v159,v160,v161,v162,v163,v164,v165,v166,v167,v168,v169,v170,v171,v172,v173,v174,v175,v176,v177,v178,v179,v180,v181,v182,v183,v184,v185,v186,v187,v188,v189,v190,v191,v192,v193,v194,v195,v196,v197,v198,v199,v200,v201,v202,v203,v204,v205,v206,v207,v208,v209,v210,v211,v212,v213,v214,v215,v216,v217,v218,v219,v220,v221,v222],[]⟩ w := by
  conv => arg 2; whnf
  have HK := Lib.hid hK
  clear hK
  have HS := Lib.hid h
  have HQ := Lib.hid hq
  obtain ⟨ak,an,x⟩ := a
  have HA := Lib.hid (show w.heap[qa]? = some (.cells #[.int .i64 ak,.int .i64 an,.int .u8 x] 40 (0,0)) from ha)
  obtain ⟨c0,c1,c2⟩ := cells3 HA.out
  obtain ⟨pa,pc,fa,fc,k0,k1,_,_,hv⟩ := HQ.out.i.cells
  have HV0 := Lib.hid hv
  obtain ⟨n,hn⟩ : ∃ n,n = I.length := ⟨_,rfl⟩
  have HN := Lib.hid hn
  clear h hq ha h0 h1 hv
  by_cases hn0 : n = 0
  · rw [← hn,hn0] at k0 k1
    clear hn HV0
    go_wp2
    exact HK.out _ _ _ _ _ _ _ _ _ _ _ _ _ _ _ _ _ _ _ _ _ _ _ _ w I fi HS.out HQ.out (by omega)
  · have hnI : n < 1001 := by omega
    have hpos : 0 < I.length := by omega
    obtain ⟨gp,rfl,hgp,hps⟩ := own_src2 HV0.out.p.1 hpos
    obtain ⟨gf,rfl,hgf,hfs⟩ := own_src2 HV0.out.f hpos
    obtain ⟨k,hk⟩ : ∃ k : Nat,k = (an % 1024).toNat % n := ⟨_,rfl⟩
    have hkn : k < n := by rw [hk]; exact Nat.mod_lt _ (by omega)
    have hkI : k < I.length := by omega
    have hcell := (hv_cells HV0.out hkI).1
    have hbits : bits .and .i64 an 1023 = an % 1024 := and1023 an
    have htm : (an % 1024).tmod (n : Int) = (k : Int) := by
      obtain ⟨N,hN⟩ : ∃ N : Nat,an % 1024 = (N : Int) := ⟨(an % 1024).toNat,by omega⟩
      rw [hN] at hk ⊢
      rw [hk]
      rfl
    have hwk : IntKind.i64.wrap (k : Int) = (k : Int) := IntWalk.i64_in _ (by omega)
    have hn00 : ¬ (n : Int) = 0 := by omega
    have hn0b : ((n : Int) == 0) = false := by simp; omega
    have hn0p : (0 : Int) < (n : Int) := by omega
    have hkni : (k : Int) < (n : Int) := by omega
    have HKI := Lib.hid hkI
    have HHI := Lib.hid hI
    obtain ⟨p,hp⟩ : ∃ p,p = I.getD k 0 := ⟨_,rfl⟩
    rw [← hp] at hcell
    have HP := Lib.hid hp
    rw [← hn] at k0 k1
    clear hn hk hpos hps hfs hkI hI hp hn0 hgp hgf
    go_upto_region 40 with (first
      | (go_at_call 22; ((with_reducible refine (ki_free HS.out HKI.out _ (by rw [HP.out])).mono ?_); rintro r w3 ⟨rfl,hk3,hs⟩; have HS3 := Lib.hid hs; have HQ3 := Lib.hid (HQ.out.ks hk3); clear hs hk3)))
    clear c0 c1 c2 k0 k1 hcell
    obtain ⟨pa3,pc3,fa3,fc3,k0,k1,_,_,hv⟩ := HQ3.out.i.cells
    have HV3 := Lib.hid hv
    rw [← HN.out] at k0 k1 HV3
    clear hv
    go_wp2_with (first
      | (go_at_call 23; ((with_reducible refine (hwithout_any w3 pa3 n pc3 fa3 n fc3 I fi k HV3.out HKI.out (by have := HHI.out; omega) _ rfl).mono ?_); rintro r w4 ⟨pb,qn4,qc,fb,gc,rfl,hv4,hg⟩; obtain rfl := hv4.one.1; have HV4 := Lib.hid hv4; have HS4 := Lib.hid (HS3.out.new hg); have HQ4 := Lib.hid (HQ3.out.new hg); obtain ⟨_,_,_,_,m0,m1,y0,y1,-⟩ := HQ4.out.i.cells; clear hv4 hg k0 k1)))
    exact HK.out _ _ _ _ _ _ _ _ _ _ _ _ _ _ _ _ _ _ _ _ _ _ _ _ (setH w4 qi _ _) (I.eraseIdx k) (fi.eraseIdx k) (HS4.out.held (setH_kfr HQ4.out.i.ek _ _)) (HQ4.out.putI HV4.out) (by have := (List.eraseIdx_sublist I k).length_le; omega)
end Go.Proofs.YtnnmpaenainogaaGreat

namespace Go.Proofs.YtnnmpaenainogaaGreat
open Go.RowKit Go.Maps
set_option maxRecDepth 1000000 in
set_option maxHeartbeats 8000000 in
theorem kpabort_any (W w : World) (d f t qn qo qi qa lim c y : Nat) (F : FV) (H O I : List Nat) (fh fo fi : List Int) (a : A11) (h : KI W.heap.size d f t w lim c y F H O I fh fo fi) (hq : Q3 W w qn qo qi H O I fh fo fi) (ha : ActB w qa a) (hI : I.length≤60) (hc : c≤70000) (hl : lim≤300) (hy : y < 18446744073709551616)
    (u83 u84 u85 u86 u87 u88 u89 u90 u91 v0 v1 v2 v3 v4 v5 v6 v7 v9 v17 v19 v20 v21 v22 v23 v24 v25 v26 v27 v28 v29 v30 v31 v32 v33 v34 v35 v36 v37 v38 v39 v40 v41 v42 v43 v44 v45 v46 v47 v48 v49 v50 v51 v52 v53 v54 v55 v56 v57 v58 v59 v60 v61 v62 v63 v64 v65 v66 v67 v68 v69 v70 v71 v72 v73 v74 v75 v76 v77 v78 v79 v80 v81 v82 v92 v93 v94 v95 v96 v97 v98 v99 v100 v101 v102 v103 v104 v105 v106 v107 v108 v109 v110 v111 v112 v113 v114 v115 v116 v117 v118 v119 v120 v121 v122 v123 v124 v125 v126 v127 v128 v129 v130 v131 v132 v133 v134 v135 v136 v137 v138 v139 v140 v141 v142 v143 v144 v145 v146 v147 v148 v149 v150 v151 v152 v153 v154 v155 v156 v157 v158 v159 v160 v161 v162 v163 v164 v165 v166 v167 v168 v169 v170 v171 v172 v173 v174 v175 v176 v177 v178 v179 v180 v181 v182 v183 v184 v185 v186 v187 v188 v189 v190 v191 v192 v193 v194 v195 v196 v197 v198 v199 v200 v201 v202 v203 v204 v205 v206 v207 v208 v209 v210 v211 v212 v213 v214 v215 v216 v217 v218 v219 v220 v221 v222 : Value) (Kc : Act→World→Prop) (Qc : Exit→Act→World→Prop)
    (hK : ∀ (x83 x84 x85 x86 x87 x88 x89 x90 x91 : Value) (w5 : World) (t2 : Nat),KI W.heap.size d f t2 w5 lim c y F H O H fh fo fh→Q3 W w5 qn qo qi H O H fh fo fh→Qc .normal ⟨#[v0,v1,v2,v3,v4,v5,v6,v7,.pointer (some ⟨d,0,none⟩),v9,.pointer (some ⟨f,0,none⟩),.int .i64 0,.pointer (some ⟨qn,0,none⟩),.pointer (some ⟨qo,0,none⟩),.int .u64 (y : Int),.pointer (some ⟨t2,0,none⟩),.pointer (some ⟨qi,0,none⟩),v17,.pointer (some ⟨qa,0,none⟩),v19,v20,v21,v22,v23,v24,v25,v26,v27,v28,v29,v30,v31,v32,v33,v34,v35,v36,v37,v38,v39,v40,v41,v42,v43,v44,v45,v46,v47,v48,v49,v50,v51,v52,v53,v54,v55,v56,v57,v58,v59,v60,v61,v62,v63,v64,v65,v66,v67,v68,v69,v70,v71,v72,v73,v74,v75,v76,v77,v78,v79,v80,v81,v82,x83,x84,x85,x86,x87,x88,x89,x90,x91,v92,v93,v94,v95,v96,v97,v98,v99,v100,v101,v102,v103,v104,v105,v106,v107,v108,v109,v110,v111,v112,v113,v114,v115,v116,v117,v118,v119,v120,v121,v122,v123,v124,v125,v126,v127,v128,v129,v130,v131,v132,v133,v134,v135,v136,v137,v138,v139,v140,v141,v142,v143,v144,v145,v146,v147,v148,v149,v150,v151,v152,v153,v154,v155,v156,v157,v158,v159,v160,v161,v162,v163,v164,v165,v166,v167,v168,v169,v170,v171,v172,v173,v174,v175,v176,v177,v178,v179,v180,v181,v182,v183,v184,v185,v186,v187,v188,v189,v190,v191,v192,v193,v194,v195,v196,v197,v198,v199,v200,v201,v202,v203,v204,v205,v206,v207,v208,v209,v210,v211,v212,v213,v214,v215,v216,v217,v218,v219,v220,v221,v222],[]⟩ w5) :
    Code.wp Tryz.prog kpAbort Qc ⟨#[v0,v1,v2,v3,v4,v5,v6,v7,.pointer (some ⟨d,0,none⟩),v9,.pointer (some ⟨f,0,none⟩),.int .i64 0,.pointer (some ⟨qn,0,none⟩),.pointer (some ⟨qo,0,none⟩),.int .u64 (y : Int),.pointer (some ⟨t,0,none⟩),.pointer (some ⟨qi,0,none⟩),v17,.pointer (some ⟨qa,0,none⟩),v19,v20,v21,v22,v23,v24,v25,v26,v27,v28,v29,v30,v31,v32,v33,v34,v35,v36,v37,v38,v39,v40,v41,v42,v43,v44,v45,v46,v47,v48,v49,v50,v51,v52,v53,v54,v55,v56,v57,v58,v59,v60,v61,v62,v63,v64,v65,v66,v67,v68,v69,v70,v71,v72,v73,v74,v75,v76,v77,v78,v79,v80,v81,v82,u83,u84,u85,u86,u87,u88,u89,u90,u91,v92,v93,v94,v95,v96,v97,v98,v99,v100,v101,v102,v103,v104,v105,v106,v107,v108,v109,v110,v111,v112,v113,v114,v115,v116,v117,v118,v119,v120,v121,v122,v123,v124,v125,v126,v127,v128,v129,v130,v131,v132,v133,v134,v135,v136,v137,v138,v139,v140,v141,v142,v143,v144,v145,v146,v147,v148,v149,v150,v151,v152,v153,v154,v155,v156,v157,v158,v159,v160,v161,v162,v163,v164,v165,v166,v167,v168,v169,v170,v171,v172,v173,v174,v175,v176,v177,v178,v179,v180,v181,v182,v183,v184,v185,v186,v187,v188,v189,v190,v191,v192,v193,v194,v195,v196,v197,v198,v199,v200,v201,v202,v203,v204,v205,v206,v207,v208,v209,v210,v211,v212,v213,v214,v215,v216,v217,v218,v219,v220,v221,v222],[]⟩ w := by
  conv => arg 2; whnf
  have HK := Lib.hid hK
  clear hK
  have HS := Lib.hid h
  have HQ := Lib.hid hq
  clear h hq ha
  go_upto_region 23 with (first
    | (go_at_call 25; ((with_reducible refine (ki_abort HS.out).mono ?_); rintro r w1 ⟨rfl,hs,hk⟩; have HF1 := Lib.hid hs; have HQ1 := Lib.hid (HQ.out.kfr hk (by decide) (by decide) (by decide)); clear hs hk HS HQ)))
  obtain ⟨pa1,pc1,fa1,fc1,k0,k1,_,_,hv⟩ := HQ1.out.n.cells
  have HV1 := Lib.hid hv
  obtain ⟨n1,hn1⟩ : ∃ n,n = H.length := ⟨_,rfl⟩
  rw [← hn1] at k0 k1 HV1
  have HN1 := Lib.hid hn1
  obtain ⟨_,_,_,_,m0,m1,y0,y1,-⟩ := HQ1.out.i.cells
  clear hv hn1
  go_upto_region 24 with fail
  have HF5 := Lib.hid (HF1.out.held (setH_kfr HQ1.out.i.ek (.slice pa1 n1 pc1) (.slice fa1 n1 fc1)))
  have HQ5 := Lib.hid (HQ1.out.putI (by have := HV1.out; rw [HN1.out] at this; exact this))
  rw [← HN1.out] at HQ5
  clear k0 k1 m0 m1 y0 y1 HV1 HF1 HQ1
  dsimp only [setH] at HF5 HQ5
  generalize hw5 : (w1.setCell ⟨qi,0,none⟩ (.slice pa1 n1 pc1)).setCell ⟨qi,1,none⟩ (.slice fa1 n1 fc1) = w5 at HF5 HQ5 ⊢
  clear hw5
  go_wp2_with (first
    | (go_at_call 17; ((with_reducible refine (ki_begin HF5.out (by omega) hy _ rfl).mono ?_); rintro r w6 ⟨t2,rfl,hs,hg⟩; have HS6 := Lib.hid hs; have HQ6 := Lib.hid (HQ5.out.new hg); clear hs hg)))
  exact HK.out _ _ _ _ _ _ _ _ _ w6 t2 HS6.out HQ6.out
end Go.Proofs.YtnnmpaenainogaaGreat

namespace Go.Proofs.YtnnmpaenainogaaGreat
open Go.RowKit Go.Maps
noncomputable def kpCommitB : Code := cR (cR kpCommit)
theorem ki_commitV {B d f t lim c y : Nat} {w : World} {F : FV} {H O I : List Nat} {fh fo fi : List Int} {main : Nat} (h : KI B d f t w lim c y F H O I fh fo fi) (hc : c + lim≤80000) (hm : main = 0∨main∈I) :
    Calls Tryz.prog 24 #[.pointer (some ⟨t,0,none⟩),.int .u32 (main : Int)] w fun r w' => ∃ e,r = .returned (.int .i64 e)∧Kfr KCT B w w' ∧
      ((e = 0∧∃ F' : FV,F'.mt.t = F.mt.t + 1∧F'.mt.m = main∧KF B d f w' lim (c + lim + 6) y F' I O fi fo)∨(e = 21∧KF B d f w' lim c y F H O fh fo)) :=
  ki_commit (Mr := (roomI ((512 : Nat) : Int)).toNat) h hc hm (by decide) _ rfl
set_option maxRecDepth 1000000 in
set_option maxHeartbeats 8000000 in
theorem kpcommitB_any (W w : World) (d f t qn qo qi qa lim c y : Nat) (F : FV) (H O I : List Nat) (fh fo fi : List Int) (a : A11) (h : KI W.heap.size d f t w lim c y F H O I fh fo fi) (hq : Q3 W w qn qo qi H O I fh fo fi) (ha : ActB w qa a) (hI : I.length≤60) (hc : c≤70000) (hl : lim≤300) (hy : y < 18446744073709551616) (hH : H.length≤60) (m : Nat) (hm : m = 0∨m∈I) (hm2 : m < 4294967296)
    (u6 u23 u24 u149 u150 u151 u152 u153 u154 u155 u156 u157 u158 u159 u160 u161 u162 u163 u164 u165 u166 u167 u168 u169 u170 u171 u172 u173 u174 u175 u176 u177 u178 u179 u180 u181 u182 u183 u184 u185 u186 u187 u188 u189 v0 v1 v2 v3 v4 v5 v7 v9 v17 v19 v20 v21 v25 v26 v27 v28 v29 v30 v31 v32 v33 v34 v35 v36 v37 v38 v39 v40 v41 v42 v43 v44 v45 v46 v47 v48 v49 v50 v51 v52 v53 v54 v55 v56 v57 v58 v59 v60 v61 v62 v63 v64 v65 v66 v67 v68 v69 v70 v71 v72 v73 v74 v75 v76 v77 v78 v79 v80 v81 v82 v83 v84 v85 v86 v87 v88 v89 v90 v91 v92 v93 v94 v95 v96 v97 v98 v99 v100 v101 v102 v103 v104 v105 v106 v107 v108 v109 v110 v111 v112 v113 v114 v115 v116 v117 v118 v119 v120 v121 v122 v123 v124 v125 v126 v127 v128 v129 v130 v131 v132 v133 v134 v135 v136 v137 v138 v139 v140 v141 v142 v143 v144 v145 v146 v147 v148 v190 v191 v192 v193 v194 v195 v196 v197 v198 v199 v200 v201 v202 v203 v204 v205 v206 v207 v208 v209 v210 v211 v212 v213 v214 v215 v216 v217 v218 v219 v220 v221 v222 : Value) (Kc : Act→World→Prop) (Qc : Exit→Act→World→Prop)
    (hK : ∀ (x6 x23 x24 x149 x150 x151 x152 x153 x154 x155 x156 x157 x158 x159 x160 x161 x162 x163 x164 x165 x166 x167 x168 x169 x170 x171 x172 x173 x174 x175 x176 x177 x178 x179 x180 x181 x182 x183 x184 x185 x186 x187 x188 x189 : Value) (w5 : World) (t2 c2 : Nat) (F2 : FV) (H2 : List Nat) (fh2 : List Int),KI W.heap.size d f t2 w5 lim c2 y F2 H2 O H2 fh2 fo fh2→Q3 W w5 qn qo qi H2 O H2 fh2 fo fh2→c≤c2→c2≤c + lim + 6→H2.length≤max H.length I.length→Qc .normal ⟨#[v0,v1,v2,v3,v4,v5,x6,v7,.pointer (some ⟨d,0,none⟩),v9,.pointer (some ⟨f,0,none⟩),.int .i64 0,.pointer (some ⟨qn,0,none⟩),.pointer (some ⟨qo,0,none⟩),.int .u64 (y : Int),.pointer (some ⟨t2,0,none⟩),.pointer (some ⟨qi,0,none⟩),v17,.pointer (some ⟨qa,0,none⟩),v19,v20,v21,.int .u32 (m : Int),x23,x24,v25,v26,v27,v28,v29,v30,v31,v32,v33,v34,v35,v36,v37,v38,v39,v40,v41,v42,v43,v44,v45,v46,v47,v48,v49,v50,v51,v52,v53,v54,v55,v56,v57,v58,v59,v60,v61,v62,v63,v64,v65,v66,v67,v68,v69,v70,v71,v72,v73,v74,v75,v76,v77,v78,v79,v80,v81,v82,v83,v84,v85,v86,v87,v88,v89,v90,v91,v92,v93,v94,v95,v96,v97,v98,v99,v100,v101,v102,v103,v104,v105,v106,v107,v108,v109,v110,v111,v112,v113,v114,v115,v116,v117,v118,v119,v120,v121,v122,v123,v124,v125,v126,v127,v128,v129,v130,v131,v132,v133,v134,v135,v136,v137,v138,v139,v140,v141,v142,v143,v144,v145,v146,v147,v148,x149,x150,x151,x152,x153,x154,x155,x156,x157,x158,x159,x160,x161,x162,x163,x164,x165,x166,x167,x168,x169,x170,x171,x172,x173,x174,x175,x176,x177,x178,x179,x180,x181,x182,x183,x184,x185,x186,x187,x188,x189,v190,v191,v192,v193,v194,v195,v196,v197,v198,v199,v200,v201,v202,v203,v204,v205,v206,v207,v208,v209,v210,v211,v212,v213,v214,v215,v216,v217,v218,v219,v220,v221,v222],[]⟩ w5) :
    Code.wp Tryz.prog kpCommitB Qc ⟨#[v0,v1,v2,v3,v4,v5,u6,v7,.pointer (some ⟨d,0,none⟩),v9,.pointer (some ⟨f,0,none⟩),.int .i64 0,.pointer (some ⟨qn,0,none⟩),.pointer (some ⟨qo,0,none⟩),.int .u64 (y : Int),.pointer (some ⟨t,0,none⟩),.pointer (some ⟨qi,0,none⟩),v17,.pointer (some ⟨qa,0,none⟩),v19,v20,v21,.int .u32 (m : Int),u23,u24,v25,v26,v27,v28,v29,v30,v31,v32,v33,v34,v35,v36,v37,v38,v39,v40,v41,v42,v43,v44,v45,v46,v47,v48,v49,v50,v51,v52,v53,v54,v55,v56,v57,v58,v59,v60,v61,v62,v63,v64,v65,v66,v67,v68,v69,v70,v71,v72,v73,v74,v75,v76,v77,v78,v79,v80,v81,v82,v83,v84,v85,v86,v87,v88,v89,v90,v91,v92,v93,v94,v95,v96,v97,v98,v99,v100,v101,v102,v103,v104,v105,v106,v107,v108,v109,v110,v111,v112,v113,v114,v115,v116,v117,v118,v119,v120,v121,v122,v123,v124,v125,v126,v127,v128,v129,v130,v131,v132,v133,v134,v135,v136,v137,v138,v139,v140,v141,v142,v143,v144,v145,v146,v147,v148,u149,u150,u151,u152,u153,u154,u155,u156,u157,u158,u159,u160,u161,u162,u163,u164,u165,u166,u167,u168,u169,u170,u171,u172,u173,u174,u175,u176,u177,u178,u179,u180,u181,u182,u183,u184,u185,u186,u187,u188,u189,v190,v191,v192,v193,v194,v195,v196,v197,v198,v199,v200,v201,v202,v203,v204,v205,v206,v207,v208,v209,v210,v211,v212,v213,v214,v215,v216,v217,v218,v219,v220,v221,v222],[]⟩ w := by
  conv => arg 2; whnf
  have HK := Lib.hid hK
  clear hK
  have HS := Lib.hid h
  have HQ := Lib.hid hq
  have HM := Lib.hid hm
  have HTB := Lib.hid h.kf.mt
  have HLH := Lib.hid (show H.length≤60 from hH)
  clear h hq ha hm hH
  obtain ⟨T,hT⟩ : ∃ T,T = F.mt.t := ⟨_,rfl⟩
  obtain ⟨En,hEn⟩ : ∃ T,T = F.mt.e := ⟨_,rfl⟩
  obtain ⟨Mn,hMn⟩ : ∃ T,T = F.mt.m := ⟨_,rfl⟩
  obtain ⟨Fn,hFn⟩ : ∃ T,T = F.mt.f := ⟨_,rfl⟩
  have hmv : mtV F.mt.t F.mt.e F.mt.m F.mt.f = mtV T En Mn Fn := by rw [hT,hEn,hMn,hFn]
  have HMV := Lib.hid hmv
  have HT := Lib.hid hT
  have hT9 : T≤70001 := by have := HTB.out.1; omega
  clear hmv hT hEn hMn hFn
  go_upto_region 46 with (first
    | (go_at_call 18; ((with_reducible refine (ki_metaV HS.out.kf).mono ?_); rintro r w1 ⟨rfl,hg⟩; rw [HMV.out]; have HS1 := Lib.hid (HS.out.new hg); have HQ1 := Lib.hid (HQ.out.new hg); clear hg)))
  have hal := World.grownBy_alloc w1 (.cells #[.int .u64 (T : Int),.int .u32 (En : Int),.int .u32 (Mn : Int),.int .u32 (Fn : Int)] 44) none
  have HB2 := Lib.hid (heap_alloc_new w1 (.cells #[.int .u64 (T : Int),.int .u32 (En : Int),.int .u32 (Mn : Int),.int .u32 (Fn : Int)] 44))
  have HS2 := Lib.hid (HS1.out.new hal)
  have HQ2 := Lib.hid (HQ1.out.new hal)
  clear hal HS HQ HS1 HQ1
  generalize w1.alloc (.cells #[.int .u64 (T : Int),.int .u32 (En : Int),.int .u32 (Mn : Int),.int .u32 (Fn : Int)] 44) = w2 at HB2 HS2 HQ2 ⊢
  generalize w1.heap.size = q2 at HB2 ⊢
  go_upto_region 47 with (first
    | (go_at_call 24; ((with_reducible refine (ki_commitV HS2.out (by omega) HM.out).mono ?_); rintro r w3 ⟨e,rfl,hk,hh⟩; have HH := Lib.hid hh; have HQ3 := Lib.hid (HQ2.out.kct hk); have HB3 := Lib.hid (hk.cells HB2.out (not_KCT (by decide))); clear hh hk HS2 HQ2 HB2)))
  rcases HH.out with ⟨rfl,F2,hF2,hm2',hkf⟩ | ⟨rfl,hkf⟩
  · have HF3 := Lib.hid hkf
    clear HH hkf
    obtain ⟨E2,hE2⟩ : ∃ T,T = F2.mt.e := ⟨_,rfl⟩
    obtain ⟨L2,hL2⟩ : ∃ T,T = F2.mt.f := ⟨_,rfl⟩
    have HFT := Lib.hid (show mtV F2.mt.t F2.mt.e F2.mt.m F2.mt.f = mtV (T + 1) E2 m L2 by rw [hF2,hm2',HT.out,hE2,hL2])
    clear hE2 hL2 hF2 hm2'
    obtain ⟨pa3,pc3,fa3,fc3,k0,k1,_,_,hv⟩ := HQ3.out.i.cells
    have HV3 := Lib.hid hv
    obtain ⟨n3,hn3⟩ : ∃ n,n = I.length := ⟨_,rfl⟩
    rw [← hn3] at k0 k1 HV3
    have HN3 := Lib.hid hn3
    obtain ⟨_,_,_,_,m0,m1,y0,y1,-⟩ := HQ3.out.n.cells
    clear hv hn3
    go_upto_region 51 with fail
    have HF4 := Lib.hid (HF3.out.held (setH_kfr HQ3.out.n.ek (.slice pa3 n3 pc3) (.slice fa3 n3 fc3)))
    have HQ4 := Lib.hid (HQ3.out.putN (by have := HV3.out; rw [HN3.out] at this; exact this))
    rw [← HN3.out] at HQ4
    have HB4 := Lib.hid ((setH_kfr HQ3.out.n.ek (.slice pa3 n3 pc3) (.slice fa3 n3 fc3)).cells HB3.out (by decide))
    clear k0 k1 m0 m1 y0 y1 HV3 HF3 HQ3 HB3 HN3
    dsimp only [setH] at HF4 HQ4 HB4
    generalize hw4 : (w3.setCell ⟨qn,0,none⟩ (.slice pa3 n3 pc3)).setCell ⟨qn,1,none⟩ (.slice fa3 n3 fc3) = w4 at HF4 HQ4 HB4 ⊢
    clear hw4
    obtain ⟨hme0,_,hme2⟩ := meta_fields (.int .u64 ((T + 1 : Nat) : Int)) (.int .u32 (E2 : Int)) (.int .u32 (m : Int)) (.int .u32 (L2 : Int))
    have hwt : IntKind.u64.wrap ((T : Int) + 1) = ((T + 1 : Nat) : Int) := by rw [show ((T : Int) + 1) = ((T + 1 : Nat) : Int) by omega]; exact IntWalk.u64_in _ (by omega)
    have hd4 : w4.drew.cell? ⟨q2,0,none⟩ = some (.int .u64 (T : Int)) := (mt_cells HB4.out).1
    go_region_held3 (fun v => v.cell? ⟨q2,0,none⟩ = some (.int .u64 (T : Int)))
      (first | (exact hd4) | (exact hd5) | (exact hd6))
      (first
        | (go_at_call 18; ((with_reducible refine (ki_metaV (HF4.out.new (gdrew w4))).mono ?_); rintro r w5 ⟨rfl,hg⟩; rw [HFT.out]; have hg5 := gtrans (gdrew w4) hg; have HF5 := Lib.hid (HF4.out.new hg5); have HQ5 := Lib.hid (HQ4.out.new hg5); have hd5 : w5.cell? ⟨q2,0,none⟩ = some (.int .u64 (T : Int)) := (mt_cells ((hg5.block _ (lt_of_block HB4.out) (by simp)).trans HB4.out)).1; have HB5 := Lib.hid ((hg5.block _ (lt_of_block HB4.out) (by simp)).trans HB4.out); clear hg hg5))
        | (go_at_call 18; ((with_reducible refine (ki_metaV HF5.out).mono ?_); rintro r w6 ⟨rfl,hg⟩; rw [HFT.out]; have HF6 := Lib.hid (HF5.out.new hg); have HQ6 := Lib.hid (HQ5.out.new hg); have hd6 : w6.cell? ⟨q2,0,none⟩ = some (.int .u64 (T : Int)) := (mt_cells ((hg.block _ (lt_of_block HB5.out) (by simp)).trans HB5.out)).1; clear hg)))
    obtain ⟨pa6,pc6,fa6,fc6,k0,k1,_,_,hv⟩ := HQ6.out.n.cells
    have HV6 := Lib.hid hv
    obtain ⟨n6,hn6⟩ : ∃ n,n = I.length := ⟨_,rfl⟩
    rw [← hn6] at k0 k1 HV6
    have HN6 := Lib.hid hn6
    obtain ⟨_,_,_,_,m0,m1,y0,y1,-⟩ := HQ6.out.i.cells
    clear hv hn6
    go_upto_region 54 with fail
    have HF5 := Lib.hid (HF6.out.held (setH_kfr HQ6.out.i.ek (.slice pa6 n6 pc6) (.slice fa6 n6 fc6)))
    have HQ5 := Lib.hid (HQ6.out.putI (by have := HV6.out; rw [HN6.out] at this; exact this))
    rw [← HN6.out] at HQ5
    clear k0 k1 m0 m1 y0 y1 HV6 HF6 HQ6
    dsimp only [setH] at HF5 HQ5
    generalize hw5 : (w6.setCell ⟨qi,0,none⟩ (.slice pa6 n6 pc6)).setCell ⟨qi,1,none⟩ (.slice fa6 n6 fc6) = w5 at HF5 HQ5 ⊢
    clear hw5
    go_wp2_with (first
      | (go_at_call 17; ((with_reducible refine (ki_begin HF5.out (by omega) hy _ rfl).mono ?_); rintro r w8 ⟨t2,rfl,hs,hg⟩; have HS8 := Lib.hid hs; have HQ8 := Lib.hid (HQ5.out.new hg); clear hs hg)))
    exact HK.out _ _ _ _ _ _ _ _ _ _ _ _ _ _ _ _ _ _ _ _ _ _ _ _ _ _ _ _ _ _ _ _ _ _ _ _ _ _ _ _ _ _ _ _ w8 t2 _ F2 I fi HS8.out HQ8.out (by omega) (Nat.le_refl _) (Nat.le_max_right _ _)
  · have HF3 := Lib.hid hkf
    clear HH hkf
    have hd4 : w3.drew.cell? ⟨q2,0,none⟩ = some (.int .u64 (T : Int))∧w3.drew.cell? ⟨q2,1,none⟩ = some (.int .u32 (En : Int))∧w3.drew.cell? ⟨q2,2,none⟩ = some (.int .u32 (Mn : Int))∧w3.drew.cell? ⟨q2,3,none⟩ = some (.int .u32 (Fn : Int)) := (mt_cells HB3.out)
    go_upto_region 49 with fail
    go_region_held3 (fun v => v.cell? ⟨q2,0,none⟩ = some (.int .u64 (T : Int))∧v.cell? ⟨q2,1,none⟩ = some (.int .u32 (En : Int))∧v.cell? ⟨q2,2,none⟩ = some (.int .u32 (Mn : Int))∧v.cell? ⟨q2,3,none⟩ = some (.int .u32 (Fn : Int)))
      (first | (exact hd4) | (exact hd7))
      (first
        | (go_at_call 18; ((with_reducible refine (ki_metaV (HF3.out.new (gdrew w3))).mono ?_); rintro r w7 ⟨rfl,hg⟩; rw [HMV.out]; have hg7 := gtrans (gdrew w3) hg; have HF7 := Lib.hid (HF3.out.new hg7); have HQ7 := Lib.hid (HQ3.out.new hg7); have hd7 := (mt_cells ((hg7.block _ (lt_of_block HB3.out) (by simp)).trans HB3.out)); clear hg hg7)))
    clear hd4 hd7
    go_wp2_with fail
    go_quiet (fail)
    have HF9 := Lib.hid (HF7.out.new (gdrewN w7 nq))
    have HQ9 := Lib.hid (HQ7.out.new (gdrewN w7 nq))
    generalize w7.drewN nq = w9 at HF9 HQ9 ⊢
    obtain ⟨pa9,pc9,fa9,fc9,k0,k1,_,_,hv⟩ := HQ9.out.n.cells
    have HV9 := Lib.hid hv
    obtain ⟨n9,hn9⟩ : ∃ n,n = H.length := ⟨_,rfl⟩
    rw [← hn9] at k0 k1 HV9
    have HN9 := Lib.hid hn9
    obtain ⟨_,_,_,_,m0,m1,y0,y1,-⟩ := HQ9.out.i.cells
    clear hv hn9
    go_upto_region 54 with fail
    have HF5 := Lib.hid (HF9.out.held (setH_kfr HQ9.out.i.ek (.slice pa9 n9 pc9) (.slice fa9 n9 fc9)))
    have HQ5 := Lib.hid (HQ9.out.putI (by have := HV9.out; rw [HN9.out] at this; exact this))
    rw [← HN9.out] at HQ5
    clear k0 k1 m0 m1 y0 y1 HV9 HF9 HQ9
    dsimp only [setH] at HF5 HQ5
    generalize hw5 : (w9.setCell ⟨qi,0,none⟩ (.slice pa9 n9 pc9)).setCell ⟨qi,1,none⟩ (.slice fa9 n9 fc9) = w5 at HF5 HQ5 ⊢
    clear hw5
    go_wp2_with (first
      | (go_at_call 17; ((with_reducible refine (ki_begin HF5.out (by omega) hy _ rfl).mono ?_); rintro r w8 ⟨t2,rfl,hs,hg⟩; have HS8 := Lib.hid hs; have HQ8 := Lib.hid (HQ5.out.new hg); clear hs hg)))
    exact HK.out _ _ _ _ _ _ _ _ _ _ _ _ _ _ _ _ _ _ _ _ _ _ _ _ _ _ _ _ _ _ _ _ _ _ _ _ _ _ _ _ _ _ _ _ w8 t2 _ F H fh HS8.out HQ8.out (Nat.le_refl _) (by omega) (Nat.le_max_left _ _)
end Go.Proofs.YtnnmpaenainogaaGreat

namespace Go.Proofs.YtnnmpaenainogaaGreat
open Go.RowKit Go.Maps
set_option maxRecDepth 1000000 in
set_option maxHeartbeats 8000000 in
theorem kpcommit_any (W w : World) (d f t qn qo qi qa lim c y : Nat) (F : FV) (H O I : List Nat) (fh fo fi : List Int) (a : A11) (h : KI W.heap.size d f t w lim c y F H O I fh fo fi) (hq : Q3 W w qn qo qi H O I fh fo fi) (ha : ActB w qa a) (hI : I.length≤60) (hc : c≤70000) (hl : lim≤300) (hy : y < 18446744073709551616) (hH : H.length≤60)
    (u6 u22 u23 u24 u141 u142 u143 u144 u145 u146 u147 u148 u149 u150 u151 u152 u153 u154 u155 u156 u157 u158 u159 u160 u161 u162 u163 u164 u165 u166 u167 u168 u169 u170 u171 u172 u173 u174 u175 u176 u177 u178 u179 u180 u181 u182 u183 u184 u185 u186 u187 u188 u189 v0 v1 v2 v3 v4 v5 v7 v9 v17 v19 v20 v21 v25 v26 v27 v28 v29 v30 v31 v32 v33 v34 v35 v36 v37 v38 v39 v40 v41 v42 v43 v44 v45 v46 v47 v48 v49 v50 v51 v52 v53 v54 v55 v56 v57 v58 v59 v60 v61 v62 v63 v64 v65 v66 v67 v68 v69 v70 v71 v72 v73 v74 v75 v76 v77 v78 v79 v80 v81 v82 v83 v84 v85 v86 v87 v88 v89 v90 v91 v92 v93 v94 v95 v96 v97 v98 v99 v100 v101 v102 v103 v104 v105 v106 v107 v108 v109 v110 v111 v112 v113 v114 v115 v116 v117 v118 v119 v120 v121 v122 v123 v124 v125 v126 v127 v128 v129 v130 v131 v132 v133 v134 v135 v136 v137 v138 v139 v140 v190 v191 v192 v193 v194 v195 v196 v197 v198 v199 v200 v201 v202 v203 v204 v205 v206 v207 v208 v209 v210 v211 v212 v213 v214 v215 v216 v217 v218 v219 v220 v221 v222 : Value) (Kc : Act→World→Prop) (Qc : Exit→Act→World→Prop)
    (hK : ∀ (x6 x22 x23 x24 x141 x142 x143 x144 x145 x146 x147 x148 x149 x150 x151 x152 x153 x154 x155 x156 x157 x158 x159 x160 x161 x162 x163 x164 x165 x166 x167 x168 x169 x170 x171 x172 x173 x174 x175 x176 x177 x178 x179 x180 x181 x182 x183 x184 x185 x186 x187 x188 x189 : Value) (w5 : World) (t2 c2 : Nat) (F2 : FV) (H2 : List Nat) (fh2 : List Int),KI W.heap.size d f t2 w5 lim c2 y F2 H2 O H2 fh2 fo fh2→Q3 W w5 qn qo qi H2 O H2 fh2 fo fh2→c≤c2→c2≤c + lim + 6→H2.length≤max H.length I.length→Qc .normal ⟨#[v0,v1,v2,v3,v4,v5,x6,v7,.pointer (some ⟨d,0,none⟩),v9,.pointer (some ⟨f,0,none⟩),.int .i64 0,.pointer (some ⟨qn,0,none⟩),.pointer (some ⟨qo,0,none⟩),.int .u64 (y : Int),.pointer (some ⟨t2,0,none⟩),.pointer (some ⟨qi,0,none⟩),v17,.pointer (some ⟨qa,0,none⟩),v19,v20,v21,x22,x23,x24,v25,v26,v27,v28,v29,v30,v31,v32,v33,v34,v35,v36,v37,v38,v39,v40,v41,v42,v43,v44,v45,v46,v47,v48,v49,v50,v51,v52,v53,v54,v55,v56,v57,v58,v59,v60,v61,v62,v63,v64,v65,v66,v67,v68,v69,v70,v71,v72,v73,v74,v75,v76,v77,v78,v79,v80,v81,v82,v83,v84,v85,v86,v87,v88,v89,v90,v91,v92,v93,v94,v95,v96,v97,v98,v99,v100,v101,v102,v103,v104,v105,v106,v107,v108,v109,v110,v111,v112,v113,v114,v115,v116,v117,v118,v119,v120,v121,v122,v123,v124,v125,v126,v127,v128,v129,v130,v131,v132,v133,v134,v135,v136,v137,v138,v139,v140,x141,x142,x143,x144,x145,x146,x147,x148,x149,x150,x151,x152,x153,x154,x155,x156,x157,x158,x159,x160,x161,x162,x163,x164,x165,x166,x167,x168,x169,x170,x171,x172,x173,x174,x175,x176,x177,x178,x179,x180,x181,x182,x183,x184,x185,x186,x187,x188,x189,v190,v191,v192,v193,v194,v195,v196,v197,v198,v199,v200,v201,v202,v203,v204,v205,v206,v207,v208,v209,v210,v211,v212,v213,v214,v215,v216,v217,v218,v219,v220,v221,v222],[]⟩ w5) :
    Code.wp Tryz.prog kpCommit Qc ⟨#[v0,v1,v2,v3,v4,v5,u6,v7,.pointer (some ⟨d,0,none⟩),v9,.pointer (some ⟨f,0,none⟩),.int .i64 0,.pointer (some ⟨qn,0,none⟩),.pointer (some ⟨qo,0,none⟩),.int .u64 (y : Int),.pointer (some ⟨t,0,none⟩),.pointer (some ⟨qi,0,none⟩),v17,.pointer (some ⟨qa,0,none⟩),v19,v20,v21,u22,u23,u24,v25,v26,v27,v28,v29,v30,v31,v32,v33,v34,v35,v36,v37,v38,v39,v40,v41,v42,v43,v44,v45,v46,v47,v48,v49,v50,v51,v52,v53,v54,v55,v56,v57,v58,v59,v60,v61,v62,v63,v64,v65,v66,v67,v68,v69,v70,v71,v72,v73,v74,v75,v76,v77,v78,v79,v80,v81,v82,v83,v84,v85,v86,v87,v88,v89,v90,v91,v92,v93,v94,v95,v96,v97,v98,v99,v100,v101,v102,v103,v104,v105,v106,v107,v108,v109,v110,v111,v112,v113,v114,v115,v116,v117,v118,v119,v120,v121,v122,v123,v124,v125,v126,v127,v128,v129,v130,v131,v132,v133,v134,v135,v136,v137,v138,v139,v140,u141,u142,u143,u144,u145,u146,u147,u148,u149,u150,u151,u152,u153,u154,u155,u156,u157,u158,u159,u160,u161,u162,u163,u164,u165,u166,u167,u168,u169,u170,u171,u172,u173,u174,u175,u176,u177,u178,u179,u180,u181,u182,u183,u184,u185,u186,u187,u188,u189,v190,v191,v192,v193,v194,v195,v196,v197,v198,v199,v200,v201,v202,v203,v204,v205,v206,v207,v208,v209,v210,v211,v212,v213,v214,v215,v216,v217,v218,v219,v220,v221,v222],[]⟩ w := by
  conv => arg 2; whnf
  have HK := Lib.hid hK
  clear hK
  obtain ⟨pa,pc,fa,fc,k0,k1,_,_,hv⟩ := hq.i.cells
  have HV0 := Lib.hid hv
  have HS := Lib.hid h
  have HQ := Lib.hid hq
  have HA := Lib.hid ha
  obtain ⟨n,hn⟩ : ∃ n,n = I.length := ⟨_,rfl⟩
  have HN := Lib.hid hn
  have HND := Lib.hid h.nd
  clear hv h hq ha
  by_cases hn0 : n = 0
  · rw [← hn,hn0] at k0 k1
    clear hn
    refine wp_seq_k fun K1 hK1 => ?_
    have HK1 := Lib.hid hK1
    clear hK1
    go_wp2
    refine HK1.out _ _ ?_
    clear HK1 K1
    refine wp_seq_k fun K2 hK2 => ?_
    have HK2 := Lib.hid hK2
    clear hK2
    go_wp2
    refine HK2.out _ _ ?_
    clear HK2 K2
    refine kpcommitB_any W w d f t qn qo qi qa lim c y F H O I fh fo fi a HS.out HQ.out HA.out hI hc hl hy hH 0 (.inl rfl) (by decide) _ _ _ _ _ _ _ _ _ _ _ _ _ _ _ _ _ _ _ _ _ _ _ _ _ _ _ _ _ _ _ _ _ _ _ _ _ _ _ _ _ _ _ _ _ _ _ _ _ _ _ _ _ _ _ _ _ _ _ _ _ _ _ _ _ _ _ _ _ _ _ _ _ _ _ _ _ _ _ _ _ _ _ _ _ _ _ _ _ _ _ _ _ _ _ _ _ _ _ _ _ _ _ _ _ _ _ _ _ _ _ _ _ _ _ _ _ _ _ _ _ _ _ _ _ _ _ _ _ _ _ _ _ _ _ _ _ _ _ _ _ _ _ _ _ _ _ _ _ _ _ _ _ _ _ _ _ _ _ _ _ _ _ _ _ _ _ _ _ _ _ _ _ _ _ _ _ _ _ _ _ _ _ _ _ _ _ _ _ _ _ _ _ _ _ _ _ _ _ _ _ _ _ _ _ _ _ _ _ _ _ _ _ (fun _ _ => True) _ (fun _ _ _ _ _ _ _ _ _ _ _ _ _ _ _ _ _ _ _ _ _ _ _ _ _ _ _ _ _ _ _ _ _ _ _ _ _ _ _ _ _ _ _ _ w5 t2 c2 F2 H2 fh2 g1 g2 g3 g4 g5 => ?_)
    exact HK.out _ _ _ _ _ _ _ _ _ _ _ _ _ _ _ _ _ _ _ _ _ _ _ _ _ _ _ _ _ _ _ _ _ _ _ _ _ _ _ _ _ _ _ _ _ _ _ _ _ _ _ _ _ w5 t2 c2 F2 H2 fh2 g1 g2 g3 g4 g5
  · have hpos : 0 < I.length := by omega
    obtain ⟨gp,rfl,hgp,hps⟩ := own_src2 HV0.out.p.1 hpos
    obtain ⟨gf,rfl,hgf,hfs⟩ := own_src2 HV0.out.f hpos
    have hcell := (hv_cells HV0.out hpos).1
    have hm : I.getD 0 0∈I := getD_mem hpos
    have hm2 := (HND.out.2 _ hm).2
    have HMM := Lib.hid hm
    obtain ⟨m,hmm⟩ : ∃ m,m = I.getD 0 0 := ⟨_,rfl⟩
    rw [← hmm] at hcell HMM hm2
    rw [← hn] at k0 k1
    have hn0p : (0 : Int) < (n : Int) := by omega
    clear hn hpos hps hfs hmm hn0 hgp hgf hm
    refine wp_seq_k fun K1 hK1 => ?_
    have HK1 := Lib.hid hK1
    clear hK1
    go_wp2
    refine HK1.out _ _ ?_
    clear HK1 K1
    refine wp_seq_k fun K2 hK2 => ?_
    have HK2 := Lib.hid hK2
    clear hK2
    go_wp2
    refine HK2.out _ _ ?_
    clear HK2 K2
    refine kpcommitB_any W w d f t qn qo qi qa lim c y F H O I fh fo fi a HS.out HQ.out HA.out hI hc hl hy hH m (.inr HMM.out) (by omega) _ _ _ _ _ _ _ _ _ _ _ _ _ _ _ _ _ _ _ _ _ _ _ _ _ _ _ _ _ _ _ _ _ _ _ _ _ _ _ _ _ _ _ _ _ _ _ _ _ _ _ _ _ _ _ _ _ _ _ _ _ _ _ _ _ _ _ _ _ _ _ _ _ _ _ _ _ _ _ _ _ _ _ _ _ _ _ _ _ _ _ _ _ _ _ _ _ _ _ _ _ _ _ _ _ _ _ _ _ _ _ _ _ _ _ _ _ _ _ _ _ _ _ _ _ _ _ _ _ _ _ _ _ _ _ _ _ _ _ _ _ _ _ _ _ _ _ _ _ _ _ _ _ _ _ _ _ _ _ _ _ _ _ _ _ _ _ _ _ _ _ _ _ _ _ _ _ _ _ _ _ _ _ _ _ _ _ _ _ _ _ _ _ _ _ _ _ _ _ _ _ _ _ _ _ _ _ _ _ _ _ _ _ (fun _ _ => True) _ (fun _ _ _ _ _ _ _ _ _ _ _ _ _ _ _ _ _ _ _ _ _ _ _ _ _ _ _ _ _ _ _ _ _ _ _ _ _ _ _ _ _ _ _ _ w5 t2 c2 F2 H2 fh2 g1 g2 g3 g4 g5 => ?_)
    exact HK.out _ _ _ _ _ _ _ _ _ _ _ _ _ _ _ _ _ _ _ _ _ _ _ _ _ _ _ _ _ _ _ _ _ _ _ _ _ _ _ _ _ _ _ _ _ _ _ _ _ _ _ _ _ w5 t2 c2 F2 H2 fh2 g1 g2 g3 g4 g5
end Go.Proofs.YtnnmpaenainogaaGreat

namespace Go.Proofs.YtnnmpaenainogaaGreat
open Go.RowKit Go.Maps
noncomputable def kpRest : Code := cR (cR (cR kpIn))
set_option maxRecDepth 1000000 in
set_option maxHeartbeats 8000000 in
theorem kprest_any (W w : World) (d f t qn qo qi qa lim c y K : Nat) (F : FV) (H O I : List Nat) (fh fo fi : List Int) (a : A11) (h : KI W.heap.size d f t w lim c y F H O I fh fo fi) (hq : Q3 W w qn qo qi H O I fh fo fi) (ha : ActB w qa a) (h0 : 0≤a.fill) (h1 : a.fill≤255) (hH : H.length≤K) (hO : O.length≤K) (hI : I.length≤K) (hK9 : K≤59) (hc : c≤60000) (hl : lim≤300) (hy : y < 18446744073709551616)
    (u6 u19 u20 u21 u22 u23 u24 u25 u26 u27 u28 u80 u81 u82 u83 u84 u85 u86 u87 u88 u89 u90 u91 u92 u93 u94 u95 u96 u97 u98 u99 u100 u101 u102 u103 u104 u105 u106 u107 u108 u109 u110 u111 u112 u113 u114 u115 u116 u117 u118 u119 u120 u121 u122 u123 u124 u125 u126 u127 u128 u129 u130 u131 u132 u133 u134 u135 u136 u137 u138 u139 u140 u141 u142 u143 u144 u145 u146 u147 u148 u149 u150 u151 u152 u153 u154 u155 u156 u157 u158 u159 u160 u161 u162 u163 u164 u165 u166 u167 u168 u169 u170 u171 u172 u173 u174 u175 u176 u177 u178 u179 u180 u181 u182 u183 u184 u185 u186 u187 u188 u189 u190 u191 u192 u193 u194 u195 u196 u197 u198 u199 u200 u201 u202 u203 u204 u205 u206 u207 u208 u209 u210 u211 u212 u213 u214 u215 u216 u217 u218 u219 u220 u221 u222 v0 v1 v2 v3 v4 v5 v7 v9 v17 v29 v30 v31 v32 v33 v34 v35 v36 v37 v38 v39 v40 v41 v42 v43 v44 v45 v46 v47 v48 v49 v50 v51 v52 v53 v54 v55 v56 v57 v58 v59 v60 v61 v62 v63 v64 v65 v66 v67 v68 v69 v70 v71 v72 v73 v74 v75 v76 v77 v78 v79 : Value) (Kc : Act→World→Prop) (Qc : Exit→Act→World→Prop)
    (hK : ∀ (x6 x19 x20 x21 x22 x23 x24 x25 x26 x27 x28 x80 x81 x82 x83 x84 x85 x86 x87 x88 x89 x90 x91 x92 x93 x94 x95 x96 x97 x98 x99 x100 x101 x102 x103 x104 x105 x106 x107 x108 x109 x110 x111 x112 x113 x114 x115 x116 x117 x118 x119 x120 x121 x122 x123 x124 x125 x126 x127 x128 x129 x130 x131 x132 x133 x134 x135 x136 x137 x138 x139 x140 x141 x142 x143 x144 x145 x146 x147 x148 x149 x150 x151 x152 x153 x154 x155 x156 x157 x158 x159 x160 x161 x162 x163 x164 x165 x166 x167 x168 x169 x170 x171 x172 x173 x174 x175 x176 x177 x178 x179 x180 x181 x182 x183 x184 x185 x186 x187 x188 x189 x190 x191 x192 x193 x194 x195 x196 x197 x198 x199 x200 x201 x202 x203 x204 x205 x206 x207 x208 x209 x210 x211 x212 x213 x214 x215 x216 x217 x218 x219 x220 x221 x222 : Value) (w5 : World) (t2 c2 : Nat) (F2 : FV) (H2 I2 : List Nat) (fh2 fi2 : List Int),KI W.heap.size d f t2 w5 lim c2 y F2 H2 O I2 fh2 fo fi2→Q3 W w5 qn qo qi H2 O I2 fh2 fo fi2→c2≤c + lim + 200→H2.length≤K + 1→I2.length≤K + 1→Qc .normal ⟨#[v0,v1,v2,v3,v4,v5,x6,v7,.pointer (some ⟨d,0,none⟩),v9,.pointer (some ⟨f,0,none⟩),.int .i64 0,.pointer (some ⟨qn,0,none⟩),.pointer (some ⟨qo,0,none⟩),.int .u64 (y : Int),.pointer (some ⟨t2,0,none⟩),.pointer (some ⟨qi,0,none⟩),v17,.pointer (some ⟨qa,0,none⟩),x19,x20,x21,x22,x23,x24,x25,x26,x27,x28,v29,v30,v31,v32,v33,v34,v35,v36,v37,v38,v39,v40,v41,v42,v43,v44,v45,v46,v47,v48,v49,v50,v51,v52,v53,v54,v55,v56,v57,v58,v59,v60,v61,v62,v63,v64,v65,v66,v67,v68,v69,v70,v71,v72,v73,v74,v75,v76,v77,v78,v79,x80,x81,x82,x83,x84,x85,x86,x87,x88,x89,x90,x91,x92,x93,x94,x95,x96,x97,x98,x99,x100,x101,x102,x103,x104,x105,x106,x107,x108,x109,x110,x111,x112,x113,x114,x115,x116,x117,x118,x119,x120,x121,x122,x123,x124,x125,x126,x127,x128,x129,x130,x131,x132,x133,x134,x135,x136,x137,x138,x139,x140,x141,x142,x143,x144,x145,x146,x147,x148,x149,x150,x151,x152,x153,x154,x155,x156,x157,x158,x159,x160,x161,x162,x163,x164,x165,x166,x167,x168,x169,x170,x171,x172,x173,x174,x175,x176,x177,x178,x179,x180,x181,x182,x183,x184,x185,x186,x187,x188,x189,x190,x191,x192,x193,x194,x195,x196,x197,x198,x199,x200,x201,x202,x203,x204,x205,x206,x207,x208,x209,x210,x211,x212,x213,x214,x215,x216,x217,x218,x219,x220,x221,x222],[]⟩ w5) :
    Code.wp Tryz.prog kpRest Qc ⟨#[v0,v1,v2,v3,v4,v5,u6,v7,.pointer (some ⟨d,0,none⟩),v9,.pointer (some ⟨f,0,none⟩),.int .i64 0,.pointer (some ⟨qn,0,none⟩),.pointer (some ⟨qo,0,none⟩),.int .u64 (y : Int),.pointer (some ⟨t,0,none⟩),.pointer (some ⟨qi,0,none⟩),v17,.pointer (some ⟨qa,0,none⟩),u19,u20,u21,u22,u23,u24,u25,u26,u27,u28,v29,v30,v31,v32,v33,v34,v35,v36,v37,v38,v39,v40,v41,v42,v43,v44,v45,v46,v47,v48,v49,v50,v51,v52,v53,v54,v55,v56,v57,v58,v59,v60,v61,v62,v63,v64,v65,v66,v67,v68,v69,v70,v71,v72,v73,v74,v75,v76,v77,v78,v79,u80,u81,u82,u83,u84,u85,u86,u87,u88,u89,u90,u91,u92,u93,u94,u95,u96,u97,u98,u99,u100,u101,u102,u103,u104,u105,u106,u107,u108,u109,u110,u111,u112,u113,u114,u115,u116,u117,u118,u119,u120,u121,u122,u123,u124,u125,u126,u127,u128,u129,u130,u131,u132,u133,u134,u135,u136,u137,u138,u139,u140,u141,u142,u143,u144,u145,u146,u147,u148,u149,u150,u151,u152,u153,u154,u155,u156,u157,u158,u159,u160,u161,u162,u163,u164,u165,u166,u167,u168,u169,u170,u171,u172,u173,u174,u175,u176,u177,u178,u179,u180,u181,u182,u183,u184,u185,u186,u187,u188,u189,u190,u191,u192,u193,u194,u195,u196,u197,u198,u199,u200,u201,u202,u203,u204,u205,u206,u207,u208,u209,u210,u211,u212,u213,u214,u215,u216,u217,u218,u219,u220,u221,u222],[]⟩ w := by
  conv => arg 2; whnf
  have HK := Lib.hid hK
  clear hK
  have HS := Lib.hid h
  have HQ := Lib.hid hq
  have HA := Lib.hid ha
  have hc3 : w.cell? ⟨qa,0,none⟩ = some (.int .i64 a.kind) := (cells3 ha).1
  have hb : bits .and .i64 a.kind 7 = a.kind % 8 := iand7 a.kind
  clear h hq ha
  obtain ⟨v,hv⟩ : ∃ v,v = a.kind % 8 := ⟨_,rfl⟩
  rw [← hv] at hb
  have h8 : v = 0∨v = 1∨v = 2∨v = 3∨v = 4∨v = 5∨v = 6∨v = 7 := by omega
  generalize hak : a.kind = ak at hc3 hb
  clear hv hak
  refine wp_seq_k fun K1 hK1 => ?_
  have HK1 := Lib.hid hK1
  clear hK1
  rcases h8 with rfl | rfl | rfl | rfl | rfl | rfl | rfl | rfl
  · go_upto_if 92 with fail
    refine wp_cond_true rfl ?_
    go_upto_if 92 with fail
    refine wp_cond_true rfl ?_
    refine kpnew_any W w d f t qn qo qi qa lim c y F H O I fh fo fi a HS.out HQ.out HA.out h0 h1 (by omega) _ _ _ _ _ _ _ _ _ _ _ _ _ _ _ _ _ _ _ _ _ _ _ _ _ _ _ _ _ _ _ _ _ _ _ _ _ _ _ _ _ _ _ _ _ _ _ _ _ _ _ _ _ _ _ _ _ _ _ _ _ _ _ _ _ _ _ _ _ _ _ _ _ _ _ _ _ _ _ _ _ _ _ _ _ _ _ _ _ _ _ _ _ _ _ _ _ _ _ _ _ _ _ _ _ _ _ _ _ _ _ _ _ _ _ _ _ _ _ _ _ _ _ _ _ _ _ _ _ _ _ _ _ _ _ _ _ _ _ _ _ _ _ _ _ _ _ _ _ _ _ _ _ _ _ _ _ _ _ _ _ _ _ _ _ _ _ _ _ _ _ _ _ _ _ _ _ _ _ _ _ _ _ _ _ _ _ _ _ _ _ _ _ _ _ _ _ _ _ _ _ _ _ _ _ _ _ _ _ _ _ _ _ _ _ (fun _ _ => True) _ (fun _ _ _ _ _ _ _ _ _ _ _ _ _ _ _ _ _ _ _ _ w5 I2 fi2 g1 g2 g3 => ?_)
    refine HK1.out _ _ ?_
    refine kptail_any W w5 d f t qn qo qi lim c y F H O I2 fh fo fi2 g1 g2 (by omega) (by omega) (by omega) (by omega) _ _ _ _ _ _ _ _ _ _ _ _ _ _ _ _ _ _ _ _ _ _ _ _ _ _ _ _ _ _ _ _ _ _ _ _ _ _ _ _ _ _ _ _ _ _ _ _ _ _ _ _ _ _ _ _ _ _ _ _ _ _ _ _ _ _ _ _ _ _ _ _ _ _ _ _ _ _ _ _ _ _ _ _ _ _ _ _ _ _ _ _ _ _ _ _ _ _ _ _ _ _ _ _ _ _ _ _ _ _ _ _ _ _ _ _ _ _ _ _ _ _ _ _ _ _ _ _ _ _ _ _ _ _ _ _ _ _ _ _ _ _ _ _ _ _ _ _ _ _ _ _ _ _ _ _ _ _ _ _ _ _ _ _ _ _ _ _ _ _ _ _ _ _ _ _ _ _ _ _ _ _ _ _ _ _ _ _ _ _ _ _ _ _ _ _ _ _ _ _ _ _ _ _ _ _ _ _ _ _ _ _ _ _ _ _ (fun _ _ => True) _ (fun _ _ _ _ _ _ _ _ _ _ _ _ _ _ _ _ _ _ _ _ _ _ _ _ _ _ _ _ _ _ _ _ _ _ _ _ _ _ w6 k1 k2 => ?_)
    exact HK.out _ _ _ _ _ _ _ _ _ _ _ _ _ _ _ _ _ _ _ _ _ _ _ _ _ _ _ _ _ _ _ _ _ _ _ _ _ _ _ _ _ _ _ _ _ _ _ _ _ _ _ _ _ _ _ _ _ _ _ _ _ _ _ _ _ _ _ _ _ _ _ _ _ _ _ _ _ _ _ _ _ _ _ _ _ _ _ _ _ _ _ _ _ _ _ _ _ _ _ _ _ _ _ _ _ _ _ _ _ _ _ _ _ _ _ _ _ _ _ _ _ _ _ _ _ _ _ _ _ _ _ _ _ _ _ _ _ _ _ _ _ _ _ _ _ _ _ _ _ _ _ _ _ _ w6 t _ F H I2 fh fi2 k1 k2 (by omega) (by omega) (by omega)
  · go_upto_if 92 with fail
    refine wp_cond_false rfl ?_
    go_upto_if 92 with fail
    refine wp_cond_true rfl ?_
    go_upto_if 92 with fail
    refine wp_cond_true rfl ?_
    refine kpnew_any W w d f t qn qo qi qa lim c y F H O I fh fo fi a HS.out HQ.out HA.out h0 h1 (by omega) _ _ _ _ _ _ _ _ _ _ _ _ _ _ _ _ _ _ _ _ _ _ _ _ _ _ _ _ _ _ _ _ _ _ _ _ _ _ _ _ _ _ _ _ _ _ _ _ _ _ _ _ _ _ _ _ _ _ _ _ _ _ _ _ _ _ _ _ _ _ _ _ _ _ _ _ _ _ _ _ _ _ _ _ _ _ _ _ _ _ _ _ _ _ _ _ _ _ _ _ _ _ _ _ _ _ _ _ _ _ _ _ _ _ _ _ _ _ _ _ _ _ _ _ _ _ _ _ _ _ _ _ _ _ _ _ _ _ _ _ _ _ _ _ _ _ _ _ _ _ _ _ _ _ _ _ _ _ _ _ _ _ _ _ _ _ _ _ _ _ _ _ _ _ _ _ _ _ _ _ _ _ _ _ _ _ _ _ _ _ _ _ _ _ _ _ _ _ _ _ _ _ _ _ _ _ _ _ _ _ _ _ _ _ _ (fun _ _ => True) _ (fun _ _ _ _ _ _ _ _ _ _ _ _ _ _ _ _ _ _ _ _ w5 I2 fi2 g1 g2 g3 => ?_)
    refine HK1.out _ _ ?_
    refine kptail_any W w5 d f t qn qo qi lim c y F H O I2 fh fo fi2 g1 g2 (by omega) (by omega) (by omega) (by omega) _ _ _ _ _ _ _ _ _ _ _ _ _ _ _ _ _ _ _ _ _ _ _ _ _ _ _ _ _ _ _ _ _ _ _ _ _ _ _ _ _ _ _ _ _ _ _ _ _ _ _ _ _ _ _ _ _ _ _ _ _ _ _ _ _ _ _ _ _ _ _ _ _ _ _ _ _ _ _ _ _ _ _ _ _ _ _ _ _ _ _ _ _ _ _ _ _ _ _ _ _ _ _ _ _ _ _ _ _ _ _ _ _ _ _ _ _ _ _ _ _ _ _ _ _ _ _ _ _ _ _ _ _ _ _ _ _ _ _ _ _ _ _ _ _ _ _ _ _ _ _ _ _ _ _ _ _ _ _ _ _ _ _ _ _ _ _ _ _ _ _ _ _ _ _ _ _ _ _ _ _ _ _ _ _ _ _ _ _ _ _ _ _ _ _ _ _ _ _ _ _ _ _ _ _ _ _ _ _ _ _ _ _ _ _ _ (fun _ _ => True) _ (fun _ _ _ _ _ _ _ _ _ _ _ _ _ _ _ _ _ _ _ _ _ _ _ _ _ _ _ _ _ _ _ _ _ _ _ _ _ _ w6 k1 k2 => ?_)
    exact HK.out _ _ _ _ _ _ _ _ _ _ _ _ _ _ _ _ _ _ _ _ _ _ _ _ _ _ _ _ _ _ _ _ _ _ _ _ _ _ _ _ _ _ _ _ _ _ _ _ _ _ _ _ _ _ _ _ _ _ _ _ _ _ _ _ _ _ _ _ _ _ _ _ _ _ _ _ _ _ _ _ _ _ _ _ _ _ _ _ _ _ _ _ _ _ _ _ _ _ _ _ _ _ _ _ _ _ _ _ _ _ _ _ _ _ _ _ _ _ _ _ _ _ _ _ _ _ _ _ _ _ _ _ _ _ _ _ _ _ _ _ _ _ _ _ _ _ _ _ _ _ _ _ _ _ w6 t _ F H I2 fh fi2 k1 k2 (by omega) (by omega) (by omega)
  · go_upto_if 92 with fail
    refine wp_cond_false rfl ?_
    go_upto_if 92 with fail
    refine wp_cond_false rfl ?_
    go_upto_if 92 with fail
    refine wp_cond_true rfl ?_
    go_upto_if 92 with fail
    refine wp_cond_true rfl ?_
    refine kpnew_any W w d f t qn qo qi qa lim c y F H O I fh fo fi a HS.out HQ.out HA.out h0 h1 (by omega) _ _ _ _ _ _ _ _ _ _ _ _ _ _ _ _ _ _ _ _ _ _ _ _ _ _ _ _ _ _ _ _ _ _ _ _ _ _ _ _ _ _ _ _ _ _ _ _ _ _ _ _ _ _ _ _ _ _ _ _ _ _ _ _ _ _ _ _ _ _ _ _ _ _ _ _ _ _ _ _ _ _ _ _ _ _ _ _ _ _ _ _ _ _ _ _ _ _ _ _ _ _ _ _ _ _ _ _ _ _ _ _ _ _ _ _ _ _ _ _ _ _ _ _ _ _ _ _ _ _ _ _ _ _ _ _ _ _ _ _ _ _ _ _ _ _ _ _ _ _ _ _ _ _ _ _ _ _ _ _ _ _ _ _ _ _ _ _ _ _ _ _ _ _ _ _ _ _ _ _ _ _ _ _ _ _ _ _ _ _ _ _ _ _ _ _ _ _ _ _ _ _ _ _ _ _ _ _ _ _ _ _ _ _ _ (fun _ _ => True) _ (fun _ _ _ _ _ _ _ _ _ _ _ _ _ _ _ _ _ _ _ _ w5 I2 fi2 g1 g2 g3 => ?_)
    refine HK1.out _ _ ?_
    refine kptail_any W w5 d f t qn qo qi lim c y F H O I2 fh fo fi2 g1 g2 (by omega) (by omega) (by omega) (by omega) _ _ _ _ _ _ _ _ _ _ _ _ _ _ _ _ _ _ _ _ _ _ _ _ _ _ _ _ _ _ _ _ _ _ _ _ _ _ _ _ _ _ _ _ _ _ _ _ _ _ _ _ _ _ _ _ _ _ _ _ _ _ _ _ _ _ _ _ _ _ _ _ _ _ _ _ _ _ _ _ _ _ _ _ _ _ _ _ _ _ _ _ _ _ _ _ _ _ _ _ _ _ _ _ _ _ _ _ _ _ _ _ _ _ _ _ _ _ _ _ _ _ _ _ _ _ _ _ _ _ _ _ _ _ _ _ _ _ _ _ _ _ _ _ _ _ _ _ _ _ _ _ _ _ _ _ _ _ _ _ _ _ _ _ _ _ _ _ _ _ _ _ _ _ _ _ _ _ _ _ _ _ _ _ _ _ _ _ _ _ _ _ _ _ _ _ _ _ _ _ _ _ _ _ _ _ _ _ _ _ _ _ _ _ _ _ (fun _ _ => True) _ (fun _ _ _ _ _ _ _ _ _ _ _ _ _ _ _ _ _ _ _ _ _ _ _ _ _ _ _ _ _ _ _ _ _ _ _ _ _ _ w6 k1 k2 => ?_)
    exact HK.out _ _ _ _ _ _ _ _ _ _ _ _ _ _ _ _ _ _ _ _ _ _ _ _ _ _ _ _ _ _ _ _ _ _ _ _ _ _ _ _ _ _ _ _ _ _ _ _ _ _ _ _ _ _ _ _ _ _ _ _ _ _ _ _ _ _ _ _ _ _ _ _ _ _ _ _ _ _ _ _ _ _ _ _ _ _ _ _ _ _ _ _ _ _ _ _ _ _ _ _ _ _ _ _ _ _ _ _ _ _ _ _ _ _ _ _ _ _ _ _ _ _ _ _ _ _ _ _ _ _ _ _ _ _ _ _ _ _ _ _ _ _ _ _ _ _ _ _ _ _ _ _ _ _ w6 t _ F H I2 fh fi2 k1 k2 (by omega) (by omega) (by omega)
  · go_upto_if 92 with fail
    refine wp_cond_false rfl ?_
    go_upto_if 92 with fail
    refine wp_cond_false rfl ?_
    go_upto_if 92 with fail
    refine wp_cond_false rfl ?_
    go_upto_if 92 with fail
    refine wp_cond_true rfl ?_
    refine kpnew_any W w d f t qn qo qi qa lim c y F H O I fh fo fi a HS.out HQ.out HA.out h0 h1 (by omega) _ _ _ _ _ _ _ _ _ _ _ _ _ _ _ _ _ _ _ _ _ _ _ _ _ _ _ _ _ _ _ _ _ _ _ _ _ _ _ _ _ _ _ _ _ _ _ _ _ _ _ _ _ _ _ _ _ _ _ _ _ _ _ _ _ _ _ _ _ _ _ _ _ _ _ _ _ _ _ _ _ _ _ _ _ _ _ _ _ _ _ _ _ _ _ _ _ _ _ _ _ _ _ _ _ _ _ _ _ _ _ _ _ _ _ _ _ _ _ _ _ _ _ _ _ _ _ _ _ _ _ _ _ _ _ _ _ _ _ _ _ _ _ _ _ _ _ _ _ _ _ _ _ _ _ _ _ _ _ _ _ _ _ _ _ _ _ _ _ _ _ _ _ _ _ _ _ _ _ _ _ _ _ _ _ _ _ _ _ _ _ _ _ _ _ _ _ _ _ _ _ _ _ _ _ _ _ _ _ _ _ _ _ _ _ (fun _ _ => True) _ (fun _ _ _ _ _ _ _ _ _ _ _ _ _ _ _ _ _ _ _ _ w5 I2 fi2 g1 g2 g3 => ?_)
    refine HK1.out _ _ ?_
    refine kptail_any W w5 d f t qn qo qi lim c y F H O I2 fh fo fi2 g1 g2 (by omega) (by omega) (by omega) (by omega) _ _ _ _ _ _ _ _ _ _ _ _ _ _ _ _ _ _ _ _ _ _ _ _ _ _ _ _ _ _ _ _ _ _ _ _ _ _ _ _ _ _ _ _ _ _ _ _ _ _ _ _ _ _ _ _ _ _ _ _ _ _ _ _ _ _ _ _ _ _ _ _ _ _ _ _ _ _ _ _ _ _ _ _ _ _ _ _ _ _ _ _ _ _ _ _ _ _ _ _ _ _ _ _ _ _ _ _ _ _ _ _ _ _ _ _ _ _ _ _ _ _ _ _ _ _ _ _ _ _ _ _ _ _ _ _ _ _ _ _ _ _ _ _ _ _ _ _ _ _ _ _ _ _ _ _ _ _ _ _ _ _ _ _ _ _ _ _ _ _ _ _ _ _ _ _ _ _ _ _ _ _ _ _ _ _ _ _ _ _ _ _ _ _ _ _ _ _ _ _ _ _ _ _ _ _ _ _ _ _ _ _ _ _ _ _ (fun _ _ => True) _ (fun _ _ _ _ _ _ _ _ _ _ _ _ _ _ _ _ _ _ _ _ _ _ _ _ _ _ _ _ _ _ _ _ _ _ _ _ _ _ w6 k1 k2 => ?_)
    exact HK.out _ _ _ _ _ _ _ _ _ _ _ _ _ _ _ _ _ _ _ _ _ _ _ _ _ _ _ _ _ _ _ _ _ _ _ _ _ _ _ _ _ _ _ _ _ _ _ _ _ _ _ _ _ _ _ _ _ _ _ _ _ _ _ _ _ _ _ _ _ _ _ _ _ _ _ _ _ _ _ _ _ _ _ _ _ _ _ _ _ _ _ _ _ _ _ _ _ _ _ _ _ _ _ _ _ _ _ _ _ _ _ _ _ _ _ _ _ _ _ _ _ _ _ _ _ _ _ _ _ _ _ _ _ _ _ _ _ _ _ _ _ _ _ _ _ _ _ _ _ _ _ _ _ _ w6 t _ F H I2 fh fi2 k1 k2 (by omega) (by omega) (by omega)
  · go_upto_if 114 with fail
    refine wp_cond_true rfl ?_
    go_upto_if 114 with fail
    refine wp_cond_true rfl ?_
    refine kpfree_any W w d f t qn qo qi qa lim c y F H O I fh fo fi a HS.out HQ.out HA.out h0 h1 (by omega) _ _ _ _ _ _ _ _ _ _ _ _ _ _ _ _ _ _ _ _ _ _ _ _ _ _ _ _ _ _ _ _ _ _ _ _ _ _ _ _ _ _ _ _ _ _ _ _ _ _ _ _ _ _ _ _ _ _ _ _ _ _ _ _ _ _ _ _ _ _ _ _ _ _ _ _ _ _ _ _ _ _ _ _ _ _ _ _ _ _ _ _ _ _ _ _ _ _ _ _ _ _ _ _ _ _ _ _ _ _ _ _ _ _ _ _ _ _ _ _ _ _ _ _ _ _ _ _ _ _ _ _ _ _ _ _ _ _ _ _ _ _ _ _ _ _ _ _ _ _ _ _ _ _ _ _ _ _ _ _ _ _ _ _ _ _ _ _ _ _ _ _ _ _ _ _ _ _ _ _ _ _ _ _ _ _ _ _ _ _ _ _ _ _ _ _ _ _ _ _ _ _ _ _ _ _ _ _ _ _ _ _ _ _ _ (fun _ _ => True) _ (fun _ _ _ _ _ _ _ _ _ _ _ _ _ _ _ _ _ _ _ _ _ _ _ _ w5 I2 fi2 g1 g2 g3 => ?_)
    refine HK1.out _ _ ?_
    refine kptail_any W w5 d f t qn qo qi lim c y F H O I2 fh fo fi2 g1 g2 (by omega) (by omega) (by omega) (by omega) _ _ _ _ _ _ _ _ _ _ _ _ _ _ _ _ _ _ _ _ _ _ _ _ _ _ _ _ _ _ _ _ _ _ _ _ _ _ _ _ _ _ _ _ _ _ _ _ _ _ _ _ _ _ _ _ _ _ _ _ _ _ _ _ _ _ _ _ _ _ _ _ _ _ _ _ _ _ _ _ _ _ _ _ _ _ _ _ _ _ _ _ _ _ _ _ _ _ _ _ _ _ _ _ _ _ _ _ _ _ _ _ _ _ _ _ _ _ _ _ _ _ _ _ _ _ _ _ _ _ _ _ _ _ _ _ _ _ _ _ _ _ _ _ _ _ _ _ _ _ _ _ _ _ _ _ _ _ _ _ _ _ _ _ _ _ _ _ _ _ _ _ _ _ _ _ _ _ _ _ _ _ _ _ _ _ _ _ _ _ _ _ _ _ _ _ _ _ _ _ _ _ _ _ _ _ _ _ _ _ _ _ _ _ _ _ (fun _ _ => True) _ (fun _ _ _ _ _ _ _ _ _ _ _ _ _ _ _ _ _ _ _ _ _ _ _ _ _ _ _ _ _ _ _ _ _ _ _ _ _ _ w6 k1 k2 => ?_)
    exact HK.out _ _ _ _ _ _ _ _ _ _ _ _ _ _ _ _ _ _ _ _ _ _ _ _ _ _ _ _ _ _ _ _ _ _ _ _ _ _ _ _ _ _ _ _ _ _ _ _ _ _ _ _ _ _ _ _ _ _ _ _ _ _ _ _ _ _ _ _ _ _ _ _ _ _ _ _ _ _ _ _ _ _ _ _ _ _ _ _ _ _ _ _ _ _ _ _ _ _ _ _ _ _ _ _ _ _ _ _ _ _ _ _ _ _ _ _ _ _ _ _ _ _ _ _ _ _ _ _ _ _ _ _ _ _ _ _ _ _ _ _ _ _ _ _ _ _ _ _ _ _ _ _ _ _ w6 t _ F H I2 fh fi2 k1 k2 (by omega) (by omega) (by omega)
  · go_upto_if 114 with fail
    refine wp_cond_false rfl ?_
    go_upto_if 114 with fail
    refine wp_cond_true rfl ?_
    refine kpfree_any W w d f t qn qo qi qa lim c y F H O I fh fo fi a HS.out HQ.out HA.out h0 h1 (by omega) _ _ _ _ _ _ _ _ _ _ _ _ _ _ _ _ _ _ _ _ _ _ _ _ _ _ _ _ _ _ _ _ _ _ _ _ _ _ _ _ _ _ _ _ _ _ _ _ _ _ _ _ _ _ _ _ _ _ _ _ _ _ _ _ _ _ _ _ _ _ _ _ _ _ _ _ _ _ _ _ _ _ _ _ _ _ _ _ _ _ _ _ _ _ _ _ _ _ _ _ _ _ _ _ _ _ _ _ _ _ _ _ _ _ _ _ _ _ _ _ _ _ _ _ _ _ _ _ _ _ _ _ _ _ _ _ _ _ _ _ _ _ _ _ _ _ _ _ _ _ _ _ _ _ _ _ _ _ _ _ _ _ _ _ _ _ _ _ _ _ _ _ _ _ _ _ _ _ _ _ _ _ _ _ _ _ _ _ _ _ _ _ _ _ _ _ _ _ _ _ _ _ _ _ _ _ _ _ _ _ _ _ _ _ _ (fun _ _ => True) _ (fun _ _ _ _ _ _ _ _ _ _ _ _ _ _ _ _ _ _ _ _ _ _ _ _ w5 I2 fi2 g1 g2 g3 => ?_)
    refine HK1.out _ _ ?_
    refine kptail_any W w5 d f t qn qo qi lim c y F H O I2 fh fo fi2 g1 g2 (by omega) (by omega) (by omega) (by omega) _ _ _ _ _ _ _ _ _ _ _ _ _ _ _ _ _ _ _ _ _ _ _ _ _ _ _ _ _ _ _ _ _ _ _ _ _ _ _ _ _ _ _ _ _ _ _ _ _ _ _ _ _ _ _ _ _ _ _ _ _ _ _ _ _ _ _ _ _ _ _ _ _ _ _ _ _ _ _ _ _ _ _ _ _ _ _ _ _ _ _ _ _ _ _ _ _ _ _ _ _ _ _ _ _ _ _ _ _ _ _ _ _ _ _ _ _ _ _ _ _ _ _ _ _ _ _ _ _ _ _ _ _ _ _ _ _ _ _ _ _ _ _ _ _ _ _ _ _ _ _ _ _ _ _ _ _ _ _ _ _ _ _ _ _ _ _ _ _ _ _ _ _ _ _ _ _ _ _ _ _ _ _ _ _ _ _ _ _ _ _ _ _ _ _ _ _ _ _ _ _ _ _ _ _ _ _ _ _ _ _ _ _ _ _ _ (fun _ _ => True) _ (fun _ _ _ _ _ _ _ _ _ _ _ _ _ _ _ _ _ _ _ _ _ _ _ _ _ _ _ _ _ _ _ _ _ _ _ _ _ _ w6 k1 k2 => ?_)
    exact HK.out _ _ _ _ _ _ _ _ _ _ _ _ _ _ _ _ _ _ _ _ _ _ _ _ _ _ _ _ _ _ _ _ _ _ _ _ _ _ _ _ _ _ _ _ _ _ _ _ _ _ _ _ _ _ _ _ _ _ _ _ _ _ _ _ _ _ _ _ _ _ _ _ _ _ _ _ _ _ _ _ _ _ _ _ _ _ _ _ _ _ _ _ _ _ _ _ _ _ _ _ _ _ _ _ _ _ _ _ _ _ _ _ _ _ _ _ _ _ _ _ _ _ _ _ _ _ _ _ _ _ _ _ _ _ _ _ _ _ _ _ _ _ _ _ _ _ _ _ _ _ _ _ _ _ w6 t _ F H I2 fh fi2 k1 k2 (by omega) (by omega) (by omega)
  · go_upto_if 139 with fail
    refine wp_cond_true rfl ?_
    refine kpcommit_any W w d f t qn qo qi qa lim c y F H O I fh fo fi a HS.out HQ.out HA.out (by omega) (by omega) hl hy (by omega) _ _ _ _ _ _ _ _ _ _ _ _ _ _ _ _ _ _ _ _ _ _ _ _ _ _ _ _ _ _ _ _ _ _ _ _ _ _ _ _ _ _ _ _ _ _ _ _ _ _ _ _ _ _ _ _ _ _ _ _ _ _ _ _ _ _ _ _ _ _ _ _ _ _ _ _ _ _ _ _ _ _ _ _ _ _ _ _ _ _ _ _ _ _ _ _ _ _ _ _ _ _ _ _ _ _ _ _ _ _ _ _ _ _ _ _ _ _ _ _ _ _ _ _ _ _ _ _ _ _ _ _ _ _ _ _ _ _ _ _ _ _ _ _ _ _ _ _ _ _ _ _ _ _ _ _ _ _ _ _ _ _ _ _ _ _ _ _ _ _ _ _ _ _ _ _ _ _ _ _ _ _ _ _ _ _ _ _ _ _ _ _ _ _ _ _ _ _ _ _ _ _ _ _ _ _ _ _ _ _ _ _ _ _ (fun _ _ => True) _ (fun _ _ _ _ _ _ _ _ _ _ _ _ _ _ _ _ _ _ _ _ _ _ _ _ _ _ _ _ _ _ _ _ _ _ _ _ _ _ _ _ _ _ _ _ _ _ _ _ _ _ _ _ _ w5 t2 c2 F2 H2 fh2 g1 g2 g3 g4 g5 => ?_)
    refine HK1.out _ _ ?_
    refine kptail_any W w5 d f t2 qn qo qi lim c2 y F2 H2 O H2 fh2 fo fh2 g1 g2 (by omega) (by omega) (by omega) (by omega) _ _ _ _ _ _ _ _ _ _ _ _ _ _ _ _ _ _ _ _ _ _ _ _ _ _ _ _ _ _ _ _ _ _ _ _ _ _ _ _ _ _ _ _ _ _ _ _ _ _ _ _ _ _ _ _ _ _ _ _ _ _ _ _ _ _ _ _ _ _ _ _ _ _ _ _ _ _ _ _ _ _ _ _ _ _ _ _ _ _ _ _ _ _ _ _ _ _ _ _ _ _ _ _ _ _ _ _ _ _ _ _ _ _ _ _ _ _ _ _ _ _ _ _ _ _ _ _ _ _ _ _ _ _ _ _ _ _ _ _ _ _ _ _ _ _ _ _ _ _ _ _ _ _ _ _ _ _ _ _ _ _ _ _ _ _ _ _ _ _ _ _ _ _ _ _ _ _ _ _ _ _ _ _ _ _ _ _ _ _ _ _ _ _ _ _ _ _ _ _ _ _ _ _ _ _ _ _ _ _ _ _ _ _ _ _ (fun _ _ => True) _ (fun _ _ _ _ _ _ _ _ _ _ _ _ _ _ _ _ _ _ _ _ _ _ _ _ _ _ _ _ _ _ _ _ _ _ _ _ _ _ w6 k1 k2 => ?_)
    exact HK.out _ _ _ _ _ _ _ _ _ _ _ _ _ _ _ _ _ _ _ _ _ _ _ _ _ _ _ _ _ _ _ _ _ _ _ _ _ _ _ _ _ _ _ _ _ _ _ _ _ _ _ _ _ _ _ _ _ _ _ _ _ _ _ _ _ _ _ _ _ _ _ _ _ _ _ _ _ _ _ _ _ _ _ _ _ _ _ _ _ _ _ _ _ _ _ _ _ _ _ _ _ _ _ _ _ _ _ _ _ _ _ _ _ _ _ _ _ _ _ _ _ _ _ _ _ _ _ _ _ _ _ _ _ _ _ _ _ _ _ _ _ _ _ _ _ _ _ _ _ _ _ _ _ _ w6 t2 _ F2 H2 H2 fh2 fh2 k1 k2 (by omega) (by omega) (by omega)
  · go_upto_if 139 with fail
    refine wp_cond_false rfl ?_
    refine kpabort_any W w d f t qn qo qi qa lim c y F H O I fh fo fi a HS.out HQ.out HA.out (by omega) (by omega) hl hy _ _ _ _ _ _ _ _ _ _ _ _ _ _ _ _ _ _ _ _ _ _ _ _ _ _ _ _ _ _ _ _ _ _ _ _ _ _ _ _ _ _ _ _ _ _ _ _ _ _ _ _ _ _ _ _ _ _ _ _ _ _ _ _ _ _ _ _ _ _ _ _ _ _ _ _ _ _ _ _ _ _ _ _ _ _ _ _ _ _ _ _ _ _ _ _ _ _ _ _ _ _ _ _ _ _ _ _ _ _ _ _ _ _ _ _ _ _ _ _ _ _ _ _ _ _ _ _ _ _ _ _ _ _ _ _ _ _ _ _ _ _ _ _ _ _ _ _ _ _ _ _ _ _ _ _ _ _ _ _ _ _ _ _ _ _ _ _ _ _ _ _ _ _ _ _ _ _ _ _ _ _ _ _ _ _ _ _ _ _ _ _ _ _ _ _ _ _ _ _ _ _ _ _ _ _ _ _ _ _ _ _ _ _ (fun _ _ => True) _ (fun _ _ _ _ _ _ _ _ _ w5 t2 g1 g2 => ?_)
    refine HK1.out _ _ ?_
    refine kptail_any W w5 d f t2 qn qo qi lim c y F H O H fh fo fh g1 g2 (by omega) (by omega) (by omega) (by omega) _ _ _ _ _ _ _ _ _ _ _ _ _ _ _ _ _ _ _ _ _ _ _ _ _ _ _ _ _ _ _ _ _ _ _ _ _ _ _ _ _ _ _ _ _ _ _ _ _ _ _ _ _ _ _ _ _ _ _ _ _ _ _ _ _ _ _ _ _ _ _ _ _ _ _ _ _ _ _ _ _ _ _ _ _ _ _ _ _ _ _ _ _ _ _ _ _ _ _ _ _ _ _ _ _ _ _ _ _ _ _ _ _ _ _ _ _ _ _ _ _ _ _ _ _ _ _ _ _ _ _ _ _ _ _ _ _ _ _ _ _ _ _ _ _ _ _ _ _ _ _ _ _ _ _ _ _ _ _ _ _ _ _ _ _ _ _ _ _ _ _ _ _ _ _ _ _ _ _ _ _ _ _ _ _ _ _ _ _ _ _ _ _ _ _ _ _ _ _ _ _ _ _ _ _ _ _ _ _ _ _ _ _ _ _ _ (fun _ _ => True) _ (fun _ _ _ _ _ _ _ _ _ _ _ _ _ _ _ _ _ _ _ _ _ _ _ _ _ _ _ _ _ _ _ _ _ _ _ _ _ _ w6 k1 k2 => ?_)
    exact HK.out _ _ _ _ _ _ _ _ _ _ _ _ _ _ _ _ _ _ _ _ _ _ _ _ _ _ _ _ _ _ _ _ _ _ _ _ _ _ _ _ _ _ _ _ _ _ _ _ _ _ _ _ _ _ _ _ _ _ _ _ _ _ _ _ _ _ _ _ _ _ _ _ _ _ _ _ _ _ _ _ _ _ _ _ _ _ _ _ _ _ _ _ _ _ _ _ _ _ _ _ _ _ _ _ _ _ _ _ _ _ _ _ _ _ _ _ _ _ _ _ _ _ _ _ _ _ _ _ _ _ _ _ _ _ _ _ _ _ _ _ _ _ _ _ _ _ _ _ _ _ _ _ _ _ w6 t2 _ F H H fh fh k1 k2 (by omega) (by omega) (by omega)
end Go.Proofs.YtnnmpaenainogaaGreat

namespace Go.Proofs.YtnnmpaenainogaaGreat
open Go.RowKit Go.Maps
theorem kp_start {W w4 w6 : World} (g : Kfr KT W.heap.size W w4) (k : ((w4.alloc nilH).alloc nilH).grownBy w6 none) : (w6.cell? ⟨w4.heap.size,0,none⟩ = some (.slice none 0 0)∧w6.cell? ⟨w4.heap.size,1,none⟩ = some (.slice none 0 0))∧Q3 W (w6.alloc nilH) w4.heap.size (w4.heap.size + 1) w6.heap.size [] [] [] [] [] [] := by
  have s1 : (w4.alloc nilH).heap.size = w4.heap.size + 1 := by unfold World.alloc; exact Array.size_push _
  have b1 : (w4.alloc nilH).heap[w4.heap.size]? = some nilH := heap_alloc_new w4 nilH
  have g1 := World.grownBy_alloc (w4.alloc nilH) nilH none
  have b2 : ((w4.alloc nilH).alloc nilH).heap[w4.heap.size + 1]? = some nilH := by rw [← s1]; exact heap_alloc_new _ nilH
  have b1' := (g1.block _ (lt_of_block b1) (by simp)).trans b1
  have g2 := World.grownBy_alloc w6 nilH none
  have c1 := (k.block _ (lt_of_block b1') (by simp)).trans b1'
  have c2 := (k.block _ (lt_of_block b2) (by simp)).trans b2
  have l2 := lt_of_block c2
  have := g.size
  exact ⟨⟨(cells2H c1).1,(cells2H c1).2.1⟩,hb_nil ((g2.block _ (lt_of_block c1) (by simp)).trans c1),hb_nil ((g2.block _ (lt_of_block c2) (by simp)).trans c2),hb_nil (heap_alloc_new w6 nilH),⟨by omega,by omega,by omega⟩,⟨by omega,by omega,by omega⟩,
    g.trans (kt_new (gtrans (gtrans (World.grownBy_alloc w4 nilH none) g1) (gtrans k g2)))⟩
def KpL (W : World) (d f qn qo qi lim : Nat) (k y t : Nat) (w : World) : Prop := ∃ c F H O I fh fo fi,KI W.heap.size d f t w lim c y F H O I fh fo fi∧Q3 W w qn qo qi H O I fh fo fi∧c≤300 + 700 * k∧H.length≤k∧O.length≤k∧I.length≤k∧y < 18446744073709551616
set_option maxRecDepth 1000000 in
set_option maxHeartbeats 16000000 in
theorem pkeeps_walk (W : World) (a1 : Option Addr) (n1 c1 : Nat) (acs : List A11) (l : Int) (p : Int) (h1 : A11q W.heap.size W (.slice a1 n1 c1) acs) (l0 : 0≤l) (l1 : l≤255) :
    Calls Tryz.prog 3 #[.slice a1 n1 c1,.int .u8 l,.int .i64 p] W fun r w' => r = .returned (.bool true)∧Below W.heap.size W w' := by
  obtain ⟨Y,rfl⟩ : ∃ Y : Nat,l = (Y : Int) := ⟨l.toNat,by omega⟩
  obtain ⟨lim,hlim⟩ : ∃ lim,lim = Y + 3 := ⟨_,rfl⟩
  have hmay : May ((512 : Nat) : Int) (lim : Int) := by unfold May; omega
  have hw1 : IntKind.i64.wrap (Y : Int) = (Y : Int) := IntWalk.i64_in _ (by omega)
  have hw2 : IntKind.i64.wrap ((Y : Int) + 3) = (lim : Int) := by rw [show ((Y : Int) + 3) = (lim : Int) by omega]; exact IntWalk.i64_in _ (by omega)
  have hl2 : 2≤lim := by omega
  have hl9 : lim≤290 := by omega
  have H1 := Lib.hid h1
  have HN := Lib.hid h1.len.1
  have hn9 : (n1 : Int) ≤ 9223372036854775807 := by have h9 : maxLen ≤ 9223372036854775807 := by decide
                                                    have := h1.len.2
                                                    omega
  clear h1 hlim l0 l1
  go_enter Tryz.func3,Tryz.ntmps3
  go_upto_region 8 with (first
    | (go_at_call 14; ((with_reducible refine (awake11_any W).mono ?_); rintro r w1 ⟨rfl,hg⟩; have HG1 := Lib.hid (kt_new (B := W.heap.size) hg); clear hg))
    | (go_at_call 15; refine (new_good _ 512 lim hmay).mono ?_; rintro e w3 ⟨rfl,hw0⟩; have hpn := pd_new (B := W.heap.size) HG1.out.size hw0; have HP3 := Lib.hid hpn.1; have HG3 := Lib.hid (HG1.out.trans (kt_new (B := W.heap.size) hpn.2)); clear hpn hw0)
    | (go_at_call 16; refine (law_open (fun _ => []) HP3.out hl2 hl9).mono ?_; rintro e w4 ⟨f,M4,rfl,hl,hd⟩; have HL4 := Lib.hid (show KF W.heap.size _ f w4 lim (lim + 5) 18446744073709551615 fv0 [] [] [] [] from ⟨M4,[],_,hl,fil_nil _ _,(by intro q hq; cases hq),.inl rfl,fil_nil _ _⟩); have HG4 := Lib.hid (HG3.out.trans (kt_dfr hd)); clear hl hd HP3))
  obtain ⟨d,hd⟩ : ∃ d,d = w1.heap.size := ⟨_,rfl⟩
  rw [← hd] at HL4 ⊢
  clear HG3 HG1 hd hw1 hw2
  go_upto_region 11 with (first
    | (go_at_call 17; ((with_reducible refine (ki_begin (HL4.out.new (gtrans (World.grownBy_alloc w4 nilH none) (World.grownBy_alloc _ nilH none))) (by omega) (by decide) 18446744073709551615 rfl).mono ?_); rintro r w6 ⟨t,rfl,hs,hg⟩; have HS6 := Lib.hid hs; have HQ6 := Lib.hid (kp_start HG4.out hg); clear hs hg)))
  obtain ⟨⟨e0,e1⟩,hq6⟩ := HQ6.out
  have HQ7 := Lib.hid hq6
  have HS7 := Lib.hid (HS6.out.new (World.grownBy_alloc w6 nilH none))
  clear hq6 HQ6 HS6 HL4 HG4
  go_upto_region 12 with fail
  clear e0 e1
  obtain ⟨qn,hqn⟩ : ∃ q,q = w4.heap.size := ⟨_,rfl⟩
  rw [← hqn] at HQ7 ⊢
  obtain ⟨qo,hqo⟩ : ∃ q,q = qn + 1 := ⟨_,rfl⟩
  rw [← hqo] at HQ7 ⊢
  obtain ⟨qi,hqi⟩ : ∃ q,q = w6.heap.size := ⟨_,rfl⟩
  rw [← hqi] at HQ7 ⊢
  generalize w6.alloc nilH = w7 at HQ7 HS7 ⊢
  clear hqn hqo hqi
  have HL := Lib.hid (show KpL W d f qn qo qi lim 0 18446744073709551615 t w7 from ⟨_,_,_,_,_,_,_,_,HS7.out,HQ7.out,by omega,Nat.le_refl _,Nat.le_refl _,Nat.le_refl _,by decide⟩)
  clear HQ7 HS7
  obtain ⟨N,hN⟩ : ∃ N,N = min 60 n1 := ⟨_,rfl⟩
  go_wp2_with fail
  go_loopg [11,14,15,17] N (fun gk e o tv i wr => ∃ k y t : Nat,k + gk = N∧e = .int .i64 0∧o = .int .u64 (y : Int)∧tv = .pointer (some ⟨t,0,none⟩)∧i = .int .i64 k∧Hid (KpL W d f qn qo qi lim k y t wr))
  case atStart => exact ⟨0,18446744073709551615,t,by omega,rfl,rfl,rfl,rfl,HL⟩
  case round =>
    obtain ⟨k,y,t,hk,rfl,rfl,rfl,rfl,hh⟩ := hrel
    clear HL
    by_cases hlt : k < N
    · obtain ⟨gq,rfl⟩ : ∃ g,gk = g + 1 := ⟨gk - 1,by omega⟩
      have hk1 : (k : Int) < (n1 : Int) := by omega
      have hk60 : (k : Int) < 60 := by omega
      obtain ⟨c,F,H,O,I,fh,fo,fi,hki,hq3,hc,hH,hO,hI,hy⟩ := hh.out
      have HS := Lib.hid hki
      have HQ := Lib.hid hq3
      have hkl : k < acs.length := by have := HN.out; omega
      obtain ⟨a,ha⟩ : ∃ a,acs[k]? = some a := ⟨_,List.getElem?_eq_getElem hkl⟩
      obtain ⟨ba,oa,rfl,hba,v0,v1,v2,f0,f1,-,-⟩ := H1.out.at k a ha
      have x0 : wr.cell? ⟨ba,oa + k * 3,none⟩ = some (.int .i64 a.kind) := (World.cell?_of_block (w := W) (hq3.g.block ba (by omega) (.inl hba))).trans v0
      have x1 : wr.cell? ⟨ba,oa + k * 3 + 1,none⟩ = some (.int .i64 a.n) := (World.cell?_of_block (w := W) (hq3.g.block ba (by omega) (.inl hba))).trans v1
      have x2 : wr.cell? ⟨ba,oa + k * 3 + 2,none⟩ = some (.int .u8 a.fill) := (World.cell?_of_block (w := W) (hq3.g.block ba (by omega) (.inl hba))).trans v2
      obtain ⟨ak,an,ax⟩ := a
      clear hh hki hq3 v0 v1 v2 ha
      go_upto_region 18 with fail
      have hal := World.grownBy_alloc wr (.cells #[.int .i64 ak,.int .i64 an,.int .u8 ax] 40) none
      have HA2 := Lib.hid (show ActB _ wr.heap.size ⟨ak,an,ax⟩ from heap_alloc_new wr (.cells #[.int .i64 ak,.int .i64 an,.int .u8 ax] 40))
      have HS2 := Lib.hid (HS.out.new hal)
      have HQ2 := Lib.hid (HQ.out.new hal)
      clear hal x0 x1 x2 HS HQ
      generalize wr.alloc (.cells #[.int .i64 ak,.int .i64 an,.int .u8 ax] 40) = w2 at HA2 HS2 HQ2 ⊢
      generalize wr.heap.size = qa at HA2 ⊢
      rename ∀ (a : Act) (w : World),Code.wp _ _ (Exit.inBlock 1 _) a w→_ => hK0
      have HK0 := Lib.hid hK0
      clear hK0
      by_cases hpin : (k : Int) = p
      · subst hpin
        obtain ⟨pa,pc,fa,fc,k0,k1,_,_,hv⟩ := HQ2.out.n.cells
        have HV := Lib.hid hv
        obtain ⟨n,hn⟩ : ∃ n,n = H.length := ⟨_,rfl⟩
        rw [← hn] at k0 k1 HV
        have HN2 := Lib.hid hn
        obtain ⟨_,_,_,_,m0,m1,y0,y1,-⟩ := HQ2.out.o.cells
        clear hv hn
        go_upto_region 20 with fail
        have HS3 := Lib.hid (HS2.out.held (setH_kfr HQ2.out.o.ek (.slice pa n pc) (.slice fa n fc)))
        have HA3 := Lib.hid (show ActB _ qa ⟨ak,an,ax⟩ from (setH_kfr HQ2.out.o.ek (.slice pa n pc) (.slice fa n fc)).cells HA2.out (by decide))
        have HQ3 := Lib.hid (HQ2.out.putO (by have := HV.out; rw [HN2.out] at this; exact this))
        rw [← HN2.out] at HQ3
        clear k0 k1 m0 m1 y0 y1 HV HS2 HQ2 HA2
        dsimp only [setH] at HS3 HQ3 HA3
        generalize hw3 : (w2.setCell ⟨qo,0,none⟩ (.slice pa n pc)).setCell ⟨qo,1,none⟩ (.slice fa n fc) = w3 at HS3 HQ3 HA3 ⊢
        clear hw3
        have hme := (meta_fields (.int .u64 (F.mt.t : Int)) (.int .u32 (F.mt.e : Int)) (.int .u32 (F.mt.m : Int)) (.int .u32 (F.mt.f : Int))).1
        have hty : F.mt.t < 18446744073709551616 := by have := HS3.out.kf.mt.1; omega
        go_wp2_with (first
          | (go_at_call 18; ((with_reducible refine (ki_metaV HS3.out.kf).mono ?_); rintro r w4 ⟨rfl,hg⟩; have HS4 := Lib.hid ((HS3.out.new hg).pin); have HQ4 := Lib.hid (HQ3.out.new hg); have HA4 := Lib.hid (HA3.out.new hg); clear hg)))
        refine HK0.out _ _ ?_
        clear HK0
        refine kprest_any W w4 d f t qn qo qi qa lim c F.mt.t k F H H I fh fh fi ⟨ak,an,ax⟩ HS4.out HQ4.out HA4.out f0 f1 hH hH hI (by omega) (by omega) (by omega) hty _ _ _ _ _ _ _ _ _ _ _ _ _ _ _ _ _ _ _ _ _ _ _ _ _ _ _ _ _ _ _ _ _ _ _ _ _ _ _ _ _ _ _ _ _ _ _ _ _ _ _ _ _ _ _ _ _ _ _ _ _ _ _ _ _ _ _ _ _ _ _ _ _ _ _ _ _ _ _ _ _ _ _ _ _ _ _ _ _ _ _ _ _ _ _ _ _ _ _ _ _ _ _ _ _ _ _ _ _ _ _ _ _ _ _ _ _ _ _ _ _ _ _ _ _ _ _ _ _ _ _ _ _ _ _ _ _ _ _ _ _ _ _ _ _ _ _ _ _ _ _ _ _ _ _ _ _ _ _ _ _ _ _ _ _ _ _ _ _ _ _ _ _ _ _ _ _ _ _ _ _ _ _ _ _ _ _ _ _ _ _ _ _ _ _ _ _ _ _ _ _ _ _ _ _ _ _ _ _ _ _ _ _ _ (fun _ _ => True) _ (fun _ _ _ _ _ _ _ _ _ _ _ _ _ _ _ _ _ _ _ _ _ _ _ _ _ _ _ _ _ _ _ _ _ _ _ _ _ _ _ _ _ _ _ _ _ _ _ _ _ _ _ _ _ _ _ _ _ _ _ _ _ _ _ _ _ _ _ _ _ _ _ _ _ _ _ _ _ _ _ _ _ _ _ _ _ _ _ _ _ _ _ _ _ _ _ _ _ _ _ _ _ _ _ _ _ _ _ _ _ _ _ _ _ _ _ _ _ _ _ _ _ _ _ _ _ _ _ _ _ _ _ _ _ _ _ _ _ _ _ _ _ _ _ _ _ _ _ _ _ _ _ _ _ _ w5 t2 c2 F2 H2 I2 fh2 fi2 g1 g2 g3 g4 g5 => ?_)
        have HL2 := Lib.hid (show KpL W d f qn qo qi lim (k + 1) F.mt.t t2 w5 from ⟨c2,F2,H2,H,I2,fh2,fh,fi2,g1,g2,by omega,g4,by omega,g5,hty⟩)
        clear g1 g2 HS4 HQ4 HA4
        go_wp2
        go_roundg gq
        case measure => omega
        case rel => exact ⟨k + 1,F.mt.t,t2,by omega,rfl,rfl,rfl,by go_num,HL2⟩
      · have hpb : ((k : Int) == p) = false := by simpa using hpin
        go_wp2
        refine HK0.out _ _ ?_
        clear HK0
        refine kprest_any W w2 d f t qn qo qi qa lim c y k F H O I fh fo fi ⟨ak,an,ax⟩ HS2.out HQ2.out HA2.out f0 f1 hH hO hI (by omega) (by omega) (by omega) hy _ _ _ _ _ _ _ _ _ _ _ _ _ _ _ _ _ _ _ _ _ _ _ _ _ _ _ _ _ _ _ _ _ _ _ _ _ _ _ _ _ _ _ _ _ _ _ _ _ _ _ _ _ _ _ _ _ _ _ _ _ _ _ _ _ _ _ _ _ _ _ _ _ _ _ _ _ _ _ _ _ _ _ _ _ _ _ _ _ _ _ _ _ _ _ _ _ _ _ _ _ _ _ _ _ _ _ _ _ _ _ _ _ _ _ _ _ _ _ _ _ _ _ _ _ _ _ _ _ _ _ _ _ _ _ _ _ _ _ _ _ _ _ _ _ _ _ _ _ _ _ _ _ _ _ _ _ _ _ _ _ _ _ _ _ _ _ _ _ _ _ _ _ _ _ _ _ _ _ _ _ _ _ _ _ _ _ _ _ _ _ _ _ _ _ _ _ _ _ _ _ _ _ _ _ _ _ _ _ _ _ _ _ _ (fun _ _ => True) _ (fun _ _ _ _ _ _ _ _ _ _ _ _ _ _ _ _ _ _ _ _ _ _ _ _ _ _ _ _ _ _ _ _ _ _ _ _ _ _ _ _ _ _ _ _ _ _ _ _ _ _ _ _ _ _ _ _ _ _ _ _ _ _ _ _ _ _ _ _ _ _ _ _ _ _ _ _ _ _ _ _ _ _ _ _ _ _ _ _ _ _ _ _ _ _ _ _ _ _ _ _ _ _ _ _ _ _ _ _ _ _ _ _ _ _ _ _ _ _ _ _ _ _ _ _ _ _ _ _ _ _ _ _ _ _ _ _ _ _ _ _ _ _ _ _ _ _ _ _ _ _ _ _ _ _ w5 t2 c2 F2 H2 I2 fh2 fi2 g1 g2 g3 g4 g5 => ?_)
        have HL2 := Lib.hid (show KpL W d f qn qo qi lim (k + 1) y t2 w5 from ⟨c2,F2,H2,O,I2,fh2,fo,fi2,g1,g2,by omega,g4,by omega,g5,hy⟩)
        clear g1 g2 HS2 HQ2 HA2
        go_wp2
        go_roundg gq
        case measure => omega
        case rel => exact ⟨k + 1,y,t2,by omega,rfl,rfl,rfl,by go_num,HL2⟩
    · obtain ⟨c,F,H,O,I,fh,fo,fi,-,hq3,-⟩ := hh.out
      have HB9 := Lib.hid (hq3.g.below (Nat.le_refl _))
      clear hh hq3
      by_cases hk1 : (k : Int) < (n1 : Int)
      · have hk60 : ¬ (k : Int) < 60 := by omega
        go_wp2
        go_ret
        exact ⟨rfl,HB9.out⟩
      · go_wp2
        go_ret
        exact ⟨rfl,HB9.out⟩
end Go.Proofs.YtnnmpaenainogaaGreat

/-
  Layer 11: the laws' acts, opened. Own work.
-/
import Derived.Test.YtnnmpaenainogaaGreatPagerCrashesAB
import Derived.Deep.Matrix
import Derived.Deep.QuietTactic
import Derived.BigQuiet
import Derived.Deep.CutBlock
import Derived.Deep.LoopGhost
import Derived.Test.YtnnmpaenainogaaGreatPagerCrashesAA
import Derived.Deep.Slices
import Derived.ShutString
import Derived.ChangeOld

set_option linter.unusedVariables false
set_option linter.unusedSimpArgs false
namespace Go.Proofs.YtnnmpaenainogaaGreat
open Go.RowKit Go.ChangeShapes Go.WideShapes Go.ChangeAt
structure A11 where
  kind : Int
  n : Int
  fill : Int
def A11At (w : World) (b o : Nat) (a : A11) : Prop :=
  w.cell? ⟨b,o,none⟩ = some (.int .i64 a.kind)∧w.cell? ⟨b,o + 1,none⟩ = some (.int .i64 a.n)∧w.cell? ⟨b,o + 2,none⟩ = some (.int .u8 a.fill)∧0≤a.fill∧a.fill≤255∧(-9223372036854775808≤a.kind∧a.kind≤9223372036854775807)∧(-9223372036854775808≤a.n∧a.n≤9223372036854775807)
def A11q (B : Nat) (w : World) (v : Value) (acs : List A11) : Prop := ∃ ao c,v = .slice ao acs.length c∧acs.length≤maxLen∧(acs≠[]→∃ b o,ao = some ⟨b,o,none⟩∧b < B∧∀ (j : Nat) a,acs[j]? = some a→A11At w b (o + j * 3) a)
theorem A11q.len {B : Nat} {w : World} {ao : Option Addr} {n c : Nat} {acs : List A11} (h : A11q B w (.slice ao n c) acs) : n = acs.length∧n≤maxLen := by
  obtain ⟨ao',c',hv,h1,_⟩ := h
  cases hv
  exact ⟨rfl,h1⟩
theorem A11q.at {B : Nat} {w : World} {ao : Option Addr} {n c : Nat} {acs : List A11} (h : A11q B w (.slice ao n c) acs) (k : Nat) (a : A11) (ha : acs[k]? = some a) :
    ∃ b o,ao = some ⟨b,o,none⟩∧b < B∧A11At w b (o + k * 3) a := by
  obtain ⟨ao',c',hv,h1,h2⟩ := h
  cases hv
  obtain ⟨b,o,e,hb,hc⟩ := h2 (fun e => by rw [e] at ha; simp at ha)
  exact ⟨b,o,e,hb,hc k a ha⟩
theorem exists_rows {α : Type} {p : Nat→α→Prop} : ∀ n,(∀ i,i < n→∃ x,p i x)→∃ l : List α,l.length = n∧∀ i x,l[i]? = some x→p i x
  | 0,_ => ⟨[],rfl,fun i x h => by simp at h⟩
  | n + 1,h => by
    obtain ⟨l,hl,hp⟩ := exists_rows n (fun i hi => h i (by omega))
    obtain ⟨x,hx⟩ := h n (by omega)
    refine ⟨l++[x],by simp [hl],fun i y hy => ?_⟩
    by_cases e : i < n
    · rw [List.getElem?_append_left (by omega)] at hy; exact hp i y hy
    · have hi : i < (l++[x]).length := (List.getElem?_eq_some_iff.1 hy).1
      simp [hl] at hi
      obtain rfl : i = n := by omega
      rw [List.getElem?_append_right (by omega),hl,Nat.sub_self] at hy
      cases hy; exact hx
theorem cAct11 : Tryz.prog.cellsOf 40 = 3 := by kernel_rfl
theorem c1intQ : Tryz.prog.cellsOf 3 = 1 := by kernel_rfl
theorem c1u8Q : Tryz.prog.cellsOf 5 = 1 := by kernel_rfl
theorem bounds_i64' {T : Int} (w : Lit.wf (.int .i64 T) = true) : -9223372036854775808≤T∧T≤9223372036854775807 := by
  have h1 : IntKind.i64.max = 9223372036854775807 := by decide
  have h2 : IntKind.i64.min = -9223372036854775808 := by decide
  simp only [Lit.wf,h1,h2,Bool.and_eq_true,decide_eq_true_eq] at w
  exact w
set_option maxRecDepth 100000 in
theorem open_acts11 {H : Type} {enc : TypeId × Value→H} {W : World} {d : DataW H} {p : List MemPlace} {a : Option Addr} {len cap : Nat}
    (h : ∃ fuel,DataW.trod enc Tryz.prog W 0 (fun _ => true) true fuel 22 [.slice a len cap] = some (d,p)) :
    ∃ acs,A11q W.heap.size W (.slice a len cap) acs := by
  obtain ⟨fuel,hf⟩ := h
  rcases Go.Deep.open_slice Tryz.underlying22 hf with ⟨hcs,_⟩ | ⟨x,l,c,m,n,D,Pl,hcs,_,hl,hm,hmm,hx,hi⟩
  · simp at hcs
    obtain ⟨rfl,rfl,rfl⟩ := hcs
    exact ⟨[],none,0,rfl,by simp [maxLen],fun h => absurd rfl h⟩
  · simp at hcs
    obtain ⟨rfl,rfl,rfl⟩ := hcs
    have hmc : m = cap := by simpa using hmm
    rw [cAct11] at hi
    have each : ∀ i,i < len→∃ v0 v1 v2,(∀ j v,[v0,v1,v2][j]? = some v→W.cell? ((x.add (i * 3)).add j) = some v)∧(∃ n y,DataW.trod enc Tryz.prog W 0 (fun _ => true) true n 3 [v0] = some y) ∧
        (∃ n y,DataW.trod enc Tryz.prog W 0 (fun _ => true) true n 3 [v1] = some y)∧(∃ n y,DataW.trod enc Tryz.prog W 0 (fun _ => true) true n 5 [v2] = some y) := by
      intro i hil
      obtain ⟨cs',hc,htr⟩ := hi i (by omega)
      obtain ⟨_,hcl,hat⟩ := World.cells?_some hc
      obtain ⟨ys,n',_,hDi,_,hyl,hg⟩ := DataW.trod_struct Tryz.underlying40 htr
      match cs',hcl,ys,hyl with
      | [v0,v1,v2],_,[y0,y1,y2],_ =>
        refine ⟨v0,v1,v2,fun j v hj => ?_,⟨n',y0,?_⟩,⟨n',y1,?_⟩,⟨n',y2,?_⟩⟩
        · have hj4 : j < 3 := (List.getElem?_eq_some_iff.1 hj).1
          exact (hat j hj4).trans hj
        · simpa [c1intQ,c1u8Q] using hg 0 _ rfl
        · simpa [c1intQ,c1u8Q] using hg 1 _ rfl
        · simpa [c1intQ,c1u8Q] using hg 2 _ rfl
    obtain ⟨b,o,spot⟩ := x
    have hspot : 0 < len→spot = none := fun hp => by
      obtain ⟨v0,_,_,hc0,_⟩ := each 0 hp
      simpa [Addr.add] using World.cell?_spot (hc0 0 v0 rfl)
    have hadd : ∀ i j : Nat,(((⟨b,o,none⟩ : Addr).add i).add j) = ⟨b,o + i + j,none⟩ := fun i j => by
      unfold Addr.add; split <;> split <;> simp_all
    obtain ⟨L,hL,hp⟩ := exists_rows (p := fun i (r : A11) => A11At W b (o + i * 3) r) len fun i hil => by
      obtain ⟨v0,v1,v2,hc,⟨_,_,t0⟩,⟨_,y1,t1⟩,⟨_,y2,t2⟩⟩ := each i hil
      have hs := hspot (by omega)
      subst hs
      obtain ⟨T0,e0,_,w0⟩ := DataW.trod_int Tryz.underlying3 t0
      obtain ⟨T1,e1,_,w1⟩ := DataW.trod_int Tryz.underlying3 t1
      obtain ⟨T2,e2,_,w2⟩ := DataW.trod_int Tryz.underlying5 t2
      simp at e0 e1 e2
      subst e0 e1 e2
      have h1 : IntKind.u8.max = 255 := by decide
      have h2 : IntKind.u8.min = 0 := by decide
      simp only [Lit.wf,h1,h2,Bool.and_eq_true,decide_eq_true_eq] at w2
      have k0 := hc 0 _ rfl
      have k1 := hc 1 _ rfl
      have k2 := hc 2 _ rfl
      rw [hadd] at k0 k1 k2
      exact ⟨⟨T0,T1,T2⟩,k0,k1,k2,by show 0≤T2; omega,by show T2≤255; omega,bounds_i64' w0,bounds_i64' w1⟩
    refine ⟨L,some ⟨b,o,spot⟩,cap,by rw [hL],by rw [hL]; omega,fun hne => ?_⟩
    have hpos : 0 < len := by rw [← hL]; exact List.length_pos_iff.2 hne
    have hs := hspot hpos
    subst hs
    refine ⟨b,o,rfl,?_,fun j r hr => hp j r hr⟩
    obtain ⟨v0,_,_,hc0,_⟩ := each 0 hpos
    have := World.block_lt_of_cell? _ _ (hc0 0 v0 rfl)
    rw [hadd] at this
    exact this
theorem iand7 (n : Int) : bits .and .i64 n 7 = n % 8 := by
  have h15 : (BitVec.ofInt 64 7).toNat = 2 ^ 3 - 1 := by decide
  have key : (BitVec.ofInt 64 n &&& BitVec.ofInt 64 7).toNat = (n % ((2 ^ 64 : Nat) : Int)).toNat % 2 ^ 3 := by
    rw [BitVec.toNat_and,BitVec.toNat_ofInt,h15,Nat.and_two_pow_sub_one_eq_mod]
  show IntKind.i64.wrap ((BitVec.ofInt 64 n &&& BitVec.ofInt 64 7).toNat : Nat) = n % 8
  rw [key,IntKind.wrap_i64]
  omega
end Go.Proofs.YtnnmpaenainogaaGreat

namespace Go.Proofs.YtnnmpaenainogaaGreat
open Go.RowKit Go.Maps
abbrev KH (t : Option TypeId) : Prop := t = some 34
theorem cells2H {w : World} {q : Nat} {x0 x1 : Value} (h : w.heap[q]? = some (.cells #[x0,x1] 34 (0,0))) : w.cell? ⟨q,0,none⟩ = some x0∧w.cell? ⟨q,1,none⟩ = some x1∧w.frozen? ⟨q,0,none⟩ = false∧w.frozen? ⟨q,1,none⟩ = false := by
  refine ⟨?_,?_,?_,?_⟩ <;> simp [World.cell?,World.frozen?,h]
def HB (w : World) (q : Nat) (ps : List Nat) (fs : List Int) : Prop := ∃ pa pc fa fc,w.heap[q]? = some (.cells #[.slice pa ps.length pc,.slice fa ps.length fc] 34 (0,0))∧HV w (.slice pa ps.length pc) (.slice fa ps.length fc) ps fs
theorem HB.kfr {P : Option TypeId→Prop} {B q : Nat} {w w' : World} {ps : List Nat} {fs : List Int} (h : HB w q ps fs) (k : Kfr P B w w') (h0 : ¬ P (some 34)) (h1 : ¬ P (some 42)) (h2 : ¬ P (some 5)) : HB w' q ps fs := by
  obtain ⟨pa,pc,fa,fc,hb,hv⟩ := h
  exact ⟨pa,pc,fa,fc,k.cells hb h0,hv.kfr k h1 h2⟩
theorem HB.lt {q : Nat} {w : World} {ps : List Nat} {fs : List Int} (h : HB w q ps fs) : q < w.heap.size := by
  obtain ⟨pa,pc,fa,fc,hb,_⟩ := h
  exact lt_of_block hb
theorem HB.ek {q : Nat} {w : World} {ps : List Nat} {fs : List Int} (h : HB w q ps fs) : Proofs.YtnnmpaenainogaaGreat.ek w q = some 34 := by
  obtain ⟨pa,pc,fa,fc,hb,_⟩ := h
  exact ek_of hb
theorem HB.cells {q : Nat} {w : World} {ps : List Nat} {fs : List Int} (h : HB w q ps fs) : ∃ pa pc fa fc,w.cell? ⟨q,0,none⟩ = some (.slice pa ps.length pc)∧w.cell? ⟨q,1,none⟩ = some (.slice fa ps.length fc)∧w.frozen? ⟨q,0,none⟩ = false∧w.frozen? ⟨q,1,none⟩ = false∧HV w (.slice pa ps.length pc) (.slice fa ps.length fc) ps fs := by
  obtain ⟨pa,pc,fa,fc,hb,hv⟩ := h
  obtain ⟨a,b,c,d⟩ := cells2H hb
  exact ⟨pa,pc,fa,fc,a,b,c,d,hv⟩
abbrev setH (w : World) (q : Nat) (a b : Value) : World := (w.setCell ⟨q,0,none⟩ a).setCell ⟨q,1,none⟩ b
theorem setH_at {w : World} {q : Nat} {x0 x1 : Value} (h : w.heap[q]? = some (.cells #[x0,x1] 34 (0,0))) (a b : Value) : (setH w q a b).heap[q]? = some (.cells #[a,b] 34 (0,0)) := store2 h a b
theorem setH_row (w : World) (q : Nat) (a b : Value) : w.grownBy (setH w q a b) (some q) := gtrans (gset w ⟨q,0,none⟩ a) (gset _ ⟨q,1,none⟩ b)
theorem setH_kfr {w : World} {q : Nat} (h : Proofs.YtnnmpaenainogaaGreat.ek w q = some 34) (a b : Value) : Kfr KH 0 w (setH w q a b) := Kfr.row (setH_row w q a b) (Nat.zero_le _) h
theorem HB.put {q : Nat} {w : World} {ps qs : List Nat} {fs gs : List Int} {pa fa : Option Addr} {pc fc : Nat} (h : HB w q ps fs) (k : HV w (.slice pa qs.length pc) (.slice fa qs.length fc) qs gs) : HB (setH w q (.slice pa qs.length pc) (.slice fa qs.length fc)) q qs gs := by
  obtain ⟨_,_,_,_,hb,_⟩ := h
  exact ⟨pa,pc,fa,fc,setH_at hb _ _,k.kfr (setH_kfr (ek_of hb) _ _) (by decide) (by decide)⟩
theorem HB.off {q q' : Nat} {w : World} {ps : List Nat} {fs : List Int} (h : HB w q ps fs) (hk : Proofs.YtnnmpaenainogaaGreat.ek w q' = some 34) (hne : q≠q') (a b : Value) : HB (setH w q' a b) q ps fs := by
  obtain ⟨pa,pc,fa,fc,hb,hv⟩ := h
  exact ⟨pa,pc,fa,fc,((setH_row w q' a b).block q (lt_of_block hb) (by simpa using hne)).trans hb,hv.kfr (setH_kfr hk a b) (by decide) (by decide)⟩
section
variable {B d f t lim c y : Nat} {w w' : World} {F : FV} {H O I : List Nat} {fh fo fi : List Int}
theorem KI.held {B' : Nat} (h : KI B d f t w lim c y F H O I fh fo fi) (k : Kfr KH B' w w') : KI B d f t w' lim c y F H O I fh fo fi := by
  obtain ⟨x,o,M,rs,D,T,V,E,h1,h2⟩ := h
  exact ⟨x,o,M,rs,D,T,V,E,⟨h1.ls.kfr k (by decide) (by decide) (by decide) (by decide) (by decide) (by decide) (by decide),h1.tx.kfr k (by decide),h1.dr.kfr k (by decide) (by decide) (by decide) (by decide) (by decide) (by decide),h1.ch⟩,h2⟩
theorem KF.held {B' : Nat} (h : KF B d f w lim c y F H O fh fo) (k : Kfr KH B' w w') : KF B d f w' lim c y F H O fh fo := by
  obtain ⟨M,rs,D,h1,h2⟩ := h
  exact ⟨M,rs,D,h1.kfr k (by decide) (by decide) (by decide) (by decide) (by decide) (by decide) (by decide),h2⟩
end
structure Q3 (W w : World) (qn qo qi : Nat) (H O I : List Nat) (fh fo fi : List Int) : Prop where
  n : HB w qn H fh
  o : HB w qo O fo
  i : HB w qi I fi
  ne : qn≠qo∧qn≠qi∧qo≠qi
  le : W.heap.size≤qn∧W.heap.size≤qo∧W.heap.size≤qi
  g : Kfr KT W.heap.size W w
section
variable {W w w' : World} {qn qo qi : Nat} {H O I : List Nat} {fh fo fi : List Int}
theorem Q3.kfr {P : Option TypeId→Prop} (h : Q3 W w qn qo qi H O I fh fo fi) (k : Kfr P W.heap.size w w') (h0 : ¬ P (some 34)) (h1 : ¬ P (some 42)) (h2 : ¬ P (some 5)) : Q3 W w' qn qo qi H O I fh fo fi :=
  ⟨h.n.kfr k h0 h1 h2,h.o.kfr k h0 h1 h2,h.i.kfr k h0 h1 h2,h.ne,h.le,h.g.trans k.any⟩
theorem Q3.new (h : Q3 W w qn qo qi H O I fh fo fi) (k : w.grownBy w' none) : Q3 W w' qn qo qi H O I fh fo fi := h.kfr (P := fun _ => False) (Kfr.of k) (by simp) (by simp) (by simp)
theorem Q3.ks (h : Q3 W w qn qo qi H O I fh fo fi) (k : Kfr KS W.heap.size w w') : Q3 W w' qn qo qi H O I fh fo fi := h.kfr k (not_KS (by decide)) (not_KS (by decide)) (not_KS (by decide))
theorem Q3.kd (h : Q3 W w qn qo qi H O I fh fo fi) (k : Kfr KD W.heap.size w w') : Q3 W w' qn qo qi H O I fh fo fi := h.kfr k (not_KD (by decide)) (not_KD (by decide)) (not_KD (by decide))
theorem Q3.kct (h : Q3 W w qn qo qi H O I fh fo fi) (k : Kfr KCT W.heap.size w w') : Q3 W w' qn qo qi H O I fh fo fi := h.kfr k (not_KCT (by decide)) (not_KCT (by decide)) (not_KCT (by decide))
theorem setH_kt (h : W.heap.size≤qi) (a b : Value) : Kfr KT W.heap.size w (setH w qi a b) := Kfr.row (setH_row w qi a b) h trivial
theorem Q3.putI {I' : List Nat} {fi' : List Int} {pa fa : Option Addr} {pc fc : Nat} (h : Q3 W w qn qo qi H O I fh fo fi) (k : HV w (.slice pa I'.length pc) (.slice fa I'.length fc) I' fi') : Q3 W (setH w qi (.slice pa I'.length pc) (.slice fa I'.length fc)) qn qo qi H O I' fh fo fi' :=
  ⟨h.n.off h.i.ek h.ne.2.1 _ _,h.o.off h.i.ek h.ne.2.2 _ _,h.i.put k,h.ne,h.le,h.g.trans (setH_kt h.le.2.2 _ _)⟩
theorem Q3.putN {H' : List Nat} {fh' : List Int} {pa fa : Option Addr} {pc fc : Nat} (h : Q3 W w qn qo qi H O I fh fo fi) (k : HV w (.slice pa H'.length pc) (.slice fa H'.length fc) H' fh') : Q3 W (setH w qn (.slice pa H'.length pc) (.slice fa H'.length fc)) qn qo qi H' O I fh' fo fi :=
  ⟨h.n.put k,h.o.off h.n.ek (Ne.symm h.ne.1) _ _,h.i.off h.n.ek (Ne.symm h.ne.2.1) _ _,h.ne,h.le,h.g.trans (setH_kt h.le.1 _ _)⟩
theorem Q3.putO {O' : List Nat} {fo' : List Int} {pa fa : Option Addr} {pc fc : Nat} (h : Q3 W w qn qo qi H O I fh fo fi) (k : HV w (.slice pa O'.length pc) (.slice fa O'.length fc) O' fo') : Q3 W (setH w qo (.slice pa O'.length pc) (.slice fa O'.length fc)) qn qo qi H O' I fh fo' fi :=
  ⟨h.n.off h.o.ek h.ne.1 _ _,h.o.put k,h.i.off h.o.ek (Ne.symm h.ne.2.2) _ _,h.ne,h.le,h.g.trans (setH_kt h.le.2.1 _ _)⟩
end
end Go.Proofs.YtnnmpaenainogaaGreat

namespace Go.Proofs.YtnnmpaenainogaaGreat
open Go.RowKit Go.Maps
def blk (n : Nat) : Code→Option Code
  | .loop c => blk n c
  | .seq a b => match blk n a with
    | some c => some c
    | none => blk n b
  | .block k c => if k = n then some (.block k c) else blk n c
  | .scope c => blk n c
  | .cond _ a b => match blk n a with
    | some c => some c
    | none => blk n b
  | _ => none
def kT : Code→Code
  | .cond _ a _ => a
  | c => c
def kF : Code→Code
  | .cond _ _ b => b
  | c => c
theorem HV.one {w : World} {pa fa : Option Addr} {pn pc fn fc : Nat} {ps : List Nat} {fs : List Int} (h : HV w (.slice pa pn pc) (.slice fa fn fc) ps fs) : pn = ps.length∧fn = ps.length := ⟨(own_src h.p.1).2.1.symm,(own_src h.f).2.1.symm⟩
def ActB (w : World) (q : Nat) (a : A11) : Prop := w.heap[q]? = some (.cells #[.int .i64 a.kind,.int .i64 a.n,.int .u8 a.fill] 40 (0,0))
theorem ActB.new {w w' : World} {q : Nat} {a : A11} (h : ActB w q a) (g : w.grownBy w' none) : ActB w' q a := (g.block q (lt_of_block h) (by simp)).trans h
theorem and1023 (n : Int) : bits .and .i64 n 1023 = n % 1024 := by
  have h15 : (BitVec.ofInt 64 1023).toNat = 2 ^ 10 - 1 := by decide
  have key : (BitVec.ofInt 64 n &&& BitVec.ofInt 64 1023).toNat = (n % ((2 ^ 64 : Nat) : Int)).toNat % 2 ^ 10 := by
    rw [BitVec.toNat_and,BitVec.toNat_ofInt,h15,Nat.and_two_pow_sub_one_eq_mod]
  show IntKind.i64.wrap ((BitVec.ofInt 64 n &&& BitVec.ofInt 64 1023).toNat : Nat) = n % 1024
  rw [key,IntKind.wrap_i64]
  omega
abbrev mtV (t e m f : Nat) : Value := .agg #[.int .u64 (t : Int),.int .u32 (e : Int),.int .u32 (m : Int),.int .u32 (f : Int)]
theorem ki_metaV {B d f lim c y : Nat} {w : World} {F : FV} {H O : List Nat} {fh fo : List Int} (h : KF B d f w lim c y F H O fh fo) : Calls Tryz.prog 18 #[.pointer (some ⟨f,0,none⟩)] w fun r w' => r = .returned (mtV F.mt.t F.mt.e F.mt.m F.mt.f)∧w.grownBy w' none := ki_meta h
abbrev nilH : Obj := .cells #[.slice none 0 0,.slice none 0 0] 34 (0,0)
theorem hb_nil {w : World} {q : Nat} (h : w.heap[q]? = some nilH) : HB w q [] [] := ⟨none,0,none,0,h,hv_nil w⟩
end Go.Proofs.YtnnmpaenainogaaGreat

namespace Go.Proofs.YtnnmpaenainogaaGreat
open Go.RowKit Go.Maps
structure LN (B d f t x : Nat) (w : World) (S lim c o : Nat) (M : SM) (F : FV) (rs : List Rc) (H : List Nat) (D : Nat→List Int) (T : TV) (V : Nat→Nat) (I : List Nat) (E : Nat→List Int) : Prop where
  pd : PD B w d M
  fl : FileAt B w f d F
  re : Rest S lim c M F rs H D
  tx : TxnAt B w t f (some x)
  dr : DraftAt B w x S T
  ch : Chg S lim o F rs H D T V I E
section
variable {B d f t x S lim c o : Nat} {w w' : World} {M : SM} {F : FV} {rs : List Rc} {H I : List Nat} {D E : Nat→List Int} {T : TV} {V : Nat→Nat}
theorem LT.ln (h : LT B d f t x w S lim c o M F rs H D T V I E) : LN B d f t x w S lim c o M F rs H D T V I E := ⟨h.ls.pd,h.ls.fl,h.ls.re,h.tx,h.dr,h.ch⟩
theorem LN.new (h : LN B d f t x w S lim c o M F rs H D T V I E) (k : w.grownBy w' none) : LN B d f t x w' S lim c o M F rs H D T V I E := ⟨h.pd.new k,h.fl.new k,h.re,h.tx.new k,h.dr.new k,h.ch⟩
theorem ln_new {b0 cc : Nat} {ao : Option Addr} {b : List Int} (h : LN B d f t x w S lim c o M F rs H D T V I E) (hs : Own8 b0 w S (.slice ao S cc) b) (hb : Byt b) :
    Calls Tryz.prog 19 #[.pointer (some ⟨t,0,none⟩),.slice ao S cc] w fun r w' => r = .returned (.tuple #[.int .u32 ((newT T b).2.1 : Int),.int .i64 (newT T b).2.2])∧Kfr KS B w w' ∧
      (((newT T b).2.2 = 0∧(newT T b).2.1 ∉ I∧LN B d f t x w' S lim c o M F rs H D (newT T b).1 (upd V (newT T b).2.1 3) (I++[(newT T b).2.1]) (updC E (newT T b).2.1 b)) ∨
       ((newT T b).2.2 = 21∧(newT T b).2.1 = 0∧LN B d f t x w' S lim c o M F rs H D T V I E)) := by
  refine (tnew_law h.tx h.dr h.fl h.pd h.re h.ch hs).mono ?_
  rintro r w' ⟨rfl,hd,hk⟩
  have hl : b.length = S := Own8.len hs
  have htx : TxnAt B w' t f (some x) := h.tx.kfr hk (not_KS (by decide))
  have hpd : PD B w' d M := h.pd.kfr hk (not_KS (by decide)) (not_KS (by decide)) (not_KS (by decide)) (not_KS (by decide))
  have hfl : FileAt B w' f d F := h.fl.kfr hk (not_KS (by decide)) (not_KS (by decide)) (not_KS (by decide))
  refine ⟨rfl,hk,?_⟩
  rcases chg_new h.re h.ch hb hl with ⟨a1,a2,a3,a4,a5,a6,a7⟩ | ⟨a1,a2,a3,a4,a5⟩
  · exact .inl ⟨a1,a2,hpd,hfl,h.re,htx,hd,a7⟩
  · rw [a3] at hd
    exact .inr ⟨a1,a2,hpd,hfl,h.re,htx,hd,h.ch⟩
theorem ln_free {p : Nat} (h : LN B d f t x w S lim c o M F rs H D T V I E) (hp : p∈I) {I' : List Nat} (hn : I'.Nodup) (hI : ∀ q,q∈I'↔q∈I∧q≠p) (y : Int) (hy : y = (p : Int)) :
    Calls Tryz.prog 22 #[.pointer (some ⟨t,0,none⟩),.int .u32 y] w fun r w' => r = .returned (.int .i64 0)∧Kfr KS B w w'∧∃ v,LN B d f t x w' S lim c o M F rs H D (freeT T p).1 (upd V p v) I' E := by
  subst hy
  have h3 := Chg.lt h.re h.ch p hp
  have hl := h.re.l1
  have hen : T.sp.en≤lim := h.ch.c.g.en2
  refine (tfree_any h.tx h.dr (by omega)).mono ?_
  rintro r w' ⟨rfl,hd,hk⟩
  obtain ⟨e0,eg,v,hv,hc⟩ := chg_free h.re h.ch hp hn hI
  rw [e0]
  exact ⟨rfl,hk,v,h.pd.kfr hk (not_KS (by decide)) (not_KS (by decide)) (not_KS (by decide)) (not_KS (by decide)),h.fl.kfr hk (not_KS (by decide)) (not_KS (by decide)) (not_KS (by decide)),h.re,h.tx.kfr hk (not_KS (by decide)),hd,hc⟩
end
def KE (B d f : Nat) (w : World) (lim c : Nat) (F : FV) (H : List Nat) (fh : List Int) : Prop :=
  ∃ M rs D,PD B w d M∧FileAt B w f d F∧Rest 512 lim c M F rs H D∧Fil D H fh
def KN (B d f t : Nat) (w : World) (lim c : Nat) (F : FV) (H I : List Nat) (fh fi : List Int) : Prop :=
  ∃ x o M rs D T V E,LN B d f t x w 512 lim c o M F rs H D T V I E∧Fil D H fh∧Fil E I fi∧o≤F.mt.t
def PC (B d f : Nat) (w : World) (lim c : Nat) (F : FV) (H G : List Nat) (fh fg : List Int) : Prop :=
  ∃ N,PD B w d N∧FileAt B w f d F∧Wel N c∧F.mt.t≤c + 2∧1≤F.mt.t∧∀ ks,(∃ F1 rs D,Rest 512 lim c (crashM N ks) F1 rs H D∧Fil D H fh∧F1.mt.t = F.mt.t)∨∃ F1 rs D,Rest 512 lim c (crashM N ks) F1 rs G D∧Fil D G fg∧F.mt.t < F1.mt.t
section
variable {B d f t lim c : Nat} {w w' : World} {F : FV} {H I G : List Nat} {fh fi fg : List Int}
theorem KI.kn {y : Nat} {O : List Nat} {fo : List Int} (h : KI B d f t w lim c y F H O I fh fo fi) : KN B d f t w lim c F H I fh fi := by
  obtain ⟨x,o,M,rs,D,T,V,E,h1,h2,h3,h4,h5,h6,h7,h8⟩ := h
  exact ⟨x,o,M,rs,D,T,V,E,h1.ln,h2,h3,h6⟩
theorem KN.new (h : KN B d f t w lim c F H I fh fi) (k : w.grownBy w' none) : KN B d f t w' lim c F H I fh fi := by
  obtain ⟨x,o,M,rs,D,T,V,E,h1,h2⟩ := h
  exact ⟨x,o,M,rs,D,T,V,E,h1.new k,h2⟩
theorem PC.new (h : PC B d f w lim c F H G fh fg) (k : w.grownBy w' none) : PC B d f w' lim c F H G fh fg := by
  obtain ⟨N,h1,h2,h3⟩ := h
  exact ⟨N,h1.new k,h2.new k,h3⟩
theorem KN.ke (h : KN B d f t w lim c F H I fh fi) : KE B d f w lim c F H fh := by
  obtain ⟨x,o,M,rs,D,T,V,E,h1,h2,_⟩ := h
  exact ⟨M,rs,D,h1.pd,h1.fl,h1.re,h2⟩
theorem KE.pc (h : KE B d f w lim c F H fh) (G : List Nat) (fg : List Int) : PC B d f w lim c F H G fh fg := by
  obtain ⟨M,rs,D,h1,h2,h3,h4⟩ := h
  exact ⟨M,h1,h2,h3.wel,by have := h3.tb; omega,h3.t1,fun ks => .inl ⟨F,rs,D,h3.crash ks,h4,rfl⟩⟩
theorem KE.held {B' : Nat} (h : KE B d f w lim c F H fh) (k : Kfr KH B' w w') : KE B d f w' lim c F H fh := by
  obtain ⟨M,rs,D,h1,h2,h3⟩ := h
  exact ⟨M,rs,D,h1.kfr k (by decide) (by decide) (by decide) (by decide),h2.kfr k (by decide) (by decide) (by decide),h3⟩
theorem PC.held {B' : Nat} (h : PC B d f w lim c F H G fh fg) (k : Kfr KH B' w w') : PC B d f w' lim c F H G fh fg := by
  obtain ⟨N,h1,h2,h3⟩ := h
  exact ⟨N,h1.kfr k (by decide) (by decide) (by decide) (by decide),h2.kfr k (by decide) (by decide) (by decide),h3⟩
theorem KN.held {B' : Nat} (h : KN B d f t w lim c F H I fh fi) (k : Kfr KH B' w w') : KN B d f t w' lim c F H I fh fi := by
  obtain ⟨x,o,M,rs,D,T,V,E,h1,h2⟩ := h
  exact ⟨x,o,M,rs,D,T,V,E,⟨h1.pd.kfr k (by decide) (by decide) (by decide) (by decide),h1.fl.kfr k (by decide) (by decide) (by decide),h1.re,h1.tx.kfr k (by decide),h1.dr.kfr k (by decide) (by decide) (by decide) (by decide) (by decide) (by decide),h1.ch⟩,h2⟩
theorem KN.nd (h : KN B d f t w lim c F H I fh fi) : I.Nodup∧∀ p∈I,2≤p∧p < 65536 := by
  obtain ⟨x,o,M,rs,D,T,V,E,h1,_⟩ := h
  refine ⟨by have := h1.ch.c.nd; rw [List.append_nil] at this; exact this,fun p hp => ?_⟩
  have h2 := h1.ch.lt h1.re p hp
  have h3 := (Chg.tkok h1.re h1.ch.c).en
  have h4 := (Chg.tkok h1.re h1.ch.c).lim
  exact ⟨h2.1,by omega⟩
theorem kn_new {b0 cc : Nat} {ao : Option Addr} {x : Int} (h : KN B d f t w lim c F H I fh fi) (hl : fi.length = I.length) (hs : Own8 b0 w 512 (.slice ao 512 cc) (List.replicate 512 x)) (hx0 : 0≤x) (hx1 : x≤255) :
    Calls Tryz.prog 19 #[.pointer (some ⟨t,0,none⟩),.slice ao 512 cc] w fun r w' => ∃ (p : Nat) (e : Int),r = .returned (.tuple #[.int .u32 (p : Int),.int .i64 e])∧p < 65536∧Kfr KS B w w'∧(e = 0∧KN B d f t w' lim c F H (I++[p]) fh (fi++[x])∨e = 21∧KN B d f t w' lim c F H I fh fi) := by
  obtain ⟨q,o,M,rs,D,T,V,E,h1,h2,h3,h4⟩ := h
  refine (ln_new h1 hs (fun z hz => by rw [List.eq_of_mem_replicate hz]; exact ⟨hx0,hx1⟩)).mono ?_
  rintro r w' ⟨rfl,k,hh⟩
  rcases hh with ⟨e1,e2,e7⟩ | ⟨e1,e2,e7⟩
  · generalize hp : (newT T (List.replicate 512 x)).2.1 = p at *
    have hlt : p < 65536 := by
      have h2 := e7.ch.lt e7.re p (by simp)
      have h3 := (Chg.tkok e7.re e7.ch.c).en
      have h4 := (Chg.tkok e7.re e7.ch.c).lim
      omega
    exact ⟨p,0,by rw [e1],hlt,k,.inl ⟨rfl,q,o,M,rs,D,_,_,_,e7,h2,h3.snoc hl e2,h4⟩⟩
  · exact ⟨0,21,by rw [e1,e2],by omega,k,.inr ⟨rfl,q,o,M,rs,D,T,V,E,e7,h2,h3,h4⟩⟩
theorem kn_free {k : Nat} (h : KN B d f t w lim c F H I fh fi) (hk : k < I.length) (z : Int) (hz : z = ((I.getD k 0 : Nat) : Int)) :
    Calls Tryz.prog 22 #[.pointer (some ⟨t,0,none⟩),.int .u32 z] w fun r w' => r = .returned (.int .i64 0)∧Kfr KS B w w'∧KN B d f t w' lim c F H (I.eraseIdx k) fh (fi.eraseIdx k) := by
  have hnd := h.nd.1
  obtain ⟨q,o,M,rs,D,T,V,E,h1,h2,h3,h4⟩ := h
  refine (ln_free h1 (getD_mem hk) (erase_nodup hnd k) (erase_mem hnd hk) z hz).mono ?_
  rintro r w' ⟨rfl,kk,v,e7⟩
  exact ⟨rfl,kk,q,o,M,rs,D,_,_,E,e7,h2,h3.erase hk,h4⟩
theorem pc_begin {N M : SM} {rs : List Rc} {D : Nat→List Int} (hp : PD B w d N) (hf : FileAt B w f d F) (hst : F.st = false) (hR : Rest 512 lim c M F rs H D) (hl : N.limit = lim) (hc : c≤80000) :
    Calls Tryz.prog 17 #[.pointer (some ⟨f,0,none⟩),.int .u64 18446744073709551615] w fun r w' => ∃ t,r = .returned (.tuple #[.pointer (some ⟨t,0,none⟩),.int .i64 0])∧w.grownBy w' none := by
  have hok : Okr F.mt.e rs := hR.inv.ok
  have hg : gatherL F.ps = rs := by rw [hR.ps,gather_flat hok]
  have hl1 := hR.l1
  have he := hR.el
  have ht := hR.tb
  refine (begin_any hf hp hst (o := 18446744073709551615) (by
    rw [hR.ps,flatR_allOf]
    have := nodup_len (okr_nodup hok) (fun y hy => (okr_range hok y hy).2)
    omega) hR.t1 (by omega) (by omega) hR.e2 (by omega) (by omega) (by rw [hg]; exact right_iff.2 hok) 512 (fun _ => []) _ rfl).mono ?_
  rintro r w' ⟨t,x,rfl,_,_,g⟩
  exact ⟨t,rfl,g⟩
theorem ke_begin (h : KE B d f w lim c F H fh) (hc : c≤80000) :
    Calls Tryz.prog 17 #[.pointer (some ⟨f,0,none⟩),.int .u64 18446744073709551615] w fun r w' => ∃ t,r = .returned (.tuple #[.pointer (some ⟨t,0,none⟩),.int .i64 0])∧KN B d f t w' lim c F H H fh fh∧w.grownBy w' none := by
  obtain ⟨M,rs,D,h1,h2,h3,h4⟩ := h
  have hbw : B≤w.heap.size := by have := h1.lt; omega
  refine (begin_law h2 h1 h3 hc (o := 18446744073709551615) (by omega) (fun _ => []) _ rfl).mono ?_
  rintro r w' ⟨t,x,rfl,a,b,g⟩
  exact ⟨t,rfl,⟨x,_,M,rs,D,_,_,D,⟨h1.new g,h2.new g,h3,a.mono hbw,b.mono hbw,chg_begin h3 _ _⟩,h4,h4,by omega⟩,g⟩
theorem kn_commit {main : Nat} (h : KN B d f t w lim c F H I fh fi) (hc : c + lim≤80000) (hm : main = 0∨main∈I) :
    Calls Tryz.prog 24 #[.pointer (some ⟨t,0,none⟩),.int .u32 (main : Int)] w fun r w' => ∃ e,r = .returned (.int .i64 e)∧Kfr KCT B w w' ∧
      ((e = 0∧∃ F' : FV,F'.st = false∧KE B d f w' lim (c + lim + 6) F' I fi) ∨
       ((e = 20∨e = 21)∧∃ N M rs D,PD B w' d N∧FileAt B w' f d F∧F.st = false∧Rest 512 lim (c + lim + 6) M F rs H D∧N.limit = lim∧PC B d f w' lim (c + lim + 6) F H H fh fh) ∨
       (e = 20∧∃ F' : FV,F'.st = true∧F'.mt = F.mt∧PC B d f w' lim (c + lim + 6) F' H I fh fi)) := by
  obtain ⟨x,o,M,rs,D,T,V,E,h1,h2,h3,h4⟩ := h
  have hMr : (((roomI ((512 : Nat) : Int)).toNat : Nat) : Int) = roomI ((512 : Nat) : Int) := by decide
  have ht := h1.re.tb
  have ht1 := h1.re.t1
  have hst := h1.re.st
  refine (tcommit_law h1.tx h1.fl h1.dr h1.pd h1.re h1.ch hc hm hMr _ rfl).mono ?_
  rintro r w' ⟨e,rfl,_,k,sp1,V1,sp,l,_,_,_,ho⟩
  refine ⟨e,rfl,k,?_⟩
  rcases ho with ⟨V',N,q,hcl,hcm,hp,he,hf⟩ | ⟨_,hp,he,hf⟩
  · obtain ⟨p1,p2,p3,p4,p5,p6⟩ := commit_plain h1.re (by omega) h1.ch hcl hMr hm hcm
    by_cases q0 : q = 0
    · subst q0
      rw [if_pos rfl] at he hf
      exact .inl ⟨he,_,rfl,N,_,_,hp,hf,p1 rfl,h3⟩
    · rw [if_neg q0] at he hf
      by_cases q1 : q = 1
      · subst q1
        rw [if_pos rfl] at hf
        have hr := p2 rfl []
        refine .inr (.inl ⟨.inl he,N,_,rs,D,hp,hf,hst,hr,hr.li,N,hp,hf,p5,by omega,ht1,fun ks => .inl ⟨F,rs,D,p2 rfl ks,h2,rfl⟩⟩)
      · rw [if_neg q1] at hf
        refine .inr (.inr ⟨he,{ F with st := true },rfl,rfl,N,hp,hf,p5,by show F.mt.t≤_; omega,ht1,fun ks => ?_⟩)
        rcases p3 q0 ks with hr | hr
        · exact .inl ⟨F,rs,D,hr,h2,rfl⟩
        · refine .inr ⟨_,_,E,hr,h3,?_⟩
          show F.mt.t < T.n
          have := h1.ch.n
          omega
  · have hr := h1.re.mono (show c≤c + lim + 6 by omega)
    exact .inr (.inl ⟨.inr he,M,M,rs,D,hp,hf,hst,hr,hr.li,M,hp,hf,hr.wel,by omega,ht1,fun ks => .inl ⟨F,rs,D,hr.crash ks,h2,rfl⟩⟩)
end
end Go.Proofs.YtnnmpaenainogaaGreat

namespace Go.Proofs.YtnnmpaenainogaaGreat
open Go.RowKit Go.ChangeShapes Go.WideShapes Go.ChangeAt
theorem cBsP : Tryz.prog.cellsOf 32 = 1 := by kernel_rfl
theorem open_rowp {H : Type} {enc : TypeId × Value→H} {W : World} {y : DataW H × List MemPlace} {v : Value} {n : Nat}
    (h : DataW.trod enc Tryz.prog W 0 (fun _ => true) true n 32 [v] = some y) : ∃ a len cap bs,v = .slice a len cap∧Seq W.heap.size W (.slice a len cap) bs∧Byt bs := by
  have h' := h
  rcases open_ints Tryz.underlying32 Tryz.underlying5 c1u8Q h with ⟨hcs,_⟩ | ⟨x,l,c,zs,hcs,_⟩
  · simp at hcs
    subst hcs
    obtain ⟨bs,hs,hb⟩ := open_bytes (d := y.1) (p := y.2) ⟨n,h'⟩
    exact ⟨_,_,_,bs,rfl,hs,hb⟩
  · simp at hcs
    subst hcs
    obtain ⟨bs,hs,hb⟩ := open_bytes (d := y.1) (p := y.2) ⟨n,h'⟩
    exact ⟨_,_,_,bs,rfl,hs,hb⟩
structure RowP where
  a : Option Addr
  n : Nat
  c : Nat
  b : List Int
def RowPAt (w : World) (b o : Nat) (r : RowP) : Prop := w.cell? ⟨b,o,none⟩ = some (.slice r.a r.n r.c)∧Seq w.heap.size w (.slice r.a r.n r.c) r.b∧Byt r.b
def Bss (B : Nat) (w : World) (v : Value) (rs : List RowP) : Prop := ∃ ao c,v = .slice ao rs.length c∧rs.length≤maxLen∧(rs≠[]→∃ b o,ao = some ⟨b,o,none⟩∧b < B∧∀ (j : Nat) r,rs[j]? = some r→RowPAt w b (o + j) r)
theorem Bss.len {B : Nat} {w : World} {ao : Option Addr} {n c : Nat} {rs : List RowP} (h : Bss B w (.slice ao n c) rs) : n = rs.length∧n≤maxLen := by
  obtain ⟨ao',c',hv,h1,_⟩ := h
  cases hv
  exact ⟨rfl,h1⟩
theorem Bss.at {B : Nat} {w : World} {ao : Option Addr} {n c : Nat} {rs : List RowP} (h : Bss B w (.slice ao n c) rs) (k : Nat) (r : RowP) (hr : rs[k]? = some r) : ∃ b o,ao = some ⟨b,o,none⟩∧b < B∧RowPAt w b (o + k) r := by
  obtain ⟨ao',c',hv,h1,h2⟩ := h
  cases hv
  obtain ⟨b,o,e,hb,hc⟩ := h2 (fun e => by rw [e] at hr; simp at hr)
  exact ⟨b,o,e,hb,hc k r hr⟩
theorem open_bss {H : Type} {enc : TypeId × Value→H} {W : World} {d : DataW H} {p : List MemPlace} {a : Option Addr} {len cap : Nat}
    (h : ∃ fuel,DataW.trod enc Tryz.prog W 0 (fun _ => true) true fuel 55 [.slice a len cap] = some (d,p)) : ∃ rs,Bss W.heap.size W (.slice a len cap) rs := by
  obtain ⟨fuel,hf⟩ := h
  rcases Go.Deep.open_slice Tryz.underlying55 hf with ⟨hcs,_⟩ | ⟨x,l,c,m,n,D,Pl,hcs,_,hl,hm,hmm,hx,hi⟩
  · simp at hcs
    obtain ⟨rfl,rfl,rfl⟩ := hcs
    exact ⟨[],none,0,rfl,by simp [maxLen],fun h => absurd rfl h⟩
  · simp at hcs
    obtain ⟨rfl,rfl,rfl⟩ := hcs
    have hmc : m = cap := by simpa using hmm
    rw [cBsP] at hi
    have each : ∀ i,i < len→∃ r : RowP,W.cell? (x.add (i * 1)) = some (.slice r.a r.n r.c)∧Seq W.heap.size W (.slice r.a r.n r.c) r.b∧Byt r.b := by
      intro i hil
      obtain ⟨cs',hc,htr⟩ := hi i (by omega)
      obtain ⟨_,hcl,hat⟩ := World.cells?_some hc
      match cs',hcl with
      | [v0],_ =>
        obtain ⟨a0,l0,c0,bs,rfl,h1,h2⟩ := open_rowp htr
        refine ⟨⟨a0,l0,c0,bs⟩,?_,h1,h2⟩
        have := hat 0 (by decide)
        simpa [Addr.add] using this
    obtain ⟨b,o,spot⟩ := x
    have hspot : 0 < len→spot = none := fun hp => by
      obtain ⟨r,hc0,_⟩ := each 0 hp
      simpa [Addr.add] using World.cell?_spot hc0
    obtain ⟨L,hL,hp⟩ := exists_rows (p := fun i (r : RowP) => RowPAt W b (o + i) r) len fun i hil => by
      obtain ⟨r,h1,h2,h3⟩ := each i hil
      have hs := hspot (by omega)
      subst hs
      have hadd : ((⟨b,o,none⟩ : Addr).add (i * 1)) = ⟨b,o + i,none⟩ := by rw [Nat.mul_one]; unfold Addr.add; split <;> simp_all
      rw [hadd] at h1
      exact ⟨r,h1,h2,h3⟩
    refine ⟨L,some ⟨b,o,spot⟩,cap,by rw [hL],by rw [hL]; omega,fun hne => ?_⟩
    have hpos : 0 < len := by rw [← hL]; exact List.length_pos_iff.2 hne
    have hs := hspot hpos
    subst hs
    refine ⟨b,o,rfl,?_,fun j r hr => hp j r hr⟩
    obtain ⟨r,hc0,_⟩ := each 0 hpos
    have := World.block_lt_of_cell? _ _ hc0
    simpa [Addr.add] using this
end Go.Proofs.YtnnmpaenainogaaGreat

namespace Go.Proofs.YtnnmpaenainogaaGreat
open Go.RowKit Go.Maps
def PAo (B d f : Nat) (w : World) (lim c : Nat) (H G I : List Nat) (fh fg fi : List Int) (g e : Int) (tv : Value) : Prop :=
  (g = 0∧e = 0∧∃ t F,tv = .pointer (some ⟨t,0,none⟩)∧KN B d f t w lim c F H I fh fi)∨(g≠0∧∃ F,PC B d f w lim c F H G fh fg)
def KR (B d : Nat) (w : World) (lim c : Nat) (F : FV) (H : List Nat) (fh : List Int) : Prop := ∃ N rs D,PD B w d N∧N.fails = false∧Rest 512 lim c N F rs H D∧Fil D H fh
abbrev Y64 : Nat := 18446744073709551615
abbrev KA (B d f : Nat) (w : World) (lim c : Nat) (F : FV) (H : List Nat) (fh : List Int) : Prop := KF B d f w lim c Y64 F H [] fh []
abbrev KB (B d f t : Nat) (w : World) (lim c : Nat) (F : FV) (H I : List Nat) (fh fi : List Int) : Prop := KI B d f t w lim c Y64 F H [] I fh [] fi
section
variable {B d f t lim c : Nat} {w w' : World} {F : FV} {H I G : List Nat} {fh fi fg : List Int}
theorem KN.kb_of {x o : Nat} {M : SM} {rs : List Rc} {D E : Nat→List Int} {T : TV} {V : Nat→Nat} (h : LT B d f t x w 512 lim c o M F rs H D T V I E) (h2 : Fil D H fh) (h3 : Fil E I fi) (h4 : o≤F.mt.t) : KB B d f t w lim c F H I fh fi :=
  ⟨x,o,M,rs,D,T,V,E,h,h2,h3,(by intro p hp; cases hp),.inl rfl,h4,.inl rfl,fil_nil _ _⟩
theorem kn_fail (h : KN B d f t w lim c F H I fh fi) (n : Int) (h1 : -9223372036854775808≤n) (h2 : n≤9223372036854775807) :
    Calls Tryz.prog 28 #[.pointer (some ⟨d,0,none⟩),.int .i64 n] w fun r w' => r = .returned (.tuple #[])∧KN B d f t w' lim c F H I fh fi∧Kfr KD B w w' := by
  obtain ⟨x,o,M,rs,D,T,V,E,k1,k2⟩ := h
  refine (k1.pd.fail n).mono ?_
  rintro r w' ⟨rfl,a,b⟩
  exact ⟨rfl,⟨x,o,_,rs,D,T,V,E,⟨a,k1.fl.dfr b,k1.re.fail n h1 h2,k1.tx.dfr b,k1.dr.dfr b,k1.ch⟩,k2⟩,kfr_dfr b⟩
theorem kn_calm (h : KN B d f t w lim c F H I fh fi) :
    Calls Tryz.prog 28 #[.pointer (some ⟨d,0,none⟩),.int .i64 (-1)] w fun r w' => r = .returned (.tuple #[])∧KB B d f t w' lim c F H I fh fi∧Kfr KD B w w' := by
  obtain ⟨x,o,M,rs,D,T,V,E,k1,k2,k3,k4⟩ := h
  refine (k1.pd.fail (-1)).mono ?_
  rintro r w' ⟨rfl,a,b⟩
  exact ⟨rfl,KN.kb_of ⟨⟨a,k1.fl.dfr b,k1.re.fail (-1) (by decide) (by decide),rfl⟩,k1.tx.dfr b,k1.dr.dfr b,k1.ch⟩ k2 k3 k4,kfr_dfr b⟩
theorem pc_calm (h : PC B d f w lim c F H G fh fg) :
    Calls Tryz.prog 28 #[.pointer (some ⟨d,0,none⟩),.int .i64 (-1)] w fun r w' => r = .returned (.tuple #[])∧PC B d f w' lim c F H G fh fg∧Kfr KD B w w' := by
  obtain ⟨N,h1,h2,h3,h4,h5,h6⟩ := h
  refine (h1.fail (-1)).mono ?_
  rintro r w' ⟨rfl,a,b⟩
  exact ⟨rfl,⟨_,a,h2.dfr b,h3.fail (-1) (by decide) (by decide),h4,h5,h6⟩,kfr_dfr b⟩
theorem pc_meta (h : PC B d f w lim c F H G fh fg) : Calls Tryz.prog 18 #[.pointer (some ⟨f,0,none⟩)] w fun r w' => r = .returned (mtV F.mt.t F.mt.e F.mt.m F.mt.f)∧w.grownBy w' none := by
  obtain ⟨N,h1,h2,_⟩ := h
  exact fmeta_any h2
theorem PC.tb (h : PC B d f w lim c F H G fh fg) : F.mt.t≤c + 2 := by
  obtain ⟨N,h1,h2,h3,h4,_⟩ := h
  exact h4
theorem pc_crash {ka : Option Addr} {kn kc : Nat} {ks : List Int} (h : PC B d f w lim c F H G fh fg) (hc : c≤100000) (hks : Stays B w (.slice ka kn kc) ks) (hby : Byt ks) :
    Calls Tryz.prog 30 #[.pointer (some ⟨d,0,none⟩),.slice ka kn kc] w fun r w' => r = .returned (.tuple #[])∧Kfr KD B w w'∧∃ F1,(KR B d w' lim c F1 H fh∧F1.mt.t = F.mt.t)∨(KR B d w' lim c F1 G fg∧F.mt.t < F1.mt.t) := by
  obtain ⟨N,h1,h2,h3,h4,h5,h6⟩ := h
  refine (h1.crash h3 hc hks hby).mono ?_
  rintro r w' ⟨rfl,a,b⟩
  refine ⟨rfl,kfr_dfr b,?_⟩
  rcases h6 ks with ⟨F1,rs,D,k1,k2,k3⟩ | ⟨F1,rs,D,k1,k2,k3⟩
  · exact ⟨F1,.inl ⟨⟨_,rs,D,a,rfl,k1,k2⟩,k3⟩⟩
  · exact ⟨F1,.inr ⟨⟨_,rs,D,a,rfl,k1,k2⟩,k3⟩⟩
theorem kr_open (h : KR B d w lim c F H fh) (hc : c≤10000) (hl : lim≤290) :
    Calls Tryz.prog 16 #[.pointer (some ⟨d,0,none⟩)] w fun r w' => ∃ g,r = .returned (.tuple #[.pointer (some ⟨g,0,none⟩),.int .i64 0])∧KA B d g w' lim (c + lim + 4) F H fh∧Kfr KD B w w' := by
  obtain ⟨N,rs,D,h1,h2,h3,h4⟩ := h
  have e2 := h3.e2
  have el := h3.el
  have hbw : B≤w.heap.size := by have := h1.lt; omega
  refine (open_any h1 h3.wel hc h2 (by rw [h3.li]; omega) (by rw [h3.li]; exact hl) h3.byd).mono ?_
  rintro r w' hk
  obtain ⟨g,n,hn,rfl,a,b,e,r1⟩ := h3.reopen hk
  have r2 := h3.calm (n := n) h2
  exact ⟨g,rfl,⟨_,rs,D,⟨a,b.mono hbw,r1.mono (by omega),r2⟩,h4,(by intro p hp; cases hp),.inl rfl,fil_nil _ _⟩,kfr_dfr e⟩
theorem ka_again (h : KA B d f w lim c F H fh) (hc : c≤10000) (hl : lim≤290) :
    Calls Tryz.prog 16 #[.pointer (some ⟨d,0,none⟩)] w fun r w' => ∃ g,r = .returned (.tuple #[.pointer (some ⟨g,0,none⟩),.int .i64 0])∧KA B d g w' lim (c + lim + 4) F H fh∧KA B d f w' lim (c + lim + 4) F H fh∧Kfr KD B w w' := by
  obtain ⟨M,rs,D,h1,h2,h3,h4,h5⟩ := h
  refine (law_again h1 hc hl).mono ?_
  rintro r w' ⟨g,M',rfl,a,b,e⟩
  exact ⟨g,rfl,⟨M',rs,D,a,h2,h3,h4,fil_nil _ _⟩,⟨M',rs,D,b,h2,h3,h4,fil_nil _ _⟩,kfr_dfr e⟩
end
structure Q4 (W w : World) (qn qo qi qa : Nat) (a : A11) (H O I : List Nat) (fh fo fi : List Int) : Prop extends Q3 W w qn qo qi H O I fh fo fi where
  act : ActB w qa a
section
variable {W w w' : World} {qn qo qi qa : Nat} {a : A11} {H O I : List Nat} {fh fo fi : List Int}
theorem Q4.kfr {P : Option TypeId→Prop} (h : Q4 W w qn qo qi qa a H O I fh fo fi) (k : Kfr P W.heap.size w w') (h0 : ¬ P (some 34)) (h1 : ¬ P (some 42)) (h2 : ¬ P (some 5)) (h3 : ¬ P (some 40)) : Q4 W w' qn qo qi qa a H O I fh fo fi := ⟨h.toQ3.kfr k h0 h1 h2,k.cells h.act h3⟩
theorem Q4.new (h : Q4 W w qn qo qi qa a H O I fh fo fi) (k : w.grownBy w' none) : Q4 W w' qn qo qi qa a H O I fh fo fi := ⟨h.toQ3.new k,h.act.new k⟩
theorem Q4.ks (h : Q4 W w qn qo qi qa a H O I fh fo fi) (k : Kfr KS W.heap.size w w') : Q4 W w' qn qo qi qa a H O I fh fo fi := h.kfr k (not_KS (by decide)) (not_KS (by decide)) (not_KS (by decide)) (not_KS (by decide))
theorem Q4.kd (h : Q4 W w qn qo qi qa a H O I fh fo fi) (k : Kfr KD W.heap.size w w') : Q4 W w' qn qo qi qa a H O I fh fo fi := h.kfr k (not_KD (by decide)) (not_KD (by decide)) (not_KD (by decide)) (not_KD (by decide))
theorem Q4.kct (h : Q4 W w qn qo qi qa a H O I fh fo fi) (k : Kfr KCT W.heap.size w w') : Q4 W w' qn qo qi qa a H O I fh fo fi := h.kfr k (not_KCT (by decide)) (not_KCT (by decide)) (not_KCT (by decide)) (not_KCT (by decide))
theorem Q4.putI {I' : List Nat} {fi' : List Int} {pa fa : Option Addr} {pc fc : Nat} (h : Q4 W w qn qo qi qa a H O I fh fo fi) (k : HV w (.slice pa I'.length pc) (.slice fa I'.length fc) I' fi') : Q4 W (setH w qi (.slice pa I'.length pc) (.slice fa I'.length fc)) qn qo qi qa a H O I' fh fo fi' :=
  ⟨h.toQ3.putI k,(setH_kfr h.i.ek _ _).cells h.act (by decide)⟩
theorem Q4.putN {H' : List Nat} {fh' : List Int} {pa fa : Option Addr} {pc fc : Nat} (h : Q4 W w qn qo qi qa a H O I fh fo fi) (k : HV w (.slice pa H'.length pc) (.slice fa H'.length fc) H' fh') : Q4 W (setH w qn (.slice pa H'.length pc) (.slice fa H'.length fc)) qn qo qi qa a H' O I fh' fo fi :=
  ⟨h.toQ3.putN k,(setH_kfr h.n.ek _ _).cells h.act (by decide)⟩
theorem Q4.putO {O' : List Nat} {fo' : List Int} {pa fa : Option Addr} {pc fc : Nat} (h : Q4 W w qn qo qi qa a H O I fh fo fi) (k : HV w (.slice pa O'.length pc) (.slice fa O'.length fc) O' fo') : Q4 W (setH w qo (.slice pa O'.length pc) (.slice fa O'.length fc)) qn qo qi qa a H O' I fh fo' fi :=
  ⟨h.toQ3.putO k,(setH_kfr h.o.ek _ _).cells h.act (by decide)⟩
end
def KQ (B d f : Nat) (w : World) (lim c : Nat) (F : FV) (H : List Nat) (fh : List Int) : Prop :=
  ∃ N M rs D,PD B w d N∧FileAt B w f d F∧F.st = false∧Rest 512 lim c M F rs H D∧N.limit = lim∧PC B d f w lim c F H H fh fh
section
variable {B d f t lim c : Nat} {w w' : World} {F : FV} {H I G : List Nat} {fh fi fg : List Int}
theorem KQ.pc (h : KQ B d f w lim c F H fh) : PC B d f w lim c F H H fh fh := by
  obtain ⟨N,M,rs,D,_,_,_,_,_,h6⟩ := h
  exact h6
theorem KQ.new (h : KQ B d f w lim c F H fh) (k : w.grownBy w' none) : KQ B d f w' lim c F H fh := by
  obtain ⟨N,M,rs,D,h1,h2,h3,h4,h5,h6⟩ := h
  exact ⟨N,M,rs,D,h1.new k,h2.new k,h3,h4,h5,h6.new k⟩
theorem KQ.held {B' : Nat} (h : KQ B d f w lim c F H fh) (k : Kfr KH B' w w') : KQ B d f w' lim c F H fh := by
  obtain ⟨N,M,rs,D,h1,h2,h3,h4,h5,h6⟩ := h
  exact ⟨N,M,rs,D,h1.kfr k (by decide) (by decide) (by decide) (by decide),h2.kfr k (by decide) (by decide) (by decide),h3,h4,h5,h6.held k⟩
theorem kq_begin (h : KQ B d f w lim c F H fh) (hc : c≤80000) :
    Calls Tryz.prog 17 #[.pointer (some ⟨f,0,none⟩),.int .u64 18446744073709551615] w fun r w' => ∃ t,r = .returned (.tuple #[.pointer (some ⟨t,0,none⟩),.int .i64 0])∧w.grownBy w' none := by
  obtain ⟨N,M,rs,D,h1,h2,h3,h4,h5,h6⟩ := h
  exact pc_begin h1 h2 h3 h4 h5 hc
theorem kq_stuck (h : KQ B d f w lim c F H fh) : Calls Tryz.prog 29 #[.pointer (some ⟨f,0,none⟩)] w fun r w' => r = .returned (.bool false)∧w.grownBy w' none := by
  obtain ⟨N,M,rs,D,h1,h2,h3,h4,h5,h6⟩ := h
  have := fstuck_any h2
  rw [h3] at this
  exact this
theorem pc_stuck (h : PC B d f w lim c F H G fh fg) (hs : F.st = true) : Calls Tryz.prog 29 #[.pointer (some ⟨f,0,none⟩)] w fun r w' => r = .returned (.bool true)∧w.grownBy w' none := by
  obtain ⟨N,h1,h2,_⟩ := h
  have := fstuck_any h2
  rw [hs] at this
  exact this
theorem pc_bstuck (h : PC B d f w lim c F H G fh fg) (hs : F.st = true) : Calls Tryz.prog 17 #[.pointer (some ⟨f,0,none⟩),.int .u64 18446744073709551615] w fun r w' => r = .returned (.tuple #[.pointer none,.int .i64 34])∧w = w' := by
  obtain ⟨N,h1,h2,_⟩ := h
  exact begin_stuck h2 hs _
theorem PC.t1 (h : PC B d f w lim c F H G fh fg) : 1≤F.mt.t := by
  obtain ⟨N,h1,h2,h3,h4,h5,_⟩ := h
  exact h5
theorem kn_commit2 {main : Nat} (h : KN B d f t w lim c F H I fh fi) (hc : c + lim≤80000) (hm : main = 0∨main∈I) :
    Calls Tryz.prog 24 #[.pointer (some ⟨t,0,none⟩),.int .u32 (main : Int)] w fun r w' => ∃ e,r = .returned (.int .i64 e)∧Kfr KCT B w w' ∧
      ((e = 0∧∃ F' : FV,KE B d f w' lim (c + lim + 6) F' I fi)∨((e = 20∨e = 21)∧KQ B d f w' lim (c + lim + 6) F H fh) ∨
       (e = 20∧∃ F' : FV,F'.st = true∧PC B d f w' lim (c + lim + 6) F' H I fh fi)) := by
  refine (kn_commit h hc hm).mono ?_
  rintro r w' ⟨e,rfl,k,hh⟩
  refine ⟨e,rfl,k,?_⟩
  rcases hh with ⟨e0,F',_,h1⟩ | ⟨e0,N,M,rs,D,h1⟩ | ⟨e0,F',h1,_,h2⟩
  · exact .inl ⟨e0,F',h1⟩
  · exact .inr (.inl ⟨e0,N,M,rs,D,h1⟩)
  · exact .inr (.inr ⟨e0,F',h1,h2⟩)
end
end Go.Proofs.YtnnmpaenainogaaGreat

namespace Go.Proofs.YtnnmpaenainogaaGreat
open Go.RowKit Go.Maps
noncomputable def pcBody : Code := (Tryz.f4.body).getD .skip
noncomputable def pcIn : Code := cL ((blk 1 pcBody).getD .skip)
noncomputable def pcRest : Code := cR (cR (cR (cR pcIn)))
noncomputable def pcAfter : Code := cR pcRest
noncomputable def pcTail : Code := cR (cR pcAfter)
noncomputable def pcCrash : Code := kT (cR (cL (cR pcAfter)))
noncomputable def pcSw : Code := cR (cL ((blk 2 pcBody).getD .skip))
noncomputable def pcNew : Code := kT pcSw
noncomputable def pcFree : Code := kT (cR (kF pcSw))
noncomputable def pcCommit : Code := kF (cR (kF pcSw))
set_option maxRecDepth 1000000 in
set_option maxHeartbeats 8000000 in
theorem pctail_any (W w : World) (d f t qn qm qi qa lim c : Nat) (a : A11) (F : FV) (H G I : List Nat) (fh fg fi : List Int) (h : KB W.heap.size d f t w lim c F H I fh fi) (hq : Q4 W w qn qm qi qa a H G I fh fg fi) (hH : H.length≤60) (hc : c≤70000)
    (u6 u26 u27 u234 u235 u236 u237 u238 u239 u240 u241 u242 u243 u244 u245 u246 u247 u248 u249 u250 v0 v1 v2 v3 v4 v5 v7 v9 v15 v16 v17 v18 v19 v20 v21 v22 v23 v24 v25 v28 v29 v30 v31 v32 v33 v34 v35 v36 v37 v38 v39 v40 v41 v42 v43 v44 v45 v46 v47 v48 v49 v50 v51 v52 v53 v54 v55 v56 v57 v58 v59 v60 v61 v62 v63 v64 v65 v66 v67 v68 v69 v70 v71 v72 v73 v74 v75 v76 v77 v78 v79 v80 v81 v82 v83 v84 v85 v86 v87 v88 v89 v90 v91 v92 v93 v94 v95 v96 v97 v98 v99 v100 v101 v102 v103 v104 v105 v106 v107 v108 v109 v110 v111 v112 v113 v114 v115 v116 v117 v118 v119 v120 v121 v122 v123 v124 v125 v126 v127 v128 v129 v130 v131 v132 v133 v134 v135 v136 v137 v138 v139 v140 v141 v142 v143 v144 v145 v146 v147 v148 v149 v150 v151 v152 v153 v154 v155 v156 v157 v158 v159 v160 v161 v162 v163 v164 v165 v166 v167 v168 v169 v170 v171 v172 v173 v174 v175 v176 v177 v178 v179 v180 v181 v182 v183 v184 v185 v186 v187 v188 v189 v190 v191 v192 v193 v194 v195 v196 v197 v198 v199 v200 v201 v202 v203 v204 v205 v206 v207 v208 v209 v210 v211 v212 v213 v214 v215 v216 v217 v218 v219 v220 v221 v222 v223 v224 v225 v226 v227 v228 v229 v230 v231 v232 v233 : Value) (Kc : Act→World→Prop) (Qc : Exit→Act→World→Prop)
    (hK : ∀ (x6 x26 x27 x234 x235 x236 x237 x238 x239 x240 x241 x242 x243 x244 x245 x246 x247 x248 x249 x250 : Value) (w5 : World),KB W.heap.size d f t w5 lim (c + H.length) F H I fh fi→Q4 W w5 qn qm qi qa a H G I fh fg fi→Qc .normal ⟨#[v0,v1,v2,v3,v4,v5,x6,v7,.pointer (some ⟨d,0,none⟩),v9,.pointer (some ⟨f,0,none⟩),.int .i64 0,.pointer (some ⟨qn,0,none⟩),.pointer (some ⟨t,0,none⟩),.pointer (some ⟨qi,0,none⟩),v15,v16,v17,v18,v19,v20,v21,v22,v23,v24,v25,x26,x27,v28,v29,v30,v31,v32,v33,v34,v35,v36,v37,v38,v39,v40,v41,v42,v43,v44,v45,v46,v47,v48,v49,v50,v51,v52,v53,v54,v55,v56,v57,v58,v59,v60,v61,v62,v63,v64,v65,v66,v67,v68,v69,v70,v71,v72,v73,v74,v75,v76,v77,v78,v79,v80,v81,v82,v83,v84,v85,v86,v87,v88,v89,v90,v91,v92,v93,v94,v95,v96,v97,v98,v99,v100,v101,v102,v103,v104,v105,v106,v107,v108,v109,v110,v111,v112,v113,v114,v115,v116,v117,v118,v119,v120,v121,v122,v123,v124,v125,v126,v127,v128,v129,v130,v131,v132,v133,v134,v135,v136,v137,v138,v139,v140,v141,v142,v143,v144,v145,v146,v147,v148,v149,v150,v151,v152,v153,v154,v155,v156,v157,v158,v159,v160,v161,v162,v163,v164,v165,v166,v167,v168,v169,v170,v171,v172,v173,v174,v175,v176,v177,v178,v179,v180,v181,v182,v183,v184,v185,v186,v187,v188,v189,v190,v191,v192,v193,v194,v195,v196,v197,v198,v199,v200,v201,v202,v203,v204,v205,v206,v207,v208,v209,v210,v211,v212,v213,v214,v215,v216,v217,v218,v219,v220,v221,v222,v223,v224,v225,v226,v227,v228,v229,v230,v231,v232,v233,x234,x235,x236,x237,x238,x239,x240,x241,x242,x243,x244,x245,x246,x247,x248,x249,x250],[]⟩ w5) :
    Code.wp Tryz.prog pcTail Qc ⟨#[v0,v1,v2,v3,v4,v5,u6,v7,.pointer (some ⟨d,0,none⟩),v9,.pointer (some ⟨f,0,none⟩),.int .i64 0,.pointer (some ⟨qn,0,none⟩),.pointer (some ⟨t,0,none⟩),.pointer (some ⟨qi,0,none⟩),v15,v16,v17,v18,v19,v20,v21,v22,v23,v24,v25,u26,u27,v28,v29,v30,v31,v32,v33,v34,v35,v36,v37,v38,v39,v40,v41,v42,v43,v44,v45,v46,v47,v48,v49,v50,v51,v52,v53,v54,v55,v56,v57,v58,v59,v60,v61,v62,v63,v64,v65,v66,v67,v68,v69,v70,v71,v72,v73,v74,v75,v76,v77,v78,v79,v80,v81,v82,v83,v84,v85,v86,v87,v88,v89,v90,v91,v92,v93,v94,v95,v96,v97,v98,v99,v100,v101,v102,v103,v104,v105,v106,v107,v108,v109,v110,v111,v112,v113,v114,v115,v116,v117,v118,v119,v120,v121,v122,v123,v124,v125,v126,v127,v128,v129,v130,v131,v132,v133,v134,v135,v136,v137,v138,v139,v140,v141,v142,v143,v144,v145,v146,v147,v148,v149,v150,v151,v152,v153,v154,v155,v156,v157,v158,v159,v160,v161,v162,v163,v164,v165,v166,v167,v168,v169,v170,v171,v172,v173,v174,v175,v176,v177,v178,v179,v180,v181,v182,v183,v184,v185,v186,v187,v188,v189,v190,v191,v192,v193,v194,v195,v196,v197,v198,v199,v200,v201,v202,v203,v204,v205,v206,v207,v208,v209,v210,v211,v212,v213,v214,v215,v216,v217,v218,v219,v220,v221,v222,v223,v224,v225,v226,v227,v228,v229,v230,v231,v232,v233,u234,u235,u236,u237,u238,u239,u240,u241,u242,u243,u244,u245,u246,u247,u248,u249,u250],[]⟩ w := by
  conv => arg 2; whnf
  have HK := Lib.hid hK
  clear hK
  have HS := Lib.hid h
  have HQ := Lib.hid hq
  clear h hq
  obtain ⟨pa,pc,fa,fc,k0,k1,_,_,hv⟩ := HQ.out.n.cells
  have HV0 := Lib.hid hv
  clear hv
  obtain ⟨nn,hnn⟩ : ∃ n,n = H.length := ⟨_,rfl⟩
  rw [← hnn] at k0 k1 HV0
  have HNN := Lib.hid hnn
  clear hnn
  go_upto_region 64 with (first
    | (go_at_call 26; (with_reducible refine (ki_reads HS.out HV0.out (by omega) (by omega)).mono ?_); rintro r w1 ⟨rfl,hk,hf⟩; have HS1 := Lib.hid hk; have HQ1 := Lib.hid (HQ.out.kd hf); clear hk hf))
  clear k0 k1 HV0 HS HQ
  obtain ⟨pa3,pc3,fa3,fc3,k0,k1,_,_,hv⟩ := HQ1.out.n.cells
  have HV3 := Lib.hid hv
  clear hv
  rw [← HNN.out] at k0 k1 HV3
  go_wp2_with (first
    | (go_at_call 27; (with_reducible refine (ki_whole HS1.out HV3.out).mono ?_); rintro r w4 ⟨rfl,hg⟩; have HS4 := Lib.hid (HS1.out.new hg); have HQ4 := Lib.hid (HQ1.out.new hg); clear hg))
  exact HK.out _ _ _ _ _ _ _ _ _ _ _ _ _ _ _ _ _ _ _ _ w4 HS4.out HQ4.out
end Go.Proofs.YtnnmpaenainogaaGreat

namespace Go.Proofs.YtnnmpaenainogaaGreat
open Go.RowKit Go.Maps
theorem Seq.below' {W w : World} {v : Value} {bs : List Int} (h : Seq W.heap.size W v bs) (k : Kfr KT W.heap.size W w) : Seq W.heap.size w v bs := by
  obtain ⟨ao,c,h1,h2,h3,h4,h5⟩ := h
  refine ⟨ao,c,h1,h2,h3,h4,fun hne => ?_⟩
  obtain ⟨b,o,e,hb,hc⟩ := h5 hne
  exact ⟨b,o,e,hb,fun j hj => (World.cell?_of_block (w := W) (k.block b (by omega) (.inl hb))).trans (hc j hj)⟩
set_option maxRecDepth 1000000 in
set_option maxHeartbeats 8000000 in
theorem pccrash_any (W w : World) (d f qn qm qi qa lim c k : Nat) (a : A11) (ap : Option Addr) (np cp : Nat) (rs : List RowP) (hrs : Bss W.heap.size W (.slice ap np cp) rs) (hkn : k < np) (F : FV) (H G I : List Nat) (fh fg fi : List Int) (h : PC W.heap.size d f w lim c F H G fh fg) (hq : Q4 W w qn qm qi qa a H G I fh fg fi) (hc : c≤9700) (hl : lim≤100)
    (u6 u11 u13 u23 u24 u25 u186 u187 u188 u189 u190 u191 u192 u193 u194 u195 u196 u197 u198 u199 u200 u201 u202 u203 u204 u205 u206 u207 u208 u209 u210 u211 u212 u213 u214 u215 u216 u217 u218 u219 u220 u221 u222 u223 u224 u225 u226 u227 u228 u229 u230 u231 u232 u233 v0 v1 v3 v4 v5 v7 v9 v18 v19 v20 v21 v22 v26 v27 v28 v29 v30 v31 v32 v33 v34 v35 v36 v37 v38 v39 v40 v41 v42 v43 v44 v45 v46 v47 v48 v49 v50 v51 v52 v53 v54 v55 v56 v57 v58 v59 v60 v61 v62 v63 v64 v65 v66 v67 v68 v69 v70 v71 v72 v73 v74 v75 v76 v77 v78 v79 v80 v81 v82 v83 v84 v85 v86 v87 v88 v89 v90 v91 v92 v93 v94 v95 v96 v97 v98 v99 v100 v101 v102 v103 v104 v105 v106 v107 v108 v109 v110 v111 v112 v113 v114 v115 v116 v117 v118 v119 v120 v121 v122 v123 v124 v125 v126 v127 v128 v129 v130 v131 v132 v133 v134 v135 v136 v137 v138 v139 v140 v141 v142 v143 v144 v145 v146 v147 v148 v149 v150 v151 v152 v153 v154 v155 v156 v157 v158 v159 v160 v161 v162 v163 v164 v165 v166 v167 v168 v169 v170 v171 v172 v173 v174 v175 v176 v177 v178 v179 v180 v181 v182 v183 v184 v185 v234 v235 v236 v237 v238 v239 v240 v241 v242 v243 v244 v245 v246 v247 v248 v249 v250 : Value) (Kc : Act→World→Prop) (Qc : Exit→Act→World→Prop)
    (hR : ∀ (tm : Array Value) (w5 : World),tm.getD 6 undef = .bool true→Below W.heap.size W w5→Qc .ret ⟨tm,[]⟩ w5)
    (hK : ∀ (x6 x23 x24 x25 x186 x187 x188 x189 x190 x191 x192 x193 x194 x195 x196 x197 x198 x199 x200 x201 x202 x203 x204 x205 x206 x207 x208 x209 x210 x211 x212 x213 x214 x215 x216 x217 x218 x219 x220 x221 x222 x223 x224 x225 x226 x227 x228 x229 x230 x231 x232 x233 : Value) (w5 : World) (t2 f2 : Nat) (F2 : FV) (H2 : List Nat) (fh2 : List Int),KB W.heap.size d f2 t2 w5 lim (c + lim + lim + 8) F2 H2 H2 fh2 fh2→Q4 W w5 qn qm qi qa a H2 G H2 fh2 fg fh2→(H2 = H∨H2 = G)→Qc .normal ⟨#[v0,v1,.slice ap np cp,v3,v4,v5,x6,v7,.pointer (some ⟨d,0,none⟩),v9,.pointer (some ⟨f2,0,none⟩),.int .i64 0,.pointer (some ⟨qn,0,none⟩),.pointer (some ⟨t2,0,none⟩),.pointer (some ⟨qi,0,none⟩),.int .i64 (k : Int),.pointer (some ⟨qa,0,none⟩),.pointer (some ⟨qm,0,none⟩),v18,v19,v20,v21,v22,x23,x24,x25,v26,v27,v28,v29,v30,v31,v32,v33,v34,v35,v36,v37,v38,v39,v40,v41,v42,v43,v44,v45,v46,v47,v48,v49,v50,v51,v52,v53,v54,v55,v56,v57,v58,v59,v60,v61,v62,v63,v64,v65,v66,v67,v68,v69,v70,v71,v72,v73,v74,v75,v76,v77,v78,v79,v80,v81,v82,v83,v84,v85,v86,v87,v88,v89,v90,v91,v92,v93,v94,v95,v96,v97,v98,v99,v100,v101,v102,v103,v104,v105,v106,v107,v108,v109,v110,v111,v112,v113,v114,v115,v116,v117,v118,v119,v120,v121,v122,v123,v124,v125,v126,v127,v128,v129,v130,v131,v132,v133,v134,v135,v136,v137,v138,v139,v140,v141,v142,v143,v144,v145,v146,v147,v148,v149,v150,v151,v152,v153,v154,v155,v156,v157,v158,v159,v160,v161,v162,v163,v164,v165,v166,v167,v168,v169,v170,v171,v172,v173,v174,v175,v176,v177,v178,v179,v180,v181,v182,v183,v184,v185,x186,x187,x188,x189,x190,x191,x192,x193,x194,x195,x196,x197,x198,x199,x200,x201,x202,x203,x204,x205,x206,x207,x208,x209,x210,x211,x212,x213,x214,x215,x216,x217,x218,x219,x220,x221,x222,x223,x224,x225,x226,x227,x228,x229,x230,x231,x232,x233,v234,v235,v236,v237,v238,v239,v240,v241,v242,v243,v244,v245,v246,v247,v248,v249,v250],[]⟩ w5) :
    Code.wp Tryz.prog pcCrash Qc ⟨#[v0,v1,.slice ap np cp,v3,v4,v5,u6,v7,.pointer (some ⟨d,0,none⟩),v9,.pointer (some ⟨f,0,none⟩),u11,.pointer (some ⟨qn,0,none⟩),u13,.pointer (some ⟨qi,0,none⟩),.int .i64 (k : Int),.pointer (some ⟨qa,0,none⟩),.pointer (some ⟨qm,0,none⟩),v18,v19,v20,v21,v22,u23,u24,u25,v26,v27,v28,v29,v30,v31,v32,v33,v34,v35,v36,v37,v38,v39,v40,v41,v42,v43,v44,v45,v46,v47,v48,v49,v50,v51,v52,v53,v54,v55,v56,v57,v58,v59,v60,v61,v62,v63,v64,v65,v66,v67,v68,v69,v70,v71,v72,v73,v74,v75,v76,v77,v78,v79,v80,v81,v82,v83,v84,v85,v86,v87,v88,v89,v90,v91,v92,v93,v94,v95,v96,v97,v98,v99,v100,v101,v102,v103,v104,v105,v106,v107,v108,v109,v110,v111,v112,v113,v114,v115,v116,v117,v118,v119,v120,v121,v122,v123,v124,v125,v126,v127,v128,v129,v130,v131,v132,v133,v134,v135,v136,v137,v138,v139,v140,v141,v142,v143,v144,v145,v146,v147,v148,v149,v150,v151,v152,v153,v154,v155,v156,v157,v158,v159,v160,v161,v162,v163,v164,v165,v166,v167,v168,v169,v170,v171,v172,v173,v174,v175,v176,v177,v178,v179,v180,v181,v182,v183,v184,v185,u186,u187,u188,u189,u190,u191,u192,u193,u194,u195,u196,u197,u198,u199,u200,u201,u202,u203,u204,u205,u206,u207,u208,u209,u210,u211,u212,u213,u214,u215,u216,u217,u218,u219,u220,u221,u222,u223,u224,u225,u226,u227,u228,u229,u230,u231,u232,u233,v234,v235,v236,v237,v238,v239,v240,v241,v242,v243,v244,v245,v246,v247,v248,v249,v250],[]⟩ w := by
  conv => arg 2; whnf
  have HK := Lib.hid hK
  clear hK
  have HS := Lib.hid h
  have HQ := Lib.hid hq
  have HX := Lib.hid hR
  clear hR
  obtain ⟨r,hr⟩ : ∃ r,rs[k]? = some r := ⟨_,List.getElem?_eq_getElem (by have := hrs.len.1; omega)⟩
  obtain ⟨bp,op,rfl,hbp,hcell0,hseq,hbyt⟩ := hrs.at k r hr
  have hcell : w.cell? ⟨bp,op + k,none⟩ = some (.slice r.a r.n r.c) := (World.cell?_of_block (w := W) (hq.g.block bp (by omega) (.inl hbp))).trans hcell0
  have hknp : (k : Int) < (np : Int) := by omega
  have HT := Lib.hid h.tb
  have HST := Lib.hid (fun (w2 : World) (hk : Kfr KT W.heap.size W w2) => (stays_below (B := W.heap.size) (hseq.below' hk) (Nat.le_refl _) hk.size : Stays W.heap.size w2 (.slice r.a r.n r.c) r.b))
  have HBY := Lib.hid hbyt
  clear h hq hr hcell0 hseq hbyt hrs hkn
  obtain ⟨ra,rn,rc,rb⟩ := r
  by_cases h30 : (30 : Int) < (rn : Int)
  · go_wp2
    exact HX.out _ _ rfl (HQ.out.g.below (Nat.le_refl _))
  · clear HX
    obtain ⟨T,hT⟩ : ∃ T,T = F.mt.t := ⟨_,rfl⟩
    obtain ⟨En,hEn⟩ : ∃ T,T = F.mt.e := ⟨_,rfl⟩
    obtain ⟨Mn,hMn⟩ : ∃ T,T = F.mt.m := ⟨_,rfl⟩
    obtain ⟨Fn,hFn⟩ : ∃ T,T = F.mt.f := ⟨_,rfl⟩
    have HMV := Lib.hid (show mtV F.mt.t F.mt.e F.mt.m F.mt.f = mtV T En Mn Fn by rw [hT,hEn,hMn,hFn])
    have HTT := Lib.hid hT
    have hme := (meta_fields (.int .u64 (T : Int)) (.int .u32 (En : Int)) (.int .u32 (Mn : Int)) (.int .u32 (Fn : Int))).1
    have hT9 : T≤70001 := by have := HT.out; omega
    clear hT hEn hMn hFn
    go_upto_region 52 with (first
      | (go_at_call 18; ((with_reducible refine (pc_meta HS.out).mono ?_); rintro r w1 ⟨rfl,hg⟩; rw [HMV.out]; have hcell1 := (World.cell?_of_block (w := w) (hg.block bp (World.block_lt_of_cell? _ _ hcell) (by simp))).trans hcell; have HS1 := Lib.hid (HS.out.new hg); have HQ1 := Lib.hid (HQ.out.new hg); clear hg)))
    clear hme hcell HS HQ
    go_upto_region 53 with (first
      | (go_at_call 30; ((with_reducible refine (pc_crash HS1.out (by omega) (HST.out _ HQ1.out.g) HBY.out).mono ?_); rintro r w2 ⟨rfl,hf,hh⟩; have HH := Lib.hid hh; have HQ2 := Lib.hid (HQ1.out.kd hf); clear hh hf HS1 HQ1)))
    clear hcell1
    obtain ⟨F2,hh⟩ := HH.out
    clear HH
    rcases hh with ⟨hkr,ht⟩ | ⟨hkr,ht⟩
    · have HR := Lib.hid hkr
      obtain ⟨T3,hT3⟩ : ∃ T,T = F2.mt.t := ⟨_,rfl⟩
      obtain ⟨E3,hE3⟩ : ∃ T,T = F2.mt.e := ⟨_,rfl⟩
      obtain ⟨M3,hM3⟩ : ∃ T,T = F2.mt.m := ⟨_,rfl⟩
      obtain ⟨L3,hL3⟩ : ∃ T,T = F2.mt.f := ⟨_,rfl⟩
      have HFV := Lib.hid (show mtV F2.mt.t F2.mt.e F2.mt.m F2.mt.f = mtV T3 E3 M3 L3 by rw [hT3,hE3,hM3,hL3])
      have hme := (meta_fields (.int .u64 (T3 : Int)) (.int .u32 (E3 : Int)) (.int .u32 (M3 : Int)) (.int .u32 (L3 : Int))).1
      have hTT : ¬ (T : Int) < (T3 : Int) := by have := HTT.out; omega
      clear hkr ht hT3 hE3 hM3 hL3
      go_upto_region 56 with (first
        | (go_at_call 16; ((with_reducible refine (kr_open HR.out (by omega) (by omega)).mono ?_); rintro r w3 ⟨f2,rfl,ha,hf⟩; have HF3 := Lib.hid ha; have HQ3 := Lib.hid (HQ2.out.kd hf); clear ha hf HR HQ2)))
      go_upto_region 58 with (first
        | (go_at_call 18; ((with_reducible refine (ki_metaV HF3.out).mono ?_); rintro r w3' ⟨rfl,hg⟩; rw [HFV.out]; have HF3' := Lib.hid (HF3.out.new hg); have HQ3' := Lib.hid (HQ3.out.new hg); clear hg HF3 HQ3)))
      clear hme HFV hTT
      obtain ⟨pa3',pc3',fa3',fc3',k0,k1,_,_,hv⟩ := HQ3'.out.n.cells
      have HV3' := Lib.hid hv
      obtain ⟨n3',hn3'⟩ : ∃ n,n = (H).length := ⟨_,rfl⟩
      rw [← hn3'] at k0 k1 HV3'
      have HN3' := Lib.hid hn3'
      obtain ⟨_,_,_,_,m0,m1,y0,y1,-⟩ := HQ3'.out.i.cells
      clear hv hn3'
      go_upto_region 59 with fail
      have HF4 := Lib.hid (HF3'.out.held (setH_kfr HQ3'.out.i.ek (.slice pa3' n3' pc3') (.slice fa3' n3' fc3')))
      have HQ4 := Lib.hid (HQ3'.out.putI (by have := HV3'.out; rw [HN3'.out] at this; exact this))
      rw [← HN3'.out] at HQ4
      clear k0 k1 m0 m1 y0 y1 HV3' HF3' HQ3'
      dsimp only [setH] at HF4 HQ4
      generalize hw4 : (w3'.setCell ⟨qi,0,none⟩ (.slice pa3' n3' pc3')).setCell ⟨qi,1,none⟩ (.slice fa3' n3' fc3') = w4 at HF4 HQ4 ⊢
      clear hw4
      go_upto_region 60 with (first
        | (go_at_call 16; ((with_reducible refine (ka_again HF4.out (by omega) (by omega)).mono ?_); rintro r w5 ⟨g2,rfl,ha,hb,hf⟩; have HF5 := Lib.hid hb; have HG5 := Lib.hid ha; have HQ5 := Lib.hid (HQ4.out.kd hf); clear ha hb hf HF4 HQ4)))
      obtain ⟨E2,hE2⟩ : ∃ T,T = F2.mt.e := ⟨_,rfl⟩
      obtain ⟨M2,hM2⟩ : ∃ T,T = F2.mt.m := ⟨_,rfl⟩
      obtain ⟨L2,hL2⟩ : ∃ T,T = F2.mt.f := ⟨_,rfl⟩
      obtain ⟨T2,hT2⟩ : ∃ T,T = F2.mt.t := ⟨_,rfl⟩
      have HFT := Lib.hid (show mtV F2.mt.t F2.mt.e F2.mt.m F2.mt.f = mtV T2 E2 M2 L2 by rw [hE2,hM2,hL2,hT2])
      clear hE2 hM2 hL2 hT2
      go_wp2_with (first
        | (go_at_call 18; ((with_reducible refine (ki_metaV HG5.out).mono ?_); rintro r w6 ⟨rfl,hg⟩; rw [HFT.out]; have HF6 := Lib.hid (HF5.out.new hg); have HQ6 := Lib.hid (HQ5.out.new hg); clear hg HG5 HF5 HQ5))
        | (go_at_call 18; ((with_reducible refine (ki_metaV HF6.out).mono ?_); rintro r w7 ⟨rfl,hg⟩; rw [HFT.out]; have HF7 := Lib.hid (HF6.out.new hg); have HQ7 := Lib.hid (HQ6.out.new hg); clear hg HF6 HQ6))
        | (go_at_call 17; ((with_reducible refine (ki_begin HF7.out (by omega) (by decide) 18446744073709551615 (by decide)).mono ?_); rintro r w8 ⟨t2,rfl,hs,hg⟩; have HS8 := Lib.hid hs; have HQ8 := Lib.hid (HQ7.out.new hg); clear hs hg)))
      exact HK.out _ _ _ _ _ _ _ _ _ _ _ _ _ _ _ _ _ _ _ _ _ _ _ _ _ _ _ _ _ _ _ _ _ _ _ _ _ _ _ _ _ _ _ _ _ _ _ _ _ _ _ _ w8 t2 f2 F2 H fh (HS8.out.mono (by omega)) HQ8.out (.inl rfl)
    · have HR := Lib.hid hkr
      obtain ⟨T3,hT3⟩ : ∃ T,T = F2.mt.t := ⟨_,rfl⟩
      obtain ⟨E3,hE3⟩ : ∃ T,T = F2.mt.e := ⟨_,rfl⟩
      obtain ⟨M3,hM3⟩ : ∃ T,T = F2.mt.m := ⟨_,rfl⟩
      obtain ⟨L3,hL3⟩ : ∃ T,T = F2.mt.f := ⟨_,rfl⟩
      have HFV := Lib.hid (show mtV F2.mt.t F2.mt.e F2.mt.m F2.mt.f = mtV T3 E3 M3 L3 by rw [hT3,hE3,hM3,hL3])
      have hme := (meta_fields (.int .u64 (T3 : Int)) (.int .u32 (E3 : Int)) (.int .u32 (M3 : Int)) (.int .u32 (L3 : Int))).1
      have hTT : (T : Int) < (T3 : Int) := by have := HTT.out; omega
      clear hkr ht hT3 hE3 hM3 hL3
      go_upto_region 56 with (first
        | (go_at_call 16; ((with_reducible refine (kr_open HR.out (by omega) (by omega)).mono ?_); rintro r w3 ⟨f2,rfl,ha,hf⟩; have HF3 := Lib.hid ha; have HQ3 := Lib.hid (HQ2.out.kd hf); clear ha hf HR HQ2)))
      go_upto_region 57 with (first
        | (go_at_call 18; ((with_reducible refine (ki_metaV HF3.out).mono ?_); rintro r w3' ⟨rfl,hg⟩; rw [HFV.out]; have HF3' := Lib.hid (HF3.out.new hg); have HQ3' := Lib.hid (HQ3.out.new hg); clear hg HF3 HQ3)))
      clear hme HFV hTT
      obtain ⟨pa3',pc3',fa3',fc3',k0,k1,_,_,hv⟩ := HQ3'.out.o.cells
      have HV3' := Lib.hid hv
      obtain ⟨n3',hn3'⟩ : ∃ n,n = (G).length := ⟨_,rfl⟩
      rw [← hn3'] at k0 k1 HV3'
      have HN3' := Lib.hid hn3'
      obtain ⟨_,_,_,_,m0,m1,y0,y1,-⟩ := HQ3'.out.n.cells
      clear hv hn3'
      go_upto_region 58 with fail
      have HF9 := Lib.hid (HF3'.out.held (setH_kfr HQ3'.out.n.ek (.slice pa3' n3' pc3') (.slice fa3' n3' fc3')))
      have HQ9 := Lib.hid (HQ3'.out.putN (by have := HV3'.out; rw [HN3'.out] at this; exact this))
      rw [← HN3'.out] at HQ9
      clear k0 k1 m0 m1 y0 y1 HV3' HF3' HQ3'
      dsimp only [setH] at HF9 HQ9
      generalize hw9 : (w3'.setCell ⟨qn,0,none⟩ (.slice pa3' n3' pc3')).setCell ⟨qn,1,none⟩ (.slice fa3' n3' fc3') = w9 at HF9 HQ9 ⊢
      clear hw9
      obtain ⟨pa9,pc9,fa9,fc9,k0,k1,_,_,hv⟩ := HQ9.out.n.cells
      have HV9 := Lib.hid hv
      obtain ⟨n9,hn9⟩ : ∃ n,n = (G).length := ⟨_,rfl⟩
      rw [← hn9] at k0 k1 HV9
      have HN9 := Lib.hid hn9
      obtain ⟨_,_,_,_,m0,m1,y0,y1,-⟩ := HQ9.out.i.cells
      clear hv hn9
      go_upto_region 59 with fail
      have HF4 := Lib.hid (HF9.out.held (setH_kfr HQ9.out.i.ek (.slice pa9 n9 pc9) (.slice fa9 n9 fc9)))
      have HQ4 := Lib.hid (HQ9.out.putI (by have := HV9.out; rw [HN9.out] at this; exact this))
      rw [← HN9.out] at HQ4
      clear k0 k1 m0 m1 y0 y1 HV9 HF9 HQ9
      dsimp only [setH] at HF4 HQ4
      generalize hw4 : (w9.setCell ⟨qi,0,none⟩ (.slice pa9 n9 pc9)).setCell ⟨qi,1,none⟩ (.slice fa9 n9 fc9) = w4 at HF4 HQ4 ⊢
      clear hw4
      go_upto_region 60 with (first
        | (go_at_call 16; ((with_reducible refine (ka_again HF4.out (by omega) (by omega)).mono ?_); rintro r w5 ⟨g2,rfl,ha,hb,hf⟩; have HF5 := Lib.hid hb; have HG5 := Lib.hid ha; have HQ5 := Lib.hid (HQ4.out.kd hf); clear ha hb hf HF4 HQ4)))
      obtain ⟨E2,hE2⟩ : ∃ T,T = F2.mt.e := ⟨_,rfl⟩
      obtain ⟨M2,hM2⟩ : ∃ T,T = F2.mt.m := ⟨_,rfl⟩
      obtain ⟨L2,hL2⟩ : ∃ T,T = F2.mt.f := ⟨_,rfl⟩
      obtain ⟨T2,hT2⟩ : ∃ T,T = F2.mt.t := ⟨_,rfl⟩
      have HFT := Lib.hid (show mtV F2.mt.t F2.mt.e F2.mt.m F2.mt.f = mtV T2 E2 M2 L2 by rw [hE2,hM2,hL2,hT2])
      clear hE2 hM2 hL2 hT2
      go_wp2_with (first
        | (go_at_call 18; ((with_reducible refine (ki_metaV HG5.out).mono ?_); rintro r w6 ⟨rfl,hg⟩; rw [HFT.out]; have HF6 := Lib.hid (HF5.out.new hg); have HQ6 := Lib.hid (HQ5.out.new hg); clear hg HG5 HF5 HQ5))
        | (go_at_call 18; ((with_reducible refine (ki_metaV HF6.out).mono ?_); rintro r w7 ⟨rfl,hg⟩; rw [HFT.out]; have HF7 := Lib.hid (HF6.out.new hg); have HQ7 := Lib.hid (HQ6.out.new hg); clear hg HF6 HQ6))
        | (go_at_call 17; ((with_reducible refine (ki_begin HF7.out (by omega) (by decide) 18446744073709551615 (by decide)).mono ?_); rintro r w8 ⟨t2,rfl,hs,hg⟩; have HS8 := Lib.hid hs; have HQ8 := Lib.hid (HQ7.out.new hg); clear hs hg)))
      exact HK.out _ _ _ _ _ _ _ _ _ _ _ _ _ _ _ _ _ _ _ _ _ _ _ _ _ _ _ _ _ _ _ _ _ _ _ _ _ _ _ _ _ _ _ _ _ _ _ _ _ _ _ _ w8 t2 f2 F2 G fg (HS8.out.mono (by omega)) HQ8.out (.inr rfl)
end Go.Proofs.YtnnmpaenainogaaGreat

namespace Go.Proofs.YtnnmpaenainogaaGreat
open Go.RowKit Go.Maps
set_option maxRecDepth 1000000 in
set_option maxHeartbeats 8000000 in
theorem pcnew_any (W w : World) (d f t qn qm qi qa lim c : Nat) (a : A11) (F : FV) (H I : List Nat) (fh fi : List Int) (h : KN W.heap.size d f t w lim c F H I fh fi) (hq : Q4 W w qn qm qi qa a H H I fh fh fi) (h0 : 0≤a.fill) (h1 : a.fill≤255) (hI : I.length≤60)
    (u19 u20 u132 u133 u134 u135 u136 u137 u138 u139 u140 u141 u142 u143 u144 u145 u146 u147 v0 v1 v2 v3 v4 v5 v6 v7 v9 v15 v21 v22 v23 v24 v25 v26 v27 v28 v29 v30 v31 v32 v33 v34 v35 v36 v37 v38 v39 v40 v41 v42 v43 v44 v45 v46 v47 v48 v49 v50 v51 v52 v53 v54 v55 v56 v57 v58 v59 v60 v61 v62 v63 v64 v65 v66 v67 v68 v69 v70 v71 v72 v73 v74 v75 v76 v77 v78 v79 v80 v81 v82 v83 v84 v85 v86 v87 v88 v89 v90 v91 v92 v93 v94 v95 v96 v97 v98 v99 v100 v101 v102 v103 v104 v105 v106 v107 v108 v109 v110 v111 v112 v113 v114 v115 v116 v117 v118 v119 v120 v121 v122 v123 v124 v125 v126 v127 v128 v129 v130 v131 v148 v149 v150 v151 v152 v153 v154 v155 v156 v157 v158 v159 v160 v161 v162 v163 v164 v165 v166 v167 v168 v169 v170 v171 v172 v173 v174 v175 v176 v177 v178 v179 v180 v181 v182 v183 v184 v185 v186 v187 v188 v189 v190 v191 v192 v193 v194 v195 v196 v197 v198 v199 v200 v201 v202 v203 v204 v205 v206 v207 v208 v209 v210 v211 v212 v213 v214 v215 v216 v217 v218 v219 v220 v221 v222 v223 v224 v225 v226 v227 v228 v229 v230 v231 v232 v233 v234 v235 v236 v237 v238 v239 v240 v241 v242 v243 v244 v245 v246 v247 v248 v249 v250 : Value) (Kc : Act→World→Prop) (Qc : Exit→Act→World→Prop)
    (hK : ∀ (x19 x20 x132 x133 x134 x135 x136 x137 x138 x139 x140 x141 x142 x143 x144 x145 x146 x147 : Value) (w5 : World) (g : Int) (I2 : List Nat) (fi2 : List Int),PAo W.heap.size d f w5 lim c H H I2 fh fh fi2 g 0 (.pointer (some ⟨t,0,none⟩))→Q4 W w5 qn qm qi qa a H H I2 fh fh fi2→I2.length≤I.length + 1→Qc .normal ⟨#[v0,v1,v2,v3,v4,v5,v6,v7,.pointer (some ⟨d,0,none⟩),v9,.pointer (some ⟨f,0,none⟩),.int .i64 0,.pointer (some ⟨qn,0,none⟩),.pointer (some ⟨t,0,none⟩),.pointer (some ⟨qi,0,none⟩),v15,.pointer (some ⟨qa,0,none⟩),.pointer (some ⟨qm,0,none⟩),.int .i64 g,x19,x20,v21,v22,v23,v24,v25,v26,v27,v28,v29,v30,v31,v32,v33,v34,v35,v36,v37,v38,v39,v40,v41,v42,v43,v44,v45,v46,v47,v48,v49,v50,v51,v52,v53,v54,v55,v56,v57,v58,v59,v60,v61,v62,v63,v64,v65,v66,v67,v68,v69,v70,v71,v72,v73,v74,v75,v76,v77,v78,v79,v80,v81,v82,v83,v84,v85,v86,v87,v88,v89,v90,v91,v92,v93,v94,v95,v96,v97,v98,v99,v100,v101,v102,v103,v104,v105,v106,v107,v108,v109,v110,v111,v112,v113,v114,v115,v116,v117,v118,v119,v120,v121,v122,v123,v124,v125,v126,v127,v128,v129,v130,v131,x132,x133,x134,x135,x136,x137,x138,x139,x140,x141,x142,x143,x144,x145,x146,x147,v148,v149,v150,v151,v152,v153,v154,v155,v156,v157,v158,v159,v160,v161,v162,v163,v164,v165,v166,v167,v168,v169,v170,v171,v172,v173,v174,v175,v176,v177,v178,v179,v180,v181,v182,v183,v184,v185,v186,v187,v188,v189,v190,v191,v192,v193,v194,v195,v196,v197,v198,v199,v200,v201,v202,v203,v204,v205,v206,v207,v208,v209,v210,v211,v212,v213,v214,v215,v216,v217,v218,v219,v220,v221,v222,v223,v224,v225,v226,v227,v228,v229,v230,v231,v232,v233,v234,v235,v236,v237,v238,v239,v240,v241,v242,v243,v244,v245,v246,v247,v248,v249,v250],[]⟩ w5) :
    Code.wp Tryz.prog pcNew Qc ⟨#[v0,v1,v2,v3,v4,v5,v6,v7,.pointer (some ⟨d,0,none⟩),v9,.pointer (some ⟨f,0,none⟩),.int .i64 0,.pointer (some ⟨qn,0,none⟩),.pointer (some ⟨t,0,none⟩),.pointer (some ⟨qi,0,none⟩),v15,.pointer (some ⟨qa,0,none⟩),.pointer (some ⟨qm,0,none⟩),.int .i64 0,u19,u20,v21,v22,v23,v24,v25,v26,v27,v28,v29,v30,v31,v32,v33,v34,v35,v36,v37,v38,v39,v40,v41,v42,v43,v44,v45,v46,v47,v48,v49,v50,v51,v52,v53,v54,v55,v56,v57,v58,v59,v60,v61,v62,v63,v64,v65,v66,v67,v68,v69,v70,v71,v72,v73,v74,v75,v76,v77,v78,v79,v80,v81,v82,v83,v84,v85,v86,v87,v88,v89,v90,v91,v92,v93,v94,v95,v96,v97,v98,v99,v100,v101,v102,v103,v104,v105,v106,v107,v108,v109,v110,v111,v112,v113,v114,v115,v116,v117,v118,v119,v120,v121,v122,v123,v124,v125,v126,v127,v128,v129,v130,v131,u132,u133,u134,u135,u136,u137,u138,u139,u140,u141,u142,u143,u144,u145,u146,u147,v148,v149,v150,v151,v152,v153,v154,v155,v156,v157,v158,v159,v160,v161,v162,v163,v164,v165,v166,v167,v168,v169,v170,v171,v172,v173,v174,v175,v176,v177,v178,v179,v180,v181,v182,v183,v184,v185,v186,v187,v188,v189,v190,v191,v192,v193,v194,v195,v196,v197,v198,v199,v200,v201,v202,v203,v204,v205,v206,v207,v208,v209,v210,v211,v212,v213,v214,v215,v216,v217,v218,v219,v220,v221,v222,v223,v224,v225,v226,v227,v228,v229,v230,v231,v232,v233,v234,v235,v236,v237,v238,v239,v240,v241,v242,v243,v244,v245,v246,v247,v248,v249,v250],[]⟩ w := by
  conv => arg 2; whnf
  have HK := Lib.hid hK
  clear hK
  have HS := Lib.hid h
  have HQ := Lib.hid hq
  have HL := Lib.hid (show fi.length = I.length by obtain ⟨_,_,_,_,hb0,hv0⟩ := hq.i; exact hv0.l)
  obtain ⟨ak,an,x⟩ := a
  have h0 : 0≤x := h0
  have h1 : x≤255 := h1
  obtain ⟨c0,c1,c2⟩ := cells3 (show w.heap[qa]? = some (.cells #[.int .i64 ak,.int .i64 an,.int .u8 x] 40 (0,0)) from hq.act)
  clear h hq
  go_upto_region 38 with (first
    | (go_at_call 20; (refine (page_any w 512 x (by decide)).mono ?_; rintro e w2 ⟨g2,rfl,ho,hg⟩; have HO2 := Lib.hid ho; have HS2 := Lib.hid (HS.out.new hg); have HQ2 := Lib.hid (HQ.out.new hg); clear ho hg))
    | (go_at_call 19; ((with_reducible refine (kn_new HS2.out HL.out HO2.out h0 h1).mono ?_); rintro r w3 ⟨p,e,rfl,hp,hk,hh⟩; have HP := Lib.hid hp; have HH := Lib.hid hh; have HQ3 := Lib.hid (HQ2.out.ks hk); clear hh hk hp HS2 HO2)))
  clear c0 c1 c2
  rcases HH.out with ⟨rfl,hs⟩ | ⟨rfl,hs⟩
  · have HS3 := Lib.hid hs
    clear hs HH HS HQ HQ2
    obtain ⟨c0,c1,c2⟩ := cells3 (show w3.heap[qa]? = some (.cells #[.int .i64 ak,.int .i64 an,.int .u8 x] 40 (0,0)) from HQ3.out.act)
    obtain ⟨pa,pc,fa,fc,k0,k1,z0,z1,hv⟩ := HQ3.out.i.cells
    have HV := Lib.hid hv
    have hp : p < 4294967296 := by have := HP.out; omega
    obtain ⟨n,hn⟩ : ∃ n,n = I.length := ⟨_,rfl⟩
    rw [← hn] at k0 k1 HV
    have HN := Lib.hid hn
    clear hv hn
    go_wp2_with (first
      | (go_at_call 21; (refine (hwith_any w3 pa n pc fa n fc I fi p x HV.out hp h0 h1 (by omega)).mono ?_; rintro r w4 ⟨pb,qc,fb,gc,rfl,hv4,hg⟩; have HV4 := Lib.hid hv4; have HS4 := Lib.hid (HS3.out.new hg); have HQ4 := Lib.hid (HQ3.out.new hg); obtain ⟨_,_,_,_,m0,m1,y0,y1,-⟩ := HQ4.out.i.cells; clear hv4 hg k0 k1 z0 z1)))
    have hlen : I.length + 1 = (I++[p]).length := by simp
    rw [hlen] at HV4 ⊢
    exact HK.out _ _ _ _ _ _ _ _ _ _ _ _ _ _ _ _ _ _ (setH w4 qi _ _) 0 (I++[p]) (fi++[x]) (.inl ⟨rfl,rfl,t,F,rfl,HS4.out.held (setH_kfr HQ4.out.i.ek _ _)⟩) (HQ4.out.putI HV4.out) (by omega)
  · go_wp2
    exact HK.out _ _ _ _ _ _ _ _ _ _ _ _ _ _ _ _ _ _ w3 21 I fi (.inr ⟨by decide,F,hs.ke.pc H fh⟩) HQ3.out (by omega)
end Go.Proofs.YtnnmpaenainogaaGreat

namespace Go.Proofs.YtnnmpaenainogaaGreat
open Go.RowKit Go.Maps
set_option maxRecDepth 1000000 in
set_option maxHeartbeats 8000000 in
theorem pcfree_any (W w : World) (d f t qn qm qi qa lim c : Nat) (a : A11) (F : FV) (H I : List Nat) (fh fi : List Int) (h : KN W.heap.size d f t w lim c F H I fh fi) (hq : Q4 W w qn qm qi qa a H H I fh fh fi) (h0 : 0≤a.fill) (h1 : a.fill≤255) (hI : I.length≤60)
    (u21 u151 u152 u153 u154 u155 u156 u157 u158 u159 u160 u161 u162 u163 u164 u165 u166 u167 u168 u169 u170 u171 v0 v1 v2 v3 v4 v5 v6 v7 v9 v15 v19 v20 v22 v23 v24 v25 v26 v27 v28 v29 v30 v31 v32 v33 v34 v35 v36 v37 v38 v39 v40 v41 v42 v43 v44 v45 v46 v47 v48 v49 v50 v51 v52 v53 v54 v55 v56 v57 v58 v59 v60 v61 v62 v63 v64 v65 v66 v67 v68 v69 v70 v71 v72 v73 v74 v75 v76 v77 v78 v79 v80 v81 v82 v83 v84 v85 v86 v87 v88 v89 v90 v91 v92 v93 v94 v95 v96 v97 v98 v99 v100 v101 v102 v103 v104 v105 v106 v107 v108 v109 v110 v111 v112 v113 v114 v115 v116 v117 v118 v119 v120 v121 v122 v123 v124 v125 v126 v127 v128 v129 v130 v131 v132 v133 v134 v135 v136 v137 v138 v139 v140 v141 v142 v143 v144 v145 v146 v147 v148 v149 v150 v172 v173 v174 v175 v176 v177 v178 v179 v180 v181 v182 v183 v184 v185 v186 v187 v188 v189 v190 v191 v192 v193 v194 v195 v196 v197 v198 v199 v200 v201 v202 v203 v204 v205 v206 v207 v208 v209 v210 v211 v212 v213 v214 v215 v216 v217 v218 v219 v220 v221 v222 v223 v224 v225 v226 v227 v228 v229 v230 v231 v232 v233 v234 v235 v236 v237 v238 v239 v240 v241 v242 v243 v244 v245 v246 v247 v248 v249 v250 : Value) (Kc : Act→World→Prop) (Qc : Exit→Act→World→Prop)
    (hK : ∀ (x21 x151 x152 x153 x154 x155 x156 x157 x158 x159 x160 x161 x162 x163 x164 x165 x166 x167 x168 x169 x170 x171 : Value) (w5 : World) (g : Int) (I2 : List Nat) (fi2 : List Int),PAo W.heap.size d f w5 lim c H H I2 fh fh fi2 g 0 (.pointer (some ⟨t,0,none⟩))→Q4 W w5 qn qm qi qa a H H I2 fh fh fi2→I2.length≤I.length + 1→Qc .normal ⟨#[v0,v1,v2,v3,v4,v5,v6,v7,.pointer (some ⟨d,0,none⟩),v9,.pointer (some ⟨f,0,none⟩),.int .i64 0,.pointer (some ⟨qn,0,none⟩),.pointer (some ⟨t,0,none⟩),.pointer (some ⟨qi,0,none⟩),v15,.pointer (some ⟨qa,0,none⟩),.pointer (some ⟨qm,0,none⟩),.int .i64 g,v19,v20,x21,v22,v23,v24,v25,v26,v27,v28,v29,v30,v31,v32,v33,v34,v35,v36,v37,v38,v39,v40,v41,v42,v43,v44,v45,v46,v47,v48,v49,v50,v51,v52,v53,v54,v55,v56,v57,v58,v59,v60,v61,v62,v63,v64,v65,v66,v67,v68,v69,v70,v71,v72,v73,v74,v75,v76,v77,v78,v79,v80,v81,v82,v83,v84,v85,v86,v87,v88,v89,v90,v91,v92,v93,v94,v95,v96,v97,v98,v99,v100,v101,v102,v103,v104,v105,v106,v107,v108,v109,v110,v111,v112,v113,v114,v115,v116,v117,v118,v119,v120,v121,v122,v123,v124,v125,v126,v127,v128,v129,v130,v131,v132,v133,v134,v135,v136,v137,v138,v139,v140,v141,v142,v143,v144,v145,v146,v147,v148,v149,v150,x151,x152,x153,x154,x155,x156,x157,x158,x159,x160,x161,x162,x163,x164,x165,x166,x167,x168,x169,x170,x171,v172,v173,v174,v175,v176,v177,v178,v179,v180,v181,v182,v183,v184,v185,v186,v187,v188,v189,v190,v191,v192,v193,v194,v195,v196,v197,v198,v199,v200,v201,v202,v203,v204,v205,v206,v207,v208,v209,v210,v211,v212,v213,v214,v215,v216,v217,v218,v219,v220,v221,v222,v223,v224,v225,v226,v227,v228,v229,v230,v231,v232,v233,v234,v235,v236,v237,v238,v239,v240,v241,v242,v243,v244,v245,v246,v247,v248,v249,v250],[]⟩ w5) :
    Code.wp Tryz.prog pcFree Qc ⟨#[v0,v1,v2,v3,v4,v5,v6,v7,.pointer (some ⟨d,0,none⟩),v9,.pointer (some ⟨f,0,none⟩),.int .i64 0,.pointer (some ⟨qn,0,none⟩),.pointer (some ⟨t,0,none⟩),.pointer (some ⟨qi,0,none⟩),v15,.pointer (some ⟨qa,0,none⟩),.pointer (some ⟨qm,0,none⟩),.int .i64 0,v19,v20,u21,v22,v23,v24,v25,v26,v27,v28,v29,v30,v31,v32,v33,v34,v35,v36,v37,v38,v39,v40,v41,v42,v43,v44,v45,v46,v47,v48,v49,v50,v51,v52,v53,v54,v55,v56,v57,v58,v59,v60,v61,v62,v63,v64,v65,v66,v67,v68,v69,v70,v71,v72,v73,v74,v75,v76,v77,v78,v79,v80,v81,v82,v83,v84,v85,v86,v87,v88,v89,v90,v91,v92,v93,v94,v95,v96,v97,v98,v99,v100,v101,v102,v103,v104,v105,v106,v107,v108,v109,v110,v111,v112,v113,v114,v115,v116,v117,v118,v119,v120,v121,v122,v123,v124,v125,v126,v127,v128,v129,v130,v131,v132,v133,v134,v135,v136,v137,v138,v139,v140,v141,v142,v143,v144,v145,v146,v147,v148,v149,v150,u151,u152,u153,u154,u155,u156,u157,u158,u159,u160,u161,u162,u163,u164,u165,u166,u167,u168,u169,u170,u171,v172,v173,v174,v175,v176,v177,v178,v179,v180,v181,v182,v183,v184,v185,v186,v187,v188,v189,v190,v191,v192,v193,v194,v195,v196,v197,v198,v199,v200,v201,v202,v203,v204,v205,v206,v207,v208,v209,v210,v211,v212,v213,v214,v215,v216,v217,v218,v219,v220,v221,v222,v223,v224,v225,v226,v227,v228,v229,v230,v231,v232,v233,v234,v235,v236,v237,v238,v239,v240,v241,v242,v243,v244,v245,v246,v247,v248,v249,v250],[]⟩ w := by
  conv => arg 2; whnf
  have HK := Lib.hid hK
  clear hK
  have HS := Lib.hid h
  have HQ := Lib.hid hq
  obtain ⟨ak,an,x⟩ := a
  obtain ⟨c0,c1,c2⟩ := cells3 (show w.heap[qa]? = some (.cells #[.int .i64 ak,.int .i64 an,.int .u8 x] 40 (0,0)) from hq.act)
  obtain ⟨pa,pc,fa,fc,k0,k1,_,_,hv⟩ := HQ.out.i.cells
  have HV0 := Lib.hid hv
  obtain ⟨n,hn⟩ : ∃ n,n = I.length := ⟨_,rfl⟩
  have HN := Lib.hid hn
  clear h hq h0 h1 hv
  by_cases hn0 : n = 0
  · rw [← hn,hn0] at k0 k1
    clear hn HV0
    go_wp2
    exact HK.out _ _ _ _ _ _ _ _ _ _ _ _ _ _ _ _ _ _ _ _ _ _ w 0 I fi (.inl ⟨rfl,rfl,t,F,rfl,HS.out⟩) HQ.out (by omega)
  · have hnI : n < 1001 := by omega
    have hpos : 0 < I.length := by omega
    obtain ⟨gp,rfl,hgp,hps⟩ := own_src2 HV0.out.p.1 hpos
    obtain ⟨gf,rfl,hgf,hfs⟩ := own_src2 HV0.out.f hpos
    obtain ⟨k,hk⟩ : ∃ k : Nat,k = (an % 1024).toNat % n := ⟨_,rfl⟩
    have hkn : k < n := by rw [hk]; exact Nat.mod_lt _ (by omega)
    have hkI : k < I.length := by omega
    have hcell := (hv_cells HV0.out hkI).1
    have hbits : bits .and .i64 an 1023 = an % 1024 := and1023 an
    have htm : (an % 1024).tmod (n : Int) = (k : Int) := by
      obtain ⟨N,hN⟩ : ∃ N : Nat,an % 1024 = (N : Int) := ⟨(an % 1024).toNat,by omega⟩
      rw [hN] at hk ⊢
      rw [hk]
      rfl
    have hwk : IntKind.i64.wrap (k : Int) = (k : Int) := IntWalk.i64_in _ (by omega)
    have hn00 : ¬ (n : Int) = 0 := by omega
    have hn0b : ((n : Int) == 0) = false := by simp; omega
    have hn0p : (0 : Int) < (n : Int) := by omega
    have hkni : (k : Int) < (n : Int) := by omega
    have HKI := Lib.hid hkI
    have HHI := Lib.hid hI
    obtain ⟨p,hp⟩ : ∃ p,p = I.getD k 0 := ⟨_,rfl⟩
    rw [← hp] at hcell
    have HP := Lib.hid hp
    rw [← hn] at k0 k1
    clear hn hk hpos hps hfs hkI hI hp hn0 hgp hgf
    go_upto_region 46 with (first
      | (go_at_call 22; ((with_reducible refine (kn_free HS.out HKI.out _ (by rw [HP.out])).mono ?_); rintro r w3 ⟨rfl,hk3,hs⟩; have HS3 := Lib.hid hs; have HQ3 := Lib.hid (HQ.out.ks hk3); clear hs hk3)))
    clear c0 c1 c2 k0 k1 hcell
    obtain ⟨pa3,pc3,fa3,fc3,k0,k1,_,_,hv⟩ := HQ3.out.i.cells
    have HV3 := Lib.hid hv
    rw [← HN.out] at k0 k1 HV3
    clear hv
    go_wp2_with (first
      | (go_at_call 23; ((with_reducible refine (hwithout_any w3 pa3 n pc3 fa3 n fc3 I fi k HV3.out HKI.out (by have := HHI.out; omega) _ rfl).mono ?_); rintro r w4 ⟨pb,qn4,qc,fb,gc,rfl,hv4,hg⟩; obtain rfl := hv4.one.1; have HV4 := Lib.hid hv4; have HS4 := Lib.hid (HS3.out.new hg); have HQ4 := Lib.hid (HQ3.out.new hg); obtain ⟨_,_,_,_,m0,m1,y0,y1,-⟩ := HQ4.out.i.cells; clear hv4 hg k0 k1)))
    exact HK.out _ _ _ _ _ _ _ _ _ _ _ _ _ _ _ _ _ _ _ _ _ _ (setH w4 qi _ _) 0 (I.eraseIdx k) (fi.eraseIdx k) (.inl ⟨rfl,rfl,t,F,rfl,HS4.out.held (setH_kfr HQ4.out.i.ek _ _)⟩) (HQ4.out.putI HV4.out) (by have := (List.eraseIdx_sublist I k).length_le; omega)
end Go.Proofs.YtnnmpaenainogaaGreat

namespace Go.Proofs.YtnnmpaenainogaaGreat
open Go.RowKit Go.Maps
noncomputable def pcCommitB : Code := cR (cR pcCommit)
set_option maxRecDepth 1000000 in
set_option maxHeartbeats 8000000 in
theorem pccommitB_any (W w : World) (d f t qn qm qi qa lim c : Nat) (a : A11) (F : FV) (H I : List Nat) (fh fi : List Int) (h : KN W.heap.size d f t w lim c F H I fh fi) (hq : Q4 W w qn qm qi qa a H H I fh fh fi) (hI : I.length≤60) (hc : c≤70000) (hl : lim≤300) (m : Nat) (hm : m = 0∨m∈I) (hm2 : m < 4294967296)
    (u100 u101 u102 u103 u104 u105 u106 u107 u108 u109 u110 u111 u112 u113 u114 u115 u116 u117 u118 u119 u120 u121 u122 u123 u124 u125 u126 v0 v1 v2 v3 v4 v5 v6 v7 v9 v15 v19 v20 v21 v23 v24 v25 v26 v27 v28 v29 v30 v31 v32 v33 v34 v35 v36 v37 v38 v39 v40 v41 v42 v43 v44 v45 v46 v47 v48 v49 v50 v51 v52 v53 v54 v55 v56 v57 v58 v59 v60 v61 v62 v63 v64 v65 v66 v67 v68 v69 v70 v71 v72 v73 v74 v75 v76 v77 v78 v79 v80 v81 v82 v83 v84 v85 v86 v87 v88 v89 v90 v91 v92 v93 v94 v95 v96 v97 v98 v99 v127 v128 v129 v130 v131 v132 v133 v134 v135 v136 v137 v138 v139 v140 v141 v142 v143 v144 v145 v146 v147 v148 v149 v150 v151 v152 v153 v154 v155 v156 v157 v158 v159 v160 v161 v162 v163 v164 v165 v166 v167 v168 v169 v170 v171 v172 v173 v174 v175 v176 v177 v178 v179 v180 v181 v182 v183 v184 v185 v186 v187 v188 v189 v190 v191 v192 v193 v194 v195 v196 v197 v198 v199 v200 v201 v202 v203 v204 v205 v206 v207 v208 v209 v210 v211 v212 v213 v214 v215 v216 v217 v218 v219 v220 v221 v222 v223 v224 v225 v226 v227 v228 v229 v230 v231 v232 v233 v234 v235 v236 v237 v238 v239 v240 v241 v242 v243 v244 v245 v246 v247 v248 v249 v250 : Value) (Kc : Act→World→Prop) (Qc : Exit→Act→World→Prop)
    (hK : ∀ (x100 x101 x102 x103 x104 x105 x106 x107 x108 x109 x110 x111 x112 x113 x114 x115 x116 x117 x118 x119 x120 x121 x122 x123 x124 x125 x126 : Value) (w5 : World) (g e : Int) (tv : Value) (H2 G2 : List Nat) (fh2 fg2 : List Int),PAo W.heap.size d f w5 lim (c + lim + 6) H2 G2 H2 fh2 fg2 fh2 g e tv→Q4 W w5 qn qm qi qa a H2 G2 H2 fh2 fg2 fh2→H2.length≤max H.length I.length→G2.length≤max H.length I.length→Qc .normal ⟨#[v0,v1,v2,v3,v4,v5,v6,v7,.pointer (some ⟨d,0,none⟩),v9,.pointer (some ⟨f,0,none⟩),.int .i64 e,.pointer (some ⟨qn,0,none⟩),tv,.pointer (some ⟨qi,0,none⟩),v15,.pointer (some ⟨qa,0,none⟩),.pointer (some ⟨qm,0,none⟩),.int .i64 g,v19,v20,v21,.int .u32 (m : Int),v23,v24,v25,v26,v27,v28,v29,v30,v31,v32,v33,v34,v35,v36,v37,v38,v39,v40,v41,v42,v43,v44,v45,v46,v47,v48,v49,v50,v51,v52,v53,v54,v55,v56,v57,v58,v59,v60,v61,v62,v63,v64,v65,v66,v67,v68,v69,v70,v71,v72,v73,v74,v75,v76,v77,v78,v79,v80,v81,v82,v83,v84,v85,v86,v87,v88,v89,v90,v91,v92,v93,v94,v95,v96,v97,v98,v99,x100,x101,x102,x103,x104,x105,x106,x107,x108,x109,x110,x111,x112,x113,x114,x115,x116,x117,x118,x119,x120,x121,x122,x123,x124,x125,x126,v127,v128,v129,v130,v131,v132,v133,v134,v135,v136,v137,v138,v139,v140,v141,v142,v143,v144,v145,v146,v147,v148,v149,v150,v151,v152,v153,v154,v155,v156,v157,v158,v159,v160,v161,v162,v163,v164,v165,v166,v167,v168,v169,v170,v171,v172,v173,v174,v175,v176,v177,v178,v179,v180,v181,v182,v183,v184,v185,v186,v187,v188,v189,v190,v191,v192,v193,v194,v195,v196,v197,v198,v199,v200,v201,v202,v203,v204,v205,v206,v207,v208,v209,v210,v211,v212,v213,v214,v215,v216,v217,v218,v219,v220,v221,v222,v223,v224,v225,v226,v227,v228,v229,v230,v231,v232,v233,v234,v235,v236,v237,v238,v239,v240,v241,v242,v243,v244,v245,v246,v247,v248,v249,v250],[]⟩ w5) :
    Code.wp Tryz.prog pcCommitB Qc ⟨#[v0,v1,v2,v3,v4,v5,v6,v7,.pointer (some ⟨d,0,none⟩),v9,.pointer (some ⟨f,0,none⟩),.int .i64 0,.pointer (some ⟨qn,0,none⟩),.pointer (some ⟨t,0,none⟩),.pointer (some ⟨qi,0,none⟩),v15,.pointer (some ⟨qa,0,none⟩),.pointer (some ⟨qm,0,none⟩),.int .i64 0,v19,v20,v21,.int .u32 (m : Int),v23,v24,v25,v26,v27,v28,v29,v30,v31,v32,v33,v34,v35,v36,v37,v38,v39,v40,v41,v42,v43,v44,v45,v46,v47,v48,v49,v50,v51,v52,v53,v54,v55,v56,v57,v58,v59,v60,v61,v62,v63,v64,v65,v66,v67,v68,v69,v70,v71,v72,v73,v74,v75,v76,v77,v78,v79,v80,v81,v82,v83,v84,v85,v86,v87,v88,v89,v90,v91,v92,v93,v94,v95,v96,v97,v98,v99,u100,u101,u102,u103,u104,u105,u106,u107,u108,u109,u110,u111,u112,u113,u114,u115,u116,u117,u118,u119,u120,u121,u122,u123,u124,u125,u126,v127,v128,v129,v130,v131,v132,v133,v134,v135,v136,v137,v138,v139,v140,v141,v142,v143,v144,v145,v146,v147,v148,v149,v150,v151,v152,v153,v154,v155,v156,v157,v158,v159,v160,v161,v162,v163,v164,v165,v166,v167,v168,v169,v170,v171,v172,v173,v174,v175,v176,v177,v178,v179,v180,v181,v182,v183,v184,v185,v186,v187,v188,v189,v190,v191,v192,v193,v194,v195,v196,v197,v198,v199,v200,v201,v202,v203,v204,v205,v206,v207,v208,v209,v210,v211,v212,v213,v214,v215,v216,v217,v218,v219,v220,v221,v222,v223,v224,v225,v226,v227,v228,v229,v230,v231,v232,v233,v234,v235,v236,v237,v238,v239,v240,v241,v242,v243,v244,v245,v246,v247,v248,v249,v250],[]⟩ w := by
  conv => arg 2; whnf
  have HK := Lib.hid hK
  clear hK
  have HSa := Lib.hid h
  have HQa := Lib.hid hq
  have HM := Lib.hid hm
  clear h hq hm
  obtain ⟨paa,pca,faa,fca,k0,k1,_,_,hv⟩ := HQa.out.i.cells
  have HVa := Lib.hid hv
  obtain ⟨na,hna⟩ : ∃ n,n = (I).length := ⟨_,rfl⟩
  rw [← hna] at k0 k1 HVa
  have HNa := Lib.hid hna
  obtain ⟨_,_,_,_,m0,m1,y0,y1,-⟩ := HQa.out.o.cells
  clear hv hna
  go_upto_region 26 with fail
  have HSb := Lib.hid (HSa.out.held (setH_kfr HQa.out.o.ek (.slice paa na pca) (.slice faa na fca)))
  have HQb := Lib.hid (HQa.out.putO (by have := HVa.out; rw [HNa.out] at this; exact this))
  rw [← HNa.out] at HQb
  clear k0 k1 m0 m1 y0 y1 HVa HSa HQa
  dsimp only [setH] at HSb HQb
  generalize hwb : (w.setCell ⟨qm,0,none⟩ (.slice paa na pca)).setCell ⟨qm,1,none⟩ (.slice faa na fca) = wb at HSb HQb ⊢
  clear hwb
  go_upto_region 27 with (first
    | (go_at_call 24; ((with_reducible refine (kn_commit2 HSb.out (by omega) HM.out).mono ?_); rintro r wc ⟨e,rfl,hk,hh⟩; have HH := Lib.hid hh; have HQc := Lib.hid (HQb.out.kct hk); clear hh hk HSb HQb)))
  rcases HH.out with ⟨rfl,F2,hke⟩ | ⟨he,hkq⟩ | ⟨rfl,F2,hst,hpc⟩
  · have HSc := Lib.hid hke
    clear HH hke
    obtain ⟨pac,pcc,fac,fcc,k0,k1,_,_,hv⟩ := HQc.out.i.cells
    have HVc := Lib.hid hv
    obtain ⟨nc,hnc⟩ : ∃ n,n = (I).length := ⟨_,rfl⟩
    rw [← hnc] at k0 k1 HVc
    have HNc := Lib.hid hnc
    obtain ⟨_,_,_,_,m0,m1,y0,y1,-⟩ := HQc.out.n.cells
    clear hv hnc
    go_upto_region 29 with fail
    have HSd := Lib.hid (HSc.out.held (setH_kfr HQc.out.n.ek (.slice pac nc pcc) (.slice fac nc fcc)))
    have HQd := Lib.hid (HQc.out.putN (by have := HVc.out; rw [HNc.out] at this; exact this))
    rw [← HNc.out] at HQd
    clear k0 k1 m0 m1 y0 y1 HVc HSc HQc
    dsimp only [setH] at HSd HQd
    generalize hwd : (wc.setCell ⟨qn,0,none⟩ (.slice pac nc pcc)).setCell ⟨qn,1,none⟩ (.slice fac nc fcc) = wd at HSd HQd ⊢
    clear hwd
    obtain ⟨pad,pcd,fad,fcd,k0,k1,_,_,hv⟩ := HQd.out.n.cells
    have HVd := Lib.hid hv
    obtain ⟨nd,hnd⟩ : ∃ n,n = (I).length := ⟨_,rfl⟩
    rw [← hnd] at k0 k1 HVd
    have HNd := Lib.hid hnd
    obtain ⟨_,_,_,_,m0,m1,y0,y1,-⟩ := HQd.out.i.cells
    clear hv hnd
    go_upto_region 32 with fail
    have HSe := Lib.hid (HSd.out.held (setH_kfr HQd.out.i.ek (.slice pad nd pcd) (.slice fad nd fcd)))
    have HQe := Lib.hid (HQd.out.putI (by have := HVd.out; rw [HNd.out] at this; exact this))
    rw [← HNd.out] at HQe
    clear k0 k1 m0 m1 y0 y1 HVd HSd HQd
    dsimp only [setH] at HSe HQe
    generalize hwe : (wd.setCell ⟨qi,0,none⟩ (.slice pad nd pcd)).setCell ⟨qi,1,none⟩ (.slice fad nd fcd) = we at HSe HQe ⊢
    clear hwe
    go_wp2_with (first
      | (go_at_call 17; ((with_reducible refine (ke_begin HSe.out (by omega)).mono ?_); rintro r wf ⟨t2,rfl,hs,hg⟩; have HSf := Lib.hid hs; have HQf := Lib.hid (HQe.out.new hg); clear hs hg)))
    exact HK.out _ _ _ _ _ _ _ _ _ _ _ _ _ _ _ _ _ _ _ _ _ _ _ _ _ _ _ wf 0 0 _ I I fi fi (.inl ⟨rfl,rfl,t2,F2,rfl,HSf.out⟩) HQf.out (Nat.le_max_right _ _) (Nat.le_max_right _ _)
  · have HSc := Lib.hid hkq
    have he0 : e≠0 := by omega
    have he1 : (e == 0) = false := by simpa using he0
    have he2 : (e != 0) = true := by simpa using he0
    obtain ⟨T3,hT3⟩ : ∃ T,T = F.mt.t := ⟨_,rfl⟩
    obtain ⟨E3,hE3⟩ : ∃ T,T = F.mt.e := ⟨_,rfl⟩
    obtain ⟨M3,hM3⟩ : ∃ T,T = F.mt.m := ⟨_,rfl⟩
    obtain ⟨L3,hL3⟩ : ∃ T,T = F.mt.f := ⟨_,rfl⟩
    have HFV := Lib.hid (show mtV F.mt.t F.mt.e F.mt.m F.mt.f = mtV T3 E3 M3 L3 by rw [hT3,hE3,hM3,hL3])
    have hme := (meta_fields (.int .u64 (T3 : Int)) (.int .u32 (E3 : Int)) (.int .u32 (M3 : Int)) (.int .u32 (L3 : Int))).1
    have hT0 : (0 : Int) < (T3 : Int) := by have := hkq.pc.t1; omega
    clear hT3 hE3 hM3 hL3
    clear HH hkq he
    go_upto_region 30 with (first
      | (go_at_call 18; ((with_reducible refine (pc_meta HSc.out.pc).mono ?_); rintro r wd ⟨rfl,hg⟩; rw [HFV.out]; have HSd := Lib.hid (HSc.out.new hg); have HQd := Lib.hid (HQc.out.new hg); clear hg HSc HQc))
      | (go_at_call 29; ((with_reducible refine (kq_stuck HSd.out).mono ?_); rintro r we ⟨rfl,hg⟩; have HSe := Lib.hid (HSd.out.new hg); have HQe := Lib.hid (HQd.out.new hg); clear hg HSd HQd)))
    obtain ⟨pae,pce,fae,fce,k0,k1,_,_,hv⟩ := HQe.out.n.cells
    have HVe := Lib.hid hv
    obtain ⟨ne,hne⟩ : ∃ n,n = (H).length := ⟨_,rfl⟩
    rw [← hne] at k0 k1 HVe
    have HNe := Lib.hid hne
    obtain ⟨_,_,_,_,m0,m1,y0,y1,-⟩ := HQe.out.o.cells
    clear hv hne
    go_upto_region 31 with fail
    have HSg := Lib.hid (HSe.out.held (setH_kfr HQe.out.o.ek (.slice pae ne pce) (.slice fae ne fce)))
    have HQg := Lib.hid (HQe.out.putO (by have := HVe.out; rw [HNe.out] at this; exact this))
    rw [← HNe.out] at HQg
    clear k0 k1 m0 m1 y0 y1 HVe HSe HQe
    dsimp only [setH] at HSg HQg
    generalize hwg : (we.setCell ⟨qm,0,none⟩ (.slice pae ne pce)).setCell ⟨qm,1,none⟩ (.slice fae ne fce) = wg at HSg HQg ⊢
    clear hwg
    obtain ⟨pag,pcg,fag,fcg,k0,k1,_,_,hv⟩ := HQg.out.n.cells
    have HVg := Lib.hid hv
    obtain ⟨ng,hng⟩ : ∃ n,n = (H).length := ⟨_,rfl⟩
    rw [← hng] at k0 k1 HVg
    have HNg := Lib.hid hng
    obtain ⟨_,_,_,_,m0,m1,y0,y1,-⟩ := HQg.out.i.cells
    clear hv hng
    go_upto_region 32 with fail
    have HSh := Lib.hid (HSg.out.held (setH_kfr HQg.out.i.ek (.slice pag ng pcg) (.slice fag ng fcg)))
    have HQh := Lib.hid (HQg.out.putI (by have := HVg.out; rw [HNg.out] at this; exact this))
    rw [← HNg.out] at HQh
    clear k0 k1 m0 m1 y0 y1 HVg HSg HQg
    dsimp only [setH] at HSh HQh
    generalize hwh : (wg.setCell ⟨qi,0,none⟩ (.slice pag ng pcg)).setCell ⟨qi,1,none⟩ (.slice fag ng fcg) = wh at HSh HQh ⊢
    clear hwh
    go_wp2_with (first
      | (go_at_call 17; ((with_reducible refine (kq_begin HSh.out (by omega)).mono ?_); rintro r wf ⟨t2,rfl,hg⟩; have HSf := Lib.hid (HSh.out.new hg); have HQf := Lib.hid (HQh.out.new hg); clear hg)))
    exact HK.out _ _ _ _ _ _ _ _ _ _ _ _ _ _ _ _ _ _ _ _ _ _ _ _ _ _ _ wf e 0 _ H H fh fh (.inr ⟨he0,F,HSf.out.pc⟩) HQf.out (Nat.le_max_left _ _) (Nat.le_max_left _ _)
  · have HSc := Lib.hid hpc
    obtain ⟨T3,hT3⟩ : ∃ T,T = F2.mt.t := ⟨_,rfl⟩
    obtain ⟨E3,hE3⟩ : ∃ T,T = F2.mt.e := ⟨_,rfl⟩
    obtain ⟨M3,hM3⟩ : ∃ T,T = F2.mt.m := ⟨_,rfl⟩
    obtain ⟨L3,hL3⟩ : ∃ T,T = F2.mt.f := ⟨_,rfl⟩
    have HFV := Lib.hid (show mtV F2.mt.t F2.mt.e F2.mt.m F2.mt.f = mtV T3 E3 M3 L3 by rw [hT3,hE3,hM3,hL3])
    have hme := (meta_fields (.int .u64 (T3 : Int)) (.int .u32 (E3 : Int)) (.int .u32 (M3 : Int)) (.int .u32 (L3 : Int))).1
    have hT0 : (0 : Int) < (T3 : Int) := by have := hpc.t1; omega
    clear hT3 hE3 hM3 hL3
    have HST := Lib.hid hst
    clear HH hpc hst
    go_upto_region 31 with (first
      | (go_at_call 18; ((with_reducible refine (pc_meta HSc.out).mono ?_); rintro r wd ⟨rfl,hg⟩; rw [HFV.out]; have HSd := Lib.hid (HSc.out.new hg); have HQd := Lib.hid (HQc.out.new hg); clear hg HSc HQc))
      | (go_at_call 29; ((with_reducible refine (pc_stuck HSd.out HST.out).mono ?_); rintro r we ⟨rfl,hg⟩; have HSe := Lib.hid (HSd.out.new hg); have HQe := Lib.hid (HQd.out.new hg); clear hg HSd HQd)))
    obtain ⟨pae,pce,fae,fce,k0,k1,_,_,hv⟩ := HQe.out.n.cells
    have HVe := Lib.hid hv
    obtain ⟨ne,hne⟩ : ∃ n,n = (H).length := ⟨_,rfl⟩
    rw [← hne] at k0 k1 HVe
    have HNe := Lib.hid hne
    obtain ⟨_,_,_,_,m0,m1,y0,y1,-⟩ := HQe.out.i.cells
    clear hv hne
    go_upto_region 32 with fail
    have HSh := Lib.hid (HSe.out.held (setH_kfr HQe.out.i.ek (.slice pae ne pce) (.slice fae ne fce)))
    have HQh := Lib.hid (HQe.out.putI (by have := HVe.out; rw [HNe.out] at this; exact this))
    rw [← HNe.out] at HQh
    clear k0 k1 m0 m1 y0 y1 HVe HSe HQe
    dsimp only [setH] at HSh HQh
    generalize hwh : (we.setCell ⟨qi,0,none⟩ (.slice pae ne pce)).setCell ⟨qi,1,none⟩ (.slice fae ne fce) = wh at HSh HQh ⊢
    clear hwh
    go_wp2_with (first
      | (go_at_call 17; ((with_reducible refine (pc_bstuck HSh.out HST.out).mono ?_); rintro r wf ⟨rfl,rfl⟩)))
    exact HK.out _ _ _ _ _ _ _ _ _ _ _ _ _ _ _ _ _ _ _ _ _ _ _ _ _ _ _ wh 20 34 _ H I fh fi (.inr ⟨by decide,F2,HSh.out⟩) HQh.out (Nat.le_max_left _ _) (Nat.le_max_right _ _)
end Go.Proofs.YtnnmpaenainogaaGreat

namespace Go.Proofs.YtnnmpaenainogaaGreat
open Go.RowKit Go.Maps
set_option maxRecDepth 1000000 in
set_option maxHeartbeats 8000000 in
theorem pccommit_any (W w : World) (d f t qn qm qi qa lim c : Nat) (a : A11) (F : FV) (H I : List Nat) (fh fi : List Int) (h : KN W.heap.size d f t w lim c F H I fh fi) (hq : Q4 W w qn qm qi qa a H H I fh fh fi) (hI : I.length≤60) (hc : c≤70000) (hl : lim≤300)
    (u22 u92 u93 u94 u95 u96 u97 u98 u99 u100 u101 u102 u103 u104 u105 u106 u107 u108 u109 u110 u111 u112 u113 u114 u115 u116 u117 u118 u119 u120 u121 u122 u123 u124 u125 u126 v0 v1 v2 v3 v4 v5 v6 v7 v9 v15 v19 v20 v21 v23 v24 v25 v26 v27 v28 v29 v30 v31 v32 v33 v34 v35 v36 v37 v38 v39 v40 v41 v42 v43 v44 v45 v46 v47 v48 v49 v50 v51 v52 v53 v54 v55 v56 v57 v58 v59 v60 v61 v62 v63 v64 v65 v66 v67 v68 v69 v70 v71 v72 v73 v74 v75 v76 v77 v78 v79 v80 v81 v82 v83 v84 v85 v86 v87 v88 v89 v90 v91 v127 v128 v129 v130 v131 v132 v133 v134 v135 v136 v137 v138 v139 v140 v141 v142 v143 v144 v145 v146 v147 v148 v149 v150 v151 v152 v153 v154 v155 v156 v157 v158 v159 v160 v161 v162 v163 v164 v165 v166 v167 v168 v169 v170 v171 v172 v173 v174 v175 v176 v177 v178 v179 v180 v181 v182 v183 v184 v185 v186 v187 v188 v189 v190 v191 v192 v193 v194 v195 v196 v197 v198 v199 v200 v201 v202 v203 v204 v205 v206 v207 v208 v209 v210 v211 v212 v213 v214 v215 v216 v217 v218 v219 v220 v221 v222 v223 v224 v225 v226 v227 v228 v229 v230 v231 v232 v233 v234 v235 v236 v237 v238 v239 v240 v241 v242 v243 v244 v245 v246 v247 v248 v249 v250 : Value) (Kc : Act→World→Prop) (Qc : Exit→Act→World→Prop)
    (hK : ∀ (x22 x92 x93 x94 x95 x96 x97 x98 x99 x100 x101 x102 x103 x104 x105 x106 x107 x108 x109 x110 x111 x112 x113 x114 x115 x116 x117 x118 x119 x120 x121 x122 x123 x124 x125 x126 : Value) (w5 : World) (g e : Int) (tv : Value) (H2 G2 : List Nat) (fh2 fg2 : List Int),PAo W.heap.size d f w5 lim (c + lim + 6) H2 G2 H2 fh2 fg2 fh2 g e tv→Q4 W w5 qn qm qi qa a H2 G2 H2 fh2 fg2 fh2→H2.length≤max H.length I.length→G2.length≤max H.length I.length→Qc .normal ⟨#[v0,v1,v2,v3,v4,v5,v6,v7,.pointer (some ⟨d,0,none⟩),v9,.pointer (some ⟨f,0,none⟩),.int .i64 e,.pointer (some ⟨qn,0,none⟩),tv,.pointer (some ⟨qi,0,none⟩),v15,.pointer (some ⟨qa,0,none⟩),.pointer (some ⟨qm,0,none⟩),.int .i64 g,v19,v20,v21,x22,v23,v24,v25,v26,v27,v28,v29,v30,v31,v32,v33,v34,v35,v36,v37,v38,v39,v40,v41,v42,v43,v44,v45,v46,v47,v48,v49,v50,v51,v52,v53,v54,v55,v56,v57,v58,v59,v60,v61,v62,v63,v64,v65,v66,v67,v68,v69,v70,v71,v72,v73,v74,v75,v76,v77,v78,v79,v80,v81,v82,v83,v84,v85,v86,v87,v88,v89,v90,v91,x92,x93,x94,x95,x96,x97,x98,x99,x100,x101,x102,x103,x104,x105,x106,x107,x108,x109,x110,x111,x112,x113,x114,x115,x116,x117,x118,x119,x120,x121,x122,x123,x124,x125,x126,v127,v128,v129,v130,v131,v132,v133,v134,v135,v136,v137,v138,v139,v140,v141,v142,v143,v144,v145,v146,v147,v148,v149,v150,v151,v152,v153,v154,v155,v156,v157,v158,v159,v160,v161,v162,v163,v164,v165,v166,v167,v168,v169,v170,v171,v172,v173,v174,v175,v176,v177,v178,v179,v180,v181,v182,v183,v184,v185,v186,v187,v188,v189,v190,v191,v192,v193,v194,v195,v196,v197,v198,v199,v200,v201,v202,v203,v204,v205,v206,v207,v208,v209,v210,v211,v212,v213,v214,v215,v216,v217,v218,v219,v220,v221,v222,v223,v224,v225,v226,v227,v228,v229,v230,v231,v232,v233,v234,v235,v236,v237,v238,v239,v240,v241,v242,v243,v244,v245,v246,v247,v248,v249,v250],[]⟩ w5) :
    Code.wp Tryz.prog pcCommit Qc ⟨#[v0,v1,v2,v3,v4,v5,v6,v7,.pointer (some ⟨d,0,none⟩),v9,.pointer (some ⟨f,0,none⟩),.int .i64 0,.pointer (some ⟨qn,0,none⟩),.pointer (some ⟨t,0,none⟩),.pointer (some ⟨qi,0,none⟩),v15,.pointer (some ⟨qa,0,none⟩),.pointer (some ⟨qm,0,none⟩),.int .i64 0,v19,v20,v21,u22,v23,v24,v25,v26,v27,v28,v29,v30,v31,v32,v33,v34,v35,v36,v37,v38,v39,v40,v41,v42,v43,v44,v45,v46,v47,v48,v49,v50,v51,v52,v53,v54,v55,v56,v57,v58,v59,v60,v61,v62,v63,v64,v65,v66,v67,v68,v69,v70,v71,v72,v73,v74,v75,v76,v77,v78,v79,v80,v81,v82,v83,v84,v85,v86,v87,v88,v89,v90,v91,u92,u93,u94,u95,u96,u97,u98,u99,u100,u101,u102,u103,u104,u105,u106,u107,u108,u109,u110,u111,u112,u113,u114,u115,u116,u117,u118,u119,u120,u121,u122,u123,u124,u125,u126,v127,v128,v129,v130,v131,v132,v133,v134,v135,v136,v137,v138,v139,v140,v141,v142,v143,v144,v145,v146,v147,v148,v149,v150,v151,v152,v153,v154,v155,v156,v157,v158,v159,v160,v161,v162,v163,v164,v165,v166,v167,v168,v169,v170,v171,v172,v173,v174,v175,v176,v177,v178,v179,v180,v181,v182,v183,v184,v185,v186,v187,v188,v189,v190,v191,v192,v193,v194,v195,v196,v197,v198,v199,v200,v201,v202,v203,v204,v205,v206,v207,v208,v209,v210,v211,v212,v213,v214,v215,v216,v217,v218,v219,v220,v221,v222,v223,v224,v225,v226,v227,v228,v229,v230,v231,v232,v233,v234,v235,v236,v237,v238,v239,v240,v241,v242,v243,v244,v245,v246,v247,v248,v249,v250],[]⟩ w := by
  conv => arg 2; whnf
  have HK := Lib.hid hK
  clear hK
  obtain ⟨pa,pc,fa,fc,k0,k1,_,_,hv⟩ := hq.i.cells
  have HV0 := Lib.hid hv
  have HS := Lib.hid h
  have HQ := Lib.hid hq
  obtain ⟨n,hn⟩ : ∃ n,n = I.length := ⟨_,rfl⟩
  have HN := Lib.hid hn
  have HND := Lib.hid h.nd
  clear hv h hq
  by_cases hn0 : n = 0
  · rw [← hn,hn0] at k0 k1
    clear hn
    refine wp_seq_k fun K1 hK1 => ?_
    have HK1 := Lib.hid hK1
    clear hK1
    go_wp2
    refine HK1.out _ _ ?_
    clear HK1 K1
    refine wp_seq_k fun K2 hK2 => ?_
    have HK2 := Lib.hid hK2
    clear hK2
    go_wp2
    refine HK2.out _ _ ?_
    clear HK2 K2
    refine pccommitB_any W w d f t qn qm qi qa lim c a F H I fh fi HS.out HQ.out hI hc hl 0 (.inl rfl) (by decide) _ _ _ _ _ _ _ _ _ _ _ _ _ _ _ _ _ _ _ _ _ _ _ _ _ _ _ _ _ _ _ _ _ _ _ _ _ _ _ _ _ _ _ _ _ _ _ _ _ _ _ _ _ _ _ _ _ _ _ _ _ _ _ _ _ _ _ _ _ _ _ _ _ _ _ _ _ _ _ _ _ _ _ _ _ _ _ _ _ _ _ _ _ _ _ _ _ _ _ _ _ _ _ _ _ _ _ _ _ _ _ _ _ _ _ _ _ _ _ _ _ _ _ _ _ _ _ _ _ _ _ _ _ _ _ _ _ _ _ _ _ _ _ _ _ _ _ _ _ _ _ _ _ _ _ _ _ _ _ _ _ _ _ _ _ _ _ _ _ _ _ _ _ _ _ _ _ _ _ _ _ _ _ _ _ _ _ _ _ _ _ _ _ _ _ _ _ _ _ _ _ _ _ _ _ _ _ _ _ _ _ _ _ _ _ _ _ _ _ _ _ _ _ _ _ _ _ _ _ _ _ _ _ _ _ _ _ _ _ _ _ (fun _ _ => True) _ (fun _ _ _ _ _ _ _ _ _ _ _ _ _ _ _ _ _ _ _ _ _ _ _ _ _ _ _ w5 g e tv H2 G2 fh2 fg2 g1 g2 g3 g4 => ?_)
    exact HK.out _ _ _ _ _ _ _ _ _ _ _ _ _ _ _ _ _ _ _ _ _ _ _ _ _ _ _ _ _ _ _ _ _ _ _ _ w5 g e tv H2 G2 fh2 fg2 g1 g2 g3 g4
  · have hpos : 0 < I.length := by omega
    obtain ⟨gp,rfl,hgp,hps⟩ := own_src2 HV0.out.p.1 hpos
    obtain ⟨gf,rfl,hgf,hfs⟩ := own_src2 HV0.out.f hpos
    have hcell := (hv_cells HV0.out hpos).1
    have hm : I.getD 0 0∈I := getD_mem hpos
    have hm2 := (HND.out.2 _ hm).2
    have HMM := Lib.hid hm
    obtain ⟨m,hmm⟩ : ∃ m,m = I.getD 0 0 := ⟨_,rfl⟩
    rw [← hmm] at hcell HMM hm2
    rw [← hn] at k0 k1
    have hn0p : (0 : Int) < (n : Int) := by omega
    clear hn hpos hps hfs hmm hn0 hgp hgf hm
    refine wp_seq_k fun K1 hK1 => ?_
    have HK1 := Lib.hid hK1
    clear hK1
    go_wp2
    refine HK1.out _ _ ?_
    clear HK1 K1
    refine wp_seq_k fun K2 hK2 => ?_
    have HK2 := Lib.hid hK2
    clear hK2
    go_wp2
    refine HK2.out _ _ ?_
    clear HK2 K2
    refine pccommitB_any W w d f t qn qm qi qa lim c a F H I fh fi HS.out HQ.out hI hc hl m (.inr HMM.out) (by omega) _ _ _ _ _ _ _ _ _ _ _ _ _ _ _ _ _ _ _ _ _ _ _ _ _ _ _ _ _ _ _ _ _ _ _ _ _ _ _ _ _ _ _ _ _ _ _ _ _ _ _ _ _ _ _ _ _ _ _ _ _ _ _ _ _ _ _ _ _ _ _ _ _ _ _ _ _ _ _ _ _ _ _ _ _ _ _ _ _ _ _ _ _ _ _ _ _ _ _ _ _ _ _ _ _ _ _ _ _ _ _ _ _ _ _ _ _ _ _ _ _ _ _ _ _ _ _ _ _ _ _ _ _ _ _ _ _ _ _ _ _ _ _ _ _ _ _ _ _ _ _ _ _ _ _ _ _ _ _ _ _ _ _ _ _ _ _ _ _ _ _ _ _ _ _ _ _ _ _ _ _ _ _ _ _ _ _ _ _ _ _ _ _ _ _ _ _ _ _ _ _ _ _ _ _ _ _ _ _ _ _ _ _ _ _ _ _ _ _ _ _ _ _ _ _ _ _ _ _ _ _ _ _ _ _ _ _ _ _ _ _ (fun _ _ => True) _ (fun _ _ _ _ _ _ _ _ _ _ _ _ _ _ _ _ _ _ _ _ _ _ _ _ _ _ _ w5 g e tv H2 G2 fh2 fg2 g1 g2 g3 g4 => ?_)
    exact HK.out _ _ _ _ _ _ _ _ _ _ _ _ _ _ _ _ _ _ _ _ _ _ _ _ _ _ _ _ _ _ _ _ _ _ _ _ w5 g e tv H2 G2 fh2 fg2 g1 g2 g3 g4
end Go.Proofs.YtnnmpaenainogaaGreat

namespace Go.Proofs.YtnnmpaenainogaaGreat
open Go.RowKit Go.Maps
theorem iand3 (n : Int) : bits .and .i64 n 3 = n % 4 := by
  have h15 : (BitVec.ofInt 64 3).toNat = 2 ^ 2 - 1 := by decide
  have key : (BitVec.ofInt 64 n &&& BitVec.ofInt 64 3).toNat = (n % ((2 ^ 64 : Nat) : Int)).toNat % 2 ^ 2 := by
    rw [BitVec.toNat_and,BitVec.toNat_ofInt,h15,Nat.and_two_pow_sub_one_eq_mod]
  show IntKind.i64.wrap ((BitVec.ofInt 64 n &&& BitVec.ofInt 64 3).toNat : Nat) = n % 4
  rw [key,IntKind.wrap_i64]
  omega
set_option maxRecDepth 1000000 in
set_option maxHeartbeats 8000000 in
theorem pcafter_any (W w : World) (d f qn qm qi qa lim c k K : Nat) (a : A11) (ap : Option Addr) (np cp : Nat) (rs : List RowP) (hrs : Bss W.heap.size W (.slice ap np cp) rs) (hkn : k < np) (g e : Int) (tv : Value) (H G I : List Nat) (fh fg fi : List Int) (h : PAo W.heap.size d f w lim c H G I fh fg fi g e tv) (hq : Q4 W w qn qm qi qa a H G I fh fg fi) (hc : c≤9600) (hl : lim≤100) (hH : H.length≤K) (hG : G.length≤K) (hI : I.length≤K) (hK9 : K≤60)
    (u6 u23 u24 u25 u26 u27 u172 u173 u174 u175 u176 u177 u178 u179 u180 u181 u182 u183 u184 u185 u186 u187 u188 u189 u190 u191 u192 u193 u194 u195 u196 u197 u198 u199 u200 u201 u202 u203 u204 u205 u206 u207 u208 u209 u210 u211 u212 u213 u214 u215 u216 u217 u218 u219 u220 u221 u222 u223 u224 u225 u226 u227 u228 u229 u230 u231 u232 u233 u234 u235 u236 u237 u238 u239 u240 u241 u242 u243 u244 u245 u246 u247 u248 u249 u250 v0 v1 v3 v4 v5 v7 v9 v19 v20 v21 v22 v28 v29 v30 v31 v32 v33 v34 v35 v36 v37 v38 v39 v40 v41 v42 v43 v44 v45 v46 v47 v48 v49 v50 v51 v52 v53 v54 v55 v56 v57 v58 v59 v60 v61 v62 v63 v64 v65 v66 v67 v68 v69 v70 v71 v72 v73 v74 v75 v76 v77 v78 v79 v80 v81 v82 v83 v84 v85 v86 v87 v88 v89 v90 v91 v92 v93 v94 v95 v96 v97 v98 v99 v100 v101 v102 v103 v104 v105 v106 v107 v108 v109 v110 v111 v112 v113 v114 v115 v116 v117 v118 v119 v120 v121 v122 v123 v124 v125 v126 v127 v128 v129 v130 v131 v132 v133 v134 v135 v136 v137 v138 v139 v140 v141 v142 v143 v144 v145 v146 v147 v148 v149 v150 v151 v152 v153 v154 v155 v156 v157 v158 v159 v160 v161 v162 v163 v164 v165 v166 v167 v168 v169 v170 v171 : Value) (Kc : Act→World→Prop) (Qc : Exit→Act→World→Prop)
    (hR : ∀ (tm : Array Value) (w5 : World),tm.getD 6 undef = .bool true→Below W.heap.size W w5→Qc .ret ⟨tm,[]⟩ w5)
    (hK : ∀ (x6 x23 x24 x25 x26 x27 x172 x173 x174 x175 x176 x177 x178 x179 x180 x181 x182 x183 x184 x185 x186 x187 x188 x189 x190 x191 x192 x193 x194 x195 x196 x197 x198 x199 x200 x201 x202 x203 x204 x205 x206 x207 x208 x209 x210 x211 x212 x213 x214 x215 x216 x217 x218 x219 x220 x221 x222 x223 x224 x225 x226 x227 x228 x229 x230 x231 x232 x233 x234 x235 x236 x237 x238 x239 x240 x241 x242 x243 x244 x245 x246 x247 x248 x249 x250 : Value) (w5 : World) (t2 f2 c2 : Nat) (F2 : FV) (H2 I2 : List Nat) (fh2 fi2 : List Int),KB W.heap.size d f2 t2 w5 lim c2 F2 H2 I2 fh2 fi2→Q4 W w5 qn qm qi qa a H2 G I2 fh2 fg fi2→c2≤c + lim + lim + 8 + K→H2.length≤K→I2.length≤K→Qc .normal ⟨#[v0,v1,.slice ap np cp,v3,v4,v5,x6,v7,.pointer (some ⟨d,0,none⟩),v9,.pointer (some ⟨f2,0,none⟩),.int .i64 0,.pointer (some ⟨qn,0,none⟩),.pointer (some ⟨t2,0,none⟩),.pointer (some ⟨qi,0,none⟩),.int .i64 (k : Int),.pointer (some ⟨qa,0,none⟩),.pointer (some ⟨qm,0,none⟩),.int .i64 g,v19,v20,v21,v22,x23,x24,x25,x26,x27,v28,v29,v30,v31,v32,v33,v34,v35,v36,v37,v38,v39,v40,v41,v42,v43,v44,v45,v46,v47,v48,v49,v50,v51,v52,v53,v54,v55,v56,v57,v58,v59,v60,v61,v62,v63,v64,v65,v66,v67,v68,v69,v70,v71,v72,v73,v74,v75,v76,v77,v78,v79,v80,v81,v82,v83,v84,v85,v86,v87,v88,v89,v90,v91,v92,v93,v94,v95,v96,v97,v98,v99,v100,v101,v102,v103,v104,v105,v106,v107,v108,v109,v110,v111,v112,v113,v114,v115,v116,v117,v118,v119,v120,v121,v122,v123,v124,v125,v126,v127,v128,v129,v130,v131,v132,v133,v134,v135,v136,v137,v138,v139,v140,v141,v142,v143,v144,v145,v146,v147,v148,v149,v150,v151,v152,v153,v154,v155,v156,v157,v158,v159,v160,v161,v162,v163,v164,v165,v166,v167,v168,v169,v170,v171,x172,x173,x174,x175,x176,x177,x178,x179,x180,x181,x182,x183,x184,x185,x186,x187,x188,x189,x190,x191,x192,x193,x194,x195,x196,x197,x198,x199,x200,x201,x202,x203,x204,x205,x206,x207,x208,x209,x210,x211,x212,x213,x214,x215,x216,x217,x218,x219,x220,x221,x222,x223,x224,x225,x226,x227,x228,x229,x230,x231,x232,x233,x234,x235,x236,x237,x238,x239,x240,x241,x242,x243,x244,x245,x246,x247,x248,x249,x250],[]⟩ w5) :
    Code.wp Tryz.prog pcAfter Qc ⟨#[v0,v1,.slice ap np cp,v3,v4,v5,u6,v7,.pointer (some ⟨d,0,none⟩),v9,.pointer (some ⟨f,0,none⟩),.int .i64 e,.pointer (some ⟨qn,0,none⟩),tv,.pointer (some ⟨qi,0,none⟩),.int .i64 (k : Int),.pointer (some ⟨qa,0,none⟩),.pointer (some ⟨qm,0,none⟩),.int .i64 g,v19,v20,v21,v22,u23,u24,u25,u26,u27,v28,v29,v30,v31,v32,v33,v34,v35,v36,v37,v38,v39,v40,v41,v42,v43,v44,v45,v46,v47,v48,v49,v50,v51,v52,v53,v54,v55,v56,v57,v58,v59,v60,v61,v62,v63,v64,v65,v66,v67,v68,v69,v70,v71,v72,v73,v74,v75,v76,v77,v78,v79,v80,v81,v82,v83,v84,v85,v86,v87,v88,v89,v90,v91,v92,v93,v94,v95,v96,v97,v98,v99,v100,v101,v102,v103,v104,v105,v106,v107,v108,v109,v110,v111,v112,v113,v114,v115,v116,v117,v118,v119,v120,v121,v122,v123,v124,v125,v126,v127,v128,v129,v130,v131,v132,v133,v134,v135,v136,v137,v138,v139,v140,v141,v142,v143,v144,v145,v146,v147,v148,v149,v150,v151,v152,v153,v154,v155,v156,v157,v158,v159,v160,v161,v162,v163,v164,v165,v166,v167,v168,v169,v170,v171,u172,u173,u174,u175,u176,u177,u178,u179,u180,u181,u182,u183,u184,u185,u186,u187,u188,u189,u190,u191,u192,u193,u194,u195,u196,u197,u198,u199,u200,u201,u202,u203,u204,u205,u206,u207,u208,u209,u210,u211,u212,u213,u214,u215,u216,u217,u218,u219,u220,u221,u222,u223,u224,u225,u226,u227,u228,u229,u230,u231,u232,u233,u234,u235,u236,u237,u238,u239,u240,u241,u242,u243,u244,u245,u246,u247,u248,u249,u250],[]⟩ w := by
  conv => arg 2; whnf
  have HK := Lib.hid hK
  clear hK
  have HX := Lib.hid hR
  clear hR
  have HQ := Lib.hid hq
  clear hq
  rcases h with ⟨rfl,rfl,t,F,rfl,hk⟩ | ⟨hg,F,hp⟩
  · have HS := Lib.hid hk
    clear hk
    refine wp_seq_k fun K0 hK0 => ?_
    have HK0 := Lib.hid hK0
    clear hK0
    go_wp2_with (first
      | (go_at_call 28; ((with_reducible refine (kn_calm HS.out).mono ?_); rintro r w1 ⟨rfl,ha,hf⟩; have HS1 := Lib.hid ha; have HQ1 := Lib.hid (HQ.out.kd hf); clear ha hf HS HQ)))
    refine HK0.out _ _ ?_
    clear HK0 K0
    refine wp_seq_k fun K1 hK1 => ?_
    have HK1 := Lib.hid hK1
    clear hK1
    obtain ⟨c0,c1,c2⟩ := cells3 HQ1.out.act
    have hb : bits .and .i64 a.n 3 = a.n % 4 := iand3 a.n
    obtain ⟨v,hv⟩ : ∃ v,v = a.n % 4 := ⟨_,rfl⟩
    rw [← hv] at hb
    by_cases h4 : v = 0
    · subst h4
      clear hv
      go_upto_if 185 with fail
      refine wp_cond_true rfl ?_
      refine pccrash_any W w1 d f qn qm qi qa lim c k a ap np cp rs hrs hkn F H G I fh fg fi (HS1.out.kn.ke.pc G fg) HQ1.out (by omega) hl _ _ _ _ _ _ _ _ _ _ _ _ _ _ _ _ _ _ _ _ _ _ _ _ _ _ _ _ _ _ _ _ _ _ _ _ _ _ _ _ _ _ _ _ _ _ _ _ _ _ _ _ _ _ _ _ _ _ _ _ _ _ _ _ _ _ _ _ _ _ _ _ _ _ _ _ _ _ _ _ _ _ _ _ _ _ _ _ _ _ _ _ _ _ _ _ _ _ _ _ _ _ _ _ _ _ _ _ _ _ _ _ _ _ _ _ _ _ _ _ _ _ _ _ _ _ _ _ _ _ _ _ _ _ _ _ _ _ _ _ _ _ _ _ _ _ _ _ _ _ _ _ _ _ _ _ _ _ _ _ _ _ _ _ _ _ _ _ _ _ _ _ _ _ _ _ _ _ _ _ _ _ _ _ _ _ _ _ _ _ _ _ _ _ _ _ _ _ _ _ _ _ _ _ _ _ _ _ _ _ _ _ _ _ _ _ _ _ _ _ _ _ _ _ _ _ _ _ _ _ _ _ _ _ _ _ _ _ _ _ _ _ _ (fun _ _ => True) _ (fun tm w5 e1 e2 => by (try simp +zetaDelta only [Exit.inBlock,Exit.then]); exact HX.out tm w5 e1 e2) (fun _ _ _ _ _ _ _ _ _ _ _ _ _ _ _ _ _ _ _ _ _ _ _ _ _ _ _ _ _ _ _ _ _ _ _ _ _ _ _ _ _ _ _ _ _ _ _ _ _ _ _ _ w5 t2 f2 F2 H2 fh2 k1 k2 k5 => ?_)
      have hH2 : H2.length≤K := by rcases k5 with rfl | rfl <;> assumption
      refine HK1.out _ _ ?_
      refine pctail_any W w5 d f2 t2 qn qm qi qa lim (c + lim + lim + 8) a F2 H2 G H2 fh2 fg fh2 k1 k2 (by omega) (by omega) _ _ _ _ _ _ _ _ _ _ _ _ _ _ _ _ _ _ _ _ _ _ _ _ _ _ _ _ _ _ _ _ _ _ _ _ _ _ _ _ _ _ _ _ _ _ _ _ _ _ _ _ _ _ _ _ _ _ _ _ _ _ _ _ _ _ _ _ _ _ _ _ _ _ _ _ _ _ _ _ _ _ _ _ _ _ _ _ _ _ _ _ _ _ _ _ _ _ _ _ _ _ _ _ _ _ _ _ _ _ _ _ _ _ _ _ _ _ _ _ _ _ _ _ _ _ _ _ _ _ _ _ _ _ _ _ _ _ _ _ _ _ _ _ _ _ _ _ _ _ _ _ _ _ _ _ _ _ _ _ _ _ _ _ _ _ _ _ _ _ _ _ _ _ _ _ _ _ _ _ _ _ _ _ _ _ _ _ _ _ _ _ _ _ _ _ _ _ _ _ _ _ _ _ _ _ _ _ _ _ _ _ _ _ _ _ _ _ _ _ _ _ _ _ _ _ _ _ _ _ _ _ _ _ _ _ _ _ _ _ _ _ _ _ _ (fun _ _ => True) _ (fun _ _ _ _ _ _ _ _ _ _ _ _ _ _ _ _ _ _ _ _ w9 k3 k4 => ?_)
      exact HK.out _ _ _ _ _ _ _ _ _ _ _ _ _ _ _ _ _ _ _ _ _ _ _ _ _ _ _ _ _ _ _ _ _ _ _ _ _ _ _ _ _ _ _ _ _ _ _ _ _ _ _ _ _ _ _ _ _ _ _ _ _ _ _ _ _ _ _ _ _ _ _ _ _ _ _ _ _ _ _ _ _ _ _ _ _ w9 t2 f2 _ F2 H2 H2 fh2 fh2 k3 k4 (by omega) (by omega) (by omega)
    · have h4b : (v == 0) = false := by simpa using h4
      clear hv
      go_upto_if 185 with fail
      refine wp_cond_false rfl ?_
      go_wp2
      refine HK1.out _ _ ?_
      have k1 := HS1.out
      have k2 := HQ1.out
      refine pctail_any W w1 d f t qn qm qi qa lim c a F H G I fh fg fi k1 k2 (by omega) (by omega) _ _ _ _ _ _ _ _ _ _ _ _ _ _ _ _ _ _ _ _ _ _ _ _ _ _ _ _ _ _ _ _ _ _ _ _ _ _ _ _ _ _ _ _ _ _ _ _ _ _ _ _ _ _ _ _ _ _ _ _ _ _ _ _ _ _ _ _ _ _ _ _ _ _ _ _ _ _ _ _ _ _ _ _ _ _ _ _ _ _ _ _ _ _ _ _ _ _ _ _ _ _ _ _ _ _ _ _ _ _ _ _ _ _ _ _ _ _ _ _ _ _ _ _ _ _ _ _ _ _ _ _ _ _ _ _ _ _ _ _ _ _ _ _ _ _ _ _ _ _ _ _ _ _ _ _ _ _ _ _ _ _ _ _ _ _ _ _ _ _ _ _ _ _ _ _ _ _ _ _ _ _ _ _ _ _ _ _ _ _ _ _ _ _ _ _ _ _ _ _ _ _ _ _ _ _ _ _ _ _ _ _ _ _ _ _ _ _ _ _ _ _ _ _ _ _ _ _ _ _ _ _ _ _ _ _ _ _ _ _ _ _ _ _ _ (fun _ _ => True) _ (fun _ _ _ _ _ _ _ _ _ _ _ _ _ _ _ _ _ _ _ _ w9 k3 k4 => ?_)
      exact HK.out _ _ _ _ _ _ _ _ _ _ _ _ _ _ _ _ _ _ _ _ _ _ _ _ _ _ _ _ _ _ _ _ _ _ _ _ _ _ _ _ _ _ _ _ _ _ _ _ _ _ _ _ _ _ _ _ _ _ _ _ _ _ _ _ _ _ _ _ _ _ _ _ _ _ _ _ _ _ _ _ _ _ _ _ _ w9 t f _ F H I fh fi k3 k4 (by omega) (by omega) (by omega)
  · have HS := Lib.hid hp
    have hg1 : (g == 0) = false := by simpa using hg
    have hg2 : (g != 0) = true := by simpa using hg
    clear hp
    refine wp_seq_k fun K0 hK0 => ?_
    have HK0 := Lib.hid hK0
    clear hK0
    go_wp2_with (first
      | (go_at_call 28; ((with_reducible refine (pc_calm HS.out).mono ?_); rintro r w1 ⟨rfl,ha,hf⟩; have HS1 := Lib.hid ha; have HQ1 := Lib.hid (HQ.out.kd hf); clear ha hf HS HQ)))
    refine HK0.out _ _ ?_
    clear HK0 K0
    refine wp_seq_k fun K1 hK1 => ?_
    have HK1 := Lib.hid hK1
    clear hK1
    go_upto_if 185 with fail
    refine wp_cond_true rfl ?_
    refine pccrash_any W w1 d f qn qm qi qa lim c k a ap np cp rs hrs hkn F H G I fh fg fi HS1.out HQ1.out (by omega) hl _ _ _ _ _ _ _ _ _ _ _ _ _ _ _ _ _ _ _ _ _ _ _ _ _ _ _ _ _ _ _ _ _ _ _ _ _ _ _ _ _ _ _ _ _ _ _ _ _ _ _ _ _ _ _ _ _ _ _ _ _ _ _ _ _ _ _ _ _ _ _ _ _ _ _ _ _ _ _ _ _ _ _ _ _ _ _ _ _ _ _ _ _ _ _ _ _ _ _ _ _ _ _ _ _ _ _ _ _ _ _ _ _ _ _ _ _ _ _ _ _ _ _ _ _ _ _ _ _ _ _ _ _ _ _ _ _ _ _ _ _ _ _ _ _ _ _ _ _ _ _ _ _ _ _ _ _ _ _ _ _ _ _ _ _ _ _ _ _ _ _ _ _ _ _ _ _ _ _ _ _ _ _ _ _ _ _ _ _ _ _ _ _ _ _ _ _ _ _ _ _ _ _ _ _ _ _ _ _ _ _ _ _ _ _ _ _ _ _ _ _ _ _ _ _ _ _ _ _ _ _ _ _ _ _ _ _ _ _ _ _ _ _ (fun _ _ => True) _ (fun tm w5 e1 e2 => by (try simp +zetaDelta only [Exit.inBlock,Exit.then]); exact HX.out tm w5 e1 e2) (fun _ _ _ _ _ _ _ _ _ _ _ _ _ _ _ _ _ _ _ _ _ _ _ _ _ _ _ _ _ _ _ _ _ _ _ _ _ _ _ _ _ _ _ _ _ _ _ _ _ _ _ _ w5 t2 f2 F2 H2 fh2 k1 k2 k5 => ?_)
    have hH2 : H2.length≤K := by rcases k5 with rfl | rfl <;> assumption
    refine HK1.out _ _ ?_
    refine pctail_any W w5 d f2 t2 qn qm qi qa lim (c + lim + lim + 8) a F2 H2 G H2 fh2 fg fh2 k1 k2 (by omega) (by omega) _ _ _ _ _ _ _ _ _ _ _ _ _ _ _ _ _ _ _ _ _ _ _ _ _ _ _ _ _ _ _ _ _ _ _ _ _ _ _ _ _ _ _ _ _ _ _ _ _ _ _ _ _ _ _ _ _ _ _ _ _ _ _ _ _ _ _ _ _ _ _ _ _ _ _ _ _ _ _ _ _ _ _ _ _ _ _ _ _ _ _ _ _ _ _ _ _ _ _ _ _ _ _ _ _ _ _ _ _ _ _ _ _ _ _ _ _ _ _ _ _ _ _ _ _ _ _ _ _ _ _ _ _ _ _ _ _ _ _ _ _ _ _ _ _ _ _ _ _ _ _ _ _ _ _ _ _ _ _ _ _ _ _ _ _ _ _ _ _ _ _ _ _ _ _ _ _ _ _ _ _ _ _ _ _ _ _ _ _ _ _ _ _ _ _ _ _ _ _ _ _ _ _ _ _ _ _ _ _ _ _ _ _ _ _ _ _ _ _ _ _ _ _ _ _ _ _ _ _ _ _ _ _ _ _ _ _ _ _ _ _ _ _ _ _ (fun _ _ => True) _ (fun _ _ _ _ _ _ _ _ _ _ _ _ _ _ _ _ _ _ _ _ w9 k3 k4 => ?_)
    exact HK.out _ _ _ _ _ _ _ _ _ _ _ _ _ _ _ _ _ _ _ _ _ _ _ _ _ _ _ _ _ _ _ _ _ _ _ _ _ _ _ _ _ _ _ _ _ _ _ _ _ _ _ _ _ _ _ _ _ _ _ _ _ _ _ _ _ _ _ _ _ _ _ _ _ _ _ _ _ _ _ _ _ _ _ _ _ w9 t2 f2 _ F2 H2 H2 fh2 fh2 k3 k4 (by omega) (by omega) (by omega)
end Go.Proofs.YtnnmpaenainogaaGreat

/-
  append onto a row of the call's own: the row behind it is the old one or a new one; as a law and as a step of a region that draws. Own work (out of OctL).
-/
import Derived.Test.YtnnmpaenainogaaGreatPrnAK
import Derived.Laws.AppendOwnNone
import Derived.Deep.RegionLaw
import Derived.Test.YtnnmpaenainogaaGreatPrnAC
import Derived.Test.YtnnmpaenainogaaGreatPrnAB

set_option linter.unusedVariables false
set_option linter.unusedSimpArgs false
namespace Go.Proofs.YtnnmpaenainogaaGreat
open Go.RowKit
end Go.Proofs.YtnnmpaenainogaaGreat

namespace Go.Proofs.YtnnmpaenainogaaGreat
open Go.RowKit Go.Maps
def spc (B en lim low : Nat) (wv : Value) : Array Value := #[.int .u32 (en : Int),.int .u32 (lim : Int),.int .u32 (low : Int),.map (some B),.map (some (B + 1)),.map (some (B + 2)),.map (some (B + 3)),wv]
structure Fiv (B : Nat) (w : World) (en lim low : Nat) (us fr go wa : List Nat) (wv : Value) : Prop where
  box : w.heap[B + 4]? = some (.cells (spc B en lim low wv) 220 (0,0))
  us : SetAt w B us
  fr : SetAt w (B + 1) fr
  go : SetAt w (B + 2) go
  wa : SetAt w (B + 3) wa
theorem cells8 {w : World} {q : Nat} {a b c d e f g h : Value} {t : TypeId} (k : w.heap[q]? = some (.cells #[a,b,c,d,e,f,g,h] t (0,0))) :
    w.cell? ⟨q,0,none⟩ = some a∧w.cell? ⟨q,1,none⟩ = some b∧w.cell? ⟨q,2,none⟩ = some c∧w.cell? ⟨q,3,none⟩ = some d∧w.cell? ⟨q,4,none⟩ = some e∧w.cell? ⟨q,5,none⟩ = some f∧w.cell? ⟨q,6,none⟩ = some g∧w.cell? ⟨q,7,none⟩ = some h := by
  simp [World.cell?,k]
theorem free_row {w : World} {q : Nat} {cs : Array Value} {t : TypeId} (k : w.heap[q]? = some (.cells cs t (0,0))) (j : Nat) : w.frozen? ⟨q,j,none⟩ = false := by
  simp [World.frozen?,k]
theorem Fiv.cells {B : Nat} {w : World} {en lim low : Nat} {us fr go wa : List Nat} {wv : Value} (h : Fiv B w en lim low us fr go wa wv) :
    w.cell? ⟨B + 4,0,none⟩ = some (.int .u32 (en : Int))∧w.cell? ⟨B + 4,1,none⟩ = some (.int .u32 (lim : Int))∧w.cell? ⟨B + 4,2,none⟩ = some (.int .u32 (low : Int))∧w.cell? ⟨B + 4,3,none⟩ = some (.map (some B)) ∧
    w.cell? ⟨B + 4,4,none⟩ = some (.map (some (B + 1)))∧w.cell? ⟨B + 4,5,none⟩ = some (.map (some (B + 2)))∧w.cell? ⟨B + 4,6,none⟩ = some (.map (some (B + 3)))∧w.cell? ⟨B + 4,7,none⟩ = some wv := cells8 h.box
theorem Fiv.kept {B : Nat} {w w' : World} {en lim low : Nat} {us fr go wa : List Nat} {wv : Value} (h : Fiv B w en lim low us fr go wa wv) (k : ∀ i,B≤i→i < B + 5→w'.heap[i]? = w.heap[i]?) : Fiv B w' en lim low us fr go wa wv :=
  ⟨(k _ (by omega) (by omega)).trans h.box,h.us.kept (k _ (by omega) (by omega)),h.fr.kept (k _ (by omega) (by omega)),h.go.kept (k _ (by omega) (by omega)),h.wa.kept (k _ (by omega) (by omega))⟩
theorem Fiv.lt {B : Nat} {w : World} {en lim low : Nat} {us fr go wa : List Nat} {wv : Value} (h : Fiv B w en lim low us fr go wa wv) : B + 5≤w.heap.size := by
  have := lt_of_block h.box; omega
theorem Fiv.grown {B : Nat} {w w' : World} {en lim low : Nat} {us fr go wa : List Nat} {wv : Value} (h : Fiv B w en lim low us fr go wa wv) (k : w.grownBy w' none) : Fiv B w' en lim low us fr go wa wv :=
  h.kept fun i _ hi => k.block i (by have := h.lt; omega) (by simp)
theorem turned_other {w w' : World} {b i : Nat} (k : w.mapTurned w' b) (hi : i≠b) : w'.heap[i]? = w.heap[i]? := by
  obtain ⟨es,clock,es',clock',hb,rfl⟩ := k
  exact ChangeMaps.heap_setBlock_other hb _ hi
theorem Fiv.us' {B : Nat} {w w' : World} {en lim low : Nat} {us us' fr go wa : List Nat} {wv : Value} (h : Fiv B w en lim low us fr go wa wv) (k : w.mapTurned w' B) (s : SetAt w' B us') : Fiv B w' en lim low us' fr go wa wv :=
  ⟨(turned_other k (by omega)).trans h.box,s,h.fr.kept (turned_other k (by omega)),h.go.kept (turned_other k (by omega)),h.wa.kept (turned_other k (by omega))⟩
theorem Fiv.fr' {B : Nat} {w w' : World} {en lim low : Nat} {us fr fr' go wa : List Nat} {wv : Value} (h : Fiv B w en lim low us fr go wa wv) (k : w.mapTurned w' (B + 1)) (s : SetAt w' (B + 1) fr') : Fiv B w' en lim low us fr' go wa wv :=
  ⟨(turned_other k (by omega)).trans h.box,h.us.kept (turned_other k (by omega)),s,h.go.kept (turned_other k (by omega)),h.wa.kept (turned_other k (by omega))⟩
theorem Fiv.go' {B : Nat} {w w' : World} {en lim low : Nat} {us fr go go' wa : List Nat} {wv : Value} (h : Fiv B w en lim low us fr go wa wv) (k : w.mapTurned w' (B + 2)) (s : SetAt w' (B + 2) go') : Fiv B w' en lim low us fr go' wa wv :=
  ⟨(turned_other k (by omega)).trans h.box,h.us.kept (turned_other k (by omega)),h.fr.kept (turned_other k (by omega)),s,h.wa.kept (turned_other k (by omega))⟩
theorem Fiv.wa' {B : Nat} {w w' : World} {en lim low : Nat} {us fr go wa wa' : List Nat} {wv : Value} (h : Fiv B w en lim low us fr go wa wv) (k : w.mapTurned w' (B + 3)) (s : SetAt w' (B + 3) wa') : Fiv B w' en lim low us fr go wa' wv :=
  ⟨(turned_other k (by omega)).trans h.box,h.us.kept (turned_other k (by omega)),h.fr.kept (turned_other k (by omega)),h.go.kept (turned_other k (by omega)),s⟩
theorem set_other (w : World) (a : Addr) (u : Value) {i : Nat} (h : i≠a.block) : (w.setCell a u).heap[i]? = w.heap[i]? := Below.heap_setCell _ _ _ _ h
theorem Fiv.set {B : Nat} {w : World} {en lim low en' lim' low' : Nat} {us fr go wa : List Nat} {wv wv' : Value} (h : Fiv B w en lim low us fr go wa wv) (j : Nat) (u : Value) (e : (spc B en lim low wv).setIfInBounds j u = spc B en' lim' low' wv') :
    Fiv B (w.setCell ⟨B + 4,j,none⟩ u) en' lim' low' us fr go wa wv' := by
  refine ⟨?_,h.us.kept (set_other _ _ _ (by simp)),h.fr.kept (set_other _ _ _ (by simp)),h.go.kept (set_other _ _ _ (by simp)),h.wa.kept (set_other _ _ _ (by simp))⟩
  rw [← e]
  simp [World.setCell,Array.getElem?_modify,h.box]
theorem fiv_made (w : World) (en lim : Nat) : Fiv w.heap.size (((((w.alloc (.map #[] 0)).alloc (.map #[] 0)).alloc (.map #[] 0)).alloc (.map #[] 0)).alloc (.cells (spc w.heap.size en lim 2 (.slice none 0 0)) 220)) en lim 2 [] [] [] [] (.slice none 0 0) := by
  have s0 := set_made w
  have s1 := set_made (w.alloc (.map #[] 0))
  have s2 := set_made ((w.alloc (.map #[] 0)).alloc (.map #[] 0))
  have s3 := set_made (((w.alloc (.map #[] 0)).alloc (.map #[] 0)).alloc (.map #[] 0))
  have b := heap_alloc_new ((((w.alloc (.map #[] 0)).alloc (.map #[] 0)).alloc (.map #[] 0)).alloc (.map #[] 0)) (.cells (spc w.heap.size en lim 2 (.slice none 0 0)) 220)
  have g : ∀ (W : World) (o : Obj),W.grownBy (W.alloc o) none := fun W o => World.grownBy_alloc W o none
  refine ⟨?_,(((s0.grown (g _ _)).grown (g _ _)).grown (g _ _)).grown (g _ _),?_,?_,?_⟩
  · rw [show w.heap.size + 4 = ((((w.alloc (.map #[] 0)).alloc (.map #[] 0)).alloc (.map #[] 0)).alloc (.map #[] 0)).heap.size by simp]; exact b
  · rw [show w.heap.size + 1 = (w.alloc (.map #[] 0)).heap.size by simp]; exact ((s1.grown (g _ _)).grown (g _ _)).grown (g _ _)
  · rw [show w.heap.size + 2 = ((w.alloc (.map #[] 0)).alloc (.map #[] 0)).heap.size by simp]; exact (s2.grown (g _ _)).grown (g _ _)
  · rw [show w.heap.size + 3 = (((w.alloc (.map #[] 0)).alloc (.map #[] 0)).alloc (.map #[] 0)).heap.size by simp]; exact s3.grown (g _ _)
def rcl (y : Value × Rc) : List Value := [.int .u64 (y.2.1 : Int),y.1]
structure RcOwns (base : Nat) (w : World) (lv : Value) (es : List (Value × Rc)) : Prop where
  row : w.ownsRow base 158 2 lv es.length (es.flatMap rcl)
  each : ∀ y∈es,OwnP base w y.1 y.2.2∧y.2.1 < 18446744073709551616
theorem RcOwns.nil (base : Nat) (w : World) : RcOwns base w (.slice none 0 0) [] := ⟨World.ownsRow_nil _ _ _ _,fun y hy => by cases hy⟩
theorem RcOwns.kept {base : Nat} {w w' : World} {lv : Value} {es : List (Value × Rc)} (h : RcOwns base w lv es) (k : ∀ i,base≤i→i < w.heap.size→w'.heap[i]? = w.heap[i]?) : RcOwns base w' lv es := by
  have ow : ∀ {e : TypeId} {size n : Nat} {v : Value} {xs : List Value},w.ownsRow base e size v n xs→w'.ownsRow base e size v n xs := fun {e size n v xs} h => by
    refine ⟨h.1,?_⟩
    rcases h.2 with hn | ⟨g,cap,cur,rfl,hb,hgg,rest⟩
    · exact .inl hn
    · exact .inr ⟨g,cap,cur,rfl,hb,(k g hb (lt_of_block hgg)).trans hgg,rest⟩
  exact ⟨ow h.row,fun y hy => ⟨⟨ow (h.each y hy).1.1,(h.each y hy).1.2⟩,(h.each y hy).2⟩⟩
theorem RcOwns.grown {base : Nat} {w w' : World} {lv : Value} {es : List (Value × Rc)} (h : RcOwns base w lv es) (k : w.grownBy w' none) : RcOwns base w' lv es := h.kept fun i _ hi => k.block i hi (by simp)
theorem OwnP.apart {base b2 : Nat} {w w' : World} {lv v : Value} {n : Nat} {xs : List Value} {ps : List Nat} (h : OwnP base w v ps) (hr : w.ownsRow b2 158 2 lv n xs) (k : w.grownBy w' lv.ownBlock) : OwnP base w' v ps := by
  refine ⟨World.ownsRow.kept h.1 k ?_,h.2⟩
  cases hv : v.ownBlock with
  | none => exact .inl rfl
  | some g =>
    right
    intro e
    rcases h.1.2 with ⟨hv',_⟩ | ⟨q,cap,cur,rfl,_,hq,_⟩
    · rw [hv'] at hv; cases hv
    · rcases hr.2 with ⟨hl,_⟩ | ⟨q2,cap2,cur2,hl,_,hq2,_⟩
      · rw [hl] at e; cases e
      · rw [hl] at e
        simp [Value.ownBlock] at hv e
        subst hv
        subst e
        rw [hq] at hq2
        injection hq2 with hq2
        injection hq2 with _ ht _
        exact absurd ht (by decide)
theorem RcOwns.push {base : Nat} {w w1 : World} {lv v' : Value} {es : List (Value × Rc)} {y : Value × Rc} (h : RcOwns base w lv es) (h1 : OwnP base w y.1 y.2.2) (h3 : y.2.1 < 18446744073709551616)
    (hrow : w1.ownsRow base 158 2 v' (es.length + 1) (es.flatMap rcl++rcl y)) (hg : w.grownBy w1 lv.ownBlock) : RcOwns base w1 v' (es++[y]) := by
  refine ⟨by simpa [List.flatMap_append] using hrow,fun z hz => ?_⟩
  rcases List.mem_append.1 hz with hz | hz
  · obtain ⟨g1,g3⟩ := h.each z hz
    exact ⟨g1.apart h.row hg,g3⟩
  · have : z = y := by simpa using hz
    subst this
    exact ⟨h1.apart h.row hg,h3⟩
theorem flat2 : ∀ (es : List (Value × Rc)) (i : Nat) (y : Value × Rc),es[i]? = some y→(es.flatMap rcl)[i * 2]? = some (.int .u64 (y.2.1 : Int))∧(es.flatMap rcl)[i * 2 + 1]? = some y.1
  | [],i,y,h => by simp at h
  | z :: es,0,y,h => by
    have : z = y := by simpa using h
    subst this
    exact ⟨rfl,rfl⟩
  | z :: es,i + 1,y,h => by
    have ih := flat2 es i y (by simpa using h)
    rw [show (i + 1) * 2 = i * 2 + 2 by omega]
    exact ih
theorem RcOwns.rsq {base : Nat} {w : World} {lv : Value} {es : List (Value × Rc)} (h : RcOwns base w lv es) : RSq (fun b => base≤b) w lv (es.map (·.2)) := by
  have hr := h.row
  rcases h.row.2 with ⟨hv,hn⟩ | ⟨q,cap,cur,hv,hb,hq,hnc,hcm,hcs,ht⟩
  · rw [List.eq_nil_of_length_eq_zero hn]
    rw [hv]; exact rsq_nil _ _
  · refine ⟨some ⟨q,0,none⟩,cap,by rw [hv]; simp,by simpa using hnc,hcm,fun hne => ⟨q,0,rfl,hb,fun i x hx => ?_⟩⟩
    rw [List.getElem?_map] at hx
    obtain ⟨y,hy,rfl⟩ := Option.map_eq_some_iff.1 hx
    obtain ⟨c0,c1⟩ := flat2 es i y hy
    obtain ⟨g1,g3⟩ := h.each y (List.mem_of_getElem? hy)
    have hc := hr.cells (g := q) (by rw [hv]; rfl)
    rw [Nat.zero_add]
    refine ⟨?_,g3,y.1,?_,g1.psq⟩
    · have := hc _ _ c0; rwa [Addr.add_lit,Nat.zero_add] at this
    · have := hc _ _ c1; rwa [Addr.add_lit,Nat.zero_add] at this
theorem grow_own {a b c : World} {base size n : Nat} {e : TypeId} {v : Value} {xs : List Value} (h : a.grownBy b none) (hr : b.ownsRow base e size v n xs) (k : b.grownBy c v.ownBlock) (hb : a.heap.size≤base) : a.grownBy c none :=
  ⟨k.os.trans h.os,k.tape.trans h.tape,k.output.trans h.output,Nat.le_trans h.size k.size,fun i hi _ => (k.block i (Nat.lt_of_lt_of_le hi h.size) (fun e => by have := (hr.lt i e.symm).1; omega)).trans (h.block i hi (by simp))⟩
theorem lit2 (w : World) (t : Nat) (v : Value) : ∀ j u,(rcl (v,(t,[])))[j]? = some u→(w.alloc (.cells #[.int .u64 (t : Int),v] 158)).cell? ((⟨w.heap.size,0,none⟩ : Addr).add j) = some u := by
  intro j u hj
  rw [Addr.add_lit,Nat.zero_add,World.cell?_alloc_mark]
  simpa [rcl] using hj
theorem one2 (a1 : Option Addr) (n1 c1 t : Nat) : ∀ u∈rcl (.slice a1 n1 c1,(t,[])),u.oneCell' = true := by
  intro u hu
  simp only [rcl,List.mem_cons,List.not_mem_nil,or_false] at hu
  rcases hu with rfl | rfl <;> rfl
end Go.Proofs.YtnnmpaenainogaaGreat

namespace Go.Proofs.YtnnmpaenainogaaGreat
open Go.RowKit Go.Maps
theorem lit_cells (w : World) (a b : Value) : (w.alloc (.cells #[a,b] 158)).heap[w.heap.size]? = some (.cells #[a,b] 158 (0,0)) := heap_alloc_new _ _
structure NwAt (B : Nat) (w : World) (en lim old : Nat) (l : List Rc) (wv : Value) (es : List (Value × Rc)) : Prop where
  fiv : Fiv B w en lim 2 (insAll (allOf (oldRecs old l)) []) [] [] (insAll (allOf (newRecs old l)) []) wv
  rows : RcOwns (B + 5) w wv es
  same : es.map (·.2) = newRecs old l
def NewR (w : World) (en lim old : Nat) (l : List Rc) (r : Ending) (w' : World) : Prop := ∃ B wv es,r = .returned (.tuple #[.pointer (some ⟨B + 4,0,none⟩),.int .i64 0])∧w.heap.size≤B∧NwAt B w' en lim old l wv es∧w.grownBy w' none
set_option maxHeartbeats 4000000 in
theorem snew_good (w : World) (R : Nat→Prop) (ao : Option Addr) (n c en lim old : Nat) (l : List Rc) (hs : RSq R w (.slice ao n c) l) (h1 : 2≤en) (h2 : en≤lim) (h3 : lim≤65536) (h4 : right l en = true) (ho : old < 18446744073709551616) :
    Calls Tryz.prog 64 #[.int .u32 (en : Int),.int .u32 (lim : Int),.slice ao n c,.int .u64 (old : Int)] w fun r w' => NewR w en lim old l r w' := by
  have i1 : ¬ (en : Int) < 2 := by omega
  have i2 : ¬ (lim : Int) < (en : Int) := by omega
  have i3 : ¬ (65536 : Int) < (lim : Int) := by omega
  have he : en < 4294967296 := by omega
  obtain ⟨j0,hj,hw0,hw1,hw2⟩ := info_parts infoRec
  have hok := right_iff.1 h4
  have hll := okr_len hok
  have hlen : l.length≤65536 := by omega
  have HOK := Lib.hid hok
  have HR := Lib.hid h4
  have Hs := Lib.hid hs
  obtain ⟨hn,hm⟩ := hs.len
  have hN := Lib.hid hn
  have hn6 : n≤65536 := by omega
  have hn7 : (n : Int)≤65536 := by omega
  have hmm := @run_makeMap Tryz.prog
  clear hs h4 hok hn hm hll hlen
  go_enter Tryz.func64,Tryz.ntmps64
  go_wp2_with (first
    | (go_at_call 36; (with_reducible refine (right_any w R ao n c l en Hs.out he).mono ?_); rw [HR.out]; rintro r w1 ⟨rfl,hg⟩; have HG := Lib.hid hg; clear hg))
  have hF : Fiv w1.heap.size (((((w1.alloc (.map #[] 0)).alloc (.map #[] 0)).alloc (.map #[] 0)).alloc (.map #[] 0)).alloc (.cells #[.int .u32 (en : Int),.int .u32 (lim : Int),.int .u32 2,.map (some w1.heap.size),.map (some (w1.heap.size + 1)),.map (some (w1.heap.size + 1 + 1)),.map (some (w1.heap.size + 1 + 1 + 1)),.slice none 0 0] 220)) en lim 2 [] [] [] [] (.slice none 0 0) := fiv_made w1 en lim
  have hG : w.grownBy (((((w1.alloc (.map #[] 0)).alloc (.map #[] 0)).alloc (.map #[] 0)).alloc (.map #[] 0)).alloc (.cells #[.int .u32 (en : Int),.int .u32 (lim : Int),.int .u32 2,.map (some w1.heap.size),.map (some (w1.heap.size + 1)),.map (some (w1.heap.size + 1 + 1)),.map (some (w1.heap.size + 1 + 1 + 1)),.slice none 0 0] 220)) none := gtrans (gtrans (gtrans (gtrans (gtrans HG.out (World.grownBy_alloc _ _ _)) (World.grownBy_alloc _ _ _)) (World.grownBy_alloc _ _ _)) (World.grownBy_alloc _ _ _)) (World.grownBy_alloc _ _ _)
  generalize (((((w1.alloc (.map #[] 0)).alloc (.map #[] 0)).alloc (.map #[] 0)).alloc (.map #[] 0)).alloc (.cells #[.int .u32 (en : Int),.int .u32 (lim : Int),.int .u32 2,.map (some w1.heap.size),.map (some (w1.heap.size + 1)),.map (some (w1.heap.size + 1 + 1)),.map (some (w1.heap.size + 1 + 1 + 1)),.slice none 0 0] 220)) = W0 at hF hG ⊢
  simp only [Nat.add_assoc,Nat.reduceAdd]
  have hB := HG.out.size
  generalize w1.heap.size = B at hF hB ⊢
  have HF := Lib.hid hF
  have HG0 := Lib.hid hG
  clear hF hG
  go_loopw [40] (fun i wr => ∃ (k : Nat) (wv : Value) (es : List (Value × Rc)),k≤n∧i = .int .i64 (k : Int)∧NwAt B wr en lim old (l.take k) wv es∧w.grownBy wr none) (fun i _ => n - (intOf i).toNat)
  case atStart => exact ⟨0,_,[],Nat.zero_le _,rfl,⟨HF.out,RcOwns.nil _ _,rfl⟩,HG0.out⟩
  case round =>
    obtain ⟨k,wv,es,hk,rfl,hN1,hg⟩ := hrel
    have HN := Lib.hid hN1
    have HGr := Lib.hid hg
    clear hN1 hg
    by_cases hlt : k < n
    · have hki : (k : Int) < (n : Int) := by omega
      have hkl : k < l.length := by rw [← hN.out]; exact hlt
      obtain ⟨r,hr⟩ : ∃ r,l[k]? = some r := ⟨l[k],List.getElem?_eq_getElem hkl⟩
      obtain ⟨b,o,rfl,hRb,c0,hT64,a1,q1,c1,hp⟩ := Hs.out.at k r hr
      have d0 := HGr.out.cell c0 (by simp)
      have d1 := HGr.out.cell c1 (by simp)
      have hmem : r∈l := List.mem_of_getElem? hr
      have hpn := (HOK.out.each r hmem).2.2
      have hpl := okr_each HOK.out hmem
      have HTK := Lib.hid (take_snoc hr)
      obtain ⟨T,ps⟩ := r
      have HP := Lib.hid hp
      have HPN := Lib.hid (show ps≠[] from hpn)
      simp only at d0 d1 HP hpl hT64
      have HPL := Lib.hid (show ps.length≤35184372088831 by omega)
      clear hp hr c0 c1 hmem hpn
      generalize hm : ps.length = m at d1
      rw [hm] at HP hpl
      have HM := Lib.hid hm
      clear hm
      have b0 := lit_cells wr (.int .u64 (T : Int)) (.slice a1 m q1)
      have hF1 := HN.out.fiv.grown (World.grownBy_alloc wr (.cells #[.int .u64 (T : Int),.slice a1 m q1] 158) none)
      have hR1 := HN.out.rows.grown (World.grownBy_alloc wr (.cells #[.int .u64 (T : Int),.slice a1 m q1] 158) none)
      have hG1 := gtrans HGr.out (World.grownBy_alloc wr (.cells #[.int .u64 (T : Int),.slice a1 m q1] 158) none)
      have hP1 := HP.out.grown hG1
      by_cases hto : T≤old
      · have hti : (T : Int)≤(old : Int) := by omega
        go_wp2_with fail
        generalize wr.alloc (.cells #[.int .u64 (T : Int),.slice a1 m q1] 158) = W1 at b0 hF1 hR1 hG1 hP1 ⊢
        obtain ⟨e0,e1,-,-⟩ := cells2 b0
        obtain ⟨f0,f1,f2,f3,f4,f5,f6,f7⟩ := hF1.cells
        have HF1 := Lib.hid hF1
        have HR1 := Lib.hid hR1
        have HG1 := Lib.hid hG1
        have HP1 := Lib.hid (hP1.grown (gdrew _))
        have HS1 := Lib.hid (hF1.us.grown (gdrew _))
        clear b0 hF1 hR1 hG1 hP1 f0 f1 f2 f4 f5 f6 f7 d0 d1
        go_region_with (go_at_call 86; (with_reducible refine (setAdd_any W1.drew B _ ps R a1 m q1 HS1.out HP1.out).mono ?_); rintro r w2 ⟨rfl,hs2,ht2⟩; have HS2 := Lib.hid hs2; have HT2 := Lib.hid ht2; clear hs2 ht2)
        all_goals
          go_wp2
          go_roundw
          case rel =>
            refine ⟨k + 1,wv,es,by omega,by go_num,⟨?_,(HR1.out.grown (gdrew _)).kept (fun i h5 h6 => turned_other HT2.out (by omega)),?_⟩,turned_grown (gtrans HG1.out (gdrew _)) HT2.out hB⟩
            · rw [HTK.out,(oldRecs_yes hto).1,(oldRecs_yes hto).2,allOf_snoc,insAll_app]
              exact (HF1.out.grown (gdrew _)).us' HT2.out HS2.out
            · rw [HTK.out,(oldRecs_yes hto).2]; exact HN.out.same
          case measure => simp [intOf] <;> omega
      · have hti : ¬ (T : Int)≤(old : Int) := by omega
        go_wp2_with fail
        generalize wr.alloc (.cells #[.int .u64 (T : Int),.slice a1 m q1] 158) = W1 at b0 hF1 hR1 hG1 hP1 ⊢
        obtain ⟨e0,e1,-,-⟩ := cells2 b0
        obtain ⟨f0,f1,f2,f3,f4,f5,f6,f7⟩ := hF1.cells
        have HF1 := Lib.hid (hF1.grown (gdrew _))
        have HR1 := Lib.hid (hR1.grown (gdrew _))
        have HG1 := Lib.hid (gtrans hG1 (gdrew _))
        have HP1 := Lib.hid (hP1.grown (gdrew _))
        have HB1 := Lib.hid b0
        have hq1 : B + 5≤wr.heap.size := HN.out.fiv.lt
        clear b0 hF1 hR1 hG1 hP1 f0 f1 f2 f3 f4 f5 f7 d0 d1
        go_region_with (go_at_call 86; (with_reducible refine (setAdd_any W1.drew (B + 3) _ ps R a1 m q1 HF1.out.wa HP1.out).mono ?_); rintro r w2 ⟨rfl,hs2,ht2⟩; have HS2 := Lib.hid hs2; have HT2 := Lib.hid ht2; clear hs2 ht2)
        all_goals
          clear e0 e1
          have hF2 := HF1.out.wa' HT2.out HS2.out
          obtain ⟨f0,f1,f2,f3,f4,f5,f6,f7⟩ := hF2.cells
          have f8 := free_row hF2.box 7
          have HF2 := Lib.hid hF2
          have HR2 := Lib.hid ((HR1.out.kept (fun i h5 h6 => turned_other HT2.out (by omega))).grown (gdrew _))
          have HG2 := Lib.hid (gtrans (turned_grown HG1.out HT2.out (Nat.le_trans hB (by omega))) (gdrew w2))
          have hb2 : w2.heap[wr.heap.size]? = _ := (turned_other HT2.out (by omega)).trans HB1.out
          obtain ⟨e0,e1,-,-⟩ := cells2 hb2
          have HP2 := Lib.hid (HP1.out.cells (w' := w2.drew) (fun a u h => (turned_cell HT2.out a).trans h))
          clear hF2 hb2 f0 f1 f2 f3 f4 f5
          have hes : es.length≤65536 := by
            have h5 := congrArg List.length HN.out.same
            have h6 : (newRecs old (l.take k)).length≤(l.take k).length := List.length_filter_le _ _
            simp at h5 h6
            omega
          have HW2 := Lib.hid (show B + 5≤w2.drew.heap.size from HF2.out.lt)
          go_wp2_with fail
          go_region_law (first
            | (go_simp; go_at_call 115; (with_reducible refine (copied_any w2.drew R T a1 m q1 ps HP2.out HPN.out HPL.out).mono ?_); rintro r w3 ⟨a2,c2,rfl,ho3,hg3⟩; have HF3 := Lib.hid ((HF2.out.grown (gdrew _)).grown hg3); have HR3 := Lib.hid (HR2.out.grown hg3); have HO3 := Lib.hid ho3; have HG3 := Lib.hid hg3; have g7 := HF3.out.cells.2.2.2.2.2.2.2; have k7 : (w3.alloc (.cells #[.int .u64 (T : Int),.slice a2 m c2] 158)).cell? ⟨B + 4,7,none⟩ = some wv := cell_alloc g7; clear ho3 hg3)
            | (refine step_append_own2 rfl (.tmp 66) (.tmp 69) 68 rfl (B + 5) 158 j0 (.agg #[.int .u64 0,.slice none 0 0]) 2 32 Tryz.underlying68 hj hw0 hw1 hw2 rfl (by decide) wv es.length (es.flatMap rcl) rfl (HR3.out.row.alloc _) ⟨w3.heap.size,0,none⟩ 1 1 (rcl (.slice a2 m c2,(T,[]))) rfl rfl (lit2 w3 T (.slice a2 m c2)) (one2 a2 m c2 T) (by unfold maxLen; omega) (by omega) (by have := HF3.out.lt; simp; omega) ?_; intro v' w4 hown' hgrow hfr; obtain ⟨ao',c',rfl⟩ := own_shape hown'; have HO4 := Lib.hid hown'; have HG4 := Lib.hid hgrow; have HF4 := Lib.hid ((HF3.out.grown (World.grownBy_alloc w3 (.cells #[.int .u64 (T : Int),.slice a2 m c2] 158) none)).kept (fun i h5 h6 => hgrow.block i (by have := HF3.out.lt; simp; omega) (by intro e; have := (HR3.out.row.lt i e.symm).1; omega))); have m7 := HF4.out.cells.2.2.2.2.2.2.2; have n7 := free_row HF4.out.box 7; clear hown' hgrow hfr))
          all_goals
            go_wp2
            have hR3b := HR3.out.grown (World.grownBy_alloc w3 (.cells #[.int .u64 (T : Int),.slice a2 m c2] 158) none)
            have hp3 : OwnP (B + 5) (w3.alloc (.cells #[.int .u64 (T : Int),.slice a2 m c2] 158)) (.slice a2 m c2) ps := (HO3.out.grown (World.grownBy_alloc w3 _ none)).mono HW2.out
            have hp4 := hR3b.push (y := (.slice a2 m c2,(T,ps))) hp3 hT64 HO4.out HG4.out
            have hg4 := grow_own (gtrans (gtrans HG2.out HG3.out) (World.grownBy_alloc w3 _ none)) hR3b.row HG4.out (Nat.le_trans hB (Nat.le_add_right B 5))
            have HP4 := Lib.hid hp4
            have HG5 := Lib.hid hg4
            clear hR3b hp3 hp4 hg4
            go_roundw
            case rel =>
              refine ⟨k + 1,_,es++[(.slice a2 m c2,(T,ps))],by omega,by go_num,⟨?_,HP4.out.kept (fun i h5 h6 => set_other _ _ _ (by simp; omega)),?_⟩,gnew HG5.out (gset _ ⟨B + 4,7,none⟩ _) (by simp; omega)⟩
              · rw [HTK.out,(oldRecs_no hto).1,(oldRecs_no hto).2,allOf_snoc,insAll_app]
                exact HF4.out.set 7 _ rfl
              · rw [HTK.out,(oldRecs_no hto).2,List.map_append,HN.out.same]; rfl
            case measure => simp [intOf] <;> omega
    · have hki : ¬ (k : Int) < (n : Int) := by omega
      have e : k = n := by omega
      have HE := Lib.hid (show l.take k = l by rw [e,hN.out]; exact List.take_length)
      clear e
      go_wp2
      go_ret2
      have h := HN.out
      rw [HE.out] at h
      exact ⟨B,wv,es,rfl,hB,h,HGr.out⟩
end Go.Proofs.YtnnmpaenainogaaGreat

namespace Go.Proofs.YtnnmpaenainogaaGreat
open Go.RowKit Go.Maps
def SpAt (B : Nat) (H : Nat→Prop) (w : World) (M : Sp) : Prop := ∃ wv,Fiv B w M.en M.lim M.low M.us M.fr M.go M.wa wv∧RSq (fun b => B + 5≤b∧H b) w wv M.ws
structure Sfr (B : Nat) (w w' : World) : Prop where
  os : w'.os = w.os
  tape : w'.tape = w.tape
  output : w'.output = w.output
  size : w.heap.size≤w'.heap.size
  block : ∀ i,i < w.heap.size→(i < B∨B + 5≤i)→w'.heap[i]? = w.heap[i]?
theorem Sfr.refl (B : Nat) (w : World) : Sfr B w w := ⟨rfl,rfl,rfl,Nat.le_refl _,fun _ _ _ => rfl⟩
theorem Sfr.trans {B : Nat} {a b c : World} (h : Sfr B a b) (k : Sfr B b c) : Sfr B a c :=
  ⟨k.os.trans h.os,k.tape.trans h.tape,k.output.trans h.output,Nat.le_trans h.size k.size,fun i hi hn => (k.block i (Nat.lt_of_lt_of_le hi h.size) hn).trans (h.block i hi hn)⟩
theorem Sfr.of {B : Nat} {w w' : World} (h : w.grownBy w' none) : Sfr B w w' := ⟨h.os,h.tape,h.output,h.size,fun i hi _ => h.block i hi (by simp)⟩
theorem Sfr.row {B r : Nat} {w w' : World} (h : w.grownBy w' (some r)) (h1 : B≤r) (h2 : r < B + 5) : Sfr B w w' := ⟨h.os,h.tape,h.output,h.size,fun i hi hn => h.block i hi (by intro e; injection e with e; omega)⟩
theorem Sfr.turn {B b : Nat} {w w' : World} (h : w.mapTurned w' b) (h1 : B≤b) (h2 : b < B + 5) : Sfr B w w' := Sfr.row h.grown h1 h2
theorem RSq.sfr {B : Nat} {H : Nat→Prop} {w w' : World} {v : Value} {rs : List Rc} (h : RSq (fun b => B + 5≤b∧H b) w v rs) (k : Sfr B w w') : RSq (fun b => B + 5≤b∧H b) w' v rs := h.kept fun b hb hs => k.block b hs (.inr hb.1)
theorem SpAt.grown {B : Nat} {H : Nat→Prop} {w w' : World} {M : Sp} (h : SpAt B H w M) (k : w.grownBy w' none) : SpAt B H w' M := by
  obtain ⟨wv,h1,h2⟩ := h
  exact ⟨wv,h1.grown k,h2.grown k⟩
theorem has_g (w : World) (b p : Nat) (L : List Nat) (h : SetAt w b L) (hp : p < 4294967296) (d : Bool) (hd : decide (p∈L) = d) :
    Calls Tryz.prog 85 #[.map (some b),.int .u32 (p : Int)] w fun r w' => r = .returned (.bool d)∧w.grownBy w' none := by
  subst hd
  refine (has_any w b p L h hp).mono ?_
  rintro r w' ⟨rfl,rfl⟩
  exact ⟨rfl,World.grownBy_alloc _ _ _⟩
set_option maxHeartbeats 400000 in
theorem send_any {H : Nat→Prop} (w : World) (B : Nat) (M : Sp) (h : SpAt B H w M) : Calls Tryz.prog 118 #[.pointer (some ⟨B + 4,0,none⟩)] w fun r w' => r = .returned (.int .u32 (M.en : Int))∧w = w' := by
  obtain ⟨wv,h1,h2⟩ := h
  obtain ⟨f0,-⟩ := h1.cells
  clear h1 h2
  go_enter Tryz.func118,Tryz.ntmps118
  go_wp2
  go_ret
  exact ⟨rfl,rfl⟩
set_option maxHeartbeats 400000 in
theorem usable_any {H : Nat→Prop} (w : World) (B : Nat) (M : Sp) (h : SpAt B H w M) : Calls Tryz.prog 211 #[.pointer (some ⟨B + 4,0,none⟩)] w fun r w' => r = .returned (.int .i64 (M.us.length : Int))∧w = w' := by
  obtain ⟨wv,h1,h2⟩ := h
  obtain ⟨-,-,-,f3,-⟩ := h1.cells
  have hown := h1.us.1
  clear h1 h2
  go_enter Tryz.func211,Tryz.ntmps211
  go_wp2_with (first
    | (at_len; refine wpList_len_own _ rfl _ 174 rfl 42 114 Tryz.underlying174 _ B _ _ rfl hown ?_)
    | go_in)
  go_ret
  rw [size_setD]
  exact ⟨rfl,rfl⟩
set_option maxHeartbeats 400000 in
theorem fresh_any {H : Nat→Prop} (w : World) (B : Nat) (M : Sp) (h : SpAt B H w M) (p : Nat) (hp : p < 4294967296) : Calls Tryz.prog 90 #[.pointer (some ⟨B + 4,0,none⟩),.int .u32 (p : Int)] w fun r w' => r = .returned (.bool (decide (p∈M.fr)))∧w.grownBy w' none := by
  obtain ⟨wv,h1,h2⟩ := h
  obtain ⟨-,-,-,-,f4,-⟩ := h1.cells
  have HS := Lib.hid h1.fr
  clear h1 h2
  obtain ⟨d,hd⟩ : ∃ d,decide (p∈M.fr) = d := ⟨_,rfl⟩
  have HD := Lib.hid hd
  rw [hd]
  clear hd
  go_enter Tryz.func90,Tryz.ntmps90
  go_wp2_with (first
    | (go_at_call 85; (with_reducible refine (has_g w (B + 1) p M.fr HS.out hp d HD.out).mono ?_); rintro r w1 ⟨rfl,hg⟩; have HG := Lib.hid hg; clear hg))
  go_ret
  exact ⟨rfl,HG.out⟩
set_option maxHeartbeats 1000000 in
theorem inUse_any {H : Nat→Prop} (w : World) (B : Nat) (M : Sp) (h : SpAt B H w M) (p : Nat) (hp : p < 4294967296) (d : Bool) (hd : inUseM M p = d) : Calls Tryz.prog 172 #[.pointer (some ⟨B + 4,0,none⟩),.int .u32 (p : Int)] w fun r w' => r = .returned (.bool d)∧w.grownBy w' none := by
  obtain ⟨wv,h1,h2⟩ := h
  obtain ⟨f0,-,-,f3,f4,f5,f6,-⟩ := h1.cells
  have HF := Lib.hid h1
  have HD := Lib.hid hd
  clear h1 h2 hd
  by_cases c1 : p < 2
  · have i1 : (p : Int) < 2 := by omega
    have HE := Lib.hid (show d = false by rw [← HD.out]; unfold inUseM; simp [show ¬ 2≤p by omega])
    go_enter Tryz.func172,Tryz.ntmps172
    go_wp2
    go_ret
    exact ⟨by rw [HE.out]; rfl,grefl _ _⟩
  have i1 : ¬ (p : Int) < 2 := by omega
  by_cases c2 : M.en≤p
  · have i2 : (M.en : Int)≤(p : Int) := by omega
    have HE := Lib.hid (show d = false by rw [← HD.out]; unfold inUseM; simp [show ¬ p < M.en by omega])
    go_enter Tryz.func172,Tryz.ntmps172
    go_wp2
    go_ret
    exact ⟨by rw [HE.out]; rfl,grefl _ _⟩
  have i2 : ¬ (M.en : Int)≤(p : Int) := by omega
  have e1 : decide (2≤p) = true := by simp; omega
  have e2 : decide (p < M.en) = true := by simp; omega
  have HD2 := Lib.hid (show (!decide (p∈M.us) && !decide (p∈M.fr) && !decide (p∈M.go) && !decide (p∈M.wa)) = d by
    rw [← HD.out]; unfold inUseM; rw [e1,e2]; simp)
  obtain ⟨b1,hb1⟩ : ∃ b,decide (p∈M.us) = b := ⟨_,rfl⟩
  obtain ⟨b2,hb2⟩ : ∃ b,decide (p∈M.fr) = b := ⟨_,rfl⟩
  obtain ⟨b3,hb3⟩ : ∃ b,decide (p∈M.go) = b := ⟨_,rfl⟩
  obtain ⟨b4,hb4⟩ : ∃ b,decide (p∈M.wa) = b := ⟨_,rfl⟩
  rw [hb1,hb2,hb3,hb4] at HD2
  have H1 := Lib.hid hb1
  have H2 := Lib.hid hb2
  have H3 := Lib.hid hb3
  have H4 := Lib.hid hb4
  clear hb1 hb2 hb3 hb4 e1 e2 HD c1 c2
  have HG0 := Lib.hid (grefl w none)
  cases b1 <;> cases b2 <;> cases b3
  all_goals
    go_enter Tryz.func172,Tryz.ntmps172
    go_wp2_with (first
      | (go_at_call 85; (with_reducible refine (has_g _ B p M.us HF.out.us hp _ H1.out).mono ?_); rintro r w1 ⟨rfl,hg⟩; have HG1 := Lib.hid hg; have HF1 := Lib.hid (HF.out.grown hg); obtain ⟨g0,-,-,g3,g4,g5,g6,-⟩ := (HF.out.grown hg).cells; clear hg)
      | (go_at_call 85; (with_reducible refine (has_g _ (B + 1) p M.fr HF1.out.fr hp _ H2.out).mono ?_); rintro r w2 ⟨rfl,hg⟩; have HG2 := Lib.hid (gtrans HG1.out hg); have HF2 := Lib.hid (HF1.out.grown hg); obtain ⟨h0,-,-,h3,h4,h5,h6,-⟩ := (HF1.out.grown hg).cells; clear hg)
      | (go_at_call 85; (with_reducible refine (has_g _ (B + 2) p M.go HF2.out.go hp _ H3.out).mono ?_); rintro r w3 ⟨rfl,hg⟩; have HG3 := Lib.hid (gtrans HG2.out hg); have HF3 := Lib.hid (HF2.out.grown hg); obtain ⟨k0,-,-,k3,k4,k5,k6,-⟩ := (HF2.out.grown hg).cells; clear hg)
      | (go_at_call 85; (with_reducible refine (has_g _ (B + 3) p M.wa HF3.out.wa hp _ H4.out).mono ?_); rintro r w4 ⟨rfl,hg⟩; have HG4 := Lib.hid (gtrans HG3.out hg); clear hg))
    go_ret
    rw [← HD2.out]
    first
      | exact ⟨rfl,HG4.out⟩
      | exact ⟨rfl,HG3.out⟩
      | exact ⟨rfl,HG2.out⟩
      | exact ⟨rfl,HG1.out⟩
end Go.Proofs.YtnnmpaenainogaaGreat

namespace Go.Proofs.YtnnmpaenainogaaGreat
open Go.RowKit Go.Maps
theorem one_page (w : World) (p : Nat) (hp : p < 4294967296) : PSq (fun _ => True) (w.alloc (.cells #[.int .u32 (p : Int)] 42)) (.slice (some ⟨w.heap.size,0,none⟩) 1 1) [p] := by
  refine ⟨some ⟨w.heap.size,0,none⟩,1,rfl,Nat.le_refl _,by decide,fun x hx => ?_,fun _ => ⟨w.heap.size,0,rfl,trivial,fun j hj => ?_⟩⟩
  · have : x = p := by simpa using hx
    rw [this]; exact hp
  · have hj0 : j = 0 := by simp at hj; omega
    subst hj0
    rw [Nat.zero_add,World.cell?_alloc_mark]
    rfl
def OpR (B : Nat) (H : Nat→Prop) (w : World) (M' : Sp) (v : Value) (r : Ending) (w' : World) : Prop := r = .returned v∧SpAt B H w' M'∧Sfr B w w'
set_option maxHeartbeats 1000000 in
theorem give_any {H : Nat→Prop} (w : World) (B : Nat) (M : Sp) (h : SpAt B H w M) (p : Nat) (hp : p < 4294967296) :
    Calls Tryz.prog 117 #[.pointer (some ⟨B + 4,0,none⟩),.int .u32 (p : Int)] w fun r w' => OpR B H w (giveM M p).1 (.int .i64 (giveM M p).2) r w' := by
  have HA := Lib.hid h
  obtain ⟨wv,h1,h2⟩ := h
  obtain ⟨f0,f1,f2,f3,f4,f5,f6,f7⟩ := h1.cells
  have HF := Lib.hid h1
  have HR := Lib.hid h2
  clear h1 h2 f7
  by_cases hin : p∈M.fr
  · have hd : decide (p∈M.fr) = true := by simpa using hin
    have HD := Lib.hid hd
    have HM := Lib.hid (show giveM M p = ({ M with fr := del p M.fr,us := ins p M.us,low := min M.low p },0) by unfold giveM; rw [if_pos hin])
    rw [HM.out]
    clear hin hd f0 f1 f5 f6
    by_cases hlt : p < M.low
    · have hlt2 : (p : Int) < (M.low : Int) := by omega
      have HL := Lib.hid (show min M.low p = p by omega)
      go_enter Tryz.func117,Tryz.ntmps117
      go_wp2_with (first
        | (go_at_call 85; (with_reducible refine (has_g w (B + 1) p M.fr HF.out.fr hp true HD.out).mono ?_); rintro r w1 ⟨rfl,hg⟩; have HG1 := Lib.hid hg; have HF1 := Lib.hid (HF.out.grown hg); obtain ⟨-,-,-,g3,g4,-,-,-⟩ := (HF.out.grown hg).cells; have hown := HF1.out.fr.1; clear hg)
        | (at_delete; refine wpList_delete_own _ rfl _ _ 174 42 rfl 114 lawP Tryz.underlying174 (unitElem (H := Unit)) (B + 1) _ _ rfl hown _ _ rfl (keyP hp) ?_; intro w2 hown2 hturn2; rw [setD_del] at hown2; have hs2 : SetAt w2 (B + 1) (del p M.fr) := ⟨own_tight hown2,srt_del HF1.out.fr.2.1,fun x hx => HF1.out.fr.2.2 x (mem_del.1 hx).1⟩; have hf2 := HF1.out.fr' hturn2 hs2; obtain ⟨-,-,-,k3,-,-,-,-⟩ := hf2.cells; have HF2 := Lib.hid hf2; have HT2 := Lib.hid hturn2; clear hown2 hturn2 hs2 hf2)
        | (go_at_call 86; (with_reducible refine (setAdd_any (w2.alloc (.cells #[.int .u32 (p : Int)] 42)) B M.us [p] (fun _ => True) (some ⟨w2.heap.size,0,none⟩) 1 1 (HF2.out.us.grown (World.grownBy_alloc _ _ _)) (one_page w2 p hp)).mono ?_); rintro r w3 ⟨rfl,hs3,ht3⟩; have hf3 := (HF2.out.grown (World.grownBy_alloc w2 (.cells #[.int .u32 (p : Int)] 42) none)).us' ht3 hs3; obtain ⟨-,-,l2,-,-,-,-,-⟩ := hf3.cells; have l9 := free_row hf3.box 2; have HF3 := Lib.hid hf3; have HT3 := Lib.hid ht3; clear hs3 ht3 hf3))
      go_ret
      have hsf := ((((Sfr.of (B := B) HG1.out).trans (Sfr.turn HT2.out (by omega) (by omega))).trans (Sfr.of (World.grownBy_alloc _ _ none))).trans (Sfr.turn HT3.out (by omega) (by omega)))
      refine ⟨rfl,⟨wv,?_,?_⟩,hsf.trans (Sfr.row (gset _ ⟨B + 4,2,none⟩ _) (by simp) (by simp))⟩
      · have := HF3.out.set (low' := p) 2 (.int .u32 (p : Int)) rfl
        rw [HL.out]
        exact this
      · exact HR.out.sfr (hsf.trans (Sfr.row (gset _ ⟨B + 4,2,none⟩ _) (by simp) (by simp)))
    · have hlt2 : ¬ (p : Int) < (M.low : Int) := by omega
      have HL := Lib.hid (show min M.low p = M.low by omega)
      go_enter Tryz.func117,Tryz.ntmps117
      go_wp2_with (first
        | (go_at_call 85; (with_reducible refine (has_g w (B + 1) p M.fr HF.out.fr hp true HD.out).mono ?_); rintro r w1 ⟨rfl,hg⟩; have HG1 := Lib.hid hg; have HF1 := Lib.hid (HF.out.grown hg); obtain ⟨-,-,-,g3,g4,-,-,-⟩ := (HF.out.grown hg).cells; have hown := HF1.out.fr.1; clear hg)
        | (at_delete; refine wpList_delete_own _ rfl _ _ 174 42 rfl 114 lawP Tryz.underlying174 (unitElem (H := Unit)) (B + 1) _ _ rfl hown _ _ rfl (keyP hp) ?_; intro w2 hown2 hturn2; rw [setD_del] at hown2; have hs2 : SetAt w2 (B + 1) (del p M.fr) := ⟨own_tight hown2,srt_del HF1.out.fr.2.1,fun x hx => HF1.out.fr.2.2 x (mem_del.1 hx).1⟩; have hf2 := HF1.out.fr' hturn2 hs2; obtain ⟨-,-,-,k3,-,-,-,-⟩ := hf2.cells; have HF2 := Lib.hid hf2; have HT2 := Lib.hid hturn2; clear hown2 hturn2 hs2 hf2)
        | (go_at_call 86; (with_reducible refine (setAdd_any (w2.alloc (.cells #[.int .u32 (p : Int)] 42)) B M.us [p] (fun _ => True) (some ⟨w2.heap.size,0,none⟩) 1 1 (HF2.out.us.grown (World.grownBy_alloc _ _ _)) (one_page w2 p hp)).mono ?_); rintro r w3 ⟨rfl,hs3,ht3⟩; have hf3 := (HF2.out.grown (World.grownBy_alloc w2 (.cells #[.int .u32 (p : Int)] 42) none)).us' ht3 hs3; obtain ⟨-,-,l2,-,-,-,-,-⟩ := hf3.cells; have l9 := free_row hf3.box 2; have HF3 := Lib.hid hf3; have HT3 := Lib.hid ht3; clear hs3 ht3 hf3))
      go_ret
      have hsf := ((((Sfr.of (B := B) HG1.out).trans (Sfr.turn HT2.out (by omega) (by omega))).trans (Sfr.of (World.grownBy_alloc _ _ none))).trans (Sfr.turn HT3.out (by omega) (by omega)))
      refine ⟨rfl,⟨wv,?_,?_⟩,hsf.trans (Sfr.row (gset _ ⟨B + 4,2,none⟩ _) (by simp) (by simp))⟩
      · have := HF3.out.set (low' := M.low) 2 (.int .u32 (M.low : Int)) rfl
        rw [HL.out]
        exact this
      · exact HR.out.sfr (hsf.trans (Sfr.row (gset _ ⟨B + 4,2,none⟩ _) (by simp) (by simp)))
  · have hd : decide (p∈M.fr) = false := by simpa using hin
    have HD := Lib.hid hd
    clear hd f0 f1 f2 f3 f6
    cases hu : inUseM M p with
    | true =>
      have HU := Lib.hid hu
      have HM := Lib.hid (show giveM M p = ({ M with go := ins p M.go },0) by unfold giveM; rw [if_neg hin,if_pos hu])
      rw [HM.out]
      clear hin hu
      go_enter Tryz.func117,Tryz.ntmps117
      go_wp2_with (first
        | (go_at_call 85; (with_reducible refine (has_g w (B + 1) p M.fr HF.out.fr hp false HD.out).mono ?_); rintro r w1 ⟨rfl,hg⟩; have HG1 := Lib.hid hg; clear hg)
        | (go_at_call 172; (with_reducible refine (inUse_any w1 B M (HA.out.grown HG1.out) p hp true HU.out).mono ?_); rintro r w2 ⟨rfl,hg⟩; have hg2 := gtrans HG1.out hg; obtain ⟨-,-,-,-,-,k5,-,-⟩ := (HF.out.grown hg2).cells; have HG2 := Lib.hid hg2; clear hg hg2)
        | (go_at_call 86; (with_reducible refine (setAdd_any (w2.alloc (.cells #[.int .u32 (p : Int)] 42)) (B + 2) M.go [p] (fun _ => True) (some ⟨w2.heap.size,0,none⟩) 1 1 ((HF.out.grown HG2.out).go.grown (World.grownBy_alloc _ _ _)) (one_page w2 p hp)).mono ?_); rintro r w3 ⟨rfl,hs3,ht3⟩; have HS3 := Lib.hid hs3; have HT3 := Lib.hid ht3; clear hs3 ht3))
      go_ret
      have hg3 := gtrans HG2.out (World.grownBy_alloc w2 (.cells #[.int .u32 (p : Int)] 42) none)
      have hsf := (Sfr.of (B := B) hg3).trans (Sfr.turn HT3.out (by omega) (by omega))
      exact ⟨rfl,⟨wv,(HF.out.grown hg3).go' HT3.out HS3.out,HR.out.sfr hsf⟩,hsf⟩
    | false =>
      have HU := Lib.hid hu
      have HM := Lib.hid (show giveM M p = (M,1) by unfold giveM; rw [if_neg hin,if_neg (by rw [hu]; decide)])
      rw [HM.out]
      clear hin hu
      go_enter Tryz.func117,Tryz.ntmps117
      go_wp2_with (first
        | (go_at_call 85; (with_reducible refine (has_g w (B + 1) p M.fr HF.out.fr hp false HD.out).mono ?_); rintro r w1 ⟨rfl,hg⟩; have HG1 := Lib.hid hg; clear hg)
        | (go_at_call 172; (with_reducible refine (inUse_any w1 B M (HA.out.grown HG1.out) p hp false HU.out).mono ?_); rintro r w2 ⟨rfl,hg⟩; have HG2 := Lib.hid (gtrans HG1.out hg); clear hg))
      go_ret
      exact ⟨rfl,HA.out.grown HG2.out,Sfr.of HG2.out⟩
set_option maxHeartbeats 1000000 in
theorem lowest_any {H : Nat→Prop} (w : World) (B : Nat) (M : Sp) (h : SpAt B H w M) (p : Nat) (r : List Nat) (hu : M.us = p :: r) (hlow : M.low≤p) :
    Calls Tryz.prog 116 #[.pointer (some ⟨B + 4,0,none⟩)] w fun r w' => OpR B H w { M with low := p } (.int .u32 (p : Int)) r w' := by
  obtain ⟨wv,h1,h2⟩ := h
  have HF := Lib.hid h1
  have HR := Lib.hid h2
  have hp : p < 4294967296 := h1.us.2.2 p (by rw [hu]; simp)
  have HU := Lib.hid hu
  have HS := Lib.hid h1.us.2.1
  clear h1 h2 hu
  go_enter Tryz.func116,Tryz.ntmps116
  go_wp2
  go_loopg [3] (p - M.low) (fun g _ wr => ∃ j : Nat,j + g = p∧M.low≤j∧Fiv B wr M.en M.lim j M.us M.fr M.go M.wa wv∧Sfr B w wr)
  case atStart => exact ⟨M.low,by omega,Nat.le_refl _,HF.out,Sfr.refl _ _⟩
  case round =>
    obtain ⟨j,hj,hjl,hF,hsf⟩ := hrel
    have HF1 := Lib.hid hF
    have HF1d := Lib.hid (hF.grown (gdrew _))
    have HS1 := Lib.hid hsf
    have HS1d := Lib.hid (hsf.trans (Sfr.of (gdrew _)))
    obtain ⟨-,-,f2,f3,-⟩ := hF.cells
    have hj32 : j < 4294967296 := by omega
    clear hF hsf
    by_cases hg0 : j = p
    · subst hg0
      have HD := Lib.hid (show decide (j∈M.us) = true by rw [HU.out]; simp)
      clear hj hjl
      go_wp2_with fail
      go_region_with (go_at_call 85; (with_reducible refine (has_g wr.drew B j M.us HF1d.out.us hj32 true HD.out).mono ?_); rintro r w1 ⟨rfl,hg⟩; have HG1 := Lib.hid hg; have HF2 := Lib.hid (HF1d.out.grown hg); obtain ⟨-,-,g2,g3,-⟩ := (HF1d.out.grown hg).cells; clear hg)
      all_goals
        go_wp2
        go_ret
        have hsf := HS1d.out.trans (Sfr.of HG1.out)
        exact ⟨rfl,⟨wv,HF2.out,HR.out.sfr hsf⟩,hsf⟩
    · have HD := Lib.hid (show decide (j∈M.us) = false by
        have hs := HS.out
        rw [HU.out] at hs ⊢
        simp only [decide_eq_false_iff_not]
        intro hm
        have := srt_head hs hm
        omega)
      go_wp2_with fail
      go_region_with (go_at_call 85; (with_reducible refine (has_g wr.drew B j M.us HF1d.out.us hj32 false HD.out).mono ?_); rintro r w1 ⟨rfl,hg⟩; have HG1 := Lib.hid hg; have HF2 := Lib.hid (HF1d.out.grown hg); obtain ⟨-,-,g2,g3,-⟩ := (HF1d.out.grown hg).cells; have g9 := free_row (HF1d.out.grown hg).box 2; clear hg)
      all_goals
        go_wp2
        have hsf := HS1d.out.trans (Sfr.of HG1.out)
        go_roundg (gk - 1)
        case rel => exact ⟨j + 1,by omega,by omega,HF2.out.set 2 _ rfl,hsf.trans (Sfr.row (gset _ ⟨B + 4,2,none⟩ _) (by simp) (by simp))⟩
        case measure => omega
end Go.Proofs.YtnnmpaenainogaaGreat

namespace Go.Proofs.YtnnmpaenainogaaGreat
open Go.RowKit Go.Maps
theorem del_head {p : Nat} {r : List Nat} (h : Srt (p :: r)) : del p (p :: r) = r := by
  have h1 := (List.pairwise_cons.1 h).1
  unfold del
  rw [List.filter_cons]
  simp only [beq_self_eq_true,Bool.not_true,Bool.false_eq_true,if_false]
  refine List.filter_eq_self.2 fun x hx => ?_
  have := h1 x hx
  simp
  omega
set_option maxHeartbeats 2000000 in
theorem stake_any {H : Nat→Prop} (w : World) (B : Nat) (M : Sp) (h : SpAt B H w M) (hlow : ∀ x∈M.us,M.low≤x) (hen : M.en≤M.lim) (hlim : M.lim≤65536) :
    Calls Tryz.prog 67 #[.pointer (some ⟨B + 4,0,none⟩)] w fun r w' => OpR B H w (takeM M).1 (.tuple #[.int .u32 ((takeM M).2.1 : Int),.int .i64 (takeM M).2.2]) r w' := by
  have HA := Lib.hid h
  obtain ⟨wv,h1,h2⟩ := h
  obtain ⟨f0,f1,f2,f3,f4,f5,f6,f7⟩ := h1.cells
  have hown := h1.us.1
  have HF := Lib.hid h1
  have HR := Lib.hid h2
  clear h1 h2 f7
  cases hu : M.us with
  | cons p r =>
    have hp : p < 4294967296 := HF.out.us.2.2 p (by rw [hu]; simp)
    have hlp := hlow p (by rw [hu]; simp)
    have HM := Lib.hid (show takeM M = ({ M with low := p,us := r,fr := ins p M.fr },p,0) by unfold takeM; rw [hu])
    rw [HM.out]
    have HU := Lib.hid hu
    have HDL := Lib.hid (show del p M.us = r by rw [hu]; exact del_head (hu ▸ HF.out.us.2.1))
    have hsz : 0 < Maps.size (setD M.us) := by rw [size_setD,hu]; simp
    have hszi : (0 : Int) < (Maps.size (setD M.us) : Int) := by omega
    clear hlow hu f0 f1 f2 f4 f5 f6
    go_enter Tryz.func67,Tryz.ntmps67
    go_wp2_with (first
      | (at_len; refine wpList_len_own _ rfl _ 174 rfl 42 114 Tryz.underlying174 _ B _ _ rfl hown ?_)
      | (go_at_call 116; (with_reducible refine (lowest_any w B M HA.out p r HU.out hlp).mono ?_); rintro r1 w1 ⟨rfl,ha1,hs1⟩; obtain ⟨wv1,hf1,hr1⟩ := ha1; obtain ⟨-,-,-,g3,g4,-,-,-⟩ := hf1.cells; have hown1 := hf1.us.1; have HF1 := Lib.hid hf1; have HR1 := Lib.hid hr1; have HS1 := Lib.hid hs1; clear hf1 hr1 hs1)
      | (at_delete; refine wpList_delete_own _ rfl _ _ 174 42 rfl 114 lawP Tryz.underlying174 (unitElem (H := Unit)) B _ _ rfl hown1 _ _ rfl (keyP hp) ?_; intro w2 hown2 hturn2; rw [setD_del] at hown2; have hs2 : SetAt w2 B (del p M.us) := ⟨own_tight hown2,srt_del HF1.out.us.2.1,fun x hx => HF1.out.us.2.2 x (mem_del.1 hx).1⟩; have hf2 := HF1.out.us' hturn2 hs2; obtain ⟨-,-,-,-,k4,-,-,-⟩ := hf2.cells; have HF2 := Lib.hid hf2; have HT2 := Lib.hid hturn2; clear hown2 hturn2 hs2 hf2)
      | (go_at_call 86; (with_reducible refine (setAdd_any (w2.alloc (.cells #[.int .u32 (p : Int)] 42)) (B + 1) M.fr [p] (fun _ => True) (some ⟨w2.heap.size,0,none⟩) 1 1 (HF2.out.fr.grown (World.grownBy_alloc _ _ _)) (one_page w2 p hp)).mono ?_); rintro r3 w3 ⟨rfl,hs3,ht3⟩; have HS3 := Lib.hid hs3; have HT3 := Lib.hid ht3; clear hs3 ht3)
      | go_in)
    go_ret2
    have hsf := ((HS1.out.trans (Sfr.turn HT2.out (by omega) (by omega))).trans (Sfr.of (World.grownBy_alloc _ _ none))).trans (Sfr.turn HT3.out (by omega) (by omega))
    refine ⟨rfl,⟨wv1,?_,?_⟩,hsf⟩
    · have := (HF2.out.grown (World.grownBy_alloc w2 (.cells #[.int .u32 (p : Int)] 42) none)).fr' HT3.out HS3.out
      rw [HDL.out] at this
      exact this
    · exact HR1.out.sfr (((Sfr.turn HT2.out (by omega) (by omega)).trans (Sfr.of (World.grownBy_alloc _ _ none))).trans (Sfr.turn HT3.out (by omega) (by omega)))
  | nil =>
    have HU := Lib.hid hu
    have hsz : Maps.size (setD M.us) = 0 := by rw [size_setD,hu]; rfl
    clear hlow f2 f5 f6 f3
    have f3 := HF.out.cells.2.2.2.1
    by_cases he : M.en = M.lim
    · have HM := Lib.hid (show takeM M = (M,0,21) by unfold takeM; rw [hu]; simp [he])
      rw [HM.out]
      have f0' := f0
      rw [he] at f0'
      clear hu f0
      go_enter Tryz.func67,Tryz.ntmps67
      go_wp2_with (first
        | (at_len; refine wpList_len_own _ rfl _ 174 rfl 42 114 Tryz.underlying174 _ B _ _ rfl hown ?_)
        | go_in)
      go_region
      go_wp2
      go_ret2
      exact ⟨rfl,HA.out.grown (gdrew _),Sfr.of (gdrew _)⟩
    · have HM := Lib.hid (show takeM M = ({ M with en := M.en + 1,fr := ins M.en M.fr },M.en,0) by unfold takeM; rw [hu]; simp [he])
      rw [HM.out]
      have hne : ¬ (M.en : Int) = (M.lim : Int) := by omega
      have hen32 : M.en < 4294967296 := by omega
      have hbq : ((M.en : Int) == (M.lim : Int)) = false := by simpa using hne
      have f9 := free_row HF.out.box 0
      clear hu
      go_enter Tryz.func67,Tryz.ntmps67
      go_wp2_with (first
        | (at_len; refine wpList_len_own _ rfl _ 174 rfl 42 114 Tryz.underlying174 _ B _ _ rfl hown ?_)
        | go_in)
      go_region
      have hz : (w.setCell ⟨B + 4,0,none⟩ (.int .u32 ((M.en : Int) + 1))).heap.size = w.heap.size := by simp [World.setCell]
      have hP := (one_page (w.setCell ⟨B + 4,0,none⟩ (.int .u32 ((M.en : Int) + 1))) M.en hen32).grown (gdrew _)
      rw [hz] at hP
      have hF := ((HF.out.set (en' := M.en + 1) 0 (.int .u32 ((M.en : Int) + 1)) rfl).grown (World.grownBy_alloc _ (.cells #[.int .u32 (M.en : Int)] 42) none)).grown (gdrew _)
      have hsf := ((Sfr.row (B := B) (gset w ⟨B + 4,0,none⟩ (.int .u32 ((M.en : Int) + 1))) (by simp) (by simp)).trans (Sfr.of (World.grownBy_alloc _ (.cells #[.int .u32 (M.en : Int)] 42) none))).trans (Sfr.of (gdrew _))
      have HP := Lib.hid hP
      have HFq := Lib.hid hF
      have HSf := Lib.hid hsf
      clear hP hF hsf hz
      go_wp2_with (first
        | (go_at_call 86; (with_reducible refine (setAdd_any _ (B + 1) M.fr [M.en] (fun _ => True) (some ⟨w.heap.size,0,none⟩) 1 1 HFq.out.fr HP.out).mono ?_); rintro r3 w3 ⟨rfl,hs3,ht3⟩; have HS3 := Lib.hid hs3; have HT3 := Lib.hid ht3; clear hs3 ht3))
      go_ret2
      have hsf := HSf.out.trans (Sfr.turn HT3.out (by omega) (by omega))
      exact ⟨rfl,⟨wv,HFq.out.fr' HT3.out HS3.out,HR.out.sfr hsf⟩,hsf⟩
end Go.Proofs.YtnnmpaenainogaaGreat

/-
  Layer 10: pairs in memory; opening a slice of pairs that came in. Own work.
-/
import Derived.Test.YtnnmpaenainogaaGreatPrnAJ
import Derived.Test.YtnnmpaenainogaaGreatPrnAL
import Derived.Deep.Slices
import Derived.Deep.Fields
import Derived.ProofKit
import Derived.OpenShut

set_option linter.unusedVariables false
set_option linter.unusedSimpArgs false
namespace Go.Proofs.YtnnmpaenainogaaGreat
open Go.RowKit
def prc (p : Pr) : List Value := [.int .u64 (p.1 : Int),.int .u32 (p.2 : Int)]
def PrSq (R : Nat→Prop) (w : World) (v : Value) (ps : List Pr) : Prop :=
  ∃ ao c,v = .slice ao ps.length c∧ps.length≤c∧c≤maxLen∧(∀ p∈ps,PrOk p)∧(ao = none→c = 0) ∧
    (ps≠[]→∃ b o,ao = some ⟨b,o,none⟩∧R b∧∀ j (p : Pr),ps[j]? = some p→w.cell? ⟨b,o + j * 2,none⟩ = some (.int .u64 (p.1 : Int))∧w.cell? ⟨b,o + j * 2 + 1,none⟩ = some (.int .u32 (p.2 : Int)))
section
variable {R S : Nat→Prop} {w w' : World} {v : Value} {ps : List Pr}
theorem PrSq.kept (h : PrSq R w v ps) (k : ∀ b,R b→b < w.heap.size→w'.heap[b]? = w.heap[b]?) : PrSq R w' v ps := by
  obtain ⟨ao,c,hv,h1,h2,h3,hn,h4⟩ := h
  refine ⟨ao,c,hv,h1,h2,h3,hn,fun hne => ?_⟩
  obtain ⟨b,o,ha,hb,hc⟩ := h4 hne
  refine ⟨b,o,ha,hb,fun j p hp => ?_⟩
  obtain ⟨c1,c2⟩ := hc j p hp
  have e := k b hb (World.block_lt_of_cell? _ _ c1)
  exact ⟨(World.cell?_of_block (w := w) e).trans c1,(World.cell?_of_block (w := w) e).trans c2⟩
theorem PrSq.imp (h : PrSq R w v ps) (k : ∀ b,R b→b < w.heap.size→S b) : PrSq S w v ps := by
  obtain ⟨ao,c,hv,h1,h2,h3,hn,h4⟩ := h
  refine ⟨ao,c,hv,h1,h2,h3,hn,fun hne => ?_⟩
  obtain ⟨b,o,ha,hb,hc⟩ := h4 hne
  obtain ⟨p0,hp0⟩ : ∃ p,ps[0]? = some p := ⟨ps[0]'(List.length_pos_iff.2 hne),by simp⟩
  exact ⟨b,o,ha,k b hb (World.block_lt_of_cell? _ _ (hc 0 p0 hp0).1),hc⟩
theorem PrSq.grown (h : PrSq R w v ps) (k : w.grownBy w' none) : PrSq R w' v ps := h.kept fun b _ hb => k.block b hb (by simp)
theorem PrSq.shape (h : PrSq R w v ps) : ∃ ao c,v = .slice ao ps.length c := by
  obtain ⟨ao,c,hv,_⟩ := h
  exact ⟨ao,c,hv⟩
theorem PrSq.len {ao : Option Addr} {n c : Nat} (h : PrSq R w (.slice ao n c) ps) : n = ps.length∧n≤c∧c≤maxLen := by
  obtain ⟨ao',c',hv,h1,h2,_⟩ := h
  cases hv
  exact ⟨rfl,h1,h2⟩
theorem PrSq.ok (h : PrSq R w v ps) : ∀ p∈ps,PrOk p := by
  obtain ⟨ao,c,hv,h1,h2,h3,_⟩ := h
  exact h3
theorem PrSq.at {ao : Option Addr} {n c : Nat} (h : PrSq R w (.slice ao n c) ps) (j : Nat) (p : Pr) (hp : ps[j]? = some p) :
    ∃ b o,ao = some ⟨b,o,none⟩∧R b∧w.cell? ⟨b,o + j * 2,none⟩ = some (.int .u64 (p.1 : Int))∧w.cell? ⟨b,o + j * 2 + 1,none⟩ = some (.int .u32 (p.2 : Int)) := by
  obtain ⟨ao',c',hv,h1,h2,h3,hn,h4⟩ := h
  cases hv
  obtain ⟨b,o,ha,hb,hc⟩ := h4 (fun e => by rw [e] at hp; simp at hp)
  exact ⟨b,o,ha,hb,(hc j p hp).1,(hc j p hp).2⟩
end
theorem PrSq.low {R : Nat→Prop} {w : World} {v : Value} {ps : List Pr} (h : PrSq R w v ps) : PrSq (fun b => b < w.heap.size) w v ps := h.imp fun _ _ hb => hb
theorem prsq_nil (R : Nat→Prop) (w : World) : PrSq R w (.slice none 0 0) [] := ⟨none,0,rfl,Nat.le_refl _,by simp [maxLen],by simp,fun _ => rfl,fun h => absurd rfl h⟩
theorem prc_flat : ∀ (ps : List Pr) (j : Nat) (p : Pr),ps[j]? = some p→(ps.flatMap prc)[j * 2]? = some (.int .u64 (p.1 : Int))∧(ps.flatMap prc)[j * 2 + 1]? = some (.int .u32 (p.2 : Int))
  | [],j,p,h => by simp at h
  | z :: ps,0,p,h => by
    have : z = p := by simpa using h
    subst this
    exact ⟨rfl,rfl⟩
  | z :: ps,j + 1,p,h => by
    have ih := prc_flat ps j p (by simpa using h)
    rw [show (j + 1) * 2 = j * 2 + 2 by omega]
    exact ih
theorem prc_len : ∀ ps : List Pr,(ps.flatMap prc).length = ps.length * 2
  | [] => rfl
  | p :: ps => by rw [List.flatMap_cons,List.length_append,prc_len ps,List.length_cons]; simp [prc]; omega
theorem prc_at {ps : List Pr} {j : Nat} {u : Value} (h : (ps.flatMap prc)[j]? = some u) : ∃ p,ps[j / 2]? = some p∧(j % 2 = 0∧u = .int .u64 (p.1 : Int)∨j % 2 = 1∧u = .int .u32 (p.2 : Int)) := by
  have hj : j < (ps.flatMap prc).length := (List.getElem?_eq_some_iff.1 h).1
  rw [prc_len] at hj
  have hp : ps[j / 2]? = some (ps[j / 2]'(by omega)) := List.getElem?_eq_getElem (by omega)
  obtain ⟨k0,k1⟩ := prc_flat ps _ _ hp
  refine ⟨_,hp,?_⟩
  rcases Nat.mod_two_eq_zero_or_one j with e | e
  · rw [show j / 2 * 2 = j by omega,h] at k0
    injection k0 with k0
    exact .inl ⟨e,k0⟩
  · rw [show j / 2 * 2 + 1 = j by omega,h] at k1
    injection k1 with k1
    exact .inr ⟨e,k1⟩
theorem prc_one (ps : List Pr) : ∀ u∈ps.flatMap prc,u.oneCell' = true := by
  intro u hu
  obtain ⟨p,_,hp⟩ := List.mem_flatMap.1 hu
  simp only [prc,List.mem_cons,List.not_mem_nil,or_false] at hp
  rcases hp with rfl | rfl <;> rfl
theorem PrSq.news {R : Nat→Prop} {w : World} {b o n c : Nat} {ps : List Pr} (h : PrSq R w (.slice (some ⟨b,o,none⟩) n c) ps) : ∀ j u,(ps.flatMap prc)[j]? = some u→w.cell? ((⟨b,o,none⟩ : Addr).add j) = some u := by
  intro j u hu
  obtain ⟨p,hp,hor⟩ := prc_at hu
  obtain ⟨b',o',e,_,c0,c1⟩ := h.at _ p hp
  cases e
  rw [Addr.add_lit]
  rcases hor with ⟨e,rfl⟩ | ⟨e,rfl⟩
  · rw [show o + j = o + j / 2 * 2 by omega]; exact c0
  · rw [show o + j = o + j / 2 * 2 + 1 by omega]; exact c1
def POwn (t : TypeId) (base : Nat) (w : World) (v : Value) (ps : List Pr) : Prop := w.ownsRow base t 2 v ps.length (ps.flatMap prc)∧∀ p∈ps,PrOk p
section
variable {t : TypeId} {base : Nat} {w w' : World} {v : Value} {ps : List Pr}
theorem POwn.nil (t : TypeId) (base : Nat) (w : World) : POwn t base w (.slice none 0 0) [] := ⟨World.ownsRow_nil _ _ _ _,by simp⟩
theorem POwn.grown (h : POwn t base w v ps) (k : w.grownBy w' none) : POwn t base w' v ps := ⟨World.ownsRow.kept h.1 k (by cases v.ownBlock <;> simp),h.2⟩
theorem POwn.mono {base' : Nat} (h : POwn t base w v ps) (k : base'≤base) : POwn t base' w v ps := ⟨own_base h.1 k,h.2⟩
theorem POwn.shape (h : POwn t base w v ps) : ∃ ao c,v = .slice ao ps.length c := own_shape h.1
theorem POwn.psq (h : POwn t base w v ps) : PrSq (fun b => base≤b∧v.ownBlock = some b) w v ps := by
  have hr := h.1
  rcases h.1.2 with ⟨rfl,hn⟩ | ⟨q,cap,cur,hv,hb,hq,hnc,hcm,hcs,ht⟩
  · rw [List.eq_nil_of_length_eq_zero hn]; exact prsq_nil _ _
  · refine ⟨some ⟨q,0,none⟩,cap,hv,hnc,hcm,h.2,by simp,fun hne => ⟨q,0,rfl,⟨hb,by rw [hv]; rfl⟩,fun j p hp => ?_⟩⟩
    obtain ⟨k0,k1⟩ := prc_flat ps j p hp
    have hc := hr.cells (g := q) (by rw [hv]; rfl)
    refine ⟨?_,?_⟩
    · have := hc _ _ k0; rwa [Addr.add_lit] at this
    · have := hc _ _ k1; rwa [Addr.add_lit,← Nat.add_assoc] at this
theorem POwn.sq (h : POwn t base w v ps) : PrSq (fun b => base≤b) w v ps := h.psq.imp fun _ k _ => k.1
theorem POwn.far {q : Nat} {cs : Array Value} {t2 : TypeId} {f : Nat × Nat} (h : POwn t base w v ps) (k : w.grownBy w' (some q)) (hq : w.heap[q]? = some (.cells cs t2 f)) (ht : t2≠t) : POwn t base w' v ps := by
  refine ⟨World.ownsRow.kept h.1 k ?_,h.2⟩
  rcases h.1.2 with ⟨rfl,_⟩ | ⟨g,cap,cur,rfl,_,hh,_⟩
  · exact .inl rfl
  · right
    intro e
    have : g = q := by injection e
    subst this
    rw [hh] at hq
    injection hq with hq
    injection hq with _ h2
    exact ht h2.symm
theorem POwn.push {base0 n : Nat} {v' : Value} {p : Pr} (h : POwn t base w v ps) (hp : PrOk p) (hn : n = ps.length) (hrow : w'.ownsRow base0 t 2 v' (n + 1) (ps.flatMap prc++prc p)) : POwn t base0 w' v' (ps++[p]) := by
  subst hn
  refine ⟨by simpa [List.flatMap_append] using hrow,fun q hq => ?_⟩
  rcases List.mem_append.1 hq with hq | hq
  · exact h.2 q hq
  · have : q = p := by simpa using hq
    rw [this]; exact hp
end
theorem infoPair : (Tryz.prog.info? 304).map (fun i => (i.zero,i.size,i.bytes)) = some (some (.agg #[.int .u64 0,.int .u32 0]),2,16) := by kernel_rfl
theorem lit_pair (w : World) (p : Pr) (t : TypeId) : ∀ j u,(prc p)[j]? = some u→(w.alloc (.cells #[.int .u64 (p.1 : Int),.int .u32 (p.2 : Int)] t)).cell? ((⟨w.heap.size,0,none⟩ : Addr).add j) = some u := by
  intro j u hj
  rw [Addr.add_lit,Nat.zero_add,World.cell?_alloc_mark]
  simpa [prc] using hj
theorem one_pair (p : Pr) : ∀ u∈prc p,u.oneCell' = true := by
  intro u hu
  simp only [prc,List.mem_cons,List.not_mem_nil,or_false] at hu
  rcases hu with rfl | rfl <;> rfl
end Go.Proofs.YtnnmpaenainogaaGreat

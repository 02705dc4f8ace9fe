/-
  Layer 11: Open of nothing; fresh pages of a new file, one behind the other. Own work.
-/
import Derived.Test.YtnnmpaenainogaaGreatPrnBP

set_option linter.unusedVariables false
set_option linter.unusedSimpArgs false
namespace Go.Proofs.YtnnmpaenainogaaGreat
open Go.RowKit Go.Maps
section
variable {B d f t x lim c : Nat} {w w' : World} {M : SM} {D E : Nat→List Int} {T : TV} {V : Nat→Nat} {I : List Nat} {j : Nat}
end
theorem meta_fields (a b c d : Value) : (∀ w : World,(Instr.field 44 (.agg #[a,b,c,d]) 0).run Tryz.prog w = .ok a w)∧(∀ w : World,(Instr.field 44 (.agg #[a,b,c,d]) 1).run Tryz.prog w = .ok b w)∧(∀ w : World,(Instr.field 44 (.agg #[a,b,c,d]) 2).run Tryz.prog w = .ok c w) :=
  ⟨fun _ => by kernel_rfl,fun _ => by kernel_rfl,fun _ => by kernel_rfl⟩
end Go.Proofs.YtnnmpaenainogaaGreat

namespace Go.Proofs.YtnnmpaenainogaaGreat
open Go.RowKit Go.Maps
structure HV (w : World) (pv fv : Value) (ps : List Nat) (fs : List Int) : Prop where
  p : OwnP 0 w pv ps
  f : Own8 0 w ps.length fv fs
  l : fs.length = ps.length
  b : Byt fs
theorem HV.kfr {P : Option TypeId→Prop} {B : Nat} {w w' : World} {pv fv : Value} {ps : List Nat} {fs : List Int} (h : HV w pv fv ps fs) (k : Kfr P B w w') (h1 : ¬ P (some 42)) (h2 : ¬ P (some 5)) : HV w' pv fv ps fs := ⟨h.p.kfr k h1,k.own8 h.f h2,h.l,h.b⟩
theorem HV.new {w w' : World} {pv fv : Value} {ps : List Nat} {fs : List Int} (h : HV w pv fv ps fs) (k : w.grownBy w' none) : HV w' pv fv ps fs := h.kfr (P := fun _ => False) (B := 0) (Kfr.of k) (by simp) (by simp)
theorem hv_nil (w : World) : HV w (.slice none 0 0) (.slice none 0 0) [] [] := ⟨⟨World.ownsRow_nil _ _ _ _,(by intro p hp; cases hp)⟩,World.ownsRow_nil _ _ _ _,rfl,(by intro p hp; cases hp)⟩
theorem own_src {w : World} {base n m c : Nat} {e : TypeId} {sa : Option Addr} {xs : List Value} (h : w.ownsRow base e 1 (.slice sa m c) n xs) : (sa = none→m = 0)∧n = m∧∀ W : World,(∀ i,i < w.heap.size→W.heap[i]? = w.heap[i]?)→∀ ad,sa = some ad→∀ j u,xs[j]? = some u→W.cell? (ad.add j) = some u := by
  have h' := h
  rcases h.2 with ⟨hv,h0⟩ | ⟨g,cap,cur,hv,hb,hg,hc,hm,hs,ht⟩
  · cases hv
    exact ⟨fun _ => rfl,h0,fun W _ ad e => by cases e⟩
  · cases hv
    refine ⟨fun e => (by cases e),rfl,fun W hW ad e j u hu => ?_⟩
    injection e with e
    subst e
    have hj : j < n := by
      have h1 := h.1
      have := (List.getElem?_eq_some_iff.1 hu).1
      rw [Nat.mul_one] at h1
      omega
    have hc := h'.cellAt j (by rw [Nat.mul_one]; exact hj)
    rw [hu] at hc
    have hbl := hW g (lt_of_block hg)
    rw [← hc]
    by_cases hj0 : j = 0
    · subst hj0; simp [World.cell?,Addr.add,hbl]
    · simp [World.cell?,Addr.add,hj0,hbl]
structure W3 (w wk : World) (H : Array Value) (P F : Value) : Prop where
  b1 : wk.heap[w.heap.size]? = some (.cells H 34 (0,0))
  b2 : wk.heap[w.heap.size + 1]? = some (.cells #[.slice none 0 0,.slice none 0 0] 34 (0,0))
  b3 : wk.heap[w.heap.size + 2]? = some (.cells #[P,F] 34 (0,0))
  g : w.grownBy wk none
section
variable {w wk w' : World} {H : Array Value} {P F : Value}
theorem W3.lt (h : W3 w wk H P F) : w.heap.size + 3≤wk.heap.size := lt_of_block h.b3
theorem W3.app {row : Option Nat} (h : W3 w wk H P F) (k : wk.grownBy w' row) (hr : ∀ q,row = some q→w.heap.size + 3≤q) : W3 w w' H P F := by
  have hl := h.lt
  have hk : ∀ i,i < w.heap.size + 3→w'.heap[i]? = wk.heap[i]? := fun i hi => k.block i (by omega) (fun e => by have := hr i e.symm; omega)
  refine ⟨(hk _ (by omega)).trans h.b1,(hk _ (by omega)).trans h.b2,(hk _ (by omega)).trans h.b3,?_⟩
  cases row with
  | none => exact gtrans h.g k
  | some q => exact gnew h.g k (by have := hr q rfl; omega)
theorem W3.set0 (h : W3 w wk H P F) (v : Value) : W3 w (wk.setCell ⟨w.heap.size + 2,0,none⟩ v) H v F := by
  have hg := gset wk ⟨w.heap.size + 2,0,none⟩ v
  refine ⟨(hg.block _ (lt_of_block h.b1) (fun e => by injection e with e; have e : w.heap.size = w.heap.size + 2 := e; omega)).trans h.b1,(hg.block _ (lt_of_block h.b2) (fun e => by injection e with e; have e : w.heap.size + 1 = w.heap.size + 2 := e; omega)).trans h.b2,?_,gnew h.g hg (by show w.heap.size≤w.heap.size + 2; omega)⟩
  exact heap_setCell_same _ _ _ _ 34 _ h.b3
theorem W3.set1 (h : W3 w wk H P F) (v : Value) : W3 w (wk.setCell ⟨w.heap.size + 2,1,none⟩ v) H P v := by
  have hg := gset wk ⟨w.heap.size + 2,1,none⟩ v
  refine ⟨(hg.block _ (lt_of_block h.b1) (fun e => by injection e with e; have e : w.heap.size = w.heap.size + 2 := e; omega)).trans h.b1,(hg.block _ (lt_of_block h.b2) (fun e => by injection e with e; have e : w.heap.size + 1 = w.heap.size + 2 := e; omega)).trans h.b2,?_,gnew h.g hg (by show w.heap.size≤w.heap.size + 2; omega)⟩
  exact heap_setCell_same _ _ _ _ 34 _ h.b3
theorem w3_start (w : World) (H : Array Value) : W3 w (((w.alloc (.cells H 34)).alloc (.cells #[.slice none 0 0,.slice none 0 0] 34)).alloc (.cells #[.slice none 0 0,.slice none 0 0] 34)) H (.slice none 0 0) (.slice none 0 0) := by
  obtain ⟨a,b,c,g⟩ := five_blocks (w := w) (a := .cells H 34) (b := .cells #[.slice none 0 0,.slice none 0 0] 34) (c := .cells #[.slice none 0 0,.slice none 0 0] 34) rfl
  exact ⟨a,b,c,g⟩
end
theorem onecellV {α : Type} (f : α→Value) (h : ∀ x,(f x).oneCell' = true) {l : List α} : ∀ u∈l.map f,u.oneCell' = true := fun u hu => by
  obtain ⟨x,_,rfl⟩ := List.mem_map.1 hu
  exact h x
theorem lit_one (w : World) (v : Value) (t : TypeId) : ∀ (j : Nat) (u : Value),[v][j]? = some u→(w.alloc (.cells #[v] t)).cell? ((⟨w.heap.size,0,none⟩ : Addr).add j) = some u := by
  intro j u h
  have hj : j = 0 := by have := (List.getElem?_eq_some_iff.1 h).1; simpa using this
  subst hj
  simp at h
  subst h
  have h2 := lit_block w (.cells #[v] t)
  show (w.alloc (.cells #[v] t)).cell? ⟨w.heap.size,0,none⟩ = _
  generalize w.alloc (.cells #[v] t) = W at h2 ⊢
  simp [World.cell?,h2]
theorem results_H {fn : Func} {p : Tmp} (h : fn.results = #[.cell p 34]) (tmps : Array Value) (W : World) (q : Nat) (cs : Array Value) (hp : tmps.getD p undef = .pointer (some ⟨q,0,none⟩))
    (hq : W.heap[q]? = some (.cells cs 34 (0,0))) (hs : cs.size = 2) : (results fn tmps).run Tryz.prog W = .ok (.agg cs) W :=
  results_cell_row h tmps W q 34 cs (0,0) _ hp hq Tryz.underlying34 rfl (by rw [hs]; kernel_rfl)
theorem w3_own {w w1 w' : World} {e : TypeId} {v : Value} {n q : Nat} {xs : List Value} (h : w1.ownsRow (w.heap.size + 3) e 1 v n xs) (g : w1.grownBy w' (some q)) (hq : q < w.heap.size + 3 := by omega) : w'.ownsRow (w.heap.size + 3) e 1 v n xs := by
  refine World.ownsRow.kept h g ?_
  cases hv : v.ownBlock with
  | none => exact .inl rfl
  | some k =>
    refine .inr fun e' => ?_
    have := (World.ownsRow.lt h k hv).1
    injection e' with e'
    omega
theorem w3_done {w wk : World} {H : Array Value} {P F : Value} (h : W3 w wk H P F) (a b : Value) : ((wk.setCell ⟨w.heap.size + 1,0,none⟩ a).setCell ⟨w.heap.size + 1,1,none⟩ b).heap[w.heap.size + 1]? = some (.cells #[a,b] 34 (0,0))∧wk.grownBy ((wk.setCell ⟨w.heap.size + 1,0,none⟩ a).setCell ⟨w.heap.size + 1,1,none⟩ b) (some (w.heap.size + 1)) :=
  ⟨store2 h.b2 a b,gtrans (gset wk ⟨w.heap.size + 1,0,none⟩ a) (gset _ ⟨w.heap.size + 1,1,none⟩ b)⟩
theorem hv_apart {w0 w1 w2 : World} {b1 b2 : Nat} {e1 e2 : TypeId} {v u : Value} {n m : Nat} {xs ys : List Value} (h : w0.ownsRow b1 e1 1 v n xs) (k : w0.ownsRow b2 e2 1 u m ys) (g : w0.grownBy w1 none) (g2 : w1.grownBy w2 u.ownBlock) (he : e1≠e2) : w2.ownsRow b1 e1 1 v n xs := by
  have h1 : w1.ownsRow b1 e1 1 v n xs := World.ownsRow.kept h g (Classical.em _)
  have k1 : w1.ownsRow b2 e2 1 u m ys := World.ownsRow.kept k g (Classical.em _)
  refine own_far h1 g2 (t := e2) (fun q hq => (own_tag k1 q hq).2.2) (fun e => he e.symm)
set_option maxRecDepth 100000 in
set_option maxHeartbeats 8000000 in
theorem hwith_any (w : World) (pa : Option Addr) (pn pc : Nat) (fa : Option Addr) (fn fc : Nat) (ps : List Nat) (fs : List Int) (p : Nat) (x : Int) (h : HV w (.slice pa pn pc) (.slice fa fn fc) ps fs) (hp : p < 4294967296) (hx0 : 0≤x) (hx1 : x≤255) (hn : ps.length≤1000) :
    Calls Tryz.prog 21 #[.agg #[.slice pa pn pc,.slice fa fn fc],.int .u32 (p : Int),.int .u8 x] w fun r w' => ∃ pb qc fb gc,r = .returned (.agg #[.slice pb (ps.length + 1) qc,.slice fb (ps.length + 1) gc])∧HV w' (.slice pb (ps.length + 1) qc) (.slice fb (ps.length + 1) gc) (ps++[p]) (fs++[x])∧w.grownBy w' none := by
  obtain ⟨i0,hi,hz0,hz1,hz2⟩ := info_parts infoPg
  obtain ⟨j0,hj,hw0,hw1,hw2⟩ := info_parts infoU8
  obtain ⟨p1,p2,p3⟩ := own_src h.p.1
  obtain ⟨f1,f2,f3⟩ := own_src h.f
  have hfl := h.l
  have HFL := Lib.hid hfl
  have HPL : Hid (ps.length = pn) := Lib.hid p2
  have HFN : Hid (ps.length = fn) := Lib.hid f2
  have P1 := Lib.hid p1
  have P3 := Lib.hid p3
  have F1 := Lib.hid f1
  have F3 := Lib.hid f3
  have H32 := Lib.hid h.p.2
  have HBY := Lib.hid h.b
  have hpn : pn≤1000 := by omega
  have hfn : fn≤1000 := by omega
  clear h p1 p3 f1 f3 p2 f2 hfl
  go_enter Tryz.func21,Tryz.ntmps21
  have HW0 := Lib.hid (w3_start w #[.slice pa pn pc,.slice fa fn fc])
  go_upto_region 2 with fail
  generalize ((w.alloc (.cells #[.slice pa pn pc,.slice fa fn fc] 34)).alloc (.cells #[.slice none 0 0,.slice none 0 0] 34)).alloc (.cells #[.slice none 0 0,.slice none 0 0] 34) = wA at HW0 ⊢
  obtain ⟨x0,x1,u0,u1⟩ := cells2 HW0.out.b1
  obtain ⟨y0,y1,v0,v1⟩ := cells2 HW0.out.b3
  go_upto_region 3 with (first
    | (at_builtin; refine wpList_append_any10 _ rfl _ _ 31 rfl (w.heap.size + 3) 42 i0 (.int .u32 0) 1 4 Tryz.underlying31 hi hz0 hz1 hz2 rfl (by decide) (.slice none 0 0) 0 [] rfl (World.ownsRow_nil _ _ _ _) pa pn pc (ps.map encP) rfl (by rw [List.length_map,Nat.mul_one]; exact HPL.out) P1.out (P3.out _ (fun i hi => HW0.out.g.block i hi (by simp))) (onecellV encP (fun _ => rfl)) (by unfold maxLen; omega) (by omega) HW0.out.lt ?_; intro v1 w1 hown1 hgr1; rw [Nat.zero_add,List.nil_append] at hown1; obtain ⟨a1,c1,rfl⟩ := own_shape hown1; have HO1 := Lib.hid hown1; have HW1 := Lib.hid (HW0.out.app hgr1 (by simp [Value.ownBlock])); clear hown1 hgr1; clear x0 x1 u0 u1 y0 y1 v0 v1; obtain ⟨x0,x1,u0,u1⟩ := cells2 HW1.out.b1; obtain ⟨y0,y1,v0,v1⟩ := cells2 HW1.out.b3)
    | go_in)
  have HW2 := Lib.hid (HW1.out.set0 (.slice a1 pn c1))
  have HO2 := Lib.hid (w3_own (q := w.heap.size + 2) HO1.out (w' := w1.setCell ⟨w.heap.size + 2,0,none⟩ (.slice a1 pn c1)) (gset _ _ _))
  clear HO1 HW1 HW0
  generalize w1.setCell ⟨w.heap.size + 2,0,none⟩ (.slice a1 pn c1) = w2 at HW2 HO2 ⊢
  clear x0 x1 u0 u1 y0 y1 v0 v1
  obtain ⟨x0,x1,u0,u1⟩ := cells2 HW2.out.b1
  obtain ⟨y0,y1,v0,v1⟩ := cells2 HW2.out.b3
  go_upto_region 4 with (first
    | (at_builtin; refine wpList_append_any10 _ rfl _ _ 32 rfl (w.heap.size + 3) 5 j0 (.int .u8 0) 1 1 Tryz.underlying32 hj hw0 hw1 hw2 rfl (by decide) (.slice none 0 0) 0 [] rfl (World.ownsRow_nil _ _ _ _) fa fn fc (fs.map (Value.int .u8)) rfl (by rw [List.length_map,Nat.mul_one]; exact HFL.out.trans HFN.out) F1.out (F3.out _ (fun i hi => HW2.out.g.block i hi (by simp))) (onecellV (Value.int .u8) (fun _ => rfl)) (by unfold maxLen; omega) (by omega) HW2.out.lt ?_; intro v3 w3 hown3 hgr3; rw [Nat.zero_add,List.nil_append] at hown3; obtain ⟨a3,c3,rfl⟩ := own_shape hown3; have HO3 := Lib.hid hown3; have HP3 := Lib.hid (World.ownsRow.kept HO2.out hgr3 (Classical.em _)); have HW3 := Lib.hid (HW2.out.app hgr3 (by simp [Value.ownBlock])); clear hown3 hgr3; clear x0 x1 u0 u1 y0 y1 v0 v1; obtain ⟨x0,x1,u0,u1⟩ := cells2 HW3.out.b1; obtain ⟨y0,y1,v0,v1⟩ := cells2 HW3.out.b3)
    | go_in)
  have HW4 := Lib.hid (HW3.out.set1 (.slice a3 fn c3))
  have HO4 := Lib.hid (w3_own (q := w.heap.size + 2) HO3.out (w' := w3.setCell ⟨w.heap.size + 2,1,none⟩ (.slice a3 fn c3)) (gset _ _ _))
  have HP4 := Lib.hid (w3_own (q := w.heap.size + 2) HP3.out (w' := w3.setCell ⟨w.heap.size + 2,1,none⟩ (.slice a3 fn c3)) (gset _ _ _))
  clear HO3 HW3 HP3 HO2 HW2
  generalize w3.setCell ⟨w.heap.size + 2,1,none⟩ (.slice a3 fn c3) = w4 at HW4 HO4 HP4 ⊢
  clear x0 x1 u0 u1 y0 y1 v0 v1
  obtain ⟨y0,y1,v0,v1⟩ := cells2 HW4.out.b3
  go_upto_region 5 with (first
    | (at_builtin; have HWL := Lib.hid (HW4.out.app (World.grownBy_alloc w4 (.cells #[.int .u32 (p : Int)] 42) none) (by simp)); refine wpList_append_any10 _ rfl _ _ 31 rfl (w.heap.size + 3) 42 i0 (.int .u32 0) 1 4 Tryz.underlying31 hi hz0 hz1 hz2 rfl (by decide) (.slice a1 pn c1) pn (ps.map encP) rfl (World.ownsRow.kept HP4.out (World.grownBy_alloc w4 (.cells #[.int .u32 (p : Int)] 42) none) (Classical.em _)) (some ⟨w4.heap.size,0,none⟩) 1 1 [encP p] rfl rfl (fun e => by cases e) (fun ad e => by injection e with e; subst e; exact lit_one w4 (.int .u32 (p : Int)) 42) (onecellV encP (fun _ => rfl) (l := [p])) (by unfold maxLen; omega) (by omega) HWL.out.lt ?_; intro v5 w5 hown5 hgr5; obtain ⟨a5,c5,rfl⟩ := own_shape hown5; have HO5 := Lib.hid hown5; have HF5 := Lib.hid (hv_apart HO4.out HP4.out (World.grownBy_alloc w4 (.cells #[.int .u32 (p : Int)] 42) none) hgr5 (by decide)); have HW5 := Lib.hid (HWL.out.app hgr5 (fun q hq => (World.ownsRow.lt HP4.out q hq).1)); clear hown5 hgr5 HWL; clear y0 y1 v0 v1; obtain ⟨y0,y1,v0,v1⟩ := cells2 HW5.out.b3)
    | go_in)
  have HW6 := Lib.hid (HW5.out.set0 (.slice a5 (pn + 1) c5))
  have HP6 := Lib.hid (w3_own (q := w.heap.size + 2) HO5.out (w' := w5.setCell ⟨w.heap.size + 2,0,none⟩ (.slice a5 (pn + 1) c5)) (gset _ _ _))
  have HO6 := Lib.hid (w3_own (q := w.heap.size + 2) HF5.out (w' := w5.setCell ⟨w.heap.size + 2,0,none⟩ (.slice a5 (pn + 1) c5)) (gset _ _ _))
  clear HO5 HW5 HF5 HO4 HP4 HW4
  generalize w5.setCell ⟨w.heap.size + 2,0,none⟩ (.slice a5 (pn + 1) c5) = w6 at HW6 HO6 HP6 ⊢
  clear y0 y1 v0 v1
  obtain ⟨y0,y1,v0,v1⟩ := cells2 HW6.out.b3
  go_upto_region 6 with (first
    | (at_builtin; have HWL := Lib.hid (HW6.out.app (World.grownBy_alloc w6 (.cells #[.int .u8 x] 5) none) (by simp)); refine wpList_append_any10 _ rfl _ _ 32 rfl (w.heap.size + 3) 5 j0 (.int .u8 0) 1 1 Tryz.underlying32 hj hw0 hw1 hw2 rfl (by decide) (.slice a3 fn c3) fn (fs.map (Value.int .u8)) rfl (World.ownsRow.kept HO6.out (World.grownBy_alloc w6 (.cells #[.int .u8 x] 5) none) (Classical.em _)) (some ⟨w6.heap.size,0,none⟩) 1 1 [.int .u8 x] rfl rfl (fun e => by cases e) (fun ad e => by injection e with e; subst e; exact lit_one w6 (.int .u8 x) 5) (onecellV (Value.int .u8) (fun _ => rfl) (l := [x])) (by unfold maxLen; omega) (by omega) HWL.out.lt ?_; intro v7 w7 hown7 hgr7; obtain ⟨a7,c7,rfl⟩ := own_shape hown7; have HO7 := Lib.hid hown7; have HP7 := Lib.hid (hv_apart HP6.out HO6.out (World.grownBy_alloc w6 (.cells #[.int .u8 x] 5) none) hgr7 (by decide)); have HW7 := Lib.hid (HWL.out.app hgr7 (fun q hq => (World.ownsRow.lt HO6.out q hq).1)); clear hown7 hgr7 HWL; clear y0 y1 v0 v1; obtain ⟨y0,y1,v0,v1⟩ := cells2 HW7.out.b3)
    | go_in)
  have HW8 := Lib.hid (HW7.out.set1 (.slice a7 (fn + 1) c7))
  have HO8 := Lib.hid (w3_own (q := w.heap.size + 2) HO7.out (w' := w7.setCell ⟨w.heap.size + 2,1,none⟩ (.slice a7 (fn + 1) c7)) (gset _ _ _))
  have HP8 := Lib.hid (w3_own (q := w.heap.size + 2) HP7.out (w' := w7.setCell ⟨w.heap.size + 2,1,none⟩ (.slice a7 (fn + 1) c7)) (gset _ _ _))
  clear HO7 HW7 HP7 HO6 HP6 HW6
  generalize w7.setCell ⟨w.heap.size + 2,1,none⟩ (.slice a7 (fn + 1) c7) = w8 at HW8 HO8 HP8 ⊢
  clear y0 y1 v0 v1
  obtain ⟨y0,y1,v0,v1⟩ := cells2 HW8.out.b3
  obtain ⟨x0,x1,u0,u1⟩ := cells2 HW8.out.b2
  go_wp2
  obtain ⟨hb,hg⟩ := w3_done HW8.out (.slice a5 (pn + 1) c5) (.slice a7 (fn + 1) c7)
  refine bodyPost_ret (results_H rfl _ _ (w.heap.size + 1) _ rfl hb rfl) rfl ?_
  have e1 : fn = pn := by rw [← HPL.out,← HFN.out]
  have e2 := HPL.out
  refine ⟨a5,c5,a7,c7,by rw [e1,e2],⟨⟨?_,fun q hq => ?_⟩,?_,?_,?_⟩,gnew HW8.out.g hg (by omega)⟩
  · have := own_base (w3_own (q := w.heap.size + 1) HP8.out hg) (Nat.zero_le _)
    rw [List.map_append,List.length_append,← e2] at *
    exact this
  · rcases List.mem_append.1 hq with k | k
    · exact H32.out q k
    · have := List.mem_singleton.1 k; omega
  · have := own_base (w3_own (q := w.heap.size + 1) HO8.out hg) (Nat.zero_le _)
    rw [e1,← e2] at this
    show World.ownsRow _ _ _ _ _ _ _
    rw [List.map_append,List.length_append,e2]
    rw [e1,e2] at *
    exact this
  · rw [List.length_append,List.length_append,HFL.out]; rfl
  · exact HBY.out.app (fun y hy => by have := List.mem_singleton.1 hy; omega)
end Go.Proofs.YtnnmpaenainogaaGreat

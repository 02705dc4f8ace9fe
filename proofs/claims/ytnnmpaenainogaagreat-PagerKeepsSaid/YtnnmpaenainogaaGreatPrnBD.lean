/-
  Layer 7: the contract of meta's Get. Own work.
-/
import Derived.Test.YtnnmpaenainogaaGreatPrnBC
import Derived.Test.YtnnmpaenainogaaGreatPrnAC
import Derived.Test.YtnnmpaenainogaaGreatPrnAZ

set_option linter.unusedVariables false
set_option linter.unusedSimpArgs false
namespace Go.Proofs.YtnnmpaenainogaaGreat
open Go.RowKit
theorem cells4 {W : World} {q : Nat} {a b c d : Value} {t : TypeId} (h : W.heap[q]? = some (.cells #[a,b,c,d] t (0,0))) :
    (W.cell? ⟨q,0,none⟩ = some a∧W.cell? ⟨q,1,none⟩ = some b∧W.cell? ⟨q,2,none⟩ = some c∧W.cell? ⟨q,3,none⟩ = some d) ∧
    W.frozen? ⟨q,0,none⟩ = false∧W.frozen? ⟨q,1,none⟩ = false∧W.frozen? ⟨q,2,none⟩ = false∧W.frozen? ⟨q,3,none⟩ = false := by
  refine ⟨⟨?_,?_,?_,?_⟩,?_,?_,?_,?_⟩ <;> simp [World.cell?,World.frozen?,h]
theorem store4 {W : World} {q : Nat} {x0 x1 x2 x3 : Value} {t : TypeId} (h : W.heap[q]? = some (.cells #[x0,x1,x2,x3] t (0,0))) (a b c d : Value) :
    ((((W.setCell ⟨q,0,none⟩ a).setCell ⟨q,1,none⟩ b).setCell ⟨q,2,none⟩ c).setCell ⟨q,3,none⟩ d).heap[q]? = some (.cells #[a,b,c,d] t (0,0)) := by
  have h1 : _ = some (Obj.cells #[a,x1,x2,x3] t (0,0)) := heap_setCell_same _ q 0 _ t a h
  have h2 : _ = some (Obj.cells #[a,b,x2,x3] t (0,0)) := heap_setCell_same _ q 1 _ t b h1
  have h3 : _ = some (Obj.cells #[a,b,c,x3] t (0,0)) := heap_setCell_same _ q 2 _ t c h2
  exact heap_setCell_same _ q 3 _ t d h3
theorem grown4 (W : World) (q : Nat) (a b c d : Value) : W.grownBy ((((W.setCell ⟨q,0,none⟩ a).setCell ⟨q,1,none⟩ b).setCell ⟨q,2,none⟩ c).setCell ⟨q,3,none⟩ d) (some q) :=
  gtrans (gset _ _ _) (gtrans (gset _ _ _) (gtrans (gset _ _ _) (gset _ _ _)))
theorem below4 {w0 W : World} {q : Nat} (h : Below w0.heap.size w0 W) (hq : w0.heap.size≤q) (a b c d : Value) : Below w0.heap.size w0 ((((W.setCell ⟨q,0,none⟩ a).setCell ⟨q,1,none⟩ b).setCell ⟨q,2,none⟩ c).setCell ⟨q,3,none⟩ d) :=
  (((h.setCell (p := ⟨q,0,none⟩) hq _).setCell (p := ⟨q,1,none⟩) hq _).setCell (p := ⟨q,2,none⟩) hq _).setCell (p := ⟨q,3,none⟩) hq _
theorem results_M {fn : Func} {p u : Tmp} (h : fn.results = #[.cell p 44,.tmp u]) (tmps : Array Value) (W : World) (q : Nat) (cs : Array Value) (e : Value) (hp : tmps.getD p undef = .pointer (some ⟨q,0,none⟩)) (he : tmps.getD u undef = e)
    (hq : W.heap[q]? = some (.cells cs 44 (0,0))) (hs : cs.size = 4) : (results fn tmps).run Tryz.prog W = .ok (.tuple #[.agg cs,e]) W := by
  have hld := run_loadVar_row (P := Tryz.prog) W q 44 44 cs (0,0) _ hq Tryz.underlying44 rfl (by rw [hs]; kernel_rfl)
  have hp' : tmps[p]?.getD undef = .pointer (some ⟨q,0,none⟩) := by simpa using hp
  have he' : tmps[u]?.getD undef = e := by simpa using he
  simp [results,h,hp',he',asAddr,hld]
def GotM (b : List Int) (w w' : World) (r : Ending) : Prop := r = .returned (.tuple #[.agg (mtC (mgetM b)),.int .i64 (mgetE b)])∧w.grownBy w' none
theorem gotM_no {b : List Int} {w w' : World} {x : Int} (he : mgetE b = x) (h0 : x≠0) (hg : w.grownBy w' none) : GotM b w w' (.returned (.tuple #[.agg #[.int .u64 0,.int .u32 0,.int .u32 0,.int .u32 0],.int .i64 x])) := by
  refine ⟨?_,hg⟩
  rw [mgetM_no (by rw [he]; exact h0),he]
  rfl
set_option maxHeartbeats 1000000 in
theorem mget_a (w : World) (ao : Option Addr) (n c : Nat) (b : List Int) (h : Seq w.heap.size w (.slice ao n c) b) (hs : ¬ (512≤n∧n≤4096)) :
    Calls Tryz.prog 209 #[.slice ao n c] w fun r w' => GotM b w w' r := by
  have hn : n = b.length := by obtain ⟨_,_,hv,_⟩ := h; injection hv
  have HE := Lib.hid (mget_len (b := b) (by rw [← hn]; exact hs))
  have hsi : ¬ (512≤(n : Int)∧(n : Int)≤4096) := by omega
  clear h hn hs
  go_enter Tryz.func209,Tryz.ntmps209
  go_wp2_with (go_at_call 73; refine (lsize_no _ _ hsi).mono ?_; rintro r w2 ⟨rfl,rfl⟩)
  exact bodyPost_ret (results_M rfl _ _ w.heap.size _ _ rfl rfl (heap_alloc_new _ _) rfl) rfl (gotM_no HE.out (by decide) (World.grownBy_alloc _ _ _))
set_option maxHeartbeats 1000000 in
theorem mget_b (w : World) (ao : Option Addr) (n c : Nat) (b : List Int) (h : Seq w.heap.size w (.slice ao n c) b) (hs1 : 512≤n) (hs2 : n≤4096) (hz : allZ (b.drop 32) = false) :
    Calls Tryz.prog 209 #[.slice ao n c] w fun r w' => GotM b w w' r := by
  have HE := Lib.hid (mget_nz (b := b) hz)
  have hc32 : ¬ c = 32 := by obtain ⟨_,c',hv,h1,_⟩ := h; cases hv; omega
  have hs1i : (512 : Int)≤(n : Int) := by omega
  have hs2i : (n : Int)≤4096 := by omega
  have h32 : (32 : Int)≤(n : Int) := by omega
  have HT := Lib.hid (show Seq w.heap.size (w.alloc (.cells #[.int .u64 0,.int .u32 0,.int .u32 0,.int .u32 0] 44)) (.slice (ao.map fun x => x.add 32) (n - 32) (c - 32)) (b.drop 32) by
    have hn : n = b.length := by obtain ⟨_,_,hv,_⟩ := h; injection hv
    have := (h.below (w' := w.alloc (.cells #[.int .u64 0,.int .u32 0,.int .u32 0,.int .u32 0] 44)) (fun i hi => Below.heap_alloc w _ i hi)).tail (k := 32) (by omega)
    rwa [← hn] at this)
  have HZ := Lib.hid hz
  clear h hz
  go_enter Tryz.func209,Tryz.ntmps209
  go_wp2_with (first
    | (go_at_call 73; refine (lsize_yes _ _ hs1i hs2i).mono ?_; rintro r w2 ⟨rfl,rfl⟩)
    | (go_at_call 110; refine (noughts_any _ _ _ _ _ _ HT.out).mono ?_; rintro r w2 ⟨rfl,rfl⟩; rw [HZ.out]))
  exact bodyPost_ret (results_M rfl _ _ w.heap.size _ _ rfl rfl (heap_alloc_new _ _) rfl) rfl (gotM_no HE.out (by decide) (World.grownBy_alloc _ _ _))
def zC : Array Value := #[.int .u64 0,.int .u32 0,.int .u32 0,.int .u32 0]
structure GS (g q : Nat) (w0 w : World) (v : Value) (b : List Int) (k : Nat) : Prop where
  rs : RS g w0 w ((b.take 32).drop k) 0
  hq : w.heap[q]? = some (.cells zC 44 (0,0))
  qg : q < g
  q0 : w0.heap.size≤q
  sq : Seq w0.heap.size w v b
theorem GS.far {g q : Nat} {w0 w w' : World} {v : Value} {b : List Int} {k : Nat} (h : GS g q w0 w v b k) (kk : w.grownBy w' none) : GS g q w0 w' v b k :=
  ⟨h.rs.far kk,(kk.block q (lt_of_block h.hq) (by simp)).trans h.hq,h.qg,h.q0,h.sq.below (fun i hi => kk.block i (by have := h.rs.bel.size; omega) (by simp))⟩
theorem GS.by_g {g q : Nat} {w0 w w' : World} {v : Value} {b : List Int} {k k' : Nat} (h : GS g q w0 w v b k) (hr : RS g w0 w' ((b.take 32).drop k') 0) (kk : w.grownBy w' (some g)) : GS g q w0 w' v b k' :=
  ⟨hr,(kk.block q (lt_of_block h.hq) (by intro e; injection e with e; have := h.qg; omega)).trans h.hq,h.qg,h.q0,h.sq.below (fun i hi => kk.block i (by have := h.rs.bel.size; omega) (by intro e; injection e with e; have := h.rs.g0; omega))⟩
theorem nx_in {bs : List Int} {n : Nat} (h : n≤bs.length) : nx bs 0 (n : Int) true = (bs.drop n,0,bs.take n) := by
  have : ¬ (bs.length : Int) < n := by omega
  simp [nx,this]
theorem in32 (b : List Int) (k n : Nat) (h : k + n≤32) : (((b.take 32).drop k).take n) = (b.drop k).take n := by
  rw [List.drop_take,List.take_take,Nat.min_eq_left (by omega)]
theorem GS.nx {g q : Nat} {w0 w : World} {v : Value} {b : List Int} {k : Nat} (_ : GS g q w0 w v b k) (n : Nat) (hk : k + n≤32) (hl : 32≤b.length) :
    nx ((b.take 32).drop k) 0 (n : Int) true = ((b.take 32).drop (k + n),0,(b.drop k).take n) := by
  rw [nx_in (by simp; omega),List.drop_drop,in32 b k n hk]
theorem GS.num {g q : Nat} {w0 w : World} {v : Value} {b : List Int} {k : Nat} (h : GS g q w0 w v b k) (n : Nat) (m : Int) (hm : m = (n : Int)) (h1 : 1≤n) (h8 : n≤8) (hk : k + n≤32) (hl : 32≤b.length) :
    Calls Tryz.prog 149 #[.pointer (some ⟨g,0,none⟩),.int .i64 m] w fun r w' => r = .returned (.int .u64 (fld b k n))∧GS g q w0 w' v b (k + n) := by
  subst hm
  exact (h.rs.num (n : Int) (by omega) (by omega) (h.nx n hk hl)).mono fun r w' ⟨e,hr,hg⟩ => ⟨e,h.by_g hr hg⟩
theorem GS.raw {g q : Nat} {w0 w : World} {v : Value} {b : List Int} {k : Nat} (h : GS g q w0 w v b k) (n : Nat) (m : Int) (hm : m = (n : Int)) (hk : k + n≤32) (hl : 32≤b.length) :
    Calls Tryz.prog 150 #[.pointer (some ⟨g,0,none⟩),.int .i64 m] w fun r w' => ∃ ao c,r = .returned (.slice ao n c)∧Seq w'.heap.size w' (.slice ao n c) ((b.drop k).take n)∧GS g q w0 w' v b (k + n) := by
  subst hm
  refine (h.rs.raw (n : Int) true (by simp) (h.nx n hk hl)).mono fun r w' ⟨ao,c,e,ho,hr,hg⟩ => ?_
  have hln : ((b.drop k).take n).length = n := by simp; omega
  rw [hln] at e ho
  exact ⟨ao,c,e,Seq.owned1 hln ho,h.by_g hr hg⟩
set_option maxHeartbeats 400000 in
theorem GS.page {g q : Nat} {w0 w : World} {v : Value} {b : List Int} {k : Nat} (h : GS g q w0 w v b k) (hb : Byt b) (hk : k + 4≤32) (hl : 32≤b.length) :
    Calls Tryz.prog 239 #[.pointer (some ⟨g,0,none⟩)] w fun r w' => r = .returned (.int .u32 (fld b k 4))∧GS g q w0 w' v b (k + 4) := by
  have hf := fld4 hb k
  have H := Lib.hid (h.num 4 4 rfl (by decide) (by decide) hk hl)
  clear h
  generalize fld b k 4 = x at *
  go_enter Tryz.func239,Tryz.ntmps239
  go_wp2_with (go_at_call 149; refine H.out.mono ?_; rintro r w1 ⟨rfl,hs⟩)
  go_ret
  exact ⟨by first | rfl | (congr 2; show x % 4294967296 = x; omega),hs⟩
theorem GS.start {g : Nat} {w w' : World} {v : Value} {b : List Int} (h : Seq w.heap.size w v b) (hb : Byt b) (hl : b.length≤4096) (hr : RdAt w' g (b.take 32) 0) (hg0 : (w.alloc (.cells zC 44)).heap.size≤g) (hg : (w.alloc (.cells zC 44)).grownBy w' none) : GS g w.heap.size w w' v b 0 := by
  have e : (w.alloc (.cells zC 44)).heap.size = w.heap.size + 1 := by simp
  rw [e] at hg0
  have ha := gtrans (World.grownBy_alloc w (.cells zC 44) none) hg
  exact ⟨⟨hr,hb.take 32,by rw [List.drop_zero,List.length_take]; omega,by omega,gbelow ha⟩,(hg.block _ (by simp) (by simp)).trans (heap_alloc_new _ _),by omega,Nat.le_refl _,h.below (fun i hi => ha.block i hi (by simp))⟩
theorem rub_list : (strOfNums RUB).toList = [82,85,66,49] := by rw [Lib.strOfNums_toList]; rfl
theorem rub_no {x : List Int} (hb : Byt x) (h : x≠RUB) : ((strOfNums x).toList == [82,85,66,49]) = false := by
  rw [← rub_list,eq_str hb rub_byt]
  exact decide_eq_false (fun e => h (cmpL_eq _ _ e))
theorem rub_yes {x : List Int} (h : x = RUB) : ((strOfNums x).toList == [82,85,66,49]) = true := by
  subst h
  rw [← rub_list]; simp
set_option maxHeartbeats 1000000 in
theorem mget_c (w : World) (ao : Option Addr) (n c : Nat) (b : List Int) (h : Seq w.heap.size w (.slice ao n c) b) (hb : Byt b) (hs1 : 512≤n) (hs2 : n≤4096) (hz : allZ (b.drop 32) = true) (hm : b.take 4≠RUB) :
    Calls Tryz.prog 209 #[.slice ao n c] w fun r w' => GotM b w w' r := by
  have hn : n = b.length := by obtain ⟨_,_,hv,_⟩ := h; injection hv
  have HE := Lib.hid (mget_mark (b := b) hm)
  have hc0 : n≤c := by obtain ⟨_,c',hv,h1,_⟩ := h; cases hv; exact h1
  have hc32 : ¬ c = 32 := by omega
  have hc32i : (32 : Int)≤(c : Int) := by omega
  have hs1i : (512 : Int)≤(n : Int) := by omega
  have hs2i : (n : Int)≤4096 := by omega
  have h32 : (32 : Int)≤(n : Int) := by omega
  have hH := h.head 32 (by omega)
  have HT := Lib.hid (show Seq w.heap.size (w.alloc (.cells #[.int .u64 0,.int .u32 0,.int .u32 0,.int .u32 0] 44)) (.slice (ao.map fun x => x.add 32) (n - 32) (c - 32)) (b.drop 32) by
    have := (h.below (w' := w.alloc (.cells #[.int .u64 0,.int .u32 0,.int .u32 0,.int .u32 0] 44)) (fun i hi => Below.heap_alloc w _ i hi)).tail (k := 32) (by omega)
    rwa [← hn] at this)
  have HH := Lib.hid (hH.below (w' := w.alloc (.cells #[.int .u64 0,.int .u32 0,.int .u32 0,.int .u32 0] 44)) (fun i hi => Below.heap_alloc w _ i hi))
  have HZ := Lib.hid hz
  have H := Lib.hid h
  have HL := Lib.hid hn
  have HB := Lib.hid hb
  have HM := Lib.hid (rub_no (hb.take 4) hm)
  clear h hz hn hH hb hm
  go_enter Tryz.func209,Tryz.ntmps209
  go_wp2_with (first
    | (go_at_call 73; refine (lsize_yes _ _ hs1i hs2i).mono ?_; rintro r w2 ⟨rfl,rfl⟩)
    | (go_at_call 110; refine (noughts_any _ _ _ _ _ _ HT.out).mono ?_; rintro r w2 ⟨rfl,rfl⟩; rw [HZ.out])
    | (go_at_call 152; refine (newR_any _ w.heap.size _ (b.take 32) HH.out (by simp) (by rw [List.length_take]; omega)).mono ?_; rintro r wr ⟨g,rfl,hgg,hrd,hgr⟩; have HG := Lib.hid (GS.start H.out HB.out (by rw [← HL.out]; exact hs2) hrd hgg hgr); clear hrd hgr hgg)
    | (go_at_call 150; have K := HG.out.raw 4 4 rfl (by decide) (by rw [← HL.out]; omega); ((with_reducible refine K.mono ?_); clear K; rintro r w3 ⟨a4,c4,rfl,hsq,hgs⟩; have hcv := seq_string hsq; rw [List.drop_zero] at hcv; have hrub := HM.out; generalize strOfNums (b.take 4) = T at hcv hrub; have HG3 := Lib.hid hgs; obtain ⟨⟨z0,z1,z2,z3⟩,f0,f1,f2,f3⟩ := cells4 hgs.hq; clear hgs hsq HG HM)))
  exact bodyPost_ret (results_M rfl _ _ w.heap.size _ _ rfl rfl (store4 HG3.out.hq _ _ _ _) rfl) rfl (gotM_no HE.out (by decide) (gof (below4 HG3.out.rs.bel (Nat.le_refl _) _ _ _ _) none))
end Go.Proofs.YtnnmpaenainogaaGreat

/-
  Layer 10: the record of a run. Own work.
-/
import Derived.Test.YtnnmpaenainogaaGreatPrnAQ
import Derived.Test.YtnnmpaenainogaaGreatPrnAP

set_option linter.unusedVariables false
set_option linter.unusedSimpArgs false
namespace Go.Proofs.YtnnmpaenainogaaGreat
open Go.RowKit
def RecR (w : World) (m : Nat) (T : Nat) (ps : List Nat) (r : Ending) (w' : World) : Prop := ∃ pa pc,r = .returned (.agg #[.int .u64 (T : Int),.slice pa m pc])∧OwnP w.heap.size w' (.slice pa m pc) ps∧w.grownBy w' none
set_option maxRecDepth 30000 in
set_option maxHeartbeats 4000000 in
theorem recordOf_any (w : World) (R : Nat→Prop) (b o m cap : Nat) (ps : List Pr) (T : Nat) (h : PrSq R w (.slice (some ⟨b,o,none⟩) m cap) ps) (h0 : 0 < m) (hT : (ps.getD 0 (0,0)).1 = T) (hm9 : m * 16≤140737488355000) :
    Calls Tryz.prog 126 #[.slice (some ⟨b,o,none⟩) m cap] w fun r w' => RecR w m T (ps.map (·.2)) r w' := by
  obtain ⟨i0,hi,hz0,hz1,hz2⟩ := info_parts infoPg
  have hn := h.len.1
  obtain ⟨p0,hp0⟩ : ∃ p,ps[0]? = some p := ⟨ps[0]'(by omega),List.getElem?_eq_getElem (by omega)⟩
  have hT0 : p0.1 = T := by rw [← hT,List.getD_eq_getElem?_getD,hp0]; rfl
  obtain ⟨b',o',hbo,_,c0,_⟩ := h.at 0 p0 hp0
  cases hbo
  rw [hT0,Nat.zero_mul,Nat.add_zero] at c0
  have c1 := cell_alloc (o := .cells #[.int .u64 0,.slice none 0 0] 158) c0
  have HN := Lib.hid hn
  have HS := Lib.hid h.low
  have hmi : (0 : Int) < (m : Int) := by omega
  have k0 := two_lit0 w (.cells #[.int .u64 0,.slice none 0 0] 158) (.cells #[.int .u64 (T : Int),.slice none 0 0] 158)
  have k1 := two_lit1 w (.cells #[.int .u64 0,.slice none 0 0] 158) (.cells #[.int .u64 (T : Int),.slice none 0 0] 158)
  have hgr := two_grown w (.cells #[.int .u64 0,.slice none 0 0] 158) (.cells #[.int .u64 (T : Int),.slice none 0 0] 158)
  have hsz : ((w.alloc (.cells #[.int .u64 0,.slice none 0 0] 158)).alloc (.cells #[.int .u64 (T : Int),.slice none 0 0] 158)).heap.size = w.heap.size + 2 := by simp
  have K0 := Lib.hid k0
  have K1 := Lib.hid k1
  have HG := Lib.hid hgr
  have HSZ := Lib.hid hsz
  clear h hn hp0 hT hT0 k0 k1 hgr hsz
  go_enter Tryz.func126,Tryz.ntmps126
  go_wp2
  generalize (w.alloc (.cells #[.int .u64 0,.slice none 0 0] 158)).alloc (.cells #[.int .u64 (T : Int),.slice none 0 0] 158) = W0 at K0 K1 HG HSZ ⊢
  clear c0 c1
  go_loopw [13] (fun i wr => ∃ (k : Nat) (pa : Option Addr) (pc : Nat),k≤m∧i = .int .i64 (k : Int)∧Hid (wr.heap[w.heap.size]? = some (.cells #[.int .u64 0,.slice none 0 0] 158 (0,0))∧wr.heap[w.heap.size + 1]? = some (.cells #[.int .u64 (T : Int),.slice pa k pc] 158 (0,0))∧OwnP (w.heap.size + 2) wr (.slice pa k pc) ((ps.take k).map (·.2))∧w.grownBy wr none∧w.heap.size + 2≤wr.heap.size)) (fun i _ => m - (intOf i).toNat)
  case atStart => exact ⟨0,none,0,Nat.zero_le _,rfl,Lib.hid ⟨K0.out,K1.out,⟨World.ownsRow_nil _ _ _ _,by simp⟩,HG.out,by rw [HSZ.out]; exact Nat.le_refl _⟩⟩
  case round =>
    obtain ⟨k,pa,pc,hk,rfl,HH⟩ := hrel
    by_cases hlt : k < m
    · have hki : (k : Int) < (m : Int) := by omega
      have hkl : k < ps.length := by rw [← HN.out]; exact hlt
      obtain ⟨p,hp⟩ : ∃ p,ps[k]? = some p := ⟨ps[k],List.getElem?_eq_getElem hkl⟩
      have hok := HS.out.ok p (List.mem_of_getElem? hp)
      obtain ⟨b',o',hbo,_,d0,d1⟩ := (HS.out.grown HH.out.2.2.2.1).at k p hp
      cases hbo
      have HT := Lib.hid (show (ps.take (k + 1)).map (·.2) = (ps.take k).map (·.2)++[p.2] by rw [take_snoc hp]; simp)
      have HTL := Lib.hid (show ((ps.take k).map (·.2)).length = k by rw [List.length_map,List.length_take]; omega)
      obtain ⟨a1,a2⟩ := p
      simp only at d0 d1 HT
      have h32 : a2 < 4294967296 := hok.2
      generalize (ps.take k).map (·.2) = L at HH HT HTL
      have hga := World.grownBy_alloc wr (.cells #[.int .u64 (a1 : Int),.int .u32 (a2 : Int)] 304) none
      have HGA := Lib.hid hga
      have HQ := Lib.hid (heap_alloc_new wr (.cells #[.int .u64 (a1 : Int),.int .u32 (a2 : Int)] 304))
      have e1 := (cells2 (show (wr.alloc (.cells #[.int .u64 (a1 : Int),.int .u32 (a2 : Int)] 304)).heap[w.heap.size + 1]? = _ from (hga.block _ (by have := HH.out.2.2.2.2; omega) (by simp)).trans HH.out.2.1)).2.1
      have hsz3 : w.heap.size + 2≤(wr.alloc (.cells #[.int .u64 (a1 : Int),.int .u32 (a2 : Int)] 304)).heap.size := by have := HH.out.2.2.2.2; simp; omega
      have HPA := Lib.hid ((HH.out.2.2.1).grown hga)
      clear hp hok hga
      go_wp2_with (at_builtin; refine wpList_append_own _ rfl _ _ 31 rfl (w.heap.size + 2) 42 i0 (.int .u32 0) 1 4 Tryz.underlying31 hi hz0 hz1 hz2 rfl (by decide) (.slice pa k pc) k (L.map encP) rfl ?c0 ⟨wr.heap.size + 1,0,none⟩ 1 1 [encP a2] rfl rfl ?c1 (by simp [Value.oneCell',encP]) (by unfold maxLen; omega) (by omega) ?c2 ?_)
      case c0 =>
        have h := (HPA.out.grown (World.grownBy_alloc _ (.cells #[.int .u32 (a2 : Int)] 42) none)).1
        rw [HTL.out] at h
        exact h
      case c1 =>
        have h := cell_one_new (wr.alloc (.cells #[.int .u64 (a1 : Int),.int .u32 (a2 : Int)] 304)) (encP a2) 42
        simpa using h
      case c2 => simp; simp at hsz3; omega
      intro v' W4 hown hgrow _
      obtain ⟨g',cap',rfl⟩ := ownsRow_succ hown
      have hro := HPA.out.1.alloc (.cells #[.int .u32 (a2 : Int)] 42)
      rw [HTL.out] at hro
      have hg4 : w.grownBy W4 none := grow_own (gtrans HH.out.2.2.2.1 (gtrans HGA.out (World.grownBy_alloc _ (.cells #[.int .u32 (a2 : Int)] 42) none))) hro hgrow (by omega)
      have hlow : ∀ q,q < w.heap.size + 2→W4.heap[q]? = wr.heap[q]? := fun q hq => by
        have hs := HH.out.2.2.2.2
        rw [hgrow.block q (by simp; omega) (fun e => by have := (hro.lt q e.symm).1; omega),Below.heap_alloc _ _ _ (by simp; omega),Below.heap_alloc _ _ _ (by omega)]
      have HB0 := Lib.hid ((hlow _ (by omega)).trans HH.out.1)
      have HB1 := Lib.hid ((hlow _ (by omega)).trans HH.out.2.1)
      have HOW := Lib.hid hown
      have HG4 := Lib.hid hg4
      have hs4 : w.heap.size + 2≤W4.heap.size := by have := hgrow.size; simp at this; have := HH.out.2.2.2.2; omega
      obtain ⟨x0,x1,f0,f1⟩ := cells2 HB1.out
      clear hown hgrow hro hg4 hlow
      go_wp2
      have hset0 : (W4.setCell ⟨w.heap.size + 1,1,none⟩ (.slice (some ⟨g',0,none⟩) (k + 1) cap')).heap[w.heap.size]? = _ := (Below.heap_setCell _ _ _ _ (by simp)).trans HB0.out
      have hset1 : (W4.setCell ⟨w.heap.size + 1,1,none⟩ (.slice (some ⟨g',0,none⟩) (k + 1) cap')).heap[w.heap.size + 1]? = _ := two_set1 HB1.out
      have hown5 := ownsRow_setCell_below HOW.out (a := ⟨w.heap.size + 1,1,none⟩) (by simp) (.slice (some ⟨g',0,none⟩) (k + 1) cap')
      have HF := Lib.hid (And.intro hset0 (And.intro hset1 (And.intro (show OwnP (w.heap.size + 2) (W4.setCell ⟨w.heap.size + 1,1,none⟩ (.slice (some ⟨g',0,none⟩) (k + 1) cap')) (.slice (some ⟨g',0,none⟩) (k + 1) cap') (L++[a2]) from
        ⟨by have h := hown5; rw [List.map_append,show (L++[a2]).length = k + 1 by rw [List.length_append,HTL.out]; rfl]; exact h,fun q hq => by
          rcases List.mem_append.1 hq with hq | hq
          · exact HH.out.2.2.1.2 q hq
          · have : q = a2 := by simpa using hq
            rw [this]; exact h32⟩) (And.intro (gnew HG4.out (gset W4 ⟨w.heap.size + 1,1,none⟩ (.slice (some ⟨g',0,none⟩) (k + 1) cap')) (show w.heap.size≤w.heap.size + 1 by omega)) (show w.heap.size + 2≤(W4.setCell ⟨w.heap.size + 1,1,none⟩ (.slice (some ⟨g',0,none⟩) (k + 1) cap')).heap.size by simp [World.setCell]; omega)))))
      clear hset0 hset1 hown5
      go_roundw
      case rel => exact ⟨k + 1,_,_,by omega,by go_num,by rw [HT.out]; exact HF⟩
      case measure => simp [intOf]; omega
    · have hki : ¬ (k : Int) < (m : Int) := by omega
      have hkm : k = m := by omega
      obtain ⟨x0,x1,f0,f1⟩ := cells2 HH.out.2.1
      obtain ⟨y0,y1,g0,g1⟩ := cells2 HH.out.1
      have HO := Lib.hid (show OwnP (w.heap.size + 2) wr (.slice pa k pc) (ps.map (·.2)) by have h := HH.out.2.2.1; rw [show k = ps.length by rw [← HN.out]; omega,List.take_length,← HN.out,← hkm] at h; exact h)
      go_wp2
      refine bodyPost_ret (results_Rec rfl _ _ w.heap.size _ rfl (store2 HH.out.1 _ _) rfl) rfl ?_
      subst hkm
      exact ⟨pa,pc,rfl,((HO.out.set (by omega) 0 _).set (by omega) 1 _).mono (by omega),gnew (gnew HH.out.2.2.2.1 (gset _ ⟨w.heap.size,0,none⟩ _) (Nat.le_refl _)) (gset _ ⟨w.heap.size,1,none⟩ _) (Nat.le_refl _)⟩
end Go.Proofs.YtnnmpaenainogaaGreat

namespace Go.Proofs.YtnnmpaenainogaaGreat
open Go.RowKit Go.Shelf
attribute [local go_sem] Oper.semAt_some
set_option maxHeartbeats 1000000 in
theorem runs_in (n : Nat) (a : Option Addr) (len cap : Nat) (w : World) :
    CallsIn Fence.wide n Tryz.prog 125 #[.slice a len cap] w fun e w' => e = .returned (.func (.func 181) #[] #[.pointer (some ⟨w.heap.size,0,none⟩)])∧w' = w.alloc (.cells #[.slice a len cap] 134) := by
  refine callsIn_of_wp Tryz.func125 rfl trivial ?_ rfl
  simp only [Tryz.ntmps125,List.size_toArray,List.length_cons,List.length_nil,Nat.reduceAdd,Nat.reduceSub,Array.replicate_succ,Array.replicate_zero,List.push_toArray,List.append_toArray,List.nil_append,List.cons_append]
  gi_wp2
  go_ret
  exact ⟨rfl,rfl⟩
abbrev RunX (len : Nat) := { x : Nat × Nat // x.1 < x.2∧x.2≤len }
def KpG (n₀ Bs : Nat) (W W' : World) : Prop := (∀ b,b < n₀→b < W.heap.size→W'.heap[b]? = W.heap[b]?)∧(Bs < W.heap.size→W'.heap[Bs]? = W.heap[Bs]?)∧W.heap.size≤W'.heap.size
theorem KpG.trans {n₀ Bs : Nat} {A B C : World} (h : KpG n₀ Bs A B) (k : KpG n₀ Bs B C) : KpG n₀ Bs A C :=
  ⟨fun b hb hs => (k.1 b hb (Nat.lt_of_lt_of_le hs h.2.2)).trans (h.1 b hb hs),fun hs => (k.2.1 (Nat.lt_of_lt_of_le hs h.2.2)).trans (h.2.1 hs),Nat.le_trans h.2.2 k.2.2⟩
theorem KpG.put {n₀ Bs : Nat} {W : World} {l : Nat} {o' : Obj} (hn : n₀≤l) (hB : Bs < l) : KpG n₀ Bs W (W.putObj l o') :=
  ⟨fun b hb _ => World.putObj_heap_other (by omega),fun _ => World.putObj_heap_other (by omega),by simp [World.putObj]⟩
structure RunI (ps : List Pr) (len a e : Nat) (pre : List (RunX len)) : Prop where
  lt : a < e
  le : e≤len + 1
  fin : e = len + 1→a = len
  same : ∀ j,a≤j→j < e→j < len→(ps.getD j (0,0)).1 = (ps.getD a (0,0)).1
  ahead : 0 < a→a < len→(ps.getD a (0,0)).1≠(ps.getD (a - 1) (0,0)).1
  few : pre.length≤a
  recs : pre.map (fun x => recOf ps x.1.1 x.1.2) = gatherL (ps.take a)
theorem RunI.go {ps : List Pr} {len a e : Nat} {pre : List (RunX len)} (h : RunI ps len a e pre) (he : e < len) (hs : (ps.getD e (0,0)).1 = (ps.getD a (0,0)).1) : RunI ps len a (e + 1) pre :=
  ⟨by have := h.lt; omega,by omega,fun k => by omega,fun j h1 h2 h3 => by
    by_cases k : j = e
    · subst k; exact hs
    · exact h.same j h1 (by omega) h3,h.ahead,h.few,h.recs⟩
theorem RunI.out {ps : List Pr} {len a e : Nat} {pre : List (RunX len)} (h : RunI ps len a e pre) (hl : len = ps.length) (he : e≤len) (hs : e < len→(ps.getD e (0,0)).1≠(ps.getD a (0,0)).1) (hx : a < e∧e≤len) : RunI ps len e (e + 1) (pre++[⟨(a,e),hx⟩]) := by
  have hr : RunAt ps a e := ⟨h.lt,by omega,fun j h1 h2 => h.same j h1 h2 (by omega),fun h0 => h.ahead h0 (by omega)⟩
  refine ⟨by omega,by omega,fun k => by omega,fun j h1 h2 h3 => by rw [show j = e by omega],fun h0 hel => ?_,by have := h.few; have := h.lt; simp; omega,?_⟩
  · rw [h.same (e - 1) (by have := h.lt; omega) (by omega) (by omega)]
    exact hs hel
  · rw [List.map_append,h.recs,gather_run hr]; rfl
def RunsAll (ps : List Pr) (len : Nat) (ys : List (RunX len)) : Prop := ys.map (fun x => recOf ps x.1.1 x.1.2) = gatherL ps
set_option maxRecDepth 100000 in
set_option maxHeartbeats 4000000 in
theorem runs1_in (n : Nat) (hn : 1≤n) (l n₀ Bs b o len cap : Nat) (ao : Option Addr) (hao : 0 < len→ao = some ⟨b,o,none⟩) (ps : List Pr) (hlen : len≤100000) (J Jx : List (RunX len)→World→Prop) (hJg : ∀ pre (X Y : World),J pre X→X.grownBy Y none→J pre Y)
    (hY : ∀ pre (x : RunX len) W,J pre W→pre.length < len→YieldAt Fence.wide (n - 1) Tryz.prog l #[.slice (some ⟨b,o + x.1.1 * 2,none⟩) (x.1.2 - x.1.1) (x.1.2 - x.1.1)] W fun e W' =>
      (e = .returned (.bool true)∧J (pre++[x]) W'∧KpG n₀ Bs W W')∨(e = .returned (.bool false)∧Jx (pre++[x]) W'))
    (W : World) (hBs : W.heap[Bs]? = some (.cells #[.slice ao len cap] 134 (0,0))) (hsq : PrSq (fun b => b < n₀) W (.slice ao len cap) ps) (h0 : J [] W) :
    CallsIn Fence.wide n Tryz.prog 181 #[.func (.yield l) #[] #[],.pointer (some ⟨Bs,0,none⟩)] W fun e W' => (∃ v,e = .returned v) ∧
      ((∃ ys,RunsAll ps len ys∧J ys W')∨(∃ pre,True∧Jx pre W')) := by
  obtain ⟨hnl,hlc,hc9⟩ := hsq.len
  have hc9' : (cap : Int) ≤ 9223372036854775807 := by have h9 : maxLen ≤ 9223372036854775807 := by decide
                                                      omega
  have HS := Lib.hid (And.intro hBs hsq)
  have HN := Lib.hid hnl
  have HY := Lib.hid hY
  have HJ := Lib.hid hJg
  clear hsq hnl hY hJg hBs hc9
  refine callsIn_of_wp Tryz.func181 rfl trivial ?_ rfl
  simp only [Tryz.ntmps181,List.size_toArray,List.length_cons,List.length_nil,Nat.reduceAdd,Nat.reduceSub,Array.replicate_succ,Array.replicate_zero,List.push_toArray,List.append_toArray,List.nil_append,List.cons_append]
  gi_wp2
  gi_loopw [3,4] (fun ia ie wr => ∃ (a e : Nat) (pre : List (RunX len)),ia = .int .i64 (a : Int)∧ie = .int .i64 (e : Int)∧e≤len + 1∧Hid (RunI ps len a e pre∧J pre wr∧wr.heap[Bs]? = some (.cells #[.slice ao len cap] 134 (0,0))∧PrSq (fun b => b < n₀) wr (.slice ao len cap) ps)) (fun _ i _ => len + 2 - (intOf i).toNat)
  case atStart => exact ⟨0,1,[],rfl,rfl,by omega,Lib.hid ⟨⟨by omega,by omega,fun k => by omega,fun j h1 h2 h3 => by rw [show j = 0 by omega],fun h _ => by omega,Nat.le_refl _,rfl⟩,h0,HS.out.1,HS.out.2⟩⟩
  case round =>
    obtain ⟨a,e,pre,rfl,rfl,hel,HH⟩ := hrel
    have hbx : wr.cell? ⟨Bs,0,none⟩ = some (.slice ao len cap) := by simp [World.cell?,HH.out.2.2.1]
    have hae := HH.out.1.lt
    by_cases hle : e≤len
    · have hlei : (e : Int)≤(len : Int) := by omega
      obtain rfl := hao (by omega)
      have hal : a < len := by omega
      have hali : (a : Int) < (len : Int) := by omega
      have ha0 : (0 : Int)≤(a : Int) := by omega
      have he0 : (0 : Int)≤(e : Int) := by omega
      have hai : (a : Int)≤(e : Int) := by omega
      have heci : (e : Int)≤(cap : Int) := by omega
      have hd3 : (e : Int) - (a : Int) = ((e - a : Nat) : Int) := by omega
      obtain ⟨pa,hpa⟩ : ∃ p,ps[a]? = some p := ⟨ps[a]'(by rw [← HN.out]; exact hal),List.getElem?_eq_getElem _⟩
      obtain ⟨b',o',hbo,_,c0,_⟩ := HH.out.2.2.2.at a pa hpa
      cases hbo
      have HPA := Lib.hid (show (ps.getD a (0,0)).1 = pa.1 by simp [List.getD_eq_getElem?_getD,hpa])
      obtain ⟨Ta,hTa⟩ : ∃ T,T = pa.1 := ⟨_,rfl⟩
      rw [← hTa] at c0 HPA
      clear hTa hpa
      have hx : a < e∧e≤len := ⟨hae,hle⟩
      by_cases helt : e < len
      · have hd : decide ((e : Int) < (len : Int)) = true := by simp; omega
        have heli : (e : Int) < (len : Int) := by omega
        obtain ⟨pe,hpe⟩ : ∃ p,ps[e]? = some p := ⟨ps[e]'(by rw [← HN.out]; exact helt),List.getElem?_eq_getElem _⟩
        obtain ⟨b',o',hbo,_,d0,_⟩ := HH.out.2.2.2.at e pe hpe
        cases hbo
        have HPE := Lib.hid (show (ps.getD e (0,0)).1 = pe.1 by simp [List.getD_eq_getElem?_getD,hpe])
        obtain ⟨Te,hTe⟩ : ∃ T,T = pe.1 := ⟨_,rfl⟩
        rw [← hTe] at d0 HPE
        clear hTe hpe
        by_cases hT : Te = Ta
        · have hb : ((Te : Int) == (Ta : Int)) = true := by simp [hT]
          have HR := Lib.hid (HH.out.1.go helt (by rw [HPA.out,HPE.out,hT]))
          clear hT hx
          gi_wp2
          gi_quiet (fail)
          have HF := Lib.hid (And.intro HR.out (And.intro (HJ.out _ _ _ HH.out.2.1 (gdrewN wr nq)) (And.intro (show (wr.drewN nq).heap[Bs]? = _ from HH.out.2.2.1) (HH.out.2.2.2.grown (gdrewN wr nq)))))
          gi_wp2
          go_roundw
          case rel => exact ⟨a,e + 1,pre,rfl,by go_num,by omega,HF⟩
          case measure => simp [intOf]; omega
        · have hb : ((Te : Int) == (Ta : Int)) = false := by simp; omega
          have HR := Lib.hid (HH.out.1.out HN.out hle (fun _ => by rw [HPA.out,HPE.out]; exact hT) hx)
          clear hT
          gi_wp2
          gi_quiet (fail)
          have HJ2 := Lib.hid (HJ.out _ _ _ HH.out.2.1 (gdrewN wr nq))
          have HB2 := Lib.hid (show (wr.drewN nq).heap[Bs]? = _ from HH.out.2.2.1)
          have HP2 := Lib.hid (HH.out.2.2.2.grown (gdrewN wr nq))
          have hbx2 : (wr.drewN nq).cell? ⟨Bs,0,none⟩ = some (.slice (some ⟨b,o,none⟩) len cap) := hbx
          obtain ⟨fn,tmps,assign,body,hy,hR⟩ := HY.out _ ⟨(a,e),hx⟩ (wr.drewN nq) HJ2.out (by have := HH.out.1.few; omega)
          simp only at hy
          gi_wp2
          refine hR.mono ?_
          rintro e3 W3 (⟨rfl,hJ3,hk3⟩ | ⟨rfl,hJx3⟩)
          · have HF := Lib.hid (And.intro HR.out (And.intro hJ3 (And.intro ((hk3.2.1 (lt_of_block HB2.out)).trans HB2.out) (HP2.out.kept hk3.1))))
            clear hJ3
            gi_wp2
            go_roundw
            case rel => exact ⟨e,e + 1,_,rfl,by go_num,by omega,HF⟩
            case measure => simp [intOf]; omega
          · gi_wp2
            refine bodyPost_ret (results_none rfl _ _ _) rfl ?_
            exact ⟨⟨_,rfl⟩,.inr ⟨_,trivial,hJx3⟩⟩
      · have hd : decide ((e : Int) < (len : Int)) = false := by simp; omega
        have HR := Lib.hid (HH.out.1.out HN.out hle (fun h => absurd h helt) hx)
        gi_wp2
        gi_quiet (fail)
        have HJ2 := Lib.hid (HJ.out _ _ _ HH.out.2.1 (gdrewN wr nq))
        have HB2 := Lib.hid (show (wr.drewN nq).heap[Bs]? = _ from HH.out.2.2.1)
        have HP2 := Lib.hid (HH.out.2.2.2.grown (gdrewN wr nq))
        have hbx2 : (wr.drewN nq).cell? ⟨Bs,0,none⟩ = some (.slice (some ⟨b,o,none⟩) len cap) := hbx
        obtain ⟨fn,tmps,assign,body,hy,hR⟩ := HY.out _ ⟨(a,e),hx⟩ (wr.drewN nq) HJ2.out (by have := HH.out.1.few; omega)
        simp only at hy
        gi_wp2
        refine hR.mono ?_
        rintro e3 W3 (⟨rfl,hJ3,hk3⟩ | ⟨rfl,hJx3⟩)
        · have HF := Lib.hid (And.intro HR.out (And.intro hJ3 (And.intro ((hk3.2.1 (lt_of_block HB2.out)).trans HB2.out) (HP2.out.kept hk3.1))))
          clear hJ3
          gi_wp2
          go_roundw
          case rel => exact ⟨e,e + 1,_,rfl,by go_num,by omega,HF⟩
          case measure => simp [intOf]; omega
        · gi_wp2
          refine bodyPost_ret (results_none rfl _ _ _) rfl ?_
          exact ⟨⟨_,rfl⟩,.inr ⟨_,trivial,hJx3⟩⟩
    · have hlei : ¬ (e : Int)≤(len : Int) := by omega
      have H5 := Lib.hid (show RunsAll ps len pre∧J pre wr from ⟨by
        have h := HH.out.1.recs
        rw [show a = ps.length by rw [HH.out.1.fin (by omega)]; exact HN.out,List.take_length] at h
        exact h,HH.out.2.1⟩)
      gi_wp2
      go_end0
      exact ⟨⟨_,rfl⟩,.inl ⟨_,H5.out.1,H5.out.2⟩⟩
theorem runs_stops (n : Nat) (hn : 1≤n) (n₀ Bs b o len cap : Nat) (ao : Option Addr) (hao : 0 < len→ao = some ⟨b,o,none⟩) (ps : List Pr) (hlen : len≤100000) (w : World) (hn₀ : n₀≤w.heap.size) (hBs : w.heap[Bs]? = some (.cells #[.slice ao len cap] 134 (0,0))) (hsq : PrSq (fun b => b < n₀) w (.slice ao len cap) ps) :
    SeqStopsK Fence.wide n Tryz.prog 181 #[.pointer (some ⟨Bs,0,none⟩)] (fun x : RunX len => #[.slice (some ⟨b,o + x.1.1 * 2,none⟩) (x.1.2 - x.1.1) (x.1.2 - x.1.1)]) (KpG n₀ Bs)
      (RunsAll ps len) (fun _ => True) len w := fun l J Jx W hW hJ _ hY h0 =>
  runs1_in n hn l n₀ Bs b o len cap ao hao ps hlen J Jx (fun pre X Y h k => hJ pre X Y none h k (fun r e => by cases e)) hY W ((hW.block Bs (lt_of_block hBs)).trans hBs) (hsq.kept fun b hb _ => hW.block b (by omega)) h0
theorem RcOwns.nc {base : Nat} {w w' : World} {lv : Value} {es : List (Value × Rc)} {row : Option Nat} (h : RcOwns base w lv es) (k : w.grownBy w' row) (hr : ∀ r,row = some r→∃ o : Obj,w.heap[r]? = some o∧o.isCells = false) : RcOwns base w' lv es :=
  ⟨own_nc h.row k hr,fun y hy => ⟨⟨own_nc (h.each y hy).1.1 k hr,(h.each y hy).1.2⟩,(h.each y hy).2⟩⟩
theorem RcOwns.mono {base base' : Nat} {w : World} {lv : Value} {es : List (Value × Rc)} (h : RcOwns base w lv es) (k : base'≤base) : RcOwns base' w lv es :=
  ⟨own_base h.row k,fun y hy => ⟨(h.each y hy).1.mono k,(h.each y hy).2⟩⟩
theorem gather_push {W W2 W4 : World} {g n₀ T : Nat} {v v' pv : Value} {es : List (Value × Rc)} {pages : List Nat} (hv : Boxed W g 68 v) (ho : RcOwns (g + 2) W v es) (hW : g + 2≤W.heap.size) (hn : n₀≤g) (hgr : W.grownBy W2 none) (hp : OwnP (g + 2) W2 pv pages) (hT : T < 18446744073709551616)
    (hown' : W4.ownsRow (g + 2) 158 2 v' (es.length + 1) (es.flatMap rcl++rcl (pv,(T,pages)))) (hgrow : (W2.alloc (.cells #[.int .u64 (T : Int),pv] 158)).grownBy W4 v.ownBlock) :
    Boxed W4 g 68 v∧Boxed (W4.setCell ⟨g,0,none⟩ v') g 68 v'∧RcOwns (g + 2) (W4.setCell ⟨g,0,none⟩ v') v' (es++[(pv,(T,pages))])∧KeepsOthers W (W4.setCell ⟨g,0,none⟩ v') ∧
      KpG n₀ (g + 1) W (W4.setCell ⟨g,0,none⟩ v')∧Below g W (W4.setCell ⟨g,0,none⟩ v')∧g + 2≤(W4.setCell ⟨g,0,none⟩ v').heap.size := by
  have hs2 := hgr.size
  have hv2 : Boxed W2 g 68 v := hv.kept hgr (by simp)
  have ho2 := ho.grown hgr
  have hga := World.grownBy_alloc W2 (.cells #[.int .u64 (T : Int),pv] 158) none
  obtain ⟨k1,k2,k3,k4,k5⟩ := Boxed.appended hv2 (by decide) (own_base ho2.row (show g≤g + 2 by omega)) (by omega) (Nat.le_refl g) (own_base hown' (show g≤g + 2 by omega)) hgrow
  have hoa := ho2.grown hga
  have hother : ∀ i,i < g + 2→i < W.heap.size→i≠g→(W4.setCell ⟨g,0,none⟩ v').heap[i]? = W.heap[i]? := fun i hi2 hi hg => by
    have e1 : (W4.setCell ⟨g,0,none⟩ v').heap[i]? = W4.heap[i]? := Below.heap_setCell _ _ _ _ (by simpa using hg)
    rw [e1,hgrow.block i (by simp; omega) (fun e => by have := (hoa.row.lt i e.symm).1; omega),hga.block i (by omega) (by simp),hgr.block i hi (by simp)]
  have hko := (KeepsOthers.of_grownBy hgr (fun j o e => by cases e)).trans k4
  have hpu := hoa.push (y := (pv,(T,pages))) (hp.grown hga) hT hown' hgrow
  refine ⟨k1,k2,hpu.kept (fun i hi _ => Below.heap_setCell _ _ _ _ (by simp; omega)),hko,⟨fun b hb hs => hother b (by omega) hs (by omega),fun hs => hother _ (by omega) hs (by omega),hko.size⟩,((gbelow hgr).mono (by omega)).trans k5,Nat.le_trans hW hko.size⟩
theorem opIn_append {F : Fence} {n : Nat} {P : Program} {o : Oper} {a : Act} {w w' : World} {K : Act→World→Prop} {Q : Exit→Act→World→Prop} (s x : Operand) (t : TypeId) (hop : o.op = Op.call { callee := Callee.builtin Builtin.append,args := #[s,x],argTypes := #[t,t] })
    (v y : Value) (hs : a.eval s = v) (hx : a.eval x = y) {v' : Value} (ty : TypeId) (hty : o.type = ty) (hrun : (Builtin.append_ #[t,t] ty #[v,y]).run P w = .ok v' w') (h : K (a.put o.dst v') w') : Oper.wpIn F n P o a w K Q := by
  unfold Oper.wpIn
  refine ⟨?_,?_⟩
  · simp [Oper.about,hop,resolve,Target.leads,Sem.run_pure]
  · rw [Oper.semAt_plain F _ _ (by rw [hop]; intro c hc'; cases hc')]
    subst hty
    simp [execOp,hop,resolve,invoke,builtin,hs,hx,hrun,Result.andThen]
    exact h
def GatherR (w : World) (rs : List Rc) (r : Ending) (w' : World) : Prop := ∃ v es,r = .returned v∧RcOwns w.heap.size w' v es∧es.map (·.2) = rs∧w.grownBy w' none
set_option maxRecDepth 100000 in
set_option maxHeartbeats 4000000 in
theorem gather_some (w : World) (R : Nat→Prop) (ao : Option Addr) (b o n c : Nat) (hao : 0 < n→ao = some ⟨b,o,none⟩) (ps : List Pr) (h : PrSq R w (.slice ao n c) ps) (hn9 : n≤100000) :
    Calls Tryz.prog 87 #[.slice ao n c] w fun r w' => GatherR w (gatherL ps) r w' := by
  obtain ⟨i0,hi,hz0,hz1,hz2⟩ := info_parts infoRec
  have H := Lib.hid (h.imp (S := fun b => b < w.heap.size) fun _ _ hb => hb)
  have hnl := h.len.1
  have HN := Lib.hid hnl
  clear h hnl
  refine (callsIn_wide (n := 5)).1 ?_
  refine callsIn_of_wp_marks Tryz.func87 rfl trivial ?_ rfl
  simp only [Tryz.ntmps87,List.size_toArray,List.length_cons,List.length_nil,Nat.reduceAdd,Nat.reduceSub,Array.replicate_succ,Array.replicate_zero,List.push_toArray,List.append_toArray,List.nil_append,List.cons_append]
  gi_wp2_with (refine ⟨trivial,?_⟩; gi_at_call 125; refine (runs_in _ ao n c _).mono ?_; rintro r w1 ⟨rfl,rfl⟩)
  have hb0 := two_lit0 w (.cells #[.slice none 0 0] 68) (.cells #[.slice ao n c] 134)
  have hb1 := two_lit1 w (.cells #[.slice none 0 0] 68) (.cells #[.slice ao n c] 134)
  have hgw := two_grown w (.cells #[.slice none 0 0] 68) (.cells #[.slice ao n c] 134)
  have hsz : ((w.alloc (.cells #[.slice none 0 0] 68)).alloc (.cells #[.slice ao n c] 134)).heap.size = w.heap.size + 2 := by simp
  have HS0 := Lib.hid (H.out.grown hgw)
  generalize (w.alloc (.cells #[.slice none 0 0] 68)).alloc (.cells #[.slice ao n c] 134) = W0 at *
  obtain ⟨g,hg⟩ : ∃ g,g = w.heap.size := ⟨_,rfl⟩
  rw [← hg] at hb0 hb1 hsz HS0 ⊢
  have hB0 : Below g w W0 := by rw [hg]; exact gbelow hgw
  have HG := Lib.hid hg
  clear hg hgw
  refine wpIn_rangeFunc_ownG rfl (by decide : 1≤5) (gf := 181) (lb := #[.pointer (some ⟨g + 1,0,none⟩)]) rfl trivial (enters_of Tryz.func181 (by kernel_rfl) rfl)
    (runs_stops (5 - 1) (by decide) g (g + 1) b o n c ao hao ps hn9 W0 (by omega) hb1 HS0.out) (fun h k => h.trans k) (fun W l q q' hl _ _ _ => KpG.put (by omega) (by omega)) (Below.refl _ _) (fun _ => rfl)
    (fun pre W => (∃ v es,Boxed W g 68 v∧RcOwns (g + 2) W v es∧es.map (·.2) = pre.map (fun x => recOf ps x.1.1 x.1.2)∧g + 2≤W.heap.size)∧Below g w W)
    (fun _ _ _ => False)
    (OwnFrom.and (fun s X Y row ⟨v,es,hv,ho,he,hz⟩ hgy hr => ⟨v,es,hv.kept hgy (fun e => by obtain ⟨_,q,hq,hc⟩ := hr g e.symm; rw [show X.heap[g]? = _ from hv] at hq; cases hq; cases hc),ho.nc hgy (fun r e => (hr r e).2),he,Nat.le_trans hz hgy.size⟩) (ownFrom_below (by rw [HG.out]; exact Nat.le_refl _) (by omega)))
    (fun _ _ _ _ _ hs _ _ => hs)
    ⟨⟨.slice none 0 0,[],hb0,RcOwns.nil _ _,rfl,by omega⟩,hB0⟩
    (fun x => { tmps := #[.slice ao n c,undef,.slice none 0 0,.pointer (some ⟨g,0,none⟩),.slice (some ⟨b,o + x.1.1 * 2,none⟩) (x.1.2 - x.1.1) (x.1.2 - x.1.1),.slice ao n c,.func (.func 181) #[] #[.pointer (some ⟨g + 1,0,none⟩)],.slice (some ⟨b,o + x.1.1 * 2,none⟩) (x.1.2 - x.1.1) (x.1.2 - x.1.1),undef,undef,undef,undef,undef,undef],defers := [] }) ?assign ?body ?done ?stop
  case assign =>
    intro l x W K hK
    gi_wp2
    exact hK
  case body =>
    rintro l pre ⟨⟨xa,xe⟩,hx1,hx2⟩ W ⟨⟨v,es,hv,ho,he,hWz⟩,hBw⟩ hlt
    try simp only at hx1 hx2 ⊢
    have hmx : Tryz.prog.follows .mixedOrders = true := by kernel_rfl
    have hel9 : es.length≤100000 := by have h := congrArg List.length he; simp at h; omega
    have hc0 := hv.cell
    have hc0d : W.drew.cell? ⟨g,0,none⟩ = some v := hc0
    obtain ⟨m,hm⟩ : ∃ m,m = xe - xa := ⟨_,rfl⟩
    have hm1 : 0 < m := by omega
    have hm9 : m * 16≤140737488355000 := by omega
    have hq : ((ps.drop xa).take (xe - xa)).length = m := by have := HN.out; rw [List.length_take,List.length_drop]; omega
    have hgt : ((ps.drop xa).take (xe - xa)).getD 0 (0,0) = ps.getD xa (0,0) := by
      simp [List.getD_eq_getElem?_getD,List.getElem?_take,show 0 < xe - xa by omega]
    have hok : (ps.getD xa (0,0)).1 < 18446744073709551616 := by
      have hl : xa < ps.length := by have := HN.out; omega
      rw [List.getD_eq_getElem?_getD,List.getElem?_eq_getElem hl]
      exact (H.out.ok _ (List.getElem_mem hl)).1
    have hsq : PrSq (fun b => b < g) W.drew (.slice (some ⟨b,o + xa * 2,none⟩) m m) ((ps.drop xa).take (xe - xa)) := by
      have hw := H.out.kept (w' := W.drew) (fun b hb _ => hBw.block b (by rw [HG.out]; exact hb))
      refine ⟨_,_,by rw [hq],by rw [hq]; exact Nat.le_refl _,by unfold maxLen; omega,fun p hp => H.out.ok p (List.mem_of_mem_drop (List.mem_of_mem_take hp)),by simp,fun _ => ⟨b,o + xa * 2,rfl,?_,fun j p hp => ?_⟩⟩
      · obtain ⟨p0,hp0⟩ : ∃ p,ps[xa]? = some p := ⟨ps[xa]'(by have := HN.out; omega),List.getElem?_eq_getElem _⟩
        obtain ⟨b',o',hbo,hbl,_⟩ := hw.at xa p0 hp0
        rw [hao (by omega)] at hbo
        cases hbo
        rw [HG.out]; exact hbl
      · have hj := (List.getElem?_eq_some_iff.1 hp).1
        rw [hq] at hj
        rw [List.getElem?_take,if_pos (by omega),List.getElem?_drop] at hp
        obtain ⟨b',o',hbo,_,k0,k1⟩ := hw.at (xa + j) p hp
        rw [hao (by omega)] at hbo
        cases hbo
        rw [show o + xa * 2 + j * 2 = o + (xa + j) * 2 by omega]
        exact ⟨k0,k1⟩
    have HRC := Lib.hid (show recOf ps xa xe = ((ps.getD xa (0,0)).1,((ps.drop xa).take (xe - xa)).map (·.2)) from rfl)
    rw [← hm] at hsq hgt HRC ⊢
    generalize (ps.drop xa).take m = run at hsq hgt HRC
    have hT := congrArg Prod.fst hgt
    generalize (ps.getD xa (0,0)).1 = T at hT hok HRC
    clear hgt hq hm
    gi_wp2
    refine wpIn_region_any hmx ?_
    change wpAnyIn _ _ _ _ _ _ _ _ _ (World.drew _)
    refine wpAnyIn_ready (rs := [0,1]) (by kernel_rfl) (by simp) ?_
    refine AllReadyIn.cons rfl (fun K hK => ?_) (AllReadyIn.cons rfl (fun K hK => ?_) (AllReadyIn.nil))
    · go_simp
      refine hK _ _ ?_
      clear hK K
      try simp only [Act.put,List.setIfInBounds_toArray,List.set_cons_zero,List.set_cons_succ]
      refine wpAnyIn_ready (rs := [1]) (by kernel_rfl) (by simp) ?_
      refine AllReadyIn.cons rfl (fun K hK => ?_) (AllReadyIn.nil)
      go_simp
      refine hK _ _ ?_
      clear hK K
      try simp only [Act.put,List.setIfInBounds_toArray,List.set_cons_zero,List.set_cons_succ]
      refine wpAnyIn_ready (rs := [2]) (by kernel_rfl) (by simp) ?_
      refine AllReadyIn.cons rfl (fun K hK => ?_) (AllReadyIn.nil)
      go_simp
      (refine ⟨trivial,?_⟩)
      gi_at_call 126
      refine (CallsIn.inRound l (callsIn_wide.2 (recordOf_any W.drew _ b (o + xa * 2) m m run T hsq hm1 hT hm9))).mono ?_
      rintro e W2 ⟨pa,pc,rfl,hown,hgr⟩
      have hgr2 := gtrans (gdrew W) hgr
      have hpw : OwnP (g + 2) W2 (.slice pa m pc) (run.map (·.2)) := hown.mono hWz
      have ho3 := (ho.grown hgr2).grown (World.grownBy_alloc W2 (.cells #[.int .u64 (T : Int),.slice pa m pc] 158) none)
      obtain ⟨v',W4,hrun,hown',hgrow,hfr⟩ := run_append_own2 (P := Tryz.prog) (W2.alloc (.cells #[.int .u64 (T : Int),.slice pa m pc] 158)) (g + 2) 68 68 158 i0 (.agg #[.int .u64 0,.slice none 0 0]) 2 32 Tryz.underlying68 hi hz0 hz1 hz2 rfl (by decide) v es.length (es.flatMap rcl) ho3.row ⟨W2.heap.size,0,none⟩ 1 1 (rcl (.slice pa m pc,(T,run.map (·.2)))) rfl (lit2 W2 T (.slice pa m pc)) (one2 pa m pc T) (by unfold maxLen; omega) (by omega) (by have := hgr2.size; simp; omega)
      obtain ⟨g',cap',rfl⟩ := ownsRow_succ hown'
      obtain ⟨k1,k2,k3,k4,k5,k6,k7⟩ := gather_push hv ho hWz (Nat.le_refl g) hgr2 hpw hok hown' hgrow
      have hc1 := k1.cell
      have hf1 := k1.frozen
      have hc2 := (hv.kept hgr2 (by simp)).cell
      have hc3 := ((hv.kept hgr2 (by simp)).alloc (.cells #[.int .u64 (T : Int),.slice pa m pc] 158)).cell
      try dsimp only
      refine hK _ _ ?_
      clear hK K
      try simp only [Act.put,List.setIfInBounds_toArray,List.set_cons_zero,List.set_cons_succ]
      refine wpAnyIn_ready (rs := [3]) (by kernel_rfl) (by simp) ?_
      refine AllReadyIn.cons rfl (fun K hK => ?_) (AllReadyIn.nil)
      go_simp
      refine hK _ _ ?_
      clear hK K
      try simp only [Act.put,List.setIfInBounds_toArray,List.set_cons_zero,List.set_cons_succ]
      refine wpAnyIn_ready (rs := [4]) (by kernel_rfl) (by simp) ?_
      refine AllReadyIn.cons rfl (fun K hK => ?_) (AllReadyIn.nil)
      rw [if_pos (by rfl)]
      refine opIn_append (.tmp 8) (.tmp 11) 68 rfl v (.slice (some ⟨W2.heap.size,0,none⟩) 1 1) rfl rfl 68 rfl hrun ?_
      refine hK _ _ ?_
      clear hK K
      try simp only [Act.put,List.setIfInBounds_toArray,List.set_cons_zero,List.set_cons_succ]
      refine wpAnyIn_ready (rs := [5]) (by kernel_rfl) (by simp) ?_
      refine AllReadyIn.cons rfl (fun K hK => ?_) (AllReadyIn.nil)
      go_simp
      refine hK _ _ ?_
      clear hK K
      try simp only [Act.put,List.setIfInBounds_toArray,List.set_cons_zero,List.set_cons_succ]
      refine wpAnyIn_done (by kernel_rfl) ?_ _
      gi_wp2
      exact ⟨k4.from _,k5,⟨⟨_,_,k2,k3,by rw [List.map_append,List.map_append,he]; exact congrArg (fun z => _++[z]) HRC.out.symm,k7⟩,hBw.trans k6⟩⟩
    · go_simp
      refine hK _ _ ?_
      clear hK K
      try simp only [Act.put,List.setIfInBounds_toArray,List.set_cons_zero,List.set_cons_succ]
      refine wpAnyIn_ready (rs := [0,2]) (by kernel_rfl) (by simp) ?_
      refine AllReadyIn.cons rfl (fun K hK => ?_) (AllReadyIn.cons rfl (fun K hK => ?_) (AllReadyIn.nil))
      · go_simp
        refine hK _ _ ?_
        clear hK K
        try simp only [Act.put,List.setIfInBounds_toArray,List.set_cons_zero,List.set_cons_succ]
        refine wpAnyIn_ready (rs := [2]) (by kernel_rfl) (by simp) ?_
        refine AllReadyIn.cons rfl (fun K hK => ?_) (AllReadyIn.nil)
        go_simp
        (refine ⟨trivial,?_⟩)
        gi_at_call 126
        refine (CallsIn.inRound l (callsIn_wide.2 (recordOf_any W.drew _ b (o + xa * 2) m m run T hsq hm1 hT hm9))).mono ?_
        rintro e W2 ⟨pa,pc,rfl,hown,hgr⟩
        have hgr2 := gtrans (gdrew W) hgr
        have hpw : OwnP (g + 2) W2 (.slice pa m pc) (run.map (·.2)) := hown.mono hWz
        have ho3 := (ho.grown hgr2).grown (World.grownBy_alloc W2 (.cells #[.int .u64 (T : Int),.slice pa m pc] 158) none)
        obtain ⟨v',W4,hrun,hown',hgrow,hfr⟩ := run_append_own2 (P := Tryz.prog) (W2.alloc (.cells #[.int .u64 (T : Int),.slice pa m pc] 158)) (g + 2) 68 68 158 i0 (.agg #[.int .u64 0,.slice none 0 0]) 2 32 Tryz.underlying68 hi hz0 hz1 hz2 rfl (by decide) v es.length (es.flatMap rcl) ho3.row ⟨W2.heap.size,0,none⟩ 1 1 (rcl (.slice pa m pc,(T,run.map (·.2)))) rfl (lit2 W2 T (.slice pa m pc)) (one2 pa m pc T) (by unfold maxLen; omega) (by omega) (by have := hgr2.size; simp; omega)
        obtain ⟨g',cap',rfl⟩ := ownsRow_succ hown'
        obtain ⟨k1,k2,k3,k4,k5,k6,k7⟩ := gather_push hv ho hWz (Nat.le_refl g) hgr2 hpw hok hown' hgrow
        have hc1 := k1.cell
        have hf1 := k1.frozen
        have hc2 := (hv.kept hgr2 (by simp)).cell
        have hc3 := ((hv.kept hgr2 (by simp)).alloc (.cells #[.int .u64 (T : Int),.slice pa m pc] 158)).cell
        try dsimp only
        refine hK _ _ ?_
        clear hK K
        try simp only [Act.put,List.setIfInBounds_toArray,List.set_cons_zero,List.set_cons_succ]
        refine wpAnyIn_ready (rs := [3]) (by kernel_rfl) (by simp) ?_
        refine AllReadyIn.cons rfl (fun K hK => ?_) (AllReadyIn.nil)
        go_simp
        refine hK _ _ ?_
        clear hK K
        try simp only [Act.put,List.setIfInBounds_toArray,List.set_cons_zero,List.set_cons_succ]
        refine wpAnyIn_ready (rs := [4]) (by kernel_rfl) (by simp) ?_
        refine AllReadyIn.cons rfl (fun K hK => ?_) (AllReadyIn.nil)
        rw [if_pos (by rfl)]
        refine opIn_append (.tmp 8) (.tmp 11) 68 rfl v (.slice (some ⟨W2.heap.size,0,none⟩) 1 1) rfl rfl 68 rfl hrun ?_
        refine hK _ _ ?_
        clear hK K
        try simp only [Act.put,List.setIfInBounds_toArray,List.set_cons_zero,List.set_cons_succ]
        refine wpAnyIn_ready (rs := [5]) (by kernel_rfl) (by simp) ?_
        refine AllReadyIn.cons rfl (fun K hK => ?_) (AllReadyIn.nil)
        go_simp
        refine hK _ _ ?_
        clear hK K
        try simp only [Act.put,List.setIfInBounds_toArray,List.set_cons_zero,List.set_cons_succ]
        refine wpAnyIn_done (by kernel_rfl) ?_ _
        gi_wp2
        exact ⟨k4.from _,k5,⟨⟨_,_,k2,k3,by rw [List.map_append,List.map_append,he]; exact congrArg (fun z => _++[z]) HRC.out.symm,k7⟩,hBw.trans k6⟩⟩
      · go_simp
        (refine ⟨trivial,?_⟩)
        gi_at_call 126
        refine (CallsIn.inRound l (callsIn_wide.2 (recordOf_any W.drew _ b (o + xa * 2) m m run T hsq hm1 hT hm9))).mono ?_
        rintro e W2 ⟨pa,pc,rfl,hown,hgr⟩
        have hgr2 := gtrans (gdrew W) hgr
        have hpw : OwnP (g + 2) W2 (.slice pa m pc) (run.map (·.2)) := hown.mono hWz
        have ho3 := (ho.grown hgr2).grown (World.grownBy_alloc W2 (.cells #[.int .u64 (T : Int),.slice pa m pc] 158) none)
        obtain ⟨v',W4,hrun,hown',hgrow,hfr⟩ := run_append_own2 (P := Tryz.prog) (W2.alloc (.cells #[.int .u64 (T : Int),.slice pa m pc] 158)) (g + 2) 68 68 158 i0 (.agg #[.int .u64 0,.slice none 0 0]) 2 32 Tryz.underlying68 hi hz0 hz1 hz2 rfl (by decide) v es.length (es.flatMap rcl) ho3.row ⟨W2.heap.size,0,none⟩ 1 1 (rcl (.slice pa m pc,(T,run.map (·.2)))) rfl (lit2 W2 T (.slice pa m pc)) (one2 pa m pc T) (by unfold maxLen; omega) (by omega) (by have := hgr2.size; simp; omega)
        obtain ⟨g',cap',rfl⟩ := ownsRow_succ hown'
        obtain ⟨k1,k2,k3,k4,k5,k6,k7⟩ := gather_push hv ho hWz (Nat.le_refl g) hgr2 hpw hok hown' hgrow
        have hc1 := k1.cell
        have hf1 := k1.frozen
        have hc2 := (hv.kept hgr2 (by simp)).cell
        have hc3 := ((hv.kept hgr2 (by simp)).alloc (.cells #[.int .u64 (T : Int),.slice pa m pc] 158)).cell
        try dsimp only
        refine hK _ _ ?_
        clear hK K
        try simp only [Act.put,List.setIfInBounds_toArray,List.set_cons_zero,List.set_cons_succ]
        refine wpAnyIn_ready (rs := [0,3]) (by kernel_rfl) (by simp) ?_
        refine AllReadyIn.cons rfl (fun K hK => ?_) (AllReadyIn.cons rfl (fun K hK => ?_) (AllReadyIn.nil))
        · go_simp
          refine hK _ _ ?_
          clear hK K
          try simp only [Act.put,List.setIfInBounds_toArray,List.set_cons_zero,List.set_cons_succ]
          refine wpAnyIn_ready (rs := [3]) (by kernel_rfl) (by simp) ?_
          refine AllReadyIn.cons rfl (fun K hK => ?_) (AllReadyIn.nil)
          go_simp
          refine hK _ _ ?_
          clear hK K
          try simp only [Act.put,List.setIfInBounds_toArray,List.set_cons_zero,List.set_cons_succ]
          refine wpAnyIn_ready (rs := [4]) (by kernel_rfl) (by simp) ?_
          refine AllReadyIn.cons rfl (fun K hK => ?_) (AllReadyIn.nil)
          rw [if_pos (by rfl)]
          refine opIn_append (.tmp 8) (.tmp 11) 68 rfl v (.slice (some ⟨W2.heap.size,0,none⟩) 1 1) rfl rfl 68 rfl hrun ?_
          refine hK _ _ ?_
          clear hK K
          try simp only [Act.put,List.setIfInBounds_toArray,List.set_cons_zero,List.set_cons_succ]
          refine wpAnyIn_ready (rs := [5]) (by kernel_rfl) (by simp) ?_
          refine AllReadyIn.cons rfl (fun K hK => ?_) (AllReadyIn.nil)
          go_simp
          refine hK _ _ ?_
          clear hK K
          try simp only [Act.put,List.setIfInBounds_toArray,List.set_cons_zero,List.set_cons_succ]
          refine wpAnyIn_done (by kernel_rfl) ?_ _
          gi_wp2
          exact ⟨k4.from _,k5,⟨⟨_,_,k2,k3,by rw [List.map_append,List.map_append,he]; exact congrArg (fun z => _++[z]) HRC.out.symm,k7⟩,hBw.trans k6⟩⟩
        · go_simp
          refine hK _ _ ?_
          clear hK K
          try simp only [Act.put,List.setIfInBounds_toArray,List.set_cons_zero,List.set_cons_succ]
          refine wpAnyIn_ready (rs := [0]) (by kernel_rfl) (by simp) ?_
          refine AllReadyIn.cons rfl (fun K hK => ?_) (AllReadyIn.nil)
          go_simp
          refine hK _ _ ?_
          clear hK K
          try simp only [Act.put,List.setIfInBounds_toArray,List.set_cons_zero,List.set_cons_succ]
          refine wpAnyIn_ready (rs := [4]) (by kernel_rfl) (by simp) ?_
          refine AllReadyIn.cons rfl (fun K hK => ?_) (AllReadyIn.nil)
          rw [if_pos (by rfl)]
          refine opIn_append (.tmp 8) (.tmp 11) 68 rfl v (.slice (some ⟨W2.heap.size,0,none⟩) 1 1) rfl rfl 68 rfl hrun ?_
          refine hK _ _ ?_
          clear hK K
          try simp only [Act.put,List.setIfInBounds_toArray,List.set_cons_zero,List.set_cons_succ]
          refine wpAnyIn_ready (rs := [5]) (by kernel_rfl) (by simp) ?_
          refine AllReadyIn.cons rfl (fun K hK => ?_) (AllReadyIn.nil)
          go_simp
          refine hK _ _ ?_
          clear hK K
          try simp only [Act.put,List.setIfInBounds_toArray,List.set_cons_zero,List.set_cons_succ]
          refine wpAnyIn_done (by kernel_rfl) ?_ _
          gi_wp2
          exact ⟨k4.from _,k5,⟨⟨_,_,k2,k3,by rw [List.map_append,List.map_append,he]; exact congrArg (fun z => _++[z]) HRC.out.symm,k7⟩,hBw.trans k6⟩⟩
  case done =>
    rintro D ys W hD hys ⟨⟨v,es,hv,ho,he,hWz⟩,hBw⟩ hK
    have hc := hv.cell
    have hgD : g≤D := by omega
    have hpo := ho.nc (grownBy_putObj' W D (.deferred none)) (fun r e => by cases e; exact ⟨_,hK,rfl⟩)
    have hbl := hBw.trans (belowK_b (w := w) (by rw [HG.out]; exact Nat.le_refl _) W D _ (.deferred none) (by rw [← HG.out]; exact hgD) hK rfl rfl)
    rw [HG.out] at hbl
    have hgr := gof hbl none
    gi_wp2
    refine ⟨by simp,.inl ⟨_,_,rfl,run_takeDeferred hK,?_⟩⟩
    exact ⟨_,results_tmp rfl _ _ _,v,es,rfl,hpo.mono (by rw [← HG.out]; omega),he.trans hys,hgr⟩
  case stop =>
    rintro D c pre W _ _ h _
    exact h.elim
theorem gather_any (w : World) (R : Nat→Prop) (ao : Option Addr) (n c : Nat) (ps : List Pr) (h : PrSq R w (.slice ao n c) ps) (hn9 : n≤100000) :
    Calls Tryz.prog 87 #[.slice ao n c] w fun r w' => GatherR w (gatherL ps) r w' := by
  have hnl := h.len.1
  by_cases h0 : 0 < n
  · obtain ⟨p0,hp0⟩ : ∃ p,ps[0]? = some p := ⟨ps[0]'(by omega),List.getElem?_eq_getElem (by omega)⟩
    obtain ⟨b,o,hb,_⟩ := h.at 0 p0 hp0
    exact gather_some w R ao b o n c (fun _ => hb) ps h hn9
  · exact gather_some w R ao 0 0 n c (fun e => absurd e h0) ps h hn9
end Go.Proofs.YtnnmpaenainogaaGreat

namespace Go.Proofs.YtnnmpaenainogaaGreat
open Go.RowKit Go.Maps
theorem run_append_none10 {P : Program} {w : World} (base : Nat) (t ty e : TypeId) (i : TypeInfo) (size : Nat) (ht : P.underlying t = some (.slice e)) (hi : P.info? e = some i)
    (v : Value) (n c : Nat) (xs : List Value) (hown : w.ownsRow base e size v n xs) : (Builtin.append_ #[t,t] ty #[v,.slice none 0 c]).run P w = .ok v w := by
  rcases hown.2 with ⟨rfl,rfl⟩ | ⟨g,cap,cur,rfl,_,_,hnc,_⟩
  · simp [Builtin.append_,run_underlying ht,sizeOf,typeInfo,hi,Builtin.lenOf,Builtin.firstCells]
  · simp [Builtin.append_,run_underlying ht,sizeOf,typeInfo,hi,Builtin.lenOf,Builtin.firstCells,hnc,storeCells]
theorem wpList_append_any10 {P : Program} (w : World) {ops : Array Oper} {rest : List Oper} {o : Oper} {a : Act} {Q : Exit→Act→World→Prop} (hgd : o.guard = none) (s x : Operand) (t : TypeId)
    (ho : o.op = .call { callee := .builtin .append,args := #[s,x],argTypes := #[t,t] })
    (base : Nat) (e : TypeId) (i : TypeInfo) (z : Value) (size bytes : Nat) (ht : P.underlying t = some (.slice e)) (hi : P.info? e = some i) (hz : i.zero = some z)
    (hsize : i.size = size) (hby : i.bytes = bytes) (hzs : z.cells.size = size) (hsz : 0 < size)
    (v : Value) (n : Nat) (xs : List Value) (hs : a.eval s = v) (hown : w.ownsRow base e size v n xs)
    (sa : Option Addr) (m c : Nat) (news : List Value) (hx : a.eval x = .slice sa m c) (hl : news.length = m * size) (hsa : sa = none→m = 0) (hnews : ∀ ad,sa = some ad→∀ j u,news[j]? = some u→w.cell? (ad.add j) = some u) (h1 : ∀ u∈news,u.oneCell' = true)
    (h63 : n + m≤maxLen) (hbytes : (n + m) * bytes≤140737488355328) (hbase : base≤w.heap.size)
    (h : ∀ v' w',w'.ownsRow base e size v' (n + m) (xs++news)→w.grownBy w' v.ownBlock→wpList P ops Q rest (a.put o.dst v') w') : wpList P ops Q (o :: rest) a w := by
  cases sa with
  | none =>
    obtain rfl := hsa rfl
    have hn : news = [] := List.eq_nil_of_length_eq_zero (by simpa using hl)
    subst hn
    refine wpList_plain hgd fun K hK => ?_
    have hrun := run_append_none10 (P := P) (w := w) base t o.type e i size ht hi v n c xs hown
    unfold Oper.wp
    simp [execOp,ho,resolve,invoke,builtin,hs,hx,hrun,Result.andThen]
    exact hK _ _ (h v w (by simpa using hown) (grefl _ _))
  | some ad => exact wpList_append_own2 w hgd s x t ho base e i z size bytes ht hi hz hsize hby hzs hsz v n xs hs hown ad m c news hx hl (hnews ad rfl) h1 h63 hbytes hbase fun v' w' h2 h3 _ => h v' w' h2 h3
theorem POwn.src {t : TypeId} {base n c : Nat} {w : World} {sa : Option Addr} {ps : List Pr} (h : POwn t base w (.slice sa n c) ps) : (sa = none→n = 0)∧∀ ad,sa = some ad→∀ j u,(ps.flatMap prc)[j]? = some u→w.cell? (ad.add j) = some u := by
  have hq := h.psq
  have hn := hq.len.1
  rcases h.1.2 with ⟨e,h0⟩ | ⟨g,cap,cur,e,_⟩
  · injection e with e1 e2 e3
    exact ⟨fun _ => by omega,fun ad e => by rw [e1] at e; cases e⟩
  · injection e with e1 e2 e3
    subst e1
    exact ⟨(fun e => by cases e),fun ad e => by cases e; exact hq.news⟩
end Go.Proofs.YtnnmpaenainogaaGreat

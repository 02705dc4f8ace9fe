/-
  Layer 10: freePages, an iterator that is a function value; the contract of Flat. Own work; the frame is the guide's page on ranges over functions.
-/
import Derived.Test.YtnnmpaenainogaaGreatPrnAO
import Derived.Test.YtnnmpaenainogaaGreatPrnAJ
import Derived.RangeFuncBox
import Derived.RangeFuncLeaves
import Derived.RangeFuncWrites
import Derived.RangeFuncCalls
import Derived.RangeFuncBound
import Derived.RangeFuncNested
import Derived.Shelf.Abstract
import Derived.Shelf.RegionOpen
import Derived.WalkKit
import Derived.OwnWalkIn
import Derived.TacticsInMore
import Derived.LoopNIn
import Derived.LoopIn
import Derived.BigRegionIn
import Derived.Sort.QuietIn
import Derived.Maps.AppendAt

set_option linter.unusedVariables false
set_option linter.unusedSimpArgs false
namespace Go.Proofs.YtnnmpaenainogaaGreat
open Go.RowKit Go.Shelf
attribute [local go_sem] Oper.semAt_some
theorem flatR_len_take (rs : List Rc) {i : Nat} {r : Rc} (h : rs[i]? = some r) : (flatR (rs.take i)).length + r.2.length≤(flatR rs).length := by
  have h1 : flatR rs = flatR (rs.take i)++flatR (rs.drop i) := by
    unfold flatR; rw [← List.flatMap_append,List.take_append_drop]
  have hk := (List.getElem?_eq_some_iff.1 h).1
  have h2 : rs.drop i = r :: rs.drop (i + 1) := by
    rw [List.drop_eq_getElem_cons hk]
    rw [List.getElem?_eq_getElem hk] at h
    cases h; rfl
  rw [h1,h2,List.length_append]
  show _≤_ + (pairsOf r++flatR (rs.drop (i + 1))).length
  rw [List.length_append]
  have h3 : (pairsOf r).length = r.2.length := by simp [pairsOf]
  omega
set_option maxHeartbeats 1000000 in
theorem freePages_in (n : Nat) (a : Option Addr) (len cap : Nat) (w : World) :
    CallsIn Fence.wide n Tryz.prog 243 #[.slice a len cap] w fun e w' => e = .returned (.func (.func 263) #[] #[.pointer (some ⟨w.heap.size,0,none⟩)])∧w' = w.alloc (.cells #[.slice a len cap] 68) := by
  refine callsIn_of_wp Tryz.func243 rfl trivial ?_ rfl
  simp only [Tryz.ntmps243,List.size_toArray,List.length_cons,List.length_nil,Nat.reduceAdd,Nat.reduceSub,Array.replicate_succ,Array.replicate_zero,List.push_toArray,List.append_toArray,List.nil_append,List.cons_append]
  gi_wp2
  go_ret
  exact ⟨rfl,rfl⟩
def KpF (n₀ Bs : Nat) (W W' : World) : Prop := (∀ b,b < n₀→b < W.heap.size→W'.heap[b]? = W.heap[b]?)∧(Bs < W.heap.size→W'.heap[Bs]? = W.heap[Bs]?)∧(∀ (b : Nat) (cs : Array Value) (f : Nat × Nat),W.heap[b]? = some (Obj.cells cs 158 f)→W'.heap[b]? = W.heap[b]?)∧W.heap.size≤W'.heap.size
theorem KpF.trans {n₀ Bs : Nat} {A B C : World} (h : KpF n₀ Bs A B) (k : KpF n₀ Bs B C) : KpF n₀ Bs A C :=
  ⟨fun b hb hs => (k.1 b hb (Nat.lt_of_lt_of_le hs h.2.2.2)).trans (h.1 b hb hs),fun hs => (k.2.1 (Nat.lt_of_lt_of_le hs h.2.2.2)).trans (h.2.1 hs),fun b cs f hb => (k.2.2.1 b cs f ((h.2.2.1 b cs f hb).trans hb)).trans (h.2.2.1 b cs f hb),Nat.le_trans h.2.2.2 k.2.2.2⟩
theorem KpF.put {n₀ Bs : Nat} {W : World} {l : Nat} {o o' : Obj} (hn : n₀≤l) (hB : Bs < l) (hl : W.heap[l]? = some o) (ho : o.isCells = false) : KpF n₀ Bs W (W.putObj l o') := by
  refine ⟨fun b hb _ => World.putObj_heap_other (by omega),fun _ => World.putObj_heap_other (by omega),fun b cs f hb => World.putObj_heap_other (fun e => ?_),by simp [World.putObj]⟩
  subst e
  rw [hl] at hb; cases hb; cases ho
set_option maxRecDepth 100000 in
set_option maxHeartbeats 4000000 in
theorem freePages1_in (n : Nat) (hn : 1≤n) (l n₀ Bs len cap : Nat) (ao : Option Addr) (rs : List Rc) (hlen : len≤140737488355328) (J Jx : List Pr→World→Prop) (hJg : ∀ pre (X Y : World),J pre X→X.grownBy Y none→J pre Y)
    (hY : ∀ pre (x : Pr) W,J pre W→pre.length < (flatR rs).length→YieldAt Fence.wide (n - 1) Tryz.prog l #[.int .u64 (x.1 : Int),.int .u32 (x.2 : Int)] W fun e W' =>
      (e = .returned (.bool true)∧J (pre++[x]) W'∧KpF n₀ Bs W W')∨(e = .returned (.bool false)∧Jx (pre++[x]) W'))
    (W : World) (hBs : W.heap[Bs]? = some (.cells #[.slice ao len cap] 68 (0,0))) (hsq : RSq (fun b => b < n₀) W (.slice ao len cap) rs) (h0 : J [] W) :
    CallsIn Fence.wide n Tryz.prog 263 #[.func (.yield l) #[] #[],.pointer (some ⟨Bs,0,none⟩)] W fun e W' => (∃ v,e = .returned v) ∧
      ((∃ ys,ys = flatR rs∧J ys W')∨(∃ pre,True∧Jx pre W')) := by
  have hbs1 : W.cell? ⟨Bs,0,none⟩ = some (.slice ao len cap) := by simp [World.cell?,hBs]
  have hnl := hsq.len.1
  have HS := Lib.hid hsq
  have HN := Lib.hid hnl
  have HY := Lib.hid hY
  have HJ := Lib.hid hJg
  clear hsq hnl hY hJg hBs
  refine callsIn_of_wp Tryz.func263 rfl trivial ?_ rfl
  simp only [Tryz.ntmps263,List.size_toArray,List.length_cons,List.length_nil,Nat.reduceAdd,Nat.reduceSub,Array.replicate_succ,Array.replicate_zero,List.push_toArray,List.append_toArray,List.nil_append,List.cons_append]
  gi_wp2
  gi_loopw [9] (fun i wr => ∃ k : Nat,k≤len∧i = .int .i64 (k : Int)∧Hid (J (flatR (rs.take k)) wr∧RSq (fun b => b < n₀) wr (.slice ao len cap) rs)) (fun i _ => len - (intOf i).toNat)
  case atStart => exact ⟨0,Nat.zero_le _,rfl,Lib.hid ⟨by simpa [flatR] using h0,HS.out⟩⟩
  case round =>
    obtain ⟨k,hk,rfl,HH⟩ := hrel
    by_cases hlt : k < len
    · have hki : (k : Int) < (len : Int) := by omega
      have hkl : k < rs.length := by rw [← HN.out]; exact hlt
      obtain ⟨r,hr⟩ : ∃ r,rs[k]? = some r := ⟨rs[k],List.getElem?_eq_getElem hkl⟩
      obtain ⟨b,o,rfl,hRb,c0,_,a1,q1,c1,hp⟩ := HH.out.2.at k r hr
      have HLN := Lib.hid (flatR_len_take rs hr)
      have HTK := Lib.hid (show flatR (rs.take (k + 1)) = flatR (rs.take k)++pairsOf r by rw [take_snoc hr,flatR_snoc])
      have hpm := hp.len
      obtain ⟨T,ps⟩ := r
      obtain ⟨m,hm⟩ : ∃ m,m = ps.length := ⟨_,rfl⟩
      simp only at c0 c1 hp hpm HLN
      rw [← hm] at c1 hp hpm HLN
      have hm9 : (m : Int)≤9223372036854775807 := by
        have h9 : maxLen≤9223372036854775807 := by decide
        have h8 := hpm.2
        omega
      have HM := Lib.hid hm
      have HP := Lib.hid hp
      have hq := heap_alloc_new wr (.cells #[.int .u64 (T : Int),.slice a1 m q1] 158)
      have HA := Lib.hid (HJ.out _ _ _ HH.out.1 (World.grownBy_alloc wr (.cells #[.int .u64 (T : Int),.slice a1 m q1] 158) none))
      have HSA := Lib.hid (HH.out.2.grown (World.grownBy_alloc wr (.cells #[.int .u64 (T : Int),.slice a1 m q1] 158) none))
      have HPA := Lib.hid (HP.out.grown (World.grownBy_alloc wr (.cells #[.int .u64 (T : Int),.slice a1 m q1] 158) none))
      have HQ := Lib.hid hq
      clear hm hp hpm hr HH HP hq
      gi_wp2
      have e0 := (cells2 HQ.out).1
      generalize wr.alloc (.cells #[.int .u64 (T : Int),.slice a1 m q1] 158) = WA at HA HSA HPA HQ e0 ⊢
      generalize wr.heap.size = Q at HQ e0 ⊢
      clear e0
      gi_loopw [16] (fun i wr => ∃ j : Nat,j≤m∧i = .int .i64 (j : Int)∧Hid (J (flatR (rs.take k)++pairsOf (T,ps.take j)) wr∧RSq (fun b => b < n₀) wr (.slice (some ⟨b,o,none⟩) len cap) rs∧PSq (fun b => b < n₀) wr (.slice a1 m q1) ps∧wr.heap[Q]? = some (.cells #[.int .u64 (T : Int),.slice a1 m q1] 158 (0,0)))) (fun i _ => m - (intOf i).toNat)
      case atStart => exact ⟨0,Nat.zero_le _,rfl,Lib.hid ⟨by simpa [pairsOf] using HA.out,HSA.out,HPA.out,HQ.out⟩⟩
      case round =>
        obtain ⟨j,hj,rfl,HI⟩ := hrel
        by_cases hltj : j < m
        · have hji : (j : Int) < (m : Int) := by omega
          have hjl : j < ps.length := by rw [← HM.out]; exact hltj
          obtain ⟨b2,o2,rfl,_,d0⟩ := HI.out.2.2.1.at j hjl
          have e0 := (cells2 HI.out.2.2.2).1
          have HTJ := Lib.hid (show ps.take (j + 1) = ps.take j++[ps.getD j 0] by
            rw [List.take_succ_eq_append_getElem hjl,List.getD_eq_getElem?_getD,List.getElem?_eq_getElem hjl]; rfl)
          generalize ps.getD j 0 = p at d0 HTJ
          obtain ⟨fn,tmps,assign,body,hy,hR⟩ := HY.out _ (T,p) wr HI.out.1 (by
            have h := HLN.out
            rw [List.length_append]
            simp [pairsOf,List.length_take]
            omega)
          gi_wp2
          refine hR.mono ?_
          rintro e W3 (⟨rfl,hJ3,hk3⟩ | ⟨rfl,hJx3⟩)
          · have hJ4 : J (flatR (rs.take k)++pairsOf (T,ps.take (j + 1))) W3 := by rw [HTJ.out]; simpa [pairsOf] using hJ3
            have hs4 := HI.out.2.1.kept hk3.1
            have hp4 := HI.out.2.2.1.kept hk3.1
            have hq4 := (hk3.2.2.1 _ _ _ HI.out.2.2.2).trans HI.out.2.2.2
            have H4 := Lib.hid (And.intro hJ4 (And.intro hs4 (And.intro hp4 hq4)))
            clear hJ4 hs4 hp4 hq4 hJ3
            gi_wp2
            go_roundw
            case rel => exact ⟨j + 1,by omega,by go_num,H4⟩
            case measure => simp [intOf]; omega
          · gi_wp2
            refine bodyPost_ret (results_none rfl _ _ _) rfl ?_
            exact ⟨⟨_,rfl⟩,.inr ⟨_,trivial,hJx3⟩⟩
        · have hji : ¬ (j : Int) < (m : Int) := by omega
          have H5 := Lib.hid (show J (flatR (rs.take (k + 1))) wr∧RSq (fun b => b < n₀) wr (.slice (some ⟨b,o,none⟩) len cap) rs from
            ⟨by have h := HI.out.1; rw [show j = ps.length by rw [← HM.out]; omega,List.take_length] at h; rw [HTK.out]; exact h,HI.out.2.1⟩)
          gi_wp2
          go_roundw
          case rel => exact ⟨k + 1,by omega,by go_num,H5⟩
          case measure => simp [intOf]; omega
    · have hki : ¬ (k : Int) < (len : Int) := by omega
      have H5 := Lib.hid (show J (flatR rs) wr by have h := HH.out.1; rw [show k = rs.length by rw [← HN.out]; omega,List.take_length] at h; exact h)
      gi_wp2
      go_end0
      exact ⟨⟨_,rfl⟩,.inl H5.out⟩
theorem freePages_stops (n : Nat) (hn : 1≤n) (n₀ Bs len cap : Nat) (ao : Option Addr) (rs : List Rc) (hlen : len≤140737488355328) (w : World) (hn₀ : n₀≤w.heap.size) (hBs : w.heap[Bs]? = some (.cells #[.slice ao len cap] 68 (0,0))) (hsq : RSq (fun b => b < n₀) w (.slice ao len cap) rs) :
    SeqStopsK Fence.wide n Tryz.prog 263 #[.pointer (some ⟨Bs,0,none⟩)] (fun x : Pr => #[.int .u64 (x.1 : Int),.int .u32 (x.2 : Int)]) (KpF n₀ Bs)
      (fun ys => ys = flatR rs) (fun _ => True) (flatR rs).length w := fun l J Jx W hW hJ _ hY h0 =>
  freePages1_in n hn l n₀ Bs len cap ao rs hlen J Jx (fun pre X Y h k => hJ pre X Y none h k (fun r e => by cases e)) hY W ((hW.block Bs (lt_of_block hBs)).trans hBs) (hsq.kept fun b hb _ => hW.block b (by omega)) h0
theorem flat_push {W W4 : World} {g n₀ : Nat} {v v' : Value} {pre : List Pr} {x : Pr} (hv : Boxed W g 134 v) (ho : W.ownsRow (g + 2) 304 2 v pre.length (pre.flatMap prc)) (hW : g + 2≤W.heap.size) (hn : n₀≤g)
    (hown' : W4.ownsRow (g + 2) 304 2 v' (pre.length + 1) (pre.flatMap prc++prc x)) (hgrow : (W.alloc (.cells #[.int .u64 (x.1 : Int),.int .u32 (x.2 : Int)] 304)).grownBy W4 v.ownBlock) :
    Boxed W4 g 134 v∧Boxed (W4.setCell ⟨g,0,none⟩ v') g 134 v'∧(W4.setCell ⟨g,0,none⟩ v').ownsRow (g + 2) 304 2 v' (pre++[x]).length ((pre++[x]).flatMap prc)∧KeepsOthers W (W4.setCell ⟨g,0,none⟩ v') ∧
      KpF n₀ (g + 1) W (W4.setCell ⟨g,0,none⟩ v')∧Below g W (W4.setCell ⟨g,0,none⟩ v')∧g + 2≤(W4.setCell ⟨g,0,none⟩ v').heap.size := by
  obtain ⟨k1,k2,k3,k4,k5⟩ := Boxed.appended hv (by decide) (own_base ho (show g≤g + 2 by omega)) (by omega) (Nat.le_refl g) (own_base hown' (show g≤g + 2 by omega)) hgrow
  have hrow := ho.alloc (.cells #[.int .u64 (x.1 : Int),.int .u32 (x.2 : Int)] 304)
  have hother : ∀ i,i < W.heap.size→i≠g→v.ownBlock≠some i→(W4.setCell ⟨g,0,none⟩ v').heap[i]? = W.heap[i]? := fun i hi hg hr =>
    ((Below.heap_setCell _ _ _ _ (by simpa using hg)).trans (hgrow.block i (by simp; omega) (fun e => hr e.symm))).trans (Below.heap_alloc _ _ _ hi)
  refine ⟨k1,k2,?_,k4,⟨fun b hb hs => hother b hs (by omega) (fun e => by have := (ho.lt b e).1; omega),fun hs => hother _ hs (by omega) (fun e => by have := (ho.lt _ e).1; omega),fun b cs f hb => hother b (lt_of_block hb) (fun e => ?_) (fun e => ?_),k4.size⟩,k5,Nat.le_trans hW k4.size⟩
  · have h := ownsRow_setCell_below hown' (a := ⟨g,0,none⟩) (by simp) v'
    simpa [List.flatMap_append] using h
  · subst e
    rw [show W.heap[b]? = _ from hv] at hb
    injection hb with hb
    injection hb with _ h2
    exact absurd h2 (by decide)
  · rcases ho.2 with ⟨rfl,_⟩ | ⟨q,cap,cur,rfl,_,hq,_⟩
    · simp [Value.ownBlock] at e
    · have : q = b := by simpa [Value.ownBlock] using e
      subst this
      rw [hq] at hb
      injection hb with hb
      injection hb with _ h2
      exact absurd h2 (by decide)
def FlatR (w : World) (ps : List Pr) (r : Ending) (w' : World) : Prop := ∃ v,r = .returned v∧w'.ownsRow w.heap.size 304 2 v ps.length (ps.flatMap prc)∧w.grownBy w' none
theorem own_nc {base size n : Nat} {e : TypeId} {w w' : World} {v : Value} {xs : List Value} {row : Option Nat} (h : w.ownsRow base e size v n xs) (k : w.grownBy w' row) (hr : ∀ r,row = some r→∃ o : Obj,w.heap[r]? = some o∧o.isCells = false) : w'.ownsRow base e size v n xs := by
  refine World.ownsRow.kept h k ?_
  rcases h.2 with ⟨rfl,_⟩ | ⟨g,cap,cur,rfl,_,hgb,_⟩
  · exact .inl rfl
  · right
    intro e'
    obtain ⟨o,ho,hc⟩ := hr g e'.symm
    rw [hgb] at ho; cases ho; cases hc
set_option maxRecDepth 100000 in
set_option maxHeartbeats 4000000 in
theorem flat_any (w : World) (R : Nat→Prop) (ao : Option Addr) (n c : Nat) (rs : List Rc) (h : RSq R w (.slice ao n c) rs) (hn9 : n≤140737488355328) (hfl : (flatR rs).length * 16≤140737488355000) :
    Calls Tryz.prog 213 #[.slice ao n c] w fun r w' => FlatR w (flatR rs) r w' := by
  obtain ⟨i0,hi,hz0,hz1,hz2⟩ := info_parts infoPair
  have H := Lib.hid (h.imp (S := fun b => b < w.heap.size) fun _ _ hb => hb)
  have HFL := Lib.hid hfl
  clear h hfl
  refine (callsIn_wide (n := 5)).1 ?_
  refine callsIn_of_wp_marks Tryz.func213 rfl trivial ?_ rfl
  simp only [Tryz.ntmps213,List.size_toArray,List.length_cons,List.length_nil,Nat.reduceAdd,Nat.reduceSub,Array.replicate_succ,Array.replicate_zero,List.push_toArray,List.append_toArray,List.nil_append,List.cons_append]
  gi_wp2_with (refine ⟨trivial,?_⟩; gi_at_call 243; refine (freePages_in _ ao n c _).mono ?_; rintro r w1 ⟨rfl,rfl⟩)
  have hb0 := two_lit0 w (.cells #[.slice none 0 0] 134) (.cells #[.slice ao n c] 68)
  have hb1 := two_lit1 w (.cells #[.slice none 0 0] 134) (.cells #[.slice ao n c] 68)
  have hgw := two_grown w (.cells #[.slice none 0 0] 134) (.cells #[.slice ao n c] 68)
  have hsz : ((w.alloc (.cells #[.slice none 0 0] 134)).alloc (.cells #[.slice ao n c] 68)).heap.size = w.heap.size + 2 := by simp
  have HS0 := Lib.hid (H.out.grown hgw)
  generalize (w.alloc (.cells #[.slice none 0 0] 134)).alloc (.cells #[.slice ao n c] 68) = W0 at *
  obtain ⟨g,hg⟩ : ∃ g,g = w.heap.size := ⟨_,rfl⟩
  rw [← hg] at hb0 hb1 hsz HS0 ⊢
  have hB0 : Below g w W0 := by rw [hg]; exact gbelow hgw
  have HG := Lib.hid hg
  clear hg hgw
  refine wpIn_rangeFunc_ownG rfl (by decide : 1≤5) (gf := 263) (lb := #[.pointer (some ⟨g + 1,0,none⟩)]) rfl trivial (enters_of Tryz.func263 (by kernel_rfl) rfl)
    (freePages_stops (5 - 1) (by decide) g (g + 1) n c ao rs hn9 W0 (by omega) hb1 HS0.out) (fun h k => h.trans k) (fun W l q q' hl ho hc _ => KpF.put (by omega) (by omega) ho hc) (Below.refl _ _) (fun _ => rfl)
    (fun pre W => (∃ v,Boxed W g 134 v∧W.ownsRow (g + 2) 304 2 v pre.length (pre.flatMap prc)∧g + 2≤W.heap.size)∧Below g w W)
    (fun _ _ _ => False)
    (OwnFrom.and (fun s X Y row ⟨v,hv,ho,hz⟩ hgy hr => ⟨v,hv.kept hgy (fun e => by obtain ⟨_,q,hq,hc⟩ := hr g e.symm; rw [show X.heap[g]? = _ from hv] at hq; cases hq; cases hc),own_nc ho hgy (fun r e => (hr r e).2),Nat.le_trans hz hgy.size⟩) (ownFrom_below (by rw [HG.out]; exact Nat.le_refl _) (by omega)))
    (fun _ _ _ _ _ hs _ _ => hs)
    ⟨⟨.slice none 0 0,hb0,World.ownsRow_nil _ _ _ _,by omega⟩,hB0⟩
    (fun x => { tmps := #[.slice ao n c,undef,.slice none 0 0,.pointer (some ⟨g,0,none⟩),.int .u64 (x.1 : Int),.int .u32 (x.2 : Int),.slice ao n c,.func (.func 263) #[] #[.pointer (some ⟨g + 1,0,none⟩)],.int .u64 (x.1 : Int),.int .u32 (x.2 : Int),undef,undef,undef,undef,undef,undef,undef],defers := [] }) ?assign ?body ?done ?stop
  case assign =>
    intro l x W K hK
    gi_wp2
    exact hK
  case body =>
    rintro l pre x W ⟨⟨v,hv,ho,hWz⟩,hBw⟩ hlt
    have hc0 := hv.cell
    have hpl : pre.length * 16≤140737488355000 := by have := HFL.out; omega
    gi_wp2_with (gi_at_builtin; refine wpListIn_append_own _ rfl _ _ 134 rfl (g + 2) 304 i0 (.agg #[.int .u64 0,.int .u32 0]) 2 16 Tryz.underlying134 hi hz0 hz1 hz2 rfl (by decide) _ _ _ rfl (ho.alloc _) ⟨W.heap.size,0,none⟩ 1 1 (prc x) rfl rfl (lit_pair W x 304) (one_pair x) (by unfold maxLen; omega) (by omega) (by simp; omega) ?_; intro v' W4 hown' hgrow _; obtain ⟨g',cap',rfl⟩ := ownsRow_succ hown'; have K := flat_push hv ho hWz (Nat.le_refl g) hown' hgrow; have hc1 := K.1.cell; have hf1 := K.1.frozen)
    obtain ⟨k1,k2,k3,k4,k5,k6,k7⟩ := K
    exact ⟨k4.from _,k5,⟨⟨_,k2,k3,k7⟩,hBw.trans k6⟩⟩
  case done =>
    rintro D ys W hD rfl ⟨⟨v,hv,ho,hWz⟩,hBw⟩ hK
    have hc := hv.cell
    have hgD : g≤D := by omega
    have hpo := own_nc ho (grownBy_putObj' W D (.deferred none)) (fun r e => by cases e; exact ⟨_,hK,rfl⟩)
    have hbl := hBw.trans (belowK_b (w := w) (by rw [HG.out]; exact Nat.le_refl _) W D _ (.deferred none) (by rw [← HG.out]; exact hgD) hK rfl rfl)
    rw [HG.out] at hbl
    have hgr := gof hbl none
    gi_wp2
    refine ⟨by simp,.inl ⟨_,_,rfl,run_takeDeferred hK,?_⟩⟩
    exact ⟨_,results_tmp rfl _ _ _,v,rfl,own_base hpo (by rw [← HG.out]; omega),hgr⟩
  case stop =>
    rintro D c pre W _ _ h _
    exact h.elim
end Go.Proofs.YtnnmpaenainogaaGreat

/-
  Layer 8: the library's iterator over a set's pages (maps.Keys), and what slices.Collect makes of it. Own work; the frame is the guide's page on ranges over functions.
-/
import Derived.Test.YtnnmpaenainogaaGreatPrnAL
import Derived.RangeFuncNested
import Derived.RangeFuncBound
import Derived.RangeFuncCalls
import Derived.RangeFuncLeaves
import Derived.RangeFuncWrites
import Derived.RangeFuncBox
import Derived.Shelf.Abstract
import Derived.Shelf.RegionOpen
import Derived.OwnWalkIn
import Derived.TacticsInMore
import Derived.LoopNIn
import Derived.LoopIn
import Derived.Sort.MapsRangeIn
import Derived.Maps.OwnIn

set_option linter.unusedVariables false
set_option linter.unusedSimpArgs false
namespace Go.Proofs.YtnnmpaenainogaaGreat
open Go.RowKit Go.Shelf Go.Maps
attribute [local go_sem] Oper.semAt_some
theorem key_u32 {key : Value} {kl : Lit} (h : keyOf Tryz.prog 42 key = some kl) : ∃ x : Nat,key = encP x∧kl = keyL x∧x < 4294967296 := by
  have hk := Tryz.underlying42
  cases key <;> simp [keyOf,hk,mapKey] at h
  rename_i q a
  obtain ⟨⟨rfl,hw⟩,rfl⟩ := h
  have h1 : IntKind.u32.max = 4294967295 := by decide
  have h2 : IntKind.u32.min = 0 := by decide
  simp only [Lit.wf,h1,h2,Bool.and_eq_true,decide_eq_true_eq] at hw
  have e : ((a.toNat : Nat) : Int) = a := by omega
  exact ⟨a.toNat,by rw [encP,e],by rw [keyL,e],by omega⟩
theorem encP_inj {x y : Nat} (h : encP x = encP y) : x = y := by
  have h1 : (x : Int) = (y : Int) := by injection h
  omega
def Come (L : List Nat) (left : Lit→Bool) (ss : List Nat) : Prop := ss.Nodup∧∀ x,x∈ss↔(x∈L∧left (keyL x) = false)
theorem Come.start (L : List Nat) : Come L (Maps.has (setD L)) [] := ⟨List.nodup_nil,fun x => by rw [has_setD]; simp⟩
theorem Come.step {L ss : List Nat} {left : Lit→Bool} (h : Come L left ss) {x : Nat} (hlk : left (keyL x) = true) (hx : x∈L) : Come L (fun z => left z && !z.sameKey (keyL x)) (ss++[x]) := by
  have hnew : x ∉ ss := fun hm => by have := ((h.2 x).1 hm).2; rw [hlk] at this; cases this
  refine ⟨List.nodup_append.2 ⟨h.1,by simp,fun a ha b hb => by simp at hb; subst hb; exact fun e => hnew (e ▸ ha)⟩,fun y => ?_⟩
  show _↔(y∈L∧(left (keyL y) && !(keyL y).sameKey (keyL x)) = false)
  rw [List.mem_append,h.2 y,keyL_same]
  by_cases hy : y = x
  · subst hy; simp [hx]
  · simp [hy]
theorem Come.perm {L ss : List Nat} {left : Lit→Bool} (h : Come L left ss) (hs : Srt L) (hl : ∀ kl,left kl = false) : ss.Perm L :=
  (List.perm_ext_iff_of_nodup h.1 (srt_nodup hs)).2 fun x => by rw [h.2 x,hl]; simp
set_option maxHeartbeats 1000000 in
theorem keys_any (w : World) (mb : Option Nat) : Calls Tryz.prog 264 #[.map mb] w fun r w' => r = .returned (.func (.func 283) #[] #[.pointer (some ⟨w.heap.size,0,none⟩)])∧w' = w.alloc (.cells #[.map mb] 174) := by
  go_enter Tryz.func264,Tryz.ntmps264
  go_wp2
  go_ret
  exact ⟨rfl,rfl⟩
set_option maxRecDepth 100000 in
set_option maxHeartbeats 2000000 in
theorem keys1_in (n : Nat) (hn : 1≤n) (l Bm b : Nat) (L : List Nat) (J Jx : List Nat→World→Prop)
    (hY : ∀ pre x W,J pre W→pre.length < L.length→YieldAt Fence.wide (n - 1) Tryz.prog l #[encP x] W fun e W' =>
      (e = .returned (.bool true)∧J (pre++[x]) W'∧KeepsWalks W W')∨(e = .returned (.bool false)∧Jx (pre++[x]) W'))
    (W : World) (hJ : AbidesFrom W.heap.size J) (hm : W.cell? ⟨Bm,0,none⟩ = some (.map (some b))) (hS : SetAt W b L) (h0 : J [] W) :
    CallsIn Fence.wide n Tryz.prog 283 #[.func (.yield l) #[] #[],.pointer (some ⟨Bm,0,none⟩)] W fun e W' => (∃ v,e = .returned v) ∧
      ((∃ ss : List Nat,ss.Perm L∧J ss W')∨(∃ pre : List Nat,True∧Jx pre W')) := by
  have hown := hS.1
  refine callsIn_of_wp Tryz.func283 rfl trivial ?_ rfl
  simp only [Tryz.ntmps283,List.size_toArray,List.length_cons,List.length_nil,Nat.reduceAdd,Nat.reduceSub,Array.replicate_succ,Array.replicate_zero,List.push_toArray,List.append_toArray,List.nil_append,List.cons_append]
  gi_wp2_with (first
    | (gi_at_range; refine wpListIn_range_own _ rfl _ 174 rfl 42 114 lawP Tryz.underlying174 _ b L.length _ rfl hown ?_; intro w0 hrg0 hg0 hs0)
    | gi_in)
  go_frame
  gi_loopw [3] (fun _ wr => ∃ (left : Lit→Bool) (cnt : Nat) (ss : List Nat),wr.ranges Tryz.prog 42 (unitElem (H := Unit)) b W.heap.size L.length (setD L) left cnt∧ss.length + cnt≤L.length∧Come L left ss∧J ss wr)
    (fun _ wr => wr.rangeLeft b W.heap.size)
  case atStart =>
    exact ⟨_,_,[],hrg0,by rw [size_setD]; simp,Come.start L,hJ [] W w0 none h0 hg0 (fun r e => by cases e)⟩
  case round =>
    obtain ⟨left,cnt,ss,hrg,hcs,hC,hJs⟩ := hrel
    gi_wp2_with (first
      | (gi_at_next; refine wpListIn_next_ranges _ rfl _ rfl 42 lawP (unitElem (H := Unit)) encP id (fun key kl hk => by obtain ⟨x,hx,_⟩ := key_u32 hk; exact ⟨x,hx⟩) (fun v _ _ => ⟨v,rfl⟩) b W.heap.size L.length _ _ _ rfl hrg ?_ ?_)
      | gi_in)
    · intro hc0 hl0
      gi_wp2
      go_end0
      exact ⟨⟨_,rfl⟩,.inl ⟨ss,hC.perm hS.2.1 hl0,hJs⟩⟩
    · intro x c kl yd yp w2 cnt2 hkey hlk hv hat hrg2 hlt hg2 hs2 hen
      obtain ⟨x',ex,rfl,_⟩ := key_u32 hkey
      obtain rfl : x = x' := encP_inj ex
      have hJ2 : J ss w2 := hJ ss wr w2 (some W.heap.size) hJs hg2 (fun r e => by cases e; exact ⟨Nat.le_refl _,hrg.iter_walk⟩)
      obtain ⟨fn,tmps,assign,body,hy,hR⟩ := hY ss x w2 hJ2 (by omega)
      have hxL : x∈L := by
        have h1 := has_true_of_atKey hat
        rw [has_setD] at h1
        simpa using h1
      have hC2 := hC.step hlk hxL
      clear hs2
      gi_wp2
      refine hR.mono ?_
      rintro e W3 (⟨rfl,hJ3,hk3⟩ | ⟨rfl,hJx3⟩)
      · gi_wp2
        have hrg3 := hrg2.of_walks hk3
        go_roundw
        case rel => exact ⟨_,cnt2,ss++[x],hrg3,by simp; omega,hC2,hJ3⟩
        case measure => rw [hrg3.left_eq,hrg.left_eq]; exact hlt
      · gi_wp2
        refine bodyPost_ret (results_none rfl _ _ _) rfl ?_
        exact ⟨⟨_,rfl⟩,.inr ⟨ss++[x],trivial,hJx3⟩⟩
theorem keys_stops (n : Nat) (hn : 1≤n) (Bm b : Nat) (L : List Nat) (w : World) (hm : w.cell? ⟨Bm,0,none⟩ = some (.map (some b))) (hS : SetAt w b L) :
    SeqStopsK Fence.wide n Tryz.prog 283 #[.pointer (some ⟨Bm,0,none⟩)] (fun x : Nat => #[encP x]) KeepsWalks (fun ss => ss.Perm L) (fun _ => True) L.length w := fun l J Jx W hW hJ _ hY h0 =>
  keys1_in n hn l Bm b L J Jx hY W hJ ((hW.cell (p := ⟨Bm,0,none⟩) (World.block_lt_of_cell? _ _ hm)).trans hm) (hS.kept (hW.block b hS.lt)) h0
end Go.Proofs.YtnnmpaenainogaaGreat

namespace Go.Proofs.YtnnmpaenainogaaGreat
open Go.RowKit Go.Shelf Go.Maps
attribute [local go_sem] Oper.semAt_some
set_option maxRecDepth 100000 in
set_option maxHeartbeats 4000000 in
theorem appendSeq_any (w : World) (Bm b : Nat) (L : List Nat) (hm : w.cell? ⟨Bm,0,none⟩ = some (.map (some b))) (hS : SetAt w b L) (hL : L.length≤100000) :
    Calls Tryz.prog 246 #[.slice none 0 0,.func (.func 283) #[] #[.pointer (some ⟨Bm,0,none⟩)]] w fun r w' => ∃ v ss,r = .returned v∧List.Perm ss L∧OwnP w.heap.size w' v ss∧w.grownBy w' none := by
  obtain ⟨i0,hi,hz0,hz1,hz2⟩ := info_parts infoPg
  have HSt := Lib.hid (keys_stops (5 - 1) (by decide) Bm b L (w.alloc (.cells #[.slice none 0 0] 31)) (cell_alloc hm) (hS.grown (World.grownBy_alloc _ _ _)))
  have h32 := hS.2.2
  have H32 := Lib.hid h32
  have hb0 := heap_alloc_new w (.cells #[.slice none 0 0] 31 (0,0))
  have hB0 : Below w.heap.size w (w.alloc (.cells #[.slice none 0 0] 31)) := (Below.refl _ w).alloc (Nat.le_refl _) _
  have hsz : (w.alloc (.cells #[.slice none 0 0] 31)).heap.size = w.heap.size + 1 := by simp
  clear hm hS h32
  refine (callsIn_wide (n := 5)).1 ?_
  refine callsIn_of_wp_marks Tryz.func246 rfl trivial ?_ rfl
  simp only [Tryz.ntmps246,List.size_toArray,List.length_cons,List.length_nil,Nat.reduceAdd,Nat.reduceSub,Array.replicate_succ,Array.replicate_zero,List.push_toArray,List.append_toArray,List.nil_append,List.cons_append]
  gi_wp2
  generalize w.alloc (.cells #[.slice none 0 0] 31) = W0 at *
  obtain ⟨g,hg⟩ : ∃ g,g = w.heap.size := ⟨_,rfl⟩
  rw [← hg] at hb0 hsz hB0 ⊢
  have HG := Lib.hid hg
  clear hg
  refine wpIn_rangeFunc_ownG rfl (by decide : 1≤5) (gf := 283) (lb := #[.pointer (some ⟨Bm,0,none⟩)]) rfl trivial (enters_of Tryz.func283 (by kernel_rfl) rfl)
    HSt.out walksK_t walksK_b (Below.refl _ _) (fun _ => rfl)
    (fun pre W => (∃ v,Boxed W g 31 v∧W.ownsRow g 42 1 v pre.length (pre.map encP)∧g + 1≤W.heap.size)∧Below g w W)
    (fun _ _ _ => False)
    (OwnFrom.and (fun s X Y row ⟨v,hv,ho,hz⟩ hgy hr => ⟨v,hv.kept hgy (fun e => by obtain ⟨_,q,hq,hc⟩ := hr g e.symm; rw [show X.heap[g]? = _ from hv] at hq; cases hq; cases hc),ho.kept hgy (by
        rcases ho.2 with ⟨hv',_⟩ | ⟨g2,cap,cur,hv',_,hgb,_⟩
        · rw [hv']; exact .inl rfl
        · right
          rw [hv']
          intro e
          obtain ⟨_,q,hq,hc⟩ := hr g2 e.symm
          rw [hgb] at hq; cases hq; cases hc),Nat.le_trans hz hgy.size⟩) (ownFrom_below (by rw [HG.out]; exact Nat.le_refl _) (by omega)))
    (fun _ _ _ _ _ hs _ _ => hs)
    ⟨⟨.slice none 0 0,hb0,World.ownsRow_nil _ _ _ _,by omega⟩,hB0⟩
    (fun x => { tmps := #[.slice none 0 0,.func (.func 283) #[] #[.pointer (some ⟨Bm,0,none⟩)],.pointer (some ⟨g,0,none⟩),undef,.slice none 0 0,encP x,.func (.func 283) #[] #[.pointer (some ⟨Bm,0,none⟩)],encP x,undef,undef,undef,undef,undef],defers := [] }) ?assign ?body ?done ?stop
  case assign =>
    intro l x W K hK
    gi_wp2
    exact hK
  case body =>
    rintro l pre x W ⟨⟨v,hv,ho,hWz⟩,hBw⟩ hlt
    have hc0 := hv.cell
    have hpl : pre.length≤100000 := by omega
    gi_wp2_with (first
      | (gi_at_builtin; refine wpListIn_append_own _ rfl _ _ 31 rfl g 42 i0 (.int .u32 0) 1 4 Tryz.underlying31 hi hz0 hz1 hz2 rfl (by decide) _ _ _ rfl (ho.alloc _) ⟨W.heap.size,0,none⟩ 1 1 [encP x] rfl rfl (cell_one_new _ _ _) (by simp [Value.oneCell',encP]) (by unfold maxLen; omega) (by omega) (by simp; omega) ?_; intro v' w1 hown' hgrow _; obtain ⟨g',cap',rfl⟩ := ownsRow_succ hown'; obtain ⟨hv1,hv2,hr2,hk2,hb2⟩ := hv.appended (by decide) ho (by omega) (Nat.le_refl g) hown' hgrow; have hc1 := hv1.cell; have hf1 := hv1.frozen; clear hown' hgrow))
    exact ⟨hk2.from _,KeepsOthers.walks hk2,⟨⟨_,hv2,by simpa using hr2,by have := hk2.size; omega⟩,hBw.trans hb2⟩⟩
  case done =>
    rintro D ys W hD hperm ⟨⟨v,hv,ho,hWz⟩,hBw⟩ hK
    have hc := hv.cell
    have hgD : g≤D := by omega
    have hpo : (W.putObj D (.deferred none)).ownsRow g 42 1 v ys.length (ys.map encP) := ho.kept (grownBy_putObj' W D (.deferred none)) (by
      rcases ho.2 with ⟨hv',_⟩ | ⟨g2,cap,cur,hv',_,hgb,_⟩
      · rw [hv']; exact .inl rfl
      · right
        rw [hv']
        intro e
        have : g2 = D := by simpa [Value.ownBlock] using e
        subst this
        rw [hgb] at hK; cases hK)
    have hbl := hBw.trans (belowK_b (w := w) (by rw [HG.out]; exact Nat.le_refl _) W D _ (.deferred none) (by rw [← HG.out]; exact hgD) hK rfl rfl)
    rw [HG.out] at hbl hpo
    have hgr := gof hbl none
    gi_wp2
    refine ⟨by simp,.inl ⟨_,_,rfl,run_takeDeferred hK,?_⟩⟩
    exact ⟨_,results_tmp rfl _ _ _,v,ys,rfl,hperm,⟨hpo,fun p hp => H32.out p (hperm.mem_iff.1 hp)⟩,hgr⟩
  case stop =>
    rintro D c pre W _ _ h _
    exact h.elim
set_option maxHeartbeats 1000000 in
theorem collect_any (w : World) (Bm b : Nat) (L : List Nat) (hm : w.cell? ⟨Bm,0,none⟩ = some (.map (some b))) (hS : SetAt w b L) (hL : L.length≤100000) :
    Calls Tryz.prog 217 #[.func (.func 283) #[] #[.pointer (some ⟨Bm,0,none⟩)]] w fun r w' => ∃ v ss,r = .returned v∧List.Perm ss L∧OwnP w.heap.size w' v ss∧w.grownBy w' none := by
  go_enter Tryz.func217,Tryz.ntmps217
  go_wp2_with (first
    | (go_at_call 246; (with_reducible refine (appendSeq_any w Bm b L hm hS hL).mono ?_); rintro r w1 ⟨v,ss,rfl,hp,ho,hg⟩; have HP := Lib.hid hp; have HO := Lib.hid ho; have HG := Lib.hid hg; clear hp ho hg))
  go_ret
  exact ⟨v,ss,rfl,HP.out,HO.out,HG.out⟩
end Go.Proofs.YtnnmpaenainogaaGreat

/-
  Words for slices of pages and of records, and what a call leaves of the world. Own work.
-/
import Derived.Test.YtnnmpaenainogaaGreatRows
import Derived.Test.YtnnmpaenainogaaGreatPrnAB
import Derived.WalkKit
import Derived.WalkSpells
import Derived.WalkLawsBesides
import Derived.Lib.Hide
import Derived.ProofKit
import Derived.OpenShut
import Derived.ChangeOld
import Derived.OwnWalk
import Derived.Maps.OwnSet
import Derived.Maps.AppendAt
import Derived.Test.YtnnmpaenainogaaGreatPrnAA

set_option linter.unusedVariables false
set_option linter.unusedSimpArgs false
namespace Go.Proofs.YtnnmpaenainogaaGreat
open Go.RowKit Go.Maps
def PSq (R : Nat→Prop) (w : World) (v : Value) (ps : List Nat) : Prop :=
  ∃ ao c,v = .slice ao ps.length c∧ps.length≤c∧c≤maxLen∧(∀ p∈ps,p < 4294967296) ∧
    (ps≠[]→∃ b o,ao = some ⟨b,o,none⟩∧R b∧∀ j,j < ps.length→w.cell? ⟨b,o + j,none⟩ = some (.int .u32 ((ps.getD j 0 : Nat) : Int)))
theorem PSq.kept {R : Nat→Prop} {w w' : World} {v : Value} {ps : List Nat} (h : PSq R w v ps) (k : ∀ b,R b→b < w.heap.size→w'.heap[b]? = w.heap[b]?) : PSq R w' v ps := by
  obtain ⟨ao,c,hv,h1,h2,h3,h4⟩ := h
  refine ⟨ao,c,hv,h1,h2,h3,fun hne => ?_⟩
  obtain ⟨b,o,ha,hb,hc⟩ := h4 hne
  exact ⟨b,o,ha,hb,fun j hj => (World.cell?_of_block (w := w) (k b hb (World.block_lt_of_cell? _ _ (hc j hj)))).trans (hc j hj)⟩
theorem PSq.cells {R : Nat→Prop} {w w' : World} {v : Value} {ps : List Nat} (h : PSq R w v ps) (k : ∀ a u,w.cell? a = some u→w'.cell? a = some u) : PSq R w' v ps := by
  obtain ⟨ao,c,hv,h1,h2,h3,h4⟩ := h
  refine ⟨ao,c,hv,h1,h2,h3,fun hne => ?_⟩
  obtain ⟨b,o,ha,hb,hc⟩ := h4 hne
  exact ⟨b,o,ha,hb,fun j hj => k _ _ (hc j hj)⟩
theorem PSq.imp {R S : Nat→Prop} {w : World} {v : Value} {ps : List Nat} (h : PSq R w v ps) (k : ∀ b,R b→b < w.heap.size→S b) : PSq S w v ps := by
  obtain ⟨ao,c,hv,h1,h2,h3,h4⟩ := h
  refine ⟨ao,c,hv,h1,h2,h3,fun hne => ?_⟩
  obtain ⟨b,o,ha,hb,hc⟩ := h4 hne
  have hl : 0 < ps.length := List.length_pos_iff.2 hne
  exact ⟨b,o,ha,k b hb (World.block_lt_of_cell? _ _ (hc 0 hl)),hc⟩
theorem PSq.grown {R : Nat→Prop} {w w' : World} {v : Value} {ps : List Nat} (h : PSq R w v ps) (k : w.grownBy w' none) : PSq R w' v ps := h.kept fun b _ hb => k.block b hb (by simp)
theorem PSq.shape {R : Nat→Prop} {w : World} {v : Value} {ps : List Nat} (h : PSq R w v ps) : ∃ ao c,v = .slice ao ps.length c := by
  obtain ⟨ao,c,hv,_⟩ := h
  exact ⟨ao,c,hv⟩
theorem PSq.len {R : Nat→Prop} {w : World} {ao : Option Addr} {n c : Nat} {ps : List Nat} (h : PSq R w (.slice ao n c) ps) : n = ps.length∧n≤maxLen := by
  obtain ⟨ao',c',hv,h1,h2,_⟩ := h
  cases hv
  exact ⟨rfl,Nat.le_trans h1 h2⟩
theorem PSq.at {R : Nat→Prop} {w : World} {ao : Option Addr} {n c : Nat} {ps : List Nat} (h : PSq R w (.slice ao n c) ps) (k : Nat) (hk : k < ps.length) : ∃ b o,ao = some ⟨b,o,none⟩∧R b∧w.cell? ⟨b,o + k,none⟩ = some (.int .u32 ((ps.getD k 0 : Nat) : Int)) := by
  obtain ⟨ao',c',hv,h1,h2,h3,h4⟩ := h
  cases hv
  obtain ⟨b,o,ha,hb,hc⟩ := h4 (fun e => by rw [e] at hk; simp at hk)
  exact ⟨b,o,ha,hb,hc k hk⟩
theorem PSq.u32 {R : Nat→Prop} {w : World} {v : Value} {ps : List Nat} (h : PSq R w v ps) : ∀ p∈ps,p < 4294967296 := by
  obtain ⟨ao,c,hv,h1,h2,h3,h4⟩ := h
  exact h3
theorem psq_nil (R : Nat→Prop) (w : World) : PSq R w (.slice none 0 0) [] := ⟨none,0,rfl,Nat.le_refl _,by simp [maxLen],by simp,fun h => absurd rfl h⟩
abbrev encP (p : Nat) : Value := .int .u32 (p : Int)
theorem pcell1 {ps : List Nat} : ∀ u∈ps.map encP,u.oneCell' = true := by
  intro u hu; simp only [List.mem_map] at hu; obtain ⟨x,_,rfl⟩ := hu; rfl
theorem PSq.owned {base n : Nat} {w : World} {v : Value} {ps : List Nat} (h : w.ownsRow base 42 1 v n (ps.map encP)) (h32 : ∀ p∈ps,p < 4294967296) : PSq (fun b => base≤b∧v.ownBlock = some b) w v ps := by
  have hl : ps.length = n := by have := h.1; simpa using this
  subst hl
  rcases h.2 with ⟨rfl,hn⟩ | ⟨g,cap,cur,rfl,hb,hg,hc,hm,hs,ht⟩
  · rw [List.eq_nil_of_length_eq_zero hn]; exact psq_nil _ _
  · refine ⟨some ⟨g,0,none⟩,cap,rfl,hc,hm,h32,fun _ => ⟨g,0,rfl,⟨hb,rfl⟩,fun j hj => ?_⟩⟩
    rw [Nat.zero_add,h.cellAt j (by omega)]
    simp [List.getElem?_map,List.getElem?_eq_getElem hj,encP]
def RSq (R : Nat→Prop) (w : World) (v : Value) (rs : List Rc) : Prop :=
  ∃ ao c,v = .slice ao rs.length c∧rs.length≤c∧c≤maxLen ∧
    (rs≠[]→∃ b o,ao = some ⟨b,o,none⟩∧R b∧∀ j (r : Rc),rs[j]? = some r→w.cell? ⟨b,o + j * 2,none⟩ = some (.int .u64 ((r.1 : Nat) : Int))∧r.1 < 18446744073709551616 ∧
      ∃ pv,w.cell? ⟨b,o + j * 2 + 1,none⟩ = some pv∧PSq R w pv r.2)
theorem RSq.kept {R : Nat→Prop} {w w' : World} {v : Value} {rs : List Rc} (h : RSq R w v rs) (k : ∀ b,R b→b < w.heap.size→w'.heap[b]? = w.heap[b]?) : RSq R w' v rs := by
  obtain ⟨ao,c,hv,h1,h2,h4⟩ := h
  refine ⟨ao,c,hv,h1,h2,fun hne => ?_⟩
  obtain ⟨b,o,ha,hb,hc⟩ := h4 hne
  refine ⟨b,o,ha,hb,fun j r hr => ?_⟩
  obtain ⟨c1,c2,pv,c3,c4⟩ := hc j r hr
  have e := k b hb (World.block_lt_of_cell? _ _ c1)
  exact ⟨(World.cell?_of_block (w := w) e).trans c1,c2,pv,(World.cell?_of_block (w := w) e).trans c3,c4.kept k⟩
theorem RSq.imp {R S : Nat→Prop} {w : World} {v : Value} {rs : List Rc} (h : RSq R w v rs) (k : ∀ b,R b→b < w.heap.size→S b) : RSq S w v rs := by
  obtain ⟨ao,c,hv,h1,h2,h4⟩ := h
  refine ⟨ao,c,hv,h1,h2,fun hne => ?_⟩
  obtain ⟨b,o,ha,hb,hc⟩ := h4 hne
  obtain ⟨r0,hr0⟩ : ∃ r,rs[0]? = some r := ⟨rs[0]'(List.length_pos_iff.2 hne),by simp⟩
  refine ⟨b,o,ha,k b hb (World.block_lt_of_cell? _ _ (hc 0 r0 hr0).1),fun j r hr => ?_⟩
  obtain ⟨c1,c2,pv,c3,c4⟩ := hc j r hr
  exact ⟨c1,c2,pv,c3,c4.imp k⟩
theorem RSq.grown {R : Nat→Prop} {w w' : World} {v : Value} {rs : List Rc} (h : RSq R w v rs) (k : w.grownBy w' none) : RSq R w' v rs := h.kept fun b _ hb => k.block b hb (by simp)
theorem RSq.shape {R : Nat→Prop} {w : World} {v : Value} {rs : List Rc} (h : RSq R w v rs) : ∃ ao c,v = .slice ao rs.length c := by
  obtain ⟨ao,c,hv,_⟩ := h
  exact ⟨ao,c,hv⟩
theorem RSq.len {R : Nat→Prop} {w : World} {ao : Option Addr} {n c : Nat} {rs : List Rc} (h : RSq R w (.slice ao n c) rs) : n = rs.length∧n≤maxLen := by
  obtain ⟨ao',c',hv,h1,h2,_⟩ := h
  cases hv
  exact ⟨rfl,Nat.le_trans h1 h2⟩
theorem RSq.at {R : Nat→Prop} {w : World} {ao : Option Addr} {n c : Nat} {rs : List Rc} (h : RSq R w (.slice ao n c) rs) (j : Nat) (r : Rc) (hr : rs[j]? = some r) :
    ∃ b o,ao = some ⟨b,o,none⟩∧R b∧w.cell? ⟨b,o + j * 2,none⟩ = some (.int .u64 ((r.1 : Nat) : Int))∧r.1 < 18446744073709551616∧∃ a1 c1,w.cell? ⟨b,o + j * 2 + 1,none⟩ = some (.slice a1 r.2.length c1)∧PSq R w (.slice a1 r.2.length c1) r.2 := by
  obtain ⟨ao',c',hv,h1,h2,h4⟩ := h
  cases hv
  obtain ⟨b,o,ha,hb,hc⟩ := h4 (fun e => by rw [e] at hr; simp at hr)
  obtain ⟨k1,k2,pv,k3,k4⟩ := hc j r hr
  obtain ⟨a1,c1,rfl⟩ := k4.shape
  exact ⟨b,o,ha,hb,k1,k2,a1,c1,k3,k4⟩
theorem rsq_nil (R : Nat→Prop) (w : World) : RSq R w (.slice none 0 0) [] := ⟨none,0,rfl,Nat.le_refl _,by simp [maxLen],fun h => absurd rfl h⟩
theorem infoPg : (Tryz.prog.info? 42).map (fun i => (i.zero,i.size,i.bytes)) = some (some (.int .u32 0),1,4) := by kernel_rfl
theorem infoRec : (Tryz.prog.info? 158).map (fun i => (i.zero,i.size,i.bytes)) = some (some (.agg #[.int .u64 0,.slice none 0 0]),2,32) := by kernel_rfl
end Go.Proofs.YtnnmpaenainogaaGreat

namespace Go.Proofs.YtnnmpaenainogaaGreat
open Go.RowKit Go.Maps
abbrev keyL (p : Nat) : Lit := .int .u32 (p : Int)
def setD (L : List Nat) : DataW Unit := .map (L.map fun p => (keyL p,.agg []))
theorem keyL_same (a b : Nat) : (keyL a).sameKey (keyL b) = (a == b) := by
  simp only [keyL,Lit.sameKey]
  by_cases h : a = b
  · subst h; simp
  · have : ¬ (a : Int) = (b : Int) := by omega
    simp [h,this]
theorem keyL_before (a b : Nat) : (keyL a).before (keyL b) = decide (a < b) := by
  simp [keyL,Lit.before]
theorem has_setD (L : List Nat) (p : Nat) : Maps.has (setD L) (keyL p) = decide (p∈L) := by
  unfold setD
  rw [Maps.has_eq,List.any_map]
  induction L with
  | nil => simp
  | cons y r ih =>
    rw [List.any_cons,ih]
    simp only [Function.comp,keyL_same,List.mem_cons]
    by_cases h : y = p
    · subst h; simp
    · have : ¬ p = y := fun e => h e.symm
      simp [h,this]
theorem size_setD (L : List Nat) : Maps.size (setD L) = L.length := by
  unfold setD
  rw [Maps.size_eq,List.length_map]
theorem filt_setD (L : List Nat) (p : Nat) : (L.map fun q => (keyL q,(.agg [] : DataW Unit))).filter (fun x => !x.1.sameKey (keyL p)) = (del p L).map fun q => (keyL q,.agg []) := by
  unfold del
  rw [List.filter_map]
  congr 1
  apply List.filter_congr
  intro x _
  simp [Function.comp,keyL_same]
theorem setD_del (L : List Nat) (p : Nat) : (setD L).del (keyL p) = setD (del p L) := by
  show DataW.map _ = DataW.map _
  rw [filt_setD]
theorem insert_setD (p : Nat) : ∀ L : List Nat,DataW.insert (keyL p,(.agg [] : DataW Unit)) (L.map fun q => (keyL q,.agg [])) = (insS p L).map fun q => (keyL q,.agg [])
  | [] => rfl
  | y :: r => by
    simp only [List.map_cons]
    unfold DataW.insert insS
    simp only [keyL_before,decide_eq_true_eq]
    split
    · simp
    · rw [insert_setD p r]; simp
theorem setD_put (L : List Nat) (p : Nat) : (setD L).put (keyL p) (.agg []) = setD (ins p L) := by
  show DataW.map _ = DataW.map _
  rw [filt_setD,insert_setD]
  rfl
def SetAt (w : World) (b : Nat) (L : List Nat) : Prop := w.ownsMap Tryz.prog 42 (unitElem (H := Unit)) b L.length (setD L)∧Srt L∧∀ p∈L,p < 4294967296
theorem own_tight {w : World} {P : Program} {k : TypeId} {R : Value→Option (DataW Unit × List MemPlace)} {b n : Nat} {L : List Nat} (h : w.ownsMap P k R b n (setD L)) : w.ownsMap P k R b L.length (setD L) := by
  obtain ⟨es,clock,hb,F,_,hD⟩ := h
  refine ⟨es,clock,hb,F,?_,hD⟩
  have := congrArg Maps.size hD
  rw [size_setD,Maps.size_eq,length_sorted,List.length_map] at this
  simpa using (Nat.le_of_eq this.symm)
theorem SetAt.lt {w : World} {b : Nat} {L : List Nat} (h : SetAt w b L) : b < w.heap.size := by
  obtain ⟨⟨es,clock,hb,_⟩,_⟩ := h
  exact (Array.getElem?_eq_some_iff.1 hb).1
theorem SetAt.len {w : World} {b : Nat} {L : List Nat} (h : SetAt w b L) : L.length≤4294967296 := by
  have := srt_len (N := 4294967296) 0 h.2.1 (fun x hx => ⟨Nat.zero_le _,h.2.2 x hx⟩)
  simpa using this
theorem SetAt.kept {w w' : World} {b : Nat} {L : List Nat} (h : SetAt w b L) (k : w'.heap[b]? = w.heap[b]?) : SetAt w' b L := by
  obtain ⟨⟨es,clock,hb,F,hs,hD⟩,h2⟩ := h
  exact ⟨⟨es,clock,k.trans hb,F,hs,hD⟩,h2⟩
theorem SetAt.grown {w w' : World} {b : Nat} {L : List Nat} (h : SetAt w b L) (k : w.grownBy w' none) : SetAt w' b L := h.kept (k.block b h.lt (by simp))
theorem set_made (w : World) : SetAt (w.alloc (.map #[] 0)) w.heap.size [] := ⟨World.ownsMap_made _ _ _ _,List.Pairwise.nil,by simp⟩
theorem lawP : Keyed Tryz.prog 42 := int_keyed Tryz.underlying42
theorem zeroUnit (w : World) : (zeroValue 114).run Tryz.prog w = .ok (.agg #[]) w := by kernel_rfl
theorem wf32 {p : Nat} (h : p < 4294967296) : (Lit.int .u32 (p : Int)).wf = true := by
  have h1 : IntKind.u32.max = 4294967295 := by decide
  have h2 : IntKind.u32.min = 0 := by decide
  simp only [Lit.wf,h1,h2,Bool.and_eq_true,decide_eq_true_eq]
  omega
theorem keyP {p : Nat} (h : p < 4294967296) : keyOf Tryz.prog 42 (.int .u32 (p : Int)) = some (keyL p) := keyOf_int_mk Tryz.underlying42 (wf32 h)
theorem turned_cell {w w' : World} {b : Nat} (h : w.mapTurned w' b) (a : Addr) : w'.cell? a = w.cell? a := by
  obtain ⟨es,clock,es',clock',hb,rfl⟩ := h
  by_cases e : a.block = b
  · have h1 : (ChangeMaps.setBlock w b (.map es' clock')).heap[a.block]? = some (.map es' clock') := by rw [e]; exact ChangeMaps.heap_setBlock_same hb _
    have h2 : w.heap[a.block]? = some (.map es clock) := by rw [e]; exact hb
    simp [World.cell?,h1,h2]
  · exact World.cell?_of_block (ChangeMaps.heap_setBlock_other hb _ e)
set_option maxHeartbeats 400000 in
theorem has_any (w : World) (b p : Nat) (L : List Nat) (h : SetAt w b L) (hp : p < 4294967296) :
    Calls Tryz.prog 85 #[.map (some b),.int .u32 (p : Int)] w fun r w' => r = .returned (.bool (decide (p∈L)))∧w' = w.alloc (.cells #[] 114) := by
  have hown := h.1
  go_enter Tryz.func85,Tryz.ntmps85
  go_wp2_with (first
    | (at_lookup; refine wpList_lookup_own_unit _ rfl _ _ 174 rfl 42 114 lawP Tryz.underlying174 (zeroUnit _) b L.length _ rfl hown _ _ rfl (keyP hp) ?_)
    | go_in)
  go_ret
  exact ⟨by simp [has_setD],rfl⟩
set_option maxHeartbeats 400000 in
theorem setAdd_any (w : World) (b : Nat) (L ps : List Nat) (R : Nat→Prop) (ao : Option Addr) (n c : Nat) (h : SetAt w b L) (hp : PSq R w (.slice ao n c) ps) :
    Calls Tryz.prog 86 #[.map (some b),.slice ao n c] w fun r w' => r = .returned (.tuple #[])∧SetAt w' b (insAll ps L)∧w.mapTurned w' b := by
  obtain ⟨hn,hm⟩ := hp.len
  have hN := Lib.hid hn
  have hps := Lib.hid hp
  have hm2 : (n : Int) ≤ 9223372036854775807 := by have h9 : maxLen ≤ 9223372036854775807 := by decide
                                                   omega
  clear hn hp hm
  go_enter Tryz.func86,Tryz.ntmps86
  go_wp2
  go_loopw [8] (fun i wr => ∃ k : Nat,k≤n∧i = .int .i64 (k : Int)∧SetAt wr b (insAll (ps.take k) L)∧w.mapTurned wr b) (fun i _ => n - (intOf i).toNat)
  case atStart => exact ⟨0,Nat.zero_le _,rfl,h,h.1.turned_refl⟩
  case round =>
    obtain ⟨k,hk,rfl,hs,ht⟩ := hrel
    by_cases hlt : k < n
    · have hki : (k : Int) < (n : Int) := by omega
      have hkl : k < ps.length := by rw [← hN.out]; exact hlt
      obtain ⟨b',o,rfl,_,hc⟩ := hps.out.at k hkl
      have hc1 : wr.cell? ⟨b',o + k,none⟩ = some (.int .u32 ((ps.getD k 0 : Nat) : Int)) := (turned_cell ht _).trans hc
      have hpk : ps.getD k 0 < 4294967296 := hps.out.u32 _ (by rw [List.getD_eq_getElem?_getD,List.getElem?_eq_getElem hkl]; exact List.getElem_mem hkl)
      have hown := hs.1
      have htk : ps.take (k + 1) = ps.take k++[ps.getD k 0] := by
        rw [List.take_succ_eq_append_getElem hkl,List.getD_eq_getElem?_getD,List.getElem?_eq_getElem hkl]; rfl
      have HT := Lib.hid htk
      generalize ps.getD k 0 = q at hc1 hpk HT
      clear hc htk
      go_wp2_with (first
        | (at_mapUpdate; refine wpList_mapUpdate_in _ rfl _ _ _ 174 rfl 42 114 lawP Tryz.underlying174 (unitElem (H := Unit)) b _ _ rfl hown (by have := hs.len; unfold maxLen; omega) _ _ _ rfl rfl (keyP hpk) _ [] unitElem_mk ?_; intro w1 hown1 hturn1)
        | go_in)
      rw [setD_put] at hown1
      go_roundw
      case rel =>
        refine ⟨k + 1,by omega,by go_num,?_,ht.trans hturn1⟩
        rw [HT.out,insAll_snoc]
        exact ⟨own_tight hown1,srt_ins hs.2.1,fun x hx => by
          rcases mem_ins.1 hx with e | e
          · rw [e]; exact hpk
          · exact hs.2.2 x e⟩
      case measure => simp [intOf]; omega
    · have hki : ¬ (k : Int) < (n : Int) := by omega
      have e : k = n := by omega
      go_wp2
      go_end0
      refine ⟨rfl,?_,ht⟩
      rw [e,hN.out,List.take_length] at hs
      exact hs
end Go.Proofs.YtnnmpaenainogaaGreat

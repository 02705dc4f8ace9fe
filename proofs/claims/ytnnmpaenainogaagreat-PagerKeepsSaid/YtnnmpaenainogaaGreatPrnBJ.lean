/-
  Layer 11: a change's pages in a map, its space, as they lie. Own work.
-/
import Derived.Test.YtnnmpaenainogaaGreatPrnBG
import Derived.Test.YtnnmpaenainogaaGreatPrnBI
import Derived.RangeFuncNested
import Derived.RangeFuncBound
import Derived.RangeFuncCalls
import Derived.RangeFuncLeaves
import Derived.RangeFuncWrites
import Derived.RangeFuncBox
import Derived.Shelf.Abstract
import Derived.Shelf.RegionOpen
import Derived.OwnWalkIn
import Derived.TacticsInMore
import Derived.LoopNIn
import Derived.LoopIn
import Derived.Sort.MapsRangeIn
import Derived.Maps.OwnIn

set_option linter.unusedVariables false
set_option linter.unusedSimpArgs false
namespace Go.Proofs.YtnnmpaenainogaaGreat
open Go.RowKit Go.Maps
def heldR (v : Value) : Option (DataW Value × List MemPlace) := some (.held v,[])
def pgD (K : List Nat) (V : Nat→Value) : DataW Value := .map (K.map fun p => (keyL p,.held (V p)))
theorem heldR_inv {v u : Value} {ps : List MemPlace} (h : heldR v = some (.held u,ps)) : v = u := by
  unfold heldR at h
  simp at h
  exact h.1
theorem has_pgD (K : List Nat) (V : Nat→Value) (p : Nat) : Maps.has (pgD K V) (keyL p) = decide (p∈K) := by
  unfold pgD
  rw [Maps.has_eq,List.any_map]
  induction K with
  | nil => simp
  | cons y r ih =>
    rw [List.any_cons,ih]
    simp only [Function.comp,keyL_same,List.mem_cons]
    by_cases h : y = p
    · subst h; simp
    · have : ¬ p = y := fun e => h e.symm
      simp [h,this]
theorem at_pgD (V : Nat→Value) (p : Nat) (z : DataW Value) : ∀ (K : List Nat),p∈K→(pgD K V).atKey (keyL p) z = .held (V p)
  | [],h => by cases h
  | y :: r,h => by
    have ih := at_pgD V p z r
    unfold pgD DataW.atKey at *
    simp only [List.map_cons,List.find?_cons,keyL_same]
    by_cases e : y = p
    · subst e; simp
    · have : (y == p) = false := by simpa using e
      rw [this]
      exact ih (by rcases List.mem_cons.1 h with k | k
                   · exact absurd k.symm e
                   · exact k)
theorem filt_pgD (K : List Nat) (V : Nat→Value) (p : Nat) : (K.map fun q => (keyL q,(.held (V q) : DataW Value))).filter (fun x => !x.1.sameKey (keyL p)) = (del p K).map fun q => (keyL q,.held (V q)) := by
  unfold del
  rw [List.filter_map]
  congr 1
  apply List.filter_congr
  intro x _
  simp [Function.comp,keyL_same]
theorem pgD_del (K : List Nat) (V : Nat→Value) (p : Nat) : (pgD K V).del (keyL p) = pgD (del p K) V := by
  show DataW.map _ = DataW.map _
  rw [filt_pgD]
def updV (V : Nat→Value) (p : Nat) (v : Value) : Nat→Value := fun q => if q = p then v else V q
theorem insert_pgD (V : Nat→Value) (p : Nat) (v : Value) : ∀ K : List Nat,(∀ q∈K,q≠p)→DataW.insert (keyL p,(.held v : DataW Value)) (K.map fun q => (keyL q,.held (V q))) = (insS p K).map fun q => (keyL q,.held (updV V p v q))
  | [],_ => by simp [DataW.insert,insS,updV]
  | y :: r,h => by
    have e1 : ∀ q∈y :: r,updV V p v q = V q := fun q hq => if_neg (h q hq)
    have e2 : (y :: r).map (fun q => (keyL q,(.held (V q) : DataW Value))) = (y :: r).map fun q => (keyL q,.held (updV V p v q)) := List.map_congr_left fun q hq => by rw [e1 q hq]
    rw [e2]
    simp only [List.map_cons]
    unfold DataW.insert insS
    simp only [keyL_before,decide_eq_true_eq]
    split
    · simp [updV]
    · have ih := insert_pgD V p v r fun q hq => h q (by simp [hq])
      have e3 : r.map (fun q => (keyL q,(.held (V q) : DataW Value))) = r.map fun q => (keyL q,.held (updV V p v q)) := List.map_congr_left fun q hq => by rw [e1 q (by simp [hq])]
      rw [e3] at ih
      rw [ih]
      simp
theorem pgD_put (K : List Nat) (V : Nat→Value) (p : Nat) (v : Value) : (pgD K V).put (keyL p) (.held v) = pgD (ins p K) (updV V p v) := by
  show DataW.map _ = DataW.map _
  rw [filt_pgD,insert_pgD V p v (del p K) (fun q hq => by unfold del at hq; simpa using (List.mem_filter.1 hq).2)]
  rfl
theorem size_pgD (K : List Nat) (V : Nat→Value) : Maps.size (pgD K V) = K.length := by
  unfold pgD
  rw [Maps.size_eq,List.length_map]
theorem pg_tight {w : World} {P : Program} {k : TypeId} {R : Value→Option (DataW Value × List MemPlace)} {b n : Nat} {K : List Nat} {V : Nat→Value} (h : w.ownsMap P k R b n (pgD K V)) : w.ownsMap P k R b K.length (pgD K V) := by
  obtain ⟨es,clock,hb,F,_,hD⟩ := h
  refine ⟨es,clock,hb,F,?_,hD⟩
  have := congrArg Maps.size hD
  rw [size_pgD,Maps.size_eq,length_sorted,List.length_map] at this
  simpa using (Nat.le_of_eq this.symm)
def PgsAt (w : World) (b S : Nat) (K : List Nat) (C : Nat→List Int) : Prop :=
  ∃ V,w.ownsMap Tryz.prog 42 heldR b K.length (pgD K V)∧Srt K∧(∀ p∈K,p < 4294967296)∧∀ p∈K,Own8 0 w S (V p) (C p)
theorem PgsAt.ek {w : World} {b S : Nat} {K : List Nat} {C : Nat→List Int} (h : PgsAt w b S K C) : ek w b = none∧b < w.heap.size := by
  obtain ⟨V,⟨es,c,hb,_⟩,_⟩ := h
  exact ⟨ek_map hb,lt_of_block hb⟩
theorem PgsAt.kept {P : Option TypeId→Prop} {B : Nat} {w w' : World} {b S : Nat} {K : List Nat} {C : Nat→List Int} (h : PgsAt w b S K C) (k : Kfr P B w w') (hb : w'.heap[b]? = w.heap[b]?) (h8 : ¬ P (some 5)) : PgsAt w' b S K C := by
  obtain ⟨V,⟨es,c,h1,h2⟩,h3,h4,h5⟩ := h
  exact ⟨V,⟨es,c,hb.trans h1,h2⟩,h3,h4,fun p hp => k.own8 (h5 p hp) h8⟩
theorem PgsAt.kfr {P : Option TypeId→Prop} {B : Nat} {w w' : World} {b S : Nat} {K : List Nat} {C : Nat→List Int} (h : PgsAt w b S K C) (k : Kfr P B w w') (h0 : ¬ P none) (h8 : ¬ P (some 5)) : PgsAt w' b S K C :=
  h.kept k (k.block b h.ek.2 (.inr (by rw [h.ek.1]; exact h0))) h8
theorem pgs_made (w : World) (S : Nat) (C : Nat→List Int) : PgsAt (w.alloc (.map #[] 0)) w.heap.size S [] C := ⟨fun _ => .slice none 0 0,World.ownsMap_made _ _ _ _,List.Pairwise.nil,by simp,by simp⟩
def updC (C : Nat→List Int) (p : Nat) (b : List Int) : Nat→List Int := fun q => if q = p then b else C q
def SpOk (B : Nat) (w : World) (M : Sp) : Prop := ∃ H : Nat→Prop,SpAt B H w M∧∀ b,H b→ek w b = some 158∨ek w b = some 42
theorem SpAt.five {B : Nat} {H : Nat→Prop} {w : World} {M : Sp} (h : SpAt B H w M) : ∀ i,B≤i→i < B + 5→(ek w i = none∨ek w i = some 220)∧i < w.heap.size := by
  obtain ⟨wv,hf,_⟩ := h
  intro i h1 h2
  have hs : ∀ {b L},SetAt w b L→ek w b = none∧b < w.heap.size := fun {b L} k => by
    obtain ⟨⟨es,c,hb,_⟩,_⟩ := k
    exact ⟨ek_map hb,lt_of_block hb⟩
  rcases (by omega : i = B∨i = B + 1∨i = B + 2∨i = B + 3∨i = B + 4) with e | e | e | e | e
  · subst e; exact ⟨.inl (hs hf.us).1,(hs hf.us).2⟩
  · subst e; exact ⟨.inl (hs hf.fr).1,(hs hf.fr).2⟩
  · subst e; exact ⟨.inl (hs hf.go).1,(hs hf.go).2⟩
  · subst e; exact ⟨.inl (hs hf.wa).1,(hs hf.wa).2⟩
  · subst e; exact ⟨.inr (ek_of hf.box),lt_of_block hf.box⟩
def KS (t : Option TypeId) : Prop := t = none∨t = some 220
theorem sfr_kfr {B : Nat} {H : Nat→Prop} {w w' : World} {M : Sp} (h : SpAt B H w M) (k : Sfr B w w') : Kfr KS B w w' :=
  ⟨k.os,k.tape,k.output,k.size,fun i hi hp => k.block i hi (by
    rcases hp with e | e
    · exact .inl e
    · refine Decidable.byContradiction fun n => e ?_
      exact (h.five i (by omega) (by omega)).1)⟩
theorem SpAt.keep {B B' : Nat} {H : Nat→Prop} {P : Option TypeId→Prop} {w w' : World} {M : Sp} (h : SpAt B H w M) (hH : ∀ b,H b→ek w b = some 158∨ek w b = some 42) (k : Kfr P B' w w') (h5 : ∀ i,B≤i→i < B + 5→w'.heap[i]? = w.heap[i]?) (h1 : ¬ P (some 158)) (h2 : ¬ P (some 42)) :
    SpAt B H w' M∧∀ b,H b→ek w' b = some 158∨ek w' b = some 42 := by
  have hb : ∀ b,H b→w'.heap[b]? = w.heap[b]? := fun b hb => by
    rcases hH b hb with e | e
    · exact k.block b (ek_lt e) (.inr (by rw [e]; exact h1))
    · exact k.block b (ek_lt e) (.inr (by rw [e]; exact h2))
  obtain ⟨wv,hf,hr⟩ := h
  exact ⟨⟨wv,hf.kept h5,hr.kept fun b hb' _ => hb b hb'.2⟩,fun b hb' => by rw [ek_same (hb b hb')]; exact hH b hb'⟩
theorem SpOk.kfr {P : Option TypeId→Prop} {B B' : Nat} {w w' : World} {M : Sp} (h : SpOk B w M) (k : Kfr P B' w w') (h0 : ¬ P none) (h1 : ¬ P (some 220)) (h2 : ¬ P (some 158)) (h3 : ¬ P (some 42)) : SpOk B w' M := by
  obtain ⟨H,hs,hH⟩ := h
  obtain ⟨a,b⟩ := hs.keep hH k (fun i i1 i2 => by
    obtain ⟨e,e2⟩ := hs.five i i1 i2
    exact k.block i e2 (.inr (by rcases e with e | e <;> rw [e] <;> assumption))) h2 h3
  exact ⟨H,a,b⟩
theorem SpOk.map {B b : Nat} {w w' : World} {M : Sp} (h : SpOk B w M) (g : w.grownBy w' (some b)) (hb : ek w b = none) (hn : b < B∨B + 5≤b) : SpOk B w' M := by
  obtain ⟨H,hs,hH⟩ := h
  have k : Kfr (fun x => x = none) 0 w w' := Kfr.row g (Nat.zero_le _) hb
  obtain ⟨a,c⟩ := hs.keep hH k (fun i i1 i2 => g.block i (hs.five i i1 i2).2 (by intro e; injection e with e; omega)) (by simp) (by simp)
  exact ⟨H,a,c⟩
theorem SpOk.op {B : Nat} {w w' : World} {M M' : Sp} {H : Nat→Prop} {v : Value} {r : Ending} (hs : SpAt B H w M) (hH : ∀ b,H b→ek w b = some 158∨ek w b = some 42) (h : OpR B H w M' v r w') : SpOk B w' M' := by
  obtain ⟨_,h1,h2⟩ := h
  have k := sfr_kfr hs h2
  exact ⟨H,h1,fun b hb => by
    rcases hH b hb with e | e
    · left; rw [k.ek (ek_lt e) (.inr (by rw [e]; rintro (x | x) <;> simp at x))]; exact e
    · right; rw [k.ek (ek_lt e) (.inr (by rw [e]; rintro (x | x) <;> simp at x))]; exact e⟩
end Go.Proofs.YtnnmpaenainogaaGreat

namespace Go.Proofs.YtnnmpaenainogaaGreat
open Go.RowKit Go.Maps
structure TV where
  n : Nat
  sp : Sp
  K : List Nat
  C : Nat→List Int
def DraftAt (B : Nat) (w : World) (x S : Nat) (T : TV) : Prop :=
  B≤x∧∃ Bs mb,w.heap[x]? = some (.cells #[.int .u64 (T.n : Int),.pointer (some ⟨Bs + 4,0,none⟩),.map (some mb)] 148 (0,0))∧B≤Bs∧B≤mb∧(mb < Bs∨Bs + 5≤mb)∧SpOk Bs w T.sp∧PgsAt w mb S T.K T.C
def TxnAt (B : Nat) (w : World) (t f : Nat) (x : Option Nat) : Prop := B≤t∧w.heap[t]? = some (.cells #[.pointer (some ⟨f,0,none⟩),.pointer (x.map fun b => ⟨b,0,none⟩)] 150 (0,0))
theorem DraftAt.kfr {P : Option TypeId→Prop} {B B' x S : Nat} {w w' : World} {T : TV} (h : DraftAt B w x S T) (k : Kfr P B' w w') (h0 : ¬ P none) (h1 : ¬ P (some 220)) (h2 : ¬ P (some 158)) (h3 : ¬ P (some 42)) (h4 : ¬ P (some 148)) (h8 : ¬ P (some 5)) : DraftAt B w' x S T := by
  obtain ⟨a,Bs,mb,b,c,d,e,f,g⟩ := h
  exact ⟨a,Bs,mb,k.cells b h4,c,d,e,f.kfr k h0 h1 h2 h3,g.kfr k h0 h8⟩
theorem DraftAt.new {B x S : Nat} {w w' : World} {T : TV} (h : DraftAt B w x S T) (k : w.grownBy w' none) : DraftAt B w' x S T := h.kfr (P := fun _ => False) (B' := 0) (Kfr.of k) (by simp) (by simp) (by simp) (by simp) (by simp) (by simp)
theorem KD_none : ¬ KD none := by rintro (e | e | e) <;> cases e
theorem DraftAt.dfr {B B' x S : Nat} {w w' : World} {T : TV} (h : DraftAt B w x S T) (k : Dfr B' w w') : DraftAt B w' x S T := h.kfr (kfr_dfr k) KD_none (not_KD' (by decide)) (not_KD' (by decide)) (not_KD' (by decide)) (not_KD' (by decide)) (not_KD' (by decide))
theorem TxnAt.kfr {P : Option TypeId→Prop} {B B' t f : Nat} {x : Option Nat} {w w' : World} (h : TxnAt B w t f x) (k : Kfr P B' w w') (h1 : ¬ P (some 150)) : TxnAt B w' t f x := ⟨h.1,k.cells h.2 h1⟩
theorem TxnAt.new {B t f : Nat} {x : Option Nat} {w w' : World} (h : TxnAt B w t f x) (k : w.grownBy w' none) : TxnAt B w' t f x := h.kfr (P := fun _ => False) (B' := 0) (Kfr.of k) (by simp)
theorem TxnAt.dfr {B B' t f : Nat} {x : Option Nat} {w w' : World} (h : TxnAt B w t f x) (k : Dfr B' w w') : TxnAt B w' t f x := h.kfr (kfr_dfr k) (not_KD' (by decide))
theorem not_KS {t : TypeId} (h : t≠220) : ¬ KS (some t) := by rintro (e | e); cases e; injection e with e; exact h e
theorem cells3 {W : World} {q : Nat} {a b c : Value} {t : TypeId} (h : W.heap[q]? = some (.cells #[a,b,c] t (0,0))) : W.cell? ⟨q,0,none⟩ = some a∧W.cell? ⟨q,1,none⟩ = some b∧W.cell? ⟨q,2,none⟩ = some c := by
  refine ⟨?_,?_,?_⟩ <;> simp [World.cell?,h]
set_option maxHeartbeats 1000000 in
theorem over_any {B t f : Nat} {x : Option Nat} {w : World} (h : TxnAt B w t f x) : Calls Tryz.prog 42 #[.pointer (some ⟨t,0,none⟩)] w fun r w' => r = .returned (.bool x.isNone)∧w = w' := by
  obtain ⟨c0,c1,_⟩ := cells2 h.2
  cases x with
  | none =>
    go_enter Tryz.func42,Tryz.ntmps42
    go_wp2
    go_ret
    exact ⟨rfl,rfl⟩
  | some b =>
    go_enter Tryz.func42,Tryz.ntmps42
    go_wp2
    go_ret
    exact ⟨rfl,rfl⟩
set_option maxHeartbeats 1000000 in
theorem state_live {B t f b : Nat} {w : World} (h : TxnAt B w t f (some b)) : Calls Tryz.prog 66 #[.pointer (some ⟨t,0,none⟩)] w fun r w' => r = .returned (.int .i64 0)∧w = w' := by
  have HO := Lib.hid (over_any h)
  go_enter Tryz.func66,Tryz.ntmps66
  go_wp2_with (first
    | (go_at_call 42; ((with_reducible refine HO.out.mono ?_); rintro r w1 ⟨rfl,rfl⟩)))
  go_ret
  exact ⟨rfl,rfl⟩
set_option maxHeartbeats 1000000 in
theorem abort_any {B t f : Nat} {x : Option Nat} {w : World} (h : TxnAt B w t f x) : Calls Tryz.prog 25 #[.pointer (some ⟨t,0,none⟩)] w fun r w' => r = .returned (.tuple #[])∧TxnAt B w' t f none∧Kfr (fun k => k = some 150) B w w' := by
  obtain ⟨c0,c1,z0,z1⟩ := cells2 h.2
  have HK := Lib.hid (Kfr.row (P := fun k => k = some 150) (gset w ⟨t,1,none⟩ (.pointer none)) h.1 (ek_of h.2))
  have HH : Hid ((w.setCell ⟨t,1,none⟩ (.pointer none)).heap[t]? = some (.cells #[.pointer (some ⟨f,0,none⟩),.pointer none] 150 (0,0))) := Lib.hid (heap_setCell_same _ t 1 _ 150 (.pointer none) h.2)
  have HB := Lib.hid h.1
  clear h
  go_enter Tryz.func25,Tryz.ntmps25
  go_wp2
  go_end0
  exact ⟨rfl,⟨HB.out,HH.out⟩,HK.out⟩
def freeT (T : TV) (p : Nat) : TV × Int := if (giveM T.sp p).2 = 0 then ({ T with sp := (giveM T.sp p).1,K := del p T.K },0) else ({ T with sp := (giveM T.sp p).1 },24)
theorem srt_del' {p : Nat} {L : List Nat} (h : Srt L) : Srt (del p L) := List.Pairwise.sublist (List.filter_sublist) h
set_option maxHeartbeats 2000000 in
theorem dfree_any {B x S p : Nat} {w : World} {T : TV} (h : DraftAt B w x S T) (hp : p < 4294967296) :
    Calls Tryz.prog 69 #[.pointer (some ⟨x,0,none⟩),.int .u32 (p : Int)] w fun r w' => r = .returned (.int .i64 (freeT T p).2)∧DraftAt B w' x S (freeT T p).1∧Kfr KS B w w' := by
  obtain ⟨hx,Bs,mb,hb,h1,h2,h3,hsp,hpg⟩ := h
  obtain ⟨H,hs,hH⟩ := hsp
  have KG := Lib.hid (give_any w Bs T.sp hs p hp)
  have HBX := Lib.hid hb
  obtain ⟨c0,c1,c2⟩ := cells3 hb
  have HSO := Lib.hid (fun (r : Ending) (w' : World) (v : Value) (k : OpR Bs H w (giveM T.sp p).1 v r w') => SpOk.op hs hH k)
  have HKF := Lib.hid (fun (w' : World) (k : Sfr Bs w w') => (sfr_kfr hs k).mono h1)
  have HMB := Lib.hid (fun (w' : World) (k : Sfr Bs w w') => k.block mb hpg.ek.2 (by omega))
  have HPG := Lib.hid hpg
  clear hs hH hb hpg
  have HFT : Hid (freeT T p = if (giveM T.sp p).2 = 0 then ({ T with sp := (giveM T.sp p).1,K := del p T.K },0) else ({ T with sp := (giveM T.sp p).1 },24)) := Lib.hid rfl
  generalize freeT T p = RR at HFT ⊢
  generalize (giveM T.sp p).1 = sp' at KG HSO HFT
  generalize (giveM T.sp p).2 = e at KG HFT
  by_cases he : e = 0
  · subst he
    have HFT2 := Lib.hid (HFT.out.trans (if_pos rfl))
    clear HFT
    obtain ⟨V,hown,hsr,h32,h8⟩ := HPG.out
    go_enter Tryz.func69,Tryz.ntmps69
    go_wp2_with (first
      | (go_at_call 117; ((with_reducible refine KG.out.mono ?_); rintro r w1 hk; have HS1 := Lib.hid (HSO.out _ _ _ hk); obtain ⟨rfl,hk1,hk2⟩ := hk); have HK1 := Lib.hid (HKF.out _ hk2); have HM1 := Lib.hid (HMB.out _ hk2); have HPG1 := Lib.hid (HPG.out.kept HK1.out HM1.out (not_KS (by decide))); have HBX1 := Lib.hid (HK1.out.cells HBX.out (not_KS (by decide))); clear hk1 hk2 c0 c1 c2 hown; obtain ⟨c0,c1,c2⟩ := cells3 HBX1.out; obtain ⟨V1,hown1,hsr1,h321,h81⟩ := HPG1.out)
      | (at_delete; refine wpList_delete_own _ rfl _ _ 146 42 rfl 32 lawP Tryz.underlying146 heldR mb _ _ rfl hown1 _ _ rfl (keyP hp) ?_; intro w2 hown2 hturn2; rw [pgD_del] at hown2; have HO2 := Lib.hid (pg_tight hown2); have HT2 := Lib.hid hturn2; clear hown2 hturn2)
      | go_in)
    go_ret
    have g2 := HT2.out.grown
    have k2 : Kfr (fun x => x = none) B w1 w2 := Kfr.row g2 h2 HPG1.out.ek.1
    refine ⟨by rw [HFT2.out]; rfl,?_,HK1.out.trans (k2.imp fun t e => .inl e)⟩
    rw [HFT2.out]
    exact ⟨hx,Bs,mb,k2.cells HBX1.out (by simp),h1,h2,h3,HS1.out.map g2 HPG1.out.ek.1 h3,V1,HO2.out,srt_del' hsr1,fun q hq => h321 q (List.mem_filter.1 hq).1,fun q hq => k2.own8 (h81 q (List.mem_filter.1 hq).1) (by simp)⟩
  · have hed : (e == 0) = false := by simpa using he
    have hed2 : (e != 0) = true := by simpa using he
    have HFT2 := Lib.hid (HFT.out.trans (if_neg he))
    clear HFT
    go_enter Tryz.func69,Tryz.ntmps69
    go_wp2_with (first
      | (go_at_call 117; ((with_reducible refine KG.out.mono ?_); rintro r w1 hk; have HS1 := Lib.hid (HSO.out _ _ _ hk); obtain ⟨rfl,hk1,hk2⟩ := hk); have HK1 := Lib.hid (HKF.out _ hk2); have HM1 := Lib.hid (HMB.out _ hk2); have HPG1 := Lib.hid (HPG.out.kept HK1.out HM1.out (not_KS (by decide))); have HBX1 := Lib.hid (HK1.out.cells HBX.out (not_KS (by decide))); clear hk1 hk2))
    go_ret
    refine ⟨by rw [HFT2.out]; rfl,?_,HK1.out⟩
    rw [HFT2.out]
    exact ⟨hx,Bs,mb,HBX1.out,h1,h2,h3,HS1.out,HPG1.out⟩
end Go.Proofs.YtnnmpaenainogaaGreat

namespace Go.Proofs.YtnnmpaenainogaaGreat
open Go.RowKit Go.Maps
set_option maxHeartbeats 1000000 in
theorem tsize_any {B B1 B2 t f d : Nat} {x : Option Nat} {w : World} {F : FV} {M : SM} (h : TxnAt B w t f x) (hf : FileAt B1 w f d F) (hd : PD B2 w d M) : Calls Tryz.prog 43 #[.pointer (some ⟨t,0,none⟩)] w fun r w' => r = .returned (.int .i64 (M.size : Int))∧w = w' := by
  obtain ⟨c0,c1,_⟩ := cells2 h.2
  have HK := Lib.hid (fsize_any hf hd)
  go_enter Tryz.func43,Tryz.ntmps43
  go_wp2_with (first
    | (go_at_call 39; ((with_reducible refine HK.out.mono ?_); rintro r w1 ⟨rfl,rfl⟩)))
  go_ret
  exact ⟨rfl,rfl⟩
set_option maxHeartbeats 1000000 in
theorem tfree_any {B t f x S p : Nat} {w : World} {T : TV} (h : TxnAt B w t f (some x)) (hx : DraftAt B w x S T) (hp : p < 4294967296) :
    Calls Tryz.prog 22 #[.pointer (some ⟨t,0,none⟩),.int .u32 (p : Int)] w fun r w' => r = .returned (.int .i64 (freeT T p).2)∧DraftAt B w' x S (freeT T p).1∧Kfr KS B w w' := by
  have HS := Lib.hid (state_live h)
  have HK := Lib.hid (dfree_any hx hp)
  obtain ⟨c0,c1,_⟩ := cells2 h.2
  simp only [Option.map_some] at c1
  go_enter Tryz.func22,Tryz.ntmps22
  go_wp2_with (first
    | (go_at_call 66; ((with_reducible refine HS.out.mono ?_); rintro r w1 ⟨rfl,rfl⟩))
    | (go_at_call 69; ((with_reducible refine HK.out.mono ?_); rintro r w2 ⟨rfl,hd,hk⟩); have HD2 := Lib.hid hd; have HK2 := Lib.hid hk; clear hd hk))
  go_ret
  exact ⟨rfl,HD2.out,HK2.out⟩
set_option maxHeartbeats 2000000 in
theorem tread_own {B t f x S p : Nat} {w : World} {T : TV} (h : TxnAt B w t f (some x)) (hx : DraftAt B w x S T) (hp : p < 4294967296) (hk : p∈T.K) (hS : S≤4096) :
    Calls Tryz.prog 41 #[.pointer (some ⟨t,0,none⟩),.int .u32 (p : Int)] w fun r w' => ∃ ao c,r = .returned (.tuple #[.slice ao S c,.int .i64 0])∧Own8 w.heap.size w' S (.slice ao S c) (T.C p)∧w.grownBy w' none := by
  have HS := Lib.hid (state_live h)
  obtain ⟨c0,c1,_⟩ := cells2 h.2
  simp only [Option.map_some] at c1
  obtain ⟨_,Bs,mb,hb,_,_,_,_,V,hown,hsr,h32,h8⟩ := hx
  obtain ⟨d0,d1,d2⟩ := cells3 hb
  have hz : ∀ w : World,(zeroValue 32).run Tryz.prog w = .ok (.slice none 0 0) w := fun w => by kernel_rfl
  have hhas : Maps.has (pgD T.K V) (keyL p) = true := by rw [has_pgD]; simpa using hk
  have HAT := Lib.hid (at_pgD V p (.held (.slice none 0 0)) T.K hk)
  have ho := h8 p hk
  obtain ⟨av,cv,ev⟩ := own_shape ho
  have HSQ := Lib.hid ho.seq
  have hlen := ho.len
  have HL := Lib.hid hlen
  clear hb h h8 ho hk hlen
  go_enter Tryz.func41,Tryz.ntmps41
  go_wp2_with (first
    | (go_at_call 66; ((with_reducible refine HS.out.mono ?_); rintro r w1 ⟨rfl,rfl⟩))
    | (at_lookup; refine wpList_lookup_own_ok _ rfl _ _ 146 rfl 42 32 lawP Tryz.underlying146 heldR (hz _) (.held (.slice none 0 0)) [] rfl mb T.K.length _ rfl hown _ _ rfl (keyP hp) ?_; intro v ps hv; rw [HAT.out] at hv; have ev2 := heldR_inv hv; rw [ev] at ev2; subst ev2; clear hv)
    | (go_at_call 68; have K := clone_any w _ (.slice av S cv) (T.C p) (by have := HSQ.out; rw [ev] at this; exact this) (Nat.le_refl _) (by rw [HL.out]; omega); rw [HL.out] at K; ((with_reducible refine K.mono ?_); clear K; rintro r w2 ⟨ao,c,rfl,ho,hg⟩); have HO := Lib.hid ho; have HG := Lib.hid hg; clear ho hg)
    | go_in)
  go_ret2
  exact ⟨ao,c,rfl,HO.out,HG.out⟩
end Go.Proofs.YtnnmpaenainogaaGreat

namespace Go.Proofs.YtnnmpaenainogaaGreat
open Go.RowKit Go.Maps
def TReadR (B : Nat) (w : World) (d : Nat) (M : SM) (e : Nat) (fr : List Nat) (p : Nat) (r : Ending) (w' : World) : Prop :=
  if p ∉ fr∧2≤p∧p < e then ∃ ao c,r = .returned (.tuple #[.slice ao M.size c,.int .i64 0])∧PD B w' d (cntM M)∧Own8 w.heap.size w' M.size (.slice ao M.size c) (lastM M p)∧Dfr B w w'
  else r = .returned (.tuple #[.slice none 0 0,.int .i64 24])∧w.grownBy w' none
set_option maxHeartbeats 2000000 in
theorem tread_file {B B1 B2 t f x d p : Nat} {w : World} {T : TV} {F : FV} {M : SM} (h : TxnAt B w t f (some x)) (hx : DraftAt B w x M.size T) (hf : FileAt B1 w f d F) (hd : PD B2 w d M) (hp : p < 4294967296) (hk : p ∉ T.K)
    (hF : Fine M) (hn : M.size≤4096) (hc : M.fails = false) (hl : F.mt.e≤M.pg.length) :
    Calls Tryz.prog 41 #[.pointer (some ⟨t,0,none⟩),.int .u32 (p : Int)] w fun r w' => TReadR B2 w d M F.mt.e T.sp.fr p r w' := by
  have HS := Lib.hid (state_live h)
  obtain ⟨c0,c1,_⟩ := cells2 h.2
  simp only [Option.map_some] at c1
  obtain ⟨_,Bs,mb,hb,_,_,_,hsp,V,hown,hsr,h32,h8⟩ := hx
  obtain ⟨H,hs,hH⟩ := hsp
  obtain ⟨d0,d1,d2⟩ := cells3 hb
  have hz : ∀ w : World,(zeroValue 32).run Tryz.prog w = .ok (.slice none 0 0) w := fun w => by kernel_rfl
  have hhas : Maps.has (pgD T.K V) (keyL p) = false := by rw [has_pgD]; simpa using hk
  have HFR := Lib.hid (fresh_any w Bs T.sp hs p hp)
  have HRD := Lib.hid (fun W (g : w.grownBy W none) => fread_any (p := p) (hf.new g) (hd.new g) hF hn hc hl hp (p : Int) rfl)
  have HB := Lib.hid hb
  have HT := Lib.hid h.2
  unfold TReadR
  unfold FReadR at HRD
  generalize cntM M = M1 at HRD ⊢
  generalize lastM M p = LL at HRD ⊢
  clear hb h h8 hk hf hd hF hc hl hs hH hsr
  by_cases hfr : p∈T.sp.fr
  · have hd1 : decide (p∈T.sp.fr) = true := by simpa using hfr
    rw [hd1] at HFR
    simp only [if_neg (show ¬ (p ∉ T.sp.fr∧2≤p∧p < F.mt.e) from fun k => k.1 hfr)]
    clear hfr hd1 HRD
    go_enter Tryz.func41,Tryz.ntmps41
    go_wp2_with (first
      | (go_at_call 66; ((with_reducible refine HS.out.mono ?_); rintro r w1 ⟨rfl,rfl⟩))
      | (at_lookup; refine wpList_lookup_own_ok _ rfl _ _ 146 rfl 42 32 lawP Tryz.underlying146 heldR (hz _) (.held (.slice none 0 0)) [] rfl mb T.K.length _ rfl hown _ _ rfl (keyP hp) ?_; intro v ps hv; clear hv)
      | (go_at_call 90; ((with_reducible refine HFR.out.mono ?_); rintro r w2 ⟨rfl,hg⟩); have HG := Lib.hid hg; clear hg)
      | go_in)
    go_ret2
    exact ⟨rfl,HG.out⟩
  · have hd1 : decide (p∈T.sp.fr) = false := by simpa using hfr
    rw [hd1] at HFR
    have HNF := Lib.hid hfr
    clear hfr hd1
    by_cases hr : 2≤p∧p < F.mt.e
    · simp only [if_pos (show p ∉ T.sp.fr∧2≤p∧p < F.mt.e from ⟨HNF.out,hr⟩)]
      simp only [if_pos hr] at HRD
      clear hr
      go_enter Tryz.func41,Tryz.ntmps41
      go_wp2_with (first
        | (go_at_call 66; ((with_reducible refine HS.out.mono ?_); rintro r w1 ⟨rfl,rfl⟩))
        | (at_lookup; refine wpList_lookup_own_ok _ rfl _ _ 146 rfl 42 32 lawP Tryz.underlying146 heldR (hz _) (.held (.slice none 0 0)) [] rfl mb T.K.length _ rfl hown _ _ rfl (keyP hp) ?_; intro v ps hv; clear hv)
        | (go_at_call 90; ((with_reducible refine HFR.out.mono ?_); rintro r w2 ⟨rfl,hg⟩); have HG := Lib.hid hg; clear hg c0 c1; obtain ⟨c0,c1,_⟩ := cells2 ((HG.out.block _ (lt_of_block HT.out) (by simp)).trans HT.out))
        | (go_at_call 40; ((with_reducible refine (HRD.out _ HG.out).mono ?_); rintro r w3 ⟨ao,c,rfl,hd,ho,hf⟩); have HD3 := Lib.hid hd; have HO3 := Lib.hid ho; have HF3 := Lib.hid hf; clear hd ho hf)
        | go_in)
      go_ret2
      exact ⟨ao,c,rfl,HD3.out,own_base HO3.out HG.out.size,(dfr_new HG.out).trans HF3.out⟩
    · simp only [if_neg (show ¬ (p ∉ T.sp.fr∧2≤p∧p < F.mt.e) from fun k => hr k.2)]
      simp only [if_neg hr] at HRD
      clear hr
      go_enter Tryz.func41,Tryz.ntmps41
      go_wp2_with (first
        | (go_at_call 66; ((with_reducible refine HS.out.mono ?_); rintro r w1 ⟨rfl,rfl⟩))
        | (at_lookup; refine wpList_lookup_own_ok _ rfl _ _ 146 rfl 42 32 lawP Tryz.underlying146 heldR (hz _) (.held (.slice none 0 0)) [] rfl mb T.K.length _ rfl hown _ _ rfl (keyP hp) ?_; intro v ps hv; clear hv)
        | (go_at_call 90; ((with_reducible refine HFR.out.mono ?_); rintro r w2 ⟨rfl,hg⟩); have HG := Lib.hid hg; clear hg c0 c1; obtain ⟨c0,c1,_⟩ := cells2 ((HG.out.block _ (lt_of_block HT.out) (by simp)).trans HT.out))
        | (go_at_call 40; ((with_reducible refine (HRD.out _ HG.out).mono ?_); rintro r w3 ⟨rfl,rfl⟩))
        | go_in)
      go_ret2
      exact ⟨rfl,HG.out⟩
def newT (T : TV) (b : List Int) : TV × Nat × Int := if (takeM T.sp).2.2 = 0 then ({ T with sp := (takeM T.sp).1,K := ins (takeM T.sp).2.1 T.K,C := updC T.C (takeM T.sp).2.1 b },(takeM T.sp).2.1,0) else ({ T with sp := (takeM T.sp).1 },0,(takeM T.sp).2.2)
end Go.Proofs.YtnnmpaenainogaaGreat

namespace Go.Proofs.YtnnmpaenainogaaGreat
open Go.RowKit Go.Maps
set_option maxRecDepth 20000 in
set_option maxHeartbeats 4000000 in
theorem tnew_any {B B1 B2 t f x d cc b0 : Nat} {ao : Option Addr} {w : World} {T : TV} {F : FV} {M : SM} {b : List Int} (h : TxnAt B w t f (some x)) (hx : DraftAt B w x M.size T) (hf : FileAt B1 w f d F) (hd : PD B2 w d M)
    (hs : Own8 b0 w M.size (.slice ao M.size cc) b) (hS : M.size≤4096) (hlow : ∀ y∈T.sp.us,T.sp.low≤y) (hen : T.sp.en≤T.sp.lim) (hlim : T.sp.lim≤65536) (hus : ∀ y∈T.sp.us,y < 4294967296) (hKl : T.K.length≤100000) :
    Calls Tryz.prog 19 #[.pointer (some ⟨t,0,none⟩),.slice ao M.size cc] w fun r w' => r = .returned (.tuple #[.int .u32 ((newT T b).2.1 : Int),.int .i64 (newT T b).2.2])∧DraftAt B w' x M.size (newT T b).1∧Kfr KS B w w' := by
  have HK := Lib.hid (tsize_any h hf hd)
  have HS := Lib.hid (state_live h)
  obtain ⟨c0,c1,_⟩ := cells2 h.2
  simp only [Option.map_some] at c1
  obtain ⟨hx0,Bs,mb,hb,h1,h2,h3,hsp,hpg⟩ := hx
  obtain ⟨H,hsa,hH⟩ := hsp
  have KT := Lib.hid (stake_any w Bs T.sp hsa hlow hen hlim)
  have HBX := Lib.hid hb
  have HTX := Lib.hid h.2
  have hbl : b.length = M.size := hs.len
  obtain ⟨d0,d1,d2⟩ := cells3 hb
  have HSO := Lib.hid (fun (r : Ending) (w' : World) (v : Value) (k : OpR Bs H w (takeM T.sp).1 v r w') => SpOk.op hsa hH k)
  have HKF := Lib.hid (fun (w' : World) (k : Sfr Bs w w') => (sfr_kfr hsa k).mono h1)
  have HMB := Lib.hid (fun (w' : World) (k : Sfr Bs w w') => k.block mb hpg.ek.2 (by omega))
  have hp32 : (takeM T.sp).2.1 < 4294967296 := by
    unfold takeM
    split
    · rename_i p r hu
      exact hus p (by rw [hu]; simp)
    · split
      · show 0 < 4294967296; decide
      · show T.sp.en < _; omega
  have HP32 := Lib.hid hp32
  have HPG := Lib.hid hpg
  have HSQ := Lib.hid hs
  clear hsa hH hb hpg h hf hd hlow hen hlim hus hp32 hs
  have HFT : Hid (newT T b = if (takeM T.sp).2.2 = 0 then ({ T with sp := (takeM T.sp).1,K := ins (takeM T.sp).2.1 T.K,C := updC T.C (takeM T.sp).2.1 b },(takeM T.sp).2.1,0) else ({ T with sp := (takeM T.sp).1 },0,(takeM T.sp).2.2)) := Lib.hid rfl
  generalize newT T b = RR at HFT ⊢
  generalize (takeM T.sp).1 = sp' at KT HSO HFT
  generalize (takeM T.sp).2.1 = p at KT HFT HP32
  generalize (takeM T.sp).2.2 = e at KT HFT
  generalize hMS : M.size = S at HK HPG HSQ hS hbl ⊢
  have ARM : True := trivial
  by_cases he : e = 0
  · subst he
    have HFT2 := Lib.hid (HFT.out.trans (if_pos rfl))
    clear HFT
    go_enter Tryz.func19,Tryz.ntmps19
    go_wp2_with (first
      | (go_at_call 43; ((with_reducible refine HK.out.mono ?_); rintro r w1 ⟨rfl,rfl⟩))
      | (go_at_call 66; ((with_reducible refine HS.out.mono ?_); rintro r w1 ⟨rfl,rfl⟩))
      | (go_at_call 67; ((with_reducible refine KT.out.mono ?_); rintro r w1 hk; have HS1 := Lib.hid (HSO.out _ _ _ hk); obtain ⟨rfl,hk1,hk2⟩ := hk); have HK1 := Lib.hid (HKF.out _ hk2); have HM1 := Lib.hid (HMB.out _ hk2); have HPG1 := Lib.hid (HPG.out.kept HK1.out HM1.out (not_KS (by decide))); have HBX1 := Lib.hid (HK1.out.cells HBX.out (not_KS (by decide))); have HTX1 := Lib.hid (HK1.out.cells HTX.out (not_KS (by decide))); clear hk1 hk2 c0 c1 d0 d1 d2))
    have HCL := Lib.hid (fun W' (g : Kfr (fun x => x = none) 0 w1 W') => (show W'.cell? ⟨t,1,none⟩ = some (.pointer (some ⟨x,0,none⟩))∧W'.cell? ⟨x,2,none⟩ = some (.map (some mb)) from
      ⟨(cells2 (g.cells HTX1.out (by simp))).2.1,(cells3 (g.cells HBX1.out (by simp))).2.2⟩))
    have HSQ1 := Lib.hid ((HK1.out.own8 HSQ.out (not_KS (by decide)) : Own8 b0 w1 S (.slice ao S cc) b))
    have HME := Lib.hid HPG1.out.ek
    obtain ⟨V1,hown1,hsr1,h321,h81⟩ := HPG1.out
    have HOW1 := Lib.hid hown1
    clear hown1
    go_region_held3 (fun w' => w'.cell? ⟨t,1,none⟩ = some (.pointer (some ⟨x,0,none⟩))∧w'.cell? ⟨x,2,none⟩ = some (.map (some mb)))
      (first | (with_reducible exact (HCL.out _ (Kfr.of (gdrew w1)))) | (with_reducible exact (HCL.out _ (Kfr.of HG2.out))) | (with_reducible exact (HCL.out _ HK3.out)))
      (first
        | (go_at_call 68; have K := clone_any w1.drew w1.heap.size (.slice ao S cc) b HSQ1.out.seq (Nat.le_refl _) (by rw [hbl]; omega); rw [hbl] at K; ((with_reducible refine K.mono ?_); clear K; rintro r w2 ⟨a2,c2,rfl,ho,hg⟩); have HO2 := Lib.hid ho; have HG2 := Lib.hid (gtrans (gdrew w1) hg); clear ho hg; obtain ⟨w3,hrun,hown3,hg3⟩ := World.ownsMap.update (HOW1.out.kept HG2.out (by simp)) lawP Tryz.underlying146 (by unfold maxLen; omega) (key := .int .u32 (p : Int)) (val := .slice a2 S c2) (keyP HP32.out) (show heldR (.slice a2 S c2) = some (.held (.slice a2 S c2),[]) from rfl); have HO3 := Lib.hid hown3; have HG3 := Lib.hid hg3; have HME2 := Lib.hid (show ek w2 mb = none by rw [ek_same (HG2.out.block mb HME.out.2 (by simp))]; exact HME.out.1); have HK3 := Lib.hid (Kfr.trans (Kfr.of (P := fun x => x = none) (B := 0) HG2.out) (Kfr.row hg3 (Nat.zero_le _) HME2.out)); have HK3B := Lib.hid (Kfr.trans (Kfr.of (P := fun x => x = none) (B := B) HG2.out) (Kfr.row hg3 h2 HME2.out)); clear hown3 hg3))
    go_wp2
    go_ret2
    have e3 := HO3.out
    rw [pgD_put] at e3
    refine ⟨by rw [HFT2.out]; rfl,?_,HK1.out.trans (HK3B.out.imp fun t e => .inl e)⟩
    rw [HFT2.out]
    exact ⟨hx0,Bs,mb,HK3.out.cells HBX1.out (by simp),h1,h2,h3,(HS1.out.kfr (Kfr.of (P := fun _ => False) (B := 0) HG2.out) (by simp) (by simp) (by simp) (by simp)).map HG3.out HME2.out h3,_,pg_tight e3,srt_ins hsr1,fun q hq => by
      rcases mem_ins.1 hq with e | e
      · rw [e]; exact HP32.out
      · exact h321 q e,fun q hq => by
      show Own8 0 w3 S (if q = p then _ else V1 q) (if q = p then b else T.C q)
      by_cases e : q = p
      · rw [if_pos e,if_pos e]
        exact (Kfr.row (P := fun x => x = none) (B := 0) HG3.out (Nat.zero_le _) HME2.out).own8 (own_base HO2.out (Nat.zero_le _)) (by simp)
      · rw [if_neg e,if_neg e]
        exact HK3.out.own8 (h81 q ((mem_ins.1 hq).resolve_left e)) (by simp)⟩
  · have hed2 : (e != 0) = true := by simpa using he
    have HFT2 := Lib.hid (HFT.out.trans (if_neg he))
    clear HFT
    go_enter Tryz.func19,Tryz.ntmps19
    go_wp2_with (first
      | (go_at_call 43; ((with_reducible refine HK.out.mono ?_); rintro r w1 ⟨rfl,rfl⟩))
      | (go_at_call 66; ((with_reducible refine HS.out.mono ?_); rintro r w1 ⟨rfl,rfl⟩))
      | (go_at_call 67; ((with_reducible refine KT.out.mono ?_); rintro r w1 hk; have HS1 := Lib.hid (HSO.out _ _ _ hk); obtain ⟨rfl,hk1,hk2⟩ := hk); have HK1 := Lib.hid (HKF.out _ hk2); have HM1 := Lib.hid (HMB.out _ hk2); have HPG1 := Lib.hid (HPG.out.kept HK1.out HM1.out (not_KS (by decide))); have HBX1 := Lib.hid (HK1.out.cells HBX.out (not_KS (by decide))); clear hk1 hk2))
    go_ret2
    refine ⟨by rw [HFT2.out]; rfl,?_,HK1.out⟩
    rw [HFT2.out]
    exact ⟨hx0,Bs,mb,HBX1.out,h1,h2,h3,HS1.out,HPG1.out⟩
end Go.Proofs.YtnnmpaenainogaaGreat

namespace Go.Proofs.YtnnmpaenainogaaGreat
open Go.RowKit Go.Maps
theorem RcOwns.rsqT {base : Nat} {w : World} {lv : Value} {es : List (Value × Rc)} (h : RcOwns base w lv es) : RSq (fun b => base≤b∧(ek w b = some 158∨ek w b = some 42)) w lv (es.map (·.2)) := by
  have hr := h.row
  rcases h.row.2 with ⟨hv,hn⟩ | ⟨q,cap,cur,hv,hb,hq,hnc,hcm,hcs,ht⟩
  · rw [List.eq_nil_of_length_eq_zero hn]
    rw [hv]; exact rsq_nil _ _
  · refine ⟨some ⟨q,0,none⟩,cap,by rw [hv]; simp,by simpa using hnc,hcm,fun hne => ⟨q,0,rfl,⟨hb,.inl (ek_of hq)⟩,fun i x hx => ?_⟩⟩
    rw [List.getElem?_map] at hx
    obtain ⟨y,hy,rfl⟩ := Option.map_eq_some_iff.1 hx
    obtain ⟨c0,c1⟩ := flat2 es i y hy
    obtain ⟨g1,g3⟩ := h.each y (List.mem_of_getElem? hy)
    have hc := hr.cells (g := q) (by rw [hv]; rfl)
    rw [Nat.zero_add]
    have ht := own_tag g1.1
    refine ⟨?_,g3,y.1,?_,(PSq.owned g1.1 g1.2).imp fun b e _ => ⟨e.1,.inr (ek_tag (ht b e.2).2.2)⟩⟩
    · have := hc _ _ c0; rwa [Addr.add_lit,Nat.zero_add] at this
    · have := hc _ _ c1; rwa [Addr.add_lit,Nat.zero_add] at this
theorem nw_ok {B en lim old : Nat} {w : World} {l : List Rc} {wv : Value} {es : List (Value × Rc)} (h : NwAt B w en lim old l wv es) : SpOk B w (spOf en lim old l) := by
  have hr := h.rows.rsqT
  rw [h.same] at hr
  exact ⟨fun b => ek w b = some 158∨ek w b = some 42,⟨wv,h.fiv,hr⟩,fun b hb => hb⟩
theorem spok_pos {B : Nat} {w : World} {M : Sp} (h : SpOk B w M) : B + 5≤w.heap.size := by
  obtain ⟨H,⟨wv,hf,_⟩,_⟩ := h
  exact hf.lt
theorem five_blocks {w w1 : World} {a b c : Obj} (h : w1 = ((w.alloc a).alloc b).alloc c) : w1.heap[w.heap.size]? = some a∧w1.heap[w.heap.size + 1]? = some b∧w1.heap[w.heap.size + 2]? = some c∧w.grownBy w1 none := by
  subst h
  have e : ((w.alloc a).alloc b).heap.size = w.heap.size + 2 := by simp
  have k := lit_block ((w.alloc a).alloc b) c
  rw [e] at k
  exact ⟨keep_alloc1 (two_lit0 _ _ _) _,keep_alloc1 (two_lit1 _ _ _) _,k,gtrans (two_grown _ _ _) (World.grownBy_alloc _ _ _)⟩
set_option maxHeartbeats 1000000 in
theorem begin_stuck {B f d : Nat} {w : World} {F : FV} (h : FileAt B w f d F) (hs : F.st = true) (o : Int) : Calls Tryz.prog 17 #[.pointer (some ⟨f,0,none⟩),.int .u64 o] w fun r w' => r = .returned (.tuple #[.pointer none,.int .i64 34])∧w = w' := by
  obtain ⟨hB,pa,pc,la,lc,hb,_⟩ := h
  obtain ⟨c0,c1,c2,c3,c4,c5,c6,c7⟩ := fcells8 hb
  rw [hs] at c7
  clear hb
  go_enter Tryz.func17,Tryz.ntmps17
  go_wp2
  go_ret2
  exact ⟨rfl,rfl⟩
def BeginR (B : Nat) (w : World) (f S : Nat) (T : TV) (r : Ending) (w' : World) : Prop := ∃ t x,r = .returned (.tuple #[.pointer (some ⟨t,0,none⟩),.int .i64 0])∧TxnAt B w' t f (some x)∧DraftAt B w' x S T∧w.grownBy w' none
set_option maxRecDepth 20000 in
set_option maxHeartbeats 8000000 in
theorem begin_any {B B2 f d o : Nat} {w : World} {F : FV} {M : SM} (h : FileAt B w f d F) (hd : PD B2 w d M) (hs : F.st = false) (hps : F.ps.length≤100000) (ht : 1≤F.mt.t) (ht2 : F.mt.t < 18446744073709551615) (ho : o < 18446744073709551616) (he : 2≤F.mt.e) (he2 : F.mt.e≤M.limit) (hl : M.limit≤65536) (hr : right (gatherL F.ps) F.mt.e = true) (S : Nat) (C : Nat→List Int) (x : Int) (hx : x = (o : Int)) :
    Calls Tryz.prog 17 #[.pointer (some ⟨f,0,none⟩),.int .u64 x] w fun r w' => BeginR w.heap.size w f S ⟨F.mt.t + 1,spOf F.mt.e M.limit (min o (F.mt.t - 1)) (gatherL F.ps),[],C⟩ r w' := by
  subst hx
  have HREC := Lib.hid (fun W (g : w.grownBy W none) => frecords_any (h.new g) hps)
  have HLIM := Lib.hid (fun W (g : w.grownBy W none) => (hd.new g).dlimit)
  obtain ⟨old,hold⟩ : ∃ old,old = min o (F.mt.t - 1) := ⟨_,rfl⟩
  have HNEW := Lib.hid (fun W R ao n c (k : RSq R W (.slice ao n c) (gatherL F.ps)) => snew_good W R ao n c F.mt.e M.limit old (gatherL F.ps) k he he2 hl hr (by omega))
  have HMIN := Lib.hid (show min (o : Int) ((F.mt.t - 1 : Nat) : Int) = (old : Int) by omega)
  rw [← hold]
  obtain ⟨hB,pa,pc,la,lc,hb,_⟩ := h
  generalize gatherL F.ps = rs at HREC HNEW ⊢
  obtain ⟨mt,ps,ls,st⟩ := F
  obtain ⟨T,e,m,fr⟩ := mt
  simp only at hs ht ht2 he he2 HREC HNEW HMIN
  have HB := Lib.hid hb
  obtain ⟨c0,c1,c2,c3,c4,c5,c6,c7⟩ := fcells8 hb
  simp only [hs] at c7
  have HT1 := Lib.hid (show (T : Int) - 1 = ((T - 1 : Nat) : Int) by omega)
  have HT2 := Lib.hid (show IntKind.u64.wrap ((T - 1 : Nat) : Int) = ((T - 1 : Nat) : Int) from IntWalk.u64_in _ ⟨by omega,by omega⟩)
  have HTX := Lib.hid (show IntKind.u64.wrap ((T : Int) + 1) = ((T + 1 : Nat) : Int) from IntWalk.u64_in _ ⟨by omega,by omega⟩)
  have HLW := Lib.hid (show IntKind.u32.wrap (M.limit : Int) = (M.limit : Int) from IntWalk.u32_in _ ⟨by omega,by omega⟩)
  clear hb hd hold hr ho he he2 hps
  have hmm := @run_makeMap Tryz.prog
  go_enter Tryz.func17,Tryz.ntmps17
  go_wp2
  have hm0 := lit_block w (.cells #[.int .u64 (T : Int),.int .u32 (e : Int),.int .u32 (m : Int),.int .u32 (fr : Int)] 44)
  have hg0 : w.grownBy (w.alloc (.cells #[.int .u64 (T : Int),.int .u32 (e : Int),.int .u32 (m : Int),.int .u32 (fr : Int)] 44)) none := World.grownBy_alloc _ _ _
  generalize w.alloc (.cells #[.int .u64 (T : Int),.int .u32 (e : Int),.int .u32 (m : Int),.int .u32 (fr : Int)] 44) = W at hm0 hg0 ⊢
  have HG0 := Lib.hid hg0
  have HCL := Lib.hid (fun W' (g : W.grownBy W' none) => (show W'.cell? ⟨w.heap.size,0,none⟩ = some (.int .u64 (T : Int))∧W'.cell? ⟨w.heap.size,1,none⟩ = some (.int .u32 (e : Int))∧W'.cell? ⟨f,0,none⟩ = some (.pointer (some ⟨d,0,none⟩)) from
    ⟨(mt_cells ((g.block _ (lt_of_block hm0) (by simp)).trans hm0)).1,(mt_cells ((g.block _ (lt_of_block hm0) (by simp)).trans hm0)).2.1,(fcells8 (((gtrans hg0 g).block _ (lt_of_block HB.out) (by simp)).trans HB.out)).1⟩))
  clear hm0 hg0 c0 c1 c2 c3 c4 c5 c6 c7
  have HTW := Lib.hid (show IntKind.u64.wrap ((T : Int) - 1) = ((T - 1 : Nat) : Int) by rw [HT1.out]; exact HT2.out)
  go_region_held3 (fun W' => W'.cell? ⟨w.heap.size,0,none⟩ = some (.int .u64 (T : Int))∧W'.cell? ⟨w.heap.size,1,none⟩ = some (.int .u32 (e : Int))∧W'.cell? ⟨f,0,none⟩ = some (.pointer (some ⟨d,0,none⟩)))
    (first | (with_reducible exact (HCL.out _ (gdrew W))) | (with_reducible exact (HCL.out _ HG3.out)) | (with_reducible exact (HCL.out _ HG4.out)))
    (first
      | (go_at_call 65; ((with_reducible refine (HLIM.out _ (gtrans HG0.out (gdrew W))).mono ?_); rintro r w2 ⟨rfl,rfl⟩))
      | (go_at_call 37; ((with_reducible refine (HREC.out _ (gtrans HG0.out (gdrew W))).mono ?_); rintro r w3 ⟨v,es,rfl,ho,he,hg⟩); have HG3 := Lib.hid (gtrans (gdrew W) hg); have hrs := ho.rsq; rw [he] at hrs; obtain ⟨a3,c3,e3⟩ := hrs.shape; subst e3; have HO3 := Lib.hid hrs; clear ho he hg hrs)
      | (go_at_call 64; rw [HTW.out,HLW.out,HMIN.out]; ((with_reducible refine (HNEW.out w3 _ _ _ _ HO3.out).mono ?_); rintro r w4 ⟨Bs,wv,es4,rfl,hb4,hn4,hg4⟩); have HG4 := Lib.hid (gtrans HG3.out hg4); have HB4 := Lib.hid (Nat.le_trans HG3.out.size hb4); have HN4 := Lib.hid (nw_ok hn4); clear hb4 hn4 hg4))
  all_goals
    have hT9 := HTX.out
    obtain ⟨q0,q1,q2⟩ := HCL.out _ HG4.out
    have hmm := @run_makeMap Tryz.prog
    go_wp2
    go_ret2
    clear hmm
    obtain ⟨k0,k1,k2,kg⟩ := five_blocks (w := w4) rfl (a := .map #[] 0) (b := .cells #[.int .u64 ((T + 1 : Nat) : Int),.pointer (some ⟨Bs + 4,0,none⟩),.map (some w4.heap.size)] 148) (c := .cells #[.pointer (some ⟨f,0,none⟩),.pointer (some ⟨w4.heap.size + 1,0,none⟩)] 150)
    have hps := pgs_made w4 S C
    have kk : (w4.alloc (.map #[] 0)).grownBy (((w4.alloc (.map #[] 0)).alloc (.cells #[.int .u64 ((T + 1 : Nat) : Int),.pointer (some ⟨Bs + 4,0,none⟩),.map (some w4.heap.size)] 148)).alloc (.cells #[.pointer (some ⟨f,0,none⟩),.pointer (some ⟨w4.heap.size + 1,0,none⟩)] 150)) none := two_grown _ _ _
    have hpp := spok_pos HN4.out
    have hb4 := HB4.out
    have hgs := HG0.out.size
    exact ⟨w4.heap.size + 2,w4.heap.size + 1,rfl,⟨by omega,k2⟩,⟨by omega,Bs,w4.heap.size,k1,by omega,by omega,.inr hpp,HN4.out.kfr (Kfr.of (P := fun _ => False) (B := 0) kg) (by simp) (by simp) (by simp) (by simp),hps.kfr (Kfr.of (P := fun _ => False) (B := 0) kk) (by simp) (by simp)⟩,gtrans (gtrans HG0.out HG4.out) kg⟩
end Go.Proofs.YtnnmpaenainogaaGreat

namespace Go.Proofs.YtnnmpaenainogaaGreat
open Go.RowKit Go.Shelf Go.Maps
attribute [local go_sem] Oper.semAt_some
def KsAt (w : World) (b : Nat) (L : List Nat) (V : Nat→Value) : Prop := w.ownsMap Tryz.prog 42 heldR b L.length (pgD L V)∧Srt L∧∀ p∈L,p < 4294967296
theorem KsAt.lt {w : World} {b : Nat} {L : List Nat} {V : Nat→Value} (h : KsAt w b L V) : b < w.heap.size := by
  obtain ⟨⟨es,clock,hb,_⟩,_⟩ := h
  exact (Array.getElem?_eq_some_iff.1 hb).1
theorem KsAt.kept {w w' : World} {b : Nat} {L : List Nat} {V : Nat→Value} (h : KsAt w b L V) (k : w'.heap[b]? = w.heap[b]?) : KsAt w' b L V := by
  obtain ⟨⟨es,clock,hb,F,hs,hD⟩,h2⟩ := h
  exact ⟨⟨es,clock,k.trans hb,F,hs,hD⟩,h2⟩
theorem KsAt.grown {w w' : World} {b : Nat} {L : List Nat} {V : Nat→Value} (h : KsAt w b L V) (k : w.grownBy w' none) : KsAt w' b L V := h.kept (k.block b h.lt (by simp))
theorem comeM_start (L : List Nat) (V : Nat→Value) : Come L (Maps.has (pgD L V)) [] := ⟨List.nodup_nil,fun x => by rw [has_pgD]; simp⟩
set_option maxHeartbeats 1000000 in
theorem mkeys_any (w : World) (mb : Option Nat) : Calls Tryz.prog 178 #[.map mb] w fun r w' => r = .returned (.func (.func 219) #[] #[.pointer (some ⟨w.heap.size,0,none⟩)])∧w' = w.alloc (.cells #[.map mb] 146) := by
  go_enter Tryz.func178,Tryz.ntmps178
  go_wp2
  go_ret
  exact ⟨rfl,rfl⟩
set_option maxRecDepth 100000 in
set_option maxHeartbeats 2000000 in
theorem mkeys1_in (n : Nat) (hn : 1≤n) (l Bm b : Nat) (L : List Nat) (V : Nat→Value) (J Jx : List Nat→World→Prop)
    (hY : ∀ pre x W,J pre W→pre.length < L.length→YieldAt Fence.wide (n - 1) Tryz.prog l #[encP x] W fun e W' =>
      (e = .returned (.bool true)∧J (pre++[x]) W'∧KeepsWalks W W')∨(e = .returned (.bool false)∧Jx (pre++[x]) W'))
    (W : World) (hJ : AbidesFrom W.heap.size J) (hm : W.cell? ⟨Bm,0,none⟩ = some (.map (some b))) (hS : KsAt W b L V) (h0 : J [] W) :
    CallsIn Fence.wide n Tryz.prog 219 #[.func (.yield l) #[] #[],.pointer (some ⟨Bm,0,none⟩)] W fun e W' => (∃ v,e = .returned v) ∧
      ((∃ ss : List Nat,ss.Perm L∧J ss W')∨(∃ pre : List Nat,True∧Jx pre W')) := by
  have hown := hS.1
  refine callsIn_of_wp Tryz.func219 rfl trivial ?_ rfl
  simp only [Tryz.ntmps219,List.size_toArray,List.length_cons,List.length_nil,Nat.reduceAdd,Nat.reduceSub,Array.replicate_succ,Array.replicate_zero,List.push_toArray,List.append_toArray,List.nil_append,List.cons_append]
  gi_wp2_with (first
    | (gi_at_range; refine wpListIn_range_own _ rfl _ 146 rfl 42 32 lawP Tryz.underlying146 _ b L.length _ rfl hown ?_; intro w0 hrg0 hg0 hs0)
    | gi_in)
  go_frame
  gi_loopw [3] (fun _ wr => ∃ (left : Lit→Bool) (cnt : Nat) (ss : List Nat),wr.ranges Tryz.prog 42 (heldR) b W.heap.size L.length (pgD L V) left cnt∧ss.length + cnt≤L.length∧Come L left ss∧J ss wr)
    (fun _ wr => wr.rangeLeft b W.heap.size)
  case atStart =>
    exact ⟨_,_,[],hrg0,by rw [size_pgD]; simp,comeM_start L V,hJ [] W w0 none h0 hg0 (fun r e => by cases e)⟩
  case round =>
    obtain ⟨left,cnt,ss,hrg,hcs,hC,hJs⟩ := hrel
    gi_wp2_with (first
      | (gi_at_next; refine wpListIn_next_ranges _ rfl _ rfl 42 lawP (heldR) encP id (fun key kl hk => by obtain ⟨x,hx,_⟩ := key_u32 hk; exact ⟨x,hx⟩) (fun v _ _ => ⟨v,rfl⟩) b W.heap.size L.length _ _ _ rfl hrg ?_ ?_)
      | gi_in)
    · intro hc0 hl0
      gi_wp2
      go_end0
      exact ⟨⟨_,rfl⟩,.inl ⟨ss,hC.perm hS.2.1 hl0,hJs⟩⟩
    · intro x c kl yd yp w2 cnt2 hkey hlk hv hat hrg2 hlt hg2 hs2 hen
      obtain ⟨x',ex,rfl,_⟩ := key_u32 hkey
      obtain rfl : x = x' := encP_inj ex
      have hJ2 : J ss w2 := hJ ss wr w2 (some W.heap.size) hJs hg2 (fun r e => by cases e; exact ⟨Nat.le_refl _,hrg.iter_walk⟩)
      obtain ⟨fn,tmps,assign,body,hy,hR⟩ := hY ss x w2 hJ2 (by omega)
      have hxL : x∈L := by
        have h1 := has_true_of_atKey hat
        rw [has_pgD] at h1
        simpa using h1
      have hC2 := hC.step hlk hxL
      clear hs2
      gi_wp2
      refine hR.mono ?_
      rintro e W3 (⟨rfl,hJ3,hk3⟩ | ⟨rfl,hJx3⟩)
      · gi_wp2
        have hrg3 := hrg2.of_walks hk3
        go_roundw
        case rel => exact ⟨_,cnt2,ss++[x],hrg3,by simp; omega,hC2,hJ3⟩
        case measure => rw [hrg3.left_eq,hrg.left_eq]; exact hlt
      · gi_wp2
        refine bodyPost_ret (results_none rfl _ _ _) rfl ?_
        exact ⟨⟨_,rfl⟩,.inr ⟨ss++[x],trivial,hJx3⟩⟩
theorem mkeys_stops (n : Nat) (hn : 1≤n) (Bm b : Nat) (L : List Nat) (V : Nat→Value) (w : World) (hm : w.cell? ⟨Bm,0,none⟩ = some (.map (some b))) (hS : KsAt w b L V) :
    SeqStopsK Fence.wide n Tryz.prog 219 #[.pointer (some ⟨Bm,0,none⟩)] (fun x : Nat => #[encP x]) KeepsWalks (fun ss => ss.Perm L) (fun _ => True) L.length w := fun l J Jx W hW hJ _ hY h0 =>
  mkeys1_in n hn l Bm b L V J Jx hY W hJ ((hW.cell (p := ⟨Bm,0,none⟩) (World.block_lt_of_cell? _ _ hm)).trans hm) (hS.kept (hW.block b hS.lt)) h0
set_option maxRecDepth 100000 in
set_option maxHeartbeats 4000000 in
theorem mappendSeq_any (w : World) (Bm b : Nat) (L : List Nat) (V : Nat→Value) (hm : w.cell? ⟨Bm,0,none⟩ = some (.map (some b))) (hS : KsAt w b L V) (hL : L.length≤100000) :
    Calls Tryz.prog 246 #[.slice none 0 0,.func (.func 219) #[] #[.pointer (some ⟨Bm,0,none⟩)]] w fun r w' => ∃ v ss,r = .returned v∧List.Perm ss L∧OwnP w.heap.size w' v ss∧w.grownBy w' none := by
  obtain ⟨i0,hi,hz0,hz1,hz2⟩ := info_parts infoPg
  have HSt := Lib.hid (mkeys_stops (5 - 1) (by decide) Bm b L V (w.alloc (.cells #[.slice none 0 0] 31)) (cell_alloc hm) (hS.grown (World.grownBy_alloc _ _ _)))
  have h32 := hS.2.2
  have H32 := Lib.hid h32
  have hb0 := heap_alloc_new w (.cells #[.slice none 0 0] 31 (0,0))
  have hB0 : Below w.heap.size w (w.alloc (.cells #[.slice none 0 0] 31)) := (Below.refl _ w).alloc (Nat.le_refl _) _
  have hsz : (w.alloc (.cells #[.slice none 0 0] 31)).heap.size = w.heap.size + 1 := by simp
  clear hm hS h32
  refine (callsIn_wide (n := 5)).1 ?_
  refine callsIn_of_wp_marks Tryz.func246 rfl trivial ?_ rfl
  simp only [Tryz.ntmps246,List.size_toArray,List.length_cons,List.length_nil,Nat.reduceAdd,Nat.reduceSub,Array.replicate_succ,Array.replicate_zero,List.push_toArray,List.append_toArray,List.nil_append,List.cons_append]
  gi_wp2
  generalize w.alloc (.cells #[.slice none 0 0] 31) = W0 at *
  obtain ⟨g,hg⟩ : ∃ g,g = w.heap.size := ⟨_,rfl⟩
  rw [← hg] at hb0 hsz hB0 ⊢
  have HG := Lib.hid hg
  clear hg
  refine wpIn_rangeFunc_ownG rfl (by decide : 1≤5) (gf := 219) (lb := #[.pointer (some ⟨Bm,0,none⟩)]) rfl trivial (enters_of Tryz.func219 (by kernel_rfl) rfl)
    HSt.out walksK_t walksK_b (Below.refl _ _) (fun _ => rfl)
    (fun pre W => (∃ v,Boxed W g 31 v∧W.ownsRow g 42 1 v pre.length (pre.map encP)∧g + 1≤W.heap.size)∧Below g w W)
    (fun _ _ _ => False)
    (OwnFrom.and (fun s X Y row ⟨v,hv,ho,hz⟩ hgy hr => ⟨v,hv.kept hgy (fun e => by obtain ⟨_,q,hq,hc⟩ := hr g e.symm; rw [show X.heap[g]? = _ from hv] at hq; cases hq; cases hc),ho.kept hgy (by
        rcases ho.2 with ⟨hv',_⟩ | ⟨g2,cap,cur,hv',_,hgb,_⟩
        · rw [hv']; exact .inl rfl
        · right
          rw [hv']
          intro e
          obtain ⟨_,q,hq,hc⟩ := hr g2 e.symm
          rw [hgb] at hq; cases hq; cases hc),Nat.le_trans hz hgy.size⟩) (ownFrom_below (by rw [HG.out]; exact Nat.le_refl _) (by omega)))
    (fun _ _ _ _ _ hs _ _ => hs)
    ⟨⟨.slice none 0 0,hb0,World.ownsRow_nil _ _ _ _,by omega⟩,hB0⟩
    (fun x => { tmps := #[.slice none 0 0,.func (.func 219) #[] #[.pointer (some ⟨Bm,0,none⟩)],.pointer (some ⟨g,0,none⟩),undef,.slice none 0 0,encP x,.func (.func 219) #[] #[.pointer (some ⟨Bm,0,none⟩)],encP x,undef,undef,undef,undef,undef],defers := [] }) ?assign ?body ?done ?stop
  case assign =>
    intro l x W K hK
    gi_wp2
    exact hK
  case body =>
    rintro l pre x W ⟨⟨v,hv,ho,hWz⟩,hBw⟩ hlt
    have hc0 := hv.cell
    have hpl : pre.length≤100000 := by omega
    gi_wp2_with (first
      | (gi_at_builtin; refine wpListIn_append_own _ rfl _ _ 31 rfl g 42 i0 (.int .u32 0) 1 4 Tryz.underlying31 hi hz0 hz1 hz2 rfl (by decide) _ _ _ rfl (ho.alloc _) ⟨W.heap.size,0,none⟩ 1 1 [encP x] rfl rfl (cell_one_new _ _ _) (by simp [Value.oneCell',encP]) (by unfold maxLen; omega) (by omega) (by simp; omega) ?_; intro v' w1 hown' hgrow _; obtain ⟨g',cap',rfl⟩ := ownsRow_succ hown'; obtain ⟨hv1,hv2,hr2,hk2,hb2⟩ := hv.appended (by decide) ho (by omega) (Nat.le_refl g) hown' hgrow; have hc1 := hv1.cell; have hf1 := hv1.frozen; clear hown' hgrow))
    exact ⟨hk2.from _,KeepsOthers.walks hk2,⟨⟨_,hv2,by simpa using hr2,by have := hk2.size; omega⟩,hBw.trans hb2⟩⟩
  case done =>
    rintro D ys W hD hperm ⟨⟨v,hv,ho,hWz⟩,hBw⟩ hK
    have hc := hv.cell
    have hgD : g≤D := by omega
    have hpo : (W.putObj D (.deferred none)).ownsRow g 42 1 v ys.length (ys.map encP) := ho.kept (grownBy_putObj' W D (.deferred none)) (by
      rcases ho.2 with ⟨hv',_⟩ | ⟨g2,cap,cur,hv',_,hgb,_⟩
      · rw [hv']; exact .inl rfl
      · right
        rw [hv']
        intro e
        have : g2 = D := by simpa [Value.ownBlock] using e
        subst this
        rw [hgb] at hK; cases hK)
    have hbl := hBw.trans (belowK_b (w := w) (by rw [HG.out]; exact Nat.le_refl _) W D _ (.deferred none) (by rw [← HG.out]; exact hgD) hK rfl rfl)
    rw [HG.out] at hbl hpo
    have hgr := gof hbl none
    gi_wp2
    refine ⟨by simp,.inl ⟨_,_,rfl,run_takeDeferred hK,?_⟩⟩
    exact ⟨_,results_tmp rfl _ _ _,v,ys,rfl,hperm,⟨hpo,fun p hp => H32.out p (hperm.mem_iff.1 hp)⟩,hgr⟩
  case stop =>
    rintro D c pre W _ _ h _
    exact h.elim
set_option maxHeartbeats 1000000 in
theorem mcollect_any (w : World) (Bm b : Nat) (L : List Nat) (V : Nat→Value) (hm : w.cell? ⟨Bm,0,none⟩ = some (.map (some b))) (hS : KsAt w b L V) (hL : L.length≤100000) :
    Calls Tryz.prog 217 #[.func (.func 219) #[] #[.pointer (some ⟨Bm,0,none⟩)]] w fun r w' => ∃ v ss,r = .returned v∧List.Perm ss L∧OwnP w.heap.size w' v ss∧w.grownBy w' none := by
  go_enter Tryz.func217,Tryz.ntmps217
  go_wp2_with (first
    | (go_at_call 246; (with_reducible refine (mappendSeq_any w Bm b L V hm hS hL).mono ?_); rintro r w1 ⟨v,ss,rfl,hp,ho,hg⟩; have HP := Lib.hid hp; have HO := Lib.hid ho; have HG := Lib.hid hg; clear hp ho hg))
  go_ret
  exact ⟨v,ss,rfl,HP.out,HO.out,HG.out⟩
set_option maxHeartbeats 1000000 in
theorem msorted_any (N : Nat) (hN : SortOk N) (hN9 : N≤100000) (w : World) (Bm b : Nat) (L : List Nat) (V : Nat→Value) (hm : w.cell? ⟨Bm,0,none⟩ = some (.map (some b))) (hS : KsAt w b L V) (hL : L.length≤N) (h0 : L≠[]) :
    Calls Tryz.prog 177 #[.func (.func 219) #[] #[.pointer (some ⟨Bm,0,none⟩)]] w fun r w' => ∃ a c,r = .returned (.slice a L.length c)∧OwnP w.heap.size w' (.slice a L.length c) L∧w.grownBy w' none := by
  have hsr := hS.2.1
  have h32 := hS.2.2
  have hpos := List.length_pos_iff.2 h0
  go_enter Tryz.func177,Tryz.ntmps177
  go_wp2_with (first
    | (go_at_call 217; (with_reducible refine (mcollect_any w Bm b L V hm hS (Nat.le_trans hL hN9)).mono ?_); rintro r w1 ⟨v,ss,rfl,hp,ho,hg⟩; have hl := hp.length_eq; have K := hN w1 w.heap.size ss.length v ss L ho.1 hp hsr (by omega) (by omega); obtain ⟨a1,c1,rfl⟩ := own_shape ho.1; have HG := Lib.hid hg; have HK := Lib.hid K; have HL := Lib.hid hl; have HO := Lib.hid ho; clear hp ho hg K hl)
    | (go_at_call 218; refine HK.out.mono ?_; rintro r w2 ⟨rfl,h2,hg2⟩; have H2 := Lib.hid h2; have HG2 := Lib.hid hg2; clear h2 hg2))
  go_ret
  refine ⟨a1,c1,by rw [← HL.out]; rfl,⟨by rw [← HL.out]; exact H2.out,h32⟩,grow_own HG.out HO.out.1 HG2.out (Nat.le_refl _)⟩
end Go.Proofs.YtnnmpaenainogaaGreat

/-
  Layer 11: what kind a block is of, what a call leaves as it was by kinds, and the disk as the pager asks it. Own work.
-/
import Derived.Test.YtnnmpaenainogaaGreatPrnAW
import Derived.Test.YtnnmpaenainogaaGreatPrnAL

set_option linter.unusedVariables false
set_option linter.unusedSimpArgs false
namespace Go.Proofs.YtnnmpaenainogaaGreat
open Go.RowKit Go.Maps
def ek (w : World) (k : Nat) : Option TypeId := match w.heap[k]? with
  | some (.cells _ t _) => some t
  | _ => none
theorem ek_of {w : World} {k : Nat} {cs : Array Value} {t : TypeId} {f : Nat × Nat} (h : w.heap[k]? = some (.cells cs t f)) : ek w k = some t := by simp [ek,h]
theorem ek_tag {w : World} {k : Nat} {t : TypeId} (h : TagIs w k t) : ek w k = some t := by obtain ⟨cs,f,h⟩ := h; exact ek_of h
theorem ek_lt {w : World} {k : Nat} {t : TypeId} (h : ek w k = some t) : k < w.heap.size := by
  unfold ek at h
  cases e : w.heap[k]? with
  | none => simp [e] at h
  | some o => exact lt_of_block e
theorem ek_same {w w' : World} {k : Nat} (h : w'.heap[k]? = w.heap[k]?) : ek w' k = ek w k := by simp [ek,h]
theorem ek_map {w : World} {k : Nat} {es : Array MapEntry} {c : Nat} (h : w.heap[k]? = some (.map es c)) : ek w k = none := by simp [ek,h]
structure Kfr (P : Option TypeId→Prop) (B : Nat) (w w' : World) : Prop where
  os : w'.os = w.os
  tape : w'.tape = w.tape
  output : w'.output = w.output
  size : w.heap.size≤w'.heap.size
  block : ∀ k,k < w.heap.size→(k < B∨¬ P (ek w k))→w'.heap[k]? = w.heap[k]?
section
variable {P Q : Option TypeId→Prop} {B : Nat} {a b c w w' : World}
theorem Kfr.refl (P : Option TypeId→Prop) (B : Nat) (w : World) : Kfr P B w w := ⟨rfl,rfl,rfl,Nat.le_refl _,fun _ _ _ => rfl⟩
theorem Kfr.trans (h : Kfr P B a b) (k : Kfr P B b c) : Kfr P B a c := by
  refine ⟨k.os.trans h.os,k.tape.trans h.tape,k.output.trans h.output,Nat.le_trans h.size k.size,fun i hi hp => ?_⟩
  have e := h.block i hi hp
  exact (k.block i (Nat.lt_of_lt_of_le hi h.size) (hp.imp id fun n => by rw [ek_same e]; exact n)).trans e
theorem Kfr.mono {B' : Nat} (h : Kfr P B w w') (k : B'≤B) : Kfr P B' w w' := ⟨h.os,h.tape,h.output,h.size,fun i hi hp => h.block i hi (hp.imp (fun x => by omega) id)⟩
theorem Kfr.imp (h : Kfr P B w w') (k : ∀ t,P t→Q t) : Kfr Q B w w' := ⟨h.os,h.tape,h.output,h.size,fun i hi hp => h.block i hi (hp.imp id fun n x => n (k _ x))⟩
theorem Kfr.of (h : w.grownBy w' none) : Kfr P B w w' := ⟨h.os,h.tape,h.output,h.size,fun i hi _ => h.block i hi (by simp)⟩
theorem Kfr.row {r : Nat} (h : w.grownBy w' (some r)) (hB : B≤r) (hp : P (ek w r)) : Kfr P B w w' := ⟨h.os,h.tape,h.output,h.size,fun i hi hn => h.block i hi (by
  intro e; injection e with e; subst e
  exact hn.elim (fun x => absurd hB (by omega)) (fun x => x hp))⟩
theorem Kfr.below (h : Kfr P B w w') (hB : B≤w.heap.size) : Below B w w' := ⟨h.os,h.tape,h.output,h.size,fun k hk => h.block k (by omega) (.inl hk)⟩
theorem Kfr.ek {k : Nat} (h : Kfr P B w w') (hk : k < w.heap.size) (hp : k < B∨¬ P (ek w k)) : Proofs.YtnnmpaenainogaaGreat.ek w' k = Proofs.YtnnmpaenainogaaGreat.ek w k := ek_same (h.block k hk hp)
theorem Kfr.own {base size n : Nat} {e : TypeId} {v : Value} {xs : List Value} (hd : Kfr P B w w') (h : w.ownsRow base e size v n xs) (ht : ¬ P (some e)) : w'.ownsRow base e size v n xs := by
  refine ⟨h.1,?_⟩
  rcases h.2 with hn | ⟨g,cap,cur,rfl,hb,hgg,rest⟩
  · exact .inl hn
  · exact .inr ⟨g,cap,cur,rfl,hb,(hd.block g (lt_of_block hgg) (.inr (by rw [ek_of hgg]; exact ht))).trans hgg,rest⟩
theorem Kfr.own8 {base n : Nat} {v : Value} {bs : List Int} (hd : Kfr P B w w') (h : Own8 base w n v bs) (ht : ¬ P (some 5)) : Own8 base w' n v bs := hd.own h ht
theorem Kfr.cells {q : Nat} {cs : Array Value} {t : TypeId} {f : Nat × Nat} (hd : Kfr P B w w') (h : w.heap[q]? = some (.cells cs t f)) (ht : ¬ P (some t)) : w'.heap[q]? = some (.cells cs t f) := (hd.block q (lt_of_block h) (.inr (by rw [ek_of h]; exact ht))).trans h
end
def KD (t : Option TypeId) : Prop := t = some 129∨t = some 163∨t = some 160
theorem kfr_dfr {B : Nat} {w w' : World} (h : Dfr B w w') : Kfr KD B w w' := ⟨h.os,h.tape,h.output,h.size,fun k hk hp => h.block k hk (hp.imp id fun n hd => by
  obtain ⟨t,ht,e⟩ := hd
  apply n
  rw [ek_tag ht]
  rcases e with rfl | rfl | rfl
  · exact .inl rfl
  · exact .inr (.inl rfl)
  · exact .inr (.inr rfl))⟩
theorem not_KD {t : TypeId} (h : ¬ (t = 129∨t = 163∨t = 160)) : ¬ KD (some t) := by
  rintro (e | e | e) <;> (injection e with e; subst e; simp at h)
theorem Rws.kfr {P : Option TypeId→Prop} {B B' n : Nat} {w w' : World} {pv lv nv : Value} {ps : List PgV} {ls : List LoV} {once : Bool} (h : Rws B w n pv lv nv ps ls once) (hd : Kfr P B' w w') (h1 : ¬ P (some 163)) (h2 : ¬ P (some 160)) (h3 : ¬ P (some 5)) : Rws B w' n pv lv nv ps ls once where
  pown := hd.own h.pown h1
  pall := fun y hy => ⟨hd.own8 (h.pall y hy).1 h3,hd.own8 (h.pall y hy).2 h3⟩
  lown := hd.own h.lown h2
  lall := fun y hy => hd.own8 (h.lall y hy) h3
  nown := by
    have := h.nown
    split at this
    · rw [if_pos ‹_›]; exact hd.own8 this h3
    · rw [if_neg ‹_›]; exact this
def PD (B : Nat) (w : World) (d : Nat) (M : SM) : Prop := ∃ o,DskAt B w d { M with once := o }
theorem DskAt.pd {B d : Nat} {w : World} {M : SM} (h : DskAt B w d M) : PD B w d M := ⟨M.once,h⟩
theorem PD.kfr {P : Option TypeId→Prop} {B B' d : Nat} {w w' : World} {M : SM} (h : PD B w d M) (hd : Kfr P B' w w') (h0 : ¬ P (some 129)) (h1 : ¬ P (some 163)) (h2 : ¬ P (some 160)) (h3 : ¬ P (some 5)) : PD B w' d M := by
  obtain ⟨o,pv,lv,nv,ps,ls,hB,hb,hr,e1,e2⟩ := h
  exact ⟨o,pv,lv,nv,ps,ls,hB,hd.cells hb h0,hr.kfr hd h1 h2 h3,e1,e2⟩
theorem PD.new {B d : Nat} {w w' : World} {M : SM} (h : PD B w d M) (hg : w.grownBy w' none) : PD B w' d M := by
  obtain ⟨o,h⟩ := h
  exact ⟨o,h.new hg⟩
theorem PD.lt {B d : Nat} {w : World} {M : SM} (h : PD B w d M) : d < w.heap.size∧B≤d := by
  obtain ⟨o,h⟩ := h
  exact ⟨h.lt,by obtain ⟨_,_,_,_,_,hB,_⟩ := h; exact hB⟩
theorem PD.dlen {B d : Nat} {w : World} {M : SM} (h : PD B w d M) : Calls Tryz.prog 38 #[.pointer (some ⟨d,0,none⟩)] w fun r w' => r = .returned (.int .i64 (M.pg.length : Int))∧w = w' := by
  obtain ⟨o,h⟩ := h
  obtain ⟨ao,c,hc⟩ := h.len
  exact dlen_any w d ao M.pg.length c hc
theorem PD.dsize {B d : Nat} {w : World} {M : SM} (h : PD B w d M) : Calls Tryz.prog 88 #[.pointer (some ⟨d,0,none⟩)] w fun r w' => r = .returned (.int .i64 (M.size : Int))∧w = w' := by
  obtain ⟨o,h⟩ := h
  exact size_any w d _ h.lim.1
theorem PD.dlimit {B d : Nat} {w : World} {M : SM} (h : PD B w d M) : Calls Tryz.prog 65 #[.pointer (some ⟨d,0,none⟩)] w fun r w' => r = .returned (.int .i64 (M.limit : Int))∧w = w' := by
  obtain ⟨o,h⟩ := h
  exact limit_any w d _ h.lim.2.1
theorem Dfr.nset {B q : Nat} {w w' : World} (h : Dfr B w w') (hq : w.heap.size≤q) (j : Nat) (u : Value) : Dfr B w (w'.setCell ⟨q,j,none⟩ u) :=
  ⟨h.os,h.tape,h.output,by rw [World.size_setCell]; exact h.size,fun k hk hp => (Below.heap_setCell _ _ _ _ (show k≠q by omega)).trans (h.block k hk hp)⟩
theorem Kfr.nset {P : Option TypeId→Prop} {B q : Nat} {w w' : World} (h : Kfr P B w w') (hq : w.heap.size≤q) (j : Nat) (u : Value) : Kfr P B w (w'.setCell ⟨q,j,none⟩ u) :=
  ⟨h.os,h.tape,h.output,by rw [World.size_setCell]; exact h.size,fun k hk hp => (Below.heap_setCell _ _ _ _ (show k≠q by omega)).trans (h.block k hk hp)⟩
theorem kfr_set {w : World} {q : Nat} {cs : Array Value} {t : TypeId} {f : Nat × Nat} (h : w.heap[q]? = some (.cells cs t f)) (j : Nat) (u : Value) : Kfr (fun x => x = some t) 0 w (w.setCell ⟨q,j,none⟩ u) :=
  Kfr.row (gset w ⟨q,j,none⟩ u) (Nat.zero_le _) (ek_of h)
theorem PD.set4 {B d q : Nat} {w : World} {M : SM} {x0 x1 x2 x3 : Value} (h : PD B w d M) (hq : w.heap[q]? = some (.cells #[x0,x1,x2,x3] 44 (0,0))) (a b c e : Value) : PD B ((((w.setCell ⟨q,0,none⟩ a).setCell ⟨q,1,none⟩ b).setCell ⟨q,2,none⟩ c).setCell ⟨q,3,none⟩ e) d M := by
  have h1 : _ = some (Obj.cells #[a,x1,x2,x3] 44 (0,0)) := heap_setCell_same _ q 0 _ 44 a hq
  have h2 : _ = some (Obj.cells #[a,b,x2,x3] 44 (0,0)) := heap_setCell_same _ q 1 _ 44 b h1
  have h3 : _ = some (Obj.cells #[a,b,c,x3] 44 (0,0)) := heap_setCell_same _ q 2 _ 44 c h2
  have k := (((kfr_set hq 0 a).trans (kfr_set h1 1 b)).trans (kfr_set h2 2 c)).trans (kfr_set h3 3 e)
  exact h.kfr k (by simp) (by simp) (by simp) (by simp)
theorem Dfr.set4 {B q : Nat} {w w' : World} (h : Dfr B w w') (hq : w.heap.size≤q) (a b c e : Value) : Dfr B w ((((w'.setCell ⟨q,0,none⟩ a).setCell ⟨q,1,none⟩ b).setCell ⟨q,2,none⟩ c).setCell ⟨q,3,none⟩ e) := (((h.nset hq 0 a).nset hq 1 b).nset hq 2 c).nset hq 3 e
def deE (e : Int) : Int := if e = 0∨e = 20∨e = 21 then e else 24
set_option maxHeartbeats 400000 in
theorem diskError_any (e : Int) (w : World) : Calls Tryz.prog 60 #[.int .i64 e] w fun r w' => r = .returned (.int .i64 (deE e))∧w = w' := by
  by_cases h0 : e = 0
  · subst h0
    go_enter Tryz.func60,Tryz.ntmps60
    go_wp2
    go_ret
    exact ⟨rfl,rfl⟩
  · by_cases h1 : e = 20
    · subst h1
      go_enter Tryz.func60,Tryz.ntmps60
      go_wp2
      go_ret
      exact ⟨rfl,rfl⟩
    · by_cases h2 : e = 21
      · subst h2
        go_enter Tryz.func60,Tryz.ntmps60
        go_wp2
        go_ret
        exact ⟨rfl,rfl⟩
      · have hd : Hid (deE e = 24) := Lib.hid (by unfold deE; rw [if_neg (by omega)])
        have b0 : (e == 0) = false := by simpa using h0
        have b1 : (e == 20) = false := by simpa using h1
        have b2 : (e == 21) = false := by simpa using h2
        rw [hd.out]
        go_enter Tryz.func60,Tryz.ntmps60
        go_wp2
        go_ret
        exact ⟨rfl,rfl⟩
theorem diskError_as (e x : Int) (h : deE e = x) (w : World) : Calls Tryz.prog 60 #[.int .i64 e] w fun r w' => r = .returned (.int .i64 x)∧w = w' := h ▸ diskError_any e w
set_option maxHeartbeats 1000000 in
theorem readPage_ok {B d i : Nat} {w : World} {M : SM} (h : PD B w d M) (hF : Fine M) (hi : i < M.pg.length) (hn : M.size≤4096) (h0 : cE M.fails M.ahead = 0) (x : Int) (hx : x = (i : Int)) :
    Calls Tryz.prog 89 #[.pointer (some ⟨d,0,none⟩),.int .i64 x] w fun r w' => ∃ ao c,r = .returned (.tuple #[.slice ao M.size c,.int .i64 0])∧PD B w' d (cntM M)∧Own8 w.heap.size w' M.size (.slice ao M.size c) (lastM M i)∧Dfr B w w' := by
  subst hx
  obtain ⟨o,h⟩ := h
  have K := DskAt.readN (n := M.size) h rfl hF hi hn h0
  have HK : Hid (Calls Tryz.prog 127 #[.pointer (some ⟨d,0,none⟩),.int .i64 (i : Int)] w fun r w' => ∃ ao c,r = .returned (.tuple #[.slice ao M.size c,.int .i64 0])∧PD B w' d (cntM M)∧Own8 w.heap.size w' M.size (.slice ao M.size c) (lastM M i)∧Dfr B w w') := Lib.hid (K.mono fun r w' ⟨wc,ao,c,e,hd,hz,hf,hg,ho⟩ => ⟨ao,c,e,⟨o,hd.new hg⟩,by rw [hz] at ho; exact ho,hf.trans (dfr_new (B := B) hg)⟩)
  clear K h
  go_enter Tryz.func89,Tryz.ntmps89
  go_wp2_with (first
    | (go_at_call 127; ((with_reducible refine (HK.out).mono ?_)); clear HK; rintro e w1 ⟨ao,c,rfl,hd,ho,hf⟩; have HD := Lib.hid hd; have HO := Lib.hid ho; have HG := Lib.hid hf; clear hd hf ho)
    | (go_at_call 60; ((with_reducible refine (diskError_as 0 0 (by decide) _).mono ?_)); rintro e w2 ⟨rfl,rfl⟩))
  go_ret2
  exact ⟨ao,c,rfl,HD.out,HO.out,HG.out⟩
end Go.Proofs.YtnnmpaenainogaaGreat

/-
  Layer 11: a file as it lies, and what is asked of it. Own work.
-/
import Derived.Test.YtnnmpaenainogaaGreatPrnBF
import Derived.Test.YtnnmpaenainogaaGreatPrnAR
import Derived.Test.YtnnmpaenainogaaGreatPrnAP

set_option linter.unusedVariables false
set_option linter.unusedSimpArgs false
namespace Go.Proofs.YtnnmpaenainogaaGreat
open Go.RowKit Go.Maps
def PrT (w : World) (v : Value) (ps : List Pr) : Prop := PrSq (fun b => ek w b = some 304) w v ps
def PgT (w : World) (v : Value) (ls : List Nat) : Prop := PSq (fun b => ek w b = some 42) w v ls
theorem PrT.kfr {P : Option TypeId→Prop} {B : Nat} {w w' : World} {v : Value} {ps : List Pr} (h : PrT w v ps) (k : Kfr P B w w') (hp : ¬ P (some 304)) : PrT w' v ps := by
  have h1 := PrSq.imp h (S := fun b => b < w.heap.size∧ek w b = some 304) fun b e hb => ⟨hb,e⟩
  have h2 := h1.kept (w' := w') fun b e hb => k.block b hb (.inr (by rw [e.2]; exact hp))
  exact h2.imp fun b e _ => by rw [k.ek e.1 (.inr (by rw [e.2]; exact hp))]; exact e.2
theorem PgT.kfr {P : Option TypeId→Prop} {B : Nat} {w w' : World} {v : Value} {ls : List Nat} (h : PgT w v ls) (k : Kfr P B w w') (hp : ¬ P (some 42)) : PgT w' v ls := by
  have h1 := PSq.imp h (S := fun b => b < w.heap.size∧ek w b = some 42) fun b e hb => ⟨hb,e⟩
  have h2 := h1.kept (w' := w') fun b e hb => k.block b hb (.inr (by rw [e.2]; exact hp))
  exact h2.imp fun b e _ => by rw [k.ek e.1 (.inr (by rw [e.2]; exact hp))]; exact e.2
theorem POwn.prt {base : Nat} {w : World} {v : Value} {ps : List Pr} (h : POwn 304 base w v ps) : PrT w v ps := by
  have ht := own_tag h.1
  exact h.psq.imp fun b e _ => ek_tag (ht b e.2).2.2
theorem OwnP.pgt {base : Nat} {w : World} {v : Value} {ls : List Nat} (h : OwnP base w v ls) : PgT w v ls := by
  have ht := own_tag h.1
  exact (PSq.owned h.1 h.2).imp fun b e _ => ek_tag (ht b e.2).2.2
theorem prt_nil (w : World) : PrT w (.slice none 0 0) [] := prsq_nil _ _
theorem pgt_nil (w : World) : PgT w (.slice none 0 0) [] := psq_nil _ _
structure FV where
  mt : Mt
  ps : List Pr
  ls : List Nat
  st : Bool
abbrev fcells (d : Nat) (F : FV) (pv lv : Value) : Array Value := #[.pointer (some ⟨d,0,none⟩),.int .u64 (F.mt.t : Int),.int .u32 (F.mt.e : Int),.int .u32 (F.mt.m : Int),.int .u32 (F.mt.f : Int),pv,lv,.bool F.st]
def FileAt (B : Nat) (w : World) (f d : Nat) (F : FV) : Prop :=
  B≤f∧∃ pa pc la lc,w.heap[f]? = some (.cells (fcells d F (.slice pa F.ps.length pc) (.slice la F.ls.length lc)) 138 (0,0))∧PrT w (.slice pa F.ps.length pc) F.ps∧PgT w (.slice la F.ls.length lc) F.ls∧(F.ls = []→la = none∧lc = 0)
theorem FileAt.kfr {P : Option TypeId→Prop} {B B' f d : Nat} {w w' : World} {F : FV} (h : FileAt B w f d F) (k : Kfr P B' w w') (h1 : ¬ P (some 138)) (h2 : ¬ P (some 304)) (h3 : ¬ P (some 42)) : FileAt B w' f d F := by
  obtain ⟨hB,pa,pc,la,lc,hb,hp,hl,h0⟩ := h
  exact ⟨hB,pa,pc,la,lc,k.cells hb h1,hp.kfr k h2,hl.kfr k h3,h0⟩
theorem FileAt.new {B f d : Nat} {w w' : World} {F : FV} (h : FileAt B w f d F) (k : w.grownBy w' none) : FileAt B w' f d F := h.kfr (P := fun _ => False) (B' := 0) (Kfr.of k) (by simp) (by simp) (by simp)
theorem not_KD' {t : TypeId} (h : t≠129∧t≠163∧t≠160) : ¬ KD (some t) := not_KD fun e => e.elim h.1 (fun e => e.elim h.2.1 h.2.2)
theorem FileAt.dfr {B B' f d : Nat} {w w' : World} {F : FV} (h : FileAt B w f d F) (k : Dfr B' w w') : FileAt B w' f d F := h.kfr (kfr_dfr k) (not_KD' (by decide)) (not_KD' (by decide)) (not_KD' (by decide))
theorem FileAt.lt {B f d : Nat} {w : World} {F : FV} (h : FileAt B w f d F) : B≤f∧f < w.heap.size∧ek w f = some 138 := by
  obtain ⟨hB,pa,pc,la,lc,hb,_⟩ := h
  exact ⟨hB,lt_of_block hb,ek_of hb⟩
theorem fcells8 {w : World} {q : Nat} {a b c d e f g h : Value} {t : TypeId} (k : w.heap[q]? = some (.cells #[a,b,c,d,e,f,g,h] t (0,0))) :
    (w.cell? ⟨q,0,none⟩ = some a∧w.cell? ⟨q,1,none⟩ = some b∧w.cell? ⟨q,2,none⟩ = some c∧w.cell? ⟨q,3,none⟩ = some d∧w.cell? ⟨q,4,none⟩ = some e∧w.cell? ⟨q,5,none⟩ = some f∧w.cell? ⟨q,6,none⟩ = some g∧w.cell? ⟨q,7,none⟩ = some h) := by
  refine ⟨?_,?_,?_,?_,?_,?_,?_,?_⟩ <;> simp [World.cell?,k]
theorem results_M1 {fn : Func} {p : Tmp} (h : fn.results = #[.cell p 44]) (tmps : Array Value) (W : World) (q : Nat) (cs : Array Value) (hp : tmps.getD p undef = .pointer (some ⟨q,0,none⟩))
    (hq : W.heap[q]? = some (.cells cs 44 (0,0))) (hs : cs.size = 4) : (results fn tmps).run Tryz.prog W = .ok (.agg cs) W :=
  results_cell_row h tmps W q 44 cs (0,0) _ hp hq Tryz.underlying44 rfl (by rw [hs]; kernel_rfl)
set_option maxHeartbeats 1000000 in
theorem fmeta_any {B f d : Nat} {w : World} {F : FV} (h : FileAt B w f d F) : Calls Tryz.prog 18 #[.pointer (some ⟨f,0,none⟩)] w fun r w' => r = .returned (.agg (mtC F.mt))∧w.grownBy w' none := by
  obtain ⟨hB,pa,pc,la,lc,hb,_⟩ := h
  have HB := Lib.hid (keep_alloc1 hb (.cells #[.int .u64 0,.int .u32 0,.int .u32 0,.int .u32 0] 44))
  obtain ⟨mt,ps,ls,st⟩ := F
  obtain ⟨T,e,m,fr⟩ := mt
  obtain ⟨c0,c1,c2,c3,c4,c5,c6,c7⟩ := fcells8 HB.out
  clear hb
  go_enter Tryz.func18,Tryz.ntmps18
  go_wp2
  exact bodyPost_ret (results_M1 rfl _ _ w.heap.size _ rfl (lit_block w _) rfl) rfl ⟨rfl,World.grownBy_alloc _ _ _⟩
def FReadR (B : Nat) (w : World) (d : Nat) (M : SM) (F : FV) (p : Nat) (r : Ending) (w' : World) : Prop :=
  if 2≤p∧p < F.mt.e then ∃ ao c,r = .returned (.tuple #[.slice ao M.size c,.int .i64 0])∧PD B w' d (cntM M)∧Own8 w.heap.size w' M.size (.slice ao M.size c) (lastM M p)∧Dfr B w w'
  else r = .returned (.tuple #[.slice none 0 0,.int .i64 24])∧w = w'
set_option maxHeartbeats 1000000 in
theorem fread_any {B B' f d p : Nat} {w : World} {F : FV} {M : SM} (h : FileAt B' w f d F) (hd : PD B w d M) (hF : Fine M) (hn : M.size≤4096) (hf : M.fails = false) (hl : F.mt.e≤M.pg.length) (hp : p < 4294967296) (x : Int) (hx : x = (p : Int)) :
    Calls Tryz.prog 40 #[.pointer (some ⟨f,0,none⟩),.int .u32 x] w fun r w' => FReadR B w d M F p r w' := by
  subst hx
  obtain ⟨hB,pa,pc,la,lc,hb,_⟩ := h
  obtain ⟨c0,c1,c2,c3,c4,c5,c6,c7⟩ := fcells8 hb
  clear hb
  unfold FReadR
  by_cases h1 : 2≤p∧p < F.mt.e
  · simp only [if_pos h1]
    have K := Lib.hid (readPage_ok (i := p) hd hF (by omega) hn (calm_cE hf) (p : Int) rfl)
    obtain ⟨h1,h2⟩ := h1
    generalize cntM M = M1 at K ⊢
    generalize lastM M p = L at K ⊢
    clear hF hl hd hf
    go_enter Tryz.func40,Tryz.ntmps40
    go_wp2_with (first
      | (go_at_call 89; ((with_reducible refine K.out.mono ?_); rintro r w1 ⟨ao,c,rfl,hd,ho,hf⟩); have HD1 := Lib.hid hd; have HO1 := Lib.hid ho; have HF1 := Lib.hid hf; clear hd ho hf))
    go_ret2
    exact ⟨ao,c,rfl,HD1.out,HO1.out,HF1.out⟩
  · simp only [if_neg h1]
    clear hF hl hd hf
    by_cases h2 : 2≤p
    · have h3 : ¬ p < F.mt.e := fun e => h1 ⟨h2,e⟩
      clear h1
      go_enter Tryz.func40,Tryz.ntmps40
      go_wp2
      go_ret2
      exact ⟨rfl,rfl⟩
    · clear h1
      go_enter Tryz.func40,Tryz.ntmps40
      go_wp2
      go_ret2
      exact ⟨rfl,rfl⟩
set_option maxHeartbeats 1000000 in
theorem fstuck_any {B f d : Nat} {w : World} {F : FV} (h : FileAt B w f d F) : Calls Tryz.prog 29 #[.pointer (some ⟨f,0,none⟩)] w fun r w' => r = .returned (.bool F.st)∧w.grownBy w' none := by
  obtain ⟨hB,pa,pc,la,lc,hb,_⟩ := h
  obtain ⟨c0,c1,c2,c3,c4,c5,c6,c7⟩ := fcells8 hb
  clear hb
  go_enter Tryz.func29,Tryz.ntmps29
  go_wp2
  go_ret
  exact ⟨rfl,grefl _ _⟩
set_option maxHeartbeats 1000000 in
theorem fsize_any {B B' f d : Nat} {w : World} {F : FV} {M : SM} (h : FileAt B w f d F) (hd : PD B' w d M) : Calls Tryz.prog 39 #[.pointer (some ⟨f,0,none⟩)] w fun r w' => r = .returned (.int .i64 (M.size : Int))∧w = w' := by
  obtain ⟨hB,pa,pc,la,lc,hb,_⟩ := h
  have HD := Lib.hid hd.dsize
  obtain ⟨c0,c1,c2,c3,c4,c5,c6,c7⟩ := fcells8 hb
  clear hb
  go_enter Tryz.func39,Tryz.ntmps39
  go_wp2_with (first
    | (go_at_call 88; ((with_reducible refine HD.out.mono ?_); rintro r w1 ⟨rfl,rfl⟩)))
  go_ret
  exact ⟨rfl,rfl⟩
set_option maxHeartbeats 1000000 in
theorem frecords_any {B f d : Nat} {w : World} {F : FV} (h : FileAt B w f d F) (hl : F.ps.length≤100000) : Calls Tryz.prog 37 #[.pointer (some ⟨f,0,none⟩)] w fun r w' => GatherR w (gatherL F.ps) r w' := by
  obtain ⟨hB,pa,pc,la,lc,hb,hp,_⟩ := h
  have HG := Lib.hid (gather_any w _ _ _ _ F.ps hp hl)
  obtain ⟨c0,c1,c2,c3,c4,c5,c6,c7⟩ := fcells8 hb
  clear hb hp
  go_enter Tryz.func37,Tryz.ntmps37
  go_wp2_with (first
    | (go_at_call 87; ((with_reducible refine HG.out.mono ?_); rintro r w1 ⟨v,es,rfl,ho,he,hg⟩); have HO := Lib.hid ho; have HE := Lib.hid he; have HGG := Lib.hid hg; clear ho he hg))
  go_ret
  exact ⟨v,es,rfl,HO.out,HE.out,HGG.out⟩
set_option maxHeartbeats 1000000 in
theorem flists_any {B f d : Nat} {w : World} {F : FV} (h : FileAt B w f d F) (hl : F.ls.length≤100000) : Calls Tryz.prog 34 #[.pointer (some ⟨f,0,none⟩)] w fun r w' => ∃ ao c,r = .returned (.slice ao F.ls.length c)∧OwnP w.heap.size w' (.slice ao F.ls.length c) F.ls∧w.grownBy w' none := by
  obtain ⟨hB,pa,pc,la,lc,hb,_,hp,h0⟩ := h
  obtain ⟨c0,c1,c2,c3,c4,c5,c6,c7⟩ := fcells8 hb
  clear hb
  by_cases he : F.ls = []
  · obtain ⟨rfl,rfl⟩ := h0 he
    have heq : ∀ (w : World) (n c : Nat),(binOp .eql 31 (.slice none n c) (.slice none 0 0)).run Tryz.prog w = .ok (.bool true) w := fun w n c => Lib.run_eql_slice_nil w _ _ _ _ _ _ _ Tryz.underlying31
    rw [he] at c6 ⊢
    clear hp h0
    have HC : Hid (Calls Tryz.prog 81 #[.slice none 0 0] w fun r w' => r = .returned (.slice none 0 0)∧w = w') := Lib.hid (by
      go_enter Tryz.func81,Tryz.ntmps81
      go_wp2
      go_ret
      exact ⟨rfl,rfl⟩)
    go_enter Tryz.func34,Tryz.ntmps34
    go_wp2_with (first
      | (go_at_call 81; ((with_reducible refine HC.out.mono ?_); rintro r w1 ⟨rfl,rfl⟩)))
    go_ret
    exact ⟨none,0,rfl,⟨World.ownsRow_nil _ _ _ _,by simp⟩,grefl _ _⟩
  · have HG := Lib.hid (pclone_any w _ _ _ _ F.ls hp he (by omega))
    clear hp h0
    go_enter Tryz.func34,Tryz.ntmps34
    go_wp2_with (first
      | (go_at_call 81; ((with_reducible refine HG.out.mono ?_); rintro r w1 ⟨ao,c,rfl,ho,hg⟩); have HO := Lib.hid ho; have HGG := Lib.hid hg; clear ho hg))
    go_ret
    exact ⟨ao,c,rfl,HO.out,HGG.out⟩
end Go.Proofs.YtnnmpaenainogaaGreat

namespace Go.Proofs.YtnnmpaenainogaaGreat
open Go.RowKit Go.Maps
def LCh (M : SM) (E : Nat) : Nat→List Nat→List Pr→Prop
  | p,[],ps => p = 0∧ps = []
  | p,q :: ls,ps => p = q∧2≤p∧p < E∧∃ (l : List Pr) (x : Nat) (rest : List Pr),FLaid (lastM M p) l (x : Int)∧ps = l++rest∧LCh M E x ls rest
theorem LCh.range {M : SM} {E : Nat} : ∀ {ls : List Nat} {p : Nat} {ps : List Pr},LCh M E p ls ps→∀ q∈ls,2≤q∧q < E
  | [],_,_,_ => fun q hq => by cases hq
  | q :: ls,p,ps,h => by
    obtain ⟨rfl,h1,h2,l,x,rest,_,_,h3⟩ := h
    intro y hy
    rcases List.mem_cons.1 hy with e | e
    · subst e; exact ⟨h1,h2⟩
    · exact h3.range y e
theorem LCh.uniq {M : SM} {E : Nat} : ∀ {ls ms : List Nat} {p : Nat} {ps qs : List Pr},LCh M E p ls ps→LCh M E p ms qs→ls = ms∧ps = qs
  | [],[],p,ps,qs,h,k => ⟨rfl,by rw [h.2,k.2]⟩
  | [],q :: ms,p,ps,qs,h,k => by obtain ⟨h1,_⟩ := h; obtain ⟨_,k1,_⟩ := k; omega
  | q :: ls,[],p,ps,qs,h,k => by obtain ⟨k1,_⟩ := k; obtain ⟨_,h1,_⟩ := h; omega
  | q :: ls,q' :: ms,p,ps,qs,h,k => by
    obtain ⟨rfl,_,_,l,x,rest,h1,rfl,h2⟩ := h
    obtain ⟨rfl,_,_,l',x',rest',k1,rfl,k2⟩ := k
    obtain ⟨e1,e2⟩ := flaid_uniq h1 k1
    obtain rfl : x = x' := by omega
    obtain ⟨e3,e4⟩ := h2.uniq k2
    exact ⟨by rw [e3],by rw [e1,e4]⟩
structure LPre (M : SM) (E first : Nat) (L : List Nat) (ps : List Pr) (p : Nat) : Prop where
  nd : L.Nodup
  rg : ∀ x∈L,2≤x∧x < E
  len : ps.length≤340 * L.length
  to : ∀ ls qs,LCh M E p ls qs→LCh M E first (L++ls) (ps++qs)
  fro : ∀ ls qs,LCh M E first ls qs→∃ ls' qs',ls = L++ls'∧qs = ps++qs'∧LCh M E p ls' qs'
theorem LPre.start (M : SM) (E first : Nat) : LPre M E first [] [] first := ⟨List.nodup_nil,by simp,by simp,fun _ _ h => h,fun ls qs h => ⟨ls,qs,rfl,rfl,h⟩⟩
theorem LPre.step {M : SM} {E first : Nat} {L : List Nat} {ps : List Pr} {p : Nat} (h : LPre M E first L ps p) (hp : p ∉ L) (h1 : 2≤p) (h2 : p < E) {l : List Pr} {x : Nat} (hl : FLaid (lastM M p) l (x : Int)) : LPre M E first (L++[p]) (ps++l) x := by
  refine ⟨?_,?_,?_,?_,?_⟩
  · exact List.nodup_append.2 ⟨h.nd,by simp,fun a ha b hb => by simp at hb; subst hb; intro e; subst e; exact hp ha⟩
  · intro y hy
    rcases List.mem_append.1 hy with e | e
    · exact h.rg y e
    · simp at e; subst e; exact ⟨h1,h2⟩
  · have := flaid_few hl
    have h3 := hl.right.2.2.1
    have h4 := room_bd hl.right.1 hl.right.2.1
    have := h.len
    simp; omega
  · intro ls qs k
    have := h.to (p :: ls) (l++qs) ⟨rfl,h1,h2,l,x,qs,hl,rfl,k⟩
    simpa using this
  · intro ls qs k
    obtain ⟨ls',qs',e1,e2,k'⟩ := h.fro ls qs k
    cases ls' with
    | nil => obtain ⟨k1,_⟩ := k'; omega
    | cons q t =>
      obtain ⟨rfl,_,_,l',x',rest,k1,rfl,k2⟩ := k'
      obtain ⟨e3,e4⟩ := flaid_uniq hl k1
      obtain rfl : x = x' := by omega
      exact ⟨t,rest,by rw [e1]; simp,by rw [e2,e3]; simp,k2⟩
theorem LPre.dup {M : SM} {E first : Nat} {L : List Nat} {ps : List Pr} {p : Nat} (h : LPre M E first L ps p) (h0 : p≠0) (hp : p∈L) : ∀ ls qs,LCh M E first ls qs→¬ ls.Nodup := by
  intro ls qs k hn
  obtain ⟨ls',qs',rfl,e2,k'⟩ := h.fro ls qs k
  cases ls' with
  | nil => exact h0 k'.1
  | cons q t =>
    obtain ⟨rfl,_⟩ := k'
    exact (List.nodup_append.1 hn).2.2 p hp p (by simp) rfl
theorem LPre.out {M : SM} {E first : Nat} {L : List Nat} {ps : List Pr} {p : Nat} (h : LPre M E first L ps p) (h0 : p≠0) (hp : ¬ (2≤p∧p < E)) : ∀ ls qs,LCh M E first ls qs→¬ ls.Nodup := by
  intro ls qs k hn
  obtain ⟨ls',qs',rfl,e2,k'⟩ := h.fro ls qs k
  cases ls' with
  | nil => exact h0 k'.1
  | cons q t =>
    obtain ⟨rfl,k1,k2,_⟩ := k'
    exact hp ⟨k1,k2⟩
theorem LPre.bad {M : SM} {E first : Nat} {L : List Nat} {ps : List Pr} {p : Nat} (h : LPre M E first L ps p) (h0 : p≠0) (hp : ∀ l x,¬ FLaid (lastM M p) l x) : ∀ ls qs,LCh M E first ls qs→¬ ls.Nodup := by
  intro ls qs k hn
  obtain ⟨ls',qs',rfl,e2,k'⟩ := h.fro ls qs k
  cases ls' with
  | nil => exact h0 k'.1
  | cons q t =>
    obtain ⟨rfl,k1,k2,l,x,_,k3,_⟩ := k'
    exact hp _ _ k3
theorem nodup_few : ∀ (n : Nat) (L : List Nat),L.Nodup→(∀ x∈L,x < n)→L.length≤n := by
  intro n
  induction n with
  | zero => intro L _ hx; cases L with
    | nil => simp
    | cons a t => exact absurd (hx a (by simp)) (by omega)
  | succ n ih =>
    intro L hn hx
    have h2 := ih (L.erase n) (hn.erase n) (fun x hx' => by
      have h3 := (hn.mem_erase_iff).1 hx'
      have := hx x h3.2
      omega)
    rw [List.length_erase] at h2
    split at h2 <;> omega
theorem LPre.few {M : SM} {E first : Nat} {L : List Nat} {ps : List Pr} {p : Nat} (h : LPre M E first L ps p) : L.length≤E := by
  exact nodup_few E L h.nd fun x hx => (h.rg x hx).2
end Go.Proofs.YtnnmpaenainogaaGreat

namespace Go.Proofs.YtnnmpaenainogaaGreat
open Go.RowKit Go.Maps
theorem kfr_own {w w' : World} {base size n : Nat} {e : TypeId} {v : Value} {xs : List Value} (h : w.ownsRow base e size v n xs) (g : w.grownBy w' v.ownBlock) : Kfr (fun x => x = some e) base w w' := by
  cases hv : v.ownBlock with
  | none => rw [hv] at g; exact Kfr.of g
  | some b =>
    rw [hv] at g
    obtain ⟨h1,h2,h3⟩ := own_tag h b hv
    exact Kfr.row g h1 (ek_tag h3)
theorem Dfr.far {P : Option TypeId→Prop} {B b : Nat} {w0 w w' : World} (h : Dfr B w0 w) (k : Kfr P b w w') (hb : w0.heap.size≤b) : Dfr B w0 w' :=
  ⟨k.os.trans h.os,k.tape.trans h.tape,k.output.trans h.output,Nat.le_trans h.size k.size,fun i hi hp => (k.block i (Nat.lt_of_lt_of_le hi h.size) (.inl (by omega))).trans (h.block i hi hp)⟩
theorem OwnP.kfr {P : Option TypeId→Prop} {B base : Nat} {w w' : World} {v : Value} {l : List Nat} (h : OwnP base w v l) (k : Kfr P B w w') (hp : ¬ P (some 42)) : OwnP base w' v l := ⟨k.own h.1 hp,h.2⟩
theorem POwn.kfr {P : Option TypeId→Prop} {B base : Nat} {t : TypeId} {w w' : World} {v : Value} {l : List Pr} (h : POwn t base w v l) (k : Kfr P B w w') (hp : ¬ P (some t)) : POwn t base w' v l := ⟨k.own h.1 hp,h.2⟩
theorem SetAt.kfr {P : Option TypeId→Prop} {B b : Nat} {w w' : World} {S : List Nat} (h : SetAt w b S) (k : Kfr P B w w') (hp : ¬ P none) : SetAt w' b S := by
  have h' := h
  obtain ⟨⟨es,c,hb,_⟩,_⟩ := h'
  exact h.kept (k.block b h.lt (.inr (by rw [ek_map hb]; exact hp)))
theorem map_other {w w' : World} {b : Nat} (h : w.grownBy w' (some b)) {S : List Nat} (hs : SetAt w b S) : Kfr (fun x => x = none) b w w' := by
  obtain ⟨⟨es,c,hb,_⟩,_⟩ := hs
  exact Kfr.row h (Nat.le_refl _) (ek_map hb)
theorem SetAt.dfr {B mb : Nat} {w w' : World} {S : List Nat} (h : SetAt w mb S) (k : Dfr B w w') : SetAt w' mb S := h.kfr (kfr_dfr k) (by rintro (e | e | e) <;> cases e)
theorem FileAt.kfr0 {P : Option TypeId→Prop} {B B' f d : Nat} {w w' : World} {F : FV} (h : FileAt B w f d F) (hF : F.ls = []∧F.ps = []) (k : Kfr P B' w w') (h1 : ¬ P (some 138)) : FileAt B w' f d F := by
  obtain ⟨hB,pa,pc,la,lc,hb,hp,hl,h0⟩ := h
  refine ⟨hB,pa,pc,la,lc,k.cells hb h1,?_,?_,h0⟩
  · unfold PrT at *
    rw [hF.2] at *
    obtain ⟨ao,c,e,a1,a2,a3,a4,_⟩ := hp
    exact ⟨ao,c,e,a1,a2,a3,a4,fun x => absurd rfl x⟩
  · unfold PgT at *
    rw [hF.1] at *
    obtain ⟨ao,c,e,a1,a2,a3,_⟩ := hl
    exact ⟨ao,c,e,a1,a2,a3,fun x => absurd rfl x⟩
structure RLF (B B' d f mb : Nat) (w0 w : World) (F : FV) (Ls L : List Nat) (ps : List Pr) (lv pv : Value) : Prop where
  fl : FileAt B' w f d F
  f0 : F.ls = []∧F.ps = []
  se : ∃ S,SetAt w mb S∧∀ x,x∈S↔x∈Ls
  lo : OwnP w0.heap.size w lv L
  po : POwn 304 w0.heap.size w pv ps
  fr : Dfr B w0 w
  mb0 : w0.heap.size≤mb
section
variable {B B' d f mb : Nat} {w0 w w' : World} {F : FV} {Ls L : List Nat} {ps : List Pr} {lv pv : Value}
theorem RLF.dfr (h : RLF B B' d f mb w0 w F Ls L ps lv pv) (k : Dfr B w w') : RLF B B' d f mb w0 w' F Ls L ps lv pv := by
  obtain ⟨S,s1,s2⟩ := h.se
  exact ⟨h.fl.dfr k,h.f0,⟨S,s1.dfr k,s2⟩,h.lo.kfr (kfr_dfr k) (not_KD' (by decide)),h.po.kfr (kfr_dfr k) (not_KD' (by decide)),h.fr.trans k,h.mb0⟩
theorem RLF.new (h : RLF B B' d f mb w0 w F Ls L ps lv pv) (k : w.grownBy w' none) : RLF B B' d f mb w0 w' F Ls L ps lv pv := h.dfr (dfr_new k)
theorem RLF.mark (h : RLF B B' d f mb w0 w F Ls L ps lv pv) {M : SM} (hd : PD B w d M) {S : List Nat} {p : Nat} (hS : SetAt w mb S) (hSL : ∀ x,x∈S↔x∈Ls) (h32 : p < 4294967296) (g : w.grownBy w' (some mb)) {n : Nat} (ho : w'.ownsMap Tryz.prog 42 (unitElem (H := Unit)) mb n ((setD S).put (keyL p) (.agg []))) :
    RLF B B' d f mb w0 w' F (Ls++[p]) L ps lv pv∧PD B w' d M := by
  have k := map_other g hS
  rw [setD_put] at ho
  refine ⟨⟨h.fl.kfr k (by simp) (by simp) (by simp),h.f0,⟨ins p S,⟨own_tight ho,srt_ins hS.2.1,fun x hx => ?_⟩,fun x => ?_⟩,h.lo.kfr k (by simp),h.po.kfr k (by simp),h.fr.far k h.mb0,h.mb0⟩,hd.kfr k (by simp) (by simp) (by simp) (by simp)⟩
  · rcases mem_ins.1 hx with e | e
    · rw [e]; exact h32
    · exact hS.2.2 x e
  · rw [mem_ins,List.mem_append,hSL,List.mem_singleton]; exact Or.comm
theorem RLF.app1 (h : RLF B B' d f mb w0 w F Ls L ps lv pv) {M : SM} (hd : PD B w d M) {p n : Nat} {lv' : Value} (h32 : p < 4294967296) (hn : n = L.length) (g : w.grownBy w' lv.ownBlock) (ho : w'.ownsRow w0.heap.size 42 1 lv' (n + 1) (L.map encP++[encP p])) :
    RLF B B' d f mb w0 w' F Ls (L++[p]) ps lv' pv∧PD B w' d M := by
  subst hn
  have k := kfr_own h.lo.1 g
  obtain ⟨S,s1,s2⟩ := h.se
  have hnew : OwnP w0.heap.size w' lv' (L++[p]) := ⟨by rw [List.length_append,List.map_append]; exact ho,fun x hx => by
    rcases List.mem_append.1 hx with e | e
    · exact h.lo.2 x e
    · simp at e; subst e; exact h32⟩
  exact ⟨⟨h.fl.kfr0 h.f0 k (by simp),h.f0,⟨S,s1.kfr k (by simp),s2⟩,hnew,h.po.kfr k (by simp),h.fr.far k (Nat.le_refl _),h.mb0⟩,hd.kfr k (by simp) (by simp) (by simp) (by simp)⟩
theorem RLF.app2 (h : RLF B B' d f mb w0 w F Ls L ps lv pv) {M : SM} (hd : PD B w d M) {l : List Pr} {n : Nat} {pv' : Value} (hl : ∀ p∈l,PrOk p) (hn : n = ps.length + l.length) (g : w.grownBy w' pv.ownBlock) (ho : w'.ownsRow w0.heap.size 304 2 pv' n (ps.flatMap prc++l.flatMap prc)) :
    RLF B B' d f mb w0 w' F Ls L (ps++l) lv pv'∧PD B w' d M := by
  subst hn
  have k := kfr_own h.po.1 g
  obtain ⟨S,s1,s2⟩ := h.se
  have hnew : POwn 304 w0.heap.size w' pv' (ps++l) := ⟨by rw [List.length_append,List.flatMap_append]; exact ho,fun x hx => by
    rcases List.mem_append.1 hx with e | e
    · exact h.po.2 x e
    · exact hl x e⟩
  exact ⟨⟨h.fl.kfr0 h.f0 k (by simp),h.f0,⟨S,s1.kfr k (by simp),s2⟩,h.lo.kfr k (by simp),hnew,h.fr.far k (Nat.le_refl _),h.mb0⟩,hd.kfr k (by simp) (by simp) (by simp) (by simp)⟩
end
structure RLI (B B' d f mb : Nat) (w0 w : World) (M : SM) (F : FV) (first : Nat) (L : List Nat) (ps : List Pr) (p : Nat) (lv pv : Value) : Prop where
  pd : PD B w d (cntK M L.length)
  fs : RLF B B' d f mb w0 w F L L ps lv pv
  pre : LPre M F.mt.e first L ps p
  p32 : p < 4294967296
  nl : L = []→lv = .slice none 0 0
def RLR (B d : Nat) (w : World) (M : SM) (E first : Nat) (r : Ending) (w' : World) : Prop :=
  (∃ k,k≤E + 1∧PD B w' d (cntK M k))∧Dfr B w w' ∧
  ((∃ ls ps la lc pa pc,r = .returned (.tuple #[.slice la ls.length lc,.slice pa ps.length pc,.int .i64 0])∧LCh M E first ls ps∧ls.Nodup∧ps.length≤340 * ls.length∧OwnP w.heap.size w' (.slice la ls.length lc) ls∧POwn 304 w.heap.size w' (.slice pa ps.length pc) ps∧(ls = []→la = none∧lc = 0)) ∨
   (r = .returned (.tuple #[.slice none 0 0,.slice none 0 0,.int .i64 24])∧∀ ls ps,LCh M E first ls ps→¬ ls.Nodup))
theorem last_cntK (M : SM) : ∀ k p,lastM (cntK M k) p = lastM M p
  | 0,_ => rfl
  | k + 1,p => last_cntK M k p
theorem cntK_same (M : SM) : ∀ k,(cntK M k).pg = M.pg∧(cntK M k).size = M.size∧(cntK M k).limit = M.limit∧(cntK M k).loose = M.loose
  | 0 => ⟨rfl,rfl,rfl,rfl⟩
  | k + 1 => cntK_same M k
theorem cntK_calm {M : SM} (h : M.fails = false) : ∀ k,(cntK M k).fails = false
  | 0 => h
  | k + 1 => cnt_calm (cntK_calm h k)
theorem cntK_wel {M : SM} {c : Nat} (h : Wel M c) : ∀ k,Wel (cntK M k) (c + k)
  | 0 => h
  | k + 1 => (cntK_wel h k).cnt
theorem unit_block (w : World) : w.grownBy (w.alloc (.cells #[] 114)) none := World.grownBy_alloc _ _ _
theorem lit_page (w : World) (p : Nat) : ∀ (j : Nat) (u : Value),[encP p][j]? = some u→(w.alloc (.cells #[.int .u32 (p : Int)] 42)).cell? ((⟨w.heap.size,0,none⟩ : Addr).add j) = some u := by
  intro j u h
  have hj : j = 0 := by have := (List.getElem?_eq_some_iff.1 h).1; simpa using this
  subst hj
  simp at h
  subst h
  have h2 := lit_block w (.cells #[.int .u32 (p : Int)] 42)
  show (w.alloc (.cells #[.int .u32 (p : Int)] 42)).cell? ⟨w.heap.size,0,none⟩ = _
  generalize w.alloc (.cells #[.int .u32 (p : Int)] 42) = W at h2 ⊢
  simp [World.cell?,h2]
theorem one_pageV (p : Nat) : ∀ u∈[encP p],u.oneCell' = true := by simp [encP,Value.oneCell']
theorem fget_no {b : List Int} {w w' : World} {r : Ending} (h : ∀ l x,¬ FLaid b l x) (k : FGetR b w w' r) : r = .returned (.tuple #[.slice none 0 0,.int .u32 0,.int .i64 11])∧w.grownBy w' none := by
  rcases k with ⟨pv,l,x,_,h1,_⟩ | ⟨h1,_,h2⟩
  · exact absurd h1 (h l x)
  · exact ⟨h1,h2⟩
set_option maxRecDepth 20000 in
set_option maxHeartbeats 8000000 in
theorem readLists_any {B B' d f c first : Nat} {w : World} {M : SM} {F : FV} (h : PD B w d M) (hf : FileAt B' w f d F) (hW : Wel M c) (hc : c≤20000) (hcalm : M.fails = false) (hE : F.mt.e≤M.pg.length) (hb : ∀ x∈M.pg,Byt x.2∧x.2.length = M.size) (h32 : first < 4294967296) (hF0 : F.ls = []∧F.ps = []) :
    Calls Tryz.prog 62 #[.iface 28 (.pointer (some ⟨f,0,none⟩)),.int .u32 (first : Int)] w fun r w' => RLR B d w M F.mt.e first r w' := by
  have hE6 : F.mt.e≤65536 := by have := hW.p; have := hW.l; omega
  have HBY := Lib.hid (fun p (hp : p < F.mt.e) => show Byt (lastM M p)∧(lastM M p).length = M.size by
    unfold lastM; rw [List.getD_eq_getElem?_getD,List.getElem?_eq_getElem (by omega)]; exact hb _ (List.getElem_mem _))
  have HS0 := Lib.hid (show RLI B B' d f w.heap.size w (w.alloc (.map #[] 0)) M F first [] [] first (.slice none 0 0) (.slice none 0 0) from
    ⟨h.new (World.grownBy_alloc _ _ _),⟨hf.new (World.grownBy_alloc _ _ _),hF0,⟨[],set_made w,by simp⟩,⟨World.ownsRow_nil _ _ _ _,by simp⟩,POwn.nil _ _ _,dfr_new (World.grownBy_alloc _ _ _),Nat.le_refl _⟩,LPre.start _ _ _,h32,fun _ => rfl⟩)
  have HRD := Lib.hid (fun (wr : World) (k p : Nat) (hk : k≤65536) (h1 : PD B wr d (cntK M k)) (h2 : FileAt B' wr f d F) (hp : p < 4294967296) => fread_any (p := p) h2 h1 ((cntK_wel hW k).fine (by omega)) (by rw [(cntK_same M k).2.1]; exact hW.s2) (cntK_calm hcalm k) (by rw [(cntK_same M k).1]; exact hE) hp (p : Int) rfl)
  obtain ⟨i0,hi,hz0,hz1,hz2⟩ := info_parts infoPg
  obtain ⟨j0,hj,hw0,hw1,hw2⟩ := info_parts infoPair
  have hsz : M.size≤140737488355328 := by have := hW.s2; omega
  clear h hf hW hcalm hE hb h32
  have hmeth : ∀ (a : Addr) (w : World),(method 538 28 (.pointer (some a)) "Read").run Tryz.prog w = .ok (40,.pointer (some a)) w := fun _ _ => by kernel_rfl
  have hmm := @run_makeMap Tryz.prog
  go_enter Tryz.func62,Tryz.ntmps62
  go_wp2
  clear hmm
  go_loopw [7,8,10] (fun lv pv pp wr => ∃ (L : List Nat) (ps : List Pr) (p : Nat) (la : Option Addr) (lc : Nat) (pa : Option Addr) (pc : Nat),lv = .slice la L.length lc∧pv = .slice pa ps.length pc∧pp = .int .u32 (p : Int)∧Hid (RLI B B' d f w.heap.size w wr M F first L ps p (.slice la L.length lc) (.slice pa ps.length pc)))
    (fun lv _ _ _ => F.mt.e - (match lv with | .slice _ n _ => n | _ => 0))
  case atStart => exact ⟨[],[],first,none,0,none,0,rfl,rfl,rfl,HS0⟩
  case round =>
    obtain ⟨L,ps,p,la,lc,pa,pc,rfl,rfl,rfl,HR⟩ := hrel
    clear HS0
    by_cases h0 : p = 0
    · subst h0
      go_wp2
      go_ret3
      have hk := HR.out.pre.few
      exact ⟨⟨L.length,by omega,HR.out.pd⟩,HR.out.fs.fr,.inl ⟨L,ps,la,lc,pa,pc,rfl,by simpa using HR.out.pre.to [] [] ⟨rfl,rfl⟩,HR.out.pre.nd,HR.out.pre.len,HR.out.fs.lo,HR.out.fs.po,fun e => by have := HR.out.nl e; simp at this; exact ⟨this.1,this.2.2⟩⟩⟩
    · have h0d : ((p : Int) == 0) = false := by simp; exact h0
      obtain ⟨S,hS,hSL⟩ := HR.out.fs.se
      have hown := hS.1
      have h32 := HR.out.p32
      by_cases hpL : p∈L
      · have hd : Maps.has (setD S) (keyL p) = true := by rw [has_setD]; simp; exact (hSL p).2 hpL
        go_wp2_with (first
          | (at_lookup; refine wpList_lookup_own_unit _ rfl _ _ 173 rfl 42 114 lawP Tryz.underlying173 (zeroUnit _) w.heap.size S.length _ rfl hown _ _ rfl (keyP h32) ?_)
          | go_in)
        go_ret3
        have hk := HR.out.pre.few
        exact ⟨⟨L.length,by omega,HR.out.pd.new (unit_block _)⟩,(HR.out.fs.new (unit_block _)).fr,.inr ⟨rfl,HR.out.pre.dup h0 hpL⟩⟩
      · have hd : Maps.has (setD S) (keyL p) = false := by rw [has_setD]; simp; exact fun e => hpL ((hSL p).1 e)
        have hk := HR.out.pre.few
        have HRU := Lib.hid (HR.out.fs.new (unit_block wr))
        have HPU := Lib.hid (HR.out.pd.new (unit_block wr))
        have HPR := Lib.hid HR.out.pre
        have HSU := Lib.hid (hS.grown (unit_block wr))
        have HSL := Lib.hid hSL
        clear HR hSL
        have hlook := Lib.hid hown
        by_cases h1 : 2≤p∧p < F.mt.e
        · have HSZ := Lib.hid hsz
          have HBP := Lib.hid (HBY.out p h1.2)
          by_cases hfl : ∃ (l : List Pr) (x : Nat),FLaid (lastM M p) l (x : Int)
          · obtain ⟨l,x,hfl⟩ := hfl
            have HFL := Lib.hid hfl
            have hx32 : x < 4294967296 := by have := hfl.x1; omega
            have hfew := flaid_few hfl
            have h340 : l.length≤340 := by
              have h3 := hfl.right.2.2.1
              have h4 := room_bd hfl.right.1 hfl.right.2.1
              omega
            have hplen := HPR.out.len
            have HPN0 := Lib.hid (HPR.out.step hpL h1.1 h1.2 hfl)
            clear hfl
            go_wp2_with (first
              | (at_lookup; refine wpList_lookup_own_unit _ rfl _ _ 173 rfl 42 114 lawP Tryz.underlying173 (zeroUnit _) w.heap.size S.length _ rfl hown _ _ rfl (keyP h32) ?_)
              | (at_mapUpdate; refine wpList_mapUpdate_own _ rfl _ _ _ 173 rfl 42 114 lawP Tryz.underlying173 (unitElem (H := Unit)) w.heap.size _ _ rfl (hown.alloc (.cells #[] 114)) (by have := hS.len; unfold maxLen; omega) _ _ _ rfl rfl (keyP h32) _ [] unitElem_mk ?_; intro w1 hown1 hgrow1; have HM1 := Lib.hid (HRU.out.mark HPU.out HSU.out HSL.out h32 hgrow1 hown1); clear hown1 hgrow1 hown hS)
              | (go_at_call 40; have K := HRD.out w1 L.length p (by omega) HM1.out.2 HM1.out.1.fl h32; unfold FReadR at K; simp only [if_pos h1,last_cntK,(cntK_same M _).2.1] at K; ((with_reducible refine K.mono ?_); clear K; rintro r w2 ⟨ao,c2,rfl,hd2,ho2,hf2⟩); have HD2 := Lib.hid (show PD B w2 d (cntK M (L.length + 1)) from hd2); have HR2 := Lib.hid (HM1.out.1.dfr hf2); have HO2 := Lib.hid ho2; clear hd2 ho2 hf2)
              | (go_at_call 112; ((with_reducible refine (zget_back (w := w2) HO2.out.seq (Nat.le_refl _) HBP.out.1 HFL.out).mono ?_); rintro r w3 ⟨a3,c3,rfl,ho3,hg3⟩); have HR3 := Lib.hid (HR2.out.new hg3); have HD3 := Lib.hid (HD2.out.new hg3); have HP3 := Lib.hid ho3; have HR3a := Lib.hid (HR3.out.new (World.grownBy_alloc w3 (.cells #[.int .u32 (p : Int)] 42) none)); have HD3a := Lib.hid (HD3.out.new (World.grownBy_alloc w3 (.cells #[.int .u32 (p : Int)] 42) none)); have HP3a := Lib.hid (ho3.grown (World.grownBy_alloc w3 (.cells #[.int .u32 (p : Int)] 42) none)); clear ho3 hg3)
              | (at_builtin; refine wpList_append_own _ rfl _ _ 31 rfl w.heap.size 42 i0 (.int .u32 0) 1 4 Tryz.underlying31 hi hz0 hz1 hz2 rfl (by decide) (.slice la L.length lc) L.length (L.map encP) rfl HR3a.out.lo.1 ⟨w3.heap.size,0,none⟩ 1 1 [encP p] rfl rfl (lit_page w3 p) (one_pageV p) (by unfold maxLen; omega) (by omega) (HR3a.out.fr.size) ?_; intro v' w4 hown4 hgrow4 _; have HA4 := Lib.hid (HR3a.out.app1 HD3a.out h32 rfl hgrow4 hown4); have HP4 := Lib.hid (HP3a.out.kfr (kfr_own HR3a.out.lo.1 hgrow4) (by simp)); clear hown4 hgrow4; obtain ⟨la4,lc4,e4⟩ := own_shape HA4.out.1.lo.1; subst e4)
              | (at_builtin; refine wpList_append_any10 _ rfl _ _ 134 rfl w.heap.size 304 j0 (.agg #[.int .u64 0,.int .u32 0]) 2 16 Tryz.underlying134 hj hw0 hw1 hw2 rfl (by decide) (.slice pa ps.length pc) ps.length (ps.flatMap prc) rfl HA4.out.1.po.1 a3 l.length c3 (l.flatMap prc) rfl (by rw [prc_len]) HP4.out.src.1 HP4.out.src.2 (prc_one _) (by unfold maxLen; omega) (by omega) (HA4.out.1.fr.size) ?_; intro v5 w5 hown5 hgrow5; have HA5 := Lib.hid (HA4.out.1.app2 HA4.out.2 HP4.out.2 rfl hgrow5 hown5); clear hown5 hgrow5; obtain ⟨pa5,pc5,e5⟩ := own_shape HA5.out.1.po.1; subst e5)
              | go_in)
            go_roundw
            case rel => exact ⟨L++[p],ps++l,x,la4,lc4,pa5,pc5,by rw [List.length_append]; rfl,by rw [List.length_append],rfl,Lib.hid ⟨by rw [List.length_append]; exact HA5.out.2,HA5.out.1,HPN0.out,hx32,fun e => by simp at e⟩⟩
            case measure =>
              have h5 := HPN0.out.few
              simp at h5 ⊢
              omega
          · have HNO := Lib.hid (show ∀ (l : List Pr) (x : Int),¬ FLaid (lastM M p) l x from fun l x k => hfl ⟨l,x.toNat,by have := k.x0; rwa [Int.toNat_of_nonneg this]⟩)
            clear hfl
            go_wp2_with (first
              | (at_lookup; refine wpList_lookup_own_unit _ rfl _ _ 173 rfl 42 114 lawP Tryz.underlying173 (zeroUnit _) w.heap.size S.length _ rfl hown _ _ rfl (keyP h32) ?_)
              | (at_mapUpdate; refine wpList_mapUpdate_own _ rfl _ _ _ 173 rfl 42 114 lawP Tryz.underlying173 (unitElem (H := Unit)) w.heap.size _ _ rfl (hown.alloc (.cells #[] 114)) (by have := hS.len; unfold maxLen; omega) _ _ _ rfl rfl (keyP h32) _ [] unitElem_mk ?_; intro w1 hown1 hgrow1; have HM1 := Lib.hid (HRU.out.mark HPU.out HSU.out HSL.out h32 hgrow1 hown1); clear hown1 hgrow1 hown hS)
              | (go_at_call 40; have K := HRD.out w1 L.length p (by omega) HM1.out.2 HM1.out.1.fl h32; unfold FReadR at K; simp only [if_pos h1,last_cntK,(cntK_same M _).2.1] at K; ((with_reducible refine K.mono ?_); clear K; rintro r w2 ⟨ao,c2,rfl,hd2,ho2,hf2⟩); have HD2 := Lib.hid (show PD B w2 d (cntK M (L.length + 1)) from hd2); have HR2 := Lib.hid (HM1.out.1.dfr hf2); have HO2 := Lib.hid ho2; clear hd2 ho2 hf2)
              | (go_at_call 112; ((with_reducible refine (zget_any w2 w2.heap.size ao M.size c2 (lastM M p) HO2.out.seq (Nat.le_refl _) HBP.out.1 (by rw [HBP.out.2]; exact HSZ.out)).mono ?_); rintro r w3 hk; obtain ⟨rfl,hg3⟩ := fget_no HNO.out hk; have HR3 := Lib.hid (HR2.out.new hg3); have HD3 := Lib.hid (HD2.out.new hg3); clear hk hg3))
              | go_in)
            go_ret3
            exact ⟨⟨L.length + 1,by omega,HD3.out⟩,HR3.out.fr,.inr ⟨rfl,HPR.out.bad h0 HNO.out⟩⟩
        · have HOUT := Lib.hid (HPR.out.out h0 h1)
          go_wp2_with (first
            | (at_lookup; refine wpList_lookup_own_unit _ rfl _ _ 173 rfl 42 114 lawP Tryz.underlying173 (zeroUnit _) w.heap.size S.length _ rfl hown _ _ rfl (keyP h32) ?_)
            | (at_mapUpdate; refine wpList_mapUpdate_own _ rfl _ _ _ 173 rfl 42 114 lawP Tryz.underlying173 (unitElem (H := Unit)) w.heap.size _ _ rfl (hown.alloc (.cells #[] 114)) (by have := hS.len; unfold maxLen; omega) _ _ _ rfl rfl (keyP h32) _ [] unitElem_mk ?_; intro w1 hown1 hgrow1; have HM1 := Lib.hid (HRU.out.mark HPU.out HSU.out HSL.out h32 hgrow1 hown1); clear hown1 hgrow1 hown hS)
            | (go_at_call 40; have K := HRD.out w1 L.length p (by omega) HM1.out.2 HM1.out.1.fl h32; unfold FReadR at K; simp only [if_neg h1] at K; ((with_reducible refine K.mono ?_); clear K; rintro r w2 ⟨rfl,rfl⟩))
            | go_in)
          go_ret3
          exact ⟨⟨L.length,by omega,HM1.out.2⟩,HM1.out.1.fr,.inr ⟨rfl,HOUT.out⟩⟩
theorem rl_yes {B d : Nat} {w w' : World} {M : SM} {E first : Nat} {r : Ending} {ls : List Nat} {ps : List Pr} (h : RLR B d w M E first r w') (h1 : LCh M E first ls ps) (h2 : ls.Nodup) :
    ∃ la lc pa pc,r = .returned (.tuple #[.slice la ls.length lc,.slice pa ps.length pc,.int .i64 0])∧ps.length≤340 * ls.length∧OwnP w.heap.size w' (.slice la ls.length lc) ls∧POwn 304 w.heap.size w' (.slice pa ps.length pc) ps∧(ls = []→la = none∧lc = 0) := by
  rcases h.2.2 with ⟨ls',ps',la,lc,pa,pc,e,k1,k2,k3,k4,k5,k6⟩ | ⟨_,k⟩
  · obtain ⟨e1,e2⟩ := k1.uniq h1
    subst e1; subst e2
    exact ⟨la,lc,pa,pc,e,k3,k4,k5,k6⟩
  · exact absurd h2 (k _ _ h1)
theorem rl_no {B d : Nat} {w w' : World} {M : SM} {E first : Nat} {r : Ending} (h : RLR B d w M E first r w') (h1 : ¬ ∃ ls ps,LCh M E first ls ps∧ls.Nodup) : r = .returned (.tuple #[.slice none 0 0,.slice none 0 0,.int .i64 24]) := by
  rcases h.2.2 with ⟨ls',ps',la,lc,pa,pc,e,k1,k2,_⟩ | ⟨k,_⟩
  · exact absurd ⟨_,_,k1,k2⟩ h1
  · exact k
end Go.Proofs.YtnnmpaenainogaaGreat

namespace Go.Proofs.YtnnmpaenainogaaGreat
open Go.RowKit Go.Maps
set_option maxHeartbeats 1000000 in
theorem later_any (w : World) (q t : Nat) (mt : Mt) (pv : Value) (a1 : Option Addr) (n1 c1 : Nat) (hpv : pv = .slice a1 n1 c1) (hq : w.heap[q]? = some (.cells (mtC mt) 44 (0,0))) :
    Calls Tryz.prog 114 #[.agg #[.int .u64 (t : Int),pv],.pointer (some ⟨q,0,none⟩)] w fun r w' => r = .returned (.bool (decide (mt.t < t)))∧w.grownBy w' none := by
  subst hpv
  have HQ := Lib.hid (keep_alloc1 hq (.cells #[.int .u64 (t : Int),.slice a1 n1 c1] 158))
  obtain ⟨m0,m1,m2,m3⟩ := mt_cells HQ.out
  have HD := Lib.hid (show decide ((mt.t : Int) < (t : Int)) = decide (mt.t < t) by rw [Bool.eq_iff_iff]; simp)
  clear hq
  go_enter Tryz.func114,Tryz.ntmps114
  go_wp2
  go_ret
  exact ⟨by first | rfl | (rw [← HD.out]; rfl),World.grownBy_alloc _ _ _⟩
def anyLater (rs : List Rc) (t : Nat) : Bool := rs.any fun r => decide (t < r.1)
set_option maxHeartbeats 4000000 in
theorem laterIdx_any (w : World) (R : Nat→Prop) (ao : Option Addr) (n c q : Nat) (rs : List Rc) (mt : Mt) (hs : RSq R w (.slice ao n c) rs) (hq : w.heap[q]? = some (.cells (mtC mt) 44 (0,0))) :
    Calls Tryz.prog 171 #[.slice ao n c,.func (.func 114) #[] #[.pointer (some ⟨q,0,none⟩)]] w fun r w' => ∃ i : Int,r = .returned (.int .i64 i)∧(decide (0≤i) = anyLater rs mt.t)∧w.grownBy w' none := by
  obtain ⟨hn,hm⟩ := hs.len
  have hN := Lib.hid hn
  have Hs := Lib.hid hs
  have HQ := Lib.hid hq
  have hm2 : (n : Int) ≤ 9223372036854775807 := by have h9 : maxLen ≤ 9223372036854775807 := by decide
                                                   omega
  clear hn hm hs hq
  go_enter Tryz.func171,Tryz.ntmps171
  go_wp2
  go_loopw [8] (fun i wr => ∃ k : Nat,k≤n∧i = .int .i64 (k : Int)∧(∀ r∈rs.take k,¬ mt.t < r.1)∧w.grownBy wr none) (fun i _ => n - (intOf i).toNat)
  case atStart => exact ⟨0,Nat.zero_le _,rfl,by simp,grefl _ _⟩
  case round =>
    obtain ⟨k,hk,rfl,hr,hg⟩ := hrel
    have Hr := Lib.hid hr
    have Hg := Lib.hid hg
    clear hr hg
    by_cases hlt : k < n
    · have hki : (k : Int) < (n : Int) := by omega
      have hkl : k < rs.length := by rw [← hN.out]; exact hlt
      obtain ⟨r0,hr0⟩ : ∃ r0,rs[k]? = some r0 := ⟨_,List.getElem?_eq_getElem hkl⟩
      obtain ⟨b',o,rfl,_,hc0,h64,a1,c1,hc1,_⟩ := Hs.out.at k r0 hr0
      have hd0 : wr.cell? ⟨b',o + k * 2,none⟩ = _ := Hg.out.cell hc0 (by simp)
      have hd1 : wr.cell? ⟨b',o + k * 2 + 1,none⟩ = _ := Hg.out.cell hc1 (by simp)
      have htk : rs.take (k + 1) = rs.take k++[r0] := by
        rw [List.take_succ_eq_append_getElem hkl]
        congr 2
        exact Option.some.inj ((List.getElem?_eq_getElem hkl).symm.trans hr0)
      have hmem : r0∈rs := List.mem_of_getElem? hr0
      have HT := Lib.hid htk
      have HM := Lib.hid hmem
      have hQr := Lib.hid ((Hg.out.block _ (lt_of_block HQ.out) (by simp)).trans HQ.out)
      obtain ⟨t,pp⟩ := r0
      clear htk hmem hc0 hc1 hr0
      by_cases hin : mt.t < t
      · have HIN := Lib.hid hin
        have hd : decide (mt.t < t) = true := by simpa using hin
        clear hin
        go_wp2_with (first
          | (go_at_call 114; refine (later_any wr q t mt _ a1 _ c1 rfl hQr.out).mono ?_; rw [hd]; rintro r w1 ⟨rfl,hg⟩; have HG1 := Lib.hid (gtrans Hg.out hg); clear hg))
        go_ret
        refine ⟨(k : Int),rfl,?_,HG1.out⟩
        have : anyLater rs mt.t = true := by
          unfold anyLater
          rw [List.any_eq_true]
          exact ⟨_,HM.out,by simpa using HIN.out⟩
        rw [this]
        simp
      · have HIN := Lib.hid hin
        have hd : decide (mt.t < t) = false := by simpa using hin
        clear hin
        go_wp2_with (first
          | (go_at_call 114; refine (later_any wr q t mt _ a1 _ c1 rfl hQr.out).mono ?_; rw [hd]; rintro r w1 ⟨rfl,hg⟩; have HG1 := Lib.hid (gtrans Hg.out hg); clear hg))
        go_roundw
        case rel =>
          refine ⟨k + 1,by omega,by go_num,?_,HG1.out⟩
          rw [HT.out]
          intro p hp
          rcases List.mem_append.1 hp with h | h
          · exact Hr.out p h
          · have : p = (t,pp) := by simpa using h
            rw [this]; exact HIN.out
        case measure => simp [intOf]; omega
    · have hki : ¬ (k : Int) < (n : Int) := by omega
      go_wp2
      go_ret
      refine ⟨-1,rfl,?_,Hg.out⟩
      have e : rs.take k = rs := by rw [show k = n by omega,hN.out]; exact List.take_length
      have h := Hr.out
      rw [e] at h
      have : anyLater rs mt.t = false := by
        unfold anyLater
        rw [List.any_eq_false]
        intro p hp
        simpa using h p hp
      rw [this]
      simp
set_option maxHeartbeats 1000000 in
theorem laterHas_any (w : World) (R : Nat→Prop) (ao : Option Addr) (n c q : Nat) (rs : List Rc) (mt : Mt) (hs : RSq R w (.slice ao n c) rs) (hq : w.heap[q]? = some (.cells (mtC mt) 44 (0,0))) :
    Calls Tryz.prog 113 #[.slice ao n c,.func (.func 114) #[] #[.pointer (some ⟨q,0,none⟩)]] w fun r w' => r = .returned (.bool (anyLater rs mt.t))∧w.grownBy w' none := by
  go_enter Tryz.func113,Tryz.ntmps113
  go_wp2_with (first
    | (go_at_call 171; refine (laterIdx_any w R ao n c q rs mt hs hq).mono ?_; rintro r w1 ⟨i,rfl,hi,hg⟩; have HI := Lib.hid hi; have HG := Lib.hid hg; clear hi hg))
  go_ret
  exact ⟨by rw [← HI.out]; rfl,HG.out⟩
def okRecsM (rs : List Rc) (mt : Mt) : Bool := right rs mt.e && !anyLater rs mt.t
set_option maxHeartbeats 2000000 in
theorem rightRecords_any (w : World) (R : Nat→Prop) (ao : Option Addr) (n c : Nat) (rs : List Rc) (mt : Mt) (hm : MtOk mt) (hs : RSq R w (.slice ao n c) rs) :
    Calls Tryz.prog 63 #[.slice ao n c,.agg (mtC mt)] w fun r w' => r = .returned (.bool (okRecsM rs mt))∧w.grownBy w' none := by
  have hq := lit_block w (.cells (mtC mt) 44)
  have hg0 : w.grownBy (w.alloc (.cells (mtC mt) 44)) none := World.grownBy_alloc _ _ _
  have HR := Lib.hid (fun W (k : w.grownBy W none) => right_any W R ao n c rs mt.e (hs.grown k) hm.e)
  have HL := Lib.hid (fun W (k : w.grownBy W none) (hq : W.heap[w.heap.size]? = some (.cells (mtC mt) 44 (0,0))) => laterHas_any W R ao n c w.heap.size rs mt (hs.grown k) hq)
  have HO := Lib.hid (show okRecsM rs mt = (right rs mt.e && !anyLater rs mt.t) from rfl)
  generalize okRecsM rs mt = ok at HO ⊢
  generalize right rs mt.e = b1 at HR HO
  generalize anyLater rs mt.t = b2 at HL HO
  obtain ⟨m0,m1,m2,m3⟩ := mt_cells hq
  have HQ := Lib.hid hq
  have HG0 := Lib.hid hg0
  have hmc : mtC mt = #[.int .u64 (mt.t : Int),.int .u32 (mt.e : Int),.int .u32 (mt.m : Int),.int .u32 (mt.f : Int)] := rfl
  rw [hmc] at HQ HG0 HL ⊢
  clear hq hg0 hs hmc
  cases b1
  · go_enter Tryz.func63,Tryz.ntmps63
    go_wp2_with (first
      | (go_at_call 36; ((with_reducible refine (HR.out _ HG0.out).mono ?_); rintro r w1 ⟨rfl,hg⟩); have HG1 := Lib.hid (gtrans HG0.out hg); clear hg))
    go_ret
    exact ⟨by rw [HO.out]; rfl,HG1.out⟩
  · go_enter Tryz.func63,Tryz.ntmps63
    go_wp2_with (first
      | (go_at_call 36; ((with_reducible refine (HR.out _ HG0.out).mono ?_); rintro r w1 ⟨rfl,hg⟩); have HG1 := Lib.hid (gtrans HG0.out hg); have HQ1 := Lib.hid ((hg.block _ (lt_of_block HQ.out) (by simp)).trans HQ.out); clear hg)
      | (go_at_call 113; ((with_reducible refine (HL.out _ HG1.out HQ1.out).mono ?_); rintro r w2 ⟨rfl,hg⟩); have HG2 := Lib.hid (gtrans HG1.out hg); clear hg))
    go_ret
    exact ⟨by rw [HO.out]; rfl,HG2.out⟩
end Go.Proofs.YtnnmpaenainogaaGreat

namespace Go.Proofs.YtnnmpaenainogaaGreat
open Go.RowKit Go.Maps
structure Byd (M : SM) : Prop where
  pg : ∀ x∈M.pg,(Byt x.1∧x.1.length = M.size)∧Byt x.2∧x.2.length = M.size
  lo : ∀ x∈M.loose,Byt x.2∧x.2.length = M.size
theorem Byd.cnt {M : SM} (h : Byd M) : Byd (cntM M) := ⟨h.pg,h.lo⟩
theorem Byd.at {M : SM} (h : Byd M) {i : Nat} (hi : i < M.pg.length) : (Byt (M.pg.getD i ([],[])).1∧(M.pg.getD i ([],[])).1.length = M.size)∧Byt (lastM M i)∧(lastM M i).length = M.size := by
  unfold lastM
  rw [List.getD_eq_getElem?_getD,List.getElem?_eq_getElem hi]
  exact h.pg _ (List.getElem_mem hi)
theorem Byd.wr {M : SM} (h : Byd M) {i : Nat} {b : List Int} (hi : i < M.pg.length) (h1 : Byt b) (h2 : b.length = M.size) : Byd (wrM M i b) := by
  refine ⟨fun x hx => ?_,fun x hx => ?_⟩
  · rcases List.mem_or_eq_of_mem_set hx with e | e
    · exact h.pg x e
    · subst e; exact ⟨(h.at hi).1,h1,h2⟩
  · rcases List.mem_append.1 hx with e | e
    · exact h.lo x e
    · simp at e; subst e; exact ⟨h1,h2⟩
theorem byd_syncP {n : Nat} : ∀ (l : List (Nat × List Int)) (pg : List (List Int × List Int)),(∀ x∈l,x.1 < pg.length)→(∀ x∈l,Byt x.2∧x.2.length = n)→(∀ x∈pg,(Byt x.1∧x.1.length = n)∧Byt x.2∧x.2.length = n)→∀ x∈syncP pg l,(Byt x.1∧x.1.length = n)∧Byt x.2∧x.2.length = n
  | [],pg,_,_,h => h
  | y :: l,pg,h0,h1,h => by
    refine byd_syncP l _ (fun x hx => by rw [List.length_set]; exact h0 x (by simp [hx])) (fun x hx => h1 x (by simp [hx])) fun x hx => ?_
    rcases List.mem_or_eq_of_mem_set hx with e | e
    · exact h x e
    · subst e
      have hy := h0 y (by simp)
      refine ⟨h1 y (by simp),?_⟩
      rw [List.getD_eq_getElem?_getD,List.getElem?_eq_getElem hy]
      exact (h _ (List.getElem_mem hy)).2
theorem Byd.sync {M : SM} (h : Byd M) (hl : ∀ x∈M.loose,x.1 < M.pg.length) : Byd (syncM M) := ⟨byd_syncP M.loose M.pg hl h.lo h.pg,by intro x hx; cases hx⟩
theorem byt_rep (n : Nat) : Byt (List.replicate n 0) := fun x hx => by have := List.eq_of_mem_replicate hx; omega
theorem Byd.grow {M : SM} (h : Byd M) (k : Nat) (o : Bool) : Byd (growM M k o) := ⟨fun x hx => by
  rcases List.mem_append.1 hx with e | e
  · exact h.pg x e
  · have := List.eq_of_mem_replicate e
    subst this
    exact ⟨⟨byt_rep _,by simp; rfl⟩,byt_rep _,by simp; rfl⟩,h.lo⟩
theorem Byd.jgr {M : SM} (h : Byd M) (n : Nat) : Byd (jgrM M n) := by
  unfold jgrM
  split
  · exact h
  · split
    · exact h.cnt.grow _ _
    · exact h.cnt
theorem Byd.fm {M : SM} {c : Nat} (h : Byd M) (hW : Wel M c) (hf : M.fails = false) (hl : 2≤M.limit) : Byd (fmM M) := by
  obtain ⟨z1,z2,z3⟩ := jgrM_size M 2
  have l1 := jgrM_len hf hl
  have w1 := (hW.jgr (n := 2)).wr (i := 1) (bs := mpage fm0 M.size) (by omega)
  have hs := hW.s1
  exact ((h.jgr 2).wr (by omega) (mpage_byt _ _) (by rw [mpage_len (by omega),z1])).sync w1.lin
theorem Byd.cntK {M : SM} (h : Byd M) : ∀ k,Byd (cntK M k)
  | 0 => h
  | k + 1 => (Byd.cntK h k).cnt
theorem Byd.lm {M : SM} {c : Nat} (h : Byd M) (hW : Wel M c) (hf : M.fails = false) (hl : 2≤M.limit) : Byd (lmM M) := by
  unfold lmM
  split
  · exact h.fm hW hf hl
  · split
    · exact h
    · split
      · exact (h.cntK 2).fm (cntK_wel hW 2) (cntK_calm hf 2) (by rw [(cntK_same M 2).2.2.1]; exact hl)
      · exact h.cntK 2
theorem Wel.fm {M : SM} {c : Nat} (hW : Wel M c) (hf : M.fails = false) (hl : 2≤M.limit) : Wel (fmM M) (c + 3) := by
  have l1 := jgrM_len hf hl
  exact ((hW.jgr (n := 2)).wr (i := 1) (bs := mpage fm0 M.size) (by omega)).sync
theorem Wel.lm {M : SM} {c : Nat} (hW : Wel M c) (hf : M.fails = false) (hl : 2≤M.limit) : Wel (lmM M) (c + 5) := by
  unfold lmM
  split
  · exact (hW.fm hf hl).mono (by omega)
  · split
    · exact hW.mono (by omega)
    · split
      · exact ((cntK_wel hW 2).fm (cntK_calm hf 2) (by rw [(cntK_same M 2).2.2.1]; exact hl)).mono (by omega)
      · exact (cntK_wel hW 2).mono (by omega)
theorem fm_calm {M : SM} (hf : M.fails = false) : (fmM M).fails = false := sync_calm (wr_calm (jgrM_calm hf 2) _ _)
theorem lm_calm {M : SM} (hf : M.fails = false) : (lmM M).fails = false := by
  unfold lmM
  split
  · exact fm_calm hf
  · split
    · exact hf
    · split
      · exact fm_calm (cntK_calm hf 2)
      · exact cntK_calm hf 2
theorem fm_same (M : SM) : (fmM M).size = M.size∧(fmM M).limit = M.limit := ⟨(jgrM_size M 2).1,(jgrM_size M 2).2.1⟩
theorem lm_same (M : SM) : (lmM M).size = M.size∧(lmM M).limit = M.limit := by
  unfold lmM
  split
  · exact fm_same M
  · split
    · exact ⟨rfl,rfl⟩
    · split
      · exact ⟨(fm_same _).1.trans (cntK_same M 2).2.1,(fm_same _).2.trans (cntK_same M 2).2.2.1⟩
      · exact ⟨(cntK_same M 2).2.1,(cntK_same M 2).2.2.1⟩
theorem fm_len {M : SM} (hf : M.fails = false) (hl : 2≤M.limit) : 2≤(fmM M).pg.length := by
  have l1 := jgrM_len hf hl
  unfold fmM
  show 2≤(syncP _ _).length
  rw [syncP_len]
  show 2≤(List.set _ _ _).length
  rw [List.length_set]
  exact l1
theorem mright_of {b : List Int} (h : mgetE b = 0) : mright (mgetM b) = true := by rw [mgetM_yes h]; exact (mget_told h).right
theorem chM_right {a b : List Int} (h : 1≤(chM a b).t) : mright (chM a b) = true := by
  unfold chM at h ⊢
  split at h
  · rename_i k
    rw [if_pos k]
    exact mright_of (isOf_t k.1).1
  · rename_i k
    rw [if_neg k]
    unfold firstM at h ⊢
    split at h
    · rename_i k2
      rw [if_pos k2]
      exact mright_of (isOf_t k2).1
    · exact absurd h (by decide)
theorem lm_len {M : SM} {mt : Mt} (h : Byd M) (hf : M.fails = false) (hl : 2≤M.limit) (hr : lmR M = (mt,0)) : mt.e≤(lmM M).pg.length∧mt.e≤M.limit∧MtOk mt∧mright mt = true := by
  unfold lmR at hr
  unfold lmM
  split at hr
  · rename_i k
    rw [if_pos k]
    cases hr
    exact ⟨fm_len hf hl,hl,fm0_ok,by decide⟩
  · rename_i k
    rw [if_neg k]
    split at hr
    · cases hr
    · rename_i k1
      rw [if_neg k1]
      split at hr
      · rename_i k2
        rw [if_pos k2]
        cases hr
        exact ⟨fm_len (cntK_calm hf 2) (by rw [(cntK_same M 2).2.2.1]; exact hl),hl,fm0_ok,by decide⟩
      · rename_i k2
        rw [if_neg k2]
        unfold nmR at hr
        split at hr
        · rename_i k3
          cases hr
          refine ⟨?_,?_,chM_ok (h.at (by omega)).2.1 (h.at (by omega)).2.1,chM_right k3.1⟩
          · rw [(cntK_same M 2).1]; have := k3.2; omega
          · have := k3.2; omega
        · cases hr
def opM (M : SM) : SM := lmM (syncM M)
structure OpOk (M : SM) (F : FV) : Prop where
  mt : lmR (syncM M) = (F.mt,0)
  ch : LCh (opM M) F.mt.e F.mt.f F.ls F.ps
  nd : F.ls.Nodup
  ok : okRecsM (gatherL F.ps) F.mt = true
  st : F.st = false
theorem lmR_codes (M : SM) : (lmR M).2 = 0∨lmR M = (mt0,24) := by
  unfold lmR
  split
  · exact .inl rfl
  · split
    · exact .inr rfl
    · split
      · exact .inl rfl
      · unfold nmR; split
        · exact .inl rfl
        · exact .inr rfl
def OpenR (B d : Nat) (w : World) (M : SM) (r : Ending) (w' : World) : Prop :=
  (∃ k,k≤M.limit + 1∧PD B w' d (cntK (opM M) k))∧Dfr B w w' ∧
  ((∃ F f,OpOk M F∧r = .returned (.tuple #[.pointer (some ⟨f,0,none⟩),.int .i64 0])∧FileAt w.heap.size w' f d F)∨(r = .returned (.tuple #[.pointer none,.int .i64 24])∧∀ F,¬ OpOk M F))
theorem file_put {B f d base : Nat} {w : World} {mt : Mt} {la : Option Addr} {lc : Nat} {pa : Option Addr} {pc : Nat} {ls : List Nat} {ps : List Pr} {x5 x6 : Value} (hB : B≤f)
    (hb : w.heap[f]? = some (.cells #[.pointer (some ⟨d,0,none⟩),.int .u64 (mt.t : Int),.int .u32 (mt.e : Int),.int .u32 (mt.m : Int),.int .u32 (mt.f : Int),x5,x6,.bool false] 138 (0,0)))
    (hl : OwnP base w (.slice la ls.length lc) ls) (hp : POwn 304 base w (.slice pa ps.length pc) ps) (h0 : ls = []→la = none∧lc = 0) :
    FileAt B ((w.setCell ⟨f,6,none⟩ (.slice la ls.length lc)).setCell ⟨f,5,none⟩ (.slice pa ps.length pc)) f d ⟨mt,ps,ls,false⟩∧Kfr (fun x => x = some 138) 0 w ((w.setCell ⟨f,6,none⟩ (.slice la ls.length lc)).setCell ⟨f,5,none⟩ (.slice pa ps.length pc)) := by
  have k1 := kfr_set hb 6 (.slice la ls.length lc)
  have e1 : _ = some (Obj.cells #[.pointer (some ⟨d,0,none⟩),.int .u64 (mt.t : Int),.int .u32 (mt.e : Int),.int .u32 (mt.m : Int),.int .u32 (mt.f : Int),x5,.slice la ls.length lc,.bool false] 138 (0,0)) := heap_setCell_same _ f 6 _ 138 (.slice la ls.length lc) hb
  have k2 := kfr_set e1 5 (.slice pa ps.length pc)
  have e2 : _ = some (Obj.cells #[.pointer (some ⟨d,0,none⟩),.int .u64 (mt.t : Int),.int .u32 (mt.e : Int),.int .u32 (mt.m : Int),.int .u32 (mt.f : Int),.slice pa ps.length pc,.slice la ls.length lc,.bool false] 138 (0,0)) := heap_setCell_same _ f 5 _ 138 (.slice pa ps.length pc) e1
  have k := k1.trans k2
  refine ⟨⟨hB,pa,pc,la,lc,e2,(hp.kfr k (by simp)).prt,(hl.kfr k (by simp)).pgt,h0⟩,k⟩
set_option maxRecDepth 20000 in
set_option maxHeartbeats 8000000 in
theorem open_any {B d c : Nat} {w : World} {M : SM} (h : PD B w d M) (hW : Wel M c) (hc : c≤10000) (hf : M.fails = false) (hl : 2≤M.limit) (hl2 : M.limit≤290) (hb : Byd M) :
    Calls Tryz.prog 16 #[.pointer (some ⟨d,0,none⟩)] w fun r w' => OpenR B d w M r w' := by
  have hD := Lib.hid h
  have w1 := hW.sync
  have f1 := sync_calm hf
  have b1 := hb.sync hW.lin
  have K1 := Lib.hid (PD.sync h (hW.fine (by omega)) hW.lin (by have := hW.lo; omega) (by have := hW.p; have := hW.l; omega))
  rw [calm_cE hf,syX_calm hf] at K1
  have K2 := Lib.hid (fun W (k : PD B W d (syncM M)) => lastMeta_any k w1 (by omega) f1 hl (fun x hx => (b1.pg x hx).2.1))
  have w2 : Wel (opM M) (c + 6) := (w1.lm f1 hl).mono (by omega)
  have f2 : (opM M).fails = false := lm_calm f1
  have b2 : Byd (opM M) := b1.lm w1 f1 hl
  have s2 : (opM M).size = M.size∧(opM M).limit = M.limit := lm_same _
  rcases lmR_codes (syncM M) with e0 | e0
  · obtain ⟨mt,hmt⟩ : ∃ mt,lmR (syncM M) = (mt,0) := ⟨_,Prod.ext rfl e0⟩
    obtain ⟨L1,L2,L3,L4⟩ := lm_len b1 f1 hl hmt
    have hE : mt.e≤290 := by have : (syncM M).limit = M.limit := rfl; omega
    have HMT := Lib.hid hmt
    rw [hmt] at K2
    have KRL := Lib.hid (fun W f (k : PD B W d (opM M)) (kf : FileAt w.heap.size W f d ⟨mt,[],[],false⟩) => readLists_any (first := mt.f) k kf w2 (by omega) f2 L1 (fun x hx => (b2.pg x hx).2) L3.f ⟨rfl,rfl⟩)
    have KRR := Lib.hid (fun W R ao n c rs (hs : RSq R W (.slice ao n c) rs) => rightRecords_any W R ao n c rs mt L3 hs)
    have KRE := Lib.hid (fun W f F (k : FileAt w.heap.size W f d F) hl => frecords_any k hl)
    have hmeq : opM M = lmM (syncM M) := rfl
    rw [← hmeq] at K2
    have hml : mt.e≤M.limit := L2
    clear hW hf hb w1 f1 b1 w2 f2 b2 s2 hmeq e0 hmt L1 L2 h
    obtain ⟨T,e,m,fr⟩ := mt
    simp only [mtC] at K2 KRR
    by_cases hch : ∃ ls ps,LCh (opM M) e fr ls ps∧ls.Nodup
    · obtain ⟨ls,ps,hch,hnd⟩ := hch
      have HCH := Lib.hid hch
      have HND := Lib.hid hnd
      obtain ⟨ok,hok⟩ : ∃ ok,ok = okRecsM (gatherL ps) ⟨T,e,m,fr⟩ := ⟨_,rfl⟩
      have HOK := Lib.hid hok
      have hle : ls.length≤e := nodup_few e ls hnd fun x hx => (hch.range x hx).2
      clear hch hnd hok
      go_enter Tryz.func16,Tryz.ntmps16
      go_wp2_with (first
        | (go_at_call 59; ((with_reducible refine K1.out.mono ?_); rintro r w1 ⟨rfl,hd,hf⟩); have HD1 := Lib.hid hd; have HF1 := Lib.hid hf; clear hd hf)
        | (go_at_call 61; ((with_reducible refine (K2.out _ HD1.out).mono ?_); rintro r w2 ⟨rfl,hd,hf⟩); have HD2 := Lib.hid hd; have HF2 := Lib.hid (HF1.out.trans hf); clear hd hf HD1 HF1)
        | (go_at_call 62; have HQF := Lib.hid (show w.heap.size≤w2.heap.size + 1 by have := HF2.out.size; omega); have HT := Lib.hid (two_blocks (w := w2) rfl (a := .cells #[.int .u64 (T : Int),.int .u32 (e : Int),.int .u32 (m : Int),.int .u32 (fr : Int)] 44) (b := .cells #[.pointer (some ⟨d,0,none⟩),.int .u64 (T : Int),.int .u32 (e : Int),.int .u32 (m : Int),.int .u32 (fr : Int),.slice none 0 0,.slice none 0 0,.bool false] 138)); have HFA := Lib.hid (show FileAt w.heap.size ((w2.alloc (.cells #[.int .u64 (T : Int),.int .u32 (e : Int),.int .u32 (m : Int),.int .u32 (fr : Int)] 44)).alloc (.cells #[.pointer (some ⟨d,0,none⟩),.int .u64 (T : Int),.int .u32 (e : Int),.int .u32 (m : Int),.int .u32 (fr : Int),.slice none 0 0,.slice none 0 0,.bool false] 138)) (w2.heap.size + 1) d ⟨⟨T,e,m,fr⟩,[],[],false⟩ from ⟨by have := HF2.out.size; omega,none,0,none,0,HT.out.2.1,prt_nil _,pgt_nil _,fun _ => ⟨rfl,rfl⟩⟩); ((with_reducible refine (KRL.out _ _ (HD2.out.new HT.out.2.2) HFA.out).mono ?_); rintro r w4 hk; obtain ⟨la,lc,pa,pc,rfl,h3,h4,h5,h6⟩ := rl_yes hk HCH.out HND.out; obtain ⟨⟨k,hk,hd⟩,hf,_⟩ := hk); have HLO := Lib.hid h4; have HPO := Lib.hid h5; have HNL := Lib.hid h6; have HP3 := Lib.hid h3; clear h3 h4 h5 h6; have HD4 := Lib.hid hd; have HF4 := Lib.hid ((HF2.out.trans (dfr_new HT.out.2.2)).trans hf); have HB4 := Lib.hid (dfr_cells hf HT.out.2.1 (by decide)); have HM4 := Lib.hid (dfr_cells hf HT.out.1 (by decide)); clear hd hf HT HFA HD2 HF2; obtain ⟨c0,c1,c2,c3,c4,c5,c6,c7⟩ := fcells8 HB4.out; have fz5 := free_row HB4.out 5; have fz6 := free_row HB4.out 6))
      obtain ⟨hfi,kf⟩ := file_put (mt := ⟨T,e,m,fr⟩) HQF.out HB4.out HLO.out HPO.out HNL.out
      have HFI := Lib.hid hfi
      have HM5 := Lib.hid (kf.cells HM4.out (by simp))
      have HD5 := Lib.hid (HD4.out.kfr kf (by simp) (by simp) (by simp) (by simp))
      have HF5 := Lib.hid ((HF4.out.nset HQF.out 6 (.slice la ls.length lc)).nset HQF.out 5 (.slice pa ps.length pc))
      clear hfi kf c0 c1 c2 c3 c4 c5 c6 c7 fz5 fz6
      generalize (w4.setCell ⟨w2.heap.size + 1,6,none⟩ (.slice la ls.length lc)).setCell ⟨w2.heap.size + 1,5,none⟩ (.slice pa ps.length pc) = W5 at HFI HM5 HD5 HF5 ⊢
      have HMC := Lib.hid (fun w' (k : W5.grownBy w' none) => mt_cells ((k.block _ (lt_of_block HM5.out) (by simp)).trans HM5.out))
      have hps9 : ps.length≤100000 := by have := HP3.out; omega
      go_region_held3 (fun w' => w'.cell? ⟨w2.heap.size,0,none⟩ = some (.int .u64 (T : Int))∧w'.cell? ⟨w2.heap.size,1,none⟩ = some (.int .u32 (e : Int))∧w'.cell? ⟨w2.heap.size,2,none⟩ = some (.int .u32 (m : Int))∧w'.cell? ⟨w2.heap.size,3,none⟩ = some (.int .u32 (fr : Int)))
        (first | (with_reducible exact (HMC.out _ (gdrew W5))) | (with_reducible exact (HMC.out _ HG6.out)) | (with_reducible exact (HMC.out _ HG7.out)))
        (first
          | (go_at_call 37; ((with_reducible refine (KRE.out _ _ _ (HFI.out.new (gdrew W5)) hps9).mono ?_); rintro r w6 ⟨v,es,rfl,ho,he,hg⟩); have HG6 := Lib.hid (gtrans (gdrew W5) hg); have hrs := ho.rsq; rw [he] at hrs; obtain ⟨a6,c6,e6⟩ := hrs.shape; subst e6; have HO6 := Lib.hid hrs; clear ho he hg hrs)
          | (go_at_call 63; have K := KRR.out w6 _ _ _ _ _ HO6.out; rw [← HOK.out] at K; ((with_reducible refine K.mono ?_); clear K; rintro r w7 ⟨rfl,hg⟩); have HG7 := Lib.hid (gtrans HG6.out hg); clear hg))
      cases ok
      · go_wp2
        go_ret2
        refine ⟨⟨k,by omega,HD5.out.new HG7.out⟩,HF5.out.trans (dfr_new HG7.out),.inr ⟨rfl,fun F kk => ?_⟩⟩
        have e1 := kk.mt
        rw [HMT.out] at e1
        have e2 : F.mt = ⟨T,e,m,fr⟩ := (congrArg Prod.fst e1).symm
        have e3 := kk.ch
        rw [e2] at e3
        obtain ⟨e4,e5⟩ := e3.uniq HCH.out
        have e6 := kk.ok
        rw [e5,e2,← HOK.out] at e6
        cases e6
      · go_wp2
        go_ret2
        exact ⟨⟨k,by omega,HD5.out.new HG7.out⟩,HF5.out.trans (dfr_new HG7.out),.inl ⟨⟨⟨T,e,m,fr⟩,ps,ls,false⟩,w2.heap.size + 1,⟨HMT.out,HCH.out,HND.out,HOK.out.symm,rfl⟩,rfl,HFI.out.new HG7.out⟩⟩
    · have HNO := Lib.hid (show ∀ F,¬ OpOk M F from fun F k => hch ⟨F.ls,F.ps,by
        have e1 := k.mt
        rw [HMT.out] at e1
        have e2 : F.mt = ⟨T,e,m,fr⟩ := (congrArg Prod.fst e1).symm
        have := k.ch
        rw [e2] at this
        exact this,k.nd⟩)
      have HCH := Lib.hid hch
      clear hch
      go_enter Tryz.func16,Tryz.ntmps16
      go_wp2_with (first
        | (go_at_call 59; ((with_reducible refine K1.out.mono ?_); rintro r w1 ⟨rfl,hd,hf⟩); have HD1 := Lib.hid hd; have HF1 := Lib.hid hf; clear hd hf)
        | (go_at_call 61; ((with_reducible refine (K2.out _ HD1.out).mono ?_); rintro r w2 ⟨rfl,hd,hf⟩); have HD2 := Lib.hid hd; have HF2 := Lib.hid (HF1.out.trans hf); clear hd hf HD1 HF1)
        | (go_at_call 62; have HQF := Lib.hid (show w.heap.size≤w2.heap.size + 1 by have := HF2.out.size; omega); have HT := Lib.hid (two_blocks (w := w2) rfl (a := .cells #[.int .u64 (T : Int),.int .u32 (e : Int),.int .u32 (m : Int),.int .u32 (fr : Int)] 44) (b := .cells #[.pointer (some ⟨d,0,none⟩),.int .u64 (T : Int),.int .u32 (e : Int),.int .u32 (m : Int),.int .u32 (fr : Int),.slice none 0 0,.slice none 0 0,.bool false] 138)); have HFA := Lib.hid (show FileAt w.heap.size ((w2.alloc (.cells #[.int .u64 (T : Int),.int .u32 (e : Int),.int .u32 (m : Int),.int .u32 (fr : Int)] 44)).alloc (.cells #[.pointer (some ⟨d,0,none⟩),.int .u64 (T : Int),.int .u32 (e : Int),.int .u32 (m : Int),.int .u32 (fr : Int),.slice none 0 0,.slice none 0 0,.bool false] 138)) (w2.heap.size + 1) d ⟨⟨T,e,m,fr⟩,[],[],false⟩ from ⟨by have := HF2.out.size; omega,none,0,none,0,HT.out.2.1,prt_nil _,pgt_nil _,fun _ => ⟨rfl,rfl⟩⟩); ((with_reducible refine (KRL.out _ _ (HD2.out.new HT.out.2.2) HFA.out).mono ?_); rintro r w4 hk; obtain rfl := rl_no hk HCH.out; obtain ⟨⟨k,hk,hd⟩,hf,_⟩ := hk); have HD4 := Lib.hid hd; have HF4 := Lib.hid ((HF2.out.trans (dfr_new HT.out.2.2)).trans hf); have HB4 := Lib.hid (dfr_cells hf HT.out.2.1 (by decide)); have HM4 := Lib.hid (dfr_cells hf HT.out.1 (by decide)); clear hd hf HT HFA HD2 HF2; obtain ⟨c0,c1,c2,c3,c4,c5,c6,c7⟩ := fcells8 HB4.out; have fz5 := free_row HB4.out 5; have fz6 := free_row HB4.out 6))
      go_ret2
      have kf := (kfr_set HB4.out 6 (.slice none 0 0))
      have hb5 : _ = some (Obj.cells _ 138 (0,0)) := heap_setCell_same _ (w2.heap.size + 1) 6 _ 138 (.slice none 0 0) HB4.out
      have kf2 := kf.trans (kfr_set hb5 5 (.slice none 0 0))
      exact ⟨⟨k,by omega,HD4.out.kfr kf2 (by simp) (by simp) (by simp) (by simp)⟩,(HF4.out.nset HQF.out 6 _).nset HQF.out 5 _,.inr ⟨rfl,HNO.out⟩⟩
  · have HNO := Lib.hid (show ∀ F,¬ OpOk M F from fun F k => by
      have e1 := k.mt
      rw [e0] at e1
      have e2 := congrArg Prod.snd e1
      simp at e2)
    rw [e0] at K2
    have hmeq : opM M = lmM (syncM M) := rfl
    rw [← hmeq] at K2
    clear hW hf hb w1 f1 b1 w2 f2 b2 s2 hmeq e0 h
    have HM0 : Hid (mtC mt0 = #[.int .u64 0,.int .u32 0,.int .u32 0,.int .u32 0]) := Lib.hid rfl
    rw [HM0.out] at K2
    go_enter Tryz.func16,Tryz.ntmps16
    go_wp2_with (first
      | (go_at_call 59; ((with_reducible refine K1.out.mono ?_); rintro r w1 ⟨rfl,hd,hf⟩); have HD1 := Lib.hid hd; have HF1 := Lib.hid hf; clear hd hf)
      | (go_at_call 61; ((with_reducible refine (K2.out _ HD1.out).mono ?_); rintro r w2 ⟨rfl,hd,hf⟩); have HD2 := Lib.hid hd; have HF2 := Lib.hid (HF1.out.trans hf); clear hd hf HD1 HF1))
    go_ret2
    exact ⟨⟨0,by omega,HD2.out.new (World.grownBy_alloc _ _ _)⟩,HF2.out.trans (dfr_new (World.grownBy_alloc _ _ _)),.inr ⟨rfl,HNO.out⟩⟩
end Go.Proofs.YtnnmpaenainogaaGreat

/-
  Layer 11: after, rightMain, freePairs, takeLists. Own work.
-/
import Derived.Test.YtnnmpaenainogaaGreatPrnBJ
import Derived.Test.YtnnmpaenainogaaGreatPrnBM
import Derived.Test.YtnnmpaenainogaaGreatPrnAP

set_option linter.unusedVariables false
set_option linter.unusedSimpArgs false
namespace Go.Proofs.YtnnmpaenainogaaGreat
open Go.RowKit Go.Maps
def aftL (l : List Nat) (i : Nat) : Nat := l.getD i 0
set_option maxHeartbeats 1000000 in
theorem after_any (w : World) (R : Nat→Prop) (ao : Option Addr) (n c : Nat) (l : List Nat) (h : PSq R w (.slice ao n c) l) (i : Nat) (x : Int) (hx : x = (i : Int)) :
    Calls Tryz.prog 176 #[.slice ao n c,.int .i64 x] w fun r w' => r = .returned (.int .u32 ((aftL l i : Nat) : Int))∧w = w' := by
  subst hx
  obtain ⟨rfl,_⟩ := h.len
  unfold aftL
  by_cases hi : i < l.length
  · obtain ⟨b,o,rfl,_,hc⟩ := h.at i hi
    generalize l.getD i 0 = p at hc ⊢
    clear h
    go_enter Tryz.func176,Tryz.ntmps176
    go_wp2
    go_ret
    exact ⟨rfl,rfl⟩
  · have e : l.getD i 0 = 0 := by rw [List.getD_eq_getElem?_getD,List.getElem?_eq_none (by omega)]; rfl
    rw [e]
    clear h e
    go_enter Tryz.func176,Tryz.ntmps176
    go_wp2
    go_ret
    exact ⟨rfl,rfl⟩
def rmain (e p : Nat) : Bool := decide (p = 0) || (decide (2≤p) && decide (p < e))
set_option maxHeartbeats 1000000 in
theorem rmain_any {B x S p : Nat} {w : World} {T : TV} (h : DraftAt B w x S T) (hp : p < 4294967296) (y : Int) (hy : y = (p : Int)) :
    Calls Tryz.prog 70 #[.pointer (some ⟨x,0,none⟩),.int .u32 y] w fun r w' => r = .returned (.bool (rmain T.sp.en p))∧w = w' := by
  subst hy
  obtain ⟨hx,Bs,mb,hb,h1,h2,h3,⟨H,hs,hH⟩,hpg⟩ := h
  have KE := Lib.hid (send_any w Bs T.sp hs)
  obtain ⟨c0,c1,c2⟩ := cells3 hb
  clear hb hs hH hpg
  unfold rmain
  by_cases e0 : p = 0
  · subst e0
    go_enter Tryz.func70,Tryz.ntmps70
    go_wp2
    go_ret
    exact ⟨rfl,rfl⟩
  · have e0d : ((p : Int) == 0) = false := by simp; exact e0
    by_cases e2 : 2≤p
    · have hd : decide (p = 0) = false := by simp; exact e0
      have hd2 : decide (2≤p) = true := by simp; exact e2
      rw [hd,hd2]
      go_enter Tryz.func70,Tryz.ntmps70
      go_wp2_with (first
        | (go_at_call 118; ((with_reducible refine KE.out.mono ?_); rintro r w1 ⟨rfl,rfl⟩)))
      go_ret
      exact ⟨by simp,rfl⟩
    · have hd : decide (p = 0) = false := by simp; exact e0
      have hd2 : decide (2≤p) = false := by simp; omega
      rw [hd,hd2]
      go_enter Tryz.func70,Tryz.ntmps70
      go_wp2
      go_ret
      exact ⟨rfl,rfl⟩
structure Few (sp : Sp) (n : Nat) : Prop where
  us : sp.us.length≤100000
  go : sp.go.length≤100000
  ws : ∀ r∈sp.ws,r.2≠[]∧r.2.length≤100000
  wl : sp.ws.length≤100000
  n64 : n < 18446744073709551616
  fl : (flatR (recsM sp n)).length≤100000
  ok : ∀ r∈recsM sp n,r.1 < 18446744073709551616∧∀ p∈r.2,p < 4294967296
set_option maxHeartbeats 2000000 in
theorem freePairs_any {B x S : Nat} {w : World} {T : TV} (h : DraftAt B w x S T) (hf : Few T.sp T.n) :
    Calls Tryz.prog 174 #[.pointer (some ⟨x,0,none⟩)] w fun r w' => ∃ ao c,r = .returned (.slice ao (flatR (recsM T.sp T.n)).length c)∧POwn 304 w.heap.size w' (.slice ao (flatR (recsM T.sp T.n)).length c) (flatR (recsM T.sp T.n))∧w.grownBy w' none := by
  obtain ⟨hx,Bs,mb,hb,h1,h2,h3,⟨H,hs,hH⟩,hpg⟩ := h
  have HSP := Lib.hid (fun W (g : w.grownBy W none) => records_any 100000 sort_many (Nat.le_refl _) W Bs T.n T.sp (hs.grown g) hf.us hf.go hf.ws hf.wl hf.n64)
  have HFL := Lib.hid (fun W R ao n c (k : RSq R W (.slice ao n c) (recsM T.sp T.n)) (hn : n≤140737488355328) => flat_any W R ao n c (recsM T.sp T.n) k hn (by have := hf.fl; omega))
  have HOK := Lib.hid (flatR_ok hf.ok)
  have HRL := Lib.hid (show (recsM T.sp T.n).length≤200000 by
    have e1 : ∀ (L : List Nat) t,(recM L t).length≤1 := fun L t => by unfold recM; split <;> simp
    have := e1 T.sp.us 0
    have := e1 T.sp.go T.n
    have := hf.wl
    unfold recsM; simp; omega)
  have HCL := Lib.hid (fun W' (g : w.grownBy W' none) => cells3 ((g.block _ (lt_of_block hb) (by simp)).trans hb))
  generalize recsM T.sp T.n = rs at HSP HFL HOK HRL ⊢
  generalize flatR rs = ps at HFL HOK ⊢
  clear hb hs hH hpg hf
  go_enter Tryz.func174,Tryz.ntmps174
  go_wp2
  go_region_held3 (fun W' => W'.cell? ⟨x,0,none⟩ = some (.int .u64 (T.n : Int))∧W'.cell? ⟨x,1,none⟩ = some (.pointer (some ⟨Bs + 4,0,none⟩))∧W'.cell? ⟨x,2,none⟩ = some (.map (some mb)))
    (first | (with_reducible exact (HCL.out _ (gdrew w))) | (with_reducible exact (HCL.out _ HG2.out)) | (with_reducible exact (HCL.out _ HG3.out)))
    (first
      | (go_at_call 214; ((with_reducible refine (HSP.out _ (gdrew w)).mono ?_); rintro r w2 ⟨v,es,rfl,ho,he,hg⟩); have HG2 := Lib.hid (gtrans (gdrew w) hg); have hrs := ho.rsq; rw [he] at hrs; obtain ⟨a2,c2,e2⟩ := hrs.shape; subst e2; have HO2 := Lib.hid hrs; clear ho he hg hrs)
      | (go_at_call 213; ((with_reducible refine (HFL.out w2 _ _ _ _ HO2.out (by have := HRL.out; omega)).mono ?_); rintro r w3 ⟨v3,rfl,ho,hg⟩); have HG3 := Lib.hid (gtrans HG2.out hg); obtain ⟨a3,c3,e3⟩ := own_shape ho; subst e3; have HO3 := Lib.hid (own_base ho HG2.out.size); clear ho hg))
  all_goals
    go_wp2
    go_ret
    exact ⟨a3,c3,rfl,⟨HO3.out,HOK.out⟩,HG3.out⟩
end Go.Proofs.YtnnmpaenainogaaGreat

namespace Go.Proofs.YtnnmpaenainogaaGreat
open Go.RowKit Go.Maps
structure TkOk (sp : Sp) : Prop where
  su : Srt sp.us
  low : ∀ x∈sp.us,sp.low≤x
  en : sp.en≤sp.lim
  lim : sp.lim≤65536
  u32 : ∀ x∈sp.us,x < 4294967296
theorem take_ok {sp sp' : Sp} {p : Nat} (h : TkOk sp) (ht : takeM sp = (sp',p,0)) : TkOk sp'∧p < 4294967296∧sp'.us.length + (sp'.lim - sp'.en) + 1 = sp.us.length + (sp.lim - sp.en)∧sp'.go = sp.go∧sp'.ws = sp.ws∧sp'.lim = sp.lim := by
  unfold takeM at ht
  split at ht
  · rename_i q r hu
    injection ht with e1 e2
    injection e2 with e2 _
    subst e1; subst e2
    have hs := h.su
    rw [hu] at hs
    obtain ⟨h1,h2⟩ := List.pairwise_cons.1 hs
    refine ⟨⟨h2,fun x hx => Nat.le_of_lt (h1 x hx),h.en,h.lim,fun x hx => h.u32 x (by rw [hu]; simp [hx])⟩,h.u32 _ (by rw [hu]; simp),?_,rfl,rfl,rfl⟩
    rw [hu]; simp; omega
  · rename_i hu
    split at ht
    · injection ht with _ e2
      injection e2 with _ e3
      cases e3
    · rename_i hne
      injection ht with e1 e2
      injection e2 with e2 _
      subst e1; subst e2
      have h1 := h.en
      have h2 := h.lim
      refine ⟨⟨h.su,h.low,by show sp.en + 1≤sp.lim; omega,h.lim,h.u32⟩,by omega,?_,rfl,rfl,rfl⟩
      show sp.us.length + (sp.lim - (sp.en + 1)) + 1 = _
      omega
theorem take_codes (sp : Sp) : (takeM sp).2.2 = 0∨takeM sp = (sp,0,21) := by
  unfold takeM
  split
  · exact .inl rfl
  · split
    · exact .inr rfl
    · exact .inl rfl
inductive TakeTo (S : Nat) (O : Int) : Sp→List Nat→Sp→List Nat→Prop
  | refl (sp : Sp) (l : List Nat) : TakeTo S O sp l sp l
  | step {a b c : Sp} {l m : List Nat} {p : Nat} : TakeTo S O a l b m→(m.length : Int) < manyF (O + (b.us.length : Int)) (S : Int)→takeM b = (c,p,0)→TakeTo S O a l c (m++[p])
def TLR (B x S FL : Nat) (w : World) (T : TV) (r : Ending) (w' : World) : Prop :=
  Kfr KS B w w' ∧
  ((∃ sp' l la lc,r = .returned (.tuple #[.slice la l.length lc,.int .i64 0])∧TakeTo S ((FL : Int) - (T.sp.us.length : Int)) T.sp [] sp' l∧¬ ((l.length : Int) < manyF ((FL : Int) - (T.sp.us.length : Int) + (sp'.us.length : Int)) (S : Int))∧OwnP w.heap.size w' (.slice la l.length lc) l∧(l = []→la = none∧lc = 0)∧DraftAt B w' x S { T with sp := sp' }∧TkOk sp') ∨
   (∃ sp' l,r = .returned (.tuple #[.slice none 0 0,.int .i64 21])∧TakeTo S ((FL : Int) - (T.sp.us.length : Int)) T.sp [] sp' l∧takeM sp' = (sp',0,21)∧DraftAt B w' x S { T with sp := sp' }))
structure DraftH (B : Nat) (w0 w : World) (x S : Nat) (T : TV) (Bs mb : Nat) (H : Nat→Prop) : Prop where
  hx : B≤x
  box : w.heap[x]? = some (.cells #[.int .u64 (T.n : Int),.pointer (some ⟨Bs + 4,0,none⟩),.map (some mb)] 148 (0,0))
  h1 : B≤Bs
  h2 : B≤mb
  h3 : mb < Bs∨Bs + 5≤mb
  sp : SpAt Bs H w T.sp
  hH : ∀ b,H b→ek w0 b = some 158∨ek w0 b = some 42
  same : ∀ b,H b→w.heap[b]? = w0.heap[b]?
  pg : PgsAt w mb S T.K T.C
theorem DraftAt.un {B x S : Nat} {w : World} {T : TV} (h : DraftAt B w x S T) : ∃ Bs mb H,DraftH B w w x S T Bs mb H := by
  obtain ⟨hx,Bs,mb,hb,h1,h2,h3,⟨H,hs,hH⟩,hpg⟩ := h
  exact ⟨Bs,mb,H,hx,hb,h1,h2,h3,hs,hH,fun _ _ => rfl,hpg⟩
section
variable {B x S Bs mb : Nat} {w0 w w' : World} {T : TV} {H : Nat→Prop}
theorem DraftH.at (h : DraftH B w0 w x S T Bs mb H) : DraftAt B w x S T := ⟨h.hx,Bs,mb,h.box,h.h1,h.h2,h.h3,⟨H,h.sp,fun b hb => by rw [ek_same (h.same b hb)]; exact h.hH b hb⟩,h.pg⟩
theorem DraftH.far {P : Option TypeId→Prop} (h : DraftH B w0 w x S T Bs mb H) (k : Kfr P w0.heap.size w w') (hx : x < w0.heap.size) (hm : mb < w0.heap.size) (hB : Bs + 5≤w0.heap.size) (h8 : ¬ P (some 5)) : DraftH B w0 w' x S T Bs mb H := by
  have hk : ∀ b,b < w0.heap.size→b < w.heap.size→w'.heap[b]? = w.heap[b]? := fun b e1 e2 => k.block b e2 (.inl e1)
  have hs : ∀ b,H b→w'.heap[b]? = w.heap[b]? := fun b hb => by
    have e : b < w0.heap.size := by rcases h.hH b hb with e | e <;> exact ek_lt e
    have e2 : b < w.heap.size := by rcases h.hH b hb with q | q <;> exact ek_lt ((ek_same (h.same b hb)).trans q)
    exact hk b e e2
  obtain ⟨wv,hf,hr⟩ := h.sp
  exact ⟨h.hx,(hk x hx (lt_of_block h.box)).trans h.box,h.h1,h.h2,h.h3,⟨wv,hf.kept fun i i1 i2 => hk i (by omega) (by have := hf.lt; omega),hr.kept fun b hb _ => hs b hb.2⟩,h.hH,fun b hb => (hs b hb).trans (h.same b hb),h.pg.kept k (hk mb hm h.pg.ek.2) h8⟩
theorem DraftH.usable (h : DraftH B w0 w x S T Bs mb H) : Calls Tryz.prog 211 #[.pointer (some ⟨Bs + 4,0,none⟩)] w fun r w' => r = .returned (.int .i64 (T.sp.us.length : Int))∧w = w' := usable_any w Bs T.sp h.sp
theorem DraftH.take (h : DraftH B w0 w x S T Bs mb H) (k : TkOk T.sp) : Calls Tryz.prog 67 #[.pointer (some ⟨Bs + 4,0,none⟩)] w fun r w' => r = .returned (.tuple #[.int .u32 ((takeM T.sp).2.1 : Int),.int .i64 (takeM T.sp).2.2])∧DraftH B w0 w' x S { T with sp := (takeM T.sp).1 } Bs mb H∧Kfr KS B w w' := by
  refine (stake_any w Bs T.sp h.sp k.low k.en k.lim).mono fun r w' hk => ?_
  obtain ⟨e,hk1,hk2⟩ := hk
  have kf := (sfr_kfr h.sp hk2).mono h.h1
  exact ⟨e,⟨h.hx,kf.cells h.box (not_KS (by decide)),h.h1,h.h2,h.h3,hk1,h.hH,fun b hb => by
    have e1 : ek w b = some 158∨ek w b = some 42 := by rw [ek_same (h.same b hb)]; exact h.hH b hb
    have e2 : w'.heap[b]? = w.heap[b]? := by
      rcases e1 with q | q
      · exact kf.block b (ek_lt q) (.inr (by rw [q]; exact not_KS (by decide)))
      · exact kf.block b (ek_lt q) (.inr (by rw [q]; exact not_KS (by decide)))
    exact e2.trans (h.same b hb),h.pg.kept kf (hk2.block mb h.pg.ek.2 (by have := h.h3; omega)) (not_KS (by decide))⟩,kf⟩
theorem DraftH.new (h : DraftH B w0 w x S T Bs mb H) (g : w.grownBy w' none) : DraftH B w0 w' x S T Bs mb H := by
  have k : Kfr (fun _ => False) 0 w w' := Kfr.of g
  have hs : ∀ b,H b→w'.heap[b]? = w.heap[b]? := fun b hb => by
    rcases h.hH b hb with q | q <;> exact g.block b (ek_lt ((ek_same (h.same b hb)).trans q)) (by simp)
  exact ⟨h.hx,k.cells h.box (by simp),h.h1,h.h2,h.h3,h.sp.grown g,h.hH,fun b hb => (hs b hb).trans (h.same b hb),h.pg.kfr k (by simp) (by simp)⟩
end
structure TLI (B x S : Nat) (w wr : World) (T : TV) (O : Int) (Bs mb : Nat) (H : Nat→Prop) (sp : Sp) (l : List Nat) (lv : Value) : Prop where
  dr : DraftH B w wr x S { T with sp := sp } Bs mb H
  tk : TkOk sp
  to : TakeTo S O T.sp [] sp l
  lo : OwnP w.heap.size wr lv l
  nl : l = []→lv = .slice none 0 0
  fr : Kfr KS B w wr
theorem TLI.app {B x S Bs mb : Nat} {w w1 w2 : World} {T : TV} {O : Int} {H : Nat→Prop} {sp' : Sp} {l : List Nat} {lv lv' : Value} {p : Nat} (h : OwnP w.heap.size w1 lv l) (hd : DraftH B w w1 x S { T with sp := sp' } Bs mb H) (hk : TkOk sp') (ht : TakeTo S O T.sp [] sp' (l++[p])) (hf : Kfr KS B w w1) (h32 : p < 4294967296)
    (hx : x < w.heap.size) (hm : mb < w.heap.size) (hB : Bs + 5≤w.heap.size) (g : w1.grownBy w2 lv.ownBlock) (ho : w2.ownsRow w.heap.size 42 1 lv' (l.length + 1) (l.map encP++[encP p])) : TLI B x S w w2 T O Bs mb H sp' (l++[p]) lv' := by
  have k := kfr_own h.1 g
  refine ⟨hd.far k hx hm hB (by simp),hk,ht,⟨by rw [List.length_append,List.map_append]; exact ho,fun y hy => ?_⟩,fun e => by simp at e,?_⟩
  · rcases List.mem_append.1 hy with e | e
    · exact h.2 y e
    · simp at e; subst e; exact h32
  · exact ⟨k.os.trans hf.os,k.tape.trans hf.tape,k.output.trans hf.output,Nat.le_trans hf.size k.size,fun i hi hp => (k.block i (Nat.lt_of_lt_of_le hi hf.size) (.inl hi)).trans (hf.block i hi hp)⟩
set_option maxRecDepth 20000 in
set_option maxHeartbeats 8000000 in
theorem takeLists_any {B x S : Nat} {w : World} {T : TV} (h : DraftAt B w x S T) (hf : Few T.sp T.n) (hk : TkOk T.sp) (s1 : 512≤S) (s2 : S≤4096) :
    Calls Tryz.prog 173 #[.pointer (some ⟨x,0,none⟩),.int .i64 (S : Int)] w fun r w' => TLR B x S (flatR (recsM T.sp T.n)).length w T r w' := by
  have KFP := Lib.hid (fun W (g : w.grownBy W none) => freePairs_any (h.new g) hf)
  obtain ⟨Bs,mb,H,hD⟩ := h.un
  have hb := hD.box
  have hxs : x < w.heap.size := lt_of_block hb
  have hms : mb < w.heap.size := hD.pg.ek.2
  have hbs : Bs + 5≤w.heap.size := by obtain ⟨wv,hf',_⟩ := hD.sp; exact hf'.lt
  have HDH := Lib.hid hD
  have KUS := Lib.hid (fun W (g : w.grownBy W none) => (hD.new g).usable)
  have hfl := hf.fl
  have husl := hf.us
  have HTK := Lib.hid hk
  have HCL := Lib.hid (fun W' (g : w.grownBy W' none) => cells3 ((g.block _ (lt_of_block hb) (by simp)).trans hb))
  obtain ⟨i0,hi,hz0,hz1,hz2⟩ := info_parts infoPg
  generalize hFL : (flatR (recsM T.sp T.n)).length = FL at KFP hfl ⊢
  generalize flatR (recsM T.sp T.n) = flt at KFP
  clear hb hf h hk hFL hD
  go_enter Tryz.func173,Tryz.ntmps173
  go_wp2
  go_region_held3 (fun W' => W'.cell? ⟨x,0,none⟩ = some (.int .u64 (T.n : Int))∧W'.cell? ⟨x,1,none⟩ = some (.pointer (some ⟨Bs + 4,0,none⟩))∧W'.cell? ⟨x,2,none⟩ = some (.map (some mb)))
    (first | (with_reducible exact (HCL.out _ (gdrew w))) | (with_reducible exact (HCL.out _ HG2.out)))
    (first
      | (go_at_call 174; ((with_reducible refine (KFP.out _ (gdrew w)).mono ?_); rintro r w2 ⟨a2,c2,rfl,ho,hg⟩); have HG2 := Lib.hid (gtrans (gdrew w) hg); clear ho hg)
      | (go_at_call 211; ((with_reducible refine (KUS.out _ HG2.out).mono ?_); rintro r w3 ⟨rfl,rfl⟩)))
  obtain ⟨O,hO⟩ : ∃ O : Int,O = (FL : Int) - (T.sp.us.length : Int) := ⟨_,rfl⟩
  have hO1 : -100000≤O∧O≤100000 := by omega
  have HWR := Lib.hid (show IntKind.i64.wrap ((FL : Int) - (T.sp.us.length : Int)) = O by rw [← hO]; exact IntWalk.i64_in _ ⟨by omega,by omega⟩)
  have HO := Lib.hid hO
  rw [HWR.out]
  clear hO
  have HS0 := Lib.hid (show TLI B x S w w2 T O Bs mb H T.sp [] (.slice none 0 0) from ⟨HDH.out.new HG2.out,HTK.out,.refl _ _,⟨World.ownsRow_nil _ _ _ _,by simp⟩,fun _ => rfl,Kfr.of HG2.out⟩)
  obtain ⟨g0,hg0⟩ : ∃ g0,g0 = T.sp.us.length + (T.sp.lim - T.sp.en) := ⟨_,rfl⟩
  have hg0l : g0≤200000 := by have := HTK.out.lim; omega
  have HG0 := Lib.hid hg0
  clear hg0
  go_wp2
  go_loopg [7] g0 (fun g lv wr => ∃ (sp : Sp) (l : List Nat) (la : Option Addr) (lc : Nat),lv = .slice la l.length lc∧sp.us.length + (sp.lim - sp.en) = g∧l.length + g = g0∧Hid (TLI B x S w wr T O Bs mb H sp l (.slice la l.length lc)))
  case atStart => exact ⟨T.sp,[],none,0,rfl,HG0.out.symm,by simp,HS0⟩
  case round =>
    obtain ⟨sp,l,la,lc,rfl,hgk,hlen,HR⟩ := hrel
    clear HS0
    obtain ⟨c0,c1,c2⟩ := cells3 HR.out.dr.box
    have KU := Lib.hid HR.out.dr.usable
    have hus : sp.us.length≤200000 := by omega
    by_cases hm : (l.length : Int) < manyF (O + (sp.us.length : Int)) (S : Int)
    · rcases take_codes sp with e0 | e0
      · obtain ⟨c,p,hc⟩ : ∃ c p,takeM sp = (c,p,0) := ⟨_,_,Prod.ext rfl (Prod.ext rfl e0)⟩
        have HTO := Lib.hid (HR.out.to.step hm hc)
        obtain ⟨k1,k2,k3,_⟩ := take_ok HR.out.tk hc
        have HK1 := Lib.hid k1
        have KT := Lib.hid (HR.out.dr.take HR.out.tk)
        simp only [hc] at KT
        have HMM := Lib.hid hm
        clear hc k1 e0
        go_wp2_with (first
          | (go_at_call 211; ((with_reducible refine KU.out.mono ?_); rintro r w4 ⟨rfl,rfl⟩))
          | (go_at_call 212; ((with_reducible refine (zmany_any _ _ _ (by omega)).mono ?_); rintro r w5 ⟨rfl,rfl⟩))
          | (go_at_call 67; ((with_reducible refine KT.out.mono ?_); rintro r w6 ⟨rfl,hd,hk⟩); have HD6 := Lib.hid (DraftH.new hd (World.grownBy_alloc w6 (.cells #[.int .u32 (p : Int)] 42) none)); have HF6 := Lib.hid ((HR.out.fr.trans hk).trans (Kfr.of (World.grownBy_alloc w6 (.cells #[.int .u32 (p : Int)] 42) none))); have HL6 := Lib.hid ((HR.out.lo.kfr hk (not_KS (by decide))).grown (World.grownBy_alloc w6 (.cells #[.int .u32 (p : Int)] 42) none)); clear hd hk)
          | (at_builtin; refine wpList_append_own _ rfl _ _ 31 rfl w.heap.size 42 i0 (.int .u32 0) 1 4 Tryz.underlying31 hi hz0 hz1 hz2 rfl (by decide) (.slice la l.length lc) l.length (l.map encP) rfl HL6.out.1 ⟨w6.heap.size,0,none⟩ 1 1 [encP p] rfl rfl (lit_page w6 p) (one_pageV p) (by unfold maxLen; omega) (by omega) (HF6.out.size) ?_; intro v' w7 hown7 hgrow7 _; have HA7 := Lib.hid (TLI.app HL6.out HD6.out HK1.out HTO.out HF6.out k2 hxs hms hbs hgrow7 hown7); clear hown7 hgrow7; obtain ⟨la7,lc7,e7⟩ := own_shape HA7.out.lo.1; subst e7)
          | go_in)
        obtain ⟨g,rfl⟩ : ∃ g,gk = g + 1 := ⟨gk - 1,by omega⟩
        go_roundg g
        case measure => omega
        case rel => exact ⟨c,l++[p],la7,lc7,by rw [List.length_append]; rfl,by omega,by rw [List.length_append]; simp; omega,HA7⟩
      · have KT := Lib.hid (HR.out.dr.take HR.out.tk)
        simp only [e0] at KT
        have HE0 := Lib.hid e0
        have HMM := Lib.hid hm
        clear e0
        go_wp2_with (first
          | (go_at_call 211; ((with_reducible refine KU.out.mono ?_); rintro r w4 ⟨rfl,rfl⟩))
          | (go_at_call 212; ((with_reducible refine (zmany_any _ _ _ (by omega)).mono ?_); rintro r w5 ⟨rfl,rfl⟩))
          | (go_at_call 67; ((with_reducible refine KT.out.mono ?_); rintro r w6 ⟨rfl,hd,hk⟩); have HD6 := Lib.hid (DraftH.at hd); have HF6 := Lib.hid (HR.out.fr.trans hk); clear hd hk))
        go_ret2
        exact ⟨HF6.out,.inr ⟨sp,l,rfl,by rw [← HO.out]; exact HR.out.to,HE0.out,HD6.out⟩⟩
    · go_wp2_with (first
        | (go_at_call 211; ((with_reducible refine KU.out.mono ?_); rintro r w4 ⟨rfl,rfl⟩))
        | (go_at_call 212; ((with_reducible refine (zmany_any _ _ _ (by omega)).mono ?_); rintro r w5 ⟨rfl,rfl⟩)))
      go_ret2
      exact ⟨HR.out.fr,.inl ⟨sp,l,la,lc,rfl,by rw [← HO.out]; exact HR.out.to,by rw [← HO.out]; exact Int.not_lt.2 hm,HR.out.lo,fun e => by have := HR.out.nl e; simp at this; exact ⟨this.1,this.2.2⟩,HR.out.dr.at,HR.out.tk⟩⟩
end Go.Proofs.YtnnmpaenainogaaGreat

namespace Go.Proofs.YtnnmpaenainogaaGreat
open Go.RowKit Go.Maps
theorem rise_part {ps : List Pr} (h : ps.Pairwise lexP) (M k : Nat) : Rise (partF ps M k) := rise_pair (h.sublist ((List.take_sublist _ _).trans (List.drop_sublist _ _)))
def putT (T : TV) (l : List Nat) (ps : List Pr) (M S : Nat) : Nat→TV
  | 0 => T
  | k + 1 => { putT T l ps M S k with K := ins (l.getD k 0) (putT T l ps M S k).K,C := updC (putT T l ps M S k).C (l.getD k 0) (frB (partF ps M k) ((aftL l (k + 1) : Nat) : Int) S) }
theorem putT_same (T : TV) (l : List Nat) (ps : List Pr) (M S : Nat) : ∀ k,(putT T l ps M S k).n = T.n∧(putT T l ps M S k).sp = T.sp
  | 0 => ⟨rfl,rfl⟩
  | k + 1 => putT_same T l ps M S k
theorem DraftH.put {B x S Bs mb n p : Nat} {w0 w1 w2 : World} {T : TV} {H : Nat→Prop} {v : Value} {b : List Int} {V : Nat→Value} (h : DraftH B w0 w1 x S T Bs mb H) (g : w1.grownBy w2 (some mb)) (h32 : p < 4294967296) (hsr : Srt T.K) (hV : ∀ q∈T.K,q < 4294967296) (h8 : ∀ q∈T.K,Own8 0 w1 S (V q) (T.C q))
    (hv : Own8 0 w1 S v b) (ho : w2.ownsMap Tryz.prog 42 heldR mb n ((pgD T.K V).put (keyL p) (.held v))) : DraftH B w0 w2 x S { T with K := ins p T.K,C := updC T.C p b } Bs mb H := by
  have k : Kfr (fun t => t = none) 0 w1 w2 := Kfr.row g (Nat.zero_le _) h.pg.ek.1
  have hs : ∀ c,H c→w2.heap[c]? = w1.heap[c]? := fun c hc => by
    rcases h.hH c hc with q | q
    · have e := (ek_same (h.same c hc)).trans q
      exact k.block c (ek_lt e) (.inr (by rw [e]; simp))
    · have e := (ek_same (h.same c hc)).trans q
      exact k.block c (ek_lt e) (.inr (by rw [e]; simp))
  rw [pgD_put] at ho
  obtain ⟨wv,hf,hr⟩ := h.sp
  refine ⟨h.hx,k.cells h.box (by simp),h.h1,h.h2,h.h3,⟨wv,hf.kept fun i i1 i2 => g.block i (by have := hf.lt; omega) (by intro e; injection e with e; have := h.h3; omega),hr.kept fun c hc _ => hs c hc.2⟩,h.hH,fun c hc => (hs c hc).trans (h.same c hc),_,pg_tight ho,srt_ins hsr,fun q hq => ?_,fun q hq => ?_⟩
  · rcases mem_ins.1 hq with e | e
    · rw [e]; exact h32
    · exact hV q e
  · show Own8 0 w2 S (if q = p then _ else V q) (if q = p then b else T.C q)
    by_cases e : q = p
    · rw [if_pos e,if_pos e]; exact k.own8 hv (by simp)
    · rw [if_neg e,if_neg e]; exact k.own8 (h8 q ((mem_ins.1 hq).resolve_left e)) (by simp)
set_option maxRecDepth 20000 in
set_option maxHeartbeats 8000000 in
theorem putLists_any {B x S M b1 b2 lc pc : Nat} {la pa : Option Addr} {w : World} {T : TV} {l : List Nat} {ps : List Pr} (h : DraftAt B w x S T) (s1 : 512≤S) (s2 : S≤4096) (hM : (M : Int) = roomI (S : Int)) (hl : OwnP b1 w (.slice la l.length lc) l) (hp : POwn 304 b2 w (.slice pa ps.length pc) ps)
    (hps : ps.length≤100000) (hll : l.length≤65536) (hge : manyF (ps.length : Int) (S : Int)≤(l.length : Int)) (hr : ps.Pairwise lexP) (hK : T.K.length≤100000) :
    Calls Tryz.prog 175 #[.pointer (some ⟨x,0,none⟩),.slice la l.length lc,.slice pa ps.length pc,.int .i64 (S : Int)] w fun r w' => r = .returned (.int .i64 0)∧DraftAt B w' x S (putT T l ps M S l.length)∧Kfr KS B w w' := by
  obtain ⟨Bs,mb,H,hD⟩ := h.un
  have hms : mb < w.heap.size := hD.pg.ek.2
  have hm2 := hD.h2
  have hMe : ek w mb = none := hD.pg.ek.1
  have KSP := Lib.hid (spread_ok w _ pa ps.length pc ps (l.length : Int) (S : Int) l.length M rfl hM hp.sq (by omega) (by omega) (by omega) hll hge)
  have HDH := Lib.hid hD
  have HLO := Lib.hid hl
  have HOK := Lib.hid hp.2
  have HRI := Lib.hid (fun k => rise_part hr M k)
  have hMb := room_bd (S := (S : Int)) (by omega) (by omega)
  have HPL := Lib.hid (fun k => (show ((partF ps M k).length : Int)≤roomI (S : Int) by unfold partF; rw [List.length_take]; omega))
  have HKB : Hid (∀ k,(putT T l ps M S k).K.length≤T.K.length + k) := Lib.hid (fun k => by
    induction k with
    | zero => exact Nat.le_refl _
    | succ k ih =>
      have h1 : (ins (l.getD k 0) (putT T l ps M S k).K).length≤(putT T l ps M S k).K.length + 1 := by
        have a : ∀ (p : Nat) (L : List Nat),(insS p L).length = L.length + 1 := fun p L => by
          induction L with
          | nil => rfl
          | cons y r ih2 => unfold insS; split
                            · rfl
                            · simp [ih2]
        unfold ins
        rw [a]
        have := List.length_filter_le (fun x => !(x == l.getD k 0)) (putT T l ps M S k).K
        unfold del; omega
      show (ins (l.getD k 0) (putT T l ps M S k).K).length≤_
      omega)
  clear h hl hp hD hr hge
  go_enter Tryz.func175,Tryz.ntmps175
  go_wp2_with (first
    | (go_at_call 215; ((with_reducible refine KSP.out.mono ?_); rintro r w2 ⟨v,vals,q,rfl,hrows,hg⟩); obtain rfl := hrows.val; have HRW := Lib.hid hrows; have HG2 := Lib.hid hg; have HD2 := Lib.hid (HDH.out.new hg); clear hrows hg))
  go_loopw [28] (fun i wr => ∃ k : Nat,k≤l.length∧i = .int .i64 (k : Int)∧Hid (DraftH B w wr x S (putT T l ps M S k) Bs mb H∧w2.grownBy wr (some mb))) (fun i _ => l.length - (intOf i).toNat)
  case atStart => exact ⟨0,Nat.zero_le _,rfl,Lib.hid ⟨HD2.out,grefl _ _⟩⟩
  case round =>
    obtain ⟨k,hk,rfl,HR⟩ := hrel
    have hMe2 : ek w2 mb = none := by rw [ek_same (HG2.out.block mb hms (by simp))]; exact hMe
    have HK2 := Lib.hid (Kfr.row (P := fun t => t = none) (B := 0) HR.out.2 (Nat.zero_le _) hMe2)
    by_cases hlt : k < l.length
    · have hki : (k : Int) < (l.length : Int) := by omega
      have HLr := Lib.hid ((HLO.out.grown HG2.out).kfr HK2.out (by simp))
      obtain ⟨bl,ol,rfl,_,hcl⟩ := HLr.out.psq.at k hlt
      have hp32 : l.getD k 0 < 4294967296 := HLr.out.2 _ (by rw [List.getD_eq_getElem?_getD,List.getElem?_eq_getElem hlt]; exact List.getElem_mem hlt)
      obtain ⟨u,hu,hsq⟩ := HRW.out.each k hlt
      have HSQ := Lib.hid (hsq.kept (w' := wr) fun b hb hb2 => HR.out.2.block b hb2 (by intro e; injection e with e; omega))
      have hcq := (HK2.out.own HRW.out.row (by simp)).cells (g := q) rfl _ _ hu
      rw [show ((⟨q,0,none⟩ : Addr).add k) = ⟨q,k,none⟩ by rw [Addr.add_lit,Nat.zero_add]] at hcq
      obtain ⟨ua,uc,rfl⟩ := HSQ.out.shape
      have HCQ := Lib.hid (fun W' (g : wr.grownBy W' none) => g.cell hcq (by simp))
      have HX0 := Lib.hid (show aftL l (k + 1)≤4294967295 by
        unfold aftL
        by_cases e : k + 1 < l.length
        · have := HLr.out.2 _ (show l.getD (k + 1) 0∈l by rw [List.getD_eq_getElem?_getD,List.getElem?_eq_getElem e]; exact List.getElem_mem e)
          omega
        · rw [List.getD_eq_getElem?_getD,List.getElem?_eq_none (by omega)]; simp)
      have HRF := Lib.hid (show RightF (partF ps M k) (S : Int) from ⟨by omega,by omega,HPL.out k,HRI.out k⟩)
      have HBL := Lib.hid (show (frB (partF ps M k) ((aftL l (k + 1) : Nat) : Int) S).length = S from frB_len (by have h1 := HPL.out k; have := room_fits h1; omega))
      have HT9 := Lib.hid (show putT T l ps M S (k + 1) = { putT T l ps M S k with K := ins (l.getD k 0) (putT T l ps M S k).K,C := updC (putT T l ps M S k).C (l.getD k 0) (frB (partF ps M k) ((aftL l (k + 1) : Nat) : Int) S) } from rfl)
      have HKk := Lib.hid (HKB.out k)
      have HKW := Lib.hid (show IntKind.i64.wrap ((k : Int) + 1) = (k : Int) + 1 from IntWalk.i64_in _ ⟨by omega,by omega⟩)
      clear hcq hsq hu
      generalize (partF ps M k) = pk at HSQ HRF HBL HT9 HCQ ⊢
      generalize hA : aftL l (k + 1) = ax at HX0 HBL HT9
      generalize l.getD k 0 = pp at hcl hp32 HT9
      go_wp2
      go_region_held3 (fun W' => W'.cell? ⟨q,k,none⟩ = some (.slice ua pk.length uc))
        (first | (with_reducible exact (HCQ.out _ (gdrew wr))) | (with_reducible exact (HCQ.out _ HG4.out)))
        (first
          | (go_at_call 176; rw [HKW.out]; have K := after_any wr.drew _ _ _ _ l (HLr.out.psq.grown (gdrew wr)) (k + 1) ((k : Int) + 1) (by omega); rw [hA] at K; ((with_reducible refine K.mono ?_); clear K; rintro r w3 ⟨rfl,rfl⟩))
          | (go_at_call 216; ((with_reducible refine (zput_ok wr.drew _ ua pk.length uc pk (ax : Int) S (S : Int) rfl (HSQ.out.grown (gdrew wr)) (by omega) (by have := HX0.out; omega) HRF.out).mono ?_); rintro r w4 ⟨v4,rfl,ho,hg⟩); have HG4 := Lib.hid (gtrans (gdrew wr) hg); have HO4 := Lib.hid (show Own8 0 w4 S v4 (frB pk (ax : Int) S) by unfold OwnB at ho; rw [HBL.out] at ho; exact own_base ho (Nat.zero_le _)); clear ho hg))
      obtain ⟨a4,c4,e4⟩ := own_shape HO4.out
      subst e4
      have HD4 := Lib.hid (DraftH.new HR.out.1 HG4.out)
      obtain ⟨d0,d1,d2⟩ := cells3 HD4.out.box
      obtain ⟨V4,hown4,hsr4,h324,h84⟩ := HD4.out.pg
      have HW4 := Lib.hid h84
      have hkl4 : (putT T l ps M S k).K.length < maxLen := by have := HKk.out; unfold maxLen; omega
      clear h84
      go_wp2_with (first
        | (at_mapUpdate; refine wpList_mapUpdate_own _ rfl _ _ _ 146 rfl 42 32 lawP Tryz.underlying146 heldR mb _ _ rfl hown4 hkl4 (.int .u32 (pp : Int)) (.slice a4 S c4) (keyL pp) rfl rfl (keyP hp32) (.held (.slice a4 S c4)) [] rfl ?_; intro w5 hown5 hgrow5; have HD5 := Lib.hid (HD4.out.put hgrow5 hp32 hsr4 h324 HW4.out HO4.out hown5); have HG5 := Lib.hid hgrow5; clear hown5 hgrow5)
        | go_in)
      go_roundw
      case rel => exact ⟨k + 1,by omega,by go_num,Lib.hid ⟨by rw [HT9.out]; exact HD5.out,gtrans (gtrans HR.out.2 (gwide HG4.out)) HG5.out⟩⟩
      case measure => simp [intOf]; omega
    · obtain rfl : k = l.length := by omega
      go_wp2
      go_ret
      exact ⟨rfl,HR.out.1.at,(Kfr.of HG2.out).trans (Kfr.row HR.out.2 hm2 (.inl hMe2))⟩
end Go.Proofs.YtnnmpaenainogaaGreat

namespace Go.Proofs.YtnnmpaenainogaaGreat
open Go.RowKit Go.Maps
set_option maxHeartbeats 1000000 in
theorem insertion_none (w : World) (v : Value) (a c : Nat) (ao : Option Addr) (hv : v = .slice ao a c) : Calls Tryz.prog 265 #[v,.int .i64 0,.int .i64 0] w fun r w' => r = .returned (.tuple #[])∧w = w' := by
  subst hv
  go_enter Tryz.func265,Tryz.ntmps265
  go_wp2
  go_loopw [6] (fun i wr => i = .int .i64 1∧w = wr) (fun _ _ => 0)
  case atStart => exact ⟨rfl,rfl⟩
  case round =>
    obtain ⟨rfl,rfl⟩ := hrel
    go_wp2
    go_end0
    exact ⟨rfl,rfl⟩
set_option maxRecDepth 100000 in
set_option maxHeartbeats 4000000 in
theorem pdq_none (w : World) (ao : Option Addr) (c : Nat) (x : Int) : Calls Tryz.prog 247 #[.slice ao 0 c,.int .i64 0,.int .i64 0,.int .i64 x] w fun r w' => r = .returned (.tuple #[])∧w = w' := by
  go_enter Tryz.func247,Tryz.ntmps247
  go_wp2
  go_loopg [1,2,3] 1 (fun g v1 v2 v3 wr => v1 = .int .i64 0∧v2 = .int .i64 0∧v3 = .int .i64 x∧w = wr)
  case atStart => exact ⟨rfl,rfl,rfl,rfl⟩
  case round =>
    obtain ⟨rfl,rfl,rfl,rfl⟩ := hrel
    go_wp2_with (first
      | (go_at_call 265; ((with_reducible refine (insertion_none w _ 0 c ao rfl).mono ?_); rintro r w1 ⟨rfl,rfl⟩)))
    (try simp only [Exit.inBlock,Exit.then])
    refine bodyPost_ret (results_none rfl _ _ _) rfl ?_
    exact ⟨rfl,rfl⟩
set_option maxHeartbeats 1000000 in
theorem sort_none (w : World) (ao : Option Addr) (c : Nat) : Calls Tryz.prog 218 #[.slice ao 0 c] w fun r w' => r = .returned (.tuple #[])∧w = w' := by
  go_enter Tryz.func218,Tryz.ntmps218
  go_wp2_with (first
    | (go_at_call 248; refine (len_any 0 (by omega) w).mono ?_; rintro r w1 ⟨rfl,rfl⟩)
    | (go_at_call 247; ((with_reducible refine (pdq_none w ao c _).mono ?_); rintro r w1 ⟨rfl,rfl⟩)))
  go_end0
  exact ⟨rfl,rfl⟩
set_option maxHeartbeats 1000000 in
theorem msorted_all (w : World) (Bm b : Nat) (L : List Nat) (V : Nat→Value) (hm : w.cell? ⟨Bm,0,none⟩ = some (.map (some b))) (hS : KsAt w b L V) (hL : L.length≤100000) :
    Calls Tryz.prog 177 #[.func (.func 219) #[] #[.pointer (some ⟨Bm,0,none⟩)]] w fun r w' => ∃ a c,r = .returned (.slice a L.length c)∧OwnP w.heap.size w' (.slice a L.length c) L∧w.grownBy w' none := by
  by_cases h0 : L = []
  · subst h0
    have KC := Lib.hid (mcollect_any w Bm b [] V hm hS (by simp))
    clear hm hS hL
    go_enter Tryz.func177,Tryz.ntmps177
    go_wp2_with (first
      | (go_at_call 217; ((with_reducible refine KC.out.mono ?_); rintro r w1 ⟨v,ss,rfl,hp,ho,hg⟩); obtain rfl := hp.eq_nil; obtain ⟨a1,c1,e1⟩ := own_shape ho.1; subst e1; have HO := Lib.hid ho; have HG := Lib.hid hg; clear ho hg hp)
      | (go_at_call 218; ((with_reducible refine (sort_none w1 a1 c1).mono ?_); rintro r w2 ⟨rfl,rfl⟩)))
    go_ret
    exact ⟨a1,c1,rfl,HO.out,HG.out⟩
  · exact msorted_any 100000 sort_many (Nat.le_refl _) w Bm b L V hm hS hL h0
def wrsM (C : Nat→List Int) : SM→List Nat→SM × Int
  | M,[] => (M,0)
  | M,p :: l => if cE M.fails M.ahead = 0 then wrsM C (wrM M p (C p)) l else (cntM M,20)
def dwM (T : TV) (M : SM) : SM × Int := if jgrE M T.sp.en = 0 then wrsM T.C (jgrM M T.sp.en) T.K else (jgrM M T.sp.en,jgrE M T.sp.en)
theorem wrs_snoc (C : Nat→List Int) : ∀ (l : List Nat) (M M1 : SM) (p : Nat),wrsM C M l = (M1,0)→wrsM C M (l++[p]) = if cE M1.fails M1.ahead = 0 then (wrM M1 p (C p),0) else (cntM M1,20)
  | [],M,M1,p,h => by
    simp only [wrsM,Prod.mk.injEq] at h
    obtain ⟨rfl,_⟩ := h
    rfl
  | q :: l,M,M1,p,h => by
    unfold wrsM at h
    simp only [List.cons_append]
    conv => lhs; unfold wrsM
    split at h
    · rename_i k
      rw [if_pos k]
      exact wrs_snoc C l _ M1 p h
    · simp at h
theorem wrs_pre (C : Nat→List Int) : ∀ (l m : List Nat) (M M1 : SM) (e : Int),wrsM C M l = (M1,e)→e≠0→wrsM C M (l++m) = (M1,e)
  | [],m,M,M1,e,h,he => by
    simp only [wrsM,Prod.mk.injEq] at h
    exact absurd h.2.symm he
  | q :: l,m,M,M1,e,h,he => by
    unfold wrsM at h
    simp only [List.cons_append]
    conv => lhs; unfold wrsM
    split at h
    · rename_i k
      rw [if_pos k]
      exact wrs_pre C l m _ M1 e h he
    · rename_i k
      rw [if_neg k]
      exact h
end Go.Proofs.YtnnmpaenainogaaGreat

namespace Go.Proofs.YtnnmpaenainogaaGreat
open Go.RowKit Go.Maps
theorem jgr_len {M : SM} {n : Nat} (h : jgrE M n = 0) : n≤(jgrM M n).pg.length := by
  unfold jgrE at h
  unfold jgrM
  split at h
  · rename_i k; rw [if_pos (.inl k)]; exact k
  · rename_i k
    split at h
    · simp at h
    · rename_i k2
      rw [if_neg (fun e => e.elim k k2),if_pos h]
      show n≤(M.pg++List.replicate (n - M.pg.length) _).length
      simp; omega
theorem jgrE_codes {M : SM} {n : Nat} (h : n≤M.limit) : jgrE M n = 0∨jgrE M n = 20 := by
  unfold jgrE
  split
  · exact .inl rfl
  · rw [if_neg (by omega)]; exact cE_codes _ _
theorem wrs_keep (C : Nat→List Int) : ∀ (l : List Nat) (M M1 : SM) (c : Nat),wrsM C M l = (M1,0)→Wel M c→(∀ p∈l,p < M.pg.length)→Wel M1 (c + l.length)∧M1.pg.length = M.pg.length∧M1.size = M.size∧M1.limit = M.limit
  | [],M,M1,c,h,hW,_ => by
    simp only [wrsM,Prod.mk.injEq] at h
    obtain ⟨rfl,_⟩ := h
    exact ⟨hW,rfl,rfl,rfl⟩
  | p :: l,M,M1,c,h,hW,hl => by
    unfold wrsM at h
    split at h
    · have hp := hl p (by simp)
      have e1 : (wrM M p (C p)).pg.length = M.pg.length := by show (List.set _ _ _).length = _; rw [List.length_set]
      obtain ⟨a,b,c1,d⟩ := wrs_keep C l (wrM M p (C p)) M1 (c + 1) h (hW.wr hp) (fun q hq => by rw [e1]; exact hl q (by simp [hq]))
      exact ⟨a.mono (by simp; omega),b.trans e1,c1,d⟩
    · simp at h
theorem PgsAt.ks {w : World} {b S : Nat} {K : List Nat} {C : Nat→List Int} (h : PgsAt w b S K C) : ∃ V,KsAt w b K V∧∀ p∈K,Own8 0 w S (V p) (C p) := by
  obtain ⟨V,h1,h2,h3,h4⟩ := h
  exact ⟨V,⟨h1,h2,h3⟩,h4⟩
theorem mkeys_at (w : World) (mb : Option Nat) : w.grownBy (w.alloc (.cells #[.map mb] 146)) none := World.grownBy_alloc _ _ _
theorem mset_cell (w : World) (mb : Option Nat) : (w.alloc (.cells #[.map mb] 146)).cell? ⟨w.heap.size,0,none⟩ = some (.map mb) := by
  have h := lit_block w (.cells #[.map mb] 146)
  generalize w.alloc (.cells #[.map mb] 146) = W at h ⊢
  simp [World.cell?,h]
set_option maxRecDepth 20000 in
set_option maxHeartbeats 8000000 in
theorem dwrite_any {B B2 x S d c : Nat} {w : World} {T : TV} {M : SM} (h : DraftAt B w x S T) (hd : PD B2 w d M) (he : M.size = S) (hW : Wel M c) (hc : c + T.K.length≤90000) (hen : T.sp.en≤M.limit) (hK : ∀ p∈T.K,p < T.sp.en) :
    Calls Tryz.prog 120 #[.pointer (some ⟨x,0,none⟩),.pointer (some ⟨d,0,none⟩)] w fun r w' => r = .returned (.int .i64 (dwM T M).2)∧PD B2 w' d (dwM T M).1∧Dfr B2 w w' := by
  obtain ⟨Bs,mb,H,hD⟩ := h.un
  have hl6 := hW.l
  have KE := Lib.hid (send_any w Bs T.sp hD.sp)
  have KG := Lib.hid (jgrow_any (n := T.sp.en) hd (hW.fine (by omega)) hW.s2 hW.l (by omega))
  have HD := Lib.hid h
  have HBX := Lib.hid hD.box
  obtain ⟨c0,c1,c2⟩ := cells3 hD.box
  have hdw : Hid (dwM T M = if jgrE M T.sp.en = 0 then wrsM T.C (jgrM M T.sp.en) T.K else (jgrM M T.sp.en,jgrE M T.sp.en)) := Lib.hid rfl
  obtain ⟨RR,hRR⟩ : ∃ RR,RR = dwM T M := ⟨_,rfl⟩
  rw [← hRR] at hdw ⊢
  clear hRR
  rcases jgrE_codes hen with e0 | e0
  · have HRR := Lib.hid (hdw.out.trans (if_pos e0))
    have hlen := jgr_len e0
    have w1 : Wel (jgrM M T.sp.en) (c + 1) := hW.jgr
    obtain ⟨z1,z2,z3⟩ := jgrM_size M T.sp.en
    have hS4 : S≤4096 := by have := hW.s2; omega
    have hsz1 : (jgrM M T.sp.en).size = S := z1.trans he
    rw [e0] at KG
    obtain ⟨V,hks,h8⟩ := hD.pg.ks
    have HKS := Lib.hid hks
    have H8 := Lib.hid h8
    have HMb := Lib.hid hD.pg.ek
    have hwp := w1.p
    have hwl := w1.l
    generalize jgrM M T.sp.en = M1 at KG HRR hlen w1 hsz1 hwp hwl
    have HM2 := Lib.hid (fun k M2 (hk : wrsM T.C M1 (T.K.take k) = (M2,0)) => wrs_keep T.C _ M1 M2 (c + 1) hk w1 (fun p hp => Nat.lt_of_lt_of_le (hK p (List.mem_of_mem_take hp)) hlen))
    have HKp := Lib.hid hK
    clear hdw z1 z2 z3 he hks h8 hd h hD hW hK
    go_enter Tryz.func120,Tryz.ntmps120
    go_wp2_with (first
      | (go_at_call 118; ((with_reducible refine KE.out.mono ?_); rintro r w2 ⟨rfl,rfl⟩))
      | (go_at_call 162; ((with_reducible refine KG.out.mono ?_); rintro r w2 ⟨rfl,hd,hf⟩); have HD2 := Lib.hid hd; have HF2 := Lib.hid hf; have HBX2 := Lib.hid (dfr_cells hf HBX.out (by decide)); clear hd hf c0 c1 c2; obtain ⟨c0,c1,c2⟩ := cells3 HBX2.out)
      | (go_at_call 178; ((with_reducible refine (mkeys_any w2 (some mb)).mono ?_); rintro r w3 ⟨rfl,rfl⟩))
      | (go_at_call 177; ((with_reducible refine (msorted_all _ w2.heap.size mb T.K V (mset_cell _ _) ((HKS.out.kept ((kfr_dfr HF2.out).block mb HMb.out.2 (.inr (by rw [HMb.out.1]; exact KD_none)))).grown (mkeys_at _ _)) (by omega)).mono ?_); rintro r w4 ⟨a4,c4,rfl,ho,hg⟩); have HG4 := Lib.hid (gtrans (mkeys_at w2 (some mb)) hg); have HO4 := Lib.hid ho; have HD4 := Lib.hid (HD2.out.new HG4.out); have HF4 := Lib.hid (HF2.out.trans (dfr_new (B := B2) HG4.out)); clear ho hg))
    go_loopw [26] (fun i wr => ∃ (k : Nat) (M2 : SM),k≤T.K.length∧i = .int .i64 (k : Int)∧Hid (wrsM T.C M1 (T.K.take k) = (M2,0)∧PD B2 wr d M2∧Dfr B2 w4 wr)) (fun i _ => T.K.length - (intOf i).toNat)
    case atStart => exact ⟨0,M1,Nat.zero_le _,rfl,Lib.hid ⟨rfl,HD4.out,Dfr.refl _ _⟩⟩
    case round =>
      obtain ⟨k,M2,hk,rfl,HR⟩ := hrel
      by_cases hlt : k < T.K.length
      · have hki : (k : Int) < (T.K.length : Int) := by omega
        obtain ⟨bl,ol,e4,_,hcl⟩ := HO4.out.psq.at k hlt
        subst e4
        have hmem : T.K.getD k 0∈T.K := by rw [List.getD_eq_getElem?_getD,List.getElem?_eq_getElem hlt]; exact List.getElem_mem hlt
        have htk : T.K.take (k + 1) = T.K.take k++[T.K.getD k 0] := by
          rw [List.take_succ_eq_append_getElem hlt,List.getD_eq_getElem?_getD,List.getElem?_eq_getElem hlt]; rfl
        have hcl2 : wr.cell? ⟨bl,ol + k,none⟩ = some (.int .u32 ((T.K.getD k 0 : Nat) : Int)) := by
          have h1 := (HO4.out.kfr (kfr_dfr HR.out.2.2) (not_KD' (by decide))).psq.at k hlt
          obtain ⟨b',o',e5,_,h2⟩ := h1
          injection e5 with e5
          injection e5 with e6 e7
          subst e6; subst e7
          exact h2
        obtain ⟨hw2,hp2,hs2,hli2⟩ := HM2.out k M2 HR.out.1
        have hkl : (T.K.take k).length = k := by rw [List.length_take]; omega
        rw [hkl] at hw2
        have HKr := Lib.hid ((HKS.out.kept ((kfr_dfr HF4.out).block mb HMb.out.2 (.inr (by rw [HMb.out.1]; exact KD_none)))).kept ((kfr_dfr HR.out.2.2).block mb (by have := HF4.out.size; have := HMb.out.2; omega) (.inr (by rw [Kfr.ek (kfr_dfr HF4.out) HMb.out.2 (.inr (by rw [HMb.out.1]; exact KD_none)),HMb.out.1]; exact KD_none))))
        have h8r := (kfr_dfr (HF4.out.trans HR.out.2.2)).own8 (H8.out _ hmem) (not_KD' (by decide))
        have hpl : T.K.getD k 0 < M2.pg.length := by have := HKp.out _ hmem; omega
        have hp32 : T.K.getD k 0 < 4294967296 := by omega
        have HTK := Lib.hid htk
        have hat := at_pgD V (T.K.getD k 0) (.held (.slice none 0 0)) T.K hmem
        generalize T.K.getD k 0 = p at hcl2 h8r hpl hp32 HTK hat
        obtain ⟨av,cv,ev⟩ := own_shape h8r
        have hzz : (zeroValue 32).run Tryz.prog wr = .ok (.slice none 0 0) wr := by kernel_rfl
        obtain ⟨v,ps,hrun,hv⟩ := HKr.out.1.lookup lawP Tryz.underlying146 hzz (zd := .held (.slice none 0 0)) (zp := []) rfl (key := .int .u32 (p : Int)) (keyP hp32)
        rw [hat] at hv
        have ev2 := heldR_inv hv
        rw [ev] at ev2 h8r
        subst ev2
        have KW := Lib.hid (HR.out.2.1.write (i := p) (by rw [hs2]; exact hsz1) (hw2.fine (by omega)) hpl hS4 h8r (by have := hw2.lo; omega) (p : Int) rfl)
        have HRs := Lib.hid (wrs_snoc T.C _ M1 M2 p HR.out.1)
        have HBXr := Lib.hid (dfr_cells (HF4.out.trans HR.out.2.2) HBX.out (by decide))
        obtain ⟨d0,d1,d2⟩ := cells3 HBXr.out
        have HDE := Lib.hid (deE_cE M2)
        clear hv hat ev h8r hmem htk hcl
        unfold wrX at KW
        rcases cE_codes M2.fails M2.ahead with e1 | e1
        · rw [e1] at KW HRs
          simp only [if_true] at KW HRs
          go_wp2_with (first
            | (go_at_call 179; ((with_reducible refine KW.out.mono ?_); rintro r w5 ⟨rfl,hd,hf⟩); have HD5 := Lib.hid hd; have HF5 := Lib.hid hf; clear hd hf))
          go_roundw
          case rel => exact ⟨k + 1,wrM M2 p (T.C p),by omega,by go_num,Lib.hid ⟨by rw [HTK.out,HRs.out],HD5.out,HR.out.2.2.trans HF5.out⟩⟩
          case measure => simp [intOf]; omega
        · rw [e1] at KW HRs
          simp only [if_neg (show ¬ ((20 : Int) = 0) by decide)] at KW HRs
          have HRT := Lib.hid (wrs_pre T.C _ (T.K.drop (k + 1)) M1 _ _ HRs.out (by decide))
          have HTD := Lib.hid (show T.K.take k++[p]++T.K.drop (k + 1) = T.K by rw [← HTK.out]; exact List.take_append_drop _ _)
          go_wp2_with (first
            | (go_at_call 179; ((with_reducible refine KW.out.mono ?_); rintro r w5 ⟨rfl,hd,hf⟩); have HD5 := Lib.hid hd; have HF5 := Lib.hid hf; clear hd hf)
            | (go_at_call 60; ((with_reducible refine (diskError_as 20 20 (by decide) _).mono ?_); rintro r w6 ⟨rfl,rfl⟩)))
          go_ret
          have hrt := HRT.out
          rw [HTD.out] at hrt
          exact ⟨by rw [HRR.out,hrt]; rfl,by rw [HRR.out,hrt]; exact HD5.out,HF4.out.trans (HR.out.2.2.trans HF5.out)⟩
      · obtain rfl : k = T.K.length := by omega
        go_wp2
        go_ret
        have hr1 := HR.out.1
        rw [List.take_length] at hr1
        exact ⟨by rw [HRR.out,hr1]; rfl,by rw [HRR.out,hr1]; exact HR.out.2.1,HF4.out.trans HR.out.2.2⟩
  · have HRR := Lib.hid (hdw.out.trans (if_neg (by rw [e0]; decide)))
    rw [e0] at KG HRR
    clear hdw
    go_enter Tryz.func120,Tryz.ntmps120
    go_wp2_with (first
      | (go_at_call 118; ((with_reducible refine KE.out.mono ?_); rintro r w2 ⟨rfl,rfl⟩))
      | (go_at_call 162; ((with_reducible refine KG.out.mono ?_); rintro r w2 ⟨rfl,hd,hf⟩); have HD2 := Lib.hid hd; have HF2 := Lib.hid hf; clear hd hf))
    go_ret
    exact ⟨by rw [HRR.out]; rfl,by rw [HRR.out]; exact HD2.out,HF2.out⟩
end Go.Proofs.YtnnmpaenainogaaGreat

namespace Go.Proofs.YtnnmpaenainogaaGreat
open Go.RowKit Go.Maps
def frAll : TV→List Nat→TV × Int
  | T,[] => (T,0)
  | T,p :: l => if (freeT T p).2 = 0 then frAll (freeT T p).1 l else ((freeT T p).1,(freeT T p).2)
theorem frAll_split : ∀ (l m : List Nat) (T T1 : TV),frAll T (l++m) = (T1,0)→∃ T2,frAll T l = (T2,0)∧frAll T2 m = (T1,0)
  | [],m,T,T1,h => ⟨T,rfl,h⟩
  | p :: l,m,T,T1,h => by
    simp only [List.cons_append] at h
    unfold frAll at h
    split at h
    · rename_i k
      obtain ⟨T2,a,b⟩ := frAll_split l m _ _ h
      exact ⟨T2,by unfold frAll; rw [if_pos k]; exact a,b⟩
    · rename_i k
      simp at h
      exact absurd h.2 k
theorem frAll_app : ∀ (l m : List Nat) (T T2 : TV),frAll T l = (T2,0)→frAll T (l++m) = frAll T2 m
  | [],m,T,T2,h => by
    simp only [frAll,Prod.mk.injEq] at h
    obtain ⟨rfl,_⟩ := h
    rfl
  | p :: l,m,T,T2,h => by
    unfold frAll at h
    simp only [List.cons_append]
    conv => lhs; unfold frAll
    split at h
    · rename_i k
      rw [if_pos k]
      exact frAll_app l m _ T2 h
    · rename_i k
      simp at h
      exact absurd h.2 k
theorem cells6' {W : World} {q : Nat} {x0 x1 x2 x3 x4 x5 : Value} {t : TypeId} (h : W.heap[q]? = some (.cells #[x0,x1,x2,x3,x4,x5] t (0,0))) :
    (W.cell? ⟨q,0,none⟩ = some x0∧W.cell? ⟨q,1,none⟩ = some x1∧W.cell? ⟨q,2,none⟩ = some x2∧W.cell? ⟨q,3,none⟩ = some x3∧W.cell? ⟨q,4,none⟩ = some x4∧W.cell? ⟨q,5,none⟩ = some x5) ∧
    W.frozen? ⟨q,0,none⟩ = false∧W.frozen? ⟨q,1,none⟩ = false∧W.frozen? ⟨q,2,none⟩ = false∧W.frozen? ⟨q,3,none⟩ = false∧W.frozen? ⟨q,4,none⟩ = false∧W.frozen? ⟨q,5,none⟩ = false := by
  refine ⟨⟨?_,?_,?_,?_,?_,?_⟩,?_,?_,?_,?_,?_,?_⟩ <;> simp [World.cell?,World.frozen?,h]
abbrev set6 (W : World) (q : Nat) (a b c d e f : Value) : World := (((((W.setCell ⟨q,0,none⟩ a).setCell ⟨q,1,none⟩ b).setCell ⟨q,2,none⟩ c).setCell ⟨q,3,none⟩ d).setCell ⟨q,4,none⟩ e).setCell ⟨q,5,none⟩ f
theorem store6' {W : World} {q : Nat} {x0 x1 x2 x3 x4 x5 : Value} {t : TypeId} (h : W.heap[q]? = some (.cells #[x0,x1,x2,x3,x4,x5] t (0,0))) (a b c d e f : Value) :
    (set6 W q a b c d e f).heap[q]? = some (.cells #[a,b,c,d,e,f] t (0,0))∧Kfr (fun x => x = some t) 0 W (set6 W q a b c d e f) := by
  have h1 : _ = some (Obj.cells #[a,x1,x2,x3,x4,x5] t (0,0)) := heap_setCell_same _ q 0 _ t a h
  have h2 : _ = some (Obj.cells #[a,b,x2,x3,x4,x5] t (0,0)) := heap_setCell_same _ q 1 _ t b h1
  have h3 : _ = some (Obj.cells #[a,b,c,x3,x4,x5] t (0,0)) := heap_setCell_same _ q 2 _ t c h2
  have h4 : _ = some (Obj.cells #[a,b,c,d,x4,x5] t (0,0)) := heap_setCell_same _ q 3 _ t d h3
  have h5 : _ = some (Obj.cells #[a,b,c,d,e,x5] t (0,0)) := heap_setCell_same _ q 4 _ t e h4
  exact ⟨heap_setCell_same _ q 5 _ t f h5,(((((kfr_set h 0 a).trans (kfr_set h1 1 b)).trans (kfr_set h2 2 c)).trans (kfr_set h3 3 d)).trans (kfr_set h4 4 e)).trans (kfr_set h5 5 f)⟩
theorem results_C {fn : Func} {p u : Tmp} (h : fn.results = #[.cell p 136,.tmp u]) (tmps : Array Value) (W : World) (q : Nat) (cs : Array Value) (e : Value) (hp : tmps.getD p undef = .pointer (some ⟨q,0,none⟩)) (he : tmps.getD u undef = e)
    (hq : W.heap[q]? = some (.cells cs 136 (0,0))) (hs : cs.size = 6) : (results fn tmps).run Tryz.prog W = .ok (.tuple #[.agg cs,e]) W := by
  have hld := run_loadVar_row (P := Tryz.prog) W q 136 136 cs (0,0) _ hq Tryz.underlying136 rfl (by rw [hs]; kernel_rfl)
  have hp' : tmps[p]?.getD undef = .pointer (some ⟨q,0,none⟩) := by simpa using hp
  have he' : tmps[u]?.getD undef = e := by simpa using he
  simp [results,h,hp',he',asAddr,hld]
theorem Kfr.fresh {P : Option TypeId→Prop} {B : Nat} {w0 w w' : World} {q : Nat} (h : Kfr P B w0 w) (hq : w0.heap.size≤q) (g : w.grownBy w' (some q)) : Kfr P B w0 w' :=
  ⟨g.os.trans h.os,g.tape.trans h.tape,g.output.trans h.output,Nat.le_trans h.size g.size,fun i hi hp => (g.block i (Nat.lt_of_lt_of_le hi h.size) (by intro e; injection e with e; omega)).trans (h.block i hi hp)⟩
theorem set6_grown (W : World) (q : Nat) (a b c d e f : Value) : W.grownBy (set6 W q a b c d e f) (some q) := gtrans (gtrans (gtrans (gtrans (gtrans (gset W ⟨q,0,none⟩ a) (gset _ ⟨q,1,none⟩ b)) (gset _ ⟨q,2,none⟩ c)) (gset _ ⟨q,3,none⟩ d)) (gset _ ⟨q,4,none⟩ e)) (gset _ ⟨q,5,none⟩ f)
structure ClOk (S : Nat) (T : TV) (sp : Sp) (l : List Nat) : Prop where
  few : Few sp T.n
  rise : (flatR (recsM sp T.n)).Pairwise lexP
  ge : manyF ((flatR (recsM sp T.n)).length : Int) (S : Int)≤(l.length : Int)
  ll : l.length≤65536
  en : sp.en < 4294967296
def CLR (B x S M O : Nat) (w : World) (T : TV) (r : Ending) (w' : World) : Prop :=
  Kfr KS B w w' ∧
  ((∃ sp l pa pc la lc,r = .returned (.tuple #[.agg #[.int .u64 (T.n : Int),.int .u32 (sp.en : Int),.int .u32 0,.int .u32 ((aftL l 0 : Nat) : Int),.slice pa (flatR (recsM sp T.n)).length pc,.slice la l.length lc],.int .i64 0]) ∧
     TakeTo S ((O : Int) - (T.sp.us.length : Int)) T.sp [] sp l∧¬ ((l.length : Int) < manyF ((O : Int) - (T.sp.us.length : Int) + (sp.us.length : Int)) (S : Int)) ∧
     POwn 304 w.heap.size w' (.slice pa (flatR (recsM sp T.n)).length pc) (flatR (recsM sp T.n))∧OwnP w.heap.size w' (.slice la l.length lc) l∧(l = []→la = none∧lc = 0)∧DraftAt B w' x S (putT { T with sp := sp } l (flatR (recsM sp T.n)) M S l.length)) ∨
   (∃ sp l T',r = .returned (.tuple #[.agg #[.int .u64 0,.int .u32 0,.int .u32 0,.int .u32 0,.slice none 0 0,.slice none 0 0],.int .i64 21])∧TakeTo S ((O : Int) - (T.sp.us.length : Int)) T.sp [] sp l∧takeM sp = (sp,0,21)∧DraftAt B w' x S T'))
set_option maxRecDepth 20000 in
set_option maxHeartbeats 8000000 in
theorem dclose_any {B x S M lc0 : Nat} {la0 : Option Addr} {w : World} {T T1 : TV} {ls : List Nat} (h : DraftAt B w x S T) (hl : PgT w (.slice la0 ls.length lc0) ls) (hfr : frAll T ls = (T1,0)) (s1 : 512≤S) (s2 : S≤4096) (hM : (M : Int) = roomI (S : Int))
    (hf : Few T1.sp T1.n) (hk : TkOk T1.sp) (hK : T1.K.length≤100000) (hn : T.n < 18446744073709551616)
    (hc : ∀ sp l,TakeTo S (((flatR (recsM T1.sp T1.n)).length : Int) - (T1.sp.us.length : Int)) T1.sp [] sp l→¬ ((l.length : Int) < manyF (((flatR (recsM T1.sp T1.n)).length : Int) - (T1.sp.us.length : Int) + (sp.us.length : Int)) (S : Int))→ClOk S T1 sp l) :
    Calls Tryz.prog 119 #[.pointer (some ⟨x,0,none⟩),.slice la0 ls.length lc0,.int .i64 (S : Int)] w fun r w' => CLR B x S M (flatR (recsM T1.sp T1.n)).length w T1 r w' := by
  have HL := Lib.hid hl
  have hls : ls.length ≤ 9223372036854775807 := by obtain ⟨_, c, e, h1, h2, _⟩ := hl; have h9 : maxLen ≤ 9223372036854775807 := by decide
                                                   omega
  have HQ0 := Lib.hid (lit_block w (.cells #[.int .u64 0,.int .u32 0,.int .u32 0,.int .u32 0,.slice none 0 0,.slice none 0 0] 136))
  have HG0 := Lib.hid (World.grownBy_alloc w (.cells #[.int .u64 0,.int .u32 0,.int .u32 0,.int .u32 0,.slice none 0 0,.slice none 0 0] 136) none)
  have HD0 := Lib.hid (h.new HG0.out)
  have HFR := Lib.hid (fun k => frAll_split (ls.take k) (ls.drop k) T T1 (by rw [List.take_append_drop]; exact hfr))
  have HT1 := Lib.hid hfr
  obtain ⟨O,hO⟩ : ∃ O,O = (flatR (recsM T1.sp T1.n)).length := ⟨_,rfl⟩
  have KTL := Lib.hid (fun W (k : DraftAt B W x S T1) => takeLists_any k hf hk s1 s2)
  rw [← hO] at KTL hc ⊢
  have HCL := Lib.hid hc
  clear h hl hc hf hk hfr
  go_enter Tryz.func119,Tryz.ntmps119
  go_wp2
  generalize w.alloc (.cells #[.int .u64 0,.int .u32 0,.int .u32 0,.int .u32 0,.slice none 0 0,.slice none 0 0] 136) = W0 at HQ0 HG0 HD0 ⊢
  go_loopw [18] (fun i wr => ∃ (k : Nat) (Tk : TV),k≤ls.length∧i = .int .i64 (k : Int)∧Hid (frAll T (ls.take k) = (Tk,0)∧DraftAt B wr x S Tk∧Kfr KS B W0 wr)) (fun i _ => ls.length - (intOf i).toNat)
  case atStart => exact ⟨0,T,Nat.zero_le _,rfl,Lib.hid ⟨rfl,HD0.out,Kfr.refl _ _ _⟩⟩
  case round =>
    obtain ⟨k,Tk,hk,rfl,HR⟩ := hrel
    by_cases hlt : k < ls.length
    · have hki : (k : Int) < (ls.length : Int) := by omega
      obtain ⟨bl,ol,e4,_,hcl⟩ := ((HL.out.kfr (Kfr.of (P := KS) (B := B) HG0.out) (not_KS (by decide))).kfr HR.out.2.2 (not_KS (by decide))).at k hlt
      have hp32 : ls.getD k 0 < 4294967296 := HL.out.u32 _ (by rw [List.getD_eq_getElem?_getD,List.getElem?_eq_getElem hlt]; exact List.getElem_mem hlt)
      have htk : ls.take (k + 1) = ls.take k++[ls.getD k 0] := by
        rw [List.take_succ_eq_append_getElem hlt,List.getD_eq_getElem?_getD,List.getElem?_eq_getElem hlt]; rfl
      have hdr : ls.drop k = ls.getD k 0 :: ls.drop (k + 1) := by
        rw [List.drop_eq_getElem_cons hlt,List.getD_eq_getElem?_getD,List.getElem?_eq_getElem hlt]; rfl
      have hz : (freeT Tk (ls.getD k 0)).2 = 0 := by
        obtain ⟨T2,a,b⟩ := HFR.out k
        rw [HR.out.1] at a
        injection a with a _
        subst a
        rw [hdr] at b
        unfold frAll at b
        split at b
        · assumption
        · rename_i n
          simp at b
          exact absurd b.2 n
      have HTK := Lib.hid htk
      have HSN := Lib.hid (frAll_app (ls.take k) [ls.getD k 0] T Tk HR.out.1)
      subst e4
      clear hdr htk
      generalize ls.getD k 0 = p at hcl hp32 hz HTK HSN
      have HSN2 := Lib.hid (show frAll T (ls.take (k + 1)) = ((freeT Tk p).1,0) by rw [HTK.out,HSN.out]; unfold frAll; rw [if_pos hz]; rfl)
      have KF := Lib.hid (dfree_any HR.out.2.1 hp32)
      rw [hz] at KF
      clear hz
      go_wp2_with (first
        | (go_at_call 69; ((with_reducible refine KF.out.mono ?_); rintro r w3 ⟨rfl,hd,hkf⟩); have HD3 := Lib.hid hd; have HK3 := Lib.hid (HR.out.2.2.trans hkf); clear hd hkf))
      go_roundw
      case rel => exact ⟨k + 1,(freeT Tk p).1,by omega,by go_num,Lib.hid ⟨HSN2.out,HD3.out,HK3.out⟩⟩
      case measure => simp [intOf]; omega
    · obtain rfl : k = ls.length := by omega
      obtain ⟨r1,r2,r3⟩ := HR.out
      rw [List.take_length] at r1
      obtain rfl : Tk = T1 := by
        have := r1.symm.trans HT1.out
        injection this
      have HK0 := Lib.hid (Kfr.trans (Kfr.of (P := KS) (B := B) HG0.out) r3)
      have HQ1 := Lib.hid (r3.cells HQ0.out (not_KS (by decide)))
      have KT := Lib.hid (KTL.out wr r2)
      clear HR r1 r2 r3 HQ0 HD0 HFR HT1 KTL
      go_wp2_with (fail)
      ((with_reducible refine KT.out.mono ?_))
      rintro r w2 ⟨hk2,hcs⟩
      have HK2 := Lib.hid (HK0.out.trans hk2)
      have HQ2 := Lib.hid (hk2.cells HQ1.out (not_KS (by decide)))
      rcases hcs with ⟨sp,l,la,lc,rfl,t1,t2,t3,t4,t5,t6⟩ | ⟨sp,l,rfl,t1,t2,t3⟩
      · have HCO := Lib.hid (HCL.out sp l t1 (Int.not_lt.1 t2))
        have HT1 := Lib.hid t1
        have HT2N := Lib.hid (show Hid (¬ ((l.length : Int) < manyF ((O : Int) - (Tk.sp.us.length : Int) + (sp.us.length : Int)) (S : Int))) from Lib.hid t2).out
        have HT3 := Lib.hid (OwnP.mono t3 HK0.out.size)
        have HT4 := Lib.hid t4
        have HT5 := Lib.hid t5
        have KFP := Lib.hid (freePairs_any t5 HCO.out.few)
        have KPL := Lib.hid (fun W (k : w2.grownBy W none) pa pc b (hp : POwn 304 b W (.slice pa (flatR (recsM sp Tk.n)).length pc) (flatR (recsM sp Tk.n))) => putLists_any (M := M) (t5.new k) s1 s2 hM (t3.grown k) hp HCO.out.few.fl HCO.out.ll HCO.out.ge HCO.out.rise hK)
        clear t1 t2 t3 t4 t5 t6 hk2
        go_wp2_with (first
          | (go_at_call 174; ((with_reducible refine KFP.out.mono ?_); rintro r w3 ⟨pa,pc,rfl,ho,hg⟩); have HP3 := Lib.hid ho; have HG3 := Lib.hid hg; clear ho hg)
          | (go_at_call 175; ((with_reducible refine (KPL.out _ HG3.out pa pc _ HP3.out).mono ?_); rintro r w4 ⟨rfl,hd,hkf⟩); have HD4 := Lib.hid hd; have HK4 := Lib.hid ((HK2.out.trans (Kfr.of HG3.out)).trans hkf); have HK34 := Lib.hid (Kfr.trans (Kfr.of (P := KS) (B := B) HG3.out) hkf); have HP4 := Lib.hid (HP3.out.kfr hkf (not_KS (by decide))); clear hd hkf))
        have HQ4 := Lib.hid (HK34.out.cells HQ2.out (not_KS (by decide)))
        have HL4 := Lib.hid (HT3.out.kfr HK34.out (not_KS (by decide)))
        have hun := HD4.out.un
        obtain ⟨Bs,mb,H,hD4⟩ := hun
        have hen4 : (putT { Tk with sp := sp } l (flatR (recsM sp Tk.n)) M S l.length).sp = sp := (putT_same _ _ _ _ _ _).2
        have hnn4 : (putT { Tk with sp := sp } l (flatR (recsM sp Tk.n)) M S l.length).n = Tk.n := (putT_same _ _ _ _ _ _).1
        have KE := Lib.hid (fun W (g : w4.grownBy W none) => by have := send_any W Bs _ (hD4.new g).sp; rw [hen4] at this; exact this)
        have hb4 := hD4.box
        rw [hnn4] at hb4
        have HCX := Lib.hid (fun W (g : w4.grownBy W none) => cells3 ((g.block _ (lt_of_block hb4) (by simp)).trans hb4))
        have KA := Lib.hid (fun W (g : w4.grownBy W none) => after_any W _ _ _ _ l (HL4.out.grown g).psq 0 0 rfl)
        clear hD4 hb4
        generalize hAX : aftL l 0 = ax at KA
        have HAX := Lib.hid hAX
        obtain ⟨FN,hFN⟩ : ∃ FN,FN = (flatR (recsM sp Tk.n)).length := ⟨_,rfl⟩
        have HFN := Lib.hid hFN
        rw [← hFN] at HP4 ⊢
        clear hAX hen4 hnn4 hFN KPL KFP HP3
        go_region_held3 (fun W' => W'.cell? ⟨x,0,none⟩ = some (.int .u64 (Tk.n : Int))∧W'.cell? ⟨x,1,none⟩ = some (.pointer (some ⟨Bs + 4,0,none⟩))∧W'.cell? ⟨x,2,none⟩ = some (.map (some mb)))
          (first | (with_reducible exact (HCX.out _ (gdrew w4))) | (with_reducible exact (HCX.out _ (g_alloc_drew w4 _))))
          (first
            | (go_at_call 118; ((with_reducible refine (KE.out _ (gdrew w4)).mono ?_); rintro r w5 ⟨rfl,rfl⟩))
            | (go_at_call 118; ((with_reducible refine (KE.out _ (g_alloc_drew w4 _)).mono ?_); rintro r w5 ⟨rfl,rfl⟩))
            | (go_at_call 176; ((with_reducible refine (KA.out _ (gdrew w4)).mono ?_); rintro r w5 ⟨rfl,rfl⟩))
            | (go_at_call 176; ((with_reducible refine (KA.out _ (g_alloc_drew w4 _)).mono ?_); rintro r w5 ⟨rfl,rfl⟩)))
        all_goals
          have hmX := heap_alloc_new w4 (.cells #[.int .u64 (Tk.n : Int),.int .u32 (sp.en : Int),.int .u32 0,.int .u32 (ax : Int)] 44)
          have hmX2 : ((w4.alloc (.cells #[.int .u64 (Tk.n : Int),.int .u32 (sp.en : Int),.int .u32 0,.int .u32 (ax : Int)] 44)).drew).heap[w4.heap.size]? = some (.cells #[.int .u64 (Tk.n : Int),.int .u32 (sp.en : Int),.int .u32 0,.int .u32 (ax : Int)] 44 (0,0)) := hmX
          have hgX := g_alloc_drew w4 (.cells #[.int .u64 (Tk.n : Int),.int .u32 (sp.en : Int),.int .u32 0,.int .u32 (ax : Int)] 44)
          clear hmX
          generalize (w4.alloc (.cells #[.int .u64 (Tk.n : Int),.int .u32 (sp.en : Int),.int .u32 0,.int .u32 (ax : Int)] 44)).drew = X at hmX2 hgX ⊢
          have HQX := Lib.hid ((hgX.block _ (lt_of_block HQ4.out) (by simp)).trans HQ4.out)
          have HGX := Lib.hid hgX
          obtain ⟨m0,m1,m2,m3⟩ := mt_cells hmX2
          obtain ⟨⟨q0,q1,q2,q3,q4,q5⟩,z0,z1,z2,z3,z4,z5⟩ := cells6' HQX.out
          obtain ⟨e9,k9⟩ := store6' HQX.out (.int .u64 (Tk.n : Int)) (.int .u32 (sp.en : Int)) (.int .u32 0) (.int .u32 (ax : Int)) (.slice pa FN pc) (.slice la l.length lc)
          have HE9 := Lib.hid e9
          have HK9 := Lib.hid k9
          clear hgX hmX2 e9 k9
          go_wp2
          refine bodyPost_ret (results_C rfl _ _ w.heap.size _ _ rfl rfl HE9.out rfl) rfl ?_
          refine ⟨(HK4.out.trans (Kfr.of HGX.out)).fresh (Nat.le_refl _) (set6_grown _ _ _ _ _ _ _ _),.inl ⟨sp,l,pa,pc,la,lc,?_,HT1.out,?_,?_,((HL4.out.grown HGX.out).kfr HK9.out (by simp)),HT4.out,?_⟩⟩
          · rw [HAX.out,← HFN.out]; rfl
          · exact Int.not_lt.2 HT2N.out
          · rw [← HFN.out]; exact (POwn.mono (HP4.out.grown HGX.out) (by have := HK2.out.size; exact this)).kfr HK9.out (by simp)
          · exact (HD4.out.new HGX.out).kfr HK9.out (by simp) (by simp) (by simp) (by simp) (by simp) (by simp)
      · obtain ⟨⟨q0,q1,q2,q3,q4,q5⟩,z0,z1,z2,z3,z4,z5⟩ := cells6' HQ2.out
        have HT1 := Lib.hid t1
        have HT2 := Lib.hid t2
        have HT3 := Lib.hid t3
        clear t1 t2 t3 hk2
        go_wp2
        obtain ⟨e9,k9⟩ := store6' HQ2.out (.int .u64 0) (.int .u32 0) (.int .u32 0) (.int .u32 0) (.slice none 0 0) (.slice none 0 0)
        exact bodyPost_ret (results_C rfl _ _ w.heap.size _ _ rfl rfl e9 rfl) rfl ⟨HK2.out.fresh (Nat.le_refl _) (set6_grown _ _ _ _ _ _ _ _),.inr ⟨sp,l,_,rfl,HT1.out,HT2.out,HT3.out.kfr k9 (by simp) (by simp) (by simp) (by simp) (by simp) (by simp)⟩⟩
end Go.Proofs.YtnnmpaenainogaaGreat

namespace Go.Proofs.YtnnmpaenainogaaGreat
open Go.RowKit Go.Maps
def KC (t : Option TypeId) : Prop := KS t∨KD t∨t = some 138
theorem ks_kc {t : Option TypeId} (h : KS t) : KC t := .inl h
theorem kd_kc {t : Option TypeId} (h : KD t) : KC t := .inr (.inl h)
def cmR (T : TV) (M : SM) (mt : Mt) : SM × Nat :=
  if (dwM T M).2 = 0 then
    if cE (dwM T M).1.fails (dwM T M).1.ahead = 0 then
      if cE (syncM (dwM T M).1).fails (syncM (dwM T M).1).ahead = 0 then
        if cE (wrM (syncM (dwM T M).1) (mt.t % 2) (mpage mt M.size)).fails (wrM (syncM (dwM T M).1) (mt.t % 2) (mpage mt M.size)).ahead = 0 then (syncM (wrM (syncM (dwM T M).1) (mt.t % 2) (mpage mt M.size)),0)
        else (cntM (wrM (syncM (dwM T M).1) (mt.t % 2) (mpage mt M.size)),2)
      else (cntM (syncM (dwM T M).1),1)
    else (cntM (dwM T M).1,1)
  else ((dwM T M).1,1)
theorem dw_codes {T : TV} {M : SM} (h : T.sp.en≤M.limit) : (dwM T M).2 = 0∨(dwM T M).2 = 20 := by
  have hw : ∀ (l : List Nat) (M : SM),(wrsM T.C M l).2 = 0∨(wrsM T.C M l).2 = 20 := by
    intro l
    induction l with
    | nil => intro M; exact .inl rfl
    | cons p l ih =>
      intro M
      unfold wrsM
      split
      · exact ih _
      · exact .inr rfl
  unfold dwM
  split
  · exact hw _ _
  · rename_i k
    exact .inr ((jgrE_codes h).resolve_left k)
theorem dw_keep {T : TV} {M : SM} {c : Nat} (hW : Wel M c) (hK : ∀ p∈T.K,p < T.sp.en) (h : (dwM T M).2 = 0) : Wel (dwM T M).1 (c + 1 + T.K.length)∧T.sp.en≤(dwM T M).1.pg.length∧(dwM T M).1.size = M.size∧(dwM T M).1.limit = M.limit := by
  unfold dwM at h ⊢
  split at h
  · rename_i k
    rw [if_pos k]
    have hl := jgr_len k
    obtain ⟨z1,z2,z3⟩ := jgrM_size M T.sp.en
    obtain ⟨a,b,c1,d⟩ := wrs_keep T.C T.K (jgrM M T.sp.en) (wrsM T.C (jgrM M T.sp.en) T.K).1 (c + 1) (Prod.ext rfl h) hW.jgr (fun p hp => Nat.lt_of_lt_of_le (hK p hp) hl)
    exact ⟨a,by omega,c1.trans z1,d.trans z2⟩
  · rename_i k
    exact absurd h k
structure WrOk (c S Mr : Nat) (T1 : TV) (M : SM) (main : Nat) (sp : Sp) (l : List Nat) : Prop where
  cnt : c + (putT { T1 with sp := sp } l (flatR (recsM sp T1.n)) Mr S l.length).K.length≤80000
  en : sp.en≤M.limit
  e2 : 2≤sp.en
  K : ∀ p∈(putT { T1 with sp := sp } l (flatR (recsM sp T1.n)) Mr S l.length).K,p < sp.en
  mr : mright ⟨T1.n,sp.en,main,aftL l 0⟩ = true
  mo : MtOk ⟨T1.n,sp.en,main,aftL l 0⟩
theorem FileAt.cells8 {B f d : Nat} {w : World} {F : FV} (h : FileAt B w f d F) : ∃ pa pc la lc,w.heap[f]? = some (.cells (fcells d F (.slice pa F.ps.length pc) (.slice la F.ls.length lc)) 138 (0,0))∧PgT w (.slice la F.ls.length lc) F.ls := by
  obtain ⟨_,pa,pc,la,lc,hb,_,hl,_⟩ := h
  exact ⟨pa,pc,la,lc,hb,hl⟩
def CommitR (B f d x S Mr O : Nat) (w : World) (F : FV) (T1 : TV) (M : SM) (main : Nat) (r : Ending) (w' : World) : Prop :=
  Kfr KC B w w' ∧
  ((∃ sp l,TakeTo S ((O : Int) - (T1.sp.us.length : Int)) T1.sp [] sp l∧¬ ((l.length : Int) < manyF ((O : Int) - (T1.sp.us.length : Int) + (sp.us.length : Int)) (S : Int)) ∧
      PD B w' d (cmR (putT { T1 with sp := sp } l (flatR (recsM sp T1.n)) Mr S l.length) M ⟨T1.n,sp.en,main,aftL l 0⟩).1 ∧
      r = .returned (.int .i64 (if (cmR (putT { T1 with sp := sp } l (flatR (recsM sp T1.n)) Mr S l.length) M ⟨T1.n,sp.en,main,aftL l 0⟩).2 = 0 then 0 else 20)) ∧
      FileAt B w' f d (if (cmR (putT { T1 with sp := sp } l (flatR (recsM sp T1.n)) Mr S l.length) M ⟨T1.n,sp.en,main,aftL l 0⟩).2 = 0 then ⟨⟨T1.n,sp.en,main,aftL l 0⟩,flatR (recsM sp T1.n),l,F.st⟩
        else if (cmR (putT { T1 with sp := sp } l (flatR (recsM sp T1.n)) Mr S l.length) M ⟨T1.n,sp.en,main,aftL l 0⟩).2 = 1 then F else { F with st := true })) ∨
   (∃ sp l,r = .returned (.int .i64 21)∧TakeTo S ((O : Int) - (T1.sp.us.length : Int)) T1.sp [] sp l∧takeM sp = (sp,0,21)∧PD B w' d M∧FileAt B w' f d F))
def CLD (B x S M O base : Nat) (w' : World) (T : TV) (a b c e : Int) (pa : Option Addr) (pn pc : Nat) (la : Option Addr) (ln lc : Nat) : Prop :=
    (e = 0∧∃ sp l,a = (T.n : Int)∧b = (sp.en : Int)∧c = ((aftL l 0 : Nat) : Int)∧pn = (flatR (recsM sp T.n)).length∧ln = l.length∧TakeTo S ((O : Int) - (T.sp.us.length : Int)) T.sp [] sp l∧¬ ((l.length : Int) < manyF ((O : Int) - (T.sp.us.length : Int) + (sp.us.length : Int)) (S : Int)) ∧
     POwn 304 base w' (.slice pa pn pc) (flatR (recsM sp T.n))∧OwnP base w' (.slice la ln lc) l∧(l = []→la = none∧lc = 0)∧DraftAt B w' x S (putT { T with sp := sp } l (flatR (recsM sp T.n)) M S l.length)) ∨
     (e = 21∧∃ sp l,TakeTo S ((O : Int) - (T.sp.us.length : Int)) T.sp [] sp l∧takeM sp = (sp,0,21))
theorem CLR.un {B x S M O : Nat} {w w' : World} {T : TV} {r : Ending} (h : CLR B x S M O w T r w') : ∃ (a b c e : Int) (pa : Option Addr) (pn pc : Nat) (la : Option Addr) (ln lc : Nat),r = .returned (.tuple #[.agg #[.int .u64 a,.int .u32 b,.int .u32 0,.int .u32 c,.slice pa pn pc,.slice la ln lc],.int .i64 e])∧Kfr KS B w w'∧CLD B x S M O w.heap.size w' T a b c e pa pn pc la ln lc := by
  obtain ⟨hk,⟨sp,l,pa,pc,la,lc,e,h1,h2,h3,h4,h5,h6⟩ | ⟨sp,l,T',e,h1,h2,h3⟩⟩ := h
  · exact ⟨_,_,_,_,_,_,_,_,_,_,e,hk,.inl ⟨rfl,sp,l,rfl,rfl,rfl,rfl,rfl,h1,h2,h3,h4,h5,h6⟩⟩
  · exact ⟨_,_,_,_,_,_,_,_,_,_,e,hk,.inr ⟨rfl,sp,l,h1,h2⟩⟩
theorem CLD.kfr {P : Option TypeId→Prop} {B B' x S M O base base' : Nat} {w w' : World} {T : TV} {a b c e : Int} {pa : Option Addr} {pn pc : Nat} {la : Option Addr} {ln lc : Nat} (h : CLD B x S M O base w T a b c e pa pn pc la ln lc) (k : Kfr P B' w w') (hb : base'≤base)
    (h0 : ¬ P none) (h1 : ¬ P (some 220)) (h2 : ¬ P (some 158)) (h3 : ¬ P (some 42)) (h4 : ¬ P (some 148)) (h8 : ¬ P (some 5)) (h9 : ¬ P (some 304)) : CLD B x S M O base' w' T a b c e pa pn pc la ln lc := by
  rcases h with ⟨e0,sp,l,e1,e2,e3,e4,e5,t1,t2,t3,t4,t5,t6⟩ | h
  · exact .inl ⟨e0,sp,l,e1,e2,e3,e4,e5,t1,t2,(POwn.mono t3 hb).kfr k h9,(t4.mono hb).kfr k h3,t5,t6.kfr k h0 h1 h2 h3 h4 h8⟩
  · exact .inr h
end Go.Proofs.YtnnmpaenainogaaGreat

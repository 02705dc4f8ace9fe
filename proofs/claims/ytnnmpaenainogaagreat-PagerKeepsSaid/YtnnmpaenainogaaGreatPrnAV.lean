/-
  Layer 3: the contract of Sync. Own work.
-/
import Derived.Test.YtnnmpaenainogaaGreatPrnAU
import Derived.Deep.RegionHeld3

set_option linter.unusedVariables false
set_option linter.unusedSimpArgs false
namespace Go.Proofs.YtnnmpaenainogaaGreat
open Go.RowKit
def syncP (pg : List (List Int × List Int)) : List (Nat × List Int)→List (List Int × List Int)
  | [] => pg
  | x :: l => syncP (pg.set x.1 (x.2,(pg.getD x.1 ([],[])).2)) l
theorem syncP_snoc : ∀ (l : List (Nat × List Int)) (pg : List (List Int × List Int)) (x : Nat × List Int),syncP pg (l++[x]) = (syncP pg l).set x.1 (x.2,((syncP pg l).getD x.1 ([],[])).2)
  | [],_,_ => rfl
  | y :: l,pg,x => syncP_snoc l _ x
theorem syncP_len : ∀ (l : List (Nat × List Int)) (pg : List (List Int × List Int)),(syncP pg l).length = pg.length
  | [],_ => rfl
  | y :: l,pg => by rw [syncP,syncP_len l]; simp
theorem wcells_get : ∀ (ls : List LoV) (k : Nat) (y : LoV),ls[k]? = some y→(wcells ls)[k * 2]? = some (.int .i64 (y.1 : Int))∧(wcells ls)[k * 2 + 1]? = some y.2.1
  | [],k,x,h => by simp at h
  | y :: l,0,x,h => by
    simp only [List.getElem?_cons_zero,Option.some.injEq] at h
    subst h
    exact ⟨rfl,rfl⟩
  | y :: l,k + 1,x,h => by
    simp only [List.getElem?_cons_succ] at h
    obtain ⟨h1,h2⟩ := wcells_get l k x h
    exact ⟨by rw [show (k + 1) * 2 = k * 2 + 1 + 1 by omega]; exact h1,by rw [show (k + 1) * 2 + 1 = k * 2 + 1 + 1 + 1 by omega]; exact h2⟩
theorem Rws.wr {B n k : Nat} {w : World} {pv lv nv : Value} {ps : List PgV} {ls : List LoV} {once : Bool} (h : Rws B w n pv lv nv ps ls once) (hk : k < ls.length) :
    ∃ g c y,lv = .slice (some ⟨g,0,none⟩) ls.length c∧ls[k]? = some y∧w.cell? ⟨g,k * 2,none⟩ = some (.int .i64 (y.1 : Int))∧w.cell? ⟨g,k * 2 + 1,none⟩ = some y.2.1∧Own8 B w n y.2.1 y.2.2 := by
  obtain ⟨y,hy⟩ : ∃ y,ls[k]? = some y := ⟨_,List.getElem?_eq_getElem hk⟩
  have hm := h.lall y (List.mem_of_getElem? hy)
  have ho := h.lown
  have ho' := ho
  obtain ⟨c1,c2⟩ := wcells_get ls k y hy
  rcases ho.2 with ⟨rfl,h0⟩ | ⟨g,cap,cur,rfl,hb,hg,hc,hmx,hs,ht⟩
  · omega
  · exact ⟨g,cap,y,rfl,hy,by rw [ho'.cellAt _ (by omega),c1],by rw [ho'.cellAt _ (by omega),c2],hm⟩
set_option maxRecDepth 100000 in
set_option maxHeartbeats 4000000 in
theorem sync_rows (B : Nat) (w : World) (d n : Nat) (x1 x7 x8 x9 pv lv nv : Value) (c : Nat) (f : Bool) (a : Int) (ps : List PgV) (ls : List LoV) (once : Bool) (hB : B≤d)
    (hb : w.heap[d]? = some (.cells #[.int .i64 (n : Int),x1,pv,lv,.int .i64 (c : Int),.bool f,.int .i64 a,x7,x8,x9,nv] 129 (0,0))) (hr : Rws B w n pv lv nv ps ls once)
    (ha1 : -9223372036854775808≤a) (ha2 : a≤9223372036854775807) (hc : c < 9223372036854775807) (h0 : cE f a = 0) (hin : ∀ y∈ls,y.1 < ps.length) (hl : ls.length≤100000) (hpl : ps.length≤100000) :
    Calls Tryz.prog 59 #[.pointer (some ⟨d,0,none⟩)] w fun r w' => ∃ ps',r = .returned (.int .i64 0) ∧
      w'.heap[d]? = some (.cells #[.int .i64 (n : Int),x1,pv,.slice none 0 0,.int .i64 ((c + 1 : Nat) : Int),.bool (cF f a),.int .i64 (cA f a),x7,x8,x9,nv] 129 (0,0))∧Rws B w' n pv (.slice none 0 0) nv ps' [] once ∧
      ps'.map (·.2) = syncP (ps.map (·.2)) (ls.map fun y => (y.1,y.2.2))∧Dfr B w w' := by
  have HB := Lib.hid hb
  have HR := Lib.hid hr
  have H0 := Lib.hid h0
  have HIn := Lib.hid hin
  obtain ⟨m,hm⟩ : ∃ m,m = ps.length := ⟨_,rfl⟩
  obtain ⟨k0,hk0⟩ : ∃ k,k = ls.length := ⟨_,rfl⟩
  obtain ⟨la,lc,rfl⟩ := own_shape hr.lown
  obtain ⟨pa,pc,rfl⟩ := own_shape hr.pown
  rw [← hm] at hpl HB HR
  rw [← hk0] at hl HB HR
  rw [← hm]
  have HM := Lib.hid hm
  have HK := Lib.hid hk0
  clear hb hr h0 hin hm hk0
  go_enter Tryz.func59,Tryz.ntmps59
  go_wp2_with (first
    | (go_at_call 108; ((with_reducible refine (count_rows hB HB.out HR.out ha1 ha2 hc).mono ?_); rintro e w1 ⟨rfl,b1,r1,g1,s1,d1⟩; rw [H0.out]; have c3 := (cells11 b1).2.2.2.1; have B1 := Lib.hid b1; have R1 := Lib.hid r1; have D1 := Lib.hid d1; clear b1 r1 g1 s1 d1)))
  go_loopg [18] k0 (fun g v wr => ∃ (k : Nat) (ps' : List PgV),k + g = k0∧v = .int .i64 (k : Int) ∧
    wr.heap[d]? = some (.cells #[.int .i64 (n : Int),x1,.slice pa m pc,.slice la k0 lc,.int .i64 ((c + 1 : Nat) : Int),.bool (cF f a),.int .i64 (cA f a),x7,x8,x9,nv] 129 (0,0)) ∧
    Rws B wr n (.slice pa m pc) (.slice la k0 lc) nv ps' ls once∧ps'.map (·.2) = syncP (ps.map (·.2)) ((ls.take k).map fun y => (y.1,y.2.2))∧Dfr B w wr)
  case atStart => exact ⟨0,ps,by omega,rfl,B1.out,R1.out,rfl,D1.out⟩
  case round =>
    obtain ⟨k,ps',hk,rfl,hb,hr,hps,hf⟩ := hrel
    have HBk := Lib.hid hb
    have HRk := Lib.hid hr
    have HPk := Lib.hid hps
    have HFk := Lib.hid hf
    have c3 := (cells11 hb).2.2.2.1
    have c2 := (cells11 hb).2.2.1
    clear hr hps hf B1 R1 D1
    by_cases hlt : k < k0
    · obtain ⟨g,rfl⟩ : ∃ g,gk = g + 1 := ⟨gk - 1,by omega⟩
      have hki : (k : Int) < (k0 : Int) := by omega
      have HL' := Lib.hid (show ps'.length = m by
        have := congrArg List.length HPk.out
        rw [syncP_len] at this; simp only [List.length_map] at this; rw [this,HM.out])
      obtain ⟨lb,lc',y,hv,hy,e1,e2,e3⟩ := HRk.out.wr (k := k) (by rw [← HK.out]; exact hlt)
      simp only [Value.slice.injEq] at hv
      obtain ⟨rfl,-,rfl⟩ := hv
      have HIy := Lib.hid (HIn.out y (List.mem_of_getElem? hy))
      obtain ⟨g',pc',z,hv,hz,z1,z2,z3,z4⟩ := HRk.out.page (i := y.1) (by rw [HL'.out,HM.out]; exact HIy.out)
      simp only [Value.slice.injEq] at hv
      obtain ⟨rfl,-,rfl⟩ := hv
      obtain ⟨at1,v1,b1⟩ := y
      obtain ⟨va,vc,rfl⟩ := own_shape e3
      have HY := Lib.hid hy
      have HZ := Lib.hid hz
      have E3 := Lib.hid e3
      clear hy hz z2 z3 z4 e3
      have hp1 : wr.ownsRow B 163 2 (.slice (some ⟨g',0,none⟩) m pc) m (pcells ps') := by have h := HRk.out.pown; rw [HL'.out] at h; exact h
      have hp2 := hp1.alloc (.cells #[.int .i64 (at1 : Int),.slice va n vc] 160)
      have fz := hp2.frozenAt (at1 * 2)
      have cz : (wr.alloc (.cells #[.int .i64 (at1 : Int),.slice va n vc] 160)).cell? ⟨g',at1 * 2,none⟩ = some z.1.1 := cell_alloc z1
      have cd : (wr.alloc (.cells #[.int .i64 (at1 : Int),.slice va n vc] 160)).cell? ⟨d,2,none⟩ = some (.slice (some ⟨g',0,none⟩) m pc) := cell_alloc c2
      have HP2 := Lib.hid hp2
      have hat : (at1 : Int) < (m : Int) := by have := HIy.out; have := HM.out; omega
      generalize z.1.1 = z11 at cz z1
      clear hp1 hp2 hb z1 c2 c3
      go_wp2
      go_region
      go_wp2
      go_roundg g
      case measure => omega
      case rel =>
        obtain ⟨st1,st2⟩ := HP2.out.stored (at1 * 2) (.slice va n vc)
        have hga := own_tag HP2.out g' rfl
        have hbA := keep_alloc1 HBk.out (.cells #[.int .i64 (at1 : Int),.slice va n vc] 160)
        have hgd : g'≠d := fun e => by
          have h1 := hga.2.2
          rw [e] at h1
          exact absurd (h1.uniq ⟨_,_,hbA⟩) (by decide)
        have hrA := HRk.out.new (World.grownBy_alloc wr (.cells #[.int .i64 (at1 : Int),.slice va n vc] 160) none)
        have hz := HZ.out
        have hzm := hrA.pall z (List.mem_of_getElem? hz)
        refine ⟨k + 1,ps'.set at1 ((.slice va n vc,z.1.2),(b1,z.2.2)),by omega,by go_num,?_,?_,?_,?_⟩
        · exact (st2.block d (lt_of_block hbA) (fun e => by injection e with e; exact hgd e.symm)).trans hbA
        · refine hrA.pages (gtrans st2 (gwide (gdrew _))) (fun q e => by injection e with e; subst e; exact hga.2.2) (by rw [List.length_set,HL'.out,pcells_good ps' at1 z _ _ hz]; exact st1) (fun z' hz' => ?_)
          rcases List.mem_or_eq_of_mem_set hz' with hz' | rfl
          · exact .inl hz'
          · exact .inr ⟨hrA.lall (at1,(.slice va n vc,b1)) (List.mem_of_getElem? HY.out),hzm.2⟩
        · have hkl : k < ls.length := by rw [← HK.out]; exact hlt
          have e : ls.take (k + 1) = ls.take k++[(at1,(.slice va n vc,b1))] := by
            rw [List.take_succ_eq_append_getElem hkl]
            have := HY.out
            rw [List.getElem?_eq_getElem hkl] at this
            injection this with this
            rw [this]
          rw [e,List.map_append,List.map_cons,List.map_nil,syncP_snoc,← HPk.out,List.map_set]
          congr 1
          simp [List.getD_eq_getElem?_getD,hz]
        · exact HFk.out.trans ((dfr_new (World.grownBy_alloc wr (.cells #[.int .i64 (at1 : Int),.slice va n vc] 160) none)).trans (dfr_row (gtrans st2 (gwide (gdrew _))) fun q e => by injection e with e; subst e; exact ⟨hga.1,Dtag.of hga.2.2 (by decide)⟩))
    · obtain rfl : k = k0 := by omega
      have f3 := free11 hb 3
      clear hb c2
      go_wp2
      go_ret
      refine ⟨rfl,set_box HBk.out 3 _,ps',?_,?_,HFk.out.trans (dfr_row (gset wr ⟨d,3,none⟩ _) fun q e => by injection e with e; subst e; exact ⟨hB,Dtag.of ⟨_,_,HBk.out⟩ (by decide)⟩)⟩
      · have hr := HRk.out.far (gset wr ⟨d,3,none⟩ (.slice none 0 0)) (fun q e => by injection e with e; subst e; exact ⟨_,_,HBk.out⟩)
        exact ⟨hr.pown,hr.pall,World.ownsRow_nil _ _ _ _,fun y hy => by simp at hy,hr.nown⟩
      · have h := HPk.out
        rw [HK.out,List.take_length] at h
        exact h
def syncM (M : SM) : SM := { cntM M with pg := syncP M.pg M.loose,loose := [] }
theorem DskAt.sync {B d : Nat} {w : World} {M : SM} (h : DskAt B w d M) (hF : Fine M) (h0 : cE M.fails M.ahead = 0) (hin : ∀ x∈M.loose,x.1 < M.pg.length) (hl : M.loose.length≤100000) (hpl : M.pg.length≤100000) :
    Calls Tryz.prog 59 #[.pointer (some ⟨d,0,none⟩)] w fun r w' => r = .returned (.int .i64 0)∧DskAt B w' d (syncM M)∧Dfr B w w' := by
  obtain ⟨pv,lv,nv,ps,ls,h1,h2,h3,h4,h5⟩ := h
  have hpn : M.pg.length = ps.length := by rw [h4]; simp
  refine (sync_rows B w d M.size _ _ _ _ pv lv nv _ _ _ ps ls M.once h1 h2 h3 hF.1 hF.2.1 hF.2.2 h0 (fun y hy => ?_) (by rw [h5] at hl; simpa using hl) (by omega)).mono ?_
  · have := hin (y.1,y.2.2) (by rw [h5]; exact List.mem_map.2 ⟨y,hy,rfl⟩)
    rw [hpn] at this; exact this
  · rintro r w' ⟨ps',rfl,a1,a2,a3,a4⟩
    exact ⟨rfl,⟨pv,.slice none 0 0,nv,ps',[],h1,a1,a2,by rw [syncM,h4,h5]; exact a3.symm,rfl⟩,a4⟩
set_option maxHeartbeats 1000000 in
theorem DskAt.sync_io {B d : Nat} {w : World} {M : SM} (h : DskAt B w d M) (hF : Fine M) (h0 : cE M.fails M.ahead = 20) :
    Calls Tryz.prog 59 #[.pointer (some ⟨d,0,none⟩)] w fun r w' => r = .returned (.int .i64 20)∧DskAt B w' d (cntM M)∧Dfr B w w' := by
  have H0 := Lib.hid h0
  have HD := Lib.hid h
  have HF := Lib.hid hF
  clear h h0 hF
  go_enter Tryz.func59,Tryz.ntmps59
  go_wp2_with (first
    | (go_at_call 108; ((with_reducible refine (HD.out.count HF.out).mono ?_); rintro e w1 ⟨rfl,b1,g1,s1,d1⟩; rw [H0.out]; have B1 := Lib.hid b1; have D1 := Lib.hid d1; clear b1 g1 s1 d1)))
  go_ret
  exact ⟨rfl,B1.out,D1.out⟩
end Go.Proofs.YtnnmpaenainogaaGreat

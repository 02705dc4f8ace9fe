/-
  Layer 11: the laws' own 'without': pages that are held, but for one. Own work.
-/
import Derived.Test.YtnnmpaenainogaaGreatPagerKeepsAA
import Derived.Deep.LoopGhost
import Derived.Deep.CutRange
import Derived.Test.YtnnmpaenainogaaGreatPrnBP

set_option linter.unusedVariables false
set_option linter.unusedSimpArgs false
namespace Go.Proofs.YtnnmpaenainogaaGreat
open Go.RowKit Go.Maps
theorem own_src2 {w : World} {base n m c : Nat} {e : TypeId} {sa : Option Addr} {xs : List Value} (h : w.ownsRow base e 1 (.slice sa m c) n xs) (h0 : 0 < n) : ∃ g,sa = some ⟨g,0,none⟩∧g < w.heap.size∧∀ W : World,(∀ i,i < w.heap.size→W.heap[i]? = w.heap[i]?)→∀ j u,xs[j]? = some u→W.cell? ⟨g,j,none⟩ = some u := by
  have h' := h
  rcases h.2 with ⟨hv,hz⟩ | ⟨g,cap,cur,hv,hb,hg,hc,hm,hs,ht⟩
  · omega
  · cases hv
    refine ⟨g,rfl,lt_of_block hg,fun W hW j u hu => ?_⟩
    have hj : j < n := by
      have h1 := h.1
      have := (List.getElem?_eq_some_iff.1 hu).1
      rw [Nat.mul_one] at h1
      omega
    have hc := h'.cellAt j (by rw [Nat.mul_one]; exact hj)
    rw [hu] at hc
    have hbl := hW g (lt_of_block hg)
    rw [← hc]
    simp only [World.cell?,hbl]
def keepL {α : Type} (k i : Nat) (l : List α) : List α := (l.take i).eraseIdx k
theorem keepL_zero {α : Type} (k : Nat) (l : List α) : keepL k 0 l = [] := by simp [keepL]
theorem keepL_all {α : Type} (k : Nat) (l : List α) : keepL k l.length l = l.eraseIdx k := by simp [keepL]
theorem keepL_same {α : Type} {k : Nat} {l : List α} (h : k < l.length) : keepL k (k + 1) l = keepL k k l := by
  unfold keepL
  rw [List.take_succ_eq_append_getElem h,List.eraseIdx_append_of_length_le (by simp; omega),List.eraseIdx_of_length_le (l := l.take k) (by simp; omega)]
  simp [Nat.min_eq_left (Nat.le_of_lt h)]
theorem keepL_more {α : Type} {k i : Nat} {l : List α} (h : i < l.length) (hk : i≠k) : keepL k (i + 1) l = keepL k i l++[l[i]] := by
  unfold keepL
  rw [List.take_succ_eq_append_getElem h]
  by_cases hik : k < i
  · rw [List.eraseIdx_append_of_lt_length (by simp; omega)]
  · rw [List.eraseIdx_append_of_length_le (by simp; omega),List.eraseIdx_of_length_le (l := l.take i) (by simp; omega),List.eraseIdx_of_length_le (by simp; omega)]
structure WoI (w wr : World) (H : Array Value) (P F : Value) (m : Nat) (xs : List Nat) (ys : List Int) : Prop where
  w3 : W3 w wr H P F
  p : wr.ownsRow (w.heap.size + 3) 42 1 P m (xs.map encP)
  f : wr.ownsRow (w.heap.size + 3) 5 1 F m (ys.map (Value.int .u8))
set_option maxRecDepth 100000 in
set_option maxHeartbeats 8000000 in
theorem hwithout_any (w : World) (pa : Option Addr) (pn pc : Nat) (fa : Option Addr) (fn fc : Nat) (ps : List Nat) (fs : List Int) (k : Nat) (h : HV w (.slice pa pn pc) (.slice fa fn fc) ps fs) (hk : k < ps.length) (hn : ps.length≤1000) (y : Int) (hy : y = (k : Int)) :
    Calls Tryz.prog 23 #[.agg #[.slice pa pn pc,.slice fa fn fc],.int .i64 y] w fun r w' => ∃ pb qn qc fb gc,r = .returned (.agg #[.slice pb qn qc,.slice fb qn gc])∧HV w' (.slice pb qn qc) (.slice fb qn gc) (ps.eraseIdx k) (fs.eraseIdx k)∧w.grownBy w' none := by
  subst hy
  obtain ⟨i0,hi,hz0,hz1,hz2⟩ := info_parts infoPg
  obtain ⟨j0,hj,hw0,hw1,hw2⟩ := info_parts infoU8
  obtain ⟨p1,p2,-⟩ := own_src h.p.1
  obtain ⟨f1,f2,-⟩ := own_src h.f
  obtain ⟨gp,rfl,hgp,p3⟩ := own_src2 h.p.1 (by omega)
  obtain ⟨gf,rfl,hgf,f3⟩ := own_src2 h.f (by omega)
  have hfl := h.l
  have HFL := Lib.hid hfl
  have HPL : Hid (ps.length = pn) := Lib.hid p2
  have HFN : Hid (ps.length = fn) := Lib.hid f2
  have P3 := Lib.hid p3
  have F3 := Lib.hid f3
  have H32 := Lib.hid h.p.2
  have HBY := Lib.hid h.b
  have hpn : pn≤1000 := by omega
  have hkp : k < pn := by omega
  have hff : fn = pn := by omega
  subst hff
  clear h p1 p3 f1 f3 p2 f2 hfl hn hk
  have HW0 := Lib.hid (w3_start w #[.slice (some ⟨gp,0,none⟩) fn pc,.slice (some ⟨gf,0,none⟩) fn fc])
  go_enter Tryz.func23,Tryz.ntmps23
  go_wp2_with fail
  generalize ((w.alloc (.cells #[.slice (some ⟨gp,0,none⟩) fn pc,.slice (some ⟨gf,0,none⟩) fn fc] 34)).alloc (.cells #[.slice none 0 0,.slice none 0 0] 34)).alloc (.cells #[.slice none 0 0,.slice none 0 0] 34) = wA at HW0 ⊢
  generalize hq3 : w.heap.size + 1 + 1 = q3
  have HQ3 : Hid (q3 = w.heap.size + 2) := Lib.hid hq3.symm
  clear hq3
  go_loopg [6] fn (fun gk i wr => ∃ (j m : Nat) (pb : Option Addr) (qc : Nat) (fb : Option Addr) (gc : Nat),j + gk = fn∧i = .int .i64 j∧m≤j∧Hid (WoI w wr #[.slice (some ⟨gp,0,none⟩) fn pc,.slice (some ⟨gf,0,none⟩) fn fc] (.slice pb m qc) (.slice fb m gc) m (keepL k j ps) (keepL k j fs)))
  case atStart => exact ⟨0,0,none,0,none,0,by omega,rfl,Nat.le_refl _,Lib.hid ⟨HW0.out,by rw [keepL_zero]; exact World.ownsRow_nil _ _ _ _,by rw [keepL_zero]; exact World.ownsRow_nil _ _ _ _⟩⟩
  case round =>
    obtain ⟨j,m,pb,qc,fb,gc,hj',rfl,hmj,hh⟩ := hrel
    have hpl := HPL.out
    have hfl := HFL.out
    have HMB : Hid (m = (keepL k j ps).length) := Lib.hid (by have := hh.out.p.1; simpa using this.symm)
    obtain ⟨x0,x1,u0,u1⟩ := cells2 hh.out.w3.b1
    obtain ⟨y0,y1,v0,v1⟩ := cells2 (show wr.heap[q3]? = _ by rw [HQ3.out]; exact hh.out.w3.b3)
    by_cases hlt : j < fn
    · obtain ⟨gq,rfl⟩ : ∃ g,gk = g + 1 := ⟨gk - 1,by omega⟩
      have hki : (j : Int) < (fn : Int) := by omega
      by_cases hjk : j = k
      · subst hjk
        have e1 := keepL_same (k := j) (l := ps) (by omega)
        have e2 := keepL_same (k := j) (l := fs) (by omega)
        have HE1 := Lib.hid e1
        have HE2 := Lib.hid e2
        clear e1 e2
        go_wp2
        go_roundg gq
        case measure => omega
        case rel => exact ⟨j + 1,m,pb,qc,fb,gc,by omega,by go_num,by omega,by rw [HE1.out,HE2.out]; exact hh⟩
      · have hjki : ((j : Int) == (k : Int)) = false := by simp; omega
        have hjkn : ((j : Int) != (k : Int)) = true := by simp; omega
        have hjke : ¬ (j : Int) = (k : Int) := by omega
        have e1 := keepL_more (k := k) (i := j) (l := ps) (by omega) hjk
        have e2 := keepL_more (k := k) (i := j) (l := fs) (by omega) hjk
        obtain ⟨P,hP⟩ : ∃ P,ps[j]? = some P := ⟨_,List.getElem?_eq_getElem (by omega)⟩
        obtain ⟨X,hX⟩ : ∃ X,fs[j]? = some X := ⟨_,List.getElem?_eq_getElem (by omega)⟩
        have hcp : wr.cell? ⟨gp,j,none⟩ = some (.int .u32 (P : Int)) := P3.out wr (fun i hi => hh.out.w3.g.block i hi (by simp)) j (encP P) (by rw [List.getElem?_map,hP]; rfl)
        have HE1 := Lib.hid (show keepL k (j + 1) ps = keepL k j ps++[P] by rw [e1]; rw [List.getElem?_eq_getElem (by omega)] at hP; injection hP with hP; rw [hP])
        have HE2 := Lib.hid (show keepL k (j + 1) fs = keepL k j fs++[X] by rw [e2]; rw [List.getElem?_eq_getElem (by omega)] at hX; injection hX with hX; rw [hX])
        have HX := Lib.hid hX
        clear e1 e2 hP hX
        have HO0 := Lib.hid hh.out.p
        have HF0 := Lib.hid hh.out.f
        have HW1 := Lib.hid hh.out.w3
        have z0 := cell_alloc (o := .cells #[.int .u32 (P : Int)] 42) y0
        have z1 := cell_alloc (o := .cells #[.int .u32 (P : Int)] 42) x0
        have z2 := cell_alloc (o := .cells #[.int .u32 (P : Int)] 42) hcp
        clear hh HMB
        go_upto_region 6 with fail
        go_cut [] from 7 to 36 (fun wx => ∃ a5 c5,W3 w wx #[.slice (some ⟨gp,0,none⟩) fn pc,.slice (some ⟨gf,0,none⟩) fn fc] (.slice a5 (m + 1) c5) (.slice fb m gc)∧wx.ownsRow (w.heap.size + 3) 42 1 (.slice a5 (m + 1) c5) (m + 1) ((keepL k j ps).map encP++[.int .u32 (P : Int)])∧wx.ownsRow (w.heap.size + 3) 5 1 (.slice fb m gc) m ((keepL k j fs).map (Value.int .u8)))
        case first =>
          go_wp2
          go_region_law (refine step_append_own2 rfl (.tmp 18) (.tmp 24) 31 rfl (w.heap.size + 3) 42 i0 (.int .u32 0) 1 4 Tryz.underlying31 hi hz0 hz1 hz2 rfl (by decide) _ _ _ rfl (HO0.out.alloc _) ⟨wr.heap.size,0,none⟩ 1 1 [.int .u32 (P : Int)] rfl rfl (cell_one_drew _ _ _) (one_cell _ rfl) (by unfold maxLen; omega) (by omega) (by have := HW1.out.lt; simp; omega) ?_; intro v' w5 hown5 hgr5 _; obtain ⟨a5,c5,rfl⟩ := own_shape hown5; have HO5 := Lib.hid hown5; have HF5 := Lib.hid (hv_apart HF0.out HO0.out (g_alloc_drew wr _) hgr5 (by decide)); have HWL := HW1.out.app (g_alloc_drew wr (.cells #[.int .u32 (P : Int)] 42)) (by simp); have HW5 := Lib.hid (HWL.app hgr5 (fun q hq => (World.ownsRow.lt HO0.out q hq).1)); obtain ⟨y0',y1',v0',v1'⟩ := cells2 (show w5.heap[q3]? = _ by rw [HQ3.out]; exact HW5.out.b3); clear hown5 hgr5 HWL)
          all_goals
            have HW6 := Lib.hid (HW5.out.set0 (.slice a5 (m + 1) c5))
            have HO6 := Lib.hid (w3_own (q := w.heap.size + 2) HO5.out (w' := w5.setCell ⟨w.heap.size + 2,0,none⟩ (.slice a5 (m + 1) c5)) (gset _ _ _))
            have HF6 := Lib.hid (w3_own (q := w.heap.size + 2) HF5.out (w' := w5.setCell ⟨w.heap.size + 2,0,none⟩ (.slice a5 (m + 1) c5)) (gset _ _ _))
            rw [← HQ3.out] at HW6 HO6 HF6
            go_wp2
            go_meet
            case rel => exact ⟨a5,c5,HW6.out,HO6.out,HF6.out⟩
        case rest =>
          obtain ⟨a5,c5,hw,ho,hf⟩ := hcut
          have hcx : wc.cell? ⟨gf,j,none⟩ = some (.int .u8 X) := F3.out wc (fun i hi => hw.g.block i hi (by simp)) j (.int .u8 X) (by rw [List.getElem?_map,HX.out]; rfl)
          clear x0 x1 u0 u1 y0 y1 v0 v1 z0 z1 z2 hcp
          obtain ⟨x0,x1,u0,u1⟩ := cells2 hw.b1
          obtain ⟨y0,y1,v0,v1⟩ := cells2 (show wc.heap[q3]? = _ by rw [HQ3.out]; exact hw.b3)
          have HW6 := Lib.hid hw
          have HO6 := Lib.hid ho
          have HF6 := Lib.hid hf
          have z0 := cell_alloc (o := .cells #[.int .u8 X] 5) y1
          have z1 := cell_alloc (o := .cells #[.int .u8 X] 5) x1
          have z2 := cell_alloc (o := .cells #[.int .u8 X] 5) hcx
          clear hw ho hf HO0 HF0 HW1
          go_wp2
          go_region_law (refine step_append_own2 rfl (.tmp 28) (.tmp 34) 32 rfl (w.heap.size + 3) 5 j0 (.int .u8 0) 1 1 Tryz.underlying32 hj hw0 hw1 hw2 rfl (by decide) _ _ _ rfl (HF6.out.alloc _) ⟨wc.heap.size,0,none⟩ 1 1 [.int .u8 X] rfl rfl (cell_one_drew _ _ _) (one_cell _ rfl) (by unfold maxLen; omega) (by omega) (by have := HW6.out.lt; simp; omega) ?_; intro v' w7 hown7 hgr7 _; obtain ⟨a7,c7,rfl⟩ := own_shape hown7; have HF7 := Lib.hid hown7; have HO7 := Lib.hid (hv_apart HO6.out HF6.out (g_alloc_drew wc _) hgr7 (by decide)); have HWL := HW6.out.app (g_alloc_drew wc (.cells #[.int .u8 X] 5)) (by simp); have HW7 := Lib.hid (HWL.app hgr7 (fun q hq => (World.ownsRow.lt HF6.out q hq).1)); obtain ⟨y0',y1',v0',v1'⟩ := cells2 (show w7.heap[q3]? = _ by rw [HQ3.out]; exact HW7.out.b3); clear hown7 hgr7 HWL)
          all_goals
            have HW8 := Lib.hid (HW7.out.set1 (.slice a7 (m + 1) c7))
            have HO8 := Lib.hid (w3_own (q := w.heap.size + 2) HO7.out (w' := w7.setCell ⟨w.heap.size + 2,1,none⟩ (.slice a7 (m + 1) c7)) (gset _ _ _))
            have HF8 := Lib.hid (w3_own (q := w.heap.size + 2) HF7.out (w' := w7.setCell ⟨w.heap.size + 2,1,none⟩ (.slice a7 (m + 1) c7)) (gset _ _ _))
            rw [← HQ3.out] at HW8 HO8 HF8
            go_wp2
            go_roundg gq
            case measure => omega
            case rel => exact ⟨j + 1,m + 1,a5,c5,a7,c7,by omega,by go_num,by omega,Lib.hid ⟨HW8.out,by rw [HE1.out,List.map_append]; exact HO8.out,by rw [HE2.out,List.map_append]; exact HF8.out⟩⟩
    · obtain rfl : j = fn := by omega
      obtain ⟨b0,b1,b2,b3⟩ := cells2 hh.out.w3.b2
      go_wp2
      obtain ⟨hb,hg⟩ := w3_done hh.out.w3 (.slice pb m qc) (.slice fb m gc)
      refine bodyPost_ret (results_H rfl _ _ (w.heap.size + 1) _ rfl hb rfl) rfl ?_
      have hp := own_base (w3_own (q := w.heap.size + 1) hh.out.p hg) (Nat.zero_le _)
      have hf := own_base (w3_own (q := w.heap.size + 1) hh.out.f hg) (Nat.zero_le _)
      have e1 : keepL k j ps = ps.eraseIdx k := by rw [← hpl]; exact keepL_all k ps
      have e2 : keepL k j fs = fs.eraseIdx k := by rw [← hpl,← hfl]; exact keepL_all k fs
      have hmb := HMB.out
      rw [e1] at hp hmb
      rw [e2] at hf
      refine ⟨pb,m,qc,fb,gc,rfl,⟨⟨by rw [← hmb]; exact hp,fun q hq => H32.out q (List.mem_of_mem_eraseIdx hq)⟩,by rw [← hmb]; exact hf,?_,fun y hy => HBY.out y (List.mem_of_mem_eraseIdx hy)⟩,gnew hh.out.w3.g hg (by omega)⟩
      simp [List.length_eraseIdx,hfl]
end Go.Proofs.YtnnmpaenainogaaGreat

namespace Go.Proofs.YtnnmpaenainogaaGreat
open Go.RowKit Go.Maps
theorem own8_new {w w' : World} {base n : Nat} {v : Value} {bs : List Int} (h : Own8 base w n v bs) (g : w.grownBy w' none) : Own8 base w' n v bs := World.ownsRow.kept h g (Classical.em _)
theorem hv_cells {w : World} {gp gf n pc fc : Nat} {ps : List Nat} {fs : List Int} (h : HV w (.slice (some ⟨gp,0,none⟩) n pc) (.slice (some ⟨gf,0,none⟩) n fc) ps fs) {j : Nat} (hj : j < ps.length) :
    w.cell? ⟨gp,j,none⟩ = some (.int .u32 ((ps.getD j 0 : Nat) : Int))∧w.cell? ⟨gf,j,none⟩ = some (.int .u8 (fs.getD j 0)) := by
  have hl := h.l
  obtain ⟨g1,e1,-,p3⟩ := own_src2 h.p.1 (by omega)
  obtain ⟨g2,e2,-,f3⟩ := own_src2 h.f (by omega)
  obtain rfl : gp = g1 := by injection e1 with e1; injection e1
  obtain rfl : gf = g2 := by injection e2 with e2; injection e2
  exact ⟨p3 w (fun i hi => rfl) j (encP (ps.getD j 0)) (by rw [List.getElem?_map,List.getElem?_eq_getElem (by omega),List.getD_eq_getElem?_getD,List.getElem?_eq_getElem (by omega)]; rfl),
    f3 w (fun i hi => rfl) j (.int .u8 (fs.getD j 0)) (by rw [List.getElem?_map,List.getElem?_eq_getElem (by omega),List.getD_eq_getElem?_getD,List.getElem?_eq_getElem (by omega)]; rfl)⟩
set_option maxRecDepth 100000 in
set_option maxHeartbeats 8000000 in
theorem freads_any {B f : Nat} (w : World) (pa : Option Addr) (pn pc : Nat) (fa : Option Addr) (fn fc : Nat) (ps : List Nat) (fs : List Int) (h : HV w (.slice pa pn pc) (.slice fa fn fc) ps fs) (hn : ps.length≤1000) (hB : B≤w.heap.size) (Inv : World→Nat→Prop) (h0 : Inv w 0)
    (hnew : ∀ W W' j,Inv W j→W.grownBy W' none→Inv W' j)
    (hread : ∀ (W : World) (j : Nat),j < ps.length→Inv W j→Calls Tryz.prog 40 #[.pointer (some ⟨f,0,none⟩),.int .u32 ((ps.getD j 0 : Nat) : Int)] W fun r w' => ∃ ao cc,r = .returned (.tuple #[.slice ao 512 cc,.int .i64 0])∧Own8 W.heap.size w' 512 (.slice ao 512 cc) (List.replicate 512 (fs.getD j 0))∧Kfr KD B W w'∧Inv w' (j + 1)) :
    Calls Tryz.prog 26 #[.iface 28 (.pointer (some ⟨f,0,none⟩)),.agg #[.slice pa pn pc,.slice fa fn fc]] w fun r w' => r = .returned (.bool true)∧Inv w' ps.length∧Kfr KD B w w' := by
  have hmeth : ∀ (a : Addr) (w : World),(method 538 28 (.pointer (some a)) "Read").run Tryz.prog w = .ok (40,.pointer (some a)) w := fun _ _ => by kernel_rfl
  have hnil : ∀ (a : Addr) (w : World),(nilAhead 538 28 (.pointer (some a)) "Read").run Tryz.prog w = .ok (some false) w := fun _ _ => by kernel_rfl
  obtain ⟨p1,p2,-⟩ := own_src h.p.1
  obtain ⟨f1,f2,-⟩ := own_src h.f
  have hfl := h.l
  have HFL := Lib.hid hfl
  have HPL : Hid (ps.length = pn) := Lib.hid p2
  have hff : fn = pn := by omega
  subst hff
  have HV0 := Lib.hid h
  have HNEW := Lib.hid hnew
  have HRD := Lib.hid hread
  have hpn : fn≤1000 := by omega
  have HI0 := Lib.hid (hnew _ _ _ h0 (World.grownBy_alloc w (.cells #[.slice pa fn pc,.slice fa fn fc] 34) none))
  have HV1 := Lib.hid (h.new (World.grownBy_alloc w (.cells #[.slice pa fn pc,.slice fa fn fc] 34) none))
  have HQ0 := Lib.hid (heap_alloc_new w (.cells #[.slice pa fn pc,.slice fa fn fc] 34))
  have HK0 := Lib.hid (Kfr.of (P := KD) (B := B) (World.grownBy_alloc w (.cells #[.slice pa fn pc,.slice fa fn fc] 34) none))
  clear h hnew hread h0 p1 p2 f1 f2 hfl hn
  go_enter Tryz.func26,Tryz.ntmps26
  go_wp2_with fail
  generalize hq : w.heap.size = q at *
  go_loopg [5] fn (fun gk i wr => ∃ (j : Nat),j + gk = fn∧i = .int .i64 j∧Hid (Inv wr j∧HV wr (.slice pa fn pc) (.slice fa fn fc) ps fs∧wr.heap[q]? = some (.cells #[.slice pa fn pc,.slice fa fn fc] 34 (0,0))∧Kfr KD B w wr))
  case atStart => exact ⟨0,by omega,rfl,Lib.hid ⟨HI0.out,HV1.out,HQ0.out,HK0.out⟩⟩
  case round =>
    obtain ⟨j,hj',rfl,hh⟩ := hrel
    obtain ⟨x0,x1,u0,u1⟩ := cells2 hh.out.2.2.1
    by_cases hlt : j < fn
    · obtain ⟨gq,rfl⟩ : ∃ g,gk = g + 1 := ⟨gk - 1,by omega⟩
      have hki : (j : Int) < (fn : Int) := by omega
      have hpl := HPL.out
      have hfl := HFL.out
      obtain ⟨gp,rfl,hgp,p3⟩ := own_src2 hh.out.2.1.p.1 (by omega)
      obtain ⟨gf,rfl,hgf,f3⟩ := own_src2 hh.out.2.1.f (by omega)
      have hcp : wr.cell? ⟨gp,j,none⟩ = some (.int .u32 ((ps.getD j 0 : Nat) : Int)) := p3 wr (fun i hi => rfl) j (encP (ps.getD j 0)) (by rw [List.getElem?_map,List.getElem?_eq_getElem (by omega),List.getD_eq_getElem?_getD,List.getElem?_eq_getElem (by omega)]; rfl)
      have hcx : wr.cell? ⟨gf,j,none⟩ = some (.int .u8 (fs.getD j 0)) := f3 wr (fun i hi => rfl) j (.int .u8 (fs.getD j 0)) (by rw [List.getElem?_map,List.getElem?_eq_getElem (by omega),List.getD_eq_getElem?_getD,List.getElem?_eq_getElem (by omega)]; rfl)
      have HR1 := Lib.hid (fun W (k : Inv W j) => HRD.out W j (by omega) k)
      have HBX := Lib.hid (HV0.out.b.get j)
      obtain ⟨P,hP⟩ : ∃ P,P = ps.getD j 0 := ⟨_,rfl⟩
      obtain ⟨X,hX⟩ : ∃ X,X = fs.getD j 0 := ⟨_,rfl⟩
      rw [← hP] at hcp HR1
      rw [← hX] at hcx HR1 HBX
      have HPE := Lib.hid hP
      have HXE := Lib.hid hX
      have HJL := Lib.hid (show j < ps.length by omega)
      clear hP hX p3 f3 hpl hfl
      have x0d : wr.drew.cell? ⟨q,0,none⟩ = some (.slice (some ⟨gp,0,none⟩) fn pc) := x0
      have hcpd : wr.drew.cell? ⟨gp,j,none⟩ = some (.int .u32 (P : Int)) := hcp
      have HID := Lib.hid (HNEW.out _ _ _ hh.out.1 (gdrew wr))
      have HK1 := Lib.hid (hh.out.2.2.2.trans (Kfr.of (P := KD) (B := B) (gdrew wr)))
      have HVD := Lib.hid (hh.out.2.1.new (gdrew wr))
      have HQD := Lib.hid (show wr.drew.heap[q]? = some (.cells #[.slice (some ⟨gp,0,none⟩) fn pc,.slice (some ⟨gf,0,none⟩) fn fc] 34 (0,0)) from hh.out.2.2.1)
      go_wp2
      go_region_held3 (fun v => v.cell? ⟨q,0,none⟩ = some (.slice (some ⟨gp,0,none⟩) fn pc)∧v.cell? ⟨gp,j,none⟩ = some (.int .u32 (P : Int)))
        (first | exact ⟨x0d,hcpd⟩ | exact HS2.out)
        (first | (go_at_call 40; ((with_reducible refine (HR1.out _ HID.out).mono ?_); rintro r w2 ⟨ao,cc,rfl,ho,hk,hi⟩); have HO2 := Lib.hid ho; have HK2 := Lib.hid hk; have HI2 := Lib.hid hi; have HV2 := Lib.hid (HVD.out.kfr hk (not_KD' (by decide)) (not_KD' (by decide))); have HQ2 := Lib.hid (hk.cells HQD.out (not_KD' (by decide))); have HS2 : Hid (w2.cell? ⟨q,0,none⟩ = some (.slice (some ⟨gp,0,none⟩) fn pc)∧w2.cell? ⟨gp,j,none⟩ = some (.int .u32 (P : Int))) := Lib.hid ⟨(cells2 HQ2.out).1,by have := (hv_cells HV2.out (j := j) HJL.out).1; rw [← HPE.out] at this; exact this⟩; clear ho hk hi))
      obtain ⟨S,hS⟩ : ∃ S,S = strOfNums (List.replicate 512 X) := ⟨_,rfl⟩
      have HSS := Lib.hid hS
      clear hS
      have HVE := Lib.hid (HV2.out.new (gdrew w2))
      have HIE := Lib.hid (HNEW.out _ _ _ HI2.out (gdrew w2))
      have y1d : w2.drew.cell? ⟨q,1,none⟩ = some (.slice (some ⟨gf,0,none⟩) fn fc) := (cells2 HQ2.out).2.1
      have hxd : w2.drew.cell? ⟨gf,j,none⟩ = some (.int .u8 X) := by have := (hv_cells HVE.out (j := j) HJL.out).2; rw [← HXE.out] at this; exact this
      have hst : (convert 32 9 (.slice ao 512 cc)).run Tryz.prog w2.drew = .ok (.string S) w2.drew := by rw [HSS.out]; exact seq_string (Own8.seq (own8_new HO2.out (gdrew w2)))
      have HST3 := Lib.hid (fun w3 (g : w2.drew.grownBy w3 none) => (show (convert 32 9 (.slice ao 512 cc)).run Tryz.prog w3 = .ok (.string S) w3 by rw [HSS.out]; exact seq_string (Own8.seq (own8_new (own8_new HO2.out (gdrew w2)) g))))
      go_wp2
      go_region_law (first
        | (go_simp; go_at_call 20; refine (page_any _ 512 X (by decide)).mono ?_; rintro r w3 ⟨g3,rfl,ho,hg⟩; have hst3 := HST3.out _ hg; have hsp : (convert 32 9 (.slice (some ⟨g3,0,none⟩) 512 512)).run Tryz.prog w3 = .ok (.string S) w3 := (by rw [HSS.out]; exact seq_string (Own8.seq ho)); have HI3 := Lib.hid (HNEW.out _ _ _ HIE.out hg); have HG3 := Lib.hid hg; clear ho hg))
      all_goals
        go_wp2
        go_roundg gq
        case measure => omega
        case rel => exact ⟨j + 1,by omega,by go_num,Lib.hid ⟨HI3.out,HVE.out.new HG3.out,(HG3.out.block q (lt_of_block (w := w2.drew) HQ2.out) (by simp)).trans HQ2.out,((HK1.out.trans HK2.out).trans (Kfr.of (gdrew w2))).trans (Kfr.of HG3.out)⟩⟩
    · obtain rfl : j = fn := by omega
      go_wp2
      go_ret
      exact ⟨rfl,by rw [HPL.out]; exact hh.out.1,hh.out.2.2.2⟩
end Go.Proofs.YtnnmpaenainogaaGreat

namespace Go.Proofs.YtnnmpaenainogaaGreat
open Go.RowKit Go.Maps
set_option maxRecDepth 100000 in
set_option maxHeartbeats 8000000 in
theorem treads_any {B f : Nat} (w : World) (pa : Option Addr) (pn pc : Nat) (fa : Option Addr) (fn fc : Nat) (ps : List Nat) (fs : List Int) (h : HV w (.slice pa pn pc) (.slice fa fn fc) ps fs) (hn : ps.length≤1000) (hB : B≤w.heap.size) (Inv : World→Nat→Prop) (h0 : Inv w 0)
    (hnew : ∀ W W' j,Inv W j→W.grownBy W' none→Inv W' j)
    (hread : ∀ (W : World) (j : Nat),j < ps.length→Inv W j→Calls Tryz.prog 41 #[.pointer (some ⟨f,0,none⟩),.int .u32 ((ps.getD j 0 : Nat) : Int)] W fun r w' => ∃ ao cc,r = .returned (.tuple #[.slice ao 512 cc,.int .i64 0])∧Own8 W.heap.size w' 512 (.slice ao 512 cc) (List.replicate 512 (fs.getD j 0))∧Kfr KD B W w'∧Inv w' (j + 1)) :
    Calls Tryz.prog 26 #[.iface 36 (.pointer (some ⟨f,0,none⟩)),.agg #[.slice pa pn pc,.slice fa fn fc]] w fun r w' => r = .returned (.bool true)∧Inv w' ps.length∧Kfr KD B w w' := by
  have hmeth : ∀ (a : Addr) (w : World),(method 538 36 (.pointer (some a)) "Read").run Tryz.prog w = .ok (41,.pointer (some a)) w := fun _ _ => by kernel_rfl
  have hnil : ∀ (a : Addr) (w : World),(nilAhead 538 36 (.pointer (some a)) "Read").run Tryz.prog w = .ok (some false) w := fun _ _ => by kernel_rfl
  obtain ⟨p1,p2,-⟩ := own_src h.p.1
  obtain ⟨f1,f2,-⟩ := own_src h.f
  have hfl := h.l
  have HFL := Lib.hid hfl
  have HPL : Hid (ps.length = pn) := Lib.hid p2
  have hff : fn = pn := by omega
  subst hff
  have HV0 := Lib.hid h
  have HNEW := Lib.hid hnew
  have HRD := Lib.hid hread
  have hpn : fn≤1000 := by omega
  have HI0 := Lib.hid (hnew _ _ _ h0 (World.grownBy_alloc w (.cells #[.slice pa fn pc,.slice fa fn fc] 34) none))
  have HV1 := Lib.hid (h.new (World.grownBy_alloc w (.cells #[.slice pa fn pc,.slice fa fn fc] 34) none))
  have HQ0 := Lib.hid (heap_alloc_new w (.cells #[.slice pa fn pc,.slice fa fn fc] 34))
  have HK0 := Lib.hid (Kfr.of (P := KD) (B := B) (World.grownBy_alloc w (.cells #[.slice pa fn pc,.slice fa fn fc] 34) none))
  clear h hnew hread h0 p1 p2 f1 f2 hfl hn
  go_enter Tryz.func26,Tryz.ntmps26
  go_wp2_with fail
  generalize hq : w.heap.size = q at *
  go_loopg [5] fn (fun gk i wr => ∃ (j : Nat),j + gk = fn∧i = .int .i64 j∧Hid (Inv wr j∧HV wr (.slice pa fn pc) (.slice fa fn fc) ps fs∧wr.heap[q]? = some (.cells #[.slice pa fn pc,.slice fa fn fc] 34 (0,0))∧Kfr KD B w wr))
  case atStart => exact ⟨0,by omega,rfl,Lib.hid ⟨HI0.out,HV1.out,HQ0.out,HK0.out⟩⟩
  case round =>
    obtain ⟨j,hj',rfl,hh⟩ := hrel
    obtain ⟨x0,x1,u0,u1⟩ := cells2 hh.out.2.2.1
    by_cases hlt : j < fn
    · obtain ⟨gq,rfl⟩ : ∃ g,gk = g + 1 := ⟨gk - 1,by omega⟩
      have hki : (j : Int) < (fn : Int) := by omega
      have hpl := HPL.out
      have hfl := HFL.out
      obtain ⟨gp,rfl,hgp,p3⟩ := own_src2 hh.out.2.1.p.1 (by omega)
      obtain ⟨gf,rfl,hgf,f3⟩ := own_src2 hh.out.2.1.f (by omega)
      have hcp : wr.cell? ⟨gp,j,none⟩ = some (.int .u32 ((ps.getD j 0 : Nat) : Int)) := p3 wr (fun i hi => rfl) j (encP (ps.getD j 0)) (by rw [List.getElem?_map,List.getElem?_eq_getElem (by omega),List.getD_eq_getElem?_getD,List.getElem?_eq_getElem (by omega)]; rfl)
      have hcx : wr.cell? ⟨gf,j,none⟩ = some (.int .u8 (fs.getD j 0)) := f3 wr (fun i hi => rfl) j (.int .u8 (fs.getD j 0)) (by rw [List.getElem?_map,List.getElem?_eq_getElem (by omega),List.getD_eq_getElem?_getD,List.getElem?_eq_getElem (by omega)]; rfl)
      have HR1 := Lib.hid (fun W (k : Inv W j) => HRD.out W j (by omega) k)
      have HBX := Lib.hid (HV0.out.b.get j)
      obtain ⟨P,hP⟩ : ∃ P,P = ps.getD j 0 := ⟨_,rfl⟩
      obtain ⟨X,hX⟩ : ∃ X,X = fs.getD j 0 := ⟨_,rfl⟩
      rw [← hP] at hcp HR1
      rw [← hX] at hcx HR1 HBX
      have HPE := Lib.hid hP
      have HXE := Lib.hid hX
      have HJL := Lib.hid (show j < ps.length by omega)
      clear hP hX p3 f3 hpl hfl
      have x0d : wr.drew.cell? ⟨q,0,none⟩ = some (.slice (some ⟨gp,0,none⟩) fn pc) := x0
      have hcpd : wr.drew.cell? ⟨gp,j,none⟩ = some (.int .u32 (P : Int)) := hcp
      have HID := Lib.hid (HNEW.out _ _ _ hh.out.1 (gdrew wr))
      have HK1 := Lib.hid (hh.out.2.2.2.trans (Kfr.of (P := KD) (B := B) (gdrew wr)))
      have HVD := Lib.hid (hh.out.2.1.new (gdrew wr))
      have HQD := Lib.hid (show wr.drew.heap[q]? = some (.cells #[.slice (some ⟨gp,0,none⟩) fn pc,.slice (some ⟨gf,0,none⟩) fn fc] 34 (0,0)) from hh.out.2.2.1)
      go_wp2
      go_region_held3 (fun v => v.cell? ⟨q,0,none⟩ = some (.slice (some ⟨gp,0,none⟩) fn pc)∧v.cell? ⟨gp,j,none⟩ = some (.int .u32 (P : Int)))
        (first | exact ⟨x0d,hcpd⟩ | exact HS2.out)
        (first | (go_at_call 41; ((with_reducible refine (HR1.out _ HID.out).mono ?_); rintro r w2 ⟨ao,cc,rfl,ho,hk,hi⟩); have HO2 := Lib.hid ho; have HK2 := Lib.hid hk; have HI2 := Lib.hid hi; have HV2 := Lib.hid (HVD.out.kfr hk (not_KD' (by decide)) (not_KD' (by decide))); have HQ2 := Lib.hid (hk.cells HQD.out (not_KD' (by decide))); have HS2 : Hid (w2.cell? ⟨q,0,none⟩ = some (.slice (some ⟨gp,0,none⟩) fn pc)∧w2.cell? ⟨gp,j,none⟩ = some (.int .u32 (P : Int))) := Lib.hid ⟨(cells2 HQ2.out).1,by have := (hv_cells HV2.out (j := j) HJL.out).1; rw [← HPE.out] at this; exact this⟩; clear ho hk hi))
      obtain ⟨S,hS⟩ : ∃ S,S = strOfNums (List.replicate 512 X) := ⟨_,rfl⟩
      have HSS := Lib.hid hS
      clear hS
      have HVE := Lib.hid (HV2.out.new (gdrew w2))
      have HIE := Lib.hid (HNEW.out _ _ _ HI2.out (gdrew w2))
      have y1d : w2.drew.cell? ⟨q,1,none⟩ = some (.slice (some ⟨gf,0,none⟩) fn fc) := (cells2 HQ2.out).2.1
      have hxd : w2.drew.cell? ⟨gf,j,none⟩ = some (.int .u8 X) := by have := (hv_cells HVE.out (j := j) HJL.out).2; rw [← HXE.out] at this; exact this
      have hst : (convert 32 9 (.slice ao 512 cc)).run Tryz.prog w2.drew = .ok (.string S) w2.drew := by rw [HSS.out]; exact seq_string (Own8.seq (own8_new HO2.out (gdrew w2)))
      have HST3 := Lib.hid (fun w3 (g : w2.drew.grownBy w3 none) => (show (convert 32 9 (.slice ao 512 cc)).run Tryz.prog w3 = .ok (.string S) w3 by rw [HSS.out]; exact seq_string (Own8.seq (own8_new (own8_new HO2.out (gdrew w2)) g))))
      go_wp2
      go_region_law (first
        | (go_simp; go_at_call 20; refine (page_any _ 512 X (by decide)).mono ?_; rintro r w3 ⟨g3,rfl,ho,hg⟩; have hst3 := HST3.out _ hg; have hsp : (convert 32 9 (.slice (some ⟨g3,0,none⟩) 512 512)).run Tryz.prog w3 = .ok (.string S) w3 := (by rw [HSS.out]; exact seq_string (Own8.seq ho)); have HI3 := Lib.hid (HNEW.out _ _ _ HIE.out hg); have HG3 := Lib.hid hg; clear ho hg))
      all_goals
        go_wp2
        go_roundg gq
        case measure => omega
        case rel => exact ⟨j + 1,by omega,by go_num,Lib.hid ⟨HI3.out,HVE.out.new HG3.out,(HG3.out.block q (lt_of_block (w := w2.drew) HQ2.out) (by simp)).trans HQ2.out,((HK1.out.trans HK2.out).trans (Kfr.of (gdrew w2))).trans (Kfr.of HG3.out)⟩⟩
    · obtain rfl : j = fn := by omega
      go_wp2
      go_ret
      exact ⟨rfl,by rw [HPL.out]; exact hh.out.1,hh.out.2.2.2⟩
end Go.Proofs.YtnnmpaenainogaaGreat

namespace Go.Proofs.YtnnmpaenainogaaGreat
open Go.RowKit Go.Maps
theorem infoIntP : (Tryz.prog.info? 3).map (fun i => (i.zero,i.size,i.bytes)) = some (some (.int .i64 0),1,8) := by kernel_rfl
theorem wpList_append_any2 {P : Program} (w : World) {ops : Array Oper} {rest : List Oper} {o : Oper} {a : Act} {Q : Exit→Act→World→Prop} (hgd : o.guard = none) (s x : Operand) (t : TypeId)
    (ho : o.op = .call { callee := .builtin .append,args := #[s,x],argTypes := #[t,t] })
    (base : Nat) (e : TypeId) (i : TypeInfo) (z : Value) (size bytes : Nat) (ht : P.underlying t = some (.slice e)) (hi : P.info? e = some i) (hz : i.zero = some z)
    (hsize : i.size = size) (hby : i.bytes = bytes) (hzs : z.cells.size = size) (hsz : 0 < size)
    (v : Value) (n : Nat) (xs : List Value) (hs : a.eval s = v) (hown : w.ownsRow base e size v n xs)
    (sa : Option Addr) (m c : Nat) (news : List Value) (hx : a.eval x = .slice sa m c) (hl : news.length = m * size) (hsa : sa = none→m = 0) (hnews : ∀ ad,sa = some ad→∀ j u,news[j]? = some u→w.cell? (ad.add j) = some u) (h1 : ∀ u∈news,u.oneCell' = true)
    (h63 : n + m≤maxLen) (hbytes : (n + m) * bytes≤140737488355328) (hbase : base≤w.heap.size)
    (h : ∀ v' w',w'.ownsRow base e size v' (n + m) (xs++news)→w.grownBy w' v.ownBlock→Fresh w v v'→wpList P ops Q rest (a.put o.dst v') w') : wpList P ops Q (o :: rest) a w := by
  cases sa with
  | none =>
    obtain rfl := hsa rfl
    have hn : news = [] := List.eq_nil_of_length_eq_zero (by simpa using hl)
    subst hn
    refine wpList_plain hgd fun K hK => ?_
    have hrun := run_append_none10 (P := P) (w := w) base t o.type e i size ht hi v n c xs hown
    unfold Oper.wp
    simp [execOp,ho,resolve,invoke,builtin,hs,hx,hrun,Result.andThen]
    exact hK _ _ (h v w (by simpa using hown) (grefl _ _) (.inl rfl))
  | some ad => exact wpList_append_own2 w hgd s x t ho base e i z size bytes ht hi hz hsize hby hzs hsz v n xs hs hown ad m c news hx hl (hnews ad rfl) h1 h63 hbytes hbase h
def cntsL (e : Nat) (L : List Nat) : List Nat := (List.range e).map fun q => (if q < 2 then 1 else 0) + L.count q
theorem cntsL_len (e : Nat) (L : List Nat) : (cntsL e L).length = e := by simp [cntsL]
theorem cntsL_get {e : Nat} (L : List Nat) {q : Nat} (h : q < e) : (cntsL e L)[q]? = some ((if q < 2 then 1 else 0) + L.count q) := by
  unfold cntsL
  rw [List.getElem?_map,List.getElem?_range h]; rfl
theorem cntsL_set {e : Nat} (L : List Nat) {p : Nat} (h : p < e) : (cntsL e L).set p ((if p < 2 then 1 else 0) + L.count p + 1) = cntsL e (L++[p]) := by
  apply List.ext_getElem?
  intro q
  by_cases hq : q < e
  · rw [List.getElem?_set,cntsL_get _ hq,cntsL_get _ hq,cntsL_len]
    by_cases e1 : p = q
    · subst e1; simp [h]; omega
    · rw [if_neg e1]
      simp [List.count_append,List.count_singleton,e1]
  · rw [List.getElem?_eq_none (by rw [List.length_set,cntsL_len]; omega),List.getElem?_eq_none (by rw [cntsL_len]; omega)]
theorem cntsL_nil (e : Nat) (h : 2≤e) : ((List.replicate e 0).set 0 1).set 1 1 = cntsL e [] := by
  apply List.ext_getElem?
  intro q
  by_cases hq : q < e
  · rw [cntsL_get _ hq]
    rcases (show q = 0∨q = 1∨2≤q by omega) with rfl | rfl | h2
    · rw [List.getElem?_set_ne (by omega),List.getElem?_set_self (by simp; omega)]; rfl
    · rw [List.getElem?_set_self (by simp; omega)]; rfl
    · rw [List.getElem?_set_ne (by omega),List.getElem?_set_ne (by omega),List.getElem?_replicate,if_pos hq]
      simp; omega
  · rw [List.getElem?_eq_none (by simp; omega),List.getElem?_eq_none (by rw [cntsL_len]; omega)]
theorem cntsL_one {e : Nat} {L : List Nat} (hn : L.Nodup) (hr : ∀ p∈L,2≤p∧p < e) (ha : ∀ p,2≤p→p < e→p∈L) {q : Nat} (hq : q < e) : (cntsL e L)[q]? = some 1 := by
  rw [cntsL_get _ hq]
  by_cases h2 : q < 2
  · have : q ∉ L := fun h => by have := hr q h; omega
    rw [if_pos h2,List.count_eq_zero_of_not_mem this]
  · rw [if_neg h2,List.Nodup.count hn,if_pos (ha q (by omega) hq)]
abbrev encN (n : Nat) : Value := .int .i64 (n : Int)
structure WhL (w w8 w9 wk : World) (lv : Value) (Ls : List Nat) (sv : Value) (e : Nat) (cs : List Nat) (rv : Value) (rs : List Rc) (q1 q2 : Nat) (H mt : Array Value) : Prop where
  g : w.grownBy wk none
  g9 : w9.heap.size≤wk.heap.size
  l : wk.ownsRow 0 42 1 lv Ls.length (Ls.map encP)
  lq : ∀ q,lv.ownBlock = some q→w.heap.size≤q∧(q < w8.heap.size∨w9.heap.size≤q)
  s : wk.ownsRow w.heap.size 3 1 sv e (cs.map encN)
  r : RSq (fun b => w8.heap.size≤b∧b < w9.heap.size∧(ek wk b = some 158∨ek wk b = some 42)) wk rv rs
  b1 : wk.heap[q1]? = some (.cells H 34 (0,0))
  b2 : wk.heap[q2]? = some (.cells mt 44 (0,0))
theorem WhL.app {w w8 w9 wk w' : World} {lv v' : Value} {Ls ps : List Nat} {sv : Value} {e m : Nat} {cs : List Nat} {rv : Value} {rs : List Rc} {q1 q2 : Nat} {H mt : Array Value} (h : WhL w w8 w9 wk lv Ls sv e cs rv rs q1 q2 H mt) (hm : ps.length = m)
    (ho : w'.ownsRow 0 42 1 v' (Ls.length + m) (Ls.map encP++ps.map encP)) (g : wk.grownBy w' lv.ownBlock) (hf : Fresh wk lv v') : WhL w w8 w9 w' v' (Ls++ps) sv e cs rv rs q1 q2 H mt := by
  subst hm
  have hT : ∀ q,lv.ownBlock = some q→TagIs wk q 42∧w.heap.size≤q∧(q < w8.heap.size∨w9.heap.size≤q)∧q < wk.heap.size := fun q hq => by
    have := own_tag h.l q hq
    exact ⟨this.2.2,(h.lq q hq).1,(h.lq q hq).2,this.2.1⟩
  refine ⟨?_,Nat.le_trans h.g9 g.size,by rw [List.length_append,List.map_append]; exact ho,fun q hq => ?_,own_far h.s g (fun q hq => (hT q hq).1) (by decide),?_,?_,?_⟩
  · cases hb : lv.ownBlock with
    | none => rw [hb] at g; exact gtrans h.g g
    | some q => rw [hb] at g; exact gnew h.g g (hT q hb).2.1
  · rcases hf with k | ⟨k,k1,k2⟩
    · rw [k] at hq; exact h.lq q hq
    · rw [k1] at hq
      injection hq with hq
      subst hq
      have := h.g.size
      have := h.g9
      exact ⟨by omega,.inr (by omega)⟩
  · have hk : ∀ b,(w8.heap.size≤b∧b < w9.heap.size∧(ek wk b = some 158∨ek wk b = some 42))→b < wk.heap.size→w'.heap[b]? = wk.heap[b]? := fun b hb hl => g.block b hl (fun e => by have := (hT b e.symm).2.2.1; omega)
    exact (h.r.kept hk).imp (fun b hb hl => ⟨hb.1,hb.2.1,by rw [ek_same (hk b hb (by have := h.g9; omega))]; exact hb.2.2⟩)
  · exact (g.block _ (lt_of_block h.b1) (fun e => by
      obtain ⟨cs',f',hx⟩ := (hT _ e.symm).1
      rw [h.b1] at hx; injection hx with hx; injection hx with _ hx; exact absurd hx (by decide))).trans h.b1
  · exact (g.block _ (lt_of_block h.b2) (fun e => by
      obtain ⟨cs',f',hx⟩ := (hT _ e.symm).1
      rw [h.b2] at hx; injection hx with hx; injection hx with _ hx; exact absurd hx (by decide))).trans h.b2
theorem WhL.new {w w8 w9 wk w' : World} {lv : Value} {Ls : List Nat} {sv : Value} {e : Nat} {cs : List Nat} {rv : Value} {rs : List Rc} {q1 q2 : Nat} {H mt : Array Value} (h : WhL w w8 w9 wk lv Ls sv e cs rv rs q1 q2 H mt) (g : wk.grownBy w' none) : WhL w w8 w9 w' lv Ls sv e cs rv rs q1 q2 H mt := by
  refine ⟨gtrans h.g g,Nat.le_trans h.g9 g.size,World.ownsRow.kept h.l g (Classical.em _),h.lq,World.ownsRow.kept h.s g (Classical.em _),?_,(g.block _ (lt_of_block h.b1) (by simp)).trans h.b1,(g.block _ (lt_of_block h.b2) (by simp)).trans h.b2⟩
  exact (h.r.grown g).imp (fun b hb hl => ⟨hb.1,hb.2.1,by rw [ek_same (g.block b (by have := h.g9; omega) (by simp))]; exact hb.2.2⟩)
theorem WhL.mark {w w8 w9 wk : World} {lv : Value} {Ls : List Nat} {gs e : Nat} {cs : List Nat} {rv : Value} {rs : List Rc} {q1 q2 : Nat} {H mt : Array Value} (h : WhL w w8 w9 wk lv Ls (.slice (some ⟨gs,0,none⟩) e e) e cs rv rs q1 q2 H mt) {p : Nat} (_hp : p < e) (x : Nat) : WhL w w8 w9 (wk.setCell ⟨gs,p,none⟩ (.int .i64 (x : Int))) lv Ls (.slice (some ⟨gs,0,none⟩) e e) e (cs.set p x) rv rs q1 q2 H mt := by
  have hs := h.s.stored p (encN x)
  have ht := own_tag h.s gs rfl
  obtain ⟨cu,fu,hgb⟩ := ht.2.2
  have hne : ∀ q cs' t,wk.heap[q]? = some (.cells cs' t (0,0))→t≠3→some q≠some gs := fun q cs' t hq hn e => by
    injection e with e
    subst e
    rw [hgb] at hq
    injection hq with hq; injection hq with _ hq; exact hn hq.symm
  refine ⟨gnew h.g hs.2 ht.1,Nat.le_trans h.g9 hs.2.size,own_far h.l hs.2 (t := 3) (fun k hk => by injection hk with hk; subst hk; exact ⟨cu,fu,hgb⟩) (by decide),h.lq,?_,?_,(hs.2.block _ (lt_of_block h.b1) (hne _ _ _ h.b1 (by decide))).trans h.b1,(hs.2.block _ (lt_of_block h.b2) (hne _ _ _ h.b2 (by decide))).trans h.b2⟩
  · have := hs.1
    rw [← List.map_set] at this
    exact this
  · have hk : ∀ b,(w8.heap.size≤b∧b < w9.heap.size∧(ek wk b = some 158∨ek wk b = some 42))→b < wk.heap.size→(wk.setCell ⟨gs,p,none⟩ (encN x)).heap[b]? = wk.heap[b]? := fun b hb hl => hs.2.block b hl (fun e => by
      injection e with e
      subst e
      have he := ek_of hgb
      rcases hb.2.2 with k | k <;> (rw [he] at k; injection k with k; exact absurd k (by decide)))
    exact (h.r.kept hk).imp (fun b hb hl => ⟨hb.1,hb.2.1,by rw [ek_same (hk b hb (by have := h.g9; omega))]; exact hb.2.2⟩)
theorem flatR_take_le (rs : List Rc) (j : Nat) : (flatR (rs.take j)).length≤(flatR rs).length := by
  have h1 : flatR rs = flatR (rs.take j)++flatR (rs.drop j) := by
    unfold flatR; rw [← List.flatMap_append,List.take_append_drop]
  rw [h1,List.length_append]; omega
theorem psq_nil0 {R : Nat→Prop} {w : World} {a : Option Addr} {n c : Nat} {l : List Nat} (h : PSq R w (.slice a n c) l) : a = none→n = 0 := fun e => by
  have hl := h.len.1
  by_cases h0 : 0 < l.length
  · obtain ⟨b,o,ha,_⟩ := h.at 0 h0
    rw [ha] at e; cases e
  · omega
theorem psq_news {R : Nat→Prop} {w : World} {a : Option Addr} {n c : Nat} {l : List Nat} (h : PSq R w (.slice a n c) l) : ∀ ad,a = some ad→∀ j u,(l.map encP)[j]? = some u→w.cell? (ad.add j) = some u := fun ad e j u hu => by
  have hj : j < l.length := by have := (List.getElem?_eq_some_iff.1 hu).1; simpa using this
  obtain ⟨b,o,ha,_,hc⟩ := h.at j hj
  rw [ha] at e
  injection e with e
  subst e
  rw [List.getElem?_map,List.getElem?_eq_getElem hj] at hu
  have hu : encP l[j] = u := by simpa using hu
  have hd : l.getD j 0 = l[j] := by rw [List.getD_eq_getElem?_getD,List.getElem?_eq_getElem hj]; rfl
  rw [← hu,← hd]
  by_cases h0 : j = 0
  · subst h0; simpa [Addr.add] using hc
  · simpa [Addr.add,h0] using hc
set_option maxRecDepth 100000 in
set_option maxHeartbeats 8000000 in
theorem whole_any {B f d : Nat} (w : World) (pa : Option Addr) (pn pc : Nat) (fa : Option Addr) (fn fc : Nat) (ps : List Nat) (fs : List Int) (h : HV w (.slice pa pn pc) (.slice fa fn fc) ps fs) (F : FV) (rs : List Rc) (hF : FileAt B w f d F) (hps : F.ps = flatR rs) (hok : Okr F.mt.e rs) (he2 : 2≤F.mt.e) (he : F.mt.e≤65536)
    (hnd : (F.ls++(ps++allOf rs)).Nodup) (hr : ∀ p∈F.ls++(ps++allOf rs),2≤p∧p < F.mt.e) (ha : ∀ p,2≤p→p < F.mt.e→p∈F.ls++(ps++allOf rs)) :
    Calls Tryz.prog 27 #[.pointer (some ⟨f,0,none⟩),.agg #[.slice pa pn pc,.slice fa fn fc]] w fun r w' => r = .returned (.bool true)∧w.grownBy w' none := by
  obtain ⟨i0,hi,hz0,hz1,hz2⟩ := info_parts infoPg
  obtain ⟨j0,hj,hw0,hw1,hw2⟩ := info_parts infoIntP
  obtain ⟨p1,p2,p3⟩ := own_src h.p.1
  have hlen := nodup_len hnd (fun p hp => (hr p hp).2)
  have hln : F.ls.length + (ps.length + (allOf rs).length)≤F.mt.e := by simpa using hlen
  have hfl : (flatR rs).length≤100000 := by rw [flatR_allOf]; omega
  have hrl : rs.length≤F.mt.e := okr_len hok
  obtain ⟨⟨Tt,e,mn,fr⟩,ps',ls,st⟩ := F
  obtain rfl : ps' = flatR rs := hps
  have hG := gather_flat hok
  have HOK := Lib.hid (right_iff.2 hok)
  have HEA := Lib.hid hok.each
  have HND := Lib.hid hnd
  have HRG := Lib.hid hr
  have HAL := Lib.hid ha
  have P1 := Lib.hid p1
  have P3 := Lib.hid p3
  have HPL : Hid (ps.length = pn) := Lib.hid p2
  have HF := Lib.hid hF
  have he2 : 2≤e := he2
  have he : e≤65536 := he
  have hln : ls.length + (ps.length + (allOf rs).length)≤e := hln
  have hrl : rs.length≤e := hrl
  have hlsl : ls.length≤65536 := by omega
  have HFL := Lib.hid hfl
  have HG := Lib.hid hG
  have hwe : IntKind.i64.wrap (e : Int) = (e : Int) := IntWalk.i64_in _ (by omega)
  have he2i : ¬ (e : Int) < 2 := by omega
  have he2j : (1 : Int) < (e : Int) := by omega
  have he2k : (0 : Int) < (e : Int) := by omega
  have HGA := Lib.hid (World.grownBy_alloc w (.cells #[.slice pa pn pc,.slice fa fn fc] 34) none)
  have HQ1 := Lib.hid (heap_alloc_new w (.cells #[.slice pa pn pc,.slice fa fn fc] 34))
  clear h hF hok hnd hr ha p1 p3 p2 hlen hfl hG
  go_enter Tryz.func27,Tryz.ntmps27
  go_upto_region 5 with (first
    | (go_at_call 18; ((with_reducible refine (fmeta_any (HF.out.new HGA.out)).mono ?_); rintro r w1 ⟨he9,hg⟩; obtain rfl : r = .returned (.agg #[.int .u64 (Tt : Int),.int .u32 (e : Int),.int .u32 (mn : Int),.int .u32 (fr : Int)]) := he9; have HG1 := Lib.hid (gtrans HGA.out hg); have HQ11 := Lib.hid ((hg.block _ (lt_of_block HQ1.out) (by simp)).trans HQ1.out); have HQ2 := Lib.hid (lit_block w1 (.cells #[.int .u64 (Tt : Int),.int .u32 (e : Int),.int .u32 (mn : Int),.int .u32 (fr : Int)] 44)); obtain ⟨c0,c1,c2,c3⟩ := mt_cells HQ2.out; clear hg))
    | (at_make; refine wpList_make_full _ rfl _ _ 156 rfl (w1.heap.size + 1) 3 j0 (.int .i64 0) 1 Tryz.underlying156 hj hw0 hw1 .i64 .i64 _ _ e rfl rfl ?c1 ?c2 ?c3 ?c4 (by simp) ?_; (case c1 => rfl); (case c2 => rfl); (case c3 => rw [hw2]; omega); (case c4 => unfold maxLen; omega); intro wM hown hgM; have HO := Lib.hid hown; have HMN := Lib.hid hgM; have HGM := Lib.hid (gtrans (gtrans HG1.out (World.grownBy_alloc w1 (.cells #[.int .u64 (Tt : Int),.int .u32 (e : Int),.int .u32 (mn : Int),.int .u32 (fr : Int)] 44) none)) hgM); have HM2 := Lib.hid ((hgM.block _ (lt_of_block HQ2.out) (by simp)).trans HQ2.out); obtain ⟨d0,d1,d2,d3⟩ := mt_cells HM2.out; clear hown hgM))
  have HS0 : Hid (wM.ownsRow w.heap.size 3 1 (.slice (some ⟨w1.heap.size + 1,0,none⟩) e e) e ((List.replicate e 0).map encN)) := Lib.hid (by
    have h := HO.out
    have hsz : (w1.alloc (.cells #[.int .u64 (Tt : Int),.int .u32 (e : Int),.int .u32 (mn : Int),.int .u32 (fr : Int)] 44)).heap.size = w1.heap.size + 1 := by simp
    rw [hsz] at h
    rw [Nat.mul_one,show (Value.int .i64 0).cells = #[Value.int .i64 0] from rfl,toList_madeCells_one] at h
    rw [List.map_replicate]
    exact own_base h (by have := HG1.out.size; omega))
  have hgs := HG1.out.size
  have hq2 : w.heap.size≤w1.heap.size := HG1.out.size
  have hq1 : w.heap.size < w1.heap.size := lt_of_block HQ11.out
  have HB1 := Lib.hid ((show wM.heap[w.heap.size]? = some (.cells #[.slice pa pn pc,.slice fa fn fc] 34 (0,0)) from by
    have h1 := (gtrans (World.grownBy_alloc w1 (.cells #[.int .u64 (Tt : Int),.int .u32 (e : Int),.int .u32 (mn : Int),.int .u32 (fr : Int)] 44) none) HMN.out).block w.heap.size hq1 (by simp)
    exact h1.trans HQ11.out))
  obtain ⟨q2,hqe⟩ : ∃ q,q = w1.heap.size := ⟨_,rfl⟩
  rw [← hqe] at HS0 HM2 hq1 d0 d1 d2 d3 ⊢
  clear HO HG1 HQ11 HQ2 c0 c1 c2 c3 HMN hgs hq2 hqe HGA HQ1
  obtain ⟨gs,hge⟩ : ∃ g,g = q2 + 1 := ⟨_,rfl⟩
  rw [← hge] at HS0 ⊢
  have hgq : q2 < gs := by omega
  clear hge
  have hs0 := HS0.out.cellAt 0 (by omega)
  rw [show ((List.replicate e 0).map encN)[0]? = some (.int .i64 0) by rw [List.getElem?_map,List.getElem?_replicate,if_pos (by omega)]; rfl] at hs0
  have hf0 := HS0.out.frozenAt 0
  have HS1 := Lib.hid (HS0.out.stored 0 (.int .i64 1))
  have hs1 := HS1.out.1.cellAt 1 (by omega)
  rw [show (((List.replicate e 0).map encN).set 0 (.int .i64 1))[1]? = some (.int .i64 0) by rw [List.getElem?_set_ne (by omega),List.getElem?_map,List.getElem?_replicate,if_pos (by omega)]; rfl] at hs1
  have hf1 := HS1.out.1.frozenAt 1
  have HS2 := Lib.hid (HS1.out.1.stored 1 (.int .i64 1))
  have HG2 := Lib.hid (gnew (gnew HGM.out HS1.out.2 (by omega)) HS2.out.2 (by omega))
  have HM3 := Lib.hid ((HS2.out.2.block q2 (by have := lt_of_block HM2.out; have := HS1.out.2.size; omega) (by simp; omega)).trans ((HS1.out.2.block q2 (lt_of_block HM2.out) (by simp; omega)).trans HM2.out))
  have HB3 := Lib.hid ((HS2.out.2.block w.heap.size (by have := lt_of_block HB1.out; have := HS1.out.2.size; omega) (by simp; omega)).trans ((HS1.out.2.block w.heap.size (lt_of_block HB1.out) (by simp; omega)).trans HB1.out))
  have HS3 : Hid (((wM.setCell ⟨gs,0,none⟩ (.int .i64 1)).setCell ⟨gs,1,none⟩ (.int .i64 1)).ownsRow w.heap.size 3 1 (.slice (some ⟨gs,0,none⟩) e e) e ((cntsL e []).map encN)) := Lib.hid (by
    rw [← cntsL_nil e he2,List.map_set,List.map_set]
    exact HS2.out.1)
  go_upto_region 7 with fail
  clear d0 d1 d2 d3 hs0 hf0 hs1 hf1 HS0 HS1 HS2 HM2 HB1 HGM
  generalize (wM.setCell ⟨gs,0,none⟩ (.int .i64 1)).setCell ⟨gs,1,none⟩ (.int .i64 1) = w3 at HG2 HM3 HB3 HS3 ⊢
  obtain ⟨d0,d1,d2,d3⟩ := mt_cells HM3.out
  obtain ⟨x0,x1,u0,u1⟩ := cells2 HB3.out
  go_upto_block 0 with (first
    | (go_at_call 34; ((with_reducible refine (flists_any (HF.out.new HG2.out) (show ls.length≤100000 by omega)).mono ?_); rintro r w4 ⟨la,lc,rfl,ho,hg⟩; have HL4 := Lib.hid ho; have HG4 := Lib.hid (gtrans HG2.out hg); have HN4 := Lib.hid hg; clear hg ho))
    | (go_at_call 37; ((with_reducible refine (frecords_any (HF.out.new HG4.out) HFL.out).mono ?_); rintro r w5 ⟨v,es,rfl,ho,hes,hg⟩; rw [HG.out] at hes; have hrs := ho.rsqT; rw [hes] at hrs; obtain ⟨ra,rc,rfl⟩ := hrs.shape; have HWH : Hid (WhL w w4 w5 w5 (.slice la ls.length lc) ls (.slice (some ⟨gs,0,none⟩) e e) e (cntsL e []) (.slice ra rs.length rc) rs w.heap.size q2 #[.slice pa pn pc,.slice fa fn fc] #[.int .u64 (Tt : Int),.int .u32 (e : Int),.int .u32 (mn : Int),.int .u32 (fr : Int)]) := Lib.hid ⟨gtrans HG4.out hg,Nat.le_refl _,own_base (World.ownsRow.kept HL4.out.1 hg (Classical.em _)) (Nat.zero_le _),(fun q hq => by have := World.ownsRow.lt HL4.out.1 q hq; have := HG2.out.size; exact ⟨by omega,.inl (by omega)⟩),World.ownsRow.kept (World.ownsRow.kept HS3.out HN4.out (Classical.em _)) hg (Classical.em _),hrs.imp (fun b hb hl => ⟨hb.1,hl,hb.2⟩),(hg.block _ (by have := lt_of_block HB3.out; have := HN4.out.size; omega) (by simp)).trans ((HN4.out.block _ (lt_of_block HB3.out) (by simp)).trans HB3.out),(hg.block _ (by have := lt_of_block HM3.out; have := HN4.out.size; omega) (by simp)).trans ((HN4.out.block _ (lt_of_block HM3.out) (by simp)).trans HM3.out)⟩; obtain ⟨k0,k1,k2,k3⟩ := cells2 HWH.out.b1; have HSZ5 := Lib.hid hg.size; clear hg ho hrs))
    | (at_builtin; refine wpList_append_any2 _ rfl _ _ 31 rfl 0 42 i0 (.int .u32 0) 1 4 Tryz.underlying31 hi hz0 hz1 hz2 rfl (by decide) (.slice la ls.length lc) ls.length (ls.map encP) rfl HWH.out.l pa pn pc (ps.map encP) rfl (by rw [List.length_map,Nat.mul_one]; exact HPL.out) P1.out (P3.out _ (fun i hi => HWH.out.g.block i hi (by simp))) (onecellV encP (fun _ => rfl)) (by have := HPL.out; unfold maxLen; omega) (by have := HPL.out; omega) (Nat.zero_le _) ?_; intro v6 w6 hown6 hgr6 hfr6; obtain ⟨l6,c6,rfl⟩ := own_shape hown6; have HW6 := Lib.hid (WhL.app HWH.out (ps := ps) HPL.out hown6 hgr6 hfr6); clear hown6 hgr6 hfr6))
  have hpl := HPL.out
  subst hpl
  go_wp2_with fail
  go_loopg [7,9] rs.length (fun gk lv i wr => ∃ (j : Nat) (Ls : List Nat) (a : Option Addr) (n c : Nat),j + gk = rs.length∧i = .int .i64 j∧lv = .slice a n c∧n≤e∧Hid (Ls = ls++(ps++allOf (rs.take j))∧Ls.length = n∧WhL w w4 w5 wr (.slice a n c) Ls (.slice (some ⟨gs,0,none⟩) e e) e (cntsL e []) (.slice ra rs.length rc) rs w.heap.size q2 #[.slice pa ps.length pc,.slice fa fn fc] #[.int .u64 (Tt : Int),.int .u32 (e : Int),.int .u32 (mn : Int),.int .u32 (fr : Int)]))
  case atStart => exact ⟨0,ls++ps,l6,_,c6,by omega,rfl,rfl,by omega,Lib.hid ⟨by simp,by simp,HW6.out⟩⟩
  case round =>
    obtain ⟨j,Ls,a,n,c,hjg,rfl,rfl,hne,hh⟩ := hrel
    by_cases hlt : j < rs.length
    · obtain ⟨gq,rfl⟩ : ∃ g,gk = g + 1 := ⟨gk - 1,by omega⟩
      have hki : (j : Int) < (rs.length : Int) := by omega
      obtain ⟨rc1,hrc⟩ : ∃ r,rs[j]? = some r := ⟨_,List.getElem?_eq_getElem hlt⟩
      obtain ⟨b,o,rfl,hb,_,_,a1,c1,hcell,hps⟩ := hh.out.2.2.r.at j rc1 hrc
      have HTK := Lib.hid (show allOf (rs.take (j + 1)) = allOf (rs.take j)++rc1.2 by
        rw [List.take_succ_eq_append_getElem hlt,gallOf_append]
        rw [List.getElem?_eq_getElem hlt] at hrc
        injection hrc with hrc
        rw [hrc]; simp [allOf])
      have hle : n + rc1.2.length≤e := by
        have h1 := HTK.out
        have h2 : (allOf (rs.take (j + 1))).length≤(allOf rs).length := by
          rw [← flatR_allOf,← flatR_allOf]
          exact flatR_take_le rs (j + 1)
        have h3 := hh.out.1
        have h4 := hh.out.2.1
        rw [h3] at h4
        rw [h1] at h2
        simp only [List.length_append] at h2 h4
        omega
      have HPS := Lib.hid hps
      have HWR := Lib.hid hh.out.2.2
      have HLS := Lib.hid hh.out.1
      have HLN := Lib.hid hh.out.2.1
      clear hh hrc hps
      go_wp2_with (first
        | (at_builtin; refine wpList_append_any2 _ rfl _ _ 31 rfl 0 42 i0 (.int .u32 0) 1 4 Tryz.underlying31 hi hz0 hz1 hz2 rfl (by decide) (.slice a n c) n (Ls.map encP) rfl (by have := HWR.out.l; rw [HLN.out] at this; exact this) a1 rc1.2.length c1 (rc1.2.map encP) rfl (by rw [List.length_map,Nat.mul_one]) (psq_nil0 HPS.out) (psq_news HPS.out) (onecellV encP (fun _ => rfl)) (by unfold maxLen; omega) (by omega) (Nat.zero_le _) ?_; intro v7 w7 hown7 hgr7 hfr7; obtain ⟨l7,c7,rfl⟩ := own_shape hown7; have HW7 := Lib.hid (WhL.app HWR.out (ps := rc1.2) rfl (by rw [HLN.out]; exact hown7) hgr7 hfr7); clear hown7 hgr7 hfr7))
      go_roundg gq
      case measure => omega
      case rel => exact ⟨j + 1,Ls++rc1.2,l7,_,c7,by omega,by go_num,rfl,hle,Lib.hid ⟨by rw [HTK.out,HLS.out]; simp,by rw [List.length_append,HLN.out],HW7.out⟩⟩
    · obtain rfl : j = rs.length := by omega
      have HLS := Lib.hid (show Ls = ls++(ps++allOf rs) by have := hh.out.1; rw [List.take_length] at this; exact this)
      have HLN := Lib.hid hh.out.2.1
      have HWR := Lib.hid hh.out.2.2
      clear hh HW6 HWH k0 k1 k2 k3 d0 d1 d2 d3 x0 x1 u0 u1
      go_wp2_with fail
      go_loopg [10] n (fun gk i wr => ∃ k : Nat,k + gk = n∧i = .int .i64 k∧Hid (WhL w w4 w5 wr (.slice a n c) Ls (.slice (some ⟨gs,0,none⟩) e e) e (cntsL e (Ls.take k)) (.slice ra rs.length rc) rs w.heap.size q2 #[.slice pa ps.length pc,.slice fa fn fc] #[.int .u64 (Tt : Int),.int .u32 (e : Int),.int .u32 (mn : Int),.int .u32 (fr : Int)]))
      case atStart => exact ⟨0,by omega,rfl,by rw [List.take_zero]; exact HWR⟩
      case round =>
        obtain ⟨k,hk,rfl,hh⟩ := hrel
        clear HWR
        by_cases hlt : k < n
        · obtain ⟨gq,rfl⟩ : ∃ g,gk = g + 1 := ⟨gk - 1,by omega⟩
          have hki : (k : Int) < (n : Int) := by omega
          have hkl : k < Ls.length := by have := HLN.out; omega
          obtain ⟨p,hp⟩ : ∃ p,Ls[k]? = some p := ⟨_,List.getElem?_eq_getElem hkl⟩
          have hpr := HRG.out p (by have h1 := List.mem_of_getElem? hp; rw [HLS.out] at h1; exact h1)
          obtain ⟨gl,rfl,_,hsrc⟩ := own_src2 hh.out.l (by omega)
          have hcl : wr.cell? ⟨gl,k,none⟩ = some (.int .u32 (p : Int)) := hsrc wr (fun i hi => rfl) k (encP p) (by rw [List.getElem?_map,hp]; rfl)
          obtain ⟨d0,d1,d2,d3⟩ := mt_cells hh.out.b2
          have hpr : 2≤p∧p < e := hpr
          obtain ⟨N,hN⟩ : ∃ N,N = (if p < 2 then 1 else 0) + (Ls.take k).count p := ⟨_,rfl⟩
          have hN9 : N≤65537 := by
            have h1 := List.count_le_length (a := p) (l := Ls.take k)
            have h2 : (Ls.take k).length≤k := by simp; omega
            rw [hN]
            split <;> omega
          have hcs : wr.cell? ⟨gs,p,none⟩ = some (.int .i64 (N : Int)) := by
            have h := hh.out.s.cellAt p (by omega)
            rw [List.getElem?_map,cntsL_get _ hpr.2,← hN] at h
            exact h
          have hfs := hh.out.s.frozenAt p
          have HSET := Lib.hid (show (cntsL e (Ls.take k)).set p (N + 1) = cntsL e (Ls.take (k + 1)) by
            rw [hN,cntsL_set _ hpr.2,List.take_succ_eq_append_getElem hkl]
            rw [List.getElem?_eq_getElem hkl] at hp
            injection hp with hp
            rw [hp])
          have HWK := Lib.hid (hh.out.new (gdrew wr))
          have hp1 : ¬ (e : Int)≤(p : Int) := by omega
          have hp2 : decide ((e : Int)≤(p : Int)) = false := by simp; omega
          have hpe : (p : Int) < (e : Int) := by omega
          have hwN : IntKind.i64.wrap ((N : Int) + 1) = ((N + 1 : Nat) : Int) := by rw [show ((N : Int) + 1) = ((N + 1 : Nat) : Int) by omega]; exact IntWalk.i64_in _ (by omega)
          have hcld : wr.drew.cell? ⟨gl,k,none⟩ = some (.int .u32 (p : Int)) := hcl
          have hd1d : wr.drew.cell? ⟨q2,1,none⟩ = some (.int .u32 (e : Int)) := d1
          have hcsd : wr.drew.cell? ⟨gs,p,none⟩ = some (.int .i64 (N : Int)) := hcs
          have hfsd : wr.drew.frozen? ⟨gs,p,none⟩ = false := hfs
          clear hN hp hsrc hh hkl
          go_wp2
          go_region_held3 (fun v => v.cell? ⟨gl,k,none⟩ = some (.int .u32 (p : Int))∧v.cell? ⟨q2,1,none⟩ = some (.int .u32 (e : Int)))
            (exact ⟨hcld,hd1d⟩)
            (fail)
          go_wp2
          go_roundg gq
          case measure => omega
          case rel => exact ⟨k + 1,by omega,by go_num,Lib.hid (by have h := HWK.out.mark hpr.2 (N + 1); rw [HSET.out] at h; exact h)⟩
        · obtain rfl : n = k := by omega
          have HWS := Lib.hid (show WhL w w4 w5 wr (.slice a n c) Ls (.slice (some ⟨gs,0,none⟩) e e) e (cntsL e Ls) (.slice ra rs.length rc) rs w.heap.size q2 #[.slice pa ps.length pc,.slice fa fn fc] #[.int .u64 (Tt : Int),.int .u32 (e : Int),.int .u32 (mn : Int),.int .u32 (fr : Int)] by have h := hh.out; rw [List.take_of_length_le (by have := HLN.out; omega)] at h; exact h)
          have HONE := Lib.hid (fun q (hq : q < e) => cntsL_one (L := Ls) (by rw [HLS.out]; exact HND.out) (by rw [HLS.out]; exact HRG.out) (by rw [HLS.out]; exact HAL.out) hq)
          clear hh
          obtain ⟨d0,d1,d2,d3⟩ := mt_cells HWS.out.b2
          go_wp2_with fail
          go_loopg [11] e (fun gk i wy => ∃ k : Nat,k + gk = e∧i = .int .i64 k∧wy = wr)
          case atStart => exact ⟨0,by omega,rfl,rfl⟩
          case round =>
            obtain ⟨t,ht,rfl,rfl⟩ := hrel
            by_cases hlt2 : t < e
            · obtain ⟨gq,rfl⟩ : ∃ g,gk = g + 1 := ⟨gk - 1,by omega⟩
              have hti : (t : Int) < (e : Int) := by omega
              have hct := HWS.out.s.cellAt t (by omega)
              rw [List.getElem?_map,HONE.out t hlt2] at hct
              have hct : wr.cell? ⟨gs,t,none⟩ = some (.int .i64 1) := hct
              go_wp2
              go_roundg gq
              case measure => omega
              case rel => exact ⟨t + 1,by omega,by go_num,rfl⟩
            · obtain rfl : t = e := by omega
              go_wp2_with (go_at_call 36; refine (right_any _ _ _ _ _ _ t HWS.out.r (by omega)).mono ?_; rintro r wA ⟨rfl,hg⟩; rw [HOK.out]; have HGF := Lib.hid (gtrans HWS.out.g hg); clear hg)
              go_ret
              exact ⟨rfl,HGF.out⟩
end Go.Proofs.YtnnmpaenainogaaGreat

namespace Go.Proofs.YtnnmpaenainogaaGreat
open Go.RowKit Go.Maps
def Fil (E : Nat→List Int) (ps : List Nat) (fs : List Int) : Prop := ∀ j,j < ps.length→E (ps.getD j 0) = List.replicate 512 (fs.getD j 0)
theorem fil_nil (E : Nat→List Int) (fs : List Int) : Fil E [] fs := fun _ h => absurd h (Nat.not_lt_zero _)
theorem getD_mem {l : List Nat} {j : Nat} (h : j < l.length) : l.getD j 0∈l := by rw [List.getD_eq_getElem?_getD,List.getElem?_eq_getElem h]; exact List.getElem_mem h
theorem getD_app1 {α : Type} (d : α) (l m : List α) {j : Nat} (h : j < l.length) : (l++m).getD j d = l.getD j d := by
  rw [List.getD_eq_getElem?_getD,List.getD_eq_getElem?_getD,List.getElem?_append_left h]
theorem getD_app2 {α : Type} (d x : α) (l : List α) : (l++[x]).getD l.length d = x := by
  rw [List.getD_eq_getElem?_getD,List.getElem?_append_right (Nat.le_refl _),Nat.sub_self]; rfl
theorem Fil.to {E E' : Nat→List Int} {ps : List Nat} {fs : List Int} (h : Fil E ps fs) (k : ∀ p∈ps,E' p = E p) : Fil E' ps fs := fun j hj => (k _ (getD_mem hj)).trans (h j hj)
theorem Fil.snoc {E : Nat→List Int} {ps : List Nat} {fs : List Int} {p : Nat} {x : Int} (h : Fil E ps fs) (hl : fs.length = ps.length) (hp : p ∉ ps) : Fil (updC E p (List.replicate 512 x)) (ps++[p]) (fs++[x]) := fun j hj => by
  rw [List.length_append,List.length_singleton] at hj
  by_cases e : j < ps.length
  · rw [getD_app1 _ _ _ e,getD_app1 _ _ _ (by omega)]
    have hn : ps.getD j 0≠p := fun e2 => hp (e2 ▸ getD_mem e)
    unfold updC
    rw [if_neg hn]
    exact h j e
  · have : j = ps.length := by omega
    subst this
    rw [getD_app2,← hl,getD_app2]
    simp [updC]
theorem getD_erase {α : Type} (d : α) (l : List α) (k j : Nat) : (l.eraseIdx k).getD j d = if j < k then l.getD j d else l.getD (j + 1) d := by
  rw [List.getD_eq_getElem?_getD,List.getElem?_eraseIdx]
  split <;> simp [List.getD_eq_getElem?_getD]
theorem Fil.erase {E : Nat→List Int} {ps : List Nat} {fs : List Int} (h : Fil E ps fs) {k : Nat} (hk : k < ps.length) : Fil E (ps.eraseIdx k) (fs.eraseIdx k) := fun j hj => by
  rw [List.length_eraseIdx_of_lt hk] at hj
  rw [getD_erase,getD_erase]
  split
  · exact h j (by omega)
  · exact h (j + 1) (by omega)
theorem erase_nodup {l : List Nat} (h : l.Nodup) (k : Nat) : (l.eraseIdx k).Nodup := h.sublist (List.eraseIdx_sublist l k)
theorem erase_mem {l : List Nat} (h : l.Nodup) {k : Nat} (hk : k < l.length) (q : Nat) : q∈l.eraseIdx k↔q∈l∧q≠l.getD k 0 := by
  have hg : l.getD k 0 = l[k] := by rw [List.getD_eq_getElem?_getD,List.getElem?_eq_getElem hk]; rfl
  rw [hg]
  constructor
  · intro hq
    refine ⟨List.mem_of_mem_eraseIdx hq,fun e => ?_⟩
    obtain ⟨i,hi,hne,he⟩ := List.mem_eraseIdx_iff_getElem.1 hq
    have hpw := List.pairwise_iff_getElem.1 h
    rcases Nat.lt_or_gt_of_ne hne with hlt | hlt
    · exact hpw i k hi hk hlt (he.trans e)
    · exact hpw k i hk hi hlt (e.symm.trans he.symm)
  · rintro ⟨hq,hne⟩
    obtain ⟨i,hi,rfl⟩ := List.getElem_of_mem hq
    exact List.mem_eraseIdx_iff_getElem.2 ⟨i,hi,fun e => hne (by subst e; rfl),rfl⟩
theorem oldF_of {T o : Nat} {F : FV} {rs : List Rc} {H O : List Nat} {V : Nat→Nat} (h : OldC T o (flOf F rs) H O V) : OldF T (flOf F rs) H O := fun p hp => by
  rcases h p hp with k | ⟨r,hr,h1,h2⟩
  · exact .inl k.1
  · exact .inr ⟨r,(new_mem.1 hr).1,h1,h2⟩
theorem oldC_to {T o lim : Nat} {F : FV} {rs : List Rc} {H O : List Nat} {V V' : Nat→Nat} {sp : Sp} {I G A : List Nat} (h : OldC T o (flOf F rs) H O V) (k : CInv lim o (flOf F rs) H sp V' I G A) : OldC T o (flOf F rs) H O V' := fun p hp => by
  rcases h p hp with ⟨x,_⟩ | x
  · refine .inl ⟨x,?_⟩
    rcases k.h p x with y | ⟨y,_⟩
    · exact .inr y
    · exact .inl y
  · exact .inr x
theorem oldC_range {lm o T : Nat} {F : FV} {rs : List Rc} {H O : List Nat} {V : Nat→Nat} (hf : FInv lm (flOf F rs) H) (h : OldC T o (flOf F rs) H O V) : ∀ p∈O,2≤p∧p < F.mt.e := old_range hf (oldF_of h)
def KF (B d f : Nat) (w : World) (lim c y : Nat) (F : FV) (H O : List Nat) (fh fo : List Int) : Prop :=
  ∃ M rs D,LS B d f w 512 lim c M F rs H D∧Fil D H fh∧OldF y (flOf F rs) H O∧(O = []∨y≤F.mt.t)∧Fil (lastM M) O fo
def KI (B d f t : Nat) (w : World) (lim c y : Nat) (F : FV) (H O I : List Nat) (fh fo fi : List Int) : Prop :=
  ∃ x o M rs D T V E,LT B d f t x w 512 lim c o M F rs H D T V I E∧Fil D H fh∧Fil E I fi∧OldC y o (flOf F rs) H O V∧(O = []∨y≤F.mt.t)∧o≤F.mt.t∧(O = []∨o≤y)∧Fil (lastM M) O fo
section
variable {B d f t lim c y : Nat} {w w' : World} {F : FV} {H O I : List Nat} {fh fo fi : List Int}
theorem KI.kf (h : KI B d f t w lim c y F H O I fh fo fi) : KF B d f w lim c y F H O fh fo := by
  obtain ⟨x,o,M,rs,D,T,V,E,h1,h2,h3,h4,h5,h6,h7,h8⟩ := h
  exact ⟨M,rs,D,h1.ls,h2,oldF_of h4,h5,h8⟩
theorem KF.new (h : KF B d f w lim c y F H O fh fo) (k : w.grownBy w' none) : KF B d f w' lim c y F H O fh fo := by
  obtain ⟨M,rs,D,h1,h2⟩ := h
  exact ⟨M,rs,D,h1.new k,h2⟩
theorem KI.new (h : KI B d f t w lim c y F H O I fh fo fi) (k : w.grownBy w' none) : KI B d f t w' lim c y F H O I fh fo fi := by
  obtain ⟨x,o,M,rs,D,T,V,E,h1,h2⟩ := h
  exact ⟨x,o,M,rs,D,T,V,E,h1.new k,h2⟩
theorem KI.mono {c' : Nat} (h : KI B d f t w lim c y F H O I fh fo fi) (k : c≤c') : KI B d f t w lim c' y F H O I fh fo fi := by
  obtain ⟨x,o,M,rs,D,T,V,E,h1,h2⟩ := h
  exact ⟨x,o,M,rs,D,T,V,E,h1.mono k,h2⟩
theorem KI.nd (h : KI B d f t w lim c y F H O I fh fo fi) : I.Nodup∧∀ p∈I,2≤p∧p < 65536 := by
  obtain ⟨x,o,M,rs,D,T,V,E,h1,_⟩ := h
  refine ⟨by have := h1.ch.c.nd; rw [List.append_nil] at this; exact this,fun p hp => ?_⟩
  have h2 := h1.ch.lt h1.ls.re p hp
  have h3 := (Chg.tkok h1.ls.re h1.ch.c).en
  have h4 := (Chg.tkok h1.ls.re h1.ch.c).lim
  exact ⟨h2.1,by omega⟩
theorem KI.pin (h : KI B d f t w lim c y F H O I fh fo fi) : KI B d f t w lim c F.mt.t F H H I fh fh fi := by
  obtain ⟨x,o,M,rs,D,T,V,E,h1,h2,h3,h4,h5,h6,h7,h8⟩ := h
  exact ⟨x,o,M,rs,D,T,V,E,h1,h2,h3,oldC_now _ h1.ch.c,.inr (Nat.le_refl _),h6,.inr h6,h2.to fun p hp => h1.ls.re.dat p hp⟩
theorem ki_begin (h : KF B d f w lim c y F H O fh fo) (hc : c≤80000) (hy : y < 18446744073709551616) (z : Int) (hz : z = (y : Int)) :
    Calls Tryz.prog 17 #[.pointer (some ⟨f,0,none⟩),.int .u64 z] w fun r w' => ∃ t,r = .returned (.tuple #[.pointer (some ⟨t,0,none⟩),.int .i64 0])∧KI B d f t w' lim c y F H O H fh fo fh∧w.grownBy w' none := by
  obtain ⟨M,rs,D,h1,h2,h3,h4,h5⟩ := h
  refine (law_begin h1 hc hy (fun _ => []) z hz).mono ?_
  rintro r w' ⟨t,x,rfl,k,g⟩
  refine ⟨t,rfl,⟨x,_,M,rs,D,_,_,D,k,h2,h2,?_,h4,by omega,?_,h5⟩,g⟩
  · by_cases e : O = []
    · subst e; intro p hp; cases hp
    · exact old_begin h1.re.inv (by have := h4.resolve_left e; omega) h3
  · by_cases e : O = []
    · exact .inl e
    · exact .inr (by omega)
theorem ki_new {b0 cc : Nat} {ao : Option Addr} {x : Int} (h : KI B d f t w lim c y F H O I fh fo fi) (hl : fi.length = I.length) (hs : Own8 b0 w 512 (.slice ao 512 cc) (List.replicate 512 x)) (hx0 : 0≤x) (hx1 : x≤255) :
    Calls Tryz.prog 19 #[.pointer (some ⟨t,0,none⟩),.slice ao 512 cc] w fun r w' => ∃ p : Nat,p < 65536∧Kfr KS B w w'∧(r = .returned (.tuple #[.int .u32 (p : Int),.int .i64 0])∧KI B d f t w' lim c y F H O (I++[p]) fh fo (fi++[x]) ∨
      r = .returned (.tuple #[.int .u32 (p : Int),.int .i64 21])∧KI B d f t w' lim c y F H O I fh fo fi) := by
  obtain ⟨q,o,M,rs,D,T,V,E,h1,h2,h3,h4,h5,h6,h7,h8⟩ := h
  refine (law_new h1 hs (fun z hz => by rw [List.eq_of_mem_replicate hz]; exact ⟨hx0,hx1⟩)).mono ?_
  rintro r w' ⟨rfl,k,hh⟩
  rcases hh with ⟨e1,e2,e3,e4,_,e6,e7⟩ | ⟨e1,e2,_,_,_,e7⟩
  · generalize hp : (newT T (List.replicate 512 x)).2.1 = p at *
    have hO : p ∉ O := fun hp => by
      have ho := oldC_range h1.ls.re.inv h4 p hp
      have hv := old_kept h1.ch.c h4 p hp
      have h10 := h1.ch.c.g.en1
      rcases e6 with e6 | ⟨_,e6⟩
      · omega
      · have : F.mt.e≤T.sp.en := h10
        omega
    have hlt : p < 65536 := by
      have h2 := e7.ch.lt e7.ls.re p (by simp)
      have h3 := (Chg.tkok e7.ls.re e7.ch.c).en
      have h4 := (Chg.tkok e7.ls.re e7.ch.c).lim
      omega
    exact ⟨p,hlt,k,.inl ⟨by rw [e1],q,o,M,rs,D,_,_,_,e7,h2,h3.snoc hl e2,old_step h4 (.inl hO),h5,h6,h7,h8⟩⟩
  · exact ⟨0,by omega,k,.inr ⟨by rw [e1,e2],q,o,M,rs,D,T,V,E,e7,h2,h3,h4,h5,h6,h7,h8⟩⟩
theorem ki_free {k : Nat} (h : KI B d f t w lim c y F H O I fh fo fi) (hk : k < I.length) (z : Int) (hz : z = ((I.getD k 0 : Nat) : Int)) :
    Calls Tryz.prog 22 #[.pointer (some ⟨t,0,none⟩),.int .u32 z] w fun r w' => r = .returned (.int .i64 0)∧Kfr KS B w w'∧KI B d f t w' lim c y F H O (I.eraseIdx k) fh fo (fi.eraseIdx k) := by
  have hnd := h.nd.1
  obtain ⟨q,o,M,rs,D,T,V,E,h1,h2,h3,h4,h5,h6,h7,h8⟩ := h
  refine (law_free h1 (getD_mem hk) (erase_nodup hnd k) (erase_mem hnd hk) z hz).mono ?_
  rintro r w' ⟨rfl,kk,_,v,hv,e7⟩
  refine ⟨rfl,kk,q,o,M,rs,D,_,_,E,e7,h2,h3.erase hk,old_step h4 ?_,h5,h6,h7,h8⟩
  rcases hv with ⟨e1,e2⟩ | ⟨e1,e2,e3⟩
  · exact .inl fun hp => by have := old_kept h1.ch.c h4 _ hp; omega
  · exact .inr (.inr e3)
theorem ki_commit {main Mr : Nat} (h : KI B d f t w lim c y F H O I fh fo fi) (hc : c + lim≤80000) (hm : main = 0∨main∈I) (hMr : (Mr : Int) = roomI ((512 : Nat) : Int)) (z : Int) (hz : z = (main : Int)) :
    Calls Tryz.prog 24 #[.pointer (some ⟨t,0,none⟩),.int .u32 z] w fun r w' => ∃ e,r = .returned (.int .i64 e)∧Kfr KCT B w w' ∧
      ((e = 0∧∃ F' : FV,F'.mt.t = F.mt.t + 1∧F'.mt.m = main∧KF B d f w' lim (c + lim + 6) y F' I O fi fo)∨(e = 21∧KF B d f w' lim c y F H O fh fo)) := by
  obtain ⟨q,o,M,rs,D,T,V,E,h1,h2,h3,h4,h5,h6,h7,h8⟩ := h
  refine (law_commit h1 hc hm hMr z hz).mono ?_
  rintro r w' ⟨e,rfl,_,k,hh⟩
  refine ⟨e,rfl,k,?_⟩
  rcases hh with ⟨e0,sp,l,N,V',hC,hL,hlast⟩ | ⟨e0,hL⟩
  · have ho' := oldC_to h4 hC.c
    have hk := cls_ok (main := main) (Mr := Mr) h1.ls.re (by omega) h1.ch hC hMr hm
    refine .inl ⟨e0,_,h1.ch.n,rfl,N,_,E,hL,h3,?_,?_,h8.to fun p hp => ?_⟩
    · by_cases e : O = []
      · subst e; intro p hp; cases hp
      · have := old_commit (mn := main) hC.c ho' (h5.resolve_left e)
        unfold flOf at this ⊢
        rw [h1.ch.n]
        exact this
    · refine h5.imp id fun x => ?_
      show y≤T.n
      rw [h1.ch.n]; omega
    · have hr := oldC_range h1.ls.re.inv h4 p hp
      refine hlast p hr.1 (Nat.lt_of_lt_of_le hr.2 h1.ls.re.len) fun hK => ?_
      rcases (hk.K p).1 hK with x | x
      · have hv := ((h1.ch.k p).1 x).2
        have := old_kept h1.ch.c h4 p hp
        omega
      · have hv := hC.c.a p x
        have := old_kept hC.c ho' p hp
        omega
  · exact .inr ⟨e0,_,rs,D,hL,h2,oldF_of h4,h5,h8⟩
end
end Go.Proofs.YtnnmpaenainogaaGreat

namespace Go.Proofs.YtnnmpaenainogaaGreat
open Go.RowKit Go.Maps
section
variable {B d f t lim c y : Nat} {w w' : World} {F : FV} {H O I : List Nat} {fh fo fi : List Int} {pa fa : Option Addr} {pn pc fn fc : Nat}
theorem KI.bw (h : KI B d f t w lim c y F H O I fh fo fi) : B≤w.heap.size := by
  obtain ⟨x,o,M,rs,D,T,V,E,h1,_⟩ := h
  exact h1.ls.bw
theorem ki_reads (h : KI B d f t w lim c y F H O I fh fo fi) (hv : HV w (.slice pa pn pc) (.slice fa fn fc) H fh) (hn : H.length≤1000) (hc : c + H.length≤80000) :
    Calls Tryz.prog 26 #[.iface 28 (.pointer (some ⟨f,0,none⟩)),.agg #[.slice pa pn pc,.slice fa fn fc]] w fun r w' => r = .returned (.bool true)∧KI B d f t w' lim (c + H.length) y F H O I fh fo fi∧Kfr KD B w w' := by
  refine freads_any w pa pn pc fa fn fc H fh hv hn h.bw (fun W j => KI B d f t W lim (c + j) y F H O I fh fo fi) h (fun W W' j k g => k.new g) ?_
  intro W j hj k
  obtain ⟨x,o,M,rs,D,T,V,E,h1,h2,h3,h4,h5,h6,h7,h8⟩ := k
  have hm := getD_mem hj
  refine (law_fheld h1.ls (by omega) hm _ rfl).mono ?_
  rintro r w' ⟨ao,cc,rfl,k1,k2,k3⟩
  refine ⟨ao,cc,rfl,by rw [h2 j hj] at k1; exact k1,kfr_dfr k2,x,o,_,rs,D,T,V,E,h1.asked k2 k3,h2,h3,h4,h5,h6,h7,h8⟩
theorem ki_olds (h : KI B d f t w lim c y F H O I fh fo fi) (hv : HV w (.slice pa pn pc) (.slice fa fn fc) O fo) (hn : O.length≤1000) (hc : c + O.length≤80000) :
    Calls Tryz.prog 26 #[.iface 28 (.pointer (some ⟨f,0,none⟩)),.agg #[.slice pa pn pc,.slice fa fn fc]] w fun r w' => r = .returned (.bool true)∧KI B d f t w' lim (c + O.length) y F H O I fh fo fi∧Kfr KD B w w' := by
  refine freads_any w pa pn pc fa fn fc O fo hv hn h.bw (fun W j => KI B d f t W lim (c + j) y F H O I fh fo fi) h (fun W W' j k g => k.new g) ?_
  intro W j hj k
  obtain ⟨x,o,M,rs,D,T,V,E,h1,h2,h3,h4,h5,h6,h7,h8⟩ := k
  have hr := oldC_range h1.ls.re.inv h4 _ (getD_mem hj)
  have he := h1.ls.re.el
  have hl := h1.ls.re.l1
  refine (law_fread h1.ls (by omega) (by omega) _ rfl).mono ?_
  intro r w' hh
  rw [if_pos hr] at hh
  obtain ⟨ao,cc,rfl,k1,k2,k3⟩ := hh
  refine ⟨ao,cc,rfl,by rw [h8 j hj] at k1; exact k1,kfr_dfr k2,x,o,_,rs,D,T,V,E,h1.asked k2 k3,h2,h3,h4,h5,h6,h7,h8⟩
theorem ki_ins (h : KI B d f t w lim c y F H O I fh fo fi) (hv : HV w (.slice pa pn pc) (.slice fa fn fc) I fi) (hn : I.length≤1000) (hc : c + I.length≤80000) :
    Calls Tryz.prog 26 #[.iface 36 (.pointer (some ⟨t,0,none⟩)),.agg #[.slice pa pn pc,.slice fa fn fc]] w fun r w' => r = .returned (.bool true)∧KI B d f t w' lim (c + I.length) y F H O I fh fo fi∧Kfr KD B w w' := by
  refine treads_any w pa pn pc fa fn fc I fi hv hn h.bw (fun W j => KI B d f t W lim (c + j) y F H O I fh fo fi) h (fun W W' j k g => k.new g) ?_
  intro W j hj k
  obtain ⟨x,o,M,rs,D,T,V,E,h1,h2,h3,h4,h5,h6,h7,h8⟩ := k
  refine (law_theld h1 (by omega) (getD_mem hj) _ rfl).mono ?_
  rintro r w' ⟨ao,cc,M',rfl,k1,k2,k3,k4⟩
  refine ⟨ao,cc,rfl,by rw [h3 j hj] at k1; exact k1,kfr_dfr k2,x,o,M',rs,D,T,V,E,k3,h2,h3,h4,h5,h6,h7,?_⟩
  rcases k4 with rfl | rfl
  · exact h8
  · exact h8
theorem ki_whole (h : KI B d f t w lim c y F H O I fh fo fi) (hv : HV w (.slice pa pn pc) (.slice fa fn fc) H fh) :
    Calls Tryz.prog 27 #[.pointer (some ⟨f,0,none⟩),.agg #[.slice pa pn pc,.slice fa fn fc]] w fun r w' => r = .returned (.bool true)∧w.grownBy w' none := by
  obtain ⟨x,o,M,rs,D,T,V,E,h1,_⟩ := h
  have hi := h1.ls.re.inv
  have he := h1.ls.re.el
  have hl := h1.ls.re.l1
  have hp : ((allOf rs)++(F.ls++H)).Perm (F.ls++(H++allOf rs)) := (List.perm_append_comm).trans (by rw [List.append_assoc])
  refine whole_any w pa pn pc fa fn fc H fh hv F rs h1.ls.fl h1.ls.re.ps hi.ok h1.ls.re.e2 (by omega) (hp.nodup_iff.1 hi.nd) ?_ ?_
  · intro p hm
    rcases List.mem_append.1 hm with k | k
    · exact hi.rl p k
    · rcases List.mem_append.1 k with k | k
      · exact hi.rh p k
      · exact okr_range hi.ok p k
  · intro p p1 p2
    rcases hi.al p p1 p2 with k | k | k
    · exact List.mem_append.2 (.inr (List.mem_append.2 (.inr k)))
    · exact List.mem_append.2 (.inl k)
    · exact List.mem_append.2 (.inr (List.mem_append.2 (.inl k)))
theorem ki_meta (h : KF B d f w lim c y F H O fh fo) : Calls Tryz.prog 18 #[.pointer (some ⟨f,0,none⟩)] w fun r w' => r = .returned (.agg (mtC F.mt))∧w.grownBy w' none := by
  obtain ⟨M,rs,D,h1,_⟩ := h
  exact fmeta_any h1.fl
theorem KF.mt (h : KF B d f w lim c y F H O fh fo) : F.mt.t≤c + 1∧1≤F.mt.t∧F.mt.e≤65536 := by
  obtain ⟨M,rs,D,h1,_⟩ := h
  have := h1.re.el
  have := h1.re.l1
  exact ⟨h1.re.tb,h1.re.t1,by omega⟩
theorem ki_abort (h : KI B d f t w lim c y F H O I fh fo fi) :
    Calls Tryz.prog 25 #[.pointer (some ⟨t,0,none⟩)] w fun r w' => r = .returned (.tuple #[])∧KF B d f w' lim c y F H O fh fo∧Kfr (fun k => k = some 150) B w w' := by
  obtain ⟨x,o,M,rs,D,T,V,E,h1,h2,h3,h4,h5,h6,h7,h8⟩ := h
  refine (abort_any h1.tx).mono ?_
  rintro r w' ⟨rfl,_,k⟩
  exact ⟨rfl,⟨M,rs,D,h1.ls.kfr k (by decide) (by decide) (by decide) (by decide) (by decide) (by decide) (by decide),h2,oldF_of h4,h5,h8⟩,k⟩
end
end Go.Proofs.YtnnmpaenainogaaGreat

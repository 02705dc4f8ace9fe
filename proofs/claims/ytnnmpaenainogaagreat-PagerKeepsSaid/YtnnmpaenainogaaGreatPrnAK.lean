/-
  Layer 8: Right. Own work.
-/
import Derived.Test.YtnnmpaenainogaaGreatPrnAF
import Derived.Deep.LoopGhost
import Derived.Deep.QuietTactic
import Derived.BigQuiet

set_option linter.unusedVariables false
set_option linter.unusedSimpArgs false
namespace Go.Proofs.YtnnmpaenainogaaGreat
open Go.RowKit Go.Maps
theorem okRecs_cons (stop : Nat) (last : Option Nat) (seen : List Nat) (r : Rc) (l : List Rc) :
    okRecs stop last seen (r :: l) = ((match last with | none => true | some t => decide (t < r.1)) && okPages r.2 stop && noneIn r.2 seen && okRecs stop (some r.1) (insAll r.2 seen) l) := rfl
def lastOf (l : List Rc) (k : Nat) : Option Nat := if k = 0 then none else (l[k - 1]?).map (·.1)
theorem turned_grown {w w1 w2 : World} {b : Nat} (h : w.grownBy w1 none) (k : w1.mapTurned w2 b) (hb : w.heap.size≤b) : w.grownBy w2 none := gnew h k.grown hb
theorem alloc_cells (w : World) (a b : Value) (t : TypeId) : (w.alloc (.cells #[a,b] t)).cell? ⟨w.heap.size,0,none⟩ = some a∧(w.alloc (.cells #[a,b] t)).cell? ⟨w.heap.size,1,none⟩ = some b := by
  have h := heap_alloc_new w (.cells #[a,b] t (0,0))
  exact ⟨(cells2 h).1,(cells2 h).2.1⟩
set_option maxHeartbeats 2000000 in
theorem right_any (w : World) (R : Nat→Prop) (ao : Option Addr) (n c : Nat) (l : List Rc) (stop : Nat) (hs : RSq R w (.slice ao n c) l) (hst : stop < 4294967296) :
    Calls Tryz.prog 36 #[.slice ao n c,.int .u32 (stop : Int)] w fun r w' => r = .returned (.bool (right l stop))∧w.grownBy w' none := by
  obtain ⟨hn,hm⟩ := hs.len
  have hN := Lib.hid hn
  have Hs := Lib.hid hs
  have hm2 : (n : Int) ≤ 9223372036854775807 := by have h9 : maxLen ≤ 9223372036854775807 := by decide
                                                   omega
  have hmm := @run_makeMap Tryz.prog
  have h0 := set_made w
  have H0 := Lib.hid h0
  clear hn hm hs h0
  go_enter Tryz.func36,Tryz.ntmps36
  go_wp2
  go_loopw [11] (fun i wr => ∃ (k : Nat) (L : List Nat),k≤n∧i = .int .i64 (k : Int)∧SetAt wr w.heap.size L∧w.grownBy wr none∧right l stop = okRecs stop (lastOf l k) L (l.drop k)) (fun i _ => n - (intOf i).toNat)
  case atStart => exact ⟨0,[],Nat.zero_le _,rfl,H0.out,World.grownBy_alloc _ _ _,rfl⟩
  case round =>
    obtain ⟨k,L,hk,rfl,hS,hg,hr⟩ := hrel
    have HS := Lib.hid hS
    have HG := Lib.hid hg
    have Hr := Lib.hid hr
    clear hS hg hr
    by_cases hlt : k < n
    · have hki : (k : Int) < (n : Int) := by omega
      have hkl : k < l.length := by rw [← hN.out]; exact hlt
      obtain ⟨r,hr⟩ : ∃ r,l[k]? = some r := ⟨l[k],List.getElem?_eq_getElem hkl⟩
      obtain ⟨b,o,rfl,hRb,c0,_,a1,q1,c1,hp⟩ := Hs.out.at k r hr
      have d0 := HG.out.cell c0 (by simp)
      have d1 := HG.out.cell c1 (by simp)
      have HP := Lib.hid hp
      obtain ⟨T,hT⟩ : ∃ T,T = r.1 := ⟨_,rfl⟩
      obtain ⟨ps,hps⟩ : ∃ ps,ps = r.2 := ⟨_,rfl⟩
      rw [← hT] at c0 d0
      rw [← hps] at c1 d1 HP
      have HD := Lib.hid (show l.drop k = (T,ps) :: l.drop (k + 1) by
        rw [List.drop_eq_getElem_cons hkl,hT,hps]
        rw [List.getElem?_eq_getElem hkl] at hr
        cases hr; rfl)
      have HL1 := Lib.hid (show lastOf l (k + 1) = some T by simp [lastOf,hr,hT])
      clear hp hr hT hps
      generalize hm : ps.length = m at d1
      have HM := Lib.hid hm
      rw [hm] at HP c1
      clear hm
      have e0 := (alloc_cells wr (.int .u64 (T : Int)) (.slice a1 m q1) 158).1
      have e1 := (alloc_cells wr (.int .u64 (T : Int)) (.slice a1 m q1) 158).2
      by_cases hk0 : k = 0
      · subst hk0
        have ORD := Lib.hid (show (match lastOf l 0 with | none => true | some t => decide (t < ((T,ps) : Rc).1)) = true from rfl)
        rw [Nat.zero_mul,Nat.add_zero] at d0 d1
        go_wp2_with fail
        go_quiet (fail)
        have hgW : w.grownBy ((wr.alloc (.cells #[.int .u64 (T : Int),.slice a1 m q1] 158)).drewN nq) none := gtrans (gtrans HG.out (World.grownBy_alloc _ _ _)) ⟨rfl,rfl,rfl,Nat.le_refl _,fun _ _ _ => rfl⟩
        have e2 : ((wr.alloc (.cells #[.int .u64 (T : Int),.slice a1 m q1] 158)).drewN nq).cell? ⟨wr.heap.size,0,none⟩ = _ := e0
        have e3 : ((wr.alloc (.cells #[.int .u64 (T : Int),.slice a1 m q1] 158)).drewN nq).cell? ⟨wr.heap.size,1,none⟩ = _ := e1
        have hSW : SetAt ((wr.alloc (.cells #[.int .u64 (T : Int),.slice a1 m q1] 158)).drewN nq) w.heap.size L := (HS.out.grown (World.grownBy_alloc _ _ _)).kept rfl
        clear e0 e1
        generalize (wr.alloc (.cells #[.int .u64 (T : Int),.slice a1 m q1] 158)).drewN nq = W at hgW e2 e3 hSW ⊢
        have HPW := Lib.hid (HP.out.grown hgW)
        have HGW := Lib.hid hgW
        have HSW := Lib.hid hSW
        clear hgW hSW
        cases hok : okPages ps stop with
        | false =>
          have HOK := Lib.hid hok
          have HF := Lib.hid (show right l stop = false by rw [Hr.out,HD.out,okRecs_cons,HOK.out]; simp)
          clear hok
          go_wp2_with (first
            | (go_at_call 83; (with_reducible refine (rightPages_any W R a1 m q1 ps stop HPW.out hst).mono ?_); rw [HOK.out]; rintro r wq ⟨rfl,rfl⟩))
          go_ret
          exact ⟨by rw [HF.out]; rfl,HGW.out⟩
        | true =>
          have HOK := Lib.hid hok
          clear hok
          cases hno : noneIn ps L with
          | false =>
            have HNO := Lib.hid hno
            have HF := Lib.hid (show right l stop = false by rw [Hr.out,HD.out,okRecs_cons,HNO.out]; simp)
            clear hno
            go_wp2_with (first
              | (go_at_call 83; (with_reducible refine (rightPages_any W R a1 m q1 ps stop HPW.out hst).mono ?_); rw [HOK.out]; rintro r wq ⟨rfl,rfl⟩)
              | (go_at_call 84; (with_reducible refine (contains_any W R a1 m q1 w.heap.size ps L HPW.out HSW.out).mono ?_); rw [HNO.out]; rintro r w1 ⟨rfl,hg1⟩; have HG1 := Lib.hid hg1; clear hg1))
            go_ret
            exact ⟨by rw [HF.out]; rfl,gtrans HGW.out HG1.out⟩
          | true =>
            have HNO := Lib.hid hno
            clear hno
            go_wp2_with (first
              | (go_at_call 83; (with_reducible refine (rightPages_any W R a1 m q1 ps stop HPW.out hst).mono ?_); rw [HOK.out]; rintro r wq ⟨rfl,rfl⟩)
              | (go_at_call 84; (with_reducible refine (contains_any W R a1 m q1 w.heap.size ps L HPW.out HSW.out).mono ?_); rw [HNO.out]; rintro r w1 ⟨rfl,hg1⟩; have HG1 := Lib.hid hg1; have e4 := hg1.cell e3 (by simp); clear hg1)
              | (go_at_call 86; (with_reducible refine (setAdd_any w1 w.heap.size L ps R a1 m q1 (HSW.out.grown HG1.out) (HPW.out.grown HG1.out)).mono ?_); rintro r w2 ⟨rfl,hs2,ht2⟩; have HS2 := Lib.hid hs2; have HT2 := Lib.hid ht2; clear hs2 ht2))
            go_roundw
            case rel =>
              refine ⟨0 + 1,insAll ps L,by omega,by go_num,HS2.out,turned_grown (gtrans HGW.out HG1.out) HT2.out (Nat.le_refl _),?_⟩
              rw [Hr.out,HD.out,HL1.out,okRecs_cons,HOK.out,HNO.out,ORD.out]
              simp
            case measure => simp [intOf] <;> omega
      · obtain ⟨q,rfl⟩ : ∃ q,k = q + 1 := ⟨k - 1,by omega⟩
        obtain ⟨rp,hrp⟩ : ∃ r,l[q]? = some r := ⟨l[q]'(by omega),List.getElem?_eq_getElem (by omega)⟩
        obtain ⟨b',o',hbo,_,f0,_,_⟩ := Hs.out.at q rp hrp
        cases hbo
        have g0 := HG.out.cell f0 (by simp)
        have g1 : (wr.alloc (.cells #[.int .u64 (T : Int),.slice a1 m q1] 158)).cell? ⟨b,o + q * 2,none⟩ = _ := cell_alloc g0
        have HL := Lib.hid (show lastOf l (q + 1) = some rp.1 by simp [lastOf,hrp])
        obtain ⟨TP,hTP⟩ : ∃ TP,TP = rp.1 := ⟨_,rfl⟩
        rw [← hTP] at HL g1
        have hqn : (q : Int) < (n : Int) := by omega
        clear hTP hrp f0 g0
        by_cases hord : TP < T
        · have ORD := Lib.hid (show (match lastOf l (q + 1) with | none => true | some t => decide (t < ((T,ps) : Rc).1)) = true by rw [HL.out]; simpa using hord)
          have hoi : ¬ (T : Int)≤(TP : Int) := by omega
          go_wp2_with fail
          go_quiet (fail)
          have hgW : w.grownBy ((wr.alloc (.cells #[.int .u64 (T : Int),.slice a1 m q1] 158)).drewN nq) none := gtrans (gtrans HG.out (World.grownBy_alloc _ _ _)) ⟨rfl,rfl,rfl,Nat.le_refl _,fun _ _ _ => rfl⟩
          have e2 : ((wr.alloc (.cells #[.int .u64 (T : Int),.slice a1 m q1] 158)).drewN nq).cell? ⟨wr.heap.size,0,none⟩ = _ := e0
          have e3 : ((wr.alloc (.cells #[.int .u64 (T : Int),.slice a1 m q1] 158)).drewN nq).cell? ⟨wr.heap.size,1,none⟩ = _ := e1
          have hSW : SetAt ((wr.alloc (.cells #[.int .u64 (T : Int),.slice a1 m q1] 158)).drewN nq) w.heap.size L := (HS.out.grown (World.grownBy_alloc _ _ _)).kept rfl
          clear e0 e1
          generalize (wr.alloc (.cells #[.int .u64 (T : Int),.slice a1 m q1] 158)).drewN nq = W at hgW e2 e3 hSW ⊢
          have HPW := Lib.hid (HP.out.grown hgW)
          have HGW := Lib.hid hgW
          have HSW := Lib.hid hSW
          clear hgW hSW
          cases hok : okPages ps stop with
          | false =>
            have HOK := Lib.hid hok
            have HF := Lib.hid (show right l stop = false by rw [Hr.out,HD.out,okRecs_cons,HOK.out]; simp)
            clear hok
            go_wp2_with (first
              | (go_at_call 83; (with_reducible refine (rightPages_any W R a1 m q1 ps stop HPW.out hst).mono ?_); rw [HOK.out]; rintro r wq ⟨rfl,rfl⟩))
            go_ret
            exact ⟨by rw [HF.out]; rfl,HGW.out⟩
          | true =>
            have HOK := Lib.hid hok
            clear hok
            cases hno : noneIn ps L with
            | false =>
              have HNO := Lib.hid hno
              have HF := Lib.hid (show right l stop = false by rw [Hr.out,HD.out,okRecs_cons,HNO.out]; simp)
              clear hno
              go_wp2_with (first
                | (go_at_call 83; (with_reducible refine (rightPages_any W R a1 m q1 ps stop HPW.out hst).mono ?_); rw [HOK.out]; rintro r wq ⟨rfl,rfl⟩)
                | (go_at_call 84; (with_reducible refine (contains_any W R a1 m q1 w.heap.size ps L HPW.out HSW.out).mono ?_); rw [HNO.out]; rintro r w1 ⟨rfl,hg1⟩; have HG1 := Lib.hid hg1; clear hg1))
              go_ret
              exact ⟨by rw [HF.out]; rfl,gtrans HGW.out HG1.out⟩
            | true =>
              have HNO := Lib.hid hno
              clear hno
              go_wp2_with (first
                | (go_at_call 83; (with_reducible refine (rightPages_any W R a1 m q1 ps stop HPW.out hst).mono ?_); rw [HOK.out]; rintro r wq ⟨rfl,rfl⟩)
                | (go_at_call 84; (with_reducible refine (contains_any W R a1 m q1 w.heap.size ps L HPW.out HSW.out).mono ?_); rw [HNO.out]; rintro r w1 ⟨rfl,hg1⟩; have HG1 := Lib.hid hg1; have e4 := hg1.cell e3 (by simp); clear hg1)
                | (go_at_call 86; (with_reducible refine (setAdd_any w1 w.heap.size L ps R a1 m q1 (HSW.out.grown HG1.out) (HPW.out.grown HG1.out)).mono ?_); rintro r w2 ⟨rfl,hs2,ht2⟩; have HS2 := Lib.hid hs2; have HT2 := Lib.hid ht2; clear hs2 ht2))
              go_roundw
              case rel =>
                refine ⟨q + 1 + 1,insAll ps L,by omega,by go_num,HS2.out,turned_grown (gtrans HGW.out HG1.out) HT2.out (Nat.le_refl _),?_⟩
                rw [Hr.out,HD.out,HL1.out,okRecs_cons,HOK.out,HNO.out,ORD.out]
                simp
              case measure => simp [intOf] <;> omega
        · have ORD := Lib.hid (show (match lastOf l (q + 1) with | none => true | some t => decide (t < ((T,ps) : Rc).1)) = false by rw [HL.out]; simpa using hord)
          have hoi : (T : Int)≤(TP : Int) := by omega
          have HF := Lib.hid (show right l stop = false by rw [Hr.out,HD.out,okRecs_cons,ORD.out]; simp)
          go_wp2_with fail
          go_quiet (fail)
          go_wp2
          go_ret
          exact ⟨by rw [HF.out]; rfl,gtrans (gtrans HG.out (World.grownBy_alloc _ _ _)) ⟨rfl,rfl,rfl,Nat.le_refl _,fun _ _ _ => rfl⟩⟩
    · have hki : ¬ (k : Int) < (n : Int) := by omega
      have HF := Lib.hid (show right l stop = true by
        rw [Hr.out,List.drop_eq_nil_of_le (by rw [← hN.out]; omega)]; rfl)
      go_wp2
      go_ret
      exact ⟨by rw [HF.out]; rfl,HG.out⟩
end Go.Proofs.YtnnmpaenainogaaGreat

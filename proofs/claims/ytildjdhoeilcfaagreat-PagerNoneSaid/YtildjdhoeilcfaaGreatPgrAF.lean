/-
  Layer 8: Right. Own work.
-/
import Derived.Test.YtildjdhoeilcfaaGreatPgrAE
import Derived.Deep.LoopGhost
import Derived.Deep.QuietTactic
import Derived.BigQuiet
import Derived.Test.YtildjdhoeilcfaaGreatPgrAB
import Derived.Laws.AppendOwnNone
import Derived.Deep.RegionLaw

namespace Go.Proofs.YtildjdhoeilcfaaGreat
open Go.RowKit Go.Maps

theorem okRecs_cons (stop : Nat) (last : Option Nat) (seen : List Nat) (r : Rc) (l : List Rc) :
    okRecs stop last seen (r :: l) = ((match last with | none => true | some t => decide (t < r.1)) && okPages r.2 stop && noneIn r.2 seen && okRecs stop (some r.1) (insAll r.2 seen) l) := rfl
def lastOf (l : List Rc) (k : Nat) : Option Nat := if k = 0 then none else (l[k - 1]?).map (·.1)

theorem turned_grown {w w1 w2 : World} {b : Nat} (h : w.grownBy w1 none) (k : w1.mapTurned w2 b) (hb : w.heap.size ≤ b) : w.grownBy w2 none := gnew h k.grown hb
theorem alloc_cells (w : World) (a b : Value) (t : TypeId) : (w.alloc (.cells #[a, b] t)).cell? ⟨w.heap.size, 0, none⟩ = some a ∧ (w.alloc (.cells #[a, b] t)).cell? ⟨w.heap.size, 1, none⟩ = some b := by
  have h := heap_alloc_new w (.cells #[a, b] t (0, 0))
  exact ⟨(cells2 h).1, (cells2 h).2.1⟩

set_option maxHeartbeats 2000000 in
theorem right_any (w : World) (R : Nat → Prop) (ao : Option Addr) (n c : Nat) (l : List Rc) (stop : Nat) (hs : RSq R w (.slice ao n c) l) (hst : stop < 4294967296) :
    Calls Tryz.prog 31 #[.slice ao n c, .int .u32 (stop : Int)] w fun r w' => r = .returned (.bool (right l stop)) ∧ w.grownBy w' none := by
  obtain ⟨hn, hm⟩ := hs.len
  have hN := Lib.hid hn
  have Hs := Lib.hid hs
  have hm2 : (n : Int) ≤ 9223372036854775807 := by have h9 : maxLen ≤ 9223372036854775807 := by decide
                                                   omega
  have hmm := @run_makeMap Tryz.prog
  have h0 := set_made w
  have H0 := Lib.hid h0
  clear hn hm hs h0
  go_enter Tryz.func31, Tryz.ntmps31
  go_wp2
  go_loopw [11] (fun i wr => ∃ (k : Nat) (L : List Nat), k ≤ n ∧ i = .int .i64 (k : Int) ∧ SetAt wr w.heap.size L ∧ w.grownBy wr none ∧ right l stop = okRecs stop (lastOf l k) L (l.drop k)) (fun i _ => n - (intOf i).toNat)
  case atStart => exact ⟨0, [], Nat.zero_le _, rfl, H0.out, World.grownBy_alloc _ _ _, rfl⟩
  case round =>
    obtain ⟨k, L, hk, rfl, hS, hg, hr⟩ := hrel
    have HS := Lib.hid hS
    have HG := Lib.hid hg
    have Hr := Lib.hid hr
    clear hS hg hr
    by_cases hlt : k < n
    · have hki : (k : Int) < (n : Int) := by omega
      have hkl : k < l.length := by rw [← hN.out]; exact hlt
      obtain ⟨r, hr⟩ : ∃ r, l[k]? = some r := ⟨l[k], List.getElem?_eq_getElem hkl⟩
      obtain ⟨b, o, rfl, hRb, c0, _, a1, q1, c1, hp⟩ := Hs.out.at k r hr
      have d0 := HG.out.cell c0 (by simp)
      have d1 := HG.out.cell c1 (by simp)
      have HP := Lib.hid hp
      obtain ⟨T, hT⟩ : ∃ T, T = r.1 := ⟨_, rfl⟩
      obtain ⟨ps, hps⟩ : ∃ ps, ps = r.2 := ⟨_, rfl⟩
      rw [← hT] at c0 d0
      rw [← hps] at c1 d1 HP
      have HD := Lib.hid (show l.drop k = (T, ps) :: l.drop (k + 1) by
        rw [List.drop_eq_getElem_cons hkl, hT, hps]
        rw [List.getElem?_eq_getElem hkl] at hr
        cases hr; rfl)
      have HL1 := Lib.hid (show lastOf l (k + 1) = some T by simp [lastOf, hr, hT])
      clear hp hr hT hps
      generalize hm : ps.length = m at d1
      have HM := Lib.hid hm
      rw [hm] at HP c1
      clear hm
      have e0 := (alloc_cells wr (.int .u64 (T : Int)) (.slice a1 m q1) 141).1
      have e1 := (alloc_cells wr (.int .u64 (T : Int)) (.slice a1 m q1) 141).2
      by_cases hk0 : k = 0
      · subst hk0
        have ORD := Lib.hid (show (match lastOf l 0 with | none => true | some t => decide (t < ((T, ps) : Rc).1)) = true from rfl)
        rw [Nat.zero_mul, Nat.add_zero] at d0 d1
        go_wp2_with fail
        go_quiet (fail)
        have hgW : w.grownBy ((wr.alloc (.cells #[.int .u64 (T : Int), .slice a1 m q1] 141)).drewN nq) none := gtrans (gtrans HG.out (World.grownBy_alloc _ _ _)) ⟨rfl, rfl, rfl, Nat.le_refl _, fun _ _ _ => rfl⟩
        have e2 : ((wr.alloc (.cells #[.int .u64 (T : Int), .slice a1 m q1] 141)).drewN nq).cell? ⟨wr.heap.size, 0, none⟩ = _ := e0
        have e3 : ((wr.alloc (.cells #[.int .u64 (T : Int), .slice a1 m q1] 141)).drewN nq).cell? ⟨wr.heap.size, 1, none⟩ = _ := e1
        have hSW : SetAt ((wr.alloc (.cells #[.int .u64 (T : Int), .slice a1 m q1] 141)).drewN nq) w.heap.size L := (HS.out.grown (World.grownBy_alloc _ _ _)).kept rfl
        clear e0 e1
        generalize (wr.alloc (.cells #[.int .u64 (T : Int), .slice a1 m q1] 141)).drewN nq = W at hgW e2 e3 hSW ⊢
        have HPW := Lib.hid (HP.out.grown hgW)
        have HGW := Lib.hid hgW
        have HSW := Lib.hid hSW
        clear hgW hSW
        cases hok : okPages ps stop with
        | false =>
          have HOK := Lib.hid hok
          have HF := Lib.hid (show right l stop = false by rw [Hr.out, HD.out, okRecs_cons, HOK.out]; simp)
          clear hok
          go_wp2_with (first
            | (go_at_call 75; (with_reducible refine (rightPages_any W R a1 m q1 ps stop HPW.out hst).mono ?_); rw [HOK.out]; rintro r wq ⟨rfl, rfl⟩))
          go_ret
          exact ⟨by rw [HF.out]; rfl, HGW.out⟩
        | true =>
          have HOK := Lib.hid hok
          clear hok
          cases hno : noneIn ps L with
          | false =>
            have HNO := Lib.hid hno
            have HF := Lib.hid (show right l stop = false by rw [Hr.out, HD.out, okRecs_cons, HNO.out]; simp)
            clear hno
            go_wp2_with (first
              | (go_at_call 75; (with_reducible refine (rightPages_any W R a1 m q1 ps stop HPW.out hst).mono ?_); rw [HOK.out]; rintro r wq ⟨rfl, rfl⟩)
              | (go_at_call 76; (with_reducible refine (contains_any W R a1 m q1 w.heap.size ps L HPW.out HSW.out).mono ?_); rw [HNO.out]; rintro r w1 ⟨rfl, hg1⟩; have HG1 := Lib.hid hg1; clear hg1))
            go_ret
            exact ⟨by rw [HF.out]; rfl, gtrans HGW.out HG1.out⟩
          | true =>
            have HNO := Lib.hid hno
            clear hno
            go_wp2_with (first
              | (go_at_call 75; (with_reducible refine (rightPages_any W R a1 m q1 ps stop HPW.out hst).mono ?_); rw [HOK.out]; rintro r wq ⟨rfl, rfl⟩)
              | (go_at_call 76; (with_reducible refine (contains_any W R a1 m q1 w.heap.size ps L HPW.out HSW.out).mono ?_); rw [HNO.out]; rintro r w1 ⟨rfl, hg1⟩; have HG1 := Lib.hid hg1; have e4 := hg1.cell e3 (by simp); clear hg1)
              | (go_at_call 78; (with_reducible refine (setAdd_any w1 w.heap.size L ps R a1 m q1 (HSW.out.grown HG1.out) (HPW.out.grown HG1.out)).mono ?_); rintro r w2 ⟨rfl, hs2, ht2⟩; have HS2 := Lib.hid hs2; have HT2 := Lib.hid ht2; clear hs2 ht2))
            go_roundw
            case rel =>
              refine ⟨0 + 1, insAll ps L, by omega, by go_num, HS2.out, turned_grown (gtrans HGW.out HG1.out) HT2.out (Nat.le_refl _), ?_⟩
              rw [Hr.out, HD.out, HL1.out, okRecs_cons, HOK.out, HNO.out, ORD.out]
              simp
            case measure => simp [intOf] <;> omega
      · obtain ⟨q, rfl⟩ : ∃ q, k = q + 1 := ⟨k - 1, by omega⟩
        obtain ⟨rp, hrp⟩ : ∃ r, l[q]? = some r := ⟨l[q]'(by omega), List.getElem?_eq_getElem (by omega)⟩
        obtain ⟨b', o', hbo, _, f0, _, _⟩ := Hs.out.at q rp hrp
        cases hbo
        have g0 := HG.out.cell f0 (by simp)
        have g1 : (wr.alloc (.cells #[.int .u64 (T : Int), .slice a1 m q1] 141)).cell? ⟨b, o + q * 2, none⟩ = _ := cell_alloc g0
        have HL := Lib.hid (show lastOf l (q + 1) = some rp.1 by simp [lastOf, hrp])
        obtain ⟨TP, hTP⟩ : ∃ TP, TP = rp.1 := ⟨_, rfl⟩
        rw [← hTP] at HL g1
        have hqn : (q : Int) < (n : Int) := by omega
        clear hTP hrp f0 g0
        by_cases hord : TP < T
        · have ORD := Lib.hid (show (match lastOf l (q + 1) with | none => true | some t => decide (t < ((T, ps) : Rc).1)) = true by rw [HL.out]; simpa using hord)
          have hoi : ¬ (T : Int) ≤ (TP : Int) := by omega
          go_wp2_with fail
          go_quiet (fail)
          have hgW : w.grownBy ((wr.alloc (.cells #[.int .u64 (T : Int), .slice a1 m q1] 141)).drewN nq) none := gtrans (gtrans HG.out (World.grownBy_alloc _ _ _)) ⟨rfl, rfl, rfl, Nat.le_refl _, fun _ _ _ => rfl⟩
          have e2 : ((wr.alloc (.cells #[.int .u64 (T : Int), .slice a1 m q1] 141)).drewN nq).cell? ⟨wr.heap.size, 0, none⟩ = _ := e0
          have e3 : ((wr.alloc (.cells #[.int .u64 (T : Int), .slice a1 m q1] 141)).drewN nq).cell? ⟨wr.heap.size, 1, none⟩ = _ := e1
          have hSW : SetAt ((wr.alloc (.cells #[.int .u64 (T : Int), .slice a1 m q1] 141)).drewN nq) w.heap.size L := (HS.out.grown (World.grownBy_alloc _ _ _)).kept rfl
          clear e0 e1
          generalize (wr.alloc (.cells #[.int .u64 (T : Int), .slice a1 m q1] 141)).drewN nq = W at hgW e2 e3 hSW ⊢
          have HPW := Lib.hid (HP.out.grown hgW)
          have HGW := Lib.hid hgW
          have HSW := Lib.hid hSW
          clear hgW hSW
          cases hok : okPages ps stop with
          | false =>
            have HOK := Lib.hid hok
            have HF := Lib.hid (show right l stop = false by rw [Hr.out, HD.out, okRecs_cons, HOK.out]; simp)
            clear hok
            go_wp2_with (first
              | (go_at_call 75; (with_reducible refine (rightPages_any W R a1 m q1 ps stop HPW.out hst).mono ?_); rw [HOK.out]; rintro r wq ⟨rfl, rfl⟩))
            go_ret
            exact ⟨by rw [HF.out]; rfl, HGW.out⟩
          | true =>
            have HOK := Lib.hid hok
            clear hok
            cases hno : noneIn ps L with
            | false =>
              have HNO := Lib.hid hno
              have HF := Lib.hid (show right l stop = false by rw [Hr.out, HD.out, okRecs_cons, HNO.out]; simp)
              clear hno
              go_wp2_with (first
                | (go_at_call 75; (with_reducible refine (rightPages_any W R a1 m q1 ps stop HPW.out hst).mono ?_); rw [HOK.out]; rintro r wq ⟨rfl, rfl⟩)
                | (go_at_call 76; (with_reducible refine (contains_any W R a1 m q1 w.heap.size ps L HPW.out HSW.out).mono ?_); rw [HNO.out]; rintro r w1 ⟨rfl, hg1⟩; have HG1 := Lib.hid hg1; clear hg1))
              go_ret
              exact ⟨by rw [HF.out]; rfl, gtrans HGW.out HG1.out⟩
            | true =>
              have HNO := Lib.hid hno
              clear hno
              go_wp2_with (first
                | (go_at_call 75; (with_reducible refine (rightPages_any W R a1 m q1 ps stop HPW.out hst).mono ?_); rw [HOK.out]; rintro r wq ⟨rfl, rfl⟩)
                | (go_at_call 76; (with_reducible refine (contains_any W R a1 m q1 w.heap.size ps L HPW.out HSW.out).mono ?_); rw [HNO.out]; rintro r w1 ⟨rfl, hg1⟩; have HG1 := Lib.hid hg1; have e4 := hg1.cell e3 (by simp); clear hg1)
                | (go_at_call 78; (with_reducible refine (setAdd_any w1 w.heap.size L ps R a1 m q1 (HSW.out.grown HG1.out) (HPW.out.grown HG1.out)).mono ?_); rintro r w2 ⟨rfl, hs2, ht2⟩; have HS2 := Lib.hid hs2; have HT2 := Lib.hid ht2; clear hs2 ht2))
              go_roundw
              case rel =>
                refine ⟨q + 1 + 1, insAll ps L, by omega, by go_num, HS2.out, turned_grown (gtrans HGW.out HG1.out) HT2.out (Nat.le_refl _), ?_⟩
                rw [Hr.out, HD.out, HL1.out, okRecs_cons, HOK.out, HNO.out, ORD.out]
                simp
              case measure => simp [intOf] <;> omega
        · have ORD := Lib.hid (show (match lastOf l (q + 1) with | none => true | some t => decide (t < ((T, ps) : Rc).1)) = false by rw [HL.out]; simpa using hord)
          have hoi : (T : Int) ≤ (TP : Int) := by omega
          have HF := Lib.hid (show right l stop = false by rw [Hr.out, HD.out, okRecs_cons, ORD.out]; simp)
          go_wp2_with fail
          go_quiet (fail)
          go_wp2
          go_ret
          exact ⟨by rw [HF.out]; rfl, gtrans (gtrans HG.out (World.grownBy_alloc _ _ _)) ⟨rfl, rfl, rfl, Nat.le_refl _, fun _ _ _ => rfl⟩⟩
    · have hki : ¬ (k : Int) < (n : Int) := by omega
      have HF := Lib.hid (show right l stop = true by
        rw [Hr.out, List.drop_eq_nil_of_le (by rw [← hN.out]; omega)]; rfl)
      go_wp2
      go_ret
      exact ⟨by rw [HF.out]; rfl, HG.out⟩

end Go.Proofs.YtildjdhoeilcfaaGreat

namespace Go.Proofs.YtildjdhoeilcfaaGreat
open Go.RowKit

set_option maxHeartbeats 400000 in
theorem newR_any (w : World) (B : Nat) (v : Value) (bs : List Int) (hs : Seq B w v bs) (hB : B ≤ w.heap.size) (hl : bs.length ≤ 140737488355328) :
    Calls Tryz.prog 224 #[v] w fun r w' => ∃ g, r = .returned (.pointer (some ⟨g, 0, none⟩)) ∧ w.heap.size ≤ g ∧ RdAt w' g bs 0 ∧ w.grownBy w' none := by
  go_enter Tryz.func224, Tryz.ntmps224
  go_wp2_with (go_at_call 60; refine (clone_any _ _ _ _ hs hB hl).mono ?_; rintro r w1 ⟨ao, c, rfl, hown, hgr⟩)
  go_ret
  have hsz := hgr.size
  exact ⟨w1.heap.size, rfl, hsz, ⟨_, (Seq.owned hown).below (fun i hi => Below.heap_alloc _ _ _ hi), heap_alloc_new _ _⟩, gtrans hgr (World.grownBy_alloc _ _ _)⟩

set_option maxHeartbeats 400000 in
theorem take_any (w : World) (g : Nat) (bs : List Int) (e : Int) (k : Nat) (h : RdAt w g bs e) (hk : k ≤ bs.length) (_hl : bs.length ≤ 140737488355328) :
    Calls Tryz.prog 230 #[.pointer (some ⟨g, 0, none⟩), .int .i64 k] w fun r w' => ∃ v, r = .returned v ∧ Seq g w' v (bs.take k) ∧ RdAt w' g (bs.drop k) e ∧ w.grownBy w' (some g) := by
  obtain ⟨v, hs, hv⟩ := h
  have hs' := hs
  obtain ⟨ao, c, rfl, h1, h2, h3, h4⟩ := hs
  have hc0 := two_cell0 hv
  have hf0 := two_free0 hv
  unfold maxLen at h2
  go_enter Tryz.func230, Tryz.ntmps230
  go_wp2
  all_goals
    go_ret
  · have hck : c = k := by assumption
    subst hck
    exact ⟨_, rfl, (hs'.head _ hk).below (fun i hi => Below.heap_setCell _ _ _ _ (by simp; omega)), ⟨_, hs'.tail0.below (fun i hi => Below.heap_setCell _ _ _ _ (by simp; omega)), two_set0 hv⟩, gset _ _ _⟩
  · exact ⟨_, rfl, (hs'.head _ hk).below (fun i hi => Below.heap_setCell _ _ _ _ (by simp; omega)), ⟨_, (hs'.tail hk).below (fun i hi => Below.heap_setCell _ _ _ _ (by simp; omega)), two_set0 hv⟩, gset _ _ _⟩

theorem RdAt.set1 {w : World} {g : Nat} {bs : List Int} {e : Int} (h : RdAt w g bs e) (e' : Int) : RdAt (w.setCell ⟨g, 1, none⟩ (.int .i64 e')) g bs e' := by
  obtain ⟨v, hs, hv⟩ := h
  exact ⟨v, hs.below (fun i hi => Below.heap_setCell _ _ _ _ (by simp; omega)), two_set1 hv⟩

set_option maxHeartbeats 400000 in
theorem next_any (w : World) (g : Nat) (bs : List Int) (e n : Int) (right : Bool) (h : RdAt w g bs e) (hn : right = true → 0 ≤ n) (hl : bs.length ≤ 140737488355328) :
    Calls Tryz.prog 186 #[.pointer (some ⟨g, 0, none⟩), .int .i64 n, .bool right] w fun r w' => ∃ v, r = .returned v ∧ Seq g w' v (nx bs e n right).2.2 ∧ RdAt w' g (nx bs e n right).1 (nx bs e n right).2.1 ∧ w.grownBy w' (some g) := by
  by_cases he : e = 0
  · subst he
    cases right with
    | false =>
      have hx : nx bs 0 n false = (bs, 1, []) := by simp [nx]
      have H := Lib.hid h
      obtain ⟨v, hs, hv⟩ := h
      have hc1 := two_cell1 hv
      have hf1 := two_free1 hv
      clear hs hv hn
      rw [hx]
      clear hx
      go_enter Tryz.func186, Tryz.ntmps186
      go_wp2_with (go_at_call 226; refine (err_any _ _ _ _ H.out).mono ?_; rintro r w1 ⟨rfl, rfl⟩)
      go_ret
      exact ⟨_, rfl, seq_nil _ _, H.out.set1 _, gset _ _ _⟩
    | true =>
      have hn := hn rfl
      obtain ⟨k, rfl⟩ := Int.eq_ofNat_of_zero_le hn
      clear hn
      by_cases hk : k ≤ bs.length
      · have hx : nx bs 0 (k : Int) true = (bs.drop k, 0, bs.take k) := by
          have : ¬ (bs.length : Int) < k := by omega
          simp [nx, this]
        have H := Lib.hid h
        obtain ⟨v, hs, hv⟩ := h
        obtain ⟨ao, c, rfl, _⟩ := hs
        have hc0 := two_cell0 hv
        clear hv
        rw [hx]
        clear hx
        go_enter Tryz.func186, Tryz.ntmps186
        go_wp2_with (first | (go_at_call 226; refine (err_any _ _ _ _ H.out).mono ?_; rintro r w1 ⟨rfl, rfl⟩) | (go_at_call 230; refine (take_any _ _ _ _ _ H.out hk hl).mono ?_; rintro r w1 ⟨v1, rfl, hs1, hr1, hg1⟩))
        go_ret
        exact ⟨_, rfl, hs1, hr1, hg1⟩
      · have hx : nx bs 0 (k : Int) true = (bs, 10, []) := by
          have : (bs.length : Int) < k := by omega
          simp [nx, this]
        have H := Lib.hid h
        obtain ⟨v, hs, hv⟩ := h
        have hc1 := two_cell1 hv
        have hf1 := two_free1 hv
        obtain ⟨ao, c, rfl, _⟩ := hs
        have hc0 := two_cell0 hv
        clear hv
        rw [hx]
        clear hx
        go_enter Tryz.func186, Tryz.ntmps186
        go_wp2_with (go_at_call 226; refine (err_any _ _ _ _ H.out).mono ?_; rintro r w1 ⟨rfl, rfl⟩)
        go_ret
        exact ⟨_, rfl, seq_nil _ _, H.out.set1 _, gset _ _ _⟩
  · have hx : nx bs e n right = (bs, e, []) := by simp [nx, he]
    rw [hx]
    clear hx hn
    go_enter Tryz.func186, Tryz.ntmps186
    go_wp2_with (go_at_call 226; refine (err_any _ _ _ _ h).mono ?_; rintro r w1 ⟨rfl, rfl⟩)
    go_ret
    exact ⟨_, rfl, seq_nil _ _, h, grefl _ _⟩

end Go.Proofs.YtildjdhoeilcfaaGreat

namespace Go.Proofs.YtildjdhoeilcfaaGreat
open Go.RowKit

set_option maxHeartbeats 400000 in
theorem raw_any (w : World) (g : Nat) (bs : List Int) (e n : Int) (h : RdAt w g bs e) (hl : bs.length ≤ 140737488355328) :
    Calls Tryz.prog 139 #[.pointer (some ⟨g, 0, none⟩), .int .i64 n] w fun r w' => ∃ ao c, r = .returned (.slice ao (nx bs e n (decide (0 ≤ n))).2.2.length c) ∧
      w'.ownsRow w.heap.size 5 1 (.slice ao (nx bs e n (decide (0 ≤ n))).2.2.length c) (nx bs e n (decide (0 ≤ n))).2.2.length ((nx bs e n (decide (0 ≤ n))).2.2.map (Value.int .u8)) ∧
      RdAt w' g (nx bs e n (decide (0 ≤ n))).1 (nx bs e n (decide (0 ≤ n))).2.1 ∧ w.grownBy w' (some g) := by
  have hxl := nx_len bs e n (decide (0 ≤ n))
  have HN := Lib.hid (next_any w g bs e n (decide (0 ≤ n)) h (by simp) hl)
  have hgs := h.lt
  clear h
  generalize hx : nx bs e n (decide (0 ≤ n)) = x at *
  clear hx
  obtain ⟨r1, e1, out⟩ := x
  simp only at hxl HN ⊢
  go_enter Tryz.func139, Tryz.ntmps139
  go_wp2_with (first | (go_at_call 186; refine HN.out.mono ?_; rintro r w1 ⟨v, rfl, hs1, hr1, hg1⟩; have hw1 := hg1.size) | (go_at_call 60; refine (clone_any w1 _ v out hs1 (by omega) (by omega)).mono ?_; rintro r w2 ⟨ao, c, rfl, ho2, hg2⟩))
  go_ret
  exact ⟨_, _, rfl, own_base ho2 hw1, hr1.kept (fun i hi => hg2.block i (by omega) (by simp)), gtrans hg1 (gwide hg2)⟩

theorem raw_nil (w : World) (n : Int) :
    Calls Tryz.prog 139 #[.pointer none, .int .i64 n] w fun r w' => r = .returned (.slice none 0 0) ∧ w = w' := by
  have heq : ∀ w : World, (binOp .eql 32 (.slice none 0 0) (.slice none 0 0)).run Tryz.prog w = .ok (.bool true) w := fun w => Lib.run_eql_slice_nil w _ _ _ _ _ _ _ Tryz.underlying32
  go_enter Tryz.func139, Tryz.ntmps139
  go_wp2
  go_ret
  exact ⟨rfl, rfl⟩

set_option maxHeartbeats 400000 in
theorem num_any (w : World) (g : Nat) (bs : List Int) (e n : Int) (h : RdAt w g bs e) (hb : Byt bs) (hl : bs.length ≤ 140737488355328) :
    Calls Tryz.prog 184 #[.pointer (some ⟨g, 0, none⟩), .int .i64 n] w fun r w' =>
      r = .returned (.int .u64 (beVal (nx bs e n (decide (1 ≤ n) && decide (n ≤ 8))).2.2)) ∧
      RdAt w' g (nx bs e n (decide (1 ≤ n) && decide (n ≤ 8))).1 (nx bs e n (decide (1 ≤ n) && decide (n ≤ 8))).2.1 ∧ w.grownBy w' (some g) := by
  have hxl : (nx bs e n (decide (1 ≤ n) && decide (n ≤ 8))).2.2.length ≤ 8 := by
    unfold nx; split
    · simp
    · split
      · simp
      · split
        · simp
        · rename_i h1 _; simp at h1 ⊢; omega
  have hxb := (nx_byt hb e n (decide (1 ≤ n) && decide (n ≤ 8))).2
  have HN := Lib.hid (next_any w g bs e n (decide (1 ≤ n) && decide (n ≤ 8)) h (by simp; omega) hl)
  clear h hb
  generalize hx : nx bs e n (decide (1 ≤ n) && decide (n ≤ 8)) = x at *
  clear hx
  obtain ⟨r1, e1, out⟩ := x
  simp only at hxl hxb HN ⊢
  go_enter Tryz.func184, Tryz.ntmps184
  go_wp2_with (first | (go_at_call 108; refine (rightSize_any _ _).mono ?_; rintro r w1 ⟨rfl, rfl⟩) | (go_at_call 186; refine HN.out.mono ?_; rintro r w1 ⟨v, rfl, ⟨ao, c, rfl, h1, h2, h3, h4⟩, hr1, hg1⟩))
  go_loop [5, 14] (fun x i => ∃ k : Nat, k ≤ out.length ∧ i = .int .i64 k ∧ x = .int .u64 (beVal (out.take k))) (fun _ i => out.length - (intOf i).toNat)
  case atStart => exact ⟨0, Nat.zero_le _, rfl, rfl⟩
  case round =>
    obtain ⟨k, hk, rfl, rfl⟩ := hrel
    by_cases hlt : k < out.length
    · obtain ⟨b, o, rfl, hb, hc⟩ := h4 (by rintro rfl; simp at hlt)
      have hck := hc k hlt
      clear hc h4
      have hsn : out.take (k + 1) = out.take k ++ [out.getD k 0] := by rw [List.take_succ_eq_append_getElem hlt]; simp [List.getElem?_eq_getElem hlt]
      have hv := beVal_snoc (out.take k) (out.getD k 0)
      rw [← hsn] at hv
      have hx := beVal_bound _ (hxb.take k)
      have hx2 := beVal_lt _ (hxb.take k) 7 (by simp; omega)
      have hy := hxb.get k
      have HJ := Lib.hid ((join8 _ _ hx.1 (by simpa using hx2) hy.1 hy.2).trans hv.symm)
      clear hsn hv hx hx2 hy
      go_wp2
      go_round
      case rel => exact ⟨k + 1, by omega, by go_num, by have := HJ.out; simp [List.getElem?_eq_getElem hlt] at this; rw [this]⟩
      case measure => simp [intOf]; omega
    · obtain rfl : k = out.length := by omega
      go_wp2
      go_ret
      exact ⟨rfl, hr1, hg1⟩

set_option maxHeartbeats 400000 in
theorem num_nil (w : World) (n : Int) :
    Calls Tryz.prog 184 #[.pointer none, .int .i64 n] w fun r w' => r = .returned (.int .u64 0) ∧ w = w' := by
  go_enter Tryz.func184, Tryz.ntmps184
  go_wp2_with (first | (go_at_call 108; refine (rightSize_any _ _).mono ?_; rintro r w1 ⟨rfl, rfl⟩) | (go_at_call 226; refine (err_nil _).mono ?_; rintro r w1 ⟨rfl, rfl⟩) | go_in)
  refine wp_loop_rounds 1 ?_; rw [rounds_succ]
  go_wp2
  go_ret
  exact ⟨rfl, rfl⟩

/-- What End tells. -/
def endOf (bs : List Int) (e : Int) : Int := if e ≠ 0 then e else if bs.length = 0 then 0 else 12

end Go.Proofs.YtildjdhoeilcfaaGreat

namespace Go.Proofs.YtildjdhoeilcfaaGreat
open Go.RowKit

def Fresh (w : World) (v v' : Value) : Prop := v'.ownBlock = v.ownBlock ∨ ∃ k, v'.ownBlock = some k ∧ w.heap.size ≤ k

theorem run_append_own2 {P : Program} (w : World) (base : Nat) (t ty e : TypeId) (i : TypeInfo) (z : Value) (size bytes : Nat) (ht : P.underlying t = some (.slice e)) (hi : P.info? e = some i) (hz : i.zero = some z)
    (hsize : i.size = size) (hby : i.bytes = bytes) (hzs : z.cells.size = size) (hsz : 0 < size)
    (v : Value) (n : Nat) (xs : List Value) (hown : w.ownsRow base e size v n xs)
    (a : Addr) (m c : Nat) (news : List Value) (hl : news.length = m * size) (hnews : ∀ j u, news[j]? = some u → w.cell? (a.add j) = some u) (h1 : ∀ u ∈ news, u.oneCell' = true)
    (h63 : n + m ≤ maxLen) (hbytes : (n + m) * bytes ≤ 140737488355328) (hbase : base ≤ w.heap.size) :
    ∃ v' w', (Builtin.append_ #[t, t] ty #[v, .slice (some a) m c]).run P w = .ok v' w' ∧ w'.ownsRow base e size v' (n + m) (xs ++ news) ∧ w.grownBy w' v.ownBlock ∧ Fresh w v v' := by
  obtain ⟨v', w', hr, h2, h3, _⟩ := run_append_own (P := P) w base t ty e i z size bytes ht hi hz hsize hby hzs hsz v n xs hown a m c news hl hnews h1 h63 hbytes hbase
  refine ⟨v', w', hr, h2, h3, ?_⟩
  rcases hown.2 with ⟨rfl, rfl⟩ | ⟨g, cap, cur, rfl, hbg, hg, hnc, hcm, hcs, htake⟩
  · have hx : xs = [] := List.eq_nil_of_length_eq_zero (by simpa using hown.1)
    subst hx
    obtain ⟨v2, w2, hr2, h22, _⟩ := run_append_own (P := P) w w.heap.size t ty e i z size bytes ht hi hz hsize hby hzs hsz (.slice none 0 0) 0 [] (World.ownsRow_nil _ _ _ _) a m c news hl hnews h1 h63 hbytes (Nat.le_refl _)
    rw [hr] at hr2
    injection hr2 with e1 e2
    subst e1; subst e2
    rcases h22.2 with ⟨rfl, _⟩ | ⟨g, cap, cur, rfl, hb, _⟩
    · exact .inl rfl
    · exact .inr ⟨g, rfl, hb⟩
  · by_cases hroom : n + m ≤ cap
    · obtain ⟨w2, hr2, _⟩ := run_append_fits (P := P) w base t ty e i size ht hi hsize g n cap xs hown a m c news hl hnews h1 hroom
      rw [hr] at hr2
      injection hr2 with e1 e2
      subst e1
      exact .inl rfl
    · subst hsize; subst hby
      have holds : ∀ j u, xs[j]? = some u → w.cell? ((⟨g, 0, none⟩ : Addr).add j) = some u := hown.cells (g := g) rfl
      have hr2 := run_append_grow (P := P) w t ty e i z ht hi hz ⟨g, 0, none⟩ n cap xs hown.1 holds a m c news hl hnews (by omega) (by unfold maxLen at h63; omega) (growslice_fits (by omega) hbytes)
      rw [hr] at hr2
      injection hr2 with e1 e2
      subst e1
      exact .inr ⟨_, rfl, Nat.le_refl _⟩

theorem wp_append_own2 {P : Program} (w : World) {o : Oper} {a : Act} {K : Act → World → Prop} {Q : Exit → Act → World → Prop} (s x : Operand) (t : TypeId)
    (ho : o.op = .call { callee := .builtin .append, args := #[s, x], argTypes := #[t, t] })
    (base : Nat) (e : TypeId) (i : TypeInfo) (z : Value) (size bytes : Nat) (ht : P.underlying t = some (.slice e)) (hi : P.info? e = some i) (hz : i.zero = some z)
    (hsize : i.size = size) (hby : i.bytes = bytes) (hzs : z.cells.size = size) (hsz : 0 < size)
    (v : Value) (n : Nat) (xs : List Value) (hs : a.eval s = v) (hown : w.ownsRow base e size v n xs)
    (ad : Addr) (m c : Nat) (news : List Value) (hx : a.eval x = .slice (some ad) m c) (hl : news.length = m * size) (hnews : ∀ j u, news[j]? = some u → w.cell? (ad.add j) = some u) (h1 : ∀ u ∈ news, u.oneCell' = true)
    (h63 : n + m ≤ maxLen) (hbytes : (n + m) * bytes ≤ 140737488355328) (hbase : base ≤ w.heap.size)
    (h : ∀ v' w', w'.ownsRow base e size v' (n + m) (xs ++ news) → w.grownBy w' v.ownBlock → Fresh w v v' → K (a.put o.dst v') w') : o.wp P a w K Q := by
  obtain ⟨v', w', hr, h2, h3, h4⟩ := run_append_own2 (P := P) w base t o.type e i z size bytes ht hi hz hsize hby hzs hsz v n xs hown ad m c news hl hnews h1 h63 hbytes hbase
  unfold Oper.wp execOp
  simp only [ho, resolve, invoke, builtin, Sem.run_bind, Sem.run_pure, Result.andThen_ok, List.map_toArray, List.map_cons, List.map_nil, hs, hx, hr]
  exact h v' w' h2 h3 h4

theorem wpList_append_own2 {P : Program} (w : World) {ops : Array Oper} {rest : List Oper} {o : Oper} {a : Act} {Q : Exit → Act → World → Prop} (hgd : o.guard = none) (s x : Operand) (t : TypeId)
    (ho : o.op = .call { callee := .builtin .append, args := #[s, x], argTypes := #[t, t] })
    (base : Nat) (e : TypeId) (i : TypeInfo) (z : Value) (size bytes : Nat) (ht : P.underlying t = some (.slice e)) (hi : P.info? e = some i) (hz : i.zero = some z)
    (hsize : i.size = size) (hby : i.bytes = bytes) (hzs : z.cells.size = size) (hsz : 0 < size)
    (v : Value) (n : Nat) (xs : List Value) (hs : a.eval s = v) (hown : w.ownsRow base e size v n xs)
    (ad : Addr) (m c : Nat) (news : List Value) (hx : a.eval x = .slice (some ad) m c) (hl : news.length = m * size) (hnews : ∀ j u, news[j]? = some u → w.cell? (ad.add j) = some u) (h1 : ∀ u ∈ news, u.oneCell' = true)
    (h63 : n + m ≤ maxLen) (hbytes : (n + m) * bytes ≤ 140737488355328) (hbase : base ≤ w.heap.size)
    (h : ∀ v' w', w'.ownsRow base e size v' (n + m) (xs ++ news) → w.grownBy w' v.ownBlock → Fresh w v v' → wpList P ops Q rest (a.put o.dst v') w') : wpList P ops Q (o :: rest) a w :=
  wpList_plain hgd fun _ hK => wp_append_own2 w s x t ho base e i z size bytes ht hi hz hsize hby hzs hsz v n xs hs hown ad m c news hx hl hnews h1 h63 hbytes hbase fun v' w' h2 h3 h4 => hK _ _ (h v' w' h2 h3 h4)

/-- append onto a row of the call's own, as one step of a region that draws. -/
theorem step_append_own2 {P : Program} {ops : Array Oper} {o : Oper} {a : Act} {w : World} {K : Act → World → Prop} {Q : Exit → Act → World → Prop} {E : Prop}
    (hgd : o.guard = none) (s x : Operand) (t : TypeId) (ho : o.op = .call { callee := .builtin .append, args := #[s, x], argTypes := #[t, t] })
    (base : Nat) (e : TypeId) (i : TypeInfo) (z : Value) (size bytes : Nat) (ht : P.underlying t = some (.slice e)) (hi : P.info? e = some i) (hz : i.zero = some z)
    (hsize : i.size = size) (hby : i.bytes = bytes) (hzs : z.cells.size = size) (hsz : 0 < size)
    (v : Value) (n : Nat) (xs : List Value) (hs : a.eval s = v) (hown : w.ownsRow base e size v n xs)
    (ad : Addr) (m c : Nat) (news : List Value) (hx : a.eval x = .slice (some ad) m c) (hl : news.length = m * size) (hnews : ∀ j u, news[j]? = some u → w.cell? (ad.add j) = some u) (h1 : ∀ u ∈ news, u.oneCell' = true)
    (h63 : n + m ≤ maxLen) (hbytes : (n + m) * bytes ≤ 140737488355328) (hbase : base ≤ w.heap.size)
    (h : ∀ v' w', w'.ownsRow base e size v' (n + m) (xs ++ news) → w.grownBy w' v.ownBlock → Fresh w v v' → K (a.put o.dst v') w') :
    if Region.wanted o (yielded ops a.tmps) = true then Oper.wp P o a w K Q else E := by
  have hw : Region.wanted o (yielded ops a.tmps) = true := by simp [Region.wanted, hgd]
  rw [if_pos hw]
  exact wp_append_own2 w s x t ho base e i z size bytes ht hi hz hsize hby hzs hsz v n xs hs hown ad m c news hx hl hnews h1 h63 hbytes hbase h

/-- The block of the row that a Writer at g holds. -/
def rowAt (w : World) (g : Nat) : Option Nat :=
  match w.heap[g]? with
  | some (.cells cs _ _) => (cs.getD 0 undef).ownBlock
  | _ => none

theorem rowAt_of {w : World} {g : Nat} {v : Value} {t : TypeId} {f : Nat × Nat} (h : w.heap[g]? = some (.cells #[v] t f)) : rowAt w g = v.ownBlock := by
  unfold rowAt; rw [h]; rfl

/-- What a Writer's call leaves as it was: all but its own cell, its own row, and new blocks. -/
structure Fw (g : Nat) (w w' : World) : Prop where
  os : w'.os = w.os
  tape : w'.tape = w.tape
  output : w'.output = w.output
  size : w.heap.size ≤ w'.heap.size
  block : ∀ k, k < w.heap.size → k ≠ g → rowAt w g ≠ some k → w'.heap[k]? = w.heap[k]? ∧ rowAt w' g ≠ some k

theorem Fw.refl (g : Nat) (w : World) : Fw g w w := ⟨rfl, rfl, rfl, Nat.le_refl _, fun _ _ _ h => ⟨rfl, h⟩⟩
theorem Fw.trans {g : Nat} {a b c : World} (h : Fw g a b) (k : Fw g b c) : Fw g a c :=
  ⟨k.os.trans h.os, k.tape.trans h.tape, k.output.trans h.output, Nat.le_trans h.size k.size, fun i hi hg hr => by
    obtain ⟨h1, h2⟩ := h.block i hi hg hr
    obtain ⟨k1, k2⟩ := k.block i (Nat.lt_of_lt_of_le hi h.size) hg h2
    exact ⟨k1.trans h1, k2⟩⟩
theorem Fw.below {g : Nat} {w w' : World} {bs : List Int} (h : Fw g w w') (hw : WrAt w g bs) : Below g w w' := by
  have hlt := hw.lt
  obtain ⟨v, ho, hv⟩ := hw
  refine ⟨h.os, h.tape, h.output, h.size, fun k hk => (h.block k (by omega) (by omega) ?_).1⟩
  rw [rowAt_of hv]
  intro e
  have := (ho.lt k e).1
  omega

/-- What is left when bytes have been put: the row's cell holds the new value. -/
theorem wr_put {w w0 w1 : World} {g : Nat} {v v' : Value} {bs xs ys : List Int} (hown : w.ownsRow (g + 1) 5 1 v bs.length (bs.map (Value.int .u8))) (hv : w.heap[g]? = some (.cells #[v] 202 (0, 0)))
    (h0 : w.grownBy w0 none) (hown' : w1.ownsRow (g + 1) 5 1 v' (bs.length + xs.length) (bs.map (Value.int .u8) ++ xs.map (Value.int .u8))) (hgrow : w0.grownBy w1 v.ownBlock) (hf : Fresh w0 v v') (hxy : xs = ys) :
    WrAt (w1.setCell ⟨g, 0, none⟩ v') g (bs ++ ys) ∧ Fw g w (w1.setCell ⟨g, 0, none⟩ v') := by
  subst hxy
  have hg1 := gtrans (gwide (row := v.ownBlock) h0) hgrow
  have hlt := lt_of_block hv
  have hr : v.ownBlock ≠ some g := by
    intro e
    have := (hown.lt g e).1
    omega
  have hv1 : w1.heap[g]? = some (.cells #[v] 202 (0, 0)) := (hg1.block g hlt (fun e => hr e.symm)).trans hv
  have hv2 := one_setCell (u := v') hv1
  refine ⟨⟨_, by simpa using ownsRow_setCell_below hown' (by simp) _, hv2⟩, hg1.os, hg1.tape, hg1.output, by simpa [World.setCell] using hg1.size, fun k hk hkg hkr => ?_⟩
  rw [rowAt_of hv] at hkr
  rw [rowAt_of hv2]
  refine ⟨(Below.heap_setCell _ _ _ _ (by simpa using hkg)).trans (hg1.block k hk (fun e => hkr e.symm)), fun e => ?_⟩
  rcases hf with hf | ⟨j, hj, hl⟩
  · exact hkr (hf.symm.trans e)
  · rw [hj] at e
    have := h0.size
    injection e with e
    omega

theorem g_alloc_drew (w : World) (o : Obj) : w.grownBy ((w.alloc o).drew) none := ⟨rfl, rfl, rfl, by show w.heap.size ≤ (w.alloc o).heap.size; simp, fun k hk _ => Below.heap_alloc w o k hk⟩

end Go.Proofs.YtildjdhoeilcfaaGreat

namespace Go.Proofs.YtildjdhoeilcfaaGreat
open Go.RowKit

end Go.Proofs.YtildjdhoeilcfaaGreat

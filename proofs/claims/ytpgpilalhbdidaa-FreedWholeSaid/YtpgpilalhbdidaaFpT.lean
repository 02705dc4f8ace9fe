/-
  Layer 8: the laws' own few and records. Own work.
-/
import Derived.Test.YtpgpilalhbdidaaFpS
import Derived.Deep.LoopGhost
import Derived.Deep.QuietTactic
import Derived.BigQuiet
import Derived.Deep.RegionLaw
namespace Go.Proofs.Ytpgpilalhbdidaa
open Go.RowKit Go.Maps

def few8 (rs : List Rc) : Bool := rs.all (fun r => decide (r.2.length ≤ 30)) && decide (rs.length ≤ 10)
theorem few8_iff {rs : List Rc} : few8 rs = true ↔ (∀ r ∈ rs, r.2.length ≤ 30) ∧ rs.length ≤ 10 := by simp [few8]

set_option maxHeartbeats 1000000 in
theorem few8_any (w : World) (R : Nat → Prop) (ao : Option Addr) (n c : Nat) (rs : List Rc) (h : RSq R w (.slice ao n c) rs) :
    Calls Try.prog 10 #[.slice ao n c] w fun r w' => r = .returned (.bool (few8 rs)) ∧ w = w' := by
  obtain ⟨hn, hm⟩ := h.len
  have HN := Lib.hid hn
  have Hs := Lib.hid h
  have hm2 : (n : Int) ≤ 9223372036854775807 := by have h9 : maxLen ≤ 9223372036854775807 := by decide
                                                   omega
  clear hn hm h
  go_enter Try.func10, Try.ntmps10
  go_wp2
  go_loopw [3] (fun i wr => ∃ k : Nat, k ≤ n ∧ i = .int .i64 (k : Int) ∧ (∀ r ∈ rs.take k, r.2.length ≤ 30) ∧ w = wr) (fun i _ => n - (intOf i).toNat)
  case atStart => exact ⟨0, Nat.zero_le _, rfl, by simp, rfl⟩
  case round =>
    obtain ⟨k, hk, rfl, hr, rfl⟩ := hrel
    have Hr := Lib.hid hr
    clear hr
    by_cases hlt : k < n
    · have hki : (k : Int) < (n : Int) := by omega
      have hkl : k < rs.length := by rw [← HN.out]; exact hlt
      obtain ⟨r, hr⟩ : ∃ r, rs[k]? = some r := ⟨rs[k], List.getElem?_eq_getElem hkl⟩
      obtain ⟨b, o, rfl, _, c0, _, a1, q1, c1, hp⟩ := Hs.out.at k r hr
      have HTK := Lib.hid (take_snoc hr)
      have HMM := Lib.hid (show r ∈ rs from List.mem_of_getElem? hr)
      generalize hm : r.2.length = m at c1
      have HM := Lib.hid hm
      clear hr hp hm c0
      by_cases h30 : m ≤ 30
      · have h30i : ¬ (30 : Int) < (m : Int) := by omega
        go_wp2
        go_roundw
        case rel =>
          refine ⟨k + 1, by omega, by go_num, ?_, by first | rfl | trivial⟩
          rw [HTK.out]
          intro r' hr'
          rcases List.mem_append.1 hr' with e | e
          · exact Hr.out r' e
          · obtain rfl : r' = r := by simpa using e
            rw [HM.out]; exact h30
        case measure => simp [intOf]; omega
      · have h30i : (30 : Int) < (m : Int) := by omega
        have HF := Lib.hid (show few8 rs = false by
          cases e : few8 rs with
          | false => rfl
          | true => have := (few8_iff.1 e).1 r HMM.out; rw [HM.out] at this; omega)
        go_wp2
        go_ret
        exact ⟨by rw [HF.out]; rfl, rfl⟩
    · have hki : ¬ (k : Int) < (n : Int) := by omega
      have e : k = n := by omega
      have HF := Lib.hid (show few8 rs = decide ((n : Int) ≤ 10) by
        have h := Hr.out
        rw [e, HN.out, List.take_length] at h
        unfold few8
        rw [List.all_eq_true.2 (fun r hr => by simpa using h r hr), ← HN.out]
        simp only [Bool.true_and]
        rw [decide_eq_decide]
        omega)
      clear e
      go_wp2
      go_ret
      exact ⟨by rw [HF.out]; rfl, rfl⟩

theorem own_apart {base b2 s1 s2 n1 n2 : Nat} {e1 e2 : TypeId} {w w' : World} {lv v : Value} {xs ys : List Value} (h : w.ownsRow base e1 s1 v n1 xs) (hr : w.ownsRow b2 e2 s2 lv n2 ys) (hne : e1 ≠ e2) (k : w.grownBy w' lv.ownBlock) : w'.ownsRow base e1 s1 v n1 xs := by
  refine World.ownsRow.kept h k ?_
  rcases h.2 with ⟨rfl, _⟩ | ⟨g, cap, cur, rfl, _, hh, _⟩
  · exact .inl rfl
  · right
    rcases hr.2 with ⟨rfl, _⟩ | ⟨g2, cap2, cur2, rfl, _, hh2, _⟩
    · simp [Value.ownBlock]
    · intro e
      have : g = g2 := by simpa [Value.ownBlock] using e
      subst this
      rw [hh] at hh2
      injection hh2 with hh2
      injection hh2 with _ h2
      exact hne h2
theorem RcOwns.apart {base b2 s2 n2 : Nat} {e2 : TypeId} {w w' : World} {lv v : Value} {es : List (Value × Rc)} {ys : List Value} (h : RcOwns base w v es) (hr : w.ownsRow b2 e2 s2 lv n2 ys) (h1 : 69 ≠ e2) (h2 : 41 ≠ e2) (k : w.grownBy w' lv.ownBlock) : RcOwns base w' v es :=
  ⟨own_apart h.row hr h1 k, fun y hy => ⟨⟨own_apart (h.each y hy).1.1 hr h2 k, (h.each y hy).1.2⟩, (h.each y hy).2⟩⟩
/-- The laws' own records for the document: they share the raw pages. -/
structure RvOwns (base : Nat) (w : World) (lv : Value) (es : List (Value × Rc)) : Prop where
  row : w.ownsRow base 73 2 lv es.length (es.flatMap rcl)
  each : ∀ y ∈ es, PSq (fun b => b < base) w y.1 y.2.2 ∧ y.2.1 < 18446744073709551616
theorem RvOwns.nil (base : Nat) (w : World) : RvOwns base w (.slice none 0 0) [] := ⟨World.ownsRow_nil _ _ _ _, fun y hy => by cases hy⟩
theorem RvOwns.apart {base s2 n2 : Nat} {e2 : TypeId} {w w' : World} {lv v : Value} {es : List (Value × Rc)} {ys : List Value} (h : RvOwns base w v es) (hr : w.ownsRow base e2 s2 lv n2 ys) (h1 : 73 ≠ e2) (k : w.grownBy w' lv.ownBlock) : RvOwns base w' v es :=
  ⟨own_apart h.row hr h1 k, fun y hy => ⟨(h.each y hy).1.kept fun b hb hs => k.block b hs (fun e => by have := (hr.lt b e.symm).1; omega), (h.each y hy).2⟩⟩
theorem RvOwns.grown {base : Nat} {w w' : World} {v : Value} {es : List (Value × Rc)} (h : RvOwns base w v es) (k : w.grownBy w' none) : RvOwns base w' v es :=
  ⟨World.ownsRow.kept h.row k (by cases v.ownBlock <;> simp), fun y hy => ⟨(h.each y hy).1.grown k, (h.each y hy).2⟩⟩
theorem RvOwns.push {base : Nat} {w w1 : World} {lv v' : Value} {es : List (Value × Rc)} {y : Value × Rc} (h : RvOwns base w lv es) (h1 : PSq (fun b => b < base) w y.1 y.2.2) (h3 : y.2.1 < 18446744073709551616)
    (hrow : w1.ownsRow base 73 2 v' (es.length + 1) (es.flatMap rcl ++ rcl y)) (hg : w.grownBy w1 lv.ownBlock) : RvOwns base w1 v' (es ++ [y]) := by
  have kp : ∀ {v : Value} {ps : List Nat}, PSq (fun b => b < base) w v ps → PSq (fun b => b < base) w1 v ps := fun h2 => h2.kept fun b hb hs => hg.block b hs (fun e => by have := (h.row.lt b e.symm).1; omega)
  refine ⟨by simpa [List.flatMap_append] using hrow, fun z hz => ?_⟩
  rcases List.mem_append.1 hz with hz | hz
  · exact ⟨kp (h.each z hz).1, (h.each z hz).2⟩
  · have : z = y := by simpa using hz
    subst this
    exact ⟨kp h1, h3⟩
theorem RvOwns.rsq {base : Nat} {w : World} {lv : Value} {es : List (Value × Rc)} (h : RvOwns base w lv es) : RSq (fun _ => True) w lv (es.map (·.2)) := by
  have hr := h.row
  rcases h.row.2 with ⟨hv, hn⟩ | ⟨q, cap, cur, hv, hb, hq, hnc, hcm, hcs, ht⟩
  · rw [List.eq_nil_of_length_eq_zero hn]
    rw [hv]; exact rsq_nil _ _
  · refine ⟨some ⟨q, 0, none⟩, cap, by rw [hv]; simp, by simpa using hnc, hcm, fun hne => ⟨q, 0, rfl, trivial, fun i x hx => ?_⟩⟩
    rw [List.getElem?_map] at hx
    obtain ⟨y, hy, rfl⟩ := Option.map_eq_some_iff.1 hx
    obtain ⟨c0, c1⟩ := flat2 es i y hy
    obtain ⟨g1, g3⟩ := h.each y (List.mem_of_getElem? hy)
    have hc := hr.cells (g := q) (by rw [hv]; rfl)
    rw [Nat.zero_add]
    refine ⟨?_, g3, y.1, ?_, g1.imp (fun _ _ _ => trivial)⟩
    · have := hc _ _ c0; rwa [Addr.add_lit, Nat.zero_add] at this
    · have := hc _ _ c1; rwa [Addr.add_lit, Nat.zero_add] at this
theorem infoR8 : (Try.prog.info? 73).map (fun i => (i.zero, i.size, i.bytes)) = some (some (.agg #[.int .u64 0, .slice none 0 0]), 2, 32) := by kernel_rfl
theorem lit2r (w : World) (t : Nat) (v : Value) : ∀ j u, (rcl (v, (t, [])))[j]? = some u → (w.alloc (.cells #[.int .u64 (t : Int), v] 73)).cell? ((⟨w.heap.size, 0, none⟩ : Addr).add j) = some u := by
  intro j u hj
  rw [Addr.add_lit, Nat.zero_add, World.cell?_alloc_mark]
  simpa [rcl] using hj

def Recs8R (w : World) (rs : List Rc) (r : Ending) (w' : World) : Prop := ∃ ov rv es es2, r = .returned (.tuple #[ov, rv]) ∧ RcOwns w.heap.size w' ov es ∧ es.map (·.2) = rs ∧ RvOwns w.heap.size w' rv es2 ∧ es2.map (·.2) = rs ∧ w.grownBy w' none

set_option maxRecDepth 30000 in
set_option maxHeartbeats 4000000 in
theorem records8_any (w : World) (ao : Option Addr) (n c : Nat) (rs : List Rc) (h : RSq (fun b => b < w.heap.size) w (.slice ao n c) rs) (hsm : Small8 rs) :
    Calls Try.prog 11 #[.slice ao n c] w fun r w' => Recs8R w rs r w' := by
  obtain ⟨i0, hi, hz0, hz1, hz2⟩ := info_parts infoPage
  obtain ⟨j0, hj, hw0, hw1, hw2⟩ := info_parts infoRec
  obtain ⟨k0, hk0, hx0, hx1, hx2⟩ := info_parts infoR8
  obtain ⟨hn, hm⟩ := h.len
  have HN := Lib.hid hn
  have Hs := Lib.hid h
  have HSM := Lib.hid hsm
  have hn32 : n * 32 ≤ 140737488351232 := by have := hsm.1; omega
  clear hn hm h hsm
  go_enter Try.func11, Try.ntmps11
  go_wp2
  go_loopg [4, 5, 6] n (fun g ov rv i wr => ∃ (k : Nat) (es es2 : List (Value × Rc)), k + g = n ∧ i = .int .i64 (k : Int) ∧ RcOwns w.heap.size wr ov es ∧ RvOwns w.heap.size wr rv es2 ∧ w.grownBy wr none ∧ Hid (es.map (·.2) = rs.take k ∧ es2.map (·.2) = rs.take k))
  case atStart => exact ⟨0, [], [], by omega, rfl, RcOwns.nil _ _, RvOwns.nil _ _, grefl _ _, Lib.hid (by simp)⟩
  case round =>
    obtain ⟨k, es, es2, hk, rfl, ho, hv, hg, HE⟩ := hrel
    have HO := Lib.hid ho
    have HV := Lib.hid hv
    have HG := Lib.hid hg
    have hel : es.length = k := by
      have := congrArg List.length HE.out.1
      rw [List.length_map, List.length_take, ← HN.out] at this
      omega
    have hel2 : es2.length = k := by
      have := congrArg List.length HE.out.2
      rw [List.length_map, List.length_take, ← HN.out] at this
      omega
    have HEL := Lib.hid hel
    have HEL2 := Lib.hid hel2
    clear ho hv hg hel hel2
    by_cases hlt : k < n
    · have hki : (k : Int) < (n : Int) := by omega
      have hkl : k < rs.length := by rw [← HN.out]; exact hlt
      obtain ⟨r, hr⟩ : ∃ r, rs[k]? = some r := ⟨rs[k], List.getElem?_eq_getElem hkl⟩
      obtain ⟨b, o, rfl, hRb, c0, hT64, a1, q1, c1, hp⟩ := Hs.out.at k r hr
      have d0 := HG.out.cell c0 (by simp)
      have d1 := HG.out.cell c1 (by simp)
      have HTK := Lib.hid (take_snoc hr)
      have hpl := HSM.out.2 r (List.mem_of_getElem? hr)
      obtain ⟨T, ps⟩ := r
      simp only at d0 d1 hp hpl hT64
      have HP := Lib.hid hp
      simp only at c0 c1
      have HC0 := Lib.hid c0
      have HC1 := Lib.hid c1
      clear hp hr c0 c1
      generalize hm : ps.length = m at d1
      rw [hm] at HP hpl HC1
      have HM := Lib.hid hm
      clear hm
      go_wp2
      generalize wr = WR at HO HV HG d0 d1 ⊢
      go_loopg [7, 8] m (fun g2 pv i2 w2 => ∃ (k2 : Nat), k2 + g2 = m ∧ i2 = .int .i64 (k2 : Int) ∧ OwnP WR.heap.size w2 pv (ps.take k2) ∧ WR.grownBy w2 none)
      case atStart => exact ⟨0, by omega, rfl, ⟨World.ownsRow_nil _ _ _ _, by simp⟩, grefl _ _⟩
      case round =>
        obtain ⟨k2, hk2, rfl, hop, hg2⟩ := hrel
        have HOP := Lib.hid hop
        have HG2 := Lib.hid hg2
        have e0 := hg2.cell d0 (by simp)
        have e1 := hg2.cell d1 (by simp)
        clear hop hg2
        by_cases hlt2 : k2 < m
        · have hki2 : (k2 : Int) < (m : Int) := by omega
          have hkl2 : k2 < ps.length := by rw [HM.out]; exact hlt2
          obtain ⟨b3, o3, rfl, _, f0⟩ := HP.out.at k2 hkl2
          have f1 := (gtrans HG.out HG2.out).cell f0 (by simp)
          have h32 := HP.out.u32 (ps.getD k2 0) (by rw [List.getD_eq_getElem?_getD, List.getElem?_eq_getElem hkl2]; exact List.getElem_mem hkl2)
          have HTK2 := Lib.hid (show ps.take (k2 + 1) = ps.take k2 ++ [ps.getD k2 0] by
            rw [List.take_succ_eq_append_getElem hkl2, List.getD_eq_getElem?_getD, List.getElem?_eq_getElem hkl2]; rfl)
          have HTL := Lib.hid (show (ps.take k2).length = k2 by rw [List.length_take]; omega)
          clear f0
          generalize ps.getD k2 0 = q at f1 h32 HTK2
          go_wp2_with (first
            | (at_builtin; refine wpList_append_own _ rfl _ _ 67 rfl WR.heap.size 41 i0 (.int .u32 0) 1 4 Try.underlying67 hi hz0 hz1 hz2 rfl (by decide) _ (ps.take k2).length _ rfl (HOP.out.1.alloc _) ⟨wr.heap.size, 0, none⟩ 1 1 [encP q] rfl rfl (cell_one_new _ _ _) (by simp [Value.oneCell', encP]) (by rw [HTL.out]; unfold maxLen; omega) (by rw [HTL.out]; omega) (by have := HG2.out.size; simp; omega) ?_; intro v' w4 hown' hgrow _; have HO4 := Lib.hid hown'; have HG4 := Lib.hid hgrow; clear hown' hgrow))
          go_roundg (m - (k2 + 1))
          case rel =>
            refine ⟨k2 + 1, by omega, by simp, ?_, grow_own (gtrans HG2.out (World.grownBy_alloc _ _ _)) (World.ownsRow.alloc HOP.out.1 _) HG4.out (Nat.le_refl _)⟩
            rw [HTK2.out]
            refine ⟨by simpa using HO4.out, fun p hp => ?_⟩
            rcases List.mem_append.1 hp with e | e
            · exact HOP.out.2 p e
            · have : p = q := by simpa using e
              rw [this]; exact h32
          case measure => omega
        · have hki2 : ¬ (k2 : Int) < (m : Int) := by omega
          have e2 : k2 = m := by omega
          have HOF := Lib.hid (show OwnP WR.heap.size wr _ ps by have h := HOP.out; rw [e2, ← HM.out, List.take_length] at h; exact h)
          clear e2
          obtain ⟨a3, c3, rfl⟩ := own_shape HOF.out.1
          rw [HM.out] at HOF
          have HOr := Lib.hid (HO.out.grown HG2.out)
          have HVr := Lib.hid (HV.out.grown HG2.out)
          have HGr := Lib.hid (gtrans HG.out HG2.out)
          have HBW := Lib.hid HG.out.size
          rw [HM.out]
          go_wp2_with (first
            | (at_builtin; refine wpList_append_own _ rfl _ _ 26 rfl w.heap.size 69 j0 (.agg #[.int .u64 0, .slice none 0 0]) 2 32 Try.underlying26 hj hw0 hw1 hw2 rfl (by decide) u4 es.length (es.flatMap rcl) rfl (HOr.out.row.alloc _) ⟨wr.heap.size, 0, none⟩ 1 1 (rcl (.slice a3 m c3, (T, []))) rfl rfl (lit2 wr T (.slice a3 m c3)) (one2 a3 m c3 T) (by rw [HEL.out]; unfold maxLen; omega) (by rw [HEL.out]; omega) (by have := HGr.out.size; simp; omega) ?_; intro v' w3 hown' hgrow _; have HO4 := Lib.hid hown'; have HG4 := Lib.hid hgrow; clear hown' hgrow))
          have hp3 : OwnP w.heap.size (wr.alloc (.cells #[.int .u64 (T : Int), .slice a3 m c3] 69)) (.slice a3 m c3) ps := (HOF.out.grown (World.grownBy_alloc wr _ none)).mono HBW.out
          have hOl := HOr.out.grown (World.grownBy_alloc wr (.cells #[.int .u64 (T : Int), .slice a3 m c3] 69) none)
          have hVl := HVr.out.grown (World.grownBy_alloc wr (.cells #[.int .u64 (T : Int), .slice a3 m c3] 69) none)
          have h3 := hOl.push (y := (.slice a3 m c3, (T, ps))) hp3 hT64 HO4.out HG4.out
          have h4 := hVl.apart hOl.row (by decide) HG4.out
          have g3 := grow_own (gtrans HGr.out (World.grownBy_alloc wr (.cells #[.int .u64 (T : Int), .slice a3 m c3] 69) none)) hOl.row HG4.out (Nat.le_refl _)
          have e3 := g3.cell HC0.out (by simp)
          have e4 := g3.cell HC1.out (by simp)
          have HO3 := Lib.hid h3
          have HV3 := Lib.hid h4
          have HG3 := Lib.hid g3
          have hg5 := gtrans g3 (gtrans (World.grownBy_alloc w3 (.cells #[.int .u64 (T : Int), .slice a1 m q1] 73) none) (gdrew _))
          have HO5 := Lib.hid (h3.grown (gtrans (World.grownBy_alloc w3 (.cells #[.int .u64 (T : Int), .slice a1 m q1] 73) none) (gdrew _)))
          have HV5 := Lib.hid (h4.grown (gtrans (World.grownBy_alloc w3 (.cells #[.int .u64 (T : Int), .slice a1 m q1] 73) none) (gdrew _)))
          have HG5 := Lib.hid hg5
          have HPV := Lib.hid (show PSq (fun b => b < w.heap.size) (w3.alloc (.cells #[.int .u64 (T : Int), .slice a1 m q1] 73)).drew (.slice a1 m q1) ps from HP.out.grown hg5)
          clear hp3 hOl hVl h3 h4 g3 hg5 d0 d1 e0 e1
          go_region_law (refine step_append_own2 rfl (.tmp 46) (.tmp 58) 27 rfl w.heap.size 73 k0 (.agg #[.int .u64 0, .slice none 0 0]) 2 32 Try.underlying27 hk0 hx0 hx1 hx2 rfl (by decide) u5 es2.length (es2.flatMap rcl) rfl HV5.out.row ⟨w3.heap.size, 0, none⟩ 1 1 (rcl (.slice a1 m q1, (T, []))) rfl rfl (lit2r w3 T (.slice a1 m q1)) (one2 a1 m q1 T) (by rw [HEL2.out]; unfold maxLen; omega) (by rw [HEL2.out]; omega) (by have := HG5.out.size; omega) ?_; intro v5 w5 hown' hgrow hfr; have HO6 := Lib.hid hown'; have HG6 := Lib.hid hgrow; clear hown' hgrow hfr)
          all_goals
            go_wp2
            have h6 := HV5.out.push (y := (.slice a1 m q1, (T, ps))) HPV.out hT64 HO6.out HG6.out
            have h7 := HO5.out.apart HV5.out.row (by decide) (by decide) HG6.out
            have g7 := grow_own HG5.out HV5.out.row HG6.out (Nat.le_refl _)
            have H6 := Lib.hid h6
            have H7 := Lib.hid h7
            have G7 := Lib.hid g7
            clear h6 h7 g7
            go_roundg (n - (k + 1))
            case rel => exact ⟨k + 1, _, _, by omega, by simp, H7.out, H6.out, G7.out, Lib.hid ⟨by rw [HTK.out, List.map_append, HE.out.1]; rfl, by rw [HTK.out, List.map_append, HE.out.2]; rfl⟩⟩
            case measure => omega
    · have hki : ¬ (k : Int) < (n : Int) := by omega
      have e : k = n := by omega
      have HE2 := Lib.hid (show es.map (·.2) = rs ∧ es2.map (·.2) = rs by
        have h := HE.out
        rw [e, HN.out, List.take_length] at h
        exact h)
      clear e
      go_wp2
      go_ret2
      exact ⟨_, _, es, es2, rfl, HO.out, HE2.out.1, HV.out, HE2.out.2, HG.out⟩

end Go.Proofs.Ytpgpilalhbdidaa

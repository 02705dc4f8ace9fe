/-
  Layer 10: the contracts of freed's smallest calls: how many pairs a page has, how two pairs stand, whether they rise. Own work.
-/
import Derived.Test.YtnnmpaenainogaaGreatPrnAO
import Derived.Deep.RegionHeld3
import Derived.Deep.QuietTactic
import Derived.BigQuiet
import Derived.Deep.LoopGhost
import Derived.Test.YtnnmpaenainogaaGreatPrnAC
import Derived.Test.YtnnmpaenainogaaGreatPrnAA
import Derived.OwnWalk

set_option linter.unusedVariables false
set_option linter.unusedSimpArgs false
namespace Go.Proofs.YtnnmpaenainogaaGreat
open Go.RowKit
set_option maxHeartbeats 400000 in
theorem zroom_in (S : Int) (w : World) (h1 : 512≤S) (h2 : S≤4096) : Calls Tryz.prog 167 #[.int .i64 S] w fun r w' => r = .returned (.int .i64 (roomI S))∧w = w' := by
  go_enter Tryz.func167,Tryz.ntmps167
  go_wp2
  go_ret
  exact ⟨rfl,rfl⟩
theorem room_bd {S : Int} (h1 : 512≤S) (h2 : S≤4096) : 42≤roomI S∧roomI S≤340 := by unfold roomI; omega
def manyF (n S : Int) : Int := if 1≤n∧512≤S∧S≤4096 then (n - 1) / roomI S + 1 else 0
set_option maxHeartbeats 1000000 in
theorem zmany_any (w : World) (n S : Int) (h9 : n≤9223372036854775807) : Calls Tryz.prog 212 #[.int .i64 n,.int .i64 S] w fun r w' => r = .returned (.int .i64 (manyF n S))∧w = w' := by
  by_cases hs : 512≤S∧S≤4096
  · obtain ⟨h1,h2⟩ := hs
    have hr := room_bd h1 h2
    by_cases hn : 1≤n
    · have HM := Lib.hid (show (n - 1) / roomI S + 1 = manyF n S by unfold manyF; rw [if_pos ⟨hn,h1,h2⟩])
      go_enter Tryz.func212,Tryz.ntmps212
      go_wp2_with (first
        | (go_at_call 73; refine (lsize_yes _ _ h1 h2).mono ?_; rintro r w1 ⟨rfl,rfl⟩)
        | (go_at_call 167; refine (zroom_in _ _ h1 h2).mono ?_; rintro r w1 ⟨rfl,rfl⟩)
        | (go_at_call 200; refine (lmany_yes _ n (roomI S) _ hn h9 (by omega) HM.out).mono ?_; rintro r w1 ⟨rfl,rfl⟩))
      go_ret
      exact ⟨rfl,rfl⟩
    · have HM := Lib.hid (show manyF n S = 0 by unfold manyF; rw [if_neg (fun h => hn h.1)])
      go_enter Tryz.func212,Tryz.ntmps212
      go_wp2_with (first
        | (go_at_call 73; refine (lsize_yes _ _ h1 h2).mono ?_; rintro r w1 ⟨rfl,rfl⟩)
        | (go_at_call 167; refine (zroom_in _ _ h1 h2).mono ?_; rintro r w1 ⟨rfl,rfl⟩)
        | (go_at_call 200; refine (lmany_no _ n (roomI S) (by omega)).mono ?_; rintro r w1 ⟨rfl,rfl⟩))
      go_ret
      exact ⟨ret_int HM.out.symm,rfl⟩
  · have HM := Lib.hid (show manyF n S = 0 by unfold manyF; rw [if_neg (fun h => hs h.2)])
    go_enter Tryz.func212,Tryz.ntmps212
    go_wp2_with (go_at_call 73; refine (lsize_no _ _ hs).mono ?_; rintro r w1 ⟨rfl,rfl⟩)
    go_ret
    exact ⟨ret_int HM.out.symm,rfl⟩
set_option maxHeartbeats 400000 in
theorem nan64_any (a : Int) (w : World) : Calls Tryz.prog 261 #[.int .u64 a] w fun r w' => r = .returned (.bool false)∧w = w' := by
  go_enter Tryz.func261,Tryz.ntmps261
  go_wp2
  go_ret
  exact ⟨by simp,rfl⟩
set_option maxHeartbeats 400000 in
theorem nanPg_any (a : Int) (w : World) : Calls Tryz.prog 262 #[.int .u32 a] w fun r w' => r = .returned (.bool false)∧w = w' := by
  go_enter Tryz.func262,Tryz.ntmps262
  go_wp2
  go_ret
  exact ⟨by simp,rfl⟩
set_option maxHeartbeats 400000 in
theorem cmp64_any (a b : Int) (w : World) : Calls Tryz.prog 241 #[.int .u64 a,.int .u64 b] w fun r w' => r = .returned (.int .i64 (cmpI a b))∧w = w' := by
  unfold cmpI
  by_cases h1 : a < b
  · rw [if_pos h1]
    go_enter Tryz.func241,Tryz.ntmps241
    go_wp2_with (go_at_call 261; refine (nan64_any _ _).mono ?_; rintro r w1 ⟨rfl,rfl⟩)
    go_ret
    exact ⟨rfl,rfl⟩
  · rw [if_neg h1]
    by_cases h2 : b < a
    · rw [if_pos h2]
      go_enter Tryz.func241,Tryz.ntmps241
      go_wp2_with (go_at_call 261; refine (nan64_any _ _).mono ?_; rintro r w1 ⟨rfl,rfl⟩)
      go_ret
      exact ⟨rfl,rfl⟩
    · rw [if_neg h2]
      go_enter Tryz.func241,Tryz.ntmps241
      go_wp2_with (go_at_call 261; refine (nan64_any _ _).mono ?_; rintro r w1 ⟨rfl,rfl⟩)
      go_ret
      exact ⟨rfl,rfl⟩
set_option maxHeartbeats 400000 in
theorem cmpPg_any (a b : Int) (w : World) : Calls Tryz.prog 242 #[.int .u32 a,.int .u32 b] w fun r w' => r = .returned (.int .i64 (cmpI a b))∧w = w' := by
  unfold cmpI
  by_cases h1 : a < b
  · rw [if_pos h1]
    go_enter Tryz.func242,Tryz.ntmps242
    go_wp2_with (go_at_call 262; refine (nanPg_any _ _).mono ?_; rintro r w1 ⟨rfl,rfl⟩)
    go_ret
    exact ⟨rfl,rfl⟩
  · rw [if_neg h1]
    by_cases h2 : b < a
    · rw [if_pos h2]
      go_enter Tryz.func242,Tryz.ntmps242
      go_wp2_with (go_at_call 262; refine (nanPg_any _ _).mono ?_; rintro r w1 ⟨rfl,rfl⟩)
      go_ret
      exact ⟨rfl,rfl⟩
    · rw [if_neg h2]
      go_enter Tryz.func242,Tryz.ntmps242
      go_wp2_with (go_at_call 262; refine (nanPg_any _ _).mono ?_; rintro r w1 ⟨rfl,rfl⟩)
      go_ret
      exact ⟨rfl,rfl⟩
def orI (x y : Int) : Int := if x = 0 then y else x
set_option maxHeartbeats 1000000 in
theorem or_two (w : World) (q : Nat) (x y : Int) (c0 : w.cell? ⟨q,0,none⟩ = some (.int .i64 x)) (c1 : w.cell? ⟨q,1,none⟩ = some (.int .i64 y)) :
    Calls Tryz.prog 240 #[.slice (some ⟨q,0,none⟩) 2 2] w fun r w' => r = .returned (.int .i64 (orI x y))∧w = w' := by
  unfold orI
  by_cases hx : x = 0
  · rw [if_pos hx]
    have hb : (x != 0) = false := by simpa using hx
    by_cases hy : y = 0
    · have hb2 : (y != 0) = false := by simpa using hy
      have HY := Lib.hid hy
      clear hx hy
      go_enter Tryz.func240,Tryz.ntmps240
      go_wp2
      refine wp_loop_rounds 3 ?_
      repeat any_goals (rw [rounds_succ]; go_wp2)
      go_ret
      exact ⟨ret_int HY.out.symm,rfl⟩
    · have hb2 : (y != 0) = true := by simpa using hy
      clear hx hy
      go_enter Tryz.func240,Tryz.ntmps240
      go_wp2
      refine wp_loop_rounds 3 ?_
      repeat any_goals (rw [rounds_succ]; go_wp2)
      go_ret
      exact ⟨rfl,rfl⟩
  · rw [if_neg hx]
    have hb : (x != 0) = true := by simpa using hx
    clear hx
    go_enter Tryz.func240,Tryz.ntmps240
    go_wp2
    refine wp_loop_rounds 3 ?_
    repeat any_goals (rw [rounds_succ]; go_wp2)
    go_ret
    exact ⟨rfl,rfl⟩
theorem orI_cmp (a b : Pr) : orI (cmpI (a.1 : Int) (b.1 : Int)) (cmpI (a.2 : Int) (b.2 : Int)) = cmpP a b := by
  unfold orI cmpP cmpI
  by_cases h1 : a.1 < b.1
  · have : (a.1 : Int) < (b.1 : Int) := by omega
    simp [this,h1]
  · by_cases h2 : b.1 < a.1
    · have k1 : ¬ (a.1 : Int) < (b.1 : Int) := by omega
      have k2 : (b.1 : Int) < (a.1 : Int) := by omega
      simp [k1,k2,h1,h2]
    · have k1 : ¬ (a.1 : Int) < (b.1 : Int) := by omega
      have k2 : ¬ (b.1 : Int) < (a.1 : Int) := by omega
      simp only [if_neg k1,if_neg k2,if_neg h1,if_neg h2,if_pos]
      by_cases h3 : a.2 < b.2
      · have : (a.2 : Int) < (b.2 : Int) := by omega
        simp [this,h3]
      · by_cases h4 : b.2 < a.2
        · have k3 : ¬ (a.2 : Int) < (b.2 : Int) := by omega
          have k4 : (b.2 : Int) < (a.2 : Int) := by omega
          simp [k3,k4,h3,h4]
        · have k3 : ¬ (a.2 : Int) < (b.2 : Int) := by omega
          have k4 : ¬ (b.2 : Int) < (a.2 : Int) := by omega
          simp [k3,k4,h3,h4]
theorem cells_new2 (W : World) (a b : Value) (t : TypeId) : ((W.alloc (.cells #[a,b] t)).drew).cell? ⟨W.heap.size,0,none⟩ = some a∧((W.alloc (.cells #[a,b] t)).drew).cell? ⟨W.heap.size,1,none⟩ = some b := by
  obtain ⟨h1,h2,_,_⟩ := cells2 (heap_alloc_new W (.cells #[a,b] t (0,0)))
  exact ⟨h1,h2⟩
set_option maxHeartbeats 1000000 in
theorem compareP_any (w : World) (a b : Pr) : Calls Tryz.prog 210 #[.agg #[.int .u64 (a.1 : Int),.int .u32 (a.2 : Int)],.agg #[.int .u64 (b.1 : Int),.int .u32 (b.2 : Int)]] w fun r w' => r = .returned (.int .i64 (cmpP a b))∧w.grownBy w' none := by
  have HC := Lib.hid (orI_cmp a b)
  obtain ⟨a1,a2⟩ := a
  obtain ⟨b1,b2⟩ := b
  simp only at HC ⊢
  have k0 := two_lit0 w (.cells #[.int .u64 (a1 : Int),.int .u32 (a2 : Int)] 304) (.cells #[.int .u64 (b1 : Int),.int .u32 (b2 : Int)] 304)
  have k1 := two_lit1 w (.cells #[.int .u64 (a1 : Int),.int .u32 (a2 : Int)] 304) (.cells #[.int .u64 (b1 : Int),.int .u32 (b2 : Int)] 304)
  have HG := Lib.hid (two_grown w (.cells #[.int .u64 (a1 : Int),.int .u32 (a2 : Int)] 304) (.cells #[.int .u64 (b1 : Int),.int .u32 (b2 : Int)] 304))
  go_enter Tryz.func210,Tryz.ntmps210
  go_wp2_with fail
  obtain ⟨c0,c1,_,_⟩ := cells2 k0
  obtain ⟨d0,d1,_,_⟩ := cells2 k1
  clear k0 k1
  generalize (w.alloc (.cells #[.int .u64 (a1 : Int),.int .u32 (a2 : Int)] 304)).alloc (.cells #[.int .u64 (b1 : Int),.int .u32 (b2 : Int)] 304) = W at *
  go_region_held3 (fun W => W.cell? ⟨w.heap.size,0,none⟩ = some (.int .u64 (a1 : Int))∧W.cell? ⟨w.heap.size,1,none⟩ = some (.int .u32 (a2 : Int))∧W.cell? ⟨w.heap.size + 1,0,none⟩ = some (.int .u64 (b1 : Int))∧W.cell? ⟨w.heap.size + 1,1,none⟩ = some (.int .u32 (b2 : Int))) (go_keep)
    (first
      | (go_at_call 241; (with_reducible refine (cmp64_any _ _ _).mono ?_); rintro r w1 ⟨rfl,rfl⟩)
      | (go_at_call 242; (with_reducible refine (cmpPg_any _ _ _).mono ?_); rintro r w1 ⟨rfl,rfl⟩)
      | (go_at_call 240; (refine (or_two _ _ _ _ (cells_new2 _ _ _ _).1 (cells_new2 _ _ _ _).2).mono ?_); rintro r w1 ⟨rfl,rfl⟩))
  all_goals
    go_wp2
    go_ret
    exact ⟨ret_int HC.out,gtrans HG.out (gtrans (World.grownBy_alloc _ _ none) (gdrew _))⟩
end Go.Proofs.YtnnmpaenainogaaGreat

namespace Go.Proofs.YtnnmpaenainogaaGreat
open Go.RowKit
open Classical in
noncomputable def riseB (ps : List Pr) : Bool := decide (Rise ps)
theorem riseB_iff {ps : List Pr} : riseB ps = true↔Rise ps := by unfold riseB; simp
theorem riseB_no {ps : List Pr} : riseB ps = false↔¬ Rise ps := by unfold riseB; simp
set_option maxHeartbeats 2000000 in
theorem rise_any (w : World) (R : Nat→Prop) (ao : Option Addr) (n c0 : Nat) (ps : List Pr) (h : PrSq R w (.slice ao n c0) ps) :
    Calls Tryz.prog 169 #[.slice ao n c0] w fun r w' => r = .returned (.bool (riseB ps))∧w.grownBy w' none := by
  obtain ⟨hn,hm,hm'⟩ := h.len
  have HN := Lib.hid hn
  have Hs := Lib.hid h
  have hm2 : (n : Int) ≤ 9223372036854775807 := by have h9 : maxLen ≤ 9223372036854775807 := by decide
                                                   omega
  clear hn hm hm' h
  go_enter Tryz.func169,Tryz.ntmps169
  go_wp2
  go_loopw [6] (fun i wr => ∃ k : Nat,k≤n∧i = .int .i64 (k : Int)∧RiseTo ps k∧w.grownBy wr none) (fun i _ => n - (intOf i).toNat)
  case atStart => exact ⟨0,Nat.zero_le _,rfl,riseTo_one _ _ (by omega),grefl _ _⟩
  case round =>
    obtain ⟨k,hk,rfl,hr,hg⟩ := hrel
    have Hr := Lib.hid hr
    have HG := Lib.hid hg
    clear hr hg
    by_cases hlt : k < n
    · have hki : (k : Int) < (n : Int) := by omega
      have hkl : k < ps.length := by rw [← HN.out]; exact hlt
      by_cases hk0 : k = 0
      · subst hk0
        go_wp2_with fail
        go_quiet (fail)
        have HG2 := Lib.hid (gtrans HG.out (gdrewN wr nq))
        generalize wr.drewN nq = W at HG2 ⊢
        go_wp2
        go_roundw
        case rel => exact ⟨0 + 1,by omega,by go_num,riseTo_one _ _ (by omega),HG2.out⟩
        case measure => simp [intOf] <;> omega
      · obtain ⟨q,hq⟩ : ∃ q,q + 1 = k := ⟨k - 1,by omega⟩
        obtain ⟨p1,hp1⟩ : ∃ p,ps[q]? = some p := ⟨ps[q]'(by omega),List.getElem?_eq_getElem (by omega)⟩
        obtain ⟨p2,hp2⟩ : ∃ p,ps[k]? = some p := ⟨ps[k]'hkl,List.getElem?_eq_getElem hkl⟩
        obtain ⟨b,o,rfl,_,c0',c1'⟩ := (Hs.out.grown HG.out).at q p1 hp1
        obtain ⟨b',o',hbo,_,d0,d1⟩ := (Hs.out.grown HG.out).at k p2 hp2
        cases hbo
        have hqi : (q : Int) < (n : Int) := by omega
        have hq0 : (0 : Int)≤(q : Int) := by omega
        have hk1 : (0 : Int) < (k : Int) := by omega
        have hk2 : (0 : Int)≤(k : Int) := by omega
        have hk3 : 0 < k := by omega
        have HL := Lib.hid (show ps.getD (k - 1) (0,0) = p1∧ps.getD k (0,0) = p2 by simp [List.getD_eq_getElem?_getD,← hq,hp1]; simp [hq,hp2])
        obtain ⟨c,hc⟩ : ∃ c,c = cmpP p1 p2 := ⟨_,rfl⟩
        have HC := Lib.hid hc
        have K := Lib.hid (fun W : World => compareP_any W p1 p2)
        obtain ⟨a1,a2⟩ := p1
        obtain ⟨e1,e2⟩ := p2
        simp only at c0' c1' d0 d1 K
        have HB := Lib.hid (show c < 0↔lexP (a1,a2) (e1,e2) by rw [hc]; exact cmpP_neg _ _)
        have hw1 : IntKind.i64.wrap ((k : Int) - 1) = (q : Int) := by rw [show (k : Int) - 1 = (q : Int) by omega]; exact IntWalk.i64_in _ (by omega)
        have HQ := Lib.hid hq
        clear hp1 hp2 hc hk0 hq
        by_cases hx : c < 0
        · have hd : decide (0≤c) = false := by simp; omega
          have HX := Lib.hid (HB.out.1 hx)
          clear hx
          go_wp2_with fail
          go_region_held3 (fun W => W.cell? ⟨b,o + q * 2,none⟩ = some (.int .u64 (a1 : Int))∧W.cell? ⟨b,o + q * 2 + 1,none⟩ = some (.int .u32 (a2 : Int))∧W.cell? ⟨b,o + k * 2,none⟩ = some (.int .u64 (e1 : Int))∧W.cell? ⟨b,o + k * 2 + 1,none⟩ = some (.int .u32 (e2 : Int))) (go_keep)
            ((go_at_call 210; (with_reducible refine (K.out _).mono ?_); rw [← HC.out]; rintro r w1 ⟨rfl,hg1⟩; have HG1 := Lib.hid hg1; have m0 := hg1.cell c0' (by simp); have m1 := hg1.cell c1' (by simp); have m2 := hg1.cell d0 (by simp); have m3 := hg1.cell d1 (by simp); clear hg1))
          all_goals
            go_wp2
            go_roundw
            case rel => exact ⟨k + 1,by omega,by go_num,riseTo_succ Hr.out (fun _ => by rw [HL.out.1,HL.out.2]; exact HX.out),gtrans HG.out (gtrans (gdrew _) HG1.out)⟩
            case measure => simp [intOf] <;> omega
        · have hd : decide (0≤c) = true := by simp; omega
          have HF := Lib.hid (show riseB ps = false from riseB_no.2 (fun hr => hx (HB.out.2 (by have := hr (k - 1) (by omega); rw [show k - 1 + 1 = k by omega,HL.out.1,HL.out.2] at this; exact this))))
          clear hx
          go_wp2_with fail
          go_region_held3 (fun W => W.cell? ⟨b,o + q * 2,none⟩ = some (.int .u64 (a1 : Int))∧W.cell? ⟨b,o + q * 2 + 1,none⟩ = some (.int .u32 (a2 : Int))∧W.cell? ⟨b,o + k * 2,none⟩ = some (.int .u64 (e1 : Int))∧W.cell? ⟨b,o + k * 2 + 1,none⟩ = some (.int .u32 (e2 : Int))) (go_keep)
            ((go_at_call 210; (with_reducible refine (K.out _).mono ?_); rw [← HC.out]; rintro r w1 ⟨rfl,hg1⟩; have HG1 := Lib.hid hg1; have m0 := hg1.cell c0' (by simp); have m1 := hg1.cell c1' (by simp); have m2 := hg1.cell d0 (by simp); have m3 := hg1.cell d1 (by simp); clear hg1))
          all_goals
            go_wp2
            go_ret
            exact ⟨by rw [HF.out]; rfl,gtrans HG.out (gtrans (gdrew _) HG1.out)⟩
    · have hki : ¬ (k : Int) < (n : Int) := by omega
      have HF := Lib.hid (show riseB ps = true from riseB_iff.2 (by have h := Hr.out; rw [show k = ps.length by rw [← HN.out]; omega] at h; exact h))
      go_wp2
      go_ret
      exact ⟨by rw [HF.out]; rfl,HG.out⟩
set_option maxHeartbeats 400000 in
theorem zclone_any (w : World) (R : Nat→Prop) (ao : Option Addr) (n c : Nat) (ps : List Pr) (hs : PrSq R w (.slice ao n c) ps) (hl : ps.length * 16≤140737488355328) :
    Calls Tryz.prog 245 #[.slice ao n c] w fun r w' => ∃ ao c,r = .returned (.slice ao n c)∧POwn 304 w.heap.size w' (.slice ao n c) ps∧w.grownBy w' none := by
  obtain ⟨i0,hi,hz0,hz1,hz2⟩ := info_parts infoPair
  obtain ⟨hn,hnc,hc9⟩ := hs.len
  have HO := Lib.hid hs.ok
  have HS := Lib.hid hs
  obtain ⟨ao',c',hv,_,_,_,h3,h4⟩ := hs
  cases hv
  cases ao with
  | none =>
    have hc0 := h3 rfl
    have hn0 : ps = [] := List.eq_nil_of_length_eq_zero (by omega)
    subst hn0
    subst hc0
    clear h3 h4
    have heq : ∀ w : World,(binOp .eql 134 (.slice none 0 0) (.slice none 0 0)).run Tryz.prog w = .ok (.bool true) w := fun w => Lib.run_eql_slice_nil w _ _ _ _ _ _ _ Tryz.underlying134
    go_enter Tryz.func245,Tryz.ntmps245
    go_wp2
    go_ret
    exact ⟨_,_,rfl,POwn.nil _ _ _,grefl _ _⟩
  | some a =>
    have hcell : ∀ j u,(ps.flatMap prc)[j]? = some u→w.cell? (a.add j) = some u := by
      intro j u hu
      have hne : ps≠[] := by rintro rfl; simp at hu
      obtain ⟨b,o,ha,_⟩ := h4 hne
      cases ha
      exact HS.out.news j u hu
    clear h3 h4
    obtain ⟨m,hm⟩ : ∃ m,m = ps.length := ⟨_,rfl⟩
    rw [← hm] at hl hnc ⊢
    have HM := Lib.hid hm
    have HC := Lib.hid hcell
    have hcm : c≤maxLen := hc9
    clear hm hcell hn hc9
    have heq : ∀ w : World,(binOp .eql 134 (.slice (some a) m c) (.slice none 0 0)).run Tryz.prog w = .ok (.bool false) w := fun w => Lib.run_eql_slice_nil w _ _ _ _ _ _ _ Tryz.underlying134
    go_enter Tryz.func245,Tryz.ntmps245
    go_wp2_with (at_builtin; refine wpList_append_own _ rfl _ _ 134 rfl w.heap.size 304 i0 (.agg #[.int .u64 0,.int .u32 0]) 2 16 Tryz.underlying134 hi hz0 hz1 hz2 rfl (by decide) _ _ _ rfl (World.ownsRow_lit w #[] 0 (Nat.le_refl _) (by simp [maxLen]) rfl) a m c (ps.flatMap prc) rfl ?c0 ?c1 (prc_one ps) ?c3 ?c4 ?c5 ?_)
    case c0 => rw [prc_len,HM.out]
    case c1 =>
      intro j u hu
      exact cell_alloc (HC.out j u hu)
    case c3 => unfold maxLen; omega
    case c4 => omega
    case c5 => simp
    · intro v' w1 hown hgrow _
      obtain ⟨ao,c',rfl⟩ := own_shape hown
      have HW := Lib.hid hown
      have HGW := Lib.hid hgrow
      clear hown hgrow
      go_wp2
      go_ret
      refine ⟨_,_,rfl,⟨?_,HO.out⟩,gof (((Below.refl w.heap.size w).alloc (Nat.le_refl _) _).grown HGW.out (by simp) (fun k h => by simp [Value.ownBlock] at h; omega)) _⟩
      have h := HW.out
      rw [← HM.out]
      simpa using h
end Go.Proofs.YtnnmpaenainogaaGreat

namespace Go.Proofs.YtnnmpaenainogaaGreat
open Go.RowKit
theorem fw_keeps {g q : Nat} {w w' : World} {o : Obj} (h : Fw g w w') (hq : w.heap[q]? = some o) (hg : q≠g) (hr : rowAt w g≠some q) : w'.heap[q]? = some o∧rowAt w' g≠some q :=
  ⟨(h.block q (lt_of_block hq) hg hr).1.trans hq,(h.block q (lt_of_block hq) hg hr).2⟩
theorem HW.row {w0 w : World} {g : Nat} {hd : List Int} (h : HW w0 g hd w) (o : Obj) : rowAt (w.alloc o) g≠some w.heap.size := by
  obtain ⟨v,hown,hv⟩ := h.wr
  have h2 : (w.alloc o).heap[g]? = some (.cells #[v] 229 (0,0)) := (Below.heap_alloc w o g (lt_of_block hv)).trans hv
  rw [rowAt_of h2]
  intro e
  have := (hown.lt _ e).2
  omega
theorem HW.grown' {w0 w w' : World} {g : Nat} {hd : List Int} (h : HW w0 g hd w) (k : w.grownBy w' none) : HW w0 g hd w' := ⟨h.wr.kept k,h.bel.trans ((gbelow k).mono h.bel.size),h.g0⟩
theorem HW.numq {w0 w : World} {g : Nat} {hd : List Int} (h : HW w0 g hd w) (X : Int) (n : Nat) (m : Int) (hm : m = (n : Int)) (h0 : 0≤X) (h1 : X≤18446744073709551615) (hn1 : 1≤n) (hn8 : n≤8) (hl : hd.length≤1000000) (q : Nat) (o : Obj) (hq : w.heap[q]? = some o) (hqg : q≠g) (hr : rowAt w g≠some q) :
    Calls Tryz.prog 77 #[.pointer (some ⟨g,0,none⟩),.int .u64 X,.int .i64 m] w fun r w' => r = .returned (.tuple #[])∧HW w0 g (hd++numB X n n) w'∧w'.heap[q]? = some o∧rowAt w' g≠some q := by
  subst hm
  refine (wnum_in w g n X hd h.wr h0 h1 hn1 hn8 (by omega)).mono fun r w' ⟨e,hw,hf⟩ => ?_
  obtain ⟨k1,k2⟩ := fw_keeps hf hq hqg hr
  exact ⟨e,⟨hw,h.bel.trans ((hf.below h.wr).mono h.g0),h.g0⟩,k1,k2⟩
theorem HW.raw {w0 w : World} {g B : Nat} {hd xs : List Int} {v : Value} (h : HW w0 g hd w) (hs : Seq B w v xs) (hl : hd.length + xs.length≤1000000) :
    Calls Tryz.prog 76 #[.pointer (some ⟨g,0,none⟩),v] w fun r w' => r = .returned (.tuple #[])∧HW w0 g (hd++xs) w' :=
  (wraw_any w g B hd xs v h.wr hs (by omega)).mono fun r w' ⟨e,hw,hf⟩ => ⟨e,hw,h.bel.trans ((hf.below h.wr).mono h.g0),h.g0⟩
def PutNo (w w' : World) (r : Ending) : Prop := r = .returned (.tuple #[.slice none 0 0,.int .i64 1])∧w.grownBy w' none
def PutYes (w : World) (b : List Int) (w' : World) (r : Ending) : Prop := ∃ v,r = .returned (.tuple #[v,.int .i64 0])∧OwnB w.heap.size w' v b∧w.grownBy w' none
set_option maxHeartbeats 1000000 in
theorem zput_no (w : World) (R : Nat→Prop) (ao : Option Addr) (n c : Nat) (ps : List Pr) (x S : Int) (hs : PrSq R w (.slice ao n c) ps) (hr : ¬ RightF ps S) :
    Calls Tryz.prog 216 #[.slice ao n c,.int .u32 x,.int .i64 S] w fun r w' => PutNo w w' r := by
  have hn := hs.len.1
  by_cases h1 : 512≤S∧S≤4096
  · have hb := room_bd h1.1 h1.2
    obtain ⟨M,hM⟩ : ∃ M,M = roomI S := ⟨_,rfl⟩
    by_cases h2 : (n : Int)≤M
    · have h3 : ¬ M < (n : Int) := by omega
      have HF := Lib.hid (riseB_no.2 (fun h => hr ⟨h1.1,h1.2,by rw [← hn,← hM]; exact h2,h⟩))
      rw [← hM] at hb
      have HM := Lib.hid hM
      have HS := Lib.hid hs
      obtain ⟨h1,h2'⟩ := h1
      clear hr hs hn hM
      go_enter Tryz.func216,Tryz.ntmps216
      go_wp2_with (first
        | (go_at_call 73; refine (lsize_yes _ _ h1 h2').mono ?_; rintro r w1 ⟨rfl,rfl⟩)
        | (go_at_call 167; refine (zroom_in _ _ h1 h2').mono ?_; rintro r w1 ⟨rfl,rfl⟩; rw [← HM.out])
        | (go_at_call 169; refine (rise_any _ R ao n c ps HS.out).mono ?_; rw [HF.out]; rintro r w1 ⟨rfl,hg⟩; have HG := Lib.hid hg; clear hg))
      go_ret2
      exact ⟨rfl,HG.out⟩
    · have h3 : M < (n : Int) := by omega
      rw [← hM] at hb
      have HM := Lib.hid hM
      obtain ⟨h1,h2'⟩ := h1
      clear hr hs hn hM
      go_enter Tryz.func216,Tryz.ntmps216
      go_wp2_with (first
        | (go_at_call 73; refine (lsize_yes _ _ h1 h2').mono ?_; rintro r w1 ⟨rfl,rfl⟩)
        | (go_at_call 167; refine (zroom_in _ _ h1 h2').mono ?_; rintro r w1 ⟨rfl,rfl⟩; rw [← HM.out]))
      go_ret2
      exact ⟨rfl,grefl _ _⟩
  · clear hr hs
    go_enter Tryz.func216,Tryz.ntmps216
    go_wp2_with (go_at_call 73; refine (lsize_no _ _ h1).mono ?_; rintro r w1 ⟨rfl,rfl⟩)
    go_ret2
    exact ⟨rfl,grefl _ _⟩
set_option maxRecDepth 30000 in
set_option maxHeartbeats 4000000 in
theorem zput_ok (w : World) (R : Nat→Prop) (ao : Option Addr) (n c : Nat) (ps : List Pr) (x : Int) (S : Nat) (Si : Int) (hSi : Si = (S : Int)) (hs : PrSq R w (.slice ao n c) ps) (hx0 : 0≤x) (hx1 : x≤4294967295) (hr : RightF ps (S : Int)) :
    Calls Tryz.prog 216 #[.slice ao n c,.int .u32 x,.int .i64 Si] w fun r w' => PutYes w (frB ps x S) w' r := by
  obtain ⟨i0,hi,hz0,hz1,hz2⟩ := info_parts infoU8
  subst hSi
  have hn := hs.len.1
  have HF := Lib.hid (riseB_iff.2 hr.2.2.2)
  have hfit := room_fits hr.2.2.1
  obtain ⟨h1,h2,h3,_⟩ := hr
  have hb := room_bd h1 h2
  obtain ⟨M,hM⟩ : ∃ M,M = roomI (S : Int) := ⟨_,rfl⟩
  rw [← hM] at hb h3
  rw [← hn] at h3 hfit
  have HM := Lib.hid hM
  have HS := Lib.hid hs.low
  have HS0 := Lib.hid hs
  have HN := Lib.hid hn
  have h3' : ¬ M < (n : Int) := by omega
  have hn9 : n≤340 := by omega
  have hS9 : S≤4096 := by omega
  have hnf : 8 + 12 * n≤S := by omega
  have hw1 : IntKind.i64.wrap ((n : Int) * 12) = (n : Int) * 12 := IntWalk.i64_in _ (by omega)
  obtain ⟨m,hm⟩ : ∃ m,m = S - 8 - 12 * n := ⟨_,rfl⟩
  have hmi : (S : Int) - 8 - (n : Int) * 12 = (m : Int) := by omega
  have hm9 : m≤4096 := by omega
  have HMM := Lib.hid hm
  have HMI := Lib.hid hmi
  clear hs hn hM hm h3 hmi
  go_enter Tryz.func216,Tryz.ntmps216
  go_wp2_with (first
    | (go_at_call 73; refine (lsize_yes _ _ h1 h2).mono ?_; rintro r w1 ⟨rfl,rfl⟩)
    | (go_at_call 167; refine (zroom_in _ _ h1 h2).mono ?_; rintro r w1 ⟨rfl,rfl⟩; rw [← HM.out])
    | (go_at_call 169; refine (rise_any _ R ao n c ps HS0.out).mono ?_; rw [HF.out]; rintro r w1 ⟨rfl,hg⟩; have HG := Lib.hid hg; clear hg)
    | (go_at_call 223; have K := wlinked_any w1 4 n (n : Int) rfl x (by decide) (by decide) (by omega) hx0 hx1; ((with_reducible refine K.mono ?_); clear K; rintro r w2 ⟨g,rfl,hh⟩); have HP := Lib.hid (show HW w g (hdK 4 n x) w2 from ⟨hh.wr,(gbelow HG.out).trans (hh.bel.mono HG.out.size),Nat.le_trans HG.out.size hh.g0⟩); clear hh))
  go_loopw [32] (fun i wr => ∃ k : Nat,k≤n∧i = .int .i64 (k : Int)∧HW w g (hdK 4 n x++prsB (ps.take k)) wr) (fun i _ => n - (intOf i).toNat)
  case atStart => exact ⟨0,Nat.zero_le _,rfl,by simpa [prsB] using HP.out⟩
  case round =>
    obtain ⟨k,hk,rfl,hh⟩ := hrel
    have HH := Lib.hid hh
    clear hh
    by_cases hlt : k < n
    · have hki : (k : Int) < (n : Int) := by omega
      have hkl : k < ps.length := by rw [← HN.out]; exact hlt
      obtain ⟨p,hp⟩ : ∃ p,ps[k]? = some p := ⟨ps[k],List.getElem?_eq_getElem hkl⟩
      have hok := HS.out.ok p (List.mem_of_getElem? hp)
      obtain ⟨b,o,rfl,_,c0,c1⟩ := (HS.out.kept (fun b hb _ => HH.out.bel.block b hb)).at k p hp
      have HT := Lib.hid (show hdK 4 n x++prsB (ps.take (k + 1)) = ((hdK 4 n x++prsB (ps.take k))++numB (p.1 : Int) 8 8)++numB (p.2 : Int) 4 4 by
        rw [take_snoc hp,prsB_snoc,List.append_assoc,List.append_assoc]; simp [prB])
      have hlen : (hdK 4 n x++prsB (ps.take k)).length≤5000 := by rw [List.length_append,hdK_len,prsB_len,List.length_take]; omega
      generalize hdK 4 n x++prsB (ps.take k) = L at HH HT hlen
      obtain ⟨a1,a2⟩ := p
      simp only at c0 c1 HT hok
      have ho1 : (a1 : Int)≤18446744073709551615 := by have := hok.1; simp only at this; omega
      have ho2 : (a2 : Int)≤4294967295 := by have := hok.2; simp only at this; omega
      have hw64 : IntKind.u64.wrap (a2 : Int) = (a2 : Int) := IntWalk.u64_in _ (by omega)
      have HA := Lib.hid (HH.out.grown' (World.grownBy_alloc wr (.cells #[.int .u64 (a1 : Int),.int .u32 (a2 : Int)] 304) none))
      have HQ := Lib.hid (heap_alloc_new wr (.cells #[.int .u64 (a1 : Int),.int .u32 (a2 : Int)] 304))
      have HRW := Lib.hid (HH.out.row (.cells #[.int .u64 (a1 : Int),.int .u32 (a2 : Int)] 304))
      have hgs : wr.heap.size≠g := by have := HH.out.wr.lt; omega
      clear hok hp
      go_wp2_with (first
        | (go_at_call 77; have K := HA.out.numq (a1 : Int) 8 8 rfl (by omega) ho1 (by omega) (by omega) (by omega) wr.heap.size _ HQ.out hgs HRW.out; ((with_reducible refine K.mono ?_); clear K; rintro r w3 ⟨rfl,hh,hq,hr⟩); have HP1 := Lib.hid hh; have HQ1 := Lib.hid hq; have HR1 := Lib.hid hr; have d1 := (cells2 hq).2.1; clear hh hq hr)
        | (go_at_call 77; have K := HP1.out.numq (a2 : Int) 4 4 rfl (by omega) (by omega) (by omega) (by omega) (by rw [List.length_append,numB_len]; omega) wr.heap.size _ HQ1.out hgs HR1.out; ((with_reducible refine K.mono ?_); clear K; rintro r w4 ⟨rfl,hh,hq,hr⟩); have HP2 := Lib.hid hh; clear hh hq hr))
      go_roundw
      case rel => exact ⟨k + 1,by omega,by go_num,by rw [HT.out]; exact HP2.out⟩
      case measure => simp [intOf]; omega
    · have hki : ¬ (k : Int) < (n : Int) := by omega
      have HT := Lib.hid (show prsB (ps.take k) = prsB ps by rw [show k = ps.length by rw [← HN.out]; omega,List.take_length])
      rw [HT.out] at HH
      have hlen : (hdK 4 n x++prsB ps).length = 8 + 12 * n := by rw [List.length_append,hdK_len,prsB_len,HN.out]
      have HLN := Lib.hid hlen
      have HFR := Lib.hid (show (hdK 4 n x++prsB ps)++List.replicate m 0 = frB ps x S by rw [frB,HN.out,HMM.out,HN.out,List.append_assoc])
      have HFL := Lib.hid (show ((hdK 4 n x++prsB ps)++List.replicate m (0 : Int)).length = S by rw [List.length_append,HLN.out,List.length_replicate,HMM.out]; omega)
      clear hlen
      generalize hdK 4 n x++prsB ps = L at HH HFR HLN HFL
      have hmi := HMI.out
      go_wp2_with (first
        | (at_make; refine wpList_make_full _ rfl _ _ 32 rfl wr.heap.size 5 i0 (.int .u8 0) 1 Tryz.underlying32 hi hz0 hz1 .i64 .i64 _ _ m rfl rfl ?c1 ?c2 ?c3 ?c4 (Nat.le_refl _) ?_; (case c1 => rfl); (case c2 => rfl); (case c3 => rw [hz2]; omega); (case c4 => unfold maxLen; omega); intro wM hown hgM; have HO := Lib.hid (seq_made hown); have HHM := Lib.hid (HH.out.grown' hgM); clear hown hgM)
        | (go_at_call 76; have K := HHM.out.raw HO.out (by rw [HLN.out,List.length_replicate]; omega); ((with_reducible refine K.mono ?_); clear K; rintro r w5 ⟨rfl,hh⟩); have HP5 := Lib.hid hh; clear hh)
        | (go_at_call 79; have K := out_len (n := S) HP5.out.wr HFL.out (by omega); ((with_reducible refine K.mono ?_); clear K; rintro r w6 ⟨ac,cc,rfl,ho,hg6⟩); have HO6 := Lib.hid ho; have HG6 := Lib.hid hg6; clear ho hg6))
      go_ret2
      refine ⟨_,rfl,?_,gof (HP5.out.bel.trans ((gbelow HG6.out).mono HP5.out.bel.size)) none⟩
      have h := HO6.out
      rw [HFR.out] at h
      unfold OwnB
      rw [← HFR.out,HFL.out,HFR.out]
      exact own_base h HP5.out.bel.size
end Go.Proofs.YtnnmpaenainogaaGreat

namespace Go.Proofs.YtnnmpaenainogaaGreat
open Go.RowKit
theorem RS.row {g base s n : Nat} {t : TypeId} {v : Value} {xs : List Value} {w0 w w' : World} {bs : List Int} {e : Int} (h : RS g w0 w bs e) (hr : w.ownsRow base t s v n xs) (hb : g < base) (k : w.grownBy w' v.ownBlock) : RS g w0 w' bs e :=
  ⟨h.rd.kept (fun i hi => k.block i (by have := h.rd.lt; omega) (fun e => by have := (hr.lt i e.symm).1; omega)),h.byt,h.len,h.g0,h.bel.grown k h.bel.size (fun j e => by have := (hr.lt j e).1; have := h.g0; omega)⟩
theorem POwn.rd {t : TypeId} {base g : Nat} {w w' : World} {v : Value} {ps : List Pr} {bs : List Int} {e : Int} (h : POwn t base w v ps) (k : w.grownBy w' (some g)) (hr : RdAt w g bs e) (ht : 323≠t := by decide) : POwn t base w' v ps := by
  obtain ⟨cs,hcs⟩ := hr.tag
  exact h.far k hcs ht
set_option maxRecDepth 30000 in
set_option maxHeartbeats 4000000 in
theorem readPairs_any (w0 w : World) (g : Nat) (ps : List Pr) (r : List Int) (ni : Int) (n : Nat) (hni : ni = (n : Int)) (hn : ps.length = n) (hn9 : n≤65535) (hok : ∀ p∈ps,PrOk p) (h : RS g w0 w (prsB ps++r) 0) :
    Calls Tryz.prog 168 #[.pointer (some ⟨g,0,none⟩),.int .i64 ni] w fun e w' => ∃ ao c,e = .returned (.slice ao n c)∧POwn 304 w.heap.size w' (.slice ao n c) ps∧RS g w0 w' r 0 := by
  obtain ⟨i0,hi,hz0,hz1,hz2⟩ := info_parts infoPair
  subst hni
  have HN := Lib.hid hn
  have HOK := Lib.hid hok
  have H := Lib.hid h
  have hgw := h.rd.lt
  clear hn hok h
  go_enter Tryz.func168,Tryz.ntmps168
  go_wp2
  go_loopw [5,9] (fun l i wr => ∃ k : Nat,k≤n∧i = .int .i64 (k : Int)∧POwn 304 w.heap.size wr l (ps.take k)∧RS g w0 wr (prsB (ps.drop k)++r) 0∧w.heap.size≤wr.heap.size) (fun _ i _ => n - (intOf i).toNat)
  case atStart => exact ⟨0,Nat.zero_le _,rfl,POwn.nil _ _ _,by simpa using H.out,Nat.le_refl _⟩
  case round =>
    obtain ⟨k,hk,rfl,ho,hr,hz⟩ := hrel
    have HO := Lib.hid ho
    have HR := Lib.hid hr
    clear ho hr
    by_cases hlt : k < n
    · have hki : (k : Int) < (n : Int) := by omega
      have hkl : k < ps.length := by rw [HN.out]; exact hlt
      obtain ⟨p,hp⟩ : ∃ p,ps[k]? = some p := ⟨ps[k],List.getElem?_eq_getElem hkl⟩
      have HPO := Lib.hid (HOK.out p (List.mem_of_getElem? hp))
      have HT := Lib.hid (take_snoc hp)
      have HTL := Lib.hid (show (ps.take k).length = k by rw [List.length_take]; omega)
      have HD := Lib.hid (show prsB (ps.drop k)++r = numB (p.1 : Int) 8 8++(numB (p.2 : Int) 4 4++(prsB (ps.drop (k + 1))++r)) by
        rw [List.drop_eq_getElem_cons hkl,prsB_cons]
        rw [List.getElem?_eq_getElem hkl] at hp
        cases hp
        simp [prB])
      have HB1 := Lib.hid (be8 HPO.out.1)
      have HB2 := Lib.hid (be4n HPO.out.2)
      obtain ⟨a1,a2⟩ := p
      simp only at HD HB1 HB2
      have ho2 : (a2 : Int)≤4294967295 := by have := HPO.out.2; simp only at this; omega
      have hw32 : IntKind.u32.wrap (a2 : Int) = (a2 : Int) := by rw [show IntKind.u32.wrap (a2 : Int) = (a2 : Int) % 4294967296 from rfl]; omega
      rw [HD.out] at HR
      have X1 := Lib.hid (show nx (numB (a1 : Int) 8 8++(numB (a2 : Int) 4 4++(prsB (ps.drop (k + 1))++r))) 0 8 true = (numB (a2 : Int) 4 4++(prsB (ps.drop (k + 1))++r),0,numB (a1 : Int) 8 8) from nx_app (by rw [numB_len]; rfl))
      have X2 := Lib.hid (show nx (numB (a2 : Int) 4 4++(prsB (ps.drop (k + 1))++r)) 0 4 true = (prsB (ps.drop (k + 1))++r,0,numB (a2 : Int) 4 4) from nx_app (by rw [numB_len]; rfl))
      obtain ⟨la,lc,rfl⟩ := HO.out.shape
      rw [HTL.out] at HO ⊢
      clear hp
      go_wp2_with (first
        | (go_at_call 149; have Kc := HR.out.num 8 (by decide) (by decide) X1.out; rw [HB1.out] at Kc; ((with_reducible refine Kc.mono ?_); clear Kc; rintro e w2 ⟨rfl,hs,hg⟩); have HR2 := Lib.hid hs; have HO2 := Lib.hid (HO.out.rd hg HR.out.rd); have hz2' := Nat.le_trans hz hg.size; clear hs hg)
        | (go_at_call 149; have Kc := HR2.out.num 4 (by decide) (by decide) X2.out; rw [HB2.out] at Kc; ((with_reducible refine Kc.mono ?_); clear Kc; rintro e w3 ⟨rfl,hs,hg⟩); have HR3 := Lib.hid hs; have HO3 := Lib.hid (HO2.out.rd hg HR2.out.rd); have hz3' := Nat.le_trans hz2' hg.size; clear hs hg)
        | (at_builtin; refine wpList_append_own _ rfl _ _ 134 rfl w.heap.size 304 i0 (.agg #[.int .u64 0,.int .u32 0]) 2 16 Tryz.underlying134 hi hz0 hz1 hz2 rfl (by decide) (.slice la k lc) k ((ps.take k).flatMap prc) rfl (by have h := (HO3.out.grown (World.grownBy_alloc w3 (.cells #[.int .u64 (a1 : Int),.int .u32 (a2 : Int)] 304) none)).1; rw [HTL.out] at h; exact h) ⟨w3.heap.size,0,none⟩ 1 1 (prc (a1,a2)) rfl rfl (lit_pair w3 (a1,a2) 304) (one_pair (a1,a2)) (by unfold maxLen; omega) (by omega) (by simp; omega) ?_; intro v' w4 hown hgrow _; have HW4 := Lib.hid hown; have HG4 := Lib.hid hgrow; clear hown hgrow))
      have HA := HO3.out.grown (World.grownBy_alloc w3 (.cells #[.int .u64 (a1 : Int),.int .u32 (a2 : Int)] 304) none)
      have h1 := HA.push HPO.out HTL.out.symm HW4.out
      have h2 := (HR3.out.far (World.grownBy_alloc w3 (.cells #[.int .u64 (a1 : Int),.int .u32 (a2 : Int)] 304) none)).row HA.1 hgw HG4.out
      have HF1 := Lib.hid h1
      have HF2 := Lib.hid h2
      have hz4 : w.heap.size≤w4.heap.size := by have := HG4.out.size; simp at this; omega
      clear HA h1 h2
      go_roundw
      case rel => exact ⟨k + 1,by omega,by go_num,by rw [HT.out]; exact HF1.out,HF2.out,hz4⟩
      case measure => simp [intOf]; omega
    · have hki : ¬ (k : Int) < (n : Int) := by omega
      have e : k = ps.length := by rw [HN.out]; omega
      have HO2 := Lib.hid (show POwn 304 w.heap.size wr u5 ps by have h := HO.out; rw [e,List.take_length] at h; exact h)
      have HR2 := Lib.hid (show RS g w0 wr r 0 by have h := HR.out; rw [e,List.drop_length] at h; exact h)
      clear e
      obtain ⟨la,lc,rfl⟩ := HO2.out.shape
      rw [HN.out] at HO2
      rw [HN.out]
      go_wp2
      go_ret
      exact ⟨_,_,rfl,HO2.out,HR2.out⟩
def FGetR (b : List Int) (w w' : World) (r : Ending) : Prop :=
  (∃ (pv : Value) (ps : List Pr) (x : Int),r = .returned (.tuple #[pv,.int .u32 x,.int .i64 0])∧FLaid b ps x∧POwn 304 w.heap.size w' pv ps∧w.grownBy w' none) ∨
  (r = .returned (.tuple #[.slice none 0 0,.int .u32 0,.int .i64 11])∧(∀ ps x,¬ FLaid b ps x)∧w.grownBy w' none)
set_option maxRecDepth 30000 in
set_option maxHeartbeats 4000000 in
theorem zget_any (w : World) (B : Nat) (ao : Option Addr) (n c0 : Nat) (b : List Int) (h : Seq B w (.slice ao n c0) b) (hB : B≤w.heap.size) (hb : Byt b) (hl : b.length≤140737488355328) :
    Calls Tryz.prog 112 #[.slice ao n c0] w fun r w' => FGetR b w w' r := by
  have hnl : n = b.length := by obtain ⟨_,_,hv,_⟩ := h; injection hv
  have hn9 : n≤140737488355328 := by omega
  have H := Lib.hid h
  have HB := Lib.hid hb
  have HL := Lib.hid hl
  by_cases hq : ∃ (C : Nat) (y : Int) (r : List Int),C≤65535∧0≤y∧y≤4294967295∧b = hdK 4 C y++r
  · obtain ⟨C,y,r,hCl,hy0,hy1,he⟩ := hq
    have hbl : b.length = 8 + r.length := by rw [he,List.length_append,hdK_len]
    have HE := Lib.hid he
    by_cases hsz : 512≤(n : Int)∧(n : Int)≤4096
    · obtain ⟨hs1,hs2⟩ := hsz
      have hrb := room_bd hs1 hs2
      obtain ⟨M,hM⟩ : ∃ M,M = roomI (n : Int) := ⟨_,rfl⟩
      rw [← hM] at hrb
      have HM := Lib.hid hM
      by_cases hCM : (C : Int)≤M
      · have hCM' : ¬ M < (C : Int) := by omega
        have hfit := room_fits (show (C : Int)≤roomI (n : Int) by rw [← hM]; exact hCM)
        have hrb' : Byt r := fun v hv => hb v (by rw [he]; exact List.mem_append_right _ hv)
        obtain ⟨ps,hpl,hok,hrz⟩ := prs_of C hrb' (by omega)
        have hzl : (r.drop (12 * C)).length = b.length - 8 - 12 * C := by rw [List.length_drop]; omega
        obtain ⟨z,hz⟩ : ∃ z,z = r.drop (12 * C) := ⟨_,rfl⟩
        rw [← hz] at hrz hzl
        have HU := Lib.hid (fun (qs : List Pr) (x : Int) (hL : FLaid b qs x) => (show qs = ps∧allZ z = true by
          obtain ⟨g1,_,g3⟩ := flaid_at hCl hy0 hy1 he hL
          rw [hrz] at g3
          obtain ⟨g4,g5⟩ := List.append_inj g3 (by rw [prsB_len,prsB_len,g1,hpl])
          exact ⟨(prsB_inj (by rw [g1,hpl]) hok hL.ok g4).symm,by rw [g5]; exact rep_allZ _⟩))
        have HOKL := Lib.hid (fun (hri : Rise ps) (haz : allZ z = true) => (show FLaid b ps y from
          ⟨by
            have hz2 := allZ_rep _ haz
            rw [hzl] at hz2
            rw [frB,hpl,← hz2,← hrz]; exact he,⟨by rw [← hnl]; exact hs1,by rw [← hnl]; exact hs2,by rw [hpl,← hnl,← hM]; exact hCM,hri⟩,hok,hy0,hy1⟩))
        have HRZ := Lib.hid hrz
        have HPL := Lib.hid hpl
        have HOK := Lib.hid hok
        have hZ9 : z.length≤140737488355328 := by omega
        obtain ⟨Z,hZ⟩ : ∃ Z,Z = z.length := ⟨_,rfl⟩
        rw [← hZ] at hZ9
        have X6 := Lib.hid (show nx z 0 (Z : Int) true = ([],0,z) by rw [hZ,nx_at (Nat.le_refl _)]; simp)
        have HZ := Lib.hid hZ
        have hZ4 : decide ((0 : Int)≤(Z : Int)) = true := by simp
        clear hnl h hb hl he hbl hM hfit hrb' hpl hok hrz hzl hz hZ
        by_cases hri : Rise ps
        · have HRI := Lib.hid (riseB_iff.2 hri)
          have HLL := Lib.hid (HOKL.out hri)
          clear hri HOKL
          by_cases haz : allZ z = true
          · have HAZ := Lib.hid haz
            have HD := Lib.hid (HLL.out haz)
            clear haz HLL HU
            go_enter Tryz.func112,Tryz.ntmps112
            go_wp2_with (first
              | (go_at_call 166; have Kc := rlinked_yes (kind := 4) (C := C) (x := y) (r := r) H.out hB HB.out HL.out (by decide) (by decide) hCl hy0 hy1 HE.out; ((with_reducible refine Kc.mono ?_); clear Kc; rintro e w4 ⟨g,rfl,hs⟩); have HR4 := Lib.hid hs; clear hs)
              | (go_at_call 73; refine (lsize_yes _ _ hs1 hs2).mono ?_; rintro e wq ⟨rfl,rfl⟩)
              | (go_at_call 167; refine (zroom_in _ _ hs1 hs2).mono ?_; rintro e wq ⟨rfl,rfl⟩; rw [← HM.out])
              | (go_at_call 168; have Kc := readPairs_any w w4 g ps z (C : Int) C rfl HPL.out hCl HOK.out (by have h := HR4.out; rw [HRZ.out] at h; exact h); ((with_reducible refine Kc.mono ?_); clear Kc; rintro e w5 ⟨al,cl,rfl,ho,hs⟩); have HR5 := Lib.hid hs; have HO5 := Lib.hid (ho.mono (show w.heap.size≤w4.heap.size from HR4.out.bel.size)); clear hs ho)
              | (go_at_call 169; have Kc := rise_any w5 _ al C cl ps (by have h := HO5.out.sq; exact h); rw [HRI.out] at Kc; ((with_reducible refine Kc.mono ?_); clear Kc; rintro e w6 ⟨rfl,hg⟩); have HR6 := Lib.hid (HR5.out.far hg); have HO6 := Lib.hid (HO5.out.grown hg); clear hg)
              | (go_at_call 170; have Kc := left_any w6 g z 0 HR6.out.rd; rw [← HZ.out] at Kc; ((with_reducible refine Kc.mono ?_); clear Kc; rintro e wq ⟨rfl,rfl⟩))
              | (go_at_call 150; have Kc := HR6.out.raw _ _ hZ4 X6.out; rw [← HZ.out] at Kc; ((with_reducible refine Kc.mono ?_); clear Kc; rintro e w7 ⟨ag,cg,rfl,ho,hs,hg⟩); have HR7 := Lib.hid hs; have HS7 := Lib.hid (Seq.owned (show w7.ownsRow w6.heap.size 5 1 (.slice ag z.length cg) z.length (z.map (Value.int .u8)) by rw [← HZ.out]; exact ho)); have HO7 := Lib.hid (HO6.out.rd hg HR6.out.rd); clear hs hg ho)
              | (go_at_call 110; have Kc := noughts_any w7 w7.heap.size ag Z cg z (by have h := HS7.out; rw [← HZ.out] at h; exact h); rw [HAZ.out] at Kc; ((with_reducible refine Kc.mono ?_); clear Kc; rintro e wq ⟨rfl,rfl⟩)))
            go_ret3
            exact .inl ⟨_,ps,y,rfl,HD.out,HO7.out,HR7.out.gr⟩
          · have hzf : allZ z = false := by simpa using haz
            have HAZ := Lib.hid hzf
            have HD := Lib.hid (show ∀ qs x,¬ FLaid b qs x from fun qs x hL => haz (HU.out qs x hL).2)
            clear haz HLL HU hzf
            go_enter Tryz.func112,Tryz.ntmps112
            go_wp2_with (first
              | (go_at_call 166; have Kc := rlinked_yes (kind := 4) (C := C) (x := y) (r := r) H.out hB HB.out HL.out (by decide) (by decide) hCl hy0 hy1 HE.out; ((with_reducible refine Kc.mono ?_); clear Kc; rintro e w4 ⟨g,rfl,hs⟩); have HR4 := Lib.hid hs; clear hs)
              | (go_at_call 73; refine (lsize_yes _ _ hs1 hs2).mono ?_; rintro e wq ⟨rfl,rfl⟩)
              | (go_at_call 167; refine (zroom_in _ _ hs1 hs2).mono ?_; rintro e wq ⟨rfl,rfl⟩; rw [← HM.out])
              | (go_at_call 168; have Kc := readPairs_any w w4 g ps z (C : Int) C rfl HPL.out hCl HOK.out (by have h := HR4.out; rw [HRZ.out] at h; exact h); ((with_reducible refine Kc.mono ?_); clear Kc; rintro e w5 ⟨al,cl,rfl,ho,hs⟩); have HR5 := Lib.hid hs; have HO5 := Lib.hid (ho.mono (show w.heap.size≤w4.heap.size from HR4.out.bel.size)); clear hs ho)
              | (go_at_call 169; have Kc := rise_any w5 _ al C cl ps (by have h := HO5.out.sq; exact h); rw [HRI.out] at Kc; ((with_reducible refine Kc.mono ?_); clear Kc; rintro e w6 ⟨rfl,hg⟩); have HR6 := Lib.hid (HR5.out.far hg); have HO6 := Lib.hid (HO5.out.grown hg); clear hg)
              | (go_at_call 170; have Kc := left_any w6 g z 0 HR6.out.rd; rw [← HZ.out] at Kc; ((with_reducible refine Kc.mono ?_); clear Kc; rintro e wq ⟨rfl,rfl⟩))
              | (go_at_call 150; have Kc := HR6.out.raw _ _ hZ4 X6.out; rw [← HZ.out] at Kc; ((with_reducible refine Kc.mono ?_); clear Kc; rintro e w7 ⟨ag,cg,rfl,ho,hs,hg⟩); have HR7 := Lib.hid hs; have HS7 := Lib.hid (Seq.owned (show w7.ownsRow w6.heap.size 5 1 (.slice ag z.length cg) z.length (z.map (Value.int .u8)) by rw [← HZ.out]; exact ho)); have HO7 := Lib.hid (HO6.out.rd hg HR6.out.rd); clear hs hg ho)
              | (go_at_call 110; have Kc := noughts_any w7 w7.heap.size ag Z cg z (by have h := HS7.out; rw [← HZ.out] at h; exact h); rw [HAZ.out] at Kc; ((with_reducible refine Kc.mono ?_); clear Kc; rintro e wq ⟨rfl,rfl⟩)))
            go_ret3
            exact .inr ⟨rfl,HD.out,HR7.out.gr⟩
        · have HRI := Lib.hid (riseB_no.2 hri)
          have HD := Lib.hid (show ∀ qs x,¬ FLaid b qs x from fun qs x hL => hri (by rw [← (HU.out qs x hL).1]; exact hL.right.2.2.2))
          clear hri HOKL HU
          go_enter Tryz.func112,Tryz.ntmps112
          go_wp2_with (first
            | (go_at_call 166; have Kc := rlinked_yes (kind := 4) (C := C) (x := y) (r := r) H.out hB HB.out HL.out (by decide) (by decide) hCl hy0 hy1 HE.out; ((with_reducible refine Kc.mono ?_); clear Kc; rintro e w4 ⟨g,rfl,hs⟩); have HR4 := Lib.hid hs; clear hs)
            | (go_at_call 73; refine (lsize_yes _ _ hs1 hs2).mono ?_; rintro e wq ⟨rfl,rfl⟩)
            | (go_at_call 167; refine (zroom_in _ _ hs1 hs2).mono ?_; rintro e wq ⟨rfl,rfl⟩; rw [← HM.out])
            | (go_at_call 168; have Kc := readPairs_any w w4 g ps z (C : Int) C rfl HPL.out hCl HOK.out (by have h := HR4.out; rw [HRZ.out] at h; exact h); ((with_reducible refine Kc.mono ?_); clear Kc; rintro e w5 ⟨al,cl,rfl,ho,hs⟩); have HR5 := Lib.hid hs; have HO5 := Lib.hid (ho.mono (show w.heap.size≤w4.heap.size from HR4.out.bel.size)); clear hs ho)
            | (go_at_call 169; have Kc := rise_any w5 _ al C cl ps (by have h := HO5.out.sq; exact h); rw [HRI.out] at Kc; ((with_reducible refine Kc.mono ?_); clear Kc; rintro e w6 ⟨rfl,hg⟩); have HR6 := Lib.hid (HR5.out.far hg); have HO6 := Lib.hid (HO5.out.grown hg); clear hg))
          go_ret3
          exact .inr ⟨rfl,HD.out,HR6.out.gr⟩
      · have hCM' : M < (C : Int) := by omega
        have HD := Lib.hid (show ∀ qs x,¬ FLaid b qs x from fun qs x hL => hCM (by
          obtain ⟨g1,_,_⟩ := flaid_at hCl hy0 hy1 he hL
          have := hL.right.2.2.1
          rw [g1,← hnl,← hM] at this
          exact this))
        clear hnl h hb hl he hbl hM hCM
        go_enter Tryz.func112,Tryz.ntmps112
        go_wp2_with (first
          | (go_at_call 166; have Kc := rlinked_yes (kind := 4) (C := C) (x := y) (r := r) H.out hB HB.out HL.out (by decide) (by decide) hCl hy0 hy1 HE.out; ((with_reducible refine Kc.mono ?_); clear Kc; rintro e w4 ⟨g,rfl,hs⟩); have HR4 := Lib.hid hs; clear hs)
          | (go_at_call 73; refine (lsize_yes _ _ hs1 hs2).mono ?_; rintro e wq ⟨rfl,rfl⟩)
          | (go_at_call 167; refine (zroom_in _ _ hs1 hs2).mono ?_; rintro e wq ⟨rfl,rfl⟩; rw [← HM.out]))
        go_ret3
        exact .inr ⟨rfl,HD.out,HR4.out.gr⟩
    · have HD := Lib.hid (show ∀ qs x,¬ FLaid b qs x from fun qs x hL => hsz (by rw [hnl]; exact ⟨hL.right.1,hL.right.2.1⟩))
      clear hnl h hb hl he hbl
      go_enter Tryz.func112,Tryz.ntmps112
      go_wp2_with (first
        | (go_at_call 166; have Kc := rlinked_yes (kind := 4) (C := C) (x := y) (r := r) H.out hB HB.out HL.out (by decide) (by decide) hCl hy0 hy1 HE.out; ((with_reducible refine Kc.mono ?_); clear Kc; rintro e w4 ⟨g,rfl,hs⟩); have HR4 := Lib.hid hs; clear hs)
        | (go_at_call 73; refine (lsize_no _ _ hsz).mono ?_; rintro e wq ⟨rfl,rfl⟩))
      go_ret3
      exact .inr ⟨rfl,HD.out,HR4.out.gr⟩
  · have HD := Lib.hid (show ∀ qs x,¬ FLaid b qs x from fun qs x hL => hq ⟨qs.length,x,_,(flaid_few hL).1,hL.x0,hL.x1,hL.page⟩)
    have HH := Lib.hid (show ∀ (C : Nat) (x : Int) (r : List Int),C≤65535→0≤x→x≤4294967295→b≠hdK 4 C x++r from fun C x r h1 h2 h3 h4 => hq ⟨C,x,r,h1,h2,h3,h4⟩)
    clear hnl h hb hl hq
    go_enter Tryz.func112,Tryz.ntmps112
    go_wp2_with (go_at_call 166; have Kc := rlinked_no (kind := 4) H.out hB HB.out HL.out (by decide) (by decide) HH.out; ((with_reducible refine Kc.mono ?_); clear Kc; rintro e w4 ⟨rfl,hs⟩); have HR4 := Lib.hid hs; clear hs)
    go_ret3
    exact .inr ⟨rfl,HD.out,HR4.out⟩
theorem zget_back {w : World} {B : Nat} {ao : Option Addr} {n c0 : Nat} {b : List Int} {ps : List Pr} {x : Int} (h : Seq B w (.slice ao n c0) b) (hB : B≤w.heap.size) (hb : Byt b) (hL : FLaid b ps x) :
    Calls Tryz.prog 112 #[.slice ao n c0] w fun r w' => ∃ ao c,r = .returned (.tuple #[.slice ao ps.length c,.int .u32 x,.int .i64 0])∧POwn 304 w.heap.size w' (.slice ao ps.length c) ps∧w.grownBy w' none := by
  refine (zget_any w B ao n c0 b h hB hb (by have := hL.right.2.1; omega)).mono ?_
  rintro r w' (⟨pv,qs,y,e,hq,ho,hg⟩ | ⟨_,hno,_⟩)
  · obtain ⟨e1,e2⟩ := flaid_uniq hL hq
    subst e1; subst e2
    obtain ⟨a,c,rfl⟩ := ho.shape
    exact ⟨a,c,e,ho,hg⟩
  · exact absurd hL (hno ps x)
end Go.Proofs.YtnnmpaenainogaaGreat

namespace Go.Proofs.YtnnmpaenainogaaGreat
open Go.RowKit
theorem infoPairs : (Tryz.prog.info? 134).map (fun i => (i.zero,i.size,i.bytes)) = some (some (.slice none 0 0),1,24) := by kernel_rfl
def partF (ps : List Pr) (M k : Nat) : List Pr := (ps.drop (k * M)).take M
structure RowsAt (base : Nat) (w : World) (v : Value) (m : Nat) (f : Nat→List Pr) (vals : List Value) (q : Nat) : Prop where
  val : v = .slice (some ⟨q,0,none⟩) m m
  row : w.ownsRow base 134 1 v m vals
  each : ∀ j,j < m→∃ u,vals[j]? = some u∧PrSq (fun b => base < b) w u (f j)
theorem PrSq.post {R : Nat→Prop} {w : World} {ao : Option Addr} {n c k : Nat} {ps : List Pr} (h : PrSq R w (.slice ao n c) ps) (hk : k≤n) : PrSq R w (.slice (if c = k then ao else ao.map (·.add (k * 2))) (n - k) (c - k)) (ps.drop k) := by
  obtain ⟨ao',c',hv,h1,h2,h3,hn,h4⟩ := h
  cases hv
  have hl : (ps.drop k).length = ps.length - k := List.length_drop
  refine ⟨_,_,by rw [hl],by omega,by omega,fun p hp => h3 p (List.mem_of_mem_drop hp),fun e => ?_,fun hne => ?_⟩
  · by_cases e2 : c = k
    · omega
    · rw [if_neg e2] at e
      have : ao = none := by simpa using e
      have := hn this
      omega
  · have hp : 0 < (ps.drop k).length := List.length_pos_iff.2 hne
    obtain ⟨b,o,rfl,hb,hc⟩ := h4 (by rintro rfl; simp at hne)
    rw [if_neg (by omega)]
    refine ⟨b,o + k * 2,by simp [Addr.add],hb,fun j p hjp => ?_⟩
    rw [List.getElem?_drop] at hjp
    obtain ⟨k1,k2⟩ := hc (k + j) p hjp
    rw [show o + k * 2 + j * 2 = o + (k + j) * 2 by omega]
    exact ⟨k1,k2⟩
theorem PrSq.head {R : Nat→Prop} {w : World} {ao : Option Addr} {n c k : Nat} {ps : List Pr} (h : PrSq R w (.slice ao n c) ps) (hk : k≤n) : PrSq R w (.slice ao k k) (ps.take k) := by
  obtain ⟨ao',c',hv,h1,h2,h3,hn,h4⟩ := h
  cases hv
  have hl : (ps.take k).length = k := by rw [List.length_take]; omega
  refine ⟨_,_,by rw [hl],by omega,by omega,fun p hp => h3 p (List.mem_of_mem_take hp),fun e => ?_,fun hne => ?_⟩
  · have := hn e; omega
  · obtain ⟨b,o,rfl,hb,hc⟩ := h4 (by rintro rfl; simp at hne)
    refine ⟨b,o,rfl,hb,fun j p hjp => hc j p ?_⟩
    rw [List.getElem?_take] at hjp
    split at hjp
    · exact hjp
    · cases hjp
def SprNo (e : Int) (w w' : World) (r : Ending) : Prop := r = .returned (.tuple #[.slice none 0 0,.int .i64 e])∧w.grownBy w' none
def SprYes (ps : List Pr) (M m : Nat) (w w' : World) (r : Ending) : Prop := ∃ v vals q,r = .returned (.tuple #[v,.int .i64 0])∧RowsAt w.heap.size w' v m (partF ps M) vals q∧w.grownBy w' none
set_option maxHeartbeats 1000000 in
theorem spread_arg (w : World) (ao : Option Addr) (n c : Nat) (p S : Int) (h : ¬ ((512≤S∧S≤4096)∧0≤p∧p≤65536)) :
    Calls Tryz.prog 215 #[.slice ao n c,.int .i64 p,.int .i64 S] w fun r w' => SprNo 1 w w' r := by
  by_cases hs : 512≤S∧S≤4096
  · by_cases h0 : 0≤p
    · have d0 : ¬ p < 0 := by omega
      have d1 : 65536 < p := by
        rcases Int.lt_or_le 65536 p with k | k
        · exact k
        · exact absurd ⟨hs,h0,k⟩ h
      obtain ⟨h1,h2⟩ := hs
      clear h
      go_enter Tryz.func215,Tryz.ntmps215
      go_wp2_with (go_at_call 73; refine (lsize_yes _ _ h1 h2).mono ?_; rintro r w1 ⟨rfl,rfl⟩)
      go_ret2
      exact ⟨rfl,grefl _ _⟩
    · have d0 : p < 0 := by omega
      obtain ⟨h1,h2⟩ := hs
      clear h
      go_enter Tryz.func215,Tryz.ntmps215
      go_wp2_with (go_at_call 73; refine (lsize_yes _ _ h1 h2).mono ?_; rintro r w1 ⟨rfl,rfl⟩)
      go_ret2
      exact ⟨rfl,grefl _ _⟩
  · clear h
    go_enter Tryz.func215,Tryz.ntmps215
    go_wp2_with (go_at_call 73; refine (lsize_no _ _ hs).mono ?_; rintro r w1 ⟨rfl,rfl⟩)
    go_ret2
    exact ⟨rfl,grefl _ _⟩
set_option maxHeartbeats 1000000 in
theorem spread_full (w : World) (ao : Option Addr) (n c : Nat) (p S : Int) (hn9 : n≤9223372036854775807) (h1 : 512≤S) (h2 : S≤4096) (h3 : 0≤p) (h4 : p≤65536) (hlt : p < manyF (n : Int) S) :
    Calls Tryz.prog 215 #[.slice ao n c,.int .i64 p,.int .i64 S] w fun r w' => SprNo 21 w w' r := by
  have d0 : ¬ p < 0 := by omega
  have d1 : ¬ 65536 < p := by omega
  obtain ⟨m,hm⟩ : ∃ m,m = manyF (n : Int) S := ⟨_,rfl⟩
  rw [← hm] at hlt
  have HM := Lib.hid hm
  have hn9i : (n : Int)≤9223372036854775807 := by omega
  clear hm
  go_enter Tryz.func215,Tryz.ntmps215
  go_wp2_with (first
    | (go_at_call 73; refine (lsize_yes _ _ h1 h2).mono ?_; rintro r w1 ⟨rfl,rfl⟩)
    | (go_at_call 212; refine (zmany_any _ _ _ hn9i).mono ?_; rw [← HM.out]; rintro r w1 ⟨rfl,rfl⟩))
  go_ret2
  exact ⟨rfl,grefl _ _⟩
theorem spr_step {w wr : World} {m M k L C E : Nat} {ra : Option Addr} {vals : List Value} {ps : List Pr}
    (hsq : PrSq (fun b => w.heap.size < b) wr (.slice ra L C) (ps.drop (k * M))) (hrow : wr.ownsRow w.heap.size 134 1 (.slice (some ⟨w.heap.size,0,none⟩) m m) m vals)
    (hdone : ∀ j,j < k→∃ u,vals[j]? = some u∧PrSq (fun b => w.heap.size < b) wr u (partF ps M j)) (hleft : ∀ j,k≤j→j < m→vals[j]? = some (.slice none 0 0)) (hg : w.grownBy wr none) (hk : k < m) (hE : E≤L)
    (hA : partF ps M k = (ps.drop (k * M)).take E) (hB : ps.drop ((k + 1) * M) = (ps.drop (k * M)).drop E) :
    PrSq (fun b => w.heap.size < b) (wr.setCell ⟨w.heap.size,k,none⟩ (.slice ra E E)).drew (.slice (if C = E then ra else Option.map (fun x => x.add (E * 2)) ra) (L - E) (C - E)) (ps.drop ((k + 1) * M)) ∧
    (wr.setCell ⟨w.heap.size,k,none⟩ (.slice ra E E)).drew.ownsRow w.heap.size 134 1 (.slice (some ⟨w.heap.size,0,none⟩) m m) m (vals.set k (.slice ra E E)) ∧
    (∀ j,j < k + 1→∃ u,(vals.set k (.slice ra E E))[j]? = some u∧PrSq (fun b => w.heap.size < b) (wr.setCell ⟨w.heap.size,k,none⟩ (.slice ra E E)).drew u (partF ps M j)) ∧
    (∀ j,k + 1≤j→j < m→(vals.set k (.slice ra E E))[j]? = some (.slice none 0 0))∧w.grownBy (wr.setCell ⟨w.heap.size,k,none⟩ (.slice ra E E)).drew none := by
  have kp : ∀ b,w.heap.size < b→b < wr.heap.size→(wr.setCell ⟨w.heap.size,k,none⟩ (.slice ra E E)).drew.heap[b]? = wr.heap[b]? := fun b hb _ => Below.heap_setCell _ _ _ _ (by simp; omega)
  have hkl : k < vals.length := by
    have := hleft k (Nat.le_refl _) hk
    exact (List.getElem?_eq_some_iff.1 this).1
  refine ⟨?_,?_,fun j hj => ?_,fun j hj hjm => ?_,?_⟩
  · rw [hB]; exact (hsq.post hE).kept kp
  · exact World.ownsRow.kept (World.ownsRow.stored hrow k (.slice ra E E)).1 (gdrew _) (.inr (by simp [Value.ownBlock]))
  · by_cases e : j = k
    · subst e
      refine ⟨.slice ra E E,by simp [hkl],?_⟩
      rw [hA]; exact (hsq.head hE).kept kp
    · obtain ⟨u,h1,h2⟩ := hdone j (by omega)
      exact ⟨u,by rw [List.getElem?_set_ne (Ne.symm e)]; exact h1,h2.kept kp⟩
  · rw [List.getElem?_set_ne (by omega)]; exact hleft j (by omega) hjm
  · exact gtrans (gnew hg (gset wr ⟨w.heap.size,k,none⟩ _) (Nat.le_refl _)) (gdrew _)
set_option maxRecDepth 30000 in
set_option maxHeartbeats 4000000 in
theorem spread_ok (w : World) (R : Nat→Prop) (ao : Option Addr) (n c : Nat) (ps : List Pr) (p S : Int) (m M : Nat) (hp : p = (m : Int)) (hM : (M : Int) = roomI S) (hs : PrSq R w (.slice ao n c) ps) (hl : ps.length * 16≤140737488355328) (h1 : 512≤S) (h2 : S≤4096) (h4 : m≤65536) (hge : manyF (n : Int) S≤(m : Int)) :
    Calls Tryz.prog 215 #[.slice ao n c,.int .i64 p,.int .i64 S] w fun r w' => SprYes ps M m w w' r := by
  obtain ⟨i0,hi,hz0,hz1,hz2⟩ := info_parts infoPairs
  subst hp
  have hrb := room_bd h1 h2
  rw [← hM] at hrb
  have hn := hs.len.1
  have hn9i : (n : Int)≤9223372036854775807 := by omega
  have d1 : ¬ (65536 : Int) < (m : Int) := by omega
  obtain ⟨y,hy⟩ : ∃ y,y = manyF (n : Int) S := ⟨_,rfl⟩
  rw [← hy] at hge
  have d2 : ¬ (m : Int) < y := by omega
  have HY := Lib.hid hy
  have HM := Lib.hid hM
  have HS := Lib.hid hs.low
  have HL := Lib.hid hl
  have HN := Lib.hid hn
  have hmn : ps.length≤8796093022208 := by omega
  clear hs hl hn hM hy
  go_enter Tryz.func215,Tryz.ntmps215
  go_wp2_with (first
    | (go_at_call 73; refine (lsize_yes _ _ h1 h2).mono ?_; rintro r w1 ⟨rfl,rfl⟩)
    | (go_at_call 212; refine (zmany_any _ _ _ hn9i).mono ?_; rw [← HY.out]; rintro r w1 ⟨rfl,rfl⟩)
    | (at_make; refine wpList_make_full _ rfl _ _ 336 rfl w.heap.size 134 i0 (.slice none 0 0) 1 Tryz.underlying336 hi hz0 hz1 .i64 .i64 _ _ m rfl rfl ?c1 ?c2 ?c3 ?c4 (Nat.le_refl _) ?_; (case c1 => rfl); (case c2 => rfl); (case c3 => rw [hz2]; omega); (case c4 => unfold maxLen; omega); intro wM hown hgM; have HO := Lib.hid hown; have HGM := Lib.hid hgM; clear hown hgM)
    | (go_at_call 245; refine (zclone_any wM _ ao n c ps (HS.out.grown HGM.out) HL.out).mono ?_; rintro r w2 ⟨ca,cc,rfl,ho,hg⟩; have HC := Lib.hid ho; have HG2 := Lib.hid (gtrans HGM.out hg); have HO2 := Lib.hid (World.ownsRow.kept HO.out hg (.inr (by simp [Value.ownBlock]))); have HSZ := Lib.hid ((HO.out.lt w.heap.size rfl).2); clear ho hg))
  go_loopw [9,35] (fun rest i wr => ∃ (k : Nat) (vals : List Value) (ra : Option Addr) (L C : Nat),k≤m∧i = .int .i64 (k : Int)∧rest = .slice ra L C∧Hid (PrSq (fun b => w.heap.size < b) wr (.slice ra L C) (ps.drop (k * M))∧wr.ownsRow w.heap.size 134 1 (.slice (some ⟨w.heap.size,0,none⟩) m m) m vals∧(∀ j,j < k→∃ u,vals[j]? = some u∧PrSq (fun b => w.heap.size < b) wr u (partF ps M j))∧(∀ j,k≤j→j < m→vals[j]? = some (.slice none 0 0))∧w.grownBy wr none))
    (fun _ i _ => m - (intOf i).toNat)
  case atStart =>
    refine ⟨0,_,ca,n,cc,Nat.zero_le _,rfl,rfl,Lib.hid ⟨?_,HO2.out,fun j hj => by omega,fun j _ hj => ?_,HG2.out⟩⟩
    · have h := HC.out.sq.imp (S := fun b => w.heap.size < b) (fun b hb _ => Nat.lt_of_lt_of_le HSZ.out hb)
      simpa using h
    · rw [Nat.mul_one,show (Value.slice none 0 0).cells = #[Value.slice none 0 0] from rfl,toList_madeCells_one]
      simp [hj]
  case round =>
    obtain ⟨k,vals,ra,L,C,hk,rfl,rfl,HH⟩ := hrel
    obtain ⟨hsq,hrow,hdone,hleft,hg⟩ := HH.out
    obtain ⟨hLl,hLC,hC9⟩ := hsq.len
    rw [List.length_drop] at hLl
    have HSQ := Lib.hid hsq
    have HRW := Lib.hid hrow
    have HDN := Lib.hid hdone
    have HLF := Lib.hid hleft
    have HG := Lib.hid hg
    have HLL := Lib.hid hLl
    have hC9' : (C : Int) ≤ 9223372036854775807 := by have h9 : maxLen ≤ 9223372036854775807 := by decide
                                                      omega
    by_cases hlt : k < m
    · have hki : (k : Int) < (m : Int) := by omega
      have hk0 : (0 : Int)≤(k : Int) := by omega
      have hv := hleft k (Nat.le_refl _) hlt
      have c0 := World.ownsRow.cells hrow (g := w.heap.size) rfl k _ hv
      rw [Addr.add_lit,Nat.zero_add] at c0
      have f0 := World.ownsRow.frozenAt hrow k
      by_cases hLM : L < M
      · have hi1 : (L : Int) < (M : Int) := by omega
        have hi2 : (L : Int)≤(C : Int) := by omega
        have HA := Lib.hid (show partF ps M k = (ps.drop (k * M)).take L by unfold partF; rw [List.take_of_length_le (by rw [List.length_drop]; omega),List.take_of_length_le (by rw [List.length_drop]; omega)])
        have HB := Lib.hid (show ps.drop ((k + 1) * M) = (ps.drop (k * M)).drop L by rw [List.drop_drop,List.drop_eq_nil_of_le (by rw [Nat.succ_mul]; omega),List.drop_eq_nil_of_le (by omega)])
        clear hLl hsq hrow hdone hleft hg HH hv
        go_wp2_with (go_at_call 167; refine (zroom_in _ _ h1 h2).mono ?_; rw [← HM.out]; rintro r w1 ⟨rfl,rfl⟩)
        go_region
        all_goals
          go_wp2
          go_roundw
          case rel => exact ⟨k + 1,vals.set k (.slice ra L L),_,_,_,by omega,by go_num,rfl,Lib.hid (by have h := spr_step HSQ.out HRW.out HDN.out HLF.out HG.out hlt (Nat.le_refl L) HA.out HB.out; rw [Nat.sub_self] at h; exact h)⟩
          case measure => simp [intOf]; omega
      · have hi1 : ¬ (L : Int) < (M : Int) := by omega
        have hi2 : (M : Int)≤(C : Int) := by omega
        have hi3 : (M : Int)≤(L : Int) := by omega
        have hML : M≤L := by omega
        have HA := Lib.hid (show partF ps M k = (ps.drop (k * M)).take M from rfl)
        have HB := Lib.hid (show ps.drop ((k + 1) * M) = (ps.drop (k * M)).drop M by rw [List.drop_drop,Nat.succ_mul])
        clear hLl hsq hrow hdone hleft hg HH hv
        go_wp2_with (go_at_call 167; refine (zroom_in _ _ h1 h2).mono ?_; rw [← HM.out]; rintro r w1 ⟨rfl,rfl⟩)
        go_region
        all_goals
          go_wp2
          go_roundw
          case rel => exact ⟨k + 1,vals.set k (.slice ra M M),_,_,_,by omega,by go_num,rfl,Lib.hid (spr_step HSQ.out HRW.out HDN.out HLF.out HG.out hlt hML HA.out HB.out)⟩
          case measure => simp [intOf]; omega
    · have hki : ¬ (k : Int) < (m : Int) := by omega
      go_wp2
      go_ret2
      obtain rfl : k = m := by omega
      exact ⟨_,vals,w.heap.size,rfl,⟨rfl,HRW.out,HDN.out⟩,HG.out⟩
end Go.Proofs.YtnnmpaenainogaaGreat

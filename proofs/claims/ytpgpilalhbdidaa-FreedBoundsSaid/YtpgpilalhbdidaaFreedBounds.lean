/-
  FreedBounds: a page holds as many pairs as its size has room for and no more, and more pages than are needed take empty lists. Proved for every input, no condition.
-/
import Derived.Test.YtpgpilalhbdidaaFrW
import Derived.Test.YtpgpilalhbdidaaFrK
import Derived.ProofKit
import Derived.OpenShut
import Derived.ShutString
import Derived.ChangeOld
namespace Go.Proofs.Ytpgpilalhbdidaa
open Go.RowKit Go.Maps

def upTo (k : Nat) : List Pr := (List.range k).map fun i => (1, i + 2)
theorem upTo_len (k : Nat) : (upTo k).length = k := by simp [upTo]
theorem upTo_succ (k : Nat) : upTo (k + 1) = upTo k ++ [(1, k + 2)] := by simp [upTo, List.range_succ]
theorem upTo_rise (k : Nat) : Rise (upTo k) := fun j hj => by
  rw [upTo_len] at hj
  have e : ∀ i, i < k → (upTo k).getD i (0, 0) = (1, i + 2) := fun i hi => by
    rw [List.getD_eq_getElem?_getD, upTo, List.getElem?_map, List.getElem?_range hi]; rfl
  rw [e j (by omega), e (j + 1) hj]
  exact .inr ⟨rfl, by show j + 2 < j + 1 + 2; omega⟩
theorem upTo_ok {k : Nat} (h : k ≤ 1000) : ∀ p ∈ upTo k, PrOk p := fun p hp => by
  obtain ⟨i, hi, rfl⟩ := List.mem_map.1 hp
  have := List.mem_range.1 hi
  exact ⟨by show 1 < 18446744073709551616; decide, by show i + 2 < 4294967296; omega⟩
theorem upTo_take {k m : Nat} (h : m ≤ k) : (upTo k).take m = upTo m := by
  rw [upTo, ← List.map_take, List.take_range, Nat.min_eq_left h]; rfl

set_option maxRecDepth 100000 in
set_option maxHeartbeats 8000000 in
theorem fbounds_any (W : World) (S : Int) (x : Int) (hS0 : -9223372036854775808 ≤ S) (hS1 : S ≤ 9223372036854775807) (hx0 : 0 ≤ x) (hx1 : x ≤ 65535) :
    Calls Try.prog 8 #[.int .i64 S, .int .u16 x] W fun r w' => r = .returned (.bool true) ∧ Below W.heap.size W w' := by
  obtain ⟨i0, hi, hz0, hz1, hz2⟩ := info_parts infoPair
  by_cases hs : 512 ≤ S ∧ S ≤ 4096
  · obtain ⟨s, rfl⟩ : ∃ s : Nat, S = (s : Int) := ⟨S.toNat, by omega⟩
    obtain ⟨y, rfl⟩ : ∃ y : Nat, x = (y : Int) := ⟨x.toNat, by omega⟩
    obtain ⟨hs1, hs2⟩ := hs
    have a1 : ¬ (s : Int) < 512 := by omega
    have a2 : ¬ (4096 : Int) < (s : Int) := by omega
    have hrb := room_bd hs1 hs2
    obtain ⟨M, hM⟩ : ∃ M : Nat, (M : Int) = roomI (s : Int) := ⟨(roomI (s : Int)).toNat, by omega⟩
    rw [← hM] at hrb
    have HM := Lib.hid hM
    have hs8 : IntKind.i64.wrap ((s : Int) - 8) = (s : Int) - 8 := IntWalk.i64_in _ (by omega)
    have hq : ((s : Int) - 8).tdiv 12 = (M : Int) := by
      rw [hM, roomI]; exact Int.tdiv_eq_ediv_of_nonneg (by omega)
    have hwM : IntKind.i64.wrap (M : Int) = (M : Int) := IntWalk.i64_in _ (by omega)
    obtain ⟨Y, hY⟩ : ∃ Y : Nat, Y = 2 + y % 5 := ⟨_, rfl⟩
    have hY2 : 2 ≤ Y := by omega
    have hY6 : Y ≤ 6 := by omega
    have hy5 : (y : Int).tmod 5 = ((y % 5 : Nat) : Int) := rfl
    have hyY : 2 + ((y % 5 : Nat) : Int) = (Y : Int) := by omega
    generalize y % 5 = z at hy5 hyY hY
    have hwz : IntKind.u16.wrap (z : Int) = (z : Int) := by rw [show IntKind.u16.wrap (z : Int) = (z : Int) % 65536 from rfl]; omega
    clear hM hY
    go_enter Try.func8, Try.ntmps8
    go_wp2_with (go_at_call 9; (with_reducible refine (awake10_any W).mono ?_); rintro r w1 ⟨rfl, hg⟩; have HG1 := Lib.hid hg; clear hg)
    go_loopg [11, 12] (M + 1) (fun gas v i wr => ∃ (k : Nat) (va : Option Addr) (vc : Nat), k + gas = M + 1 ∧ i = .int .i64 (k : Int) ∧ v = .slice va k vc ∧ Hid (POwn 65 w1.heap.size wr (.slice va k vc) (upTo k) ∧ w1.grownBy wr none))
    case atStart => exact ⟨0, none, 0, by omega, rfl, rfl, Lib.hid ⟨POwn.nil _ _ _, grefl _ _⟩⟩
    case round =>
      obtain ⟨k, va, vc, hk, rfl, rfl, HI⟩ := hrel
      by_cases hlt : k ≤ M
      · have hki : (k : Int) ≤ (M : Int) := by omega
        have hw32 : IntKind.u32.wrap ((k : Int) + 2) = ((k + 2 : Nat) : Int) := by rw [show IntKind.u32.wrap ((k : Int) + 2) = ((k : Int) + 2) % 4294967296 from rfl]; omega
        have HOK := Lib.hid (show PrOk (1, k + 2) from ⟨by show 1 < 18446744073709551616; decide, by show k + 2 < 4294967296; omega⟩)
        have HUL := Lib.hid (upTo_len k)
        obtain ⟨a2', ha2⟩ : ∃ a : Nat, a = k + 2 := ⟨_, rfl⟩
        rw [← ha2] at hw32 HOK
        have HA2 := Lib.hid ha2
        clear ha2
        go_wp2_with (at_builtin; refine wpList_append_own _ rfl _ _ 31 rfl w1.heap.size 65 i0 (.agg #[.int .u64 0, .int .u32 0]) 2 16 Try.underlying31 hi hz0 hz1 hz2 rfl (by decide) (.slice va k vc) k ((upTo k).flatMap prc) rfl (by have h := (HI.out.1.grown (World.grownBy_alloc wr (.cells #[.int .u64 ((1 : Nat) : Int), .int .u32 (a2' : Int)] 65) none)).1; rw [HUL.out] at h; exact h) ⟨wr.heap.size, 0, none⟩ 1 1 (prc (1, a2')) rfl rfl (lit_pair wr (1, a2') 65) (one_pair (1, a2')) (by unfold maxLen; omega) (by omega) (by have := HI.out.2.size; simp; omega) ?_; intro v' w5 hown hgrow _; obtain ⟨g', cap', rfl⟩ := ownsRow_succ hown; have HW5 := Lib.hid hown; have HG5 := Lib.hid hgrow; clear hown hgrow)
        have hga := World.grownBy_alloc wr (.cells #[.int .u64 ((1 : Nat) : Int), .int .u32 (a2' : Int)] 65) none
        have HPU := Lib.hid ((HI.out.1.grown hga).push HOK.out HUL.out.symm HW5.out)
        have HGF := Lib.hid (grow_own (gtrans HI.out.2 hga) (HI.out.1.grown hga).1 HG5.out (Nat.le_refl _))
        clear hga
        go_roundg (M + 1 - (k + 1))
        case rel => exact ⟨k + 1, _, _, by omega, by simp, rfl, Lib.hid ⟨by rw [upTo_succ, ← HA2.out]; exact HPU.out, HGF.out⟩⟩
        case measure => omega
      · obtain rfl : k = M + 1 := by omega
        have hki : ¬ ((M + 1 : Nat) : Int) ≤ (M : Int) := by omega
        have hcp := (show PrSq (fun b => w1.heap.size ≤ b) wr (.slice va (M + 1) vc) (upTo (M + 1)) from HI.out.1.sq).len.2.1
        have HO := Lib.hid (show PrSq (fun b => w1.heap.size ≤ b) wr (.slice va (M + 1) vc) (upTo (M + 1)) from HI.out.1.sq)
        have HG := Lib.hid (gtrans HG1.out HI.out.2)
        have HH := Lib.hid (HO.out.pre (k := M) (by omega))
        have HT := Lib.hid (upTo_take (show M ≤ M + 1 by omega))
        have HUL := Lib.hid (upTo_len (M + 1))
        rw [HT.out] at HH
        have HRF := Lib.hid (show RightF (upTo M) (s : Int) from ⟨hs1, hs2, by rw [upTo_len, HM.out]; omega, upTo_rise M⟩)
        have HNF := Lib.hid (show ¬ RightF (upTo (M + 1)) (s : Int) from fun k => by have := k.2.2.1; rw [upTo_len, ← HM.out] at this; omega)
        have HMY := Lib.hid (show manyF ((M + 1 : Nat) : Int) (s : Int) = 2 by
          rw [manyF, if_pos ⟨by omega, hs1, hs2⟩, ← HM.out]
          have : (((M + 1 : Nat) : Int) - 1) / (M : Int) = 1 := by
            rw [show (((M + 1 : Nat) : Int) - 1) = (M : Int) by omega]; exact Int.ediv_self (by omega)
          omega)
        have HP0 := Lib.hid (show (partF (upTo (M + 1)) M 0).length = M by
          rw [partF, List.length_take, List.length_drop, upTo_len]; omega)
        have HP1 := Lib.hid (show (partF (upTo (M + 1)) M 1).length = 1 by
          rw [partF, List.length_take, List.length_drop, upTo_len]; omega)
        have hv9 : vc ≤ 9223372036854775807 := by have h9 : maxLen ≤ 9223372036854775807 := by decide
                                                  have := HO.out.len.2.2
                                                  omega
        have hMc : (M : Int) ≤ (vc : Int) := by omega
        have hM0 : (0 : Int) ≤ (M : Int) := by omega
        go_wp2_with (first
          | (go_at_call 24; (with_reducible refine (zput_ok wr _ va M vc (upTo M) 5 s (s : Int) rfl HH.out (by decide) (by decide) HRF.out).mono ?_); rintro r w2 ⟨v2, rfl, _, hg⟩; have HO2 := Lib.hid (HO.out.grown hg); have HG2 := Lib.hid (gtrans HG.out hg); clear hg)
          | (go_at_call 24; (with_reducible refine (zput_no w2 _ va (M + 1) vc (upTo (M + 1)) 5 (s : Int) HO2.out HNF.out).mono ?_); rintro r w3 ⟨rfl, hg⟩; have HO3 := Lib.hid (HO2.out.grown hg); have HG3 := Lib.hid (gtrans HG2.out hg); clear hg)
          | (go_at_call 22; (with_reducible refine (spread_full w3 va (M + 1) vc 1 (s : Int) (by omega) hs1 hs2 (by decide) (by decide) (by rw [HMY.out]; decide)).mono ?_); rintro r w4 ⟨rfl, hg⟩; have HO4 := Lib.hid (HO3.out.grown hg); have HG4 := Lib.hid (gtrans HG3.out hg); clear hg)
          | (go_at_call 22; (with_reducible refine (spread_ok w4 _ va (M + 1) vc (upTo (M + 1)) (Y : Int) (s : Int) Y M rfl HM.out HO4.out (by rw [HUL.out]; omega) hs1 hs2 (by omega) (by rw [HMY.out]; omega)).mono ?_); rintro r w5 ⟨v, vals, q, rfl, ho, hg⟩; obtain ⟨hv, hrow, heach⟩ := ho; subst hv; obtain ⟨u0, k0, p0⟩ := heach 0 (by omega); obtain ⟨u1, k1, p1⟩ := heach 1 (by omega); obtain ⟨a0, c0, rfl⟩ := p0.shape; obtain ⟨a1', c1, rfl⟩ := p1.shape; have c0' := World.ownsRow.cells hrow (g := q) rfl 0 _ k0; have c1' := World.ownsRow.cells hrow (g := q) rfl 1 _ k1; rw [Addr.add_lit] at c0' c1'; rw [HP0.out] at c0'; rw [HP1.out] at c1'; have HG5 := Lib.hid (gtrans HG4.out hg); have hY0 : (0 : Int) < (Y : Int) := (by omega); have hY1 : (1 : Int) < (Y : Int) := (by omega); clear hg hrow heach k0 k1 p0 p1))
        go_ret
        exact ⟨rfl, gbelow HG5.out⟩
  · have hcs : S < 512 ∨ (¬ S < 512 ∧ 4096 < S) := by omega
    have HA := Lib.hid (show ¬ RightF [] S from fun k => hs ⟨k.1, k.2.1⟩)
    have HB := Lib.hid (show ¬ ((512 ≤ S ∧ S ≤ 4096) ∧ (0 : Int) ≤ 1 ∧ (1 : Int) ≤ 65536) from fun k => hs k.1)
    clear hs
    rcases hcs with a1 | ⟨a1, a2⟩
    all_goals
      go_enter Try.func8, Try.ntmps8
      go_wp2_with (first
        | (go_at_call 9; (with_reducible refine (awake10_any W).mono ?_); rintro r w1 ⟨rfl, hg⟩; have HG1 := Lib.hid hg; clear hg)
        | (go_at_call 24; (with_reducible refine (zput_no w1 _ none 0 0 [] 0 S (prsq_nil (fun _ => True) _) HA.out).mono ?_); rintro r w3 ⟨rfl, hg⟩; have HG3 := Lib.hid (gtrans HG1.out hg); clear hg)
        | (go_at_call 22; (with_reducible refine (spread_arg w3 none 0 0 1 S HB.out).mono ?_); rintro r w4 ⟨rfl, hg⟩; have HG4 := Lib.hid (gtrans HG3.out hg); clear hg))
      go_ret
      exact ⟨rfl, gbelow HG4.out⟩

open Go.ChangeShapes Go.WideShapes Go.ChangeAt
set_option linter.unusedVariables false
set_option maxRecDepth 100000 in
theorem fbounds_lifted (os : Os) (started : os.Started) (H : Type) (enc : TypeId × Value → H) :
    ReturnsInHanded {} Try.checked os 8 .any (Rows.freedBoundsSpec.pre6 enc Try.prog Try.f8 Rows.freedBoundsRow.domain false) (Rows.freedBoundsSpec.post enc Try.prog Try.f8 false true false false) := by
  refine returnsInHanded_of_change (C := Try.checked) ownKnob0 started (by kernel_rfl) Try.func8
    (ChangeSpec.witness6 (enc := enc) (C := Try.checked) false ⟨#[], #[.int .i64 0, .int .u16 0], []⟩ 8 (by kernel_rfl) (by kernel_rfl) (by kernel_rfl) (by kernel_rfl)) ?_
  intro W base args ds gs before hval0 hW hcnd _
  have hval : ∀ (j : Nat) t v, Try.f8.params[j]? = some t → args[j]? = some v → Value.okWide Try.prog W .any base t v := hval0
  have hW' := hW
  obtain ⟨p, q, hA0, hV, rfl, hfz, hnd⟩ := hW
  have hA : DataW.TrodAll enc Try.prog W 0 (fun _ => true) true Try.f8.params.toList args.toList ds p := hA0
  rw [Try.params8] at hA hval
  obtain ⟨v0, vs0, d0, ds0, p0, q0, hargs, rfl, rfl, h0, r0⟩ := trodAll_cons hA
  obtain ⟨v1, vs1, d1, ds1, p1, q1, rfl, rfl, rfl, h1, r1⟩ := trodAll_cons r0
  obtain ⟨rfl, rfl, rfl⟩ := trodAll_nil r1
  obtain rfl : args = #[v0, v1] := by cases args; simp_all
  obtain ⟨rfl, rfl⟩ := trodVars_none hV
  obtain ⟨a0, rfl, rfl, rfl, w0⟩ := open_int Try.underlying3 (hval 0 3 v0 rfl rfl) h0
  have b0 := bounds_i64 w0
  obtain ⟨a1, rfl, rfl, rfl, w1⟩ := open_int Try.underlying58 (hval 1 58 v1 rfl rfl) h1
  have b1 := bounds_u16 w1
  clear hA0 hval0
  refine (fbounds_any W a0 a1 b0.1 b0.2 b1.1 b1.2).mono fun e W' ⟨he, bel⟩ => ?_
  subst he
  exact ⟨_, rfl, _, _, _, [], _, [], hW', trodAll_mk1 (shut_bool Try.underlying4 _), (trodAll_cons_mk (shut_int Try.underlying3 w0) (trodAll_cons_mk (shut_int Try.underlying58 w1) trodAll_mk0)), rfl, bel.frame _, fun h => by cases h⟩

/-- FreedBounds, for every input. -/
theorem freedBounds_holds : Rows.FreedBoundsSaid :=
  OpenClaim.holds_of_wide 8 Try.f8 rfl rfl rfl rfl rfl rfl rfl ⟨rfl, rfl, rfl, rfl, rfl⟩ rfl rfl rfl rfl rfl (by kernel_rfl) Try.func8 (by kernel_rfl)
    (of_decide_eq_true (by kernel_rfl)) (by unfold Func.isWrapper; first | (rw [if_pos (by decide +kernel)]; kernel_rfl) | (rw [if_neg (by decide +kernel)]; exact ⟨rfl, rfl⟩))
    (fun os started H enc _ => fbounds_lifted os started H enc)
#print axioms freedBounds_holds

end Go.Proofs.Ytpgpilalhbdidaa

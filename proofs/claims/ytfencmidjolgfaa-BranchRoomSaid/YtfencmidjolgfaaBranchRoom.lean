/-
  'BranchRoom' returns true for every input: entries that are right go into a page just if they fill no more than it has; each one fills 7 and its key more. No condition. Own work; the frame is the guide's.
-/
import Derived.Test.YtfencmidjolgfaaBeF
import Derived.Test.YtfencmidjolgfaaBrT
import Derived.Test.YtfencmidjolgfaaBrF
import Derived.Deep.LoopGhost
import Derived.ProofKit
import Derived.OpenShut
import Derived.ShutString
import Derived.ChangeOld
namespace Go.Proofs.Ytfencmidjolgfaa
open Go.RowKit

set_option maxRecDepth 100000 in
set_option maxHeartbeats 8000000 in
theorem broom_any (w : World) (ao : Option Addr) (n c : Nat) (l : List En) (size : Int) (h : Raws5 w (.slice ao n c) l) (h0 : -9223372036854775808 ≤ size) (h9 : size ≤ 9223372036854775807) :
    Calls Try.prog 13 #[.slice ao n c, .int .i64 size] w fun r w' => r = .returned (.bool true) ∧ Below w.heap.size w w' := by
  have H := Lib.hid h
  clear h
  by_cases hf : FewP5 l
  · have HF := Lib.hid hf
    clear hf
    go_enter Try.func13, Try.ntmps13
    go_wp2_with (first
      | (go_at_call 30; refine (awake5_any _).mono ?_; rintro r wA ⟨rfl, hgA⟩; have HGA := Lib.hid hgA; clear hgA)
      | (go_at_call 31; refine (few5_yes H.out (gbelow HGA.out) HF.out).mono ?_; rintro r w1 ⟨rfl, rfl⟩)
      | (go_at_call 32; refine (ents5_s H.out (gbelow HGA.out) HF.out).mono ?_; rintro r w1 ⟨la, m, lc, rv, X, rfl, hm, hm30, hfi, hen, hrr, hg1⟩; obtain ⟨ra, rc, rfl⟩ := hrr.shape; have HM := Lib.hid hm; have HFI := Lib.hid hfi; have HEN := Lib.hid hen; have HG1 := Lib.hid (gtrans HGA.out hg1); clear hm hfi hen hrr hg1))
    by_cases hr : BRightP X size
    · obtain ⟨S, rfl⟩ : ∃ S : Nat, size = (S : Int) := ⟨size.toNat, by have := hr.1; omega⟩
      have HR := Lib.hid hr
      clear hr
      go_wp2_with (go_at_call 36; refine (bright_yes HEN.out (Nat.le_refl _) HR.out).mono ?_; rintro r w2 ⟨rfl, hg2⟩; have HG2 := Lib.hid hg2; clear hg2)
      go_loopg [9, 10] m (fun q s i wr => ∃ (k : Nat), k + q = m ∧ i = .int .i64 (k : Int) ∧ s = .int .i64 (fillK brY X k) ∧ fillK brY X k ≤ 4 + 200006 * k ∧ w1.grownBy wr none)
      case atStart => exact ⟨0, by omega, rfl, rfl, Nat.le_refl _, HG2.out⟩
      case round =>
        obtain ⟨k, hkq, rfl, rfl, hfb, hgr⟩ := hrel
        have HGR := Lib.hid hgr
        clear hgr
        by_cases hlt : k < m
        · obtain ⟨q, rfl⟩ : ∃ q, gk = q + 1 := ⟨gk - 1, by omega⟩
          have hki : (k : Int) < (m : Int) := by omega
          obtain ⟨x, hx⟩ : ∃ x, X[k]? = some x := ⟨_, List.getElem?_eq_getElem (by have := HM.out; omega)⟩
          obtain ⟨b, o, rfl, hb, a1, c1, h1, h3, q0, q1⟩ := (HEN.out.grown HGR.out (Nat.le_refl _)).at k x hx
          have hs01 : fillK brY X (k + 1) = fillK brY X k + (7 + x.key.length) := by have := bfillK_snoc hx; unfold bcl at this; omega
          have hkl := h3.ok.kl
          obtain ⟨s0, hs0⟩ : ∃ s0, s0 = fillK brY X k := ⟨_, rfl⟩
          obtain ⟨s1, hs1⟩ : ∃ s1, s1 = fillK brY X (k + 1) := ⟨_, rfl⟩
          rw [← hs0, ← hs1] at hs01
          rw [← hs0] at hfb ⊢
          have hsb : s1 ≤ 4 + 200006 * (k + 1) := by omega
          have hw1 : IntKind.i64.wrap (7 + (x.key.length : Int)) = 7 + (x.key.length : Int) := IntWalk.i64_in _ (by omega)
          have hw2 : IntKind.i64.wrap ((s0 : Int) + (7 + (x.key.length : Int))) = (s1 : Int) := by rw [IntWalk.i64_in _ (by omega)]; omega
          have hk1 : IntKind.i64.wrap ((k : Int) + 1) = (k : Int) + 1 := IntWalk.i64_in _ (by omega)
          have HS1 := Lib.hid hs1
          have HSB := Lib.hid hsb
          clear h1 h3 hx hs0 hs1 hs01 hkl hfb hsb q1
          go_wp2
          go_roundg q
          case measure => omega
          case rel => exact ⟨k + 1, by omega, by go_num, by rw [HS1.out], by rw [← HS1.out]; exact HSB.out, HGR.out⟩
        · obtain rfl : k = m := by omega
          obtain ⟨F, hF⟩ : ∃ F, F = fillK brY X k := ⟨_, rfl⟩
          rw [← hF] at hfb ⊢
          have HFL := Lib.hid (show fillL brY X = F by rw [hF, HM.out]; rfl)
          have HEN2 := Lib.hid (HEN.out.grown HGR.out (Nat.le_refl _))
          have hsz := HGR.out.size
          clear hF
          by_cases hle : F ≤ S
          · have hle1 : (F : Int) ≤ (S : Int) := by omega
            have KP := Lib.hid (fun W (hw : w1.grownBy W none) => bput_ok W w1.heap.size la k lc X S (HEN.out.grown hw (Nat.le_refl _)) hw.size HR.out (by rw [HFL.out]; exact hle))
            go_wp2_with (first
              | (go_at_call 33; refine (KP.out _ HGR.out).mono ?_; rintro r w3 ⟨b, rfl, _, _, hg3⟩; have HG3 := Lib.hid (gtrans HGR.out hg3); clear hg3)
              | (go_at_call 37; have KF := bfill_any w3 w1.heap.size la k lc X (HEN.out.grown HG3.out (Nat.le_refl _)) HG3.out.size; rw [HFL.out] at KF; refine KF.mono ?_; clear KF; rintro r w4 ⟨rfl, hg4⟩; have HG4 := Lib.hid (gtrans HG3.out hg4); clear hg4))
            go_ret
            exact ⟨by simp [hle1], gbelow (gtrans HG1.out HG4.out)⟩
          · have hle1 : ¬ (F : Int) ≤ (S : Int) := by omega
            have hlt1 : (S : Int) < (fillL brY X : Int) := by rw [HFL.out]; omega
            have KP := Lib.hid (fun W (hw : w1.grownBy W none) => bput_full W w1.heap.size la k lc X S (HEN.out.grown hw (Nat.le_refl _)) hw.size HR.out hlt1)
            clear hlt1 hle
            go_wp2_with (first
              | (go_at_call 33; refine (KP.out _ HGR.out).mono ?_; rintro r w3 ⟨rfl, hg3⟩; have HG3 := Lib.hid (gtrans HGR.out hg3); clear hg3)
              | (go_at_call 37; have KF := bfill_any w3 w1.heap.size la k lc X (HEN.out.grown HG3.out (Nat.le_refl _)) HG3.out.size; rw [HFL.out] at KF; refine KF.mono ?_; clear KF; rintro r w4 ⟨rfl, hg4⟩; have HG4 := Lib.hid (gtrans HG3.out hg4); clear hg4))
            go_ret
            exact ⟨by simp [hle1]; omega, gbelow (gtrans HG1.out HG4.out)⟩
    · have HR := Lib.hid hr
      clear hr
      go_wp2_with (go_at_call 36; refine (bright_no HEN.out (Nat.le_refl _) HR.out).mono ?_; rintro r w2 ⟨rfl, hg2⟩; have HG2 := Lib.hid (gtrans HG1.out hg2); clear hg2)
      go_ret
      exact ⟨rfl, gbelow HG2.out⟩
  · have HF := Lib.hid hf
    clear hf
    go_enter Try.func13, Try.ntmps13
    go_wp2_with (first
      | (go_at_call 30; refine (awake5_any _).mono ?_; rintro r wA ⟨rfl, hgA⟩; have HGA := Lib.hid hgA; clear hgA)
      | (go_at_call 31; refine (few5_no H.out (gbelow HGA.out) HF.out).mono ?_; rintro r w1 ⟨rfl, rfl⟩))
    go_ret
    exact ⟨rfl, gbelow HGA.out⟩

open Go.ChangeShapes Go.WideShapes Go.ChangeAt
set_option linter.unusedVariables false
set_option maxRecDepth 100000 in
theorem broom_lifted (os : Os) (started : os.Started) (H : Type) (enc : TypeId × Value → H) :
    ReturnsInHanded {} Try.checked os 13 .any (Rows.branchRoomSpec.pre6 enc Try.prog Try.f13 Rows.branchRoomRow.domain false) (Rows.branchRoomSpec.post enc Try.prog Try.f13 false true false false) := by
  refine returnsInHanded_of_change (C := Try.checked) ownKnob0 started (by kernel_rfl) Try.func13
    (ChangeSpec.witness6 (enc := enc) (C := Try.checked) false ⟨#[], #[.slice none 0 0, .int .i64 0], []⟩ 8 (by kernel_rfl) (by kernel_rfl) (by kernel_rfl) (by kernel_rfl)) ?_
  intro W base args ds gs before hval0 hW hcnd _
  have hval : ∀ (j : Nat) t v, Try.f13.params[j]? = some t → args[j]? = some v → Value.okWide Try.prog W .any base t v := hval0
  have hW' := hW
  obtain ⟨p, q, hA0, hV, rfl, hfz, hnd⟩ := hW
  have hA : DataW.TrodAll enc Try.prog W 0 (fun _ => true) true Try.f13.params.toList args.toList ds p := hA0
  rw [Try.params13] at hA hval
  obtain ⟨v0, vs0, d0, ds0, p0, q0, hargs, rfl, rfl, h0, r0⟩ := trodAll_cons hA
  obtain ⟨v1, vs1, d1, ds1, p1, q1, rfl, rfl, rfl, h1, r1⟩ := trodAll_cons r0
  obtain ⟨rfl, rfl, rfl⟩ := trodAll_nil r1
  obtain rfl : args = #[v0, v1] := by cases args; simp_all
  obtain ⟨rfl, rfl⟩ := trodVars_none hV
  obtain ⟨a0, len0, cap0, rfl⟩ := okWide_slice Try.underlying62 (hval 0 62 v0 rfl rfl)
  have lt0 : ∀ x ∈ p0, x.block < W.heap.size := by obtain ⟨m, hm⟩ := h0; exact DataW.trod_lt m _ _ _ hm
  obtain ⟨z0, w0⟩ := open_raws5 h0
  obtain ⟨a1, rfl, rfl, rfl, w1⟩ := open_int Try.underlying3 (hval 1 3 v1 rfl rfl) h1
  have b1 := bounds_i64 w1
  clear hA0 hval0
  refine (broom_any W a0 len0 cap0 z0 a1 w0 b1.1 b1.2).mono fun e W' ⟨he, bel⟩ => ?_
  subst he
  exact ⟨_, rfl, _, _, _, [], _, [], hW', trodAll_mk1 (shut_bool Try.underlying4 _), (trodAll_cons_mk (Below.trod laidOut0 (by kernel_rfl) (of_decide_eq_true (by kernel_rfl)) h0 bel lt0) (trodAll_cons_mk (shut_int Try.underlying3 w1) trodAll_mk0)), rfl, bel.frame _, fun h => by cases h⟩

/-- BranchRoom, for every input. -/
theorem branchRoom_holds : Rows.BranchRoomSaid :=
  OpenClaim.holds_of_wide 13 Try.f13 rfl rfl rfl rfl rfl rfl rfl ⟨rfl, rfl, rfl, rfl, rfl⟩ rfl rfl rfl rfl rfl (by kernel_rfl) Try.func13 (by kernel_rfl)
    (of_decide_eq_true (by kernel_rfl)) (by unfold Func.isWrapper; first | (rw [if_pos (by decide +kernel)]; kernel_rfl) | (rw [if_neg (by decide +kernel)]; exact ⟨rfl, rfl⟩))
    (fun os started H enc _ => broom_lifted os started H enc)
#print axioms branchRoom_holds

end Go.Proofs.Ytfencmidjolgfaa

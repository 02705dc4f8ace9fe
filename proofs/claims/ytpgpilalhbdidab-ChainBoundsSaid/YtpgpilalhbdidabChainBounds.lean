/-
  'ChainBounds' returns true for every input: a part of one byte, and the greatest one, go; none, and a greater one, don't. No condition. Own work; the frame is the guide's.
-/
import Derived.Test.YtpgpilalhbdidabChaD
import Derived.ProofKit
import Derived.OpenShut
import Derived.ShutString
import Derived.ChangeOld
namespace Go.Proofs.Ytpgpilalhbdidab
open Go.RowKit

set_option maxHeartbeats 4000000 in
theorem cbounds_any (w : World) (size x : Int) (z0 : -9223372036854775808 ≤ size) (z1 : size ≤ 9223372036854775807) (x0 : 0 ≤ x) (x1 : x ≤ 4294967295) :
    Calls Try.prog 7 #[.int .i64 size, .int .u32 x] w fun r w' => r = .returned (.bool true) ∧ Below w.heap.size w w' := by
  obtain ⟨i0, hi, hz0, hz1, hz2⟩ := info_parts infoU8
  by_cases hs : 512 ≤ size ∧ size ≤ 4096
  · obtain ⟨S, rfl⟩ : ∃ S : Nat, size = (S : Int) := ⟨size.toNat, by omega⟩
    have hS1 : 512 ≤ S := by omega
    have hS2 : S ≤ 4096 := by omega
    have hd0 : decide ((S : Int) < 512) = false := by simp; omega
    have hd1 : decide ((4096 : Int) < (S : Int)) = false := by simp; omega
    have hd2 : decide (S < 512) = false := by simp; omega
    have hd3 : decide (4096 < S) = false := by simp; omega
    obtain ⟨S8, hS8⟩ : ∃ k, k = S - 8 := ⟨_, rfl⟩
    obtain ⟨S7, hS7⟩ : ∃ k, k = S - 7 := ⟨_, rfl⟩
    have N0 := Lib.hid (show ¬ RightC ((0 : Nat) : Int) (S : Int) from fun h => by have := h.2.2.1; omega)
    have R1 := Lib.hid (show RightC ((1 : Nat) : Int) (S : Int) from ⟨by omega, by omega, by omega, by omega⟩)
    have R8 := Lib.hid (show RightC (S8 : Int) (S : Int) from ⟨by omega, by omega, by omega, by omega⟩)
    have N7 := Lib.hid (show ¬ RightC (S7 : Int) (S : Int) from fun h => by have := h.2.2.2; omega)
    have E8 := Lib.hid (show (S : Int) - 8 = (S8 : Int) by omega)
    have E7 := Lib.hid (show (S : Int) - 7 = (S7 : Int) by omega)
    have M8 := Lib.hid (show ((S : Int) - 8 - 1) / ((S : Int) - 8) + 1 = 1 by rw [Int.ediv_eq_zero_of_lt (by omega) (by omega)]; rfl)
    have M7 := Lib.hid (show ((S : Int) - 7 - 1) / ((S : Int) - 8) + 1 = 2 by rw [show (S : Int) - 7 - 1 = (S : Int) - 8 by omega, Int.ediv_self (by omega)]; rfl)
    have hS89 : S8 ≤ 4096 := by omega
    have hS79 : S7 ≤ 4096 := by omega
    clear hS8 hS7 hs
    go_enter Try.func7, Try.ntmps7
    go_wp2_with (first
      | (go_at_call 9; refine (awake6_any _).mono ?_; rintro r wA ⟨rfl, hgA⟩; have HGA := Lib.hid hgA; clear hgA)
      | (go_at_call 14; have Kc := cput_arg wA none 0 0 x (S : Int) N0.out; ((with_reducible refine Kc.mono ?_); clear Kc; rintro r wq ⟨rfl, rfl⟩))
      | (at_make; refine wpList_make_full _ rfl _ _ 22 rfl 0 5 i0 (.int .u8 0) 1 Try.underlying22 hi hz0 hz1 .i64 .i64 _ _ 1 rfl rfl ?c1 ?c2 ?c3 ?c4 (Nat.zero_le _) ?_; (case c1 => rfl); (case c2 => rfl); (case c3 => rw [hz2]; omega); (case c4 => unfold maxLen; omega); intro wM hown hgM; have HM1 := Lib.hid (seq_made hown); have G1 := Lib.hid (gtrans HGA.out hgM); clear hown hgM)
      | (go_at_call 14; have Kc := cput_ok wM wM.heap.size _ 1 1 (List.replicate 1 0) x S HM1.out (Nat.le_refl _) x0 x1 R1.out; ((with_reducible refine Kc.mono ?_); clear Kc; rintro r w2 ⟨b1, rfl, _, _, hg⟩); have G2 := Lib.hid (gtrans G1.out hg); clear hg)
      | (at_make; refine wpList_make_full _ rfl _ _ 22 rfl 0 5 i0 (.int .u8 0) 1 Try.underlying22 hi hz0 hz1 .i64 .i64 _ _ S8 rfl rfl ?c1 ?c2 ?c3 ?c4 (Nat.zero_le _) ?_; (case c1 => exact E8.out); (case c2 => exact E8.out); (case c3 => rw [hz2]; omega); (case c4 => unfold maxLen; omega); intro wN hown hgM; have HM8 := Lib.hid (seq_made hown); have G3 := Lib.hid (gtrans G2.out hgM); clear hown hgM)
      | (go_at_call 14; have Kc := cput_ok wN wN.heap.size _ S8 S8 (List.replicate S8 0) x S HM8.out (Nat.le_refl _) x0 x1 R8.out; ((with_reducible refine Kc.mono ?_); clear Kc; rintro r w4 ⟨b2, rfl, _, _, hg⟩); have G4 := Lib.hid (gtrans G3.out hg); clear hg)
      | (at_make; refine wpList_make_full _ rfl _ _ 22 rfl 0 5 i0 (.int .u8 0) 1 Try.underlying22 hi hz0 hz1 .i64 .i64 _ _ S7 rfl rfl ?c1 ?c2 ?c3 ?c4 (Nat.zero_le _) ?_; (case c1 => exact E7.out); (case c2 => exact E7.out); (case c3 => rw [hz2]; omega); (case c4 => unfold maxLen; omega); intro wO hown hgM; have G5 := Lib.hid (gtrans G4.out hgM); clear hown hgM)
      | (go_at_call 14; have Kc := cput_arg wO (some ⟨w4.heap.size, 0, none⟩) S7 S7 x (S : Int) N7.out; ((with_reducible refine Kc.mono ?_); clear Kc; rintro r wq ⟨rfl, rfl⟩))
      | (go_at_call 12; have Kc := cmany_yes wO ((S : Int) - 8) (S : Int) 1 (by omega) (by omega) (by omega) (by omega) M8.out; ((with_reducible refine Kc.mono ?_); clear Kc; rintro r wq ⟨rfl, rfl⟩))
      | (go_at_call 12; have Kc := cmany_yes wO ((S : Int) - 7) (S : Int) 2 (by omega) (by omega) (by omega) (by omega) M7.out; ((with_reducible refine Kc.mono ?_); clear Kc; rintro r wq ⟨rfl, rfl⟩)))
    go_ret
    exact ⟨rfl, gbelow G5.out⟩
  · have N1 := Lib.hid (show ¬ RightC ((1 : Nat) : Int) size from fun h => hs ⟨h.1, h.2.1⟩)
    by_cases hlo : size < 512
    · have hd0 : decide (size < 512) = true := by simpa using hlo
      clear hs
      go_enter Try.func7, Try.ntmps7
      go_wp2_with (first
        | (go_at_call 9; refine (awake6_any _).mono ?_; rintro r wA ⟨rfl, hgA⟩; have HGA := Lib.hid hgA; clear hgA)
        | (go_at_call 14; have Kc := cput_arg (wA.alloc (.cells #[.int .u8 1] 5)) (some ⟨wA.heap.size, 0, none⟩) 1 1 x size N1.out; ((with_reducible refine Kc.mono ?_); clear Kc; rintro r wq ⟨rfl, rfl⟩)))
      go_ret
      exact ⟨rfl, gbelow (gtrans HGA.out (World.grownBy_alloc _ _ _))⟩
    · have hd0 : decide (size < 512) = false := by simpa using hlo
      have hd1 : decide ((4096 : Int) < size) = true := by simp; omega
      clear hs
      go_enter Try.func7, Try.ntmps7
      go_wp2_with (first
        | (go_at_call 9; refine (awake6_any _).mono ?_; rintro r wA ⟨rfl, hgA⟩; have HGA := Lib.hid hgA; clear hgA)
        | (go_at_call 14; have Kc := cput_arg (wA.alloc (.cells #[.int .u8 1] 5)) (some ⟨wA.heap.size, 0, none⟩) 1 1 x size N1.out; ((with_reducible refine Kc.mono ?_); clear Kc; rintro r wq ⟨rfl, rfl⟩)))
      go_ret
      exact ⟨rfl, gbelow (gtrans HGA.out (World.grownBy_alloc _ _ _))⟩

open Go.ChangeShapes Go.WideShapes Go.ChangeAt
set_option linter.unusedVariables false
set_option maxRecDepth 100000 in
theorem cbounds_lifted (os : Os) (started : os.Started) (H : Type) (enc : TypeId × Value → H) :
    ReturnsInHanded {} Try.checked os 7 .any (Rows.chainBoundsSpec.pre6 enc Try.prog Try.f7 Rows.chainBoundsRow.domain false) (Rows.chainBoundsSpec.post enc Try.prog Try.f7 false true false false) := by
  refine returnsInHanded_of_change (C := Try.checked) ownKnob0 started (by kernel_rfl) Try.func7
    (ChangeSpec.witness6 (enc := enc) (C := Try.checked) false ⟨#[], #[.int .i64 0, .int .u32 0], []⟩ 8 (by kernel_rfl) (by kernel_rfl) (by kernel_rfl) (by kernel_rfl)) ?_
  intro W base args ds gs before hval0 hW hcnd _
  have hval : ∀ (j : Nat) t v, Try.f7.params[j]? = some t → args[j]? = some v → Value.okWide Try.prog W .any base t v := hval0
  have hW' := hW
  obtain ⟨p, q, hA0, hV, rfl, hfz, hnd⟩ := hW
  have hA : DataW.TrodAll enc Try.prog W 0 (fun _ => true) true Try.f7.params.toList args.toList ds p := hA0
  rw [Try.params7] at hA hval
  obtain ⟨v0, vs0, d0, ds0, p0, q0, hargs, rfl, rfl, h0, r0⟩ := trodAll_cons hA
  obtain ⟨v1, vs1, d1, ds1, p1, q1, rfl, rfl, rfl, h1, r1⟩ := trodAll_cons r0
  obtain ⟨rfl, rfl, rfl⟩ := trodAll_nil r1
  obtain rfl : args = #[v0, v1] := by cases args; simp_all
  obtain ⟨rfl, rfl⟩ := trodVars_none hV
  obtain ⟨a0, rfl, rfl, rfl, w0⟩ := open_int Try.underlying3 (hval 0 3 v0 rfl rfl) h0
  have b0 := bounds_i64 w0
  obtain ⟨a1, rfl, rfl, rfl, w1⟩ := open_int Try.underlying30 (hval 1 30 v1 rfl rfl) h1
  have b1 := bounds_u32 w1
  clear hA0 hval0
  refine (cbounds_any W a0 a1 b0.1 b0.2 b1.1 b1.2).mono fun e W' ⟨he, bel⟩ => ?_
  subst he
  exact ⟨_, rfl, _, _, _, [], _, [], hW', trodAll_mk1 (shut_bool Try.underlying4 _), (trodAll_cons_mk (shut_int Try.underlying3 w0) (trodAll_cons_mk (shut_int Try.underlying30 w1) trodAll_mk0)), rfl, bel.frame _, fun h => by cases h⟩

/-- ChainBounds, for every input. -/
theorem chainBounds_holds : Rows.ChainBoundsSaid :=
  OpenClaim.holds_of_wide 7 Try.f7 rfl rfl rfl rfl rfl rfl rfl ⟨rfl, rfl, rfl, rfl, rfl⟩ rfl rfl rfl rfl rfl (by kernel_rfl) Try.func7 (by kernel_rfl)
    (of_decide_eq_true (by kernel_rfl)) (by unfold Func.isWrapper; first | (rw [if_pos (by decide +kernel)]; kernel_rfl) | (rw [if_neg (by decide +kernel)]; exact ⟨rfl, rfl⟩))
    (fun os started H enc _ => cbounds_lifted os started H enc)
#print axioms chainBounds_holds

end Go.Proofs.Ytpgpilalhbdidab

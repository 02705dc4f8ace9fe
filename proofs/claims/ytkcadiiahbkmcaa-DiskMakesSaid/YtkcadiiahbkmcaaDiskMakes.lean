/-
  'DiskMakes' returns true for every input: there is a disk just of sizes and limits that may be, without pages at first, and it grows just to its limit. No condition. Own work.
-/
import Derived.Test.YtkcadiiahbkmcaaDskS
import Derived.Laws.BitsLemmas
import Derived.ProofKit
import Derived.OpenShut
import Derived.ChangeOld
namespace Go.Proofs.Ytkcadiiahbkmcaa
open Go.RowKit

theorem and31 (n : Int) : bits .and .i64 n 31 = n % 32 := by
  have h31 : (BitVec.ofInt 64 31).toNat = 2 ^ 5 - 1 := by decide
  have key : (BitVec.ofInt 64 n &&& BitVec.ofInt 64 31).toNat = (n % ((2 ^ 64 : Nat) : Int)).toNat % 2 ^ 5 := by
    rw [BitVec.toNat_and, BitVec.toNat_ofInt, h31, Nat.and_two_pow_sub_one_eq_mod]
  show IntKind.i64.wrap ((BitVec.ofInt 64 n &&& BitVec.ofInt 64 31).toNat : Nat) = n % 32
  rw [key, IntKind.wrap_i64]
  omega

set_option maxRecDepth 100000 in
set_option maxHeartbeats 4000000 in
theorem makes_no (W : World) (s l n : Int) (hs1 : -9223372036854775808 ≤ s) (hs2 : s ≤ 9223372036854775807) (h : ¬ May s l) :
    Calls Try.prog 4 #[.int .i64 s, .int .i64 l, .int .i64 n] W fun r w' => r = .returned (.bool true) ∧ Below W.heap.size W w' := by
  have hnot : ∀ (x : Bool) (w : World), (Op.unary .not (.bool x)).run Try.prog w = .ok (.bool (!x)) w := fun _ _ => rfl
  have HM := Lib.hid h
  by_cases c1 : s < 512
  · clear h
    go_enter Try.func4, Try.ntmps4
    go_wp2_with (first
      | (go_at_call 9; refine (awake3_any _).mono ?_; rintro e wA ⟨rfl, hA⟩; have HA := Lib.hid (gbelow hA); clear hA)
      | (go_at_call 31; refine (new_bad _ s l HM.out).mono ?_; rintro e w0 ⟨rfl, rfl⟩))
    go_ret
    exact ⟨rfl, HA.out⟩
  by_cases c2 : 4096 < s
  · clear h
    go_enter Try.func4, Try.ntmps4
    go_wp2_with (first
      | (go_at_call 9; refine (awake3_any _).mono ?_; rintro e wA ⟨rfl, hA⟩; have HA := Lib.hid (gbelow hA); clear hA)
      | (go_at_call 31; refine (new_bad _ s l HM.out).mono ?_; rintro e w0 ⟨rfl, rfl⟩))
    go_ret
    exact ⟨rfl, HA.out⟩
  by_cases c3 : s % 128 = 0
  · have hb3 : (s % 128 == 0) = true := by simpa using c3
    by_cases c4 : l < 1
    · clear h c3
      go_enter Try.func4, Try.ntmps4
      go_wp2_with (first
        | (go_at_call 9; refine (awake3_any _).mono ?_; rintro e wA ⟨rfl, hA⟩; have HA := Lib.hid (gbelow hA); clear hA)
        | (go_at_call 31; refine (new_bad _ s l HM.out).mono ?_; rintro e w0 ⟨rfl, rfl⟩))
      go_ret
      exact ⟨rfl, HA.out⟩
    · have c5 : 65536 < l := by
        by_cases h5 : 65536 < l
        · exact h5
        · exact absurd ⟨by omega, by omega, c3, by omega, by omega⟩ h
      have hd5 : decide (l ≤ 65536) = false := by simp; omega
      clear h c3
      go_enter Try.func4, Try.ntmps4
      go_wp2_with (first
        | (go_at_call 9; refine (awake3_any _).mono ?_; rintro e wA ⟨rfl, hA⟩; have HA := Lib.hid (gbelow hA); clear hA)
        | (go_at_call 31; refine (new_bad _ s l HM.out).mono ?_; rintro e w0 ⟨rfl, rfl⟩))
      go_ret
      exact ⟨rfl, HA.out⟩
  · have hb3 : (s % 128 == 0) = false := by simpa using c3
    clear h c3
    go_enter Try.func4, Try.ntmps4
    go_wp2_with (first
      | (go_at_call 9; refine (awake3_any _).mono ?_; rintro e wA ⟨rfl, hA⟩; have HA := Lib.hid (gbelow hA); clear hA)
      | (go_at_call 31; refine (new_bad _ s l HM.out).mono ?_; rintro e w0 ⟨rfl, rfl⟩))
    go_ret
    exact ⟨rfl, HA.out⟩

/-- The model of a new disk. -/
def newD (s l : Nat) : SM := { size := s, limit := l, pg := [], loose := [], fails := false, ahead := 0, calls := 0, once := false }

set_option maxRecDepth 100000 in
set_option maxHeartbeats 4000000 in
theorem makes_yes (W : World) (s l m : Nat) (n : Int) (h : May s l) (hm : bits .and .i64 n 31 = (m : Int)) (hm32 : m < 32) :
    Calls Try.prog 4 #[.int .i64 (s : Int), .int .i64 (l : Int), .int .i64 n] W fun r w' => r = .returned (.bool true) ∧ Below W.heap.size W w' := by
  have hnot : ∀ (x : Bool) (w : World), (Op.unary .not (.bool x)).run Try.prog w = .ok (.bool (!x)) w := fun _ _ => rfl
  have HM := Lib.hid h
  obtain ⟨h1, h2, h3, h4, h5⟩ := h
  have hb3 : ((s : Int) % 128 == 0) = true := by simpa using h3
  have HF := Lib.hid (show Fine (newD s l) from ⟨(by decide : (-9223372036854775808 : Int) ≤ 0), (by decide : (0 : Int) ≤ 9223372036854775807), (by decide : 0 < 9223372036854775807)⟩)
  have hs4 : s ≤ 4096 := by omega
  have hl4 : l ≤ 65536 := by omega
  clear h3
  by_cases hml : m ≤ l
  · have hmli : (m : Int) ≤ (l : Int) := by omega
    go_enter Try.func4, Try.ntmps4
    go_wp2_with (first
      | (go_at_call 9; refine (awake3_any _).mono ?_; rintro e wA ⟨rfl, hA⟩; have HA := Lib.hid hA; clear hA)
      | (go_at_call 31; refine (new_good _ s l HM.out).mono ?_; rintro e w0 ⟨rfl, hw0⟩; have HD0 : Hid (DskAt wA.heap.size w0 wA.heap.size (newD s l)) := Lib.hid (by rw [← hw0]; exact newM (Nat.le_refl _)); have HG0 : Hid (Dfr wA.heap.size wA w0) := Lib.hid (by rw [← hw0]; exact dfr_new (World.grownBy_alloc _ _ _)); clear hw0)
      | (go_at_call 17; refine (HD0.out.grow (n := m) HF.out (Nat.zero_le _) hml hs4 hl4 rfl).mono ?_; rintro e w1 ⟨o, rfl, hd, hf⟩; have HD1 : Hid (DskAt wA.heap.size w1 wA.heap.size (growM (cntM (newD s l)) m o)) := Lib.hid hd; have HG1 : Hid (Below W.heap.size W w1) := Lib.hid (gbelow (gtrans HA.out (gof ((HG0.out.trans hf).below (Nat.le_refl _)) none))); clear hd hf)
      | (go_at_call 28; refine (size_any _ _ (.int .i64 (s : Int)) HD1.out.lim.1).mono ?_; rintro e w' ⟨rfl, rfl⟩)
      | (go_at_call 29; refine (limit_any _ _ (.int .i64 (l : Int)) HD1.out.lim.2.1).mono ?_; rintro e w' ⟨rfl, rfl⟩)
      | (go_at_call 26; obtain ⟨al, cl, hl⟩ := HD1.out.len; refine (len_any _ _ al m cl (by rw [hl]; simp [growM, cntM, newD])).mono ?_; rintro e w' ⟨rfl, rfl⟩; clear hl)
      | (go_at_call 30; refine (calls_any _ _ 1 HD1.out.lim.2.2).mono ?_; rintro e w' ⟨rfl, rfl⟩))
    go_ret
    exact ⟨rfl, HG1.out⟩
  · have hmli : ¬ (m : Int) ≤ (l : Int) := by omega
    have hlm : (l : Int) < (m : Int) := by omega
    go_enter Try.func4, Try.ntmps4
    go_wp2_with (first
      | (go_at_call 9; refine (awake3_any _).mono ?_; rintro e wA ⟨rfl, hA⟩; have HA := Lib.hid hA; clear hA)
      | (go_at_call 31; refine (new_good _ s l HM.out).mono ?_; rintro e w0 ⟨rfl, hw0⟩; have HD0 : Hid (DskAt wA.heap.size w0 wA.heap.size (newD s l)) := Lib.hid (by rw [← hw0]; exact newM (Nat.le_refl _)); have HG0 : Hid (Below W.heap.size W w0) := Lib.hid (by rw [← hw0]; exact gbelow (gtrans HA.out (World.grownBy_alloc _ _ _))); clear hw0)
      | (go_at_call 17; refine (HD0.out.grow_full (n := (m : Int)) (show ¬ (m : Int) < ((0 : Nat) : Int) by omega) hlm).mono ?_; rintro e w1 ⟨rfl, rfl⟩)
      | (go_at_call 28; refine (size_any _ _ (.int .i64 (s : Int)) HD0.out.lim.1).mono ?_; rintro e w' ⟨rfl, rfl⟩)
      | (go_at_call 29; refine (limit_any _ _ (.int .i64 (l : Int)) HD0.out.lim.2.1).mono ?_; rintro e w' ⟨rfl, rfl⟩)
      | (go_at_call 26; obtain ⟨al, cl, hl⟩ := HD0.out.len; refine (len_any _ _ al 0 cl hl).mono ?_; rintro e w' ⟨rfl, rfl⟩; clear hl)
      | (go_at_call 30; refine (calls_any _ _ 0 HD0.out.lim.2.2).mono ?_; rintro e w' ⟨rfl, rfl⟩))
    go_ret
    exact ⟨rfl, HG0.out⟩

theorem makes_any (W : World) (s l n : Int) (hs1 : -9223372036854775808 ≤ s) (hs2 : s ≤ 9223372036854775807) (_ : -9223372036854775808 ≤ l) (_ : l ≤ 9223372036854775807) (_ : -9223372036854775808 ≤ n) (_ : n ≤ 9223372036854775807) :
    Calls Try.prog 4 #[.int .i64 s, .int .i64 l, .int .i64 n] W fun r w' => r = .returned (.bool true) ∧ Below W.heap.size W w' := by
  by_cases h : May s l
  · have h' := h
    obtain ⟨h1, h2, h3, h4, h5⟩ := h
    obtain ⟨a, rfl⟩ : ∃ a : Nat, s = (a : Int) := ⟨s.toNat, by omega⟩
    obtain ⟨b, rfl⟩ : ∃ b : Nat, l = (b : Int) := ⟨l.toNat, by omega⟩
    exact makes_yes W a b (n % 32).toNat n h' (by rw [and31]; omega) (by omega)
  · exact makes_no W s l n hs1 hs2 h

open Go.ChangeShapes Go.WideShapes Go.ChangeAt
set_option linter.unusedVariables false
set_option maxRecDepth 100000 in
theorem makes_lifted (os : Os) (started : os.Started) (H : Type) (enc : TypeId × Value → H) :
    ReturnsInHanded {} Try.checked os 4 .any (Rows.diskMakesSpec.pre6 enc Try.prog Try.f4 Rows.diskMakesRow.domain false) (Rows.diskMakesSpec.post enc Try.prog Try.f4 false true false false) := by
  refine returnsInHanded_of_change (C := Try.checked) ownKnob0 started (by kernel_rfl) Try.func4
    (ChangeSpec.witness6 (enc := enc) (C := Try.checked) false ⟨#[], #[.int .i64 0, .int .i64 0, .int .i64 0], []⟩ 8 (by kernel_rfl) (by kernel_rfl) (by kernel_rfl) (by kernel_rfl)) ?_
  intro W base args ds gs before hval0 hW hcnd _
  have hval : ∀ (j : Nat) t v, Try.f4.params[j]? = some t → args[j]? = some v → Value.okWide Try.prog W .any base t v := hval0
  have hW' := hW
  obtain ⟨p, q, hA0, hV, rfl, hfz, hnd⟩ := hW
  have hA : DataW.TrodAll enc Try.prog W 0 (fun _ => true) true Try.f4.params.toList args.toList ds p := hA0
  rw [Try.params4] at hA hval
  obtain ⟨v0, vs0, d0, ds0, p0, q0, hargs, rfl, rfl, h0, r0⟩ := trodAll_cons hA
  obtain ⟨v1, vs1, d1, ds1, p1, q1, rfl, rfl, rfl, h1, r1⟩ := trodAll_cons r0
  obtain ⟨v2, vs2, d2, ds2, p2, q2, rfl, rfl, rfl, h2, r2⟩ := trodAll_cons r1
  obtain ⟨rfl, rfl, rfl⟩ := trodAll_nil r2
  obtain rfl : args = #[v0, v1, v2] := by cases args; simp_all
  obtain ⟨rfl, rfl⟩ := trodVars_none hV
  obtain ⟨a0, rfl, rfl, rfl, w0⟩ := open_int Try.underlying3 (hval 0 3 v0 rfl rfl) h0
  have b0 := bounds_i64 w0
  obtain ⟨a1, rfl, rfl, rfl, w1⟩ := open_int Try.underlying3 (hval 1 3 v1 rfl rfl) h1
  have b1 := bounds_i64 w1
  obtain ⟨a2, rfl, rfl, rfl, w2⟩ := open_int Try.underlying3 (hval 2 3 v2 rfl rfl) h2
  have b2 := bounds_i64 w2
  clear hA0 hval0
  refine (makes_any W a0 a1 a2 b0.1 b0.2 b1.1 b1.2 b2.1 b2.2).mono fun e W' ⟨he, bel⟩ => ?_
  subst he
  exact ⟨_, rfl, _, _, _, [], _, [], hW', trodAll_mk1 (shut_bool Try.underlying4 _), (trodAll_cons_mk (shut_int Try.underlying3 w0) (trodAll_cons_mk (shut_int Try.underlying3 w1) (trodAll_cons_mk (shut_int Try.underlying3 w2) trodAll_mk0))), rfl, bel.frame _, fun h => by cases h⟩

/-- DiskMakes, for every input. -/
theorem diskMakes_holds : Rows.DiskMakesSaid :=
  OpenClaim.holds_of_wide 4 Try.f4 rfl rfl rfl rfl rfl rfl rfl ⟨rfl, rfl, rfl, rfl, rfl⟩ rfl rfl rfl rfl rfl (by kernel_rfl) Try.func4 (by kernel_rfl)
    (of_decide_eq_true (by kernel_rfl)) (by unfold Func.isWrapper; first | (rw [if_pos (by decide +kernel)]; kernel_rfl) | (rw [if_neg (by decide +kernel)]; exact ⟨rfl, rfl⟩))
    (fun os started H enc _ => makes_lifted os started H enc)
#print axioms diskMakes_holds

end Go.Proofs.Ytkcadiiahbkmcaa

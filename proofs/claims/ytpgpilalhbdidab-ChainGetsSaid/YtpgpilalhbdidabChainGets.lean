/-
  'ChainGets' returns true for every input: the part of any bytes, also of a page's with some of them others, is the document's, or refused. No condition. Own work; the frame is the guide's.
-/
import Derived.Test.YtpgpilalhbdidabChaH
import Derived.ProofKit
import Derived.OpenShut
import Derived.ShutString
import Derived.ChangeOld
namespace Go.Proofs.Ytpgpilalhbdidab
open Go.RowKit

set_option maxHeartbeats 4000000 in
theorem cgets_any (w : World) (ao : Option Addr) (n c : Nat) (p : List Int) (x size : Int) (a2 : Option Addr) (n2 c2 : Nat) (zs : List Int) (a3 : Option Addr) (n3 c3 : Nat) (xs : List Int) (h : Seq w.heap.size w (.slice ao n c) p) (hb : Byt p) (x0 : 0 ≤ x) (x1 : x ≤ 4294967295) (z0 : -9223372036854775808 ≤ size) (z1 : size ≤ 9223372036854775807)
    (h2 : Seq16 w (.slice a2 n2 c2) zs) (h3 : Seq w.heap.size w (.slice a3 n3 c3) xs) (b3 : Byt xs) :
    Calls Try.prog 5 #[.slice ao n c, .int .u32 x, .int .i64 size, .slice a2 n2 c2, .slice a3 n3 c3] w fun r w' => r = .returned (.bool true) ∧ Below w.heap.size w w' := by
  by_cases k1 : n ≤ 5000
  · by_cases k2 : n2 ≤ 20
    · by_cases k3 : n2 ≤ n3
      · by_cases k4 : n3 ≤ 5000
        · exact cgets_walk w ao n c p x size a2 n2 c2 zs a3 n3 c3 xs h hb x0 x1 z0 z1 h2 h3 b3 k1 k2 k3 k4
        · have hd0 : decide ((5000 : Int) < (n : Int)) = false := by simp; omega
          have hd1 : decide ((20 : Int) < (n2 : Int)) = false := by simp; omega
          have hd3 : decide ((n3 : Int) < (n2 : Int)) = false := by simp; omega
          have hd5 : decide ((5000 : Int) < (n3 : Int)) = true := by simp; omega
          have hd0' : decide (5000 < n) = false := by simp; omega
          have hd1' : decide (20 < n2) = false := by simp; omega
          have hd3' : decide (n3 < n2) = false := by simp; omega
          have hd5' : decide (5000 < n3) = true := by simp; omega
          clear h hb h2 h3 b3 k1 k2 k3 k4
          go_enter Try.func5, Try.ntmps5
          go_wp2_with (go_at_call 9; refine (awake6_any _).mono ?_; rintro r wA ⟨rfl, hgA⟩; have HGA := Lib.hid hgA; clear hgA)
          go_ret
          exact ⟨rfl, gbelow HGA.out⟩
      · have hd0 : decide ((5000 : Int) < (n : Int)) = false := by simp; omega
        have hd1 : decide ((20 : Int) < (n2 : Int)) = false := by simp; omega
        have hd3 : decide ((n3 : Int) < (n2 : Int)) = true := by simp; omega
        have hd0' : decide (5000 < n) = false := by simp; omega
        have hd1' : decide (20 < n2) = false := by simp; omega
        have hd3' : decide (n3 < n2) = true := by simp; omega
        clear h hb h2 h3 b3 k1 k2 k3
        go_enter Try.func5, Try.ntmps5
        go_wp2_with (go_at_call 9; refine (awake6_any _).mono ?_; rintro r wA ⟨rfl, hgA⟩; have HGA := Lib.hid hgA; clear hgA)
        go_ret
        exact ⟨rfl, gbelow HGA.out⟩
    · have hd0 : decide ((5000 : Int) < (n : Int)) = false := by simp; omega
      have hd1 : decide ((20 : Int) < (n2 : Int)) = true := by simp; omega
      have hd0' : decide (5000 < n) = false := by simp; omega
      have hd1' : decide (20 < n2) = true := by simp; omega
      clear h hb h2 h3 b3 k1 k2
      go_enter Try.func5, Try.ntmps5
      go_wp2_with (go_at_call 9; refine (awake6_any _).mono ?_; rintro r wA ⟨rfl, hgA⟩; have HGA := Lib.hid hgA; clear hgA)
      go_ret
      exact ⟨rfl, gbelow HGA.out⟩
  · have hd0 : decide ((5000 : Int) < (n : Int)) = true := by simp; omega
    have hd0' : decide (5000 < n) = true := by simp; omega
    clear h hb h2 h3 b3 k1
    go_enter Try.func5, Try.ntmps5
    go_wp2_with (go_at_call 9; refine (awake6_any _).mono ?_; rintro r wA ⟨rfl, hgA⟩; have HGA := Lib.hid hgA; clear hgA)
    go_ret
    exact ⟨rfl, gbelow HGA.out⟩

open Go.ChangeShapes Go.WideShapes Go.ChangeAt
set_option linter.unusedVariables false
set_option maxRecDepth 100000 in
theorem cgets_lifted (os : Os) (started : os.Started) (H : Type) (enc : TypeId × Value → H) :
    ReturnsInHanded {} Try.checked os 5 .any (Rows.chainGetsSpec.pre6 enc Try.prog Try.f5 Rows.chainGetsRow.domain false) (Rows.chainGetsSpec.post enc Try.prog Try.f5 false true false false) := by
  refine returnsInHanded_of_change (C := Try.checked) ownKnob0 started (by kernel_rfl) Try.func5
    (ChangeSpec.witness6 (enc := enc) (C := Try.checked) false ⟨#[], #[.slice none 0 0, .int .u32 0, .int .i64 0, .slice none 0 0, .slice none 0 0], []⟩ 8 (by kernel_rfl) (by kernel_rfl) (by kernel_rfl) (by kernel_rfl)) ?_
  intro W base args ds gs before hval0 hW hcnd _
  have hval : ∀ (j : Nat) t v, Try.f5.params[j]? = some t → args[j]? = some v → Value.okWide Try.prog W .any base t v := hval0
  have hW' := hW
  obtain ⟨p, q, hA0, hV, rfl, hfz, hnd⟩ := hW
  have hA : DataW.TrodAll enc Try.prog W 0 (fun _ => true) true Try.f5.params.toList args.toList ds p := hA0
  rw [Try.params5] at hA hval
  obtain ⟨v0, vs0, d0, ds0, p0, q0, hargs, rfl, rfl, h0, r0⟩ := trodAll_cons hA
  obtain ⟨v1, vs1, d1, ds1, p1, q1, rfl, rfl, rfl, h1, r1⟩ := trodAll_cons r0
  obtain ⟨v2, vs2, d2, ds2, p2, q2, rfl, rfl, rfl, h2, r2⟩ := trodAll_cons r1
  obtain ⟨v3, vs3, d3, ds3, p3, q3, rfl, rfl, rfl, h3, r3⟩ := trodAll_cons r2
  obtain ⟨v4, vs4, d4, ds4, p4, q4, rfl, rfl, rfl, h4, r4⟩ := trodAll_cons r3
  obtain ⟨rfl, rfl, rfl⟩ := trodAll_nil r4
  obtain rfl : args = #[v0, v1, v2, v3, v4] := by cases args; simp_all
  obtain ⟨rfl, rfl⟩ := trodVars_none hV
  obtain ⟨a0, len0, cap0, rfl⟩ := okWide_slice Try.underlying22 (hval 0 22 v0 rfl rfl)
  have lt0 : ∀ x ∈ p0, x.block < W.heap.size := by obtain ⟨m, hm⟩ := h0; exact DataW.trod_lt m _ _ _ hm
  obtain ⟨z0, w0, y0⟩ := open_bytes h0
  obtain ⟨a1, rfl, rfl, rfl, w1⟩ := open_int Try.underlying30 (hval 1 30 v1 rfl rfl) h1
  have b1 := bounds_u32 w1
  obtain ⟨a2, rfl, rfl, rfl, w2⟩ := open_int Try.underlying3 (hval 2 3 v2 rfl rfl) h2
  have b2 := bounds_i64 w2
  obtain ⟨a3, len3, cap3, rfl⟩ := okWide_slice Try.underlying40 (hval 3 40 v3 rfl rfl)
  have lt3 : ∀ x ∈ p3, x.block < W.heap.size := by obtain ⟨m, hm⟩ := h3; exact DataW.trod_lt m _ _ _ hm
  obtain ⟨z3, w3⟩ := open_u16s h3
  obtain ⟨a4, len4, cap4, rfl⟩ := okWide_slice Try.underlying22 (hval 4 22 v4 rfl rfl)
  have lt4 : ∀ x ∈ p4, x.block < W.heap.size := by obtain ⟨m, hm⟩ := h4; exact DataW.trod_lt m _ _ _ hm
  obtain ⟨z4, w4, y4⟩ := open_bytes h4
  clear hA0 hval0
  refine (cgets_any W a0 len0 cap0 z0 a1 a2 a3 len3 cap3 z3 a4 len4 cap4 z4 w0 y0 b1.1 b1.2 b2.1 b2.2 w3 w4 y4).mono fun e W' ⟨he, bel⟩ => ?_
  subst he
  exact ⟨_, rfl, _, _, _, [], _, [], hW', trodAll_mk1 (shut_bool Try.underlying4 _), (trodAll_cons_mk (Below.trod laidOut0 (by kernel_rfl) (of_decide_eq_true (by kernel_rfl)) h0 bel lt0) (trodAll_cons_mk (shut_int Try.underlying30 w1) (trodAll_cons_mk (shut_int Try.underlying3 w2) (trodAll_cons_mk (Below.trod laidOut0 (by kernel_rfl) (of_decide_eq_true (by kernel_rfl)) h3 bel lt3) (trodAll_cons_mk (Below.trod laidOut0 (by kernel_rfl) (of_decide_eq_true (by kernel_rfl)) h4 bel lt4) trodAll_mk0))))), rfl, bel.frame _, fun h => by cases h⟩

/-- ChainGets, for every input. -/
theorem chainGets_holds : Rows.ChainGetsSaid :=
  OpenClaim.holds_of_wide 5 Try.f5 rfl rfl rfl rfl rfl rfl rfl ⟨rfl, rfl, rfl, rfl, rfl⟩ rfl rfl rfl rfl rfl (by kernel_rfl) Try.func5 (by kernel_rfl)
    (of_decide_eq_true (by kernel_rfl)) (by unfold Func.isWrapper; first | (rw [if_pos (by decide +kernel)]; kernel_rfl) | (rw [if_neg (by decide +kernel)]; exact ⟨rfl, rfl⟩))
    (fun os started H enc _ => cgets_lifted os started H enc)
#print axioms chainGets_holds

end Go.Proofs.Ytpgpilalhbdidab

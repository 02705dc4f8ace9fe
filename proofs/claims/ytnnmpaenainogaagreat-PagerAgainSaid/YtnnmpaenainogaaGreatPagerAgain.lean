/-
  PagerAgain: one page that is written anew by each change, without readers, never needs more than a few pages; a change that was aborted leaves nothing. Proved for every input, no condition.
-/
import Derived.Test.YtnnmpaenainogaaGreatPagerAgainAB
import Derived.Test.YtnnmpaenainogaaGreatPagerAgainAA
import Derived.ProofKit
import Derived.OpenShut
import Derived.ShutString
import Derived.ChangeOld

namespace Go.Proofs.YtnnmpaenainogaaGreat
open Go.RowKit Go.Maps

set_option maxRecDepth 100000 in
set_option maxHeartbeats 4000000 in
theorem pagain_any (W : World) (x : Int) (a1 : Option Addr) (n1 c1 : Nat) (bs : List Int) (x0 : 0 ≤ x) (x1 : x ≤ 255) (h1 : Seq W.heap.size W (.slice a1 n1 c1) bs) (b1 : Byt bs) :
    Calls Tryz.prog 7 #[.int .u8 x, .slice a1 n1 c1] W fun r w' => r = .returned (.bool true) ∧ Below W.heap.size W w' := by
  by_cases hg : n1 ≤ 100
  · exact pagain_walk W x a1 n1 c1 bs x0 x1 h1 b1 hg
  · have d0 : (100 : Int) < (n1 : Int) := by omega
    clear h1 b1
    go_enter Tryz.func7, Tryz.ntmps7
    go_wp2_with (go_at_call 14; ((with_reducible refine (awake11_any W).mono ?_); rintro r w1 ⟨rfl, hg⟩; have HG1 := Lib.hid hg; clear hg))
    go_ret
    exact ⟨rfl, gbelow HG1.out⟩

open Go.ChangeShapes Go.WideShapes Go.ChangeAt
set_option linter.unusedVariables false
set_option maxRecDepth 100000 in
theorem pagain_lifted (os : Os) (started : os.Started) (H : Type) (enc : TypeId × Value → H) :
    ReturnsInHanded {} Tryz.checked os 7 .any (Rows.pagerAgainSpec.pre6 enc Tryz.prog Tryz.f7 Rows.pagerAgainRow.domain false) (Rows.pagerAgainSpec.post enc Tryz.prog Tryz.f7 false true false false) := by
  refine returnsInHanded_of_change (C := Tryz.checked) ownKnob0 started (by kernel_rfl) Tryz.func7
    (ChangeSpec.witness6 (enc := enc) (C := Tryz.checked) false ⟨#[], #[.int .u8 0, .slice none 0 0], []⟩ 8 (by kernel_rfl) (by kernel_rfl) (by kernel_rfl) (by kernel_rfl)) ?_
  intro W base args ds gs before hval0 hW hcnd _
  have hval : ∀ (j : Nat) t v, Tryz.f7.params[j]? = some t → args[j]? = some v → Value.okWide Tryz.prog W .any base t v := hval0
  have hW' := hW
  obtain ⟨p, q, hA0, hV, rfl, hfz, hnd⟩ := hW
  have hA : DataW.TrodAll enc Tryz.prog W 0 (fun _ => true) true Tryz.f7.params.toList args.toList ds p := hA0
  rw [Tryz.params7] at hA hval
  obtain ⟨v0, vs0, d0, ds0, p0, q0, hargs, rfl, rfl, h0, r0⟩ := trodAll_cons hA
  obtain ⟨v1, vs1, d1, ds1, p1, q1, rfl, rfl, rfl, h1, r1⟩ := trodAll_cons r0
  obtain ⟨rfl, rfl, rfl⟩ := trodAll_nil r1
  obtain rfl : args = #[v0, v1] := by cases args; simp_all
  obtain ⟨rfl, rfl⟩ := trodVars_none hV
  obtain ⟨a0, rfl, rfl, rfl, w0⟩ := open_int Tryz.underlying5 (hval 0 5 v0 rfl rfl) h0
  have b0 := bounds_u8 w0
  obtain ⟨a1, len1, cap1, rfl⟩ := okWide_slice Tryz.underlying32 (hval 1 32 v1 rfl rfl)
  have lt1 : ∀ x ∈ p1, x.block < W.heap.size := by obtain ⟨m, hm⟩ := h1; exact DataW.trod_lt m _ _ _ hm
  obtain ⟨z1, w1, y1⟩ := open_bytes h1
  clear hA0 hval0
  refine (pagain_any W a0 a1 len1 cap1 z1 b0.1 b0.2 w1 y1).mono fun e W' ⟨he, bel⟩ => ?_
  subst he
  exact ⟨_, rfl, _, _, _, [], _, [], hW', trodAll_mk1 (shut_bool Tryz.underlying4 _), (trodAll_cons_mk (shut_int Tryz.underlying5 w0) (trodAll_cons_mk (Below.trod laidOut0 (by kernel_rfl) (of_decide_eq_true (by kernel_rfl)) h1 bel lt1) trodAll_mk0)), rfl, bel.frame _, fun h => by cases h⟩

theorem pagerAgain_named : Tryz.prog.funcNamed Rows.pagerAgainRow.func = some 7 := by kernel_rfl
theorem pagerAgain_j0 : (Rows.pagerAgainRow.inPlace == Tryz.prog.inPlace 7) = true := by kernel_rfl
theorem pagerAgain_j1 : (Rows.pagerAgainRow.unfollowed == Tryz.prog.unfollowed 7) = true := by kernel_rfl
theorem pagerAgain_j2 : (Rows.pagerAgainRow.recurses == Tryz.prog.recurses 7) = true := by kernel_rfl
theorem pagerAgain_j3 : (Rows.pagerAgainRow.named == Tryz.prog.varsNamed 7) = true := by kernel_rfl
theorem pagerAgain_join : joinedFacts Tryz.prog 7 Tryz.f7 Rows.pagerAgainSpec Rows.pagerAgainRow = true :=
  joined_of (by kernel_rfl) jn_laid jn_maps (by kernel_rfl) (by kernel_rfl) (by kernel_rfl) jn_stops (by kernel_rfl) jn_knobs pagerAgain_j0 pagerAgain_j1 pagerAgain_j2 pagerAgain_j3
    (by kernel_rfl) (by kernel_rfl) (by kernel_rfl) (by kernel_rfl) (by kernel_rfl) (by kernel_rfl) (by kernel_rfl) (by kernel_rfl) (by kernel_rfl) jn_keys (by kernel_rfl) jn_heard jn_enter jn_lift jn_make (by kernel_rfl) (by kernel_rfl) (by kernel_rfl) (by kernel_rfl)
/-- PagerAgain, for every input. -/
theorem pagerAgain_holds : Rows.PagerAgainSaid :=
  OpenClaim.holds_of_wide 7 Tryz.f7 rfl rfl rfl rfl rfl rfl rfl ⟨rfl, rfl, rfl, rfl, rfl⟩ rfl rfl rfl rfl rfl pagerAgain_named Tryz.func7 pagerAgain_join
    (of_decide_eq_true (by kernel_rfl)) (by unfold Func.isWrapper; first | (rw [if_pos (by decide +kernel)]; kernel_rfl) | (rw [if_neg (by decide +kernel)]; exact ⟨rfl, rfl⟩))
    (fun os started H enc _ => pagain_lifted os started H enc)
#print axioms pagerAgain_holds

end Go.Proofs.YtnnmpaenainogaaGreat

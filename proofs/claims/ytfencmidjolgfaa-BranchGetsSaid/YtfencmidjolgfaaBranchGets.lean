/-
  'BranchGets' returns true for every input: of any bytes what is got is entries that are put as the same bytes, or it is refused; a page is never refused. No condition. Own work; the frame is the guide's.
-/
import Derived.Test.YtfencmidjolgfaaBrLawG
namespace Go.Proofs.Ytfencmidjolgfaa
open Go.RowKit

set_option maxRecDepth 100000 in
set_option maxHeartbeats 4000000 in
theorem bgets_any (w : World) (ao : Option Addr) (n c : Nat) (l : List En) (size : Int) (a2 : Option Addr) (n2 c2 : Nat) (zs : List Int) (a3 : Option Addr) (n3 c3 : Nat) (xs : List Int) (h : Raws5 w (.slice ao n c) l) (h0 : -9223372036854775808 ≤ size) (h9 : size ≤ 9223372036854775807)
    (h2 : Seq16 w (.slice a2 n2 c2) zs) (h3 : Seq w.heap.size w (.slice a3 n3 c3) xs) (b3 : Byt xs) (hl3 : xs.length ≤ 140737488355328) :
    Calls Try.prog 10 #[.slice ao n c, .int .i64 size, .slice a2 n2 c2, .slice a3 n3 c3] w fun r w' => r = .returned (.bool true) ∧ Below w.heap.size w w' := by
  by_cases hf : FewP5 l
  · by_cases hn2 : n2 ≤ 20
    · by_cases hn23 : n2 ≤ n3
      · exact bgets_walk w ao n c l size a2 n2 c2 zs a3 n3 c3 xs h h0 h9 h2 h3 b3 hl3 hf hn2 hn23
      · have H := Lib.hid h
        have HF := Lib.hid hf
        have hd1 : decide ((20 : Int) < (n2 : Int)) = false := by simp; omega
        have hd2 : decide (20 < n2) = false := by simp; omega
        have hd3 : decide ((n3 : Int) < (n2 : Int)) = true := by simp; omega
        have hd4 : decide (n3 < n2) = true := by simp; omega
        clear h hf h2 h3 hn23 hl3 b3
        go_enter Try.func10, Try.ntmps10
        go_wp2_with (first
          | (go_at_call 30; refine (awake5_any _).mono ?_; rintro r wA ⟨rfl, hgA⟩; have HGA := Lib.hid hgA; clear hgA)
          | (go_at_call 31; refine (few5_yes H.out (gbelow HGA.out) HF.out).mono ?_; rintro r w1 ⟨rfl, rfl⟩))
        go_ret
        exact ⟨rfl, gbelow HGA.out⟩
    · have H := Lib.hid h
      have HF := Lib.hid hf
      have hd1 : decide ((20 : Int) < (n2 : Int)) = true := by simp; omega
      have hd2 : decide (20 < n2) = true := by simp; omega
      clear h hf h2 h3 hn2 hl3 b3
      go_enter Try.func10, Try.ntmps10
      go_wp2_with (first
        | (go_at_call 30; refine (awake5_any _).mono ?_; rintro r wA ⟨rfl, hgA⟩; have HGA := Lib.hid hgA; clear hgA)
        | (go_at_call 31; refine (few5_yes H.out (gbelow HGA.out) HF.out).mono ?_; rintro r w1 ⟨rfl, rfl⟩))
      go_ret
      exact ⟨rfl, gbelow HGA.out⟩
  · have H := Lib.hid h
    have HF := Lib.hid hf
    clear h hf h2 h3 hl3 b3
    go_enter Try.func10, Try.ntmps10
    go_wp2_with (first
      | (go_at_call 30; refine (awake5_any _).mono ?_; rintro r wA ⟨rfl, hgA⟩; have HGA := Lib.hid hgA; clear hgA)
      | (go_at_call 31; refine (few5_no H.out (gbelow HGA.out) HF.out).mono ?_; rintro r w1 ⟨rfl, rfl⟩))
    go_ret
    exact ⟨rfl, gbelow HGA.out⟩

open Go.ChangeShapes Go.WideShapes Go.ChangeAt
set_option linter.unusedVariables false
set_option maxRecDepth 100000 in
theorem bgets_lifted (os : Os) (started : os.Started) (H : Type) (enc : TypeId × Value → H) :
    ReturnsInHanded {} Try.checked os 10 .any (Rows.branchGetsSpec.pre6 enc Try.prog Try.f10 Rows.branchGetsRow.domain false) (Rows.branchGetsSpec.post enc Try.prog Try.f10 false true false false) := by
  refine returnsInHanded_of_change_sized (C := Try.checked) ownKnob0 started (by kernel_rfl) Try.func10
    (ChangeSpec.witness6 (enc := enc) (C := Try.checked) false ⟨#[], #[.slice none 0 0, .int .i64 0, .slice none 0 0, .slice none 0 0], []⟩ 8 (by kernel_rfl) (by kernel_rfl) (by kernel_rfl) (by kernel_rfl)) ?_
  intro W base args ds gs before hval0 hW hcnd hsz0 _
  have hval : ∀ (j : Nat) t v, Try.f10.params[j]? = some t → args[j]? = some v → Value.okWide Try.prog W .any base t v := hval0
  have hW' := hW
  obtain ⟨p, q, hA0, hV, rfl, hfz, hnd⟩ := hW
  have hA : DataW.TrodAll enc Try.prog W 0 (fun _ => true) true Try.f10.params.toList args.toList ds p := hA0
  have hsz : (DataW.weightsEach Try.prog (Try.f10.params.toList ++ Rows.branchGetsSpec.plain.varTypes Try.prog) (ds ++ gs)).all (· ≤ reachBytes) = true := hsz0
  rw [Try.params10] at hA hval hsz
  obtain ⟨v0, vs0, d0, ds0, p0, q0, hargs, rfl, rfl, h0, r0⟩ := trodAll_cons hA
  obtain ⟨v1, vs1, d1, ds1, p1, q1, rfl, rfl, rfl, h1, r1⟩ := trodAll_cons r0
  obtain ⟨v2, vs2, d2, ds2, p2, q2, rfl, rfl, rfl, h2, r2⟩ := trodAll_cons r1
  obtain ⟨v3, vs3, d3, ds3, p3, q3, rfl, rfl, rfl, h3, r3⟩ := trodAll_cons r2
  obtain ⟨rfl, rfl, rfl⟩ := trodAll_nil r3
  obtain rfl : args = #[v0, v1, v2, v3] := by cases args; simp_all
  obtain ⟨rfl, rfl⟩ := trodVars_none hV
  obtain ⟨a0, len0, cap0, rfl⟩ := okWide_slice Try.underlying62 (hval 0 62 v0 rfl rfl)
  have lt0 : ∀ x ∈ p0, x.block < W.heap.size := by obtain ⟨m, hm⟩ := h0; exact DataW.trod_lt m _ _ _ hm
  obtain ⟨z0, w0⟩ := open_raws5 h0
  obtain ⟨a1, rfl, rfl, rfl, w1⟩ := open_int Try.underlying3 (hval 1 3 v1 rfl rfl) h1
  have b1 := bounds_i64 w1
  obtain ⟨a2, len2, cap2, rfl⟩ := okWide_slice Try.underlying51 (hval 2 51 v2 rfl rfl)
  have lt2 : ∀ x ∈ p2, x.block < W.heap.size := by obtain ⟨m, hm⟩ := h2; exact DataW.trod_lt m _ _ _ hm
  obtain ⟨z2, w2⟩ := open_u16s h2
  obtain ⟨a3, len3, cap3, rfl⟩ := okWide_slice Try.underlying29 (hval 3 29 v3 rfl rfl)
  have lt3 : ∀ x ∈ p3, x.block < W.heap.size := by obtain ⟨m, hm⟩ := h3; exact DataW.trod_lt m _ _ _ hm
  obtain ⟨z3, w3, y3, s3⟩ := open_bytes_sz h3 hsz (j := 3) rfl rfl
  clear hA0 hval0
  refine (bgets_any W a0 len0 cap0 z0 a1 a2 len2 cap2 z2 a3 len3 cap3 z3 w0 b1.1 b1.2 w2 w3 y3 s3).mono fun e W' ⟨he, bel⟩ => ?_
  subst he
  exact ⟨_, rfl, _, _, _, [], _, [], hW', trodAll_mk1 (shut_bool Try.underlying4 _), (trodAll_cons_mk (Below.trod laidOut0 (by kernel_rfl) (of_decide_eq_true (by kernel_rfl)) h0 bel lt0) (trodAll_cons_mk (shut_int Try.underlying3 w1) (trodAll_cons_mk (Below.trod laidOut0 (by kernel_rfl) (of_decide_eq_true (by kernel_rfl)) h2 bel lt2) (trodAll_cons_mk (Below.trod laidOut0 (by kernel_rfl) (of_decide_eq_true (by kernel_rfl)) h3 bel lt3) trodAll_mk0)))), rfl, bel.frame _, fun h => by cases h⟩

/-- BranchGets, for every input. -/
theorem branchGets_holds : Rows.BranchGetsSaid :=
  OpenClaim.holds_of_wide 10 Try.f10 rfl rfl rfl rfl rfl rfl rfl ⟨rfl, rfl, rfl, rfl, rfl⟩ rfl rfl rfl rfl rfl (by kernel_rfl) Try.func10 (by kernel_rfl)
    (of_decide_eq_true (by kernel_rfl)) (by unfold Func.isWrapper; first | (rw [if_pos (by decide +kernel)]; kernel_rfl) | (rw [if_neg (by decide +kernel)]; exact ⟨rfl, rfl⟩))
    (fun os started H enc _ => bgets_lifted os started H enc)
#print axioms branchGets_holds

end Go.Proofs.Ytfencmidjolgfaa

/-
  FreedPuts: Put lays the document's page of a list of pairs and Get reads them back, or Put refuses as the document does. Proved for every input, no condition.
-/
import Derived.Test.YtpgpilalhbdidaaFrW
import Derived.Test.YtpgpilalhbdidaaFrU
import Derived.ProofKit
import Derived.OpenShut
import Derived.ShutString
import Derived.ChangeOld
namespace Go.Proofs.Ytpgpilalhbdidaa
open Go.RowKit Go.Maps

set_option maxRecDepth 100000 in
set_option maxHeartbeats 4000000 in
theorem fputs_any (W : World) (ao : Option Addr) (n c : Nat) (ps : List Pr) (x S : Int) (h : PrSq (fun b => b < W.heap.size) W (.slice ao n c) ps) (hsm : ps.length * 16 ≤ 140737488351232) (hx0 : 0 ≤ x) (hx1 : x ≤ 4294967295) (hS0 : -9223372036854775808 ≤ S) (hS1 : S ≤ 9223372036854775807) :
    Calls Try.prog 5 #[.slice ao n c, .int .u32 x, .int .i64 S] W fun r w' => r = .returned (.bool true) ∧ Below W.heap.size W w' := by
  obtain ⟨hn, hnc, hc9⟩ := h.len
  have h9 : maxLen ≤ 9223372036854775807 := by decide
  have hok := h.ok
  have HOK := Lib.hid hok
  have HN := Lib.hid hn
  have HS := Lib.hid h
  have HSM := Lib.hid hsm
  clear h hn hsm hok
  by_cases h4 : 400 < n
  · have h4i : (400 : Int) < (n : Int) := by omega
    go_enter Try.func5, Try.ntmps5
    go_wp2_with (go_at_call 9; (with_reducible refine (awake10_any W).mono ?_); rintro r w1 ⟨rfl, hg⟩; have HG1 := Lib.hid hg; clear hg)
    go_ret
    exact ⟨rfl, gbelow HG1.out⟩
  have h4i : ¬ (400 : Int) < (n : Int) := by omega
  obtain ⟨y, rfl⟩ : ∃ y : Nat, x = (y : Int) := ⟨x.toNat, by omega⟩
  by_cases hr : RightF ps S
  · obtain ⟨s, rfl⟩ : ∃ s : Nat, S = (s : Int) := ⟨S.toNat, by have := hr.1; omega⟩
    obtain ⟨r1, r2, r3, r4⟩ := hr
    have hs9 : s ≤ 4096 := by omega
    have hs5 : 512 ≤ s := by omega
    have HR := Lib.hid (show RightF ps (s : Int) from ⟨r1, r2, r3, r4⟩)
    have HPL := Lib.hid (show (frB ps (y : Int) s).length = s from frB_len (by have := room_fits r3; omega))
    obtain ⟨P, hP⟩ : ∃ P, P = strOfNums (frB ps (y : Int) s) := ⟨_, rfl⟩
    have HP := Lib.hid hP
    have HRI := Lib.hid r4
    have HR3 := Lib.hid (show (n : Int) ≤ roomI (s : Int) by rw [HN.out]; exact r3)
    clear hP r3 r4
    go_enter Try.func5, Try.ntmps5
    go_wp2_with (first
      | (go_at_call 9; (with_reducible refine (awake10_any W).mono ?_); rintro r w1 ⟨rfl, hg⟩; have HG1 := Lib.hid hg; have HR1 := Lib.hid (HS.out.grown hg); clear hg)
      | (go_at_call 17; (with_reducible refine (pairs10_any w1 _ ao n c ps HR1.out (by omega)).mono ?_); rintro r w2 ⟨va, vc, rfl, ho, hg⟩; rw [← HN.out] at ho ⊢; have HO2 := Lib.hid ho; have HG2 := Lib.hid (gtrans HG1.out hg); have HR2 := Lib.hid (HR1.out.grown hg); clear ho hg)
      | (go_at_call 24; (with_reducible refine (zput_ok w2 _ va n vc ps (y : Int) s (s : Int) rfl HO2.out.sq hx0 hx1 HR.out).mono ?_); rintro r w3 ⟨v, rfl, ho, hg⟩; have ho' := ho; unfold OwnB at ho'; rw [HPL.out] at ho'; obtain ⟨b3, c3, rfl, _⟩ := own_at ho' (by omega); have HO3 := Lib.hid ho; have HG3 := Lib.hid (gtrans HG2.out hg); have HR3' := Lib.hid (HR2.out.grown hg); clear ho ho' hg)
      | (go_at_call 25; have K := vput_yes w3 _ ao n c ps y s (s : Int) rfl HR3'.out (by omega) r1 r2 HR3.out HRI.out; rw [← HP.out] at K; (with_reducible refine K.mono ?_); clear K; rintro r w4 ⟨rfl, hg⟩; have HO4 := Lib.hid (HO3.out.grown hg); have HG4 := Lib.hid (gtrans HG3.out hg); have HR4 := Lib.hid (HR3'.out.grown hg); have v1 := seq_string HO4.out.seq; rw [← HP.out] at v1; clear hg)
      | (go_at_call 26; (with_reducible refine (zget_back (w := w4) HO4.out.seq (Nat.le_refl _) (frB_byt _ _ _) (frB_laid HR.out HOK.out hx0 hx1)).mono ?_); rintro r w5 ⟨a5, c5, rfl, ho, hg⟩; rw [← HN.out] at ho ⊢; have HO5 := Lib.hid ho; have HG5 := Lib.hid (gtrans HG4.out hg); have HR5 := Lib.hid (HR4.out.grown hg); clear ho hg)
      | (go_at_call 12; (with_reducible refine (alike10_any _ _ _ _ _ _ _ _ _ HO5.out.sq HR5.out).mono ?_); rintro r w6 ⟨rfl, hg⟩; have HG6 := Lib.hid (gtrans HG5.out hg); clear hg))
    go_ret
    exact ⟨rfl, gbelow HG6.out⟩
  · have HR := Lib.hid hr
    have cvn : ∀ w' : World, (convert 49 9 (.slice none 0 0)).run Try.prog w' = .ok (.string { data := #[] }) w' := fun w' => seq_string (seq_nil 0 w')
    by_cases hq : 512 ≤ S ∧ S ≤ 4096 ∧ (n : Int) ≤ roomI S
    · obtain ⟨s, rfl⟩ : ∃ s : Nat, S = (s : Int) := ⟨S.toNat, by have := hq.1; omega⟩
      obtain ⟨r1, r2, r3⟩ := hq
      have HR3 := Lib.hid r3
      have HNR := Lib.hid (show ¬ Rise ps from fun k => hr ⟨r1, r2, by rw [← HN.out]; exact r3, k⟩)
      clear hr r3
      go_enter Try.func5, Try.ntmps5
      go_wp2_with (first
        | (go_at_call 9; (with_reducible refine (awake10_any W).mono ?_); rintro r w1 ⟨rfl, hg⟩; have HG1 := Lib.hid hg; have HR1 := Lib.hid (HS.out.grown hg); clear hg)
        | (go_at_call 17; (with_reducible refine (pairs10_any w1 _ ao n c ps HR1.out (by omega)).mono ?_); rintro r w2 ⟨va, vc, rfl, ho, hg⟩; rw [← HN.out] at ho ⊢; have HO2 := Lib.hid ho; have HG2 := Lib.hid (gtrans HG1.out hg); have HR2 := Lib.hid (HR1.out.grown hg); clear ho hg)
        | (go_at_call 24; (with_reducible refine (zput_no w2 _ va n vc ps (y : Int) (s : Int) HO2.out.sq HR.out).mono ?_); rintro r w3 ⟨rfl, hg⟩; have HG3 := Lib.hid (gtrans HG2.out hg); have HR3' := Lib.hid (HR2.out.grown hg); clear hg)
        | (go_at_call 25; (with_reducible refine (vput_bad w3 _ ao n c ps y s (s : Int) rfl HR3'.out (by omega) r1 r2 HR3.out HNR.out).mono ?_); rintro r w4 ⟨rfl, hg⟩; have HG4 := Lib.hid (gtrans HG3.out hg); have v1 := cvn w4; clear hg))
      go_ret
      exact ⟨rfl, gbelow HG4.out⟩
    · have HQ := Lib.hid hq
      clear hr hq
      go_enter Try.func5, Try.ntmps5
      go_wp2_with (first
        | (go_at_call 9; (with_reducible refine (awake10_any W).mono ?_); rintro r w1 ⟨rfl, hg⟩; have HG1 := Lib.hid hg; have HR1 := Lib.hid (HS.out.grown hg); clear hg)
        | (go_at_call 17; (with_reducible refine (pairs10_any w1 _ ao n c ps HR1.out (by omega)).mono ?_); rintro r w2 ⟨va, vc, rfl, ho, hg⟩; rw [← HN.out] at ho ⊢; have HO2 := Lib.hid ho; have HG2 := Lib.hid (gtrans HG1.out hg); clear ho hg)
        | (go_at_call 24; (with_reducible refine (zput_no w2 _ va n vc ps (y : Int) S HO2.out.sq HR.out).mono ?_); rintro r w3 ⟨rfl, hg⟩; have HG3 := Lib.hid (gtrans HG2.out hg); have v1 := cvn w3; clear hg)
        | (go_at_call 25; (with_reducible refine (vput_no w3 ao n c (y : Int) S (by omega) HQ.out).mono ?_); rintro r wq ⟨rfl, rfl⟩))
      go_ret
      exact ⟨rfl, gbelow HG3.out⟩

open Go.ChangeShapes Go.WideShapes Go.ChangeAt
set_option linter.unusedVariables false
set_option maxRecDepth 100000 in
theorem fputs_lifted (os : Os) (started : os.Started) (H : Type) (enc : TypeId × Value → H) :
    ReturnsInHanded {} Try.checked os 5 .any (Rows.freedPutsSpec.pre6 enc Try.prog Try.f5 Rows.freedPutsRow.domain false) (Rows.freedPutsSpec.post enc Try.prog Try.f5 false true false false) := by
  refine returnsInHanded_of_change_sized (C := Try.checked) ownKnob0 started (by kernel_rfl) Try.func5
    (ChangeSpec.witness6 (enc := enc) (C := Try.checked) false ⟨#[], #[.slice none 0 0, .int .u32 0, .int .i64 0], []⟩ 8 (by kernel_rfl) (by kernel_rfl) (by kernel_rfl) (by kernel_rfl)) ?_
  intro W base args ds gs before hval0 hW hcnd hsz0 _
  have hval : ∀ (j : Nat) t v, Try.f5.params[j]? = some t → args[j]? = some v → Value.okWide Try.prog W .any base t v := hval0
  have hW' := hW
  obtain ⟨p, q, hA0, hV, rfl, hfz, hnd⟩ := hW
  have hA : DataW.TrodAll enc Try.prog W 0 (fun _ => true) true Try.f5.params.toList args.toList ds p := hA0
  have hsz : (DataW.weightsEach Try.prog (Try.f5.params.toList ++ Rows.freedPutsSpec.plain.varTypes Try.prog) (ds ++ gs)).all (· ≤ reachBytes) = true := hsz0
  rw [Try.params5] at hA hval hsz
  obtain ⟨v0, vs0, d0, ds0, p0, q0, hargs, rfl, rfl, h0, r0⟩ := trodAll_cons hA
  obtain ⟨v1, vs1, d1, ds1, p1, q1, rfl, rfl, rfl, h1, r1⟩ := trodAll_cons r0
  obtain ⟨v2, vs2, d2, ds2, p2, q2, rfl, rfl, rfl, h2, r2⟩ := trodAll_cons r1
  obtain ⟨rfl, rfl, rfl⟩ := trodAll_nil r2
  obtain rfl : args = #[v0, v1, v2] := by cases args; simp_all
  obtain ⟨rfl, rfl⟩ := trodVars_none hV
  obtain ⟨a0, len0, cap0, rfl⟩ := okWide_slice Try.underlying23 (hval 0 23 v0 rfl rfl)
  have lt0 : ∀ x ∈ p0, x.block < W.heap.size := by obtain ⟨m, hm⟩ := h0; exact DataW.trod_lt m _ _ _ hm
  obtain ⟨z0, w0, s0⟩ := open_pairs h0 hsz (j := 0) rfl rfl
  obtain ⟨a1, rfl, rfl, rfl, w1⟩ := open_int Try.underlying40 (hval 1 40 v1 rfl rfl) h1
  have b1 := bounds_u32 w1
  obtain ⟨a2, rfl, rfl, rfl, w2⟩ := open_int Try.underlying3 (hval 2 3 v2 rfl rfl) h2
  have b2 := bounds_i64 w2
  clear hA0 hval0
  refine (fputs_any W a0 len0 cap0 z0 a1 a2 w0 s0 b1.1 b1.2 b2.1 b2.2).mono fun e W' ⟨he, bel⟩ => ?_
  subst he
  exact ⟨_, rfl, _, _, _, [], _, [], hW', trodAll_mk1 (shut_bool Try.underlying4 _), (trodAll_cons_mk (Below.trod laidOut0 (by kernel_rfl) (of_decide_eq_true (by kernel_rfl)) h0 bel lt0) (trodAll_cons_mk (shut_int Try.underlying40 w1) (trodAll_cons_mk (shut_int Try.underlying3 w2) trodAll_mk0))), rfl, bel.frame _, fun h => by cases h⟩

/-- FreedPuts, for every input. -/
theorem freedPuts_holds : Rows.FreedPutsSaid :=
  OpenClaim.holds_of_wide 5 Try.f5 rfl rfl rfl rfl rfl rfl rfl ⟨rfl, rfl, rfl, rfl, rfl⟩ rfl rfl rfl rfl rfl (by kernel_rfl) Try.func5 (by kernel_rfl)
    (of_decide_eq_true (by kernel_rfl)) (by unfold Func.isWrapper; first | (rw [if_pos (by decide +kernel)]; kernel_rfl) | (rw [if_neg (by decide +kernel)]; exact ⟨rfl, rfl⟩))
    (fun os started H enc _ => fputs_lifted os started H enc)
#print axioms freedPuts_holds

end Go.Proofs.Ytpgpilalhbdidaa

/-
  'BranchLeads' returns true for every input: a key leads to the entry whose key isn't behind it, and whose next one's is. No condition. Own work; the frame is the guide's.
-/
import Derived.Test.YtfencmidjolgfaaBeF
import Derived.Test.YtfencmidjolgfaaBrT
import Derived.Test.YtfencmidjolgfaaBrF
import Derived.Test.YtfencmidjolgfaaBrG
import Derived.Deep.QuietTactic
import Derived.BigQuiet
import Derived.ProofKit
import Derived.OpenShut
import Derived.ShutString
import Derived.ChangeOld
namespace Go.Proofs.Ytfencmidjolgfaa
open Go.RowKit

theorem rise_drop {l : List En} (h : Rise l) : Rise (l.drop 1) := fun i j x y hij hx hy =>
  h (1 + i) (1 + j) x y (by omega) (by rwa [List.getElem?_drop] at hx) (by rwa [List.getElem?_drop] at hy)

set_option maxRecDepth 100000 in
set_option maxHeartbeats 8000000 in
theorem bleads_any (w : World) (ao : Option Addr) (n c : Nat) (l : List En) (a2 : Option Addr) (n2 c2 : Nat) (ks : List Int) (h : Raws5 w (.slice ao n c) l) (h2 : Seq w.heap.size w (.slice a2 n2 c2) ks) (b2 : Byt ks) :
    Calls Try.prog 12 #[.slice ao n c, .slice a2 n2 c2] w fun r w' => r = .returned (.bool true) ∧ Below w.heap.size w w' := by
  have H := Lib.hid h
  have H2 := Lib.hid h2
  have B2 := Lib.hid b2
  clear h h2 b2
  by_cases hf : FewP5 l
  · have HF := Lib.hid hf
    clear hf
    by_cases hk : n2 ≤ 120
    · have hd1 : decide ((120 : Int) < (n2 : Int)) = false := by simp; omega
      have hd2 : decide (120 < n2) = false := by simp; omega
      go_enter Try.func12, Try.ntmps12
      go_wp2_with (first
        | (go_at_call 30; refine (awake5_any _).mono ?_; rintro r wA ⟨rfl, hgA⟩; have HGA := Lib.hid hgA; clear hgA)
        | (go_at_call 31; refine (few5_yes H.out (gbelow HGA.out) HF.out).mono ?_; rintro r w1 ⟨rfl, rfl⟩)
        | (go_at_call 32; refine (ents5_s H.out (gbelow HGA.out) HF.out).mono ?_; rintro r w1 ⟨la, m, lc, rv, X, rfl, hm, hm30, hfi, hen, hrr, hg1⟩; obtain ⟨ra, rc, rfl⟩ := hrr.shape; have HM := Lib.hid hm; have HFI := Lib.hid hfi; have HEN := Lib.hid hen; have HG1 := Lib.hid (gtrans HGA.out hg1); clear hm hfi hen hrr hg1))
      by_cases hr : BRightP X 4096
      · have HR := Lib.hid hr
        clear hr
        go_wp2_with (first
          | (go_at_call 36; refine (bright_yes HEN.out (Nat.le_refl _) HR.out).mono ?_; rintro r w2 ⟨rfl, hg2⟩; have HG2 := Lib.hid hg2; clear hg2)
          | (go_at_call 39; have Kc := bfind_any w2 w1.heap.size w.heap.size _ _ _ _ _ _ X ks (HEN.out.grown HG2.out (Nat.le_refl _)) (H2.out.below (fun i hi => (gtrans HG1.out HG2.out).block i hi (by simp))) HG2.out.size (gtrans HG1.out HG2.out).size (by rw [HM.out]; exact HR.out.2.2.1) (rise_drop (HFI.out.rise rfl)); ((with_reducible refine Kc.mono ?_); clear Kc; rintro r w3 ⟨p, rfl, hp, hg3⟩); have HP := Lib.hid hp; have HG3 := Lib.hid (gtrans HG2.out hg3); clear hp hg3))
        have hpm : p < m := by have := HP.out.1; have := HM.out; omega
        have hpi : (p : Int) < (m : Int) := by omega
        have hp0 : ¬ (p : Int) < 0 := by omega
        have hp9 : ¬ (m : Int) ≤ (p : Int) := by omega
        have hd3 : decide ((p : Int) < 0) = false := by simp
        have hd4 : decide (m ≤ p) = false := by simp; omega
        have hd5 : decide ((m : Int) ≤ (p : Int)) = false := by simp; omega
        have hw1 : IntKind.i64.wrap ((p : Int) + 1) = (p : Int) + 1 := IntWalk.i64_in _ (by omega)
        obtain ⟨x, hx⟩ : ∃ x, X[p]? = some x := ⟨_, List.getElem?_eq_getElem (by have := HM.out; omega)⟩
        obtain ⟨b, o, rfl, hb, a1, c1, h1, h3, q0, q1⟩ := (HEN.out.grown HG3.out (Nat.le_refl _)).at p x hx
        have v1 : ∀ j, (convert 29 9 (.slice a1 x.key.length c1)).run Try.prog (w3.drewN j) = .ok (.string (strOfNums x.key)) (w3.drewN j) := fun j => seq_string (h1.below (w' := w3.drewN j) (fun _ _ => rfl))
        have s2 := H2.out.below (w' := w3) (fun i hi => (gtrans HG1.out HG3.out).block i hi (by simp))
        have v2 : ∀ j, (convert 29 9 (.slice a2 n2 c2)).run Try.prog (w3.drewN j) = .ok (.string (strOfNums ks)) (w3.drewN j) := fun j => seq_string (s2.below (w' := w3.drewN j) (fun _ _ => rfl))
        have hle : cmpL x.key ks ≤ 0 := by
          rcases Nat.eq_zero_or_pos p with e | e
          · rw [HR.out.2.2.2.1 x (by rw [← e]; exact hx), cmpL_nil]; split <;> omega
          · exact HP.out.2.1 p x e (Nat.le_refl _) hx
        have hls : (!Op.bytesLess (strOfNums x.key).toList (strOfNums ks).toList && !((strOfNums x.key).toList == (strOfNums ks).toList)) = false := by
          rw [less_str h3.ok.k B2.out, eq_str h3.ok.k B2.out]
          simp; omega
        obtain ⟨T, hT⟩ : ∃ T, T = strOfNums ks := ⟨_, rfl⟩
        obtain ⟨S, hS⟩ : ∃ S, S = strOfNums x.key := ⟨_, rfl⟩
        rw [← hS] at v1 hls
        rw [← hT] at v2 hls
        have HLS := Lib.hid hls
        have HT := Lib.hid hT
        clear h1 h3 q1 hx hle hS hT s2 hls
        go_wp2
        go_quiet (fail)
        rw [HLS.out]
        have HG4 := Lib.hid (gtrans HG3.out (⟨rfl, rfl, rfl, Nat.le_refl _, fun _ _ _ => rfl⟩ : w3.grownBy (w3.drewN nq) none))
        clear v1 v2 q0 HLS
        generalize w3.drewN nq = w4 at *
        by_cases hl : p + 1 = m
        · have hl1 : decide ((p : Int) + 1 = (m : Int)) = true := by simp; omega
          have hl2 : ((p : Int) + 1 == (m : Int)) = true := by simp; omega
          clear hd3 hd4 hd5
          go_wp2
          go_quiet (fail)
          go_wp2
          go_ret
          exact ⟨by simp, gbelow (gtrans HG1.out (gtrans HG4.out ⟨rfl, rfl, rfl, Nat.le_refl _, fun _ _ _ => rfl⟩))⟩
        · have hl1 : ¬ (p : Int) + 1 = (m : Int) := by omega
          have hl2 : ((p : Int) + 1 == (m : Int)) = false := by simp; omega
          have hl3 : decide ((p : Int) + 1 = (m : Int)) = false := by simp; omega
          have hpi2 : (p : Int) + 1 < (m : Int) := by omega
          obtain ⟨y, hy⟩ : ∃ y, X[p + 1]? = some y := ⟨_, List.getElem?_eq_getElem (by have := HM.out; omega)⟩
          obtain ⟨b', o', he, hb', a3, c3, h1, h3, q0, q1⟩ := (HEN.out.grown HG4.out (Nat.le_refl _)).at (p + 1) y hy
          injection he with he
          injection he with e1 e2
          subst e1 e2
          have v1 : ∀ j, (convert 29 9 (.slice a3 y.key.length c3)).run Try.prog (w4.drewN j) = .ok (.string (strOfNums y.key)) (w4.drewN j) := fun j => seq_string (h1.below (w' := w4.drewN j) (fun _ _ => rfl))
          have s2 := H2.out.below (w' := w4) (fun i hi => (gtrans HG1.out HG4.out).block i hi (by simp))
          have v2 : ∀ j, (convert 29 9 (.slice a2 n2 c2)).run Try.prog (w4.drewN j) = .ok (.string (strOfNums ks)) (w4.drewN j) := fun j => seq_string (s2.below (w' := w4.drewN j) (fun _ _ => rfl))
          have hgt : 0 < cmpL y.key ks := HP.out.2.2 (p + 1) y (by omega) hy
          have hls : (!Op.bytesLess (strOfNums y.key).toList (strOfNums ks).toList && !((strOfNums y.key).toList == (strOfNums ks).toList)) = true := by
            rw [less_str h3.ok.k B2.out, eq_str h3.ok.k B2.out]
            simp; omega
          rw [← HT.out] at v2 hls
          obtain ⟨S2, hS⟩ : ∃ S, S = strOfNums y.key := ⟨_, rfl⟩
          rw [← hS] at v1 hls
          have HLS := Lib.hid hls
          clear h1 h3 q1 hy hgt hS s2 HT hls
          go_wp2
          go_quiet (fail)
          rw [HLS.out]
          go_wp2
          go_ret
          exact ⟨by simp, gbelow (gtrans HG1.out (gtrans HG4.out ⟨rfl, rfl, rfl, Nat.le_refl _, fun _ _ _ => rfl⟩))⟩
      · have HR := Lib.hid hr
        clear hr
        go_wp2_with (go_at_call 36; refine (bright_no HEN.out (Nat.le_refl _) HR.out).mono ?_; rintro r w2 ⟨rfl, hg2⟩; have HG2 := Lib.hid (gtrans HG1.out hg2); clear hg2)
        go_ret
        exact ⟨rfl, gbelow HG2.out⟩
    · have hd1 : decide ((120 : Int) < (n2 : Int)) = true := by simp; omega
      have hd2 : decide (120 < n2) = true := by simp; omega
      clear hk
      go_enter Try.func12, Try.ntmps12
      go_wp2_with (first
        | (go_at_call 30; refine (awake5_any _).mono ?_; rintro r wA ⟨rfl, hgA⟩; have HGA := Lib.hid hgA; clear hgA)
        | (go_at_call 31; refine (few5_yes H.out (gbelow HGA.out) HF.out).mono ?_; rintro r w1 ⟨rfl, rfl⟩))
      go_ret
      exact ⟨rfl, gbelow HGA.out⟩
  · have HF := Lib.hid hf
    clear hf
    go_enter Try.func12, Try.ntmps12
    go_wp2_with (first
      | (go_at_call 30; refine (awake5_any _).mono ?_; rintro r wA ⟨rfl, hgA⟩; have HGA := Lib.hid hgA; clear hgA)
      | (go_at_call 31; refine (few5_no H.out (gbelow HGA.out) HF.out).mono ?_; rintro r w1 ⟨rfl, rfl⟩))
    go_ret
    exact ⟨rfl, gbelow HGA.out⟩

open Go.ChangeShapes Go.WideShapes Go.ChangeAt
set_option linter.unusedVariables false
set_option maxRecDepth 100000 in
theorem bleads_lifted (os : Os) (started : os.Started) (H : Type) (enc : TypeId × Value → H) :
    ReturnsInHanded {} Try.checked os 12 .any (Rows.branchLeadsSpec.pre6 enc Try.prog Try.f12 Rows.branchLeadsRow.domain false) (Rows.branchLeadsSpec.post enc Try.prog Try.f12 false true false false) := by
  refine returnsInHanded_of_change (C := Try.checked) ownKnob0 started (by kernel_rfl) Try.func12
    (ChangeSpec.witness6 (enc := enc) (C := Try.checked) false ⟨#[], #[.slice none 0 0, .slice none 0 0], []⟩ 8 (by kernel_rfl) (by kernel_rfl) (by kernel_rfl) (by kernel_rfl)) ?_
  intro W base args ds gs before hval0 hW hcnd _
  have hval : ∀ (j : Nat) t v, Try.f12.params[j]? = some t → args[j]? = some v → Value.okWide Try.prog W .any base t v := hval0
  have hW' := hW
  obtain ⟨p, q, hA0, hV, rfl, hfz, hnd⟩ := hW
  have hA : DataW.TrodAll enc Try.prog W 0 (fun _ => true) true Try.f12.params.toList args.toList ds p := hA0
  rw [Try.params12] at hA hval
  obtain ⟨v0, vs0, d0, ds0, p0, q0, hargs, rfl, rfl, h0, r0⟩ := trodAll_cons hA
  obtain ⟨v1, vs1, d1, ds1, p1, q1, rfl, rfl, rfl, h1, r1⟩ := trodAll_cons r0
  obtain ⟨rfl, rfl, rfl⟩ := trodAll_nil r1
  obtain rfl : args = #[v0, v1] := by cases args; simp_all
  obtain ⟨rfl, rfl⟩ := trodVars_none hV
  obtain ⟨a0, len0, cap0, rfl⟩ := okWide_slice Try.underlying62 (hval 0 62 v0 rfl rfl)
  have lt0 : ∀ x ∈ p0, x.block < W.heap.size := by obtain ⟨m, hm⟩ := h0; exact DataW.trod_lt m _ _ _ hm
  obtain ⟨z0, w0⟩ := open_raws5 h0
  obtain ⟨a1, len1, cap1, rfl⟩ := okWide_slice Try.underlying29 (hval 1 29 v1 rfl rfl)
  have lt1 : ∀ x ∈ p1, x.block < W.heap.size := by obtain ⟨m, hm⟩ := h1; exact DataW.trod_lt m _ _ _ hm
  obtain ⟨z1, w1, y1⟩ := open_bytes h1
  clear hA0 hval0
  refine (bleads_any W a0 len0 cap0 z0 a1 len1 cap1 z1 w0 w1 y1).mono fun e W' ⟨he, bel⟩ => ?_
  subst he
  exact ⟨_, rfl, _, _, _, [], _, [], hW', trodAll_mk1 (shut_bool Try.underlying4 _), (trodAll_cons_mk (Below.trod laidOut0 (by kernel_rfl) (of_decide_eq_true (by kernel_rfl)) h0 bel lt0) (trodAll_cons_mk (Below.trod laidOut0 (by kernel_rfl) (of_decide_eq_true (by kernel_rfl)) h1 bel lt1) trodAll_mk0)), rfl, bel.frame _, fun h => by cases h⟩

/-- BranchLeads, for every input. -/
theorem branchLeads_holds : Rows.BranchLeadsSaid :=
  OpenClaim.holds_of_wide 12 Try.f12 rfl rfl rfl rfl rfl rfl rfl ⟨rfl, rfl, rfl, rfl, rfl⟩ rfl rfl rfl rfl rfl (by kernel_rfl) Try.func12 (by kernel_rfl)
    (of_decide_eq_true (by kernel_rfl)) (by unfold Func.isWrapper; first | (rw [if_pos (by decide +kernel)]; kernel_rfl) | (rw [if_neg (by decide +kernel)]; exact ⟨rfl, rfl⟩))
    (fun os started H enc _ => bleads_lifted os started H enc)
#print axioms branchLeads_holds

end Go.Proofs.Ytfencmidjolgfaa

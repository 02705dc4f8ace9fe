/-
  'LeafFinds' returns true for every input: where any key stands among entries, or would stand, is the document's. No condition. Own work; the frame is the guide's.
-/
import Derived.Test.YtfencmidjolgfaaLawL
import Derived.Deep.QuietTactic
import Derived.BigQuiet
namespace Go.Proofs.Ytfencmidjolgfaa
open Go.RowKit

theorem rfind_same {w : World} {ao : Option Addr} {n c : Nat} {l : List En} {key : List Int} {p : Nat} {f : Bool} (h : RRow w (.slice ao n c) l) (ho : ∀ x ∈ l, EnOk x) (hk : Byt key) (hr : Rise l) (hp : PosOf l key p) (hf : f = true ↔ FoundAt l key p) :
    Calls Try.prog 28 #[.slice ao n c, .string (strOfNums key)] w fun r w' => r = .returned (.tuple #[.int .i64 (p : Int), .bool f]) ∧ w.grownBy w' none := by
  refine (rfind_any w ao n c l key h ho hk).mono ?_
  rintro r w' ⟨q, g, rfl, h1, h2, h3, h4, h5⟩
  have hq : PosOf l key q := ⟨h1, h2, fun j y hj hy => by
    obtain ⟨z, hz⟩ : ∃ z, l[q]? = some z := ⟨_, List.getElem?_eq_getElem (by have := (List.getElem?_eq_some_iff.1 hy).1; omega)⟩
    exact hr.hi hz (h3 z hz) j y hj hy⟩
  have e := hq.uniq hp
  subst e
  have hg : g = f := by cases g <;> cases f <;> simp_all
  subst hg
  exact ⟨rfl, h5⟩

set_option maxRecDepth 100000 in
set_option maxHeartbeats 4000000 in
theorem finds_any (w : World) (ao : Option Addr) (n c : Nat) (l : List En) (a2 : Option Addr) (n2 c2 : Nat) (ks : List Int) (h : Raws w (.slice ao n c) l) (h2 : Seq w.heap.size w (.slice a2 n2 c2) ks) (b2 : Byt ks) :
    Calls Try.prog 5 #[.slice ao n c, .slice a2 n2 c2] w fun r w' => r = .returned (.bool true) ∧ Below w.heap.size w w' := by
  have H := Lib.hid h
  have H2 := Lib.hid h2
  have B2 := Lib.hid b2
  clear h h2 b2
  by_cases hf : FewP l
  · have HF := Lib.hid hf
    clear hf
    by_cases hk : n2 ≤ 120
    · have hd1 : decide ((120 : Int) < (n2 : Int)) = false := by simp; omega
      have hd2 : decide (120 < n2) = false := by simp; omega
      go_enter Try.func5, Try.ntmps5
      go_wp2_with (first
        | (go_at_call 14; refine (awake4_any _).mono ?_; rintro r wA ⟨rfl, hgA⟩; have HGA := Lib.hid hgA; clear hgA)
        | (go_at_call 15; refine (few_yes H.out (gbelow HGA.out) HF.out).mono ?_; rintro r w1 ⟨rfl, rfl⟩)
        | (go_at_call 16; refine (ents_s H.out (gbelow HGA.out) HF.out).mono ?_; rintro r w1 ⟨la, m, lc, rv, X, rfl, hm, hm30, hfi, hen, hrr, hg1⟩; obtain ⟨ra, rc, rfl⟩ := hrr.shape; have HM := Lib.hid hm; have HFI := Lib.hid hfi; have HEN := Lib.hid hen; have HRR := Lib.hid hrr; have HG1 := Lib.hid (gtrans HGA.out hg1); clear hm hfi hen hrr hg1)
        | (go_at_call 27; have Kc := find_any w1 w1.heap.size w.heap.size _ _ _ _ _ _ X ks HEN.out (H2.out.below (fun i hi => HG1.out.block i hi (by simp))) (Nat.le_refl _) HG1.out.size (HFI.out.rise rfl); ((with_reducible refine Kc.mono ?_); clear Kc; rintro r w2 ⟨p, f, rfl, hp, hff, hg2⟩); have HP := Lib.hid hp; have HFF := Lib.hid hff; have HG2 := Lib.hid (gtrans HG1.out hg2); have hcv := seq_string (H2.out.below (w' := w2) (fun i hi => HG2.out.block i hi (by simp))); have HRR2 := Lib.hid (HRR.out.grown hg2); clear hp hff hg2)
        | (go_at_call 28; have Kc := rfind_same HRR2.out (fun x hx => (HFI.out.ok x hx).1) B2.out (HFI.out.rise rfl) HP.out HFF.out; ((with_reducible refine Kc.mono ?_); clear Kc; rintro r w3 ⟨rfl, hg3⟩); have HG3 := Lib.hid (gtrans HG2.out hg3); clear hg3))
      go_ret
      exact ⟨by simp, gbelow HG3.out⟩
    · have hd1 : decide ((120 : Int) < (n2 : Int)) = true := by simp; omega
      have hd2 : decide (120 < n2) = true := by simp; omega
      clear hk
      go_enter Try.func5, Try.ntmps5
      go_wp2_with (first
        | (go_at_call 14; refine (awake4_any _).mono ?_; rintro r wA ⟨rfl, hgA⟩; have HGA := Lib.hid hgA; clear hgA)
        | (go_at_call 15; refine (few_yes H.out (gbelow HGA.out) HF.out).mono ?_; rintro r w1 ⟨rfl, rfl⟩))
      go_ret
      exact ⟨rfl, gbelow HGA.out⟩
  · have HF := Lib.hid hf
    clear hf
    go_enter Try.func5, Try.ntmps5
    go_wp2_with (first
      | (go_at_call 14; refine (awake4_any _).mono ?_; rintro r wA ⟨rfl, hgA⟩; have HGA := Lib.hid hgA; clear hgA)
      | (go_at_call 15; refine (few_no H.out (gbelow HGA.out) HF.out).mono ?_; rintro r w1 ⟨rfl, rfl⟩))
    go_ret
    exact ⟨rfl, gbelow HGA.out⟩

open Go.ChangeShapes Go.WideShapes Go.ChangeAt
set_option linter.unusedVariables false
set_option maxRecDepth 100000 in
theorem finds_lifted (os : Os) (started : os.Started) (H : Type) (enc : TypeId × Value → H) :
    ReturnsInHanded {} Try.checked os 5 .any (Rows.leafFindsSpec.pre6 enc Try.prog Try.f5 Rows.leafFindsRow.domain false) (Rows.leafFindsSpec.post enc Try.prog Try.f5 false true false false) := by
  refine returnsInHanded_of_change (C := Try.checked) ownKnob0 started (by kernel_rfl) Try.func5
    (ChangeSpec.witness6 (enc := enc) (C := Try.checked) false ⟨#[], #[.slice none 0 0, .slice none 0 0], []⟩ 8 (by kernel_rfl) (by kernel_rfl) (by kernel_rfl) (by kernel_rfl)) ?_
  intro W base args ds gs before hval0 hW hcnd _
  have hval : ∀ (j : Nat) t v, Try.f5.params[j]? = some t → args[j]? = some v → Value.okWide Try.prog W .any base t v := hval0
  have hW' := hW
  obtain ⟨p, q, hA0, hV, rfl, hfz, hnd⟩ := hW
  have hA : DataW.TrodAll enc Try.prog W 0 (fun _ => true) true Try.f5.params.toList args.toList ds p := hA0
  rw [Try.params5] at hA hval
  obtain ⟨v0, vs0, d0, ds0, p0, q0, hargs, rfl, rfl, h0, r0⟩ := trodAll_cons hA
  obtain ⟨v1, vs1, d1, ds1, p1, q1, rfl, rfl, rfl, h1, r1⟩ := trodAll_cons r0
  obtain ⟨rfl, rfl, rfl⟩ := trodAll_nil r1
  obtain rfl : args = #[v0, v1] := by cases args; simp_all
  obtain ⟨rfl, rfl⟩ := trodVars_none hV
  obtain ⟨a0, len0, cap0, rfl⟩ := okWide_slice Try.underlying22 (hval 0 22 v0 rfl rfl)
  have lt0 : ∀ x ∈ p0, x.block < W.heap.size := by obtain ⟨m, hm⟩ := h0; exact DataW.trod_lt m _ _ _ hm
  obtain ⟨z0, w0⟩ := open_raws h0
  obtain ⟨a1, len1, cap1, rfl⟩ := okWide_slice Try.underlying29 (hval 1 29 v1 rfl rfl)
  have lt1 : ∀ x ∈ p1, x.block < W.heap.size := by obtain ⟨m, hm⟩ := h1; exact DataW.trod_lt m _ _ _ hm
  obtain ⟨z1, w1, y1⟩ := open_bytes h1
  clear hA0 hval0
  refine (finds_any W a0 len0 cap0 z0 a1 len1 cap1 z1 w0 w1 y1).mono fun e W' ⟨he, bel⟩ => ?_
  subst he
  exact ⟨_, rfl, _, _, _, [], _, [], hW', trodAll_mk1 (shut_bool Try.underlying4 _), (trodAll_cons_mk (Below.trod laidOut0 (by kernel_rfl) (of_decide_eq_true (by kernel_rfl)) h0 bel lt0) (trodAll_cons_mk (Below.trod laidOut0 (by kernel_rfl) (of_decide_eq_true (by kernel_rfl)) h1 bel lt1) trodAll_mk0)), rfl, bel.frame _, fun h => by cases h⟩

/-- LeafFinds, for every input. -/
theorem leafFinds_holds : Rows.LeafFindsSaid :=
  OpenClaim.holds_of_wide 5 Try.f5 rfl rfl rfl rfl rfl rfl rfl ⟨rfl, rfl, rfl, rfl, rfl⟩ rfl rfl rfl rfl rfl (by kernel_rfl) Try.func5 (by kernel_rfl)
    (of_decide_eq_true (by kernel_rfl)) (by unfold Func.isWrapper; first | (rw [if_pos (by decide +kernel)]; kernel_rfl) | (rw [if_neg (by decide +kernel)]; exact ⟨rfl, rfl⟩))
    (fun os started H enc _ => finds_lifted os started H enc)
#print axioms leafFinds_holds

end Go.Proofs.Ytfencmidjolgfaa

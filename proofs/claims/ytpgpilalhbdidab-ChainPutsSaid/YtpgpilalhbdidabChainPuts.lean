/-
  'ChainPuts' returns true for every input: whether any part may be put, and its page, are the document's; it is got as it was. No condition. Own work; the frame is the guide's.
-/
import Derived.Test.YtpgpilalhbdidabChaE
import Derived.ProofKit
import Derived.OpenShut
import Derived.ShutString
import Derived.ChangeOld
namespace Go.Proofs.Ytpgpilalhbdidab
open Go.RowKit

set_option maxHeartbeats 4000000 in
theorem cputs_any (w : World) (ao : Option Addr) (n c : Nat) (p : List Int) (x size : Int) (h : Seq w.heap.size w (.slice ao n c) p) (hb : Byt p) (x0 : 0 ≤ x) (x1 : x ≤ 4294967295) (z0 : -9223372036854775808 ≤ size) (z1 : size ≤ 9223372036854775807) :
    Calls Try.prog 4 #[.slice ao n c, .int .u32 x, .int .i64 size] w fun r w' => r = .returned (.bool true) ∧ Below w.heap.size w w' := by
  have hn : n = p.length := by obtain ⟨_, _, hv, _⟩ := h; injection hv
  have HN := Lib.hid hn
  have H := Lib.hid h
  have HB := Lib.hid hb
  clear h hb hn
  by_cases hlen : n ≤ 5000
  · have hd0 : decide ((5000 : Int) < (n : Int)) = false := by simp; omega
    have hd1 : decide (5000 < n) = false := by simp; omega
    obtain ⟨T, hT⟩ : ∃ T, T = strOfNums p := ⟨_, rfl⟩
    have HT := Lib.hid hT
    have HSK := Lib.hid (show ∀ w' : World, w.grownBy w' none → (convert 22 9 (.slice ao n c)).run Try.prog w' = .ok (.string T) w' from fun w' hg => by rw [hT]; exact seq_string (H.out.below (w' := w') (fun i hi => hg.block i hi (by simp))))
    clear hT
    by_cases hr : RightC (n : Int) size
    · obtain ⟨S, rfl⟩ : ∃ S : Nat, size = (S : Int) := ⟨size.toNat, by have := hr.1; omega⟩
      obtain ⟨y, rfl⟩ : ∃ y : Nat, x = (y : Int) := ⟨x.toNat, by omega⟩
      have hS9 : S ≤ 4096 := by have := hr.2.1; omega
      have hp8 : 8 + p.length ≤ S := by have := hr.2.2.2; have := HN.out; omega
      have HR := Lib.hid hr
      have HRP := Lib.hid (show RightC (p.length : Int) (S : Int) by rw [← HN.out]; exact hr)
      have HPL := Lib.hid (chB_len (x := (y : Int)) hp8)
      obtain ⟨P, hP⟩ : ∃ P, P = strOfNums (chB p y S) := ⟨_, rfl⟩
      have HPG := Lib.hid hP
      clear hr hp8 hP
      go_enter Try.func4, Try.ntmps4
      go_wp2_with (first
        | (go_at_call 9; refine (awake6_any _).mono ?_; rintro r wA ⟨rfl, hgA⟩; have HGA := Lib.hid hgA; clear hgA)
        | (go_at_call 14; have Kc := cput_ok wA w.heap.size ao n c p y S (H.out.below (fun i hi => HGA.out.block i hi (by simp))) HGA.out.size x0 x1 HR.out; ((with_reducible refine Kc.mono ?_); clear Kc; rintro r w2 ⟨bb, rfl, _, hpb, hg⟩); have HPB := Lib.hid (show ∀ w', w2.grownBy w' none → Seq w'.heap.size w' (.slice (some ⟨bb, 0, none⟩) S S) (chB p y S) from fun w' k => seq_page ((k.block _ (lt_of_block hpb) (by simp)).trans hpb) HPL.out (by unfold maxLen; omega)); have G2 := Lib.hid (gtrans HGA.out hg); have v1 := HSK.out w2 G2.out; clear hg hpb)
        | (go_at_call 15; have Kc := gput_ok w2 p y S HB.out (by omega) HRP.out; rw [← HT.out, ← HPG.out] at Kc; ((with_reducible refine Kc.mono ?_); clear Kc; rintro r w3 ⟨rfl, hg⟩); have G3 := Lib.hid (gtrans G2.out hg); have GB3 := Lib.hid hg; have v2 := seq_string (HPB.out w3 GB3.out); rw [← HPG.out] at v2; clear hg)
        | (go_at_call 16; have Kc := cget_back (HPB.out w3 GB3.out) (Nat.le_refl _) HB.out x0 x1 HRP.out; ((with_reducible refine Kc.mono ?_); clear Kc; rintro r w4 ⟨pv, rfl, ho, hg⟩); obtain ⟨la, lc, rfl⟩ := own_shape ho; have v3 := seq_string (Seq.owned ho); rw [← HT.out, ← HN.out] at v3; rw [← HN.out]; have G4 := Lib.hid (gtrans G3.out hg); have v4 := HSK.out w4 G4.out; clear ho hg))
      go_ret
      exact ⟨rfl, gbelow G4.out⟩
    · have HR := Lib.hid hr
      have HRP := Lib.hid (show ¬ RightC (p.length : Int) size by rw [← HN.out]; exact hr)
      have cvn : ∀ w' : World, (convert 22 9 (.slice none 0 0)).run Try.prog w' = .ok (.string { data := #[] }) w' := fun w' => seq_string (seq_nil 0 w')
      clear hr
      go_enter Try.func4, Try.ntmps4
      go_wp2_with (first
        | (go_at_call 9; refine (awake6_any _).mono ?_; rintro r wA ⟨rfl, hgA⟩; have HGA := Lib.hid hgA; clear hgA)
        | (go_at_call 14; have Kc := cput_arg wA ao n c x size HR.out; ((with_reducible refine Kc.mono ?_); clear Kc; rintro r wq ⟨rfl, rfl⟩); have v1 := HSK.out wA HGA.out)
        | (go_at_call 15; have Kc := gput_arg wA p x size HB.out (by have := HN.out; omega) z0 z1 HRP.out; rw [← HT.out] at Kc; ((with_reducible refine Kc.mono ?_); clear Kc; rintro r wq ⟨rfl, rfl⟩)))
      go_ret
      exact ⟨rfl, gbelow HGA.out⟩
  · have hd0 : decide ((5000 : Int) < (n : Int)) = true := by simp; omega
    have hd1 : decide (5000 < n) = true := by simp; omega
    clear hlen
    go_enter Try.func4, Try.ntmps4
    go_wp2_with (go_at_call 9; refine (awake6_any _).mono ?_; rintro r wA ⟨rfl, hgA⟩; have HGA := Lib.hid hgA; clear hgA)
    go_ret
    exact ⟨rfl, gbelow HGA.out⟩

open Go.ChangeShapes Go.WideShapes Go.ChangeAt
set_option linter.unusedVariables false
set_option maxRecDepth 100000 in
theorem cputs_lifted (os : Os) (started : os.Started) (H : Type) (enc : TypeId × Value → H) :
    ReturnsInHanded {} Try.checked os 4 .any (Rows.chainPutsSpec.pre6 enc Try.prog Try.f4 Rows.chainPutsRow.domain false) (Rows.chainPutsSpec.post enc Try.prog Try.f4 false true false false) := by
  refine returnsInHanded_of_change (C := Try.checked) ownKnob0 started (by kernel_rfl) Try.func4
    (ChangeSpec.witness6 (enc := enc) (C := Try.checked) false ⟨#[], #[.slice none 0 0, .int .u32 0, .int .i64 0], []⟩ 8 (by kernel_rfl) (by kernel_rfl) (by kernel_rfl) (by kernel_rfl)) ?_
  intro W base args ds gs before hval0 hW hcnd _
  have hval : ∀ (j : Nat) t v, Try.f4.params[j]? = some t → args[j]? = some v → Value.okWide Try.prog W .any base t v := hval0
  have hW' := hW
  obtain ⟨p, q, hA0, hV, rfl, hfz, hnd⟩ := hW
  have hA : DataW.TrodAll enc Try.prog W 0 (fun _ => true) true Try.f4.params.toList args.toList ds p := hA0
  rw [Try.params4] at hA hval
  obtain ⟨v0, vs0, d0, ds0, p0, q0, hargs, rfl, rfl, h0, r0⟩ := trodAll_cons hA
  obtain ⟨v1, vs1, d1, ds1, p1, q1, rfl, rfl, rfl, h1, r1⟩ := trodAll_cons r0
  obtain ⟨v2, vs2, d2, ds2, p2, q2, rfl, rfl, rfl, h2, r2⟩ := trodAll_cons r1
  obtain ⟨rfl, rfl, rfl⟩ := trodAll_nil r2
  obtain rfl : args = #[v0, v1, v2] := by cases args; simp_all
  obtain ⟨rfl, rfl⟩ := trodVars_none hV
  obtain ⟨a0, len0, cap0, rfl⟩ := okWide_slice Try.underlying22 (hval 0 22 v0 rfl rfl)
  have lt0 : ∀ x ∈ p0, x.block < W.heap.size := by obtain ⟨m, hm⟩ := h0; exact DataW.trod_lt m _ _ _ hm
  obtain ⟨z0, w0, y0⟩ := open_bytes h0
  obtain ⟨a1, rfl, rfl, rfl, w1⟩ := open_int Try.underlying30 (hval 1 30 v1 rfl rfl) h1
  have b1 := bounds_u32 w1
  obtain ⟨a2, rfl, rfl, rfl, w2⟩ := open_int Try.underlying3 (hval 2 3 v2 rfl rfl) h2
  have b2 := bounds_i64 w2
  clear hA0 hval0
  refine (cputs_any W a0 len0 cap0 z0 a1 a2 w0 y0 b1.1 b1.2 b2.1 b2.2).mono fun e W' ⟨he, bel⟩ => ?_
  subst he
  exact ⟨_, rfl, _, _, _, [], _, [], hW', trodAll_mk1 (shut_bool Try.underlying4 _), (trodAll_cons_mk (Below.trod laidOut0 (by kernel_rfl) (of_decide_eq_true (by kernel_rfl)) h0 bel lt0) (trodAll_cons_mk (shut_int Try.underlying30 w1) (trodAll_cons_mk (shut_int Try.underlying3 w2) trodAll_mk0))), rfl, bel.frame _, fun h => by cases h⟩

/-- ChainPuts, for every input. -/
theorem chainPuts_holds : Rows.ChainPutsSaid :=
  OpenClaim.holds_of_wide 4 Try.f4 rfl rfl rfl rfl rfl rfl rfl ⟨rfl, rfl, rfl, rfl, rfl⟩ rfl rfl rfl rfl rfl (by kernel_rfl) Try.func4 (by kernel_rfl)
    (of_decide_eq_true (by kernel_rfl)) (by unfold Func.isWrapper; first | (rw [if_pos (by decide +kernel)]; kernel_rfl) | (rw [if_neg (by decide +kernel)]; exact ⟨rfl, rfl⟩))
    (fun os started H enc _ => cputs_lifted os started H enc)
#print axioms chainPuts_holds

end Go.Proofs.Ytpgpilalhbdidab

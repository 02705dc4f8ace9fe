/-
  FreedGathers: Flat and Gather are the document's, and Gather gives back what Flat laid out of right records. Proved for every input, no condition.
-/
import Derived.Test.YtpgpilalhbdidaaFrW
import Derived.Test.YtpgpilalhbdidaaFrK
import Derived.Test.YtpgpilalhbdidaaFrO
import Derived.Test.YtpgpilalhbdidaaFpE
import Derived.Test.YtpgpilalhbdidaaFpJ
import Derived.ProofKit
import Derived.OpenShut
import Derived.ShutString
import Derived.ChangeOld
namespace Go.Proofs.Ytpgpilalhbdidaa
open Go.RowKit Go.Maps

theorem vgather_any (w : World) (R : Nat → Prop) (ao : Option Addr) (n c : Nat) (ps : List Pr) (h : PrSq R w (.slice ao n c) ps) (hn9 : n ≤ 1000000) :
    Calls Try.prog 18 #[.slice ao n c] w fun r w' => VGatherR w (gatherL ps) r w' := by
  have hnl := h.len.1
  by_cases h0 : 0 < n
  · obtain ⟨p0, hp0⟩ : ∃ p, ps[0]? = some p := ⟨ps[0]'(by omega), List.getElem?_eq_getElem (by omega)⟩
    obtain ⟨b, o, hb, _⟩ := h.at 0 p0 hp0
    exact vgather_some w R b o n c ao (fun _ => hb) ps h hn9
  · exact vgather_some w R 0 0 n c ao (fun e => absurd e h0) ps h hn9
theorem right_last (w : World) (R : Nat → Prop) (ao : Option Addr) (n c : Nat) (l : List Rc) (hs : RSq R w (.slice ao n c) l) (b : Bool) (hb : right l 4294967295 = b) :
    Calls Try.prog 21 #[.slice ao n c, .int .u32 4294967295] w fun r w' => r = .returned (.bool b) ∧ w.grownBy w' none := by
  subst hb
  exact right_any w R ao n c l 4294967295 hs (by decide)
theorem few_flat {rs : List Rc} (h : few8 rs = true) : (flatR rs).length ≤ 300 ∧ rs.length ≤ 10 ∧ ∀ r ∈ rs, r.2.length ≤ 30 := by
  obtain ⟨h1, h2⟩ := few8_iff.1 h
  exact ⟨Nat.le_trans (flatR_len rs h1) (by omega), h2, h1⟩

set_option maxRecDepth 100000 in
set_option maxHeartbeats 8000000 in
theorem fgathers_any (W : World) (ao : Option Addr) (n c : Nat) (rs : List Rc) (a2 : Option Addr) (n2 c2 : Nat) (ps : List Pr) (p S : Int) (h : RSq (fun b => b < W.heap.size) W (.slice ao n c) rs) (hsm : Small8 rs) (h2 : PrSq (fun b => b < W.heap.size) W (.slice a2 n2 c2) ps) (_hs2 : ps.length * 16 ≤ 140737488351232) (_hp0 : -9223372036854775808 ≤ p) (hp1 : p ≤ 9223372036854775807) (_hS0 : -9223372036854775808 ≤ S) (_hS1 : S ≤ 9223372036854775807) :
    Calls Try.prog 3 #[.slice ao n c, .slice a2 n2 c2, .int .i64 p, .int .i64 S] W fun r w' => r = .returned (.bool true) ∧ Below W.heap.size W w' := by
  have HS := Lib.hid h
  have HSM := Lib.hid hsm
  have HP := Lib.hid h2
  have HN2 := Lib.hid h2.len.1
  clear h hsm h2
  obtain ⟨f, hf⟩ : ∃ f, few8 rs = f := ⟨_, rfl⟩
  have HFW := Lib.hid hf
  clear hf
  cases f with
  | false =>
    go_enter Try.func3, Try.ntmps3
    go_wp2_with (first
      | (go_at_call 9; (with_reducible refine (awake10_any W).mono ?_); rintro r w1 ⟨rfl, hg⟩; have HG1 := Lib.hid hg; have HR1 := Lib.hid (HS.out.grown hg); clear hg)
      | (go_at_call 10; (with_reducible refine (few8_any w1 _ ao n c rs HR1.out).mono ?_); rw [HFW.out]; rintro r wq ⟨rfl, rfl⟩))
    go_ret
    exact ⟨rfl, gbelow HG1.out⟩
  | true =>
    by_cases h1 : 100 < n2
    · have h1i : (100 : Int) < (n2 : Int) := by omega
      go_enter Try.func3, Try.ntmps3
      go_wp2_with (first
        | (go_at_call 9; (with_reducible refine (awake10_any W).mono ?_); rintro r w1 ⟨rfl, hg⟩; have HG1 := Lib.hid hg; have HR1 := Lib.hid (HS.out.grown hg); clear hg)
        | (go_at_call 10; (with_reducible refine (few8_any w1 _ ao n c rs HR1.out).mono ?_); rw [HFW.out]; rintro r wq ⟨rfl, rfl⟩))
      go_ret
      exact ⟨rfl, gbelow HG1.out⟩
    · have h1i : ¬ (100 : Int) < (n2 : Int) := by omega
      obtain ⟨hfl, hrl, hrp⟩ := few_flat HFW.out
      obtain ⟨g, hg⟩ : ∃ g, right rs 4294967295 = g := ⟨_, rfl⟩
      have HRT := Lib.hid hg
      obtain ⟨L, hL⟩ : ∃ L, L = (flatR rs).length := ⟨_, rfl⟩
      obtain ⟨Rn, hRn⟩ : ∃ Rn, Rn = rs.length := ⟨_, rfl⟩
      obtain ⟨K, hK⟩ : ∃ K, K = (gatherL ps).length := ⟨_, rfl⟩
      obtain ⟨Mn, hMn⟩ : ∃ Mn, Mn = manyF p S := ⟨_, rfl⟩
      have HL := Lib.hid hL
      have HRN := Lib.hid hRn
      have HK := Lib.hid hK
      have HMN := Lib.hid hMn
      have HFL := Lib.hid hfl
      have HRP := Lib.hid hrp
      rw [← hRn] at hrl
      have hL3 : L ≤ 300 := by omega
      clear hg hL hRn hK hMn hfl hrp
      have HGF := Lib.hid (fun h : right rs 4294967295 = true => gather_flat (right_iff.1 h))
      cases g
      all_goals
        go_enter Try.func3, Try.ntmps3
        go_wp2_with (first
          | (go_at_call 9; (with_reducible refine (awake10_any W).mono ?_); rintro r w1 ⟨rfl, hg⟩; have HG1 := Lib.hid hg; have HR1 := Lib.hid (HS.out.grown hg); clear hg)
          | (go_at_call 10; (with_reducible refine (few8_any w1 _ ao n c rs HR1.out).mono ?_); rw [HFW.out]; rintro r wq ⟨rfl, rfl⟩)
          | (go_at_call 11; (with_reducible refine (records8_any w1 ao n c rs (HR1.out.imp (fun b _ hb => hb)) HSM.out).mono ?_); rintro r w2 ⟨ov, rv, es, es2, rfl, ho, he, hv, he2, hg⟩; have hro := ho.rsq; rw [he] at hro; obtain ⟨oa, oc, rfl⟩ := hro.shape; have hrv := hv.rsq; rw [he2] at hrv; obtain ⟨ra, rc, rfl⟩ := hrv.shape; rw [← HRN.out] at hro hrv; rw [← HRN.out]; have HO2 := Lib.hid hro; have HV2 := Lib.hid hrv; have HG2 := Lib.hid (gtrans HG1.out hg); have HP2 := Lib.hid (HP.out.grown HG2.out); clear ho he hv he2 hg hro hrv)
          | (go_at_call 13; (with_reducible refine (flat_any w2 _ oa Rn oc rs HO2.out (by omega) (by have := HFL.out; omega)).mono ?_); rintro r w3 ⟨v3, rfl, ho, hg⟩; obtain ⟨fa, fc, rfl⟩ := own_shape ho; have HF3 := Lib.hid ho; have G3 := Lib.hid hg; rw [← HL.out]; clear ho hg)
          | (go_at_call 14; (with_reducible refine (vflat_any w3 _ ra Rn rc rs (HV2.out.grown G3.out) (by omega) (by have := HFL.out; omega) (fun r hr => Nat.le_trans (HRP.out r hr) (by omega))).mono ?_); rintro r w4 ⟨va, vc, rfl, ho, hg⟩; have HPO := Lib.hid ho.2; have HF4 := Lib.hid ((show POwn 65 w2.heap.size w3 (.slice fa (flatR rs).length fc) (flatR rs) from ⟨HF3.out, HPO.out⟩).grown hg).sq; have HV4 := Lib.hid ho.sq; rw [← HL.out] at HF4 HV4 ⊢; have G4 := Lib.hid (gtrans G3.out hg); clear ho hg)
          | (go_at_call 12; (with_reducible refine (alike10_any _ _ _ _ _ _ _ _ _ HF4.out HV4.out).mono ?_); rintro r w5 ⟨rfl, hg⟩; have G5 := Lib.hid (gtrans G4.out hg); clear hg)
          | (go_at_call 17; (with_reducible refine (pairs10_any w5 _ a2 n2 c2 ps (HP2.out.grown G5.out) (by omega)).mono ?_); rintro r w6 ⟨pa, pc, rfl, ho, hg⟩; rw [← HN2.out] at ho ⊢; have HQ6 := Lib.hid ho.sq; have G6 := Lib.hid (gtrans G5.out hg); clear ho hg)
          | (go_at_call 16; (with_reducible refine (gather_any w6 _ pa n2 pc ps HQ6.out (by omega)).mono ?_); rintro r w7 ⟨v7, e7, rfl, ho, he, hg⟩; have hro := ho.rsq; rw [he] at hro; obtain ⟨ga, gc, rfl⟩ := hro.shape; rw [← HK.out] at hro ⊢; have HA7 := Lib.hid hro; have G7 := Lib.hid (gtrans G6.out hg); clear ho he hg hro)
          | (go_at_call 18; (with_reducible refine (vgather_any w7 _ a2 n2 c2 ps (HP2.out.grown G7.out) (by omega)).mono ?_); rintro r w8 ⟨v8, e8, rfl, ho, he, hg⟩; have hro := ho.rsq; rw [he] at hro; obtain ⟨xa, xc, rfl⟩ := hro.shape; rw [← HK.out] at hro ⊢; have HB8 := Lib.hid hro; have HA8 := Lib.hid (HA7.out.grown hg); have G8 := Lib.hid (gtrans G7.out hg); clear ho he hg hro)
          | (go_at_call 15; (with_reducible refine (same8_any _ _ _ _ _ _ _ _ _ HA8.out HB8.out).mono ?_); rintro r w9 ⟨rfl, hg⟩; have G9 := Lib.hid (gtrans G8.out hg); clear hg)
          | (go_at_call 19; (with_reducible refine (zmany_any _ p S hp1).mono ?_); rw [← HMN.out]; rintro r wq ⟨rfl, rfl⟩)
          | (go_at_call 20; (with_reducible refine (vmany_any _ p S hp1).mono ?_); rw [← HMN.out]; rintro r wq ⟨rfl, rfl⟩)
          | (go_at_call 21; (with_reducible refine (right_last w9 _ oa Rn oc rs (HO2.out.grown G9.out) _ HRT.out).mono ?_); rintro r w10 ⟨rfl, hg⟩; have G10 := Lib.hid (gtrans G9.out hg); clear hg)
          | (go_at_call 13; (with_reducible refine (flat_any w10 _ oa Rn oc rs (HO2.out.grown G10.out) (by omega) (by have := HFL.out; omega)).mono ?_); rintro r w11 ⟨v3, rfl, ho, hg⟩; obtain ⟨ya, yc, rfl⟩ := own_shape ho; have HF11 := Lib.hid (show POwn 65 w10.heap.size w11 (.slice ya (flatR rs).length yc) (flatR rs) from ⟨ho, HPO.out⟩).sq; have G11 := Lib.hid (gtrans G10.out hg); rw [← HL.out] at HF11 ⊢; clear ho hg)
          | (go_at_call 16; (with_reducible refine (gather_any w11 _ ya L yc (flatR rs) HF11.out (by omega)).mono ?_); rintro r w12 ⟨v7, e7, rfl, ho, he, hg⟩; rw [HGF.out HRT.out] at he; have hro := ho.rsq; rw [he] at hro; obtain ⟨za, zc, rfl⟩ := hro.shape; rw [← HRN.out] at hro ⊢; have HA12 := Lib.hid hro; have G12 := Lib.hid (gtrans G11.out hg); have HV12 := Lib.hid (HV2.out.grown G12.out); clear ho he hg hro)
          | (go_at_call 15; (with_reducible refine (same8_any _ _ _ _ _ _ _ _ _ HA12.out HV12.out).mono ?_); rintro r w13 ⟨rfl, hg⟩; have G13 := Lib.hid (gtrans G12.out hg); clear hg))
        go_ret
        first | exact ⟨rfl, gbelow (gtrans HG2.out G13.out)⟩ | exact ⟨rfl, gbelow (gtrans HG2.out G10.out)⟩

open Go.ChangeShapes Go.WideShapes Go.ChangeAt
set_option linter.unusedVariables false
set_option maxRecDepth 100000 in
theorem fgathers_lifted (os : Os) (started : os.Started) (H : Type) (enc : TypeId × Value → H) :
    ReturnsInHanded {} Try.checked os 3 .any (Rows.freedGathersSpec.pre6 enc Try.prog Try.f3 Rows.freedGathersRow.domain false) (Rows.freedGathersSpec.post enc Try.prog Try.f3 false true false false) := by
  refine returnsInHanded_of_change_sized (C := Try.checked) ownKnob0 started (by kernel_rfl) Try.func3
    (ChangeSpec.witness6 (enc := enc) (C := Try.checked) false ⟨#[], #[.slice none 0 0, .slice none 0 0, .int .i64 0, .int .i64 0], []⟩ 8 (by kernel_rfl) (by kernel_rfl) (by kernel_rfl) (by kernel_rfl)) ?_
  intro W base args ds gs before hval0 hW hcnd hsz0 _
  have hval : ∀ (j : Nat) t v, Try.f3.params[j]? = some t → args[j]? = some v → Value.okWide Try.prog W .any base t v := hval0
  have hW' := hW
  obtain ⟨p, q, hA0, hV, rfl, hfz, hnd⟩ := hW
  have hA : DataW.TrodAll enc Try.prog W 0 (fun _ => true) true Try.f3.params.toList args.toList ds p := hA0
  have hsz : (DataW.weightsEach Try.prog (Try.f3.params.toList ++ Rows.freedGathersSpec.plain.varTypes Try.prog) (ds ++ gs)).all (· ≤ reachBytes) = true := hsz0
  rw [Try.params3] at hA hval hsz
  obtain ⟨v0, vs0, d0, ds0, p0, q0, hargs, rfl, rfl, h0, r0⟩ := trodAll_cons hA
  obtain ⟨v1, vs1, d1, ds1, p1, q1, rfl, rfl, rfl, h1, r1⟩ := trodAll_cons r0
  obtain ⟨v2, vs2, d2, ds2, p2, q2, rfl, rfl, rfl, h2, r2⟩ := trodAll_cons r1
  obtain ⟨v3, vs3, d3, ds3, p3, q3, rfl, rfl, rfl, h3, r3⟩ := trodAll_cons r2
  obtain ⟨rfl, rfl, rfl⟩ := trodAll_nil r3
  obtain rfl : args = #[v0, v1, v2, v3] := by cases args; simp_all
  obtain ⟨rfl, rfl⟩ := trodVars_none hV
  obtain ⟨a0, len0, cap0, rfl⟩ := okWide_slice Try.underlying22 (hval 0 22 v0 rfl rfl)
  have lt0 : ∀ x ∈ p0, x.block < W.heap.size := by obtain ⟨m, hm⟩ := h0; exact DataW.trod_lt m _ _ _ hm
  obtain ⟨z0, w0, s0⟩ := open_raws8 h0 hsz (j := 0) rfl rfl
  obtain ⟨a1, len1, cap1, rfl⟩ := okWide_slice Try.underlying23 (hval 1 23 v1 rfl rfl)
  have lt1 : ∀ x ∈ p1, x.block < W.heap.size := by obtain ⟨m, hm⟩ := h1; exact DataW.trod_lt m _ _ _ hm
  obtain ⟨z1, w1, s1⟩ := open_pairs h1 hsz (j := 1) rfl rfl
  obtain ⟨a2, rfl, rfl, rfl, w2⟩ := open_int Try.underlying3 (hval 2 3 v2 rfl rfl) h2
  have b2 := bounds_i64 w2
  obtain ⟨a3, rfl, rfl, rfl, w3⟩ := open_int Try.underlying3 (hval 3 3 v3 rfl rfl) h3
  have b3 := bounds_i64 w3
  clear hA0 hval0
  refine (fgathers_any W a0 len0 cap0 z0 a1 len1 cap1 z1 a2 a3 w0 s0 w1 s1 b2.1 b2.2 b3.1 b3.2).mono fun e W' ⟨he, bel⟩ => ?_
  subst he
  exact ⟨_, rfl, _, _, _, [], _, [], hW', trodAll_mk1 (shut_bool Try.underlying4 _), (trodAll_cons_mk (Below.trod laidOut0 (by kernel_rfl) (of_decide_eq_true (by kernel_rfl)) h0 bel lt0) (trodAll_cons_mk (Below.trod laidOut0 (by kernel_rfl) (of_decide_eq_true (by kernel_rfl)) h1 bel lt1) (trodAll_cons_mk (shut_int Try.underlying3 w2) (trodAll_cons_mk (shut_int Try.underlying3 w3) trodAll_mk0)))), rfl, bel.frame _, fun h => by cases h⟩

/-- FreedGathers, for every input. -/
theorem freedGathers_holds : Rows.FreedGathersSaid :=
  OpenClaim.holds_of_wide 3 Try.f3 rfl rfl rfl rfl rfl rfl rfl ⟨rfl, rfl, rfl, rfl, rfl⟩ rfl rfl rfl rfl rfl (by kernel_rfl) Try.func3 (by kernel_rfl)
    (of_decide_eq_true (by kernel_rfl)) (by unfold Func.isWrapper; first | (rw [if_pos (by decide +kernel)]; kernel_rfl) | (rw [if_neg (by decide +kernel)]; exact ⟨rfl, rfl⟩))
    (fun os started H enc _ => fgathers_lifted os started H enc)
#print axioms freedGathers_holds

end Go.Proofs.Ytpgpilalhbdidaa
